import Derived.Test.YthdcceackfdbbaaGreatDoorS47A
set_option linter.unusedSimpArgs false
set_option maxRecDepth 100000
set_option maxHeartbeats 4000000
open Go.RowKit Go.Proofs.Tryz
namespace Go.Proofs.YthdcceackfdbbaaGreatDoor
theorem ov.from_{b:Nat}{w V w':World}{p ns nl nw M:Nat}{e:Ending}(h:ov b V p ns nl nw M e w')(hV:Below w.heap.size w V)(hb:b<=w.heap.size):ov b w p ns nl nw M e w':=by obtain⟨he,a,c,d,h1,h2,h3,h4,h5⟩:=h;exact⟨he,a,c,d,h1,h2,h3,h4,(hV.mono hb).trans h5⟩
theorem Zc(w:World)(b p ns nl nw M:Nat)(h:eh b w p ns nl nw M)(ui:ns<=2000000)(AE:nl<=2000000)(El:nw<=2000000)(hM:M<=10000000000000)(K A B:Int)(hK:K=1\/K=2\/K=3\/K=4\/K=5\/K=6\/K=7)(s:ByteArray)(R C off rs cs:Int)(ao:Option Addr)(n cap:Nat)(xs:List Nat)(ho:Ae w A B s ao n cap xs)(gB:Lib.TabIs prog w "internal/strconv.uint64pow10" .u64 Lib.pow10Tab):Calls prog 15 #[.pointer (some ⟨p,0,none⟩),DP K A B s (.slice ao n cap) R C off rs cs] w λe w'=>ov b w p ns nl nw M e w':=by
 have mZ:b<=w.heap.size:=by obtain⟨_,_,_,_,_,_,h2,_⟩:=h;exact h2
 obtain⟨V,hV⟩:∃V,w.alloc (.cells (vS K A B s (.slice ao n cap) R C off rs cs).toArray 54)=V:=⟨_,rfl⟩;obtain⟨c0,qo⟩:∃c0,w.heap.size=c0:=⟨_,rfl⟩;have bV:Below w.heap.size w V:=by rw[<-hV];exact Below.cj _ _
 have aV:aD V c0 54 (vS K A B s (.slice ao n cap) R C off rs cs):=by rw[<-hV,<-qo];exact aD.dT w _ _
 have iz:=hid (h.below bV);have BX:Hid (Ae V A B s ao n cap xs):=⟨ho.a1,ho.a2,ho.b1,ho.b2,ho.hs,ho.hn,ho.jb,ho.Es,ho.gi.below bV⟩;have HTB:=hid (dN gB bV);have j5:=hid bV
 have k0:=aV.cell (i:=0) rfl;have k1:=aV.cell (i:=1) rfl;have k2:=aV.cell (i:=2) rfl;have k3:=aV.cell (i:=3) rfl;have k4:=aV.cell (i:=4) rfl;have k5:=aV.cell (i:=5) rfl
 have k6:=aV.cell (i:=6) rfl;have k7:=aV.cell (i:=7) rfl;have k8:=aV.cell (i:=8) rfl;have k9:=aV.cell (i:=9) rfl;unfold DP;unfold vS at hV;clear h ho gB bV aV;rcases hK with rfl|rfl|rfl|rfl|rfl|rfl|rfl
 {
 have kk:Hid (Calls prog 34 #[.pointer (some ⟨p,0,none⟩),.agg #[.int .i64 1,.int .i64 A,.int .i64 B,.string s,.slice ao n cap,.int .i64 R,.int .i64 C,.int .i64 off,.int .i64 rs,.int .i64 cs]] V λe w'=>ov b V p ns nl nw M e w'):=Ca V b p ns nl nw M iz.out ui El 1 A B (by decide) s R C off rs cs ao n cap xs BX.out HTB.out
 go_enter func15,ntmps15;go_wp2_with fail;refine kk.out.mono ?_;rintro e W1 hq;have HQ:=hid (hq.from_ j5.out mZ);obtain rfl:=hq.1;clear hq kk;go_wp2;go_ret;exact HQ.out}
 {
 have kk:Hid (Calls prog 34 #[.pointer (some ⟨p,0,none⟩),.agg #[.int .i64 2,.int .i64 A,.int .i64 B,.string s,.slice ao n cap,.int .i64 R,.int .i64 C,.int .i64 off,.int .i64 rs,.int .i64 cs]] V λe w'=>ov b V p ns nl nw M e w'):=Ca V b p ns nl nw M iz.out ui El 2 A B (by decide) s R C off rs cs ao n cap xs BX.out HTB.out
 go_enter func15,ntmps15;go_wp2_with fail;refine kk.out.mono ?_;rintro e W1 hq;have HQ:=hid (hq.from_ j5.out mZ);obtain rfl:=hq.1;clear hq kk;go_wp2;go_ret;exact HQ.out}
 {
 have kk:Hid (Calls prog 35 #[.pointer (some ⟨p,0,none⟩),.agg #[.int .i64 3,.int .i64 A,.int .i64 B,.string s,.slice ao n cap,.int .i64 R,.int .i64 C,.int .i64 off,.int .i64 rs,.int .i64 cs]] V λe w'=>ov b V p ns nl nw M e w'):=rL V b p ns nl nw M iz.out AE El hM 3 A B (by decide) s R C off rs cs ao n cap xs BX.out
 go_enter func15,ntmps15;go_wp2_with fail;refine kk.out.mono ?_;rintro e W1 hq;have HQ:=hid (hq.from_ j5.out mZ);obtain rfl:=hq.1;clear hq kk;go_wp2;go_ret;exact HQ.out}
 {
 have kk:Hid (Calls prog 35 #[.pointer (some ⟨p,0,none⟩),.agg #[.int .i64 4,.int .i64 A,.int .i64 B,.string s,.slice ao n cap,.int .i64 R,.int .i64 C,.int .i64 off,.int .i64 rs,.int .i64 cs]] V λe w'=>ov b V p ns nl nw M e w'):=rL V b p ns nl nw M iz.out AE El hM 4 A B (by decide) s R C off rs cs ao n cap xs BX.out
 go_enter func15,ntmps15;go_wp2_with fail;refine kk.out.mono ?_;rintro e W1 hq;have HQ:=hid (hq.from_ j5.out mZ);obtain rfl:=hq.1;clear hq kk;go_wp2;go_ret;exact HQ.out}
 {
 have kk:Hid (Calls prog 35 #[.pointer (some ⟨p,0,none⟩),.agg #[.int .i64 5,.int .i64 A,.int .i64 B,.string s,.slice ao n cap,.int .i64 R,.int .i64 C,.int .i64 off,.int .i64 rs,.int .i64 cs]] V λe w'=>ov b V p ns nl nw M e w'):=rL V b p ns nl nw M iz.out AE El hM 5 A B (by decide) s R C off rs cs ao n cap xs BX.out
 go_enter func15,ntmps15;go_wp2_with fail;refine kk.out.mono ?_;rintro e W1 hq;have HQ:=hid (hq.from_ j5.out mZ);obtain rfl:=hq.1;clear hq kk;go_wp2;go_ret;exact HQ.out}
 {
 have kk:Hid (Calls prog 35 #[.pointer (some ⟨p,0,none⟩),.agg #[.int .i64 6,.int .i64 A,.int .i64 B,.string s,.slice ao n cap,.int .i64 R,.int .i64 C,.int .i64 off,.int .i64 rs,.int .i64 cs]] V λe w'=>ov b V p ns nl nw M e w'):=rL V b p ns nl nw M iz.out AE El hM 6 A B (by decide) s R C off rs cs ao n cap xs BX.out
 go_enter func15,ntmps15;go_wp2_with fail;refine kk.out.mono ?_;rintro e W1 hq;have HQ:=hid (hq.from_ j5.out mZ);obtain rfl:=hq.1;clear hq kk;go_wp2;go_ret;exact HQ.out}
 {
 have kk:Hid (Calls prog 35 #[.pointer (some ⟨p,0,none⟩),.agg #[.int .i64 7,.int .i64 A,.int .i64 B,.string s,.slice ao n cap,.int .i64 R,.int .i64 C,.int .i64 off,.int .i64 rs,.int .i64 cs]] V λe w'=>ov b V p ns nl nw M e w'):=rL V b p ns nl nw M iz.out AE El hM 7 A B (by decide) s R C off rs cs ao n cap xs BX.out
 go_enter func15,ntmps15;go_wp2_with fail;refine kk.out.mono ?_;rintro e W1 hq;have HQ:=hid (hq.from_ j5.out mZ);obtain rfl:=hq.1;clear hq kk;go_wp2;go_ret;exact HQ.out}
theorem eh.stay{b:Nat}{w V w':World}{p ns nl nw M:Nat}{e:Ending}(h:eh b V p ns nl nw M)(he:e=.returned (.bool true))(k:Below V.heap.size V w')(hV:Below w.heap.size w V)(hb:b<=w.heap.size):ov b w p ns nl nw M e w':=⟨he,ns,nl,nw,by omega,by omega,by omega,(h.below k).mono (by omega),(hV.mono hb).trans (k.mono (ak hb hV.size))⟩
theorem Zb(w:World)(b p ns nl nw M:Nat)(h:eh b w p ns nl nw M)(K A B:Int)(hK:¬(K=1\/K=2\/K=3\/K=4\/K=5\/K=6\/K=7))(s:ByteArray)(R C off rs cs:Int)(ao:Option Addr)(n cap:Nat)(xs:List Nat)(ho:Ae w A B s ao n cap xs)(gB:Lib.TabIs prog w "internal/strconv.uint64pow10" .u64 Lib.pow10Tab):Calls prog 15 #[.pointer (some ⟨p,0,none⟩),DP K A B s (.slice ao n cap) R C off rs cs] w λe w'=>ov b w p ns nl nw M e w':=by
 have mZ:b<=w.heap.size:=by obtain⟨_,_,_,_,_,_,h2,_⟩:=h;exact h2
 obtain⟨V,hV⟩:∃V,w.alloc (.cells (vS K A B s (.slice ao n cap) R C off rs cs).toArray 54)=V:=⟨_,rfl⟩;obtain⟨c0,qo⟩:∃c0,w.heap.size=c0:=⟨_,rfl⟩;have bV:Below w.heap.size w V:=by rw[<-hV];exact Below.cj _ _
 have aV:aD V c0 54 (vS K A B s (.slice ao n cap) R C off rs cs):=by rw[<-hV,<-qo];exact aD.dT w _ _
 have iz:=hid (h.below bV);have dU:=ho.hs;have hn:=ho.hn;have jb:=ho.jb;have BX:Hid (Ae V A B s ao n cap xs):=⟨ho.a1,ho.a2,ho.b1,ho.b2,ho.hs,ho.hn,ho.jb,ho.Es,ho.gi.below bV⟩
 have HTB:=hid (dN gB bV);have j5:=hid bV;have k0:=aV.cell (i:=0) rfl;have k1:=aV.cell (i:=1) rfl;have k2:=aV.cell (i:=2) rfl;have k3:=aV.cell (i:=3) rfl;have k4:=aV.cell (i:=4) rfl
 have k5:=aV.cell (i:=5) rfl;have k6:=aV.cell (i:=6) rfl;have k7:=aV.cell (i:=7) rfl;have k8:=aV.cell (i:=8) rfl;have k9:=aV.cell (i:=9) rfl;unfold DP;unfold vS at hV
 clear h ho gB bV aV;have t1:(K==1)=false:=by rw[av];omega
 have t2:(K==2)=false:=by rw[av];omega
 have t3:(K==3)=false:=by rw[av];omega
 have t4:(K==4)=false:=by rw[av];omega
 have t5:(K==5)=false:=by rw[av];omega
 have t6:(K==6)=false:=by rw[av];omega
 have t7:(K==7)=false:=by rw[av];omega
 by_cases h9:K=9;{
 have t9:(K==9)=true:=by rw[kO];exact h9
 have tW:=hid (N8 V s (by unfold maxLen;omega));clear hK h9;go_enter func15,ntmps15;go_wp2_with fail;refine tW.out.mono ?_;rintro e W1⟨rfl,b1⟩;have HQ:=hid (iz.out.stay (e:=.returned (.bool true)) rfl b1 j5.out mZ)
 clear b1 tW;go_wp2;go_ret;exact HQ.out};{
 have t9:(K==9)=false:=by rw[av];exact h9
 by_cases h8:K=8;{
 have t8:(K==8)=true:=by rw[kO];exact h8
 have HBU:=hid BX.out.gi;have oW:Hid (aD V c0 54 (vS K A B s (.slice ao n cap) R C off rs cs)):=by unfold vS;rw[<-hV,<-qo];exact aD.dT w _ _
 clear hK h9 h8 k0 k1 k2 k3 k4 k5 k6 k7 k8 k9;have k0:=oW.out.cell (i:=0) rfl;go_enter func15,ntmps15;go_wp2_with fail;go_loopw[5](λvi wr=>∃i:Nat,vi=.int .i64 (i:Int)/\i<=n/\Hid (Below V.heap.size V wr))(λvi _=>n-(intOf vi).toNat)
 case atStart=>exact⟨0,rfl,by omega,Below.refl _ _⟩
 case round=>obtain⟨i,rfl,hi,HB⟩:=hrel;have k4:=(oW.out.az HB.out).cell (i:=4) rfl;by_cases di:i<n;{(have fJ:(i:Int)<n:=by omega);obtain⟨x,hx⟩:∃x,xs[i]?=some x:=⟨xs[i]'(by omega),by simp[hn,di]⟩;obtain⟨adA,ad,rfl,aes,hcell⟩:=(HBU.out.below HB.out) i x hx;have DW:=hid (KM wr (x:Int) (by omega) (by omega) (dN HTB.out HB.out));clear hx;go_wp2_with fail;refine DW.out.mono ?_;rintro e W1⟨rfl,b1⟩;have fQ:=hid (HB.out.trans (b1.mono HB.out.size));clear b1 DW hcell k4;go_wp2;go_round;(case rel=>exact⟨i+1,by simp,by omega,fQ.out⟩);case measure=>simp[intOf];omega};{(have fJ:¬(i:Int)<n:=by omega);have HQ:=hid (iz.out.stay (e:=.returned (.bool true)) rfl HB.out j5.out mZ);go_wp2;go_ret;exact HQ.out}}
 {(have t8:(K==8)=false:=by rw[av];exact h8);have HQ:=hid (iz.out.stay (e:=.returned (.bool true)) rfl (Below.refl _ V) j5.out mZ);clear hK h9 h8;go_enter func15,ntmps15;go_wp2;go_ret;exact HQ.out}}
structure Vc where
 K:Int
 A:Int
 B:Int
 s:ByteArray
 ao:Option Addr
 n:Nat
 cap:Nat
 xs:List Nat
 R:Int
 C:Int
 off:Int
 rs:Int
 cs:Int
def Vc.Y2(o:Vc):List Value:=vS o.K o.A o.B o.s (.slice o.ao o.n o.cap) o.R o.C o.off o.rs o.cs
def JS(w:World)(ao:Option Addr)(os:List Vc):Prop:=∀(k:Nat)(o:Vc),os[k]?=some o->Ae w o.A o.B o.s o.ao o.n o.cap o.xs/\∃ad:Addr,ao=some ad/\ad.block<w.heap.size/\∀(j:Nat)(v:Value),o.Y2[j]?=some v->w.cell? ((ad.add (k*10)).add j)=some v
theorem Ae.below{w w':World}{A B:Int}{s:ByteArray}{ao:Option Addr}{n cap:Nat}{xs:List Nat}(h:Ae w A B s ao n cap xs)(b:Below w.heap.size w w'):Ae w' A B s ao n cap xs:=⟨h.a1,h.a2,h.b1,h.b2,h.hs,h.hn,h.jb,h.Es,h.gi.below b⟩
theorem JS.below{w w':World}{ao:Option Addr}{os:List Vc}(h:JS w ao os)(b:Below w.heap.size w w'):JS w' ao os:=λk o hk=>by obtain⟨h1,ad,h2,h3,h4⟩:=h k o hk;exact⟨h1.below b,ad,h2,ax h3 b.size,λj v hv=>(b.cell (p:=(ad.add (k*10)).add j) (by rw[Go.ChangeShapes.block_add,Go.ChangeShapes.block_add];exact h3)).trans (h4 j v hv)⟩
theorem Om(w:World)(b p ns nl nw M:Nat)(h:eh b w p ns nl nw M)(ui:ns<=2000000)(AE:nl<=2000000)(El:nw<=2000000)(hM:M<=10000000000000)(K A B:Int)(s:ByteArray)(R C off rs cs:Int)(ao:Option Addr)(n cap:Nat)(xs:List Nat)(ho:Ae w A B s ao n cap xs)(gB:Lib.TabIs prog w "internal/strconv.uint64pow10" .u64 Lib.pow10Tab):Calls prog 15 #[.pointer (some ⟨p,0,none⟩),DP K A B s (.slice ao n cap) R C off rs cs] w λe w'=>ov b w p ns nl nw M e w':=by by_cases hK:K=1\/K=2\/K=3\/K=4\/K=5\/K=6\/K=7;{exact Zc w b p ns nl nw M h ui AE El hM K A B hK s R C off rs cs ao n cap xs ho gB};{exact Zb w b p ns nl nw M h K A B hK s R C off rs cs ao n cap xs ho gB}
theorem Xh(w:World)(po:Option Addr)(np Zn:Nat)(os:List Vc)(Yh:os.length=np)(hnp:np<=1048576)(h:JS w po os)(gB:Lib.TabIs prog w "internal/strconv.uint64pow10" .u64 Lib.pow10Tab):Calls prog 5 #[.slice po np Zn] w λe w'=>e=.returned (.bool true)/\Below w.heap.size w w':=by
 obtain⟨b,hb⟩:∃b,w.heap.size=b:=⟨_,rfl⟩;rw[hb];have H:=hid h;have HT:=hid gB;clear h gB;go_enter func5,ntmps5;go_wp2_with fail;go_loopw[4](λvi wr=>∃i ns nl nw M:Nat,vi=.int .i64 (i:Int)/\i<=np/\ns<=i/\nl<=i/\nw<=i/\M<=i*2000000/\Hid (eh b wr b ns nl nw M)/\Hid (Below b w wr))(λvi _=>np-(intOf vi).toNat)
 case atStart=>exact⟨0,0,0,0,0,rfl,by omega,by omega,by omega,by omega,by omega,eh.first (aj _) (by rw[<-hb];exact aD.dT w _ _),by rw[<-hb];exact Below.cj _ _⟩
 case round=>obtain⟨i,ns,nl,nw,M,rfl,hi,h1,h2,h3,hM,HS,HB⟩:=hrel;by_cases di:i<np;{(have fJ:(i:Int)<np:=by omega);obtain⟨o,hoo⟩:∃o,os[i]?=some o:=⟨os[i]'(by omega),by simp[Yh,di]⟩;obtain⟨nj,ad,rfl,aes,hcell⟩:=(H.out.below (by rw[hb];exact HB.out)) i o hoo;obtain⟨K,A,B,s,ao,n,cap,xs,R,C,off,rs,cs⟩:=o;have nQ:=hid (Om wr b b ns nl nw M HS.out (by omega) (by omega) (by omega) (by omega) K A B s R C off rs cs ao n cap xs nj (dN HT.out (by rw[hb];exact HB.out)));unfold DP at nQ;have c0:wr.cell? (ad.add (i*10))=some (.int .i64 K):=hcell 0 _ rfl;have c1:wr.cell? ⟨(ad.add (i*10)).block,(ad.add (i*10)).off+1,none⟩=some (.int .i64 A):=hcell 1 _ rfl;have c2:wr.cell? ⟨(ad.add (i*10)).block,(ad.add (i*10)).off+2,none⟩=some (.int .i64 B):=hcell 2 _ rfl;have c3:wr.cell? ⟨(ad.add (i*10)).block,(ad.add (i*10)).off+3,none⟩=some (.string s):=hcell 3 _ rfl;have c4:wr.cell? ⟨(ad.add (i*10)).block,(ad.add (i*10)).off+4,none⟩=some (.slice ao n cap):=hcell 4 _ rfl;have c5:wr.cell? ⟨(ad.add (i*10)).block,(ad.add (i*10)).off+5,none⟩=some (.int .i64 R):=hcell 5 _ rfl;have c6:wr.cell? ⟨(ad.add (i*10)).block,(ad.add (i*10)).off+6,none⟩=some (.int .i64 C):=hcell 6 _ rfl;have c7:wr.cell? ⟨(ad.add (i*10)).block,(ad.add (i*10)).off+7,none⟩=some (.int .i64 off):=hcell 7 _ rfl;have c8:wr.cell? ⟨(ad.add (i*10)).block,(ad.add (i*10)).off+8,none⟩=some (.int .i64 rs):=hcell 8 _ rfl;have c9:wr.cell? ⟨(ad.add (i*10)).block,(ad.add (i*10)).off+9,none⟩=some (.int .i64 cs):=hcell 9 _ rfl;clear hcell hoo nj;go_wp2_with fail;refine nQ.out.mono ?_;rintro e W1⟨rfl,MH,BF,MF,g1,g2,g3,g4,g5⟩;have xU:=hid g4;have fQ:=hid (HB.out.trans g5);clear g4 g5 nQ c0 c1 c2 c3 c4 c5 c6 c7 c8 c9;go_wp2;go_round;(case rel=>exact⟨i+1,MH,BF,MF,M+2000000,by simp,by omega,by omega,by omega,by omega,by omega,xU.out,fQ.out⟩);case measure=>simp[intOf];omega};{(have fJ:¬(i:Int)<np:=by omega);go_wp2;go_ret;exact⟨rfl,HB.out⟩}
section
open Go.ChangeShapes Go.WideShapes Go.ChangeAt
theorem TW{H:Type}(d:DataW H):1<=Rows.uptoBulk d:=by
 cases d with|lit l=>cases l<;>simp[Rows.uptoBulk]|nil=>simp[Rows.uptoBulk]|ptr d=>simp[Rows.uptoBulk]|slice elems spare=>simp[Rows.uptoBulk]|agg parts=>simp[Rows.uptoBulk]|iface t d=>simp[Rows.uptoBulk]|map entries=>simp[Rows.uptoBulk]|held h=>simp[Rows.uptoBulk]
theorem JD{H:Type}(l:List (DataW H)):l.length<=Rows.uptoBulkAll l:=by induction l with|nil=>simp[Rows.uptoBulkAll]|cons x r ih=>have:=TW x;simp only[Rows.uptoBulkAll,aU];omega
theorem Du{H:Type}(el spr:List (DataW H)):Rows.uptoBulkAll el+1<=Rows.uptoBulk (.slice el spr):=by simp only[Rows.uptoBulk];omega
theorem L6{H:Type}{l:List (DataW H)}(hk:Rows.uptoSmall H l=true):Rows.uptoBulkAll l<=1048576:=qa hk
theorem PB:prog.cellsOf 9=1:=by kernel_rfl
theorem L4:prog.cellsOf 24=5:=by kernel_rfl
theorem mo:prog.cellsOf 3=1:=by kernel_rfl
section
variable {H:Type}{enc:TypeId×Value->H}{w:World}{base b0:Nat}{sp:Nat->Bool}{held:Bool}{r:Reach}
end
end
section
open Go.ChangeShapes Go.WideShapes Go.ChangeAt Go.Deep
theorem Nk:prog.cellsOf 54=10:=by kernel_rfl
theorem TR:prog.cellsOf 22=1:=by kernel_rfl
theorem Zx{α:Type}{l:List α}(h:l.length=10):∃c0 c1 c2 c3 c4 c5 c6 c7 c8 c9,l=[c0,c1,c2,c3,c4,c5,c6,c7,c8,c9]:=by match l,h with|[c0,c1,c2,c3,c4,c5,c6,c7,c8,c9],_=>exact⟨c0,c1,c2,c3,c4,c5,c6,c7,c8,c9,rfl⟩
section
variable {H:Type}{enc:TypeId×Value->H}{w:World}{base:Nat}{sp:Nat->Bool}{held:Bool}
theorem Sc{n:Int}(h:(Lit.int .i64 n).wf=true):-9223372036854775808<=n/\n<=9223372036854775807:=by simpa[Lit.wf,IntKind.min,IntKind.max,IntKind.signed,IntKind.bits]using h
theorem RA{fuel:Nat}{c:Value}{x:DataW H×List MemPlace}(hf:DataW.trod enc prog w base sp held fuel 22 [c]=some x):∃(ao:Option Addr)(n cap:Nat)(xs:List Nat),c=.slice ao n cap/\xs.length=n/\kr w ao xs/\(ao=none->cap=0)/\n+1<=Rows.uptoBulk x.1:=by
 rcases open_ints underlying22 underlying65 Jz hf with⟨hcs,hx⟩|⟨a,len,ez,zs,hcs,_,hl,hm,hz,hx,hcell,hwz⟩;{(obtain rfl:c=.slice none 0 0:=by simpa using hcs);subst hx;exact⟨none,0,0,[],rfl,rfl,λk x hk=>by simp at hk,λ_=>rfl,by simp[Rows.uptoBulk]⟩}
 {
 obtain rfl:c=.slice (some a) len ez:=by simpa using hcs
 have XX:len<=zs.length:=by rw[hz];split<;>omega
 refine⟨some a,len,ez,(zs.take len).map Int.toNat,rfl,by simp;omega,λk x hk=>?_,(λh=>by cases h),?_⟩;{
 rw[bN,dC]at hk;by_cases GO:k<len;{
 rw[au GO]at hk;have Yo:k<zs.length:=by omega
 rw[cB Yo]at hk;obtain rfl:(zs[k]'Yo).toNat=x:=by simpa using hk
 have hw:=hwz _ (NJ Yo);have hw':0<=zs[k]'Yo/\zs[k]'Yo<=18446744073709551615:=by simpa[Lit.wf,IntKind.min,IntKind.max,IntKind.signed,IntKind.bits]using hw
 have hc:=hcell k Yo;rw[show zs.getD k 0=zs[k]'Yo by simp[Yo]]at hc;refine⟨by omega,a,rfl,?_,?_⟩;{have:=K0 hc;rw[block_add]at this;exact this};{rw[hc,nV hw'.1]}}
 {rw[ai GO]at hk;cases hk}};{
 subst hx;have h1:=Du (H:=H) (lits .u64 (zs.take len)) (lits .u64 (zs.drop len));have h2:=JD (H:=H) (lits .u64 (zs.take len));rw[Iu,bE,gx XX]at h2;show len+1<=Rows.uptoBulk (DataW.slice (lits (H:=H) .u64 (zs.take len)) (lits .u64 (zs.drop len)))
 omega}}
theorem VQ{fuel:Nat}{cs:List Value}{x:DataW H×List MemPlace}(hf:DataW.trod enc prog w base sp held fuel 54 cs=some x)(hb:Rows.uptoBulk x.1<=1048576):∃o:Vc,cs=o.Y2/\Ae w o.A o.B o.s o.ao o.n o.cap o.xs:=by
 obtain⟨ys,n,_,rfl,hlen,XY,SX⟩:=DataW.trod_struct underlying54 hf;obtain⟨c0,c1,c2,c3,c4,c5,c6,c7,c8,c9,rfl⟩:=Zx (hlen.trans Nk);have hy6:ys.length=6:=XY;obtain⟨y0,y1,y2,y3,y4,y5,rfl⟩:∃y0 y1 y2 y3 y4 y5,ys=[y0,y1,y2,y3,y4,y5]:=by match ys,hy6 with|[y0,y1,y2,y3,y4,y5],_=>exact⟨y0,y1,y2,y3,y4,y5,rfl⟩
 have k0:=SX 0 _ rfl;have k1:=SX 1 _ rfl;have k2:=SX 2 _ rfl;have k3:=SX 3 _ rfl;have k4:=SX 4 _ rfl;have k5:=SX 5 _ rfl;obtain⟨K,e0,_,_⟩:=DataW.trod_int underlying3 (by simpa[mo]using k0:DataW.trod enc prog w base sp held n 3 [c0]=some y0)
 obtain⟨A,e1,_,w1⟩:=DataW.trod_int underlying3 (by simpa[mo]using k1:DataW.trod enc prog w base sp held n 3 [c1]=some y1);obtain⟨B,e2,_,w2⟩:=DataW.trod_int underlying3 (by simpa[mo]using k2:DataW.trod enc prog w base sp held n 3 [c2]=some y2)
 obtain⟨s,e3,g3,_⟩:=DataW.trod_string underlying9 (by simpa[PB]using k3:DataW.trod enc prog w base sp held n 9 [c3]=some y3);obtain⟨ao,m,cap,xs,rfl,hm,gi,Es,oy⟩:=RA (by simpa[TR]using k4:DataW.trod enc prog w base sp held n 22 [c4]=some y4)
 obtain⟨zs,n2,_,_,_,XX,SW⟩:=DataW.trod_struct underlying24 (by simpa[L4]using k5:DataW.trod enc prog w base sp held n 24 [c5,c6,c7,c8,c9]=some y5);have hz5:zs.length=5:=XX
 obtain⟨z0,z1,z2,z3,z4,rfl⟩:∃z0 z1 z2 z3 z4,zs=[z0,z1,z2,z3,z4]:=by match zs,hz5 with|[z0,z1,z2,z3,z4],_=>exact⟨z0,z1,z2,z3,z4,rfl⟩
 have q0:=SW 0 _ rfl;have q1:=SW 1 _ rfl;have q2:=SW 2 _ rfl;have q3:=SW 3 _ rfl;have q4:=SW 4 _ rfl;obtain⟨R,e5,_,_⟩:=DataW.trod_int underlying3 (by simpa[mo]using q0:DataW.trod enc prog w base sp held n2 3 [c5]=some z0)
 obtain⟨C,e6,_,_⟩:=DataW.trod_int underlying3 (by simpa[mo]using q1:DataW.trod enc prog w base sp held n2 3 [c6]=some z1);obtain⟨off,e7,_,_⟩:=DataW.trod_int underlying3 (by simpa[mo]using q2:DataW.trod enc prog w base sp held n2 3 [c7]=some z2)
 obtain⟨rs,e8,_,_⟩:=DataW.trod_int underlying3 (by simpa[mo]using q3:DataW.trod enc prog w base sp held n2 3 [c8]=some z3);obtain⟨cs,e9,_,_⟩:=DataW.trod_int underlying3 (by simpa[mo]using q4:DataW.trod enc prog w base sp held n2 3 [c9]=some z4)
 injection e0 with e0;injection e1 with e1;injection e2 with e2;injection e3 with e3;injection e5 with e5;injection e6 with e6;injection e7 with e7;injection e8 with e8
 injection e9 with e9;subst e0 e1 e2 e3 e5 e6 e7 e8 e9;have hA:=Sc w1;have hB:=Sc w2;subst g3;simp only[sK,uG,Rows.uptoBulk,Rows.uptoBulkAll]at hb;have hs:=aK (s:=s) rfl
 exact⟨⟨K,A,B,s,ao,m,cap,xs,R,C,off,rs,cs⟩,rfl,hA.1,hA.2,hB.1,hB.2,by show s.size<=_;omega,hm,by show m<=_;omega,Es,gi⟩
theorem PF{d:DataW H}{l:List (DataW H)}(h:d∈l):Rows.uptoBulk d<=Rows.uptoBulkAll l:=by induction l with|nil=>cases h|cons x r ih=>simp only[Rows.uptoBulkAll];cases mb.1 h with|inl e=>subst e;omega|inr e=>have:=ih e;omega
theorem Rz{r:Reach}{b0:Nat}{v:Value}{d:DataW H}{p:List MemPlace}(hv:Value.okWide prog w r b0 46 v)(h:DataW.Trod enc prog w base sp held 46 v d p)(hb:Rows.uptoBulk d<=1048576):∃(ao:Option Addr)(n cap:Nat)(os:List Vc),v=.slice ao n cap/\os.length=n/\n<=1048576/\JS w ao os:=by
 obtain⟨ao,n,cap,rfl⟩:=okWide_slice underlying46 hv;obtain⟨fuel,hf⟩:=h;rcases DataW.trod_slice underlying46 hf with⟨hcs,hx⟩|⟨a,len,ez,elems,rest,m,_,hcs,hx,_,hl,_,hlen,U4,_,_⟩
 {(have aaw:Value.slice ao n cap=.slice none 0 0:=by simpa[Value.cells]using hcs);cases aaw;exact⟨none,0,0,[],rfl,rfl,by omega,λk o hk=>by simp at hk⟩};{
 have aaw:Value.slice ao n cap=.slice (some a) len ez:=by simpa[Value.cells]using hcs
 cases aaw;have hd:d=.slice (elems.map (·.1)) (rest.map (·.1)):=by simpa using congrArg Prod.fst hx
 subst hd;have tH:=Du (H:=H) (elems.map (·.1)) (rest.map (·.1));have oy:=JD (H:=H) (elems.map (·.1));rw[bL]at oy;have each:∀i,i<n->∃o:Vc,Ae w o.A o.B o.s o.ao o.n o.cap o.xs/\a.block<w.heap.size/\∀(j:Nat)(v:Value),o.Y2[j]?=some v->w.cell? ((a.add (i*10)).add j)=some v:=λi hi=>by obtain⟨y,hy⟩:∃y,elems[i]?=some y:=⟨elems[i]'(by omega),by simp[hlen,hi]⟩;have h1:=U4 i hi;rw[hy,Nk]at h1;obtain⟨cs,hc,ht⟩:=Option.bind_eq_some_iff.1 h1;obtain⟨_,sL,hcell⟩:=World.cells?_some hc;have hyb:=PF (H:=H) (lf (f:=(·.1)) (bU hy));obtain⟨o,ho,nj⟩:=VQ ht (by omega);have di:=World.cells?_block hc (by omega);rw[block_add]at di;refine⟨o,nj,di,λj v hv=>?_⟩;(have hj:j<10:=by have:=(ar.1 hv).1;rw[<-ho,sL]at this;exact this);rw[hcell j hj,ho];exact hv
 haveI:Inhabited Vc:=⟨⟨0,0,0,⟨#[]⟩,none,0,0,[],0,0,0,0,0⟩⟩;obtain⟨f,OX⟩:=choose_lt each;refine⟨some a,n,cap,(List.range n).map f,rfl,by simp,by omega,λk o hk=>?_⟩
 rw[bN]at hk;by_cases GO:k<n;{rw[List.getElem?_range GO]at hk;(obtain rfl:f k=o:=by simpa using hk);obtain⟨h1,h2,h3⟩:=OX k GO;exact⟨h1,a,rfl,h2,h3⟩};{rw[rk (by simp;omega)]at hk;cases hk}}
end
end
end Go.Proofs.YthdcceackfdbbaaGreatDoor
