import Derived.Test.YthdcceackfdbbaaGreatDoorS46A
set_option linter.unusedSimpArgs false
set_option maxRecDepth 20000
set_option maxHeartbeats 4000000
open Go.RowKit Go.Proofs.Tryz
namespace Go.Proofs.YthdcceackfdbbaaGreatDoor
theorem Qs(w:World)(b p ns nl nw M:Nat)(h:eh b w p ns nl nw M)(AE:nl<=2000000)(hM:M<=10000000000000)(A B:Int)(DV:-9223372036854775808<=A)(Kf:A<=9223372036854775807)(s:ByteArray)(R C off rs cs:Int)(ao:Option Addr)(n cap:Nat)(hs:s.size<=2000000):Calls prog 35 #[.pointer (some ⟨p,0,none⟩),DP 4 A B s (.slice ao n cap) R C off rs cs] w λe w'=>e=.returned (.bool true)/\∃BF,BF<=nl+1/\eh b w' p ns BF nw (M+2000000)/\Below b w w':=by
 have mZ:b<=w.heap.size:=by obtain⟨_,_,_,_,_,_,h2,_⟩:=h;exact h2
 obtain⟨V,hV⟩:∃V,w.alloc (.cells (vS 4 A B s (.slice ao n cap) R C off rs cs).toArray 54)=V:=⟨_,rfl⟩;obtain⟨c0,qo⟩:∃c0,w.heap.size=c0:=⟨_,rfl⟩;have bV:Below w.heap.size w V:=by rw[<-hV];exact Below.cj _ _
 have aV:aD V c0 54 (vS 4 A B s (.slice ao n cap) R C off rs cs):=by rw[<-hV,<-qo];exact aD.dT w _ _
 have zV:V.heap.size=c0+1:=by rw[<-hV];simp[qo]
 have Et:=h.below bV;have k0:=aV.cell (i:=0) rfl;have iz:=hid Et;have j5:=hid bV;have qI:=hid aV;have Un:=hid zV;unfold DP;unfold vS at hV;clear Et bV h aV zV;have k1:=qI.out.cell (i:=1) rfl
 have k3:=qI.out.cell (i:=3) rfl;have k4:=qI.out.cell (i:=4) rfl;have k5:=qI.out.cell (i:=5) rfl;have k6:=qI.out.cell (i:=6) rfl;have k7:=qI.out.cell (i:=7) rfl
 have k8:=qI.out.cell (i:=8) rfl;have k9:=qI.out.cell (i:=9) rfl;by_cases rS:nl=0;{
 obtain⟨S,ss,ls,way,l1,l2,l3,Ei,Bk,⟨Gi,sv,lv,wv,ha,r1,r2,r3⟩,_⟩:=iz.out.grow;obtain⟨so,yl,rfl,_,_⟩:=r2.shape;have d0:=ha.cell (i:=1) rfl;rw[l2,rS]at d0;clear ha r1 r2 r3
 go_enter func35,ntmps35;go_wp2;go_ret;exact⟨rfl,nl,by omega,iz.out.mono (by omega),j5.out.mono mZ⟩};{
 have hk:=rN (c:=A) (n:=(nl:Int)) (by omega);have xa:Hid (∀w:World,Calls prog 55 #[.int .i64 A,.int .i64 (nl:Int)] w λe w'=>e=.returned (.int .i64 (nu A nl:Int))/\w'=w):=λw=>zH w A nl DV Kf (by omega) (by omega)
 obtain⟨k,l8⟩:∃k,nu A nl=k:=⟨_,rfl⟩;rw[l8]at xa hk;clear l8;have GO:k<nl:=by omega
 have WA:(k:Int)<nl:=by omega
 obtain⟨q,S,m,hm,hl,⟨sv,lv,wv,ha,xS,lo,Bc,rfl,g,rfl,hcell⟩,j9⟩:=iz.out.F0 GO;have Bh:((nl:Int)==0)=false:=by rw[av];omega
 have PW:=hid j9;have HL:=hid hl;clear j9 hl ha hk;go_enter func35,ntmps35;go_wp2_with fail;go_quiet(first|(go_at_call 55;exact Calls.quiet_of_same (xa.out _)))
 have Ny:Hid (jW (V.drewN nq) q S m):=HL.out.frame (λ_ _=>rfl) (aj _);have e0:(V.drewN nq).cell? ⟨c0,0,none⟩=_:=k0;have e3:(V.drewN nq).cell? ⟨c0,3,none⟩=_:=k3;have Mp:Hid (∀w' m',my (V.drewN nq) q S m' w'->m'<=M+2000000->eh b w' p ns nl nw (M+2000000)/\Below b V w'):=λw' m' hc h=>PW.out w' m' hc.drawn h
 have Af:Hid (eh b (V.drewN nq) p ns nl nw M/\Below b V (V.drewN nq)):=⟨iz.out.below (bj (Below.refl _ V) nq),bj (Below.refl _ V) nq⟩;clear k0 k1 k3 k4 k5 k6 k7 k8 k9 xS hcell HL PW iz qI xa
 generalize V.drewN nq=V2 at*;have HF:=hid (E0 V2 q m S s Ny.out (by omega));go_wp2_with fail;refine HF.out.mono ?_;rintro e W1⟨rfl,hc⟩;have ej:=hid (Mp.out W1 _ hc (by omega))
 clear hc HF Mp Ny Af;go_wp2;go_ret;exact⟨rfl,nl,by omega,ej.out.1,(j5.out.mono mZ).trans ej.out.2⟩}
theorem Qq(w:World)(b p ns nl nw M:Nat)(h:eh b w p ns nl nw M)(AE:nl<=2000000)(hM:M<=10000000000000)(A B:Int)(DV:-9223372036854775808<=A)(Kf:A<=9223372036854775807)(s:ByteArray)(R C off rs cs:Int)(ao:Option Addr)(n cap:Nat):Calls prog 35 #[.pointer (some ⟨p,0,none⟩),DP 6 A B s (.slice ao n cap) R C off rs cs] w λe w'=>e=.returned (.bool true)/\∃BF,BF<=nl+1/\eh b w' p ns BF nw (M+2000000)/\Below b w w':=by
 have mZ:b<=w.heap.size:=by obtain⟨_,_,_,_,_,_,h2,_⟩:=h;exact h2
 obtain⟨V,hV⟩:∃V,w.alloc (.cells (vS 6 A B s (.slice ao n cap) R C off rs cs).toArray 54)=V:=⟨_,rfl⟩;obtain⟨c0,qo⟩:∃c0,w.heap.size=c0:=⟨_,rfl⟩;have bV:Below w.heap.size w V:=by rw[<-hV];exact Below.cj _ _
 have aV:aD V c0 54 (vS 6 A B s (.slice ao n cap) R C off rs cs):=by rw[<-hV,<-qo];exact aD.dT w _ _
 have zV:V.heap.size=c0+1:=by rw[<-hV];simp[qo]
 have Et:=h.below bV;have k0:=aV.cell (i:=0) rfl;have iz:=hid Et;have j5:=hid bV;have qI:=hid aV;have Un:=hid zV;unfold DP;unfold vS at hV;clear Et bV h aV zV;have k1:=qI.out.cell (i:=1) rfl
 have k3:=qI.out.cell (i:=3) rfl;have k4:=qI.out.cell (i:=4) rfl;have k5:=qI.out.cell (i:=5) rfl;have k6:=qI.out.cell (i:=6) rfl;have k7:=qI.out.cell (i:=7) rfl
 have k8:=qI.out.cell (i:=8) rfl;have k9:=qI.out.cell (i:=9) rfl;by_cases rS:nl=0;{
 obtain⟨S,ss,ls,way,l1,l2,l3,Ei,Bk,⟨Gi,sv,lv,wv,ha,r1,r2,r3⟩,_⟩:=iz.out.grow;obtain⟨so,yl,rfl,_,_⟩:=r2.shape;have d0:=ha.cell (i:=1) rfl;rw[l2,rS]at d0;clear ha r1 r2 r3
 go_enter func35,ntmps35;go_wp2;go_ret;exact⟨rfl,nl,by omega,iz.out.mono (by omega),j5.out.mono mZ⟩};{
 have hk:=rN (c:=A) (n:=(nl:Int)) (by omega);have xa:Hid (∀w:World,Calls prog 55 #[.int .i64 A,.int .i64 (nl:Int)] w λe w'=>e=.returned (.int .i64 (nu A nl:Int))/\w'=w):=λw=>zH w A nl DV Kf (by omega) (by omega)
 obtain⟨k,l8⟩:∃k,nu A nl=k:=⟨_,rfl⟩;rw[l8]at xa hk;clear l8;have GO:k<nl:=by omega
 have WA:(k:Int)<nl:=by omega
 obtain⟨q,S,m,hm,hl,⟨sv,lv,wv,ha,xS,lo,Bc,rfl,g,rfl,hcell⟩,j9⟩:=iz.out.F0 GO;have Bh:((nl:Int)==0)=false:=by rw[av];omega
 have PW:=hid j9;have HL:=hid hl;clear j9 hl ha hk;go_enter func35,ntmps35;go_wp2_with fail;go_quiet(first|(go_at_call 55;exact Calls.quiet_of_same (xa.out _)))
 have Ny:Hid (jW (V.drewN nq) q S m):=HL.out.frame (λ_ _=>rfl) (aj _);have e0:(V.drewN nq).cell? ⟨c0,0,none⟩=_:=k0;have Mp:Hid (∀w' m',my (V.drewN nq) q S m' w'->m'<=M+2000000->eh b w' p ns nl nw (M+2000000)/\Below b V w'):=λw' m' hc h=>PW.out w' m' hc.drawn h
 have Af:Hid (eh b (V.drewN nq) p ns nl nw M/\Below b V (V.drewN nq)):=⟨iz.out.below (bj (Below.refl _ V) nq),bj (Below.refl _ V) nq⟩;clear k0 k1 k3 k4 k5 k6 k7 k8 k9 xS hcell HL PW iz qI xa
 generalize V.drewN nq=V2 at*;have HF:=hid (RT V2 q m S Ny.out (by omega));go_wp2_with fail;refine HF.out.mono ?_;rintro e W1⟨rfl,hc⟩;have ej:=hid (Mp.out W1 _ hc (by omega))
 clear hc HF Mp Ny Af;go_wp2;go_ret;exact⟨rfl,nl,by omega,ej.out.1,(j5.out.mono mZ).trans ej.out.2⟩}
theorem Qp(w:World)(b p ns nl nw M:Nat)(h:eh b w p ns nl nw M)(AE:nl<=2000000)(A B:Int)(DV:-9223372036854775808<=A)(Kf:A<=9223372036854775807)(s:ByteArray)(R C off rs cs:Int)(ao:Option Addr)(n cap:Nat)(xs:List Nat)(hn:xs.length=n)(jb:n<=10000000)(Es:ao=none->cap=0)(gi:kr w ao xs):Calls prog 35 #[.pointer (some ⟨p,0,none⟩),DP 7 A B s (.slice ao n cap) R C off rs cs] w λe w'=>e=.returned (.bool true)/\∃BF,BF<=nl+1/\eh b w' p ns BF nw (M+2000000)/\Below b w w':=by
 have mZ:b<=w.heap.size:=by obtain⟨_,_,_,_,_,_,h2,_⟩:=h;exact h2
 obtain⟨V,hV⟩:∃V,w.alloc (.cells (vS 7 A B s (.slice ao n cap) R C off rs cs).toArray 54)=V:=⟨_,rfl⟩;obtain⟨c0,qo⟩:∃c0,w.heap.size=c0:=⟨_,rfl⟩;have bV:Below w.heap.size w V:=by rw[<-hV];exact Below.cj _ _
 have aV:aD V c0 54 (vS 7 A B s (.slice ao n cap) R C off rs cs):=by rw[<-hV,<-qo];exact aD.dT w _ _
 have zV:V.heap.size=c0+1:=by rw[<-hV];simp[qo]
 have Et:=h.below bV;have k0:=aV.cell (i:=0) rfl;have iz:=hid Et;have j5:=hid bV;have qI:=hid aV;have Un:=hid zV;unfold DP;unfold vS at hV;clear Et bV h aV zV;have k1:=qI.out.cell (i:=1) rfl
 have k3:=qI.out.cell (i:=3) rfl;have k4:=qI.out.cell (i:=4) rfl;have k5:=qI.out.cell (i:=5) rfl;have k6:=qI.out.cell (i:=6) rfl;have k7:=qI.out.cell (i:=7) rfl
 have k8:=qI.out.cell (i:=8) rfl;have k9:=qI.out.cell (i:=9) rfl;by_cases rS:nl=0;{
 obtain⟨S,ss,ls,way,l1,l2,l3,Ei,Bk,⟨Gi,sv,lv,wv,ha,r1,r2,r3⟩,_⟩:=iz.out.grow;obtain⟨so,yl,rfl,_,_⟩:=r2.shape;have d0:=ha.cell (i:=1) rfl;rw[l2,rS]at d0;clear ha r1 r2 r3
 go_enter func35,ntmps35;go_wp2;go_ret;exact⟨rfl,nl,by omega,iz.out.mono (by omega),j5.out.mono mZ⟩};{
 have hk:=rN (c:=A) (n:=(nl:Int)) (by omega);have xa:Hid (∀w:World,Calls prog 55 #[.int .i64 A,.int .i64 (nl:Int)] w λe w'=>e=.returned (.int .i64 (nu A nl:Int))/\w'=w):=λw=>zH w A nl DV Kf (by omega) (by omega)
 obtain⟨k,l8⟩:∃k,nu A nl=k:=⟨_,rfl⟩;rw[l8]at xa hk;clear l8;have GO:k<nl:=by omega
 have WA:(k:Int)<nl:=by omega
 obtain⟨q,S,m,hm,hl,⟨sv,lv,wv,ha,xS,lo,Bc,rfl,g,rfl,hcell⟩,j9⟩:=iz.out.F0 GO;have Bh:((nl:Int)==0)=false:=by rw[av];omega
 have PW:=hid j9;have HL:=hid hl;clear j9 hl ha hk;have HBU:=hid (gi.below j5.out);clear gi;go_enter func35,ntmps35;go_wp2_with fail;go_quiet(first|(go_at_call 55;exact Calls.quiet_of_same (xa.out _)))
 have Ny:Hid (jW (V.drewN nq) q S m):=HL.out.frame (λ_ _=>rfl) (aj _);have e0:(V.drewN nq).cell? ⟨c0,0,none⟩=_:=k0;have e4:(V.drewN nq).cell? ⟨c0,4,none⟩=_:=k4;have e5:(V.drewN nq).cell? ⟨c0,5,none⟩=_:=k5
 have e6:(V.drewN nq).cell? ⟨c0,6,none⟩=_:=k6;have e7:(V.drewN nq).cell? ⟨c0,7,none⟩=_:=k7;have e8:(V.drewN nq).cell? ⟨c0,8,none⟩=_:=k8;have e9:(V.drewN nq).cell? ⟨c0,9,none⟩=_:=k9
 have ae0:Hid (kr (V.drewN nq) ao xs):=HBU.out;have HZ2:Hid (b<=(V.drewN nq).heap.size):=by show b<=V.heap.size;have:=j5.out.size;omega
 have Mp:Hid (∀w' m',my (V.drewN nq) q S m' w'->m'<=M+2000000->eh b w' p ns nl nw (M+2000000)/\Below b V w'):=λw' m' hc h=>PW.out w' m' hc.drawn h;have Af:Hid (eh b (V.drewN nq) p ns nl nw M/\Below b V (V.drewN nq)):=⟨iz.out.below (bj (Below.refl _ V) nq),bj (Below.refl _ V) nq⟩
 clear k0 k1 k3 k4 k5 k6 k7 k8 k9 xS hcell HL PW iz qI xa;generalize V.drewN nq=V2 at*;have HF:=hid (OA V2 q m S Ny.out R C off rs cs ao n cap xs hn jb Es ae0.out)
 unfold eO at HF;go_wp2_with fail;refine HF.out.mono ?_;rintro e W1⟨rfl,kg⟩;have ej:Hid (eh b W1 p ns nl nw (M+2000000)/\Below b V W1):=⟨(Af.out.1.below kg).mono (by omega),Af.out.2.trans (kg.mono HZ2.out)⟩
 clear kg HF Mp Ny Af;go_wp2;go_ret;exact⟨rfl,nl,by omega,ej.out.1,(j5.out.mono mZ).trans ej.out.2⟩}
theorem my.later{w V w':World}{q m:Nat}{S:Nat->Prop}(b:Below w.heap.size w V)(h:my V q S m w'):my w q S m w':=by obtain⟨hk,S',h1,h2⟩:=h;exact⟨(Kept.cK (S:=S) b).trans hk (λz h=>.inl h),S',λz hz=>(h1 z hz).imp id (λh=>ak b.size h),h2⟩
theorem eh.pass{b:Nat}{w:World}{p ns nl nw M:Nat}(h:eh b w p ns nl nw M){i j:Nat}(hi:i<nl)(hj:j<nw):∃(q:Nat)(S:Nat->Prop)(m:Nat)(sv:Value)(g Bc gw uJ:Nat)(x:ByteArray),m<=M/\jW w q S m/\aD w p 51 [sv,.slice (some ⟨g,0,none⟩) nl Bc,.slice (some ⟨gw,0,none⟩) nw uJ]/\w.cell? ⟨g,i,none⟩=some (.pointer (some ⟨q,0,none⟩))/\w.cell? ⟨gw,j,none⟩=some (.string x)/\x.size<=1000000/\g<w.heap.size/\gw<w.heap.size/\¬S p/\¬S gw/\∀w' m',my w q S m' w'->m'<=M+2000000->eh b w' p ns nl nw (M+2000000)/\Below b w w':=by
 obtain⟨own,Ps,ss,ls,way,h1,h2,h3,h4,h5,h6,h7,h8,h9⟩:=id h;obtain⟨q,hq⟩:∃q,ls[i]?=some q:=⟨ls[i]'(by omega),by simp[h4,hi]⟩;obtain⟨x,hx⟩:∃x,way[j]?=some x:=⟨way[j]'(by omega),by simp[h5,hj]⟩
 obtain⟨m,hm,e⟩:=h8 i q hq;have hl:=h1.all (3+2*i) (by omega);rw[e]at hl;have hw:=h1.all 1 (by omega);rw[h6]at hw;obtain⟨hp,sv,lv,wv,ha,r1,r2,r3⟩:=hw;rcases r2.row.2 with⟨_,h0⟩|⟨g,Bc,cE,e2,_⟩
 {omega};rcases r3.row.2 with⟨_,h0⟩|⟨gw,uJ,acs,e3,_⟩;{omega};have hg:=(r2.lt g (by rw[e2];rfl)).1;have oG:=(r3.lt gw (by rw[e3];rfl)).1;have hog:=r3.own gw (by rw[e3];rfl)
 have qR:=r2.row;have Lj:=r3.row;subst e2;subst e3;rw[h4,h5]at ha;refine⟨q,_,m,sv,g,Bc,gw,uJ,x,hm,hl,ha,?_,?_,h9 x (bU hx),hg,oG,λhs=>?_,λhs=>?_,λw' m' hc hm'=>?_⟩
 {rw[qR.cellAt i (by omega)];simp[xp,hq]};{rw[Lj.cellAt j (by omega)];simp[sW,hx]};{have Ew:own p=1:=hp;have h11:own p=3+2*i:=hs;omega};{have Ew:own gw=1:=hog;have h11:own gw=3+2*i:=hs;omega}
 {
 obtain⟨hk,S',AJ,wW⟩:=hc;obtain⟨⟨If,ho',_⟩,wM⟩:=h1.step h2 (k:=3+2*i) (by omega) hk S' AJ wW.lt (P:=PL q m') wW (Gl q m');refine⟨⟨If,_,ss,ls,way,ho',ak h2 hk.size,h3,h4,h5,?_,λj q' hj=>?_,λj q' hj=>?_,h9⟩,wM⟩
 {rw[eG _ _ (by omega)];exact h6};{obtain⟨p',rest,hr,e2⟩:=h7 j q' hj;exact⟨p',rest,hr,by rw[eG _ _ (by omega)];exact e2⟩};{by_cases hji:j=i;{subst hji;rw[hq]at hj;cases hj;exact⟨m',hm',kD _ _ _⟩};{obtain⟨m2,wg,e2⟩:=h8 j q' hj;exact⟨m2,by omega,by rw[eG _ _ (by omega)];exact e2⟩}}}
theorem Qr(w:World)(b p ns nl nw M:Nat)(h:eh b w p ns nl nw M)(AE:nl<=2000000)(El:nw<=2000000)(hM:M<=10000000000000)(A B:Int)(DV:-9223372036854775808<=A)(Kf:A<=9223372036854775807)(Gk:-9223372036854775808<=B)(hB2:B<=9223372036854775807)(s:ByteArray)(R C off rs cs:Int)(ao:Option Addr)(n cap:Nat):Calls prog 35 #[.pointer (some ⟨p,0,none⟩),DP 5 A B s (.slice ao n cap) R C off rs cs] w λe w'=>e=.returned (.bool true)/\∃BF,BF<=nl+1/\eh b w' p ns BF nw (M+2000000)/\Below b w w':=by
 have fX:prog.follows .mixedOrders=true:=by kernel_rfl
 have mZ:b<=w.heap.size:=by obtain⟨_,_,_,_,_,_,h2,_⟩:=h;exact h2
 obtain⟨V,hV⟩:∃V,w.alloc (.cells (vS 5 A B s (.slice ao n cap) R C off rs cs).toArray 54)=V:=⟨_,rfl⟩;obtain⟨c0,qo⟩:∃c0,w.heap.size=c0:=⟨_,rfl⟩;have bV:Below w.heap.size w V:=by rw[<-hV];exact Below.cj _ _
 have aV:aD V c0 54 (vS 5 A B s (.slice ao n cap) R C off rs cs):=by rw[<-hV,<-qo];exact aD.dT w _ _
 have zV:V.heap.size=c0+1:=by rw[<-hV];simp[qo]
 have Et:=h.below bV;have k0:=aV.cell (i:=0) rfl;have iz:=hid Et;have j5:=hid bV;have qI:=hid aV;have Un:=hid zV;unfold DP;unfold vS at hV;have hh:=h;clear Et bV h aV zV
 have k1:=qI.out.cell (i:=1) rfl;have k2:=qI.out.cell (i:=2) rfl;by_cases rS:nl=0;{
 obtain⟨S,ss,ls,way,l1,l2,l3,Ei,Bk,⟨Gi,sv,lv,wv,ha,r1,r2,r3⟩,_⟩:=iz.out.grow;obtain⟨so,yl,rfl,_,_⟩:=r2.shape;have d0:=ha.cell (i:=1) rfl;rw[l2,rS]at d0;clear ha r1 r2 r3
 go_enter func35,ntmps35;go_wp2;go_ret;exact⟨rfl,nl,by omega,iz.out.mono (by omega),j5.out.mono mZ⟩};{
 have hk:=rN (c:=A) (n:=(nl:Int)) (by omega);have xa:Hid (∀w:World,Calls prog 55 #[.int .i64 A,.int .i64 (nl:Int)] w λe w'=>e=.returned (.int .i64 (nu A nl:Int))/\w'=w):=λw=>zH w A nl DV Kf (by omega) (by omega)
 obtain⟨k,l8⟩:∃k,nu A nl=k:=⟨_,rfl⟩;rw[l8]at xa hk;clear l8;have GO:k<nl:=by omega
 have WA:(k:Int)<nl:=by omega
 have Bh:((nl:Int)==0)=false:=by rw[av];omega
 by_cases hw0:nw=0;{
 obtain⟨q,S,m,hm,hl,⟨sv,lv,wv,ha,xS,lo,Bc,rfl,g,rfl,hcell⟩,j9⟩:=iz.out.F0 GO;obtain⟨S2,ss,ls,way,l1,l2,l3,Ei,Bk,⟨Gi,sv2,lv2,wv2,LI,r1,r2,r3⟩,_⟩:=iz.out.grow;obtain⟨wo,uJ,rfl,_,_⟩:=r3.shape
 have d2:=LI.cell (i:=2) rfl;rw[l3,hw0]at d2;clear ha LI r1 r2 r3 j9 hl hk;go_enter func35,ntmps35;go_wp2_with fail;go_quiet(first|(go_at_call 55;exact Calls.quiet_of_same (xa.out _)))
 have e0:(V.drewN nq).cell? ⟨c0,0,none⟩=_:=k0;have e2:(V.drewN nq).cell? ⟨p,2,none⟩=_:=d2;have ej:Hid (eh b (V.drewN nq) p ns nl nw (M+2000000)/\Below b V (V.drewN nq)):=⟨(iz.out.below (bj (Below.refl _ V) nq)).mono (by omega),bj (Below.refl _ V) nq⟩
 clear k0 k1 k2 xS hcell d2 iz qI xa;generalize V.drewN nq=V2 at*;go_wp2;go_ret;exact⟨rfl,nl,by omega,ej.out.1,(j5.out.mono mZ).trans ej.out.2⟩};{
 have CV:=rN (c:=B) (n:=(nw:Int)) (by omega);have GV:Hid (∀w:World,Calls prog 55 #[.int .i64 B,.int .i64 (nw:Int)] w λe w'=>e=.returned (.int .i64 (nu B nw:Int))/\w'=w):=λw=>zH w B nw Gk hB2 (by omega) (by omega)
 obtain⟨j,hjj⟩:∃j,nu B nw=j:=⟨_,rfl⟩;rw[hjj]at GV CV;clear hjj;have hjn:j<nw:=by omega
 have afP:(j:Int)<nw:=by omega
 have afs:((nw:Int)==0)=false:=by rw[av];omega
 obtain⟨q,S,m,sv,g,Bc,gw,uJ,x,hm,hl,ha,xS,Gh,hx,hg,oG,Gi,hSg,j9⟩:=hh.pass GO hjn;have haV:=ha.az j5.out;have d1:=haV.cell (i:=1) rfl;have d2:=haV.cell (i:=2) rfl
 have hcell:V.cell? ⟨g,k,none⟩=some (.pointer (some ⟨q,0,none⟩)):=(j5.out.cell (p:=⟨g,k,none⟩) hg).trans xS;have HCW:Hid (V.cell? ⟨gw,j,none⟩=some (.string x)):=(j5.out.cell (p:=⟨gw,j,none⟩) oG).trans Gh
 have HLV:=hid (hl.below j5.out);have HLT:=hid hl.lt;have PW:=hid j9;have HHA:=hid haV;clear hl ha xS Gh j9 haV hk CV iz;go_enter func35,ntmps35;go_wp2_with fail
 go_quiet(first|(go_at_call 55;exact Calls.quiet_of_same (xa.out _)));have e0:(V.drewN nq).cell? ⟨c0,0,none⟩=_:=k0;have e2:(V.drewN nq).cell? ⟨p,2,none⟩=_:=d2;have iL:Hid (aD (V.drewN nq) p 51 [sv,.slice (some ⟨g,0,none⟩) nl Bc,.slice (some ⟨gw,0,none⟩) nw uJ]):=HHA.out
 have Qb:Hid (aD (V.drewN nq) c0 54 (vS 5 A B s (.slice ao n cap) R C off rs cs)):=qI.out;have HC2:Hid ((V.drewN nq).cell? ⟨gw,j,none⟩=some (.string x)):=HCW.out
 have Ny:Hid (jW (V.drewN nq) q S m):=HLV.out.frame (λ_ _=>rfl) (aj _);have gD:Hid (Below w.heap.size w (V.drewN nq)):=bj j5.out nq;clear k0 k1 k2 d1 d2 hcell HHA qI HCW HLV xa
 generalize V.drewN nq=V2 at*;go_wp2_with fail;refine wp_region_held (S:=λW'=>aD W' p 51 [sv,.slice (some ⟨g,0,none⟩) nl Bc,.slice (some ⟨gw,0,none⟩) nw uJ]/\aD W' c0 54 (vS 5 A B s (.slice ao n cap) R C off rs cs)/\W'.cell? ⟨gw,j,none⟩=some (.string x)) fX ?_
 change wpAnyH _ _ _ _ _ _ _ _ V2.drew;have cZ:aD V2.drew p 51 [sv,.slice (some ⟨g,0,none⟩) nl Bc,.slice (some ⟨gw,0,none⟩) nw uJ]/\aD V2.drew c0 54 (vS 5 A B s (.slice ao n cap) R C off rs cs)/\V2.drew.cell? ⟨gw,j,none⟩=some (.string x):=⟨iL.out,Qb.out,HC2.out⟩
 have HL3:Hid (jW V2.drew q S m):=Ny.out.frame (λ_ _=>rfl) (aj _);have kM:Hid (Below w.heap.size w V2.drew):=bj gD.out 1;clear iL Qb HC2 Ny gD e0 e2;generalize V2.drew=V3 at*
 refine tk 0 (.pointer (some ⟨q,0,none⟩)) rfl (λW' hS=>?_) cZ ?_;{clear hS;go_simp};simp only[Act.put];refine tk 1 (.pointer (some ⟨p,0,none⟩)) rfl (λW' hS=>?_) cZ ?_
 {clear hS;go_simp};simp only[Act.put];refine tk 2 (.pointer (some ⟨p,0,none⟩)) rfl (λW' hS=>?_) cZ ?_;{clear hS;go_simp};simp only[Act.put];refine tk 3 (.pointer (some ⟨p,2,none⟩)) rfl (λW' hS=>?_) cZ ?_
 {clear hS;go_simp};simp only[Act.put];refine tk 4 (.slice (some ⟨gw,0,none⟩) nw uJ) rfl (λW' hS=>?_) cZ ?_;{have q0:=hS.1.cell (i:=2) rfl;clear hS;go_simp};simp only[Act.put]
 refine tk 5 (.pointer (some ⟨c0,2,none⟩)) rfl (λW' hS=>?_) cZ ?_;{clear hS;go_simp};simp only[Act.put];refine tk 6 (.int .i64 B) rfl (λW' hS=>?_) cZ ?_;{have q0:=hS.2.1.cell (i:=2) rfl;clear hS;go_simp}
 simp only[Act.put];refine tk 7 (.pointer (some ⟨p,0,none⟩)) rfl (λW' hS=>?_) cZ ?_;{clear hS;go_simp};simp only[Act.put];refine tk 8 (.pointer (some ⟨p,0,none⟩)) rfl (λW' hS=>?_) cZ ?_
 {clear hS;go_simp};simp only[Act.put];refine tk 9 (.pointer (some ⟨p,2,none⟩)) rfl (λW' hS=>?_) cZ ?_;{clear hS;go_simp};simp only[Act.put];refine tk 10 (.slice (some ⟨gw,0,none⟩) nw uJ) rfl (λW' hS=>?_) cZ ?_
 {have q0:=hS.1.cell (i:=2) rfl;clear hS;go_simp};simp only[Act.put];refine tk 11 (.int .i64 (nw:Int)) rfl (λW' hS=>?_) cZ ?_;{clear hS;go_simp};simp only[Act.put]
 refine wpAnyH_ready (rs:=[12]) (by kernel_rfl) (by simp) ?_;refine AllReadyH.cons rfl (λK df=>?_) AllReadyH.nil;go_simp;refine(GV.out _).mono ?_;rintro e W4⟨rfl,uk⟩
 subst W4;refine df.out _ _ cZ (λhHeld=>?_);clear df hHeld;refine tk 13 (.pointer (some ⟨gw,j,none⟩)) rfl (λW' hS=>?_) cZ ?_;{clear hS;go_simp};simp only[Act.put]
 refine tk 14 (.string x) rfl (λW' hS=>?_) cZ ?_;{have q0:=hS.2.2;clear hS;go_simp};simp only[Act.put];have DK:=hid (E0 V3 q m S x HL3.out (by omega));refine wpAnyH_ready (rs:=[15]) (by kernel_rfl) (by simp) ?_
 refine AllReadyH.cons rfl (λK df=>?_) AllReadyH.nil;go_simp;refine DK.out.mono ?_;rintro e W4⟨rfl,hc⟩;have ci:=PW.out W4 _ (hc.later kM.out) (by omega);have nx:Kept S V3 W4:=hc.1
 have uE:aD W4 p 51 [sv,.slice (some ⟨g,0,none⟩) nl Bc,.slice (some ⟨gw,0,none⟩) nw uJ]/\aD W4 c0 54 (vS 5 A B s (.slice ao n cap) R C off rs cs)/\W4.cell? ⟨gw,j,none⟩=some (.string x):=⟨nx.arr cZ.1 Gi,nx.arr cZ.2.1 (λh=>by have:=HLT.out c0 h;omega),by rw[<-cZ.2.2];exact Fo (nx.block gw (by have:=kM.out.size;omega) hSg)⟩
 refine df.out _ _ uE (λhHeld=>?_);clear df hHeld cZ;refine tk 16 (.bool true) rfl (λW' hS=>?_) uE ?_;{clear hS;go_simp};simp only[Act.put,bt,bi,bg,aN,bK,bJ];refine wpAnyH_done (by kernel_rfl) ?_ _
 have ej:=hid ci;clear ci hc nx uE DK HL3 kM PW;go_wp2;go_ret;exact⟨rfl,nl,by omega,ej.out.1,ej.out.2⟩}}
theorem Cb{P:Program}{w w':World}{o:Oper}{a:Act}{K:Act->World->Prop}{Q:Exit->Act->World->Prop}{s x:Operand}{t:TypeId}{v v' sl:Value}(hr:(Builtin.append_ #[t,t] o.type #[v,sl]).run P w=.ok v' w')(ho:o.op=.call {callee:=.builtin .append,args:=#[s,x],argTypes:=#[t,t]})(hs:a.eval s=v)(hx:a.eval x=sl)(h:K (a.put o.dst v') w'):o.wp P a w K Q:=by unfold Oper.wp execOp;simp only[ho,resolve,invoke,builtin,Sem.run_bind,Sem.run_pure,Result.andThen_ok,List.map_toArray,sK,uG,hs,hx,hr];exact h
theorem NK(w:World)(b p ns nl nw M:Nat)(h:eh b w p ns nl nw M)(ui:ns<=2000000)(El:nw<=2000000)(A B:Int)(DV:-9223372036854775808<=A)(Kf:A<=9223372036854775807)(s:ByteArray)(R C off rs cs:Int)(ao:Option Addr)(n cap:Nat):Calls prog 34 #[.pointer (some ⟨p,0,none⟩),DP 2 A B s (.slice ao n cap) R C off rs cs] w λe w'=>e=.returned (.bool true)/\∃MH MF,MH<=ns+1/\MF<=nw+1/\eh b w' p MH nl MF M/\Below b w w':=by
 have fX:prog.follows .mixedOrders=true:=by kernel_rfl
 obtain⟨i0,hi,ip,fS,gU⟩:=info_parts Tryz.ZA;have HI:=hid hi;have mZ:b<=w.heap.size:=by obtain⟨_,_,_,_,_,_,h2,_⟩:=h;exact h2
 obtain⟨V,hV⟩:∃V,w.alloc (.cells (vS 2 A B s (.slice ao n cap) R C off rs cs).toArray 54)=V:=⟨_,rfl⟩;obtain⟨c0,qo⟩:∃c0,w.heap.size=c0:=⟨_,rfl⟩;have bV:Below w.heap.size w V:=by rw[<-hV];exact Below.cj _ _
 have aV:aD V c0 54 (vS 2 A B s (.slice ao n cap) R C off rs cs):=by rw[<-hV,<-qo];exact aD.dT w _ _
 have Et:=h.below bV;have k0:=aV.cell (i:=0) rfl;have k1:=aV.cell (i:=1) rfl;have k2:=aV.cell (i:=2) rfl;have iz:=hid Et;have j5:=hid bV;have qI:=hid aV;unfold DP
 unfold vS at hV;clear hi Et bV h aV;by_cases rS:ns=0;{
 obtain⟨S,ss,ls,way,l1,l2,l3,Ei,Bk,WO,_⟩:=iz.out.grow;obtain⟨Gi,sv,lv,wv,ha,r1,_⟩:=WO;obtain⟨so,yl,rfl,_,_⟩:=r1.shape;have d0:=ha.cell (i:=0) rfl;rw[l1,rS]at d0
 clear ha r1;go_enter func34,ntmps34;go_wp2;go_ret;exact⟨rfl,ns,nw,by omega,by omega,iz.out,j5.out.mono mZ⟩};{
 have hk:=rN (c:=A) (n:=(ns:Int)) (by omega);have xa:Hid (∀w:World,Calls prog 55 #[.int .i64 A,.int .i64 (ns:Int)] w λe w'=>e=.returned (.int .i64 (nu A ns:Int))/\w'=w):=λw=>zH w A ns DV Kf (by omega) (by omega)
 obtain⟨k,l8⟩:∃k,nu A ns=k:=⟨_,rfl⟩;rw[l8]at xa hk;clear l8;have GO:k<ns:=by omega
 have WA:(k:Int)<ns:=by omega
 obtain⟨q,p',rest,hr,hsc,⟨sv,lv,wv,ha,so,yl,rfl,g,rfl,hcell⟩,Yi⟩:=iz.out.Zf GO;have d0:=ha.cell (i:=0) rfl;have d1:=hsc.s.cell (i:=1) rfl;have Bh:((ns:Int)==0)=false:=by rw[av];omega
 have xV:=hid Yi;have tW:=hid hsc;have HA:=hid ha;clear Yi hsc ha hk;go_enter func34,ntmps34;go_wp2_with fail;go_quiet(first|(go_at_call 55;exact Calls.quiet_of_same (xa.out _)))
 have acJ:Hid (pU (V.drewN nq) 0 q p' rest):=⟨tW.out.s,tW.out.w,tW.out.hq,tW.out.hp,tW.out.ne⟩;have e1:(V.drewN nq).cell? ⟨q,1,none⟩=_:=d1;have e2:(V.drewN nq).cell? ⟨c0,2,none⟩=_:=k2
 have acR:Hid (∀w' jo,Kept (λz=>z=q\/z=p') (V.drewN nq) w'->pU w' 0 q p' jo->jo.size<=1000000->eh b w' p ns nl nw M/\Below b V w'):=λw' jo hk hs hr=>xV.out w' jo ((Kept.drewN (S:=λz=>z=q\/z=p') nq).trans hk (λz h=>.inl h)) hs hr
 clear k0 k1 k2 d0 d1 hcell tW xV HA iz qI xa;generalize V.drewN nq=V2 at*;have GX:=hid (Zw V2 q p' rest B acJ.out hr);go_wp2_with fail;refine GX.out.mono ?_;rintro e W1⟨rfl,jo,Wt,ZO,hk'⟩
 obtain⟨aci,Gk⟩:=acR.out W1 jo hk' ZO (by omega);obtain⟨S,ss,ls,way,l1,l2,l3,Ei,Bk,WO,_,_,acw⟩:=aci.grow;obtain⟨Gi,sv2,lv2,wv2,LI,r1,r2,r3⟩:=WO;obtain⟨wo,uJ,rfl,_,_⟩:=r3.shape
 rw[l3]at LI r3;have iL:=hid LI;have wP:=hid r1;have nR:=hid r2;have A3:=hid r3;have zl:=hid ZO.s;have GH:=hid acw;have fQ:=hid Gk;have Xl:=hid Bk;clear GX acR acJ hk' ZO aci Gk acw LI r1 r2 r3 e1 e2 Bk
 have ZR:(jo.size:Int)<=rest.size:=by omega
 go_wp2_with fail;obtain⟨d,hd⟩:∃d:Nat,(rest.size:Int)-jo.size=(d:Int):=⟨rest.size-jo.size,by omega⟩;have BO:(d:Int)<=rest.size:=by omega
 have Sr:IntKind.i64.wrap (d:Int)=(d:Int):=by rw[IntKind.wrap_i64];omega
 have hxz:(rest.extract 0 d).size<=1000000:=by rw[jB];omega
 obtain⟨W2,wN⟩:∃W2,W1.drew=W2:=⟨_,rfl⟩;have HS3:Hid (aD W2 q 81 [.pointer (some ⟨p',0,none⟩),.string jo]):=by rw[<-wN];exact zl.out
 have lG:Hid (aD W2 p 51 [sv2,lv2,.slice wo nw uJ]):=by rw[<-wN];exact iL.out
 have hB3:Below W1.heap.size W1 W2:=by rw[<-wN];exact bj (Below.refl _ W1) 1
 have hZ3:W2.heap.size=W1.heap.size:=by rw[<-wN];rfl
 obtain⟨s1,J5⟩:∃s1,W2.heap.size=s1:=⟨_,rfl⟩;obtain⟨X,hX⟩:∃X,W2.alloc (.cells #[.string (rest.extract 0 d)] 9)=X:=⟨_,rfl⟩;have HQX:Hid (aD X q 81 [.pointer (some ⟨p',0,none⟩),.string jo]):=by rw[<-hX];exact HS3.out.alloc _
 have YX:Hid (aD X p 51 [sv2,lv2,.slice wo nw uJ]):=by rw[<-hX];exact lG.out.alloc _
 have bX:Below W1.heap.size W1 X:=by rw[<-hX];exact hB3.alloc (by rw[hZ3];exact aj _) _
 have cX:X.cell? ⟨s1,0,none⟩=some (.string (rest.extract 0 d)):=by rw[<-hX,<-J5];exact(aD.dT W2 9 [.string (rest.extract 0 d)]).cell (i:=0) rfl
 have zX:X.heap.size=s1+1:=by rw[<-hX];simp[J5]
 have rX1:=wP.out.below bX;have rX2:=nR.out.below bX;have XR:=A3.out.below bX;obtain⟨v',w2,qR,X8,bG,Yg⟩:=ua (P:=prog) X 31 31 9 i0 (.string ⟨#[]⟩) 1 16 underlying31 HI.out ip fS gU rfl (by decide) (.slice wo nw uJ) nw (sW way) XR.row ⟨s1,0,none⟩ 1 1 [.string (rest.extract 0 d)] rfl (λj u hj=>by cases j with|zero=>simp at hj;subst hj;exact cX|succ j=>simp at hj) (λu hu=>by simp at hu;subst hu;rfl) (by unfold maxLen;omega) (by omega)
 have iC:cL w2 (λz=>S z\/X.heap.size<=z) 9 1 v' (nw+1) (sW way++[.string (rest.extract 0 d)]):=⟨X8,λg hg=>(Yg g hg).imp (XR.own g) id⟩;obtain⟨FD,mC,rfl,_,_⟩:=iC.shape
 have Mz:=cL.beside bG XR rX1 (by decide);have J1:=cL.beside bG XR rX2 (by decide);have a2:=lx bG XR YX.out (by decide);have q2:=lx bG XR HQX.out (by decide);have kw:Kept S W1 w2:=(Kept.cK bX).trans (Kept.grown bG (λk hk=>XR.own k hk)) (λz h=>.inl h)
 have abE:s1+1<=w2.heap.size:=by have:=bG.size;omega
 obtain⟨W4,AQ⟩:∃W4,w2.setCell ⟨p,2,none⟩ (.slice FD (nw+1) mC)=W4:=⟨_,rfl⟩;have a4:aD W4 p 51 [sv2,lv2,.slice FD (nw+1) mC]:=by rw[<-AQ];exact a2.set 2 _
 have ZV:q≠p:=λe=>by have h1:w2.heap[q]?=some (.cells _ 81 (0,0)):=q2;have h2:w2.heap[p]?=some (.cells _ 51 (0,0)):=a2;rw[e,h2]at h1;injection h1 with h1;injection h1 with _ h3 _;exact absurd h3 (by decide)
 have q4:aD W4 q 81 [.pointer (some ⟨p',0,none⟩),.string jo]:=by rw[<-AQ];exact q2.other _ ZV
 have k4:Kept S W1 W4:=by rw[<-AQ];exact kw.trans (Kept.set (S:=S) Gi _) (λz h=>.inl h)
 have z4:W4.heap.size=w2.heap.size:=by rw[<-AQ];simp[World.setCell]
 have ci:eh b W4 p ns nl (nw+1) M/\Below b W1 W4:=by refine GH.out W4 (λz=>S z\/(W1.heap.size<=z/\z<w2.heap.size)) _ hxz k4 (λz hz=>hz.imp id (λh=>h.1)) (λz hz=>?_) ⟨.inl Gi,_,_,_,a4,?_,?_,?_⟩;{rcases hz with hz|hz;{have:=(Xl.out z hz).2;have:=k4.size;omega};{omega}};{have t:=Mz.set (j:=2) a2 (by decide) (.slice FD (nw+1) mC);rw[AQ]at t;exact t.mono (λz h=>.inl h)};{have t:=J1.set (j:=2) a2 (by decide) (.slice FD (nw+1) mC);rw[AQ]at t;exact t.mono (λz h=>.inl h)};{have t:=iC.set (j:=2) a2 (by decide) (.slice FD (nw+1) mC);rw[AQ]at t;(have e:sW (way++[rest.extract 0 d])=sW way++[.string (rest.extract 0 d)]:=by simp[sW]);rw[e,aJ,l3];exact⟨t.row,λg hg=>(t.own g hg).imp id (λh=>⟨by omega,by have:=(t.lt g hg).1;omega⟩)⟩}
 have ej:=hid ci;have cZ:=HS3.out;have dd2:=lG.out.cell (i:=2) rfl;have d2:=a2.cell (i:=2) rfl;have f2:=a2.frozen 2;have DX:Hid (X.cell? ⟨p,2,none⟩=some (.slice wo nw uJ)):=YX.out.cell (i:=2) rfl
 have JW:=hid q2;have Uv:=hid q4;have hXs:aD X q 81 [.pointer (some ⟨p',0,none⟩),.string jo]:=HQX.out;clear ci a4 k4 z4 Mz J1 a2 q2 q4 kw rX1 rX2 XR iC X8 bG Yg cX bX hB3 GH wP nR A3 iL zl lG HS3 YX HQX
 refine wp_region_held (S:=λW'=>aD W' q 81 [.pointer (some ⟨p',0,none⟩),.string jo]) fX ?_;change wpAnyH _ _ _ _ _ _ _ _ W1.drew;rw[wN];refine tk 0 (.pointer (some ⟨p,0,none⟩)) rfl (λW' hS=>?_) cZ ?_
 {clear hS;go_simp};simp only[Act.put];refine tk 1 (.pointer (some ⟨p,0,none⟩)) rfl (λW' hS=>?_) cZ ?_;{clear hS;go_simp};simp only[Act.put];refine tk 2 (.pointer (some ⟨p,0,none⟩)) rfl (λW' hS=>?_) cZ ?_
 {clear hS;go_simp};simp only[Act.put];refine tk 3 (.pointer (some ⟨p,2,none⟩)) rfl (λW' hS=>?_) cZ ?_;{clear hS;go_simp};simp only[Act.put];refine tk 5 (.string rest) rfl (λW' hS=>?_) cZ ?_
 {clear hS;go_simp};simp only[Act.put];refine tk 6 (.string rest) rfl (λW' hS=>?_) cZ ?_;{clear hS;go_simp};simp only[Act.put];refine tk 7 (.int .i64 (rest.size:Int)) rfl (λW' hS=>?_) cZ ?_
 {clear hS;go_simp};simp only[Act.put];refine tk 8 (.pointer (some ⟨q,0,none⟩)) rfl (λW' hS=>?_) cZ ?_;{clear hS;go_simp};simp only[Act.put];refine tk 9 (.pointer (some ⟨q,0,none⟩)) rfl (λW' hS=>?_) cZ ?_
 {clear hS;go_simp};simp only[Act.put];refine tk 10 (.pointer (some ⟨q,1,none⟩)) rfl (λW' hS=>?_) cZ ?_;{clear hS;go_simp};simp only[Act.put];refine tk 11 (.string jo) rfl (λW' hS=>?_) cZ ?_
 {have q0:=hS.cell (i:=1) rfl;clear hS;go_simp};simp only[Act.put];refine tk 12 (.int .i64 (jo.size:Int)) rfl (λW' hS=>?_) cZ ?_;{clear hS;go_simp};simp only[Act.put]
 refine tk 13 (.int .i64 (d:Int)) rfl (λW' hS=>?_) cZ ?_;{clear hS;go_simp};simp only[Act.put];refine tk 14 (.string (rest.extract 0 d)) rfl (λW' hS=>?_) cZ ?_;{clear hS;go_simp}
 simp only[Act.put];refine wpAnyH_ready (rs:=[4,15]) (by kernel_rfl) (by simp) ?_;refine AllReadyH.cons rfl (λK df=>?_) (AllReadyH.cons rfl (λK df=>?_) AllReadyH.nil)
 {
 go_simp;refine df.out _ _ cZ (λhHeld=>?_);clear df hHeld;refine wpAnyH_ready (rs:=[15]) (by kernel_rfl) (by simp) ?_;refine AllReadyH.cons rfl (λK df=>?_) AllReadyH.nil
 go_simp;refine df.out _ _ hXs (λhHeld=>?_);clear df hHeld;refine wpAnyH_ready (rs:=[16]) (by kernel_rfl) (by simp) ?_;refine AllReadyH.cons rfl (λK df=>?_) AllReadyH.nil
 rw[au (by kernel_rfl)];refine Cb (t:=31) (s:=.tmp 68) (x:=.tmp 79) qR rfl rfl (by simp[Act.eval]) ?_;refine df.out _ _ JW.out (λhHeld=>?_);clear df hHeld;have qW:=JW.out
 refine tk 17 (.pointer (some ⟨p,0,none⟩)) rfl (λW' hS=>?_) qW ?_;{clear hS;go_simp};simp only[Act.put];refine tk 18 (.pointer (some ⟨p,2,none⟩)) rfl (λW' hS=>?_) qW ?_
 {clear hS;go_simp};simp only[Act.put,bt,bi,bg,aN,bK,bJ];refine wpAnyH_ready (rs:=[19]) (by kernel_rfl) (by simp) ?_;refine AllReadyH.cons rfl (λK df=>?_) AllReadyH.nil
 go_simp;refine df.out _ _ Uv.out (λhHeld=>?_);clear df hHeld;refine wpAnyH_done (by kernel_rfl) ?_ _;clear AQ qR hX wN;go_wp2;go_ret;exact⟨rfl,ns,nw+1,by omega,by omega,ej.out.1,(j5.out.mono mZ).trans (fQ.out.trans ej.out.2)⟩}
 {
 go_simp;have dX:X.cell? ⟨p,2,none⟩=some (.slice wo nw uJ):=DX.out;refine df.out _ _ hXs (λhHeld=>?_);clear df hHeld dd2;refine wpAnyH_ready (rs:=[4]) (by kernel_rfl) (by simp) ?_
 refine AllReadyH.cons rfl (λK df=>?_) AllReadyH.nil;go_simp;refine df.out _ _ hXs (λhHeld=>?_);clear df hHeld;refine wpAnyH_ready (rs:=[16]) (by kernel_rfl) (by simp) ?_
 refine AllReadyH.cons rfl (λK df=>?_) AllReadyH.nil;rw[au (by kernel_rfl)];refine Cb (t:=31) (s:=.tmp 68) (x:=.tmp 79) qR rfl rfl (by simp[Act.eval]) ?_;refine df.out _ _ JW.out (λhHeld=>?_)
 clear df hHeld;have qW:=JW.out;refine tk 17 (.pointer (some ⟨p,0,none⟩)) rfl (λW' hS=>?_) qW ?_;{clear hS;go_simp};simp only[Act.put];refine tk 18 (.pointer (some ⟨p,2,none⟩)) rfl (λW' hS=>?_) qW ?_
 {clear hS;go_simp};simp only[Act.put,bt,bi,bg,aN,bK,bJ];refine wpAnyH_ready (rs:=[19]) (by kernel_rfl) (by simp) ?_;refine AllReadyH.cons rfl (λK df=>?_) AllReadyH.nil
 go_simp;refine df.out _ _ Uv.out (λhHeld=>?_);clear df hHeld;refine wpAnyH_done (by kernel_rfl) ?_ _;clear AQ qR hX wN;go_wp2;go_ret;exact⟨rfl,ns,nw+1,by omega,by omega,ej.out.1,(j5.out.mono mZ).trans (fQ.out.trans ej.out.2)⟩}}
theorem N8(w:World)(s:ByteArray)(hs:s.size<=maxLen):Calls prog 36 #[.string s] w λe w'=>e=.returned (.bool true)/\Below w.heap.size w w':=by
 have HM:Hid (s.size<=maxLen):=hs;clear hs;go_enter func36,ntmps36;go_wp2_with fail;refine(QU _ s HM.out).mono ?_;rintro e w1⟨rfl,b1⟩;go_wp2_with fail;refine(rJ _ s HM.out).mono ?_
 rintro e w2⟨rfl,b2⟩;generalize(eT s.data.toList).1=X;generalize(eT s.data.toList).2=Y;go_wp2;go_ret;exact⟨by simp,b1.trans (b2.mono b1.size)⟩
structure Ae(w:World)(A B:Int)(s:ByteArray)(ao:Option Addr)(n cap:Nat)(xs:List Nat):Prop where
 a1:-9223372036854775808<=A
 a2:A<=9223372036854775807
 b1:-9223372036854775808<=B
 b2:B<=9223372036854775807
 hs:s.size<=2000000
 hn:xs.length=n
 jb:n<=10000000
 Es:ao=none->cap=0
 gi:kr w ao xs
def ov(b:Nat)(w:World)(p ns nl nw M:Nat)(e:Ending)(w':World):Prop:=e=.returned (.bool true)/\∃MH BF MF,MH<=ns+1/\BF<=nl+1/\MF<=nw+1/\eh b w' p MH BF MF (M+2000000)/\Below b w w'
theorem Ca(w:World)(b p ns nl nw M:Nat)(h:eh b w p ns nl nw M)(ui:ns<=2000000)(El:nw<=2000000)(K A B:Int)(hK:K=1\/K=2)(s:ByteArray)(R C off rs cs:Int)(ao:Option Addr)(n cap:Nat)(xs:List Nat)(ho:Ae w A B s ao n cap xs)(gB:Lib.TabIs prog w "internal/strconv.uint64pow10" .u64 Lib.pow10Tab):Calls prog 34 #[.pointer (some ⟨p,0,none⟩),DP K A B s (.slice ao n cap) R C off rs cs] w λe w'=>ov b w p ns nl nw M e w':=by
 rcases hK with rfl|rfl;{refine(NL w b p ns nl nw M h ui A B s R C off rs cs ao n cap xs ho.hn ho.jb ho.gi gB).mono ?_;rintro e w'⟨he,MH,MF,h1,h2,h3,h4⟩;exact⟨he,MH,nl,MF,h1,by omega,h2,h3.mono (by omega),h4⟩}
 {refine(NK w b p ns nl nw M h ui El A B ho.a1 ho.a2 s R C off rs cs ao n cap).mono ?_;rintro e w'⟨he,MH,MF,h1,h2,h3,h4⟩;exact⟨he,MH,nl,MF,h1,by omega,h2,h3.mono (by omega),h4⟩}
theorem rL(w:World)(b p ns nl nw M:Nat)(h:eh b w p ns nl nw M)(AE:nl<=2000000)(El:nw<=2000000)(hM:M<=10000000000000)(K A B:Int)(hK:K=3\/K=4\/K=5\/K=6\/K=7)(s:ByteArray)(R C off rs cs:Int)(ao:Option Addr)(n cap:Nat)(xs:List Nat)(ho:Ae w A B s ao n cap xs):Calls prog 35 #[.pointer (some ⟨p,0,none⟩),DP K A B s (.slice ao n cap) R C off rs cs] w λe w'=>ov b w p ns nl nw M e w':=by
 have qD:∀e w',(e=.returned (.bool true)/\∃BF,BF<=nl+1/\eh b w' p ns BF nw (M+2000000)/\Below b w w')->ov b w p ns nl nw M e w':=by rintro e w'⟨he,BF,h1,h2,h3⟩;exact⟨he,ns,BF,nw,by omega,h1,by omega,h2,h3⟩
 rcases hK with rfl|rfl|rfl|rfl|rfl;{exact(Qt w b p ns nl nw M h AE A B s R C off rs cs ao n cap).mono qD};{exact(Qs w b p ns nl nw M h AE hM A B ho.a1 ho.a2 s R C off rs cs ao n cap ho.hs).mono qD}
 {exact(Qr w b p ns nl nw M h AE El hM A B ho.a1 ho.a2 ho.b1 ho.b2 s R C off rs cs ao n cap).mono qD};{exact(Qq w b p ns nl nw M h AE hM A B ho.a1 ho.a2 s R C off rs cs ao n cap).mono qD}
 {exact(Qp w b p ns nl nw M h AE A B ho.a1 ho.a2 s R C off rs cs ao n cap xs ho.hn ho.jb ho.Es ho.gi).mono qD}
end Go.Proofs.YthdcceackfdbbaaGreatDoor
