import Derived.Test.YthdcceackfdbbaaGreatDoorS43A
import Derived.Laws.CopyOwn
set_option linter.unusedSimpArgs false
set_option maxRecDepth 20000
set_option maxHeartbeats 4000000
open Go.RowKit Go.Proofs.Tryz
namespace Go.Proofs.YthdcceackfdbbaaGreatDoor
section
open Go.Shelf
attribute [local go_sem]Oper.semAt_some
def Xi(b:Nat)(L:List UInt8×Int)(e:Ending)(w':World):Prop:=(L.2≠0/\e=.returned (.tuple #[.pointer none,.int .i64 L.2]))\/(L.2=0/\∃(p:Nat)(s:ByteArray),e=.returned (.tuple #[.pointer (some ⟨p,0,none⟩),.int .i64 0])/\b<=p/\aD w' p 101 [.string s]/\s.data.toList=L.1)
theorem D9(w:World)(R C off rs cs kind:Int)(bb n cap:Nat)(xs:List Nat)(hn:xs.length=n)(jb:n<9223372036854775808)(hx:∀x∈xs,x<18446744073709551616)(gi:∀(k x:Nat),xs[k]?=some x->w.cell? ⟨bb,k,none⟩=some (.int .u64 (x:Int)))(LH:bb<w.heap.size)(gB:Lib.TabIs prog w "internal/strconv.uint64pow10" .u64 Lib.pow10Tab):Calls prog 25 #[.slice (some ⟨bb,0,none⟩) n cap,eO R C off rs cs,.int .i64 kind] w λe w'=>Xi w.heap.size (jL xs R C off rs cs kind) e w'/\Below w.heap.size w w':=by
 obtain⟨b,hb⟩:∃b,w.heap.size=b:=⟨_,rfl⟩;have HB:=hid gi;have HX:=hid hx;have HT:=hid gB;clear gi hx gB;obtain⟨V,hV⟩:∃V,w.alloc (.cells #[.int .i64 R,.int .i64 C,.int .i64 off,.int .i64 rs,.int .i64 cs] 24)=V:=⟨_,rfl⟩
 have HQ:Hid (Below b w V):=by rw[<-hV,<-hb];exact Below.cj _ _
 have HZ:Hid (V.heap.size=b+1):=by unfold Hid;rw[<-hV];simp[hb]
 have HW:=hid (NM V R C off rs cs kind bb n cap xs hn jb HX.out (λk x h=>(HQ.out.cell (p:=⟨bb,k,none⟩) (by show bb<b;omega)).trans (HB.out k x h)) (by rw[HZ.out];omega) (dN HT.out (hb▸HQ.out)))
 obtain⟨L,hL⟩:∃L,jL xs R C off rs cs kind=L:=⟨_,rfl⟩;rw[hL]at HW⊢;clear hL;unfold eO at HW⊢;have HV:=hid hV;clear hV;go_enter func25,ntmps25;go_wp2_with fail;rw[HV.out]
 refine HW.out.mono ?_;rintro e W1⟨⟨s,rfl,hs⟩,b1⟩;have HS:=hid hs;have fQ:=hid b1;clear hs b1 HW;by_cases hz:L.2=0;{rw[hz];go_wp2;go_ret2;have q1:Below b w W1:=HQ.out.trans (fQ.out.mono (by rw[HZ.out];omega));(have dU:b<=W1.heap.size:=by have:=q1.size;omega);refine⟨.inr ⟨hz,W1.heap.size,s,rfl,by omega,aD.dT _ _ _,HS.out⟩,?_⟩;rw[hb];exact q1.alloc dU _}
 {(have hzb:(L.2 !=0)=true:=by simpa using hz);go_wp2;go_ret2;refine⟨.inl ⟨hz,rfl⟩,?_⟩;rw[hb];exact HQ.out.trans (fQ.out.mono (by rw[HZ.out];omega))}
theorem FI(w:World)(s:ByteArray)(hs:s.size<=281474976710656):Calls prog 48 #[.string s] w λe w'=>e=.returned (.string s)/\Below w.heap.size w w':=by go_enter func48,ntmps48;go_wp2_with fail;refine(stringslite_Clone s _ hs).mono ?_;rintro e w1⟨rfl,b1⟩;have fQ:=hid b1;clear b1;go_wp2;go_ret;exact⟨rfl,fQ.out⟩
theorem RG(w:World)(p:Nat)(rest:ByteArray)(Bb:Int)(hp:aD w p 101 [.string rest])(hr:rest.size<=281474976710656):Calls prog 28 #[.pointer (some ⟨p,0,none⟩),.int .i64 Bb] w λe w'=>e=.returned (.string (rest.extract 0 (min Bb.toNat rest.size)))/\∃W1,Below w.heap.size w W1/\w'=W1.setCell ⟨p,0,none⟩ (.string (rest.extract (min Bb.toNat rest.size) rest.size)):=by
 have c0:=hp.cell (i:=0) rfl;have HP:=hid hp;clear hp;obtain⟨m,hm⟩:∃m:Nat,min Bb.toNat rest.size=m:=⟨_,rfl⟩;have HMI:Hid (min (max Bb 0) (rest.size:Int)=(m:Int)):=by unfold Hid;omega
 have wg:m<=rest.size:=by omega
 rw[hm];clear hm;go_enter func28,ntmps28;go_wp2_with fail;rw[HMI.out];rw[fW];refine(FI w (rest.extract 0 m) (by rw[jB];omega)).mono ?_;rintro e W1⟨rfl,b1⟩;have fQ:=hid b1
 have c1:=(HP.out.below b1 HP.out.lt).cell (i:=0) rfl;have f1:=(HP.out.below b1 HP.out.lt).frozen 0;clear b1 c0;go_wp2;go_ret;exact⟨rfl,W1,fQ.out,rfl⟩
end
theorem PJ{kind:Nat}{es:List (Nat×Nat×Nat)}(h:∀y∈es,(iy (uy kind y)).length<=200):(oI kind es).length<=200*es.length:=by induction es with|nil=>simp[oI]|cons y r ih=>have h1:=h y (by simp);have h2:=ih (λz hz=>h z (by simp[hz]));simp only[oI,Kp,aJ,aU]at h2⊢;omega
theorem NS{kind R C:Nat}{f:Nat->Nat->Nat}(hR:R<=40)(hC:C<=40)(hf:∀i j,(yt (f i j)).length<=100):(wQ kind R C f).length<=1000000:=by
 have zg:R*C<=40*40:=bI hR hC;have h1:=Fh kind;have h0:=rY kind R C f;have h2:=Mx (kind:=kind) hR hC (n:=(iG kind R C f).length) (by omega);have h3:=PJ (kind:=kind) (es:=iG kind R C f) (λy hy=>by have hm:=Jr hy;exact Ng (by omega) (by omega) (by rw[hm.2.2];exact hf _ _))
 unfold wQ;simp only[aJ];omega
theorem Pf{xs:List Nat}{R C off rs cs kind:Int}(hx:∀x∈xs,x<18446744073709551616)(GL:∀x,x<18446744073709551616->ju x (yt x)/\(yt x).length<=100):(jL xs R C off rs cs kind).1.length<=1000000:=by
 unfold jL;split;{simp};{
 rename_i lD;have lD:nL R C off rs cs xs.length:=iK lD;obtain⟨_,h1,h2,_⟩:=lD;split;{simp};{
 split;{simp};{
 split;{simp};{split;{have zg:R.toNat*C.toNat<=40*40:=bI (by omega) (by omega);have h0:=rY kind.toNat R.toNat C.toNat (pu xs off rs cs);simp only[yS,aJ,yK,eK,Cy];omega};{exact NS (by omega) (by omega) (λi j=>(GL _ (pp hx off rs cs i j)).2)}}}}}
def iE(xs:List Nat):List Value:=xs.map λ(x:Nat)=>.int .u64 (x:Int)
theorem Dp(w:World)(ao:Option Addr)(n cap:Nat)(xs:List Nat)(hn:xs.length=n)(jb:n<=20000000000000)(gi:kr w ao xs):Calls prog 24 #[.slice ao n cap] w λe w'=>e=.returned (.slice (some ⟨w.heap.size,0,none⟩) (n+2) (n+2))/\aD w' w.heap.size 65 (iE (xs++[77,78]))/\Below w.heap.size w w':=by
 obtain⟨b,hb⟩:∃b,w.heap.size=b:=⟨_,rfl⟩;obtain⟨N,hN⟩:∃N,n+2=N:=⟨_,rfl⟩;have hNi:(n:Int)+2=(N:Int):=by omega
 obtain⟨i0,hi,ip,fS,gU⟩:=info_parts Tryz.oT;have MS:=jh (P:=prog) 22 65 i0 (.int .u64 0) underlying22 hi ip fS rfl N (by rw[gU];omega) (by omega);have dU:(prog.info? 65).map (·.size)=some 1:=by rw[hi];simp[fS]
 clear hi ip fS gU;rw[hN,hb];have lR:=hid gi;clear gi;obtain⟨X,hX⟩:∃X,iE xs=X:=⟨_,rfl⟩;have hXl:X.length=n:=by rw[<-hX];simp[iE,hn]
 have HX:=hid hX;clear hX;go_enter func24,ntmps24;go_wp2_with(refine wpList_copy_splice rfl (.tmp 10) (.tmp 11) 22 22 rfl 65 underlying22 dU (some ⟨b,0,none⟩) ao N N n cap (by first|rfl|(rw[<-hb];rfl)) rfl b 0 (List.replicate N (.int .u64 0)) 65 ?c0 X ?c1 ?c2 ?c3 ?c4 b w ?c5 (aj _) ?_)
 case c0=>rw[fc,<-hb];exact World.alloc_heap_new w _
 case c1=>show X.length=min n N;omega
 case c2=>intro mO;(have h0:xs[0]?=some (xs[0]'(by omega)):=by simp);obtain⟨_,ad,Es,_,_⟩:=lR.out 0 _ h0;refine⟨ad,Es,λj v hj=>?_⟩;rw[<-HX.out]at hj;(obtain⟨x,hx,rfl⟩:∃x,xs[j]?=some x/\Value.int .u64 (x:Int)=v:=by unfold iE at hj;rw[bN]at hj;cases h:xs[j]? with|none=>rw[h]at hj;cases hj|some x=>rw[h]at hj;exact⟨x,rfl,cI hj⟩);obtain⟨_,ad',acg,di,hc⟩:=lR.out j x hx;rw[Es]at acg;cases acg;exact(ic.alloc 0 _ _).cell hc
 case c3=>simp;omega
 case c4=>intro v hv;rw[<-HX.out]at hv;obtain⟨x,_,rfl⟩:=eF.1 hv;rfl
 case c5=>rw[<-hb];exact Below.cj _ _
 {
 intro W1 U0 kg;have a1:aD W1 b 65 (X++[.int .u64 0,.int .u64 0]):=by(have e:splice (List.replicate N (Value.int .u64 0)) 0 X=X++[.int .u64 0,.int .u64 0]:=by unfold splice;simp only[gW,dt,cA,List.drop_replicate];rw[show N-X.length=2 by omega];rfl);have:=U0.out;rw[e]at this;exact this
 have k0:W1.cell? ⟨b,n,none⟩=some (.int .u64 0):=a1.cell (by rw[ct (by omega),hXl];simp);have f0:=a1.frozen n;have j6:=hid a1;have fQ:=hid kg;clear a1 kg U0;have h1:(n:Int)<N:=by omega
 have h2:(n:Int)+1<N:=by omega
 have k1:(W1.setCell ⟨b,n,none⟩ (.int .u64 77)).cell? ⟨b,n+1,none⟩=some (.int .u64 0):=(j6.out.set n (.int .u64 77)).cell (by rw[kJ,ai (by omega),ct (by omega),hXl];simp)
 have f1:(W1.setCell ⟨b,n,none⟩ (.int .u64 77)).frozen? ⟨b,n+1,none⟩=false:=(j6.out.set n (.int .u64 77)).frozen _;go_wp2;go_ret;refine⟨rfl,?_,(fQ.out.setCell (p:=⟨b,n,none⟩) (aj _) _).setCell (p:=⟨b,n+1,none⟩) (aj _) _⟩
 have e:((X++[Value.int .u64 0,Value.int .u64 0]).set n (Value.int .u64 77)).set (n+1) (.int .u64 78)=iE (xs++[77,78]):=by rw[B9 _ _ (by omega),B9 _ _ (by omega),hXl,<-HX.out];simp[iE]
 rw[<-e];exact(j6.out.set n _).set (n+1) _}
theorem NX(w:World)(g:Nat)(ao:Option Addr)(n cap:Nat)(xs:List Nat)(hn:xs.length=n)(jb:n<=20000000000000)(gi:kr w ao xs)(ha:aD w g 65 (iE (xs++[77,78]))):Calls prog 26 #[.slice (some ⟨g,0,none⟩) (n+2) (n+2),.slice ao n cap] w λe w'=>e=.returned (.bool true)/\∃m,w'=w.drewN m:=by
 have fX:prog.follows .mixedOrders=true:=by kernel_rfl
 obtain⟨N,hN⟩:∃N,n+2=N:=⟨_,rfl⟩;rw[hN];have HA:Hid (∀(k x:Nat),(xs++[77,78])[k]?=some x->w.cell? ⟨g,k,none⟩=some (.int .u64 (x:Int))):=λk x hk=>ha.cell (by unfold iE;rw[bN,hk];rfl)
 have lR:=hid gi;clear gi ha;go_enter func26,ntmps26;go_wp2;go_loopw[6](λvi wr=>∃i m:Nat,vi=.int .i64 (i:Int)/\i<=n/\wr=w.drewN m)(λvi _=>n-(intOf vi).toNat);case atStart=>exact⟨0,0,rfl,by omega,(World.drewN_zero w).symm⟩
 case round=>obtain⟨i,m,rfl,hi,rfl⟩:=hrel;by_cases di:i<n;{(have fJ:(i:Int)<n:=by omega);(have pJ:(i:Int)<N:=by omega);obtain⟨x,hx⟩:∃x,xs[i]?=some x:=⟨xs[i]'(by omega),by simp[hn,di]⟩;obtain⟨adA,ad,rfl,gm,xS⟩:=lR.out i x hx;have Gh:=HA.out i x (by rw[cW (by omega)];exact hx);go_wp2;go_quiet(fail);go_wp2;go_round;(case rel=>exact⟨i+1,_,by simp,by omega,rfl⟩);case measure=>simp[intOf];omega};{(have fJ:¬(i:Int)<n:=by omega);(obtain rfl:i=n:=by omega);(have pJ:(i:Int)<N:=by omega);(have Lm:(i:Int)+1<N:=by omega);have c1:=HA.out i 77 (by rw[ct (by omega),hn];simp);have c2:=HA.out (i+1) 78 (by rw[ct (by omega),hn];simp);go_wp2;go_ret;exact⟨rfl,m,rfl⟩}
theorem Fo{w w':World}{g i:Nat}(h:w'.heap[g]?=w.heap[g]?):w'.cell? ⟨g,i,none⟩=w.cell? ⟨g,i,none⟩:=by simp only[World.cell?];rw[h]
def yB(p:Nat)(x:ByteArray)(ended:Bool)(er R C:Int)(bits:Value)(kind uF:Int):List Value:=[.pointer (some ⟨p,0,none⟩),.string x,.bool ended,.int .i64 er,.int .i64 R,.int .i64 C,bits,.int .i64 kind,.int .i64 uF]
def GJ(q p:Nat)(S Sf:Nat->Prop)(bits:Value)(n:Nat):Prop:=∀g l cap,bits=.slice (some ⟨g,0,none⟩) l cap->n≠0->S g/\g≠p/\g≠q/\¬Sf g
def Fs(w:World)(q p:Nat)(S Sf:Nat->Prop)(s:rE)(x:ByteArray)(ended:Bool)(er R C:Int)(bits:Value)(kind:Int):Prop:=(ended=false/\er=0/\hU .begin x.data.toList=(0,s))\/(er≠0/\s=.failed er)\/(ended=true/\er=0/\∃(k R' C':Nat)(f:Nat->Nat->Nat),s=.ended k R' C' f/\R=R'/\C=C'/\kind=k/\R'<=40/\C'<=40/\gL 0 w bits R' C' f/\GJ q p S Sf bits (R'*C'))
structure mU(w:World)(q p:Nat)(S Sf:Nat->Prop)(s:rE)(x:ByteArray)(ended:Bool)(er R C:Int)(ao:Option Addr)(n cap:Nat)(kind uF:Int):Prop where
 arr:aD w q 41 (yB p x ended er R C (.slice ao n cap) kind uF)
 rd:dA w p Sf s
 hq:S q
 hp:S p
 hs:∀z,Sf z->S z
 ne:p≠q
 nq:¬Sf q
 lt:∀z,S z->z<w.heap.size
 st:Fs w q p S Sf s x ended er R C (.slice ao n cap) kind
def jW(w:World)(q:Nat)(S:Nat->Prop)(m:Nat):Prop:=∃p Sf s x ended er R C ao n cap kind uF,mU w q p S Sf s x ended er R C ao n cap kind uF/\x.size<=m
def my(w:World)(q:Nat)(S:Nat->Prop)(m:Nat)(w':World):Prop:=Kept S w w'/\∃S':Nat->Prop,(∀z,S' z->S z\/w.heap.size<=z)/\jW w' q S' m
theorem gL.frame{B:Nat}{w w':World}{sl:Value}{R C:Nat}{f:Nat->Nat->Nat}(h:gL B w sl R C f)(hk:∀g n cap,sl=.slice (some ⟨g,0,none⟩) n cap->R*C≠0->w'.heap[g]?=w.heap[g]?)(dU:w.heap.size<=w'.heap.size):gL B w' sl R C f:=by
 obtain⟨ao,cap,e,h⟩:=h;refine⟨ao,cap,e,?_⟩;rcases h with h|⟨g,e2,h1,h2,h3⟩;{exact .inl h};{by_cases h0:R*C=0;{exact .inl h0};{refine .inr ⟨g,e2,h1,ax h2 dU,λi j hi hj=>?_⟩;subst e2;have hb:=hk g _ _ e h0;have:=h3 i j hi hj;rw[<-this];exact Fo hb}}
theorem Fs.frame{w w':World}{q p:Nat}{S Sf:Nat->Prop}{s:rE}{x:ByteArray}{ended:Bool}{er R C:Int}{bits:Value}{kind:Int}(h:Fs w q p S Sf s x ended er R C bits kind)(hk:∀x,S x->w'.heap[x]?=w.heap[x]?)(dU:w.heap.size<=w'.heap.size):Fs w' q p S Sf s x ended er R C bits kind:=by rcases h with h|h|⟨h1,h2,k,R',C',f,h3,h4,h5,h6,h7,h8,h9,Ew⟩;{exact .inl h};{exact .inr (.inl h)};{exact .inr (.inr ⟨h1,h2,k,R',C',f,h3,h4,h5,h6,h7,h8,h9.frame (λg n cap e h0=>hk g (Ew g n cap e h0).1) dU,Ew⟩)}
theorem mU.frame{w w':World}{q p:Nat}{S Sf:Nat->Prop}{s:rE}{x:ByteArray}{ended:Bool}{er R C:Int}{ao:Option Addr}{n cap:Nat}{kind uF:Int}(h:mU w q p S Sf s x ended er R C ao n cap kind uF)(hk:∀x,S x->w'.heap[x]?=w.heap[x]?)(dU:w.heap.size<=w'.heap.size):mU w' q p S Sf s x ended er R C ao n cap kind uF:=⟨(hk q h.hq).trans h.arr,h.rd.frame (λz hz=>hk z (by rcases hz with rfl|hz;{exact h.hp};exact h.hs z hz)) dU,h.hq,h.hp,h.hs,h.ne,h.nq,λz hz=>ax (h.lt z hz) dU,h.st.frame hk dU⟩
theorem mU.below{w w':World}{q p:Nat}{S Sf:Nat->Prop}{s:rE}{x:ByteArray}{ended:Bool}{er R C:Int}{ao:Option Addr}{n cap:Nat}{kind uF:Int}(h:mU w q p S Sf s x ended er R C ao n cap kind uF)(b:Below w.heap.size w w'):mU w' q p S Sf s x ended er R C ao n cap kind uF:=h.frame (λz hz=>b.block z (h.lt z hz)) b.size
theorem jW.frame{w w':World}{q m:Nat}{S:Nat->Prop}(h:jW w q S m)(hk:∀x,S x->w'.heap[x]?=w.heap[x]?)(dU:w.heap.size<=w'.heap.size):jW w' q S m:=by obtain⟨p,Sf,s,x,ended,er,R,C,ao,n,cap,kind,uF,h,hm⟩:=h;exact⟨p,Sf,s,x,ended,er,R,C,ao,n,cap,kind,uF,h.frame hk dU,hm⟩
theorem jW.lt{w:World}{q m:Nat}{S:Nat->Prop}(h:jW w q S m):∀z,S z->z<w.heap.size:=by obtain⟨p,Sf,s,x,ended,er,R,C,ao,n,cap,kind,uF,h,hm⟩:=h;exact h.lt
theorem jW.new{w:World}{q p:Nat}(ha:aD w q 41 (yB p ⟨#[]⟩ false 0 0 0 (.slice none 0 0) 0 0))(hr:dA w p (λ_=>False) .begin)(hne:p≠q):jW w q (λz=>z=q\/z=p) 0:=⟨p,_,.begin,⟨#[]⟩,false,0,0,0,none,0,0,0,0,⟨ha,hr,.inl rfl,.inr rfl,λz h=>h.elim,hne,λh=>h,λz hz=>by rcases hz with rfl|rfl;{exact ha.lt};{exact hr.FN},.inl ⟨rfl,rfl,rfl⟩⟩,aj _⟩
theorem mU.called{w w':World}{q p:Nat}{S Sf:Nat->Prop}{s s':rE}{x:ByteArray}{ended:Bool}{er R C:Int}{ao:Option Addr}{n cap:Nat}{kind uF:Int}(h:mU w q p S Sf s x ended er R C ao n cap kind uF)(hc:NI w p Sf s' w'):Kept S w w'/\aD w' q 41 (yB p x ended er R C (.slice ao n cap) kind uF)/\∃m8:Nat->Prop,(∀z,m8 z->S z\/w.heap.size<=z)/\dA w' p m8 s'/\¬m8 q/\∀(R' C':Nat)(f:Nat->Nat->Nat),gL 0 w (.slice ao n cap) R' C' f->GJ q p S Sf (.slice ao n cap) (R'*C')->gL 0 w' (.slice ao n cap) R' C' f/\GJ q p S m8 (.slice ao n cap) (R'*C'):=by
 obtain⟨hk,m8,h1,h2⟩:=hc;refine⟨hk.mono (λz hz=>by rcases hz with rfl|hz;{exact h.hp};exact h.hs z hz),hk.arr h.arr (λhz=>by rcases hz with hz|hz;{exact h.ne hz.symm};exact h.nq hz),m8,λz hz=>(h1 z hz).imp (h.hs z) id,h2,λhz=>?_,λR' C' f hb ho=>⟨hb.frame (λg n cap e h0=>?_) hk.size,λg n cap e h0=>?_⟩⟩
 {rcases h1 q hz with h3|h3;{exact h.nq h3};{have:=h.arr.lt;omega}};{obtain⟨o1,o2,o3,o4⟩:=ho g n cap e h0;exact hk.block g (h.lt g o1) (λhz=>by rcases hz with hz|hz;{exact o2 hz};exact o4 hz)}
 {obtain⟨o1,o2,o3,o4⟩:=ho g n cap e h0;refine⟨o1,o2,o3,λhz=>?_⟩;rcases h1 g hz with h3|h3;{exact o4 h3};{have:=h.lt g o1;omega}}
theorem dA.off{W:World}{p q:Nat}{Sf:Nat->Prop}{s:rE}(h:dA W p Sf s)(hne:p≠q)(Wx:¬Sf q)(i:Nat)(v:Value):dA (W.setCell ⟨q,i,none⟩ v) p Sf s:=h.frame (λz hz=>Below.heap_setCell _ _ _ _ (λe=>by have e':z=q:=e;rcases hz with hz|hz;{exact hne (hz.symm.trans e')};{exact Wx (e'▸hz)})) (by simp[World.setCell])
theorem mU.make{w w':World}{q p m:Nat}{S m8 T:Nat->Prop}{s':rE}{x:ByteArray}{ended:Bool}{er R C:Int}{ao:Option Addr}{n cap:Nat}{kind uF:Int}(hk:Kept S w w')(hq:S q)(hp:S p)(hne:p≠q)(hS:∀z,S z->z<w.heap.size)(hSf:∀z,m8 z->S z\/w.heap.size<=z)(hr:dA w' p m8 s')(Wx:¬m8 q)(ha:aD w' q 41 (yB p x ended er R C (.slice ao n cap) kind uF))(hT:∀z,T z->w.heap.size<=z/\z<w'.heap.size)(mB:Fs w' q p (λz=>S z\/m8 z\/T z) m8 s' x ended er R C (.slice ao n cap) kind)(hm:x.size<=m):my w q S m w':=by
 refine⟨hk,λz=>S z\/m8 z\/T z,λz hz=>?_,p,m8,s',x,ended,er,R,C,ao,n,cap,kind,uF,⟨ha,hr,.inl hq,.inl hp,λz hz=>.inr (.inl hz),hne,Wx,λz hz=>?_,mB⟩,hm⟩;{rcases hz with hz|hz|hz;{exact .inl hz};{exact hSf z hz};{exact .inr (hT z hz).1}}
 {rcases hz with hz|hz|hz;{exact ax (hS z hz) hk.size};{exact hr.lt z hz};{exact(hT z hz).2}}
theorem Pg{x y:List UInt8}{s s':rE}{er:Int}(hs:hU .begin x=(0,s))(hr:hU s y=(er,s')):hU .begin (x++y)=(er,s')/\(er≠0->s'=.failed er):=by
 have h:hU .begin (x++y)=(er,s'):=by rw[Pj,hs];exact hr
 refine⟨h,λhe=>?_⟩;have:=Ph (s:=.begin) (l:=x++y) (.inl rfl) (e:=er) (by rw[h]) he;rw[h]at this;exact this
theorem E0(w:World)(q m:Nat)(S:Nat->Prop)(y:ByteArray)(h:jW w q S m)(hm:m+y.size<=20000000000000):Calls prog 13 #[.pointer (some ⟨q,0,none⟩),.string y] w λe w'=>e=.returned (.bool true)/\my w q S (m+y.size) w':=by
 obtain⟨p,Sf,s,x,ended,er,R,C,ao,n,cap,kind,uF,h,hxm⟩:=h;have DK:=hid (Tu w p Sf s y (by unfold maxLen;omega) h.rd);obtain⟨r,hr⟩:∃r,hU s y.data.toList=r:=⟨_,rfl⟩
 rw[hr]at DK;have HR:=hid hr;have H:=hid h;have c0:=h.arr.cell (i:=0) rfl;clear h hr;go_enter func13,ntmps13;go_wp2_with fail;refine DK.out.mono ?_;rintro e W1⟨rfl,hc⟩
 clear DK c0;obtain⟨DT,AG,m8,AJ,uh,Wx,M0⟩:=H.out.called hc;clear hc;have c1:=AG.cell (i:=1) rfl;have c2:=AG.cell (i:=2) rfl;have c3:=AG.cell (i:=3) rfl;have PU:=hid DT
 have j6:=hid AG;have xU:=hid AJ;have wP:=hid uh;have Qc:=hid Wx;have HBT:=hid M0;clear DT AG AJ uh Wx M0;obtain⟨Gp,s'⟩:=r;simp only at wP;have qD:Hid (Fs W1 q p (λz=>S z\/m8 z\/False) m8 s' x ended er R C (.slice ao n cap) kind->my w q S (m+y.size) W1):=λmB=>mU.make PU.out H.out.hq H.out.hp H.out.ne H.out.lt xU.out wP.out Qc.out j6.out (T:=λ_=>False) (λz h=>h.elim) mB (by omega)
 rcases H.out.st with⟨rfl,rfl,hs⟩|⟨h1,h2⟩|⟨rfl,rfl,k,R',C',f,hs,Sy⟩;{
 obtain⟨Yy,OX⟩:=Pg hs HR.out;have e1:(x++y).data.toList=x.data.toList++y.data.toList:=by rw[rp,uD]
 rw[<-e1]at Yy;have Qh:=hid Yy;have rF:=hid OX;clear qD HR Yy OX hs e1;have f1:=j6.out.frozen 1;have dU:(x++y).size=x.size+y.size:=by rw[dP]
 obtain⟨u,hu⟩:∃u,x++y=u:=⟨_,rfl⟩;rw[hu]at Qh dU;have lj:=hid dU;clear dU;have wK:(x.size:Int)+y.size<=20000000000000:=by omega
 have adz:x.size+y.size<=20000000000000:=by omega
 obtain⟨W2,Pp⟩:∃W2,W1.setCell ⟨q,1,none⟩ (.string u)=W2:=⟨_,rfl⟩;have a2:aD W2 q 41 (yB p u false 0 R C (.slice ao n cap) kind uF):=by rw[<-Pp];exact j6.out.set 1 _
 have r2:dA W2 p m8 s':=by rw[<-Pp];exact wP.out.off H.out.ne Qc.out 1 _
 have k2:Kept S w W2:=by rw[<-Pp];exact PU.out.trans (Kept.set (S:=S) H.out.hq _) (λz h=>.inl h)
 have gU:W2.heap.size=W1.heap.size:=by rw[<-Pp];simp[World.setCell]
 have d1:=a2.cell (i:=1) rfl;have lF:=hid (EQ W2 u (by have:=lj.out;omega) false);have hrf:(ub u.data.toList false).1=Gp:=by rw[Rg,Qh.out]
 have iL:=hid a2;have nR:=hid r2;have zo:=hid k2;have HZ2:=hid gU;clear a2 r2 k2 gU PU wP j6;go_wp2_with fail;refine lF.out.mono ?_;rintro e W3⟨R9,C9,k9,zi,n9,nk,rfl,n8,_⟩
 rw[hrf];clear hrf lF Pp d1 f1 c1 c2 c3 hu;unfold cO;obtain⟨s3,hs3⟩:∃s3,W3.heap.size=s3:=⟨_,rfl⟩;obtain⟨W4,AQ⟩:∃W4,W3.alloc (.cells #[.int .i64 R9,.int .i64 C9,.slice zi n9 nk,.int .i64 k9,.int .i64 Gp] 39)=W4:=⟨_,rfl⟩
 have b4:Below W2.heap.size W2 W4:=by rw[<-AQ];exact n8.alloc n8.size _
 have a4:=iL.out.az b4;have g4:W4.cell? ⟨s3,4,none⟩=some (.int .i64 Gp):=by(have:aD W4 s3 39 [.int .i64 R9,.int .i64 C9,.slice zi n9 nk,.int .i64 k9,.int .i64 Gp]:=by rw[<-AQ,<-hs3];exact aD.dT W3 _ _);exact this.cell (i:=4) rfl
 have d3:=a4.cell (i:=3) rfl;have f3:=a4.frozen 3;obtain⟨W5,eW5⟩:∃W5,W4.setCell ⟨q,3,none⟩ (.int .i64 Gp)=W5:=⟨_,rfl⟩;have a5:aD W5 q 41 (yB p u false Gp R C (.slice ao n cap) kind uF):=by rw[<-eW5];exact a4.set 3 _
 have r4:dA W4 p m8 s':=nR.out.below b4;have r5:dA W5 p m8 s':=by rw[<-eW5];exact r4.off H.out.ne Qc.out 3 _
 have k5:Kept S w W5:=by rw[<-eW5];exact(zo.out.trans (Kept.cK (S:=S) b4) (λz h=>.inl h)).trans (Kept.set (S:=S) H.out.hq _) (λz h=>.inl h)
 have g5:=a5.cell (i:=3) rfl;have ci:my w q S (m+y.size) W5:=mU.make k5 H.out.hq H.out.hp H.out.ne H.out.lt xU.out r5 Qc.out a5 (T:=λ_=>False) (λz h=>h.elim) (by by_cases he:Gp=0;{subst he;exact .inl ⟨rfl,rfl,Qh.out⟩};{exact .inr (.inl ⟨he,rF.out he⟩)}) (by have:=lj.out;omega)
 have ej:=hid ci;clear ci k5 r5 r4 a5 a4 b4 n8 iL nR zo HZ2 Qh rF;go_wp2;go_ret;exact⟨by simp,ej.out⟩};{
 subst h2;have he:Gp=er/\s'=.failed er:=by have:=HR.out;simp only[hU]at this;cases this;exact⟨rfl,rfl⟩
 obtain⟨rfl,rfl⟩:=he;have ej:=hid (qD.out (.inr (.inl ⟨h1,rfl⟩)));have P6:(Gp==0)=false:=by simpa using h1
 clear qD;cases ended;{go_wp2;go_ret;exact⟨by simp,ej.out⟩};{go_wp2;go_ret;exact⟨by simp,ej.out⟩}};{
 subst hs;have he:Gp=11/\s'=.ended k R' C' f:=by have:=HR.out;simp only[hU]at this;cases this;exact⟨rfl,rfl⟩
 obtain⟨rfl,rfl⟩:=he;obtain⟨g1,g2,g3,g4,g5,g6,g7⟩:=Sy;obtain⟨kg,kL⟩:=HBT.out R' C' f g6 g7;have ej:=hid (qD.out (.inr (.inr ⟨rfl,rfl,k,R',C',f,rfl,g1,g2,g3,g4,g5,kg,λg l cap e h0=>(kL g l cap e h0).imp (λh=>.inl h) id⟩)))
 clear qD g1 g2 g3 g6 g7 kg kL;go_wp2;go_ret;exact⟨by simp,ej.out⟩}
theorem sY{W:World}{q i g:Nat}{v:Value}(hg:g≠q):(W.setCell ⟨q,i,none⟩ v).heap[g]?=W.heap[g]?:=Below.heap_setCell _ _ _ _ hg
theorem OD{W:World}{q p:Nat}{x:ByteArray}{R C:Int}{bits:Value}{kind uF:Int}(h:aD W q 41 (yB p x false 0 R C bits kind uF))(R9 C9:Int)(b9:Value)(k9 r1:Int):∃Z1 Z2 Z3 Z4 Z5 Z6 Z7:World,W.setCell ⟨q,4,none⟩ (.int .i64 R9)=Z1/\Z1.setCell ⟨q,5,none⟩ (.int .i64 C9)=Z2/\Z2.setCell ⟨q,6,none⟩ b9=Z3/\Z3.setCell ⟨q,7,none⟩ (.int .i64 k9)=Z4/\Z4.setCell ⟨q,8,none⟩ (.int .i64 r1)=Z5/\Z5.setCell ⟨q,3,none⟩ (.int .i64 r1)=Z6/\Z6.setCell ⟨q,2,none⟩ (.bool true)=Z7/\W.cell? ⟨q,4,none⟩=some (.int .i64 R)/\W.frozen? ⟨q,4,none⟩=false/\Z1.cell? ⟨q,5,none⟩=some (.int .i64 C)/\Z1.frozen? ⟨q,5,none⟩=false/\Z2.cell? ⟨q,6,none⟩=some bits/\Z2.frozen? ⟨q,6,none⟩=false/\Z3.cell? ⟨q,7,none⟩=some (.int .i64 kind)/\Z3.frozen? ⟨q,7,none⟩=false/\Z4.cell? ⟨q,8,none⟩=some (.int .i64 uF)/\Z4.frozen? ⟨q,8,none⟩=false/\Z5.cell? ⟨q,8,none⟩=some (.int .i64 r1)/\Z5.cell? ⟨q,3,none⟩=some (.int .i64 0)/\Z5.frozen? ⟨q,3,none⟩=false/\Z6.cell? ⟨q,2,none⟩=some (.bool false)/\Z6.frozen? ⟨q,2,none⟩=false/\Hid (aD Z7 q 41 (yB p x true r1 R9 C9 b9 k9 r1))/\Hid (∀g,g≠q->Z7.heap[g]?=W.heap[g]?)/\Hid (Z7.heap.size=W.heap.size)/\Hid (Kept (λz=>z=q) W Z7):=by
 have h1:=h.set 4 (.int .i64 R9);have h2:=h1.set 5 (.int .i64 C9);have h3:=h2.set 6 b9;have h4:=h3.set 7 (.int .i64 k9);have h5:=h4.set 8 (.int .i64 r1);have h6:=h5.set 3 (.int .i64 r1)
 have h7:=h6.set 2 (.bool true);have ks:∀(A:World)(i:Nat)(v:Value),Kept (λz=>z=q) A (A.setCell ⟨q,i,none⟩ v):=λA i v=>Kept.set (S:=λz=>z=q) rfl v;have t:∀{A B D:World},Kept (λz=>z=q) A B->Kept (λz=>z=q) B D->Kept (λz=>z=q) A D:=λa b=>a.trans b (λz h=>.inl h)
 exact⟨_,_,_,_,_,_,_,rfl,rfl,rfl,rfl,rfl,rfl,rfl,h.cell (i:=4) rfl,h.frozen 4,h1.cell (i:=5) rfl,h1.frozen 5,h2.cell (i:=6) rfl,h2.frozen 6,h3.cell (i:=7) rfl,h3.frozen 7,h4.cell (i:=8) rfl,h4.frozen 8,h5.cell (i:=8) rfl,h5.cell (i:=3) rfl,h5.frozen 3,h6.cell (i:=2) rfl,h6.frozen 2,h7,λg hg=>(sY hg).trans ((sY hg).trans ((sY hg).trans ((sY hg).trans ((sY hg).trans ((sY hg).trans (sY hg)))))),by show _=_;simp[World.setCell],t (t (t (t (t (t (ks _ _ _) (ks _ _ _)) (ks _ _ _)) (ks _ _ _)) (ks _ _ _)) (ks _ _ _)) (ks _ _ _)⟩
theorem RT(w:World)(q m:Nat)(S:Nat->Prop)(h:jW w q S m)(hm:m<=20000000000000):Calls prog 14 #[.pointer (some ⟨q,0,none⟩)] w λe w'=>e=.returned (.bool true)/\my w q S m w':=by
 obtain⟨p,Sf,s,x,ended,er,R,C,ao,n,cap,kind,uF,h,hxm⟩:=h;have HED:=hid (Rf w p Sf s h.rd);obtain⟨r,hr⟩:∃r,qq s=r:=⟨_,rfl⟩;rw[hr]at HED;have HR:=hid hr;have H:=hid h
 have c0:=h.arr.cell (i:=0) rfl;clear h hr;obtain⟨⟨R1,C1,k1⟩,Gp,s'⟩:=r;simp only at HED;go_enter func14,ntmps14;go_wp2_with fail;refine HED.out.mono ?_;rintro e W1⟨rfl,hc⟩
 clear HED c0;obtain⟨DT,AG,m8,AJ,uh,Wx,M0⟩:=H.out.called hc;clear hc;have PU:=hid DT;have j6:=hid AG;have xU:=hid AJ;have wP:=hid uh;have Qc:=hid Wx;have HBT:=hid M0
 clear DT AG AJ uh Wx M0;obtain⟨W2,Pp⟩:∃W2,W1.alloc (.cells #[.int .i64 (R1:Int),.int .i64 (C1:Int),.int .i64 (k1:Int)] 62)=W2:=⟨_,rfl⟩;obtain⟨s1,J5⟩:∃s1,W1.heap.size=s1:=⟨_,rfl⟩
 have b2:Below W1.heap.size W1 W2:=by rw[<-Pp];exact Below.cj _ _
 have I7:aD W2 s1 62 [.int .i64 (R1:Int),.int .i64 (C1:Int),.int .i64 (k1:Int)]:=by rw[<-Pp,<-J5];exact aD.dT W1 _ _
 have a2:=j6.out.az b2;have r2:=wP.out.below b2;have k2:Kept S w W2:=PU.out.trans (Kept.cK (S:=S) b2) (λz h=>.inl h);have MO:q<s1:=by have:=j6.out.lt;omega
 have kL:∀(R' C':Nat)f,gL 0 W1 (.slice ao n cap) R' C' f->gL 0 W2 (.slice ao n cap) R' C' f:=λR' C' f h=>h.below b2;have gD:=hid kL;have GY:=hid I7;have iL:=hid a2
 have nR:=hid r2;have zo:=hid k2;have c1:=a2.cell (i:=1) rfl;have c2:=a2.cell (i:=2) rfl;have c3:=a2.cell (i:=3) rfl;have f2:=a2.frozen 2;clear kL I7 a2 r2 k2 b2 j6 wP PU
 rcases H.out.st with⟨rfl,rfl,hs⟩|⟨h1,h2⟩|⟨rfl,rfl,k,R',C',f,hs,Sy⟩;{
 have hrd:=EQ W2 x (by omega) true;have Ek:(hU .begin x.data.toList).1=0:=by rw[hs]
 have LC:=Oe Ek;have tD:(hU .begin x.data.toList).2=s:=by rw[hs]
 rw[tD,HR.out]at LC;have lF:=hid hrd;have Qi:=hid LC;clear hrd LC Ek tD hs HR;go_wp2_with fail;refine lF.out.mono ?_;rintro e W3⟨R9,C9,k9,zi,n9,nk,rfl,n8,hf9⟩;obtain⟨⟨r1,r2⟩,hr⟩:∃r,ub x.data.toList true=r:=⟨_,rfl⟩
 rw[hr]at Qi hf9;rw[hr];simp only at hf9;simp only;clear hr lF Pp c1 c2 c3 f2;unfold cO;have a3:=iL.out.az n8;have r3:=nR.out.below n8;have k3:Kept S w W3:=zo.out.trans (Kept.cK (S:=S) n8) (λz h=>.inl h)
 have h3:=GY.out.az n8;have afp:=n8.size;have oc:∀z,m8 z->z<W2.heap.size:=nR.out.lt;have J8:p<W2.heap.size:=nR.out.FN;have hqq:q<W2.heap.size:=iL.out.lt;have gO:=zo.out.size
 obtain⟨Z1,Z2,Z3,Z4,Z5,Z6,Z7,q1,q2,q3,q4,q5,q6,q7,x4,y4,x5,y5,x6,y6,x7,y7,x8,y8,x9,x3,y3,x2,y2,Kn,HF7,HZ7,Xx⟩:=OD a3 R9 C9 (.slice zi n9 nk) k9 r1;have r7:dA Z7 p m8 s':=r3.frame (λz hz=>HF7.out z (λe=>by rcases hz with hz|hz;{exact H.out.ne (hz.symm.trans e)};{exact Qc.out (e▸hz)})) (abk HZ7.out.symm)
 have k7:Kept S w Z7:=k3.trans Xx.out (λz h=>.inl (by rw[h];exact H.out.hq));have hd7:aD Z7 s1 62 [.int .i64 (R1:Int),.int .i64 (C1:Int),.int .i64 (k1:Int)]:=(HF7.out s1 (by omega)).trans h3
 have e0:=hd7.cell (i:=0) rfl;have e1:=hd7.cell (i:=1) rfl;have e2:=hd7.cell (i:=2) rfl;have w3:=Kn.out.cell (i:=3) rfl;have w4:=Kn.out.cell (i:=4) rfl;have w5:=Kn.out.cell (i:=5) rfl
 have w7:=Kn.out.cell (i:=7) rfl;have HR7:=hid r7;have Xw:=hid k7;clear a3 r3 k3 h3 r7 k7 hd7 GY iL zo gD;rcases Qi.out with⟨er,hr,hne,Ge⟩|⟨k,R',C',f,hr,Ge⟩;{
 cases hr;simp only[jE]at Ge;obtain⟨⟨rfl,rfl,rfl⟩,rfl,rfl⟩:=Ge;have ej:Hid (my w q S m Z7):=mU.make Xw.out H.out.hq H.out.hp H.out.ne H.out.lt xU.out HR7.out Qc.out Kn.out (T:=λ_=>False) (λz h=>h.elim) (.inr (.inl ⟨hne,rfl⟩)) hxm
 have P6:(Gp==0)=false:=by simpa using hne
 have h1b:(Gp !=0)=true:=by simpa using hne
 clear Qi Kn HF7 HZ7 Xx HR7 Xw hf9 n8;go_wp2;go_ret;exact⟨by simp,ej.out⟩};{
 cases hr;simp only[jE]at Ge;obtain⟨⟨rfl,rfl,rfl⟩,rfl,rfl⟩:=Ge;obtain⟨rfl,rfl,rfl,g4,g5,g6,g7⟩:=hf9 _ _ _ _ rfl;have BN:∀g l cp,Value.slice zi n9 nk=.slice (some ⟨g,0,none⟩) l cp->R1*C1≠0->W2.heap.size<=g/\g<W3.heap.size:=λg l cp e h0=>by obtain⟨ao,cap,e2,hh⟩:=g7;rcases hh with hh|⟨g',e3,h1,h2,_⟩;{exact(h0 hh).elim};{rw[e2]at e;injection e with e _ _;rw[e3]at e;cases e;exact⟨h1,h2⟩}
 have hbz:gL 0 Z7 (.slice zi n9 nk) R1 C1 f:=(g7.mono (ap _)).frame (λg l cp e h0=>HF7.out g (by have:=BN g l cp e h0;omega)) (abk HZ7.out.symm);have ej:Hid (my w q S m Z7):=mU.make Xw.out H.out.hq H.out.hp H.out.ne H.out.lt xU.out HR7.out Qc.out Kn.out (T:=λz=>W2.heap.size<=z/\z<Z7.heap.size) (λz h=>⟨by omega,h.2⟩) (.inr (.inr ⟨rfl,rfl,k1,R1,C1,f,rfl,rfl,rfl,rfl,g5,g6,hbz,λg l cp e h0=>by have:=BN g l cp e h0;exact⟨.inr (.inr ⟨this.1,by rw[HZ7.out];exact this.2⟩),by omega,by omega,λh=>by have:=oc g h;omega⟩⟩)) hxm
 clear Qi Kn HF7 HZ7 Xx HR7 Xw n8 hbz BN g7;go_wp2_with fail;go_quiet(fail);go_wp2;go_ret;refine⟨by simp,?_⟩;obtain⟨hk,S',h1,h2⟩:=ej.out;exact⟨hk.trans (Kept.drewN (S:=S) _) (λz h=>.inl h),S',h1,h2.frame (λ_ _=>rfl) (aj _)⟩}}
 {
 subst h2;have he:Gp=er/\s'=.failed er/\R1=0/\C1=0/\k1=0:=by have:=HR.out;simp only[qq]at this;cases this;exact⟨rfl,rfl,rfl,rfl,rfl⟩
 obtain⟨rfl,rfl,Eu,hC1,DT⟩:=he;have t1:((R1:Int)==0)=true:=by rw[Eu];rfl
 have t2:((C1:Int)==0)=true:=by rw[hC1];rfl
 have t3:((k1:Int)==0)=true:=by rw[DT];rfl
 clear Eu hC1 DT;have P6:(Gp==0)=false:=by simpa using h1
 have h1b:(Gp !=0)=true:=by simpa using h1
 obtain⟨W3,Va⟩:∃W3,W2.setCell ⟨q,2,none⟩ (.bool true)=W3:=⟨_,rfl⟩;have a3:aD W3 q 41 (yB p x true Gp R C (.slice ao n cap) kind uF):=by rw[<-Va];exact iL.out.set 2 _
 have r3:dA W3 p m8 (.failed Gp):=by rw[<-Va];exact nR.out.off H.out.ne Qc.out 2 _
 have k3:Kept S w W3:=by rw[<-Va];exact zo.out.trans (Kept.set (S:=S) H.out.hq _) (λz h=>.inl h)
 have h3:aD W3 s1 62 [.int .i64 (R1:Int),.int .i64 (C1:Int),.int .i64 (k1:Int)]:=by rw[<-Va];exact GY.out.other _ (by omega)
 have ej:Hid (my w q S m W3):=mU.make k3 H.out.hq H.out.hp H.out.ne H.out.lt xU.out r3 Qc.out a3 (T:=λ_=>False) (λz h=>h.elim) (.inr (.inl ⟨h1,rfl⟩)) hxm;have d3:=a3.cell (i:=3) rfl
 have e0:=h3.cell (i:=0) rfl;have e1:=h3.cell (i:=1) rfl;have e2:=h3.cell (i:=2) rfl;clear a3 r3 k3 h3 GY iL nR zo gD HR;cases ended;{go_wp2;go_ret;exact⟨by simp,ej.out⟩}
 {go_wp2;go_ret;exact⟨by simp,ej.out⟩}};{
 subst hs;have he:Gp=0/\s'=.ended k R' C' f/\R1=R'/\C1=C'/\k1=k:=by have:=HR.out;simp only[qq]at this;cases this;exact⟨rfl,rfl,rfl,rfl,rfl⟩
 obtain⟨rfl,rfl,rfl,rfl,rfl⟩:=he;obtain⟨rfl,rfl,rfl,g4,g5,g6,g7⟩:=Sy;obtain⟨kg,kL⟩:=HBT.out R1 C1 f g6 g7;have Jc:=gD.out R1 C1 f kg;obtain⟨W3,Va⟩:∃W3,W2.setCell ⟨q,2,none⟩ (.bool true)=W3:=⟨_,rfl⟩
 have a3:aD W3 q 41 (yB p x true 0 R1 C1 (.slice ao n cap) k1 uF):=by rw[<-Va];exact iL.out.set 2 _
 have r3:dA W3 p m8 (.ended k1 R1 C1 f):=by rw[<-Va];exact nR.out.off H.out.ne Qc.out 2 _
 have k3:Kept S w W3:=by rw[<-Va];exact zo.out.trans (Kept.set (S:=S) H.out.hq _) (λz h=>.inl h)
 have h3:aD W3 s1 62 [.int .i64 (R1:Int),.int .i64 (C1:Int),.int .i64 (k1:Int)]:=by rw[<-Va];exact GY.out.other _ (by omega)
 have O1:gL 0 W3 (.slice ao n cap) R1 C1 f:=by rw[<-Va];exact Jc.frame (λg l cp e h0=>Below.heap_setCell _ _ _ _ (λe2=>(kL g l cp e h0).2.2.1 e2)) (by simp[World.setCell])
 have ej:Hid (my w q S m W3):=mU.make k3 H.out.hq H.out.hp H.out.ne H.out.lt xU.out r3 Qc.out a3 (T:=λ_=>False) (λz h=>h.elim) (.inr (.inr ⟨rfl,rfl,k1,R1,C1,f,rfl,rfl,rfl,rfl,g4,g5,O1,λg l cap e h0=>(kL g l cap e h0).imp (λh=>.inl h) id⟩)) hxm
 have d3:=a3.cell (i:=3) rfl;have d4:=a3.cell (i:=4) rfl;have d5:=a3.cell (i:=5) rfl;have d7:=a3.cell (i:=7) rfl;have e0:=h3.cell (i:=0) rfl;have e1:=h3.cell (i:=1) rfl
 have e2:=h3.cell (i:=2) rfl;clear a3 r3 k3 h3 GY iL nR zo gD HR kg kL Jc O1 g6 g7 HBT;go_wp2_with fail;go_quiet(fail);go_wp2;go_ret;refine⟨by simp,?_⟩;obtain⟨hk,S',h1,h2⟩:=ej.out
 exact⟨hk.trans (Kept.drewN (S:=S) _) (λz h=>.inl h),S',h1,h2.frame (λ_ _=>rfl) (aj _)⟩}
end Go.Proofs.YthdcceackfdbbaaGreatDoor
