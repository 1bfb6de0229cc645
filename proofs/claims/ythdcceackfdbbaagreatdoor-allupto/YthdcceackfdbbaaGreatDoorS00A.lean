import Derived.Test.YthdcceackfdbbaaGreatDoorRows
import Derived.Test.YthdcceackfdbbaaGreatDoorSA
import Derived.WalkKit
import Derived.ProofKit
import Derived.OpenShut
import Derived.Deep.DeepHandedRow
import Derived.Lib.LaidTab
import Derived.Lib.ItoaNum
import Derived.BigQuiet
import Derived.RangeFuncNested
import Derived.RangeFuncBound
import Derived.Lib.OthersKept
import Derived.OwnWalkIn
set_option linter.unusedSimpArgs false
open Go.RowKit Go.Proofs.Tryz
namespace Go.Proofs.YthdcceackfdbbaaGreatDoor
section
open Go.ChangeShapes Go.WideShapes Go.ChangeAt
theorem adu:ownKnob prog.godebug=none:=by kernel_rfl
def aaJ:DataW Unit->List Value
 |.agg l=>l.flatMap λx=>match x with
  |.lit (.int k n)=>[Value.int k n]|.agg m=>m.flatMap λy=>match y with|.lit (.int k n)=>[Value.int k n]|_=>[]
  |_=>[]
 |_=>[]
def yC(d:DataW Unit):Obj->Obj|.cells _ t frozen=>.cells (aaJ d).toArray t frozen|o=>o
noncomputable def zI(os:Os):World:={World.holding prog os ⟨#[],#[],[]⟩with heap:=(((((World.holding prog os ⟨#[],#[],[]⟩).heap.modify 0 (yC Rows.laid_internal_strconv_uint64pow10)).modify 4 (yC Rows.laid_math_bits_deBruijn32tab)).modify 5 (yC Rows.laid_math_bits_deBruijn64tab)).modify 2 (yC Rows.laid_unicode_utf8_first)).modify 3 (yC Rows.laid_unicode_utf8_acceptRanges)}
theorem aaG:prog.globalNamed "internal/strconv.uint64pow10"=some 0/\prog.globalNamed "math/bits.deBruijn32tab"=some 4/\prog.globalNamed "math/bits.deBruijn64tab"=some 5/\prog.globalNamed "unicode/utf8.first"=some 2/\prog.globalNamed "unicode/utf8.acceptRanges"=some 3:=⟨by kernel_rfl,by kernel_rfl,by kernel_rfl,by kernel_rfl,by kernel_rfl⟩
theorem acm:prog.globalNamed "internal/strconv.uint64pow10"=some 0:=aaG.1
theorem Tm:(prog.globals[0]?).map (·.type)=some 294:=by kernel_rfl
theorem TQ:prog.cellsOf 294=20:=by kernel_rfl
theorem Jz:prog.cellsOf 65=1:=by kernel_rfl
theorem Rp{H:Type}:(Rows.laid_internal_strconv_uint64pow10:DataW H)=Lib.tabData .u64 Lib.pow10Tab:=rfl
theorem H6{W:World}{n1 n2:String}{d1 d2:DataW Unit}{rest:List (String×DataW Unit)}(h:laidMet prog ((n1,d1)::(n2,d2)::("internal/strconv.uint64pow10",Rows.laid_internal_strconv_uint64pow10)::rest) W):Lib.TabIs prog W "internal/strconv.uint64pow10" .u64 Lib.pow10Tab:=by
 obtain⟨ps,⟨g1,t1,cs1,f1,p1,q1,U0,ht1,J3,YB,⟨g2,t2,cs2,f2,p2,q2,E8,OP,ur,BO,⟨g',t',cs,fuel,p,q,U1,ht',adF,hd,_,_⟩,_⟩,_⟩,_⟩:=h;obtain rfl:=cI (acm.symm.trans U1)
 obtain rfl:=cI (Tm.symm.trans ht');unfold Lib.TabIs;rw[Rp]at hd;rw[adF,<-Lib.cells_of_tab underlying294 underlying65 Jz TQ hd]
end
def tN(h b i:Nat):Nat:=if(b>>>i+h)%2=1 then(h>>>1)^^^3988292384 else h>>>1
def kZ(h b:Nat):Nat->Nat|0=>h|i+1=>tN (kZ h b i) b i
theorem Px{h b i:Nat}(hh:h<4294967296):tN h b i<4294967296:=by
 unfold tN;have h1:h>>>1<2^32:=by rw[iJ];omega
 split;{exact afj h1 (by decide)};{exact h1}
theorem vz{h b:Nat}(hh:h<4294967296):∀i,kZ h b i<4294967296|0=>hh|i+1=>Px (vz hh i)
def qX(h:Nat)(l:List UInt8):Nat:=l.foldl (λh b=>kZ h b.toNat 8) h
theorem Jv(h:Nat)(b:UInt8)(l:List UInt8):qX h (b::l)=qX (kZ h b.toNat 8) l:=by unfold qX;rw[iH]
theorem Py{h:Nat}(hh:h<4294967296)(l:List UInt8):qX h l<4294967296:=by induction l generalizing h with|nil=>exact hh|cons b r ih=>have:=ih (vz (b:=b.toNat) hh 8);rw[Jv];exact this
theorem AV(h:Nat)(l:List UInt8)(b:UInt8):qX h (l++[b])=kZ (qX h l) b.toNat 8:=by simp[qX,qe]
def fY(h:Nat):Nat:=4294967295-h
def hZ(l:List UInt8):Nat:=fY (qX 4294967295 l)
theorem flip_flip{h:Nat}(hh:h<4294967296):fY (fY h)=h:=by unfold fY;omega
theorem yh(l:List UInt8):hZ l<4294967296:=by unfold hZ fY;omega
theorem Hk:hZ []=0:=rfl
theorem EN(l:List UInt8)(b:UInt8):hZ (l++[b])=fY (kZ (fY (hZ l)) b.toNat 8):=by unfold hZ;rw[AV,flip_flip (Py (by omega) l)]
theorem Jk{h:Nat}(hh:h<4294967296):h^^^4294967295=fY h:=by
 have:=DZ (x:=h^^^4294967295) (y:=fY h) λi=>by unfold fY;rw[show 4294967295-h=2^32-(h+1)by omega,Nat.testBit_two_pow_sub_succ (by omega),Nat.testBit_xor];rw[show(4294967295:Nat)=2^32-1 by rfl,Nat.testBit_two_pow_sub_one];by_cases hi:i<32;{simp[hi]};{have:h.testBit i=false:=Nat.testBit_lt_two_pow (ax hh (by rw[show 4294967296=2^32 by rfl];exact aF (by omega) (by omega)));simp[hi,this]}
 exact this
def gu(x:Nat):Nat->List UInt8|0=>[]|n+1=>gu x n++[UInt8.ofNat (x/256^n%256)]
theorem eK(x:Nat):∀n,(gu x n).length=n|0=>rfl|n+1=>by simp[gu,eK x n]
def Fit(R C:Nat)(off rs cs:Int)(n:Nat):Prop:=(∀i j:Nat,i<R->j<C->0<=off+i*rs+j*cs/\off+i*rs+j*cs<n)/\(∀i j i' j':Nat,i<R->j<C->i'<R->j'<C->off+i*rs+j*cs=off+i'*rs+j'*cs->i=i'/\j=j')
theorem between{i m:Nat}(s:Int)(h:i<=m):(0<=(i:Int)*s/\(i:Int)*s<=m*s)\/((m:Int)*s<=i*s/\(i:Int)*s<=0):=by by_cases hs:0<=s;{left;exact⟨Int.mul_nonneg (by omega) hs,Int.mul_le_mul_of_nonneg_right (by omega) hs⟩};{right;exact⟨Int.mul_le_mul_of_nonpos_right (by omega) (by omega),Int.mul_nonpos_of_nonneg_of_nonpos (by omega) (by omega)⟩}
def tZ(R C:Nat)(off rs cs:Int)(n:Nat):Prop:=(0<=off/\off<n)/\(0<=off+((R-1:Nat):Int)*rs/\off+((R-1:Nat):Int)*rs<n)/\(0<=off+((C-1:Nat):Int)*cs/\off+((C-1:Nat):Int)*cs<n)/\(0<=off+((R-1:Nat):Int)*rs+((C-1:Nat):Int)*cs/\off+((R-1:Nat):Int)*rs+((C-1:Nat):Int)*cs<n)
theorem xD{R C:Nat}{off rs cs:Int}{n:Nat}(hR:0<R)(hC:0<C):tZ R C off rs cs n↔∀i j:Nat,i<R->j<C->0<=off+i*rs+j*cs/\off+i*rs+j*cs<n:=by
 constructor;{
 rintro⟨h1,h2,h3,h4⟩i j hi hj;have b1:=between rs (show i<=R-1 by omega);have b2:=between cs (show j<=C-1 by omega);generalize(i:Int)*rs=x at*;generalize(j:Int)*cs=y at*
 generalize((R-1:Nat):Int)*rs=X at*;generalize((C-1:Nat):Int)*cs=Y at*;omega};{intro h;refine⟨?_,?_,?_,h (R-1) (C-1) (by omega) (by omega)⟩;{have:=h 0 0 hR hC;simpa using this};{have:=h (R-1) 0 (by omega) hC;simpa using this};{have:=h 0 (C-1) hR (by omega);simpa using this}}
def Nw(R C:Nat)(rs cs:Int):Prop:=∃d:Nat,d<R/\∃r:Int,-(C:Int)<r/\r<C/\(d≠0\/r≠0)/\(d:Int)*rs+r*cs=0
theorem Ox{R C:Nat}{off rs cs:Int}:¬Nw R C rs cs↔∀i j i' j':Nat,i<R->j<C->i'<R->j'<C->off+i*rs+j*cs=off+i'*rs+j'*cs->i=i'/\j=j':=by
 constructor;{
 intro h i j i' j' hi hj WE Er e;apply iK;intro hne;apply h;have e1:((i:Int)-i')*rs+((j:Int)-j')*cs=0:=by rw[Int.sub_mul,Int.sub_mul];omega
 by_cases mj:i'<=i;{refine⟨i-i',by omega,(j:Int)-j',by omega,by omega,by omega,?_⟩;rw[show((i-i':Nat):Int)=(i:Int)-i' by omega];exact e1};{refine⟨i'-i,by omega,(j':Int)-j,by omega,by omega,by omega,?_⟩;rw[show((i'-i:Nat):Int)=-((i:Int)-i')by omega,show(j':Int)-j=-((j:Int)-j')by omega,PZ,PZ];omega}}
 {
 rintro h⟨d,hd,r,h1,h2,h3,h4⟩;by_cases hr:0<=r;{obtain⟨k,rfl⟩:=cH hr;have:=h d k 0 0 hd (by omega) (by omega) (by omega) (by simp;omega);omega};{obtain⟨k,hk⟩:=cH (show 0<=-r by omega);(have Wt:r=-(k:Int):=by omega);subst Wt;rw[PZ]at h4;have:=h d 0 0 k hd (by omega) (by omega) (by omega) (by simp;omega);omega}}
theorem Tp{R C:Nat}{off rs cs:Int}{n:Nat}(hR:0<R)(hC:0<C):Fit R C off rs cs n↔tZ R C off rs cs n/\¬Nw R C rs cs:=by unfold Fit;rw[<-xD hR hC,<-Ox]
theorem vw{R C:Nat}{off rs cs:Int}{n:Nat}(hR:0<R)(hC:0<C)(h:Fit R C off rs cs n):(0<=off/\off<n)/\(R=1\/(-(n:Int)<rs/\rs<n))/\(C=1\/(-(n:Int)<cs/\cs<n)):=by have h0:=h.1 0 0 hR hC;simp at h0;refine⟨h0,?_,?_⟩;{by_cases e:R=1;{exact .inl e};{have:=h.1 1 0 (by omega) hC;simp at this;right;omega}};{by_cases e:C=1;{exact .inl e};{have:=h.1 0 1 hR (by omega);simp at this;right;omega}}
def ox(C:Nat)(i j:Nat)(i' j':Nat):Prop:=(i'<i/\j'<C)\/(i'=i/\j'<j)
def tU(C:Nat)(off rs cs:Int)(n i j:Nat):Prop:=(∀a b:Nat,ox C i j a b->0<=off+a*rs+b*cs/\off+a*rs+b*cs<n)/\(∀a b a' b':Nat,ox C i j a b->ox C i j a' b'->off+a*rs+b*cs=off+a'*rs+b'*cs->a=a'/\b=b')
theorem N6(C:Nat)(off rs cs:Int)(n:Nat):tU C off rs cs n 0 0:=by refine⟨λa b h=>?_,λa b a' b' h=>?_⟩<;>{unfold ox at h;omega}
theorem tT{C i j a b:Nat}:ox C i (j+1) a b↔ox C i j a b\/(a=i/\b=j):=by unfold ox;omega
theorem Fq{C i a b:Nat}:ox C (i+1) 0 a b↔ox C i C a b:=by unfold ox;omega
theorem QR{C:Nat}{off rs cs:Int}{n i:Nat}(h:tU C off rs cs n i C):tU C off rs cs n (i+1) 0:=by unfold tU at h⊢;simp only[Fq];exact h
theorem N7{C:Nat}{off rs cs:Int}{n i j:Nat}(h:tU C off rs cs n i j)(hp:0<=off+i*rs+j*cs/\off+i*rs+j*cs<n)(abT:∀a b:Nat,ox C i j a b->off+a*rs+b*cs≠off+i*rs+j*cs):tU C off rs cs n i (j+1):=by
 refine⟨λa b hab=>?_,λa b a' b' hab aet e=>?_⟩;{rcases tT.1 hab with h1|⟨rfl,rfl⟩;{exact h.1 a b h1};{exact hp}};{rcases tT.1 hab with h1|⟨rfl,rfl⟩<;>rcases tT.1 aet with h2|⟨rfl,rfl⟩;{exact h.2 a b a' b' h1 h2 e};{exact absurd e (abT _ _ h1)};{exact absurd e.symm (abT _ _ h2)};{exact⟨rfl,rfl⟩}}
theorem QS{R C:Nat}{off rs cs:Int}{n:Nat}(h:tU C off rs cs n R 0):Fit R C off rs cs n:=by refine⟨λi j hi hj=>h.1 i j ?_,λi j i' j' hi hj WE Er e=>h.2 i j i' j' ?_ ?_ e⟩<;>{unfold ox;omega}
def nL(R C off rs cs:Int)(n:Nat):Prop:=n<=100000/\(0<=R/\R<=40)/\(0<=C/\C<=40)/\(R=0\/C=0\/Fit R.toNat C.toNat off rs cs n)
def ja(R C:Nat)(f:Nat->Nat->Nat):List (Nat×Nat×Nat):=(List.range (R*C)).map λk=>(k/C,k%C,f (k/C) (k%C))
def lc(R C:Nat)(f:Nat->Nat->Nat):List (Nat×Nat×Nat):=(List.range (R*C)).map λk=>(k%R,k/R,f (k%R) (k/R))
theorem lu(R C:Nat)(f:Nat->Nat->Nat):(ja R C f).length=R*C:=by simp[ja]
theorem mn(R C:Nat)(f:Nat->Nat->Nat):(lc R C f).length=R*C:=by simp[lc]
theorem gz{R C i j:Nat}(hi:i<R)(hj:j<C):i*C+j<R*C:=by have h1:(i+1)*C<=R*C:=cR _ hi;rw[eI]at h1;omega
theorem nZ{R C:Nat}(f:Nat->Nat->Nat){i j:Nat}(hi:i<R)(hj:j<C):(ja R C f)[i*C+j]?=some (i,j,f i j):=by
 have h:=gz hi hj;have e1:(i*C+j)/C=i:=by rw[fU,fk _ _ (by omega),cz hj];omega
 have e2:(i*C+j)%C=j:=by rw[fU,wF,dE hj]
 simp[ja,h,e1,e2]
theorem sj{R C:Nat}(f:Nat->Nat->Nat){i j:Nat}(hi:i<R)(hj:j<C):(lc R C f)[j*R+i]?=some (i,j,f i j):=by
 have h:=gz hj hi;rw[ay C R]at h;have e1:(j*R+i)/R=j:=by rw[fU,fk _ _ (by omega),cz hi];omega
 have e2:(j*R+i)%R=i:=by rw[fU,wF,dE hi]
 simp[lc,h,e1,e2]
theorem pE{R C k:Nat}(h:k<R*C):k%R<R/\k/R<C:=by
 have hR:0<R:=by rcases wE R with e|e;{subst e;simp at h};exact e
 exact⟨dK _ hR,ig h⟩
theorem tK{R C k:Nat}(h:k<R*C):k/C<R/\k%C<C:=by have:=pE (R:=C) (C:=R) (by rw[ay];exact h);exact⟨this.2,this.1⟩
theorem vP{R C:Nat}{f:Nat->Nat->Nat}{x:Nat×Nat×Nat}(h:x∈ja R C f):x.1<R/\x.2.1<C/\x.2.2=f x.1 x.2.1:=by obtain⟨k,hk,rfl⟩:=eF.1 h;have:=tK (qb.1 hk);exact⟨this.1,this.2,rfl⟩
theorem nK{R C:Nat}{f:Nat->Nat->Nat}{x:Nat×Nat×Nat}(h:x∈lc R C f):x.1<R/\x.2.1<C/\x.2.2=f x.1 x.2.1:=by obtain⟨k,hk,rfl⟩:=eF.1 h;have:=pE (qb.1 hk);exact⟨this.1,this.2,rfl⟩
theorem TN{R C:Nat}(f:Nat->Nat->Nat){i j:Nat}(hi:i<R)(hj:j<C):(i,j,f i j)∈lc R C f:=bU (sj f hi hj)
def iG(kind R C:Nat)(f:Nat->Nat->Nat):List (Nat×Nat×Nat):=if kind=4 then ja R C f else let l:=if kind=1\/kind=3 then(lc R C f).filter (λx=>decide (x.2.1<=x.1))else lc R C f;if kind=2\/kind=3 then l.filter (λx=>decide (x.2.2≠0))else l
theorem Jr{kind R C:Nat}{f:Nat->Nat->Nat}{x:Nat×Nat×Nat}(h:x∈iG kind R C f):x.1<R/\x.2.1<C/\x.2.2=f x.1 x.2.1:=by unfold iG at h;split at h;{exact vP h};{simp only at h;split at h<;>split at h;{exact nK (jk.1 (jk.1 h).1).1};{exact nK (jk.1 h).1};{exact nK (jk.1 h).1};{exact nK h}}
theorem rY(kind R C:Nat)(f:Nat->Nat->Nat):(iG kind R C f).length<=R*C:=by unfold iG;split;{rw[lu];omega};{simp only;have h0:=mn R C f;have h1:=iM (λx:Nat×Nat×Nat=>decide (x.2.1<=x.1)) (lc R C f);split<;>split;all_goals first|omega|exact ak (iM _ _) (by omega)}
theorem AM{α:Type}(p:α->Bool)(l:List α)(k:Nat)(x:α)(h:l[k]?=some x):(p x=true->(l.filter p)[((l.take k).filter p).length]?=some x/\((l.take (k+1)).filter p).length=((l.take k).filter p).length+1)/\(p x=false->((l.take (k+1)).filter p).length=((l.take k).filter p).length):=by
 have hk:k<l.length:=(ar.1 h).1;have h2:l.take (k+1)=l.take k++[x]:=by rw[dw,h];rfl
 have h3:l=l.take k++x::l.drop (k+1):=by have:=(cT (k+1) l).symm;rw[h2,fA]at this;exact this
 constructor;{intro hp;constructor;{(have h4:l.filter p=(l.take k).filter p++x::(l.drop (k+1)).filter p:=by(conv=>lhs;rw[h3]);rw[iV,zt hp]);rw[h4];simp};{rw[h2,iV,zt hp];simp}}
 {intro hp;rw[h2,iV,abi (by simp[hp])];simp}
theorem hid{p:Prop}(h:p):Hid p:=h
theorem bj{B:Nat}{a w:World}(h:Below B a w)(n:Nat):Below B a (w.drewN n):=⟨h.os,h.tape,h.output,h.size,h.block⟩
theorem OE(w:World)(k:Int):Calls prog 67 #[.int .i64 k] w λe w'=>e=.returned (.bool (decide (0<=k/\k<=5)))/\w'=w:=by
 go_enter func67,ntmps67;go_wp2;all_goals go_ret
 all_goals refine⟨?_,rfl⟩
 all_goals simp[*]
 all_goals first|omega|(rw[dz];simp[*])
theorem yE(w:World)(k:Int):Calls prog 68 #[.int .i64 k] w λe w'=>e=.returned (.bool (decide (k=1\/k=3)))/\w'=w:=by
 go_enter func68,ntmps68;go_wp2;all_goals go_ret
 all_goals refine⟨?_,rfl⟩
 all_goals simp[*]
 all_goals first|omega|(rw[dz];simp[*])
theorem II(w:World)(k:Int):Calls prog 71 #[.int .i64 k] w λe w'=>e=.returned (.bool (decide (k=4\/k=5)))/\w'=w:=by
 go_enter func71,ntmps71;go_wp2;all_goals go_ret
 all_goals refine⟨?_,rfl⟩
 all_goals simp[*]
 all_goals first|omega|(rw[dz];simp[*])
theorem Lb(w:World)(k:Int):Calls prog 145 #[.int .i64 k] w λe w'=>e=.returned (.bool (decide (k=2\/k=3)))/\w'=w:=by
 go_enter func145,ntmps145;go_wp2;all_goals go_ret
 all_goals refine⟨?_,rfl⟩
 all_goals simp[*]
 all_goals first|omega|(rw[dz];simp[*])
theorem Lc(w:World)(k:Int):Calls prog 60 #[.int .i64 k] w λe w'=>e=.returned (.bool (decide (0<=k/\k<=40)))/\w'=w:=by
 go_enter func60,ntmps60;go_wp2;all_goals go_ret
 all_goals refine⟨?_,rfl⟩
 all_goals simp[*]
 all_goals first|omega|(rw[dz];simp[*])
theorem IK(w:World)(k n:Int):Calls prog 95 #[.int .i64 k,.int .i64 n] w λe w'=>e=.returned (.bool (decide (0<=k/\k<n)))/\w'=w:=by
 go_enter func95,ntmps95;go_wp2;all_goals go_ret
 all_goals refine⟨?_,rfl⟩
 all_goals simp[*]
 all_goals first|omega|(rw[dz];simp[*])
theorem K6(w:World)(k s:Int):Calls prog 96 #[.int .i64 k,.int .i64 s] w λe w'=>e=.returned (.bool (decide (1<k/\(s<=-100000\/100000<=s))))/\w'=w:=by
 go_enter func96,ntmps96;go_wp2;all_goals go_ret
 all_goals refine⟨?_,rfl⟩
 all_goals simp[*]
 all_goals first|omega|(rw[dz];simp[*];omega)
def eO(R C off rs cs:Int):Value:=.agg #[.int .i64 R,.int .i64 C,.int .i64 off,.int .i64 rs,.int .i64 cs]
theorem vF(w:World)(R C off rs cs i j:Int)(h0:-4611686018427387904<=off/\off<=4611686018427387903)(h1:-1000000000<=i*rs/\i*rs<=1000000000)(h2:-1000000000<=j*cs/\j*cs<=1000000000):Calls prog 65 #[eO R C off rs cs,.int .i64 i,.int .i64 j] w λe w'=>e=.returned (.int .i64 (off+i*rs+j*cs))/\w'=w.alloc (.cells #[.int .i64 R,.int .i64 C,.int .i64 off,.int .i64 rs,.int .i64 cs] 24):=by unfold eO;go_enter func65,ntmps65;go_wp2;go_ret;exact⟨rfl,rfl⟩
theorem Q7{m m':Nat}{P:Program}{l:Nat}{f:FuncId}{tmps:Array Value}{assign body:Code}{w:World}{R:Ending->World->Prop}(h:RoundIn Fence.wide m P l f tmps assign body w R):RoundIn Fence.wide m' P l f tmps assign body w R:=⟨h.1,λc cs _=>h.2 c cs (λd hd=>by cases hd)⟩
theorem Qo{m:Nat}(m':Nat){P:Program}{l:Nat}{args:Array Value}{W:World}{R:Ending->World->Prop}(h:YieldAt Fence.wide m P l args W R):YieldAt Fence.wide m' P l args W R:=by obtain⟨fn,tmps,assign,body,hy,hR⟩:=h;exact⟨fn,tmps,assign,body,hy,Q7 hR⟩
theorem Xe{m:Nat}(m':Nat){P:Program}{f:FuncId}{args:Array Value}{W:World}{R:Ending->World->Prop}(h:CallsIn Fence.wide m P f args W R):CallsIn Fence.wide m' P f args W R:=callsIn_wide.2 (callsIn_wide.1 h)
structure ic(B:Nat)(W W':World):Prop where
 os:W'.os=W.os
 tape:W'.tape=W.tape
 output:W'.output=W.output
 size:W.heap.size<=W'.heap.size
 block:∀k o,W.heap[k]?=some o->(k<B\/o.isCells=true)->W'.heap[k]?=some o
theorem ic.trans{B:Nat}{X Y Z:World}(h:ic B X Y)(k:ic B Y Z):ic B X Z:=⟨k.os.trans h.os,k.tape.trans h.tape,k.output.trans h.output,ak h.size k.size,λi o hi ho=>k.block i o (h.block i o hi ho) ho⟩
theorem ic.down{B B':Nat}{X Y:World}(h:ic B' X Y)(hB:B<=B'):ic B X Y:=⟨h.os,h.tape,h.output,h.size,λi o hi ho=>h.block i o hi (ho.imp (λh=>ax h hB) id)⟩
theorem ic.below{B:Nat}{X Y:World}(h:Below X.heap.size X Y):ic B X Y:=⟨h.os,h.tape,h.output,h.size,λi _ hi _=>(h.block i (aO.1 hi).1).trans hi⟩
theorem ic.alloc(B:Nat)(W:World)(o:Obj):ic B W (W.alloc o):=ic.below ((Below.refl _ W).alloc (aj _) o)
theorem ic.drew(B:Nat)(W:World):ic B W W.drew:=⟨rfl,rfl,rfl,aj _,λ_ _ h _=>h⟩
theorem ic.putObj{B:Nat}{W:World}{l:Nat}{o:Obj}(o':Obj)(hB:B<=l)(hl:W.heap[l]?=some o)(ho:o.isCells=false):ic B W (W.putObj l o'):=⟨rfl,rfl,rfl,by simp[World.putObj],λk x hk hx=>by(have:k≠l:=λe=>by subst e;rw[hl]at hk;cases hk;rcases hx with hx|hx;{omega};rw[ho]at hx;cases hx);rw[World.putObj_heap_other this];exact hk⟩
theorem ic.cell{B:Nat}{W W':World}(h:ic B W W'){a:Addr}{v:Value}(hc:W.cell? a=some v):W'.cell? a=some v:=by obtain⟨o,ho,hi⟩:=cells_of_cell hc;have:=h.block a.block o ho (.inr hi);unfold World.cell? at hc⊢;rw[ho]at hc;rw[this];exact hc
def JR{β:Type}(B:Nat)(I:β->World->Prop):Prop:=∀s W W',I s W->ic B W W'->I s W'
def abf(o:Obj):Prop:=∀c t fz,o=.cells c t fz->t≠5/\t≠117
theorem abf.bytes{o:Obj}(h:abf o)(c:Array Value)(fz:Nat×Nat):o≠.cells c 5 fz:=λe=>(h c _ fz e).1 rfl
structure bq(B:Nat)(W W':World):Prop where
 size:W.heap.size<=W'.heap.size
 same:∀(k:Nat)(o:Obj),B<=k->W.heap[k]?=some o->abf o->W'.heap[k]?=some o
theorem bq.refl(B:Nat)(W:World):bq B W W:=⟨aj _,λ_ _ _ h _=>h⟩
theorem bq.trans{B:Nat}{X Y Z:World}(h:bq B X Y)(k:bq B Y Z):bq B X Z:=⟨ak h.size k.size,λi o hB hi ho=>k.same i o hB (h.same i o hB hi ho) ho⟩
theorem bq.up{B B':Nat}{X Y:World}(h:bq B X Y)(hB:B<=B'):bq B' X Y:=⟨h.size,λi o hi=>h.same i o (ak hB hi)⟩
theorem bq.below{B:Nat}{X Y:World}(h:Below X.heap.size X Y):bq B X Y:=⟨h.size,λi _ _ hi _=>(h.block i (aO.1 hi).1).trans hi⟩
theorem bq.others{B b:Nat}{X Y:World}(h:Lib.OthersKept 5 (some b) X Y)(hs:X.heap.size<=Y.heap.size)(hb:b<B):bq B X Y:=⟨hs,λi o hB hi ho=>h i o hi (λe=>by cases e;omega) ho.bytes⟩
theorem bq.set{B b j:Nat}{X:World}(hb:b<B)(v:Value):bq B X (X.setCell ⟨b,j,none⟩ v):=⟨by simp[World.setCell],λi o hB hi _=>by rw[Below.heap_setCell _ _ _ _ (by simp;omega)];exact hi⟩
def DN(P:Program)(g:Nat)(fst lb:Array Value)(xs:List (Array Value))(Ve:Nat->World->Prop):Prop:=∀(l:Nat)(J:Nat->World->Prop)(Jx:Unit->World->Prop)(W:World),(∀k W1,J k W1->Ve k W1)->JR W.heap.size J->JR W.heap.size Jx->(∀k a W1,xs[k]?=some a->J k W1->YieldAt Fence.wide 0 P l a W1 λe W'=>(e=.returned (.bool true)/\J (k+1) W'/\bq W.heap.size W1 W')\/(e=.returned (.bool false)/\Jx () W'/\bq W.heap.size W1 W'))->J 0 W->CallsIn Fence.wide 0 P g (fst++#[.func (.yield l) #[] #[]]++lb) W λe W'=>(∃v,e=.returned v)/\(J xs.length W'\/Jx () W')
def roundEnd(B:Nat)(I:Nat->World->Prop)(Ix:Code->World->Prop)(k:Nat)(W:World):Exit->Act->World->Prop|.normal,_,W'=>bq B W W'/\I k W'|.ret,_,W'=>bq B W W'/\Ix .ret W'|.exit id,_,W'=>bq B W W'/\Ix (.exit id) W'|.goto t,_,W'=>bq B W W'/\Ix (.goto t) W'|.panic _,_,_=>False|.outgrown,_,_=>False
theorem iP{P:Program}{g:Operand}{ps:Array Tmp}{assign body:Code}{Q:Exit->Act->World->Prop}{a:Act}{w:World}{n:Nat}(m:Nat){gf:Nat}{fst lb:Array Value}(hg:a.eval g=.func (.func gf) fst lb)(eg:∀args w,(callFunc gf args).run P w=.ok (.enter gf args) w){xs:List (Array Value)}{Ve:Nat->World->Prop}(Gd:DN P gf fst lb xs Ve)(Wu:∀x∈xs,x.size=ps.size)(I:Nat->World->Prop)(Ix:Code->World->Prop)(Ax:Array Value->Act->World->Prop)(hMem:∀k W,I k W->Ve k W)(hI:JR w.heap.size I)(hIx:JR w.heap.size Ix)(hAx:∀x,JR w.heap.size (Ax x))(h0:I 0 w)(M4:∀(l k:Nat)(x:Array Value)(W:World)(K:Act->World->Prop),xs[k]?=some x->I k W->(∀a' W',bq w.heap.size W W'->I k W'->Ax x a' W'->K a' W')->assign.wpIn (Fence.wide.inRound l) m P (Exit.then K (λ_ _ _=>False)) {tmps:=(ps.zip x).foldl (λt(p,v)=>t.setIfInBounds p v) a.tmps,defers:=[]} W)(YD:∀(l k:Nat)(x:Array Value)(a':Act)(W:World),xs[k]?=some x->I k W->Ax x a' W->body.wpIn (Fence.wide.inRound l) m P (roundEnd w.heap.size I Ix (k+1) W) a' W)(YA:∀(D:Nat)(W:World),w.heap.size<=D->I xs.length W->W.heap[D]?=some (.deferred (some []))->Q .normal {a with defers:={target:=.collected D,args:=#[]}::a.defers} W)(pH:∀(D:Nat)(c:Code)(W:World),w.heap.size<=D->Ix c W->W.heap[D]?=some (.deferred (some []))->c.wpIn Fence.wide n P Q {a with defers:={target:=.collected D,args:=#[]}::a.defers} W):(Code.rangeFunc g ps assign body).wpIn Fence.wide n P Q a w:=by
 refine wpIn_rangeFunc ?_;intro fn Ly;obtain⟨d0,hd0⟩:∃d0,w.heap.size=d0:=⟨_,rfl⟩;obtain⟨rc,yG⟩:∃rc:LoopState->Option Code->Loop,rc=λst pe=>{state:=st,pending:=pe,fn,tmps:=a.tmps,params:=ps,assign,body,defers:=d0}:=⟨_,rfl⟩
 obtain⟨W1,o8⟩:∃W1,(w.alloc (.deferred (some []))).alloc (.loop (rc .ready none))=W1:=⟨_,rfl⟩;have J5:W1.heap.size=d0+2:=by rw[<-o8];simp[hd0]
 have hL1:W1.heap[d0+1]?=some (.loop (rc .ready none)):=by have:=World.alloc_heap_new (w.alloc (.deferred (some []))) (.loop (rc .ready none));rw[World.size_alloc,hd0,o8]at this;exact this
 have hD1:W1.heap[d0]?=some (.deferred (some [])):=by have h:=World.alloc_heap_new w (.deferred (some []));rw[hd0]at h;rw[<-o8];exact(Below.heap_alloc _ _ _ (by simp[hd0])).trans h
 have Ge:(Instr.enterLoop fn a.tmps ps assign body Fence.wide.round).run P w=.ok (d0+1,[{target:=.collected d0,args:=#[]}]) W1:=by rw[<-o8,yG,<-hd0];exact run_enterLoop_outer _ _ _ _ _
 rw[hd0]at hI hIx hAx M4 YD YA pH;refine⟨d0+1,[{target:=.collected d0,args:=#[]}],W1,{target:=.fn (.func gf) lb,args:=fst++#[.func (.yield (d0+1)) #[] #[]]},W1,gf,fst++#[.func (.yield (d0+1)) #[] #[]]++lb,W1,Ge,?_,?_,?_,?_,?_⟩
 {simp only[resolve,hg];simp[go_sem]};{intro _ _;trivial};{simp[invoke,go_sem,eg]};{intro h;cases h};refine Xe _ ((Gd (d0+1) (λk W=>I k W/\W.heap[d0+1]?=some (.loop (rc .ready none))/\W.heap[d0]?=some (.deferred (some []))) (λ_ W=>∃c,Ix c W/\W.heap[d0+1]?=some (.loop (rc .done (some c)))/\W.heap[d0]?=some (.deferred (some []))) W1 (λk W h=>hMem k W h.1) ?_ ?_ ?_ ⟨?_,hL1,hD1⟩).mono ?_)
 {intro k A B hs hw;exact⟨hI k A B hs.1 (hw.down (by omega)),hw.block _ _ hs.2.1 (.inl (by omega)),hw.block _ _ hs.2.2 (.inl (by omega))⟩};{rintro k A B⟨c,hc,J5,tD⟩hw;exact⟨c,hIx c A B hc (hw.down (by omega)),hw.block _ _ J5 (.inl (by omega)),hw.block _ _ tD (.inl (by omega))⟩}
 {
 rintro k x W hx⟨hi,hl,U5⟩;rw[J5];have hy:=run_yield (P:=P) (args:=x) hl (by rw[yG];exact Wu x (bU hx));rw[yG]at hy;refine Qo (m:=m) 0 ⟨fn,_,assign,body,hy,roundIn_of_wpIn Ly (M4 _ k x W _ hx hi ?_)⟩
 clear hy;intro a' Wa hka hia hax;have J9:=hka.same _ _ (by omega) hl (λc t fz e=>by cases e);have hda:=hka.same _ _ (by omega) U5 (λc t fz e=>by cases e);have di:d0+1<Wa.heap.size:=(aO.1 J9).1
 refine⟨_,run_beginRound J9 (by rw[yG]),?_⟩;obtain⟨Wb,hWb⟩:∃Wb,Wa.putObj (d0+1) (.loop {rc .ready none with state:=.busy})=Wb:=⟨_,rfl⟩;have pX:Wb.heap[d0+1]?=some (.loop {rc .ready none with state:=.busy}):=by rw[<-hWb];exact World.putObj_heap_same di
 have CV:Wb.heap[d0]?=some (.deferred (some [])):=by rw[<-hWb];exact(World.putObj_heap_other (by omega)).trans hda
 have J4:ic d0 Wa Wb:=by rw[<-hWb];exact ic.putObj _ (by omega) J9 rfl
 have WB:bq (d0+2) Wa Wb:=by rw[<-hWb];exact⟨by simp[World.putObj],λi o hB hi _=>by rw[World.putObj_heap_other (by omega)];exact hi⟩
 rw[hWb];refine wpIn_mono (YD _ k x a' Wb hx (hI _ _ _ hia J4) (hAx _ _ _ _ hax J4)) ?_;have qD:∀(IJ:Option Code)(W3:World),bq d0 Wb W3->∃W4,(Instr.endRound (d0+1) IJ).run P W3=.ok (.bool IJ.isNone) W4/\ic d0 W3 W4/\bq (d0+2) W W4/\W4.heap[d0+1]?=some (.loop (rc (if IJ.isNone then .ready else .done) IJ))/\W4.heap[d0]?=some (.deferred (some [])):=λIJ W3 xR=>by have CT:=xR.same _ _ (by omega) pX (λc t fz e=>by cases e);have hr:=run_endRound (P:=P) IJ CT;refine⟨W3.putObj (d0+1) (.loop (rc (if IJ.isNone then .ready else .done) IJ)),?_,ic.putObj _ (by omega) CT rfl,?_,World.putObj_heap_same (aO.1 CT).1,(World.putObj_heap_other (by omega)).trans (xR.same _ _ (aj _) CV (λc t fz e=>by cases e))⟩;{rw[yG]at hr⊢;exact hr};{refine((hka.up (by omega)).trans (WB.trans (xR.up (by omega)))).trans ⟨by simp[World.putObj],λi o hB hi _=>by rw[World.putObj_heap_other (by omega)];exact hi⟩}
 rintro e a3 W3 hp;cases e with|normal=>obtain⟨W4,hr,Ws,l8,GM,nx⟩:=qD none W3 hp.1;exact⟨_,_,hr,.inl ⟨rfl,⟨hI _ _ _ hp.2 Ws,GM,nx⟩,l8⟩⟩|ret=>obtain⟨W4,hr,Ws,l8,GM,nx⟩:=qD (some .ret) W3 hp.1;exact⟨_,_,hr,.inr ⟨rfl,⟨.ret,hIx _ _ _ hp.2 Ws,GM,nx⟩,l8⟩⟩|exit id=>obtain⟨W4,hr,Ws,l8,GM,nx⟩:=qD (some (.exit id)) W3 hp.1;exact⟨_,_,hr,.inr ⟨rfl,⟨.exit id,hIx _ _ _ hp.2 Ws,GM,nx⟩,l8⟩⟩|goto t=>obtain⟨W4,hr,Ws,l8,GM,nx⟩:=qD (some (.goto t)) W3 hp.1;exact⟨_,_,hr,.inr ⟨rfl,⟨.goto t,hIx _ _ _ hp.2 Ws,GM,nx⟩,l8⟩⟩|panic ch=>exact hp.elim|outgrown=>exact hp.elim}
 {rw[<-o8];exact hI _ _ _ h0 ((ic.alloc _ _ _).trans (ic.alloc _ _ _))};{
 rintro e W2⟨⟨v,rfl⟩,(⟨hi,hl,hk⟩|⟨c,hi,hl,hk⟩)⟩;{exact⟨none,_,by have:=run_endLoop (P:=P) hl (by rw[yG];simp);rw[yG]at this;exact this,YA _ _ (aj _) (hI _ _ _ hi (ic.putObj _ (by omega) hl rfl)) ((World.putObj_heap_other (by omega)).trans hk)⟩}
 {exact⟨some c,_,by have:=run_endLoop (P:=P) hl (by rw[yG];simp);rw[yG]at this;exact this,pH _ c _ (aj _) (hIx _ _ _ hi (ic.putObj _ (by omega) hl rfl)) ((World.putObj_heap_other (by omega)).trans hk)⟩}}
def aD(w:World)(g:Nat)(t:TypeId)(l:List Value):Prop:=w.heap[g]?=some (.cells l.toArray t (0,0))
theorem aD.lt{w:World}{g:Nat}{t:TypeId}{l:List Value}(h:aD w g t l):g<w.heap.size:=(aO.1 h).1
theorem aD.cell{w:World}{g:Nat}{t:TypeId}{l:List Value}(h:aD w g t l){i:Nat}{v:Value}(hi:l[i]?=some v):w.cell? ⟨g,i,none⟩=some v:=by simp[World.cell?,show w.heap[g]?=_ from h,hi]
theorem aD.frozen{w:World}{g:Nat}{t:TypeId}{l:List Value}(h:aD w g t l)(i:Nat):w.frozen? ⟨g,i,none⟩=false:=by simp[World.frozen?,show w.heap[g]?=_ from h]
theorem aD.new(w:World)(t:TypeId)(a:Array Value):aD (w.alloc (.cells a t)) w.heap.size t a.toList:=by unfold aD;rw[World.alloc_heap_new]
theorem aD.dT(w:World)(t:TypeId)(l:List Value):aD (w.alloc (.cells l.toArray t)) w.heap.size t l:=World.alloc_heap_new w _
theorem aD.eq{w w':World}{g:Nat}{t:TypeId}{l:List Value}(h:aD w g t l)(e:w'.heap[g]?=w.heap[g]?):aD w' g t l:=e.trans h
theorem aD.alloc{w:World}{g:Nat}{t:TypeId}{l:List Value}(h:aD w g t l)(o:Obj):aD (w.alloc o) g t l:=h.eq (Below.heap_alloc _ _ _ h.lt)
theorem aD.drewN{w:World}{g:Nat}{t:TypeId}{l:List Value}(h:aD w g t l)(n:Nat):aD (w.drewN n) g t l:=h
theorem aD.drew{w:World}{g:Nat}{t:TypeId}{l:List Value}(h:aD w g t l):aD w.drew g t l:=h
theorem aD.below{w w':World}{B g:Nat}{t:TypeId}{l:List Value}(h:aD w g t l)(b:Below B w w')(hg:g<B):aD w' g t l:=h.eq (b.block g hg)
theorem aD.az{w w':World}{g:Nat}{t:TypeId}{l:List Value}(h:aD w g t l)(b:Below w.heap.size w w'):aD w' g t l:=h.below b h.lt
theorem aD.other{w:World}{g:Nat}{t:TypeId}{l:List Value}(h:aD w g t l){g' i:Nat}(v:Value)(hne:g≠g'):aD (w.setCell ⟨g',i,none⟩ v) g t l:=h.eq (Below.heap_setCell _ _ _ _ hne)
theorem aD.jn{B:Nat}{w w':World}{g:Nat}{t:TypeId}{l:List Value}(h:aD w g t l)(s:ic B w w'):aD w' g t l:=s.block g _ h (.inr rfl)
theorem aD.kept{B:Nat}{w w':World}{g:Nat}{t:TypeId}{l:List Value}(h:aD w g t l)(k:bq B w w')(hB:B<=g)(ht:t≠5/\t≠117):aD w' g t l:=k.same g _ hB h (λc t' fz e=>by cases e;exact ht)
theorem aD.others{b:Option Nat}{w w':World}{g:Nat}{t:TypeId}{l:List Value}(h:aD w g t l)(k:Lib.OthersKept 5 b w w')(hne:some g≠b)(ht:t≠5):aD w' g t l:=k g _ h hne (λc fz e=>by cases e;exact ht rfl)
theorem aD.set{w:World}{g:Nat}{t:TypeId}{l:List Value}(h:aD w g t l)(i:Nat)(v:Value):aD (w.setCell ⟨g,i,none⟩ v) g t (l.set i v):=by unfold aD at h⊢;unfold World.setCell;simp only[Array.getElem?_modify,h];simp
def pR(w:World):List Obj->World|[]=>w|o::r=>pR (w.alloc o) r
theorem mr(w:World):∀os:List Obj,(pR w os).heap.size=w.heap.size+os.length|[]=>rfl|o::r=>by rw[pR,mr,World.size_alloc,aU];omega
theorem j3(w:World):∀os:List Obj,Below w.heap.size w (pR w os)|[]=>Below.refl _ _|o::r=>((Below.refl _ _).alloc (aj _) o).trans ((j3 (w.alloc o) r).mono (by simp))
theorem pg:∀(os:List Obj)(w:World)(i:Nat)(o:Obj),os[i]?=some o->(pR w os).heap[w.heap.size+i]?=some o|[],_,_,_,h=>by simp at h|x::r,w,0,o,h=>by simp at h;subst h;exact((j3 (w.alloc x) r).block _ (by simp)).trans (World.alloc_heap_new w x)|x::r,w,i+1,o,h=>by have:=pg r (w.alloc x) i o (by simpa using h);rw[World.size_alloc]at this;rw[pR,show w.heap.size+(i+1)=w.heap.size+1+i by omega];exact this
theorem Ec(z:Value)(hz:z.cells=#[z])(n:Nat):madeCells z.cells n=Array.replicate n z:=by rw[hz];unfold madeCells;apply Array.ext;{simp};{intro i h1 h2;simp[Nat.mod_one]}
theorem jh{P:Program}(t e:TypeId)(i:TypeInfo)(z:Value)(ht:P.underlying t=some (.slice e))(hi:P.info? e=some i)(hz:i.zero=some z)(hs:i.size=1)(hzc:z.cells=#[z])(n:Nat)(hb:i.bytes*n<=281474976710656)(hn:n<=140737488355328)(w:World):(Instr.makeSlice t (.int .i64 (n:Int)) (.int .i64 (n:Int))).run P w=.ok (.slice (some ⟨w.heap.size,0,none⟩) n n) (w.alloc (.cells (Array.replicate n z) e)):=by have h:=run_make (P:=P) w t e i z ht hi hz .i64 .i64 (n:Int) (n:Int) (by omega) (by omega) (by rw[<-Qn];omega) (by omega);rw[fW,hs,jF,Ec z hzc]at h;exact h
theorem aD.VU(w:World)(t:TypeId)(n:Nat)(z:Value):aD (w.alloc (.cells (Array.replicate n z) t)) w.heap.size t (List.replicate n z):=by have:=aD.new w t (Array.replicate n z);rw[abp]at this;exact this
end Go.Proofs.YthdcceackfdbbaaGreatDoor
