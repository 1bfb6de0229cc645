import Derived.Test.YthdcceackfdbbaaGreatDoorS15A
import Derived.Test.YthdcceackfdbbaaGreatDoorS12A
import Derived.Test.YthdcceackfdbbaaGreatDoorS13A
set_option linter.unusedSimpArgs false
set_option maxRecDepth 20000
set_option maxHeartbeats 1600000
open Go.RowKit Go.Proofs.Tryz
namespace Go.Proofs.YthdcceackfdbbaaGreatDoor
def Rl(r:List UInt8):List UInt8:=if 1<r.length then r.take 1++46::r.drop 1 else r
def KQ(d:Nat)(p:Int):List UInt8:=Rl (Lib.trimRightB (Lib.decDigits d) 48)++101::Lib.itoa (p+((Lib.decDigits d).length:Int)-1)
theorem Hf(l:List UInt8)(c:UInt8):(Lib.trimRightB l c).length<=l.length:=by unfold Lib.trimRightB;rw[List.length_reverse];have:=(qg (·==c) (l:=l.reverse)).length_le;simpa using this
theorem pF{n:Int}(h0:-100000<=n)(h1:n<=100000):(Lib.itoa n).length<=7:=by unfold Lib.itoa;have h:(Lib.decDigits n.natAbs).length<=6:=tM (by omega) (by omega);have h':(Lib.decDigits n.toNat).length<=6:=tM (by omega) (by omega);split;{simp;first|omega|(rw[show(-n).toNat=n.natAbs by omega];omega)};{omega}
def aaI:ByteArray:=⟨#[46]⟩
def acq:ByteArray:=⟨#[101]⟩
theorem zQ:aaI.data.toList=[46]:=rfl
theorem Fj:acq.data.toList=[101]:=rfl
theorem Xc:(⟨#[46]⟩:ByteArray)=aaI:=rfl
theorem Nf:(⟨#[101]⟩:ByteArray)=acq:=rfl
theorem F5{r:ByteArray}(h:1<r.size):(r.extract 0 1++aaI++r.extract 1 r.size).data.toList=Rl r.data.toList:=by
 rw[aY,aY,lz,mP,zQ];have:r.data.toList.length=r.size:=by simp
 rw[Rl,au (by omega)];simp
theorem CH(w:World)(d:Nat)(p:Int)(YB:1<=d)(hd:d<=100000000000000000)(UU:-20000<=p)(UT:p<=20000)(gB:Lib.TabIs prog w "internal/strconv.uint64pow10" .u64 Lib.pow10Tab):Calls prog 130 #[.int .u64 (d:Int),.int .i64 p] w λe w'=>∃s:ByteArray,e=.returned (.string s)/\s.data.toList=KQ d p/\Below w.heap.size w w':=by
 have HT:Hid (Lib.TabIs prog w "internal/strconv.uint64pow10" .u64 Lib.pow10Tab):=gB;clear gB;have hlen:(Lib.decDigits d).length<=18:=tM (by omega) (by omega);have EC:Hid (KQ d p=Rl (Lib.trimRightB (Lib.decDigits d) 48)++101::Lib.itoa (p+((Lib.decDigits d).length:Int)-1)):=rfl
 go_enter func130,ntmps130;go_wp2_with fail;refine(To _ d YB (by omega) HT.out).mono ?_;rintro e w1⟨t,rfl,ht,b1⟩;have wL:=aK ht;have CM:t.size<=18:=by omega
 have HTT:Hid (t.data.toList=Lib.decDigits d):=ht;have HTS:Hid (t.size=(Lib.decDigits d).length):=wL;clear ht wL hlen;go_wp2_with fail;refine(strings_TrimRight_one t 48 (by decide) _ (by omega)).mono ?_
 rintro e w2⟨rfl,rfl⟩;obtain⟨r,hr⟩:∃r:ByteArray,(⟨(Lib.trimRightB t.data.toList 48).toArray⟩:ByteArray)=r:=⟨_,rfl⟩;have ZS:r.data.toList=Lib.trimRightB (Lib.decDigits d) 48:=by rw[<-hr,<-HTT.out]
 have y9:r.size<=18:=by rw[aK ZS];exact ak (Hf _ _) (by rw[<-HTS.out];exact CM)
 rw[hr];have HRL:Hid (r.data.toList=Lib.trimRightB (Lib.decDigits d) 48):=ZS;clear hr ZS;have OP:=dN HT.out b1;have Mh:Hid (Lib.TabIs prog w2 "internal/strconv.uint64pow10" .u64 Lib.pow10Tab):=OP
 clear OP;by_cases h1:1<r.size;{
 have Lr:(1:Int)<=(r.size:Int):=by omega
 go_wp2;go_quiet(fail);go_wp2_with fail;refine(E2 _ (p+((t.size:Int)-1)) (by omega) (by omega) (dN Mh.out (below_drewN (Below.refl _ _) _))).mono ?_;rintro e w3⟨q,rfl,hq,b3⟩
 have MO:q.size<=7:=by rw[aK hq];exact pF (by omega) (by omega)
 have HQ:=Hid.mk' hq;clear hq;go_wp2;go_ret;refine⟨_,rfl,?_,b1.trans ((below_drewN (Below.refl _ _) _).trans (b3.mono b1.size))⟩;rw[aY,aY,Xc,Nf,F5 h1,Fj,HRL.out,HQ.out,EC.out,HTS.out,Int.add_sub_assoc]
 simp};{
 go_wp2_with fail;refine(E2 _ (p+((t.size:Int)-1)) (by omega) (by omega) Mh.out).mono ?_;rintro e w3⟨q,rfl,hq,b3⟩;have MO:q.size<=7:=by rw[aK hq];exact pF (by omega) (by omega)
 have HQ:=Hid.mk' hq;clear hq;go_wp2;go_ret;refine⟨_,rfl,?_,b1.trans (b3.mono b1.size)⟩;have ZS:r.data.toList.length=r.size:=by simp
 rw[aY,aY,Nf,Fj,HQ.out,EC.out,HTS.out,<-HRL.out,Rl,ai (by omega),Int.add_sub_assoc];simp}
theorem Ru{N B A D d:Nat}{ev:Bool}(h:jz N B A D ev=some d):d=N/D\/d=N/D+1:=by have hn:=Im (N/D) (N%D) (D-N%D);unfold jz at h;split at h;{simp at h;omega};{split at h;{simp at h;omega};{split at h;{simp at h;omega};{simp at h}}}
def lY(s d:Nat)(p:Int):Prop:=∃a b j:Nat,a<=400/\b<=9400/\j<=16/\p=(b:Int)-a-j/\gG s*10^b<=dQ s*10^a/\dQ s*10^a<10*(gG s*10^b)/\Nv (dQ s*10^a) (eU s*10^a) (eM s*10^a) (gG s*10^b) (decide (s%2=0)) j d
theorem lY.bd{s d:Nat}{p:Int}(h:lY s d p):1<=d/\d<=100000000000000000/\-20000<=p/\p<=20000:=by
 obtain⟨a,b,j,h1,h2,h3,rfl,h4,h5,h6,_⟩:=h;have hv:=Ru h6;have hD:0<gG s*10^b:=gp (dR (xt s)) (cx b);generalize gG s*10^b=D at*;generalize dQ s*10^a=S at*;have ht:=EK h3
 have hp:=cx j;generalize 10^j=T at*;have q1:1<=S*T/D:=by rw[rj hD];have:=ie S hp;omega
 have q2:S*T/D<10*T:=by rw[Nat.div_lt_iff_lt_mul hD];have:=dy h5 hp;rw[show 10*T*D=10*D*T by rw[ey]];exact this
 exact⟨by omega,by omega,by omega,by omega⟩
def QL(x:Nat):List UInt8:=if 9223372036854775808<=x then[45]else[]
def ju(x:Nat)(l:List UInt8):Prop:=(9218868437227405312<x%9223372036854775808/\l=[110,97,110])\/(x%9223372036854775808=9218868437227405312/\l=QL x++[105,110,102])\/(x%9223372036854775808=0/\l=QL x++[48])\/(x%9223372036854775808≠0/\x%9223372036854775808<9218868437227405312/\∃d p,lY (x%9223372036854775808) d p/\l=QL x++KQ d p)
theorem vG{x:Nat}(h:x<18446744073709551616):bits BinOp.andNot IntKind.u64 (x:Int) 9223372036854775808=((x%9223372036854775808:Nat):Int):=by rw[show(9223372036854775808:Int)=((9223372036854775808:Nat):Int)from rfl,u64_andNot_nat _ _ h (by omega)];congr 1;exact ll x 63
theorem JO{x:Nat}(h:x<18446744073709551616):bits BinOp.and IntKind.u64 (x:Int) 9223372036854775808=((if 9223372036854775808<=x then 9223372036854775808 else 0:Nat):Int):=by
 rw[show(9223372036854775808:Int)=((9223372036854775808:Nat):Int)from rfl,u64_and_nat _ _ h (by omega)];congr 1;have hb:x.testBit 63=decide (9223372036854775808<=x):=by rw[Nat.testBit_eq_decide_div_mod_eq];by_cases h1:9223372036854775808<=x;{rw[eY h1,show x/2^63=1 by omega];rfl};{rw[dH h1,show x/2^63=0 by omega];rfl}
 apply DZ;intro i;rw[Ql,show(9223372036854775808:Nat)=2^63 from rfl,Fy];by_cases hi:63=i;{subst hi;rw[hb];split;{rename_i h1;rw[Fy,eY h1];rfl};{rename_i h1;rw[Nat.zero_testBit,dH h1];rfl}}
 {rw[dH hi,Bool.and_false];split;{rw[Fy,dH hi]};{rw[Nat.zero_testBit]}}
theorem VJ(r:List UInt8):(Rl r).length<=r.length+1:=by unfold Rl;split<;>simp<;>omega
theorem EW{r:ByteArray}{d:Nat}{p:Int}(h:r.data.toList=KQ d p)(_h1:1<=d)(h2:d<=100000000000000000)(h3:-20000<=p)(h4:p<=20000):r.size<=40:=by
 rw[aK h];have hlen:(Lib.decDigits d).length<=18:=tM (by omega) (by omega);have hi:=pF (n:=p+((Lib.decDigits d).length:Int)-1) (by omega) (by omega);have ht:=Hf (Lib.decDigits d) 48
 have hp:=VJ (Lib.trimRightB (Lib.decDigits d) 48);unfold KQ;rw[aJ,aU];omega
theorem CA(w:World)(x:Nat)(hx:x<18446744073709551616)(gB:Lib.TabIs prog w "internal/strconv.uint64pow10" .u64 Lib.pow10Tab):Calls prog 93 #[.int .u64 (x:Int)] w λe w'=>∃s:ByteArray,e=.returned (.string s)/\ju x s.data.toList/\s.size<=100/\Below w.heap.size w w':=by
 have HT:Hid (Lib.TabIs prog w "internal/strconv.uint64pow10" .u64 Lib.pow10Tab):=gB;clear gB;have h1:=vG hx;have h2:=JO hx;obtain⟨s,hs⟩:∃s,x%9223372036854775808=s:=⟨_,rfl⟩
 have tD:s<9223372036854775808:=by omega
 rw[hs]at h1;have HS:Hid (x%9223372036854775808=s):=hs;clear hs;by_cases hg:9223372036854775808<=x;{
 rw[au hg]at h2;have hb:(bits BinOp.and IntKind.u64 (x:Int) 9223372036854775808 !=0)=true:=by rw[h2];rfl
 have HG:Hid (QL x=[45]):=by unfold Hid QL;rw[au hg]
 clear h2;by_cases c1:9218868437227405312<s;{(have c1b:decide ((9218868437227405312:Int)<(s:Int))=true:=by simp;omega);go_enter func93,ntmps93;go_wp2;go_ret;exact⟨_,rfl,.inl ⟨by rw[HS.out];exact c1,rfl⟩,by decide,Below.refl _ _⟩}
 {
 have c1b:decide ((9218868437227405312:Int)<(s:Int))=false:=by simp;omega
 by_cases c2:s=9218868437227405312;{(have c2b:((s:Int)==9218868437227405312)=true:=by simp;omega);go_enter func93,ntmps93;go_wp2;go_ret;exact⟨_,rfl,.inr (.inl ⟨by rw[HS.out];exact c2,by rw[HG.out];rfl⟩),by decide,Below.refl _ _⟩}
 {
 have c2b:((s:Int)==9218868437227405312)=false:=by simp;omega
 by_cases c3:s=0;{(have c3b:((s:Int)==0)=true:=by simp;omega);go_enter func93,ntmps93;go_wp2;go_ret;exact⟨_,rfl,.inr (.inr (.inl ⟨by rw[HS.out];exact c3,by rw[HG.out];rfl⟩)),by decide,Below.refl _ _⟩}
 {
 have c3b:((s:Int)==0)=false:=by simp;omega
 go_enter func93,ntmps93;go_wp2_with fail;refine(yi _ s c3 (by omega)).mono ?_;rintro e w1⟨a,b,j,d,rfl,ha,wM,hj,q1,q2,q3,b1⟩;have CP:lY s d ((b:Int)-a-j):=⟨a,b,j,ha,wM,hj,rfl,q1,q2,q3⟩
 obtain⟨d1,d2,p1,p2⟩:=CP.bd;have Us:=Hid.mk' CP;clear CP q1 q2 q3;go_wp2_with fail;refine(CH _ d _ d1 d2 p1 p2 (dN HT.out b1)).mono ?_;rintro e w2⟨r,rfl,hr,b2⟩;have y9:r.size<=40:=EW hr d1 d2 p1 p2
 go_wp2;go_ret;refine⟨_,rfl,.inr (.inr (.inr ⟨by rw[HS.out];exact c3,by rw[HS.out];omega,d,_,by rw[HS.out];exact Us.out,?_⟩)),?_,b1.trans (b2.mono b1.size)⟩;{rw[aY,hr,HG.out]}
 {rw[dP];(have:(⟨#[45]⟩:ByteArray).size<=1:=by decide);omega}}}}};{
 rw[ai hg]at h2;have hb:(bits BinOp.and IntKind.u64 (x:Int) 9223372036854775808 !=0)=false:=by rw[h2];rfl
 have HG:Hid (QL x=[]):=by unfold Hid QL;rw[ai hg]
 clear h2;by_cases c1:9218868437227405312<s;{(have c1b:decide ((9218868437227405312:Int)<(s:Int))=true:=by simp;omega);go_enter func93,ntmps93;go_wp2;go_ret;exact⟨_,rfl,.inl ⟨by rw[HS.out];exact c1,rfl⟩,by decide,Below.refl _ _⟩}
 {
 have c1b:decide ((9218868437227405312:Int)<(s:Int))=false:=by simp;omega
 by_cases c2:s=9218868437227405312;{(have c2b:((s:Int)==9218868437227405312)=true:=by simp;omega);go_enter func93,ntmps93;go_wp2;go_ret;exact⟨_,rfl,.inr (.inl ⟨by rw[HS.out];exact c2,by rw[HG.out];rfl⟩),by decide,Below.refl _ _⟩}
 {
 have c2b:((s:Int)==9218868437227405312)=false:=by simp;omega
 by_cases c3:s=0;{(have c3b:((s:Int)==0)=true:=by simp;omega);go_enter func93,ntmps93;go_wp2;go_ret;exact⟨_,rfl,.inr (.inr (.inl ⟨by rw[HS.out];exact c3,by rw[HG.out];rfl⟩)),by decide,Below.refl _ _⟩}
 {
 have c3b:((s:Int)==0)=false:=by simp;omega
 go_enter func93,ntmps93;go_wp2_with fail;refine(yi _ s c3 (by omega)).mono ?_;rintro e w1⟨a,b,j,d,rfl,ha,wM,hj,q1,q2,q3,b1⟩;have CP:lY s d ((b:Int)-a-j):=⟨a,b,j,ha,wM,hj,rfl,q1,q2,q3⟩
 obtain⟨d1,d2,p1,p2⟩:=CP.bd;have Us:=Hid.mk' CP;clear CP q1 q2 q3;go_wp2_with fail;refine(CH _ d _ d1 d2 p1 p2 (dN HT.out b1)).mono ?_;rintro e w2⟨r,rfl,hr,b2⟩;have y9:r.size<=40:=EW hr d1 d2 p1 p2
 go_wp2;go_ret;refine⟨_,rfl,.inr (.inr (.inr ⟨by rw[HS.out];exact c3,by rw[HS.out];omega,d,_,by rw[HS.out];exact Us.out,?_⟩)),?_,b1.trans (b2.mono b1.size)⟩;{rw[aY,hr,HG.out]}
 {rw[dP];(have:(⟨#[]⟩:ByteArray).size<=1:=by decide);omega}}}}}
theorem ET(w:World)(x:Nat)(hx:x<18446744073709551616)(gB:Lib.TabIs prog w "internal/strconv.uint64pow10" .u64 Lib.pow10Tab):Calls prog 58 #[.int .u64 (x:Int)] w λe w'=>∃s:ByteArray,e=.returned (.string s)/\ju x s.data.toList/\s.size<=100/\Below w.heap.size w w':=by go_enter func58,ntmps58;go_wp2_with fail;refine(CA _ x hx gB).mono ?_;rintro e w1⟨s,rfl,h1,h2,h3⟩;go_wp2;go_ret;exact⟨s,rfl,h1,h2,h3⟩
def bQ:List Nat->Nat|[]=>0|x::r=>x+1000000000*bQ r
def xI(l:List Nat):Prop:=∀x∈l,x<1000000000
theorem nW(a b:List Nat):bQ (a++b)=bQ a+1000000000^a.length*bQ b:=by induction a with|nil=>simp[bQ]|cons x r ih=>simp only[cv,bQ,ih,aU,aT,cG];rw[ay (1000000000^r.length) 1000000000,aw];omega
theorem oM{l:List Nat}(h:xI l):bQ l<1000000000^l.length:=by induction l with|nil=>simp[bQ]|cons x r ih=>have h1:=h x (by simp);have h2:=ih (λy hy=>h y (by simp[hy]));simp only[bQ,aU,aT];have h3:bQ r+1<=1000000000^r.length:=h2;have h4:=ce 1000000000 h3;rw[ay (1000000000^r.length)];omega
theorem sF{l:List Nat}(h:fR l)(hne:l≠[]):1000000000^(l.length-1)<=bQ l:=by obtain⟨r,x,rfl⟩:=sX hne;have hx:x≠0:=h x (by simp);rw[nW];simp only[bQ,aJ,aU,cd];have:1000000000^r.length*1<=1000000000^r.length*(x+1000000000*0):=ce _ (by omega);simp at this⊢;omega
theorem pO{l:List Nat}(h:fR l){k:Nat}(hk:bQ l<1000000000^k):l.length<=k:=by by_cases hne:l=[];{simp[hne]};{have h1:=sF h hne;have h2:1000000000^(l.length-1)<1000000000^k:=dF h1 hk;have h3:=(kP (by omega:1<1000000000)).1 h2;omega}
theorem qE{l:List Nat}(h:fR l)(hk:bQ l=0):l=[]:=by by_cases hne:l=[];{exact hne};{have h1:=sF h hne;have:0<1000000000^(l.length-1):=dc (by omega);omega}
theorem nE(l:List Nat):bQ (jx l)=bQ l:=by refine qw (λl=>bQ (jx l)=bQ l) rfl ?_ ?_ l;{intro r x hx;rw[kx r hx]};{intro r h;rw[jg,h,nW];simp[bQ]}
theorem EF{l:List Nat}(h:xI l)(k:Nat):xI (l.take k):=λx hx=>h x (kI hx)
theorem oX(l:List Nat)(x:Nat):bQ (l++[x])=bQ l+1000000000^l.length*x:=by rw[nW];simp[bQ]
theorem jG{l:List Nat}{k y:Nat}(h:l[k]?=some y\/(l.length<=k/\y=0)):bQ (l.take (k+1))=bQ (l.take k)+1000000000^k*y:=by rcases h with h|⟨h,rfl⟩;{rw[cJ h,oX,take_len (by have:=(ar.1 h).1;omega)]};{rw[aI (by omega),aI h];simp}
theorem Ce{l:List Nat}{k x:Nat}(h:l[k]?=some x):bQ l=bQ (l.take k)+1000000000^k*(x+1000000000*bQ (l.drop (k+1))):=by
 have hk:=(ar.1 h).1;have e:l=l.take k++x::l.drop (k+1):=by have h1:=(cT k l).symm;rw[bW hk]at h1;rw[(ar.1 h).2]at h1;exact h1
 have:=congrArg bQ e;rw[nW,take_len (by omega)]at this;simpa[bQ]using this
theorem Cf{la lb:List Nat}{k x y:Nat}(hw:xI la)(hx:la[k]?=some x)(hy:lb[k]?=some y)(hd:la.drop (k+1)=lb.drop (k+1))(h:x<y):bQ la<bQ lb:=by rw[Ce hx,Ce hy,hd];have h1:=oM (EF hw k);rw[take_len (by have:=(ar.1 hx).1;omega)]at h1;have h2:1000000000^k*(x+1000000000*bQ (lb.drop (k+1))+1)<=1000000000^k*(y+1000000000*bQ (lb.drop (k+1))):=ce _ (by omega);rw[cG _ _ 1]at h2;omega
theorem uL{la lb:List Nat}(hw:xI la)(hc:fR lb)(h:la.length<lb.length):bQ la<bQ lb:=by have h1:=oM hw;have h2:=sF hc (by intro e;simp[e]at h);have h3:1000000000^la.length<=1000000000^(lb.length-1):=aF (by omega) (by omega);omega
theorem VG{a b i j:Nat}:ry (a*2^i) (b*2^j)=UQ a b ((j:Int)-i):=by
 unfold UQ;by_cases h:0<=(j:Int)-i;{rw[au h];(have e2:b*2^j=b*2^((j:Int)-i).toNat*2^i:=by rw[aw,<-cl];congr 2;omega);rw[e2,vR _ _ _ (dc (by omega))]};{rw[ai h];(have e2:a*2^i=a*2^(-((j:Int)-i)).toNat*2^j:=by rw[aw,<-cl];congr 2;omega);rw[e2,vR _ _ _ (dc (by omega))]}
def Dc(la lb:Nat):Int:=if 0<(la:Int)-lb-1 then 29*((la:Int)-lb-1)-54 else 30*((la:Int)-lb-1)-54
theorem Tk{a b la lb:Nat}(ha:a≠0)(hb:b≠0)(h1:1000000000^(la-1)<=a)(h2:b<1000000000^lb)(J9:1<=la):Dc la lb+54<=iw a b:=by
 obtain⟨i,j,e,k1,k2⟩:=n5 ha hb;rw[e];unfold Dc;by_cases hc:0<(la:Int)-lb-1;{rw[au hc];(have h3:b*2^(29*(la-lb-1))<=a*2^0:=by rw[nz,jF];refine ak (bI (bM h2) (ak ?_ (aj (1000000000^(la-lb-1))))) ?_;{rw[fD];exact ld (by decide) _};{rw[<-cl,show lb+(la-lb-1)=la-1 from by omega];exact h1});have:=ir h3 k2;omega}
 {
 rw[ai hc];have h3:b*2^0<=a*2^(30*(lb+1-la)):=by rw[nz,jF];refine ak (bM h2) ?_;refine ak ?_ (bI h1 (ak (aj (1000000000^(lb+1-la))) ?_));{rw[<-cl,show la-1+(lb+1-la)=lb from by omega];exact aj _};{rw[fD];exact ld (by decide) _}
 have:=ir h3 k2;omega}
theorem px{a b i j:Nat}(ha:a≠0)(hb:b≠0)(h:b*2^j*9007199254740992<=a*2^i):(j:Int)-i+53<=iw a b:=by
 obtain⟨i0,j0,e,k1,k2⟩:=n5 ha hb;have h3:b*2^(j+53)<=a*2^i:=by rw[cl,<-aw];exact h
 have:=ir h3 k2;omega
theorem s9{a b i j:Nat}(ha:a≠0)(hb:b≠0)(h:a*2^i<b*2^j*9007199254740992):iw a b<=(j:Int)-i+52:=by
 obtain⟨i0,j0,e,k1,k2⟩:=n5 ha hb;have h3:a*2^i<2*(b*2^(j+52)):=by rw[cl,<-aw b];omega
 have:=ir k1 h3;omega
theorem Ob{a b i j:Nat}(ha:a≠0)(hb:b≠0)(h:(j:Int)-i+52<=iw a b):b*2^j*4503599627370496<=a*2^i:=by obtain⟨i0,j0,e,k1,k2⟩:=n5 ha hb;by_cases hh:b*2^j*4503599627370496<=a*2^i;{exact hh};{exfalso;(have h3:a*2^i<2*(b*2^(j+51)):=by rw[cl,<-aw b];omega);have:=ir k1 h3;omega}
theorem td{n d q r:Nat}(h:n=d*q+r)(hr:r<d)(h1:n<d*9007199254740992):q<9007199254740992/\ry n d<=9007199254740992/\q<=ry n d:=by
 have h2:n/d=q:=by rw[h,ay,fU,fk _ _ (by omega),cz hr];omega
 have h3:n/d<9007199254740992:=ig h1;refine⟨by omega,?_,?_⟩<;>(unfold ry;split<;>omega)
def ei(m:Nat)(e:Int):Nat:=if m=9007199254740992 then(if 2047<=e+1+1075 then 9218868437227405312 else(e+1+1075).toNat*4503599627370496)else if m<4503599627370496 then m else if 2047<=e+1075 then 9218868437227405312 else(e+1075).toNat*4503599627370496+(m-4503599627370496)
theorem BS{a b i j:Nat}(ha:a≠0)(hb:b≠0)(he1:-1074<=(j:Int)-i)(pH:iw a b<=(j:Int)-i+52)(qT:(j:Int)-i=-1074\/(j:Int)-i+52<=iw a b):ei (ry (a*2^i) (b*2^j)) ((j:Int)-i)=qL a b:=by
 have Lh:=VG (a:=a) (b:=b) (i:=i) (j:=j);have hm:ry (a*2^i) (b*2^j)<=9007199254740992:=by refine Ra ?_;by_cases hh:a*2^i<b*2^j*9007199254740992;{exact hh};{have:=px ha hb (by omega:b*2^j*9007199254740992<=a*2^i);omega}
 have hE:eOf (iw a b)=(j:Int)-i:=by unfold eOf;split<;>omega
 have En:(j:Int)-i≠-1074->4503599627370496<=ry (a*2^i) (b*2^j):=by intro hne;have h1:=Ob ha hb (by omega:(j:Int)-i+52<=iw a b);have mO:0<b*2^j:=gp (by omega) (dc (by omega));have h2:4503599627370496<=a*2^i/(b*2^j):=(rj mO).2 (by rw[ay];exact h1);unfold ry;split<;>omega
 unfold qL;rw[hE,<-Lh];generalize ry (a*2^i) (b*2^j)=m at*;unfold ei;by_cases c1:1023<iw a b;{rw[au c1];split;{rw[au (by omega)]};{split;{omega};{rw[au (by omega)]}}}
 {rw[ai c1];split;{rename_i h1;subst h1;split;{omega};{omega}};{split;{(have:(j:Int)-i=-1074:=by by_cases hx:(j:Int)-i=-1074;{exact hx};{have:=En hx;omega});rw[this];simp};{rw[ai (by omega)];omega}}}
theorem E3{d r c:Nat}{ev:Bool}(hc:0<c):qB (d*c) (r*c) ev=qB d r ev:=by have h1:d*c<r*c↔d<r:=⟨λh=>wD h,λh=>dy h hc⟩;have h2:d*c=r*c↔d=r:=⟨λh=>Nat.eq_of_mul_eq_mul_right hc h,λh=>by rw[h]⟩;unfold qB;simp only[h1,h2]
def nS(s:Nat):Nat:=(eS s+1074).toNat
theorem size_eq{s:Nat}(h:s<9218868437227405312):s=nS s*4503599627370496+mS s/\nS s<=2045/\(nS s=0\/4503599627370496<=mS s)/\KW s=decide (mS s=4503599627370496/\1<=nS s)/\decide (s%2=0)=decide (mS s%2=0):=by
 unfold nS eS mS KW;by_cases h0:s/4503599627370496=0;{simp only[h0,EE];refine⟨by omega,by omega,.inl (by omega),?_,?_⟩;{by_cases h1:s%4503599627370496=0<;>simp<;>omega};{rw[show s%4503599627370496%2=s%2 by omega]}}
 {
 simp only[h0,zq];refine⟨by omega,by omega,.inr (by omega),?_,?_⟩;{by_cases h1:s%4503599627370496=0;{by_cases h2:1<s/4503599627370496;{rw[eY h1,eY h2,eY];{rfl};{omega}};{rw[eY h1,dH h2,dH];{rfl};{omega}}};{rw[dH h1,Bool.false_and,dH];omega}}
 {congr 1;apply propext;constructor<;>intro h<;>omega}}
theorem Ab(s:Nat):0<eU s:=by unfold eU qS;have:0<2^(eS s).toNat:=dc (by omega);split<;>omega
theorem KZ{x k m:Nat}(h:bl x<=k)(hp:wS k m=true):x<10^m:=ax (oJ x) (ak (aF (by omega) h) (Cr hp))
theorem abz:wS 1030 400=true:=by kernel_rfl
theorem aby:wS 1080 400=true:=by kernel_rfl
theorem pM:∃M:Nat,M=400/\wS 1030 M=true/\wS 1080 M=true:=⟨400,rfl,abz,aby⟩
theorem Bz{s:Nat}(h:s≠0):0<dQ s:=by unfold dQ qS;have:0<2^(eS s).toNat:=dc (by omega);exact gp (dR (Iq h)) (by omega)
theorem V4{S O a b M:Nat}(gH:0<S)(hO0:0<O)(hS:S<10^M)(hO:O<10^M)(h1:O*10^b<=S*10^a)(h2:S*10^a<10*(O*10^b)):b<M+a/\a<M+1+b:=by
 constructor;{(have q1:10^b<10^(M+a):=by rw[cl];have e1:10^b<=O*10^b:=lI _ hO0;have e2:S*10^a<10^M*10^a:=dy hS (cx a);generalize 10^M*10^a=Z at*;omega);exact(kP (by omega:1<10)).1 q1}
 {(have q1:10^a<10^(M+1+b):=by have e1:10^a<=S*10^a:=lI _ gH;have e2:O*10^b<10^M*10^b:=dy hO (cx b);(have e3:10^(M+1+b)=10*(10^M*10^b):=by rw[cl,aT];ac_rfl);rw[e3];generalize 10^M*10^b=Z at*;omega);exact(kP (by omega:1<10)).1 q1}
theorem Zv{s a b:Nat}(h0:s≠0)(h:s<9218868437227405312)(h1:gG s*10^b<=dQ s*10^a)(h2:dQ s*10^a<10*(gG s*10^b)):(b:Int)-a<=400/\-401<=(b:Int)-a:=by obtain⟨l1,_,_,l4⟩:=mE h;obtain⟨M,hM,m1,m2⟩:=pM;have:=V4 (Bz h0) (dR (xt s)) (KZ l1 m1) (KZ l4 m2) h1 h2;omega
theorem lY.pow{s d:Nat}{p:Int}(h:lY s d p)(h0:s≠0)(hs:s<9218868437227405312):-418<=p/\p<=400:=by obtain⟨a,b,j,h1,h2,h3,rfl,h4,h5,_⟩:=h;have:=Zv h0 hs h4 h5;omega
section
attribute [local go_sem↓]Go.wp_at_zero Go.wp_at_succ
def BI(s:Nat)(k:Int):Prop:=gG s*10^k.toNat<=dQ s*10^(-k).toNat
theorem vY{s a b:Nat}{k:Int}(h:(b:Int)-a=k):BI s k↔gG s*10^b<=dQ s*10^a:=by obtain⟨t,h1,h2⟩:∃t:Nat,b=k.toNat+t/\a=(-k).toNat+t:=⟨b-k.toNat,by omega,by omega⟩;unfold BI;rw[h1,h2,cl,cl,<-aw,<-aw];exact⟨λh=>cR _ h,λh=>Nat.le_of_mul_le_mul_right h (cx t)⟩
theorem RV{s:Nat}{k:Int}(h:BI s (k+1)):BI s k:=by obtain⟨a,b,hab⟩:∃a b:Nat,(b:Int)-a=k:=⟨(-k).toNat,k.toNat,by omega⟩;rw[vY (a:=a) (b:=b+1) (by omega)]at h;rw[vY hab];rw[aT,<-aw]at h;omega
theorem K7{s:Nat}{k k':Int}(h:BI s k)(hk:k'<=k):BI s k':=by obtain⟨n,rfl⟩:∃n:Nat,k=k'+n:=⟨(k-k').toNat,by omega⟩;clear hk;induction n with|zero=>simpa using h|succ n ih=>exact ih (RV (by rw[show k'+(n:Int)+1=k'+((n+1:Nat):Int)by omega];exact h))
theorem Kr{s:Nat}{k k':Int}(h1:BI s k)(h2:¬BI s (k+1))(h3:BI s k')(h4:¬BI s (k'+1)):k=k':=by by_cases h:k<k';{exact absurd (K7 h3 (by omega)) h2};{by_cases h':k'<k;{exact absurd (K7 h1 (by omega)) h4};{omega}}
theorem RW{s:Nat}{k:Int}(hs:s<9218868437227405312)(h:BI s k):k<=400:=by
 by_cases hk:k<=400;{exact hk};{
 obtain⟨M,hM,p1,p2⟩:=pM;have hS:dQ s<10^M:=KZ (mE hs).1 p1;unfold BI at h;rw[show(-k).toNat=0 by omega,nz,jF]at h;have h1:10^M<=10^k.toNat:=aF (by omega) (by omega)
 have h2:10^k.toNat<=gG s*10^k.toNat:=lI _ (dR (xt s));exact absurd (ax hS (ak h1 (ak h2 h))) (Nat.lt_irrefl _)}
theorem KV{lo d u c:Nat}(hc:0<c):mi lo (d*c) (u*c)=mi lo d u:=by have h1:∀x y:Nat,x*c<y*c↔x<y:=λx y=>⟨λh=>wD h,λh=>dy h hc⟩;unfold mi;simp only[h1]
theorem KP{N B A D c:Nat}{ev:Bool}(hc:0<c):jz (N*c) (B*c) (A*c) (D*c) ev=jz N B A D ev:=by unfold jz;rw[ade _ _ hc,adc,<-Nat.sub_mul,E3 hc,E3 hc,KV hc]
def PK(s:Nat)(k:Int):Option Nat:=jz (dQ s*10^(-k).toNat) (eU s*10^(-k).toNat) (eM s*10^(-k).toNat) (gG s*10^k.toNat) (decide (s%2=0))
theorem Me{s a b:Nat}{k:Int}(h:(b:Int)-a=k):PK s k=jz (dQ s*10^a) (eU s*10^a) (eM s*10^a) (gG s*10^b) (decide (s%2=0)):=by
 obtain⟨t,h1,h2⟩:∃t:Nat,b=k.toNat+t/\a=(-k).toNat+t:=⟨b-k.toNat,by omega,by omega⟩;have q:∀x i:Nat,x*10^(i+t)=x*10^i*10^t:=λx i=>by rw[cl,aw]
 unfold PK;rw[h1,h2,q,q,q,q];exact(KP (cx t)).symm
theorem lY.steps{s d:Nat}{p:Int}(h:lY s d p):∃j:Nat,j<=16/\BI s (p+j)/\¬BI s (p+j+1)/\PK s p=some d/\∀i:Nat,i<j->PK s (p+j-i)=none:=by
 obtain⟨a,b,j,h1,h2,h3,rfl,h4,h5,h6,h7⟩:=h;have q:∀x i:Nat,x*10^(a+i)=x*10^a*10^i:=λx i=>by rw[cl,aw]
 refine⟨j,h3,?_,?_,?_,?_⟩;{rw[vY (a:=a) (b:=b) (by omega)];exact h4};{rw[vY (a:=a) (b:=b+1) (by omega),aT,<-aw];omega};{rw[Me (a:=a+j) (b:=b) (by omega),q,q,q];exact h6}
 {intro i hi;rw[Me (a:=a+i) (b:=b) (by omega),q,q,q];exact h7 i hi}
def Ji(V N:Nat):Nat:=if V<N then N-V else V-N
def reach(V N B A:Nat):Nat:=if V<N then B else A
theorem vU{N D:Nat}(hD:D≠0):N/D*D+N%D=N/\N%D<D:=⟨by rw[ay];exact cY N D,dK N (dR hD)⟩
theorem Na{N D:Nat}(hD:D≠0):Ji (N/D*D) N=N%D:=by obtain⟨h1,h2⟩:=vU (N:=N) hD;unfold Ji;split<;>omega
theorem Jh{N D:Nat}(hD:D≠0):Ji ((N/D+1)*D) N=D-N%D:=by obtain⟨h1,h2⟩:=vU (N:=N) hD;unfold Ji;rw[eI,dJ];split<;>omega
theorem ZD{N B A D:Nat}{ev:Bool}(hD:D≠0)(hB:0<B)(hA:0<A):qB (Ji (N/D*D) N) (reach (N/D*D) N B A) ev=qB (N%D) B ev:=by obtain⟨h1,h2⟩:=vU (N:=N) hD;rw[Na hD];unfold reach;split;{rfl};{rw[show N%D=0 by omega];unfold qB;simp[hB,hA]}
theorem Wm{N B A D:Nat}{ev:Bool}(hD:D≠0):qB (Ji ((N/D+1)*D) N) (reach ((N/D+1)*D) N B A) ev=qB (D-N%D) A ev:=by obtain⟨h1,h2⟩:=vU (N:=N) hD;rw[Jh hD];unfold reach;rw[ai (by rw[eI,dJ];omega)]
theorem Ac(s:Nat):0<eM s:=by unfold eM qS;have:0<2^(eS s).toNat:=dc (by omega);omega
theorem TI{a b:List UInt8}(ha:fZ a)(hb:fZ b)(hl:a.length=b.length)(hv:dL a=dL b):a=b:=by
 induction a generalizing b with|nil=>(cases b with|nil=>rfl|cons y b=>simp at hl)|cons x a ih=>cases b with|nil=>simp at hl|cons y b=>(have wW:a.length=b.length:=by simpa using hl);have da:fZ a:=λc hc=>ha c (by simp[hc]);have db:fZ b:=λc hc=>hb c (by simp[hc]);have e1:=ol [x] a;have e2:=ol [y] b;simp only[cv,dt]at e1 e2;rw[e1,e2,wW]at hv;have l1:=lX da;have l2:=lX db;rw[wW]at l1;(have f1:dL [x]=x.toNat-48:=by simp[dL]);(have f2:dL [y]=y.toNat-48:=by simp[dL]);rw[f1,f2]at hv;have hx:=ha x (by simp);have hy:=hb y (by simp);unfold bZ at hx hy;simp at hx hy;(have g1:(x.toNat-48)=(y.toNat-48):=by(have q1:((x.toNat-48)*10^b.length+dL a)/10^b.length=x.toNat-48:=by rw[ay,fM (cx _),cz l1,iB]);(have q2:((y.toNat-48)*10^b.length+dL b)/10^b.length=y.toNat-48:=by rw[ay,fM (cx _),cz l2,iB]);rw[<-q1,<-q2,hv]);(have g2:dL a=dL b:=by rw[g1]at hv;omega);(have g3:x=y:=by apply cg.1;omega);rw[g3,ih da db wW g2]
theorem Pt{l:List UInt8}{n:Nat}(hd:fZ l)(h0:∀c r,l=c::r->c.toNat≠48)(hv:dL l=n)(hn:n≠0):l=Lib.decDigits n:=by
 obtain⟨d1,d2,d3,d4⟩:=LW n;have key:∀{a b:List UInt8},fZ a->fZ b->(∀c r,a=c::r->c.toNat≠48)->dL a=dL b->a≠[]->a.length<=b.length:=by intro a b ha hb h0 hv hne;cases a with|nil=>exact absurd rfl hne|cons c r=>have h1:=Nh ha (c:=c) (r:=r) rfl (h0 c r rfl);have h2:=lX hb;by_cases h:(c::r).length<=b.length;{exact h};{have h3:10^b.length<=10^((c::r).length-1):=aF (by omega) (by omega);omega}
 have hne:l≠[]:=by intro h;subst h;simp[dL]at hv;omega
 refine TI hd d1 (Nat.le_antisymm (key hd d1 h0 (by rw[hv,d2]) hne) (key d1 hd (d3 hn) (by rw[hv,d2]) d4)) (by rw[hv,d2])
end
theorem Tw{o S a b a' b':Nat}(h1:o*10^b<=S*10^a)(h2:S*10^a'<10*(o*10^b')):b+a'<=b'+a:=by
 by_cases h:b+a'<=b'+a;{exact h};{
 have e1:o*10^b*10^a'<=S*10^a*10^a':=cR _ h1;have e2:S*10^a'*10^a<10*(o*10^b')*10^a:=dy h2 (cx a);have e3:S*10^a*10^a'=S*10^a'*10^a:=by rw[ey]
 have e4:o*10^b*10^a'=o*10^(b+a'):=by rw[aw,cl]
 have e5:10*(o*10^b')*10^a=o*10^(b'+a+1):=by rw[aT,cl,ay 10,<-aw,ey,aw o]
 have e6:o*10^(b'+a+1)<=o*10^(b+a'):=ce _ (aF (by omega) (by omega));omega}
theorem Cl{s d d':Nat}{p p':Int}(h:lY s d p)(h':lY s d' p'):d=d'/\p=p':=by
 obtain⟨a,b,j,-,-,-,rfl,h1,h2,h3,h4⟩:=h;obtain⟨a',b',j',-,-,-,rfl,P6,h2',h3',h4'⟩:=h';have q1:=Tw h1 h2';have q2:=Tw P6 h2;have key:∀(a b i:Nat),jz (dQ s*10^a*10^i) (eU s*10^a*10^i) (eM s*10^a*10^i) (gG s*10^b) (decide (s%2=0))=PK s ((b:Int)-a-i):=by intro a b i;rw[Me (a:=a+i) (b:=b) (by omega),cl,aw,aw,aw]
 rw[key]at h3 h3';have g4:∀i,i<j->PK s ((b:Int)-a-i)=none:=λi hi=>by rw[<-key];exact h4 i hi
 have g4':∀i,i<j'->PK s ((b':Int)-a'-i)=none:=λi hi=>by rw[<-key];exact h4' i hi
 have hK:(b:Int)-a=(b':Int)-a':=by omega
 rw[<-hK]at h3' g4'⊢;by_cases hj:j=j';{subst hj;rw[h3]at h3';exact⟨cI h3',rfl⟩};{by_cases di:j<j';{have:=g4' j di;rw[h3]at this;cases this};{have:=g4 j' (by omega);rw[h3']at this;cases this}}
theorem Cq{x:Nat}{l l':List UInt8}(h:ju x l)(h':ju x l'):l=l':=by
 unfold ju at h h';rcases h with⟨a,b⟩|⟨a,b⟩|⟨a,b⟩|⟨a,b,d,p,hs,hl⟩<;>rcases h' with⟨a',b'⟩|⟨a',b'⟩|⟨a',b'⟩|⟨a',b',d',p',J6,wW⟩;all_goals first|(exact b.trans b'.symm)|(exfalso;omega)|skip
 obtain⟨rfl,rfl⟩:=Cl hs J6;exact hl.trans wW.symm
noncomputable def yt(x:Nat):List UInt8:=Classical.epsilon (ju x)
theorem Ro{x:Nat}{l:List UInt8}(h:ju x l):yt x=l:=Cq (Classical.epsilon_spec (p:=ju x) ⟨l,h⟩) h
theorem kF{T e:TypeId}{B b:Nat}{bs:List Value}{w w':World}(h:Lib.IsBuilderF T e B b bs w)(hb:Below w.heap.size w w'):Lib.IsBuilderF T e B b bs w':=by
 have key:∀p,Lib.BuilderAtF T e B b p bs w->Lib.BuilderAtF T e B b p bs w':=by rintro p⟨h1,v,h2,h3,h4⟩;exact⟨h1,v,(hb.block _ (aO.1 h2).1).trans h2,h3.kept (row:=none) ⟨hb.os,hb.tape,hb.output,hb.size,λk hk _=>hb.block k hk⟩ (by cases hv:v.ownBlock<;>simp),h4⟩
 exact h.imp (key _) (key _)
theorem JE{T e:TypeId}{B B' b:Nat}{bs:List Value}{w w':World}(h:Lib.IsBuilderF T e B b bs w)(s:ic B' w w'):Lib.IsBuilderF T e B b bs w':=by
 have key:∀p,Lib.BuilderAtF T e B b p bs w->Lib.BuilderAtF T e B b p bs w':=by rintro p⟨h1,v,h2,⟨h3,h5⟩,h4⟩;refine⟨h1,v,s.block _ _ h2 (.inr rfl),⟨h3,?_⟩,h4⟩;rcases h5 with h5|⟨g,cap,cE,fz,rfl,hB,hg,r⟩;{exact .inl h5};{exact .inr ⟨g,cap,cE,fz,rfl,hB,s.block _ _ hg (.inr rfl),r⟩}
 exact h.imp (key _) (key _)
theorem yy{e:TypeId}{b:Option Nat}{w w':World}(hb:Below w.heap.size w w'):Lib.OthersKept e b w w':=λk _ hk _ _=>(hb.block k (aO.1 hk).1).trans hk
theorem Mu(s:ByteArray):Lib.strCells s=jQ s.data.toList:=rfl
theorem vH(w:World)(B b q cap:Nat)(bs:List UInt8)(xs:List ByteArray)(hb:Lib.IsBuilderF 152 5 B b (jQ bs) w)(hB:B<=w.heap.size)(hbs:bs.length<=10000000)(hx:∀(j:Nat)x,xs[j]?=some x->w.cell? ⟨q,0+j,none⟩=some (.string x))(hq:q<w.heap.size)(hn:xs.length<=100)(iF:xs.length<=cap)(jl:List UInt8)(hj:Lib.join (xs.map (·.data.toList)) [32]=jl)(hjl:jl.length<=1000):Calls prog 107 #[.pointer (some ⟨b,0,none⟩),.slice (some ⟨q,0,none⟩) xs.length cap] w λe w'=>(∃v,e=.returned v)/\Lib.IsBuilderF 152 5 B b (jQ (bs++jl++[10])) w'/\Below B w w'/\Lib.OthersKept 5 (some b) w w':=by
 have HJ:=strings_Join q 0 cap xs ⟨#[32]⟩ w hx hq (by omega) iF (by rw[show(⟨#[32]⟩:ByteArray).data.toList=[32]from rfl,hj];omega);rw[show(⟨#[32]⟩:ByteArray).data.toList=[32]from rfl,hj]at HJ
 go_enter func107,ntmps107;go_wp2_with fail;refine HJ.mono ?_;rintro e w1⟨rfl,b1⟩;have h1:=kF hb b1;have z1:=b1.size;go_wp2_with fail;refine(Builder_WriteString_k B b _ ⟨jl.toArray⟩ w1 h1 (by simp[jQ,ByteArray.size];omega) (by omega)).mono ?_
 rintro e w2⟨rfl,h2,b2,k2⟩;have z2:=b2.size;go_wp2_with fail;refine(Builder_WriteByte_k B b _ 10 w2 (.inr h2) (by simp[jQ,Mu];omega) (by omega)).mono ?_;rintro e w3⟨rfl,h3,b3,k3⟩
 go_wp2;go_end0;refine⟨⟨_,rfl⟩,.inr ?_,((b1.mono hB).trans b2).trans b3,((yy b1).trans k2).trans k3⟩;have e1:jQ (bs++jl++[10])=jQ bs++Lib.strCells ⟨jl.toArray⟩++[.int .u8 10]:=by rw[Mu];simp[jQ]
 rw[e1];exact h3
def fG:Nat->List ByteArray|0=>[⟨#[37,37,77,97,116,114,105,120,77,97,114,107,101,116]⟩,⟨#[109,97,116,114,105,120]⟩,⟨#[97,114,114,97,121]⟩,⟨#[114,101,97,108]⟩,⟨#[103,101,110,101,114,97,108]⟩]|1=>[⟨#[37,37,77,97,116,114,105,120,77,97,114,107,101,116]⟩,⟨#[109,97,116,114,105,120]⟩,⟨#[97,114,114,97,121]⟩,⟨#[114,101,97,108]⟩,⟨#[115,121,109,109,101,116,114,105,99]⟩]|2=>[⟨#[37,37,77,97,116,114,105,120,77,97,114,107,101,116]⟩,⟨#[109,97,116,114,105,120]⟩,⟨#[99,111,111,114,100,105,110,97,116,101]⟩,⟨#[114,101,97,108]⟩,⟨#[103,101,110,101,114,97,108]⟩]|_=>[⟨#[37,37,77,97,116,114,105,120,77,97,114,107,101,116]⟩,⟨#[109,97,116,114,105,120]⟩,⟨#[99,111,111,114,100,105,110,97,116,101]⟩,⟨#[114,101,97,108]⟩,⟨#[115,121,109,109,101,116,114,105,99]⟩]
theorem Fi(w:World)(kind:Nat)(hk:kind<=3):Calls prog 108 #[.int .i64 (kind:Int)] w λe w'=>e=.returned (.slice (some ⟨w.heap.size,0,none⟩) 5 5)/\w'=w.alloc (.cells ((fG kind).map Value.string).toArray 9):=by
 rcases(by omega:kind=0\/kind=1\/kind=2\/kind=3)with rfl|rfl|rfl|rfl;{go_enter func108,ntmps108;go_wp2_with fail;refine(kY _ _ false (by decide)).mono ?_;rintro e w1⟨rfl,rfl⟩;go_wp2_with fail;refine(qO _ _ false (by decide)).mono ?_;rintro e w1⟨rfl,rfl⟩;go_wp2;go_ret;exact⟨rfl,rfl⟩}
 {go_enter func108,ntmps108;go_wp2_with fail;refine(kY _ _ false (by decide)).mono ?_;rintro e w1⟨rfl,rfl⟩;go_wp2_with fail;refine(qO _ _ true (by decide)).mono ?_;rintro e w1⟨rfl,rfl⟩;go_wp2;go_ret;exact⟨rfl,rfl⟩}
 {go_enter func108,ntmps108;go_wp2_with fail;refine(kY _ _ true (by decide)).mono ?_;rintro e w1⟨rfl,rfl⟩;go_wp2_with fail;refine(qO _ _ false (by decide)).mono ?_;rintro e w1⟨rfl,rfl⟩;go_wp2;go_ret;exact⟨rfl,rfl⟩}
 {go_enter func108,ntmps108;go_wp2_with fail;refine(kY _ _ true (by decide)).mono ?_;rintro e w1⟨rfl,rfl⟩;go_wp2_with fail;refine(qO _ _ true (by decide)).mono ?_;rintro e w1⟨rfl,rfl⟩;go_wp2;go_ret;exact⟨rfl,rfl⟩}
noncomputable def uy(kind:Nat)(y:Nat×Nat×Nat):List ByteArray:=if kind=2\/kind=3 then[⟨(Lib.decDigits (y.1+1)).toArray⟩,⟨(Lib.decDigits (y.2.1+1)).toArray⟩,⟨(yt y.2.2).toArray⟩]else[⟨(yt y.2.2).toArray⟩]
theorem gN{s:ByteArray}{l:List UInt8}(h:s.data.toList=l):s=⟨l.toArray⟩:=by subst h;cases s;simp
theorem Pn(w:World)(kind:Nat)(y:Nat×Nat×Nat)(hk:kind<=3)(h1:y.1<=40)(h2:y.2.1<=40)(h3:y.2.2<18446744073709551616)(gB:Lib.TabIs prog w "internal/strconv.uint64pow10" .u64 Lib.pow10Tab):Calls prog 111 #[fE y.1 y.2.1,.int .u64 (y.2.2:Int),.int .i64 (kind:Int)] w λe w'=>∃q,e=.returned (.slice (some ⟨q,0,none⟩) (uy kind y).length (uy kind y).length)/\aD w' q 9 ((uy kind y).map Value.string)/\Below w.heap.size w w'/\(yt y.2.2).length<=100:=by
 have fX:prog.follows .mixedOrders=true:=by kernel_rfl
 obtain⟨i,j,x⟩:=y;simp only at h1 h2 h3⊢;obtain⟨b,hb⟩:∃b,w.heap.size=b:=⟨_,rfl⟩;have t1:=dN gB (Below.cj w (iI i j));have aP:aD (w.alloc (iI i j)) b 117 [.int .i64 (i:Int),.int .i64 (j:Int)]:=by rw[<-hb];exact aD.dT w _ _
 have bP:Below b w (w.alloc (iI i j)):=by rw[<-hb];exact Below.cj _ _
 unfold fE;go_enter func111,ntmps111;go_wp2_with fail;unfold iI at t1 aP bP;refine(CA _ x h3 t1).mono ?_;rintro e W1⟨s,rfl,hpo,dU,b1⟩;have GL:=Ro hpo;obtain rfl:=gN GL.symm
 have abN:(yt x).length<=100:=by simpa[ByteArray.size]using dU
 have t2:=dN t1 b1;have aP1:=aP.az b1;have YK:Below b w W1:=bP.trans (b1.mono (by rw[<-hb];exact bP.size));have zW1:b+1<=W1.heap.size:=by have:=aP1.lt;omega
 have DW:=hid abN;clear hpo dU GL aP t1 gB b1 abN;by_cases hc:kind=2\/kind=3;{
 have xz:decide ((kind:Int)=2\/(kind:Int)=3)=true:=by simp;omega
 have HW:Hid (uy kind (i,j,x)=[⟨(Lib.decDigits (i+1)).toArray⟩,⟨(Lib.decDigits (j+1)).toArray⟩,⟨(yt x).toArray⟩]):=au hc;go_wp2_with fail;refine(kY _ _ true xz).mono ?_
 rintro e w1⟨rfl,kK⟩;rw[kK];clear kK xz;go_wp2_with fail;have gH:aD W1.drew b 117 [.int .i64 (i:Int),.int .i64 (j:Int)]:=aP1.drew;refine wp_region_held (S:=λW'=>aD W' b 117 [.int .i64 (i:Int),.int .i64 (j:Int)]) fX ?_
 change wpAnyH _ _ _ _ _ _ _ _ W1.drew;have t3:Lib.TabIs prog W1.drew "internal/strconv.uint64pow10" .u64 Lib.pow10Tab:=dN t2 (Below.refl _ W1).drew;refine tk 0 (.pointer (some ⟨b,0,none⟩)) rfl (λW' hS=>?_) gH ?_
 {clear hS;go_simp};simp only[Act.put];refine tk 1 (.int .i64 (i:Int)) rfl (λW' hS=>?_) gH ?_;{have c0:=hS.cell (i:=0) rfl;have c1:=hS.cell (i:=1) rfl;clear hS;go_simp}
 simp only[Act.put];refine tk 2 (.int .i64 ((i:Int)+1)) rfl (λW' hS=>?_) gH ?_;{(have hwr:IntKind.i64.wrap ((i:Int)+1)=(i:Int)+1:=by rw[IntKind.wrap_i64];omega);clear hS;go_simp}
 simp only[Act.put];refine tk 4 (.pointer (some ⟨b,1,none⟩)) rfl (λW' hS=>?_) gH ?_;{clear hS;go_simp};simp only[Act.put];refine tk 5 (.int .i64 (j:Int)) rfl (λW' hS=>?_) gH ?_
 {have c0:=hS.cell (i:=0) rfl;have c1:=hS.cell (i:=1) rfl;clear hS;go_simp};simp only[Act.put];refine tk 6 (.int .i64 ((j:Int)+1)) rfl (λW' hS=>?_) gH ?_;{(have hwr:IntKind.i64.wrap ((j:Int)+1)=(j:Int)+1:=by rw[IntKind.wrap_i64];omega);clear hS;go_simp}
 simp only[Act.put];refine tk 8 (.string ⟨(yt x).toArray⟩) rfl (λW' hS=>?_) gH ?_;{clear hS;go_simp};simp only[Act.put];refine wpAnyH_ready (rs:=[3]) (by kernel_rfl) (by simp) ?_
 refine AllReadyH.cons rfl (λK df=>?_) AllReadyH.nil;go_simp;refine(uU _ _ (i+1) (by simp) (by omega) t3).mono ?_;rintro e W2⟨s2,rfl,tD,b2⟩;obtain rfl:=gN tD;have oc:=gH.az b2
 have t4:=dN t3 b2;refine df.out _ _ oc (λhHeld=>?_);clear df;refine wpAnyH_ready (rs:=[7]) (by kernel_rfl) (by simp) ?_;refine AllReadyH.cons rfl (λK df=>?_) AllReadyH.nil
 go_simp;refine(uU _ _ (j+1) (by simp) (by omega) t4).mono ?_;rintro e W3⟨s3,rfl,hs3,b3⟩;obtain rfl:=gN hs3;have qW:=oc.az b3;refine df.out _ _ qW (λhHeld=>?_);clear df
 refine wpAnyH_ready (rs:=[9]) (by kernel_rfl) (by simp) ?_;refine AllReadyH.cons rfl (λK df=>?_) AllReadyH.nil;go_simp;refine df.out _ _ (qW.alloc _) (λhHeld=>?_)
 clear df;refine wpAnyH_ready (rs:=[10]) (by kernel_rfl) (by simp) ?_;refine AllReadyH.cons rfl (λK df=>?_) AllReadyH.nil;go_simp;refine df.out _ _ (qW.alloc _) (λhHeld=>?_)
 clear df;refine wpAnyH_done (by kernel_rfl) ?_ _;go_wp2;go_ret;rw[HW.out];refine⟨W3.heap.size,rfl,aD.dT _ _ _,?_,DW.out⟩;have e1:Below b w W1.drew:=YK.drew;have e2:W1.drew.heap.size=W1.heap.size:=rfl
 exact((e1.trans (b2.mono (by omega))).trans (b3.mono (by have:=b2.size;omega))).alloc (by have:=b2.size;have:=b3.size;omega) _};{
 have xz:decide ((kind:Int)=2\/(kind:Int)=3)=false:=by simp;omega
 have HW:Hid (uy kind (i,j,x)=[⟨(yt x).toArray⟩]):=ai hc;go_wp2_with fail;refine(kY _ _ false xz).mono ?_;rintro e w1⟨rfl,kK⟩;rw[kK];clear kK xz;go_wp2;go_ret;rw[HW.out]
 exact⟨W1.heap.size,rfl,aD.dT _ _ _,by rw[hb];exact YK.alloc (by omega) _,DW.out⟩}
end Go.Proofs.YthdcceackfdbbaaGreatDoor
