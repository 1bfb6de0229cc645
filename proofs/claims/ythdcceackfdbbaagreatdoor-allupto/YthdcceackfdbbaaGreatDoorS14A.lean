import Derived.Test.YthdcceackfdbbaaGreatDoorS05A
import Derived.Deep.RegionHeld3
import Derived.Deep.DrawnRows
set_option linter.unusedSimpArgs false
set_option maxRecDepth 20000
set_option maxHeartbeats 1600000
open Go.RowKit Go.Proofs.Tryz
namespace Go.Proofs.YthdcceackfdbbaaGreatDoor
def mS(s:Nat):Nat:=if s/4503599627370496=0 then s%4503599627370496 else 4503599627370496+s%4503599627370496
def eS(s:Nat):Int:=if s/4503599627370496=0 then-1074 else((s/4503599627370496:Nat):Int)-1075
theorem yU{s:Nat}(h:s<18446744073709551616):bits BinOp.and IntKind.u64 (s:Int) 4503599627370495=((s%4503599627370496:Nat):Int):=by rw[show(4503599627370495:Int)=((4503599627370495:Nat):Int)from rfl,u64_and_nat _ _ h (by omega)];congr 1;exact ll s 52
theorem VP{f:Nat}(h:f<4503599627370496):bits BinOp.or IntKind.u64 4503599627370496 (f:Int)=((4503599627370496+f:Nat):Int):=by rw[show(4503599627370496:Int)=((4503599627370496:Nat):Int)from rfl,u64_or_nat _ _ (by omega) (by omega),nat_join52 _ _ (by simp) h]
theorem QA{a a' b b':Int}(h1:a=a')(h2:b=b'):Ending.returned (.tuple #[.int .u64 a,.int .i64 b])=.returned (.tuple #[.int .u64 a',.int .i64 b']):=by rw[h1,h2]
theorem EV(w:World)(s:Nat)(hs:s<9218868437227405312):Calls prog 203 #[.int .u64 (s:Int)] w λe w'=>e=.returned (.tuple #[.int .u64 ((mS s:Nat):Int),.int .i64 (eS s)])/\w'=w:=by
 have hf:=yU (s:=s) (by omega);by_cases h0:s/4503599627370496=0;{(have hb:((s:Int)/4503599627370496==0)=true:=by simp;omega);go_enter func203,ntmps203;go_wp2;go_ret2;refine⟨QA ?_ ?_,rfl⟩;{simp[mS,h0]};{simp[eS,h0]}}
 {
 have hb:((s:Int)/4503599627370496==0)=false:=by simp;omega
 have ho:=VP (f:=s%4503599627370496) (by omega);go_enter func203,ntmps203;go_wp2;go_ret2;refine⟨QA ?_ ?_,rfl⟩;{rw[mS,ai h0];first|exact ho|(simp at ho⊢;exact ho)|omega}
 {rw[eS,ai h0];omega}}
def KW(s:Nat):Bool:=decide (s%4503599627370496=0)&&decide (1<s/4503599627370496)
theorem rK{a b:Bool}(h:a=b):Ending.returned (.bool a)=.returned (.bool b):=by rw[h]
theorem ud(w:World)(s:Nat)(hs:s<9218868437227405312):Calls prog 204 #[.int .u64 (s:Int)] w λe w'=>e=.returned (.bool (KW s))/\w'=w:=by
 have hf:=yU (s:=s) (by omega);by_cases h0:s%4503599627370496=0;{
 have hb:(((s%4503599627370496:Nat):Int)==0)=true:=by simp;omega
 have kL:((s:Int)%4503599627370496==0)=true:=by simp;omega
 go_enter func204,ntmps204;go_wp2;go_ret;refine⟨rK ?_,rfl⟩;unfold KW;simp[h0];try omega};{
 have hb:(((s%4503599627370496:Nat):Int)==0)=false:=by simp;omega
 have kL:((s:Int)%4503599627370496==0)=false:=by simp;omega
 go_enter func204,ntmps204;go_wp2;go_ret;refine⟨rK ?_,rfl⟩;unfold KW;simp[h0]}
def gS(t:Int):Int:=t*1233/4096-1
theorem CF(s:Nat):mS s<9007199254740992:=by unfold mS;split<;>omega
theorem De{s:Nat}(h:s<9218868437227405312):-1074<=eS s/\eS s<=971:=by unfold eS;split<;>omega
theorem O9(w:World)(s:Nat)(hs:s<9218868437227405312):Calls prog 166 #[.int .u64 (s:Int)] w λe w'=>e=.returned (.int .i64 (gS ((bl (mS s):Int)-1+eS s)))/\w'=w:=by
 go_enter func166,ntmps166;go_wp2_with fail;refine(EV _ s hs).mono ?_;rintro e w1⟨rfl,rfl⟩;have hm:=CF s;obtain⟨he1,Yz⟩:=De hs;have oy:=kj (n:=mS s) (k:=53) (by omega)
 have Jb:=Aa (x:=mS s) (by omega);have aer:Lib.bitLen (mS s)<=53:=by omega
 generalize hmS:mS s=m at*;generalize heS:eS s=ee at*;go_wp2_with fail;refine(bits_Len64 _ _ (by omega) (by omega)).mono ?_;rintro e w2⟨rfl,rfl⟩;go_wp2;go_ret;refine⟨aS ?_,rfl⟩
 unfold gS;first|omega|(rw[hmS,heS])|(rw[hmS,heS];omega)
theorem kR(w:World)(v:Value)(a:Nat)(h:iT w 0 v a)(ha:eE a):Calls prog 171 #[v] w λe w'=>∃v',e=.returned v'/\iT w' w.heap.size v' (a*10)/\Below w.heap.size w w':=by go_enter func171,ntmps171;go_wp2_with fail;refine(xu _ v a 10 0 h ha (by omega) (by omega)).mono ?_;rintro e w1⟨v1,rfl,r1,b1⟩;go_wp2;go_ret;exact⟨v1,rfl,r1,b1⟩
def qB(d r:Nat)(ev:Bool):Bool:=decide (d<r)||(decide (d=r)&&ev)
theorem Cd(w:World)(g:Nat)(va vb:Value)(a b:Nat)(ev:Bool)(ha:iT w 0 va a)(hb:iT w 0 vb b)(la:eE a)(hc:w.cell? ⟨g,4,none⟩=some (.bool ev)):Calls prog 169 #[.pointer (some ⟨g,0,none⟩),va,vb] w λe w'=>e=.returned (.bool (qB a b ev))/\∃n,w'=w.drewN n:=by
 go_enter func169,ntmps169;go_wp2_with fail;refine(js _ va vb a b ha hb la).mono ?_;rintro e w1⟨rfl,nq,rfl⟩;rcases eZ a b with di|di|di;{rw[fh (by omega)];go_wp2;(first|go_quiet(fail)|skip);go_wp2;go_ret;exact⟨rK (by simp[qB,di]),_,rfl⟩}
 {rw[gJ (by omega)];go_wp2;(first|go_quiet(fail)|skip);go_wp2;go_ret;exact⟨rK (by simp[qB,di]),_,rfl⟩};{rw[gI (by omega)];go_wp2;(first|go_quiet(fail)|skip);go_wp2;go_ret;exact⟨rK (by simp[qB];omega),_,rfl⟩}
def mi(lo down up:Nat):Nat:=if down<up then 0 else if up<down then 1 else lo%2
theorem KU(w:World)(n:Nat)(va vb:Value)(a b:Nat)(ha:iT w 0 va a)(hb:iT w 0 vb b)(la:eE a)(hn:n<18446744073709551616):Calls prog 170 #[.int .u64 (n:Int),va,vb] w λe w'=>e=.returned (.int .u64 ((mi n a b:Nat):Int))/\∃n,w'=w.drewN n:=by
 go_enter func170,ntmps170;go_wp2_with fail;refine(js _ va vb a b ha hb la).mono ?_;rintro e w1⟨rfl,nq,rfl⟩;rcases eZ a b with di|di|di;{rw[fh (by omega)];go_wp2;go_ret;exact⟨aS (by simp[mi,di]),_,rfl⟩}
 {rw[gJ (by omega)];go_wp2;go_ret;refine⟨aS ?_,_,rfl⟩;rw[and_one_u64 _ (by omega) (by omega)];simp[mi,di]};{rw[gI (by omega)];go_wp2;go_ret;exact⟨aS (by simp[mi,di,show¬a<b by omega]),_,rfl⟩}
def qS(s:Nat):Nat:=2^(eS s).toNat
def dQ(s:Nat):Nat:=mS s*(4*qS s)
def eU(s:Nat):Nat:=if KW s then qS s else 2*qS s
def eM(s:Nat):Nat:=2*qS s
def gG(s:Nat):Nat:=4*2^(-eS s).toNat
theorem T7(n:Nat):bl (2^n)<=n+1:=kj (adi (by omega) (by omega))
theorem At{a k n:Nat}(h:bl a<=k)(hk:k+n<=65536):eE (a*2^n):=dr (k:=k+n) (ak (dV a n) (by omega)) hk
theorem iT.form{w:World}{B:Nat}{v:Value}{n:Nat}(h:iT w B v n):∃ao k cap,v=.slice ao k cap:=by obtain⟨l,h1,_⟩:=h;obtain⟨ao,cap,rfl,_⟩:=h1.gy;exact⟨ao,_,cap,rfl⟩
theorem iT.set{w:World}{B:Nat}{v:Value}{n g:Nat}(h:iT w B v n)(hg:g<B)(i:Nat)(u:Value):iT (w.setCell ⟨g,i,none⟩ u) B v n:=by obtain⟨l,h1,h2⟩:=h;exact⟨l,h1.yj (a:=⟨g,i,none⟩) u (λk hk=>by have:=(h1.1.lt k hk).1;exact cf (ax hg this)),h2⟩
theorem iT.alloc{w:World}{B:Nat}{v:Value}{n:Nat}(h:iT w B v n)(o:Obj):iT (w.alloc o) B v n:=h.below ((Below.refl _ _).alloc (aj _) o)
theorem NZ:eE 1:=dr (k:=1) (kj (n:=1) (k:=1) (by omega)) (by omega)
theorem Kv:eE 4:=dr (k:=3) (kj (n:=4) (k:=3) (by omega)) (by omega)
theorem Mw{m:Nat}(h:m<9007199254740992):eE m:=dr (k:=53) (kj (n:=m) (k:=53) (by omega)) (by omega)
theorem XS{s:Nat}(h:s<9218868437227405312):bl (qS s)<=972:=by have:=De h;exact ak (T7 _) (by omega)
theorem Ku(w:World)(s:Nat)(hs:s<9218868437227405312):Calls prog 164 #[.int .u64 (s:Int)] w λe w'=>∃v0 v1 v2 v3,e=.returned (.agg #[v0,v1,v2,v3,.bool (decide (s%2=0))])/\iT w' 0 v0 (dQ s)/\iT w' 0 v1 (eU s)/\iT w' 0 v2 (eM s)/\iT w' 0 v3 (gG s)/\Below w.heap.size w w':=by
 have hm:=CF s;obtain⟨he1,Yz⟩:=De hs;have Bf:=XS hs;have abQ:(bits BinOp.and IntKind.u64 (s:Int) 1==0)=decide (s%2=0):=by rw[and_one_u64 _ (by omega) (by omega)];by_cases h:s%2=0;{rw[eY h];simp;omega};{rw[dH h];simp;omega}
 have afb:((s:Int)%2==0)=decide (s%2=0):=by by_cases h:s%2=0;{rw[eY h];simp;omega};{rw[dH h];simp;omega}
 generalize decide (s%2=0)=ev at*;have HS:Hid (dQ s=mS s*(qS s*2^2)):=by unfold Hid dQ;rw[ay 4]
 have HB:Hid (eU s=if KW s then qS s else qS s*2^1):=by unfold Hid eU;simp[ay]
 have HA:Hid (eM s=qS s*2^1):=by unfold Hid eM;omega
 have HO:Hid (gG s=4*2^(-eS s).toNat):=rfl;have HQ:Hid (qS s=1*2^(eS s).toNat):=by unfold Hid qS;omega
 go_enter func164,ntmps164;go_wp2_with fail;refine(EV _ s hs).mono ?_;rintro e w1⟨rfl,rfl⟩;generalize mS s=m at*;generalize eS s=ee at*;go_wp2_with fail;refine(zF _ 1 (by omega)).mono ?_
 rintro e w2⟨v2,rfl,r2,b2⟩;go_wp2_with fail;refine(zF _ 4 (by omega)).mono ?_;rintro e w3⟨v3,rfl,r3,b3⟩;have s2:w.heap.size+1<=w2.heap.size:=by have:=b2.size;simpa using this
 have s3:w.heap.size+1<=w3.heap.size:=ak s2 b3.size;have t2:iT w3 (w.heap.size+1) v2 1:=(r2.base (by simp)).below b3;have t3:iT w3 (w.heap.size+1) v3 4:=r3.base s2
 clear r2 r3;by_cases hc:0<=ee;{
 obtain⟨n,hn⟩:∃n:Nat,ee=(n:Int):=⟨(ee).toNat,by omega⟩;have xz:decide (0<=ee)=true:=by simp;omega
 have wV:n<=971:=by omega
 have HN:Hid ((ee).toNat=n/\(-ee).toNat=0):=⟨by omega,by omega⟩;go_wp2_with fail;have J1:iT w3 0 v2 1:=t2.base (ap _);refine(nG w3 v2 1 n J1 NZ (by omega)).mono ?_
 rintro e w4⟨v4,rfl,r4,b4⟩;have rq:iT w4 (w.heap.size+1) v4 (qS s):=by rw[HQ.out,HN.out.1];exact r4.base s3
 have ro:iT w4 (w.heap.size+1) v3 (gG s):=by rw[HO.out,HN.out.2];exact t3.below b4
 generalize hqS:qS s=q at*;generalize hoS:gG s=o at*;go_wp2_with fail;refine(zF _ (m) (by omega)).mono ?_;rintro e w5⟨v5,rfl,r5,b5⟩;go_wp2_with fail;refine(kW _ v4 q 2 2 ((rq.base (ap _)).below b5) (dr Bf (by omega)) (by omega) rfl).mono ?_
 rintro e w6⟨v6,rfl,r6,b6⟩;go_wp2_with fail;refine(qy _ v5 v6 (m) (q*2^2) ((r5.base (ap _)).below b6) (r6.base (ap _)) (Mw hm) (At Bf (by omega))).mono ?_;rintro e w7⟨v7,rfl,r7,b7⟩
 go_wp2_with fail;refine(kW _ v4 q 1 1 ((((rq.base (ap _)).below b5).below b6).below b7) (dr Bf (by omega)) (by omega) rfl).mono ?_;rintro e w8⟨v8,rfl,r8,b8⟩;go_wp2_with fail
 refine(kW _ v4 q 1 1 (((((rq.base (ap _)).below b5).below b6).below b7).below b8) (dr Bf (by omega)) (by omega) rfl).mono ?_;rintro e w9⟨v9,rfl,r9,b9⟩;have z3:=ak b2.size b3.size
 have z4:=ak z3 b4.size;have z5:=ak z4 b5.size;have z6:=ak z5 b6.size;have z7:=ak z6 b7.size;have z8:=ak z7 b8.size;have y6:w.heap.size+1<=w6.heap.size:=by simpa using z6
 have y7:w.heap.size+1<=w7.heap.size:=by simpa using z7
 have y8:w.heap.size+1<=w8.heap.size:=by simpa using z8
 have nt:=(((((((b2.trans (b3.mono b2.size)).trans (b4.mono z3)).trans (b5.mono z4)).trans (b6.mono z5)).trans (b7.mono z6)).trans (b8.mono z7)).trans (b9.mono z8))
 have adI:w.heap.size<w9.heap.size:=ax (by simp) nt.size;have C7:Below w.heap.size w w9:=((Below.refl _ _).alloc (aj _) _).trans (nt.mono (by simp));obtain⟨sL,o6⟩:=Dy nt
 have c0:=sL w.heap.size 0 (by simp);have f0:=o6 w.heap.size 0 (by simp);have c1:=sL w.heap.size 1 (by simp);have f1:=o6 w.heap.size 1 (by simp);have c2:=sL w.heap.size 2 (by simp)
 have f2:=o6 w.heap.size 2 (by simp);have c3:=sL w.heap.size 3 (by simp);have f3:=o6 w.heap.size 3 (by simp);have c4:=sL w.heap.size 4 (by simp);have f4:=o6 w.heap.size 4 (by simp)
 simp at c0 c1 c2 c3 c4 f0 f1 f2 f3 f4;have R0:iT w9 (w.heap.size+1) v7 (dQ s):=by rw[HS.out];exact((r7.base y6).below b8).below b9
 have R2:iT w9 (w.heap.size+1) v9 (eM s):=by rw[HA.out];exact r9.base y8
 have R3:iT w9 (w.heap.size+1) v3 o:=((((ro.below b5).below b6).below b7).below b8).below b9;have Rq:iT w9 (w.heap.size+1) v4 q:=((((rq.below b5).below b6).below b7).below b8).below b9
 have R1:iT w9 (w.heap.size+1) v8 (q*2^1):=(r8.base y7).below b9;clear sL o6 b2 b3 b4 b5 b6 b7 b8 b9 t2 t3 r4 r5 r6 r7 r8 r9 s2 s3 z3 z4 z5 z6 z7 z8 y6 y7 y8 rq ro nt Bf
 obtain⟨a7,k7,p7,e7⟩:=R0.form;obtain⟨a8,k8,p8,e8⟩:=R1.form;obtain⟨a9,k9,p9,e9⟩:=R2.form;obtain⟨ao,ko,po,eo⟩:=R3.form;obtain⟨aq,kq,pq,eq⟩:=Rq.form;subst e7 e8 e9 eo eq
 go_wp2_with fail;refine(ud _ s hs).mono ?_;rintro e J0⟨rfl,rfl⟩;have hne:w9.heap.size≠w.heap.size:=by omega
 have aab:w.heap.size≠w9.heap.size:=by omega
 cases P2:KW s;{
 have R1':iT w9 (w.heap.size+1) (.slice a8 k8 p8) (eU s):=by rw[HB.out,P2];simpa using R1
 clear HS HB HA HO HQ HN;go_wp2;refine bodyPost_ret (v:=.agg #[.slice a7 k7 p7,.slice a8 k8 p8,.slice a9 k9 p9,.slice ao ko po,.bool ev]) (by simp[results,results164,go_sem, *]) rfl ⟨_,_,_,_,rfl,?_⟩
 have hg:w.heap.size<w.heap.size+1:=by omega
 rw[hoS];exact⟨((((((R0.set hg 0 _).set hg 1 _).set hg 2 _).set hg 3 _).set hg 4 _).alloc _).base (ap _),((((((R1'.set hg 0 _).set hg 1 _).set hg 2 _).set hg 3 _).set hg 4 _).alloc _).base (ap _),((((((R2.set hg 0 _).set hg 1 _).set hg 2 _).set hg 3 _).set hg 4 _).alloc _).base (ap _),((((((R3.set hg 0 _).set hg 1 _).set hg 2 _).set hg 3 _).set hg 4 _).alloc _).base (ap _),(((((C7.setCell (p:=⟨w.heap.size,0,none⟩) (aj _) _).setCell (p:=⟨w.heap.size,1,none⟩) (aj _) _).setCell (p:=⟨w.heap.size,2,none⟩) (aj _) _).setCell (p:=⟨w.heap.size,3,none⟩) (aj _) _).setCell (p:=⟨w.heap.size,4,none⟩) (aj _) _).alloc (by simp;omega) _⟩}
 {
 have R1':iT w9 (w.heap.size+1) (.slice aq kq pq) (eU s):=by rw[HB.out,P2];simpa using Rq
 clear HS HB HA HO HQ HN;go_wp2;refine bodyPost_ret (v:=.agg #[.slice a7 k7 p7,.slice aq kq pq,.slice a9 k9 p9,.slice ao ko po,.bool ev]) (by simp[results,results164,go_sem, *]) rfl ⟨_,_,_,_,rfl,?_⟩
 have hg:w.heap.size<w.heap.size+1:=by omega
 rw[hoS];exact⟨((((((R0.set hg 0 _).set hg 1 _).set hg 2 _).set hg 3 _).set hg 4 _).alloc _).base (ap _),((((((R1'.set hg 0 _).set hg 1 _).set hg 2 _).set hg 3 _).set hg 4 _).alloc _).base (ap _),((((((R2.set hg 0 _).set hg 1 _).set hg 2 _).set hg 3 _).set hg 4 _).alloc _).base (ap _),((((((R3.set hg 0 _).set hg 1 _).set hg 2 _).set hg 3 _).set hg 4 _).alloc _).base (ap _),(((((C7.setCell (p:=⟨w.heap.size,0,none⟩) (aj _) _).setCell (p:=⟨w.heap.size,1,none⟩) (aj _) _).setCell (p:=⟨w.heap.size,2,none⟩) (aj _) _).setCell (p:=⟨w.heap.size,3,none⟩) (aj _) _).setCell (p:=⟨w.heap.size,4,none⟩) (aj _) _).alloc (by simp;omega) _⟩}}
 {
 obtain⟨n,hn⟩:∃n:Nat,-ee=(n:Int):=⟨(-ee).toNat,by omega⟩;have xz:decide (0<=ee)=false:=by simp;omega
 have wV:n<=1074:=by omega
 have HN:Hid ((-ee).toNat=n/\(ee).toNat=0):=⟨by omega,by omega⟩;go_wp2_with fail;refine(nG w3 v3 4 n (t3.base (ap _)) Kv (by omega)).mono ?_;rintro e w4⟨v4,rfl,r4,b4⟩
 have rq:iT w4 (w.heap.size+1) v2 (qS s):=by rw[HQ.out,HN.out.2];exact t2.below b4
 have ro:iT w4 (w.heap.size+1) v4 (gG s):=by rw[HO.out,HN.out.1];exact r4.base s3
 generalize hqS:qS s=q at*;generalize hoS:gG s=o at*;go_wp2_with fail;refine(zF _ (m) (by omega)).mono ?_;rintro e w5⟨v5,rfl,r5,b5⟩;go_wp2_with fail;refine(kW _ v2 q 2 2 ((rq.base (ap _)).below b5) (dr Bf (by omega)) (by omega) rfl).mono ?_
 rintro e w6⟨v6,rfl,r6,b6⟩;go_wp2_with fail;refine(qy _ v5 v6 (m) (q*2^2) ((r5.base (ap _)).below b6) (r6.base (ap _)) (Mw hm) (At Bf (by omega))).mono ?_;rintro e w7⟨v7,rfl,r7,b7⟩
 go_wp2_with fail;refine(kW _ v2 q 1 1 ((((rq.base (ap _)).below b5).below b6).below b7) (dr Bf (by omega)) (by omega) rfl).mono ?_;rintro e w8⟨v8,rfl,r8,b8⟩;go_wp2_with fail
 refine(kW _ v2 q 1 1 (((((rq.base (ap _)).below b5).below b6).below b7).below b8) (dr Bf (by omega)) (by omega) rfl).mono ?_;rintro e w9⟨v9,rfl,r9,b9⟩;have z3:=ak b2.size b3.size
 have z4:=ak z3 b4.size;have z5:=ak z4 b5.size;have z6:=ak z5 b6.size;have z7:=ak z6 b7.size;have z8:=ak z7 b8.size;have y6:w.heap.size+1<=w6.heap.size:=by simpa using z6
 have y7:w.heap.size+1<=w7.heap.size:=by simpa using z7
 have y8:w.heap.size+1<=w8.heap.size:=by simpa using z8
 have nt:=(((((((b2.trans (b3.mono b2.size)).trans (b4.mono z3)).trans (b5.mono z4)).trans (b6.mono z5)).trans (b7.mono z6)).trans (b8.mono z7)).trans (b9.mono z8))
 have adI:w.heap.size<w9.heap.size:=ax (by simp) nt.size;have C7:Below w.heap.size w w9:=((Below.refl _ _).alloc (aj _) _).trans (nt.mono (by simp));obtain⟨sL,o6⟩:=Dy nt
 have c0:=sL w.heap.size 0 (by simp);have f0:=o6 w.heap.size 0 (by simp);have c1:=sL w.heap.size 1 (by simp);have f1:=o6 w.heap.size 1 (by simp);have c2:=sL w.heap.size 2 (by simp)
 have f2:=o6 w.heap.size 2 (by simp);have c3:=sL w.heap.size 3 (by simp);have f3:=o6 w.heap.size 3 (by simp);have c4:=sL w.heap.size 4 (by simp);have f4:=o6 w.heap.size 4 (by simp)
 simp at c0 c1 c2 c3 c4 f0 f1 f2 f3 f4;have R0:iT w9 (w.heap.size+1) v7 (dQ s):=by rw[HS.out];exact((r7.base y6).below b8).below b9
 have R2:iT w9 (w.heap.size+1) v9 (eM s):=by rw[HA.out];exact r9.base y8
 have R3:iT w9 (w.heap.size+1) v4 o:=((((ro.below b5).below b6).below b7).below b8).below b9;have Rq:iT w9 (w.heap.size+1) v2 q:=((((rq.below b5).below b6).below b7).below b8).below b9
 have R1:iT w9 (w.heap.size+1) v8 (q*2^1):=(r8.base y7).below b9;clear sL o6 b2 b3 b4 b5 b6 b7 b8 b9 t2 t3 r4 r5 r6 r7 r8 r9 s2 s3 z3 z4 z5 z6 z7 z8 y6 y7 y8 rq ro nt Bf
 obtain⟨a7,k7,p7,e7⟩:=R0.form;obtain⟨a8,k8,p8,e8⟩:=R1.form;obtain⟨a9,k9,p9,e9⟩:=R2.form;obtain⟨ao,ko,po,eo⟩:=R3.form;obtain⟨aq,kq,pq,eq⟩:=Rq.form;subst e7 e8 e9 eo eq
 go_wp2_with fail;refine(ud _ s hs).mono ?_;rintro e J0⟨rfl,rfl⟩;have hne:w9.heap.size≠w.heap.size:=by omega
 have aab:w.heap.size≠w9.heap.size:=by omega
 cases P2:KW s;{
 have R1':iT w9 (w.heap.size+1) (.slice a8 k8 p8) (eU s):=by rw[HB.out,P2];simpa using R1
 clear HS HB HA HO HQ HN;go_wp2;refine bodyPost_ret (v:=.agg #[.slice a7 k7 p7,.slice a8 k8 p8,.slice a9 k9 p9,.slice ao ko po,.bool ev]) (by simp[results,results164,go_sem, *]) rfl ⟨_,_,_,_,rfl,?_⟩
 have hg:w.heap.size<w.heap.size+1:=by omega
 rw[hoS];exact⟨((((((R0.set hg 0 _).set hg 1 _).set hg 2 _).set hg 3 _).set hg 4 _).alloc _).base (ap _),((((((R1'.set hg 0 _).set hg 1 _).set hg 2 _).set hg 3 _).set hg 4 _).alloc _).base (ap _),((((((R2.set hg 0 _).set hg 1 _).set hg 2 _).set hg 3 _).set hg 4 _).alloc _).base (ap _),((((((R3.set hg 0 _).set hg 1 _).set hg 2 _).set hg 3 _).set hg 4 _).alloc _).base (ap _),(((((C7.setCell (p:=⟨w.heap.size,0,none⟩) (aj _) _).setCell (p:=⟨w.heap.size,1,none⟩) (aj _) _).setCell (p:=⟨w.heap.size,2,none⟩) (aj _) _).setCell (p:=⟨w.heap.size,3,none⟩) (aj _) _).setCell (p:=⟨w.heap.size,4,none⟩) (aj _) _).alloc (by simp;omega) _⟩}
 {
 have R1':iT w9 (w.heap.size+1) (.slice aq kq pq) (eU s):=by rw[HB.out,P2];simpa using Rq
 clear HS HB HA HO HQ HN;go_wp2;refine bodyPost_ret (v:=.agg #[.slice a7 k7 p7,.slice aq kq pq,.slice a9 k9 p9,.slice ao ko po,.bool ev]) (by simp[results,results164,go_sem, *]) rfl ⟨_,_,_,_,rfl,?_⟩
 have hg:w.heap.size<w.heap.size+1:=by omega
 rw[hoS];exact⟨((((((R0.set hg 0 _).set hg 1 _).set hg 2 _).set hg 3 _).set hg 4 _).alloc _).base (ap _),((((((R1'.set hg 0 _).set hg 1 _).set hg 2 _).set hg 3 _).set hg 4 _).alloc _).base (ap _),((((((R2.set hg 0 _).set hg 1 _).set hg 2 _).set hg 3 _).set hg 4 _).alloc _).base (ap _),((((((R3.set hg 0 _).set hg 1 _).set hg 2 _).set hg 3 _).set hg 4 _).alloc _).base (ap _),(((((C7.setCell (p:=⟨w.heap.size,0,none⟩) (aj _) _).setCell (p:=⟨w.heap.size,1,none⟩) (aj _) _).setCell (p:=⟨w.heap.size,2,none⟩) (aj _) _).setCell (p:=⟨w.heap.size,3,none⟩) (aj _) _).setCell (p:=⟨w.heap.size,4,none⟩) (aj _) _).alloc (by simp;omega) _⟩}}
section
attribute [local go_sem↓]Go.wp_at_zero Go.wp_at_succ
def BV(w:World)(g:Nat)(v:Value)(n:Nat):Prop:=iT w 0 v n/\∀k,v.ownBlock=some k->k≠g
theorem BV.below{w w':World}{g:Nat}{v:Value}{n:Nat}(h:BV w g v n)(hb:Below w.heap.size w w'):BV w' g v n:=⟨h.1.below hb,h.2⟩
theorem BV.drewN{w:World}{g:Nat}{v:Value}{n:Nat}(h:BV w g v n)(k:Nat):BV (w.drewN k) g v n:=⟨h.1.drewN k,h.2⟩
theorem BV.set{w:World}{g:Nat}{v:Value}{n:Nat}(h:BV w g v n)(i:Nat)(u:Value):BV (w.setCell ⟨g,i,none⟩ u) g v n:=by obtain⟨⟨l,h1,h2⟩,h3⟩:=h;exact⟨⟨l,h1.yj (a:=⟨g,i,none⟩) u h3,h2⟩,h3⟩
theorem lU{w:World}{B g:Nat}{v:Value}{n:Nat}(h:iT w B v n)(hg:g<B):BV w g v n:=by refine⟨h.base (ap _),?_⟩;obtain⟨l,h1,_⟩:=h;intro k hk;have:=(h1.1.lt k hk).1;omega
theorem BD{w:World}{B g:Nat}{v:Value}{n:Nat}(h:iT w B v n)(hg:w.heap.size<=g):BV w g v n:=by refine⟨h.base (ap _),?_⟩;obtain⟨l,h1,_⟩:=h;intro k hk;have:=(h1.1.lt k hk).2;omega
structure pZ(w:World)(g:Nat)(v0 v1 v2 v3:Value)(ev:Bool)(S B A D:Nat):Prop where
 lt:g<w.heap.size
 fr:∀i,w.frozen? ⟨g,i,none⟩=false
 c0:w.cell? ⟨g,0,none⟩=some v0
 c1:w.cell? ⟨g,1,none⟩=some v1
 c2:w.cell? ⟨g,2,none⟩=some v2
 c3:w.cell? ⟨g,3,none⟩=some v3
 c4:w.cell? ⟨g,4,none⟩=some (.bool ev)
 n0:BV w g v0 S
 n1:BV w g v1 B
 n2:BV w g v2 A
 n3:BV w g v3 D
theorem pZ.below{w w':World}{g:Nat}{v0 v1 v2 v3:Value}{ev:Bool}{S B A D:Nat}(h:pZ w g v0 v1 v2 v3 ev S B A D)(hb:Below w.heap.size w w'):pZ w' g v0 v1 v2 v3 ev S B A D:=by
 obtain⟨hc,hf⟩:=Dy hb;exact⟨ax h.lt hb.size,λi=>(hf g i h.lt).trans (h.fr i),(hc g 0 h.lt).trans h.c0,(hc g 1 h.lt).trans h.c1,(hc g 2 h.lt).trans h.c2,(hc g 3 h.lt).trans h.c3,(hc g 4 h.lt).trans h.c4,h.n0.below hb,h.n1.below hb,h.n2.below hb,h.n3.below hb⟩
theorem pZ.drewN{w:World}{g:Nat}{v0 v1 v2 v3:Value}{ev:Bool}{S B A D:Nat}(h:pZ w g v0 v1 v2 v3 ev S B A D)(n:Nat):pZ (w.drewN n) g v0 v1 v2 v3 ev S B A D:=h.below (below_drewN (Below.refl _ _) n)
section sets
variable {w:World}{g:Nat}{v0 v1 v2 v3 v:Value}{ev:Bool}{S B A D N:Nat}
theorem vt(h:∀i,w.frozen? ⟨g,i,none⟩=false)(j:Nat)(v:Value):∀i,(w.setCell ⟨g,j,none⟩ v).frozen? ⟨g,i,none⟩=false:=by intro i;simpa using h i
theorem pZ.QQ(h:pZ w g v0 v1 v2 v3 ev S B A D)(hv:BV w g v N):pZ (w.setCell ⟨g,0,none⟩ v) g v v1 v2 v3 ev N B A D:=⟨by simpa using h.lt,vt h.fr _ _,World.cell?_setCell_same _ _ _ h.c0,(World.cell?_setCell_other _ _ _ _ (by simp)).trans h.c1,(World.cell?_setCell_other _ _ _ _ (by simp)).trans h.c2,(World.cell?_setCell_other _ _ _ _ (by simp)).trans h.c3,(World.cell?_setCell_other _ _ _ _ (by simp)).trans h.c4,hv.set _ _,h.n1.set _ _,h.n2.set _ _,h.n3.set _ _⟩
theorem pZ.N5(h:pZ w g v0 v1 v2 v3 ev S B A D)(hv:BV w g v N):pZ (w.setCell ⟨g,1,none⟩ v) g v0 v v2 v3 ev S N A D:=⟨by simpa using h.lt,vt h.fr _ _,(World.cell?_setCell_other _ _ _ _ (by simp)).trans h.c0,World.cell?_setCell_same _ _ _ h.c1,(World.cell?_setCell_other _ _ _ _ (by simp)).trans h.c2,(World.cell?_setCell_other _ _ _ _ (by simp)).trans h.c3,(World.cell?_setCell_other _ _ _ _ (by simp)).trans h.c4,h.n0.set _ _,hv.set _ _,h.n2.set _ _,h.n3.set _ _⟩
theorem pZ.QP(h:pZ w g v0 v1 v2 v3 ev S B A D)(hv:BV w g v N):pZ (w.setCell ⟨g,2,none⟩ v) g v0 v1 v v3 ev S B N D:=⟨by simpa using h.lt,vt h.fr _ _,(World.cell?_setCell_other _ _ _ _ (by simp)).trans h.c0,(World.cell?_setCell_other _ _ _ _ (by simp)).trans h.c1,World.cell?_setCell_same _ _ _ h.c2,(World.cell?_setCell_other _ _ _ _ (by simp)).trans h.c3,(World.cell?_setCell_other _ _ _ _ (by simp)).trans h.c4,h.n0.set _ _,h.n1.set _ _,hv.set _ _,h.n3.set _ _⟩
theorem pZ.QO(h:pZ w g v0 v1 v2 v3 ev S B A D)(hv:BV w g v N):pZ (w.setCell ⟨g,3,none⟩ v) g v0 v1 v2 v ev S B A N:=⟨by simpa using h.lt,vt h.fr _ _,(World.cell?_setCell_other _ _ _ _ (by simp)).trans h.c0,(World.cell?_setCell_other _ _ _ _ (by simp)).trans h.c1,(World.cell?_setCell_other _ _ _ _ (by simp)).trans h.c2,World.cell?_setCell_same _ _ _ h.c3,(World.cell?_setCell_other _ _ _ _ (by simp)).trans h.c4,h.n0.set _ _,h.n1.set _ _,h.n2.set _ _,hv.set _ _⟩
end sets
theorem EJ{D S k:Nat}(h0:D≠0)(h:D*10^k<=S)(hS:bl S<=9000):k<=9000:=by have h1:2^k<=S:=ak (ld (by omega:2<=10) k) (ak (lI _ (by omega)) h);have h2:=oJ S;have h3:k<bl S:=(kP (by omega:1<2)).1 (dF h1 h2);omega
theorem QV(w:World)(g:Nat)(v0 v1 v2 v3:Value)(ev:Bool)(S1 B1 A1 D D1 n:Nat)(h:pZ w g v0 v1 v2 v3 ev S1 B1 A1 D)(hn:n<=400)(hD:eE D)(hS:bl S1<=9000)(hD1:D1=D*10^n)(qT:D1<=S1)(Db:D1≠0):Calls prog 165 #[.pointer (some ⟨g,0,none⟩),.int .i64 (n:Int)] w λe w'=>∃(t:Nat)(v0' v1' Y3 v3':Value),e=.returned (.int .i64 ((n:Int)+t))/\t<=9000/\pZ w' g v0' v1' Y3 v3' ev S1 B1 A1 (D1*10^t)/\D1*10^t<=S1/\S1<10*(D1*10^t)/\Below g w w':=by
 have UV:n<=4000:=by omega
 have mO:decide (0<=(n:Int))=true:=by simp
 have di:=h.lt;have h3:=h.c3;have n3:=h.n3;have fr:=h.fr;have aaW:Hid (pZ w g v0 v1 v2 v3 ev S1 B1 A1 D):=h;have YV:Hid (D1=D*10^n):=hD1;clear h hD1;go_enter func165,ntmps165
 go_upto_region 2 with fail;go_cut[1]from 8 to 17(λt wx=>t=.int .i64 (n:Int)/\∃x3,pZ wx g v0 v1 v2 x3 ev S1 B1 A1 D1/\Below g w wx);case first=>go_region_with(first|(go_at_call 160;refine(vO _ n _ UV rfl).mono ?_;rintro e wa⟨va,rfl,ra,ba⟩;have ya:=(ba.cell (p:=⟨g,3,none⟩) di).trans h3;have fa:∀i,wa.frozen? ⟨g,i,none⟩=false:=(λi=>(ba.frozen (p:=⟨g,i,none⟩) di).trans (fr i)))|(go_at_call 159;refine(qy _ v3 va D (10^n) ((n3.1.below (Below.refl _ _).drew).below ba) (ra.base (ap _)) hD (rI UV)).mono ?_;rintro e wb⟨vb,rfl,rb,bb⟩;obtain⟨ab,kb,pb,eb⟩:=rb.form;subst eb;have yb:=(bb.cell (p:=⟨g,3,none⟩) (ax di ba.size)).trans ya;have fb:∀i,wb.frozen? ⟨g,i,none⟩=false:=(λi=>(bb.frozen (p:=⟨g,i,none⟩) (ax di ba.size)).trans (fa i))));all_goals have nt:Below w.heap.size w wb:=((Below.refl w.heap.size w).drew.trans ba).trans (bb.mono ba.size);(have qh:pZ (wb.setCell ⟨g,3,none⟩ (.slice ab kb pb)) g v0 v1 v2 (.slice ab kb pb) ev S1 B1 A1 D1:=by rw[YV.out];exact(aaW.out.below nt).QO (lU rb (ax di ba.size)));have Kg:Below g w (wb.setCell ⟨g,3,none⟩ (.slice ab kb pb)):=(nt.mono (bM di)).setCell (p:=⟨g,3,none⟩) (aj _) _;go_wp2_with fail;go_meet;exact⟨rfl,_,qh,Kg⟩
 case rest=>obtain⟨rfl,z3,qh,Kg⟩:=hcut;go_wp2_with fail;go_loopw[1](λt wr=>∃(k:Nat)(x0 x1 x2 x3:Value),t=.int .i64 ((n:Int)+(k:Int))/\pZ wr g x0 x1 x2 x3 ev S1 B1 A1 (D1*10^k)/\D1*10^k<=S1/\Below g w wr)(λt _=>((n:Int)+9001-intOf t).toNat);(case atStart=>exact⟨0,_,_,_,_,by simp,by simpa using qh,by simpa using qT,Kg⟩);case round=>obtain⟨k,x0,x1,x2,x3,rfl,sp,mj,bF⟩:=hrel;have hk:=EJ Db mj hS;have B5:Hid (D1*10^k<=S1):=mj;have nQ:Hid (pZ wr g x0 x1 x2 x3 ev S1 B1 A1 (D1*10^k)):=sp;have jv:Hid (Below g w wr):=bF;have XN:eE S1:=dr hS (by omega);have QH:eE (D1*10^k):=XN.le mj;have qm:=sp.lt;have y0:=sp.c0;have y3:=sp.c3;have m0:=sp.n0;have m3:=sp.n3;have frr:=sp.fr;clear mj sp bF;generalize hDk:D1*10^k=Dk at*;have UG:Hid (D1*10^k=Dk):=hDk;clear hDk;go_wp2_with fail;go_region_held3(λw'=>w'.cell? ⟨g,0,none⟩=some x0/\w'.cell? ⟨g,3,none⟩=some x3)(go_keep)(first|(go_at_call 171;refine(kR _ x3 Dk (m3.1.below (Below.refl _ _).drew) QH).mono ?_;rintro e wa⟨va,rfl,ra,ba⟩;have ya:=(ba.cell (p:=⟨g,0,none⟩) qm).trans y0;have yb:=(ba.cell (p:=⟨g,3,none⟩) qm).trans y3)|(go_at_call 197;refine(js _ x0 va S1 (Dk*10) ((m0.1.below (Below.refl _ _).drew).below ba) (ra.base (ap _)) XN).mono ?_;rintro e wb⟨rfl,nq,rfl⟩));have P1:=nQ.out.below ((Below.refl _ _).drew.trans ba);have Ey:Below g w wa:=jv.out.trans (((Below.refl _ _).drew.trans ba).mono (bM qm));clear ba ra y0 y3 m0 m3 frr nQ jv qm ya yb;by_cases hc:Dk*10<=S1;{(have xz:¬gh (S1:Int) ((Dk:Int)*10)<0:=by rcases jP hc with h'|h';{rw[gI (by omega)];omega};{rw[gJ (by omega)];omega});have EP:=P1.drewN nq;have JK:Below g w (wa.drewN nq):=below_drewN Ey nq;have xx:=EP.lt;have y3:=EP.c3;have m3:=EP.n3;have frb:=EP.fr;have aaV:Hid (pZ (wa.drewN nq) g x0 x1 x2 x3 ev S1 B1 A1 Dk):=EP;have aa7:Hid (Below g w (wa.drewN nq)):=JK;clear P1 Ey EP JK;generalize wa.drewN nq=wd at*;go_wp2_with fail;refine(kR _ x3 Dk m3.1 QH).mono ?_;rintro e we⟨ve,rfl,re,be⟩;obtain⟨ae,ke,pe,ee⟩:=re.form;subst ee;have ye:=(be.cell (p:=⟨g,3,none⟩) xx).trans y3;have fe:we.frozen? ⟨g,3,none⟩=false:=(be.frozen (p:=⟨g,3,none⟩) xx).trans (frb 3);go_wp2;go_roundw;(case rel=>refine⟨k+1,x0,x1,x2,.slice ae ke pe,by go_num,?_,?_,?_⟩;{rw[aT,<-aw,UG.out];exact(aaV.out.below be).QO (lU re xx)};{rw[aT,<-aw,UG.out];exact hc};{exact(aa7.out.trans (be.mono (bM xx))).setCell (p:=⟨g,3,none⟩) (aj _) _});case measure=>simp[intOf];omega};{(have xz:gh (S1:Int) ((Dk:Int)*10)<0:=by rw[fh (by omega)];omega);go_wp2;go_ret;refine⟨k,x0,x1,x2,x3,rfl,by omega,?_,?_,?_,below_drewN Ey nq⟩;{rw[UG.out];exact P1.drewN nq};{rw[UG.out];exact B5.out};{rw[UG.out];omega}}
theorem KE(w:World)(g:Nat)(v0 v1 v2 v3:Value)(ev:Bool)(S B A S1 B1 A1 D1 n:Nat)(h:pZ w g v0 v1 v2 v3 ev S B A D1)(hn:n<=400)(rS:1<=n)(adp:eE S)(adq:eE B)(adr:eE A)(hS:bl S1<=9000)(li:S1=S*10^n)(Gk:B1=B*10^n)(DV:A1=A*10^n)(qT:D1<=S1)(Db:D1≠0):Calls prog 165 #[.pointer (some ⟨g,0,none⟩),.int .i64 (-(n:Int))] w λe w'=>∃(t:Nat)(v0' v1' Y3 v3':Value),e=.returned (.int .i64 (-(n:Int)+t))/\t<=9000/\pZ w' g v0' v1' Y3 v3' ev S1 B1 A1 (D1*10^t)/\D1*10^t<=S1/\S1<10*(D1*10^t)/\Below g w w':=by
 have UV:n<=4000:=by omega
 have mO:decide (0<=-(n:Int))=false:=by simp;omega
 have di:=h.lt;have aaW:Hid (pZ w g v0 v1 v2 v3 ev S B A D1):=h;have xU:Hid (S1=S*10^n):=li;have fQ:Hid (B1=B*10^n):=Gk;have j6:Hid (A1=A*10^n):=DV;clear h li Gk DV
 have Ze:=rI UV;go_enter func165,ntmps165;go_wp2_with fail;refine(vO _ n _ UV rfl).mono ?_;rintro e wa⟨va,rfl,ra,ba⟩;have na:=lU ra di;have sp:=aaW.out.below ba
 have q0:=sp.c0;have q1:=sp.n0;have q2:=sp.fr 0;have nQ:Hid (pZ wa g v0 v1 v2 v3 ev S B A D1):=sp;have rz:Below g w wa:=ba.mono (bM di);clear sp ra ba;go_wp2_with fail
 refine(qy _ v0 va S (10^n) q1.1 na.1 adp Ze).mono ?_;rintro e wb⟨vb,rfl,rb,bb⟩;obtain⟨ab,kb,pb,eb⟩:=rb.form;subst eb;have xx:=nQ.out.lt;have g1:=(bb.cell (p:=⟨g,0,none⟩) xx).trans q0
 have g2:=(bb.frozen (p:=⟨g,0,none⟩) xx).trans q2;have sp:pZ (wb.setCell ⟨g,0,none⟩ (.slice ab kb pb)) g (.slice ab kb pb) v1 v2 v3 ev S1 B A D1:=by rw[xU.out];exact(nQ.out.below bb).QQ (lU rb xx)
 have na:=(na.below bb).set 0 (.slice ab kb pb);have rz:=(rz.trans (bb.mono (bM xx))).setCell (p:=⟨g,0,none⟩) (aj _) (.slice ab kb pb);have HN:Hid (BV (wb.setCell ⟨g,0,none⟩ (.slice ab kb pb)) g va (10^n)):=na
 have HB:Hid (Below g w (wb.setCell ⟨g,0,none⟩ (.slice ab kb pb))):=rz;have HP:Hid (pZ (wb.setCell ⟨g,0,none⟩ (.slice ab kb pb)) g (.slice ab kb pb) v1 v2 v3 ev S1 B A D1):=sp
 clear sp rz na nQ q0 q1 q2;go_upto_region 5 with fail;clear g1 g2 rb bb;have q0:=HP.out.c1;have q1:=HP.out.n1;have q2:=HP.out.fr 1;have na:=HN.out;have rz:=HB.out
 have nQ:=HP;clear HN HB HP;generalize(wb.setCell ⟨g,0,none⟩ (.slice ab kb pb))=wrb at*;go_wp2_with fail;refine(qy _ v1 va B (10^n) q1.1 na.1 adq Ze).mono ?_;rintro e wc⟨vc,rfl,rc,bc⟩
 obtain⟨ac,kc,pc,ec⟩:=rc.form;subst ec;have uu:=nQ.out.lt;have g1:=(bc.cell (p:=⟨g,1,none⟩) uu).trans q0;have g2:=(bc.frozen (p:=⟨g,1,none⟩) uu).trans q2;have sp:pZ (wc.setCell ⟨g,1,none⟩ (.slice ac kc pc)) g (.slice ab kb pb) (.slice ac kc pc) v2 v3 ev S1 B1 A D1:=by rw[fQ.out];exact(nQ.out.below bc).N5 (lU rc uu)
 have na:=(na.below bc).set 1 (.slice ac kc pc);have rz:=(rz.trans (bc.mono (bM uu))).setCell (p:=⟨g,1,none⟩) (aj _) (.slice ac kc pc);have HN:Hid (BV (wc.setCell ⟨g,1,none⟩ (.slice ac kc pc)) g va (10^n)):=na
 have HB:Hid (Below g w (wc.setCell ⟨g,1,none⟩ (.slice ac kc pc))):=rz;have HP:Hid (pZ (wc.setCell ⟨g,1,none⟩ (.slice ac kc pc)) g (.slice ab kb pb) (.slice ac kc pc) v2 v3 ev S1 B1 A D1):=sp
 clear sp rz na nQ q0 q1 q2;go_upto_region 6 with fail;clear g1 g2 rc bc;have q0:=HP.out.c2;have q1:=HP.out.n2;have q2:=HP.out.fr 2;have na:=HN.out;have rz:=HB.out
 have nQ:=HP;clear HN HB HP;generalize(wc.setCell ⟨g,1,none⟩ (.slice ac kc pc))=wrc at*;go_wp2_with fail;refine(qy _ v2 va A (10^n) q1.1 na.1 adr Ze).mono ?_;rintro e wd⟨vd,rfl,rd,bd⟩
 obtain⟨ad,kd,pd,ed⟩:=rd.form;subst ed;have hld:=nQ.out.lt;have g1:=(bd.cell (p:=⟨g,2,none⟩) hld).trans q0;have g2:=(bd.frozen (p:=⟨g,2,none⟩) hld).trans q2;have sp:pZ (wd.setCell ⟨g,2,none⟩ (.slice ad kd pd)) g (.slice ab kb pb) (.slice ac kc pc) (.slice ad kd pd) v3 ev S1 B1 A1 D1:=by rw[j6.out];exact(nQ.out.below bd).QP (lU rd hld)
 have na:=(na.below bd).set 2 (.slice ad kd pd);have rz:=(rz.trans (bd.mono (bM hld))).setCell (p:=⟨g,2,none⟩) (aj _) (.slice ad kd pd);have qh:=sp;have Kg:=rz;clear sp rz na nQ q0 q1 q2
 go_wp2_with fail;go_loopw[1](λt wr=>∃(k:Nat)(x0 x1 x2 x3:Value),t=.int .i64 (-(n:Int)+(k:Int))/\pZ wr g x0 x1 x2 x3 ev S1 B1 A1 (D1*10^k)/\D1*10^k<=S1/\Below g w wr)(λt _=>(-(n:Int)+9001-intOf t).toNat)
 case atStart=>exact⟨0,_,_,_,_,by simp,by simpa using qh,by simpa using qT,Kg⟩
 case round=>obtain⟨k,x0,x1,x2,x3,rfl,sp,mj,bF⟩:=hrel;have hk:=EJ Db mj hS;have B5:Hid (D1*10^k<=S1):=mj;have nQ:Hid (pZ wr g x0 x1 x2 x3 ev S1 B1 A1 (D1*10^k)):=sp;have jv:Hid (Below g w wr):=bF;have XN:eE S1:=dr hS (by omega);have QH:eE (D1*10^k):=XN.le mj;have qm:=sp.lt;have y0:=sp.c0;have y3:=sp.c3;have m0:=sp.n0;have m3:=sp.n3;have frr:=sp.fr;clear mj sp bF;generalize hDk:D1*10^k=Dk at*;have UG:Hid (D1*10^k=Dk):=hDk;clear hDk;go_wp2_with fail;go_region_held3(λw'=>w'.cell? ⟨g,0,none⟩=some x0/\w'.cell? ⟨g,3,none⟩=some x3)(go_keep)(first|(go_at_call 171;refine(kR _ x3 Dk (m3.1.below (Below.refl _ _).drew) QH).mono ?_;rintro e wa⟨va,rfl,ra,ba⟩;have ya:=(ba.cell (p:=⟨g,0,none⟩) qm).trans y0;have yb:=(ba.cell (p:=⟨g,3,none⟩) qm).trans y3)|(go_at_call 197;refine(js _ x0 va S1 (Dk*10) ((m0.1.below (Below.refl _ _).drew).below ba) (ra.base (ap _)) XN).mono ?_;rintro e wb⟨rfl,nq,rfl⟩));have P1:=nQ.out.below ((Below.refl _ _).drew.trans ba);have Ey:Below g w wa:=jv.out.trans (((Below.refl _ _).drew.trans ba).mono (bM qm));clear ba ra y0 y3 m0 m3 frr nQ jv qm ya yb;by_cases hc:Dk*10<=S1;{(have xz:¬gh (S1:Int) ((Dk:Int)*10)<0:=by rcases jP hc with h'|h';{rw[gI (by omega)];omega};{rw[gJ (by omega)];omega});have EP:=P1.drewN nq;have JK:Below g w (wa.drewN nq):=below_drewN Ey nq;have xx:=EP.lt;have y3:=EP.c3;have m3:=EP.n3;have frb:=EP.fr;have aaV:Hid (pZ (wa.drewN nq) g x0 x1 x2 x3 ev S1 B1 A1 Dk):=EP;have aa7:Hid (Below g w (wa.drewN nq)):=JK;clear P1 Ey EP JK;generalize wa.drewN nq=wd at*;go_wp2_with fail;refine(kR _ x3 Dk m3.1 QH).mono ?_;rintro e we⟨ve,rfl,re,be⟩;obtain⟨ae,ke,pe,ee⟩:=re.form;subst ee;have ye:=(be.cell (p:=⟨g,3,none⟩) xx).trans y3;have fe:we.frozen? ⟨g,3,none⟩=false:=(be.frozen (p:=⟨g,3,none⟩) xx).trans (frb 3);go_wp2;go_roundw;(case rel=>refine⟨k+1,x0,x1,x2,.slice ae ke pe,by go_num,?_,?_,?_⟩;{rw[aT,<-aw,UG.out];exact(aaV.out.below be).QO (lU re xx)};{rw[aT,<-aw,UG.out];exact hc};{exact(aa7.out.trans (be.mono (bM xx))).setCell (p:=⟨g,3,none⟩) (aj _) _});case measure=>simp[intOf];omega};{(have xz:gh (S1:Int) ((Dk:Int)*10)<0:=by rw[fh (by omega)];omega);go_wp2;go_ret;refine⟨k,x0,x1,x2,x3,rfl,by omega,?_,?_,?_,below_drewN Ey nq⟩;{rw[UG.out];exact P1.drewN nq};{rw[UG.out];exact B5.out};{rw[UG.out];omega}}
end
end Go.Proofs.YthdcceackfdbbaaGreatDoor
