import Derived.Test.YthdcceackfdbbaaGreatDoorS16A
set_option linter.unusedSimpArgs false
set_option maxRecDepth 20000
set_option maxHeartbeats 4000000
open Go.RowKit Go.Proofs.Tryz
namespace Go.Proofs.YthdcceackfdbbaaGreatDoor
section
open Go.Shelf
attribute [local go_sem]Oper.semAt_some
theorem ot{P:Program}{md:Region.Mode}{ops:Array Oper}{Q:Exit->Act->World->Prop}{n:Nat}(hq:¬LetsOut Q):∀(fuel:Nat)(listed:Array Bool)(a:Act)(w:World),wpAny P md ops Q fuel listed a w->wpAnyIn Fence.wide n P md ops Q fuel listed a w|0,_,_,_,h=>h|fuel+1,listed,a,w,h=>by refine⟨h.1,λi hi=>?_⟩;have h1:=h.2 i hi;unfold wpOp at h1;unfold wpOpIn;cases ho:ops[i]? with|none=>rw[ho]at h1;exact ot hq fuel _ _ _ h1|some o=>rw[ho]at h1;simp only at h1⊢;split;{rename_i hw;rw[au hw]at h1;rcases h1 with h1|⟨_,h1⟩;{refine⟨λ_ _=>trivial,?_⟩;rw[show Fence.wide.round=none from rfl,Oper.semAt_none];unfold Oper.wp at h1;generalize(execOp a.eval o).run P w=r at h1⊢;cases r with|ok x w'=>(cases x with|value v=>exact ot hq fuel _ _ _ h1|skip=>exact ot hq fuel _ _ _ h1|defer d=>exact ot hq fuel _ _ _ h1|enter f args=>refine⟨λh=>(by cases h),callsIn_wide.2 (h1.mono λe Ha he=>?_)⟩;(cases e with|returned v=>exact ot hq fuel _ _ _ he|panicked c=>exact he|outgrown=>exact he)|row row args=>exact⟨λh=>(by cases h),Hq (h1.mono λv Ha he=>ot hq fuel _ _ _ he)⟩|_=>exact h1.elim)|halt x w'=>cases x<;>exact h1};{exact absurd h1 hq}};{rename_i hw;rw[ai hw]at h1;exact⟨λ_ _=>trivial,ot hq fuel _ _ _ h1⟩}
theorem Au{P:Program}{id:Nat}{ops:Array Oper}{Q:Exit->Act->World->Prop}{n:Nat}{a:Act}{w:World}(S:World->Prop)(hm:P.follows .mixedOrders=true)(hq:¬LetsOut (NoPanic Q))(h:wpAnyH P .any ops (NoPanic Q) S ops.size (Array.replicate ops.size false) a w.drew):(Code.region id ops true).wpIn Fence.wide n P Q a w:=wpIn_mono (wpIn_region_any hm (ot hq _ _ _ _ (wpAny_of_held _ _ _ _ h))) NoPanic.imp
def uP(kind R C n:Nat):List ByteArray:=[⟨(Lib.decDigits R).toArray⟩,⟨(Lib.decDigits C).toArray⟩]++(if kind=2\/kind=3 then[⟨(Lib.decDigits n).toArray⟩]else[])
theorem Ic{w:World}{B q n:Nat}{t:TypeId}{l:List Value}(h:aD w q t l)(hB:B<=q)(hn:l.length=n)(hm:n<=1000):w.ownsRow B t 1 (.slice (some ⟨q,0,none⟩) n n) n l:=by subst hn;exact⟨by simp,.inr ⟨q,l.length,l.toArray,rfl,hB,h,aj _,by unfold maxLen;omega,by simp,by simp⟩⟩
theorem Tryz.Wl:(prog.info? 9).map (λi=>(i.zero,i.size,i.bytes))=some (some (.string ⟨#[]⟩),1,16):=by kernel_rfl
theorem N0(w:World)(kind R C g:Nat)(f:Nat->Nat->Nat)(l:List Value)(hk:kind<=3)(hR:R<=40)(hC:C<=40)(hm:jf C g R f w)(hg:aD w g 65 l)(gB:Lib.TabIs prog w "internal/strconv.uint64pow10" .u64 Lib.pow10Tab):Calls prog 109 #[fF R C g,.int .i64 (kind:Int)] w λe w'=>∃q cap,e=.returned (.slice (some ⟨q,0,none⟩) (uP kind R C (iG kind R C f).length).length cap)/\(uP kind R C (iG kind R C f).length).length<=cap/\q<w'.heap.size/\(∀(j:Nat)x,(uP kind R C (iG kind R C f).length)[j]?=some x->w'.cell? ⟨q,0+j,none⟩=some (.string x))/\Below w.heap.size w w':=by
 have fX:prog.follows .mixedOrders=true:=by kernel_rfl
 obtain⟨b,hb⟩:∃b,w.heap.size=b:=⟨_,rfl⟩;have GQ:g<b:=by have:=hm.1;omega
 have zg:R*C<=40*40:=bI hR hC;have U4:=rY kind R C f;obtain⟨i0,hi,ip,fS,gU⟩:=info_parts Tryz.Wl;refine callsIn_wide (n:=0)|>.1 ?_;refine callsIn_of_wp_marks func109 rfl trivial ?_ rfl
 simp only[ntmps109,fd,aU,cd,Nat.reduceAdd,Nat.reduceSub,dZ,dY,fy,eL,dt,cv,fF];have C4:Fence.wide.depth=none:=rfl;gi_wp2_with fail;obtain⟨V,hV⟩:∃V,w.alloc (.cells #[.int .i64 (R:Int),.int .i64 (C:Int),.slice (some ⟨g,0,none⟩) (R*C) (R*C)] 88)=V:=⟨_,rfl⟩
 have mV:aD V b 88 [.int .i64 (R:Int),.int .i64 (C:Int),.slice (some ⟨g,0,none⟩) (R*C) (R*C)]:=by rw[<-hV,<-hb];exact aD.dT w _ _
 have bV:Below b w V:=by rw[<-hV,<-hb];exact Below.cj _ _
 have zV:V.heap.size=b+1:=by rw[<-hV];simp[hb]
 have tV:Lib.TabIs prog V.drew "internal/strconv.uint64pow10" .u64 Lib.pow10Tab:=by rw[<-hV];exact dN gB (Below.cj _ _).drew
 rw[hV];have HT:=hid gB;clear hV gB;have gH:aD V.drew b 88 [.int .i64 (R:Int),.int .i64 (C:Int),.slice (some ⟨g,0,none⟩) (R*C) (R*C)]:=mV.drew;refine Au (λW'=>aD W' b 88 [.int .i64 (R:Int),.int .i64 (C:Int),.slice (some ⟨g,0,none⟩) (R*C) (R*C)]) fX (by rintro⟨a,w,q,cap,h,_⟩;cases h) ?_
 refine tk 0 (.pointer (some ⟨b,0,none⟩)) rfl (λW' hS=>?_) gH ?_;{clear hS;go_simp};simp only[Act.put];refine tk 1 (.int .i64 (R:Int)) rfl (λW' hS=>?_) gH ?_;{have c0:=hS.cell (i:=0) rfl;have c1:=hS.cell (i:=1) rfl;have c2:=hS.cell (i:=2) rfl;clear hS;go_simp}
 simp only[Act.put];refine tk 3 (.pointer (some ⟨b,1,none⟩)) rfl (λW' hS=>?_) gH ?_;{clear hS;go_simp};simp only[Act.put];refine tk 4 (.int .i64 (C:Int)) rfl (λW' hS=>?_) gH ?_
 {have c0:=hS.cell (i:=0) rfl;have c1:=hS.cell (i:=1) rfl;have c2:=hS.cell (i:=2) rfl;clear hS;go_simp};simp only[Act.put];refine wpAnyH_ready (rs:=[2]) (by kernel_rfl) (by simp) ?_
 refine AllReadyH.cons rfl (λK df=>?_) AllReadyH.nil;go_simp;refine(uU _ _ R rfl (by omega) tV).mono ?_;rintro e W2⟨s2,rfl,tD,b2⟩;obtain rfl:=gN tD;have oc:=gH.az b2
 have t2:=dN tV b2;refine df.out _ _ oc (λhHeld=>?_);clear df;refine wpAnyH_ready (rs:=[5]) (by kernel_rfl) (by simp) ?_;refine AllReadyH.cons rfl (λK df=>?_) AllReadyH.nil
 go_simp;refine(uU _ _ C rfl (by omega) t2).mono ?_;rintro e W3⟨s3,rfl,hs3,b3⟩;obtain rfl:=gN hs3;have qW:=oc.az b3;have t3:=dN t2 b3;refine df.out _ _ qW (λhHeld=>?_)
 clear df;refine wpAnyH_ready (rs:=[6]) (by kernel_rfl) (by simp) ?_;refine AllReadyH.cons rfl (λK df=>?_) AllReadyH.nil;go_simp;have uE:=qW.alloc (.cells #[.string ⟨(Lib.decDigits R).toArray⟩,.string ⟨(Lib.decDigits C).toArray⟩] 9)
 refine df.out _ _ uE (λhHeld=>?_);clear df;refine wpAnyH_ready (rs:=[7]) (by kernel_rfl) (by simp) ?_;refine AllReadyH.cons rfl (λK df=>?_) AllReadyH.nil;go_simp
 refine df.out _ _ uE (λhHeld=>?_);clear df;refine wpAnyH_done (by kernel_rfl) ?_ _;refine NoPanic.normal ?_;have eD:V.drew.heap.size=V.heap.size:=rfl;have q4:aD (W3.alloc (.cells #[.string ⟨(Lib.decDigits R).toArray⟩,.string ⟨(Lib.decDigits C).toArray⟩] 9)) W3.heap.size 9 [.string ⟨(Lib.decDigits R).toArray⟩,.string ⟨(Lib.decDigits C).toArray⟩]:=aD.dT _ _ _
 have b4:Below b w (W3.alloc (.cells #[.string ⟨(Lib.decDigits R).toArray⟩,.string ⟨(Lib.decDigits C).toArray⟩] 9)):=((bV.drew.trans (b2.mono (by omega))).trans (b3.mono (by have:=b2.size;omega))).alloc (by have:=b2.size;have:=b3.size;omega) _
 have t4:=dN t3 (Below.cj W3 (.cells #[.string ⟨(Lib.decDigits R).toArray⟩,.string ⟨(Lib.decDigits C).toArray⟩] 9));have z4:W3.heap.size+1=(W3.alloc (.cells #[.string ⟨(Lib.decDigits R).toArray⟩,.string ⟨(Lib.decDigits C).toArray⟩] 9)).heap.size:=by simp
 have z3:b+1<=W3.heap.size:=by have:=b2.size;have:=b3.size;omega
 generalize W3.alloc (.cells #[.string ⟨(Lib.decDigits R).toArray⟩,.string ⟨(Lib.decDigits C).toArray⟩] 9)=W4 at*;clear gH oc tV t2 t3 qW hHeld;obtain⟨d,hd⟩:∃d,W4.heap.size=d:=⟨_,rfl⟩
 obtain⟨q3,MP⟩:∃q3,W3.heap.size=q3:=⟨_,rfl⟩;rw[hd,MP]at z4;rw[MP]at z3 q4⊢;have HZ:Hid (q3+1=d/\b+1<=q3):=⟨z4,z3⟩;clear z4 z3 MP;have hfk:Fence.wide.fn 145:=trivial
 by_cases hc:kind=2\/kind=3;{
 have xz:decide ((kind:Int)=2\/(kind:Int)=3)=true:=by simp;omega
 gi_wp2_with fail;refine(callsIn_wide (n:=0).2 (kY _ _ true xz)).mono ?_;rintro e w1⟨rfl,kK⟩;rw[kK];clear kK xz;have hfe:Fence.wide.fn 110:=trivial;have U3:Fence.wide.fn 146:=trivial
 have c0:=λo=>(uE.alloc o).cell (i:=0) rfl;have c1:=λo=>(uE.alloc o).cell (i:=1) rfl;have c2:=λo=>(uE.alloc o).cell (i:=2) rfl;gi_wp2_with fail;have aV:aD (W4.alloc (.cells #[.int .i64 0] 3)) (d) 3 [.int .i64 0]:=by rw[<-hd];exact aD.dT _ _ _
 have qV:=q4.alloc (.cells #[.int .i64 0] 3);have bV5:Below b w (W4.alloc (.cells #[.int .i64 0] 3)):=b4.alloc (by have:=HZ.out;omega) _;have tV5:=dN t4 (Below.cj W4 (.cells #[.int .i64 0] 3))
 have zV5:(W4.alloc (.cells #[.int .i64 0] 3)).heap.size=d+1:=by simp[hd]
 clear c0 c1 c2;generalize W4.alloc (.cells #[.int .i64 0] 3)=V5 at*;have HE:=hid (callsIn_wide (n:=0).2 (vy V5 kind R C g f (by omega) hR hC));unfold fF at HE;refine HE.out.mono ?_
 rintro e W0⟨gf,fst,lb,rfl,Ve,eg,Gd,Em,UR,tH⟩;have a1:aD W0 (d) 3 [.int .i64 0]:=aV.az tH;have q1:=qV.az tH;have b1:Below b w W0:=bV5.trans (tH.mono (by have:=HZ.out;omega))
 have g1:aD W0 g 65 l:=hg.below b1 GQ;have m1:jf C g R f W0:=hm.below b1 GQ;have tW0:=dN tV5 tH;have z1:d+1<=W0.heap.size:=by have:=tH.size;omega
 clear HE aV qV;gi_wp2_with fail;refine iP 0 (gf:=gf) (fst:=fst) (lb:=lb) rfl eg Gd (by intro x hx;obtain⟨y,_,rfl⟩:=eF.1 hx;rfl) (λk W=>aD W (d) 3 [.int .i64 (k:Int)]/\Lib.OthersKept 5 (some (d)) W0 W/\Below (d) W0 W/\W0.heap.size<=W.heap.size/\k<=(iG kind R C f).length) (λ_ _=>False) (λx a' _=>∃y:Nat×Nat×Nat,x=xC y/\a'={tmps:=#[.agg #[.int .i64 (R:Int),.int .i64 (C:Int),.slice (some ⟨g,0,none⟩) (R*C) (R*C)],.int .i64 (kind:Int),.pointer (some ⟨b,0,none⟩),undef,.slice none 0 0,.slice (some ⟨q3,0,none⟩) 2 2,.pointer (some ⟨d,0,none⟩),.pointer (some ⟨b,0,none⟩),.int .i64 (R:Int),.string ⟨(Lib.decDigits R).toArray⟩,.pointer (some ⟨b,1,none⟩),.int .i64 (C:Int),.string ⟨(Lib.decDigits C).toArray⟩,.slice (some ⟨q3,0,none⟩) 2 2,.int .i64 (kind:Int),.bool true,.bool false,undef,.agg #[.int .i64 (R:Int),.int .i64 (C:Int),.slice (some ⟨g,0,none⟩) (R*C) (R*C)],.int .i64 (kind:Int),.func (.func gf) fst lb,fE y.1 y.2.1,.int .u64 (y.2.2:Int),undef,undef,undef,undef,undef,undef,undef],defers:=[]}) ?hMem ?hI ?hIx ?hAx ?h0 ?assign ?body ?done ?stop
 case hMem=>rintro k W⟨h1,h3,h4,h5,_⟩;refine Em W (m1.others h3 g1 (λe=>by have:=HZ.out;cases e;omega) h5) (λq GK DQ=>?_);obtain⟨o,ho,ql⟩:=UR q GK DQ;exact(h3 q o ho (λe=>by cases e;omega) ql).trans ho.symm
 case hI=>rintro k A B⟨h1,h3,h4,h5,h6⟩s;exact⟨h1.jn s,xr h3 s,h4.trans (Below.EX s (by omega) (by omega)),ak h5 s.size,h6⟩
 case hIx=>exactλc A B h s=>h
 case hAx=>exactλx a' A B h s=>h
 case h0=>exact⟨a1,Lib.OthersKept.refl _ _ _,Below.refl _ _,aj _,by omega⟩
 case assign=>intro l1 k x W1 K hx hi hK;obtain⟨y,hy,rfl⟩:=iO hx;have HK:Hid _:=hid (hK {tmps:=#[.agg #[.int .i64 (R:Int),.int .i64 (C:Int),.slice (some ⟨g,0,none⟩) (R*C) (R*C)],.int .i64 (kind:Int),.pointer (some ⟨b,0,none⟩),undef,.slice none 0 0,.slice (some ⟨q3,0,none⟩) 2 2,.pointer (some ⟨d,0,none⟩),.pointer (some ⟨b,0,none⟩),.int .i64 (R:Int),.string ⟨(Lib.decDigits R).toArray⟩,.pointer (some ⟨b,1,none⟩),.int .i64 (C:Int),.string ⟨(Lib.decDigits C).toArray⟩,.slice (some ⟨q3,0,none⟩) 2 2,.int .i64 (kind:Int),.bool true,.bool false,undef,.agg #[.int .i64 (R:Int),.int .i64 (C:Int),.slice (some ⟨g,0,none⟩) (R*C) (R*C)],.int .i64 (kind:Int),.func (.func gf) fst lb,fE y.1 y.2.1,.int .u64 (y.2.2:Int),undef,undef,undef,undef,undef,undef,undef],defers:=[]} W1 (bq.refl _ _) hi ⟨y,rfl,rfl⟩);clear hK hi hx hy;unfold xC fE;unfold fE at HK;gi_wp2;simpa using HK.out
 case body=>rintro l1 k x a' W1 hx⟨h1,h3,h4,h5,h6⟩⟨y,rfl,rfl⟩;obtain⟨y',hy,wU⟩:=iO hx;have Lo:k<(iG kind R C f).length:=(ar.1 hy).1;have c1:=h1.cell (i:=0) rfl;have c2:=h1.frozen 0;unfold fE;clear hx wU hy;gi_wp2;refine⟨bq.set (by omega) _,by have:=h1.set 0 (.int .i64 ((k:Int)+1));simpa using this,h3.setCell _ rfl _,h4.setCell (p:=⟨d,0,none⟩) (aj _) _,by simp[World.setCell];omega,by omega⟩
 case done=>rintro D W1 hD⟨h1,h3,h4,h5,h6⟩hK;rw[bL]at h1;have c1:=h1.cell (i:=0) rfl;have YK:Below b w W1:=b1.trans (h4.mono (by have:=HZ.out;omega));have tW1:Lib.TabIs prog W1 "internal/strconv.uint64pow10" .u64 Lib.pow10Tab:=dN HT.out (hb▸YK);have q5:aD W1 q3 9 [.string ⟨(Lib.decDigits R).toArray⟩,.string ⟨(Lib.decDigits C).toArray⟩]:=q1.below h4 (by have:=HZ.out;omega);obtain⟨N,hN⟩:∃N,(iG kind R C f).length=N:=⟨_,rfl⟩;(have HW:Hid (uP kind R C (iG kind R C f).length=[⟨(Lib.decDigits R).toArray⟩,⟨(Lib.decDigits C).toArray⟩,⟨(Lib.decDigits N).toArray⟩]):=by show _=_;rw[hN];unfold uP;rw[au hc];rfl);rw[hN]at h1 c1 U4;clear hN;gi_wp2_with fail;refine(callsIn_wide (n:=0).2 (uU _ _ N rfl (by omega) tW1)).mono ?_;rintro e W2⟨s2,rfl,tD,b2⟩;obtain rfl:=gN tD;have q6:=q5.az b2;have xT:W2.heap[D]?=some (.deferred (some [])):=(b2.block D (aO.1 hK).1).trans hK;have Ns:Below b w W2:=YK.trans (b2.mono (by have:=h4.size;have:=HZ.out;omega));(have zW2:d+1<=W2.heap.size:=by have:=b2.size;omega);have aeG:D<W2.heap.size:=(aO.1 xT).1;have Q5:(W2.alloc (.cells #[.string ⟨(Lib.decDigits N).toArray⟩] 9)).ownsRow b 9 1 (.slice (some ⟨q3,0,none⟩) 2 2) 2 [.string ⟨(Lib.decDigits R).toArray⟩,.string ⟨(Lib.decDigits C).toArray⟩]:=Ic (q6.alloc _) (by have:=HZ.out;omega) rfl (by omega);gi_wp2_with(gi_at_builtin;refine wpListIn_append_own _ rfl _ _ 31 rfl b 9 i0 (.string ⟨#[]⟩) 1 16 underlying31 hi ip fS gU rfl (by decide) _ _ _ rfl Q5 ⟨W2.heap.size,0,none⟩ 1 1 [.string ⟨(Lib.decDigits N).toArray⟩] rfl rfl ?c1 ?c2 ?c3 ?c4 ?c5 ?_);(case c1=>exact cell_one_new _ _ _);(case c2=>intro u hu;simp at hu;subst hu;rfl);(case c3=>unfold maxLen;omega);(case c4=>omega);(case c5=>simp;have:=HZ.out;omega);{intro v7 W7 r7 g7 _;obtain⟨g',ez,rfl⟩:=ownsRow_succ r7;have hK7:W7.heap[D]?=some (.deferred (some [])):=(g7.block D (by simp;omega) (λe=>by cases e;rw[show W2.heap[q3]?=_ from q6]at xT;cases xT)).trans ((Below.heap_alloc _ _ _ aeG).trans xT);have b7:Below b w W7:=(Ns.alloc (by have:=HZ.out;omega) _).grown g7 (by simp;have:=HZ.out;omega) (λq hq=>ak (by have:=HZ.out;omega) (abk (show q3=q by simpa[Value.ownBlock]using hq)));obtain⟨_,⟨hx,_⟩|⟨g2,uz,cE,hx,_,E8,ad0,_,_,mN⟩⟩:=r7;{cases hx};cases hx;gi_wp2;refine⟨by simp,.inl ⟨_,_,rfl,run_takeDeferred hK7,?_⟩⟩;refine⟨_,results_tmp rfl _ _ _,?_⟩;rw[HW.out];have s7:ic b W7 (W7.putObj D (.deferred none)):=ic.putObj _ (by have:=HZ.out;omega) hK7 rfl;have hg7:=s7.block _ _ E8 (.inr rfl);refine⟨g',ez,rfl,by simpa using ad0,(aO.1 hg7).1,λj x hx=>?_,by rw[hb];exact b7.trans ⟨rfl,rfl,rfl,by simp[World.putObj],λq hq=>World.putObj_heap_other (by have:=HZ.out;omega)⟩⟩;rw[cA];have hx2:=congrArg (Option.map Value.string) hx;rw[<-bN]at hx2;(have hj3:j<3:=by have:=(ar.1 hx).1;simpa using this);(have h7:(cE.toList.take ((2+1)*1))[j]?=some (.string x):=by rw[mN];exact hx2);rw[dC,au (by omega)]at h7;simp only[World.cell?,hg7];simpa using h7}
 case stop=>exactλ_ _ _ _ h=>h.elim};{
 have xz:decide ((kind:Int)=2\/(kind:Int)=3)=false:=by simp;omega
 have HW:Hid (uP kind R C (iG kind R C f).length=[⟨(Lib.decDigits R).toArray⟩,⟨(Lib.decDigits C).toArray⟩]):=by show _=_;unfold uP;rw[ai hc];rfl
 gi_wp2_with fail;refine(callsIn_wide (n:=0).2 (kY _ _ false xz)).mono ?_;rintro e w1⟨rfl,kK⟩;rw[kK];clear kK xz;gi_wp2;refine⟨_,results_tmp rfl _ _ _,?_⟩;rw[HW.out]
 refine⟨q3,2,rfl,by simp,by have:=HZ.out;omega,λj x hx=>?_,by rw[hb];exact b4⟩;rw[cA];refine q4.cell ?_;have:=congrArg (Option.map Value.string) hx;rw[<-bN]at this
 exact this}
end
section
open Go.Shelf
theorem Ud(x M:Nat):x&&&(M*2^52)=((x/2^52)&&&M)*2^52:=by apply DZ;intro i;rw[Ql,abh,abh,Ql,Nat.testBit_div_two_pow];by_cases hi:52<=i;{rw[show i-52+52=i by omega];simp[hi]};{simp[hi]}
theorem PP{x:Nat}(h:x<18446744073709551616):bits BinOp.and IntKind.u64 (x:Int) 9218868437227405312=((x/4503599627370496%2048*4503599627370496:Nat):Int):=by rw[show(9218868437227405312:Int)=((2047*2^52:Nat):Int)from rfl,u64_and_nat _ _ h (by omega),Ud];congr 2;exact ll (x/2^52) 11
theorem zW:NH:=by
 intro w x hx;have h1:=vG hx;obtain⟨s,hs⟩:∃s,x%9223372036854775808=s:=⟨_,rfl⟩;rw[hs]at h1;by_cases c:9218868437227405312<s;{
 have cb:decide ((9218868437227405312:Int)<(s:Int))=true:=by simp;omega
 have hc:fK x=9221120237041090560:=by unfold fK;rw[hs,au c]
 rw[hc];go_enter func102,ntmps102;go_wp2;go_ret;exact⟨rfl,rfl⟩};{
 have cb:decide ((9218868437227405312:Int)<(s:Int))=false:=by simp;omega
 have hc:fK x=x:=by unfold fK;rw[hs,ai c]
 rw[hc];go_enter func102,ntmps102;go_wp2;go_ret;exact⟨rfl,rfl⟩}
theorem th(w:World)(x:Nat)(hx:x<18446744073709551616):Calls prog 74 #[.int .u64 (x:Int)] w λe w'=>e=.returned (.int .u64 (fK x:Int))/\w'=w:=by
 have h1:=PP hx;have h2:=yU hx;obtain⟨s,hs⟩:∃s,x/4503599627370496%2048*4503599627370496=s:=⟨_,rfl⟩;obtain⟨f,hf⟩:∃f,x%4503599627370496=f:=⟨_,rfl⟩;rw[hs]at h1;rw[hf]at h2
 by_cases c:s=9218868437227405312;{
 have cb:((s:Int)==9218868437227405312)=true:=by simp;omega
 by_cases d:f=0;{
 have db:((f:Int)!=0)=false:=by simp;omega
 have hc:fK x=x:=by unfold fK;rw[ai (by omega)]
 rw[hc];clear hs hf hc c d;go_enter func74,ntmps74;go_wp2;go_ret;exact⟨rfl,rfl⟩};{
 have db:((f:Int)!=0)=true:=by simp;omega
 have hc:fK x=9221120237041090560:=by unfold fK;rw[au (by omega)]
 rw[hc];clear hs hf hc c d;go_enter func74,ntmps74;go_wp2;go_ret;exact⟨rfl,rfl⟩}};{
 have cb:((s:Int)==9218868437227405312)=false:=by simp;omega
 have hc:fK x=x:=by unfold fK;rw[ai (by omega)]
 rw[hc];clear hs hf hc c;go_enter func74,ntmps74;go_wp2;go_ret;exact⟨rfl,rfl⟩}
end
end Go.Proofs.YthdcceackfdbbaaGreatDoor
