import Derived.Test.YthdcceackfdbbaaGreatDoorS28A
set_option linter.unusedSimpArgs false
set_option maxRecDepth 20000
set_option maxHeartbeats 4000000
open Go.RowKit Go.Proofs.Tryz
namespace Go.Proofs.YthdcceackfdbbaaGreatDoor
section
open Go.Shelf
attribute [local go_sem]Oper.semAt_some
def oQ(off rs cs:Int)(l:List Value)(x:Nat×Nat×Nat):List Value:=l.set (off+x.1*rs+x.2.1*cs).toNat (.int .u64 (x.2.2:Int))
def VI(R C:Nat)(off rs cs:Int)(f:Nat->Nat->Nat)(l:List Value):List Value:=(ja R C f).foldl (oQ off rs cs) l
structure Ad(b bb n cap g R C:Nat)(off rs cs:Int)(W:World):Prop where
 buf:aD W b 22 [.slice (some ⟨bb,0,none⟩) n cap]
 view:aD W (b+1) 24 [.int .i64 (R:Int),.int .i64 (C:Int),.int .i64 off,.int .i64 rs,.int .i64 cs]
 m:aD W (b+2) 88 [.int .i64 (R:Int),.int .i64 (C:Int),.slice (some ⟨g,0,none⟩) (R*C) (R*C)]
theorem Ad.jn{B b bb n cap g R C:Nat}{off rs cs:Int}{W W':World}(h:Ad b bb n cap g R C off rs cs W)(s:ic B W W'):Ad b bb n cap g R C off rs cs W':=⟨h.buf.jn s,h.view.jn s,h.m.jn s⟩
theorem Ad.set{b bb n cap g R C:Nat}{off rs cs:Int}{W:World}(h:Ad b bb n cap g R C off rs cs W)(hb:bb<b)(q:Nat)(v:Value):Ad b bb n cap g R C off rs cs (W.setCell ⟨bb,q,none⟩ v):=⟨h.buf.other _ (by omega),h.view.other _ (by omega),h.m.other _ (by omega)⟩
theorem Hw(off rs cs:Int)(xs:List (Nat×Nat×Nat)):∀l:List Value,(xs.foldl (oQ off rs cs) l).length=l.length:=by induction xs with|nil=>intro l;rfl|cons x r ih=>intro l;rw[iH,ih];simp[oQ]
theorem Kept.ads{S:Nat->Prop}{B:Nat}{w W W':World}(h:Kept S w W)(s:ic B W W')(hB:w.heap.size<=B):Kept S w W':=⟨s.os.trans h.os,s.tape.trans h.tape,s.output.trans h.output,ak h.size s.size,λk hk hs=>by have h1:=h.block k hk hs;obtain⟨o,ho⟩:∃o,w.heap[k]?=some o:=⟨w.heap[k],by simp[hk]⟩;rw[ho]at h1⊢;exact s.block k o h1 (.inl (by omega))⟩
theorem Qw(w:World)(R C:Nat)(off rs cs:Int)(bb n cap g:Nat)(f:Nat->Nat->Nat)(l:List Value)(hR:R<=40)(hC:C<=40)(lD:R=0\/C=0\/Fit R C off rs cs n)(jb:n<=100000)(gi:aD w bb 65 l)(hn:n<=l.length)(hm:jf C g R f w)(GQ:g≠bb):Calls prog 40 #[.slice (some ⟨bb,0,none⟩) n cap,eO R C off rs cs,fF R C g] w λe w'=>(∃v,e=.returned v)/\Kept (λq=>q=bb) w w'/\aD w' bb 65 (VI R C off rs cs f l):=by
 have fX:prog.follows .mixedOrders=true:=by kernel_rfl
 refine callsIn_wide (n:=0)|>.1 ?_;refine callsIn_of_wp_marks func40 rfl trivial ?_ rfl;simp only[ntmps40,fd,aU,cd,Nat.reduceAdd,Nat.reduceSub,dZ,dY,fy,eL,dt,cv,eO,fF]
 have C4:Fence.wide.depth=none:=rfl;have OX:Fence.wide.fn 63:=trivial;obtain⟨b,hb⟩:∃b,w.heap.size=b:=⟨_,rfl⟩;have LH:bb<b:=by have:=gi.lt;omega
 have Lw:g<b:=by have:=hm.1;omega
 have lR:=hid gi;have HM:=hid hm;clear gi hm;have HP:=hid (λw=>callsIn_wide (n:=0).2 (Aw w R C g));unfold fF gX at HP;gi_wp2_with fail;refine(HP.out _).mono ?_;rintro e w1⟨rfl,rfl⟩
 clear HP;gi_wp2_with fail;obtain⟨O,hO⟩:∃O:List Obj,[.cells #[.slice (some ⟨bb,0,none⟩) n cap] 22,.cells #[.int .i64 (R:Int),.int .i64 (C:Int),.int .i64 off,.int .i64 rs,.int .i64 cs] 24,.cells #[.int .i64 (R:Int),.int .i64 (C:Int),.slice (some ⟨g,0,none⟩) (R*C) (R*C)] 88,.cells #[.int .i64 (R:Int),.int .i64 (C:Int),.slice (some ⟨g,0,none⟩) (R*C) (R*C)] 88]=O:=⟨_,rfl⟩
 obtain⟨W0,wk⟩:∃W0,pR w O=W0:=⟨_,rfl⟩;have eW:((((w.alloc (.cells #[.slice (some ⟨bb,0,none⟩) n cap] 22)).alloc (.cells #[.int .i64 (R:Int),.int .i64 (C:Int),.int .i64 off,.int .i64 rs,.int .i64 cs] 24)).alloc (.cells #[.int .i64 (R:Int),.int .i64 (C:Int),.slice (some ⟨g,0,none⟩) (R*C) (R*C)] 88)).alloc (.cells #[.int .i64 (R:Int),.int .i64 (C:Int),.slice (some ⟨g,0,none⟩) (R*C) (R*C)] 88))=W0:=by rw[<-wk,<-hO];rfl
 have Ek:W0.heap.size=b+4:=by rw[<-wk,mr,hb,<-hO];rfl
 have o7:Below b w W0:=by rw[<-wk,<-hb];exact j3 w O
 have tI:∀i o,O[i]?=some o->W0.heap[b+i]?=some o:=λi o h=>by rw[<-wk,<-hb];exact pg O w i o h
 have Ev:Ad b bb n cap g R C off rs cs W0:=⟨tI 0 _ (by rw[<-hO];rfl),tI 1 _ (by rw[<-hO];rfl),tI 2 _ (by rw[<-hO];rfl)⟩;rw[eW];clear eW tI;refine iP 0 (gf:=97) (fst:=#[fF R C g]) (lb:=#[]) rfl (enters_of func97 (by kernel_rfl) rfl) (xl R C g f hR hC) (by intro x hx;obtain⟨y,_,rfl⟩:=eF.1 hx;rfl) (λk W=>Ad b bb n cap g R C off rs cs W/\aD W bb 65 (((ja R C f).take k).foldl (oQ off rs cs) l)/\jf C g R f W/\Kept (λq=>q=bb) w W/\b+4<=W.heap.size) (λ_ _=>False) (λx a' W'=>∃(y:Nat×Nat×Nat)(Bx:Nat),x=mz y/\b+4<=Bx/\aD W' Bx 117 [.int .i64 (y.1:Int),.int .i64 (y.2.1:Int)]/\a'={tmps:=#[.slice (some ⟨bb,0,none⟩) n cap,.agg #[.int .i64 (R:Int),.int .i64 (C:Int),.int .i64 off,.int .i64 rs,.int .i64 cs],.agg #[.int .i64 (R:Int),.int .i64 (C:Int),.slice (some ⟨g,0,none⟩) (R*C) (R*C)],.pointer (some ⟨b,0,none⟩),.pointer (some ⟨b+1,0,none⟩),.pointer (some ⟨b+1+1,0,none⟩),.pointer (some ⟨Bx,0,none⟩),.agg #[.int .i64 (R:Int),.int .i64 (C:Int),.slice (some ⟨g,0,none⟩) (R*C) (R*C)],.func (.func 97) #[.agg #[.int .i64 (R:Int),.int .i64 (C:Int),.slice (some ⟨g,0,none⟩) (R*C) (R*C)]] #[],fE y.1 y.2.1,undef,undef,undef,undef,undef,undef,undef,undef,undef,undef,undef],defers:=[]}) ?hMem ?hI ?hIx ?hAx ?h0 ?assign ?body ?done ?stop
 case hMem=>exactλ_ _ _=>trivial
 case hI=>exactλk A B h s=>⟨h.1.jn s,h.2.1.jn s,h.2.2.1.jn s,h.2.2.2.1.ads s (by omega),ak h.2.2.2.2 s.size⟩
 case hIx=>exactλc A B h s=>h
 case hAx=>rintro x a' A B⟨y,Bx,h1,h2,h3,h4⟩s;exact⟨y,Bx,h1,h2,h3.jn s,h4⟩
 case h0=>exact⟨Ev,lR.out.below o7 LH,HM.out.below o7 Lw,Kept.cK (hb▸o7),by omega⟩
 case assign=>intro l1 k x W1 K hx hi hK;obtain⟨y,hy,rfl⟩:=iO hx;have di:=hi.2.2.2.2;have HK:Hid _:=hid (hK {tmps:=#[.slice (some ⟨bb,0,none⟩) n cap,.agg #[.int .i64 (R:Int),.int .i64 (C:Int),.int .i64 off,.int .i64 rs,.int .i64 cs],.agg #[.int .i64 (R:Int),.int .i64 (C:Int),.slice (some ⟨g,0,none⟩) (R*C) (R*C)],.pointer (some ⟨b,0,none⟩),.pointer (some ⟨b+1,0,none⟩),.pointer (some ⟨b+1+1,0,none⟩),.pointer (some ⟨W1.heap.size,0,none⟩),.agg #[.int .i64 (R:Int),.int .i64 (C:Int),.slice (some ⟨g,0,none⟩) (R*C) (R*C)],.func (.func 97) #[.agg #[.int .i64 (R:Int),.int .i64 (C:Int),.slice (some ⟨g,0,none⟩) (R*C) (R*C)]] #[],fE y.1 y.2.1,undef,undef,undef,undef,undef,undef,undef,undef,undef,undef,undef],defers:=[]} (W1.alloc (iI y.1 y.2.1)) (bq.below (Below.cj _ _)) ⟨hi.1.jn (ic.alloc 0 _ _),hi.2.1.alloc _,hi.2.2.1.jn (ic.alloc 0 _ _),hi.2.2.2.1.trans (Kept.cK (S:=λq=>q=bb) (Below.cj _ _)) (λq h=>.inl h),by simp;omega⟩ ⟨y,W1.heap.size,rfl,di,aD.dT _ _ _,rfl⟩);clear hK hi hx hy;unfold mz fE;unfold fE iI at HK;gi_wp2;exact HK.out
 case body=>rintro l1 k x a' W1 hx hi⟨y,Bx,rfl,hBx,kL,rfl⟩;obtain⟨y',hy,wU⟩:=iO hx;have za:=py wU;have hmy:=vP (bU hy);obtain⟨i',j',z'⟩:=y';obtain⟨i,j,z⟩:=y;simp only at za kL hmy⊢;obtain⟨rfl,rfl⟩:=za;obtain⟨WE,Er,rfl⟩:=hmy;clear hx wU;(have oH:Fit R C off rs cs n:=by rcases lD with h|h|h;{omega};{omega};{exact h});have BN:=oH.1 i' j' WE Er;have mB:=vw (by omega) (by omega) oH;obtain⟨q,hq⟩:∃q:Nat,off+i'*rs+j'*cs=(q:Int):=⟨_,(nV BN.1).symm⟩;(have Yd:q<n:=by omega);obtain⟨xz,xQ,Em,l8,dU⟩:=hi;obtain⟨L,hL⟩:∃L,((ja R C f).take k).foldl (oQ off rs cs) l=L:=⟨_,rfl⟩;rw[hL]at xQ;(have GS:L.length=l.length:=by rw[<-hL];exact Hw off rs cs _ l);(have LK:((ja R C f).take (k+1)).foldl (oQ off rs cs) l=L.set q (.int .u64 (f i' j':Int)):=by rw[dw,hy];simp only[Option.toList,qe,iH,Vp];rw[hL];unfold oQ;simp only;rw[hq,fW]);have C8:ic 0 W1 W1.drew:=ic.drew _ _;have gH:Ad b bb n cap g R C off rs cs W1.drew/\aD W1.drew Bx 117 [.int .i64 (i':Int),.int .i64 (j':Int)]:=⟨xz.jn C8,kL.jn C8⟩;have hM1:jf C g R f W1.drew:=Em.jn C8;have DV:aD W1.drew bb 65 L:=xQ.drew;have O7:Kept (λq=>q=bb) w W1.drew:=l8.trans (Kept.drewN (S:=λq=>q=bb) 1) (λq h=>.inl h);have hZ1:b+4<=W1.drew.heap.size:=dU;have hF1:bq W0.heap.size W1 W1.drew:=bq.below ((Below.refl _ W1).drew);unfold fE;gi_wp2_with fail;refine mF l1 (λW'=>Ad b bb n cap g R C off rs cs W'/\aD W' Bx 117 [.int .i64 (i':Int),.int .i64 (j':Int)]) fX (by kernel_rfl) (by rintro⟨a,w,h⟩;exact h) ?_;clear xz Em xQ l8 dU kL C8;generalize W1.drew=V0 at*;refine tk 0 (.slice (some ⟨bb,0,none⟩) n cap) rfl (λW' hS=>?_) gH ?_;{have q0:=hS.1.buf.cell (i:=0) rfl;clear hS;go_simp};simp only[Act.put];refine tk 1 (.agg #[.int .i64 (R:Int),.int .i64 (C:Int),.int .i64 off,.int .i64 rs,.int .i64 cs]) rfl (λW' hS=>?_) gH ?_;{have q0:=hS.1.view.cell (i:=0) rfl;have q1:=hS.1.view.cell (i:=1) rfl;have q2:=hS.1.view.cell (i:=2) rfl;have q3:=hS.1.view.cell (i:=3) rfl;have q4:=hS.1.view.cell (i:=4) rfl;clear hS;go_simp};simp only[Act.put];refine tk 2 (.pointer (some ⟨Bx,0,none⟩)) rfl (λW' hS=>?_) gH ?_;{clear hS;go_simp};simp only[Act.put];refine tk 3 (.int .i64 (i':Int)) rfl (λW' hS=>?_) gH ?_;{have q0:=hS.2.cell (i:=0) rfl;clear hS;go_simp};simp only[Act.put];refine tk 4 (.pointer (some ⟨Bx,1,none⟩)) rfl (λW' hS=>?_) gH ?_;{clear hS;go_simp};simp only[Act.put];refine tk 5 (.int .i64 (j':Int)) rfl (λW' hS=>?_) gH ?_;{have q0:=hS.2.cell (i:=1) rfl;clear hS;go_simp};simp only[Act.put];refine tk 7 (.agg #[.int .i64 (R:Int),.int .i64 (C:Int),.slice (some ⟨g,0,none⟩) (R*C) (R*C)]) rfl (λW' hS=>?_) gH ?_;{have q0:=hS.1.m.cell (i:=0) rfl;have q1:=hS.1.m.cell (i:=1) rfl;have q2:=hS.1.m.cell (i:=2) rfl;clear hS;go_simp};simp only[Act.put];refine tk 8 (.agg #[.int .i64 (i':Int),.int .i64 (j':Int)]) rfl (λW' hS=>?_) gH ?_;{have q0:=hS.2.cell (i:=0) rfl;have q1:=hS.2.cell (i:=1) rfl;clear hS;go_simp};simp only[Act.put];refine wpAnyH_ready (rs:=[6]) (by kernel_rfl) (by simp) ?_;refine AllReadyH.cons rfl (λK df=>?_) AllReadyH.nil;go_simp;refine(vF _ R C off rs cs i' j' (by omega) (iZ (by omega) (by omega)) (iZ (by omega) (by omega))).mono ?_;rintro e w1⟨rfl,kK⟩;(have s1:Below V0.heap.size V0 w1:=by rw[kK];exact Below.cj _ _);clear kK;have li:Ad b bb n cap g R C off rs cs w1/\aD w1 Bx 117 [.int .i64 (i':Int),.int .i64 (j':Int)]:=⟨gH.1.jn (ic.below (B:=0) s1),gH.2.az s1⟩;have M7:jf C g R f w1:=hM1.below s1 hM1.1;have Kf:=DV.az s1;have xT:Kept (λq=>q=bb) w w1:=O7.trans (Kept.cK (S:=λq=>q=bb) s1) (λq h=>.inl h);have hF2:bq W0.heap.size W1 w1:=hF1.trans (bq.below s1);have hZ2:b+4<=w1.heap.size:=ak hZ1 s1.size;rw[hq];refine df.out _ _ li (λhHeld=>?_);clear df hHeld gH hM1 DV O7 hF1 hZ1 s1;have tI:=FY w1 R C g i' j' (f i' j') hR hC WE Er (M7.2 i' j' WE Er) M7.1;unfold fF fE at tI;refine wpAnyH_ready (rs:=[9]) (by kernel_rfl) (by simp) ?_;refine AllReadyH.cons rfl (λK df=>?_) AllReadyH.nil;go_simp;refine tI.mono ?_;rintro e w2⟨rfl,gO⟩;(have s2:Below w1.heap.size w1 w2:=by rw[gO];exact((Below.refl _ _).alloc (aj _) _).alloc (by simp) _);clear gO tI;have oc:Ad b bb n cap g R C off rs cs w2/\aD w2 Bx 117 [.int .i64 (i':Int),.int .i64 (j':Int)]:=⟨li.1.jn (ic.below (B:=0) s2),li.2.az s2⟩;have hM3:jf C g R f w2:=M7.below s2 M7.1;have hA3:=Kf.az s2;have hK3:Kept (λq=>q=bb) w w2:=xT.trans (Kept.cK (S:=λq=>q=bb) s2) (λq h=>.inl h);have hF3:bq W0.heap.size W1 w2:=hF2.trans (bq.below s2);have hZ3:b+4<=w2.heap.size:=ak hZ2 s2.size;refine df.out _ _ oc (λhHeld=>?_);clear df hHeld li M7 Kf xT hF2 hZ2 s2;(have hqi:(q:Int)<n:=by omega);refine tk 10 (.pointer (some ⟨bb,q,none⟩)) rfl (λW' hS=>?_) oc ?_;{clear hS;go_simp};simp only[Act.put];obtain⟨y,BJ⟩:∃y,L[q]?=some y:=⟨L[q]'(by omega),by simp⟩;have x0:=hA3.cell BJ;have f0:=hA3.frozen q;refine wpAnyH_ready (rs:=[11]) (by kernel_rfl) (by simp) ?_;refine AllReadyH.cons rfl (λK df=>?_) AllReadyH.nil;go_simp;have qW:Ad b bb n cap g R C off rs cs (w2.setCell ⟨bb,q,none⟩ (.int .u64 (f i' j':Int)))/\aD (w2.setCell ⟨bb,q,none⟩ (.int .u64 (f i' j':Int))) Bx 117 [.int .i64 (i':Int),.int .i64 (j':Int)]:=⟨oc.1.set LH _ _,oc.2.other _ (by omega)⟩;refine df.out _ _ qW (λ_=>wpAnyH_done (by kernel_rfl) ?_ _);refine⟨hF3.trans (bq.set (by omega) _),qW.1,?_,⟨by simpa[World.setCell]using hM3.1,λa c ha hc=>?_⟩,hK3.trans (Kept.set (S:=λq=>q=bb) rfl _) (λq h=>.inl h),by simpa[World.setCell]using hZ3⟩;{rw[LK];exact hA3.set q _};{exact(World.cell?_of_block (w:=w2) (Below.heap_setCell _ _ _ _ GQ)).trans (hM3.2 a c ha hc)}
 case done=>intro D W1 hD hi hK;refine⟨by simp,.inl ⟨_,_,rfl,run_takeDeferred hK,?_⟩⟩;refine⟨_,results_none rfl _ _ _,⟨_,rfl⟩,?_,?_⟩;{exact hi.2.2.2.1.trans (T:=λq=>q=D) ⟨rfl,rfl,rfl,by simp[World.putObj],λq hq hs=>World.putObj_heap_other (λe=>hs e)⟩ (λq hq=>.inr (by omega))};{have h2:=hi.2.1;rw[bL,dx]at h2;exact(World.putObj_heap_other (by omega)).trans h2}
 case stop=>exactλ_ _ _ _ h=>h.elim
end
theorem Zk{C i j i' j':Nat}(hj:j<C)(Er:j'<C)(h:i*C+j=i'*C+j'):i=i'/\j=j':=by
 have e1:(i*C+j)/C=i:=by rw[fU,fk _ _ (by omega),cz hj];omega
 have e2:(i'*C+j')/C=i':=by rw[fU,fk _ _ (by omega),cz Er];omega
 have hi:i=i':=by rw[<-e1,<-e2,h]
 subst hi;exact⟨rfl,by omega⟩
theorem rP{L:List Value}{R C:Nat}{f:Nat->Nat->Nat}(hl:L.length=R*C)(h:∀a b,a<R->b<C->L[a*C+b]?=some (.int .u64 (f a b:Int))){i j:Nat}(hi:i<R)(hj:j<C)(x:Nat):∀a b,a<R->b<C->(L.set (i*C+j) (.int .u64 (x:Int)))[a*C+b]?=some (.int .u64 (A9 f i j x a b:Int)):=by intro a b ha hb;unfold A9;by_cases e:a=i/\b=j;{rw[au e,e.1,e.2,abo (by have:=gz hi hj;omega)]};{rw[ai e,D4 (λh=>e (by have:=Zk hj hb h;omega))];exact h a b ha hb}
theorem Re(w:World)(p B:Nat)(ao:Option Addr)(n cap:Nat)(ws:List ByteArray)(hn:ws.length=n)(jb:n<=1000000)(iF:n<=cap)(dU:∀x∈ws,x.size<=1000000)(mA:gK w ao ws)(R C left:Nat)(free:List (Nat×Nat))(f:Nat->Nat->Nat)(h:ou B w p (.lQ 0 R C left free f))(hB:B<=p):Calls prog 118 #[.pointer (some ⟨p,0,none⟩),.slice ao n cap] w λe w'=>jA B w p (uA 0 R C left free f false (ws.map (·.data.toList))) e w':=by
 obtain⟨_,hR,hC,WT,gm,g,hb,bl,aP,LL,Tj,I8,lw,Ls,⟨L,aG,GS,LK⟩,aH,oy,mj,o6,_⟩:=h;obtain⟨lN,Sv⟩:=o6 (by omega);have HL:Hid (∀w:World,Calls prog 77 #[.int .i64 0] w λe w'=>e=.returned (.bool false)/\w'=w):=λw=>by simpa using mL w 0
 have HH:Hid (∀w:World,Calls prog 44 #[.int .i64 0] w λe w'=>e=.returned (.bool false)/\w'=w):=λw=>by simpa using lO w 0
 have rR:=aP.lt;have zg:R*C<=1600:=bI hR hC;obtain⟨res,dD⟩:∃res,uA 0 R C left free f false (ws.map (·.data.toList))=res:=⟨_,rfl⟩;rw[dD];have cS:=hid dD;have HP:=hid aP
 have HG:=hid aG;have Bs:=hid aH;have GX:=hid LK;have A4:=hid GS;have ms:=hid lN;have GA:=hid Sv;have xW:=hid oy;have xK:=hid mA;have lj:=hid dU;have p0:=aP.cell (i:=0) rfl
 have SA:(dI 0 R C).length<=1600:=by rw[oR (by omega),bL];exact ak (iM _ _) (by rw[qd];exact zg)
 have HCR:Hid (True):=trivial;clear WT dD aP aG aH LK GS lN Sv oy mA dU o6;go_enter func118,ntmps118;go_wp2_with fail;refine(HL.out w).mono ?_;rintro e w1⟨rfl,rfl⟩
 by_cases h1:n=1;{
 subst h1;obtain⟨x0,rfl⟩:∃x0,ws=[x0]:=by match ws,hn with|[x0],_=>exact⟨x0,rfl⟩
 have hwx:=xK.out 0 x0 (by simp);obtain⟨gw,ow,rfl,oG,Kc⟩:=hwx;rw[iB]at Kc;have adC:=lj.out x0 (by simp);go_wp2_with fail;refine(jp w1 (some ⟨gw,ow,none⟩) 0 cap [] rfl (by omega) (by simp) (λk x h=>by simp at h)).mono ?_
 rintro e w2⟨hr,b2⟩;obtain⟨vo,vn,vc,rfl⟩:∃vo vn vc,e=.returned (.tuple #[.slice vo vn vc,.bool true]):=by rcases hr with⟨h,_⟩|⟨l,v,h,he,ho⟩;{cases h};{rcases ho.2 with⟨e2,_⟩|⟨g,cap,cE,e2,_⟩;{exact⟨_,_,_,by rw[he,e2]⟩};{exact⟨_,_,_,by rw[he,e2]⟩}}
 clear hr;obtain⟨wt,ZI⟩:∃wt,gm+left=wt:=⟨_,rfl⟩;rw[ZI]at HP;have Ag:=hid (HP.out.az b2);have UC:=hid (HG.out.az b2);have DJ:=hid (Bs.out.az b2);have gD:Hid (Below B w1 w2):=b2.mono (by omega)
 have C5:w2.cell? ⟨gw,ow,none⟩=some (.string x0):=(b2.cell (p:=⟨gw,ow,none⟩) oG).trans Kc;have SS:gw<w2.heap.size:=ax oG b2.size;have qj:p<w2.heap.size:=ax rR b2.size
 have lZ:Hid ((if left=0 then(10,.first)else mH 0 R C left free f 0 x0.data.toList)=res):=cS.out;clear HP HG Bs b2 Kc oG p0 cS xK;have q2:=Ag.out.cell (i:=2) rfl
 have q3:=Ag.out.cell (i:=3) rfl;by_cases CU:left=0;{
 obtain rfl:res=(10,.first):=by rw[<-lZ.out,au CU]
 have WF:((gm:Int)==(wt:Int))=true:=by rw[kO];omega
 clear lZ;go_wp2_with fail;go_quiet(fail);go_wp2;go_ret;exact⟨rfl,bj gD.out _,λh=>by cases h⟩};{
 have WF:((gm:Int)==(wt:Int))=false:=by rw[av];omega
 obtain⟨⟨i,j⟩,zd⟩:∃q,(dI 0 R C)[gm]?=some q:=⟨(dI 0 R C)[gm]'(by have:=GA.out;omega),by simp⟩;obtain⟨Lq,OV,hji⟩:=(BC (by omega)).1 (bU zd);have hfg:free.getD 0 (0,0)=(i,j):=by rw[ms.out,fu,ib,iB,zd];rfl
 have HFG:=hid hfg;have Xz:=hid zd;clear hfg zd;go_wp2_with fail;go_quiet(fail);have xc:Hid (aD (w2.drewN nq) p 133 (iq 0 true wt gm R C (.slice (some ⟨g,0,none⟩) (R*C) (R*C)) (.slice (some ⟨hb,0,none⟩) (R*C) (R*C)))):=Ag.out
 have Km:Hid (aD (w2.drewN nq) g 65 L):=UC.out;have Ah:Hid (aD (w2.drewN nq) hb 4 (bl.map Value.bool)):=DJ.out;have kM:Hid (Below B w1 (w2.drewN nq)):=bj gD.out nq
 have Gf:(w2.drewN nq).cell? ⟨gw,ow,none⟩=some (.string x0):=C5;have aar:gw<(w2.drewN nq).heap.size:=SS;have SB:p<(w2.drewN nq).heap.size:=qj;clear Ag UC DJ gD C5 SS qj q2 q3
 generalize w2.drewN nq=Z at*;have xV:=hid (vQ Z p 0 R C wt gm i j true _ _ (by omega) hR hC (by have:=GA.out;omega) xc.out Xz.out);have p0:=xc.out.cell (i:=0) rfl
 go_wp2_with fail;refine xV.out.mono ?_;rintro e Z'⟨rfl,rfl⟩;clear xV;go_wp2_with fail;refine(HL.out Z').mono ?_;rintro e JQ⟨rfl,rfl⟩;have tW:=hid (rJ JQ x0 (by unfold maxLen;omega))
 obtain⟨sx,se,hsc⟩:∃sx se,eT x0.data.toList=(sx,se):=⟨_,_,rfl⟩;rw[hsc]at tW;simp only at tW;go_wp2_with fail;refine tW.out.mono ?_;rintro e Y⟨rfl,bY⟩;have xL:=hid (xc.out.az bY)
 have Fv:=hid (Km.out.az bY);have pV:=hid (Ah.out.az bY);have ma:Hid (Below B w1 Y):=kM.out.trans (bY.mono (by omega));clear tW bY xc Km Ah kM Gf p0;by_cases Ej:se=0
 {
 subst Ej;obtain⟨P,hPi⟩:∃P:Nat,(i:Int)*(C:Int)=(P:Int):=⟨i*C,by push_cast;rfl⟩;have eP:i*C=P:=by(have:((i*C:Nat):Int)=P:=by push_cast;exact hPi);omega
 have O5:P+j<R*C:=by have:=gz Lq OV;omega
 obtain⟨N,hN⟩:∃N,R*C=N:=⟨_,rfl⟩;rw[hN]at O5 xL A4 zg;have aaC:(P:Int)+j<N:=by omega
 obtain⟨old,hold⟩:∃v,L[P+j]?=some v:=⟨L[P+j]'(by rw[A4.out];exact O5),by simp⟩;have q3:=xL.out.cell (i:=3) rfl;have e3:=xL.out.frozen 3;have a5:=xL.out.set 3 (.int .i64 ((gm:Int)+1))
 have vI:Hid (aD (Y.setCell ⟨p,3,none⟩ (.int .i64 ((gm:Int)+1))) p 133 (iq 0 true wt (gm+1) R C (.slice (some ⟨g,0,none⟩) N N) (.slice (some ⟨hb,0,none⟩) N N))):=a5
 have pW:Hid (aD (Y.setCell ⟨p,3,none⟩ (.int .i64 ((gm:Int)+1))) g 65 L):=Fv.out.other _ lw;have vJ:Hid (aD (Y.setCell ⟨p,3,none⟩ (.int .i64 ((gm:Int)+1))) hb 4 (bl.map Value.bool)):=pV.out.other _ Ls
 have mX:Hid (Below B w1 (Y.setCell ⟨p,3,none⟩ (.int .i64 ((gm:Int)+1)))):=ma.out.setCell (p:=⟨p,3,none⟩) hB _;have WH:(gm:Int)<=1600:=by have:=GA.out;omega
 clear a5 xL Fv pV ma;go_wp2_with fail;clear q3 e3;generalize Y.setCell ⟨p,3,none⟩ (.int .i64 ((gm:Int)+1))=Y5 at*;have q5:=vI.out.cell (i:=5) rfl;have q6:=vI.out.cell (i:=6) rfl
 have g0:=pW.out.cell hold;have g1:=pW.out.frozen (P+j);have GF:Hid (aD (Y5.setCell ⟨g,P+j,none⟩ (.int .u64 (sx:Int))).drew p 133 (iq 0 true wt (gm+1) R C (.slice (some ⟨g,0,none⟩) N N) (.slice (some ⟨hb,0,none⟩) N N))):=vI.out.other _ (fl lw)
 have Ai:Hid (aD (Y5.setCell ⟨g,P+j,none⟩ (.int .u64 (sx:Int))).drew g 65 (L.set (P+j) (.int .u64 (sx:Int)))):=pW.out.set _ _;have DI:Hid (aD (Y5.setCell ⟨g,P+j,none⟩ (.int .u64 (sx:Int))).drew hb 4 (bl.map Value.bool)):=vJ.out.other _ (fl I8)
 have q8:Hid (Below B w1 (Y5.setCell ⟨g,P+j,none⟩ (.int .u64 (sx:Int))).drew):=(mX.out.setCell (p:=⟨g,P+j,none⟩) LL _).drew;clear vI pW vJ mX;go_region;clear q5 q6 g0 g1
 generalize(Y5.setCell ⟨g,P+j,none⟩ (.int .u64 (sx:Int))).drew=Y6 at*;have p0:=GF.out.cell (i:=0) rfl;go_wp2_with fail;refine(HH.out Y6).mono ?_;rintro e Y7⟨rfl,rfl⟩
 have ui:=rP (by rw[A4.out,hN]) GX.out Lq OV sx;rw[eP]at ui;have Lz:free.eraseIdx 0=(dI 0 R C).drop (gm+1):=by rw[ms.out,afk,List.tail_drop]
 obtain rfl:res=(0,lH.lQ 0 R C (left-1) (free.eraseIdx 0) (zA 0 f (i,j) sx)):=by rw[<-lZ.out,ai CU];unfold mH;rw[hsc,ai (by simp),HFG.out]
 have Vi:=hid ui;have HEF:=hid Lz;clear ui Lz lZ p0;have ci:Hid (jA B w1 p (0,lH.lQ 0 R C (left-1) (free.eraseIdx 0) (zA 0 f (i,j) sx)) (.returned (.int .i64 0)) Y7):=by refine⟨rfl,q8.out,λ_=>⟨by omega,hR,hC,(λh=>by omega),gm+1,g,hb,bl,?_,LL,Tj,I8,lw,Ls,⟨_,Ai.out,by rw[ep,A4.out,hN],Vi.out⟩,DI.out,xW.out,by omega,⟨λ_=>⟨HEF.out,by have:=GA.out;omega⟩,λh=>by omega⟩⟩⟩;rw[show gm+1+(left-1)=wt by omega,hN];exact GF.out
 clear GF Ai DI q8;go_wp2;go_ret;exact ci.out};{
 have ZN:((se:Int)!=0)=true:=by simp;omega
 obtain rfl:res=(se,.first):=by rw[<-lZ.out,ai CU];unfold mH;rw[hsc,au Ej]
 clear lZ;go_wp2;go_ret;exact⟨rfl,ma.out,λh=>(Ej h).elim⟩}}};{
 have P6:((n:Int)==1)=false:=by rw[av];omega
 obtain rfl:res=(6,.first):=by rw[<-cS.out];unfold uA;rw[au (.inr (by simp;omega))]
 clear cS;go_wp2;go_ret;exact⟨rfl,Below.refl _ _,λh=>by cases h⟩}
theorem Rd(w:World)(p B:Nat)(ao:Option Addr)(n cap:Nat)(ws:List ByteArray)(hn:ws.length=n)(jb:n<=1000000)(iF:n<=cap)(dU:∀x∈ws,x.size<=1000000)(mA:gK w ao ws)(R C left:Nat)(free:List (Nat×Nat))(f:Nat->Nat->Nat)(h:ou B w p (.lQ 1 R C left free f))(hB:B<=p):Calls prog 118 #[.pointer (some ⟨p,0,none⟩),.slice ao n cap] w λe w'=>jA B w p (uA 1 R C left free f false (ws.map (·.data.toList))) e w':=by
 obtain⟨_,hR,hC,WT,gm,g,hb,bl,aP,LL,Tj,I8,lw,Ls,⟨L,aG,GS,LK⟩,aH,oy,mj,o6,_⟩:=h;obtain⟨lN,Sv⟩:=o6 (by omega);have HL:Hid (∀w:World,Calls prog 77 #[.int .i64 1] w λe w'=>e=.returned (.bool false)/\w'=w):=λw=>by simpa using mL w 1
 have HH:Hid (∀w:World,Calls prog 44 #[.int .i64 1] w λe w'=>e=.returned (.bool true)/\w'=w):=λw=>by simpa using lO w 1
 have rR:=aP.lt;have zg:R*C<=1600:=bI hR hC;obtain⟨res,dD⟩:∃res,uA 1 R C left free f false (ws.map (·.data.toList))=res:=⟨_,rfl⟩;rw[dD];have cS:=hid dD;have HP:=hid aP
 have HG:=hid aG;have Bs:=hid aH;have GX:=hid LK;have A4:=hid GS;have ms:=hid lN;have GA:=hid Sv;have xW:=hid oy;have xK:=hid mA;have lj:=hid dU;have p0:=aP.cell (i:=0) rfl
 have SA:(dI 1 R C).length<=1600:=by rw[oR (by omega),bL];exact ak (iM _ _) (by rw[qd];exact zg)
 have HCR:Hid (C=R):=WT (by omega);clear WT dD aP aG aH LK GS lN Sv oy mA dU o6;go_enter func118,ntmps118;go_wp2_with fail;refine(HL.out w).mono ?_;rintro e w1⟨rfl,rfl⟩
 by_cases h1:n=1;{
 subst h1;obtain⟨x0,rfl⟩:∃x0,ws=[x0]:=by match ws,hn with|[x0],_=>exact⟨x0,rfl⟩
 have hwx:=xK.out 0 x0 (by simp);obtain⟨gw,ow,rfl,oG,Kc⟩:=hwx;rw[iB]at Kc;have adC:=lj.out x0 (by simp);go_wp2_with fail;refine(jp w1 (some ⟨gw,ow,none⟩) 0 cap [] rfl (by omega) (by simp) (λk x h=>by simp at h)).mono ?_
 rintro e w2⟨hr,b2⟩;obtain⟨vo,vn,vc,rfl⟩:∃vo vn vc,e=.returned (.tuple #[.slice vo vn vc,.bool true]):=by rcases hr with⟨h,_⟩|⟨l,v,h,he,ho⟩;{cases h};{rcases ho.2 with⟨e2,_⟩|⟨g,cap,cE,e2,_⟩;{exact⟨_,_,_,by rw[he,e2]⟩};{exact⟨_,_,_,by rw[he,e2]⟩}}
 clear hr;obtain⟨wt,ZI⟩:∃wt,gm+left=wt:=⟨_,rfl⟩;rw[ZI]at HP;have Ag:=hid (HP.out.az b2);have UC:=hid (HG.out.az b2);have DJ:=hid (Bs.out.az b2);have gD:Hid (Below B w1 w2):=b2.mono (by omega)
 have C5:w2.cell? ⟨gw,ow,none⟩=some (.string x0):=(b2.cell (p:=⟨gw,ow,none⟩) oG).trans Kc;have SS:gw<w2.heap.size:=ax oG b2.size;have qj:p<w2.heap.size:=ax rR b2.size
 have lZ:Hid ((if left=0 then(10,.first)else mH 1 R C left free f 0 x0.data.toList)=res):=cS.out;clear HP HG Bs b2 Kc oG p0 cS xK;have q2:=Ag.out.cell (i:=2) rfl
 have q3:=Ag.out.cell (i:=3) rfl;by_cases CU:left=0;{
 obtain rfl:res=(10,.first):=by rw[<-lZ.out,au CU]
 have WF:((gm:Int)==(wt:Int))=true:=by rw[kO];omega
 clear lZ;go_wp2_with fail;go_quiet(fail);go_wp2;go_ret;exact⟨rfl,bj gD.out _,λh=>by cases h⟩};{
 have WF:((gm:Int)==(wt:Int))=false:=by rw[av];omega
 obtain⟨⟨i,j⟩,zd⟩:∃q,(dI 1 R C)[gm]?=some q:=⟨(dI 1 R C)[gm]'(by have:=GA.out;omega),by simp⟩;obtain⟨Lq,OV,hji⟩:=(BC (by omega)).1 (bU zd);have hfg:free.getD 0 (0,0)=(i,j):=by rw[ms.out,fu,ib,iB,zd];rfl
 have HFG:=hid hfg;have Xz:=hid zd;clear hfg zd;go_wp2_with fail;go_quiet(fail);have xc:Hid (aD (w2.drewN nq) p 133 (iq 1 true wt gm R C (.slice (some ⟨g,0,none⟩) (R*C) (R*C)) (.slice (some ⟨hb,0,none⟩) (R*C) (R*C)))):=Ag.out
 have Km:Hid (aD (w2.drewN nq) g 65 L):=UC.out;have Ah:Hid (aD (w2.drewN nq) hb 4 (bl.map Value.bool)):=DJ.out;have kM:Hid (Below B w1 (w2.drewN nq)):=bj gD.out nq
 have Gf:(w2.drewN nq).cell? ⟨gw,ow,none⟩=some (.string x0):=C5;have aar:gw<(w2.drewN nq).heap.size:=SS;have SB:p<(w2.drewN nq).heap.size:=qj;clear Ag UC DJ gD C5 SS qj q2 q3
 generalize w2.drewN nq=Z at*;have xV:=hid (vQ Z p 1 R C wt gm i j true _ _ (by omega) hR hC (by have:=GA.out;omega) xc.out Xz.out);have p0:=xc.out.cell (i:=0) rfl
 go_wp2_with fail;refine xV.out.mono ?_;rintro e Z'⟨rfl,rfl⟩;clear xV;go_wp2_with fail;refine(HL.out Z').mono ?_;rintro e JQ⟨rfl,rfl⟩;have tW:=hid (rJ JQ x0 (by unfold maxLen;omega))
 obtain⟨sx,se,hsc⟩:∃sx se,eT x0.data.toList=(sx,se):=⟨_,_,rfl⟩;rw[hsc]at tW;simp only at tW;go_wp2_with fail;refine tW.out.mono ?_;rintro e Y⟨rfl,bY⟩;have xL:=hid (xc.out.az bY)
 have Fv:=hid (Km.out.az bY);have pV:=hid (Ah.out.az bY);have ma:Hid (Below B w1 Y):=kM.out.trans (bY.mono (by omega));clear tW bY xc Km Ah kM Gf p0;by_cases Ej:se=0
 {
 subst Ej;obtain⟨P,hPi⟩:∃P:Nat,(i:Int)*(C:Int)=(P:Int):=⟨i*C,by push_cast;rfl⟩;have eP:i*C=P:=by(have:((i*C:Nat):Int)=P:=by push_cast;exact hPi);omega
 have O5:P+j<R*C:=by have:=gz Lq OV;omega
 obtain⟨N,hN⟩:∃N,R*C=N:=⟨_,rfl⟩;rw[hN]at O5 xL A4 zg;have aaC:(P:Int)+j<N:=by omega
 obtain⟨old,hold⟩:∃v,L[P+j]?=some v:=⟨L[P+j]'(by rw[A4.out];exact O5),by simp⟩;have q3:=xL.out.cell (i:=3) rfl;have e3:=xL.out.frozen 3;have a5:=xL.out.set 3 (.int .i64 ((gm:Int)+1))
 have vI:Hid (aD (Y.setCell ⟨p,3,none⟩ (.int .i64 ((gm:Int)+1))) p 133 (iq 1 true wt (gm+1) R C (.slice (some ⟨g,0,none⟩) N N) (.slice (some ⟨hb,0,none⟩) N N))):=a5
 have pW:Hid (aD (Y.setCell ⟨p,3,none⟩ (.int .i64 ((gm:Int)+1))) g 65 L):=Fv.out.other _ lw;have vJ:Hid (aD (Y.setCell ⟨p,3,none⟩ (.int .i64 ((gm:Int)+1))) hb 4 (bl.map Value.bool)):=pV.out.other _ Ls
 have mX:Hid (Below B w1 (Y.setCell ⟨p,3,none⟩ (.int .i64 ((gm:Int)+1)))):=ma.out.setCell (p:=⟨p,3,none⟩) hB _;have WH:(gm:Int)<=1600:=by have:=GA.out;omega
 clear a5 xL Fv pV ma;go_wp2_with fail;clear q3 e3;generalize Y.setCell ⟨p,3,none⟩ (.int .i64 ((gm:Int)+1))=Y5 at*;have q5:=vI.out.cell (i:=5) rfl;have q6:=vI.out.cell (i:=6) rfl
 have g0:=pW.out.cell hold;have g1:=pW.out.frozen (P+j);have GF:Hid (aD (Y5.setCell ⟨g,P+j,none⟩ (.int .u64 (sx:Int))).drew p 133 (iq 1 true wt (gm+1) R C (.slice (some ⟨g,0,none⟩) N N) (.slice (some ⟨hb,0,none⟩) N N))):=vI.out.other _ (fl lw)
 have Ai:Hid (aD (Y5.setCell ⟨g,P+j,none⟩ (.int .u64 (sx:Int))).drew g 65 (L.set (P+j) (.int .u64 (sx:Int)))):=pW.out.set _ _;have DI:Hid (aD (Y5.setCell ⟨g,P+j,none⟩ (.int .u64 (sx:Int))).drew hb 4 (bl.map Value.bool)):=vJ.out.other _ (fl I8)
 have q8:Hid (Below B w1 (Y5.setCell ⟨g,P+j,none⟩ (.int .u64 (sx:Int))).drew):=(mX.out.setCell (p:=⟨g,P+j,none⟩) LL _).drew;clear vI pW vJ mX;go_region;clear q5 q6 g0 g1
 generalize(Y5.setCell ⟨g,P+j,none⟩ (.int .u64 (sx:Int))).drew=Y6 at*;have p0:=GF.out.cell (i:=0) rfl;go_wp2_with fail;refine(HH.out Y6).mono ?_;rintro e Y7⟨rfl,rfl⟩
 have ui:=rP (by rw[A4.out,hN]) GX.out Lq OV sx;rw[eP]at ui;have Lz:free.eraseIdx 0=(dI 1 R C).drop (gm+1):=by rw[ms.out,afk,List.tail_drop]
 obtain rfl:res=(0,lH.lQ 1 R C (left-1) (free.eraseIdx 0) (zA 1 f (i,j) sx)):=by rw[<-lZ.out,ai CU];unfold mH;rw[hsc,ai (by simp),HFG.out]
 have Vi:=hid ui;have HEF:=hid Lz;clear ui Lz lZ p0;obtain rfl:C=R:=HCR.out;obtain⟨Q,hQi⟩:∃Q:Nat,(j:Int)*(C:Int)=(Q:Int):=⟨j*C,by push_cast;rfl⟩;have eQ:j*C=Q:=by(have:((j*C:Nat):Int)=Q:=by push_cast;exact hQi);omega
 have hQj:Q+i<N:=by have:=gz (R:=C) (C:=C) OV Lq;omega
 have aeB:(Q:Int)+i<N:=by omega
 obtain⟨adv,SF⟩:∃v,(L.set (P+j) (.int .u64 (sx:Int)))[Q+i]?=some v:=⟨(L.set (P+j) (.int .u64 (sx:Int)))[Q+i]'(by rw[ep,A4.out];exact hQj),by simp⟩;have q5:=GF.out.cell (i:=5) rfl
 have q6:=GF.out.cell (i:=6) rfl;have g0:=Ai.out.cell SF;have g1:=Ai.out.frozen (Q+i);have Lk:=rP (R:=C) (C:=C) (by rw[ep,A4.out,hN]) Vi.out OV Lq sx;rw[eQ]at Lk
 have ci:Hid (jA B w1 p (0,lH.lQ 1 C C (left-1) (free.eraseIdx 0) (zA 1 f (i,j) sx)) (.returned (.int .i64 0)) (Y7.setCell ⟨g,Q+i,none⟩ (.int .u64 (sx:Int))).drew):=by refine⟨rfl,(q8.out.setCell (p:=⟨g,Q+i,none⟩) LL _).drew,λ_=>⟨by omega,hR,hC,(λ_=>rfl),gm+1,g,hb,bl,?_,LL,Tj,I8,lw,Ls,⟨_,Ai.out.set _ _,by rw[ep,ep,A4.out,hN],Lk⟩,DI.out.other _ (fl I8),xW.out,by omega,⟨λ_=>⟨HEF.out,by have:=GA.out;omega⟩,λh=>by omega⟩⟩⟩;rw[show gm+1+(left-1)=wt by omega,hN];exact GF.out.other _ (fl lw)
 clear GF Ai DI q8 Lk;go_wp2_with fail;go_region;clear q5 q6 g0 g1;go_wp2;go_ret;exact ci.out};{
 have ZN:((se:Int)!=0)=true:=by simp;omega
 obtain rfl:res=(se,.first):=by rw[<-lZ.out,ai CU];unfold mH;rw[hsc,au Ej]
 clear lZ;go_wp2;go_ret;exact⟨rfl,ma.out,λh=>(Ej h).elim⟩}}};{
 have P6:((n:Int)==1)=false:=by rw[av];omega
 obtain rfl:res=(6,.first):=by rw[<-cS.out];unfold uA;rw[au (.inr (by simp;omega))]
 clear cS;go_wp2;go_ret;exact⟨rfl,Below.refl _ _,λh=>by cases h⟩}
end Go.Proofs.YthdcceackfdbbaaGreatDoor
