import Derived.Test.YthdcceackfdbbaaGreatDoorS25A
set_option linter.unusedSimpArgs false
set_option maxRecDepth 20000
set_option maxHeartbeats 2000000
open Go.RowKit Go.Proofs.Tryz
namespace Go.Proofs.YthdcceackfdbbaaGreatDoor
theorem Q0(w:World)(p B:Nat)(ao:Option Addr)(n cap:Nat)(ws:List ByteArray)(hn:ws.length=n)(jb:n<=1000000)(dU:∀x∈ws,x.size<=1000000)(mA:gK w ao ws)(h:aD w p 133 (iq 0 false 0 0 0 0 (.slice none 0 0) (.slice none 0 0)))(hB:B<=p):Calls prog 117 #[.pointer (some ⟨p,0,none⟩),.slice ao n cap] w λe w'=>jA B w p (jX 0 false (ws.map (·.data.toList))) e w':=by
 obtain⟨i0,hi,ip,fS,gU⟩:=info_parts Tryz.oT;obtain⟨j0,hj,BJ,Sn,Sl⟩:=info_parts Tryz.uW;have Qe:Hid (∀(N:Nat),N<=1600->∀w:World,(Instr.makeSlice 22 (.int .i64 (N:Int)) (.int .i64 (N:Int))).run prog w=.ok (.slice (some ⟨w.heap.size,0,none⟩) N N) (w.alloc (.cells (Array.replicate N (.int .u64 0)) 65))):=λN hN w=>jh (P:=prog) 22 65 i0 (.int .u64 0) underlying22 hi ip fS rfl N (by rw[gU];omega) (by omega) w
 have HMB:Hid (∀(N:Nat),N<=1600->∀w:World,(Instr.makeSlice 108 (.int .i64 (N:Int)) (.int .i64 (N:Int))).run prog w=.ok (.slice (some ⟨w.heap.size,0,none⟩) N N) (w.alloc (.cells (Array.replicate N (.bool false)) 4))):=λN hN w=>jh (P:=prog) 108 4 j0 (.bool false) underlying108 hj BJ Sn rfl N (by rw[Sl];omega) (by omega) w
 clear hi ip fS gU hj BJ Sn Sl;have S6:=jp w ao n cap ws hn jb dU mA;have tX:=hid S6;have HA:=hid h;have HL:Hid (∀w:World,Calls prog 77 #[.int .i64 0] w λe w'=>e=.returned (.bool false)/\w'=w):=λw=>by simpa using mL w 0
 have HH:Hid (∀w:World,Calls prog 44 #[.int .i64 0] w λe w'=>e=.returned (.bool false)/\w'=w):=λw=>by simpa using lO w 0
 have rR:=h.lt;obtain⟨res,dD⟩:∃res,jX 0 false (ws.map (·.data.toList))=res:=⟨_,rfl⟩;rw[dD];have oD:tR 0 (cU (ws.map (·.data.toList)))=res:=dD;have cS:=hid oD;clear S6 h dD oD
 go_enter func117,ntmps117;go_wp2_with fail;refine tX.out.mono ?_;rintro e W1⟨hr,b1⟩;have j6:=hid (HA.out.az b1);have fQ:Hid (Below B w W1):=b1.mono (by omega);have fS:p<W1.heap.size:=j6.out.lt
 rcases hr with⟨ql,rfl⟩|⟨l,v,hl,rfl,bp⟩;{rw[ql]at cS;clear HA tX b1;go_wp2;go_ret;exact⟨by rw[<-cS.out];rfl,fQ.out,λh=>by rw[<-cS.out]at h;cases h⟩};{
 rw[hl]at cS;obtain⟨vo,vn,vc,rfl⟩:∃vo vn vc,v=.slice vo vn vc:=by rcases bp.2 with⟨e,_⟩|⟨g,cap,cE,e,_⟩;{exact⟨_,_,_,e⟩};{exact⟨_,_,_,e⟩}
 have Wp:vn=l.length:=by rcases bp.2 with⟨e,h0⟩|⟨g,cap,cE,e,_⟩;{cases e;exact h0.symm};{cases e;rfl}
 subst Wp;have p0:=j6.out.cell (i:=0) rfl;by_cases hlen:l.length=2;{
 obtain⟨r,c,rfl⟩:∃r c,l=[r,c]:=by match l,hlen with|[r,c],_=>exact⟨r,c,rfl⟩
 obtain⟨gn,rfl⟩:∃gn,vo=some ⟨gn,0,none⟩:=by rcases bp.2 with⟨_,h3⟩|⟨g,cap,cE,e,_⟩;{cases h3};{cases e;exact⟨g,rfl⟩}
 have n0:=bp.cellAt 0 (by simp);have n1:=bp.cellAt 1 (by simp);simp[qi]at n0 n1;have hgn:w.heap.size<=gn:=by rcases bp.2 with⟨e,_⟩|⟨g,cap,cE,e,hb,_⟩;{cases e};{cases e;exact hb}
 have CX:gn<W1.heap.size:=jt n0;have lw:gn≠p:=by omega
 have lZ:Hid ((if dM 0 r c≠0 then(dM 0 r c,.first)else(0,lH.lQ 0 r c (dI 0 r c).length (dI 0 r c) (λ_ _=>0)))=res):=cS.out;simp only[aU,cd,cA,Nat.reduceAdd]at hlen⊢
 clear cS hlen hl bp HA tX b1;by_cases Li:40<r;{
 have CS:(40:Int)<r:=by omega
 obtain rfl:res=(8,.first):=by rw[<-lZ.out,show dM 0 r c=8 by unfold dM;rw[au (.inl Li)]];rfl
 clear lZ;go_wp2_with fail;refine(HL.out W1).mono ?_;rintro e w2⟨rfl,rfl⟩;go_wp2;go_ret;exact⟨rfl,fQ.out,λh=>by cases h⟩};have CS:¬(40:Int)<r:=by omega
 by_cases LD:40<c;{
 have C6:(40:Int)<c:=by omega
 obtain rfl:res=(8,.first):=by rw[<-lZ.out,show dM 0 r c=8 by unfold dM;rw[au (.inr LD)]];rfl
 clear lZ;go_wp2_with fail;refine(HL.out W1).mono ?_;rintro e w2⟨rfl,rfl⟩;go_wp2;go_ret;exact⟨rfl,fQ.out,λh=>by cases h⟩};have C6:¬(40:Int)<c:=by omega
 go_wp2_with fail;refine(HL.out W1).mono ?_;rintro e w2⟨rfl,rfl⟩;go_wp2_with fail;go_quiet(first|(go_at_call 44;exact Calls.quiet_of_same (HH.out _)));go_wp2_with fail
 have aZ:aD (w2.drewN nq) p 133 (iq 0 false 0 0 0 0 (.slice none 0 0) (.slice none 0 0)):=j6.out;have RI:(w2.drewN nq).cell? ⟨gn,0,none⟩=some (.int .i64 (r:Int)):=n0
 have RH:(w2.drewN nq).cell? ⟨gn,1,none⟩=some (.int .i64 (c:Int)):=n1;have BZ:Below B w (w2.drewN nq):=bj fQ.out nq;have sZ:p<(w2.drewN nq).heap.size:=fS;have gZ:gn<(w2.drewN nq).heap.size:=CX
 clear j6 fQ n0 n1 p0 fS CX;generalize w2.drewN nq=Z at*;obtain⟨N,hN⟩:∃N,r*c=N:=⟨_,rfl⟩;have hNi:(r:Int)*(c:Int)=(N:Int):=by rw[<-hN];push_cast;rfl
 have O6:N<=1600:=by rw[<-hN];exact bI (show r<=40 by omega) (show c<=40 by omega)
 have c2:=aZ.cell (i:=2) rfl;have f2:=aZ.frozen 2;have a1:aD (Z.setCell ⟨p,2,none⟩ (.int .i64 (N:Int))).drew p 133 (iq 0 false N 0 0 0 (.slice none 0 0) (.slice none 0 0)):=aZ.set 2 (.int .i64 (N:Int))
 have m0:(Z.setCell ⟨p,2,none⟩ (.int .i64 (N:Int))).drew.cell? ⟨gn,0,none⟩=some (.int .i64 (r:Int)):=(World.cell?_of_block (a:=⟨gn,0,none⟩) (Below.heap_setCell _ _ _ _ lw)).trans RI
 have m1:(Z.setCell ⟨p,2,none⟩ (.int .i64 (N:Int))).drew.cell? ⟨gn,1,none⟩=some (.int .i64 (c:Int)):=(World.cell?_of_block (a:=⟨gn,1,none⟩) (Below.heap_setCell _ _ _ _ lw)).trans RH
 have B1:Below B w (Z.setCell ⟨p,2,none⟩ (.int .i64 (N:Int))).drew:=(BZ.setCell (p:=⟨p,2,none⟩) hB _).drew;have j6:=hid a1;have GW:=hid m0;have yX:=hid m1;have fQ:=hid B1
 clear a1 m0 m1 B1 aZ BZ;go_region;clear RI RH c2 f2;generalize(Z.setCell ⟨p,2,none⟩ (.int .i64 (N:Int))).drew=Z1 at*;have p0:=j6.out.cell (i:=0) rfl;go_wp2_with fail
 refine(HH.out Z1).mono ?_;rintro e w3⟨rfl,rfl⟩;have iL:=j6;have sI:=GW;have B4:=yX;have gD:=fQ;obtain⟨WN,Td⟩:∃WN,N=WN:=⟨_,rfl⟩;have Uo:Hid (WN=(dI 0 r c).length):=by show _=_;rw[tu (by omega),hN,Td]
 rw[Td]at iL;clear j6 GW yX fQ p0 Td;obtain⟨Z2,hZ2⟩:∃Z2,w3=Z2:=⟨_,rfl⟩;subst hZ2;have p0:=iL.out.cell (i:=0) rfl;have c1:=iL.out.cell (i:=1) rfl;have f1:=iL.out.frozen 1
 have a3:=iL.out.set 1 (.bool true);have m0:(w3.setCell ⟨p,1,none⟩ (.bool true)).cell? ⟨gn,0,none⟩=some (.int .i64 (r:Int)):=(World.cell?_of_block (a:=⟨gn,0,none⟩) (Below.heap_setCell _ _ _ _ lw)).trans sI.out
 have m1:(w3.setCell ⟨p,1,none⟩ (.bool true)).cell? ⟨gn,1,none⟩=some (.int .i64 (c:Int)):=(World.cell?_of_block (a:=⟨gn,1,none⟩) (Below.heap_setCell _ _ _ _ lw)).trans B4.out
 have B3:Below B w (w3.setCell ⟨p,1,none⟩ (.bool true)):=gD.out.setCell (p:=⟨p,1,none⟩) hB _;have lG:Hid (aD (w3.setCell ⟨p,1,none⟩ (.bool true)) p 133 (iq 0 true WN 0 0 0 (.slice none 0 0) (.slice none 0 0))):=a3
 have Kk:=hid m0;have Uy:=hid m1;have kM:=hid B3;clear a3 m0 m1 B3 iL sI B4 gD;go_wp2_with fail;refine(HL.out w3).mono ?_;rintro e w4⟨rfl,rfl⟩;go_wp2_with fail;clear p0 c1 f1
 generalize w4.setCell ⟨p,1,none⟩ (.bool true)=Z3 at*;have MS:=Qe.out N O6;have n0:=Kk.out;have n1:=Uy.out;have c4:=lG.out.cell (i:=4) rfl;have c5:=lG.out.cell (i:=5) rfl
 have c6:=lG.out.cell (i:=6) rfl;have f4:=lG.out.frozen 4;have f5:=lG.out.frozen 5;have f6:=lG.out.frozen 6;have hwN:IntKind.i64.wrap (N:Int)=N:=by rw[IntKind.wrap_i64];omega
 have aA:=lG.out.alloc (.cells (Array.replicate N (.int .u64 0)) 65);have FW:=(ic.alloc 0 Z3 (.cells (Array.replicate N (.int .u64 0)) 65)).cell n0;have FV:=(ic.alloc 0 Z3 (.cells (Array.replicate N (.int .u64 0)) 65)).cell n1
 have d4:=aA.cell (i:=4) rfl;have d5:=aA.cell (i:=5) rfl;have d6:=aA.cell (i:=6) rfl;have e4:=aA.frozen 4;have e5:=aA.frozen 5;have e6:=aA.frozen 6;have A5:=hid aA
 obtain⟨g,hg⟩:∃g,Z3.heap.size=g:=⟨_,rfl⟩;have MV:p<g/\gn<g/\B<=g:=⟨by have:=lG.out.lt;omega,by have:=jt n0;simp only at this;omega,by have:=lG.out.lt;omega⟩;have UD:Hid (aD (Z3.alloc (.cells (Array.replicate N (.int .u64 0)) 65)) g 65 (List.replicate N (.int .u64 0))):=by have h:=aD.dT Z3 65 (List.replicate N (.int .u64 0));rw[fc,hg]at h;exact h
 have Bt:Hid (Below B w (Z3.alloc (.cells (Array.replicate N (.int .u64 0)) 65))):=kM.out.alloc (by omega) _;have GD:=hid FW;have Uw:=hid FV;have JY:=hid hg;clear aA hg kM Kk Uy lG
 go_region;rw[JY.out];clear MS n0 n1 c4 c5 c6 f4 f5 f6 d4 d5 d6 e4 e5 e6 FW FV JY;generalize Z3.alloc (.cells (Array.replicate N (.int .u64 0)) 65)=Z4 at*;have nc:Hid (aD (((Z4.setCell ⟨p,4,none⟩ (.int .i64 (r:Int))).setCell ⟨p,5,none⟩ (.int .i64 (c:Int))).setCell ⟨p,6,none⟩ (.slice (some ⟨g,0,none⟩) N N)).drew p 133 (iq 0 true WN 0 r c (.slice (some ⟨g,0,none⟩) N N) (.slice none 0 0))):=((A5.out.set 4 (.int .i64 (r:Int))).set 5 (.int .i64 (c:Int))).set 6 (.slice (some ⟨g,0,none⟩) N N)
 have oW:Hid (Kept (λz=>z=p) Z4 (((Z4.setCell ⟨p,4,none⟩ (.int .i64 (r:Int))).setCell ⟨p,5,none⟩ (.int .i64 (c:Int))).setCell ⟨p,6,none⟩ (.slice (some ⟨g,0,none⟩) N N)).drew):=by have st:∀(W:World)(i:Nat)(v:Value),Kept (λz=>z=p) Z4 W->Kept (λz=>z=p) Z4 (W.setCell ⟨p,i,none⟩ v):=λW i v h=>h.trans (Kept.set (S:=λz=>z=p) rfl v) (λz h=>.inl h);exact(st _ 6 _ (st _ 5 _ (st _ 4 _ (Kept.refl _ _)))).trans (Kept.drewN (S:=λz=>z=p) 1) (λz h=>.inl h)
 go_wp2_with fail;generalize(((Z4.setCell ⟨p,4,none⟩ (.int .i64 (r:Int))).setCell ⟨p,5,none⟩ (.int .i64 (c:Int))).setCell ⟨p,6,none⟩ (.slice (some ⟨g,0,none⟩) N N)).drew=Z5 at*
 have pW:=hid (oW.out.arr UD.out (by omega));have n0:Z5.cell? ⟨gn,0,none⟩=some (.int .i64 (r:Int)):=(World.cell?_of_block (a:=⟨gn,0,none⟩) (oW.out.block gn (jt GD.out) lw)).trans GD.out
 have n1:Z5.cell? ⟨gn,1,none⟩=some (.int .i64 (c:Int)):=(World.cell?_of_block (a:=⟨gn,1,none⟩) (oW.out.block gn (jt GD.out) lw)).trans Uw.out;have mX:Hid (Below B w Z5):=Bt.out.trans (oW.out.below (λz hz=>by rw[hz];exact hB) (by have:=A5.out.lt;omega))
 clear A5 UD Bt GD Uw oW;have hmb:=HMB.out N O6;have c7:=nc.out.cell (i:=7) rfl;have f7:=nc.out.frozen 7;have FW:=(ic.alloc 0 Z5 (.cells (Array.replicate N (.bool false)) 4)).cell n0
 have FV:=(ic.alloc 0 Z5 (.cells (Array.replicate N (.bool false)) 4)).cell n1;have aA:=nc.out.alloc (.cells (Array.replicate N (.bool false)) 4);have d7:=aA.cell (i:=7) rfl
 have e7:=aA.frozen 7;obtain⟨hb,Lt⟩:∃hb,Z5.heap.size=hb:=⟨_,rfl⟩;have hhg:g<hb/\p<hb/\B<=hb:=⟨by have:=pW.out.lt;omega,by have:=nc.out.lt;omega,by have:=nc.out.lt;omega⟩
 have B6:Hid (aD (Z5.alloc (.cells (Array.replicate N (.bool false)) 4)) hb 4 (List.replicate N (.bool false))):=by have h:=aD.dT Z5 4 (List.replicate N (.bool false));rw[fc,Lt]at h;exact h
 have Ai:=hid (pW.out.alloc (.cells (Array.replicate N (.bool false)) 4));have q8:Hid (Below B w (Z5.alloc (.cells (Array.replicate N (.bool false)) 4))):=mX.out.alloc (by omega) _
 have Ko:=hid aA;have Bs:=hid Lt;clear aA Lt pW mX nc;go_region;rw[Bs.out];clear hmb n0 n1 c7 f7 FW FV d7 e7 Bs;generalize Z5.alloc (.cells (Array.replicate N (.bool false)) 4)=Z6 at*
 have a7:aD (Z6.setCell ⟨p,7,none⟩ (.slice (some ⟨hb,0,none⟩) N N)).drew p 133 (iq 0 true WN 0 r c (.slice (some ⟨g,0,none⟩) N N) (.slice (some ⟨hb,0,none⟩) N N)):=Ko.out.set 7 (.slice (some ⟨hb,0,none⟩) N N)
 have g7:aD (Z6.setCell ⟨p,7,none⟩ (.slice (some ⟨hb,0,none⟩) N N)).drew g 65 _:=Ai.out.other _ (by omega);have h7:aD (Z6.setCell ⟨p,7,none⟩ (.slice (some ⟨hb,0,none⟩) N N)).drew hb 4 _:=B6.out.other _ (by omega)
 have B7:Below B w (Z6.setCell ⟨p,7,none⟩ (.slice (some ⟨hb,0,none⟩) N N)).drew:=(q8.out.setCell (p:=⟨p,7,none⟩) hB _).drew;obtain rfl:res=(0,lH.lQ 0 r c (dI 0 r c).length (dI 0 r c) (λ_ _=>0)):=by rw[<-lZ.out,ai];unfold dM;rw[ai (by omega),ai (by omega)];simp
 have ci:Hid (jA B w p (0,lH.lQ 0 r c (dI 0 r c).length (dI 0 r c) (λ_ _=>0)) (.returned (.int .i64 0)) (Z6.setCell ⟨p,7,none⟩ (.slice (some ⟨hb,0,none⟩) N N)).drew):=by refine⟨rfl,B7,λ_=>⟨by omega,by omega,by omega,by omega,0,g,hb,List.replicate N false,?_,by omega,by omega,by omega,by omega,by omega,⟨_,g7,by rw[gQ];exact hN.symm,λi j hi hj=>?_⟩,by rw[oL];exact h7,by rw[gQ];exact hN.symm,by omega,⟨λ_=>⟨by simp,by omega⟩,λh=>by omega⟩⟩⟩;{rw[cA,<-Uo.out,hN];exact a7};{rw[ft,au (by have:=gz hi hj;omega)];rfl}
 clear a7 g7 h7 B7 Ko Ai B6 q8 lZ;go_wp2;go_ret;exact ci.out};{
 have CQ:res=(6,.first):=by rw[<-cS.out];unfold tR;split;{rename_i e;cases e;simp at hlen};{rfl}
 subst CQ;clear HA tX b1 cS hl bp;have xQ:((l.length:Int)==2)=false:=by rw[av];omega
 go_wp2_with fail;refine(HL.out W1).mono ?_;rintro e w2⟨rfl,rfl⟩;go_wp2;go_ret;exact⟨rfl,fQ.out,λh=>by cases h⟩}}
theorem QY(w:World)(p B:Nat)(ao:Option Addr)(n cap:Nat)(ws:List ByteArray)(hn:ws.length=n)(jb:n<=1000000)(dU:∀x∈ws,x.size<=1000000)(mA:gK w ao ws)(h:aD w p 133 (iq 2 false 0 0 0 0 (.slice none 0 0) (.slice none 0 0)))(hB:B<=p):Calls prog 117 #[.pointer (some ⟨p,0,none⟩),.slice ao n cap] w λe w'=>jA B w p (jX 2 false (ws.map (·.data.toList))) e w':=by
 obtain⟨i0,hi,ip,fS,gU⟩:=info_parts Tryz.oT;obtain⟨j0,hj,BJ,Sn,Sl⟩:=info_parts Tryz.uW;have Qe:Hid (∀(N:Nat),N<=1600->∀w:World,(Instr.makeSlice 22 (.int .i64 (N:Int)) (.int .i64 (N:Int))).run prog w=.ok (.slice (some ⟨w.heap.size,0,none⟩) N N) (w.alloc (.cells (Array.replicate N (.int .u64 0)) 65))):=λN hN w=>jh (P:=prog) 22 65 i0 (.int .u64 0) underlying22 hi ip fS rfl N (by rw[gU];omega) (by omega) w
 have HMB:Hid (∀(N:Nat),N<=1600->∀w:World,(Instr.makeSlice 108 (.int .i64 (N:Int)) (.int .i64 (N:Int))).run prog w=.ok (.slice (some ⟨w.heap.size,0,none⟩) N N) (w.alloc (.cells (Array.replicate N (.bool false)) 4))):=λN hN w=>jh (P:=prog) 108 4 j0 (.bool false) underlying108 hj BJ Sn rfl N (by rw[Sl];omega) (by omega) w
 clear hi ip fS gU hj BJ Sn Sl;have S6:=jp w ao n cap ws hn jb dU mA;have tX:=hid S6;have HA:=hid h;have HL:Hid (∀w:World,Calls prog 77 #[.int .i64 2] w λe w'=>e=.returned (.bool true)/\w'=w):=λw=>by simpa using mL w 2
 have HH:Hid (∀w:World,Calls prog 44 #[.int .i64 2] w λe w'=>e=.returned (.bool false)/\w'=w):=λw=>by simpa using lO w 2
 have rR:=h.lt;obtain⟨res,dD⟩:∃res,jX 2 false (ws.map (·.data.toList))=res:=⟨_,rfl⟩;rw[dD];have oD:si 2 (cU (ws.map (·.data.toList)))=res:=dD;have cS:=hid oD;clear S6 h dD oD
 go_enter func117,ntmps117;go_wp2_with fail;refine tX.out.mono ?_;rintro e W1⟨hr,b1⟩;have j6:=hid (HA.out.az b1);have fQ:Hid (Below B w W1):=b1.mono (by omega);have fS:p<W1.heap.size:=j6.out.lt
 rcases hr with⟨ql,rfl⟩|⟨l,v,hl,rfl,bp⟩;{rw[ql]at cS;clear HA tX b1;go_wp2;go_ret;exact⟨by rw[<-cS.out];rfl,fQ.out,λh=>by rw[<-cS.out]at h;cases h⟩};{
 rw[hl]at cS;obtain⟨vo,vn,vc,rfl⟩:∃vo vn vc,v=.slice vo vn vc:=by rcases bp.2 with⟨e,_⟩|⟨g,cap,cE,e,_⟩;{exact⟨_,_,_,e⟩};{exact⟨_,_,_,e⟩}
 have Wp:vn=l.length:=by rcases bp.2 with⟨e,h0⟩|⟨g,cap,cE,e,_⟩;{cases e;exact h0.symm};{cases e;rfl}
 subst Wp;have p0:=j6.out.cell (i:=0) rfl;by_cases hlen:l.length=3;{
 obtain⟨r,c,m,rfl⟩:∃r c m,l=[r,c,m]:=by match l,hlen with|[r,c,m],_=>exact⟨r,c,m,rfl⟩
 obtain⟨gn,rfl⟩:∃gn,vo=some ⟨gn,0,none⟩:=by rcases bp.2 with⟨_,h3⟩|⟨g,cap,cE,e,_⟩;{cases h3};{cases e;exact⟨g,rfl⟩}
 have n0:=bp.cellAt 0 (by simp);have n1:=bp.cellAt 1 (by simp);have n2:=bp.cellAt 2 (by simp);simp[qi]at n0 n1 n2;have hgn:w.heap.size<=gn:=by rcases bp.2 with⟨e,_⟩|⟨g,cap,cE,e,hb,_⟩;{cases e};{cases e;exact hb}
 have CX:gn<W1.heap.size:=jt n0;have lw:gn≠p:=by omega
 have lZ:Hid ((if dM 2 r c≠0 then(dM 2 r c,.first)else if(dI 2 r c).length<m then(10,.first)else(0,lH.lQ 2 r c m (dI 2 r c) (λ_ _=>0)))=res):=cS.out;simp only[aU,cd,cA,Nat.reduceAdd]at hlen⊢
 clear cS hlen hl bp HA tX b1;by_cases Li:40<r;{
 have CS:(40:Int)<r:=by omega
 obtain rfl:res=(8,.first):=by rw[<-lZ.out,show dM 2 r c=8 by unfold dM;rw[au (.inl Li)]];rfl
 clear lZ;go_wp2_with fail;refine(HL.out W1).mono ?_;rintro e w2⟨rfl,rfl⟩;go_wp2;go_ret;exact⟨rfl,fQ.out,λh=>by cases h⟩};have CS:¬(40:Int)<r:=by omega
 by_cases LD:40<c;{
 have C6:(40:Int)<c:=by omega
 obtain rfl:res=(8,.first):=by rw[<-lZ.out,show dM 2 r c=8 by unfold dM;rw[au (.inr LD)]];rfl
 clear lZ;go_wp2_with fail;refine(HL.out W1).mono ?_;rintro e w2⟨rfl,rfl⟩;go_wp2;go_ret;exact⟨rfl,fQ.out,λh=>by cases h⟩};have C6:¬(40:Int)<c:=by omega
 go_wp2_with fail;refine(HL.out W1).mono ?_;rintro e w2⟨rfl,rfl⟩;go_wp2_with fail;go_quiet(first|(go_at_call 44;exact Calls.quiet_of_same (HH.out _)));go_wp2_with fail
 have aZ:aD (w2.drewN nq) p 133 (iq 2 false 0 0 0 0 (.slice none 0 0) (.slice none 0 0)):=j6.out;have RI:(w2.drewN nq).cell? ⟨gn,0,none⟩=some (.int .i64 (r:Int)):=n0
 have RH:(w2.drewN nq).cell? ⟨gn,1,none⟩=some (.int .i64 (c:Int)):=n1;have n2Z:(w2.drewN nq).cell? ⟨gn,2,none⟩=some (.int .i64 (m:Int)):=n2;have BZ:Below B w (w2.drewN nq):=bj fQ.out nq
 have sZ:p<(w2.drewN nq).heap.size:=fS;have gZ:gn<(w2.drewN nq).heap.size:=CX;clear j6 fQ n0 n1 n2 p0 fS CX;generalize w2.drewN nq=Z at*;obtain⟨N,hN⟩:∃N,r*c=N:=⟨_,rfl⟩
 have hNi:(r:Int)*(c:Int)=(N:Int):=by rw[<-hN];push_cast;rfl
 have O6:N<=1600:=by rw[<-hN];exact bI (show r<=40 by omega) (show c<=40 by omega)
 have c2:=aZ.cell (i:=2) rfl;have f2:=aZ.frozen 2;have a1:aD (Z.setCell ⟨p,2,none⟩ (.int .i64 (N:Int))).drew p 133 (iq 2 false N 0 0 0 (.slice none 0 0) (.slice none 0 0)):=aZ.set 2 (.int .i64 (N:Int))
 have m0:(Z.setCell ⟨p,2,none⟩ (.int .i64 (N:Int))).drew.cell? ⟨gn,0,none⟩=some (.int .i64 (r:Int)):=(World.cell?_of_block (a:=⟨gn,0,none⟩) (Below.heap_setCell _ _ _ _ lw)).trans RI
 have m1:(Z.setCell ⟨p,2,none⟩ (.int .i64 (N:Int))).drew.cell? ⟨gn,1,none⟩=some (.int .i64 (c:Int)):=(World.cell?_of_block (a:=⟨gn,1,none⟩) (Below.heap_setCell _ _ _ _ lw)).trans RH
 have XU:(Z.setCell ⟨p,2,none⟩ (.int .i64 (N:Int))).drew.cell? ⟨gn,2,none⟩=some (.int .i64 (m:Int)):=(World.cell?_of_block (a:=⟨gn,2,none⟩) (Below.heap_setCell _ _ _ _ lw)).trans n2Z
 have B1:Below B w (Z.setCell ⟨p,2,none⟩ (.int .i64 (N:Int))).drew:=(BZ.setCell (p:=⟨p,2,none⟩) hB _).drew;have j6:=hid a1;have GW:=hid m0;have yX:=hid m1;have sM:=hid XU
 have fQ:=hid B1;clear a1 m0 m1 XU B1 aZ BZ;go_region;clear RI RH n2Z c2 f2;generalize(Z.setCell ⟨p,2,none⟩ (.int .i64 (N:Int))).drew=Z1 at*;have p0:=j6.out.cell (i:=0) rfl
 go_wp2_with fail;refine(HH.out Z1).mono ?_;rintro e w3⟨rfl,rfl⟩;have iL:=j6;have sI:=GW;have B4:=yX;have Kl:=sM;have gD:=fQ;obtain⟨WN,Td⟩:∃WN,N=WN:=⟨_,rfl⟩;have Uo:Hid (WN=(dI 2 r c).length):=by show _=_;rw[tu (by omega),hN,Td]
 rw[Td]at iL;clear j6 GW yX sM fQ p0 Td;obtain⟨Z2,hZ2⟩:∃Z2,w3=Z2:=⟨_,rfl⟩;subst hZ2;have p0:=iL.out.cell (i:=0) rfl;have p2:=iL.out.cell (i:=2) rfl;have n2:=Kl.out
 go_wp2_with fail;refine(HL.out w3).mono ?_;rintro e w4⟨rfl,rfl⟩;go_wp2_with fail;by_cases Yk:WN<m;{
 have aad:(WN:Int)<m:=by omega
 obtain rfl:res=(10,.first):=by rw[<-lZ.out,ai (by unfold dM;rw[ai (by omega),ai (by omega)];simp),au (by rw[<-Uo.out];exact Yk)]
 clear lZ;go_quiet(fail);go_wp2;go_ret;exact⟨rfl,bj gD.out _,λh=>by cases h⟩};have aad:¬(WN:Int)<m:=by omega
 go_quiet(fail);have aQ:aD (w4.drewN nq) p 133 (iq 2 false WN 0 0 0 (.slice none 0 0) (.slice none 0 0)):=iL.out;have r0:(w4.drewN nq).cell? ⟨gn,0,none⟩=some (.int .i64 (r:Int)):=sI.out
 have r1:(w4.drewN nq).cell? ⟨gn,1,none⟩=some (.int .i64 (c:Int)):=B4.out;have r2:(w4.drewN nq).cell? ⟨gn,2,none⟩=some (.int .i64 (m:Int)):=Kl.out;have BQ:Below B w (w4.drewN nq):=bj gD.out nq
 clear p0 p2 n2 iL sI B4 Kl gD;generalize w4.drewN nq=Z9 at*;have c2:=aQ.cell (i:=2) rfl;have f2:=aQ.frozen 2;have a9:=aQ.set 2 (.int .i64 (m:Int));have iL:Hid (aD (Z9.setCell ⟨p,2,none⟩ (.int .i64 (m:Int))) p 133 (iq 2 false m 0 0 0 (.slice none 0 0) (.slice none 0 0))):=a9
 have sI:Hid ((Z9.setCell ⟨p,2,none⟩ (.int .i64 (m:Int))).cell? ⟨gn,0,none⟩=some (.int .i64 (r:Int))):=(World.cell?_of_block (a:=⟨gn,0,none⟩) (Below.heap_setCell _ _ _ _ lw)).trans r0
 have B4:Hid ((Z9.setCell ⟨p,2,none⟩ (.int .i64 (m:Int))).cell? ⟨gn,1,none⟩=some (.int .i64 (c:Int))):=(World.cell?_of_block (a:=⟨gn,1,none⟩) (Below.heap_setCell _ _ _ _ lw)).trans r1
 have gD:Hid (Below B w (Z9.setCell ⟨p,2,none⟩ (.int .i64 (m:Int)))):=BQ.setCell (p:=⟨p,2,none⟩) hB _;have c1:(Z9.setCell ⟨p,2,none⟩ (.int .i64 (m:Int))).cell? ⟨p,1,none⟩=some (.bool false):=a9.cell (i:=1) rfl
 have f1:(Z9.setCell ⟨p,2,none⟩ (.int .i64 (m:Int))).frozen? ⟨p,1,none⟩=false:=a9.frozen 1;have a3:=iL.out.set 1 (.bool true);have m0:((Z9.setCell ⟨p,2,none⟩ (.int .i64 (m:Int))).setCell ⟨p,1,none⟩ (.bool true)).cell? ⟨gn,0,none⟩=some (.int .i64 (r:Int)):=(World.cell?_of_block (a:=⟨gn,0,none⟩) (Below.heap_setCell _ _ _ _ lw)).trans sI.out
 have m1:((Z9.setCell ⟨p,2,none⟩ (.int .i64 (m:Int))).setCell ⟨p,1,none⟩ (.bool true)).cell? ⟨gn,1,none⟩=some (.int .i64 (c:Int)):=(World.cell?_of_block (a:=⟨gn,1,none⟩) (Below.heap_setCell _ _ _ _ lw)).trans B4.out
 have B3:Below B w ((Z9.setCell ⟨p,2,none⟩ (.int .i64 (m:Int))).setCell ⟨p,1,none⟩ (.bool true)):=gD.out.setCell (p:=⟨p,1,none⟩) hB _;have lG:Hid (aD ((Z9.setCell ⟨p,2,none⟩ (.int .i64 (m:Int))).setCell ⟨p,1,none⟩ (.bool true)) p 133 (iq 2 true m 0 0 0 (.slice none 0 0) (.slice none 0 0))):=a3
 have Kk:=hid m0;have Uy:=hid m1;have kM:=hid B3;clear a3 a9 aQ m0 m1 B3 BQ iL sI B4 gD;have n2q:=r2;clear r0 r1;go_wp2_with fail;clear c1 f1 c2 f2 n2q r2;generalize(Z9.setCell ⟨p,2,none⟩ (.int .i64 (m:Int))).setCell ⟨p,1,none⟩ (.bool true)=Z3 at*
 have MS:=Qe.out N O6;have n0:=Kk.out;have n1:=Uy.out;have c4:=lG.out.cell (i:=4) rfl;have c5:=lG.out.cell (i:=5) rfl;have c6:=lG.out.cell (i:=6) rfl;have f4:=lG.out.frozen 4
 have f5:=lG.out.frozen 5;have f6:=lG.out.frozen 6;have hwN:IntKind.i64.wrap (N:Int)=N:=by rw[IntKind.wrap_i64];omega
 have aA:=lG.out.alloc (.cells (Array.replicate N (.int .u64 0)) 65);have FW:=(ic.alloc 0 Z3 (.cells (Array.replicate N (.int .u64 0)) 65)).cell n0;have FV:=(ic.alloc 0 Z3 (.cells (Array.replicate N (.int .u64 0)) 65)).cell n1
 have d4:=aA.cell (i:=4) rfl;have d5:=aA.cell (i:=5) rfl;have d6:=aA.cell (i:=6) rfl;have e4:=aA.frozen 4;have e5:=aA.frozen 5;have e6:=aA.frozen 6;have A5:=hid aA
 obtain⟨g,hg⟩:∃g,Z3.heap.size=g:=⟨_,rfl⟩;have MV:p<g/\gn<g/\B<=g:=⟨by have:=lG.out.lt;omega,by have:=jt n0;simp only at this;omega,by have:=lG.out.lt;omega⟩;have UD:Hid (aD (Z3.alloc (.cells (Array.replicate N (.int .u64 0)) 65)) g 65 (List.replicate N (.int .u64 0))):=by have h:=aD.dT Z3 65 (List.replicate N (.int .u64 0));rw[fc,hg]at h;exact h
 have Bt:Hid (Below B w (Z3.alloc (.cells (Array.replicate N (.int .u64 0)) 65))):=kM.out.alloc (by omega) _;have GD:=hid FW;have Uw:=hid FV;have JY:=hid hg;clear aA hg kM Kk Uy lG
 go_region;rw[JY.out];clear MS n0 n1 c4 c5 c6 f4 f5 f6 d4 d5 d6 e4 e5 e6 FW FV JY;generalize Z3.alloc (.cells (Array.replicate N (.int .u64 0)) 65)=Z4 at*;have nc:Hid (aD (((Z4.setCell ⟨p,4,none⟩ (.int .i64 (r:Int))).setCell ⟨p,5,none⟩ (.int .i64 (c:Int))).setCell ⟨p,6,none⟩ (.slice (some ⟨g,0,none⟩) N N)).drew p 133 (iq 2 true m 0 r c (.slice (some ⟨g,0,none⟩) N N) (.slice none 0 0))):=((A5.out.set 4 (.int .i64 (r:Int))).set 5 (.int .i64 (c:Int))).set 6 (.slice (some ⟨g,0,none⟩) N N)
 have oW:Hid (Kept (λz=>z=p) Z4 (((Z4.setCell ⟨p,4,none⟩ (.int .i64 (r:Int))).setCell ⟨p,5,none⟩ (.int .i64 (c:Int))).setCell ⟨p,6,none⟩ (.slice (some ⟨g,0,none⟩) N N)).drew):=by have st:∀(W:World)(i:Nat)(v:Value),Kept (λz=>z=p) Z4 W->Kept (λz=>z=p) Z4 (W.setCell ⟨p,i,none⟩ v):=λW i v h=>h.trans (Kept.set (S:=λz=>z=p) rfl v) (λz h=>.inl h);exact(st _ 6 _ (st _ 5 _ (st _ 4 _ (Kept.refl _ _)))).trans (Kept.drewN (S:=λz=>z=p) 1) (λz h=>.inl h)
 go_wp2_with fail;generalize(((Z4.setCell ⟨p,4,none⟩ (.int .i64 (r:Int))).setCell ⟨p,5,none⟩ (.int .i64 (c:Int))).setCell ⟨p,6,none⟩ (.slice (some ⟨g,0,none⟩) N N)).drew=Z5 at*
 have pW:=hid (oW.out.arr UD.out (by omega));have n0:Z5.cell? ⟨gn,0,none⟩=some (.int .i64 (r:Int)):=(World.cell?_of_block (a:=⟨gn,0,none⟩) (oW.out.block gn (jt GD.out) lw)).trans GD.out
 have n1:Z5.cell? ⟨gn,1,none⟩=some (.int .i64 (c:Int)):=(World.cell?_of_block (a:=⟨gn,1,none⟩) (oW.out.block gn (jt GD.out) lw)).trans Uw.out;have mX:Hid (Below B w Z5):=Bt.out.trans (oW.out.below (λz hz=>by rw[hz];exact hB) (by have:=A5.out.lt;omega))
 clear A5 UD Bt GD Uw oW;have hmb:=HMB.out N O6;have c7:=nc.out.cell (i:=7) rfl;have f7:=nc.out.frozen 7;have FW:=(ic.alloc 0 Z5 (.cells (Array.replicate N (.bool false)) 4)).cell n0
 have FV:=(ic.alloc 0 Z5 (.cells (Array.replicate N (.bool false)) 4)).cell n1;have aA:=nc.out.alloc (.cells (Array.replicate N (.bool false)) 4);have d7:=aA.cell (i:=7) rfl
 have e7:=aA.frozen 7;obtain⟨hb,Lt⟩:∃hb,Z5.heap.size=hb:=⟨_,rfl⟩;have hhg:g<hb/\p<hb/\B<=hb:=⟨by have:=pW.out.lt;omega,by have:=nc.out.lt;omega,by have:=nc.out.lt;omega⟩
 have B6:Hid (aD (Z5.alloc (.cells (Array.replicate N (.bool false)) 4)) hb 4 (List.replicate N (.bool false))):=by have h:=aD.dT Z5 4 (List.replicate N (.bool false));rw[fc,Lt]at h;exact h
 have Ai:=hid (pW.out.alloc (.cells (Array.replicate N (.bool false)) 4));have q8:Hid (Below B w (Z5.alloc (.cells (Array.replicate N (.bool false)) 4))):=mX.out.alloc (by omega) _
 have Ko:=hid aA;have Bs:=hid Lt;clear aA Lt pW mX nc;go_region;rw[Bs.out];clear hmb n0 n1 c7 f7 FW FV d7 e7 Bs;generalize Z5.alloc (.cells (Array.replicate N (.bool false)) 4)=Z6 at*
 have a7:aD (Z6.setCell ⟨p,7,none⟩ (.slice (some ⟨hb,0,none⟩) N N)).drew p 133 (iq 2 true m 0 r c (.slice (some ⟨g,0,none⟩) N N) (.slice (some ⟨hb,0,none⟩) N N)):=Ko.out.set 7 (.slice (some ⟨hb,0,none⟩) N N)
 have g7:aD (Z6.setCell ⟨p,7,none⟩ (.slice (some ⟨hb,0,none⟩) N N)).drew g 65 _:=Ai.out.other _ (by omega);have h7:aD (Z6.setCell ⟨p,7,none⟩ (.slice (some ⟨hb,0,none⟩) N N)).drew hb 4 _:=B6.out.other _ (by omega)
 have B7:Below B w (Z6.setCell ⟨p,7,none⟩ (.slice (some ⟨hb,0,none⟩) N N)).drew:=(q8.out.setCell (p:=⟨p,7,none⟩) hB _).drew;obtain rfl:res=(0,lH.lQ 2 r c m (dI 2 r c) (λ_ _=>0)):=by rw[<-lZ.out,ai (by unfold dM;rw[ai (by omega),ai (by omega)];simp),ai (by rw[<-Uo.out];exact Yk)]
 have ci:Hid (jA B w p (0,lH.lQ 2 r c m (dI 2 r c) (λ_ _=>0)) (.returned (.int .i64 0)) (Z6.setCell ⟨p,7,none⟩ (.slice (some ⟨hb,0,none⟩) N N)).drew):=by refine⟨rfl,B7,λ_=>⟨by omega,by omega,by omega,by omega,0,g,hb,List.replicate N false,?_,by omega,by omega,by omega,by omega,by omega,⟨_,g7,by rw[gQ];exact hN.symm,λi j hi hj=>?_⟩,by rw[oL];exact h7,by rw[gQ];exact hN.symm,by have:=Uo.out;omega,⟨λh=>by omega,λ_=>⟨EU (by omega),λi j=>?_⟩⟩⟩⟩;{rw[cA,hN];exact a7};{rw[ft,au (by have:=gz hi hj;omega)];rfl};{rw[BC (by omega)];constructor;{rintro⟨h1,h2,h3⟩;exact⟨h1,h2,λh=>h3 (.inr h),by rw[ft,au (by have:=gz h1 h2;omega)]⟩};{rintro⟨h1,h2,h3,_⟩;exact⟨h1,h2,λh=>h3 (by omega)⟩}}
 clear a7 g7 h7 B7 Ko Ai B6 q8 lZ;go_wp2;go_ret;exact ci.out};{
 have CQ:res=(6,.first):=by rw[<-cS.out];unfold si;split;{rename_i e;cases e;simp at hlen};{rfl}
 subst CQ;clear HA tX b1 cS hl bp;have xQ:((l.length:Int)==3)=false:=by rw[av];omega
 by_cases pX:l.length=2;{(have aam:(l.length:Int)=2:=by omega);go_wp2_with fail;refine(HL.out W1).mono ?_;rintro e w2⟨rfl,rfl⟩;go_wp2;go_ret;exact⟨rfl,fQ.out,λh=>by cases h⟩}
 {(have aam:((l.length:Int)==2)=false:=by rw[av];omega);go_wp2_with fail;refine(HL.out W1).mono ?_;rintro e w2⟨rfl,rfl⟩;go_wp2_with fail;refine(HL.out w2).mono ?_;rintro e w3⟨rfl,rfl⟩;go_wp2;go_ret;exact⟨rfl,fQ.out,λh=>by cases h⟩}}}
end Go.Proofs.YthdcceackfdbbaaGreatDoor
