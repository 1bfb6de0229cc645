import Derived.Test.YthdcceackfdbbaaGreatDoorS30A
import Derived.Test.YthdcceackfdbbaaGreatDoorS31A
set_option linter.unusedSimpArgs false
set_option maxRecDepth 20000
set_option maxHeartbeats 2000000
open Go.RowKit Go.Proofs.Tryz
namespace Go.Proofs.YthdcceackfdbbaaGreatDoor
theorem QX(w:World)(p B:Nat)(ao:Option Addr)(n cap:Nat)(ws:List ByteArray)(hn:ws.length=n)(jb:n<=1000000)(dU:∀x∈ws,x.size<=1000000)(mA:gK w ao ws)(h:aD w p 133 (iq 3 false 0 0 0 0 (.slice none 0 0) (.slice none 0 0)))(hB:B<=p):Calls prog 117 #[.pointer (some ⟨p,0,none⟩),.slice ao n cap] w λe w'=>jA B w p (jX 3 false (ws.map (·.data.toList))) e w':=by
 obtain⟨i0,hi,ip,fS,gU⟩:=info_parts Tryz.oT;obtain⟨j0,hj,BJ,Sn,Sl⟩:=info_parts Tryz.uW;have Qe:Hid (∀(N:Nat),N<=1600->∀w:World,(Instr.makeSlice 22 (.int .i64 (N:Int)) (.int .i64 (N:Int))).run prog w=.ok (.slice (some ⟨w.heap.size,0,none⟩) N N) (w.alloc (.cells (Array.replicate N (.int .u64 0)) 65))):=λN hN w=>jh (P:=prog) 22 65 i0 (.int .u64 0) underlying22 hi ip fS rfl N (by rw[gU];omega) (by omega) w
 have HMB:Hid (∀(N:Nat),N<=1600->∀w:World,(Instr.makeSlice 108 (.int .i64 (N:Int)) (.int .i64 (N:Int))).run prog w=.ok (.slice (some ⟨w.heap.size,0,none⟩) N N) (w.alloc (.cells (Array.replicate N (.bool false)) 4))):=λN hN w=>jh (P:=prog) 108 4 j0 (.bool false) underlying108 hj BJ Sn rfl N (by rw[Sl];omega) (by omega) w
 clear hi ip fS gU hj BJ Sn Sl;have S6:=jp w ao n cap ws hn jb dU mA;have tX:=hid S6;have HA:=hid h;have HL:Hid (∀w:World,Calls prog 77 #[.int .i64 3] w λe w'=>e=.returned (.bool true)/\w'=w):=λw=>by simpa using mL w 3
 have HH:Hid (∀w:World,Calls prog 44 #[.int .i64 3] w λe w'=>e=.returned (.bool true)/\w'=w):=λw=>by simpa using lO w 3
 have rR:=h.lt;obtain⟨res,dD⟩:∃res,jX 3 false (ws.map (·.data.toList))=res:=⟨_,rfl⟩;rw[dD];have oD:si 3 (cU (ws.map (·.data.toList)))=res:=dD;have cS:=hid oD;clear S6 h dD oD
 go_enter func117,ntmps117;go_wp2_with fail;refine tX.out.mono ?_;rintro e W1⟨hr,b1⟩;have j6:=hid (HA.out.az b1);have fQ:Hid (Below B w W1):=b1.mono (by omega);have fS:p<W1.heap.size:=j6.out.lt
 rcases hr with⟨ql,rfl⟩|⟨l,v,hl,rfl,bp⟩;{rw[ql]at cS;clear HA tX b1;go_wp2;go_ret;exact⟨by rw[<-cS.out];rfl,fQ.out,λh=>by rw[<-cS.out]at h;cases h⟩};{
 rw[hl]at cS;obtain⟨vo,vn,vc,rfl⟩:∃vo vn vc,v=.slice vo vn vc:=by rcases bp.2 with⟨e,_⟩|⟨g,cap,cE,e,_⟩;{exact⟨_,_,_,e⟩};{exact⟨_,_,_,e⟩}
 have Wp:vn=l.length:=by rcases bp.2 with⟨e,h0⟩|⟨g,cap,cE,e,_⟩;{cases e;exact h0.symm};{cases e;rfl}
 subst Wp;have p0:=j6.out.cell (i:=0) rfl;by_cases hlen:l.length=3;{
 obtain⟨r,c,m,rfl⟩:∃r c m,l=[r,c,m]:=by match l,hlen with|[r,c,m],_=>exact⟨r,c,m,rfl⟩
 obtain⟨gn,rfl⟩:∃gn,vo=some ⟨gn,0,none⟩:=by rcases bp.2 with⟨_,h3⟩|⟨g,cap,cE,e,_⟩;{cases h3};{cases e;exact⟨g,rfl⟩}
 have n0:=bp.cellAt 0 (by simp);have n1:=bp.cellAt 1 (by simp);have n2:=bp.cellAt 2 (by simp);simp[qi]at n0 n1 n2;have hgn:w.heap.size<=gn:=by rcases bp.2 with⟨e,_⟩|⟨g,cap,cE,e,hb,_⟩;{cases e};{cases e;exact hb}
 have CX:gn<W1.heap.size:=jt n0;have lw:gn≠p:=by omega
 have lZ:Hid ((if dM 3 r c≠0 then(dM 3 r c,.first)else if(dI 3 r c).length<m then(10,.first)else(0,lH.lQ 3 r c m (dI 3 r c) (λ_ _=>0)))=res):=cS.out;simp only[aU,cd,cA,Nat.reduceAdd]at hlen⊢
 clear cS hlen hl bp HA tX b1;by_cases Li:40<r;{
 have CS:(40:Int)<r:=by omega
 obtain rfl:res=(8,.first):=by rw[<-lZ.out,show dM 3 r c=8 by unfold dM;rw[au (.inl Li)]];rfl
 clear lZ;go_wp2_with fail;refine(HL.out W1).mono ?_;rintro e w2⟨rfl,rfl⟩;go_wp2;go_ret;exact⟨rfl,fQ.out,λh=>by cases h⟩};have CS:¬(40:Int)<r:=by omega
 by_cases LD:40<c;{
 have C6:(40:Int)<c:=by omega
 obtain rfl:res=(8,.first):=by rw[<-lZ.out,show dM 3 r c=8 by unfold dM;rw[au (.inr LD)]];rfl
 clear lZ;go_wp2_with fail;refine(HL.out W1).mono ?_;rintro e w2⟨rfl,rfl⟩;go_wp2;go_ret;exact⟨rfl,fQ.out,λh=>by cases h⟩};have C6:¬(40:Int)<c:=by omega
 go_wp2_with fail;refine(HL.out W1).mono ?_;rintro e w2⟨rfl,rfl⟩;go_wp2_with fail;by_cases yG:r=c;{
 subst yG;go_quiet(first|(go_at_call 44;exact Calls.quiet_of_same (HH.out _)));go_wp2_with fail;have aZ:aD (w2.drewN nq) p 133 (iq 3 false 0 0 0 0 (.slice none 0 0) (.slice none 0 0)):=j6.out
 have RI:(w2.drewN nq).cell? ⟨gn,0,none⟩=some (.int .i64 (r:Int)):=n0;have RH:(w2.drewN nq).cell? ⟨gn,1,none⟩=some (.int .i64 (r:Int)):=n1;have n2Z:(w2.drewN nq).cell? ⟨gn,2,none⟩=some (.int .i64 (m:Int)):=n2
 have BZ:Below B w (w2.drewN nq):=bj fQ.out nq;have sZ:p<(w2.drewN nq).heap.size:=fS;have gZ:gn<(w2.drewN nq).heap.size:=CX;clear j6 fQ n0 n1 n2 p0 fS CX;generalize w2.drewN nq=Z at*
 obtain⟨N,hN⟩:∃N,r*r=N:=⟨_,rfl⟩;have hNi:(r:Int)*(r:Int)=(N:Int):=by rw[<-hN];push_cast;rfl
 have O6:N<=1600:=by rw[<-hN];exact bI (show r<=40 by omega) (show r<=40 by omega)
 have c2:=aZ.cell (i:=2) rfl;have f2:=aZ.frozen 2;have a1:aD (Z.setCell ⟨p,2,none⟩ (.int .i64 (N:Int))).drew p 133 (iq 3 false N 0 0 0 (.slice none 0 0) (.slice none 0 0)):=aZ.set 2 (.int .i64 (N:Int))
 have m0:(Z.setCell ⟨p,2,none⟩ (.int .i64 (N:Int))).drew.cell? ⟨gn,0,none⟩=some (.int .i64 (r:Int)):=(World.cell?_of_block (a:=⟨gn,0,none⟩) (Below.heap_setCell _ _ _ _ lw)).trans RI
 have m1:(Z.setCell ⟨p,2,none⟩ (.int .i64 (N:Int))).drew.cell? ⟨gn,1,none⟩=some (.int .i64 (r:Int)):=(World.cell?_of_block (a:=⟨gn,1,none⟩) (Below.heap_setCell _ _ _ _ lw)).trans RH
 have XU:(Z.setCell ⟨p,2,none⟩ (.int .i64 (N:Int))).drew.cell? ⟨gn,2,none⟩=some (.int .i64 (m:Int)):=(World.cell?_of_block (a:=⟨gn,2,none⟩) (Below.heap_setCell _ _ _ _ lw)).trans n2Z
 have B1:Below B w (Z.setCell ⟨p,2,none⟩ (.int .i64 (N:Int))).drew:=(BZ.setCell (p:=⟨p,2,none⟩) hB _).drew;have j6:=hid a1;have GW:=hid m0;have yX:=hid m1;have sM:=hid XU
 have fQ:=hid B1;clear a1 m0 m1 XU B1 aZ BZ;go_region;clear RI RH n2Z c2 f2;generalize(Z.setCell ⟨p,2,none⟩ (.int .i64 (N:Int))).drew=Z1 at*;have p0:=j6.out.cell (i:=0) rfl
 go_wp2_with fail;refine(HH.out Z1).mono ?_;rintro e w3⟨rfl,rfl⟩;obtain⟨M2,M7⟩:∃M2,r*(r+1)=M2:=⟨_,rfl⟩;have aeD:(r:Int)*((r:Int)+1)=(M2:Int):=by rw[<-M7];push_cast;rfl
 have aeE:M2<=1640:=by rw[<-M7];exact bI (show r<=40 by omega) (show r+1<=41 by omega)
 obtain⟨WN,Td⟩:∃WN,M2/2=WN:=⟨_,rfl⟩;have aaB:(M2:Int)/2=(WN:Int):=by omega
 have aev:(M2:Int).tdiv 2=(WN:Int):=by rw[Vt (by omega)];exact aaB
 have Uo:Hid (WN=(dI 3 r r).length):=by show _=_;rw[tr (by omega) (by omega),M7,Td]
 have c2:=j6.out.cell (i:=2) rfl;have f2:=j6.out.frozen 2;have k0:=GW.out;have a2:aD (w3.setCell ⟨p,2,none⟩ (.int .i64 (WN:Int))).drew p 133 (iq 3 false WN 0 0 0 (.slice none 0 0) (.slice none 0 0)):=j6.out.set 2 (.int .i64 (WN:Int))
 have m0:(w3.setCell ⟨p,2,none⟩ (.int .i64 (WN:Int))).drew.cell? ⟨gn,0,none⟩=some (.int .i64 (r:Int)):=(World.cell?_of_block (a:=⟨gn,0,none⟩) (Below.heap_setCell _ _ _ _ lw)).trans GW.out
 have m1:(w3.setCell ⟨p,2,none⟩ (.int .i64 (WN:Int))).drew.cell? ⟨gn,1,none⟩=some (.int .i64 (r:Int)):=(World.cell?_of_block (a:=⟨gn,1,none⟩) (Below.heap_setCell _ _ _ _ lw)).trans yX.out
 have XU:(w3.setCell ⟨p,2,none⟩ (.int .i64 (WN:Int))).drew.cell? ⟨gn,2,none⟩=some (.int .i64 (m:Int)):=(World.cell?_of_block (a:=⟨gn,2,none⟩) (Below.heap_setCell _ _ _ _ lw)).trans sM.out
 have B2:Below B w (w3.setCell ⟨p,2,none⟩ (.int .i64 (WN:Int))).drew:=(fQ.out.setCell (p:=⟨p,2,none⟩) hB _).drew;have iL:=hid a2;have sI:=hid m0;have B4:=hid m1
 have Kl:=hid XU;have gD:=hid B2;clear a2 m0 m1 XU B2 j6 GW yX sM fQ;go_wp2_with fail;go_region;clear c2 f2 k0 p0;generalize(w3.setCell ⟨p,2,none⟩ (.int .i64 (WN:Int))).drew=Z2 at*
 have p0:=iL.out.cell (i:=0) rfl;have p2:=iL.out.cell (i:=2) rfl;have n2:=Kl.out;go_wp2_with fail;refine(HL.out Z2).mono ?_;rintro e w4⟨rfl,rfl⟩;go_wp2_with fail
 by_cases Yk:WN<m;{
 have aad:(WN:Int)<m:=by omega
 obtain rfl:res=(10,.first):=by rw[<-lZ.out,ai (by unfold dM;rw[ai (by omega),ai (by omega)];simp),au (by rw[<-Uo.out];exact Yk)]
 clear lZ;go_quiet(fail);go_wp2;go_ret;exact⟨rfl,bj gD.out _,λh=>by cases h⟩};have aad:¬(WN:Int)<m:=by omega
 go_quiet(fail);have aQ:aD (w4.drewN nq) p 133 (iq 3 false WN 0 0 0 (.slice none 0 0) (.slice none 0 0)):=iL.out;have r0:(w4.drewN nq).cell? ⟨gn,0,none⟩=some (.int .i64 (r:Int)):=sI.out
 have r1:(w4.drewN nq).cell? ⟨gn,1,none⟩=some (.int .i64 (r:Int)):=B4.out;have r2:(w4.drewN nq).cell? ⟨gn,2,none⟩=some (.int .i64 (m:Int)):=Kl.out;have BQ:Below B w (w4.drewN nq):=bj gD.out nq
 clear p0 p2 n2 iL sI B4 Kl gD;generalize w4.drewN nq=Z9 at*;have c2:=aQ.cell (i:=2) rfl;have f2:=aQ.frozen 2;have a9:=aQ.set 2 (.int .i64 (m:Int));have iL:Hid (aD (Z9.setCell ⟨p,2,none⟩ (.int .i64 (m:Int))) p 133 (iq 3 false m 0 0 0 (.slice none 0 0) (.slice none 0 0))):=a9
 have sI:Hid ((Z9.setCell ⟨p,2,none⟩ (.int .i64 (m:Int))).cell? ⟨gn,0,none⟩=some (.int .i64 (r:Int))):=(World.cell?_of_block (a:=⟨gn,0,none⟩) (Below.heap_setCell _ _ _ _ lw)).trans r0
 have B4:Hid ((Z9.setCell ⟨p,2,none⟩ (.int .i64 (m:Int))).cell? ⟨gn,1,none⟩=some (.int .i64 (r:Int))):=(World.cell?_of_block (a:=⟨gn,1,none⟩) (Below.heap_setCell _ _ _ _ lw)).trans r1
 have gD:Hid (Below B w (Z9.setCell ⟨p,2,none⟩ (.int .i64 (m:Int)))):=BQ.setCell (p:=⟨p,2,none⟩) hB _;have c1:(Z9.setCell ⟨p,2,none⟩ (.int .i64 (m:Int))).cell? ⟨p,1,none⟩=some (.bool false):=a9.cell (i:=1) rfl
 have f1:(Z9.setCell ⟨p,2,none⟩ (.int .i64 (m:Int))).frozen? ⟨p,1,none⟩=false:=a9.frozen 1;have a3:=iL.out.set 1 (.bool true);have m0:((Z9.setCell ⟨p,2,none⟩ (.int .i64 (m:Int))).setCell ⟨p,1,none⟩ (.bool true)).cell? ⟨gn,0,none⟩=some (.int .i64 (r:Int)):=(World.cell?_of_block (a:=⟨gn,0,none⟩) (Below.heap_setCell _ _ _ _ lw)).trans sI.out
 have m1:((Z9.setCell ⟨p,2,none⟩ (.int .i64 (m:Int))).setCell ⟨p,1,none⟩ (.bool true)).cell? ⟨gn,1,none⟩=some (.int .i64 (r:Int)):=(World.cell?_of_block (a:=⟨gn,1,none⟩) (Below.heap_setCell _ _ _ _ lw)).trans B4.out
 have B3:Below B w ((Z9.setCell ⟨p,2,none⟩ (.int .i64 (m:Int))).setCell ⟨p,1,none⟩ (.bool true)):=gD.out.setCell (p:=⟨p,1,none⟩) hB _;have lG:Hid (aD ((Z9.setCell ⟨p,2,none⟩ (.int .i64 (m:Int))).setCell ⟨p,1,none⟩ (.bool true)) p 133 (iq 3 true m 0 0 0 (.slice none 0 0) (.slice none 0 0))):=a3
 have Kk:=hid m0;have Uy:=hid m1;have kM:=hid B3;clear a3 a9 aQ m0 m1 B3 BQ iL sI B4 gD;have n2q:=r2;clear r0 r1;go_wp2_with fail;clear c1 f1 c2 f2 n2q r2;generalize(Z9.setCell ⟨p,2,none⟩ (.int .i64 (m:Int))).setCell ⟨p,1,none⟩ (.bool true)=Z3 at*
 have MS:=Qe.out N O6;have n0:=Kk.out;have n1:=Uy.out;have c4:=lG.out.cell (i:=4) rfl;have c5:=lG.out.cell (i:=5) rfl;have c6:=lG.out.cell (i:=6) rfl;have f4:=lG.out.frozen 4
 have f5:=lG.out.frozen 5;have f6:=lG.out.frozen 6;have hwN:IntKind.i64.wrap (N:Int)=N:=by rw[IntKind.wrap_i64];omega
 have aA:=lG.out.alloc (.cells (Array.replicate N (.int .u64 0)) 65);have FW:=(ic.alloc 0 Z3 (.cells (Array.replicate N (.int .u64 0)) 65)).cell n0;have FV:=(ic.alloc 0 Z3 (.cells (Array.replicate N (.int .u64 0)) 65)).cell n1
 have d4:=aA.cell (i:=4) rfl;have d5:=aA.cell (i:=5) rfl;have d6:=aA.cell (i:=6) rfl;have e4:=aA.frozen 4;have e5:=aA.frozen 5;have e6:=aA.frozen 6;have A5:=hid aA
 obtain⟨g,hg⟩:∃g,Z3.heap.size=g:=⟨_,rfl⟩;have MV:p<g/\gn<g/\B<=g:=⟨by have:=lG.out.lt;omega,by have:=jt n0;simp only at this;omega,by have:=lG.out.lt;omega⟩;have UD:Hid (aD (Z3.alloc (.cells (Array.replicate N (.int .u64 0)) 65)) g 65 (List.replicate N (.int .u64 0))):=by have h:=aD.dT Z3 65 (List.replicate N (.int .u64 0));rw[fc,hg]at h;exact h
 have Bt:Hid (Below B w (Z3.alloc (.cells (Array.replicate N (.int .u64 0)) 65))):=kM.out.alloc (by omega) _;have GD:=hid FW;have Uw:=hid FV;have JY:=hid hg;clear aA hg kM Kk Uy lG
 go_region;rw[JY.out];clear MS n0 n1 c4 c5 c6 f4 f5 f6 d4 d5 d6 e4 e5 e6 FW FV JY;generalize Z3.alloc (.cells (Array.replicate N (.int .u64 0)) 65)=Z4 at*;have nc:Hid (aD (((Z4.setCell ⟨p,4,none⟩ (.int .i64 (r:Int))).setCell ⟨p,5,none⟩ (.int .i64 (r:Int))).setCell ⟨p,6,none⟩ (.slice (some ⟨g,0,none⟩) N N)).drew p 133 (iq 3 true m 0 r r (.slice (some ⟨g,0,none⟩) N N) (.slice none 0 0))):=((A5.out.set 4 (.int .i64 (r:Int))).set 5 (.int .i64 (r:Int))).set 6 (.slice (some ⟨g,0,none⟩) N N)
 have oW:Hid (Kept (λz=>z=p) Z4 (((Z4.setCell ⟨p,4,none⟩ (.int .i64 (r:Int))).setCell ⟨p,5,none⟩ (.int .i64 (r:Int))).setCell ⟨p,6,none⟩ (.slice (some ⟨g,0,none⟩) N N)).drew):=by have st:∀(W:World)(i:Nat)(v:Value),Kept (λz=>z=p) Z4 W->Kept (λz=>z=p) Z4 (W.setCell ⟨p,i,none⟩ v):=λW i v h=>h.trans (Kept.set (S:=λz=>z=p) rfl v) (λz h=>.inl h);exact(st _ 6 _ (st _ 5 _ (st _ 4 _ (Kept.refl _ _)))).trans (Kept.drewN (S:=λz=>z=p) 1) (λz h=>.inl h)
 go_wp2_with fail;generalize(((Z4.setCell ⟨p,4,none⟩ (.int .i64 (r:Int))).setCell ⟨p,5,none⟩ (.int .i64 (r:Int))).setCell ⟨p,6,none⟩ (.slice (some ⟨g,0,none⟩) N N)).drew=Z5 at*
 have pW:=hid (oW.out.arr UD.out (by omega));have n0:Z5.cell? ⟨gn,0,none⟩=some (.int .i64 (r:Int)):=(World.cell?_of_block (a:=⟨gn,0,none⟩) (oW.out.block gn (jt GD.out) lw)).trans GD.out
 have n1:Z5.cell? ⟨gn,1,none⟩=some (.int .i64 (r:Int)):=(World.cell?_of_block (a:=⟨gn,1,none⟩) (oW.out.block gn (jt GD.out) lw)).trans Uw.out;have mX:Hid (Below B w Z5):=Bt.out.trans (oW.out.below (λz hz=>by rw[hz];exact hB) (by have:=A5.out.lt;omega))
 clear A5 UD Bt GD Uw oW;have hmb:=HMB.out N O6;have c7:=nc.out.cell (i:=7) rfl;have f7:=nc.out.frozen 7;have FW:=(ic.alloc 0 Z5 (.cells (Array.replicate N (.bool false)) 4)).cell n0
 have FV:=(ic.alloc 0 Z5 (.cells (Array.replicate N (.bool false)) 4)).cell n1;have aA:=nc.out.alloc (.cells (Array.replicate N (.bool false)) 4);have d7:=aA.cell (i:=7) rfl
 have e7:=aA.frozen 7;obtain⟨hb,Lt⟩:∃hb,Z5.heap.size=hb:=⟨_,rfl⟩;have hhg:g<hb/\p<hb/\B<=hb:=⟨by have:=pW.out.lt;omega,by have:=nc.out.lt;omega,by have:=nc.out.lt;omega⟩
 have B6:Hid (aD (Z5.alloc (.cells (Array.replicate N (.bool false)) 4)) hb 4 (List.replicate N (.bool false))):=by have h:=aD.dT Z5 4 (List.replicate N (.bool false));rw[fc,Lt]at h;exact h
 have Ai:=hid (pW.out.alloc (.cells (Array.replicate N (.bool false)) 4));have q8:Hid (Below B w (Z5.alloc (.cells (Array.replicate N (.bool false)) 4))):=mX.out.alloc (by omega) _
 have Ko:=hid aA;have Bs:=hid Lt;clear aA Lt pW mX nc;go_region;rw[Bs.out];clear hmb n0 n1 c7 f7 FW FV d7 e7 Bs;generalize Z5.alloc (.cells (Array.replicate N (.bool false)) 4)=Z6 at*
 have a7:aD (Z6.setCell ⟨p,7,none⟩ (.slice (some ⟨hb,0,none⟩) N N)).drew p 133 (iq 3 true m 0 r r (.slice (some ⟨g,0,none⟩) N N) (.slice (some ⟨hb,0,none⟩) N N)):=Ko.out.set 7 (.slice (some ⟨hb,0,none⟩) N N)
 have g7:aD (Z6.setCell ⟨p,7,none⟩ (.slice (some ⟨hb,0,none⟩) N N)).drew g 65 _:=Ai.out.other _ (by omega);have h7:aD (Z6.setCell ⟨p,7,none⟩ (.slice (some ⟨hb,0,none⟩) N N)).drew hb 4 _:=B6.out.other _ (by omega)
 have B7:Below B w (Z6.setCell ⟨p,7,none⟩ (.slice (some ⟨hb,0,none⟩) N N)).drew:=(q8.out.setCell (p:=⟨p,7,none⟩) hB _).drew;obtain rfl:res=(0,lH.lQ 3 r r m (dI 3 r r) (λ_ _=>0)):=by rw[<-lZ.out,ai (by unfold dM;rw[ai (by omega),ai (by omega)];simp),ai (by rw[<-Uo.out];exact Yk)]
 have ci:Hid (jA B w p (0,lH.lQ 3 r r m (dI 3 r r) (λ_ _=>0)) (.returned (.int .i64 0)) (Z6.setCell ⟨p,7,none⟩ (.slice (some ⟨hb,0,none⟩) N N)).drew):=by refine⟨rfl,B7,λ_=>⟨by omega,by omega,by omega,by omega,0,g,hb,List.replicate N false,?_,by omega,by omega,by omega,by omega,by omega,⟨_,g7,by rw[gQ];exact hN.symm,λi j hi hj=>?_⟩,by rw[oL];exact h7,by rw[gQ];exact hN.symm,by have:=Uo.out;omega,⟨λh=>by omega,λ_=>⟨EU (by omega),λi j=>?_⟩⟩⟩⟩;{rw[cA,hN];exact a7};{rw[ft,au (by have:=gz hi hj;omega)];rfl};{rw[BC (by omega)];constructor;{rintro⟨h1,h2,h3⟩;exact⟨h1,h2,λh=>h3 (.inr h),by rw[ft,au (by have:=gz h1 h2;omega)]⟩};{rintro⟨h1,h2,h3,_⟩;exact⟨h1,h2,λh=>h3 (by omega)⟩}}
 clear a7 g7 h7 B7 Ko Ai B6 q8 lZ;go_wp2;go_ret;exact ci.out};{
 have ZT:((r:Int)==(c:Int))=false:=by rw[av];omega
 obtain rfl:res=(4,.first):=by rw[<-lZ.out,show dM 3 r c=4 by unfold dM;rw[ai (by omega),au ⟨by omega,yG⟩]];rfl
 clear lZ;go_quiet(first|(go_at_call 44;exact Calls.quiet_of_same (HH.out _)));go_wp2;go_ret;exact⟨rfl,bj fQ.out _,λh=>by cases h⟩}};{
 have CQ:res=(6,.first):=by rw[<-cS.out];unfold si;split;{rename_i e;cases e;simp at hlen};{rfl}
 subst CQ;clear HA tX b1 cS hl bp;have xQ:((l.length:Int)==3)=false:=by rw[av];omega
 by_cases pX:l.length=2;{(have aam:(l.length:Int)=2:=by omega);go_wp2_with fail;refine(HL.out W1).mono ?_;rintro e w2⟨rfl,rfl⟩;go_wp2;go_ret;exact⟨rfl,fQ.out,λh=>by cases h⟩}
 {(have aam:((l.length:Int)==2)=false:=by rw[av];omega);go_wp2_with fail;refine(HL.out W1).mono ?_;rintro e w2⟨rfl,rfl⟩;go_wp2_with fail;refine(HL.out w2).mono ?_;rintro e w3⟨rfl,rfl⟩;go_wp2;go_ret;exact⟨rfl,fQ.out,λh=>by cases h⟩}}}
theorem ou.az{B p:Nat}{w w':World}{t:lH}(h:ou B w p t)(b:Below w.heap.size w w'):ou B w' p t:=by cases t with|first=>exact aD.az h b|jy k=>exact⟨h.1,h.2.az b⟩|lQ k R C left free f=>obtain⟨h1,h2,h3,h4,gm,g,hb,bl,aP,LL,Tj,I8,lw,Ls,⟨L,aG,GS,LK⟩,aH,hr⟩:=h;exact⟨h1,h2,h3,h4,gm,g,hb,bl,aP.az b,LL,Tj,I8,lw,Ls,⟨L,aG.az b,GS,LK⟩,aH.az b,hr⟩
theorem KF(w:World)(p B:Nat)(ao:Option Addr)(n cap k:Nat)(ws:List ByteArray)(hn:ws.length=n)(jb:n<=1000000)(dU:∀x∈ws,x.size<=1000000)(mA:gK w ao ws)(h:ou B w p (.jy k))(hB:B<=p):Calls prog 117 #[.pointer (some ⟨p,0,none⟩),.slice ao n cap] w λe w'=>jA B w p (jX k false (ws.map (·.data.toList))) e w':=by obtain⟨hk,ha⟩:=h;match k,hk with|0,_=>exact Q0 w p B ao n cap ws hn jb dU mA ha hB|1,_=>exact QZ w p B ao n cap ws hn jb dU mA ha hB|2,_=>exact QY w p B ao n cap ws hn jb dU mA ha hB|3,_=>exact QX w p B ao n cap ws hn jb dU mA ha hB
theorem KK(w:World)(p B:Nat)(ao:Option Addr)(n cap k:Nat)(ws:List ByteArray)(hn:ws.length=n)(jb:n<=1000000)(iF:n<=cap)(dU:∀x∈ws,x.size<=1000000)(mA:gK w ao ws)(R C left:Nat)(free:List (Nat×Nat))(f:Nat->Nat->Nat)(h:ou B w p (.lQ k R C left free f))(hB:B<=p):Calls prog 118 #[.pointer (some ⟨p,0,none⟩),.slice ao n cap] w λe w'=>jA B w p (stepT false (ws.map (·.data.toList)) (.lQ k R C left free f)) e w':=by
 have hk:k<=3:=h.1;match k,hk with|0,_=>exact Re w p B ao n cap ws hn jb iF dU mA R C left free f h hB|1,_=>exact Rd w p B ao n cap ws hn jb iF dU mA R C left free f h hB|2,_=>exact Rc w p B ao n cap ws hn jb iF dU mA R C left free f h hB|3,_=>exact Rb w p B ao n cap ws hn jb iF dU mA R C left free f h hB
theorem Jf{w w2:World}{S:Nat->Prop}{n:Nat}{v:Value}{xs:List Value}(hg:w.grownBy w2 v.ownBlock)(hr:cL w S 5 1 v n xs)(q:Nat)(o:Obj)(hq:w.heap[q]?=some o)(ho:∀c,o≠.cells c 5 (0,0)):w2.heap[q]?=some o:=by refine(hg.block q (aO.1 hq).1 (λe=>?_)).trans hq;obtain⟨_,c,hc⟩:=hr.lt q e.symm;rw[hc]at hq;cases hq;exact ho c rfl
theorem xf:∀(l cE:List UInt8),(dW cE l).length<=cE.length+l.length/\∀x∈dW cE l,x.length<=cE.length+l.length|[],cE=>by rw[dW];split;{exact⟨by simp,λx hx=>by simp at hx⟩};{rename_i h;refine⟨?_,λx hx=>by simp at hx;rw[hx];simp⟩;cases cE with|nil=>exact(h rfl).elim|cons a r=>simp}|b::r,cE=>by rw[dW];have ih0:=xf r [];have ih1:=xf r (cE++[b]);simp only[cd,aJ,aU,cA]at ih0 ih1⊢;split;{split;{exact⟨by omega,λx hx=>by have:=ih0.2 x hx;omega⟩};{rename_i h;(have hc:1<=cE.length:=by cases cE with|nil=>exact(h rfl).elim|cons a r=>simp);refine⟨by simp only[aU];omega,λx hx=>?_⟩;rcases mb.1 hx with rfl|hx;{omega};{have:=ih0.2 x hx;omega}}};{exact⟨by omega,λx hx=>by have:=ih1.2 x hx;omega⟩}
theorem zv(l:List UInt8):(fI l).length<=l.length/\∀x∈fI l,x.length<=l.length:=by have:=xf l [];simp only[cd,cA]at this;exact this
theorem Value.Ky{w:World}{S:Nat->Prop}{v:Value}{n:Nat}{xs:List Value}(h:cL w S 5 1 v n xs):(v=.slice none 0 0/\n=0)\/∃g cap,v=.slice (some ⟨g,0,none⟩) n cap/\n<=cap:=by obtain⟨_,⟨h1,h0⟩|⟨g,cap,cE,h1,_,_,h2,_⟩⟩:=h.row;{exact .inl ⟨h1,h0⟩};{exact .inr ⟨g,cap,h1,h2⟩}
theorem Js(w:World)(p:Nat)(S:Nat->Prop)(cE:List UInt8)(t:lH)(Ja:cE.length<=200)(hSb:∀q,S q->q<w.heap.size)(h:gj w p S cE t):Calls prog 274 #[.pointer (some ⟨p,0,none⟩)] w λe w'=>Fr w p S (iD t cE) e w':=by
 have fX:prog.follows .mixedOrders=true:=by kernel_rfl
 obtain⟨hS,bytes,rest,ha,ZS,hr⟩:=h.open;have hcv:=Q4 hr;have c1:=ha.cell (i:=1) rfl;obtain⟨ao,cap,rfl,iF,_⟩:=hr.shape;have hcut:∀V:World,cL V S 5 1 (.slice ao cE.length cap) cE.length (jQ cE)->Hid (cL V S 5 1 (.slice ao 0 cap) 0 (jQ [])):=λV h=>h.aeN
 have Wr:=Value.Ky hr;have HA:=hid ha;have HR:=hid hr;have H:=hid h;have hwb:=zv cE;have nQ:=hid (λw=>NY w ⟨cE.toArray⟩ (by show cE.toArray.size<=_;simp;omega))
 simp only at nQ;obtain⟨n,hn⟩:∃n,cE.length=n:=⟨_,rfl⟩;rw[hn]at c1 hcv iF hwb Wr hcut Ja;have HN:=hid hn;have UI:=hid hcut;obtain⟨cm,ml⟩:∃cm,decide (cE.head?=some 37)=cm:=⟨_,rfl⟩
 rw[ml]at nQ;obtain⟨res,dD⟩:∃res,iD t cE=res:=⟨_,rfl⟩;rw[dD];have cS:Hid (res=if fI cE=[]then(0,t)else stepT cm (fI cE) t):=by show _=_;rw[<-dD,<-ml];rfl
 clear ha hr h hn dD hcut ml;go_enter func274,ntmps274;go_wp2_with fail;refine(nQ.out w).mono ?_;rintro e W1⟨A,ws,rfl,mA,E7,b1⟩;clear nQ hcv c1;have Eh:ws.length=(fI cE).length:=by rw[<-mA,bL]
 have hwn:ws.length<=1000000:=by have:=hwb.1;omega
 have abF:∀x∈ws,x.size<=1000000:=λx hx=>by(have h1:x.data.toList∈fI cE:=by rw[<-mA];exact lf hx);have h2:=hwb.2 _ h1;(have h3:x.size=x.data.toList.length:=by rw[FA];rfl);omega
 have hw0:fI cE=[]↔ws.length=0:=by rw[Eh,cN]
 have bV:Below w.heap.size w (W1.alloc (.cells #[.slice (some ⟨A,0,none⟩) ws.length ws.length,.bool cm] 213)):=b1.alloc b1.size _;have aL:aD (W1.alloc (.cells #[.slice (some ⟨A,0,none⟩) ws.length ws.length,.bool cm] 213)) W1.heap.size 213 [.slice (some ⟨A,0,none⟩) ws.length ws.length,.bool cm]:=aD.dT _ _ _
 have sV:gK (W1.alloc (.cells #[.slice (some ⟨A,0,none⟩) ws.length ws.length,.bool cm] 213)) (some ⟨A,0,none⟩) ws:=E7.strs.below (Below.cj _ _);obtain⟨V,hV⟩:∃V,W1.alloc (.cells #[.slice (some ⟨A,0,none⟩) ws.length ws.length,.bool cm] 213)=V:=⟨_,rfl⟩
 obtain⟨d,hd⟩:∃d,W1.heap.size=d:=⟨_,rfl⟩;have Bg:=HA.out.lt;have hpd:p≠d:=by have:=b1.size;omega
 have af9:w.heap.size<=A:=E7.lo;have hdS:¬S d:=λh=>by have:=hSb d h;have:=b1.size;omega
 rw[hV]at bV aL sV;rw[hd]at aL;have aP:aD V p 167 _:=HA.out.az bV;have c1:=aP.cell (i:=1) rfl;have f1:=aP.frozen 1;rw[HN.out]at c1;have j5:=hid bV;have YZ:=hid aL
 have Xm:=hid sV;have xK:=hid mA;have YY:=hid aP;have acD:=hid abF;have P9:=hid hw0;have HWL:=hid Eh;clear bV aL sV mA E7 b1 aP abF hw0 Eh hwb;unfold lM;obtain⟨nw,El⟩:∃nw,ws.length=nw:=⟨_,rfl⟩
 rw[El]at YZ P9 HWL hwn hV⊢;have HNW:=hid El;clear El;have zJ:Hid (gj (V.setCell ⟨p,1,none⟩ (.slice ao 0 cap)) p S [] t):=(H.out.below j5.out).setBytes (λq h=>h) (λq o _ hq _=>hq) (UI.out V (by have:=HR.out.below j5.out;rw[HN.out]at this;exact this)).out
 have hkr:Hid (Kept S w (V.setCell ⟨p,1,none⟩ (.slice ao 0 cap))):=(Kept.cK j5.out).trans (Kept.set (S:=S) hS _) (λq h=>.inl h);have alr:Hid (aD (V.setCell ⟨p,1,none⟩ (.slice ao 0 cap)) d 213 [.slice (some ⟨A,0,none⟩) nw nw,.bool cm]):=YZ.out.other _ (fl hpd)
 have svr:Hid (gK (V.setCell ⟨p,1,none⟩ (.slice ao 0 cap)) (some ⟨A,0,none⟩) ws):=λk x hk=>by obtain⟨g,off,h1,h2,h3⟩:=Xm.out k x hk;cases h1;refine⟨_,_,rfl,by simpa[World.setCell]using h2,?_⟩;(have hne:A≠p:=by omega);exact(World.cell?_of_block (w:=V) (Below.heap_setCell _ _ _ _ hne)).trans h3
 have l0:=alr.out.cell (i:=0) rfl;have afg:0<=cap:=ap _;rcases Wr with⟨he,rS⟩|⟨g,ez,he,hnc⟩;{
 obtain⟨rfl,_,rfl⟩:ao=none/\n=0/\cap=0:=by simpa using he
 subst rS;clear he;by_cases hz:nw=0;{
 have Yc:res=(0,t):=by rw[cS.out,au (P9.out.2 hz)]
 have ci:Hid (Fr w p S res (.returned (.int .i64 0)) (V.setCell ⟨p,1,none⟩ (.slice none 0 0))):=by rw[Yc];exact⟨rfl,hkr.out,λ_=>zJ.out.mono (λq h=>.inl h)⟩
 have gU:(nw:Int)=0:=by omega
 clear hz;go_wp2;go_ret;exact ci.out};{
 have uh:res=stepT cm (ws.map (·.data.toList)) t:=by rw[cS.out,ai (λh=>hz (P9.out.1 h)),xK.out]
 have ZG:((nw:Int)==0)=false:=by simp;omega
 have gU:¬(nw:Int)=0:=by omega
 go_wp2_with fail;clear l0 c1 f1;generalize V.setCell ⟨p,1,none⟩ (.slice none 0 0)=V2 at*;refine wp_region_held (S:=λW'=>aD W' d 213 [.slice (some ⟨A,0,none⟩) nw nw,.bool cm]) fX ?_
 change wpAnyH _ _ _ _ _ _ _ _ V2.drew;have cZ:aD V2.drew d 213 [.slice (some ⟨A,0,none⟩) nw nw,.bool cm]:=alr.out.drew;have US:gj V2.drew p S [] t:=zJ.out.frame (λ_ _=>rfl) (aj _)
 have IX:gK V2.drew (some ⟨A,0,none⟩) ws:=svr.out;have GN:Kept S w V2.drew:=hkr.out.trans (Kept.drewN (S:=S) 1) (λq h=>.inl h);clear zJ alr svr hkr;generalize V2.drew=Vd at*
 obtain⟨_,by2,Hr,aX,_,_⟩:=US.open;have x0:=aX.cell (i:=0) rfl;have ug:=Hm Vd p S t A nw ws cm HNW.out hwn acD.out IX US;have Ge:=Ar t;rw[<-uh]at ug;unfold lM at ug
 unfold gT at x0;have j9:Hid (Calls prog (tF t) #[.pointer (some ⟨p,0,none⟩),.agg #[.slice (some ⟨A,0,none⟩) nw nw,.bool cm]] Vd λe w'=>jV Vd p S res e w'):=ug;clear ug US IX aX uh
 generalize tF t=F at*;refine tk 0 (.pointer (some ⟨p,0,none⟩)) rfl (λW' hS=>?_) cZ ?_;{clear hS;go_simp};simp only[Act.put];refine tk 1 (.pointer (some ⟨p,0,none⟩)) rfl (λW' hS=>?_) cZ ?_
 {clear hS;go_simp};simp only[Act.put];refine tk 2 (.pointer (some ⟨p,0,none⟩)) rfl (λW' hS=>?_) cZ ?_;{clear hS;go_simp};simp only[Act.put];refine tk 4 (.agg #[.slice (some ⟨A,0,none⟩) nw nw,.bool cm]) rfl (λW' hS=>?_) cZ ?_
 {have q0:=hS.cell (i:=0) rfl;have q1:=hS.cell (i:=1) rfl;clear hS;go_simp};simp only[Act.put];refine wpAnyH_ready (rs:=[3]) (by kernel_rfl) (by simp) ?_;refine AllReadyH.cons rfl (λK df=>?_) AllReadyH.nil
 go_simp;refine df.out _ _ cZ (λhHeld=>?_);clear df hHeld x0;refine wpAnyH_ready (rs:=[5]) (by kernel_rfl) (by simp) ?_;refine AllReadyH.cons rfl (λK df=>?_) AllReadyH.nil
 go_simp;refine j9.out.mono ?_;rintro e W3⟨st,rfl,mB,xR,⟨c3,ac3,P5⟩,Su⟩;have zM:aD W3 d 213 [.slice (some ⟨A,0,none⟩) nw nw,.bool cm]:=xR.arr cZ hdS;refine df.out _ _ zM (λhHeld=>?_)
 clear df hHeld j9;obtain⟨y,hy⟩:∃y,c3[0]?=some y:=⟨c3[0]'(by omega),by simp⟩;have z0:=ac3.cell hy;have zf:=ac3.frozen 0;have ci:Hid (Fr w p S res (.returned (.int .i64 (res.1:Int))) (W3.setCell ⟨p,0,none⟩ st)):=by refine⟨rfl,(GN.trans xR (λq h=>.inl h)).trans (Kept.set (S:=S) hS _) (λq h=>.inl h),λh0=>(Su h0).mono (λq hq=>hq.imp id (λh=>⟨ak GN.size h.1,by simpa[World.setCell]using h.2⟩))⟩
 clear xR Su ac3 P5 cZ GN;generalize res.1=er at*;refine tk 6 (.tuple #[st,.int .i64 (er:Int)]) rfl (λW' hS=>?_) zM ?_;{clear hS;go_simp};simp only[Act.put];refine tk 7 st rfl (λW' hS=>?_) zM ?_
 {clear hS;go_simp};simp only[Act.put];refine tk 8 (.int .i64 (er:Int)) rfl (λW' hS=>?_) zM ?_;{clear hS;go_simp};simp only[Act.put];refine tk 9 st rfl (λW' hS=>?_) zM ?_
 {clear hS;go_simp};simp only[Act.put];refine tk 10 (.int .i64 (er:Int)) rfl (λW' hS=>?_) zM ?_;{clear hS;go_simp};simp only[Act.put,bt,bi,bg,aN,bK,bJ];refine wpAnyH_done (by kernel_rfl) ?_ _
 obtain⟨F',a',b',rfl|rfl⟩:=mB;{go_wp2;go_ret;exact ci.out};{go_wp2;go_ret;exact ci.out}}};{
 cases he;by_cases hz:nw=0;{
 have Yc:res=(0,t):=by rw[cS.out,au (P9.out.2 hz)]
 have ci:Hid (Fr w p S res (.returned (.int .i64 0)) (V.setCell ⟨p,1,none⟩ (.slice (some ⟨g,0,none⟩) 0 cap))):=by rw[Yc];exact⟨rfl,hkr.out,λ_=>zJ.out.mono (λq h=>.inl h)⟩
 have gU:(nw:Int)=0:=by omega
 clear hz;go_wp2;go_ret;exact ci.out};{
 have uh:res=stepT cm (ws.map (·.data.toList)) t:=by rw[cS.out,ai (λh=>hz (P9.out.1 h)),xK.out]
 have ZG:((nw:Int)==0)=false:=by simp;omega
 have gU:¬(nw:Int)=0:=by omega
 go_wp2_with fail;clear l0 c1 f1;generalize V.setCell ⟨p,1,none⟩ (.slice (some ⟨g,0,none⟩) 0 cap)=V2 at*;refine wp_region_held (S:=λW'=>aD W' d 213 [.slice (some ⟨A,0,none⟩) nw nw,.bool cm]) fX ?_
 change wpAnyH _ _ _ _ _ _ _ _ V2.drew;have cZ:aD V2.drew d 213 [.slice (some ⟨A,0,none⟩) nw nw,.bool cm]:=alr.out.drew;have US:gj V2.drew p S [] t:=zJ.out.frame (λ_ _=>rfl) (aj _)
 have IX:gK V2.drew (some ⟨A,0,none⟩) ws:=svr.out;have GN:Kept S w V2.drew:=hkr.out.trans (Kept.drewN (S:=S) 1) (λq h=>.inl h);clear zJ alr svr hkr;generalize V2.drew=Vd at*
 obtain⟨_,by2,Hr,aX,_,_⟩:=US.open;have x0:=aX.cell (i:=0) rfl;have ug:=Hm Vd p S t A nw ws cm HNW.out hwn acD.out IX US;have Ge:=Ar t;rw[<-uh]at ug;unfold lM at ug
 unfold gT at x0;have j9:Hid (Calls prog (tF t) #[.pointer (some ⟨p,0,none⟩),.agg #[.slice (some ⟨A,0,none⟩) nw nw,.bool cm]] Vd λe w'=>jV Vd p S res e w'):=ug;clear ug US IX aX uh
 generalize tF t=F at*;refine tk 0 (.pointer (some ⟨p,0,none⟩)) rfl (λW' hS=>?_) cZ ?_;{clear hS;go_simp};simp only[Act.put];refine tk 1 (.pointer (some ⟨p,0,none⟩)) rfl (λW' hS=>?_) cZ ?_
 {clear hS;go_simp};simp only[Act.put];refine tk 2 (.pointer (some ⟨p,0,none⟩)) rfl (λW' hS=>?_) cZ ?_;{clear hS;go_simp};simp only[Act.put];refine tk 4 (.agg #[.slice (some ⟨A,0,none⟩) nw nw,.bool cm]) rfl (λW' hS=>?_) cZ ?_
 {have q0:=hS.cell (i:=0) rfl;have q1:=hS.cell (i:=1) rfl;clear hS;go_simp};simp only[Act.put];refine wpAnyH_ready (rs:=[3]) (by kernel_rfl) (by simp) ?_;refine AllReadyH.cons rfl (λK df=>?_) AllReadyH.nil
 go_simp;refine df.out _ _ cZ (λhHeld=>?_);clear df hHeld x0;refine wpAnyH_ready (rs:=[5]) (by kernel_rfl) (by simp) ?_;refine AllReadyH.cons rfl (λK df=>?_) AllReadyH.nil
 go_simp;refine j9.out.mono ?_;rintro e W3⟨st,rfl,mB,xR,⟨c3,ac3,P5⟩,Su⟩;have zM:aD W3 d 213 [.slice (some ⟨A,0,none⟩) nw nw,.bool cm]:=xR.arr cZ hdS;refine df.out _ _ zM (λhHeld=>?_)
 clear df hHeld j9;obtain⟨y,hy⟩:∃y,c3[0]?=some y:=⟨c3[0]'(by omega),by simp⟩;have z0:=ac3.cell hy;have zf:=ac3.frozen 0;have ci:Hid (Fr w p S res (.returned (.int .i64 (res.1:Int))) (W3.setCell ⟨p,0,none⟩ st)):=by refine⟨rfl,(GN.trans xR (λq h=>.inl h)).trans (Kept.set (S:=S) hS _) (λq h=>.inl h),λh0=>(Su h0).mono (λq hq=>hq.imp id (λh=>⟨ak GN.size h.1,by simpa[World.setCell]using h.2⟩))⟩
 clear xR Su ac3 P5 cZ GN;generalize res.1=er at*;refine tk 6 (.tuple #[st,.int .i64 (er:Int)]) rfl (λW' hS=>?_) zM ?_;{clear hS;go_simp};simp only[Act.put];refine tk 7 st rfl (λW' hS=>?_) zM ?_
 {clear hS;go_simp};simp only[Act.put];refine tk 8 (.int .i64 (er:Int)) rfl (λW' hS=>?_) zM ?_;{clear hS;go_simp};simp only[Act.put];refine tk 9 st rfl (λW' hS=>?_) zM ?_
 {clear hS;go_simp};simp only[Act.put];refine tk 10 (.int .i64 (er:Int)) rfl (λW' hS=>?_) zM ?_;{clear hS;go_simp};simp only[Act.put,bt,bi,bg,aN,bK,bJ];refine wpAnyH_done (by kernel_rfl) ?_ _
 obtain⟨F',a',b',rfl|rfl⟩:=mB;{go_wp2;go_ret;exact ci.out};{go_wp2;go_ret;exact ci.out}}}
theorem Hl{w:World}{B:Nat}{v:Value}{ws:List ByteArray}{n:Nat}(hn:ws.length=n)(h:w.ownsRow B 9 1 v n (sW ws)):∃vo cap,v=.slice vo n cap/\n<=cap/\gK w vo ws:=by
 have h0:=h;rcases h.2 with⟨e,h3⟩|⟨g,cap,cE,e,_,_,hc,_⟩;{subst h3;refine⟨none,0,e,aj _,λk x hk=>?_⟩;obtain rfl:ws=[]:=eJ hn;simp at hk};{subst e;refine⟨_,cap,rfl,hc,λk x hk=>?_⟩;have Lo:k<ws.length:=(ar.1 hk).1;have h4:=h0.cellAt k (by omega);(have h5:(sW ws)[k]?=some (.string x):=by simp[sW,hk]);rw[h5]at h4;exact⟨g,0,rfl,jt h4,by rw[cA];exact h4⟩}
theorem jA.from{B p:Nat}{w W1 w':World}{r:Nat×lH}{e:Ending}(b:Below B w W1)(h:jA B W1 p r e w'):jA B w p r e w':=⟨h.1,b.trans h.2.1,h.2.2⟩
theorem VE(w:World)(p B k:Nat)(x:ByteArray)(hx:x.size<=1000000)(h:ou B w p (.jy k))(hB:B<=p):Calls prog 84 #[.pointer (some ⟨p,0,none⟩),.string x] w λe w'=>jA B w p (iD (.jy k) x.data.toList) e w':=by
 have Up:=hid (xk w x x.size rfl (by omega));have HT:=hid h;have rR:p<w.heap.size:=h.2.lt;obtain⟨res,dD⟩:∃res,iD (.jy k) x.data.toList=res:=⟨_,rfl⟩;rw[dD];have cS:=hid dD
 clear dD h;go_enter func84,ntmps84;go_wp2_with fail;refine Up.out.mono ?_;rintro e W1⟨⟨v,ws,rfl,mA,bp⟩,b1⟩;clear Up;have zk:=hid (HT.out.az b1);have fQ:Hid (Below B w W1):=b1.mono (by omega)
 have UU:=zk.out.2.cell (i:=1) rfl;obtain⟨n,hn⟩:∃n,ws.length=n:=⟨_,rfl⟩;rw[hn]at bp;obtain⟨vo,cap,rfl,iF,CP⟩:=Hl hn bp;have Us:=hid CP;have xK:=hid mA;have dU:∀y∈ws,y.size<=1000000:=λy hy=>by have h1:=zu (l:=x.data.toList) (x:=y.data.toList) (by rw[<-mA];exact lf hy);have h2:=aK (s:=x) rfl;have h3:=aK (s:=y) rfl;omega
 have lj:=hid dU;have hnx:n<=x.size:=by have h1:=(zv x.data.toList).1;rw[<-mA,bL]at h1;have h2:=aK (s:=x) rfl;omega
 have hd:∀h:0<x.size,x.data.toList.head?=some x[0]:=λh=>by rw[abn];have h2:=aK (s:=x) rfl;rw[cB (by omega)];rfl
 have HHD:=hid hd;have pD:n=0->Hid (res=(0,.jy k)):=λh0=>by show _=_;have:ws=[]:=eJ (hn.trans h0);rw[<-cS.out];unfold iD;rw[au (by rw[<-xK.out,this];rfl)]
 clear mA bp CP b1 HT dU hd;by_cases Eg:0<x.size;{
 by_cases LM:(x[0].toNat:Int)=37;{
 obtain rfl:res=(0,.jy k):=by have h5:x[0]=37:=cg.1 (by(have:x[0].toNat=37:=by omega);rw[this];rfl);(have h6:x.data.toList.head?=some 37:=by rw[HHD.out Eg,h5]);rw[<-cS.out];unfold iD;by_cases e:fI x.data.toList=[];{rw[au e]};{rw[ai e,h6];simp[stepT,jX]}
 clear cS pD;go_wp2_with fail;go_ret;exact⟨rfl,fQ.out,λ_=>zk.out⟩};{
 have aeI:((x[0].toNat:Int)==37)=false:=by simpa using LM
 by_cases rS:n=0;{obtain rfl:=(pD rS).out;clear cS pD;(have Bh:((n:Int)==0)=true:=by simpa using rS);go_wp2_with fail;go_ret;exact⟨rfl,fQ.out,λ_=>zk.out⟩};{
 have Bh:((n:Int)==0)=false:=by rw[av];omega
 have hr:jX k false (ws.map (·.data.toList))=res:=by(have h6:x.data.toList.head?≠some 37:=λe=>by rw[HHD.out Eg]at e;injection e with e;exact LM (by rw[e];rfl));rw[<-cS.out];unfold iD;rw[ai (λe=>by rw[<-xK.out]at e;have:=Fz.1 e;subst this;simp at hn;omega),dH h6,xK.out];rfl
 have HQ:=hid (KF W1 p B vo n cap k ws hn (by omega) lj.out Us.out zk.out hB);rw[hr]at HQ;clear hr;clear cS pD;go_wp2_with fail;refine HQ.out.mono ?_;rintro e W2 hq
 have JW:=hid (jA.from fQ.out hq);obtain rfl:=hq.1;clear hq HQ;go_wp2;go_ret;exact JW.out}}};{(obtain rfl:n=0:=by omega);obtain rfl:=(pD rfl).out;clear cS pD;go_wp2_with fail;go_ret;exact⟨rfl,fQ.out,λ_=>zk.out⟩}
theorem VD(w:World)(p B k R C left:Nat)(free:List (Nat×Nat))(f:Nat->Nat->Nat)(x:ByteArray)(hx:x.size<=1000000)(h:ou B w p (.lQ k R C left free f))(hB:B<=p):Calls prog 84 #[.pointer (some ⟨p,0,none⟩),.string x] w λe w'=>jA B w p (iD (.lQ k R C left free f) x.data.toList) e w':=by
 have Up:=hid (xk w x x.size rfl (by omega));have HT:=hid h;have rR:p<w.heap.size:=by obtain⟨_,_,_,_,gm,g,hb,bl,aP,_⟩:=h;exact aP.lt
 obtain⟨res,dD⟩:∃res,iD (.lQ k R C left free f) x.data.toList=res:=⟨_,rfl⟩;rw[dD];have cS:=hid dD;clear dD h;go_enter func84,ntmps84;go_wp2_with fail;refine Up.out.mono ?_
 rintro e W1⟨⟨v,ws,rfl,mA,bp⟩,b1⟩;clear Up;have zk:=hid (HT.out.az b1);have fQ:Hid (Below B w W1):=b1.mono (by omega);have UU:W1.cell? ⟨p,1,none⟩=some (.bool true):=by obtain⟨_,_,_,_,gm,g,hb,bl,aP,_⟩:=zk.out;exact aP.cell (i:=1) rfl
 obtain⟨n,hn⟩:∃n,ws.length=n:=⟨_,rfl⟩;rw[hn]at bp;obtain⟨vo,cap,rfl,iF,CP⟩:=Hl hn bp;have Us:=hid CP;have xK:=hid mA;have dU:∀y∈ws,y.size<=1000000:=λy hy=>by have h1:=zu (l:=x.data.toList) (x:=y.data.toList) (by rw[<-mA];exact lf hy);have h2:=aK (s:=x) rfl;have h3:=aK (s:=y) rfl;omega
 have lj:=hid dU;have hnx:n<=x.size:=by have h1:=(zv x.data.toList).1;rw[<-mA,bL]at h1;have h2:=aK (s:=x) rfl;omega
 have hd:∀h:0<x.size,x.data.toList.head?=some x[0]:=λh=>by rw[abn];have h2:=aK (s:=x) rfl;rw[cB (by omega)];rfl
 have HHD:=hid hd;have pD:n=0->Hid (res=(0,.lQ k R C left free f)):=λh0=>by show _=_;have:ws=[]:=eJ (hn.trans h0);rw[<-cS.out];unfold iD;rw[au (by rw[<-xK.out,this];rfl)]
 clear mA bp CP b1 HT dU hd;by_cases Eg:0<x.size;{
 by_cases LM:(x[0].toNat:Int)=37;{
 by_cases rS:n=0;{obtain rfl:=(pD rS).out;clear cS pD;(have Bh:((n:Int)==0)=true:=by simpa using rS);go_wp2_with fail;go_ret;exact⟨rfl,fQ.out,λ_=>zk.out⟩};{
 have Bh:((n:Int)==0)=false:=by rw[av];omega
 obtain rfl:res=(6,.first):=by have h5:x[0]=37:=cg.1 (by(have:x[0].toNat=37:=by omega);rw[this];rfl);(have h6:x.data.toList.head?=some 37:=by rw[HHD.out Eg,h5]);rw[<-cS.out];unfold iD;rw[ai (λe=>by rw[<-xK.out]at e;have:=Fz.1 e;subst this;simp at hn;omega),eY h6];simp[stepT,qY,uA]
 clear cS pD;go_wp2_with fail;go_ret;exact⟨rfl,fQ.out,λh=>by cases h⟩}};{
 have aeI:((x[0].toNat:Int)==37)=false:=by simpa using LM
 by_cases rS:n=0;{obtain rfl:=(pD rS).out;clear cS pD;(have Bh:((n:Int)==0)=true:=by simpa using rS);go_wp2_with fail;go_ret;exact⟨rfl,fQ.out,λ_=>zk.out⟩};{
 have Bh:((n:Int)==0)=false:=by rw[av];omega
 have hr:stepT false (ws.map (·.data.toList)) (.lQ k R C left free f)=res:=by(have h6:x.data.toList.head?≠some 37:=λe=>by rw[HHD.out Eg]at e;injection e with e;exact LM (by rw[e];rfl));rw[<-cS.out];unfold iD;rw[ai (λe=>by rw[<-xK.out]at e;have:=Fz.1 e;subst this;simp at hn;omega),dH h6,xK.out]
 have HQ:=hid (KK W1 p B vo n cap k ws hn (by omega) iF lj.out Us.out R C left free f zk.out hB);rw[hr]at HQ;clear hr;clear cS pD;go_wp2_with fail;refine HQ.out.mono ?_
 rintro e W2 hq;have JW:=hid (jA.from fQ.out hq);obtain rfl:=hq.1;clear hq HQ;go_wp2;go_ret;exact JW.out}}};{(obtain rfl:n=0:=by omega);obtain rfl:=(pD rfl).out;clear cS pD;go_wp2_with fail;go_ret;exact⟨rfl,fQ.out,λ_=>zk.out⟩}
end Go.Proofs.YthdcceackfdbbaaGreatDoor
