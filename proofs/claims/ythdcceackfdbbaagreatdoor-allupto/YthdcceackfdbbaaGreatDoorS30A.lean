import Derived.Test.YthdcceackfdbbaaGreatDoorS29A
set_option linter.unusedSimpArgs false
set_option maxRecDepth 20000
set_option maxHeartbeats 2000000
open Go.RowKit Go.Proofs.Tryz
namespace Go.Proofs.YthdcceackfdbbaaGreatDoor
theorem IP{free:List (Nat×Nat)}{x y:Int}(h:∀i j:Nat,(i:Int)=x->(j:Int)=y->(i,j)∉free):qQ free x y=none:=by unfold qQ;rw[xe];rintro⟨i,j⟩hq;unfold Ef eqB;simp only[eH];rintro⟨h1,h2⟩;exact h i j h1 h2 hq
theorem IM{free:List (Nat×Nat)}{i j:Nat}(h:(i,j)∈free):∃q,qQ free (i:Int) (j:Int)=some q/\free[q]?=some (i,j):=by
 cases hq:qQ free (i:Int) (j:Int)with|none=>exfalso;unfold qQ at hq;rw[xe]at hq;have:=hq (i,j) h;simp[Ef,eqB]at this|some q=>refine⟨q,rfl,?_⟩;unfold qQ at hq;rw[pj]at hq;obtain⟨h1,h2,_⟩:=hq;rw[cB h1];have h3:Ef (i:Int) (j:Int) free[q]=true:=h2;unfold Ef eqB at h3;rw[fT]at h3;have e:free[q]=(i,j):=Prod.ext (by simp only;omega) (by simp only;omega);rw[e]
theorem Zu{free:List (Nat×Nat)}(MR:free.Nodup){q:Nat}{i j:Nat}(hq:free[q]?=some (i,j))(x y:Nat):(x,y)∈free.eraseIdx q↔(x,y)∈free/\¬(x=i/\y=j):=by
 rw[List.mem_eraseIdx_iff_getElem?];have hp:=List.pairwise_iff_getElem.1 MR;have key:∀r:Nat,free[r]?=some (i,j)->r=q:=λr hr=>by obtain⟨h1,h2⟩:=ar.1 hr;obtain⟨h3,h4⟩:=ar.1 hq;rcases eZ r q with h|h|h;{exact(hp r q h1 h3 h (h2.trans h4.symm)).elim};{exact h};{exact(hp q r h3 h1 h (h4.trans h2.symm)).elim}
 constructor;{rintro⟨r,hr,qR⟩;exact⟨bU qR,λ⟨a,b⟩=>hr (key r (by rw[qR,a,b]))⟩};{rintro⟨h1,h2⟩;obtain⟨r,hr⟩:=List.getElem?_of_mem h1;exact⟨r,λe=>h2 (by rw[e,hq]at hr;cases hr;exact⟨rfl,rfl⟩),hr⟩}
theorem Ij{free:List (Nat×Nat)}(MR:free.Nodup)(q:Nat):(free.eraseIdx q).Nodup:=MR.sublist (List.eraseIdx_sublist _ _)
theorem Xd{C i j x y:Nat}(hj:j<C)(hy:y<C)(h:x*C+y=i*C+j):x=i/\y=j:=by
 have h1:(x*C+y)%C=(i*C+j)%C:=by rw[h]
 have h2:(x*C+y)/C=(i*C+j)/C:=by rw[h]
 rw[ay x,ay i,fL,fL,dE hj,dE hy]at h1;rw[ay x,ay i,fM (by omega),fM (by omega),cz hj,cz hy]at h2;exact⟨by omega,h1⟩
theorem Nb{R C u v q:Nat}{bl:List Bool}{free:List (Nat×Nat)}{H:Nat->Nat->Prop}(MR:free.Nodup)(hq:free[q]?=some (u,v))(hv:v<C)(hl:u*C+v<bl.length)(h:∀i j,(i,j)∈free↔(i<R/\j<C/\H i j/\bl[i*C+j]?=some false)):∀i j,(i,j)∈free.eraseIdx q↔(i<R/\j<C/\H i j/\(bl.set (u*C+v) true)[i*C+j]?=some false):=by
 intro i j;rw[Zu MR hq,h i j];constructor;{rintro⟨⟨h1,h2,h3,h4⟩,h5⟩;refine⟨h1,h2,h3,?_⟩;rw[D4 (λe=>h5 (Xd hv h2 e.symm))];exact h4};{rintro⟨h1,h2,h3,h4⟩;by_cases e:u*C+v=i*C+j;{rw[e,abo (by omega)]at h4;cases h4};{rw[D4 e]at h4;exact⟨⟨h1,h2,h3,h4⟩,λ⟨a,b⟩=>e (by rw[a,b])⟩}}
theorem aD.val{w:World}{g:Nat}{t:TypeId}{l:List Value}(h:aD w g t l){o:Nat}{v:Value}(hc:w.cell? ⟨g,o,none⟩=some v):l[o]?=some v:=by simpa[World.cell?,show w.heap[g]?=_ from h]using hc
theorem Rc(w:World)(p B:Nat)(ao:Option Addr)(n cap:Nat)(ws:List ByteArray)(hn:ws.length=n)(jb:n<=1000000)(iF:n<=cap)(dU:∀x∈ws,x.size<=1000000)(mA:gK w ao ws)(R C left:Nat)(free:List (Nat×Nat))(f:Nat->Nat->Nat)(h:ou B w p (.lQ 2 R C left free f))(hB:B<=p):Calls prog 118 #[.pointer (some ⟨p,0,none⟩),.slice ao n cap] w λe w'=>jA B w p (qY 2 R C left free f false (ws.map (·.data.toList))) e w':=by
 obtain⟨_,hR,hC,WT,gm,g,hb,bl,aP,LL,Tj,I8,lw,Ls,⟨L,aG,GS,LK⟩,aH,oy,mj,_,o6⟩:=h;obtain⟨MR,lN⟩:=o6 (by omega);have HL:Hid (∀w:World,Calls prog 77 #[.int .i64 2] w λe w'=>e=.returned (.bool true)/\w'=w):=λw=>by simpa using mL w 2
 have HH:Hid (∀w:World,Calls prog 44 #[.int .i64 2] w λe w'=>e=.returned (.bool false)/\w'=w):=λw=>by simpa using lO w 2
 have rR:=aP.lt;have zg:R*C<=1600:=bI hR hC;obtain⟨res,dD⟩:∃res,qY 2 R C left free f false (ws.map (·.data.toList))=res:=⟨_,rfl⟩;rw[dD];have cS:=hid dD;have HP:=hid aP
 have HG:=hid aG;have Bs:=hid aH;have GX:=hid LK;have A4:=hid GS;have ms:=hid lN;have Br:=hid MR;have xW:=hid oy;have xK:=hid mA;have lj:=hid dU;have p0:=aP.cell (i:=0) rfl
 have SA:(dI 2 R C).length<=1600:=by rw[oR (by omega),bL];exact ak (iM _ _) (by rw[qd];exact zg)
 have HCR:Hid (True):=trivial;clear WT dD aP aG aH LK GS lN MR oy mA dU o6;go_enter func118,ntmps118;go_wp2_with fail;refine(HL.out w).mono ?_;rintro e w1⟨rfl,rfl⟩
 by_cases h1:n=3;{
 subst h1;obtain⟨x0,x1,x2,rfl⟩:∃x0 x1 x2,ws=[x0,x1,x2]:=by match ws,hn with|[x0,x1,x2],_=>exact⟨x0,x1,x2,rfl⟩
 obtain⟨gw,ow,rfl,oG,_⟩:=xK.out 0 x0 (by simp);obtain⟨gw',ow',WK,_,Kc⟩:=xK.out 2 x2 (by simp);cases WK;have adB:=lj.out x2 (by simp);have tX:=hid (jp w1 (some ⟨gw,ow,none⟩) 2 cap [x0,x1] rfl (by omega) (λx hx=>lj.out x (by simp at hx;rcases hx with rfl|rfl<;>simp)) (λk x hk=>xK.out k x (by rcases k with _|_|k;{simpa using hk};{simpa using hk};{simp at hk})))
 go_wp2_with fail;refine tX.out.mono ?_;rintro e w2⟨hr,b2⟩;clear tX;rcases hr with⟨ql,rfl⟩|⟨l,v,hl,rfl,bp⟩;{
 obtain rfl:res=(6,.first):=by rw[<-cS.out];unfold qY;rw[ai (by simp)];have:cU (([x0,x1,x2].map (·.data.toList)).take 2)=none:=ql;rw[this]
 have gD:Hid (Below B w1 w2):=b2.mono (by omega);clear cS b2;go_wp2;go_ret;exact⟨rfl,gD.out,λh=>by cases h⟩};{
 obtain⟨a,b,rfl⟩:∃a b,l=[a,b]:=by have h2:=mf hl;match l,h2 with|[a,b],_=>exact⟨a,b,rfl⟩
 have ha9:a<1000000000:=kQ hl a (by simp);have hb9:b<1000000000:=kQ hl b (by simp);obtain⟨gn,vc,rfl⟩:∃gn vc,v=.slice (some ⟨gn,0,none⟩) 2 vc:=by rcases bp.2 with⟨_,h3⟩|⟨g,cap,cE,e,_⟩;{cases h3};{exact⟨g,_,e⟩}
 have n0:=bp.cellAt 0 (by simp);have n1:=bp.cellAt 1 (by simp);simp[qi]at n0 n1;have hgn:w1.heap.size<=gn:=by rcases bp.2 with⟨e,_⟩|⟨g,cap,cE,e,hb,_⟩;{cases e};{cases e;exact hb}
 obtain⟨wt,ZI⟩:∃wt,gm+left=wt:=⟨_,rfl⟩;rw[ZI]at HP;have Ag:=hid (HP.out.az b2);have UC:=hid (HG.out.az b2);have DJ:=hid (Bs.out.az b2);have gD:Hid (Below B w1 w2):=b2.mono (by omega)
 have C5:w2.cell? ⟨gw,ow+2,none⟩=some (.string x2):=(b2.cell (p:=⟨gw,ow+2,none⟩) oG).trans Kc;have qj:p<w2.heap.size:=ax rR b2.size;have aeb:gn≠p:=by omega
 have CY:gn≠g:=by have:=HG.out.lt;omega
 have aec:gn≠hb:=by have:=Bs.out.lt;omega
 have lZ:Hid ((if left=0 then(10,.first)else match qQ free ((a:Int)-1) ((b:Int)-1)with|some q=>mH 2 R C left free f q x2.data.toList|none=>(9,.first))=res):=by have h3:=cS.out;unfold qY at h3;rw[ai (by simp)]at h3;have:cU (([x0,x1,x2].map (·.data.toList)).take 2)=some [a,b]:=hl;rw[this]at h3;exact h3
 clear HP HG Bs b2 Kc oG p0 cS xK hl bp;have q2:=Ag.out.cell (i:=2) rfl;have q3:=Ag.out.cell (i:=3) rfl;by_cases CU:left=0;{
 obtain rfl:res=(10,.first):=by rw[<-lZ.out,au CU]
 have WF:((gm:Int)==(wt:Int))=true:=by rw[kO];omega
 clear lZ;go_wp2_with fail;go_quiet(fail);go_wp2;go_ret;exact⟨rfl,bj gD.out _,λh=>by cases h⟩};{
 have WF:((gm:Int)==(wt:Int))=false:=by rw[av];omega
 obtain⟨⟨i,j⟩,zd⟩:∃q,(dI 2 R C)[gm]?=some q:=⟨(dI 2 R C)[gm]'(by omega),by simp⟩;have Xz:=hid zd;clear zd;have sH:Hid ((match qQ free ((a:Int)-1) ((b:Int)-1)with|some q=>mH 2 R C left free f q x2.data.toList|none=>(9,.first))=res):=by have:=lZ.out;rw[ai CU]at this;exact this
 go_wp2_with fail;go_quiet(fail);have xc:Hid (aD (w2.drewN nq) p 133 (iq 2 true wt gm R C (.slice (some ⟨g,0,none⟩) (R*C) (R*C)) (.slice (some ⟨hb,0,none⟩) (R*C) (R*C)))):=Ag.out
 have Km:Hid (aD (w2.drewN nq) g 65 L):=UC.out;have Ah:Hid (aD (w2.drewN nq) hb 4 (bl.map Value.bool)):=DJ.out;have kM:Hid (Below B w1 (w2.drewN nq)):=bj gD.out nq
 have Gf:(w2.drewN nq).cell? ⟨gw,ow+2,none⟩=some (.string x2):=C5;have n03:(w2.drewN nq).cell? ⟨gn,0,none⟩=some (.int .i64 (a:Int)):=n0;have n13:(w2.drewN nq).cell? ⟨gn,1,none⟩=some (.int .i64 (b:Int)):=n1
 have SB:p<(w2.drewN nq).heap.size:=qj;clear Ag UC DJ gD C5 qj q2 q3 n0 n1 lZ;generalize w2.drewN nq=Z at*;have xV:=hid (vQ Z p 2 R C wt gm i j true _ _ (by omega) hR hC (by omega) xc.out Xz.out)
 have p0:=xc.out.cell (i:=0) rfl;go_wp2_with fail;refine xV.out.mono ?_;rintro e Z'⟨rfl,rfl⟩;clear xV Xz;go_wp2_with fail;refine(HL.out Z').mono ?_;rintro e JQ⟨rfl,rfl⟩
 obtain⟨ii,hii⟩:∃ii:Int,(a:Int)-1=ii:=⟨_,rfl⟩;obtain⟨jj,hjj⟩:∃jj:Int,(b:Int)-1=jj:=⟨_,rfl⟩;have Lr:-1<=ii:=by omega
 have UY:ii<=999999999:=by omega
 have zb:-1<=jj:=by omega
 have GP:jj<=999999999:=by omega
 rw[hii,hjj]at sH;obtain⟨N,hN⟩:∃N,R*C=N:=⟨_,rfl⟩;rw[hN]at xc A4 zg xW;have r0:=xc.out.cell (i:=0) rfl;have r4:=xc.out.cell (i:=4) rfl;have r5:=xc.out.cell (i:=5) rfl
 have r7:=xc.out.cell (i:=7) rfl;go_wp2_with fail;have oz:(∀i j:Nat,(i:Int)=ii->(j:Int)=jj->(i,j)∉free)->Hid (res=(9,.first)):=λh=>by show _=_;rw[<-sH.out,IP h]
 by_cases k1:ii<0;{(have t1:decide (ii<0)=true:=by simpa using k1);obtain rfl:=(oz (λi j h1 _ _=>by omega)).out;clear oz sH;go_quiet(first|(go_at_call 44;exact Calls.quiet_of_same (HH.out _)));go_wp2;go_ret;exact⟨rfl,bj kM.out _,λh=>by cases h⟩}
 have t1:decide (ii<0)=false:=by simpa using k1
 by_cases k2:(R:Int)<=ii;{
 have t2:decide ((R:Int)<=ii)=true:=by simpa using k2
 obtain rfl:=(oz (λi j h1 h2 hm=>by have:=((ms.out i j).1 hm).1;omega)).out;clear oz sH;go_quiet(first|(go_at_call 44;exact Calls.quiet_of_same (HH.out _)));go_wp2
 go_ret;exact⟨rfl,bj kM.out _,λh=>by cases h⟩};have t2:decide ((R:Int)<=ii)=false:=by simpa using k2
 by_cases k3:jj<0;{(have t3:decide (jj<0)=true:=by simpa using k3);obtain rfl:=(oz (λi j h1 h2 _=>by omega)).out;clear oz sH;go_quiet(first|(go_at_call 44;exact Calls.quiet_of_same (HH.out _)));go_wp2;go_ret;exact⟨rfl,bj kM.out _,λh=>by cases h⟩}
 have t3:decide (jj<0)=false:=by simpa using k3
 by_cases k4:(C:Int)<=jj;{
 have t4:decide ((C:Int)<=jj)=true:=by simpa using k4
 obtain rfl:=(oz (λi j h1 h2 hm=>by have:=((ms.out i j).1 hm).2.1;omega)).out;clear oz sH;go_quiet(first|(go_at_call 44;exact Calls.quiet_of_same (HH.out _)));go_wp2
 go_ret;exact⟨rfl,bj kM.out _,λh=>by cases h⟩};have t4:decide ((C:Int)<=jj)=false:=by simpa using k4
 obtain⟨u,rfl⟩:∃u:Nat,ii=(u:Int):=⟨ii.toNat,by omega⟩;obtain⟨v,rfl⟩:∃v:Nat,jj=(v:Int):=⟨jj.toNat,by omega⟩;have St:u<R:=by omega
 have OM:v<C:=by omega
 have t2':decide (R<=u)=false:=by simpa using St
 have t4':decide (C<=v)=false:=by simpa using OM
 obtain⟨P,hPi⟩:∃P:Nat,(u:Int)*(C:Int)=(P:Int):=⟨u*C,by push_cast;rfl⟩;have eP:u*C=P:=by(have:((u*C:Nat):Int)=P:=by push_cast;exact hPi);omega
 have UF:=hid eP;have O5:P+v<N:=by have:=gz St OM;omega
 have aaC:(P:Int)+v<N:=by omega
 clear eP;obtain⟨bb,LH⟩:∃x,bl[P+v]?=some x:=⟨bl[P+v]'(by rw[xW.out];exact O5),by simp⟩;have DY:=hid LH;have hc:=Ah.out.cell (i:=P+v) (v:=.bool bb) (by simp[LH])
 clear LH;cases bb with|true=>obtain rfl:=(oz (λi j h1 h2 hm=>by have h3:=((ms.out i j).1 hm).2.2.2;(obtain rfl:i=u:=by omega);(obtain rfl:j=v:=by omega);rw[UF.out,DY.out]at h3;cases h3)).out;clear oz sH;go_quiet(first|(go_at_call 44;exact Calls.quiet_of_same (HH.out _)));go_wp2;go_ret;exact⟨rfl,bj kM.out _,λh=>by cases h⟩|false=>obtain⟨q,GK,DQ⟩:=IM ((ms.out u v).2 ⟨St,OM,λh=>by omega,by rw[UF.out];exact DY.out⟩);have HQ:=hid DQ;(have GC:Hid (mH 2 R C left free f q x2.data.toList=res):=by have:=sH.out;rw[GK]at this;exact this);clear GK DQ oz sH;go_quiet(first|(go_at_call 44;exact Calls.quiet_of_same (HH.out _)));clear r0 r4 r5 r7 hc n03 n13;have xL:Hid (aD (JQ.drewN nq) p 133 (iq 2 true wt gm R C (.slice (some ⟨g,0,none⟩) N N) (.slice (some ⟨hb,0,none⟩) N N))):=xc.out;have Fv:Hid (aD (JQ.drewN nq) g 65 L):=Km.out;have pV:Hid (aD (JQ.drewN nq) hb 4 (bl.map Value.bool)):=Ah.out;have ma:Hid (Below B w1 (JQ.drewN nq)):=bj kM.out nq;have Mo:Hid ((JQ.drewN nq).cell? ⟨gw,ow+2,none⟩=some (.string x2)):=Gf;clear xc Km Ah kM Gf SB p0;generalize JQ.drewN nq=Z4 at*;have r5:=xL.out.cell (i:=5) rfl;have r7:=xL.out.cell (i:=7) rfl;have c0:=pV.out.cell (i:=P+v) (v:=.bool false) (by simp[DY.out]);have c1:=pV.out.frozen (P+v);(have Lu:gw≠hb:=by rintro rfl;have:=pV.out.val Mo.out;simp at this);have vI:Hid (aD (Z4.setCell ⟨hb,P+v,none⟩ (.bool true)).drew p 133 (iq 2 true wt gm R C (.slice (some ⟨g,0,none⟩) N N) (.slice (some ⟨hb,0,none⟩) N N))):=xL.out.other _ (fl Ls);have pW:Hid (aD (Z4.setCell ⟨hb,P+v,none⟩ (.bool true)).drew g 65 L):=Fv.out.other _ I8;(have vJ:Hid (aD (Z4.setCell ⟨hb,P+v,none⟩ (.bool true)).drew hb 4 ((bl.set (P+v) true).map Value.bool)):=by show aD _ _ _ _;rw[qc];exact pV.out.set _ _);have mX:Hid (Below B w1 (Z4.setCell ⟨hb,P+v,none⟩ (.bool true)).drew):=(ma.out.setCell (p:=⟨hb,P+v,none⟩) Tj _).drew;have UH:Hid ((Z4.setCell ⟨hb,P+v,none⟩ (.bool true)).drew.cell? ⟨gw,ow+2,none⟩=some (.string x2)):=(World.cell?_setCell_far _ _ _ _ (by first|exact Lu|exact fl Lu)).trans Mo.out;clear xL Fv pV ma Mo;go_wp2_with fail;go_region;clear r5 r7 c0 c1 Lu;generalize(Z4.setCell ⟨hb,P+v,none⟩ (.bool true)).drew=Z5 at*;(have PV:Hid (∀i j,(i,j)∈free.eraseIdx q↔(i<R/\j<C/\(2=3->j<=i)/\(bl.set (P+v) true)[i*C+j]?=some false)):=by have h8:=Nb (H:=λi j=>2=3->j<=i) Br.out HQ.out OM (by rw[UF.out,xW.out];exact O5) (by first|exact ms.out|(intro i j;have h:=ms.out i j;simpa using h));rw[UF.out]at h8;exact h8);(have HFG:Hid (free.getD q (0,0)=(u,v)):=by show _=_;rw[fu,HQ.out];rfl);have hc5:=UH.out;have tW:=hid (rJ Z5 x2 (by unfold maxLen;omega));obtain⟨sx,se,hsc⟩:∃sx se,eT x2.data.toList=(sx,se):=⟨_,_,rfl⟩;rw[hsc]at tW;simp only at tW;go_wp2_with fail;refine tW.out.mono ?_;rintro e Y⟨rfl,bY⟩;have xL:=hid (vI.out.az bY);have Fv:=hid (pW.out.az bY);have pV:=hid (vJ.out.az bY);have ma:Hid (Below B w1 Y):=mX.out.trans (bY.mono (by have:=vI.out.lt;omega));clear tW bY vI pW vJ mX UH hc5;by_cases Ej:se=0;{subst Ej;obtain⟨old,hold⟩:∃v',L[P+v]?=some v':=⟨L[P+v]'(by rw[A4.out];exact O5),by simp⟩;have q3:=xL.out.cell (i:=3) rfl;have e3:=xL.out.frozen 3;have a5:=xL.out.set 3 (.int .i64 ((gm:Int)+1));have vI:Hid (aD (Y.setCell ⟨p,3,none⟩ (.int .i64 ((gm:Int)+1))) p 133 (iq 2 true wt (gm+1) R C (.slice (some ⟨g,0,none⟩) N N) (.slice (some ⟨hb,0,none⟩) N N))):=a5;have pW:Hid (aD (Y.setCell ⟨p,3,none⟩ (.int .i64 ((gm:Int)+1))) g 65 L):=Fv.out.other _ lw;have vJ:Hid (aD (Y.setCell ⟨p,3,none⟩ (.int .i64 ((gm:Int)+1))) hb 4 ((bl.set (P+v) true).map Value.bool)):=pV.out.other _ Ls;have mX:Hid (Below B w1 (Y.setCell ⟨p,3,none⟩ (.int .i64 ((gm:Int)+1)))):=ma.out.setCell (p:=⟨p,3,none⟩) hB _;(have WH:(gm:Int)<=1600:=by omega);clear a5 xL Fv pV ma;go_wp2_with fail;clear q3 e3;generalize Y.setCell ⟨p,3,none⟩ (.int .i64 ((gm:Int)+1))=Y5 at*;have q5:=vI.out.cell (i:=5) rfl;have q6:=vI.out.cell (i:=6) rfl;have g0:=pW.out.cell hold;have g1:=pW.out.frozen (P+v);have GF:Hid (aD (Y5.setCell ⟨g,P+v,none⟩ (.int .u64 (sx:Int))).drew p 133 (iq 2 true wt (gm+1) R C (.slice (some ⟨g,0,none⟩) N N) (.slice (some ⟨hb,0,none⟩) N N))):=vI.out.other _ (fl lw);have Ai:Hid (aD (Y5.setCell ⟨g,P+v,none⟩ (.int .u64 (sx:Int))).drew g 65 (L.set (P+v) (.int .u64 (sx:Int)))):=pW.out.set _ _;have DI:Hid (aD (Y5.setCell ⟨g,P+v,none⟩ (.int .u64 (sx:Int))).drew hb 4 ((bl.set (P+v) true).map Value.bool)):=vJ.out.other _ (fl I8);have q8:Hid (Below B w1 (Y5.setCell ⟨g,P+v,none⟩ (.int .u64 (sx:Int))).drew):=(mX.out.setCell (p:=⟨g,P+v,none⟩) LL _).drew;clear vI pW vJ mX;go_region;clear q5 q6 g0 g1;generalize(Y5.setCell ⟨g,P+v,none⟩ (.int .u64 (sx:Int))).drew=Y6 at*;have p0:=GF.out.cell (i:=0) rfl;go_wp2_with fail;refine(HH.out Y6).mono ?_;rintro e Y7⟨rfl,rfl⟩;have ui:=rP (by rw[A4.out,hN]) GX.out St OM sx;rw[UF.out]at ui;(obtain rfl:res=(0,lH.lQ 2 R C (left-1) (free.eraseIdx q) (zA 2 f (u,v) sx)):=by rw[<-GC.out];unfold mH;rw[hsc,ai (by simp),HFG.out]);have Vi:=hid ui;clear ui GC p0;(have ci:Hid (jA B w1 p (0,lH.lQ 2 R C (left-1) (free.eraseIdx q) (zA 2 f (u,v) sx)) (.returned (.int .i64 0)) Y7):=by refine⟨rfl,q8.out,λ_=>⟨by omega,hR,hC,(λh=>by omega),gm+1,g,hb,bl.set (P+v) true,?_,LL,Tj,I8,lw,Ls,⟨_,Ai.out,by rw[ep,A4.out,hN],Vi.out⟩,DI.out,by rw[ep,xW.out,hN],by omega,⟨λh=>(h (by omega)).elim,λ_=>⟨Ij Br.out q,by first|exact PV.out|(intro i j;have h:=PV.out i j;simpa using h)⟩⟩⟩⟩;rw[show gm+1+(left-1)=wt by omega,hN];exact GF.out);clear GF Ai DI q8;go_wp2;go_ret;exact ci.out};{(have ZN:((se:Int)!=0)=true:=by simp;omega);(obtain rfl:res=(se,.first):=by rw[<-GC.out];unfold mH;rw[hsc,au Ej]);clear GC;go_wp2;go_ret;exact⟨rfl,ma.out,λh=>(Ej h).elim⟩}}}}
 {
 have P6:((n:Int)==3)=false:=by rw[av];omega
 obtain rfl:res=(6,.first):=by rw[<-cS.out];unfold qY;rw[au (.inr (by simp;omega))]
 clear cS;go_wp2;go_ret;exact⟨rfl,Below.refl _ _,λh=>by cases h⟩}
theorem Rb(w:World)(p B:Nat)(ao:Option Addr)(n cap:Nat)(ws:List ByteArray)(hn:ws.length=n)(jb:n<=1000000)(iF:n<=cap)(dU:∀x∈ws,x.size<=1000000)(mA:gK w ao ws)(R C left:Nat)(free:List (Nat×Nat))(f:Nat->Nat->Nat)(h:ou B w p (.lQ 3 R C left free f))(hB:B<=p):Calls prog 118 #[.pointer (some ⟨p,0,none⟩),.slice ao n cap] w λe w'=>jA B w p (qY 3 R C left free f false (ws.map (·.data.toList))) e w':=by
 obtain⟨_,hR,hC,WT,gm,g,hb,bl,aP,LL,Tj,I8,lw,Ls,⟨L,aG,GS,LK⟩,aH,oy,mj,_,o6⟩:=h;obtain⟨MR,lN⟩:=o6 (by omega);have HL:Hid (∀w:World,Calls prog 77 #[.int .i64 3] w λe w'=>e=.returned (.bool true)/\w'=w):=λw=>by simpa using mL w 3
 have HH:Hid (∀w:World,Calls prog 44 #[.int .i64 3] w λe w'=>e=.returned (.bool true)/\w'=w):=λw=>by simpa using lO w 3
 have rR:=aP.lt;have zg:R*C<=1600:=bI hR hC;obtain⟨res,dD⟩:∃res,qY 3 R C left free f false (ws.map (·.data.toList))=res:=⟨_,rfl⟩;rw[dD];have cS:=hid dD;have HP:=hid aP
 have HG:=hid aG;have Bs:=hid aH;have GX:=hid LK;have A4:=hid GS;have ms:=hid lN;have Br:=hid MR;have xW:=hid oy;have xK:=hid mA;have lj:=hid dU;have p0:=aP.cell (i:=0) rfl
 have SA:(dI 3 R C).length<=1600:=by rw[oR (by omega),bL];exact ak (iM _ _) (by rw[qd];exact zg)
 have HCR:Hid (C=R):=WT (by omega);clear WT dD aP aG aH LK GS lN MR oy mA dU o6;go_enter func118,ntmps118;go_wp2_with fail;refine(HL.out w).mono ?_;rintro e w1⟨rfl,rfl⟩
 by_cases h1:n=3;{
 subst h1;obtain⟨x0,x1,x2,rfl⟩:∃x0 x1 x2,ws=[x0,x1,x2]:=by match ws,hn with|[x0,x1,x2],_=>exact⟨x0,x1,x2,rfl⟩
 obtain⟨gw,ow,rfl,oG,_⟩:=xK.out 0 x0 (by simp);obtain⟨gw',ow',WK,_,Kc⟩:=xK.out 2 x2 (by simp);cases WK;have adB:=lj.out x2 (by simp);have tX:=hid (jp w1 (some ⟨gw,ow,none⟩) 2 cap [x0,x1] rfl (by omega) (λx hx=>lj.out x (by simp at hx;rcases hx with rfl|rfl<;>simp)) (λk x hk=>xK.out k x (by rcases k with _|_|k;{simpa using hk};{simpa using hk};{simp at hk})))
 go_wp2_with fail;refine tX.out.mono ?_;rintro e w2⟨hr,b2⟩;clear tX;rcases hr with⟨ql,rfl⟩|⟨l,v,hl,rfl,bp⟩;{
 obtain rfl:res=(6,.first):=by rw[<-cS.out];unfold qY;rw[ai (by simp)];have:cU (([x0,x1,x2].map (·.data.toList)).take 2)=none:=ql;rw[this]
 have gD:Hid (Below B w1 w2):=b2.mono (by omega);clear cS b2;go_wp2;go_ret;exact⟨rfl,gD.out,λh=>by cases h⟩};{
 obtain⟨a,b,rfl⟩:∃a b,l=[a,b]:=by have h2:=mf hl;match l,h2 with|[a,b],_=>exact⟨a,b,rfl⟩
 have ha9:a<1000000000:=kQ hl a (by simp);have hb9:b<1000000000:=kQ hl b (by simp);obtain⟨gn,vc,rfl⟩:∃gn vc,v=.slice (some ⟨gn,0,none⟩) 2 vc:=by rcases bp.2 with⟨_,h3⟩|⟨g,cap,cE,e,_⟩;{cases h3};{exact⟨g,_,e⟩}
 have n0:=bp.cellAt 0 (by simp);have n1:=bp.cellAt 1 (by simp);simp[qi]at n0 n1;have hgn:w1.heap.size<=gn:=by rcases bp.2 with⟨e,_⟩|⟨g,cap,cE,e,hb,_⟩;{cases e};{cases e;exact hb}
 obtain⟨wt,ZI⟩:∃wt,gm+left=wt:=⟨_,rfl⟩;rw[ZI]at HP;have Ag:=hid (HP.out.az b2);have UC:=hid (HG.out.az b2);have DJ:=hid (Bs.out.az b2);have gD:Hid (Below B w1 w2):=b2.mono (by omega)
 have C5:w2.cell? ⟨gw,ow+2,none⟩=some (.string x2):=(b2.cell (p:=⟨gw,ow+2,none⟩) oG).trans Kc;have qj:p<w2.heap.size:=ax rR b2.size;have aeb:gn≠p:=by omega
 have CY:gn≠g:=by have:=HG.out.lt;omega
 have aec:gn≠hb:=by have:=Bs.out.lt;omega
 have lZ:Hid ((if left=0 then(10,.first)else match qQ free ((a:Int)-1) ((b:Int)-1)with|some q=>mH 3 R C left free f q x2.data.toList|none=>(9,.first))=res):=by have h3:=cS.out;unfold qY at h3;rw[ai (by simp)]at h3;have:cU (([x0,x1,x2].map (·.data.toList)).take 2)=some [a,b]:=hl;rw[this]at h3;exact h3
 clear HP HG Bs b2 Kc oG p0 cS xK hl bp;have q2:=Ag.out.cell (i:=2) rfl;have q3:=Ag.out.cell (i:=3) rfl;by_cases CU:left=0;{
 obtain rfl:res=(10,.first):=by rw[<-lZ.out,au CU]
 have WF:((gm:Int)==(wt:Int))=true:=by rw[kO];omega
 clear lZ;go_wp2_with fail;go_quiet(fail);go_wp2;go_ret;exact⟨rfl,bj gD.out _,λh=>by cases h⟩};{
 have WF:((gm:Int)==(wt:Int))=false:=by rw[av];omega
 obtain⟨⟨i,j⟩,zd⟩:∃q,(dI 3 R C)[gm]?=some q:=⟨(dI 3 R C)[gm]'(by omega),by simp⟩;have Xz:=hid zd;clear zd;have sH:Hid ((match qQ free ((a:Int)-1) ((b:Int)-1)with|some q=>mH 3 R C left free f q x2.data.toList|none=>(9,.first))=res):=by have:=lZ.out;rw[ai CU]at this;exact this
 go_wp2_with fail;go_quiet(fail);have xc:Hid (aD (w2.drewN nq) p 133 (iq 3 true wt gm R C (.slice (some ⟨g,0,none⟩) (R*C) (R*C)) (.slice (some ⟨hb,0,none⟩) (R*C) (R*C)))):=Ag.out
 have Km:Hid (aD (w2.drewN nq) g 65 L):=UC.out;have Ah:Hid (aD (w2.drewN nq) hb 4 (bl.map Value.bool)):=DJ.out;have kM:Hid (Below B w1 (w2.drewN nq)):=bj gD.out nq
 have Gf:(w2.drewN nq).cell? ⟨gw,ow+2,none⟩=some (.string x2):=C5;have n03:(w2.drewN nq).cell? ⟨gn,0,none⟩=some (.int .i64 (a:Int)):=n0;have n13:(w2.drewN nq).cell? ⟨gn,1,none⟩=some (.int .i64 (b:Int)):=n1
 have SB:p<(w2.drewN nq).heap.size:=qj;clear Ag UC DJ gD C5 qj q2 q3 n0 n1 lZ;generalize w2.drewN nq=Z at*;have xV:=hid (vQ Z p 3 R C wt gm i j true _ _ (by omega) hR hC (by omega) xc.out Xz.out)
 have p0:=xc.out.cell (i:=0) rfl;go_wp2_with fail;refine xV.out.mono ?_;rintro e Z'⟨rfl,rfl⟩;clear xV Xz;go_wp2_with fail;refine(HL.out Z').mono ?_;rintro e JQ⟨rfl,rfl⟩
 obtain⟨ii,hii⟩:∃ii:Int,(a:Int)-1=ii:=⟨_,rfl⟩;obtain⟨jj,hjj⟩:∃jj:Int,(b:Int)-1=jj:=⟨_,rfl⟩;have Lr:-1<=ii:=by omega
 have UY:ii<=999999999:=by omega
 have zb:-1<=jj:=by omega
 have GP:jj<=999999999:=by omega
 rw[hii,hjj]at sH;obtain⟨N,hN⟩:∃N,R*C=N:=⟨_,rfl⟩;rw[hN]at xc A4 zg xW;have r0:=xc.out.cell (i:=0) rfl;have r4:=xc.out.cell (i:=4) rfl;have r5:=xc.out.cell (i:=5) rfl
 have r7:=xc.out.cell (i:=7) rfl;go_wp2_with fail;have oz:(∀i j:Nat,(i:Int)=ii->(j:Int)=jj->(i,j)∉free)->Hid (res=(9,.first)):=λh=>by show _=_;rw[<-sH.out,IP h]
 by_cases k1:ii<0;{(have t1:decide (ii<0)=true:=by simpa using k1);obtain rfl:=(oz (λi j h1 _ _=>by omega)).out;clear oz sH;go_quiet(first|(go_at_call 44;exact Calls.quiet_of_same (HH.out _)));go_wp2;go_ret;exact⟨rfl,bj kM.out _,λh=>by cases h⟩}
 have t1:decide (ii<0)=false:=by simpa using k1
 by_cases k2:(R:Int)<=ii;{
 have t2:decide ((R:Int)<=ii)=true:=by simpa using k2
 obtain rfl:=(oz (λi j h1 h2 hm=>by have:=((ms.out i j).1 hm).1;omega)).out;clear oz sH;go_quiet(first|(go_at_call 44;exact Calls.quiet_of_same (HH.out _)));go_wp2
 go_ret;exact⟨rfl,bj kM.out _,λh=>by cases h⟩};have t2:decide ((R:Int)<=ii)=false:=by simpa using k2
 by_cases k3:jj<0;{(have t3:decide (jj<0)=true:=by simpa using k3);obtain rfl:=(oz (λi j h1 h2 _=>by omega)).out;clear oz sH;go_quiet(first|(go_at_call 44;exact Calls.quiet_of_same (HH.out _)));go_wp2;go_ret;exact⟨rfl,bj kM.out _,λh=>by cases h⟩}
 have t3:decide (jj<0)=false:=by simpa using k3
 by_cases k4:(C:Int)<=jj;{
 have t4:decide ((C:Int)<=jj)=true:=by simpa using k4
 obtain rfl:=(oz (λi j h1 h2 hm=>by have:=((ms.out i j).1 hm).2.1;omega)).out;clear oz sH;go_quiet(first|(go_at_call 44;exact Calls.quiet_of_same (HH.out _)));go_wp2
 go_ret;exact⟨rfl,bj kM.out _,λh=>by cases h⟩};have t4:decide ((C:Int)<=jj)=false:=by simpa using k4
 obtain⟨u,rfl⟩:∃u:Nat,ii=(u:Int):=⟨ii.toNat,by omega⟩;obtain⟨v,rfl⟩:∃v:Nat,jj=(v:Int):=⟨jj.toNat,by omega⟩;have St:u<R:=by omega
 have OM:v<C:=by omega
 have t2':decide (R<=u)=false:=by simpa using St
 have t4':decide (C<=v)=false:=by simpa using OM
 obtain⟨P,hPi⟩:∃P:Nat,(u:Int)*(C:Int)=(P:Int):=⟨u*C,by push_cast;rfl⟩;have eP:u*C=P:=by(have:((u*C:Nat):Int)=P:=by push_cast;exact hPi);omega
 have UF:=hid eP;have O5:P+v<N:=by have:=gz St OM;omega
 have aaC:(P:Int)+v<N:=by omega
 clear eP;by_cases k5:u<v;{
 have t5:decide ((u:Int)<(v:Int))=true:=by simpa using k5
 have t5':decide (u<v)=true:=by simpa using k5
 obtain rfl:=(oz (λi j h1 h2 hm=>by have:=((ms.out i j).1 hm).2.2.1 (by first|trivial|rfl);omega)).out;clear oz sH;go_quiet(first|(go_at_call 44;exact Calls.quiet_of_same (HH.out _)))
 go_wp2;go_ret;exact⟨rfl,bj kM.out _,λh=>by cases h⟩};have t5:decide ((u:Int)<(v:Int))=false:=by simpa using k5
 have t5':decide (u<v)=false:=by simpa using k5
 obtain⟨bb,LH⟩:∃x,bl[P+v]?=some x:=⟨bl[P+v]'(by rw[xW.out];exact O5),by simp⟩;have DY:=hid LH;have hc:=Ah.out.cell (i:=P+v) (v:=.bool bb) (by simp[LH]);clear LH
 cases bb with|true=>obtain rfl:=(oz (λi j h1 h2 hm=>by have h3:=((ms.out i j).1 hm).2.2.2;(obtain rfl:i=u:=by omega);(obtain rfl:j=v:=by omega);rw[UF.out,DY.out]at h3;cases h3)).out;clear oz sH;go_quiet(first|(go_at_call 44;exact Calls.quiet_of_same (HH.out _)));go_wp2;go_ret;exact⟨rfl,bj kM.out _,λh=>by cases h⟩|false=>obtain⟨q,GK,DQ⟩:=IM ((ms.out u v).2 ⟨St,OM,λ_=>by omega,by rw[UF.out];exact DY.out⟩);have HQ:=hid DQ;(have GC:Hid (mH 3 R C left free f q x2.data.toList=res):=by have:=sH.out;rw[GK]at this;exact this);clear GK DQ oz sH;go_quiet(first|(go_at_call 44;exact Calls.quiet_of_same (HH.out _)));clear r0 r4 r5 r7 hc n03 n13;have xL:Hid (aD (JQ.drewN nq) p 133 (iq 3 true wt gm R C (.slice (some ⟨g,0,none⟩) N N) (.slice (some ⟨hb,0,none⟩) N N))):=xc.out;have Fv:Hid (aD (JQ.drewN nq) g 65 L):=Km.out;have pV:Hid (aD (JQ.drewN nq) hb 4 (bl.map Value.bool)):=Ah.out;have ma:Hid (Below B w1 (JQ.drewN nq)):=bj kM.out nq;have Mo:Hid ((JQ.drewN nq).cell? ⟨gw,ow+2,none⟩=some (.string x2)):=Gf;clear xc Km Ah kM Gf SB p0;generalize JQ.drewN nq=Z4 at*;have r5:=xL.out.cell (i:=5) rfl;have r7:=xL.out.cell (i:=7) rfl;have c0:=pV.out.cell (i:=P+v) (v:=.bool false) (by simp[DY.out]);have c1:=pV.out.frozen (P+v);(have Lu:gw≠hb:=by rintro rfl;have:=pV.out.val Mo.out;simp at this);have vI:Hid (aD (Z4.setCell ⟨hb,P+v,none⟩ (.bool true)).drew p 133 (iq 3 true wt gm R C (.slice (some ⟨g,0,none⟩) N N) (.slice (some ⟨hb,0,none⟩) N N))):=xL.out.other _ (fl Ls);have pW:Hid (aD (Z4.setCell ⟨hb,P+v,none⟩ (.bool true)).drew g 65 L):=Fv.out.other _ I8;(have vJ:Hid (aD (Z4.setCell ⟨hb,P+v,none⟩ (.bool true)).drew hb 4 ((bl.set (P+v) true).map Value.bool)):=by show aD _ _ _ _;rw[qc];exact pV.out.set _ _);have mX:Hid (Below B w1 (Z4.setCell ⟨hb,P+v,none⟩ (.bool true)).drew):=(ma.out.setCell (p:=⟨hb,P+v,none⟩) Tj _).drew;have UH:Hid ((Z4.setCell ⟨hb,P+v,none⟩ (.bool true)).drew.cell? ⟨gw,ow+2,none⟩=some (.string x2)):=(World.cell?_setCell_far _ _ _ _ (by first|exact Lu|exact fl Lu)).trans Mo.out;clear xL Fv pV ma Mo;go_wp2_with fail;go_region;clear r5 r7 c0 c1 Lu;generalize(Z4.setCell ⟨hb,P+v,none⟩ (.bool true)).drew=Z5 at*;(have PV:Hid (∀i j,(i,j)∈free.eraseIdx q↔(i<R/\j<C/\(3=3->j<=i)/\(bl.set (P+v) true)[i*C+j]?=some false)):=by have h8:=Nb (H:=λi j=>3=3->j<=i) Br.out HQ.out OM (by rw[UF.out,xW.out];exact O5) (by first|exact ms.out|(intro i j;have h:=ms.out i j;simpa using h));rw[UF.out]at h8;exact h8);(have HFG:Hid (free.getD q (0,0)=(u,v)):=by show _=_;rw[fu,HQ.out];rfl);have hc5:=UH.out;have tW:=hid (rJ Z5 x2 (by unfold maxLen;omega));obtain⟨sx,se,hsc⟩:∃sx se,eT x2.data.toList=(sx,se):=⟨_,_,rfl⟩;rw[hsc]at tW;simp only at tW;go_wp2_with fail;refine tW.out.mono ?_;rintro e Y⟨rfl,bY⟩;have xL:=hid (vI.out.az bY);have Fv:=hid (pW.out.az bY);have pV:=hid (vJ.out.az bY);have ma:Hid (Below B w1 Y):=mX.out.trans (bY.mono (by have:=vI.out.lt;omega));clear tW bY vI pW vJ mX UH hc5;by_cases Ej:se=0;{subst Ej;obtain⟨old,hold⟩:∃v',L[P+v]?=some v':=⟨L[P+v]'(by rw[A4.out];exact O5),by simp⟩;have q3:=xL.out.cell (i:=3) rfl;have e3:=xL.out.frozen 3;have a5:=xL.out.set 3 (.int .i64 ((gm:Int)+1));have vI:Hid (aD (Y.setCell ⟨p,3,none⟩ (.int .i64 ((gm:Int)+1))) p 133 (iq 3 true wt (gm+1) R C (.slice (some ⟨g,0,none⟩) N N) (.slice (some ⟨hb,0,none⟩) N N))):=a5;have pW:Hid (aD (Y.setCell ⟨p,3,none⟩ (.int .i64 ((gm:Int)+1))) g 65 L):=Fv.out.other _ lw;have vJ:Hid (aD (Y.setCell ⟨p,3,none⟩ (.int .i64 ((gm:Int)+1))) hb 4 ((bl.set (P+v) true).map Value.bool)):=pV.out.other _ Ls;have mX:Hid (Below B w1 (Y.setCell ⟨p,3,none⟩ (.int .i64 ((gm:Int)+1)))):=ma.out.setCell (p:=⟨p,3,none⟩) hB _;(have WH:(gm:Int)<=1600:=by omega);clear a5 xL Fv pV ma;go_wp2_with fail;clear q3 e3;generalize Y.setCell ⟨p,3,none⟩ (.int .i64 ((gm:Int)+1))=Y5 at*;have q5:=vI.out.cell (i:=5) rfl;have q6:=vI.out.cell (i:=6) rfl;have g0:=pW.out.cell hold;have g1:=pW.out.frozen (P+v);have GF:Hid (aD (Y5.setCell ⟨g,P+v,none⟩ (.int .u64 (sx:Int))).drew p 133 (iq 3 true wt (gm+1) R C (.slice (some ⟨g,0,none⟩) N N) (.slice (some ⟨hb,0,none⟩) N N))):=vI.out.other _ (fl lw);have Ai:Hid (aD (Y5.setCell ⟨g,P+v,none⟩ (.int .u64 (sx:Int))).drew g 65 (L.set (P+v) (.int .u64 (sx:Int)))):=pW.out.set _ _;have DI:Hid (aD (Y5.setCell ⟨g,P+v,none⟩ (.int .u64 (sx:Int))).drew hb 4 ((bl.set (P+v) true).map Value.bool)):=vJ.out.other _ (fl I8);have q8:Hid (Below B w1 (Y5.setCell ⟨g,P+v,none⟩ (.int .u64 (sx:Int))).drew):=(mX.out.setCell (p:=⟨g,P+v,none⟩) LL _).drew;clear vI pW vJ mX;go_region;clear q5 q6 g0 g1;generalize(Y5.setCell ⟨g,P+v,none⟩ (.int .u64 (sx:Int))).drew=Y6 at*;have p0:=GF.out.cell (i:=0) rfl;go_wp2_with fail;refine(HH.out Y6).mono ?_;rintro e Y7⟨rfl,rfl⟩;have ui:=rP (by rw[A4.out,hN]) GX.out St OM sx;rw[UF.out]at ui;(obtain rfl:res=(0,lH.lQ 3 R C (left-1) (free.eraseIdx q) (zA 3 f (u,v) sx)):=by rw[<-GC.out];unfold mH;rw[hsc,ai (by simp),HFG.out]);have Vi:=hid ui;clear ui GC p0;obtain rfl:C=R:=HCR.out;obtain⟨Q,hQi⟩:∃Q:Nat,(v:Int)*(C:Int)=(Q:Int):=⟨v*C,by push_cast;rfl⟩;(have eQ:v*C=Q:=by(have:((v*C:Nat):Int)=Q:=by push_cast;exact hQi);omega);(have hQj:Q+u<N:=by have:=gz (R:=C) (C:=C) OM St;omega);(have aeB:(Q:Int)+u<N:=by omega);obtain⟨adv,SF⟩:∃v',(L.set (P+v) (.int .u64 (sx:Int)))[Q+u]?=some v':=⟨(L.set (P+v) (.int .u64 (sx:Int)))[Q+u]'(by rw[ep,A4.out];exact hQj),by simp⟩;have q5:=GF.out.cell (i:=5) rfl;have q6:=GF.out.cell (i:=6) rfl;have g0:=Ai.out.cell SF;have g1:=Ai.out.frozen (Q+u);have Lk:=rP (R:=C) (C:=C) (by rw[ep,A4.out,hN]) Vi.out OM St sx;rw[eQ]at Lk;(have ci:Hid (jA B w1 p (0,lH.lQ 3 C C (left-1) (free.eraseIdx q) (zA 3 f (u,v) sx)) (.returned (.int .i64 0)) (Y7.setCell ⟨g,Q+u,none⟩ (.int .u64 (sx:Int))).drew):=by refine⟨rfl,(q8.out.setCell (p:=⟨g,Q+u,none⟩) LL _).drew,λ_=>⟨by omega,hR,hC,(λ_=>rfl),gm+1,g,hb,bl.set (P+v) true,?_,LL,Tj,I8,lw,Ls,⟨_,Ai.out.set _ _,by rw[ep,ep,A4.out,hN],Lk⟩,DI.out.other _ (fl I8),by rw[ep,xW.out,hN],by omega,⟨λh=>(h (by omega)).elim,λ_=>⟨Ij Br.out q,by first|exact PV.out|(intro i j;have h:=PV.out i j;simpa using h)⟩⟩⟩⟩;rw[show gm+1+(left-1)=wt by omega,hN];exact GF.out.other _ (fl lw));clear GF Ai DI q8 Lk;go_wp2_with fail;go_region;clear q5 q6 g0 g1;go_wp2;go_ret;exact ci.out};{(have ZN:((se:Int)!=0)=true:=by simp;omega);(obtain rfl:res=(se,.first):=by rw[<-GC.out];unfold mH;rw[hsc,au Ej]);clear GC;go_wp2;go_ret;exact⟨rfl,ma.out,λh=>(Ej h).elim⟩}}}}
 {
 have P6:((n:Int)==3)=false:=by rw[av];omega
 obtain rfl:res=(6,.first):=by rw[<-cS.out];unfold qY;rw[au (.inr (by simp;omega))]
 clear cS;go_wp2;go_ret;exact⟨rfl,Below.refl _ _,λh=>by cases h⟩}
end Go.Proofs.YthdcceackfdbbaaGreatDoor
