import Derived.Test.YthdcceackfdbbaaGreatDoorS20A
set_option linter.unusedSimpArgs false
set_option maxRecDepth 20000
set_option maxHeartbeats 2000000
open Go.RowKit Go.Proofs.Tryz
namespace Go.Proofs.YthdcceackfdbbaaGreatDoor
inductive lH where|first|jy(k:Nat)|lQ(k R C left:Nat)(free:List (Nat×Nat))(f:Nat->Nat->Nat)
def pN(k:Nat):Nat:=if k=2\/k=3 then 213 else 214
def gj(w:World)(p:Nat)(S:Nat->Prop)(cE:List UInt8):lH->Prop|.first=>S p/\∃bytes,aD w p 167 (D7 (gT 114 p) bytes 0 0 0 (.slice none 0 0) false (.slice none 0 0) 0)/\cL w S 5 1 bytes cE.length (jQ cE)|.jy k=>k<=3/\S p/\∃bytes,aD w p 167 (D7 (gT 149 p) bytes k 0 0 (.slice none 0 0) false (.slice none 0 0) 0)/\cL w S 5 1 bytes cE.length (jQ cE)|.lQ k R C left free f=>∃bytes g fv,lS w p S (gT (pN k) p) bytes g fv k R C left free f cE
def jV(w:World)(p:Nat)(S:Nat->Prop)(r:Nat×lH)(e:Ending)(w':World):Prop:=∃st:Value,e=.returned (.tuple #[st,.int .i64 (r.1:Int)])/\(∃F a b,st=.func F a b\/st=.nilFunc)/\Kept S w w'/\(∃c,aD w' p 167 c/\c.length=9)/\(r.1=0->gj (w'.setCell ⟨p,0,none⟩ st) p (wJ S w w') [] r.2)
def yM(k:Nat):List (List UInt8):=(fG k).map (·.data.toList)
def oB(ws:List (List UInt8)):Option Nat:=[0,1,2,3].find? λk=>decide (ws=yM k)
def firstT(ws:List (List UInt8)):Nat×lH:=match oB ws with|some k=>(0,.jy k)|none=>(6,.first)
theorem Gx{a b:ByteArray}(h:a.data.toList=b.data.toList):a=b:=by cases a;cases b;simp at h;rw[h]
theorem tC:∀{a b:List ByteArray},a.map (·.data.toList)=b.map (·.data.toList)->a=b|[],[],_=>rfl|[],_::_,h=>by simp at h|_::_,[],h=>by simp at h|x::r,y::s,h=>by simp only[sK,Qm]at h;rw[Gx h.1,tC h.2]
theorem AK{ws:List ByteArray}{k:Nat}(hk:k<=3)(h:ws=fG k)(hn:∀j,j<k->ws≠fG j):oB (ws.map (·.data.toList))=some k:=by
 unfold oB;have hj:∀j,j<k->decide (ws.map (·.data.toList)=yM j)=false:=λj hj=>by simp only[eH];exactλe=>hn j hj (tC e)
 have l8:decide (ws.map (·.data.toList)=yM k)=true:=by simp[yM,h]
 rcases(by omega:k=0\/k=1\/k=2\/k=3)with rfl|rfl|rfl|rfl;{simp only[List.find?,l8]};{simp only[List.find?,l8,hj 0 (by omega)]};{simp only[List.find?,l8,hj 0 (by omega),hj 1 (by omega)]}
 {simp only[List.find?,l8,hj 0 (by omega),hj 1 (by omega),hj 2 (by omega)]}
theorem AL{ws:List ByteArray}(hn:∀j,j<4->ws≠fG j):oB (ws.map (·.data.toList))=none:=by
 unfold oB;have hj:∀j,j<4->decide (ws.map (·.data.toList)=yM j)=false:=λj hj=>by simp only[eH];exactλe=>hn j hj (tC e)
 simp only[List.find?,hj 0 (by omega),hj 1 (by omega),hj 2 (by omega),hj 3 (by omega)]
theorem nJ(k:Nat):(fG k).length=5:=by unfold fG;split<;>rfl
theorem adx(k:Nat)(hk:k<4)(w:World):(Instr.index 214 (.agg #[.int .i64 0,.int .i64 1,.int .i64 2,.int .i64 3]) (.int .i64 (k:Int))).run prog w=.ok (.int .i64 (k:Int)) w:=by rcases(by omega:k=0\/k=1\/k=2\/k=3)with rfl|rfl|rfl|rfl;{kernel_rfl};{kernel_rfl};{kernel_rfl};{kernel_rfl}
theorem Pl(w:World)(A n B k:Nat)(ws:List ByteArray)(hn:ws.length=n)(jb:n<=1000000)(hs:gK w (some ⟨A,0,none⟩) ws)(hb:aD w B 9 ((fG k).map Value.string)):Calls prog 148 #[.slice (some ⟨A,0,none⟩) n n,.slice (some ⟨B,0,none⟩) 5 5] w λe w'=>e=.returned (.bool (decide (ws=fG k)))/\∃q,w'=w.drewN q:=by
 have hl:=nJ k;by_cases h5:n=5;{
 subst h5;refine(slices_Equal_string A 0 5 5 B 0 5 5 ws (fG k) w (by omega) (by omega) (by omega) (by omega) ?_ ?_).mono ?_;{intro j hj;obtain⟨g,off,h1,_,h2⟩:=hs j ws[j] (by simp[hj]);cases h1;rw[h2];simp[hj]}
 {intro j hj;rw[cA];refine hb.cell ?_;rw[bN];simp[hj]};{rintro e w'⟨rfl,hq⟩;refine⟨?_,hq⟩;rw[aI (by omega),aI (by omega)]}};{refine(slices_Equal_string_lens (some ⟨A,0,none⟩) (some ⟨B,0,none⟩) n n 5 5 w h5).mono ?_;rintro e w'⟨rfl,rfl⟩;refine⟨?_,0,(World.drewN_zero _).symm⟩;have:¬ws=fG k:=λe=>h5 (by rw[<-hn,e,hl]);simp[this]}
theorem LN(w:World)(p:Nat)(S:Nat->Prop)(A n:Nat)(ws:List ByteArray)(c:Bool)(hn:ws.length=n)(jb:n<=1000000)(hs:gK w (some ⟨A,0,none⟩) ws)(h:gj w p S [] .first):Calls prog 114 #[.pointer (some ⟨p,0,none⟩),lM A n c] w λe w'=>jV w p S (firstT (ws.map (·.data.toList))) e w':=by
 have fX:prog.follows .mixedOrders=true:=by kernel_rfl
 have BM:∀(fn:Fn)(first cap:Array Value)(w:World),(Instr.makeFunc fn first cap).run prog w=.ok (.func fn first cap) w:=λ_ _ _ _=>rfl;obtain⟨hS,bytes,ha,hr⟩:=h;obtain⟨b,hb⟩:∃b,w.heap.size=b:=⟨_,rfl⟩
 obtain⟨res,dD⟩:∃res,firstT (ws.map (·.data.toList))=res:=⟨_,rfl⟩;rw[dD];have cS:=hid dD;have A5:=hid ha;have HR:=hid hr;have HS:=hid hs;have HN:=hid hn;clear dD ha hr hs hn
 unfold lM;go_enter func114,ntmps114;go_wp2_with fail;obtain⟨V,hV⟩:∃V,w.alloc (.cells #[.slice (some ⟨A,0,none⟩) n n,.bool c] 213)=V:=⟨_,rfl⟩;have aV:aD V b 213 [.slice (some ⟨A,0,none⟩) n n,.bool c]:=by rw[<-hV,<-hb];exact aD.dT w _ _
 have bV:Below b w V:=by rw[<-hV,<-hb];exact Below.cj _ _
 rw[hV];clear hV;go_loopw[9](λi wr=>∃k:Nat,k<=4/\i=.int .i64 (k:Int)/\Below b w wr/\aD wr b 213 [.slice (some ⟨A,0,none⟩) n n,.bool c]/\Hid (∀j,j<k->ws≠fG j))(λi _=>4-(intOf i).toNat)
 case atStart=>exact⟨0,by omega,rfl,bV,aV,λj h=>by omega⟩
 case round=>obtain⟨k,hk,rfl,bR,aR,HJ⟩:=hrel;by_cases di:k<4;{(have fJ:(k:Int)<4:=by omega);have hix:=adx k di;go_wp2_with fail;clear hix;refine wp_region_held (S:=λW'=>aD W' b 213 [.slice (some ⟨A,0,none⟩) n n,.bool c]) fX ?_;change wpAnyH _ _ _ _ _ _ _ _ wr.drew;have li:aD wr.drew b 213 [.slice (some ⟨A,0,none⟩) n n,.bool c]:=aR.drew;have b1:Below b w wr.drew:=bR.drew;clear aR bR;generalize wr.drew=Wd at*;refine tk 0 (.pointer (some ⟨b,0,none⟩)) rfl (λW' hS=>?_) li ?_;{clear hS;go_simp};simp only[Act.put];refine tk 1 (.slice (some ⟨A,0,none⟩) n n) rfl (λW' hS=>?_) li ?_;{have q0:=hS.cell (i:=0) rfl;clear hS;go_simp};simp only[Act.put];refine tk 2 (.int .i64 (k:Int)) rfl (λW' hS=>?_) li ?_;{clear hS;go_simp};simp only[Act.put];refine wpAnyH_ready (rs:=[3]) (by kernel_rfl) (by simp) ?_;refine AllReadyH.cons rfl (λK df=>?_) AllReadyH.nil;go_simp;refine(Fi Wd k (by omega)).mono ?_;rintro e W2⟨rfl,wN⟩;(have q2:aD W2 Wd.heap.size 9 ((fG k).map Value.string):=by rw[wN];exact aD.dT _ _ _);(have b2:Below Wd.heap.size Wd W2:=by rw[wN];exact Below.cj _ _);have oc:=li.az b2;have bz:=b1.size;have b3:Below b w W2:=b1.trans (b2.mono (by omega));refine df.out _ _ oc (λhHeld=>?_);clear df hHeld li wN;have WI:=Pl W2 A n Wd.heap.size k ws HN.out jb (HS.out.below (hb▸b3)) q2;obtain⟨ev,MW⟩:∃ev,decide (ws=fG k)=ev:=⟨_,rfl⟩;rw[MW]at WI;have Vl:=hid MW;clear MW;refine wpAnyH_ready (rs:=[4]) (by kernel_rfl) (by simp) ?_;refine AllReadyH.cons rfl (λK df=>?_) AllReadyH.nil;go_simp;refine WI.mono ?_;rintro e W3⟨rfl,q,n8⟩;(have qW:aD W3 b 213 [.slice (some ⟨A,0,none⟩) n n,.bool c]:=by rw[n8];exact oc.drewN q);(have b4:Below b w W3:=by rw[n8];exact bj b3 q);refine df.out _ _ qW (λhHeld=>?_);clear df hHeld n8 oc b3 b2 q2 WI;refine wpAnyH_done (by kernel_rfl) ?_ _;cases ev with|true=>(have mA:ws=fG k:=by have:=Vl.out;simpa using this);(have Yc:res=(0,.jy k):=by rw[<-cS.out];unfold firstT;rw[AK (by omega) mA HJ.out]);have a3:aD W3 p 167 _:=A5.out.az (hb▸b4);have x2:=a3.cell (i:=2) rfl;have y2:=a3.frozen 2;(have ci:Hid (jV w p S res (.returned (.tuple #[gT 149 p,.int .i64 0])) (W3.setCell ⟨p,2,none⟩ (.int .i64 (k:Int)))):=by have a4:=a3.set 2 (.int .i64 (k:Int));have nx:Kept S w (W3.setCell ⟨p,2,none⟩ (.int .i64 (k:Int))):=(Kept.cK (hb▸b4)).trans (Kept.set (S:=S) hS _) (λq h=>.inl h);rw[Yc];refine⟨_,rfl,⟨_,_,_,.inl rfl⟩,nx,⟨_,a4,rfl⟩,λ_=>⟨by omega,.inl hS,bytes,a4.set 0 (gT 149 p),?_⟩⟩;exact(((HR.out.below (hb▸b4)).set a3 (by decide) _).set a4 (by decide) _).mono (λq h=>.inl h));clear a3 b4 qW mA Yc;unfold gT at ci;go_wp2;go_ret2;exact ci.out|false=>(have mA:ws≠fG k:=by have:=Vl.out;simpa using this);go_wp2;go_round;(case rel=>exact⟨k+1,by omega,by simp,b4,qW,λj hj=>by by_cases e:j=k;{subst e;exact mA};{exact HJ.out j (by omega)}⟩);case measure=>simp[intOf];omega};{(obtain rfl:k=4:=by omega);(have hr6:res=(6,.first):=by rw[<-cS.out];unfold firstT;rw[AL HJ.out]);subst hr6;have ci:Hid (jV w p S (6,.first) (.returned (.tuple #[.nilFunc,.int .i64 6])) wr):=⟨_,rfl,⟨default,default,default,.inr rfl⟩,Kept.cK (hb▸bR),⟨_,A5.out.az (hb▸bR),rfl⟩,λh=>by simp at h⟩;clear bR aR;go_wp2;go_ret2;exact ci.out}
def tR(k:Nat):Option (List Nat)->Nat×lH|some [r,c]=>if dM k r c≠0 then(dM k r c,.first)else(0,.lQ k r c (dI k r c).length (dI k r c) (λ_ _=>0))|_=>(6,.first)
def si(k:Nat):Option (List Nat)->Nat×lH|some [r,c,n]=>if dM k r c≠0 then(dM k r c,.first)else if(dI k r c).length<n then(10,.first)else(0,.lQ k r c n (dI k r c) (λ_ _=>0))|_=>(6,.first)
def jX(k:Nat)(c:Bool)(ws:List (List UInt8)):Nat×lH:=if c then(0,.jy k)else if k=2\/k=3 then si k (cU ws)else tR k (cU ws)
theorem kQ:∀{ws:List (List UInt8)}{l:List Nat},cU ws=some l->∀n∈l,n<1000000000|[],l,h,n,hn=>by simp[cU]at h;subst h;simp at hn|x::r,l,h,n,hn=>by simp only[cU]at h;cases hx:iN x with|none=>rw[hx]at h;simp at h|some a=>cases hr:cU r with|none=>rw[hx,hr]at h;simp at h|some b=>rw[hx,hr]at h;simp only[fw]at h;subst h;rcases mb.1 hn with rfl|h2;{unfold iN at hx;split at hx;{rename_i hc;cases hx;exact Dg (λx hx=>by have:=ij.1 hc.2 x hx;exact this) hc.1};{cases hx}};{exact kQ hr n h2}
theorem mf:∀{ws:List (List UInt8)}{l:List Nat},cU ws=some l->l.length=ws.length|[],l,h=>by simp[cU]at h;subst h;rfl|x::r,l,h=>by simp only[cU]at h;cases hx:iN x with|none=>rw[hx]at h;simp at h|some a=>cases hr:cU r with|none=>rw[hx,hr]at h;simp at h|some b=>rw[hx,hr]at h;simp only[fw]at h;subst h;simp[mf hr]
theorem ints_at{w:World}{B:Nat}{v:Value}{n:Nat}{l:List Nat}(h:w.ownsRow B 3 1 v n (qi l)):∃ao cap,v=.slice ao n cap/\n=l.length/\(1<=n->∃g:Nat,ao=some ⟨g,0,none⟩/\B<=g/\g<w.heap.size/\∀(k x:Nat),l[k]?=some x->w.cell? ⟨g,k,none⟩=some (.int .i64 (x:Int))):=by
 obtain⟨hl,⟨rfl,rfl⟩|⟨g,cap,cE,rfl,hB,hg,_,_,P5,mN⟩⟩:=h;{refine⟨none,0,rfl,?_,λh=>by omega⟩;simp[qi]at hl;simp[hl]};{
 have AE:n=l.length:=by simp[qi]at hl;omega
 refine⟨_,cap,rfl,AE,λ_=>⟨g,rfl,hB,(aO.1 hg).1,λk x hx=>?_⟩⟩;have hk:=(ar.1 hx).1;have h1:(qi l)[k]?=some (.int .i64 (x:Int)):=by unfold qi;rw[bN,hx];rfl
 rw[<-mN,dC,au (by omega)]at h1;simp only[World.cell?,hg];simpa using h1}
theorem AP{w w':World}{p:Nat}{S:Nat->Prop}{st bytes:Value}{g:Nat}{fv:Value}{k R C abD:Nat}(left:Nat)(QF:Value)(hS:S p)(xR:k<=3)(hE:dM k R C=0)(hk:Kept (λq=>q=p) w w')(ha:aD w' p 167 (D7 st bytes k R C (.slice (some ⟨g,0,none⟩) (R*C) (R*C)) true fv abD))(hg:w.heap.size<=g)(hz:aD w' g 65 (List.replicate (R*C) (.int .u64 0)))(hf:w'.ownsRow w.heap.size 117 2 fv (dI k R C).length (jR (dI k R C)))(h0:∃c,aD w p 167 c)(hr:cL w S 5 1 bytes 0 (jQ []))(hl:left<=(dI k R C).length):lS ((w'.setCell ⟨p,8,none⟩ (.int .i64 (left:Int))).setCell ⟨p,0,none⟩ QF) p (wJ S w (w'.setCell ⟨p,8,none⟩ (.int .i64 (left:Int)))) QF bytes g fv k R C left (dI k R C) (λ_ _=>0) []:=by
 obtain⟨c0,qo⟩:=h0;have zg:R<=40/\C<=40/\((k=1\/k=3)->R=C):=by unfold dM at hE;split at hE;{cases hE};{split at hE;{cases hE};{rename_i h1 h2;exact⟨by omega,by omega,λh=>iK λe=>h2 ⟨h,e⟩⟩}}
 have Bg:=qo.lt;have DR:g≠p:=by omega
 have a1:=ha.set 8 (.int .i64 (left:Int));have a2:=a1.set 0 QF;have g1:aD (w'.setCell ⟨p,8,none⟩ (.int .i64 (left:Int))) g _ _:=hz.other (i:=8) (.int .i64 (left:Int)) DR
 have g2:aD ((w'.setCell ⟨p,8,none⟩ (.int .i64 (left:Int))).setCell ⟨p,0,none⟩ QF) g _ _:=g1.other QF DR;have rb:cL w' S 5 1 bytes 0 (jQ []):=hr.keep (λq hq=>hk.block q (hr.lt q hq).1 (λe=>by obtain⟨_,c,hc⟩:=hr.lt q hq;rw[e,show w.heap[p]?=_ from qo]at hc;simp at hc))
 have rf:cL w' (wJ S w w') 117 2 fv (dI k R C).length (jR (dI k R C)):=by refine⟨jr hf (ap _),λq hq=>.inr ?_⟩;obtain⟨_,⟨h1,_⟩|⟨g',cap,cE,h1,h2,h3,_⟩⟩:=hf;{rw[h1]at hq;cases hq};{rw[h1]at hq;obtain rfl:g'=q:=cI hq;exact⟨h2,(aO.1 h3).1⟩}
 have dU:(w'.setCell ⟨p,8,none⟩ (.int .i64 (left:Int))).heap.size=w'.heap.size:=by simp[World.setCell]
 have rR:∀q,wJ S w w' q->wJ S w (w'.setCell ⟨p,8,none⟩ (.int .i64 (left:Int))) q:=λq hq=>hq.imp id (λh=>⟨h.1,by rw[dU];exact h.2⟩);refine⟨.inl hS,a2,?_,.inr ⟨hg,by rw[dU];exact hz.lt⟩,⟨_,g2,by simp⟩,⟨g2.lt,λi j hi hj=>g2.cell ?_⟩,?_,xR,zg.1,zg.2.1,zg.2.2,λq hq=>VL hq,uR zg.1 zg.2.1,hl⟩
 {exact((rb.set ha (by decide) _).set a1 (by decide) _).mono (λq h=>.inl h)};{have:=gz hi hj;rw[ft,au this];rfl};{exact((rf.mono rR).set ha (by decide) _).set a1 (by decide) _}
theorem Bo(w:World)(p:Nat)(S:Nat->Prop)(k A n:Nat)(ws:List ByteArray)(c:Bool)(hk:k<=3)(l8:¬(k=2\/k=3))(hn:ws.length=n)(jb:n<=1000000)(dU:∀x∈ws,x.size<=1000000)(hs:gK w (some ⟨A,0,none⟩) ws)(h:gj w p S [] (.jy k)):Calls prog 181 #[.pointer (some ⟨p,0,none⟩),lM A n c] w λe w'=>jV w p S (tR k (cU (ws.map (·.data.toList)))) e w':=by
 have fX:prog.follows .mixedOrders=true:=by kernel_rfl
 have BM:∀(fn:Fn)(first cap:Array Value)(w:World),(Instr.makeFunc fn first cap).run prog w=.ok (.func fn first cap) w:=λ_ _ _ _=>rfl;obtain⟨_,hS,bytes,ha,hr⟩:=h
 obtain⟨b,hb⟩:∃b,w.heap.size=b:=⟨_,rfl⟩;have A5:=hid ha;have HR:=hid hr;have HS:=hid hs;have HN:=hid hn;have Eh:∀l,cU (ws.map (·.data.toList))=some l->∀n∈l,n<1000000000:=λl h=>kQ h
 have hlen:∀l,cU (ws.map (·.data.toList))=some l->l.length=n:=λl h=>by rw[mf h,bL,hn]
 have HW:=hid (λw' mB=>xg w' (some ⟨A,0,none⟩) n n ws hn jb dU mB);generalize cU (ws.map (·.data.toList))=wl at*;clear ha hr hs hn;unfold lM;have aV:aD (w.alloc (.cells #[.slice (some ⟨A,0,none⟩) n n,.bool c] 213)) b 213 [.slice (some ⟨A,0,none⟩) n n,.bool c]:=by rw[<-hb];exact aD.dT w _ _
 have c0:=aV.cell (i:=0) rfl;go_enter func181,ntmps181;go_wp2_with fail;clear c0;have bV:Below b w (w.alloc (.cells #[.slice (some ⟨A,0,none⟩) n n,.bool c] 213)):=by rw[<-hb];exact Below.cj _ _
 generalize w.alloc (.cells #[.slice (some ⟨A,0,none⟩) n n,.bool c] 213)=V at*;refine(HW.out V (HS.out.below (hb▸bV))).mono ?_;rintro e W1⟨dD,b1⟩;have bz:=bV.size
 have b2:Below b w W1:=bV.trans (b1.mono (by omega));have a2:aD W1 p 167 _:=A5.out.az (hb▸b2);have bad:tR k wl=(6,.first)->∀W,Below b w W->Hid (jV w p S (tR k wl) (.returned (.tuple #[.nilFunc,.int .i64 6])) W):=λh6 W hbW=>by rw[h6];exact⟨_,rfl,⟨default,default,default,.inr rfl⟩,Kept.cK (hb▸hbW),⟨_,A5.out.az (hb▸hbW),rfl⟩,λh=>by simp at h⟩
 rcases dD with⟨rfl,rfl⟩|⟨l,v,rfl,rfl,iC⟩;{have ci:=bad rfl W1 b2;clear bad HW b1 a2 b2;go_wp2;go_ret2;exact ci.out};{
 obtain⟨ao,cap,rfl,Eo,hc⟩:=ints_at iC;have P4:=Eh l rfl;have UX:l.length<=1000000:=by rw[hlen l rfl];exact jb
 clear Eh HW hlen;by_cases h2:l.length=2;{
 obtain⟨r,c2,rfl⟩:∃r c2,l=[r,c2]:=by match l,h2 with|[r,c2],_=>exact⟨r,c2,rfl⟩
 clear h2;simp only[aU,cd,cA,Nat.reduceAdd]at hc iC Eo⊢;obtain⟨gv,rfl,Gd,Lw,Bi⟩:=hc (by omega);have v0:=Bi 0 r rfl;have v1:=Bi 1 c2 rfl;have hr9:=P4 r (by simp)
 have hc9:=P4 c2 (by simp);have dD:tR k (some [r,c2])=if dM k r c2≠0 then(dM k r c2,.first)else(0,.lQ k r c2 (dI k r c2).length (dI k r c2) (λ_ _=>0)):=rfl;have cS:=hid dD
 have Ft:=hid b2;have iL:=hid a2;clear bad Bi P4 dD b1 b2 a2 Eo iC hc;go_wp2_with fail;refine wp_region_held (S:=λW'=>W'.cell? ⟨gv,0,none⟩=some (.int .i64 (r:Int))/\W'.cell? ⟨gv,1,none⟩=some (.int .i64 (c2:Int))) fX ?_
 change wpAnyH _ _ _ _ _ _ _ _ W1.drew;have cZ:W1.drew.cell? ⟨gv,0,none⟩=some (.int .i64 (r:Int))/\W1.drew.cell? ⟨gv,1,none⟩=some (.int .i64 (c2:Int)):=⟨v0,v1⟩;have a3:=iL.out.drew
 have b3:=Ft.out.drew;clear v0 v1 iL Ft;obtain⟨Lv⟩:Nonempty (gv<W1.drew.heap.size):=⟨Lw⟩;clear Lw;generalize W1.drew=Vd at*;refine tk 0 (.pointer (some ⟨p,0,none⟩)) rfl (λW' hS=>?_) cZ ?_
 {clear hS;go_simp};simp only[Act.put];refine tk 1 (.slice (some ⟨gv,0,none⟩) 2 cap) rfl (λW' hS=>?_) cZ ?_;{clear hS;go_simp};simp only[Act.put];refine tk 2 (.pointer (some ⟨gv,0,none⟩)) rfl (λW' hS=>?_) cZ ?_
 {clear hS;go_simp};simp only[Act.put];refine tk 3 (.int .i64 (r:Int)) rfl (λW' hS=>?_) cZ ?_;{have q0:=hS.1;clear hS;go_simp};simp only[Act.put];refine tk 4 (.slice (some ⟨gv,0,none⟩) 2 cap) rfl (λW' hS=>?_) cZ ?_
 {clear hS;go_simp};simp only[Act.put];refine tk 5 (.pointer (some ⟨gv,1,none⟩)) rfl (λW' hS=>?_) cZ ?_;{clear hS;go_simp};simp only[Act.put];refine tk 6 (.int .i64 (c2:Int)) rfl (λW' hS=>?_) cZ ?_
 {have q0:=hS.2;clear hS;go_simp};simp only[Act.put];have hop:=Ih Vd p (λq=>q=p) (gT 149 p) bytes _ _ 0 0 false k r c2 0 hk rfl hr9 hc9 a3;refine wpAnyH_ready (rs:=[7]) (by kernel_rfl) (by simp) ?_
 refine AllReadyH.cons rfl (λK df=>?_) AllReadyH.nil;go_simp;refine hop.mono ?_;rintro e W4⟨rfl,Z8⟩;have yH:p<b:=by have:=A5.out.lt;omega
 have DR:gv≠p:=by omega
 rcases Z8 with⟨hne,uk⟩|⟨hz,OU,g,fv,M9,hg,ZF,Yx⟩;{
 have uE:W4.cell? ⟨gv,0,none⟩=some (.int .i64 (r:Int))/\W4.cell? ⟨gv,1,none⟩=some (.int .i64 (c2:Int)):=by rw[uk];exact cZ
 refine df.out _ _ uE (λhHeld=>?_);clear df hHeld;have y9:tR k (some [r,c2])=(dM k r c2,.first):=by rw[cS.out,au hne]
 have a4:=a3;rw[<-uk]at a4;have b4:Below b w W4:=by rw[uk];exact b3
 have aac:dM k r c2≠0:=hne;clear hne hop cS;have ci:Hid (jV w p S (tR k (some [r,c2])) (.returned (.tuple #[gT 214 p,.int .i64 (dM k r c2:Int)])) (W4.setCell ⟨p,8,none⟩ (.int .i64 0))):=by rw[y9];exact⟨_,rfl,⟨_,_,_,.inl rfl⟩,(Kept.cK (hb▸b4)).trans (Kept.set (S:=S) hS _) (λq h=>.inl h),⟨_,a4.set 8 (.int .i64 0),rfl⟩,λh=>(aac h).elim⟩
 generalize dM k r c2=er at*;refine tk 8 (.int .i64 (er:Int)) rfl (λW' hS=>?_) uE ?_;{clear hS;go_simp};simp only[Act.put,bt,bi,bg,aN,bK,bJ];refine wpAnyH_done (by kernel_rfl) ?_ _
 have x7:=a4.cell (i:=7) rfl;have x8:=a4.cell (i:=8) rfl;have y8:=a4.frozen 8;unfold gT at ci;clear a4 b4 uk y9 cZ a3 b3;go_wp2;go_ret2;exact ci.out};{
 have uE:W4.cell? ⟨gv,0,none⟩=some (.int .i64 (r:Int))/\W4.cell? ⟨gv,1,none⟩=some (.int .i64 (c2:Int)):=by have e1:∀o,W4.cell? ⟨gv,o,none⟩=Vd.cell? ⟨gv,o,none⟩:=λo=>World.cell?_of_block (w:=Vd) (OU.block gv Lv DR);rw[e1,e1];exact cZ
 refine df.out _ _ uE (λhHeld=>?_);clear df hHeld;obtain⟨Vb,uz,hfv,_⟩:=q9.shape Yx;rw[hz];have hL:=uR (k:=k) (R:=r) (C:=c2) (by unfold dM at hz;split at hz<;>omega) (by unfold dM at hz;split at hz<;>omega)
 have y9:tR k (some [r,c2])=(0,.lQ k r c2 (dI k r c2).length (dI k r c2) (λ_ _=>0)):=by rw[cS.out,ai (by rw[hz];simp)]
 have ci:Hid (jV w p S (tR k (some [r,c2])) (.returned (.tuple #[gT 214 p,.int .i64 0])) (W4.setCell ⟨p,8,none⟩ (.int .i64 ((dI k r c2).length:Int)))):=by rw[y9];have nx:Kept S w W4:=(Kept.cK (hb▸b3)).trans (OU.mono (T:=S) (λq hq=>by rw[hq];exact hS)) (λq h=>.inl h);refine⟨_,rfl,⟨_,_,_,.inl rfl⟩,nx.trans (Kept.set (S:=S) hS _) (λq h=>.inl h),⟨_,M9.set 8 _,rfl⟩,λ_=>?_⟩;have WJ:=AP (S:=S) (dI k r c2).length (gT 214 p) hS hk hz OU M9 hg ZF Yx ⟨_,a3⟩ (HR.out.below (hb▸b3)) (aj _);(have Lz:pN k=214:=by unfold pN;rw[ai l8]);refine⟨bytes,g,fv,?_⟩;rw[Lz];refine WJ.mono (λq hq=>hq.imp id (λh=>⟨?_,h.2⟩));have:=b3.size;omega
 rw[hfv]at M9;clear hop cS hz OU Yx ZF y9;refine tk 8 (.int .i64 0) rfl (λW' hS=>?_) uE ?_;{clear hS;go_simp};simp only[Act.put,bt,bi,bg,aN,bK,bJ];refine wpAnyH_done (by kernel_rfl) ?_ _
 have x7:=M9.cell (i:=7) rfl;have x8:=M9.cell (i:=8) rfl;have y8:=M9.frozen 8;unfold gT at ci;clear M9 cZ a3 b3;generalize(dI k r c2).length=L at*;go_wp2;go_ret2
 exact ci.out}};{have ci:=bad (by unfold tR;split;{rename_i h;cases h;simp at h2};rfl) W1 b2;(have h2':¬(l.length:Int)=2:=by omega);clear bad b1 a2 b2;generalize l.length=L at*;go_wp2;go_ret2;exact ci.out}}
theorem vD(w:World)(p:Nat)(S:Nat->Prop)(k A n:Nat)(ws:List ByteArray)(c:Bool)(hk:k<=3)(l8:k=2\/k=3)(hn:ws.length=n)(jb:n<=1000000)(dU:∀x∈ws,x.size<=1000000)(hs:gK w (some ⟨A,0,none⟩) ws)(h:gj w p S [] (.jy k)):Calls prog 180 #[.pointer (some ⟨p,0,none⟩),lM A n c] w λe w'=>jV w p S (si k (cU (ws.map (·.data.toList)))) e w':=by
 have fX:prog.follows .mixedOrders=true:=by kernel_rfl
 have BM:∀(fn:Fn)(first cap:Array Value)(w:World),(Instr.makeFunc fn first cap).run prog w=.ok (.func fn first cap) w:=λ_ _ _ _=>rfl;obtain⟨_,hS,bytes,ha,hr⟩:=h
 obtain⟨b,hb⟩:∃b,w.heap.size=b:=⟨_,rfl⟩;have A5:=hid ha;have HR:=hid hr;have HS:=hid hs;have HN:=hid hn;have Eh:∀l,cU (ws.map (·.data.toList))=some l->∀n∈l,n<1000000000:=λl h=>kQ h
 have hlen:∀l,cU (ws.map (·.data.toList))=some l->l.length=n:=λl h=>by rw[mf h,bL,hn]
 have HW:=hid (λw' mB=>xg w' (some ⟨A,0,none⟩) n n ws hn jb dU mB);generalize cU (ws.map (·.data.toList))=wl at*;clear ha hr hs hn;unfold lM;have aV:aD (w.alloc (.cells #[.slice (some ⟨A,0,none⟩) n n,.bool c] 213)) b 213 [.slice (some ⟨A,0,none⟩) n n,.bool c]:=by rw[<-hb];exact aD.dT w _ _
 have c0:=aV.cell (i:=0) rfl;go_enter func180,ntmps180;go_wp2_with fail;clear c0;have bV:Below b w (w.alloc (.cells #[.slice (some ⟨A,0,none⟩) n n,.bool c] 213)):=by rw[<-hb];exact Below.cj _ _
 generalize w.alloc (.cells #[.slice (some ⟨A,0,none⟩) n n,.bool c] 213)=V at*;refine(HW.out V (HS.out.below (hb▸bV))).mono ?_;rintro e W1⟨dD,b1⟩;have bz:=bV.size
 have b2:Below b w W1:=bV.trans (b1.mono (by omega));have a2:aD W1 p 167 _:=A5.out.az (hb▸b2);have bad:si k wl=(6,.first)->∀W,Below b w W->Hid (jV w p S (si k wl) (.returned (.tuple #[.nilFunc,.int .i64 6])) W):=λh6 W hbW=>by rw[h6];exact⟨_,rfl,⟨default,default,default,.inr rfl⟩,Kept.cK (hb▸hbW),⟨_,A5.out.az (hb▸hbW),rfl⟩,λh=>by simp at h⟩
 rcases dD with⟨rfl,rfl⟩|⟨l,v,rfl,rfl,iC⟩;{have ci:=bad rfl W1 b2;clear bad HW b1 a2 b2;go_wp2;go_ret2;exact ci.out};{
 obtain⟨ao,cap,rfl,Eo,hc⟩:=ints_at iC;have P4:=Eh l rfl;have UX:l.length<=1000000:=by rw[hlen l rfl];exact jb
 clear Eh HW hlen;by_cases h2:l.length=3;{
 obtain⟨r,c2,n3,rfl⟩:∃r c2 n3,l=[r,c2,n3]:=by match l,h2 with|[r,c2,n3],_=>exact⟨r,c2,n3,rfl⟩
 clear h2;simp only[aU,cd,cA,Nat.reduceAdd]at hc iC Eo⊢;obtain⟨gv,rfl,Gd,Lw,Bi⟩:=hc (by omega);have v0:=Bi 0 r rfl;have v1:=Bi 1 c2 rfl;have v2:=Bi 2 n3 rfl;have hn9:=P4 n3 (by simp)
 have hr9:=P4 r (by simp);have hc9:=P4 c2 (by simp);have dD:si k (some [r,c2,n3])=if dM k r c2≠0 then(dM k r c2,.first)else if(dI k r c2).length<n3 then(10,.first)else(0,.lQ k r c2 n3 (dI k r c2) (λ_ _=>0)):=rfl
 have cS:=hid dD;have Ft:=hid b2;have iL:=hid a2;clear bad Bi P4 dD b1 b2 a2 Eo iC hc;go_wp2_with fail;refine wp_region_held (S:=λW'=>W'.cell? ⟨gv,0,none⟩=some (.int .i64 (r:Int))/\W'.cell? ⟨gv,1,none⟩=some (.int .i64 (c2:Int))) fX ?_
 change wpAnyH _ _ _ _ _ _ _ _ W1.drew;have cZ:W1.drew.cell? ⟨gv,0,none⟩=some (.int .i64 (r:Int))/\W1.drew.cell? ⟨gv,1,none⟩=some (.int .i64 (c2:Int)):=⟨v0,v1⟩;have a3:=iL.out.drew
 have b3:=Ft.out.drew;have Y3:W1.drew.cell? ⟨gv,2,none⟩=some (.int .i64 (n3:Int)):=v2;clear v0 v1 v2 iL Ft;obtain⟨Lv⟩:Nonempty (gv<W1.drew.heap.size):=⟨Lw⟩;clear Lw
 generalize W1.drew=Vd at*;refine tk 0 (.pointer (some ⟨p,0,none⟩)) rfl (λW' hS=>?_) cZ ?_;{clear hS;go_simp};simp only[Act.put];refine tk 1 (.slice (some ⟨gv,0,none⟩) 3 cap) rfl (λW' hS=>?_) cZ ?_
 {clear hS;go_simp};simp only[Act.put];refine tk 2 (.pointer (some ⟨gv,0,none⟩)) rfl (λW' hS=>?_) cZ ?_;{clear hS;go_simp};simp only[Act.put];refine tk 3 (.int .i64 (r:Int)) rfl (λW' hS=>?_) cZ ?_
 {have q0:=hS.1;clear hS;go_simp};simp only[Act.put];refine tk 4 (.slice (some ⟨gv,0,none⟩) 3 cap) rfl (λW' hS=>?_) cZ ?_;{clear hS;go_simp};simp only[Act.put];refine tk 5 (.pointer (some ⟨gv,1,none⟩)) rfl (λW' hS=>?_) cZ ?_
 {clear hS;go_simp};simp only[Act.put];refine tk 6 (.int .i64 (c2:Int)) rfl (λW' hS=>?_) cZ ?_;{have q0:=hS.2;clear hS;go_simp};simp only[Act.put];have hop:=Ih Vd p (λq=>q=p) (gT 149 p) bytes _ _ 0 0 false k r c2 0 hk rfl hr9 hc9 a3
 refine wpAnyH_ready (rs:=[7]) (by kernel_rfl) (by simp) ?_;refine AllReadyH.cons rfl (λK df=>?_) AllReadyH.nil;go_simp;refine hop.mono ?_;rintro e W4⟨rfl,Z8⟩;have yH:p<b:=by have:=A5.out.lt;omega
 have DR:gv≠p:=by omega
 rcases Z8 with⟨hne,uk⟩|⟨hz,OU,g,fv,M9,hg,ZF,Yx⟩;{
 have uE:W4.cell? ⟨gv,0,none⟩=some (.int .i64 (r:Int))/\W4.cell? ⟨gv,1,none⟩=some (.int .i64 (c2:Int)):=by rw[uk];exact cZ
 refine df.out _ _ uE (λhHeld=>?_);clear df hHeld;have y9:si k (some [r,c2,n3])=(dM k r c2,.first):=by rw[cS.out,au hne]
 have a4:=a3;rw[<-uk]at a4;have b4:Below b w W4:=by rw[uk];exact b3
 have aac:dM k r c2≠0:=hne;clear hne hop cS;have ci:Hid (jV w p S (si k (some [r,c2,n3])) (.returned (.tuple #[.nilFunc,.int .i64 (dM k r c2:Int)])) W4):=by rw[y9];exact⟨_,rfl,⟨default,default,default,.inr rfl⟩,Kept.cK (hb▸b4),⟨_,a4,rfl⟩,λh=>(aac h).elim⟩
 generalize dM k r c2=er at*;have afB:¬(er:Int)=0:=by omega
 refine tk 8 (.int .i64 (er:Int)) rfl (λW' hS=>?_) uE ?_;{clear hS;go_simp};simp only[Act.put,bt,bi,bg,aN,bK,bJ];refine wpAnyH_done (by kernel_rfl) ?_ _;clear a4 b4 uk y9 cZ a3 b3
 go_wp2;go_ret2;exact ci.out};{
 have uE:W4.cell? ⟨gv,0,none⟩=some (.int .i64 (r:Int))/\W4.cell? ⟨gv,1,none⟩=some (.int .i64 (c2:Int)):=by have e1:∀o,W4.cell? ⟨gv,o,none⟩=Vd.cell? ⟨gv,o,none⟩:=λo=>World.cell?_of_block (w:=Vd) (OU.block gv Lv DR);rw[e1,e1];exact cZ
 refine df.out _ _ uE (λhHeld=>?_);clear df hHeld;obtain⟨Vb,uz,hfv,_⟩:=q9.shape Yx;rw[hz];have hL:=uR (k:=k) (R:=r) (C:=c2) (by unfold dM at hz;split at hz<;>omega) (by unfold dM at hz;split at hz<;>omega)
 have ad9:W4.cell? ⟨gv,2,none⟩=some (.int .i64 (n3:Int)):=by have e1:∀o,W4.cell? ⟨gv,o,none⟩=Vd.cell? ⟨gv,o,none⟩:=λo=>World.cell?_of_block (w:=Vd) (OU.block gv Lv DR);rw[e1];exact Y3
 have y9:si k (some [r,c2,n3])=if(dI k r c2).length<n3 then(10,.first)else(0,.lQ k r c2 n3 (dI k r c2) (λ_ _=>0)):=by rw[cS.out,ai (by rw[hz];simp)]
 have nx:Kept S w W4:=(Kept.cK (hb▸b3)).trans (OU.mono (T:=S) (λq hq=>by rw[hq];exact hS)) (λq h=>.inl h);have WJ:n3<=(dI k r c2).length->lS ((W4.setCell ⟨p,8,none⟩ (.int .i64 (n3:Int))).setCell ⟨p,0,none⟩ (gT 213 p)) p (wJ S w (W4.setCell ⟨p,8,none⟩ (.int .i64 (n3:Int)))) (gT (pN k) p) bytes g fv k r c2 n3 (dI k r c2) (λ_ _=>0) []:=λmj=>by have h:=AP (S:=S) n3 (gT 213 p) hS hk hz OU M9 hg ZF Yx ⟨_,a3⟩ (HR.out.below (hb▸b3)) mj;(have Lz:pN k=213:=by unfold pN;rw[au l8]);rw[Lz];refine h.mono (λq hq=>hq.imp id (λh=>⟨?_,h.2⟩));have:=b3.size;omega
 have a8:=M9.set 8 (.int .i64 (n3:Int));have SN:Kept S w (W4.setCell ⟨p,8,none⟩ (.int .i64 (n3:Int))):=nx.trans (Kept.set (S:=S) hS _) (λq h=>.inl h);have aeZ:=hid WJ
 have UB:=hid SN;have HA8:=hid a8;have lZ:=hid y9;rw[hfv]at M9 a8;clear hop cS hz OU Yx ZF y9 WJ SN nx;refine tk 8 (.int .i64 0) rfl (λW' hS=>?_) uE ?_;{clear hS;go_simp}
 simp only[Act.put,bt,bi,bg,aN,bK,bJ];refine wpAnyH_done (by kernel_rfl) ?_ _;have x8:=M9.cell (i:=8) rfl;have y8:=M9.frozen 8;have z7:=a8.cell (i:=7) rfl;have z8:=a8.cell (i:=8) rfl
 clear M9 cZ a3 b3 a8;have adS:=BM;clear BM;obtain⟨L,hLe⟩:∃L,(dI k r c2).length=L:=⟨_,rfl⟩;rw[hLe]at z7 hL;have B5:=hid hLe;clear hLe;go_wp2_with fail;generalize W4.setCell ⟨p,8,none⟩ (.int .i64 (n3:Int))=W5 at*
 clear x8 y8 ad9 uE;go_quiet(fail);have BM:=adS;by_cases UZ:L<n3;{
 have aea:(L:Int)<n3:=by omega
 have ci:Hid (jV w p S (si k (some [r,c2,n3])) (.returned (.tuple #[.nilFunc,.int .i64 10])) (W5.drewN nq)):=by rw[lZ.out,B5.out,au UZ];exact⟨_,rfl,⟨default,default,default,.inr rfl⟩,UB.out.trans (Kept.drewN (S:=S) nq) (λq h=>.inl h),⟨_,HA8.out.drewN nq,rfl⟩,λh=>by simp at h⟩
 go_wp2;go_ret2;exact ci.out};{
 have aea:¬(L:Int)<n3:=by omega
 have ci:Hid (jV w p S (si k (some [r,c2,n3])) (.returned (.tuple #[gT 213 p,.int .i64 0])) (W5.drewN nq)):=by rw[lZ.out,B5.out,ai UZ];refine⟨_,rfl,⟨_,_,_,.inl rfl⟩,UB.out.trans (Kept.drewN (S:=S) nq) (λq h=>.inl h),⟨_,HA8.out.drewN nq,rfl⟩,λ_=>⟨bytes,g,fv,?_⟩⟩;exact(aeZ.out (by have:=B5.out;omega)).frame (λ_ _=>rfl) (aj _)
 unfold gT at ci;go_wp2;go_ret2;exact ci.out}}};{have ci:=bad (by unfold si;split;{rename_i h;cases h;simp at h2};rfl) W1 b2;(have h2':¬(l.length:Int)=3:=by omega);clear bad b1 a2 b2;generalize l.length=L at*;go_wp2;go_ret2;exact ci.out}}
end Go.Proofs.YthdcceackfdbbaaGreatDoor
