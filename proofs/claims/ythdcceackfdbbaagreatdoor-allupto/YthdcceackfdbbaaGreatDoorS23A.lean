import Derived.Test.YthdcceackfdbbaaGreatDoorS22A
set_option linter.unusedSimpArgs false
set_option maxRecDepth 20000
set_option maxHeartbeats 2000000
open Go.RowKit Go.Proofs.Tryz
namespace Go.Proofs.YthdcceackfdbbaaGreatDoor
def tF:lH->Nat|.first=>114|.jy _=>149|.lQ k _ _ _ _ _=>pN k
def stepT(c:Bool)(ws:List (List UInt8)):lH->Nat×lH|.first=>firstT ws|.jy k=>jX k c ws|.lQ k R C left free f=>if k=2\/k=3 then qY k R C left free f c ws else uA k R C left free f c ws
def iD(t:lH)(l:List UInt8):Nat×lH:=if fI l=[]then(0,t)else stepT (decide (l.head?=some 37)) (fI l) t
theorem Hm(w:World)(p:Nat)(S:Nat->Prop)(t:lH)(A n:Nat)(ws:List ByteArray)(c:Bool)(hn:ws.length=n)(jb:n<=1000000)(dU:∀x∈ws,x.size<=1000000)(hs:gK w (some ⟨A,0,none⟩) ws)(h:gj w p S [] t):Calls prog (tF t) #[.pointer (some ⟨p,0,none⟩),lM A n c] w λe w'=>jV w p S (stepT c (ws.map (·.data.toList)) t) e w':=by
 cases t with|first=>exact LN w p S A n ws c hn jb hs h|jy k=>exact Kz w p S k A n ws c hn jb dU hs h|lQ k R C left free f=>by_cases l8:k=2\/k=3;{(have e1:tF (.lQ k R C left free f)=213:=by simp only[tF,pN];rw[au l8]);(have e2:stepT c (ws.map (·.data.toList)) (.lQ k R C left free f)=qY k R C left free f c (ws.map (·.data.toList)):=by simp only[stepT];rw[au l8]);rw[e1,e2];exact vE w p S k R C left free f A n ws c l8 hn jb dU hs h};{(have e1:tF (.lQ k R C left free f)=214:=by simp only[tF,pN];rw[ai l8]);(have e2:stepT c (ws.map (·.data.toList)) (.lQ k R C left free f)=uA k R C left free f c (ws.map (·.data.toList)):=by simp only[stepT];rw[ai l8]);rw[e1,e2];exact Bp w p S k R C left free f A n ws c l8 hn jb dU hs h}
theorem Ar(t:lH):∀args w,(callFunc (tF t) args).run prog w=.ok (.enter (tF t) args) w:=by
 cases t with|first=>exact enters_of func114 (by kernel_rfl) rfl|jy k=>exact enters_of func149 (by kernel_rfl) rfl|lQ k R C left free f=>simp only[tF,pN];split;{exact enters_of func213 (by kernel_rfl) rfl};{exact enters_of func214 (by kernel_rfl) rfl}
theorem gj.open{w:World}{p:Nat}{S:Nat->Prop}{cE:List UInt8}{t:lH}(h:gj w p S cE t):S p/\∃bytes rest,aD w p 167 (gT (tF t) p::bytes::rest)/\rest.length=7/\cL w S 5 1 bytes cE.length (jQ cE):=by cases t with|first=>obtain⟨h1,b,h2,h3⟩:=h;exact⟨h1,b,_,h2,rfl,h3⟩|jy k=>obtain⟨_,h1,b,h2,h3⟩:=h;exact⟨h1,b,_,h2,rfl,h3⟩|lQ k R C left free f=>obtain⟨b,g,fv,h⟩:=h;exact⟨h.own,b,_,h.arr,rfl,h.Cn⟩
theorem gj.setBytes{w w2:World}{p:Nat}{S T:Nat->Prop}{cE L0:List UInt8}{t:lH}{b':Value}(h:gj w p S cE t)(hT:∀q,S q->T q)(hk:∀(q:Nat)(o:Obj),S q->w.heap[q]?=some o->(∀c,o≠.cells c 5 (0,0))->w2.heap[q]?=some o)(hr:cL w2 T 5 1 b' L0.length (jQ L0)):gj (w2.setCell ⟨p,1,none⟩ b') p T L0 t:=by
 cases t with|first=>obtain⟨h1,b,h2,h3⟩:=h;have a2:aD w2 p 167 _:=hk p _ h1 h2 (λc e=>by cases e);exact⟨hT p h1,b',a2.set 1 b',hr.set a2 (by decide) _⟩|jy k=>obtain⟨h0,h1,b,h2,h3⟩:=h;have a2:aD w2 p 167 _:=hk p _ h1 h2 (λc e=>by cases e);exact⟨h0,hT p h1,b',a2.set 1 b',hr.set a2 (by decide) _⟩|lQ k R C left free f=>obtain⟨b,g,fv,h⟩:=h;have a2:aD w2 p 167 _:=hk p _ h.own h.arr (λc e=>by cases e);obtain⟨v,J3,ur⟩:=h.Bq;have g2:aD w2 g 65 v:=hk g _ h.zE J3 (λc e=>by cases e);have g3:aD (w2.setCell ⟨p,1,none⟩ b') g 65 v:=g2.other _ (fl h.lt.2.2);(have f2:cL w2 T 117 2 fv free.length (jR free):=by refine(h.yn.keep (w':=w2) (λq hq=>?_)).mono hT;obtain⟨_,c,hc⟩:=h.yn.lt q hq;rw[hc];exact hk q _ (h.yn.own q hq) hc (λc e=>by cases e));refine⟨b',g,fv,hT p h.own,a2.set 1 b',hr.set a2 (by decide) _,hT g h.zE,⟨v,g3,ur⟩,⟨g3.lt,λi j hi hj=>?_⟩,f2.set a2 (by decide) _,h.hk,h.hR,h.hC,h.sq,h.qC,h.len,h.lV⟩;have e1:=h.mem.2 i j hi hj;(have di:i*C+j<v.length:=by rw[ur];exact gz hi hj);obtain⟨y,hy⟩:∃y,v[i*C+j]?=some y:=⟨v[i*C+j],by simp[di]⟩;rw[J3.cell hy]at e1;rw[g3.cell hy];exact e1
theorem Q4{w:World}{S:Nat->Prop}{v:Value}{l:List UInt8}(h:cL w S 5 1 v l.length (jQ l)):(convert 72 9 v).run prog w=.ok (.string ⟨l.toArray⟩) w:=by
 obtain⟨_,⟨rfl,h0⟩|⟨g,cap,cE,rfl,_,hg,_,_,_,mN⟩⟩:=h.row;{have:l=[]:=cN.1 h0;subst this;rw[run_convert_bytes_string w 72 9 5 none 0 0 underlying72 underlying5 underlying9];simp[Conv.bytesToString];rfl}
 {
 refine run_convert_bytes_back w 72 9 5 ⟨g,0,none⟩ cap l underlying72 underlying5 underlying9 (λj hj=>?_);rw[Lib.add_plain,cA];have h1:(jQ l)[j]?=some (.int .u8 (l[j].toNat:Int)):=by unfold jQ;rw[bN];simp[hj]
 rw[<-mN,dC,au (by omega)]at h1;simp only[World.cell?,hg];simpa using h1}
theorem cL.aeN{w:World}{S:Nat->Prop}{e:TypeId}{a:Option Addr}{n cap:Nat}{xs:List Value}(h:cL w S e 1 (.slice a n cap) n xs):cL w S e 1 (.slice a 0 cap) 0 []:=by obtain⟨_,⟨h1,h0⟩|⟨g,ez,cE,h1,hB,hg,h2,h3,h4,mN⟩⟩:=h.row;{cases h1;exact cL.nil _ _ _ _};{cases h1;exact⟨⟨rfl,.inr ⟨g,cap,cE,rfl,hB,hg,ap _,h3,h4,by simp⟩⟩,h.own⟩}
def Fr(w:World)(p:Nat)(S:Nat->Prop)(r:Nat×lH)(e:Ending)(w':World):Prop:=e=.returned (.int .i64 (r.1:Int))/\Kept S w w'/\(r.1=0->gj w' p (wJ S w w') [] r.2)
def iq(kind:Nat)(uO:Bool)(want gm R C:Nat)(bits seen:Value):List Value:=[.int .i64 (kind:Int),.bool uO,.int .i64 (want:Int),.int .i64 (gm:Int),.int .i64 (R:Int),.int .i64 (C:Int),bits,seen]
theorem nM:∀(l cE:List UInt8),(∀b∈cE,jc b.toNat=false)->∀x∈dW cE l,∀b∈x,jc b.toNat=false|[],cE,hc,x,hx=>by simp only[dW]at hx;split at hx;{simp at hx};{simp at hx;subst hx;exact hc}|c::r,cE,hc,x,hx=>by simp only[dW]at hx;split at hx;{split at hx;{exact nM r [] (by simp) x hx};{rcases mb.1 hx with rfl|hx;{exact hc};{exact nM r [] (by simp) x hx}}};{rename_i hb;refine nM r (cE++[c]) (λb kL=>?_) x hx;rcases jm.1 kL with h|h;{exact hc b h};{simp at h;subst h;simpa using hb}}
theorem G7{l x:List UInt8}(h:x∈fI l):∀b∈x,jc b.toNat=false:=nM l [] (by simp) x h
theorem qr:∀(l cE:List UInt8),∀x∈dW cE l,x.length<=cE.length+l.length|[],cE,x,hx=>by simp only[dW]at hx;split at hx;{simp at hx};{simp at hx;subst hx;simp}|c::r,cE,x,hx=>by simp only[dW]at hx;split at hx;{split at hx;{have:=qr r [] x hx;simp at this⊢;omega};{rcases mb.1 hx with rfl|hx;{simp};{have:=qr r [] x hx;simp at this⊢;omega}}};{have:=qr r (cE++[c]) x hx;simp at this⊢;omega}
theorem zu{l x:List UInt8}(h:x∈fI l):x.length<=l.length:=by have:=qr l [] x h;simpa using this
theorem R8{a b c d:List UInt8}(ha:∀x∈a,x≠32)(hc:∀x∈c,x≠32)(h:a++32::b=c++32::d):a=c/\b=d:=by
 induction a generalizing c with|nil=>(cases c with|nil=>simp at h;exact⟨rfl,h⟩|cons y r=>simp at h;exact absurd h.1.symm (hc y (by simp)))|cons x r ih=>cases c with|nil=>simp at h;exact absurd h.1 (ha x (by simp))|cons y s=>simp at h;obtain⟨h1,h2⟩:=ih (λz hz=>ha z (by simp[hz])) (λz hz=>hc z (by simp[hz])) h.2;exact⟨by rw[h.1,h1],h2⟩
theorem Ua{a:ByteArray}{l:List UInt8}(h:a.toList=l):a=⟨l.toArray⟩:=Gx (by rw[<-cC,h])
theorem E1(a b:ByteArray):(a++(⟨#[32]⟩:ByteArray)++b).toList=a.toList++32::b.toList:=by rw[cC,cC,cC,rp,uD,rp,uD];simp
theorem wm{a0 a1 a2 a3 a4:ByteArray}(h2:∀b∈a2.data.toList,b≠32)(A B:List UInt8)(hA:∀x∈A,x≠32):[a0,a1,a2,a3,a4]=[⟨#[37,37,77,97,116,114,105,120,77,97,114,107,101,116]⟩,⟨#[109,97,116,114,105,120]⟩,⟨A.toArray⟩,⟨#[114,101,97,108]⟩,⟨B.toArray⟩]↔(a0.toList=[37,37,77,97,116,114,105,120,77,97,114,107,101,116]/\a1.toList=[109,97,116,114,105,120]/\a3.toList=[114,101,97,108]/\(a2++(⟨#[32]⟩:ByteArray)++a4).toList=A++32::B):=by
 constructor;{intro h;injection h with h0 h;injection h with h1 h;injection h with h2' h;injection h with h3 h;injection h with h4 _;subst h0 h1 h2' h3 h4;refine⟨by rw[cC],by rw[cC],by rw[cC],?_⟩;rw[E1,cC,cC]}
 {rintro⟨h0,h1,h3,h⟩;rw[E1,cC,cC]at h;obtain⟨e1,e2⟩:=R8 h2 hA h;rw[Ua h0,Ua h1,Ua h3,show a2=⟨A.toArray⟩from Gx (by rw[e1]),show a4=⟨B.toArray⟩from Gx (by rw[e2])]}
def abx(k:Nat):List UInt8:=if k=0 then[97,114,114,97,121,32,103,101,110,101,114,97,108]else if k=1 then[97,114,114,97,121,32,115,121,109,109,101,116,114,105,99]else if k=2 then[99,111,111,114,100,105,110,97,116,101,32,103,101,110,101,114,97,108]else[99,111,111,114,100,105,110,97,116,101,32,115,121,109,109,101,116,114,105,99]
theorem LO{a0 a1 a2 a3 a4:ByteArray}(h2:∀b∈a2.data.toList,b≠32)(k:Nat)(hk:k<=3):[a0,a1,a2,a3,a4]=fG k↔(a0.toList=[37,37,77,97,116,114,105,120,77,97,114,107,101,116]/\a1.toList=[109,97,116,114,105,120]/\a3.toList=[114,101,97,108]/\(a2++(⟨#[32]⟩:ByteArray)++a4).toList=abx k):=by
 rcases(by omega:k=0\/k=1\/k=2\/k=3)with rfl|rfl|rfl|rfl;{exact wm h2 [97,114,114,97,121] [103,101,110,101,114,97,108] (by decide)};{exact wm h2 [97,114,114,97,121] [115,121,109,109,101,116,114,105,99] (by decide)}
 {exact wm h2 [99,111,111,114,100,105,110,97,116,101] [103,101,110,101,114,97,108] (by decide)};{exact wm h2 [99,111,111,114,100,105,110,97,116,101] [115,121,109,109,101,116,114,105,99] (by decide)}
def GI(w:World)(p:Nat)(r:Option Nat)(e:Ending)(w':World):Prop:=e=.returned (.int .i64 (((if r=none then 6 else 0:Nat)):Int))/\Kept (λq=>q=p) w w'/\(∀k,r=some k->aD w' p 133 (iq k false 0 0 0 0 (.slice none 0 0) (.slice none 0 0)))
theorem KJ(w:World)(p:Nat)(x:ByteArray)(hx:x.size<=1000)(h:aD w p 133 (iq 0 false 0 0 0 0 (.slice none 0 0) (.slice none 0 0))):Calls prog 83 #[.pointer (some ⟨p,0,none⟩),.string x] w λe w'=>GI w p (oB (fI x.data.toList)) e w':=by
 have Sr:=xk w x x.size rfl (by omega);have Up:=hid Sr;have HA:=hid h;obtain⟨r,hr⟩:∃r,oB (fI x.data.toList)=r:=⟨_,rfl⟩;rw[hr];have HR:=hid hr;clear Sr h hr;go_enter func83,ntmps83
 go_wp2_with fail;refine Up.out.mono ?_;rintro e W1⟨⟨v,ws,rfl,mA,bp⟩,b1⟩;have PU:Hid (Kept (λq=>q=p) w W1):=Kept.cK b1;have j6:=hid (HA.out.az b1);rw[<-mA]at HR
 have sL:∀y∈ws,∀b∈y.data.toList,b≠32:=λy hy b hb e=>by have:=G7 (l:=x.data.toList) (x:=y.data.toList) (by rw[<-mA];exact lf hy) b hb;subst e;simp[jc]at this
 have UX:∀y∈ws,y.size<=1000:=λy hy=>by have h1:=zu (l:=x.data.toList) (x:=y.data.toList) (by rw[<-mA];exact lf hy);have h2:=aK (s:=x) rfl;have h3:=aK (s:=y) rfl;omega
 have kN:(∀j,j<4->ws≠fG j)->Hid (r=none):=λhn=>by have:=AL hn;rw[HR.out]at this;exact this
 by_cases h5:ws.length=5;{
 obtain⟨a0,a1,a2,a3,a4,rfl⟩:∃a0 a1 a2 a3 a4,ws=[a0,a1,a2,a3,a4]:=by match ws,h5 with|[a0,a1,a2,a3,a4],_=>exact⟨a0,a1,a2,a3,a4,rfl⟩
 obtain⟨g,cap,rfl⟩:∃g cap,v=.slice (some ⟨g,0,none⟩) 5 cap:=by rcases bp.2 with⟨_,h3⟩|⟨g,cap,cE,e,_⟩;{cases h3};{exact⟨g,cap,e⟩}
 have c0:=bp.cellAt 0 (by simp);have c1:=bp.cellAt 1 (by simp);have c2:=bp.cellAt 2 (by simp);have c3:=bp.cellAt 3 (by simp);have c4:=bp.cellAt 4 (by simp);simp[sW]at c0 c1 c2 c3 c4
 have key:∀k,k<=3->_:=λk hk=>LO (a0:=a0) (a1:=a1) (a3:=a3) (a4:=a4) (sL a2 (by simp)) k hk;have xM:=hid key;have tD:=UX a2 (by simp);have Ws:=UX a4 (by simp);clear key mA bp sL h5 Up b1 HA UX
 by_cases e0:a0.toList=[37,37,77,97,116,114,105,120,77,97,114,107,101,116];{
 by_cases e1:a1.toList=[109,97,116,114,105,120];{
 by_cases e3:a3.toList=[114,101,97,108];{
 have e3':(!a3.toList==[114,101,97,108])=false:=by rw[e3];decide
 obtain⟨u,hu⟩:∃u,a2++(⟨#[32]⟩:ByteArray)++a4=u:=⟨_,rfl⟩;rw[hu]at xM;go_wp2_with fail;go_quiet(fail);clear e3' tD Ws c0 c1 c2 c3 c4 hu;have cc:=j6.out.cell (i:=0) rfl
 have ff:=j6.out.frozen 0;have qD:∀(k:Nat),k<=3->u.toList=abx k->Hid (∀(nq:Nat),GI w p r (.returned (.int .i64 0)) ((W1.drewN nq).setCell ⟨p,0,none⟩ (.int .i64 (k:Int)))):=by intro k hk hs nq;have hw:[a0,a1,a2,a3,a4]=fG k:=(xM.out k hk).2 ⟨e0,e1,e3,hs⟩;(have hrk:r=some k:=by rw[<-HR.out];refine AK hk hw (λj hj h=>?_);have h1:=((xM.out j (by omega)).1 h).2.2.2;rw[hs]at h1;rcases(by omega:k=1\/k=2\/k=3)with rfl|rfl|rfl;{rcases(by omega:j=0)with rfl;exact absurd h1 (by decide)};{rcases(by omega:j=0\/j=1)with rfl|rfl<;>exact absurd h1 (by decide)};{rcases(by omega:j=0\/j=1\/j=2)with rfl|rfl|rfl<;>exact absurd h1 (by decide)});subst hrk;refine⟨rfl,(PU.out.trans (Kept.drewN (S:=λq=>q=p) nq) (λz h=>.inl h)).trans (Kept.set (S:=λq=>q=p) rfl _) (λz h=>.inl h),λk' h=>?_⟩;cases h;have h1:aD (W1.drewN nq) p 133 _:=j6.out;exact h1.set 0 (.int .i64 (k:Int))
 have ej:=hid qD;clear qD;by_cases s0:u.toList=[97,114,114,97,121,32,103,101,110,101,114,97,108];{have hf:=ej.out 0 (by omega) s0;clear ej xM kN HR;go_wp2;go_ret;exact hf.out _}
 {
 skip;by_cases s1:u.toList=[97,114,114,97,121,32,115,121,109,109,101,116,114,105,99];{have hf:=ej.out 1 (by omega) s1;(have t0:(u.toList==[97,114,114,97,121,32,103,101,110,101,114,97,108])=false:=by rw[av];exact s0);clear ej xM kN HR;go_wp2;go_ret;exact hf.out _}
 {
 skip;by_cases s2:u.toList=[99,111,111,114,100,105,110,97,116,101,32,103,101,110,101,114,97,108];{
 have hf:=ej.out 2 (by omega) s2;have t0:(u.toList==[97,114,114,97,121,32,103,101,110,101,114,97,108])=false:=by rw[av];exact s0
 have t1:(u.toList==[97,114,114,97,121,32,115,121,109,109,101,116,114,105,99])=false:=by rw[av];exact s1
 clear ej xM kN HR;go_wp2;go_ret;exact hf.out _};{
 skip;by_cases s3:u.toList=[99,111,111,114,100,105,110,97,116,101,32,115,121,109,109,101,116,114,105,99];{
 have hf:=ej.out 3 (by omega) s3;have t0:(u.toList==[97,114,114,97,121,32,103,101,110,101,114,97,108])=false:=by rw[av];exact s0
 have t1:(u.toList==[97,114,114,97,121,32,115,121,109,109,101,116,114,105,99])=false:=by rw[av];exact s1
 have t2:(u.toList==[99,111,111,114,100,105,110,97,116,101,32,103,101,110,101,114,97,108])=false:=by rw[av];exact s2
 clear ej xM kN HR;go_wp2;go_ret;exact hf.out _};{
 have hn:=kN (λj hj h=>by have h1:=((xM.out j (by omega)).1 h).2.2.2;rcases(by omega:j=0\/j=1\/j=2\/j=3)with rfl|rfl|rfl|rfl;{exact s0 h1};{exact s1 h1};{exact s2 h1};{exact s3 h1})
 have t0:(u.toList==[97,114,114,97,121,32,103,101,110,101,114,97,108])=false:=by rw[av];exact s0
 have t1:(u.toList==[97,114,114,97,121,32,115,121,109,109,101,116,114,105,99])=false:=by rw[av];exact s1
 have t2:(u.toList==[99,111,111,114,100,105,110,97,116,101,32,103,101,110,101,114,97,108])=false:=by rw[av];exact s2
 have t3:(u.toList==[99,111,111,114,100,105,110,97,116,101,32,115,121,109,109,101,116,114,105,99])=false:=by rw[av];exact s3
 clear ej xM kN;obtain rfl:=hn.out;go_wp2;go_ret;exact⟨rfl,PU.out.trans (Kept.drewN (S:=λq=>q=p) _) (λz h=>.inl h),λk h=>by cases h⟩}}}}};{have hn:=kN (λj hj h=>e3 ((xM.out j (by omega)).1 h).2.2.1);(have e3':(!a3.toList==[114,101,97,108])=true:=by simpa using e3);clear xM kN;obtain rfl:=hn.out;go_wp2;go_ret;exact⟨rfl,PU.out,λk h=>by cases h⟩}}
 {have hn:=kN (λj hj h=>e1 ((xM.out j (by omega)).1 h).2.1);clear xM kN;obtain rfl:=hn.out;go_wp2;go_ret;exact⟨rfl,PU.out,λk h=>by cases h⟩}};{have hn:=kN (λj hj h=>e0 ((xM.out j (by omega)).1 h).1);clear xM kN;obtain rfl:=hn.out;go_wp2;go_ret;exact⟨rfl,PU.out,λk h=>by cases h⟩}}
 {
 have hn:=kN (λj hj h=>h5 (by rw[h,nJ]));have h5':((ws.length:Int)==5)=false:=by rw[av];omega
 obtain⟨vo,vn,vc,rfl⟩:∃vo vn vc,v=.slice vo vn vc:=by rcases bp.2 with⟨e,_⟩|⟨g,cap,cE,e,_⟩;{exact⟨_,_,_,e⟩};{exact⟨_,_,_,e⟩}
 have Wp:vn=ws.length:=by rcases bp.2 with⟨e,h0⟩|⟨g,cap,cE,e,_⟩;{cases e;exact h0.symm};{cases e;rfl}
 subst Wp;clear kN mA bp sL Up b1 HA UX;obtain rfl:=hn.out;go_wp2;go_ret;exact⟨rfl,PU.out,λk h=>by cases h⟩}
theorem lO(w:World)(k:Int):Calls prog 44 #[.int .i64 k] w λe w'=>e=.returned (.bool (decide (k=1\/k=3)))/\w'=w:=by
 go_enter func44,ntmps44;go_wp2;all_goals go_ret
 all_goals refine⟨?_,rfl⟩
 all_goals simp[*]
 all_goals first|omega|(rw[dz];simp[*])
theorem mL(w:World)(k:Int):Calls prog 77 #[.int .i64 k] w λe w'=>e=.returned (.bool (decide (k=2\/k=3)))/\w'=w:=by
 go_enter func77,ntmps77;go_wp2;all_goals go_ret
 all_goals refine⟨?_,rfl⟩
 all_goals simp[*]
 all_goals first|omega|(rw[dz];simp[*])
theorem Of{h b i:Nat}(hh:h<4294967296)(hb:b<256):(bits BinOp.xor IntKind.u32 (bits BinOp.and IntKind.u32 ((b:Int)/2^i) 1) (bits BinOp.and IntKind.u32 (h:Int) 1)==1)=decide ((b>>>i+h)%2=1):=by
 have e1:((b:Int)/2^i)=((b/2^i:Nat):Int):=by simp
 have di:b/2^i<4294967296:=dF (l5 _ _) (by omega);rw[e1,show(1:Int)=((1:Nat):Int)from rfl,u32_and_nat _ _ di (by omega),u32_and_nat _ _ hh (by omega),G4,G4,u32_xor_nat _ _ (by omega) (by omega),iJ]
 rw[dz,kO,fT];generalize b/2^i=q;have h1:q%2=0\/q%2=1:=by omega
 have h2:h%2=0\/h%2=1:=by omega
 rcases h1 with h1|h1<;>rcases h2 with h2|h2<;>rw[h1,h2]<;>simp<;>omega
theorem KI{s:Nat}(hs:s<4294967296):bits BinOp.xor IntKind.u32 (s:Int) 4294967295=((fY s:Nat):Int):=by rw[show(4294967295:Int)=((4294967295:Nat):Int)from rfl,u32_xor_nat _ _ hs (by omega),Jk hs]
theorem TV{s:ByteArray}{k:Nat}(h:k<s.size):s.data.toList[k]?=some s[k]:=by
 have h':k<s.data.toList.length:=by simpa using h
 rw[cB h'];simp;rfl
theorem Cm(w:World)(s:ByteArray)(hs:s.size<=1000000):Calls prog 76 #[.string s] w λe w'=>e=.returned (.int .u32 ((hZ s.data.toList:Nat):Int))/\w'=w:=by
 have lj:Hid (s.data.toList.length=s.size):=by unfold Hid;simp
 go_enter func76,ntmps76;go_wp2;go_loop[3,4](λvh vi=>∃k S:Nat,vi=.int .i64 (k:Int)/\k<=s.size/\vh=.int .u32 (S:Int)/\S<4294967296/\Hid (S=qX 4294967295 (s.data.toList.take k)))(λ_ vi=>s.size-(intOf vi).toNat)
 case atStart=>exact⟨0,4294967295,rfl,by omega,rfl,by omega,by rw[gW];rfl⟩
 case round=>obtain⟨k,S,rfl,hk,rfl,BK,EA⟩:=hrel;by_cases di:k<s.size;{(have fJ:(k:Int)<s.size:=by omega);obtain⟨c,hc⟩:∃c,s[k]=c:=⟨_,rfl⟩;(have HN:Hid (kZ S c.toNat 8=qX 4294967295 (s.data.toList.take (k+1))):=by show _=_;have hg:=TV di;rw[hc]at hg;rw[dw,hg,EA.out];exact(AV _ _ _).symm);have HF:=hid (λq=>vz (b:=c.toNat) BK q);have oy:c.toNat<256:=c.toNat_lt;have HC:=hid hc;clear EA hc;go_wp2;go_loop[3,5](λvh vi=>∃q:Nat,vi=.int .i64 (q:Int)/\q<=8/\vh=.int .u32 ((kZ S c.toNat q:Nat):Int))(λ_ vi=>8-(intOf vi).toNat);(case atStart=>exact⟨0,rfl,by omega,rfl⟩);case round=>obtain⟨q,rfl,hq,rfl⟩:=hrel;by_cases afG:q<8;{(have abX:(q:Int)<8:=by omega);have hH:=HF.out q;have HS:Hid (kZ S c.toNat (q+1)=tN (kZ S c.toNat q) c.toNat q):=rfl;generalize kZ S c.toNat q=H at*;have ht:=Of (i:=q) hH oy;have hx:=Ni hH;have hc:=HC.out;clear HF HN;by_cases Bi:(c.toNat>>>q+H)%2=1;{have HE:Hid (tN H c.toNat q=(H>>>1)^^^3988292384):=au Bi;rw[eY Bi]at ht;go_wp2;go_round;(case rel=>exact⟨q+1,by simp,by omega,by rw[HS.out,HE.out]⟩);case measure=>simp[intOf];omega};{have HE:Hid (tN H c.toNat q=H>>>1):=ai Bi;rw[dH Bi]at ht;go_wp2;go_round;(case rel=>exact⟨q+1,by simp,by omega,by rw[HS.out,HE.out,iJ];simp⟩);case measure=>simp[intOf];omega}};{(have abX:¬(q:Int)<8:=by omega);(obtain rfl:q=8:=by omega);have hz:=HF.out 8;generalize kZ S c.toNat 8=H at*;go_wp2;go_round;(case rel=>exact⟨k+1,H,by simp,by omega,rfl,hz,HN⟩);case measure=>simp[intOf];omega}};{(have fJ:¬(k:Int)<s.size:=by omega);(obtain rfl:k=s.size:=by omega);have hf:=KI BK;(have xU:Hid (fY S=hZ s.data.toList):=by have:=EA.out;rw[<-lj.out,dx]at this;rw[this];rfl);clear EA;go_wp2;go_ret;exact⟨by rw[xU.out];rfl,rfl⟩}
def xF(P:Nat->Bool)(q:Nat):Nat:=((List.range q).filter P).length
theorem Dr{P:Nat->Bool}{q:Nat}(h:P q=true):xF P (q+1)=xF P q+1:=by unfold xF;rw[Bw,iV,aJ];simp[h]
theorem Nj{P:Nat->Bool}{q:Nat}(h:P q=false):xF P (q+1)=xF P q:=by unfold xF;rw[Bw,iV,aJ];simp[h]
theorem zU{P:Nat->Bool}{q r:Nat}(h:q<=r):xF P q<=xF P r:=by induction r with|zero=>rw[show q=0 by omega];exact aj _|succ r ih=>by_cases e:q=r+1;{rw[e];exact aj _};{have h1:=ih (by omega);cases hp:P r with|true=>rw[Dr hp];omega|false=>rw[Nj hp];exact h1}
theorem Nd{P:Nat->Bool}{gm q0:Nat}:∀n,((List.range n).filter P)[gm]?=some q0->q0<n/\P q0=true/\xF P q0=gm|0,h=>by simp at h|n+1,h=>by rw[Bw,iV]at h;by_cases hl:gm<((List.range n).filter P).length;{rw[cW hl]at h;obtain⟨h1,h2,h3⟩:=Nd n h;exact⟨by omega,h2,h3⟩};{rw[ct (by omega)]at h;cases hp:P n with|false=>simp[hp]at h|true=>simp[hp]at h;(have h0:gm-((List.range n).filter P).length=0:=by apply iK;intro hne;rw[rk (by simp;omega)]at h;cases h);rw[h0]at h;simp at h;subst h;exact⟨by omega,hp,by unfold xF;omega⟩}
def lB(k R q:Nat):Bool:=!(decide (k=1\/k=3)&&decide (q%R<q/R))
theorem oR{k R C:Nat}(hk:k<=3):dI k R C=((List.range (R*C)).filter (lB k R)).map (λq=>(q%R,q/R)):=by
 unfold dI qM;rw[ai (by omega)];by_cases h:k=1\/k=3;{rw[au h];unfold lc;rw[List.filter_map,abl];congr 1;refine List.filter_congr (λq _=>?_);simp only[Function.comp,lB,eY h,Bool.true_and];rw[dz];simp}
 {rw[ai h];unfold lc;rw[abl];(have e:(List.range (R*C)).filter (lB k R)=List.range (R*C):=by rw[nU];intro q _;simp[lB,h]);rw[e];rfl}
theorem VT{k R C gm i j:Nat}(hk:k<=3)(h:(dI k R C)[gm]?=some (i,j)):∃q,q<R*C/\lB k R q=true/\xF (lB k R) q=gm/\q%R=i/\q/R=j:=by rw[oR hk,bN]at h;cases hf:((List.range (R*C)).filter (lB k R))[gm]? with|none=>rw[hf]at h;cases h|some q=>rw[hf]at h;obtain⟨h1,h2,h3⟩:=Nd _ hf;cases h;exact⟨q,h1,h2,h3,rfl,rfl⟩
theorem vQ(w:World)(p k R C want gm i0 j0:Nat)(uO:Bool)(bv sv:Value)(hk:k<=3)(hR:R<=40)(hC:C<=40)(WH:gm<=1600)(h:aD w p 133 (iq k uO want gm R C bv sv))(tI:(dI k R C)[gm]?=some (i0,j0)):Calls prog 152 #[.pointer (some ⟨p,0,none⟩)] w λe w'=>e=.returned (.tuple #[.int .i64 (i0:Int),.int .i64 (j0:Int)])/\w'=w:=by
 obtain⟨q0,hq0,hP0,qo,rfl,rfl⟩:=VT hk tI;have c0:=h.cell (i:=0) rfl;have c3:=h.cell (i:=3) rfl;have c4:=h.cell (i:=4) rfl;have c5:=h.cell (i:=5) rfl;have Kk:=hid hP0
 have HC0:=hid qo;have HH:=hid (λw:World=>lO w (k:Int));obtain⟨hf,hhf⟩:∃hf:Bool,decide ((k:Int)=1\/(k:Int)=3)=hf:=⟨_,rfl⟩;rw[hhf]at HH;have HHF:Hid (decide (k=1\/k=3)=hf):=by show _=_;rw[<-hhf,decide_eq_decide];omega
 clear h tI hP0 qo hhf;have zg:R*C<=1600:=bI hR hC;go_enter func152,ntmps152;go_wp2;go_loop[4,5](λvk vj=>∃j kc:Nat,vj=.int .i64 (j:Int)/\vk=.int .i64 (kc:Int)/\j<=C/\kc<=1600/\Hid (j*R<=q0)/\Hid (kc=xF (lB k R) (j*R)))(λ_ vj=>C-(intOf vj).toNat)
 case atStart=>exact⟨0,0,rfl,rfl,by omega,by omega,by show _<=_;omega,by show _=_;rw[ny];rfl⟩
 case round=>obtain⟨j,kc,rfl,rfl,hj,Yp,HJ,HK⟩:=hrel;by_cases Ep:j<C;{(have I4:(j:Int)<C:=by omega);go_wp2_with fail;go_loop[4,6](λvk vi=>∃i kc:Nat,vi=.int .i64 (i:Int)/\vk=.int .i64 (kc:Int)/\i<=R/\kc<=1600/\Hid (j*R+i<=q0)/\Hid (kc=xF (lB k R) (j*R+i)))(λ_ vi=>R-(intOf vi).toNat);(case atStart=>exact⟨0,kc,rfl,rfl,by omega,Yp,HJ,HK⟩);case round=>clear HJ HK Yp;obtain⟨i,kc,rfl,rfl,hi,Yp,HJ,HK⟩:=hrel;by_cases hit:i<R;{(have ad7:(i:Int)<R:=by omega);(have m1:(j*R+i)%R=i:=by rw[ay,fL,dE hit]);(have m2:(j*R+i)/R=j:=by rw[ay,fM (by omega),cz hit];omega);(have HT:Hid (lB k R (j*R+i)=!(hf&&decide (i<j))):=by show _=_;unfold lB;rw[m1,m2,HHF.out]);have di:=zU (P:=lB k R) (show j*R+i<=q0 from HJ.out);by_cases E4:hf=true/\i<j;{obtain⟨MU,I7⟩:=E4;subst MU;(have afV:(i:Int)<j:=by omega);(have ql:lB k R (j*R+i)=false:=by rw[HT.out];simp[I7]);(have HJ2:Hid (j*R+(i+1)<=q0):=by show _<=_;(have:j*R+i≠q0:=λe=>by rw[e,Kk.out]at ql;cases ql);have:=HJ.out;omega);(have zo:Hid (kc=xF (lB k R) (j*R+(i+1))):=by show _=_;rw[<-dO,Nj ql];exact HK.out);clear ql di HT HJ HK m1 m2;go_wp2_with fail;refine(HH.out w).mono ?_;rintro e w1⟨rfl,rfl⟩;go_wp2;go_round;(case rel=>exact⟨i+1,kc,by simp,rfl,by omega,Yp,HJ2,zo⟩);case measure=>simp[intOf];omega};{(have Wo:lB k R (j*R+i)=true:=by rw[HT.out];cases hf with|false=>rfl|true=>simp at E4⊢;exact E4);(have MZ:(hf&&decide ((i:Int)<(j:Int)))=false:=by cases hf with|false=>rfl|true=>simp at E4⊢;omega);by_cases hkh:kc=gm;{(have hq:j*R+i=q0:=by apply iK;intro hne;have h1:=zU (P:=lB k R) (show j*R+i+1<=q0 by have:=HJ.out;omega);rw[Dr Wo,HC0.out,<-HK.out]at h1;omega);have HI:Hid ((q0%R:Nat)=i/\q0/R=j):=⟨by rw[<-hq,m1],by rw[<-hq,m2]⟩;subst hkh;clear hq Wo di HT HJ HK m1 m2 MZ;cases hf with|false=>go_wp2_with fail;refine(HH.out w).mono ?_;rintro e w1⟨rfl,rfl⟩;go_wp2;go_ret2;exact⟨by rw[HI.out.1,HI.out.2];rfl,rfl⟩|true=>(have adR:¬(i:Int)<(j:Int):=by simp at E4;omega);go_wp2_with fail;refine(HH.out w).mono ?_;rintro e w1⟨rfl,rfl⟩;go_wp2;go_ret2;exact⟨by rw[HI.out.1,HI.out.2];rfl,rfl⟩};{(have afL:((kc:Int)==(gm:Int))=false:=by rw[av];omega);(have HJ2:Hid (j*R+(i+1)<=q0):=by show _<=_;have:j*R+i≠q0:=λe=>hkh (by rw[HK.out,e];exact HC0.out);have:=HJ.out;omega);(have zo:Hid (kc+1=xF (lB k R) (j*R+(i+1))):=by show _=_;rw[<-dO,Dr Wo,<-HK.out]);(have ab0:kc+1<=1600:=by have h1:=zU (P:=lB k R) HJ2.out;rw[<-zo.out,HC0.out]at h1;omega);clear Wo di HT HJ HK m1 m2 MZ;cases hf with|false=>go_wp2_with fail;refine(HH.out w).mono ?_;rintro e w1⟨rfl,rfl⟩;go_wp2;go_round;(case rel=>exact⟨i+1,kc+1,by simp,by simp,by omega,ab0,HJ2,zo⟩);case measure=>simp[intOf];omega|true=>(have adR:¬(i:Int)<(j:Int):=by simp at E4;omega);go_wp2_with fail;refine(HH.out w).mono ?_;rintro e w1⟨rfl,rfl⟩;go_wp2;go_round;(case rel=>exact⟨i+1,kc+1,by simp,by simp,by omega,ab0,HJ2,zo⟩);case measure=>simp[intOf];omega}}};{(have ad7:¬(i:Int)<R:=by omega);(have Lq:i=R:=by omega);rw[Lq,<-A8]at HJ HK;clear Lq;go_wp2;go_round;(case rel=>exact⟨j+1,kc,by simp,rfl,by omega,Yp,HJ,HK⟩);case measure=>simp[intOf];omega}};{exfalso;(have OV:j=C:=by omega);have h1:=HJ.out;rw[OV,ay]at h1;omega}
def mT(l:List UInt8):Nat:=l.foldl (λv c=>if v<100000 then 10*v+(c.toNat-48)else v) 0
theorem mp(l:List UInt8)(c:UInt8):mT (l++[c])=if mT l<100000 then 10*mT l+(c.toNat-48)else mT l:=by unfold mT;rw[qe];rfl
theorem BU{l:List UInt8}(h:fZ l):mT l<=1000000:=by induction l using jw with|h0=>simp[mT]|h1 l c ih=>obtain⟨h1,h2⟩:=zR h;have:=ih h1;have:=jJ h2;rw[mp];split<;>omega
theorem PM(l:List UInt8):(im l<1000->mT l=im l)/\(1000<=im l->1000<=mT l):=by
 induction l using jw with|h0=>simp[im,mT]|h1 l c ih=>obtain⟨i1,i2⟩:=ih;rw[qx,mp];by_cases h:im l<1000;{rw[au h,i1 h,au (by omega)];exact⟨λ_=>by omega,λ_=>by omega⟩};{rw[ai h];have:=i2 (by omega);refine⟨λh'=>absurd h' h,λ_=>?_⟩;split<;>omega}
def xq:List UInt8->Option Int|[]=>some 0|c::r=>if c=101\/c=69 then(if(fj r).2.takeWhile bZ=[]\/(fj r).2.dropWhile bZ≠[]then none else some (if(fj r).1 then-(mT ((fj r).2.takeWhile bZ):Int)else(mT ((fj r).2.takeWhile bZ):Int)))else none
def uq(l:List UInt8):Option (List UInt8×Int):=if l.takeWhile bZ++(gY (l.dropWhile bZ)).1=[]then none else(xq (gY (l.dropWhile bZ)).2).map λp=>(l.takeWhile bZ++(gY (l.dropWhile bZ)).1,-((gY (l.dropWhile bZ)).1.length:Int)+p)
theorem Rs(l:List UInt8):(wI l=none/\xq l=none)\/∃p q,wI l=some p/\xq l=some q/\(p=q\/(1000<=p/\1000<=q)\/(p<=-1000/\q<=-1000)):=by
 cases l with|nil=>exact .inr ⟨0,0,rfl,rfl,.inl rfl⟩|cons c r=>simp only[wI,xq];by_cases h1:c=101\/c=69;{rw[au h1,au h1];by_cases h2:(fj r).2.takeWhile bZ=[]\/(fj r).2.dropWhile bZ≠[];{rw[au h2,au h2];exact .inl ⟨rfl,rfl⟩};{rw[ai h2,ai h2];obtain⟨b1,b2⟩:=PM ((fj r).2.takeWhile bZ);refine .inr ⟨_,_,rfl,rfl,?_⟩;by_cases hs:im ((fj r).2.takeWhile bZ)<1000;{rw[b1 hs];exact .inl rfl};{have:=b2 (by omega);right;split;{right;omega};{left;omega}}}};{rw[ai h1,ai h1];exact .inl ⟨rfl,rfl⟩}
def iY(D:Nat)(e:Int):Nat:=if D=0\/e< -500 then 0 else if 500<e then 9218868437227405312 else gC D e
theorem VF{D n:Nat}{k e:Int}(hD:D<10^n)(hn:n<=60)(h:k=e\/(900<=k/\900<=e)\/(k<=-900/\e<=-900)):iY D e=gC D k:=by
 unfold iY;by_cases h0:D=0;{rw[au (.inl h0)];unfold gC;rw[au h0]};{
 have adm:∀x:Int,x< -500->gC D x=0:=λx hx=>AR hD h0 (by omega);have big:∀x:Int,500<x->gC D x=9218868437227405312:=λx hx=>Dl (n:=0) (by simp;omega) (by omega) (by omega)
 by_cases h1:e< -500;{rw[au (.inr h1)];rw[adm k (by omega)]};{rw[ai (by omega)];by_cases h2:500<e;{rw[au h2,big k (by omega)]};{rw[ai h2];rcases h with h|h|h;{rw[h]};{omega};{omega}}}}
def aaH:Option (List UInt8×Int)->Bool->Nat×Nat|none,_=>(0,1)|some dp,m=>((if m then 9223372036854775808 else 0)+iY (dL dp.1) dp.2,0)
theorem Pa(l:List UInt8):fZ (gY l).1:=by cases l with|nil=>intro x hx;simp[gY]at hx|cons c r=>simp only[gY];split;{intro x hx;exact ij.1 (G5 (p:=bZ) (l:=r)) x hx};{intro x hx;simp at hx}
theorem Tn(l:List UInt8):(gY l).1.length+(gY l).2.length<=l.length:=by cases l with|nil=>simp[gY]|cons c r=>simp only[gY];split;{(have:(r.takeWhile bZ).length+(r.dropWhile bZ).length=r.length:=by rw[<-aJ,qJ]);simp;omega};{simp}
theorem Tq{l:List UInt8}(hl:l.length<=60)(m:Bool):aaH (uq l) m=WZ (Dm l) m:=by
 have hA:fZ (l.takeWhile bZ):=λx hx=>ij.1 (G5 (p:=bZ) (l:=l)) x hx;have hF:=Pa (l.dropWhile bZ);have h1:(l.takeWhile bZ).length+(l.dropWhile bZ).length=l.length:=by rw[<-aJ,qJ]
 have h2:=Tn (l.dropWhile bZ);unfold uq Dm;generalize l.takeWhile bZ=A at*;generalize gY (l.dropWhile bZ)=fr at*;obtain⟨F,RR⟩:=fr;simp only at hF h2⊢;by_cases hne:A++F=[]
 {rw[au hne,au hne];rfl};{rw[ai hne,ai hne];rcases Rs RR with⟨e1,e2⟩|⟨p,q,e1,e2,J8⟩;{rw[e1,e2];rfl};{rw[e1,e2];simp only[Qk,aaH,WZ];rw[zO];have hd:=lX (iR hA hF);rw[VF (k:=p-F.length) (n:=(A++F).length) hd (by rw[aJ];omega) (by omega)];rw[fU]}}
end Go.Proofs.YthdcceackfdbbaaGreatDoor
