import Derived.Test.YthdcceackfdbbaaGreatDoorS45A
set_option linter.unusedSimpArgs false
set_option maxRecDepth 20000
set_option maxHeartbeats 4000000
open Go.RowKit Go.Proofs.Tryz
namespace Go.Proofs.YthdcceackfdbbaaGreatDoor
abbrev pS:=World->(Nat->Prop)->Prop
def Fx(P:pS):Prop:=∀(w w':World)(S:Nat->Prop),P w S->(∀z,S z->w'.heap[z]?=w.heap[z]?)->w.heap.size<=w'.heap.size->P w' S
structure Dz(b:Nat)(w:World)(own:Nat->Nat)(Ps:Nat->pS):Prop where
 WY:∀k,Fx (Ps k)
 lt:∀z,own z≠0->b<=z/\z<w.heap.size
 all:∀k,k≠0->Ps k w (λz=>own z=k)
def Zm(Ps:Nat->pS)(k:Nat)(P:pS):Nat->pS:=λj=>if j=k then P else Ps j
theorem kD(Ps:Nat->pS)(k:Nat)(P:pS):Zm Ps k P k=P:=au rfl
theorem eG(Ps:Nat->pS){k j:Nat}(P:pS)(h:j≠k):Zm Ps k P j=Ps j:=ai h
open Classical in theorem Dz.step{b:Nat}{w w':World}{own:Nat->Nat}{Ps:Nat->pS}(h:Dz b w own Ps)(hb:b<=w.heap.size){k:Nat}(hk:k≠0)(hK:Kept (λz=>own z=k) w w')(S:Nat->Prop)(hS:∀z,S z->own z=k\/w.heap.size<=z)(Bk:∀z,S z->z<w'.heap.size){P:pS}(hP:P w' S)(hF:Fx P):(∃If,Dz b w' If (Zm Ps k P)/\∀j,j≠0->j≠k->(λz=>If z=j)=(λz=>own z=j))/\Below b w w':=by
 have others:∀j,j≠0->j≠k->(λz=>(if S z then k else if own z=k then 0 else own z)=j)=(λz=>own z=j):=by intro j hj Yr;funext z;apply propext;by_cases h1:S z;{simp only[h1,EE];constructor;{intro e;exact(Yr e.symm).elim};{intro e;rcases hS z h1 with h2|h2;{exact(Yr (e.symm.trans h2)).elim};{have:=(h.lt z (by rw[e];exact hj)).2;omega}}};{by_cases h2:own z=k;{simp only[h1,h2,EE,zq];exact⟨λe=>(hj e.symm).elim,λe=>(Yr e.symm).elim⟩};{simp only[h1,h2,zq]}}
 refine⟨⟨λz=>if S z then k else if own z=k then 0 else own z,⟨?_,?_,?_⟩,others⟩,hK.below (λz hz=>(h.lt z (by rw[hz];exact hk)).1) hb⟩;{intro j;by_cases hj:j=k;{subst hj;rw[kD];exact hF};{rw[eG _ _ hj];exact h.WY j}}
 {
 intro z hz;by_cases h1:S z;{rcases hS z h1 with h2|h2;{exact⟨(h.lt z (by rw[h2];exact hk)).1,Bk z h1⟩};{exact⟨by omega,Bk z h1⟩}};{rw[ai h1]at hz;by_cases h2:own z=k;{rw[au h2]at hz;exact(hz rfl).elim};{rw[ai h2]at hz;have:=h.lt z hz;exact⟨this.1,ax this.2 hK.size⟩}}}
 {
 intro j hj;by_cases Yr:j=k;{
 subst Yr;rw[kD];have e:(λz=>(if S z then j else if own z=j then 0 else own z)=j)=S:=by funext z;apply propext;by_cases h1:S z;{simp[h1]};{by_cases h2:own z=j;{simp only[h1,h2,EE,zq];exact⟨λe=>(hj e.symm).elim,λe=>e.elim⟩};{simp only[h1,h2,zq]}}
 rw[e];exact hP};{rw[eG _ _ Yr];rw[others j hj Yr];refine h.WY j w w' _ (h.all j hj) (λz hz=>hK.block z (h.lt z (by rw[hz];exact hj)).2 (λe=>Yr (hz.symm.trans e))) hK.size}}
theorem Dz.below{b:Nat}{w w':World}{own:Nat->Nat}{Ps:Nat->pS}(h:Dz b w own Ps)(k:Below w.heap.size w w'):Dz b w' own Ps:=⟨h.WY,λz hz=>⟨(h.lt z hz).1,ax (h.lt z hz).2 k.size⟩,λj hj=>h.WY j w w' _ (h.all j hj) (λz hz=>k.block z (h.lt z (by rw[hz];exact hj)).2) k.size⟩
def xp(l:List Nat):List Value:=l.map λq=>.pointer (some ⟨q,0,none⟩)
def WP(p:Nat)(ss ls:List Nat)(way:List ByteArray):pS:=λw S=>S p/\∃sv lv wv,aD w p 51 [sv,lv,wv]/\cL w S 26 1 sv ss.length (xp ss)/\cL w S 34 1 lv ls.length (xp ls)/\cL w S 9 1 wv way.length (sW way)
def PS(q p:Nat)(rest:ByteArray):pS:=λw S=>S q/\S p/\pU w 0 q p rest
def PL(q m:Nat):pS:=λw S=>jW w q S m
theorem wu(p:Nat)(ss ls:List Nat)(way:List ByteArray):Fx (WP p ss ls way):=by rintro w w' S⟨hp,sv,lv,wv,ha,h1,h2,h3⟩hk hz;exact⟨hp,sv,lv,wv,(hk p hp).trans ha,h1.keep (λg hg=>hk g (h1.own g hg)),h2.keep (λg hg=>hk g (h2.own g hg)),h3.keep (λg hg=>hk g (h3.own g hg))⟩
theorem Nc(q p:Nat)(rest:ByteArray):Fx (PS q p rest):=by rintro w w' S⟨hq,hp,hs⟩hk hz;exact⟨hq,hp,(hk q hq).trans hs.s,(hk p hp).trans hs.w,hs.hq,hs.hp,hs.ne⟩
theorem Gl(q m:Nat):Fx (PL q m):=λ_ _ _ h hk hz=>jW.frame h hk hz
theorem Pd:Fx (λ_ _=>True):=λ_ _ _ _ _ _=>trivial
def eh(b:Nat)(w:World)(p ns nl nw M:Nat):Prop:=∃own Ps ss ls way,Dz b w own Ps/\b<=w.heap.size/\ss.length=ns/\ls.length=nl/\way.length=nw/\Ps 1=WP p ss ls way/\(∀i q,ss[i]?=some q->∃p' rest,rest.size<=1000000/\Ps (2+2*i)=PS q p' rest)/\(∀i q,ls[i]?=some q->∃m,m<=M/\Ps (3+2*i)=PL q m)/\(∀x∈way,x.size<=1000000)
theorem eh.below{b:Nat}{w w':World}{p ns nl nw M:Nat}(h:eh b w p ns nl nw M)(k:Below w.heap.size w w'):eh b w' p ns nl nw M:=by obtain⟨own,Ps,ss,ls,way,h1,h2,h3⟩:=h;exact⟨own,Ps,ss,ls,way,h1.below k,ak h2 k.size,h3⟩
theorem eh.mono{b:Nat}{w:World}{p ns nl nw M M':Nat}(h:eh b w p ns nl nw M)(hM:M<=M'):eh b w p ns nl nw M':=by obtain⟨own,Ps,ss,ls,way,h1,h2,h3,h4,h5,h6,h7,h8,h9⟩:=h;refine⟨own,Ps,ss,ls,way,h1,h2,h3,h4,h5,h6,h7,λi q hq=>?_,h9⟩;obtain⟨m,hm,e⟩:=h8 i q hq;exact⟨m,ak hm hM,e⟩
theorem eh.first{b:Nat}{w':World}{p:Nat}(hb:b<=p)(ha:aD w' p 51 [.slice none 0 0,.slice none 0 0,.slice none 0 0]):eh b w' p 0 0 0 0:=by
 refine⟨λz=>if z=p then 1 else 0,λk=>if k=1 then WP p [] [] []elseλ_ _=>True,[],[],[],⟨λk=>?_,λz hz=>?_,λk hk=>?_⟩,by have:=ha.lt;omega,rfl,rfl,rfl,au rfl,λi q h=>by simp at h,λi q h=>by simp at h,λx h=>by simp at h⟩
 {by_cases h:k=1;{simp only[h,EE];exact wu _ _ _ _};{simp only[h,zq];exact Pd}};{by_cases h:z=p;{rw[h];exact⟨hb,ha.lt⟩};{rw[ai h]at hz;exact(hz rfl).elim}};{by_cases h:k=1;{subst h;simp only[EE];exact⟨by simp,_,_,_,ha,cL.nil _ _ _ _,cL.nil _ _ _ _,cL.nil _ _ _ _⟩};{simp only[h,zq]}}
theorem eh.F0{b:Nat}{w:World}{p ns nl nw M:Nat}(h:eh b w p ns nl nw M){i:Nat}(hi:i<nl):∃q S m,m<=M/\jW w q S m/\(∃sv lv wv,aD w p 51 [sv,lv,wv]/\w.cell? ⟨p,1,none⟩=some lv/\∃ao cap,lv=.slice ao nl cap/\∃g,ao=some ⟨g,0,none⟩/\w.cell? ⟨g,i,none⟩=some (.pointer (some ⟨q,0,none⟩)))/\∀w' m',my w q S m' w'->m'<=M+2000000->eh b w' p ns nl nw (M+2000000)/\Below b w w':=by
 obtain⟨own,Ps,ss,ls,way,h1,h2,h3,h4,h5,h6,h7,h8,h9⟩:=h;obtain⟨q,hq⟩:∃q,ls[i]?=some q:=⟨ls[i]'(by omega),by simp[h4,hi]⟩;obtain⟨m,hm,e⟩:=h8 i q hq;have hl:=h1.all (3+2*i) (by omega)
 rw[e]at hl;have hw:=h1.all 1 (by omega);rw[h6]at hw;obtain⟨hp,sv,lv,wv,ha,r1,r2,r3⟩:=hw;refine⟨q,_,m,hm,hl,⟨sv,lv,wv,ha,ha.cell (i:=1) rfl,?_⟩,λw' m' hc hm'=>?_⟩
 {rcases r2.row.2 with⟨_,h0⟩|⟨g,cap,cE,e2,_⟩;{omega};{refine⟨some ⟨g,0,none⟩,cap,by rw[e2,h4],g,rfl,?_⟩;have hr:=r2.row;subst e2;rw[hr.cellAt i (by omega)];simp[xp,hq]}}
 {
 obtain⟨hk,S',AJ,wW⟩:=hc;obtain⟨⟨If,ho',_⟩,wM⟩:=h1.step h2 (k:=3+2*i) (by omega) hk S' AJ wW.lt (P:=PL q m') wW (Gl q m');refine⟨⟨If,_,ss,ls,way,ho',ak h2 hk.size,h3,h4,h5,?_,λj q' hj=>?_,λj q' hj=>?_,h9⟩,wM⟩
 {rw[eG _ _ (by omega)];exact h6};{obtain⟨p',rest,hr,e2⟩:=h7 j q' hj;exact⟨p',rest,hr,by rw[eG _ _ (by omega)];exact e2⟩};{by_cases hji:j=i;{subst hji;rw[hq]at hj;cases hj;exact⟨m',hm',kD _ _ _⟩};{obtain⟨m2,wg,e2⟩:=h8 j q' hj;exact⟨m2,by omega,by rw[eG _ _ (by omega)];exact e2⟩}}}
theorem ae9(w:World)(c n:Int)(h1:-9223372036854775808<=c)(h2:c<=9223372036854775807)(hn:0<n)(wV:n<=9223372036854775807):Calls prog 55 #[.int .i64 c,.int .i64 n] w λe w'=>(∃k:Nat,e=.returned (.int .i64 (k:Int))/\(k:Int)<n)/\w'=w:=by
 by_cases hc:c<0;{
 go_enter func55,ntmps55;go_wp2;go_ret;have e1:(c+1).tmod n=-(-(c+1)%n):=by rw[<-Vs (by omega:0<=-(c+1)),Int.neg_tmod,Int.neg_neg]
 have e2:=l6 (-(c+1)) (by omega:n≠0);have e3:=wH (-(c+1)) hn;exact⟨⟨(-(c+1)%n).toNat,aS (by rw[e1];omega),by omega⟩,rfl⟩};{go_enter func55,ntmps55;go_wp2;go_ret;refine⟨⟨(c%n).toNat,aS ?_,?_⟩,rfl⟩;{have:=l6 c (by omega:n≠0);omega};{have:=l6 c (by omega:n≠0);have:=wH c hn;omega}}
theorem Zw(w:World)(q p:Nat)(rest:ByteArray)(Bb:Int)(hs:pU w 0 q p rest)(hr:rest.size<=1000000):Calls prog 10 #[.pointer (some ⟨q,0,none⟩),.int .i64 Bb] w λe w'=>e=.returned (.bool true)/\∃jo:ByteArray,jo.size<=rest.size/\pU w' 0 q p jo/\Kept (λz=>z=q\/z=p) w w':=by
 have ZV:=hs.ne;have hqB:=hs.hq;have hpB:=hs.hp;have c0:=hs.s.cell (i:=0) rfl;have HS:=hid hs;clear hs;have HN:=hid (RG w p rest Bb HS.out.w (by omega));obtain⟨m,hm⟩:∃m:Nat,min Bb.toNat rest.size=m:=⟨_,rfl⟩
 rw[hm]at HN;go_enter func10,ntmps10;go_wp2_with fail;refine HN.out.mono ?_;rintro e W⟨rfl,W1,b1,rfl⟩;have s1:aD (W1.setCell ⟨p,0,none⟩ (.string (rest.extract m rest.size))) q 81 [.pointer (some ⟨p,0,none⟩),.string rest]:=(HS.out.s.az b1).other _ (fl ZV)
 have w1:aD (W1.setCell ⟨p,0,none⟩ (.string (rest.extract m rest.size))) p 101 [.string (rest.extract m rest.size)]:=(HS.out.w.az b1).set 0 _;have bb:Kept (λz=>z=q\/z=p) w (W1.setCell ⟨p,0,none⟩ (.string (rest.extract m rest.size))):=(Kept.cK b1).trans (Kept.set (S:=λz=>z=q\/z=p) (.inr rfl) _) (λz h=>.inl h)
 generalize W1.setCell ⟨p,0,none⟩ (.string (rest.extract m rest.size))=W2 at*;clear b1 HN c0 HS;have k1:=s1.cell (i:=1) rfl;have f1:=s1.frozen 1;have xU:=hid s1
 have HW1:=hid w1;have DY:=hid bb;clear s1 w1 bb;have qD:Hid (∃jo:ByteArray,jo.size<=rest.size/\pU (W2.setCell ⟨q,1,none⟩ (.string (rest.extract m rest.size))) 0 q p jo/\Kept (λz=>z=q\/z=p) w (W2.setCell ⟨q,1,none⟩ (.string (rest.extract m rest.size)))):=⟨rest.extract m rest.size,by rw[jB];omega,⟨xU.out.set 1 _,HW1.out.other _ ZV,hqB,hpB,ZV⟩,DY.out.trans (Kept.set (S:=λz=>z=q\/z=p) (.inl rfl) _) (λz h=>.inl h)⟩
 by_cases h1:(rest.size:Int)<Bb;{
 have P3:m=rest.size:=by omega
 have h2:¬((rest.size:Int)<0):=by omega
 subst P3;go_wp2;go_ret;exact⟨by simp,by have:=qD.out;simpa using this⟩};{by_cases h2:Bb<0;{(have P3:m=0:=by omega);subst P3;go_wp2;go_ret;exact⟨by simp,by have:=qD.out;simpa using this⟩};{(have P3:Bb=(m:Int):=by omega);subst P3;go_wp2;go_ret;exact⟨by simp,qD.out⟩}}
theorem eh.Zf{b:Nat}{w:World}{p ns nl nw M:Nat}(h:eh b w p ns nl nw M){i:Nat}(hi:i<ns):∃q p' rest,rest.size<=1000000/\pU w 0 q p' rest/\(∃sv lv wv,aD w p 51 [sv,lv,wv]/\∃ao cap,sv=.slice ao ns cap/\∃g,ao=some ⟨g,0,none⟩/\w.cell? ⟨g,i,none⟩=some (.pointer (some ⟨q,0,none⟩)))/\∀w' jo,Kept (λz=>z=q\/z=p') w w'->pU w' 0 q p' jo->jo.size<=1000000->eh b w' p ns nl nw M/\Below b w w':=by
 obtain⟨own,Ps,ss,ls,way,h1,h2,h3,h4,h5,h6,h7,h8,h9⟩:=h;obtain⟨q,hq⟩:∃q,ss[i]?=some q:=⟨ss[i]'(by omega),by simp[h3,hi]⟩;obtain⟨p',rest,hr,e⟩:=h7 i q hq;have hl:=h1.all (2+2*i) (by omega)
 rw[e]at hl;obtain⟨hSq,Gi,hs⟩:=hl;have hw:=h1.all 1 (by omega);rw[h6]at hw;obtain⟨hp,sv,lv,wv,ha,r1,r2,r3⟩:=hw;refine⟨q,p',rest,hr,hs,⟨sv,lv,wv,ha,?_⟩,λw' jo hk J6 Wt=>?_⟩
 {rcases r1.row.2 with⟨_,h0⟩|⟨g,cap,cE,e2,_⟩;{omega};{refine⟨some ⟨g,0,none⟩,cap,by rw[e2,h3],g,rfl,?_⟩;have hr:=r1.row;subst e2;rw[hr.cellAt i (by omega)];simp[xp,hq]}}
 {
 have hk':Kept (λz=>own z=2+2*i) w w':=hk.mono (λz hz=>by rcases hz with rfl|rfl;{exact hSq};{exact Gi});obtain⟨⟨If,ho',_⟩,wM⟩:=h1.step h2 (k:=2+2*i) (by omega) hk' (λz=>own z=2+2*i) (λz hz=>.inl hz) (λz hz=>ax (h1.lt z (by rw[hz];omega)).2 hk.size) (P:=PS q p' jo) ⟨hSq,Gi,J6⟩ (Nc q p' jo)
 refine⟨⟨If,_,ss,ls,way,ho',ak h2 hk.size,h3,h4,h5,?_,λj q' hj=>?_,λj q' hj=>?_,h9⟩,wM⟩;{rw[eG _ _ (by omega)];exact h6};{by_cases hji:j=i;{subst hji;rw[hq]at hj;cases hj;exact⟨p',jo,Wt,kD _ _ _⟩};{obtain⟨p2,Hr,qR,e2⟩:=h7 j q' hj;exact⟨p2,Hr,qR,by rw[eG _ _ (by omega)];exact e2⟩}}
 {obtain⟨m2,wg,e2⟩:=h8 j q' hj;exact⟨m2,wg,by rw[eG _ _ (by omega)];exact e2⟩}}
theorem eh.grow{b:Nat}{w:World}{p ns nl nw M:Nat}(h:eh b w p ns nl nw M):∃(S:Nat->Prop)(ss ls:List Nat)(way:List ByteArray),ss.length=ns/\ls.length=nl/\way.length=nw/\(∀x∈way,x.size<=1000000)/\(∀z,S z->b<=z/\z<w.heap.size)/\WP p ss ls way w S/\(∀(W1 W4:World)(S':Nat->Prop)(q p':Nat)(rest:ByteArray),Below w.heap.size w W1->pU W1 0 q p' rest->w.heap.size<=q->w.heap.size<=p'->rest.size<=1000000->Kept S W1 W4->(∀z,S' z->S z\/W1.heap.size<=z)->(∀z,S' z->z<W4.heap.size)->WP p (ss++[q]) ls way W4 S'->eh b W4 p (ns+1) nl nw M/\Below b w W4)/\(∀(W1 W4:World)(S' Sq:Nat->Prop)(q m:Nat),Below w.heap.size w W1->jW W1 q Sq m->m<=M->(∀z,Sq z->w.heap.size<=z)->Kept S W1 W4->(∀z,S' z->S z\/W1.heap.size<=z)->(∀z,S' z->z<W4.heap.size)->WP p ss (ls++[q]) way W4 S'->eh b W4 p ns (nl+1) nw M/\Below b w W4)/\(∀(W4:World)(S':Nat->Prop)(x:ByteArray),x.size<=1000000->Kept S w W4->(∀z,S' z->S z\/w.heap.size<=z)->(∀z,S' z->z<W4.heap.size)->WP p ss ls (way++[x]) W4 S'->eh b W4 p ns nl (nw+1) M/\Below b w W4):=by
 obtain⟨own,Ps,ss,ls,way,h1,h2,h3,h4,h5,h6,h7,h8,h9⟩:=h;have hw:=h1.all 1 (by omega);rw[h6]at hw;refine⟨_,ss,ls,way,h3,h4,h5,h9,λz hz=>h1.lt z (by rw[hz];omega),hw,?_,?_,?_⟩
 {
 intro W1 W4 S' q p' rest kg hs hq hp' hr hk AJ Bk hW;have o7:b<=W1.heap.size:=ak h2 kg.size;obtain⟨⟨Ie,g2,e2⟩,k2⟩:=h1.step h2 (k:=2+2*ns) (by omega) (Kept.cK kg) (λz=>z=q\/z=p') (λz hz=>by rcases hz with rfl|rfl;{exact .inr hq};{exact .inr hp'}) (λz hz=>by rcases hz with rfl|rfl;{exact hs.s.lt};{exact hs.w.lt}) (P:=PS q p' rest) ⟨.inl rfl,.inr rfl,hs⟩ (Nc q p' rest)
 have e1:=e2 1 (by omega) (by omega);have eq:∀z,Ie z=1↔own z=1:=λz=>iff_of_eq (congrFun e1 z);obtain⟨⟨Rx,g3,_⟩,k3⟩:=g2.step o7 (k:=1) (by omega) (w':=W4) (hk.mono (λz hz=>(eq z).2 hz)) S' (λz hz=>(AJ z hz).imp (eq z).2 id) Bk (P:=WP p (ss++[q]) ls way) hW (wu _ _ _ _)
 refine⟨⟨Rx,_,ss++[q],ls,way,g3,ak o7 hk.size,by simp[h3],h4,h5,kD _ _ _,λj q' hj=>?_,λj q' hj=>?_,h9⟩,k2.trans k3⟩;{
 rw[eG _ _ (by omega)];by_cases hjn:j<ns;{rw[cW (by omega)]at hj;obtain⟨p2,Hr,qR,e3⟩:=h7 j q' hj;exact⟨p2,Hr,qR,by rw[eG _ _ (by omega)];exact e3⟩};{have di:=(ar.1 hj).1;rw[aJ,dl]at di;(obtain rfl:j=ns:=by omega);rw[ct (by omega),h3]at hj;simp at hj;subst hj;exact⟨p',rest,hr,kD _ _ _⟩}}
 {rw[eG _ _ (by omega),eG _ _ (by omega)];exact h8 j q' hj}};{
 intro W1 W4 S' Sq q m kg hl hm hSq hk AJ Bk hW;have o7:b<=W1.heap.size:=ak h2 kg.size;obtain⟨⟨Ie,g2,e2⟩,k2⟩:=h1.step h2 (k:=3+2*nl) (by omega) (Kept.cK kg) Sq (λz hz=>.inr (hSq z hz)) hl.lt (P:=PL q m) hl (Gl q m)
 have e1:=e2 1 (by omega) (by omega);have eq:∀z,Ie z=1↔own z=1:=λz=>iff_of_eq (congrFun e1 z);obtain⟨⟨Rx,g3,_⟩,k3⟩:=g2.step o7 (k:=1) (by omega) (w':=W4) (hk.mono (λz hz=>(eq z).2 hz)) S' (λz hz=>(AJ z hz).imp (eq z).2 id) Bk (P:=WP p ss (ls++[q]) way) hW (wu _ _ _ _)
 refine⟨⟨Rx,_,ss,ls++[q],way,g3,ak o7 hk.size,h3,by simp[h4],h5,kD _ _ _,λj q' hj=>?_,λj q' hj=>?_,h9⟩,k2.trans k3⟩;{rw[eG _ _ (by omega),eG _ _ (by omega)];exact h7 j q' hj}
 {
 rw[eG _ _ (by omega)];by_cases hjn:j<nl;{rw[cW (by omega)]at hj;obtain⟨m2,wg,e3⟩:=h8 j q' hj;exact⟨m2,wg,by rw[eG _ _ (by omega)];exact e3⟩};{have di:=(ar.1 hj).1;rw[aJ,dl]at di;(obtain rfl:j=nl:=by omega);rw[ct (by omega),h4]at hj;simp at hj;subst hj;exact⟨m,hm,kD _ _ _⟩}}}
 {
 intro W4 S' x hx hk AJ Bk hW;obtain⟨⟨Rx,g3,_⟩,k3⟩:=h1.step h2 (k:=1) (by omega) hk S' AJ Bk (P:=WP p ss ls (way++[x])) hW (wu _ _ _ _);refine⟨⟨Rx,_,ss,ls,way++[x],g3,ak h2 hk.size,h3,h4,by simp[h5],kD _ _ _,λj q' hj=>?_,λj q' hj=>?_,λy hy=>?_⟩,k3⟩
 {rw[eG _ _ (by omega)];exact h7 j q' hj};{rw[eG _ _ (by omega)];exact h8 j q' hj};{rcases jm.1 hy with hy|hy;{exact h9 y hy};{simp at hy;rw[hy];exact hx}}}
theorem Tryz.ZB:(prog.info? 26).map (λi=>(i.zero,i.size,i.bytes))=some (some (.pointer none),1,8):=by kernel_rfl
theorem Tryz.ZC:(prog.info? 34).map (λi=>(i.zero,i.size,i.bytes))=some (some (.pointer none),1,8):=by kernel_rfl
theorem Tryz.ZA:(prog.info? 9).map (λi=>(i.zero,i.size,i.bytes))=some (some (.string ⟨#[]⟩),1,16):=by kernel_rfl
def vS(K A B:Int)(s:ByteArray)(bu:Value)(R C off rs cs:Int):List Value:=[.int .i64 K,.int .i64 A,.int .i64 B,.string s,bu,.int .i64 R,.int .i64 C,.int .i64 off,.int .i64 rs,.int .i64 cs]
def DP(K A B:Int)(s:ByteArray)(bu:Value)(R C off rs cs:Int):Value:=.agg #[.int .i64 K,.int .i64 A,.int .i64 B,.string s,bu,.int .i64 R,.int .i64 C,.int .i64 off,.int .i64 rs,.int .i64 cs]
def nu(c n:Int):Nat:=if c<0 then(-(c+1)%n).toNat else(c%n).toNat
theorem rN{c n:Int}(hn:0<n):(nu c n:Int)<n/\(0:Int)<=nu c n:=by unfold nu;split;{have:=l6 (-(c+1)) (by omega:n≠0);have:=wH (-(c+1)) hn;omega};{have:=l6 c (by omega:n≠0);have:=wH c hn;omega}
theorem zH(w:World)(c n:Int)(h1:-9223372036854775808<=c)(h2:c<=9223372036854775807)(hn:0<n)(wV:n<=9223372036854775807):Calls prog 55 #[.int .i64 c,.int .i64 n] w λe w'=>e=.returned (.int .i64 (nu c n:Int))/\w'=w:=by
 by_cases hc:c<0;{go_enter func55,ntmps55;go_wp2;go_ret;(have e1:(c+1).tmod n=-(-(c+1)%n):=by rw[<-Vs (by omega:0<=-(c+1)),Int.neg_tmod,Int.neg_neg]);have e2:=l6 (-(c+1)) (by omega:n≠0);exact⟨aS (by rw[e1];unfold nu;rw[au hc];omega),rfl⟩}
 {go_enter func55,ntmps55;go_wp2;go_ret;have e2:=l6 c (by omega:n≠0);exact⟨aS (by unfold nu;rw[ai (by omega)];omega),rfl⟩}
theorem cL.beside{w w2:World}{S:Nat->Prop}{e e':TypeId}{size XP n n':Nat}{v v':Value}{xs xs':List Value}(hg:w.grownBy w2 v.ownBlock)(hr:cL w S e size v n xs)(h:cL w S e' XP v' n' xs')(hne:e'≠e):cL w2 S e' XP v' n' xs':=by refine h.keep (λg U1=>hg.block g (h.lt g U1).1 (λhh=>?_));obtain⟨_,c,hc⟩:=h.lt g U1;obtain⟨_,c',Kd⟩:=hr.lt g hh.symm;rw[hc]at Kd;cases Kd;exact hne rfl
theorem NL(w:World)(b p ns nl nw M:Nat)(h:eh b w p ns nl nw M)(ui:ns<=2000000)(A B:Int)(s:ByteArray)(R C off rs cs:Int)(ao:Option Addr)(n cap:Nat)(xs:List Nat)(hn:xs.length=n)(jb:n<=10000000)(gi:kr w ao xs)(gB:Lib.TabIs prog w "internal/strconv.uint64pow10" .u64 Lib.pow10Tab):Calls prog 34 #[.pointer (some ⟨p,0,none⟩),DP 1 A B s (.slice ao n cap) R C off rs cs] w λe w'=>e=.returned (.bool true)/\∃MH MF,MH<=ns+1/\MF<=nw+1/\eh b w' p MH nl MF M/\Below b w w':=by
 obtain⟨i0,hi,ip,fS,gU⟩:=info_parts Tryz.ZB;have HI:=hid hi;have mZ:b<=w.heap.size:=by obtain⟨_,_,_,_,_,_,h2,_⟩:=h;exact h2
 obtain⟨V,hV⟩:∃V,w.alloc (.cells (vS 1 A B s (.slice ao n cap) R C off rs cs).toArray 54)=V:=⟨_,rfl⟩;obtain⟨c0,qo⟩:∃c0,w.heap.size=c0:=⟨_,rfl⟩;have bV:Below w.heap.size w V:=by rw[<-hV];exact Below.cj _ _
 have aV:aD V c0 54 (vS 1 A B s (.slice ao n cap) R C off rs cs):=by rw[<-hV,<-qo];exact aD.dT w _ _
 have zV:V.heap.size=c0+1:=by rw[<-hV];simp[qo]
 have Et:=h.below bV;obtain⟨S,ss,ls,way,l1,l2,l3,Ei,Bk,WO,acx,_,_⟩:=Et.grow;have GL:∀x,x<18446744073709551616->ju x (yt x)/\(yt x).length<=100:=λx hx=>Rn gB hx;have U2:(jL xs R C off rs cs A).1.length<=1000000:=Pf (λx hx=>by obtain⟨k,hk⟩:=adh.1 hx;exact(gi k x hk).1) GL
 have HWR:=hid (G6 V R C off rs cs A ao n cap xs hn (by omega) (gi.below bV) (dN gB bV));obtain⟨L,hL⟩:∃L,jL xs R C off rs cs A=L:=⟨_,rfl⟩;rw[hL]at HWR U2;unfold eO at HWR
 have k0:=aV.cell (i:=0) rfl;have k1:=aV.cell (i:=1) rfl;have k4:=aV.cell (i:=4) rfl;have k5:=aV.cell (i:=5) rfl;have k6:=aV.cell (i:=6) rfl;have k7:=aV.cell (i:=7) rfl
 have k8:=aV.cell (i:=8) rfl;have k9:=aV.cell (i:=9) rfl;have iz:=hid Et;have HW:=hid WO;have GH:=hid acx;have j5:=hid bV;have Un:=hid zV;have Xl:=hid Bk;unfold DP
 unfold vS at hV;clear hi Et WO acx bV zV h gi gB GL hL aV Bk Ei;go_enter func34,ntmps34;go_wp2_with fail;refine HWR.out.mono ?_;rintro e W1⟨hwr,b1⟩;rcases hwr with⟨_,rfl⟩|⟨_,q,p',s0,rfl,hsc,Ek⟩
 {
 have ci:eh b W1 p ns nl nw M/\Below b w W1:=⟨iz.out.below b1,(j5.out.mono mZ).trans (b1.mono (by have:=Un.out;omega))⟩;have ej:=hid ci;clear ci k0 k1 k4 k5 k6 k7 k8 k9 b1 HWR HW GH iz
 go_wp2;go_ret;exact⟨rfl,ns,nw,by omega,by omega,ej.out.1,ej.out.2⟩};{
 have o8:=wu p ss ls way V W1 S HW.out (λz hz=>b1.block z (Xl.out z hz).2) b1.size;obtain⟨Gi,sv,lv,wv,AG,r1,r2,r3⟩:=o8;have ZQ:s0.size<=1000000:=by have:=aK (s:=s0) rfl;rw[Ek]at this;omega
 have abK:pU W1 0 q p' s0:=⟨hsc.s,hsc.w,ap _,ap _,hsc.ne⟩;obtain⟨so,yl,rfl,afv,afu⟩:=r1.shape;have c0:=AG.cell (i:=0) rfl;have j6:=hid AG;have wP:=hid r1;have nR:=hid r2
 have A3:=hid r3;have tW:=hid abK;have fQ:=hid b1;have hq:V.heap.size<=q:=hsc.hq;have hp':V.heap.size<=p':=hsc.hp;rw[l1]at wP c0;clear k0 k1 k4 k5 k6 k7 k8 k9 b1 HWR HW iz AG r1 r2 r3 hsc abK hV
 have YI:∀o,(W1.alloc o).cell? ⟨p,0,none⟩=some (.slice so ns yl):=λo=>by have:=(j6.out.alloc o).cell (i:=0) rfl;rw[l1]at this;exact this
 go_wp2_with(at_builtin;refine ik _ rfl _ _ 48 rfl S 26 i0 (.pointer none) 1 8 underlying48 HI.out ip fS gU rfl (by decide) _ _ _ rfl (wP.out.below (Below.cj _ _)) ⟨W1.heap.size,0,none⟩ 1 1 [.pointer (some ⟨q,0,none⟩)] rfl rfl ?c1 ?c2 ?c3 ?c4 ?_)
 case c1=>exact cell_one_new _ _ _
 case c2=>intro u hu;simp at hu;subst hu;rfl
 case c3=>unfold maxLen;omega
 case c4=>omega
 {
 intro v' w2 iC bG;have nI:(W1.alloc (.cells #[.pointer (some ⟨q,0,none⟩)] 26)).grownBy w2 (Value.slice so ns yl).ownBlock:=bG;have a1:=j6.out.alloc (.cells #[.pointer (some ⟨q,0,none⟩)] 26)
 have Mz:cL (W1.alloc (.cells #[.pointer (some ⟨q,0,none⟩)] 26)) S 26 1 (.slice so ns yl) ns (xp ss):=wP.out.below (Below.cj _ _);have J1:=cL.beside nI Mz (nR.out.below (Below.cj W1 _)) (by decide)
 have XQ:=cL.beside nI Mz (A3.out.below (Below.cj W1 _)) (by decide);have a2:=lx nI Mz a1 (by decide);have ady:W1.heap.size+1<=w2.heap.size:=by have:=nI.size;simpa using this
 have kw:Kept S W1 w2:=(Kept.cK (Below.cj W1 _)).trans (Kept.grown nI (λk hk=>Mz.own k hk)) (λz h=>.inl h);obtain⟨FD,mC,rfl,_,_⟩:=iC.shape;have d0:=a2.cell (i:=0) rfl
 have f0:=a2.frozen 0;obtain⟨W4,AQ⟩:∃W4,w2.setCell ⟨p,0,none⟩ (.slice FD (ns+1) mC)=W4:=⟨_,rfl⟩;have a4:aD W4 p 51 [.slice FD (ns+1) mC,lv,wv]:=by rw[<-AQ];exact a2.set 0 _
 have k4:Kept S W1 W4:=by rw[<-AQ];exact kw.trans (Kept.set (S:=S) Gi _) (λz h=>.inl h)
 have z4:W4.heap.size=w2.heap.size:=by rw[<-AQ];simp[World.setCell]
 have IZ:cL w2 (λz=>S z\/(W1.heap.size<=z/\z<W4.heap.size)) 26 1 (.slice FD (ns+1) mC) (ns+1) (xp ss++[.pointer (some ⟨q,0,none⟩)]):=⟨iC.row,λg hg=>(iC.own g hg).imp id (λh=>by(have h1:W1.heap.size+1<=g:=by simpa using h);have h2:=(iC.lt g hg).1;exact⟨by omega,by omega⟩)⟩
 have ci:eh b W4 p (ns+1) nl nw M/\Below b V W4:=by refine GH.out W1 W4 (λz=>S z\/(W1.heap.size<=z/\z<W4.heap.size)) q p' s0 fQ.out tW.out hq hp' ZQ k4 (λz hz=>hz.imp id (λh=>h.1)) (λz hz=>?_) ⟨.inl Gi,_,_,_,a4,?_,?_,?_⟩;{rcases hz with hz|hz;{have:=(Xl.out z hz).2;have:=fQ.out.size;have:=k4.size;omega};{exact hz.2}};{have t:=IZ.set (j:=0) a2 (by decide) (.slice FD (ns+1) mC);rw[AQ]at t;(have e:xp (ss++[q])=xp ss++[.pointer (some ⟨q,0,none⟩)]:=by simp[xp]);rw[e,aJ,l1];exact t};{have t:=J1.set (j:=0) a2 (by decide) (.slice FD (ns+1) mC);rw[AQ]at t;exact t.mono (λz h=>.inl h)};{have t:=XQ.set (j:=0) a2 (by decide) (.slice FD (ns+1) mC);rw[AQ]at t;exact t.mono (λz h=>.inl h)}
 have ej:=hid ci;clear ci iC IZ bG nI a1 Mz J1 XQ a2 a4 kw k4 z4 c0 YI j6 wP nR A3 GH tW fQ Xl;go_wp2;go_ret;exact⟨rfl,ns+1,nw,by omega,by omega,ej.out.1,(j5.out.mono mZ).trans ej.out.2⟩}}
theorem my.drawn{w w':World}{q m k:Nat}{S:Nat->Prop}(h:my (w.drewN k) q S m w'):my w q S m w':=by obtain⟨hk,S',h1,h2⟩:=h;exact⟨(Kept.drewN (S:=S) k).trans hk (λz h=>.inl h),S',h1,h2⟩
theorem Qt(w:World)(b p ns nl nw M:Nat)(h:eh b w p ns nl nw M)(AE:nl<=2000000)(A B:Int)(s:ByteArray)(R C off rs cs:Int)(ao:Option Addr)(n cap:Nat):Calls prog 35 #[.pointer (some ⟨p,0,none⟩),DP 3 A B s (.slice ao n cap) R C off rs cs] w λe w'=>e=.returned (.bool true)/\∃BF,BF<=nl+1/\eh b w' p ns BF nw (M+2000000)/\Below b w w':=by
 obtain⟨i0,hi,ip,fS,gU⟩:=info_parts Tryz.ZC;have HI:=hid hi;clear hi;have mZ:b<=w.heap.size:=by obtain⟨_,_,_,_,_,_,h2,_⟩:=h;exact h2
 obtain⟨V,hV⟩:∃V,w.alloc (.cells (vS 3 A B s (.slice ao n cap) R C off rs cs).toArray 54)=V:=⟨_,rfl⟩;obtain⟨c0,qo⟩:∃c0,w.heap.size=c0:=⟨_,rfl⟩;have bV:Below w.heap.size w V:=by rw[<-hV];exact Below.cj _ _
 have aV:aD V c0 54 (vS 3 A B s (.slice ao n cap) R C off rs cs):=by rw[<-hV,<-qo];exact aD.dT w _ _
 have zV:V.heap.size=c0+1:=by rw[<-hV];simp[qo]
 have Et:=h.below bV;have k0:=aV.cell (i:=0) rfl;have iz:=hid Et;have j5:=hid bV;have qI:=hid aV;have Un:=hid zV;unfold DP;unfold vS at hV;clear Et bV h aV zV;obtain⟨S,ss,ls,way,l1,l2,l3,Ei,Bk,WO,_,acy,_⟩:=iz.out.grow
 have HW:=hid WO;have GH:=hid acy;have Xl:=hid Bk;have HNR:=hid (Ea V);rw[Un.out]at HNR;clear WO acy Bk Ei;go_enter func35,ntmps35;go_wp2_with fail;refine HNR.out.mono ?_
 rintro e W1⟨rfl,b1,r1⟩;obtain⟨q,hq⟩:∃q,W1.heap.size=q:=⟨_,rfl⟩;have J8:c0+1<q:=by have:=r1.FN;omega
 have bV1:Below V.heap.size V W1:=by rw[Un.out];exact b1
 obtain⟨W2,Pp⟩:∃W2,W1.alloc (.cells #[.pointer (some ⟨c0+1,0,none⟩),.string ⟨#[]⟩,.bool false,.int .i64 0,.int .i64 0,.int .i64 0,.slice none 0 0,.int .i64 0,.int .i64 0] 41)=W2:=⟨_,rfl⟩
 have b2:Below W1.heap.size W1 W2:=by rw[<-Pp];exact Below.cj _ _
 have a2:aD W2 q 41 (yB (c0+1) ⟨#[]⟩ false 0 0 0 (.slice none 0 0) 0 0):=by rw[<-Pp,<-hq];exact aD.dT W1 _ _
 have l4:jW W2 q (λz=>z=q\/z=c0+1) 0:=jW.new a2 (r1.below b2) (by omega);have bV2:Below V.heap.size V W2:=bV1.trans (b2.mono bV1.size);have abE:W2.heap.size=q+1:=by rw[<-Pp];simp[hq]
 obtain⟨Gi,sv,lv,wv,AG,q1,q2,q3⟩:=wu p ss ls way V W1 S HW.out (λz hz=>bV1.block z (Xl.out z hz).2) bV1.size;obtain⟨so,yl,rfl,_,_⟩:=q2.shape;have d1:=AG.cell (i:=1) rfl
 rw[l2]at d1 q2;have Mz:=q1.below b2;have J1:=q2.below b2;have XQ:=q3.below b2;have LI:=AG.az b2;have iL:=hid LI;have wP:=hid Mz;have nR:=hid J1;have A3:=hid XQ
 have HL4:=hid l4;have aa5:=hid bV2;have d2:∀o,(W2.alloc o).cell? ⟨p,1,none⟩=some (.slice so nl yl):=λo=>by have:=(iL.out.alloc o).cell (i:=1) rfl;rw[l2]at this;exact this
 have d3:W2.cell? ⟨p,1,none⟩=some (.slice so nl yl):=by have:=iL.out.cell (i:=1) rfl;rw[l2]at this;exact this
 clear b1 b2 bV1 bV2 a2 l4 AG LI q1 q2 q3 Mz J1 XQ r1 HNR HW hV;go_wp2_with(at_builtin;refine ik _ rfl _ _ 49 rfl S 34 i0 (.pointer none) 1 8 underlying49 HI.out ip fS gU rfl (by decide) _ _ _ rfl (nR.out.below (Below.cj _ _)) ⟨W2.heap.size,0,none⟩ 1 1 [.pointer (some ⟨q,0,none⟩)] ?c0 rfl ?c1 ?c2 ?c3 ?c4 ?_)
 case c0=>first|rfl|(rw[abE];rfl)
 case c1=>exact cell_one_new _ _ _
 case c2=>intro u hu;simp at hu;subst hu;rfl
 case c3=>unfold maxLen;omega
 case c4=>omega
 {
 intro v' w2 iC bG;have nI:(W2.alloc (.cells #[.pointer (some ⟨q,0,none⟩)] 34)).grownBy w2 (Value.slice so nl yl).ownBlock:=bG;have a1:=iL.out.alloc (.cells #[.pointer (some ⟨q,0,none⟩)] 34)
 have J1:cL (W2.alloc (.cells #[.pointer (some ⟨q,0,none⟩)] 34)) S 34 1 (.slice so nl yl) nl (xp ls):=nR.out.below (Below.cj _ _);have Mz:=cL.beside nI J1 (wP.out.below (Below.cj W2 _)) (by decide)
 have XQ:=cL.beside nI J1 (A3.out.below (Below.cj W2 _)) (by decide);have a2:=lx nI J1 a1 (by decide);have ady:W2.heap.size+1<=w2.heap.size:=by have:=nI.size;simpa using this
 have kw:Kept S W2 w2:=(Kept.cK (Below.cj W2 _)).trans (Kept.grown nI (λk hk=>J1.own k hk)) (λz h=>.inl h);obtain⟨FD,mC,rfl,_,_⟩:=iC.shape;have e0:=a2.cell (i:=1) rfl
 have f0:=a2.frozen 1;obtain⟨W4,AQ⟩:∃W4,w2.setCell ⟨p,1,none⟩ (.slice FD (nl+1) mC)=W4:=⟨_,rfl⟩;have a4:aD W4 p 51 [sv,.slice FD (nl+1) mC,wv]:=by rw[<-AQ];exact a2.set 1 _
 have k4:Kept S W2 W4:=by rw[<-AQ];exact kw.trans (Kept.set (S:=S) Gi _) (λz h=>.inl h)
 have IZ:cL w2 (λz=>S z\/(W2.heap.size<=z/\z<w2.heap.size)) 34 1 (.slice FD (nl+1) mC) (nl+1) (xp ls++[.pointer (some ⟨q,0,none⟩)]):=⟨iC.row,λg hg=>(iC.own g hg).imp id (λh=>by(have h1:W2.heap.size+1<=g:=by omega);have h2:=(iC.lt g hg).1;exact⟨by omega,by omega⟩)⟩
 have z4:W4.heap.size=w2.heap.size:=by rw[<-AQ];simp[World.setCell]
 have ci:eh b W4 p ns (nl+1) nw M/\Below b V W4:=by refine GH.out W2 W4 (λz=>S z\/(W2.heap.size<=z/\z<w2.heap.size)) (λz=>z=q\/z=c0+1) q 0 aa5.out HL4.out (ap _) (λz hz=>by have:=Un.out;rcases hz with rfl|rfl<;>omega) k4 (λz hz=>hz.imp id (λh=>h.1)) (λz hz=>?_) ⟨.inl Gi,_,_,_,a4,?_,?_,?_⟩;{rcases hz with hz|hz;{have:=(Xl.out z hz).2;have:=aa5.out.size;have:=k4.size;omega};{omega}};{have t:=Mz.set (j:=1) a2 (by decide) (.slice FD (nl+1) mC);rw[AQ]at t;exact t.mono (λz h=>.inl h)};{have t:=IZ.set (j:=1) a2 (by decide) (.slice FD (nl+1) mC);rw[AQ]at t;(have e:xp (ls++[q])=xp ls++[.pointer (some ⟨q,0,none⟩)]:=by simp[xp]);rw[e,aJ,l2];exact t};{have t:=XQ.set (j:=1) a2 (by decide) (.slice FD (nl+1) mC);rw[AQ]at t;exact t.mono (λz h=>.inl h)}
 have ej:=hid ci;clear ci iC IZ bG nI a1 Mz J1 XQ a2 a4 kw k4 z4 d1 d2 d3 iL wP nR A3 GH HL4 aa5 Xl;go_wp2;go_ret;exact⟨by simp,nl+1,by omega,ej.out.1.mono (by omega),(j5.out.mono mZ).trans ej.out.2⟩}
end Go.Proofs.YthdcceackfdbbaaGreatDoor
