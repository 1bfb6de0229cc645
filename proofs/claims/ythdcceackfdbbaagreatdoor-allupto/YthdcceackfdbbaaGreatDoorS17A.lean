import Derived.Test.YthdcceackfdbbaaGreatDoorS16A
set_option linter.unusedSimpArgs false
set_option maxRecDepth 20000
set_option maxHeartbeats 4000000
open Go.RowKit Go.Proofs.Tryz
namespace Go.Proofs.YthdcceackfdbbaaGreatDoor
section
open Go.Shelf
attribute [local go_sem]Oper.semAt_some
def jR(ps:List (Nat×Nat)):List Value:=ps.flatMap λq=>[.int .i64 (q.1:Int),.int .i64 (q.2:Int)]
theorem uS(ps:List (Nat×Nat)):(jR ps).length=ps.length*2:=by induction ps with|nil=>rfl|cons x r ih=>simp only[jR,Kp,aJ,aU,cd]at ih⊢;omega
theorem yx(ps qs:List (Nat×Nat)):jR (ps++qs)=jR ps++jR qs:=by simp[jR]
theorem Cv:∀(ps:List (Nat×Nat))(k:Nat)(q:Nat×Nat),ps[k]?=some q->(jR ps)[k*2]?=some (.int .i64 (q.1:Int))/\(jR ps)[k*2+1]?=some (.int .i64 (q.2:Int))|[],_,_,h=>by simp at h|x::r,0,q,h=>by simp at h;subst h;exact⟨rfl,rfl⟩|x::r,k+1,q,h=>by have h2:=Cv r k q (by simpa using h);have e:jR (x::r)=[.int .i64 (x.1:Int),.int .i64 (x.2:Int)]++jR r:=rfl;rw[e,ct (by simp only[aU,cd];omega),ct (by simp only[aU,cd];omega)];simp only[aU,cd];rw[show(k+1)*2-(0+1+1)=k*2 by omega,show(k+1)*2+1-(0+1+1)=k*2+1 by omega];exact h2
theorem Rt:∀(ps:List (Nat×Nat))(u:Value),u∈jR ps->∃x:Int,u=.int .i64 x:=by intro ps u hu;obtain⟨q,_,hq⟩:=List.mem_flatMap.1 hu;simp at hq;rcases hq with rfl|rfl;{exact⟨_,rfl⟩};{exact⟨_,rfl⟩}
def q9(w:World)(B:Nat)(v:Value)(ps:List (Nat×Nat)):Prop:=w.ownsRow B 117 2 v ps.length (jR ps)
theorem q9.shape{w:World}{B:Nat}{v:Value}{ps:List (Nat×Nat)}(h:q9 w B v ps):∃ao cap,v=.slice ao ps.length cap/\Md w ao ps/\ps.length<=cap/\(ao=none->ps=[]):=by
 obtain⟨hl,⟨rfl,h0⟩|⟨g,cap,cE,rfl,hB,hg,xS,Gh,P5,mN⟩⟩:=h;{have:ps=[]:=cN.1 h0;subst this;exact⟨none,0,rfl,λk q hq=>by simp at hq,aj _,λ_=>rfl⟩};{
 refine⟨_,cap,rfl,λk q hq=>⟨g,rfl,(aO.1 hg).1,?_,?_⟩,xS,λe=>by cases e⟩;{have hk:k<ps.length:=(ar.1 hq).1;have h1:=(Cv ps k q hq).1;rw[<-mN,dC,au (by omega)]at h1;simp only[World.cell?,hg];simpa using h1}
 {have hk:k<ps.length:=(ar.1 hq).1;have h1:=(Cv ps k q hq).2;rw[<-mN,dC,au (by omega)]at h1;simp only[World.cell?,hg];simpa using h1}}
theorem Tryz.ML:(prog.info? 117).map (λi=>(i.zero,i.size,i.bytes))=some (some (.agg #[.int .i64 0,.int .i64 0]),2,16):=by kernel_rfl
def dI(kind R C:Nat):List (Nat×Nat):=(qM kind R C (λ_ _=>0)).map λx=>(x.1,x.2.1)
theorem bq.grown{B:Nat}{X Y:World}{row:Option Nat}(hg:X.grownBy Y row)(h:∀j,row=some j->∃c,X.heap[j]?=some (.cells c 117 (0,0))):bq B X Y:=⟨hg.size,λi o _ hi ho=>by by_cases e:some i=row;{obtain⟨c,hc⟩:=h i e.symm;rw[hc]at hi;cases hi;exact((ho _ _ _ rfl).2 rfl).elim};{exact(hg.block i (aO.1 hi).1 e).trans hi}⟩
theorem Ez(w:World)(kind R C g:Nat)(hR:R<=40)(hC:C<=40)(hlen:(dI kind R C).length<=1600):Calls prog 247 #[.slice none 0 0,.func (.func (jH kind)) #[fF R C g] #[]] w λe w'=>∃v,e=.returned v/\q9 w' w.heap.size v (dI kind R C)/\Below w.heap.size w w':=by
 obtain⟨b,hb⟩:∃b,w.heap.size=b:=⟨_,rfl⟩;obtain⟨i0,hi0,ip,fS,gU⟩:=info_parts Tryz.ML;have Gd:=tx kind R C g (λ_ _=>0) hR hC;obtain⟨ps,Wu⟩:∃ps,dI kind R C=ps:=⟨_,rfl⟩
 have HPS:Hid (dI kind R C=ps):=Wu;rw[Wu]at hlen;rw[hb,Wu];clear Wu;unfold dI at HPS;generalize qM kind R C (λ_ _=>0)=xs at*;have eg:=tz kind;generalize jH kind=pf at*
 generalize fF R C g=mv at*;refine callsIn_wide (n:=0)|>.1 ?_;refine callsIn_of_wp_marks func247 rfl trivial ?_ rfl;simp only[ntmps247,fd,aU,cd,Nat.reduceAdd,Nat.reduceSub,dZ,dY,fy,eL,dt,cv]
 have C4:Fence.wide.depth=none:=rfl;gi_wp2_with fail;have aV:Boxed (w.alloc (.cells #[.slice none 0 0] 165)) b 165 (.slice none 0 0):=by rw[<-hb];exact Boxed.new _ _ _
 have bV:Below b w (w.alloc (.cells #[.slice none 0 0] 165)):=by rw[<-hb];exact Below.cj _ _
 have zV:(w.alloc (.cells #[.slice none 0 0] 165)).heap.size=b+1:=by simp[hb]
 generalize w.alloc (.cells #[.slice none 0 0] 165)=V at*;refine iP 0 (gf:=pf) (fst:=#[mv]) (lb:=#[]) rfl eg Gd (by intro x hx;obtain⟨y,_,rfl⟩:=eF.1 hx;rfl) (λk W=>∃v,Boxed W b 165 v/\q9 W b v (ps.take k)/\Below b w W/\b+1<=W.heap.size) (λ_ _=>False) (λx a' W=>∃(y:Nat×Nat×Nat)(Bx:Nat),x=mz y/\aD W Bx 117 [.int .i64 (y.1:Int),.int .i64 (y.2.1:Int)]/\a'={tmps:=#[.slice none 0 0,.func (.func pf) #[mv] #[],.pointer (some ⟨b,0,none⟩),undef,.slice none 0 0,.pointer (some ⟨Bx,0,none⟩),.func (.func pf) #[mv] #[],fE y.1 y.2.1,undef,undef,undef,undef,undef],defers:=[]}) (λ_ _ _=>trivial) ?hI ?hIx ?hAx ?h0 ?assign ?body ?done ?stop
 case hI=>rintro k A B⟨v,h1,h2,h3,h4⟩s;refine⟨v,aD.jn (l:=[v]) h1 s,?_,h3.trans (Below.EX s (by omega) (by omega)),ak h4 s.size⟩;obtain⟨hl,hn|⟨g,cap,cE,hv,hB,hg,r⟩⟩:=h2;{exact⟨hl,.inl hn⟩};{exact⟨hl,.inr ⟨g,cap,cE,hv,hB,s.block g _ hg (.inr rfl),r⟩⟩}
 case hIx=>exactλc A B h s=>h
 case hAx=>rintro x a' A B⟨y,Bx,h1,h2,h3⟩s;exact⟨y,Bx,h1,h2.jn s,h3⟩
 case h0=>exact⟨_,aV,World.ownsRow_nil _ _ _ _,bV,by omega⟩
 case assign=>intro l1 k x W1 K hx hi hK;obtain⟨y,hy,rfl⟩:=iO hx;obtain⟨v,h1,h2,h3,h4⟩:=hi;have HK:Hid _:=hid (hK {tmps:=#[.slice none 0 0,.func (.func pf) #[mv] #[],.pointer (some ⟨b,0,none⟩),undef,.slice none 0 0,.pointer (some ⟨W1.heap.size,0,none⟩),.func (.func pf) #[mv] #[],fE y.1 y.2.1,undef,undef,undef,undef,undef],defers:=[]} (W1.alloc (iI y.1 y.2.1)) (bq.below (Below.cj _ _)) ⟨v,h1.alloc _,h2.alloc _,h3.alloc (by omega) _,by simp;omega⟩ ⟨y,W1.heap.size,rfl,aD.dT _ _ _,rfl⟩);clear hK h1 h2 h3 h4 hx;unfold mz fE;unfold fE iI at HK;gi_wp2;exact HK.out
 case body=>rintro l1 k x a' W1 hx⟨v,h1,h2,h3,h4⟩⟨y,Bx,rfl,Jc,rfl⟩;obtain⟨y',hy,wU⟩:=iO hx;have za:=py wU;(have Lo:k<ps.length:=by have:=(ar.1 hy).1;rw[<-HPS.out,bL];exact this);(have hpk:ps.take (k+1)=ps.take k++[(y.1,y.2.1)]:=by rw[dw];(have:ps[k]?=some (y.1,y.2.1):=by rw[<-HPS.out,bN,hy];simp[za.1,za.2]);rw[this];rfl);have xa:=hid hpk;obtain⟨i,j,z⟩:=y;simp only at Jc xa⊢;(have mN:(ps.take k).length=k:=by rw[bE];omega);have c3:=h1.cell;have c4:=Jc.cell (i:=0) rfl;have c5:=Jc.cell (i:=1) rfl;(have Q5:(W1.alloc (.cells #[.int .i64 (i:Int),.int .i64 (j:Int)] 117)).ownsRow b 117 2 v k (jR (ps.take k)):=by have:=h2.alloc (.cells #[.int .i64 (i:Int),.int .i64 (j:Int)] 117);rw[mN]at this;exact this);have H2:=hid h2;have H1:=hid h1;have H3:=hid h3;have H4:=hid h4;have HN:=hid (aD.dT W1 117 [.int .i64 (i:Int),.int .i64 (j:Int)]);unfold fE;clear hx wU hy hpk h1 h2 h3 h4 Jc;gi_wp2_with(gi_at_builtin;refine wpListIn_append_own _ rfl _ _ 165 rfl b 117 i0 _ 2 16 underlying165 hi0 ip fS gU rfl (by decide) _ _ _ rfl Q5 ⟨W1.heap.size,0,none⟩ 1 1 [.int .i64 (i:Int),.int .i64 (j:Int)] rfl rfl ?c1 ?c2 ?c3 ?c4 ?c5 ?_);(case c2=>exact⟨rfl,rfl⟩);(case c3=>unfold maxLen;omega);(case c4=>omega);(case c5=>have:=H4.out;omega);{intro v7 W7 r7 g7 _;obtain⟨g',ez,rfl⟩:=ownsRow_succ r7;obtain⟨f1,f2,f3,_,f5⟩:=Boxed.appended (n₀:=b) H1.out (by decide) H2.out (by have:=H4.out;omega) (aj _) r7 g7;have c6:=f1.cell;have c7:=f1.frozen;have SN:bq (b+1) W1 (W7.setCell ⟨b,0,none⟩ (.slice (some ⟨g',0,none⟩) (k+1) ez)):=((bq.below (Below.cj _ _)).trans (bq.grown g7 (λj' Er=>by obtain⟨_,⟨hv,_⟩|⟨g8,agc,agb,hv,_,hg8,_⟩⟩:=Q5;{rw[hv]at Er;cases Er};{rw[hv]at Er;cases Er;exact⟨_,hg8⟩}))).trans (bq.set (by omega) _);have HF:=hid f2;have HF3:=hid f3;have HF5:=hid f5;have UB:=hid SN;(have HZ7:Hid (b+1<=(W7.setCell ⟨b,0,none⟩ (.slice (some ⟨g',0,none⟩) (k+1) ez)).heap.size):=by have h1:=g7.size;have h2:=H4.out;simp only[World.size_alloc]at h1;show _<=_;simp[World.setCell];omega);clear f1 f2 f3 f5 SN r7 g7 Q5;gi_wp2;rw[zV];refine⟨UB.out,_,HF.out,?_,H3.out.trans HF5.out,HZ7.out⟩;unfold q9;rw[xa.out,yx,aJ,mN];exact HF3.out}
 case done=>rintro D W1 hD⟨v,h1,h2,h3,h4⟩hK;rw[bL]at h2;have e:ps.take xs.length=ps:=aI (by rw[<-HPS.out,bL];exact aj _);rw[e]at h2;obtain⟨ao,cap,rfl,_⟩:=h2.shape;have c3:=h1.cell;have H2:=hid h2;clear h2 h1;gi_wp2;refine⟨by simp,.inl ⟨_,_,rfl,run_takeDeferred hK,?_⟩⟩;refine⟨_,results_tmp rfl _ _ _,.slice ao ps.length cap,rfl,ownsRow_putObj H2.out _ hK rfl,h3.trans ⟨rfl,rfl,rfl,by simp[World.putObj],λq hq=>World.putObj_heap_other (by omega)⟩⟩
 case stop=>exactλ_ _ _ _ h=>h.elim
end
section
open Go.Shelf Go.Lib
theorem AW(w:World)(kind R C g:Nat)(hR:R<=40)(hC:C<=40)(hlen:(dI kind R C).length<=1600):Calls prog 233 #[.func (.func (jH kind)) #[fF R C g] #[]] w λe w'=>∃v,e=.returned v/\q9 w' w.heap.size v (dI kind R C)/\Below w.heap.size w w':=by
 have HA:=hid (λw=>Ez w kind R C g hR hC hlen);generalize dI kind R C=ps at*;generalize jH kind=pf at*;generalize fF R C g=mv at*;go_enter func233,ntmps233;go_wp2_with fail
 refine(HA.out _).mono ?_;rintro e w'⟨v,rfl,hf,hb⟩;obtain⟨ao,cap,rfl,_⟩:=hf.shape;go_wp2;go_ret;exact⟨_,rfl,hf,hb⟩
def Bd(l:List Value)(o:Nat):List Value->List Value|[]=>l|v::r=>Bd (l.set o v) (o+1) r
theorem CI(vs:List Value):∀(l:List Value)(o:Nat),(Bd l o vs).length=l.length:=by induction vs with|nil=>intro l o;rfl|cons v r ih=>intro l o;rw[Bd,ih,ep]
theorem IH(vs:List Value):∀(l:List Value)(o j:Nat),(Bd l o vs)[j]?=if o<=j/\j<o+vs.length/\j<l.length then vs[j-o]? else l[j]?:=by
 induction vs with|nil=>intro l o j;rw[Bd,ai (by simp;omega)]|cons v r ih=>intro l o j;rw[Bd,ih,ep,kJ];by_cases h1:j=o;{subst h1;by_cases h2:j<l.length;{rw[ai (by omega),au rfl,au h2,au ⟨aj _,by simp,h2⟩];simp};{rw[ai (by omega),au rfl,ai h2,ai (by omega),rk (by omega)]}};{by_cases h2:o+1<=j/\j<o+1+r.length/\j<l.length;{rw[au h2,au ⟨by omega,by simp;omega,h2.2.2⟩,show j-o=(j-(o+1))+1 by omega,List.getElem?_cons_succ]};{rw[ai h2,ai (λe=>h1 e.symm),ai (by simp;simp at h2;omega)]}}
theorem aD.setCells{g:Nat}{t:TypeId}(vs:List Value):∀{w:World}{l:List Value}(o:Nat),aD w g t l->aD (w.setCells g o vs) g t (Bd l o vs):=by induction vs with|nil=>intro w l o h;exact h|cons v r ih=>intro w l o h;exact ih (o+1) (h.set o v)
theorem Kept.setCells{S:Nat->Prop}{g:Nat}(hg:S g)(vs:List Value):∀(w:World)(o:Nat),Kept S w (w.setCells g o vs):=by induction vs with|nil=>intro w o;exact Kept.refl _ _|cons v r ih=>intro w o;exact(Kept.set hg v).trans (ih _ (o+1)) (λq h=>.inl h)
theorem D5{P:Program}(w:World)(t e ty:TypeId)(z:Value)(x y:Value)(ht:P.underlying t=some (.slice e))(hv:∀w,(zeroValue e).run P w=.ok z w)(hz:z.cells=#[x,y])(h1:x.oneCell'=true)(h2:y.oneCell'=true)(b o c:Nat)(hc:∀j,j<2->(w.cell? ⟨b,o+j,none⟩).isSome=true)(hf:∀j,j<2->w.frozen? ⟨b,o+j,none⟩=false):(Builtin.clear_ #[t] ty #[.slice (some ⟨b,o,none⟩) 1 c]).run P w=.ok (.tuple #[]) (w.setCells b o [x,y]):=by
 have hzc:(Builtin.zeroCells z.cells 1).toList=[x,y]:=by rw[hz];simp[Builtin.zeroCells];rfl
 have mB:=run_storeCells_cells (P:=P) b o [x,y] 0 w (by simpa using hc) (by simpa using hf) (by intro v hv';simp at hv';rcases hv' with rfl|rfl<;>assumption);simp only[iB]at mB
 simp[Builtin.clear_,run_underlying ht,hv,hzc,mB]
theorem Pk(ps:List (Nat×Nat))(i n cap:Nat)(cE:List Value)(hi:i<n)(hn:ps.length=n)(hc:n<=cap)(hl:cE.length=cap*2)(mN:cE.take (n*2)=jR ps)(u v:Value):(Bd (Bd cE (i*2) (jR (ps.drop (i+1)))) ((n-1)*2) [u,v]).take ((n-1)*2)=jR (ps.eraseIdx i):=by
 have AE:(jR (ps.drop (i+1))).length=(n-(i+1))*2:=by rw[uS,cD,hn]
 have X3:(jR (ps.take i)).length=i*2:=by rw[uS,bE,hn];congr 1;omega
 rw[List.eraseIdx_eq_take_drop_succ,yx];apply List.ext_getElem?;intro t;rw[dC];by_cases ht:t<(n-1)*2;{
 rw[au ht,IH,ai (by omega),IH,AE];by_cases h2:t<i*2;{
 rw[ai (by omega),cW (by omega)];have e1:cE[t]?=(jR ps)[t]?:=by rw[<-mN,dC,au (by omega)]
 have e2:jR ps=jR (ps.take i)++jR (ps.drop i):=by rw[<-yx,cT]
 rw[e1,e2,cW (by omega)]};{rw[au ⟨by omega,by omega,by omega⟩,ct (by omega),X3]}};{rw[ai ht,rk];rw[aJ,X3,AE];omega}
theorem Di(w:World)(S:Nat->Prop)(g cap i n:Nat)(ps:List (Nat×Nat))(hi:i<n)(hn:ps.length=n)(wV:n<=1600)(h:cL w S 117 2 (.slice (some ⟨g,0,none⟩) n cap) n (jR ps)):Calls prog 248 #[.slice (some ⟨g,0,none⟩) n cap,.int .i64 (i:Int),.int .i64 ((i:Int)+1)] w λe w'=>e=.returned (.slice (some ⟨g,0,none⟩) (n-1) cap)/\cL w' S 117 2 (.slice (some ⟨g,0,none⟩) (n-1) cap) (n-1) (jR (ps.eraseIdx i))/\Kept (λq=>q=g) w w':=by
 obtain⟨⟨CU,⟨he,_⟩|⟨g',ez,cE,he,_,hg,xS,Gh,P5,mN⟩⟩,bp⟩:=h;{cases he};cases he;have fX:prog.follows .mixedOrders=true:=by kernel_rfl
 obtain⟨i0,hi0,ip,fS,gU⟩:=info_parts Tryz.ML;have ha:aD w g 117 cE.toList:=by unfold aD;rw[sO];exact hg
 have sL:cE.toList.length=cap*2:=by rw[FA,P5]
 obtain⟨c,hce⟩:∃c,cE.toList=c:=⟨_,rfl⟩;rw[hce]at ha sL mN;clear hg P5 hce;obtain⟨news,uj⟩:∃news,jR (ps.drop (i+1))=news:=⟨_,rfl⟩;have AE:news.length=(n-(i+1))*2:=by rw[<-uj,uS,cD,hn]
 have X5:∀t u,news[t]?=some u->w.drew.cell? ⟨g,(i+1)*2+t,none⟩=some u:=by intro t u hu;have ht:t<news.length:=(ar.1 hu).1;refine ha.drew.cell ?_;(have e1:c[(i+1)*2+t]?=(jR ps)[(i+1)*2+t]?:=by rw[<-mN,dC,au (by omega)]);(have e2:jR ps=jR (ps.take (i+1))++jR (ps.drop (i+1)):=by rw[<-yx,cT]);(have e3:(jR (ps.take (i+1))).length=(i+1)*2:=by rw[uS,bE,hn];congr 1;omega);rw[e1,e2,ct (by omega),e3,uj,show(i+1)*2+t-(i+1)*2=t by omega];exact hu
 obtain⟨A,hA,adJ⟩:∃A:Addr,(if cap=i+1 then some (⟨g,0,none⟩:Addr)else some ⟨g,(i+1)*2,none⟩)=some A/\Hid (∀t u,news[t]?=some u->w.drew.cell? (A.add t)=some u):=by by_cases h:cap=i+1;{refine⟨⟨g,0,none⟩,by simp[h],λt u hu=>?_⟩;(have h0:news.length=0:=by rw[AE];omega);rw[cN.1 h0]at hu;simp at hu};{exact⟨⟨g,(i+1)*2,none⟩,by simp[h],λt u hu=>by rw[Addr.add_lit];exact X5 t u hu⟩}
 have s2:Hid (∀u∈news,u.oneCell'=true):=by intro u hu;rw[<-uj]at hu;obtain⟨x,rfl⟩:=Rt _ _ hu;rfl
 have s3:Hid (∀t,t<news.length->(w.drew.cell? ⟨g,0+i*2+t,none⟩).isSome=true/\w.drew.frozen? ⟨g,0+i*2+t,none⟩=false):=by intro t ht;(have:0+i*2+t<c.length:=by omega);exact⟨by rw[ha.drew.cell (cB this)];rfl,ha.drew.frozen _⟩
 have s1:Hid (news.length=(n-(i+1))*2):=AE;obtain⟨W1,o8⟩:∃W1,W1=w.drew.setCells g (0+i*2) news:=⟨_,rfl⟩;have a1:aD W1 g 117 (Bd c (i*2) news):=by rw[o8,cA];exact ha.drew.setCells news (i*2)
 have hz:∀w,(zeroValue 117).run prog w=.ok (.agg #[.int .i64 0,.int .i64 0]) w:=by intro w;kernel_rfl
 have acb:∀ty c',(Builtin.clear_ #[165] ty #[.slice (some ⟨g,(n-1)*2,none⟩) 1 c']).run prog W1=.ok (.tuple #[]) (W1.setCells g ((n-1)*2) [.int .i64 0,.int .i64 0]):=λty c'=>D5 W1 _ _ ty _ _ _ underlying165 hz rfl rfl rfl g ((n-1)*2) c' (λj hj=>by(have:(n-1)*2+j<(Bd c (i*2) news).length:=by rw[CI];omega);rw[a1.cell (cB this)];rfl) (λj hj=>a1.frozen _)
 have HW:Hid (W1=w.drew.setCells g (0+i*2) news):=o8;have k1:Kept (λq=>q=g) w W1:=by rw[o8];exact(Kept.drewN 1).trans (Kept.setCells (S:=λq=>q=g) rfl news _ _) (λq h=>.inl h)
 have XD:Hid (cL (W1.setCells g ((n-1)*2) [.int .i64 0,.int .i64 0]) S 117 2 (.slice (some ⟨g,0,none⟩) (n-1) cap) (n-1) (jR (ps.eraseIdx i))/\Kept (λq=>q=g) w (W1.setCells g ((n-1)*2) [.int .i64 0,.int .i64 0])):=by have a2:=a1.setCells [.int .i64 0,.int .i64 0] ((n-1)*2);refine⟨⟨⟨?_,.inr ⟨g,cap,_,rfl,ap _,a2,by omega,Gh,?_,?_⟩⟩,bp⟩,k1.trans (Kept.setCells (S:=λq=>q=g) rfl _ _ _) (λq h=>.inl h)⟩;{rw[uS,adl,au (by omega),hn]};{rw[fd,CI,CI,sL]};{show(Bd _ _ _).take _=_;rw[<-uj];exact Pk ps i n cap c hi hn xS sL mN _ _}
 have afe:∀ty,(Builtin.clear_ #[165] ty #[.slice (some ⟨g,(i+(n-(i+1)))*2,none⟩) (n-(i+(n-(i+1)))) (cap-(i+(n-(i+1))))]).run prog W1=.ok (.tuple #[]) (W1.setCells g ((n-1)*2) [.int .i64 0,.int .i64 0]):=by intro ty;(have e:i+(n-(i+1))=n-1:=by omega);(have e2:n-(n-1)=1:=by omega);rw[e,e2];exact acb ty _
 clear acb;have hic:i<=cap:=by omega
 have hjc:i+1<=cap:=by omega
 have hjn:0<=(i:Int)+1/\(i:Int)+1<=(n:Int):=by omega
 clear o8 a1 k1 X5 ha mN sL CU bp uj hz;go_enter func248,ntmps248;go_wp2_with fail;go_region_law_o(refine step_append_room rfl (.tmp 22) (.tmp 25) 165 rfl 117 i0 2 underlying165 hi0 fS g 0 i cap (by simp[Act.eval,Act.put]) A (n-(i+1)) (cap-(i+1)) news (by simp[Act.eval,Act.put]) s1.out adJ.out s2.out (by omega) s3.out ?_;rw[<-HW.out])
 go_wp2;go_ret;refine⟨?_,XD.out⟩;rw[show i+(n-(i+1))=n-1 by omega];rfl
end
theorem AA{l:List UInt8}{b:UInt8}(h:io l)(hl:6<=l.length):io (l++[b]):=(Az h).2 ⟨λh=>by omega,λh=>by omega⟩
theorem TX{l:List UInt8}(h:io l)(hl:14<=l.length)(hs:fp ((l.drop 10).take 4)≠hZ (l.take 10)):fH l=12:=by unfold fH;rw[ai (λk=>k h),ai (by omega),au hs]
theorem L8{l:List UInt8}(h:io l)(hl:14<=l.length)(hs:fp ((l.drop 10).take 4)=hZ (l.take 10))(hL:40<cM l\/40<cQ l):fH l=8:=by unfold fH;rw[ai (λk=>k h),ai (by omega),ai (λk=>k hs),au hL]
theorem JG{l:List UInt8}(h:j4 l)(hl:l.length<18+8*(cM l*cQ l)):fH l=0:=by have h1:=h.len;have h2:=h.hR;have h3:=h.hC;unfold fH;rw[ai (λk=>k h.mark),ai (by omega),ai (λk=>k h.sum),ai (by omega),au hl]
theorem K9(w:World)(x:Nat)(hx:x<=255):Calls prog 185 #[.int .u8 (x:Int)] w λe w'=>e=.returned (.int .i64 ((if x=1 then 5 else 4:Nat):Int))/\w'=w:=by by_cases h:x=1;{subst h;go_enter func185,ntmps185;go_wp2;go_ret;exact⟨rfl,rfl⟩};{(have h':((x:Int)==1)=false:=by simp;omega);rw[ai h];go_enter func185,ntmps185;go_wp2;go_ret;exact⟨rfl,rfl⟩}
theorem aD.ne{w:World}{g p:Nat}{t t':TypeId}{l l':List Value}(h:aD w g t l)(h':aD w p t' l')(ht:t≠t'):g≠p:=by intro e;subst e;have h2:=(show w.heap[g]?=_ from h).symm.trans (show w.heap[g]?=_ from h');injection h2 with h3;injection h3 with _ h4 _;exact ht h4
theorem Qx(x:UInt8):fp [x]=x.toNat:=by simp[fp]
theorem mD(l:List UInt8)(a b c:Nat)(h:b+c<=a):((l.take a).drop b).take c=(l.drop b).take c:=by rw[List.drop_take,Vo,gx (by omega)]
theorem qt(l:List UInt8):fp (l.take 2)<65536:=by
 have h:=oN (l.take 2);have h2:(l.take 2).length<=2:=by rw[bE];omega
 have:256^(l.take 2).length<=256^2:=aF (by omega) h2;omega
theorem OY(w:World)(p:Nat)(S:Nat->Prop)(l:List UInt8)(b:UInt8)(held:Value)(n:Nat)(hn:l.length=n)(hS:S p)(h6:6<=n)(hl:n<14)(hm:io l)(ha:aD w p 171 (mQ (gT 150 p) held 0 0 0 (.slice none 0 0) false))(hr:cL w S 5 1 held n (jQ l)):Calls prog 150 #[.pointer (some ⟨p,0,none⟩),.int .u8 (b.toNat:Int)] w λe w'=>AY w p S (l++[b]) e w':=by
 have BM:∀(fn:Fn)(first cap:Array Value)(w:World),(Instr.makeFunc fn first cap).run prog w=.ok (.func fn first cap) w:=λ_ _ _ _=>rfl;obtain⟨i0,hi,ip,fS,gU⟩:=info_parts Tryz.qP
 have HI:=hid hi;have HA:=hid ha;have HR:=hid hr;have WM:=b.toNat_lt;obtain⟨l',wW⟩:∃l',l++[b]=l':=⟨_,rfl⟩;have hn':l'.length=n+1:=by rw[<-wW,aJ,dl,hn]
 have HM:Hid (io l'):=by rw[<-wW];exact AA hm (by omega)
 have HU:Hid (jQ l'=jQ l++[.int .u8 (b.toNat:Int)]):=by rw[<-wW];exact xZ l b
 have HN:=hid hn';rw[wW];obtain⟨ao,cap,rfl,_,_⟩:=hr.shape;have c1:=ha.cell (i:=1) rfl;clear ha hr hm hi hn hn' wW;have k1:∀o,(w.alloc o).cell? ⟨p,1,none⟩=some (.slice ao n cap):=λo=>(HA.out.alloc o).cell (i:=1) rfl
 go_enter func150,ntmps150;go_wp2_with(at_builtin;refine ik _ rfl _ _ 72 rfl S 5 i0 (.int .u8 0) 1 1 underlying72 HI.out ip fS gU rfl (by decide) _ _ _ rfl (HR.out.below (Below.cj _ _)) ⟨w.heap.size,0,none⟩ 1 1 [.int .u8 (b.toNat:Int)] rfl rfl ?c1 ?c2 ?c3 ?c4 ?_)
 case c1=>exact cell_one_new _ _ _
 case c2=>intro u hu;simp at hu;subst hu;rfl
 case c3=>unfold maxLen;omega
 case c4=>omega
 {
 intro v' w2 iC bG;have a1:aD (w.alloc (.cells #[.int .u8 (b.toNat:Int)] 5)) p 171 (mQ (gT 150 p) (.slice ao n cap) 0 0 0 (.slice none 0 0) false):=HA.out.alloc _
 have a2:aD w2 p 171 (mQ (gT 150 p) (.slice ao n cap) 0 0 0 (.slice none 0 0) false):=lx bG (HR.out.below (Below.cj _ _)) a1 (by decide);have kw:Kept S w w2:=(Kept.cK (Below.cj w _)).trans (Kept.grown bG (λk hk=>HR.out.own k hk)) (λq h=>.inl h)
 have d1:=a2.cell (i:=1) rfl;have f1:=a2.frozen 1;have uX:cL w2 (λq=>S q\/w.heap.size+1<=q) 5 1 v' (n+1) (jQ l'):=by rw[HU.out];simpa using iC
 obtain⟨zj,ez,rfl,aeq,aep⟩:=iC.shape;obtain⟨W3,n8⟩:∃W3,w2.setCell ⟨p,1,none⟩ (.slice zj (n+1) ez)=W3:=⟨_,rfl⟩;have a3:aD W3 p 171 (mQ (gT 150 p) (.slice zj (n+1) ez) 0 0 0 (.slice none 0 0) false):=by rw[<-n8];exact a2.set 1 _
 have kw3:Kept S w W3:=by rw[<-n8];exact kw.trans (Kept.set hS _) (λq h=>.inl h)
 have Q6:cL W3 (λq=>S q\/w.heap.size+1<=q) 5 1 (.slice zj (n+1) ez) (n+1) (jQ l'):=by rw[<-n8];exact uX.set a2 (by decide) _
 have AZ:=hid n8;have lG:=hid a3;have xd:=hid kw3;have A3:=hid Q6;clear iC uX a1 a2 kw bG a3 kw3 Q6 n8;by_cases h13:n=13;{
 subst h13;have Jd:l'.length=14:=HN.out;obtain⟨Vb,uz,e2,xS,Gh,Tb⟩:=cL.bytes (l:=l') (S:=λq=>S q\/w.heap.size+1<=q) (w:=W3) (by rw[Jd];exact A3.out);rw[Jd]at e2;simp only[Value.slice.injEq]at e2
 obtain⟨rfl,_,rfl⟩:=e2;rcases Tb with⟨_,h0⟩|⟨g,rfl,oA⟩;{rw[h0]at Jd;cases Jd};have hcs:=Dn W3 g ez l' (by omega) (by omega) (by omega) oA;rw[Jd]at hcs;simp only[Nat.reduceSub]at hcs
 have Xn:Hid (kT l'=decide (fp ((l'.drop 10).take 4)=hZ (l'.take 10))):=by show _=_;unfold kT;rw[Jd,show 14-4=10 from rfl,aI (l:=l'.drop 10) (by rw[cD];omega)]
 have Qi:=hid hcs;have Vm:=hid oA;have zm:=hid Jd;clear hcs oA Jd;have y1:=lG.out.cell (i:=1) rfl;go_wp2_with fail;rw[AZ.out];refine Qi.out.mono ?_;rintro e W4⟨rfl,m4,uk⟩
 have a4:aD W4 p 171 (mQ (gT 150 p) (.slice (some ⟨g,0,none⟩) (13+1) ez) 0 0 0 (.slice none 0 0) false):=by rw[uk];exact lG.out
 have k4:Kept S w W4:=by rw[uk];exact xd.out.trans (Kept.drewN (S:=S) m4) (λq h=>.inl h)
 have b4:gc W4 g 0 l':=by rw[uk];exact Vm.out
 have nc:=hid a4;have oW:=hid k4;have ma:=hid b4;clear a4 k4 b4 uk Qi AZ lG xd Vm y1 A3;by_cases ut:fp ((l'.drop 10).take 4)=hZ (l'.take 10);{
 have CO:kT l'=true:=by rw[Xn.out];simpa using ut
 rw[CO];have YQ:=hid ut;clear CO Xn ut;have hl5:((l'.take 10).drop 5).length=5:=by have:=zm.out;rw[cD,bE];omega
 have hl6:((l'.take 10).drop 6).length=4:=by have:=zm.out;rw[cD,bE];omega
 have hl8:((l'.take 10).drop 8).length=2:=by have:=zm.out;rw[cD,bE];omega
 obtain⟨x,hx⟩:∃x,l'[5]?=some x:=⟨l'[5]'(by have:=zm.out;omega),by simp⟩;have ZH:((l'.take 10).drop 5).take 1=[x]:=by rw[mD _ _ _ _ (by omega)];(have h5:l'.drop 5=x::l'.drop 6:=by rw[bW (by have:=zm.out;omega)];(have:l'[5]'(by have:=zm.out;omega)=x:=by have:=(ar.1 hx).2;exact this);rw[this]);rw[h5];rfl
 have hx8:=x.toNat_lt;have HX5:=hid hx;have MY:=TL W4 g 5 (ez-5) ((l'.take 10).drop 5) (by have:=(ma.out.take 10).drop 5;rw[cA]at this;exact this) (by omega) (by omega) (by omega)
 rw[hl5,ZH,Qx,ai (by omega)]at MY;simp only[Nat.reduceAdd,Nat.reduceSub]at MY;have HC8:=hid MY;clear MY ZH hx;have aff:¬ez=5:=by omega
 go_wp2_with fail;refine HC8.out.mono ?_;rintro e W5⟨rfl,m5,hW5⟩;have HA5:Hid (aD W5 p 171 (mQ (gT 150 p) (.slice (some ⟨g,0,none⟩) (13+1) ez) 0 0 0 (.slice none 0 0) false)):=by rw[hW5];exact nc.out
 have NC:Hid (Kept S w W5):=by rw[hW5];exact oW.out.trans (Kept.drewN (S:=S) m5) (λq h=>.inl h)
 have mX:Hid (gc W5 g 0 l'):=by rw[hW5];exact ma.out
 clear hW5 HC8 nc oW ma;have tG:=Fl W5 g 6 (ez-5-1) ((l'.take 10).drop 6) (by have:=(mX.out.take 10).drop 6;rw[cA]at this;exact this) (by omega) (by omega) (by omega)
 rw[hl6,mD _ _ _ _ (by omega),show fp ((l'.drop 6).take 2)=cM l' from rfl,ai (by omega)]at tG;simp only[Nat.reduceAdd,Nat.reduceSub]at tG;have aa2:=hid tG;have aey:cM l'<65536:=qt _
 have aeH:cQ l'<65536:=qt _;obtain⟨R,LJ⟩:∃R,cM l'=R:=⟨_,rfl⟩;obtain⟨C,hCd⟩:∃C,cQ l'=C:=⟨_,rfl⟩;rw[LJ]at aa2 aey;rw[hCd]at aeH;have lF:=hid LJ;have Mq:=hid hCd;clear tG LJ hCd
 go_wp2_with fail;refine aa2.out.mono ?_;rintro e W6⟨rfl,m6,hW6⟩;have Ko:Hid (aD W6 p 171 (mQ (gT 150 p) (.slice (some ⟨g,0,none⟩) (13+1) ez) 0 0 0 (.slice none 0 0) false)):=by rw[hW6];exact HA5.out
 have HK6:Hid (Kept S w W6):=by rw[hW6];exact NC.out.trans (Kept.drewN (S:=S) m6) (λq h=>.inl h)
 have q8:Hid (gc W6 g 0 l'):=by rw[hW6];exact mX.out
 clear hW6 aa2 HA5 NC mX;have tG:=Fl W6 g 8 (ez-5-1-2) ((l'.take 10).drop 8) (by have:=(q8.out.take 10).drop 8;rw[cA]at this;exact this) (by omega) (by omega) (by omega)
 rw[hl8,mD _ _ _ _ (by omega),show fp ((l'.drop 8).take 2)=cQ l' from rfl,Mq.out]at tG;obtain⟨sl,BK⟩:∃sl:Value,sl=.slice (if ez-5-1-2=2 then some ⟨g,8,none⟩else some ⟨g,8+2,none⟩) (2-2) (ez-5-1-2-2):=⟨_,rfl⟩
 rw[<-BK]at tG;have acZ:=hid tG;clear tG BK;go_wp2_with fail;refine acZ.out.mono ?_;rintro e W7⟨rfl,m7,U8⟩;have Kn:Hid (aD W7 p 171 (mQ (gT 150 p) (.slice (some ⟨g,0,none⟩) (13+1) ez) 0 0 0 (.slice none 0 0) false)):=by rw[U8];exact Ko.out
 have Xx:Hid (Kept S w W7):=by rw[U8];exact HK6.out.trans (Kept.drewN (S:=S) m7) (λq h=>.inl h)
 clear U8 acZ Ko HK6 q8;by_cases O0:40<R\/40<C;{
 have hE:fH l'=8:=L8 HM.out (by rw[zm.out];omega) YQ.out (by rw[lF.out,Mq.out];exact O0);have qD:Hid (AY w p S l' (.returned (.tuple #[.nilFunc,.int .i64 8])) W7):=⟨.nilFunc,by rw[hE],⟨default,default,default,.inr rfl⟩,Xx.out,⟨_,Kn.out,rfl⟩,λh=>by rw[hE]at h;cases h⟩
 clear hE;by_cases hR:40<R;{(have hR':(40:Int)<R:=by omega);go_wp2;go_ret2;exact qD.out};{
 have hR':¬(40:Int)<R:=by omega
 have hC':(40:Int)<C:=by omega
 go_wp2;go_ret2;exact qD.out}};{
 have hR':¬(40:Int)<R:=by omega
 have hC':¬(40:Int)<C:=by omega
 have nj:j4 l':=⟨HM.out,by rw[zm.out];omega,YQ.out,by rw[lF.out];omega,by rw[Mq.out];omega⟩;have BX:=hid nj;obtain⟨kd,SP⟩:∃kd:Nat,(if x.toNat=1 then 5 else 4)=kd:=⟨_,rfl⟩
 have Nz:Hid (kX l'=kd):=by show _=_;unfold kX;rw[HX5.out,<-SP];by_cases h1:x=1;{subst h1;rfl};{rw[ai (by simpa using h1),ai (λh=>h1 (cg.1 (by simpa using h)))]}
 have hko:=K9 W7 x.toNat (by omega);rw[SP]at hko;have HKO:=hid hko;clear hko SP nj;go_wp2_with fail;refine HKO.out.mono ?_;rintro e W8⟨rfl,hW8⟩;rw[hW8];clear hW8 HKO
 have z2:=Kn.out.cell (i:=2) rfl;have y2:=Kn.out.frozen 2;obtain⟨W8,hW8⟩:∃W8,W7.setCell ⟨p,2,none⟩ (.int .i64 (kd:Int))=W8:=⟨_,rfl⟩;have HA8:Hid (aD W8 p 171 (mQ (gT 150 p) (.slice (some ⟨g,0,none⟩) (13+1) ez) kd 0 0 (.slice none 0 0) false)):=by rw[<-hW8];exact Kn.out.set 2 _
 have HK8:Hid (Kept S w W8):=by rw[<-hW8];exact Xx.out.trans (Kept.set hS _) (λq h=>.inl h)
 have HW8:=hid hW8;clear hW8;have HNW:=hid (BH W8 R C (by omega) (by omega));go_wp2_with fail;rw[HW8.out];refine HNW.out.mono ?_;rintro e W9⟨rfl,Ke⟩;have Y0:Hid (aD W9 p 171 (mQ (gT 150 p) (.slice (some ⟨g,0,none⟩) (13+1) ez) kd 0 0 (.slice none 0 0) false)):=by rw[Ke];exact(HA8.out.alloc _).alloc _
 have HG9:Hid (aD W9 (W8.heap.size+1) 65 (List.replicate (R*C) (.int .u64 0))):=by show aD _ _ _ _;rw[Ke];have:=aD.new (W8.alloc (gX R C (W8.heap.size+1))) 65 (Array.replicate (R*C) (.int .u64 0));rw[World.size_alloc,abp]at this;exact this
 have HK9:Hid (Kept S w W9):=by rw[Ke];exact(HK8.out.trans (Kept.cK (S:=S) (Below.cj W8 _)) (λq h=>.inl h)).trans (Kept.cK (S:=S) (Below.cj _ _)) (λq h=>.inl h)
 obtain⟨g9,hg9⟩:∃g9,W8.heap.size+1=g9:=⟨_,rfl⟩;have oG:w.heap.size<=g9:=by have:=HK8.out.size;omega
 rw[hg9]at HG9⊢;unfold fF;clear Ke HW8 HNW HA8 HK8 Kn Xx z2 y2 hg9;have q3:=Y0.out.cell (i:=3) rfl;have q4:=Y0.out.cell (i:=4) rfl;have q5:=Y0.out.cell (i:=5) rfl
 have r3:=Y0.out.frozen 3;have r4:=Y0.out.frozen 4;have r5:=Y0.out.frozen 5;have A10:=((Y0.out.set 3 (.int .i64 (R:Int))).set 4 (.int .i64 (C:Int))).set 5 (.slice (some ⟨g9,0,none⟩) (R*C) (R*C))
 have q1:=A10.cell (i:=1) rfl;have r1:=A10.frozen 1;have ac6:=hid A10;clear A10;obtain⟨N,hNN⟩:∃N,R*C=N:=⟨_,rfl⟩;rw[hNN]at ac6 HG9 q1 r1⊢;have Uz:=hid hNN;clear hNN
 go_wp2;go_ret2;have hE:fH l'=0:=JG BX.out (by rw[zm.out];omega);have hne:g9≠p:=HG9.out.ne Y0.out (by decide);have A11:=ac6.out.set 1 (.slice none 0 0);have hK:Kept S w ((((W9.setCell ⟨p,3,none⟩ (.int .i64 (R:Int))).setCell ⟨p,4,none⟩ (.int .i64 (C:Int))).setCell ⟨p,5,none⟩ (.slice (some ⟨g9,0,none⟩) N N)).setCell ⟨p,1,none⟩ (.slice none 0 0)):=(((HK9.out.trans (Kept.set (S:=S) hS _) (λq h=>.inl h)).trans (Kept.set (S:=S) hS _) (λq h=>.inl h)).trans (Kept.set (S:=S) hS _) (λq h=>.inl h)).trans (Kept.set (S:=S) hS _) (λq h=>.inl h)
 refine⟨gT 186 p,by rw[hE];rfl,⟨_,_,_,.inl rfl⟩,hK,⟨_,A11,rfl⟩,λ_=>⟨.inl hS,.inr (.inr (.inl ⟨BX.out,by rw[zm.out];omega,.slice none 0 0,g9,?_,?_,?_,?_⟩))⟩⟩;{rw[Nz.out,lF.out,Mq.out,Uz.out];exact A11.set 0 _}
 {rw[zm.out,fg (by rw[zm.out];omega)];exact cL.nil _ _ _ _};{rw[lF.out,Mq.out,Uz.out];exact((((HG9.out.other _ hne).other _ hne).other _ hne).other _ hne).other _ hne}
 {exact .inr ⟨oG,by have:=HG9.out.lt;simpa[World.setCell]using this⟩}}};{
 have CO:kT l'=false:=by rw[Xn.out];simpa using ut
 rw[CO];have hE:fH l'=12:=TX HM.out (by rw[zm.out];omega) ut;clear CO Xn ut;go_wp2;go_ret2;exact⟨.nilFunc,by rw[hE];rfl,⟨default,default,default,.inr rfl⟩,oW.out,⟨_,nc.out,rfl⟩,λh=>by rw[hE]at h;cases h⟩}}
 {
 have di:(n:Int)+1<14:=by omega
 have y1:=lG.out.cell (i:=1) rfl;go_wp2_with fail;rw[AZ.out];go_wp2;go_ret2;have hE:fH l'=0:=tP HM.out (by rw[HN.out];omega);refine⟨gT 150 p,by rw[hE];rfl,⟨_,_,_,.inl rfl⟩,xd.out,⟨_,lG.out,rfl⟩,λ_=>⟨.inl hS,.inr (.inl ⟨by rw[HN.out];omega,by rw[HN.out];omega,HM.out,_,lG.out.set 0 _,?_⟩)⟩⟩
 rw[HN.out];exact(A3.out.FH (by omega) (aj _)).set lG.out (by decide) _}}
end Go.Proofs.YthdcceackfdbbaaGreatDoor
