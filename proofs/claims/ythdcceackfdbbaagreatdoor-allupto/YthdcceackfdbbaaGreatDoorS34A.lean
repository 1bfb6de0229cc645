import Derived.Test.YthdcceackfdbbaaGreatDoorS33A
set_option linter.unusedSimpArgs false
set_option maxRecDepth 20000
set_option maxHeartbeats 2000000
open Go.RowKit Go.Proofs.Tryz
namespace Go.Proofs.YthdcceackfdbbaaGreatDoor
def og(b:UInt8):Option ul:=if b=37 then some (.text .first [])else if b=65 then some (.box [])else none
def Ms(w:World)(r:Option ul)(e:Ending)(w':World):Prop:=Below w.heap.size w w'/\((r=none/\e=.returned .nilIface)\/∃s,r=some s/\e=.returned (.iface (Hd s) (.pointer (some ⟨w.heap.size,0,none⟩)))/\w.heap.size<w'.heap.size/\tY w' w.heap.size (λq=>q=w.heap.size) s)
theorem LP(w:World)(b:UInt8):Calls prog 49 #[.int .u8 (b.toNat:Int)] w λe w'=>Ms w (og b) e w':=by
 have WM:=b.toNat_lt;by_cases h1:b=37;{
 subst h1;have hr:og 37=some (.text .first []):=rfl;rw[hr];go_enter func49,ntmps49;go_wp2_with fail;refine(Ik w).mono ?_;rintro e W1⟨rfl,kg,ht⟩;have ci:Hid (Ms w (some (.text .first [])) (.returned (.iface 126 (.pointer (some ⟨w.heap.size,0,none⟩)))) W1):=⟨kg,.inr ⟨_,rfl,rfl,by obtain⟨_,_,h,_⟩:=ht;exact h.lt,⟨by simp,ht⟩⟩⟩
 clear kg ht;go_wp2;go_ret;exact ci.out};{
 have e1:¬(b.toNat:Int)=37:=λe=>h1 (cg.1 (by simpa using(by omega:b.toNat=37)));by_cases h2:b=65;{
 subst h2;have hr:og 65=some (.box []):=rfl;rw[hr];clear e1;go_enter func49,ntmps49;go_wp2_with fail;refine(KT w).mono ?_;rintro e W1⟨rfl,kg,ht⟩;have di:w.heap.size<W1.heap.size:=by obtain⟨_,⟨_,_,held,h,_⟩|⟨h,_⟩|⟨h,_⟩|⟨h,_⟩⟩:=ht;{exact h.lt};{simp at h};{have:=h.len;simp at this};{have:=h.len;simp at this}
 have ci:Hid (Ms w (some (.box [])) (.returned (.iface 128 (.pointer (some ⟨w.heap.size,0,none⟩)))) W1):=⟨kg,.inr ⟨_,rfl,rfl,di,ht⟩⟩;clear kg ht;go_wp2;go_ret;exact ci.out}
 {have e2:¬(b.toNat:Int)=65:=λe=>h2 (cg.1 (by simpa using(by omega:b.toNat=65)));(have hr:og b=none:=by unfold og;rw[ai h1,ai h2]);rw[hr];clear hr;go_enter func49,ntmps49;go_wp2;go_ret;exact⟨Below.refl _ _,.inl ⟨rfl,rfl⟩⟩}}
noncomputable def hU:rE->List UInt8->Int×rE
 |.begin,[]=>(0,.begin)|.begin,b::r=>match og b with|some s=>oh (dh s (b::r))|none=>(6,.failed 6)
 |.file s,l=>oh (dh s l)|.failed e,_=>(e,.failed e)|.ended k R C f,_=>(11,.ended k R C f)
theorem dA.arr{w:World}{p:Nat}{Sf:Nat->Prop}{s:rE}(h:dA w p Sf s):∃c,aD w p 90 c/\c.length=8:=by cases s with|begin=>exact⟨_,h.at_,rfl⟩|file s=>obtain⟨q,h1,_⟩:=h.at_;exact⟨_,h1,rfl⟩|failed e=>exact⟨_,h.at_.2,rfl⟩|ended k R C f=>obtain⟨_,_,_,g,v,h1,_⟩:=h.at_;exact⟨_,h1,rfl⟩
theorem dA.frame{w w':World}{p:Nat}{Sf:Nat->Prop}{s:rE}(h:dA w p Sf s)(hk:∀q,q=p\/Sf q->w'.heap[q]?=w.heap[q]?)(dU:w.heap.size<=w'.heap.size):dA w' p Sf s:=by
 refine⟨h.out,λq hq=>ax (h.lt q hq) dU,?_⟩;cases s with|begin=>exact(hk p (.inl rfl)).trans h.at_|file s=>obtain⟨q,h1,h2⟩:=h.at_;exact⟨q,(hk p (.inl rfl)).trans h1,h2.frame (λx hx=>hk x (.inr hx)) dU⟩|failed e=>exact⟨h.at_.1,(hk p (.inl rfl)).trans h.at_.2⟩|ended k R C f=>obtain⟨h0,h1,h2,g,v,h3,h4,h5,h6⟩:=h.at_;exact⟨h0,h1,h2,g,v,(hk p (.inl rfl)).trans h3,h4,(hk g (.inr h4)).trans h5,⟨ax h6.1 dU,λi j hi hj=>(World.cell?_of_block (w:=w) (hk g (.inr h4))).trans (h6.2 i j hi hj)⟩⟩
theorem dA.below{w w':World}{p:Nat}{Sf:Nat->Prop}{s:rE}(h:dA w p Sf s)(b:Below w.heap.size w w'):dA w' p Sf s:=by obtain⟨c,hc,_⟩:=h.arr;refine h.frame (λq hq=>b.block q ?_) b.size;rcases hq with rfl|hq;{exact hc.lt};{exact h.lt q hq}
def yz:rE->Nat|.begin=>29|.file _=>51|.failed _=>82|.ended _ _ _ _=>66
theorem dA.st{w:World}{p:Nat}{Sf:Nat->Prop}{s:rE}(h:dA w p Sf s):∃rest,aD w p 90 (gT (yz s) p::rest):=by cases s with|begin=>exact⟨_,h.at_⟩|file s=>obtain⟨q,h1,_⟩:=h.at_;exact⟨_,h1⟩|failed e=>exact⟨_,h.at_.2⟩|ended k R C f=>obtain⟨_,_,_,g,v,h1,_⟩:=h.at_;exact⟨_,h1⟩
theorem dA.same{w w':World}{p:Nat}{Sf:Nat->Prop}{s:rE}(h:dA w p Sf s)(hw:∀q:Nat,w'.heap[q]?=w.heap[q]?)(hz:w.heap.size=w'.heap.size):dA (w'.setCell ⟨p,0,none⟩ (gT (yz s) p)) p Sf s:=by
 obtain⟨rest,hc⟩:=h.st;have Kd:aD w' p 90 (gT (yz s) p::rest):=(hw p).trans hc;refine h.frame (λq hq=>?_) (by simp[World.setCell];omega);by_cases e:q=p;{subst e;have h2:=Kd.set 0 (gT (yz s) q);exact(show(w'.setCell ⟨q,0,none⟩ (gT (yz s) q)).heap[q]?=_ from h2).trans (show w.heap[q]?=_ from hc).symm}
 {exact(Below.heap_setCell _ _ _ _ e).trans (hw q)}
theorem LR(w:World)(p:Nat)(Sf:Nat->Prop)(k R C:Nat)(f:Nat->Nat->Nat)(x:ByteArray)(h:dA w p Sf (.ended k R C f)):Calls prog 66 #[.pointer (some ⟨p,0,none⟩),.string x] w λe w'=>pT w p Sf (11,.ended k R C f) e w':=by
 have BM:∀(fn:Fn)(first cap:Array Value)(w:World),(Instr.makeFunc fn first cap).run prog w=.ok (.func fn first cap) w:=λ_ _ _ _=>rfl;have ci:Hid (pT w p Sf (11,.ended k R C f) (.returned (.tuple #[gT 66 p,.int .i64 11])) w):=⟨_,rfl,Kept.refl _ _,h.arr,Sf,λq h=>.inl h,h.same (λ_=>rfl) rfl⟩
 clear h;unfold gT at ci;go_enter func66,ntmps66;go_wp2;go_ret2;exact ci.out
theorem Jo(w:World)(p:Nat)(Sf:Nat->Prop)(er:Int)(x:ByteArray)(h:dA w p Sf (.failed er)):Calls prog 82 #[.pointer (some ⟨p,0,none⟩),.string x] w λe w'=>pT w p Sf (er,.failed er) e w':=by
 have fX:prog.follows .mixedOrders=true:=by kernel_rfl
 have BM:∀(fn:Fn)(first cap:Array Value)(w:World),(Instr.makeFunc fn first cap).run prog w=.ok (.func fn first cap) w:=λ_ _ _ _=>rfl;have ci:Hid (pT w p Sf (er,.failed er) (.returned (.tuple #[gT 82 p,.int .i64 er])) w.drew):=⟨_,rfl,Kept.drewN 1,by obtain⟨c,h1,h2⟩:=h.arr;exact⟨c,h1.drew,h2⟩,Sf,λq h=>.inl h,h.same (λ_=>rfl) rfl⟩
 have ha:=h.at_.2;have cZ:=ha.drew;clear h ha;unfold gT at ci;go_enter func82,ntmps82;go_wp2_with fail;refine wp_region_held (S:=λW'=>aD W' p 90 (oP (gT 82 p) .nilIface er false 0 0 (.slice none 0 0) 0)) fX ?_
 change wpAnyH _ _ _ _ _ _ _ _ w.drew;generalize w.drew=Vd at*;refine tk 0 (.pointer (some ⟨p,0,none⟩)) rfl (λW' hS=>?_) cZ ?_;{clear hS;go_simp};simp only[Act.put]
 refine tk 1 (.func (.func 82) #[.pointer (some ⟨p,0,none⟩)] #[]) rfl (λW' hS=>?_) cZ ?_;{clear hS;go_simp};simp only[Act.put];refine tk 2 (.pointer (some ⟨p,0,none⟩)) rfl (λW' hS=>?_) cZ ?_
 {clear hS;go_simp};simp only[Act.put];refine tk 3 (.pointer (some ⟨p,0,none⟩)) rfl (λW' hS=>?_) cZ ?_;{clear hS;go_simp};simp only[Act.put];refine tk 4 (.pointer (some ⟨p,2,none⟩)) rfl (λW' hS=>?_) cZ ?_
 {clear hS;go_simp};simp only[Act.put];refine tk 5 (.int .i64 er) rfl (λW' hS=>?_) cZ ?_;{have q0:=hS.cell (i:=2) rfl;clear hS;go_simp};simp only[Act.put];refine tk 6 (.func (.func 82) #[.pointer (some ⟨p,0,none⟩)] #[]) rfl (λW' hS=>?_) cZ ?_
 {clear hS;go_simp};simp only[Act.put];refine tk 7 (.int .i64 er) rfl (λW' hS=>?_) cZ ?_;{clear hS;go_simp};simp only[Act.put,bt,bi,bg,aN,bK,bJ];refine wpAnyH_done (by kernel_rfl) ?_ _
 clear cZ;go_wp2;go_ret2;exact ci.out
theorem pT.lift{w V:World}{p:Nat}{Sf Sg:Nat->Prop}{r:Int×rE}{e:Ending}{w':World}(h:pT V p Sg r e w')(hk:Kept (λq=>q=p\/Sf q) w V)(hS:∀q,Sg q->Sf q\/w.heap.size<=q):pT w p Sf r e w':=by obtain⟨F,h1,h2,h3,m8,h4,h5⟩:=h;refine⟨F,h1,hk.trans h2 (λq hq=>?_),h3,m8,λq hq=>?_,h5⟩;{rcases hq with rfl|hq;{exact .inl (.inl rfl)};{exact(hS q hq).imp .inr id}};{rcases h4 q hq with h|h;{exact hS q h};{exact .inr (ak hk.size h)}}
theorem Tx{x:ByteArray}(h:x.size=0):x=⟨#[]⟩:=by cases x with|mk d=>congr 1;exact Array.eq_empty_of_size_eq_zero h
theorem Ht(w:World)(p:Nat)(Sf:Nat->Prop)(x:ByteArray)(n:Nat)(hn:x.size=n)(jb:n<=maxLen)(h:dA w p Sf .begin):Calls prog 29 #[.pointer (some ⟨p,0,none⟩),.string x] w λe w'=>pT w p Sf (hU .begin x.data.toList) e w':=by
 have BM:∀(fn:Fn)(first cap:Array Value)(w:World),(Instr.makeFunc fn first cap).run prog w=.ok (.func fn first cap) w:=λ_ _ _ _=>rfl;by_cases h0:n=0;{
 obtain rfl:=Tx (x:=x) (by omega);have ci:Hid (pT w p Sf (hU .begin (⟨#[]⟩:ByteArray).data.toList) (.returned (.tuple #[gT 29 p,.int .i64 0])) w):=⟨_,rfl,Kept.refl _ _,h.arr,Sf,λq h=>.inl h,h.same (λ_=>rfl) rfl⟩
 clear h h0 hn;unfold gT at ci;go_enter func29,ntmps29;go_wp2;go_ret2;exact ci.out};{
 have Eg:0<x.size:=by omega
 have uf:x.data.toList=x[0]::x.data.toList.tail:=by have h1:x.data.toList[0]?=some x[0]:=fO Eg;cases hd:x.data.toList with|nil=>rw[hd]at h1;simp at h1|cons a r=>rw[hd]at h1;simp at h1;rw[h1];rfl
 have hne:x.toList.isEmpty=false:=by rw[cC,uf];rfl
 have hF:=hid (λw=>LP w x[0]);have ha:aD w p 90 _:=h.at_;have rR:=ha.lt;have HA:=hid ha;have H:=hid h;have HN:=hid hn;have SX:hU .begin x.data.toList=match og x[0]with|some s=>oh (dh s x.data.toList)|none=>(6,.failed 6):=by rw[uf];rfl
 obtain⟨res,dD⟩:∃res,hU .begin x.data.toList=res:=⟨_,rfl⟩;rw[dD];rw[dD]at SX;have DK:=hid SX;generalize og x[0]=fo at*;clear ha h hn uf SX dD;go_enter func29,ntmps29
 go_wp2_with fail;refine(hF.out w).mono ?_;rintro e W1⟨b1,dD⟩;clear hF;have a1:aD W1 p 90 _:=HA.out.az b1;have x1:=a1.cell (i:=1) rfl;have y1:=a1.frozen 1;rcases dD with⟨rfl,rfl⟩|⟨s,rfl,rfl,di,U3⟩
 {
 have a2:=a1.set 1 .nilIface;have z1:=a2.cell (i:=1) rfl;have kw:Kept (λq=>q=p\/Sf q) w (W1.setCell ⟨p,1,none⟩ .nilIface):=(Kept.cK b1).trans (Kept.set (S:=λq=>q=p\/Sf q) (.inl rfl) _) (λq h=>.inl h)
 have U2:=yN (W1.setCell ⟨p,1,none⟩ .nilIface) p _ _ _ 6 _ _ _ _ _ a2;have UE:=hid U2;have Qg:=hid kw;clear U2 a2 a1 b1 kw;go_wp2_with fail;refine UE.out.mono ?_
 rintro e W4⟨rfl,nx,GR⟩;have ci:Hid (pT w p Sf res (.returned (.tuple #[gT 82 p,.int .i64 6])) W4):=by rw[DK.out];exact⟨_,rfl,Qg.out.trans (nx.mono (T:=λx=>x=p\/Sf x) (λq h=>.inl h)) (λq h=>.inl h),⟨_,GR,rfl⟩,λ_=>False,λq h=>h.elim,λh=>h,λq h=>h.elim,by decide,GR.set 0 _⟩
 clear UE nx GR x1 y1 z1;unfold gT at ci⊢;go_wp2;go_ret2;exact ci.out};{
 have a2:=a1.set 1 (.iface (Hd s) (.pointer (some ⟨w.heap.size,0,none⟩)));have z1:=a2.cell (i:=1) rfl;have kw:Kept (λq=>q=p\/Sf q) w (W1.setCell ⟨p,1,none⟩ (.iface (Hd s) (.pointer (some ⟨w.heap.size,0,none⟩)))):=(Kept.cK b1).trans (Kept.set (S:=λq=>q=p\/Sf q) (.inl rfl) _) (λq h=>.inl h)
 have hwi:Gy (W1.setCell ⟨p,1,none⟩ (.iface (Hd s) (.pointer (some ⟨w.heap.size,0,none⟩)))) p (gT 29 p) w.heap.size (λq=>q=w.heap.size) s:=by refine⟨by omega,λq hq=>by rw[hq];simpa[World.setCell]using di,a2,U3.frame (λq hq=>Below.heap_setCell _ _ _ _ (λe=>?_)) (by simp[World.setCell])⟩;have e':q=p:=e;omega
 have mB:=Ap _ p _ _ _ s x n HN.out jb hwi;have iz:Hid _:=hid (mB.mono (λe w' h=>pT.lift (w:=w) (Sf:=Sf) h kw (λq hq=>.inr (by omega))));clear mB a1 b1 hwi kw a2 U3
 rw[show oh (dh s x.data.toList)=res from DK.out.symm]at iz;clear DK;generalize Hd s=ty at*;go_wp2_with fail;refine iz.out.mono ?_;rintro e W2 dD;have cS:=hid dD
 obtain⟨F,rfl,_⟩:=dD;clear iz x1 y1 z1;unfold gT at cS⊢;go_wp2;go_ret2;exact cS.out}}
theorem Oa(w:World)(p:Nat)(Sf:Nat->Prop)(s:rE)(x:ByteArray)(n:Nat)(hn:x.size=n)(jb:n<=maxLen)(h:dA w p Sf s):Calls prog (yz s) #[.pointer (some ⟨p,0,none⟩),.string x] w λe w'=>pT w p Sf (hU s x.data.toList) e w':=by cases s with|begin=>exact Ht w p Sf x n hn jb h|file s=>obtain⟨q,h1,h2⟩:=h.at_;exact Ap w p _ q Sf s x n hn jb ⟨h.out,h.lt,h1,h2⟩|failed e=>exact Jo w p Sf e x h|ended k R C f=>exact LR w p Sf k R C f x h
theorem FK(s:rE):∀args w,(callFunc (yz s) args).run prog w=.ok (.enter (yz s) args) w:=by cases s with|begin=>exact enters_of func29 (by kernel_rfl) rfl|file s=>exact enters_of func51 (by kernel_rfl) rfl|failed e=>exact enters_of func82 (by kernel_rfl) rfl|ended k R C f=>exact enters_of func66 (by kernel_rfl) rfl
def NI(w:World)(p:Nat)(Sf:Nat->Prop)(s':rE)(w':World):Prop:=Kept (λq=>q=p\/Sf q) w w'/\∃m8:Nat->Prop,(∀q,m8 q->Sf q\/w.heap.size<=q)/\dA w' p m8 s'
theorem Tu(w:World)(p:Nat)(Sf:Nat->Prop)(s:rE)(x:ByteArray)(hx:x.size<=maxLen)(h:dA w p Sf s):Calls prog 22 #[.pointer (some ⟨p,0,none⟩),.string x] w λe w'=>e=.returned (.int .i64 (hU s x.data.toList).1)/\NI w p Sf (hU s x.data.toList).2 w':=by
 obtain⟨rest,ha⟩:=h.st;have x0:=ha.cell (i:=0) rfl;have mB:=Oa w p Sf s x x.size rfl hx h;have Ge:=FK s;have iz:=hid mB;clear mB ha h;generalize hU s x.data.toList=res at*
 generalize yz s=F at*;obtain⟨er,s'⟩:=res;simp only;unfold gT at x0;go_enter func22,ntmps22;go_wp2_with fail;refine iz.out.mono ?_;rintro e W1⟨F',rfl,hk,⟨c,hc,sL⟩,m8,AJ,hr⟩
 obtain⟨y,hy⟩:∃y,c[0]?=some y:=⟨c[0]'(by omega),by simp⟩;have d0:=hc.cell hy;have f0:=hc.frozen 0;have ci:Hid (NI w p Sf s' (W1.setCell ⟨p,0,none⟩ (gT F' p))):=⟨hk.trans (Kept.set (S:=λq=>q=p\/Sf q) (.inl rfl) _) (λq h=>.inl h),m8,AJ,hr⟩
 clear iz hk hc hr x0 Ge;unfold gT at ci⊢;go_wp2;go_ret;exact⟨rfl,ci.out⟩
theorem Ea(w:World):Calls prog 11 #[] w λe w'=>e=.returned (.pointer (some ⟨w.heap.size,0,none⟩))/\Below w.heap.size w w'/\dA w' w.heap.size (λ_=>False) .begin:=by
 have BM:∀(fn:Fn)(first cap:Array Value)(w:World),(Instr.makeFunc fn first cap).run prog w=.ok (.func fn first cap) w:=λ_ _ _ _=>rfl;have a0:aD (w.alloc (.cells #[.nilFunc,.nilIface,.int .i64 0,.bool false,.int .i64 0,.int .i64 0,.slice none 0 0,.int .i64 0] 90)) w.heap.size 90 (oP .nilFunc .nilIface 0 false 0 0 (.slice none 0 0) 0):=aD.dT _ _ _
 have c0:=a0.cell (i:=0) rfl;have f0:=a0.frozen 0;clear a0;go_enter func11,ntmps11;go_wp2;go_ret;exact⟨rfl,Below.cj _ _,λh=>h,λq h=>h.elim,aD.dT _ _ _⟩
noncomputable def qq:rE->(Nat×Nat×Nat)×Int×rE
 |.begin=>((0,0,0),6,.failed 6)|.file s=>match wO s with|some (k,R,C,f)=>((R,C,k),0,.ended k R C f)|none=>((0,0,0),11,.failed 11)
 |.failed e=>((0,0,0),e,.failed e)|.ended k R C f=>((R,C,k),0,.ended k R C f)
def PX(w:World)(p:Nat)(Sf:Nat->Prop)(r:(Nat×Nat×Nat)×Int×rE)(e:Ending)(w':World):Prop:=∃(F:Nat)(st0:Value)(wh:Bool)(num:Value),e=.returned (.tuple #[gT F p,.int .i64 r.2.1])/\Kept (λq=>q=p\/Sf q) w w'/\aD w' p 90 (oP st0 .nilIface r.2.1 wh r.1.1 r.1.2.1 num r.1.2.2)/\∃m8:Nat->Prop,(∀q,m8 q->Sf q\/w.heap.size<=q)/\dA (w'.setCell ⟨p,0,none⟩ (gT F p)) p m8 r.2.2
theorem Gm(w:World)(p:Nat)(Sf:Nat->Prop)(h:dA w p Sf .begin):Calls prog 41 #[.pointer (some ⟨p,0,none⟩)] w λe w'=>PX w p Sf (qq .begin) e w':=by
 have ha:aD w p 90 _:=h.at_;have x1:=ha.cell (i:=1) rfl;have U2:=yN w p _ _ _ 6 _ _ _ _ _ ha;have UE:=hid U2;clear U2 ha h;go_enter func41,ntmps41;go_wp2_with fail
 refine UE.out.mono ?_;rintro e W4⟨rfl,nx,GR⟩;have ci:Hid (PX w p Sf (qq .begin) (.returned (.tuple #[gT 82 p,.int .i64 6])) W4):=⟨_,_,_,_,rfl,nx.mono (T:=λx=>x=p\/Sf x) (λq h=>.inl h),GR,λ_=>False,λq h=>h.elim,λh=>h,λq h=>h.elim,by decide,GR.set 0 _⟩
 clear UE nx GR x1;unfold gT at ci⊢;go_wp2;go_ret2;exact ci.out
theorem Jm(w:World)(p:Nat)(Sf:Nat->Prop)(s:ul)(h:dA w p Sf (.file s)):Calls prog 41 #[.pointer (some ⟨p,0,none⟩)] w λe w'=>PX w p Sf (qq (.file s)) e w':=by
 have BM:∀(fn:Fn)(first cap:Array Value)(w:World),(Instr.makeFunc fn first cap).run prog w=.ok (.func fn first cap) w:=λ_ _ _ _=>rfl;obtain⟨q,ha,U3⟩:=h.at_;have x1:=ha.cell (i:=1) rfl
 have XD:=hid (Ts w q Sf s U3);have hmt:=RM s;have Ge:=LQ s;have SD:=h.out;have adW:=h.lt;obtain⟨res,dD⟩:∃res,qq (.file s)=res:=⟨_,rfl⟩;rw[dD];have oD:(match wO s with|some (k,R,C,f)=>((R,C,k),0,.ended k R C f)|none=>((0,0,0),11,.failed 11))=res:=dD
 have cS:=hid oD;have HA:=hid ha;clear dD oD ha U3 h;generalize wO s=ef at*;generalize TC s=en at*;generalize Hd s=ty at*;go_enter func41,ntmps41;go_wp2_with fail
 refine XD.out.mono ?_;rintro e W1⟨b1,hr⟩;clear XD hmt Ge x1;rcases hr with⟨rfl,rfl⟩|⟨k,R,C,f,g,v,rfl,rfl,hg,WC,hR,hC,hv,hm⟩;{
 have b2:Below w.heap.size w (W1.alloc (.cells #[.int .i64 0,.int .i64 0,.slice none 0 0] 88)):=b1.alloc b1.size _;have gD:=hid b2;clear b1 b2;go_wp2_with fail;generalize W1.alloc (.cells #[.int .i64 0,.int .i64 0,.slice none 0 0] 88)=V at*
 have a2:aD V p 90 _:=HA.out.az gD.out;have UE:=hid (yN V p _ _ _ 11 _ _ _ _ _ a2);clear a2;refine UE.out.mono ?_;rintro e W4⟨rfl,nx,GR⟩;have ci:Hid (PX w p Sf res (.returned (.tuple #[gT 82 p,.int .i64 11])) W4):=by rw[<-cS.out];exact⟨_,_,_,_,rfl,(Kept.cK gD.out).trans (nx.mono (T:=λx=>x=p\/Sf x) (λq h=>.inl h)) (λq h=>.inl h),GR,λ_=>False,λq h=>h.elim,λh=>h,λq h=>h.elim,by decide,GR.set 0 _⟩
 clear UE nx GR;unfold gT at ci⊢;go_wp2;go_ret2;exact ci.out};{
 unfold fF;have b2:Below w.heap.size w (W1.alloc (.cells #[.int .i64 (R:Int),.int .i64 (C:Int),.slice (some ⟨g,0,none⟩) (R*C) (R*C)] 88)):=b1.alloc b1.size _;have aM:=aD.dT W1 88 [.int .i64 (R:Int),.int .i64 (C:Int),.slice (some ⟨g,0,none⟩) (R*C) (R*C)]
 have vV:=hv.alloc (.cells #[.int .i64 (R:Int),.int .i64 (C:Int),.slice (some ⟨g,0,none⟩) (R*C) (R*C)] 88);have mV:=hm.below (Below.cj W1 (.cells #[.int .i64 (R:Int),.int .i64 (C:Int),.slice (some ⟨g,0,none⟩) (R*C) (R*C)] 88)) hm.1
 obtain⟨V,hV⟩:∃V,W1.alloc (.cells #[.int .i64 (R:Int),.int .i64 (C:Int),.slice (some ⟨g,0,none⟩) (R*C) (R*C)] 88)=V:=⟨_,rfl⟩;obtain⟨d,hd⟩:∃d,W1.heap.size=d:=⟨_,rfl⟩
 change aD (W1.alloc (.cells #[.int .i64 (R:Int),.int .i64 (C:Int),.slice (some ⟨g,0,none⟩) (R*C) (R*C)] 88)) _ _ _ at aM;rw[hV,hd]at aM;rw[hV]at b2 vV mV;have rR:=HA.out.lt
 have hpd:p≠d:=by have:=b1.size;omega
 have DR:g≠p:=λe=>SD (e▸hg);have a0:aD V p 90 _:=HA.out.az b2;have s1:=a0.cell (i:=1) rfl;have t1:=a0.frozen 1;have a1:=a0.set 1 .nilIface;have s3:=a1.cell (i:=3) rfl
 have t3:=a1.frozen 3;have a3:=a1.set 3 (.bool true);have s4:=a3.cell (i:=4) rfl;have t4:=a3.frozen 4;have a4:=a3.set 4 (.int .i64 (R:Int));have s5:=a4.cell (i:=5) rfl
 have t5:=a4.frozen 5;have a5:=a4.set 5 (.int .i64 (C:Int));have s6:=a5.cell (i:=6) rfl;have t6:=a5.frozen 6;have a6:=a5.set 6 (.slice (some ⟨g,0,none⟩) (R*C) (R*C))
 have s7:=a6.cell (i:=7) rfl;have t7:=a6.frozen 7;have a7:=a6.set 7 (.int .i64 (k:Int));have m3:=(aM.other (i:=1) (g':=p) .nilIface (fl hpd)).other (i:=3) (.bool true) (fl hpd)
 have m0:=m3.cell (i:=0) rfl;have m1:=m3.cell (i:=1) rfl;have m2:=m3.cell (i:=2) rfl;have kS:∀(W:World)(i:Nat)(v:Value),Kept (λq=>q=p\/Sf q) w W->Kept (λq=>q=p\/Sf q) w (W.setCell ⟨p,i,none⟩ v):=λW i v h=>h.trans (Kept.set (S:=λq=>q=p\/Sf q) (.inl rfl) v) (λq h=>.inl h)
 have k7:=kS _ 7 (.int .i64 (k:Int)) (kS _ 6 (.slice (some ⟨g,0,none⟩) (R*C) (R*C)) (kS _ 5 (.int .i64 (C:Int)) (kS _ 4 (.int .i64 (R:Int)) (kS _ 3 (.bool true) (kS _ 1 .nilIface (Kept.cK b2))))))
 have gg:∀(W:World)(i:Nat)(v':Value),(aD W g 65 v/\jf C g R f W)->(aD (W.setCell ⟨p,i,none⟩ v') g 65 v/\jf C g R f (W.setCell ⟨p,i,none⟩ v')):=λW i v' h=>⟨h.1.other _ DR,(h.1.other (i:=i) v' DR).lt,λa b ha hb=>(World.cell?_of_block (w:=W) (Below.heap_setCell _ _ _ _ DR)).trans (h.2.2 a b ha hb)⟩
 have g7:=gg _ 7 (.int .i64 (k:Int)) (gg _ 6 (.slice (some ⟨g,0,none⟩) (R*C) (R*C)) (gg _ 5 (.int .i64 (C:Int)) (gg _ 4 (.int .i64 (R:Int)) (gg _ 3 (.bool true) (gg _ 1 .nilIface ⟨vV,mV⟩)))))
 have HG7:=hid g7;have Kn:=hid a7;have Xx:=hid k7;have ci:Hid (PX w p Sf res (.returned (.tuple #[gT 66 p,.int .i64 0])) ((((((V.setCell ⟨p,1,none⟩ .nilIface).setCell ⟨p,3,none⟩ (.bool true)).setCell ⟨p,4,none⟩ (.int .i64 (R:Int))).setCell ⟨p,5,none⟩ (.int .i64 (C:Int))).setCell ⟨p,6,none⟩ (.slice (some ⟨g,0,none⟩) (R*C) (R*C))).setCell ⟨p,7,none⟩ (.int .i64 (k:Int)))):=by rw[<-cS.out];have g8:=gg _ 0 (gT 66 p) g7;exact⟨_,_,_,_,rfl,k7,a7,Sf,λq h=>.inl h,SD,λq hq=>by have h1:=adW q hq;have h2:=k7.size;simp only[World.size_setCell]at h2⊢;omega,WC,hR,hC,g,v,a7.set 0 _,hg,g8.1,g8.2⟩
 clear a0 a1 a3 a4 a5 a6 a7 m3 k7 g7 gg kS b1 b2 hv hm vV mV aM HG7 Kn Xx;generalize R*C=N at*;unfold gT at ci;go_wp2;go_ret2;exact ci.out}
end Go.Proofs.YthdcceackfdbbaaGreatDoor
