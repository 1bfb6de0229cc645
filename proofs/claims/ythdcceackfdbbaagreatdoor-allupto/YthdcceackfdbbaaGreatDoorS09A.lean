import Derived.Test.YthdcceackfdbbaaGreatDoorS08A
set_option linter.unusedSimpArgs false
set_option maxRecDepth 20000
set_option maxHeartbeats 1000000
open Go.RowKit Go.Proofs.Tryz
namespace Go.Proofs.YthdcceackfdbbaaGreatDoor
def ue:List UInt8:=[65,66,65,67,1]
def io(l:List UInt8):Prop:=∀i x,l[i]?=some x->(i<5->ue[i]?=some x)/\(i=5->x.toNat<=1)
def cM(l:List UInt8):Nat:=fp ((l.drop 6).take 2)
def cQ(l:List UInt8):Nat:=fp ((l.drop 8).take 2)
def jI(l:List UInt8)(k:Nat):Nat:=fp ((l.drop (14+8*k)).take 8)
def kX(l:List UInt8):Nat:=if l[5]?=some 1 then 5 else 4
def fB(l:List UInt8)(i j:Nat):Nat:=if kX l=4 then jI l (i*cQ l+j)else jI l (j*cM l+i)
open Classical in noncomputable def fH(l:List UInt8):Int:=if¬io l then 6 else if l.length<14 then 0 else if fp ((l.drop 10).take 4)≠hZ (l.take 10)then 12 else if 40<cM l\/40<cQ l then 8 else if l.length<18+8*(cM l*cQ l)then 0 else if fp ((l.drop (14+8*(cM l*cQ l))).take 4)≠hZ ((l.drop 14).take (8*(cM l*cQ l)))then 12 else if∃k,k<cM l*cQ l/\fK (jI l k)≠jI l k then 1 else if 18+8*(cM l*cQ l)<l.length then 6 else 0
structure j4(l:List UInt8):Prop where
 mark:io l
 len:14<=l.length
 sum:fp ((l.drop 10).take 4)=hZ (l.take 10)
 hR:cM l<=40
 hC:cQ l<=40
def gT(F p:Nat):Value:=.func (.func F) #[.pointer (some ⟨p,0,none⟩)] #[]
def mQ(st held:Value)(kind R C:Nat)(num:Value)(whole:Bool):List Value:=[st,held,.int .i64 (kind:Int),.int .i64 (R:Int),.int .i64 (C:Int),num,.bool whole]
def sJ(w:World)(p:Nat)(S:Nat->Prop)(l:List UInt8):Prop:=S p/\((l.length<=5/\io l/\∃held,aD w p 171 (mQ (gT 115 p) held 0 0 0 (.slice none 0 0) false)/\cL w S 5 1 held l.length (jQ l))\/(6<=l.length/\l.length<14/\io l/\∃held,aD w p 171 (mQ (gT 150 p) held 0 0 0 (.slice none 0 0) false)/\cL w S 5 1 held l.length (jQ l))\/(j4 l/\l.length<18+8*(cM l*cQ l)/\∃held g,aD w p 171 (mQ (gT 186 p) held (kX l) (cM l) (cQ l) (.slice (some ⟨g,0,none⟩) (cM l*cQ l) (cM l*cQ l)) false)/\cL w S 5 1 held (l.length-14) (jQ (l.drop 14))/\aD w g 65 (List.replicate (cM l*cQ l) (.int .u64 0))/\S g)\/(j4 l/\l.length=18+8*(cM l*cQ l)/\fH l=0/\∃g v,aD w p 171 (mQ (gT 217 p) (.slice none 0 0) (kX l) (cM l) (cQ l) (.slice (some ⟨g,0,none⟩) (cM l*cQ l) (cM l*cQ l)) true)/\aD w g 65 v/\jf (cQ l) g (cM l) (fB l) w/\S g))
def AY(w:World)(p:Nat)(S:Nat->Prop)(l:List UInt8)(e:Ending)(w':World):Prop:=∃st:Value,e=.returned (.tuple #[st,.int .i64 (fH l)])/\(∃F a b,st=.func F a b\/st=.nilFunc)/\Kept S w w'/\(∃c,aD w' p 171 c/\c.length=7)/\(fH l=0->sJ (w'.setCell ⟨p,0,none⟩ st) p (wJ S w w') l)
theorem lx{w w2:World}{S:Nat->Prop}{e t:TypeId}{size n p:Nat}{v:Value}{xs c:List Value}(hg:w.grownBy w2 v.ownBlock)(hr:cL w S e size v n xs)(ha:aD w p t c)(ht:t≠e):aD w2 p t c:=by refine(hg.block p ha.lt (λh=>?_)).trans ha;obtain⟨_,c',hc⟩:=hr.lt p h.symm;rw[show w.heap[p]?=_ from ha]at hc;cases hc;exact ht rfl
theorem cL.FH{w w2 w':World}{S:Nat->Prop}{e:TypeId}{size n B:Nat}{v:Value}{xs:List Value}(h:cL w2 (λq=>S q\/B<=q) e size v n xs)(hB:w.heap.size<=B)(hw:w2.heap.size<=w'.heap.size):cL w2 (wJ S w w') e size v n xs:=⟨h.row,λg hg=>(h.own g hg).imp id (λhb=>⟨ak hB hb,ax (h.lt g hg).1 hw⟩)⟩
theorem Az{l:List UInt8}{b:UInt8}(h:io l):io (l++[b])↔(l.length<5->ue[l.length]?=some b)/\(l.length=5->b.toNat<=1):=by
 constructor;{intro h2;have:=h2 l.length b (by simp);exact this};{intro h2 i x hx;by_cases hi:i<l.length;{rw[cW hi]at hx;exact h i x hx};{have UY:i<(l++[b]).length:=(ar.1 hx).1;rw[aJ,dl]at UY;(obtain rfl:i=l.length:=by omega);rw[ct (aj _)]at hx;simp at hx;subst hx;exact h2}}
theorem JI{l:List UInt8}(h:¬io l):fH l=6:=by unfold fH;rw[au h]
theorem tP{l:List UInt8}(h:io l)(hl:l.length<14):fH l=0:=by unfold fH;rw[ai (λk=>k h),au hl]
theorem Mb(w:World)(p:Nat)(S:Nat->Prop)(l:List UInt8)(b:UInt8)(held:Value)(n:Nat)(hn:l.length=n)(hS:S p)(hl:n<=5)(hm:io l)(ha:aD w p 171 (mQ (gT 115 p) held 0 0 0 (.slice none 0 0) false))(hr:cL w S 5 1 held n (jQ l)):Calls prog 115 #[.pointer (some ⟨p,0,none⟩),.int .u8 (b.toNat:Int)] w λe w'=>AY w p S (l++[b]) e w':=by
 have BM:∀(fn:Fn)(first cap:Array Value)(w:World),(Instr.makeFunc fn first cap).run prog w=.ok (.func fn first cap) w:=λ_ _ _ _=>rfl;obtain⟨i0,hi,ip,fS,gU⟩:=info_parts Tryz.qP
 have HI:=hid hi;have c1:=ha.cell (i:=1) rfl;have HA:=hid ha;have HR:=hid hr;have HM:=hid hm;have WM:=b.toNat_lt;have HN:=hid hn;clear hn;obtain⟨ao,cap,rfl,_,_⟩:=hr.shape
 clear ha hr hm hi;have k1:∀o,(w.alloc o).cell? ⟨p,1,none⟩=some (.slice ao n cap):=λo=>(HA.out.alloc o).cell (i:=1) rfl;go_enter func115,ntmps115;go_wp2_with(at_builtin;refine ik _ rfl _ _ 72 rfl S 5 i0 (.int .u8 0) 1 1 underlying72 HI.out ip fS gU rfl (by decide) _ _ _ rfl (HR.out.below (Below.cj _ _)) ⟨w.heap.size,0,none⟩ 1 1 [.int .u8 (b.toNat:Int)] rfl rfl ?c1 ?c2 ?c3 ?c4 ?_)
 case c1=>exact cell_one_new _ _ _
 case c2=>intro u hu;simp at hu;subst hu;rfl
 case c3=>unfold maxLen;omega
 case c4=>omega
 {
 intro v' w2 iC bG;have a1:aD (w.alloc (.cells #[.int .u8 (b.toNat:Int)] 5)) p 171 (mQ (gT 115 p) (.slice ao n cap) 0 0 0 (.slice none 0 0) false):=HA.out.alloc _
 have a2:aD w2 p 171 (mQ (gT 115 p) (.slice ao n cap) 0 0 0 (.slice none 0 0) false):=lx bG (HR.out.below (Below.cj _ _)) a1 (by decide);have kw:Kept S w w2:=(Kept.cK (Below.cj w _)).trans (Kept.grown bG (λk hk=>HR.out.own k hk)) (λq h=>.inl h)
 have d1:=a2.cell (i:=1) rfl;have f1:=a2.frozen 1;have uX:cL w2 (λq=>S q\/w.heap.size+1<=q) 5 1 v' (n+1) (jQ (l++[b])):=by rw[xZ];simpa using iC
 obtain⟨zj,ez,rfl,_,_⟩:=iC.shape;have iL:=hid a2;have Qg:=hid kw;have nR:=hid uX;clear iC uX a1 a2 kw bG;have qD:∀st,Hid (∀S',S'=wJ S w (w2.setCell ⟨p,1,none⟩ (.slice zj (n+1) ez))->S' p/\aD ((w2.setCell ⟨p,1,none⟩ (.slice zj (n+1) ez)).setCell ⟨p,0,none⟩ st) p 171 (mQ st (.slice zj (n+1) ez) 0 0 0 (.slice none 0 0) false)/\cL ((w2.setCell ⟨p,1,none⟩ (.slice zj (n+1) ez)).setCell ⟨p,0,none⟩ st) S' 5 1 (.slice zj (n+1) ez) (l++[b]).length (jQ (l++[b]))):=λst S' AJ=>by have x1:=iL.out.set 1 (.slice zj (n+1) ez);refine⟨by rw[AJ];exact .inl hS,x1.set 0 st,?_⟩;rw[AJ,aJ,dl,HN.out];exact((nR.out.FH (w':=w2.setCell ⟨p,1,none⟩ (.slice zj (n+1) ez)) (by omega) (by simp[World.setCell])).set iL.out (by decide) _).set x1 (by decide) _
 have HK:Hid (Kept S w (w2.setCell ⟨p,1,none⟩ (.slice zj (n+1) ez))/\∃c,aD (w2.setCell ⟨p,1,none⟩ (.slice zj (n+1) ez)) p 171 c/\c.length=7):=⟨Qg.out.trans (Kept.set hS _) (λq h=>.inl h),_,iL.out.set 1 _,rfl⟩
 have bad:¬io (l++[b])->Hid (AY w p S (l++[b]) (.returned (.tuple #[.nilFunc,.int .i64 6])) (w2.setCell ⟨p,1,none⟩ (.slice zj (n+1) ez))):=λh=>by have hE:=JI h;exact⟨_,by rw[hE],⟨default,default,default,.inr rfl⟩,HK.out.1,HK.out.2,λh=>by rw[hE]at h;cases h⟩
 have aaF:io (l++[b])->Hid (AY w p S (l++[b]) (.returned (.tuple #[gT (if n=5 then 150 else 115) p,.int .i64 0])) (w2.setCell ⟨p,1,none⟩ (.slice zj (n+1) ez))):=λnj=>by(have UX:(l++[b]).length=n+1:=by rw[aJ,dl,HN.out]);have hE:fH (l++[b])=0:=tP nj (by omega);refine⟨gT (if n=5 then 150 else 115) p,by rw[hE],⟨_,_,_,.inl rfl⟩,HK.out.1,HK.out.2,λ_=>?_⟩;by_cases h5:n=5;{rw[au h5];obtain⟨x1,x2,x3⟩:=(qD (gT 150 p)).out _ rfl;exact⟨x1,.inr (.inl ⟨by omega,by omega,nj,_,x2,x3⟩)⟩};{rw[ai h5];obtain⟨x1,x2,x3⟩:=(qD (gT 115 p)).out _ rfl;exact⟨x1,.inl ⟨by omega,nj,_,x2,x3⟩⟩}
 have hms:=Az (b:=b) HM.out;rw[HN.out]at hms;have HMS:=hid hms;clear hms qD;by_cases nj:io (l++[b]);{
 have hg:=aaF nj;have wg:=HMS.out.1 nj;clear aaF bad HMS;rcases(by omega:n=0\/n=1\/n=2\/n=3\/n=4\/n=5)with rfl|rfl|rfl|rfl|rfl|rfl;{(obtain rfl:b=65:=by have:=wg.1 (by omega);simpa[ue]using this.symm);go_wp2;go_ret2;exact hg.out}
 {(obtain rfl:b=66:=by have:=wg.1 (by omega);simpa[ue]using this.symm);go_wp2;go_ret2;exact hg.out};{(obtain rfl:b=65:=by have:=wg.1 (by omega);simpa[ue]using this.symm);go_wp2;go_ret2;exact hg.out}
 {(obtain rfl:b=67:=by have:=wg.1 (by omega);simpa[ue]using this.symm);go_wp2;go_ret2;exact hg.out};{(obtain rfl:b=1:=by have:=wg.1 (by omega);simpa[ue]using this.symm);go_wp2;go_ret2;exact hg.out}
 {(have wM:(b.toNat:Int)<=1:=by have:=wg.2 rfl;omega);clear wg;go_wp2;go_ret2;exact hg.out}};{
 have hg:=bad nj;have wg:¬_:=λh=>nj (HMS.out.2 h);clear aaF bad HMS;have ne:∀c:UInt8,b≠c->((b.toNat:Int)==(c.toNat:Int))=false:=λc h=>by simp;intro e;exact h (cg.1 (by omega))
 rcases(by omega:n=0\/n=1\/n=2\/n=3\/n=4\/n=5)with rfl|rfl|rfl|rfl|rfl|rfl;{have h1:((b.toNat:Int)==(((({data:=#[65,66,65,67,1]}:ByteArray)[0]'(by decide)).toNat:Nat):Int))=false:=ne 65 (λe=>wg ⟨λ_=>by rw[e];rfl,λh=>by omega⟩);clear wg ne;go_wp2;go_ret2;exact hg.out}
 {have h1:((b.toNat:Int)==(((({data:=#[65,66,65,67,1]}:ByteArray)[1]'(by decide)).toNat:Nat):Int))=false:=ne 66 (λe=>wg ⟨λ_=>by rw[e];rfl,λh=>by omega⟩);clear wg ne;go_wp2;go_ret2;exact hg.out}
 {have h1:((b.toNat:Int)==(((({data:=#[65,66,65,67,1]}:ByteArray)[2]'(by decide)).toNat:Nat):Int))=false:=ne 65 (λe=>wg ⟨λ_=>by rw[e];rfl,λh=>by omega⟩);clear wg ne;go_wp2;go_ret2;exact hg.out}
 {have h1:((b.toNat:Int)==(((({data:=#[65,66,65,67,1]}:ByteArray)[3]'(by decide)).toNat:Nat):Int))=false:=ne 67 (λe=>wg ⟨λ_=>by rw[e];rfl,λh=>by omega⟩);clear wg ne;go_wp2;go_ret2;exact hg.out}
 {have h1:((b.toNat:Int)==(((({data:=#[65,66,65,67,1]}:ByteArray)[4]'(by decide)).toNat:Nat):Int))=false:=ne 1 (λe=>wg ⟨λ_=>by rw[e];rfl,λh=>by omega⟩);clear wg ne;go_wp2;go_ret2;exact hg.out}
 {have wM:¬(b.toNat:Int)<=1:=λh=>wg ⟨λh=>by omega,λ_=>by omega⟩;clear wg ne;go_wp2;go_ret2;exact hg.out}}}
end Go.Proofs.YthdcceackfdbbaaGreatDoor
