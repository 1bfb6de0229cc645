import Derived.Test.YthdcceackfdbbaaGreatDoorCards
import Derived.Test.YthdcceackfdbbaaGreatDoorTie
import Derived.Test.YthdcceackfdbbaaGreatDoorS48A
set_option linter.unusedSimpArgs false
set_option maxRecDepth 100000
namespace Go.Proofs.YthdcceackfdbbaaGreatDoor.alls
open Go.ChangeShapes Go.WideShapes Go.ChangeAt Go.RowKit
theorem contract(H:Type)(enc:TypeId×Value->H)(W:World)(base:Nat)(args:Array Value)(ds gs:List (DataW H))(before:List MemPlace)(hval:∀(j:Nat)t v,Tryz.f5.params[j]?=some t->args[j]?=some v->Value.okWide Tryz.prog W .any base t v)(hW:DataW.Whole enc Tryz.prog Tryz.f5.params.toList Rows.allSpec.vars false W args.toList ds gs before)(hk:Rows.uptoSmall H (ds++gs)=true)(hL:laidMetH Tryz.prog Rows.allUptoRow.laid W):Calls Tryz.prog 5 args W λe W'=>∃v,e=.returned v/\Rows.allSpec.post enc Tryz.prog Tryz.f5 false true false false W args v W':=by
 have hW':=hW;have di:=hW.lt;obtain⟨p,q,Je,hV,rfl,hfz,MR⟩:=hW;have hA:DataW.TrodAll enc Tryz.prog W 0 (λ_=>true) true Tryz.f5.params.toList args.toList ds p:=Je
 rw[Tryz.params5]at hA hval;obtain⟨v0,vs0,d0,ds0,p0,q0,afh,rfl,rfl,h0,r0⟩:=trodAll_cons hA;obtain⟨rfl,rfl,rfl⟩:=trodAll_nil r0;obtain rfl:args=#[v0]:=by clear hL hW' hA Je hval di;cases args;simp_all
 obtain⟨rfl,rfl⟩:=trodVars_none hV;have Fb:=L6 hk;simp only[uo,Rows.uptoBulkAll]at Fb;obtain⟨po,np,Zn,os,rfl,Yh,hnp,adP⟩:=Rz (hval 0 46 v0 rfl rfl) h0 (by omega)
 have l0:∀x∈p0,x.block<W.heap.size:=λx hx=>di x (by simp[hx]);clear Je;refine(Xh W po np Zn os Yh hnp adP (H6 hL)).mono λe W'⟨he,hg⟩=>?_;subst he;exact⟨_,rfl,_,_,_,[],_,[],hW',trodAll_cons_mk (shut_bool Tryz.underlying4 _) trodAll_mk0,trodAll_cons_mk (Below.trod Tryz.R5 (by kernel_rfl) (qa (by kernel_rfl)) h0 hg l0) trodAll_mk0,rfl,hg.frame _,λh=>by cases h⟩
theorem R4(os:Os):laidMet Tryz.prog Rows.allUptoRow.laid ((zI os).forCall (λ_ _=>0) ⟨#[],#[.slice none 0 0],[]⟩).memory:=laidMet_of_run' 8 (by kernel_rfl) (by kernel_rfl)
theorem reads(os:Os){H:Type}(enc:TypeId×Value->H):∃places,DataW.whole enc Tryz.prog ((zI os).forCall (λ_ _=>0) ⟨#[],#[.slice none 0 0],[]⟩).memory Tryz.f5.params.toList Rows.allSpec.vars false (#[.slice none 0 0]:Array Value).toList 8=some ([.nil],[],places):=⟨[],by kernel_rfl⟩
theorem Zy(os:Os)(FJ:os.Started)(H:Type)(enc:TypeId×Value->H)(F:Stop.Interp):ReturnsInHanded {} Tryz.checked os 5 .any ((Rows.OpenSpec.upto Rows.allSpec).preRow enc Tryz.prog Tryz.f5 Rows.allUptoRow.domain false Rows.allUptoRow.laid) (((Rows.OpenSpec.upto Rows.allSpec).at F).post enc Tryz.prog Tryz.f5 false true false false):=by
 obtain⟨places,hx⟩:=reads os enc;refine returnsInHanded_of_row (C:=Tryz.checked) (s:=Rows.OpenSpec.upto Rows.allSpec) adu FJ (by kernel_rfl) Tryz.func5 (witness_row_at (enc:=enc) (C:=Tryz.checked) false (zI os) #[.slice none 0 0] rfl (by kernel_rfl) (by kernel_rfl) (by kernel_rfl) (OpenSpec.preRow_of_cond 8 hx (by kernel_rfl) (λk hk=>by cases hk;kernel_rfl) (by kernel_rfl) (R4 os))) ?_
 intro W base args ds gs before hval hW _ MZ _ hL _ _;exact contract H enc W base args ds gs before hval hW (MZ _ rfl) hL
theorem said:Rows.AllUptoSaid:=OpenClaim.holds_of_cond 5 Tryz.f5 rfl rfl rfl rfl rfl rfl rfl ⟨rfl,rfl,rfl,rfl,rfl⟩ rfl rfl rfl rfl rfl (by kernel_rfl) Tryz.func5 (by kernel_rfl) (qa (by kernel_rfl)) (by unfold Func.isWrapper;first|(rw[au (by decide+kernel)];kernel_rfl)|(rw[ai (by decide+kernel)];exact⟨rfl,rfl⟩)) (λos FJ H enc _ F=>by rw[OpenClaim.pre_eq_preRow];exact Zy os FJ H enc F)
theorem plain(f:FuncId)(fn:Func)(hf:Tryz.pinned.checked.prog.funcNamed Rows.allUptoRow.func=some f)(Ly:Tryz.pinned.checked.prog.funcs[f]?=some fn):false=Tryz.pinned.checked.prog.looks []/\∀(j:Nat)t,fn.params[j]?=some t->Tryz.pinned.checked.prog.wantsStandIn t=false:=by
 obtain rfl:f=5:=cI ((show Tryz.prog.funcNamed Rows.allUptoRow.func=some 5 by kernel_rfl).symm.trans hf)|>.symm;obtain rfl:fn=Tryz.f5:=(cI (Tryz.func5.symm.trans Ly)).symm
 refine⟨by kernel_rfl,λj t ht=>?_⟩;rw[Tryz.params5]at ht;obtain rfl:t=46:=by simpa using Array.mem_of_getElem? ht
 exact(show Tryz.prog.wantsStandIn 46=false by kernel_rfl)
end Go.Proofs.YthdcceackfdbbaaGreatDoor.alls
namespace Go.Proofs.YthdcceackfdbbaaGreatDoor
theorem all_card:Rows.AllUptoCardSaid:=Claim7.holds_tied_plain_at .later [] _ _ _ _ alls.said (λ_ h=>by cases h) (by kernel_rfl) (λ_ h=>by cases h) allUpto_row_tie rfl ⟨rfl,rfl⟩ (by kernel_rfl) rfl alls.plain (by kernel_rfl)
#print axioms all_card
end Go.Proofs.YthdcceackfdbbaaGreatDoor
