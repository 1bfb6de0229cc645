import Derived.Test.YthdcceackfdbbaaGreatDoorS11A
set_option linter.unusedSimpArgs false
set_option maxRecDepth 20000
set_option maxHeartbeats 4000000
open Go.RowKit Go.Proofs.Tryz
namespace Go.Proofs.YthdcceackfdbbaaGreatDoor
theorem jd.az{w w':World}{B:Nat}{v:Value}{l:List UInt8}(h:jd w B v l){B':Nat}(hb:Below B' w w')(di:∀q,v.ownBlock=some q->q<B'):jd w' B v l:=h.keep (λq _ hq hc=>(hb.block q (di q hq)).trans hc)
theorem jd.form{w:World}{B:Nat}{v:Value}{l:List UInt8}(h:jd w B v l)(hne:0<l.length):∃q cap,v=.slice (some ⟨q,0,none⟩) l.length cap/\q<w.heap.size/\(∀k x,l[k]?=some x->w.cell? ⟨q,k,none⟩=some (.int .u8 (x.toNat:Int))):=by
 obtain⟨a,cap,hv,_,_,LG⟩:=h.shape;obtain⟨x,hx⟩:∃x,l[0]?=some x:=⟨l[0],by simp⟩;obtain⟨q,ha,hc⟩:=LG 0 x hx;refine⟨q,cap,by rw[hv,ha],World.block_lt_of_cell? w _ hc,λk y hy=>?_⟩
 obtain⟨q',ha',Kd⟩:=LG k y hy;rw[ha]at ha';cases ha';exact Kd
theorem addr_add(q j:Nat):(⟨q,0,none⟩:Addr).add j=⟨q,j,none⟩:=by simp[Addr.add];exactλh=>h.symm
def yS(kind R C:Nat)(f:Nat->Nat->Nat):List UInt8:=(MX kind R C++gu (hZ (MX kind R C)) 4)++(rO (iG kind R C f)++gu (hZ (rO (iG kind R C f))) 4)
theorem Gw(w:World)(kind R C g:Nat)(f:Nat->Nat->Nat)(l:List Value)(hk:kind<=5)(hR:R<=40)(hC:C<=40)(hm:jf C g R f w)(hg:aD w g 65 l):Calls prog 72 #[fF R C g,.int .i64 (kind:Int)] w λe w'=>∃s:ByteArray,e=.returned (.string s)/\s.data.toList=yS kind R C f/\Below w.heap.size w w':=by
 have fX:prog.follows .mixedOrders=true:=by kernel_rfl
 obtain⟨b,hb⟩:∃b,w.heap.size=b:=⟨_,rfl⟩;have zg:R*C<=40*40:=bI hR hC;have U4:=rY kind R C f;have rR:=Cy (iG kind R C f);obtain⟨i0,hi,ip,fS,gU⟩:=info_parts Tryz.qP
 unfold fF;go_enter func72,ntmps72;go_wp2_with fail;obtain⟨V,hV⟩:∃V,w.alloc (.cells #[.int .i64 (R:Int),.int .i64 (C:Int),.slice (some ⟨g,0,none⟩) (R*C) (R*C)] 88)=V:=⟨_,rfl⟩
 have mV:aD V b 88 [.int .i64 (R:Int),.int .i64 (C:Int),.slice (some ⟨g,0,none⟩) (R*C) (R*C)]:=by rw[<-hV,<-hb];exact aD.dT w _ _
 have bV:Below b w V:=by rw[<-hV,<-hb];exact Below.cj _ _
 have zV:V.heap.size=b+1:=by rw[<-hV];simp[hb]
 rw[hV];clear hV;refine wp_region_held (S:=λW'=>aD W' b 88 [.int .i64 (R:Int),.int .i64 (C:Int),.slice (some ⟨g,0,none⟩) (R*C) (R*C)]) fX ?_;change wpAnyH _ _ _ _ _ _ _ _ V.drew
 have gH:aD V.drew b 88 [.int .i64 (R:Int),.int .i64 (C:Int),.slice (some ⟨g,0,none⟩) (R*C) (R*C)]:=mV.drew;refine tk 0 (.agg #[.int .i64 (R:Int),.int .i64 (C:Int),.slice (some ⟨g,0,none⟩) (R*C) (R*C)]) rfl (λW' hS=>?_) gH ?_
 {have c0:=hS.cell (i:=0) rfl;have c1:=hS.cell (i:=1) rfl;have c2:=hS.cell (i:=2) rfl;clear hS;go_simp};simp only[Act.put];refine tk 1 (.int .i64 (kind:Int)) rfl (λW' hS=>?_) gH ?_
 {clear hS;go_simp};simp only[Act.put];refine tk 4 (.agg #[.int .i64 (R:Int),.int .i64 (C:Int),.slice (some ⟨g,0,none⟩) (R*C) (R*C)]) rfl (λW' hS=>?_) gH ?_;{have c0:=hS.cell (i:=0) rfl;have c1:=hS.cell (i:=1) rfl;have c2:=hS.cell (i:=2) rfl;clear hS;go_simp}
 simp only[Act.put];refine tk 5 (.int .i64 (kind:Int)) rfl (λW' hS=>?_) gH ?_;{clear hS;go_simp};simp only[Act.put];refine wpAnyH_ready (rs:=[2]) (by kernel_rfl) (by simp) ?_
 refine AllReadyH.cons rfl (λK df=>?_) AllReadyH.nil;go_simp;refine(SY _ kind R C g hR hC).mono ?_;rintro e W1⟨v1,rfl,o1,b1⟩;change Below V.heap.size V.drew W1 at b1
 change jd W1 V.heap.size v1 _ at o1;have li:=gH.below b1 (by omega);refine df.out _ _ li (λhHeld=>?_);clear df;refine wpAnyH_ready (rs:=[3]) (by kernel_rfl) (by simp) ?_
 refine AllReadyH.cons rfl (λK df=>?_) AllReadyH.nil;go_simp;refine(Ci _ _ _ _ o1 (by have:=b1.size;exact this) (by rw[yK];omega)).mono ?_;rintro e W2⟨v2,rfl,o2,b2,_⟩
 have oc:=li.below b2 (by omega);refine df.out _ _ oc (λhHeld=>?_);clear df;have Ns:Below b w W2:=(bV.drew.trans (b1.mono (by omega))).trans (b2.mono (by omega))
 have gW2:aD W2 g 65 l:=hg.below Ns (by have:=hg.lt;omega);have mW2:jf C g R f W2:=hm.below Ns (by have:=hm.1;omega);have zW2:b+1<=W2.heap.size:=by have:=b1.size;have:=b2.size;have e:V.drew.heap.size=V.heap.size:=rfl;omega
 refine wpAnyH_ready (rs:=[6]) (by kernel_rfl) (by simp) ?_;refine AllReadyH.cons rfl (λK df=>?_) AllReadyH.nil;go_simp;refine(Ib _ kind R C g f l hk hR hC mW2 gW2).mono ?_
 rintro e W3⟨v3,rfl,o3,b3⟩;have qW:=oc.below b3 (by omega);refine df.out _ _ qW (λhHeld=>?_);clear df;refine wpAnyH_ready (rs:=[7]) (by kernel_rfl) (by simp) ?_
 refine AllReadyH.cons rfl (λK df=>?_) AllReadyH.nil;go_simp;refine(Ci _ _ _ _ o3 b3.size (by omega)).mono ?_;rintro e W4⟨v4,rfl,o4,b4,_⟩;have uE:=qW.below b4 (by omega)
 refine df.out _ _ uE (λhHeld=>?_);clear df;have o2':jd W4 V.heap.size v2 _:=(o2.az b3 (λq hq=>(o2.row.lt q hq).2)).az b4 (λq hq=>(o2.row.lt q hq).2);obtain⟨q4,c4,rfl,hq4,S9⟩:=o4.form (by simp[eK])
 obtain⟨x2,y2,t2,rfl⟩:=o2.one;obtain⟨n4,UV⟩:∃n4,(rO (iG kind R C f)++gu (hZ (rO (iG kind R C f))) 4).length=n4:=⟨_,rfl⟩;obtain⟨n2,wV⟩:∃n2,(MX kind R C++gu (hZ (MX kind R C)) 4).length=n2:=⟨_,rfl⟩
 have afC:n4<=20000:=by rw[<-UV];simp[eK];omega
 have afD:n2<=100:=by rw[<-wV];simp[eK,yK]
 have mO:0<(yS kind R C f).length:=by simp[yS,yK];omega
 have Zi:=o2'.row;rw[wV]at Zi;rw[UV];clear rR;refine wpAnyH_ready (rs:=[8]) (by kernel_rfl) (by simp) ?_;refine AllReadyH.cons rfl (λK df=>?_) AllReadyH.nil;refine wp_append_own W4 _ _ 72 rfl V.heap.size 5 i0 (.int .u8 0) 1 1 underlying72 hi ip fS gU rfl (by decide) _ _ _ rfl Zi ⟨q4,0,none⟩ n4 c4 (jQ (rO (iG kind R C f)++gu (hZ (rO (iG kind R C f))) 4)) rfl (by simp only[jQ,bL,jF];exact UV) (λj u hu=>by rw[addr_add];unfold jQ at hu;obtain⟨y,hy,rfl⟩:=iO hu;exact S9 j y hy) (λu hu=>by unfold jQ at hu;obtain⟨y,_,rfl⟩:=eF.1 hu;rfl) (by unfold maxLen;omega) (by omega) (by have:=b3.size;have:=b4.size;omega) ?_
 intro v5 W5 r5 g5 _;have o5:jd W5 V.heap.size v5 (yS kind R C f):=by refine⟨?_⟩;(have e1:jQ (yS kind R C f)=jQ (MX kind R C++gu (hZ (MX kind R C)) 4)++jQ (rO (iG kind R C f)++gu (hZ (rO (iG kind R C f))) 4):=by simp[yS,jQ]);(have e2:(yS kind R C f).length=n2+n4:=by rw[<-wV,<-UV];unfold yS;rw[aJ]);rw[e1,e2];exact r5
 have b5:Below (b+1) W4 W5:=(Below.refl _ _).grown g5 (by have:=b3.size;have:=b4.size;omega) (λq hq=>by have:=(o2'.row.lt q hq).1;omega);have u9:=uE.below b5 (by omega)
 obtain⟨q5,c5,rfl,hq5,S8⟩:=o5.form mO;have ab9:=run_convert_bytes_back (P:=prog) W5 72 9 5 ⟨q5,0,none⟩ c5 (yS kind R C f) underlying72 underlying5 underlying9 (λj hj=>by rw[addr_add];exact S8 j _ (by simp[hj]))
 have NF:Hid (Below b w W5):=(((Ns.trans (b3.mono (by omega))).trans (b4.mono (by omega))).trans (b5.mono (by omega)));generalize hBL:yS kind R C f=BL at*;clear S9 S8 o5 r5 g5 o2' o4 o3 o1 Zi
 refine df.out _ _ u9 (λhHeld=>?_);clear df;simp only[Act.put];refine wpAnyH_ready (rs:=[9]) (by kernel_rfl) (by simp) ?_;refine AllReadyH.cons rfl (λK df=>?_) AllReadyH.nil
 go_simp;refine df.out _ _ u9 (λhHeld=>?_);clear df;refine wpAnyH_ready (rs:=[10]) (by kernel_rfl) (by simp) ?_;refine AllReadyH.cons rfl (λK df=>?_) AllReadyH.nil
 go_simp;refine df.out _ _ u9 (λhHeld=>?_);clear df;refine wpAnyH_done (by kernel_rfl) ?_ _;clear ab9 u9 hHeld;go_wp2;go_ret;exact⟨⟨BL.toArray⟩,rfl,by simp;exact hBL.symm,by rw[hb];exact NF.out⟩
end Go.Proofs.YthdcceackfdbbaaGreatDoor
