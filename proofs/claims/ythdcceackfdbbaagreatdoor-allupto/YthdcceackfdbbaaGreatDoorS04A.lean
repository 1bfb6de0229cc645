import Derived.Test.YthdcceackfdbbaaGreatDoorS03A
set_option linter.unusedSimpArgs false
set_option maxHeartbeats 800000
open Go.RowKit Go.Proofs.Tryz
namespace Go.Proofs.YthdcceackfdbbaaGreatDoor
theorem Cp{P:Program}{f:FuncId}{args:Array Value}{w:World}{a n:Nat}{v:Value}(h:Calls P f args (w.drewN (a+n)) λe w'=>e=.returned v/\w'=w.drewN (a+n)):Calls P f args (w.drewN (a+n)) λe Ha=>e=.returned v/\∃m,Ha=w.drewN (a+m):=h.mono λ_ _⟨he,hm⟩=>⟨he,n,hm⟩
theorem Jy(w:World)(va vb:Value)(la lb:List Nat)(ha:Own w 0 va la)(hb:Own w 0 vb lb)(ca:fR la)(cb:fR lb)(J9:la.length<=4096):Calls prog 197 #[va,vb] w λe w'=>e=.returned (.int .i64 (gh (val la) (val lb)))/\∃n,w'=w.drewN n:=by
 obtain⟨aa,yQ,rfl,Ln,pK,i7⟩:=ha.gy;obtain⟨ab,yP,rfl,OT,rT,jK⟩:=hb.gy;have HA:Hid (∀(i x:Nat),la[i]?=some x->x<4294967296/\∃g,aa=some ⟨g,0,none⟩/\0<=g/\g<w.heap.size/\w.cell? ⟨g,i,none⟩=some (.int .u32 (x:Int))):=i7
 have HB:Hid (∀(i x:Nat),lb[i]?=some x->x<4294967296/\∃g,ab=some ⟨g,0,none⟩/\0<=g/\g<w.heap.size/\w.cell? ⟨g,i,none⟩=some (.int .u32 (x:Int))):=jK;clear i7 jK pK rT
 by_cases hlen:la.length=lb.length;{
 have HL:Hid (la.length=lb.length):=hlen;have hn:((la.length:Int)!=(lb.length:Int))=false:=by simp[hlen]
 clear hlen;go_enter func197,ntmps197;go_wp2;go_loopw[5](λi wr=>∃k:Nat,k<=la.length/\i=.int .i64 ((k:Int)-1)/\la.drop k=lb.drop k/\∃nq,wr=w.drewN nq)(λi _=>(intOf i+1).toNat)
 case atStart=>exact⟨la.length,aj _,rfl,by rw[lm,HL.out,lm],0,rfl⟩
 case round=>obtain⟨k,hk,rfl,hd,nq,rfl⟩:=hrel;have HD:Hid (la.drop k=lb.drop k):=hd;clear hd;cases k with|zero=>go_wp2;go_ret;refine⟨aS ?_,nq,rfl⟩;have hd:=HD.out;simp only[qf]at hd;rw[gJ (by rw[hd])]|succ k=>(have e:((k+1:Nat):Int)-1=(k:Int):=by omega);rw[e];obtain⟨x,hx⟩:∃x,la[k]?=some x:=⟨la[k],by simp⟩;obtain⟨y,hy⟩:∃y,lb[k]?=some y:=⟨lb[k]'(by have:=HL.out;omega),by simp⟩;obtain⟨uf,g,rfl,_,hg,hc⟩:=HA.out k x hx;obtain⟨XY,g2,rfl,_,E8,Gh⟩:=HB.out k y hy;have HX:Hid (la[k]?=some x):=hx;have HY:Hid (lb[k]?=some y):=hy;(have WB:(k:Int)<(lb.length:Int):=by have:=HL.out;omega);(have hka:(k:Int)<(la.length:Int):=by omega);clear hx hy e;by_cases wK:x=y;{subst wK;go_wp2;go_quiet(fail);go_wp2;go_roundw;(case rel=>refine⟨k,by omega,rfl,?_,_,rfl⟩;have h1:=bW (l:=la) (i:=k) (by omega);have h2:=bW (l:=lb) (i:=k) (by omega);rw[(ar.1 HX.out).2]at h1;rw[(ar.1 HY.out).2]at h2;rw[h1,h2,HD.out]);case measure=>simp[intOf]};{(have adz:((x:Int)!=(y:Int))=true:=by simp;omega);go_wp2;go_quiet(fail);go_wp2;go_quiet((go_at_call 224;exact Cp (L1 _ _ _)));go_wp2;go_ret;refine⟨aS ?_,_,by rw[World.drewN_drewN,World.drewN_drewN]⟩;rcases G3 wK with hh|hh;{rw[fh (by omega),fh (by have:=EI ha.2 HX.out HY.out HD.out hh;omega)]};{rw[gI (by omega),gI (by have:=EI hb.2 HY.out HX.out HD.out.symm hh;omega)]}}}
 {
 have hn:((la.length:Int)!=(lb.length:Int))=true:=by simp;omega
 go_enter func197,ntmps197;go_wp2_with(go_at_call 223;refine(L2 _ _ _).mono ?_;rintro e w'⟨rfl,rfl⟩);go_ret;refine⟨aS ?_,0,rfl⟩;rcases G3 hlen with hh|hh;{rw[fh (by omega),fh (by have:=xh ha.2 cb hh;omega)]}
 {rw[gI (by omega),gI (by have:=xh hb.2 ca hh;omega)]}}
def bl(n:Nat):Nat:=if n=0 then 0 else n.log2+1
theorem YJ{n b:Nat}(h1:2^b<=n)(h2:n<2^(b+1)):bl n=b+1:=by
 have h0:n≠0:=by have:0<2^b:=dc (by omega);omega
 unfold bl;rw[ai h0];have a1:b<=n.log2:=(Nat.le_log2 h0).2 h1;have a2:n.log2<b+1:=(adk h0).2 h2;omega
theorem Nq{n:Nat}(h0:n≠0):2^(bl n-1)<=n:=by unfold bl;rw[ai h0,Nat.add_sub_cancel];exact(Nat.le_log2 h0).1 (aj _)
theorem oJ(n:Nat):n<2^bl n:=by unfold bl;by_cases h0:n=0;{simp[h0]};{rw[ai h0];exact(adk h0).1 (by omega)}
theorem Dv{n:Nat}(h0:n≠0):1<=bl n:=by unfold bl;rw[ai h0];omega
theorem Aa{x:Nat}(h:x<18446744073709551616):Lib.bitLen x=bl x:=by by_cases h0:x=0;{subst h0;rfl};{obtain⟨b1,b2,b3⟩:=Lib.bitLenAux_bounds 64 x (by omega) h0;(have e:Lib.bitLenAux 64 x=(Lib.bitLenAux 64 x-1)+1:=by omega);have:=YJ b2 (by rw[<-e];exact b3);show Lib.bitLenAux 64 x=_;omega}
theorem Hz(k:Nat):4294967296^k=2^(32*k):=by rw[fD]
theorem T6{l:List Nat}{x:Nat}(hw:P8 l)(hx:x≠0):bl (val (l++[x]))=32*l.length+bl x:=by
 have h1:=FE hw;rw[lK];rw[Hz]at h1⊢;have kg:=Nq hx;have kL:=oJ x;have Jc:=Dv hx;have e:32*l.length+bl x=(32*l.length+(bl x-1))+1:=by omega
 rw[e];refine YJ ?_ ?_;{rw[cl];have:=ce (2^(32*l.length)) kg;omega};{rw[<-e,cl];have:=ce (2^(32*l.length)) (show x+1<=2^bl x from kL);rw[cG]at this;omega}
theorem kj{n k:Nat}(h:n<2^k):bl n<=k:=by unfold bl;by_cases h0:n=0;{simp[h0]};{rw[ai h0];have:=(adk h0).2 h;omega}
theorem Ma(w:World)(va:Value)(la:List Nat)(ha:Own w 0 va la)(ca:fR la)(J9:la.length<=4096):Calls prog 222 #[va] w λe w'=>e=.returned (.int .i64 (bl (val la)))/\∃n,w'=w.drewN n:=by
 by_cases hne:la=[];{subst hne;obtain⟨aa,yQ,rfl,_,_,_⟩:=ha.gy;go_enter func222,ntmps222;go_wp2;go_ret;exact⟨rfl,0,rfl⟩};{
 obtain⟨r,x,rfl⟩:=sX hne;have Eg:x≠0:=ca x (by simp);obtain⟨aa,yQ,rfl,_,_,hcell⟩:=ha.gy;obtain⟨uf,g,rfl,_,hg,hc⟩:=hcell r.length x (by simp);have hb:=T6 (l:=r) (λy hy=>ha.2 y (by simp[hy])) Eg
 have HB:Hid (bl (val (r++[x]))=32*r.length+bl x):=hb;have oy:=kj (n:=x) (k:=32) (by omega);have Jb:=Aa (x:=x) (by omega);have NF:Hid (Lib.bitLen x=bl x):=Jb;have aer:Lib.bitLen x<=32:=by omega
 simp only[aJ,aU,cd]at*;clear hcell hb Jb hne;go_enter func222,ntmps222;go_wp2;go_quiet(first|(go_at_call 193;exact Calls.quiet_of_same (nD _))|(go_at_call 205;exact Calls.quiet_of_same (bits_Len64 _ _ (by omega) (by omega))))
 go_wp2;go_ret;refine⟨aS ?_,_,rfl⟩;rw[HB.out];have:=NF.out;omega}
theorem VW(w:World)(va vb:Value)(la lb:List Nat)(ha:Own w 0 va la)(hb:Own w 0 vb lb)(J9:la.length<=4096)(xx:lb.length<=4096):Calls prog 159 #[va,vb] w λe w'=>∃v' l',e=.returned v'/\Own w' w.heap.size v' l'/\fR l'/\val l'=val la*val lb/\Below w.heap.size w w':=by
 obtain⟨aa,yQ,rfl,Ln,pK,i7⟩:=ha.gy;obtain⟨ab,yP,rfl,OT,rT,jK⟩:=hb.gy;have HA:Hid (∀(i x:Nat),la[i]?=some x->x<4294967296/\∃g,aa=some ⟨g,0,none⟩/\0<=g/\g<w.heap.size/\w.cell? ⟨g,i,none⟩=some (.int .u32 (x:Int))):=i7
 have HB:Hid (∀(i x:Nat),lb[i]?=some x->x<4294967296/\∃g,ab=some ⟨g,0,none⟩/\0<=g/\g<w.heap.size/\w.cell? ⟨g,i,none⟩=some (.int .u32 (x:Int))):=jK;clear i7 jK pK rT
 obtain⟨i0,hi,ip,fS,gU⟩:=info_parts Tryz.yF;go_enter func159,ntmps159;go_wp2_with(at_make;refine wpList_make_full _ rfl _ _ 225 rfl w.heap.size 124 i0 (.int .u32 0) 1 underlying225 hi ip fS _ _ _ _ (la.length+lb.length) rfl rfl ?c1 ?c2 ?c3 ?c4 ?c5 ?c6)
 case c1=>omega
 case c2=>omega
 case c3=>rw[gU];omega
 case c4=>unfold maxLen;omega
 case c5=>exact aj _
 intro w1 bp bG;have nv:=Cz bp;have bF:Below w.heap.size w w1:=(Below.refl _ _).grown bG (aj _) (by intro k hk;cases hk);clear bp bG;go_wp2;go_loopw[19](λi wr=>∃(k:Nat)(p:List Nat),k<=la.length/\i=.int .i64 k/\p.length=la.length+lb.length/\Own wr w.heap.size (.slice (some ⟨w.heap.size,0,none⟩) (la.length+lb.length) (la.length+lb.length)) p/\val (p.take (k+lb.length))=val (la.take k)*val lb/\Below w.heap.size w wr)(λi _=>la.length-(intOf i).toNat)
 case atStart=>exact⟨0,_,ap _,rfl,by simp,nv,by rw[ae6,EG];simp[val],bF⟩
 case round=>clear nv bF;obtain⟨k,p0,hk,rfl,hp0,bp,hval,bF⟩:=hrel;have YP:Hid (val (p0.take (k+lb.length))=val (la.take k)*val lb):=hval;have Kk:Hid (p0.length=la.length+lb.length):=hp0;clear hval hp0;by_cases di:k<la.length;{obtain⟨x,hx⟩:∃x,la[k]?=some x:=⟨la[k],by simp[di]⟩;obtain⟨uf,g,rfl,_,hg,hc⟩:=HA.out k x hx;have xy:=bF.cell (p:=⟨g,k,none⟩) hg;rw[hc]at xy;have HX:Hid (la[k]?=some x):=hx;clear hx hc;go_wp2;go_loopw[8,26](λc i wr=>∃(j:Nat)(p:List Nat)(cy:Nat),j<=lb.length/\i=.int .i64 j/\c=.int .u64 cy/\cy<4294967296/\p.length=la.length+lb.length/\Own wr w.heap.size (.slice (some ⟨w.heap.size,0,none⟩) (la.length+lb.length) (la.length+lb.length)) p/\val (p.take (k+j))+4294967296^(k+j)*cy=val (p0.take (k+j))+4294967296^k*(x*val (lb.take j))/\p.drop (k+j)=p0.drop (k+j)/\Below w.heap.size w wr)(λ_ i _=>lb.length-(intOf i).toNat);(case atStart=>exact⟨0,p0,0,ap _,rfl,rfl,by omega,Kk.out,bp,by simp[val],rfl,bF⟩);case round=>clear bp bF xy;obtain⟨j,p,cy,hj,rfl,rfl,yL,hp,bp,hval,CZ,bF⟩:=hrel;have HV:Hid (val (p.take (k+j))+4294967296^(k+j)*cy=val (p0.take (k+j))+4294967296^k*(x*val (lb.take j))):=hval;have HP:Hid (p.length=la.length+lb.length):=hp;have HD:Hid (p.drop (k+j)=p0.drop (k+j)):=CZ;clear hval hp CZ;by_cases pJ:j<lb.length;{obtain⟨y,hy⟩:∃y,lb[j]?=some y:=⟨lb[j],by simp[pJ]⟩;obtain⟨XY,g2,rfl,_,E8,hc⟩:=HB.out j y hy;have xy:=bF.cell (p:=⟨g2,j,none⟩) E8;rw[hc]at xy;obtain⟨z,hz,XX,hold⟩:=bp.at (j:=k+j) (by omega);have o6:=bp.tJ (k+j);have HY:Hid (lb[j]?=some y):=hy;have HZ:Hid (p[k+j]?=some z):=hz;obtain⟨kg,kL⟩:=Ot yL uf XY XX;clear hy hc hz;go_wp2_with(go_at_call 193;refine(nD _).mono ?_;rintro e w'⟨rfl,rfl⟩);go_roundw;(case rel=>(have e1:((cy:Int)+((x:Int)*(y:Int)+(z:Int)))%4294967296=(((cy+(x*y+z))%4294967296:Nat):Int):=by simp);(have e2:((cy:Int)+((x:Int)*(y:Int)+(z:Int)))/4294967296=(((cy+(x*y+z))/4294967296:Nat):Int):=by simp);rw[e1,e2];exact⟨j+1,p.set (k+j) ((cy+(x*y+z))%4294967296),_,by omega,by go_num,rfl,kL,by simp[HP.out],bp.stored (by simp[HP.out]) (k+j) (dK _ (by omega)),RJ (by rw[HP.out];omega) (vg HD.out HZ.out) HY.out (by omega) HV.out,zP HD.out,bF.setCell (aj _) _⟩);case measure=>simp[intOf];omega};{(have HJ:Hid (j=lb.length):=by unfold Hid;omega);obtain⟨z,hz,XX,hold⟩:=bp.at (j:=k+lb.length) (by omega);have o6:=bp.tJ (k+lb.length);clear hz;go_wp2;go_roundw;(case rel=>have hv:=HV.out;rw[HJ.out]at hv;exact⟨k+1,p.set (k+lb.length) cy,by omega,by go_num,by simp[HP.out],bp.stored (by simp[HP.out]) (k+lb.length) yL,VV (by rw[HP.out];omega) HX.out YP.out hv,bF.setCell (aj _) _⟩);case measure=>simp[intOf];omega}};{(have HK:Hid (k=la.length):=by unfold Hid;omega);go_wp2_with fail;refine(uN _ _ _ _ bp).mono ?_;rintro e w'⟨v',rfl,pI,rfl⟩;go_wp2;go_ret;refine⟨v',_,rfl,pI,iu _,?_,bF⟩;have hv:=YP.out;rw[HK.out,dx,aI (by rw[Kk.out];omega)]at hv;rw[rH,hv]}
theorem Zp{cy x od:Nat}(hc:cy<2^od)(hx:x<4294967296)(ho:od<32):bits .or .u64 (cy:Int) (IntKind.u64.wrap ((x:Int)*2^od))=((cy+x*2^od:Nat):Int):=by
 have h1:2^od<=2^31:=aF (by omega) (by omega);have h2:x*2^od<=4294967295*2^31:=bI (by omega) h1;have e:(x:Int)*2^od=((x*2^od:Nat):Int):=by simp
 rw[e,IntKind.wrap_u64,show((x*2^od:Nat):Int)%18446744073709551616=((x*2^od:Nat):Int)from by omega];rw[u64_or_nat _ _ (by omega) (by omega),adj,nat_join od _ _ (Nat.mul_mod_left _ _) hc,fU]
theorem N1{cy x od:Nat}(hc:cy<2^od)(hx:x<4294967296):(cy+x*2^od)/4294967296<2^od:=by refine ig ?_;have h2:(x+1)*2^od<=4294967296*2^od:=cR _ (by omega);rw[eI]at h2;omega
theorem KB{p la:List Nat}{wd k x cy od r c':Nat}(hp:wd+k<p.length)(hx:la[k]?=some x)(ht:r+4294967296*c'=cy+x*2^od)(h:val (p.take (wd+k))+4294967296^(wd+k)*cy=4294967296^wd*(val (la.take k)*2^od)):val ((p.set (wd+k) r).take (wd+(k+1)))+4294967296^(wd+(k+1))*c'=4294967296^wd*(val (la.take (k+1))*2^od):=by
 rw[show wd+(k+1)=(wd+k)+1 from by omega,kz hp,lK,take_len (by omega),kv (.inl hx)];have e1:4294967296^(wd+k+1)*c'=4294967296^(wd+k)*(4294967296*c'):=by rw[aT,aw]
 have e2:4294967296^(wd+k)*(r+4294967296*c')=4294967296^(wd+k)*(cy+x*2^od):=by rw[ht]
 have e3:4294967296^wd*((val (la.take k)+4294967296^k*x)*2^od)=4294967296^wd*(val (la.take k)*2^od)+4294967296^(wd+k)*(x*2^od):=by rw[eI,cG,cl,aw (4294967296^k),aw (4294967296^wd)]
 rw[cG,cG]at e2;rw[e1,e3];omega
theorem N3{p la:List Nat}{wd cy od n:Nat}(hw:wd=n/32)(ho:od=n%32)(hp:p.length=wd+la.length+1)(h:val (p.take (wd+la.length))+4294967296^(wd+la.length)*cy=4294967296^wd*(val (la.take la.length)*2^od)):val (p.set (wd+la.length) cy)=val la*2^n:=by rw[xY hp,h,dx,Hz,kH,<-cl,show 32*wd+od=n from by omega]
theorem N4(w:World)(va:Value)(la:List Nat)(n:Nat)(ha:Own w 0 va la)(J9:la.length<=4096)(hn:n<=100000):Calls prog 196 #[va,.int .i64 n] w λe w'=>∃v' l',e=.returned v'/\Own w' w.heap.size v' l'/\fR l'/\val l'=val la*2^n/\Below w.heap.size w w':=by
 obtain⟨aa,yQ,rfl,Ln,pK,i7⟩:=ha.gy;have HA:Hid (∀(i x:Nat),la[i]?=some x->x<4294967296/\∃g,aa=some ⟨g,0,none⟩/\0<=g/\g<w.heap.size/\w.cell? ⟨g,i,none⟩=some (.int .u32 (x:Int))):=i7
 clear i7 pK;obtain⟨i0,hi,ip,fS,gU⟩:=info_parts Tryz.yF;go_enter func196,ntmps196;go_wp2;go_quiet((go_at_call 193;exact Calls.quiet_of_same (nD _)));obtain⟨wd,Sr⟩:∃wd,wd=n/32:=⟨_,rfl⟩
 obtain⟨od,hod⟩:∃od,od=n%32:=⟨_,rfl⟩;have adQ:od<32:=by omega
 have afr:wd<=4000:=by omega
 have e1:(n:Int)/32=(wd:Int):=by omega
 have e2:(n:Int)%32=(od:Int):=by omega
 rw[e1,e2];have HW:Hid (wd=n/32):=Sr;have HO:Hid (od=n%32):=hod;clear Sr hod e1 e2;go_wp2_with(at_make;refine wpList_make_full _ rfl _ _ 225 rfl w.heap.size 124 i0 (.int .u32 0) 1 underlying225 hi ip fS _ _ _ _ (wd+la.length+1) rfl rfl ?c1 ?c2 ?c3 ?c4 ?c5 ?c6)
 case c1=>omega
 case c2=>omega
 case c3=>rw[gU];omega
 case c4=>unfold maxLen;omega
 case c5=>simp
 intro w1 bp bG;have nv:=Cz bp;have bF:Below w.heap.size w w1:=((below_drewN (Below.refl _ _) _)).grown bG (by simp) (by intro k hk;cases hk);clear bp bG;go_wp2
 go_loopw[8,25](λc i wr=>∃(k:Nat)(p:List Nat)(cy:Nat),k<=la.length/\i=.int .i64 k/\c=.int .u64 cy/\cy<2^od/\p.length=wd+la.length+1/\Own wr w.heap.size (.slice (some ⟨w.heap.size,0,none⟩) (wd+la.length+1) (wd+la.length+1)) p/\val (p.take (wd+k))+4294967296^(wd+k)*cy=4294967296^wd*(val (la.take k)*2^od)/\Below w.heap.size w wr)(λ_ i _=>la.length-(intOf i).toNat)
 case atStart=>exact⟨0,_,0,ap _,rfl,rfl,dc (by omega),by simp,nv,by rw[ae6,EG];simp[val],bF⟩
 case round=>clear nv bF;obtain⟨k,p,cy,hk,rfl,rfl,yL,hp,bp,hval,bF⟩:=hrel;have HV:Hid (val (p.take (wd+k))+4294967296^(wd+k)*cy=4294967296^wd*(val (la.take k)*2^od)):=hval;have HP:Hid (p.length=wd+la.length+1):=hp;have HC:Hid (cy<2^od):=yL;(have aem:cy<4294967296:=by have:2^od<=2^31:=aF (by omega) (by omega);omega);clear hval hp yL;by_cases di:k<la.length;{obtain⟨x,hx⟩:∃x,la[k]?=some x:=⟨la[k],by simp[di]⟩;obtain⟨uf,g,rfl,_,hg,hc⟩:=HA.out k x hx;have xy:=bF.cell (p:=⟨g,k,none⟩) hg;rw[hc]at xy;have HX:Hid (la[k]?=some x):=hx;obtain⟨z,hz,XX,hold⟩:=bp.at (j:=wd+k) (by omega);have o6:=bp.tJ (wd+k);clear hx hc hz;go_wp2_with(go_at_call 193;refine(nD _).mono ?_;rintro e w'⟨rfl,rfl⟩);go_roundw;(case rel=>rw[Zp HC.out uf adQ];(have e1:((cy+x*2^od:Nat):Int)%4294967296=(((cy+x*2^od)%4294967296:Nat):Int):=by omega);(have e2:((cy+x*2^od:Nat):Int)/4294967296=(((cy+x*2^od)/4294967296:Nat):Int):=by omega);rw[e1,e2];exact⟨k+1,p.set (wd+k) ((cy+x*2^od)%4294967296),_,by omega,by go_num,rfl,N1 HC.out uf,by simp[HP.out],bp.stored (by simp[HP.out]) (wd+k) (dK _ (by omega)),KB (by rw[HP.out];omega) HX.out (by omega) HV.out,bF.setCell (aj _) _⟩);case measure=>simp[intOf];omega};{(have HK:Hid (k=la.length):=by unfold Hid;omega);obtain⟨z,hz,XX,hold⟩:=bp.at (j:=wd+la.length) (by omega);have o6:=bp.tJ (wd+la.length);clear hz;go_wp2_with fail;have yI:=bp.stored (by simp[HP.out]) (wd+la.length) aem;refine(uN _ _ _ _ yI).mono ?_;rintro e w'⟨v',rfl,pI,rfl⟩;go_wp2;go_ret;refine⟨v',_,rfl,pI,iu _,?_,bF.setCell (aj _) _⟩;have hv:=HV.out;rw[HK.out]at hv;rw[rH,N3 HW.out HO.out HP.out hv]}
theorem iT.len{w:World}{B:Nat}{v:Value}{l:List Nat}{n:Nat}(_h:Own w B v l)(hc:fR l)(hv:val l=n)(hn:eE n):l.length<=4096:=by have:=Bn hc (by rw[hv];exact hn);omega
theorem Own.drewN{w:World}{B:Nat}{v:Value}{l:List Nat}(h:Own w B v l)(n:Nat):Own (w.drewN n) B v l:=h.below (below_drewN (Below.refl _ _) n)
theorem iT.drewN{w:World}{B:Nat}{v:Value}{a:Nat}(h:iT w B v a)(n:Nat):iT (w.drewN n) B v a:=h.below (below_drewN (Below.refl _ _) n)
theorem xu(w:World)(v:Value)(a f m:Nat)(h:iT w 0 v a)(ha:eE a)(hf:f<4294967296)(hm:m<4294967296):Calls prog 157 #[v,.int .u32 f,.int .u32 m] w λe w'=>∃v',e=.returned v'/\iT w' w.heap.size v' (a*f+m)/\Below w.heap.size w w':=by obtain⟨l,h1,h2,h3⟩:=h;refine(KY w v l f m h1 (iT.len h1 h2 h3 ha) hf hm).mono ?_;rintro e w'⟨v',l',he,ho,hc,hv,hb⟩;exact⟨v',he,⟨l',ho,hc,by rw[hv,h3]⟩,hb⟩
theorem qy(w:World)(va vb:Value)(a b:Nat)(ha:iT w 0 va a)(hb:iT w 0 vb b)(la:eE a)(lb:eE b):Calls prog 159 #[va,vb] w λe w'=>∃v',e=.returned v'/\iT w' w.heap.size v' (a*b)/\Below w.heap.size w w':=by obtain⟨l,h1,h2,h3⟩:=ha;obtain⟨k,k1,k2,k3⟩:=hb;refine(VW w va vb l k h1 k1 (iT.len h1 h2 h3 la) (iT.len k1 k2 k3 lb)).mono ?_;rintro e w'⟨v',l',he,ho,hc,hv,hb⟩;exact⟨v',he,⟨l',ho,hc,by rw[hv,h3,k3]⟩,hb⟩
theorem nG(w:World)(va:Value)(a n:Nat)(ha:iT w 0 va a)(la:eE a)(hn:n<=100000):Calls prog 196 #[va,.int .i64 n] w λe w'=>∃v',e=.returned v'/\iT w' w.heap.size v' (a*2^n)/\Below w.heap.size w w':=by obtain⟨l,h1,h2,h3⟩:=ha;refine(N4 w va l n h1 (iT.len h1 h2 h3 la) hn).mono ?_;rintro e w'⟨v',l',he,ho,hc,hv,hb⟩;exact⟨v',he,⟨l',ho,hc,by rw[hv,h3]⟩,hb⟩
theorem js(w:World)(va vb:Value)(a b:Nat)(ha:iT w 0 va a)(hb:iT w 0 vb b)(la:eE a):Calls prog 197 #[va,vb] w λe w'=>e=.returned (.int .i64 (gh a b))/\∃n,w'=w.drewN n:=by obtain⟨l,h1,h2,h3⟩:=ha;obtain⟨k,k1,k2,k3⟩:=hb;have:=Jy w va vb l k h1 k1 h2 k2 (iT.len h1 h2 h3 la);rw[h3,k3]at this;exact this
theorem Dx(w:World)(va:Value)(a:Nat)(ha:iT w 0 va a)(la:eE a):Calls prog 222 #[va] w λe w'=>e=.returned (.int .i64 (bl a))/\∃n,w'=w.drewN n:=by obtain⟨l,h1,h2,h3⟩:=ha;have:=Ma w va l h1 h2 (iT.len h1 h2 h3 la);rw[h3]at this;exact this
theorem LU{a b d r:Nat}(h:r+d*b=a)(hr:r<b):a/b=d/\a%b=r:=by
 subst h;have hb:0<b:=by omega
 rw[fk _ _ hb,wF,cz hr,dE hr];omega
theorem TJ{a b d r:Nat}(h:r+d*b=a)(hb:b≠0)(hr:b<=r):d+1<=a/b:=by rw[rj (by omega),eI];omega
theorem yR{la lb:List Nat}(hw:P8 la)(hc:fR lb)(h:val lb<=val la):lb.length<=la.length:=by by_cases hh:lb.length<=la.length;{exact hh};{have:=xh hw hc (by omega);omega}
theorem Own.RF{w:World}{B:Nat}{v:Value}{l:List Nat}(h:Own w B v l)(hne:l≠[]):∃g cap,v=.slice (some ⟨g,0,none⟩) l.length cap/\B<=g/\g<w.heap.size:=by rcases h.shape with⟨_,rfl⟩|⟨g,cap,rfl,h1,h2,_⟩;{exact absurd rfl hne};{exact⟨g,cap,rfl,h1,h2⟩}
theorem Own.Np{w:World}{B:Nat}{v:Value}{l:List Nat}(h:Own w B v l){k:Nat}(hk:v.ownBlock=some k):k<w.heap.size:=(h.1.lt k hk).2
theorem zS(w:World)(va vb:Value)(a b:Nat)(ha:iT w 0 va a)(hb:iT w 0 vb b)(o7:b≠0)(la:eE a)(hq:a/b<=1000000):Calls prog 167 #[va,vb] w λe w'=>∃v',e=.returned (.tuple #[.int .i64 ((a/b:Nat):Int),v'])/\iT w' w.heap.size v' (a%b)/\Below w.heap.size w w':=by
 obtain⟨l,h1,h2,h3⟩:=ha;obtain⟨k,k1,k2,k3⟩:=hb;have Eo:=iT.len h1 h2 h3 la;have HQ:Hid (a/b<=1000000):=hq;have xd:Hid (val k=b):=k3;have HH3:Hid (val l=a):=h3;clear hq k3 h3
 go_enter func167,ntmps167;go_wp2_with fail;refine(Fm _ _ _ h1 Eo).mono ?_;rintro e w1⟨v1,rfl,MQ,kg⟩;go_wp2_with fail;go_loopw[6,7](λs v wr=>∃(d r:Nat)(l':List Nat),s=.int .i64 d/\Own wr w.heap.size v l'/\fR l'/\val l'=r/\r+d*b=a/\Below w.heap.size w wr)(λs _ _=>a-(intOf s).toNat)
 case atStart=>exact⟨0,a,l,rfl,MQ,h2,HH3.out,by simp,kg⟩
 case round=>clear MQ kg;obtain⟨d,r,l',rfl,ho,hc,hv,he,bF⟩:=hrel;have HE:Hid (r+d*b=a):=he;have HV:Hid (val l'=r):=hv;have hra:eE r:=la.le (by omega);have wW:=iT.len ho hc hv hra;have k1r:Own wr 0 vb k:=k1.below bF;clear he hv;go_wp2_with fail;refine(js wr u7 vb r b ⟨l',ho.base (ap _),hc,HV.out⟩ ⟨k,k1r,k2,xd.out⟩ hra).mono ?_;rintro e w2⟨rfl,nq,rfl⟩;by_cases DU:b<=r;{have hd:=TJ HE.out o7 DU;have BO:d+1<=1000000:=ak hd HQ.out;(have hda:d<a:=by have:=l5 a b;omega);(have ml:(0:Int)<=gh (r:Int) (b:Int):=by unfold gh;split<;>(try split)<;>omega);generalize gh (r:Int) (b:Int)=cm at ml⊢;(have hne:l'≠[]:=by intro e;have:=HV.out;rw[e]at this;simp[val]at this;omega);obtain⟨g,cap,hu,U0,E8⟩:=ho.RF hne;subst hu;clear hd hne;go_wp2_with fail;have aal:k.length<=l'.length:=yR ho.2 k2 (by rw[HV.out,xd.out];exact DU);refine(Hi _ w.heap.size g l'.length cap vb l' k (ho.drewN nq) (k1r.drewN nq) (by intro e;have:=k1.Np e;omega) wW aal (by rw[HV.out,xd.out];exact DU)).mono ?_;rintro e w3⟨rfl,⟨p,UU,UT,hp3⟩,Ys⟩;have Ag:Hid (val p=val l'-val k):=UT;have Jc:Below w.heap.size w w3:=(below_drewN bF nq).grown Ys (by have:=bF.size;simpa using this) (by intro q hq;cases hq;exact U0);clear UT;go_wp2_with fail;refine(uN _ _ _ _ UU).mono ?_;rintro e w4⟨v4,rfl,SG,rfl⟩;go_wp2;go_roundw;(case rel=>refine⟨d+1,r-b,_,by go_num,SG,iu _,?_,?_,Jc⟩;{rw[rH,Ag.out,HV.out,xd.out]};{have:=HE.out;rw[eI];omega});case measure=>simp[intOf];omega};{have ml:gh (r:Int) (b:Int)=-1:=fh (by omega);rw[ml];obtain⟨q1,q2⟩:=LU HE.out (by omega);have Q1:Hid (a/b=d):=q1;have Q2:Hid (a%b=r):=q2;clear q1 q2 ml;go_wp2;go_ret2;refine⟨u7,by rw[Q1.out];rfl,⟨l',ho.drewN nq,hc,by rw[Q2.out,HV.out]⟩,below_drewN bF nq⟩}
theorem VA(w:World)(va vb:Value)(a b:Nat)(ha:iT w 0 va a)(hb:iT w 0 vb b)(mj:b<=a)(AH:a≠0)(la:eE a):Calls prog 168 #[va,vb] w λe w'=>∃v',e=.returned v'/\iT w' w.heap.size v' (a-b)/\Below w.heap.size w w':=by
 obtain⟨l,h1,h2,h3⟩:=ha;obtain⟨k,k1,k2,k3⟩:=hb;have Eo:=iT.len h1 h2 h3 la;have aal:k.length<=l.length:=yR h1.2 k2 (by rw[h3,k3];exact mj);have xd:Hid (val k=b):=k3
 have HH3:Hid (val l=a):=h3;clear k3 h3;have hne:l≠[]:=by intro e;have:=HH3.out;rw[e]at this;simp[val]at this;omega
 go_enter func168,ntmps168;go_wp2_with fail;refine(Fm _ _ _ h1 Eo).mono ?_;rintro e w1⟨v1,rfl,MQ,kg⟩;obtain⟨g,cap,hu,U0,E8⟩:=MQ.RF hne;subst hu;clear hne;go_wp2_with fail
 refine(Hi _ w.heap.size g l.length cap vb l k MQ (k1.below kg) (by intro e;have:=k1.Np e;omega) Eo aal (by rw[HH3.out,xd.out];exact mj)).mono ?_;rintro e w3⟨rfl,⟨p,UU,UT,hp3⟩,Ys⟩
 have Ag:Hid (val p=val l-val k):=UT;have Jc:Below w.heap.size w w3:=kg.grown Ys kg.size (by intro q hq;cases hq;exact U0);clear UT;go_wp2_with fail;refine(uN _ _ _ _ UU).mono ?_
 rintro e w4⟨v4,rfl,SG,rfl⟩;go_wp2;go_ret;exact⟨v4,rfl,⟨_,SG,iu _,by rw[rH,Ag.out,HH3.out,xd.out]⟩,Jc⟩
theorem JP(i:Nat)(hi:i<9223372036854775808):bits BinOp.and IntKind.i64 (i:Int) 1=((i%2:Nat):Int):=by
 have two63:(2:Int)^63=9223372036854775808:=by decide
 have h:=bits_mask .i64 63 (by decide) (λn h0 h1=>by rw[two63]at h1;rw[IntKind.wrap_i64];omega) 1 (by decide) (i:Int) (by omega) (by rw[two63];omega);have e:((2:Int)^1-1)=1:=by decide
 rw[e]at h;rw[h];omega
theorem H8(b n j:Nat):b^(n/2^j)=b^(n/2^(j+1))*b^(n/2^(j+1))*b^(n/2^j%2):=by rw[<-cl,<-cl];congr 1;rw[aT,<-Nat.div_div_eq_div_mul];omega
theorem H7{b n m:Nat}(hb:1<=b)(h:eE (b^n))(hm:m<=n):eE (b^m):=h.le (aF hb hm)
theorem Oh(w:World)(b n:Nat)(hb:1<=b)(kL:b<4294967296)(hn:n<=100000)(hL:eE (b^n)):Calls prog 198 #[.int .u32 b,.int .i64 n] w λe w'=>∃v',e=.returned v'/\iT w' w.heap.size v' (b^n)/\Below w.heap.size w w':=by
 have u6:Lib.bitLen n<=64:=Lib.bitLen_le n 64 (by omega) (by omega);have hz:n/2^Lib.bitLen n=0:=by rw[Aa (by omega)];exact cz (oJ n)
 have HZ:Hid (n/2^Lib.bitLen n=0):=hz;clear hz;go_enter func198,ntmps198;go_wp2_with fail;refine(zF _ 1 (by omega)).mono ?_;rintro e w1⟨v1,rfl,MQ,kg⟩;go_wp2_with fail
 refine(bits_Len _ _ (by omega) (by omega)).mono ?_;rintro e w2⟨rfl,rfl⟩;rw[fW];generalize M0:Lib.bitLen n=t at*;have HT:Hid (Lib.bitLen n=t):=M0;clear M0;go_wp2_with fail
 go_loopw[5,6](λv i wr=>∃(k:Nat),k<=t/\i=.int .i64 ((k:Int)-1)/\iT wr w.heap.size v (b^(n/2^k))/\Below w.heap.size w wr)(λ_ i _=>(intOf i+1).toNat);case atStart=>exact⟨t,aj _,rfl,by rw[HZ.out];exact MQ,kg⟩
 case round=>clear MQ kg;obtain⟨k,hk,rfl,ho,bF⟩:=hrel;cases k with|zero=>go_wp2;go_ret;exact⟨u5,rfl,by simpa using ho,bF⟩|succ j=>(have e:((j+1:Nat):Int)-1=(j:Int):=by omega);rw[e];clear e;go_wp2_with fail;have xQ:eE (b^(n/2^(j+1))):=H7 hb hL (l5 _ _);refine(qy _ u5 u5 _ _ (ho.base (ap _)) (ho.base (ap _)) xQ xQ).mono ?_;rintro e w3⟨v3,rfl,ho3,Jc⟩;clear xQ;(have hj:j<64:=by omega);have hq:n/2^j<9223372036854775808:=dF (l5 _ _) (by omega);(have eb:bits BinOp.and IntKind.i64 ((n:Int)/2^j) 1=((n/2^j%2:Nat):Int):=by rw[show(n:Int)/2^j=((n/2^j:Nat):Int)from by simp];exact JP _ hq);have EB:Hid (bits BinOp.and IntKind.i64 ((n:Int)/2^j) 1=((n/2^j%2:Nat):Int)):=eb;(have pX:eE (b^(n/2^(j+1))*b^(n/2^(j+1))):=by refine eE.le (H7 hb hL (l5 n (2^j))) ?_;rw[H8 b n j];exact ie _ (dc hb));have O1:Below w.heap.size w w3:=bF.trans (Jc.mono bF.size);have SG:=ho3.base bF.size;have hph:=H8 b n j;have HPH:Hid (b^(n/2^j)=b^(n/2^(j+1))*b^(n/2^(j+1))*b^(n/2^j%2)):=hph;clear hph hq eb;rcases gq (n/2^j)with LF|LF;rotate_left;{(have M0:(bits BinOp.and IntKind.i64 ((n:Int)/2^j) 1==1)=true:=by rw[EB.out,LF];rfl);have aa6:Hid (n/2^j%2=1):=LF;clear LF;go_wp2_with fail;refine(xu _ v3 _ b 0 (ho3.base (ap _)) pX kL (by omega)).mono ?_;rintro e w5⟨v5,rfl,ho5,hb5⟩;go_wp2;go_roundw;(case rel=>refine⟨j,by omega,rfl,?_,O1.trans (hb5.mono O1.size)⟩;rw[HPH.out,aa6.out];simpa using ho5.base O1.size);case measure=>simp[intOf]};{(have M0:(bits BinOp.and IntKind.i64 ((n:Int)/2^j) 1==1)=false:=by rw[EB.out,LF];rfl);have aa6:Hid (n/2^j%2=0):=LF;clear LF;go_wp2;go_roundw;(case rel=>refine⟨j,by omega,rfl,?_,O1⟩;rw[HPH.out,aa6.out];simpa using SG);case measure=>simp[intOf]}
def ry(n d:Nat):Nat:=if d<2*(n%d)\/(2*(n%d)=d/\n/d%2=1)then n/d+1 else n/d
theorem vR(n d c:Nat)(hc:0<c):ry (n*c) (d*c)=ry n d:=by
 unfold ry;rw[adc,ade _ _ hc];have h1:d*c<2*(n%d*c)↔d<2*(n%d):=by rw[<-aw];exact kG hc
 have h2:2*(n%d*c)=d*c↔2*(n%d)=d:=by rw[<-aw];exact Nat.mul_right_cancel_iff hc
 simp only[h1,h2]
def iw(a b:Nat):Int:=if 0<=(bl a:Int)-bl b then(if a<b*2^((bl a:Int)-bl b).toNat then(bl a:Int)-bl b-1 else(bl a:Int)-bl b)else(if a*2^(-((bl a:Int)-bl b)).toNat<b then(bl a:Int)-bl b-1 else(bl a:Int)-bl b)
def UQ(a b:Nat)(e:Int):Nat:=if 0<=e then ry a (b*2^e.toNat)else ry (a*2^(-e).toNat) b
def eOf(p:Int):Int:=if p< -1022 then-1074 else p-52
def qL(a b:Nat):Nat:=if 1023<iw a b then 9218868437227405312 else(eOf (iw a b)+1074).toNat*4503599627370496+UQ a b (eOf (iw a b))
theorem ir{a b i j i' j':Nat}(h1:b*2^j<=a*2^i)(h2:a*2^i'<2*(b*2^j')):(j:Int)-i<=(j':Int)-i':=by
 by_cases hh:(j:Int)-i<=(j':Int)-i';{exact hh};{
 exfalso;have mj:j'+1+i<=j+i':=by omega
 have e1:=cR (2^i') h1;have e2:=(kG (a:=2^i) (dc (by omega))).2 h2;have e3:a*2^i*2^i'=a*2^i'*2^i:=by rw[aw,aw,ay (2^i)]
 have e4:b*2^j*2^i'=b*2^(j+i'):=by rw[aw,cl]
 have e5:2*(b*2^j')*2^i=b*2^(j'+1+i):=by rw[cl,aT,ay 2 (b*_),aw,aw,aw]
 have e6:b*2^(j'+1+i)<=b*2^(j+i'):=ce _ (aF (by omega) mj);omega}
theorem vT{a b:Nat}(ha:a≠0)(hb:b≠0)(h:bl b<=bl a):a<2*(b*2^(bl a-bl b))/\b*2^(bl a-bl b)<2*a:=by
 have a1:=Nq ha;have a2:=oJ a;have b1:=Nq hb;have b2:=oJ b;have p1:=Dv ha;have p2:=Dv hb;have e1:2^bl a=2*2^(bl a-1):=by rw[<-Nat.pow_succ'];congr 1;omega
 have e2:2^(bl b-1)*2^(bl a-bl b)=2^(bl a-1):=by rw[<-cl];congr 1;omega
 have e3:2^bl b*2^(bl a-bl b)=2^bl a:=by rw[<-cl];congr 1;omega
 have e4:=cR (2^(bl a-bl b)) b1;have e5:=(kG (a:=2^(bl a-bl b)) (dc (by omega))).2 b2;exact⟨by omega,by omega⟩
theorem MD{a b i j:Nat}(ha:a≠0)(hb:b≠0)(h1:b*2^j<=a*2^i)(h2:a*2^i<2*(b*2^j)):iw a b=(j:Int)-i:=by
 have key:∃i' j':Nat,iw a b=(j':Int)-i'/\b*2^j'<=a*2^i'/\a*2^i'<2*(b*2^j'):=by unfold iw;by_cases hk:0<=(bl a:Int)-bl b;{rw[au hk];obtain⟨n1,n2⟩:=vT ha hb (by omega);(have et:((bl a:Int)-bl b).toNat=bl a-bl b:=by omega);rw[et];by_cases hc:a<b*2^(bl a-bl b);{rw[au hc];exact⟨1,bl a-bl b,by omega,by omega,by omega⟩};{rw[ai hc];exact⟨0,bl a-bl b,by omega,by omega,by omega⟩}};{rw[ai hk];obtain⟨n1,n2⟩:=vT hb ha (by omega);(have et:(-((bl a:Int)-bl b)).toNat=bl b-bl a:=by omega);rw[et];by_cases hc:a*2^(bl b-bl a)<b;{rw[au hc];refine⟨bl b-bl a+1,0,by omega,?_,?_⟩;{rw[aT,<-aw];omega};{rw[aT,<-aw];omega}};{rw[ai hc];exact⟨bl b-bl a,0,by omega,by omega,by omega⟩}}
 obtain⟨i',j',e,k1,k2⟩:=key;have u1:=ir h1 k2;have u2:=ir k1 h2;omega
theorem Ri{a b i j s:Nat}{e:Int}(he:e=(j:Int)+1-i-s):ry (a*2^i*2^s) (2*(b*2^j))=UQ a b e:=by
 unfold UQ;have n1:a*2^i*2^s=a*2^(i+s):=by rw[aw,cl]
 have n2:2*(b*2^j)=b*2^(j+1):=by rw[aT];simp only[kH,ay]
 rw[n1,n2];by_cases h:0<=e;{
 rw[au h];have e1:j+1=e.toNat+(i+s):=by omega
 have e2:b*2^(j+1)=b*2^e.toNat*2^(i+s):=by rw[e1,cl,aw]
 rw[e2,vR _ _ _ (dc (by omega))]};{
 rw[ai h];have e1:i+s=(-e).toNat+(j+1):=by omega
 have e2:a*2^(i+s)=a*2^(-e).toNat*2^(j+1):=by rw[e1,cl,aw]
 rw[e2,vR _ _ _ (dc (by omega))]}
theorem Od{n d:Nat}(h:2*n<d):ry n d=0:=by unfold ry;rw[cz (by omega),dE (by omega),ai (by omega)]
theorem VH{a b i j c:Nat}(h2:a*2^i<2*(b*2^j))(hc:1<=c)(hp:j+c+2<=i):UQ a b (-(c:Int))=0:=by
 unfold UQ;rw[ai (by omega),show(-(-(c:Int))).toNat=c from by omega];refine Od ?_;have hs:a*2^c*2^(i-c)<2*(b*2^j):=by rw[aw,<-cl,show c+(i-c)=i from by omega];exact h2
 have e1:2*(b*2^j)<=b*2^(i-c-1):=by have h3:2^(j+1)<=2^(i-c-1):=aF (by omega) (by omega);have h4:=ce b h3;rw[aT,<-aw]at h4;omega
 have e2:2^(i-c)=2*2^(i-c-1):=by rw[<-Nat.pow_succ'];congr 1;omega
 have e3:a*2^c*2*2^(i-c-1)<b*2^(i-c-1):=by rw[e2,<-aw]at hs;omega
 have e4:=wD e3;omega
theorem FL{a b i j:Nat}(ha:a≠0)(hb:b≠0)(h1:b*2^j<=a*2^i)(h2:a*2^i<2*(b*2^j))(hp:(j:Int)-i< -1075):qL a b=0:=by have rR:=MD ha hb h1 h2;unfold qL;rw[rR,ai (by omega)];unfold eOf;rw[au (by omega)];have:=VH (c:=1074) h2 (by omega) (by omega);rw[show(-((1074:Nat):Int))=-1074 from rfl]at this;rw[this];rfl
theorem dr{a k:Nat}(h:bl a<=k)(hk:k<=65536):eE a:=eE.of_lt (k:=k) (ax (oJ a) (aF (by omega) h)) hk
theorem dV(a n:Nat):bl (a*2^n)<=bl a+n:=by refine kj ?_;rw[cl];exact(kG (dc (by omega))).2 (oJ a)
theorem kW(w:World)(va:Value)(a n:Nat)(m:Int)(ha:iT w 0 va a)(la:eE a)(hn:n<=100000)(hm:m=(n:Int)):Calls prog 196 #[va,.int .i64 m] w λe w'=>∃v',e=.returned v'/\iT w' w.heap.size v' (a*2^n)/\Below w.heap.size w w':=by subst hm;exact nG w va a n ha la hn
theorem Vx{a b:Value}{c c':Int}(h:c=c'):Ending.returned (.tuple #[a,b,.int .i64 c])=.returned (.tuple #[a,b,.int .i64 c']):=by rw[h]
theorem D8(w:World)(va vb:Value)(a b:Nat)(ha:iT w 0 va a)(hb:iT w 0 vb b)(AH:a≠0)(o7:b≠0)(la:bl a<=20000)(lb:bl b<=20000):Calls prog 195 #[va,vb] w λe w'=>∃(va' Vu:Value)(i j:Nat),e=.returned (.tuple #[va',Vu,.int .i64 ((j:Int)-(i:Int))])/\iT w' 0 va' (a*2^i)/\iT w' 0 Vu (b*2^j)/\b*2^j<=a*2^i/\a*2^i<2*(b*2^j)/\i<=20001/\j<=20000/\Below w.heap.size w w':=by
 have sa:=dr la (by omega);have sb:=dr lb (by omega);generalize hA:bl a=A at*;generalize hB:bl b=B at*;have HA:Hid (bl a=A):=hA;have HB:Hid (bl b=B):=hB;clear hA hB
 go_enter func195,ntmps195;go_wp2_with fail;refine(Dx _ _ a ha sa).mono ?_;rintro e w1⟨rfl,n1,rfl⟩;go_wp2_with fail;refine(Dx _ _ b (hb.drewN n1) sb).mono ?_;rintro e w1⟨rfl,n2,rfl⟩
 rw[HA.out,HB.out];by_cases DU:B<=A;{
 obtain⟨m1,m2⟩:=vT AH o7 (by rw[HA.out,HB.out];exact DU);rw[HA.out,HB.out]at m1 m2;obtain⟨d,hd⟩:∃d:Nat,d=A-B:=⟨_,rfl⟩;rw[<-hd]at m1 m2;have BO:d<=20000:=by omega
 have sb2:eE (b*2^d):=dr (ak (dV b d) (by rw[HB.out];exact Nat.add_le_add lb BO)) (by omega);have M1:Hid (a<2*(b*2^d)):=m1;have M2:Hid (b*2^d<2*a):=m2;have HD:Hid (d=A-B):=hd
 clear hd m1 m2;go_wp2_with fail;refine(kW _ _ b d ((A:Int)-(B:Int)) (hb.drewN (n1+n2)) sb (by omega) (by have:=HD.out;omega)).mono ?_;rintro e w2⟨v2,rfl,r2,b2⟩
 simp only[World.heap_drewN]at b2 r2;have bb2:Below w.heap.size w w2:=(below_drewN (Below.refl _ _) (n1+n2)).trans b2;go_wp2_with fail;refine(js _ _ _ a (b*2^d) (ha.below bb2) (r2.base (ap _)) sa).mono ?_
 rintro e w3⟨rfl,n3,rfl⟩;by_cases hc:a<b*2^d;{
 rw[fh (by omega)];have HC:Hid (a<b*2^d):=hc;clear hc;go_wp2_with fail;refine(nG _ _ a 1 ((ha.below bb2).drewN n3) sa (by omega)).mono ?_;rintro e w4⟨v4,rfl,r4,b4⟩
 simp only[World.heap_drewN]at b4 r4;go_wp2;go_ret3;refine⟨v4,v2,1,d,Vx (by have:=HD.out;omega),r4.base (ap _),((r2.base (ap _)).drewN n3).below (by simpa using b4),?_,?_,by omega,by omega,(below_drewN bb2 n3).trans (b4.mono bb2.size)⟩
 {have:=M2.out;omega};{have:=HC.out;omega}};{
 have ml:(0:Int)<=gh (a:Int) ((b*2^d:Nat):Int):=by unfold gh;split<;>(try split)<;>omega
 generalize gh (a:Int) ((b*2^d:Nat):Int)=cm at ml⊢;have HC:Hid (¬a<b*2^d):=hc;clear hc;go_wp2;go_ret3;refine⟨va,v2,0,d,Vx (by have:=HD.out;omega),by simpa using(ha.below bb2).drewN n3,(r2.base (ap _)).drewN n3,?_,?_,by omega,by omega,below_drewN bb2 n3⟩
 {have:=HC.out;omega};{have:=M1.out;omega}}};{
 obtain⟨m1,m2⟩:=vT o7 AH (by rw[HA.out,HB.out];omega);rw[HA.out,HB.out]at m1 m2;obtain⟨d,hd⟩:∃d:Nat,d=B-A:=⟨_,rfl⟩;rw[<-hd]at m1 m2;have BO:d<=20000:=by omega
 have hd3:1<=d:=by omega
 have sa2:eE (a*2^d):=dr (ak (dV a d) (by rw[HA.out];exact Nat.add_le_add la BO)) (by omega);have M1:Hid (b<2*(a*2^d)):=m1;have M2:Hid (a*2^d<2*b):=m2;have HD:Hid (d=B-A):=hd
 clear hd m1 m2;go_wp2_with fail;refine(kW _ _ a d (-((A:Int)-(B:Int))) (ha.drewN (n1+n2)) sa (by omega) (by have:=HD.out;omega)).mono ?_;rintro e w2⟨v2,rfl,r2,b2⟩
 simp only[World.heap_drewN]at b2 r2;have bb2:Below w.heap.size w w2:=(below_drewN (Below.refl _ _) (n1+n2)).trans b2;go_wp2_with fail;refine(js _ _ _ (a*2^d) b (r2.base (ap _)) (hb.below bb2) sa2).mono ?_
 rintro e w3⟨rfl,n3,rfl⟩;by_cases hc:a*2^d<b;{
 rw[fh (by omega)];have HC:Hid (a*2^d<b):=hc;clear hc;go_wp2_with fail;refine(nG _ _ (a*2^d) 1 ((r2.base (ap _)).drewN n3) sa2 (by omega)).mono ?_;rintro e w4⟨v4,rfl,r4,b4⟩
 simp only[World.heap_drewN]at b4 r4;go_wp2;go_ret3;refine⟨v4,vb,d+1,0,Vx (by have:=HD.out;omega),?_,by simpa using((hb.below bb2).drewN n3).below (by simpa using b4),?_,?_,by omega,by omega,(below_drewN bb2 n3).trans (b4.mono bb2.size)⟩
 {rw[aT,<-aw];exact r4.base (ap _)};{have:=M1.out;rw[aT,<-aw];omega};{have:=HC.out;rw[aT,<-aw];omega}};{
 have ml:(0:Int)<=gh ((a*2^d:Nat):Int) (b:Int):=by unfold gh;split<;>(try split)<;>omega
 generalize gh ((a*2^d:Nat):Int) (b:Int)=cm at ml⊢;have HC:Hid (¬a*2^d<b):=hc;clear hc;go_wp2;go_ret3;refine⟨v2,vb,d,0,Vx (by have:=HD.out;omega),(r2.base (ap _)).drewN n3,by simpa using(hb.below bb2).drewN n3,?_,?_,by omega,by omega,below_drewN bb2 n3⟩
 {have:=HC.out;omega};{have:=M2.out;omega}}}
end Go.Proofs.YthdcceackfdbbaaGreatDoor
