import Derived.Test.YthdcceackfdbbaaGreatDoorS00A
import Derived.Test.YthdcceackfdbbaaGreatDoorS01A
import Derived.WalkSpells
import Derived.WalkLawsBesides
set_option linter.unusedSimpArgs false
set_option maxRecDepth 20000
set_option maxHeartbeats 1000000
open Go.RowKit Go.Proofs.Tryz
namespace Go.Proofs.YthdcceackfdbbaaGreatDoor
def val:List Nat->Nat|[]=>0|x::r=>x+4294967296*val r
def P8(l:List Nat):Prop:=∀x∈l,x<4294967296
def fR(l:List Nat):Prop:=∀x,l.getLast?=some x->x≠0
def eE(a:Nat):Prop:=∃L,L<=2048/\a<4294967296^L
theorem eE.le{a b:Nat}(h:eE b)(hl:a<=b):eE a:=by obtain⟨L,h1,h2⟩:=h;exact⟨L,h1,dF hl h2⟩
theorem eE.of_lt{a k:Nat}(h:a<2^k)(hk:k<=65536):eE a:=by refine⟨(k+31)/32,by omega,ax h ?_⟩;rw[show(4294967296:Nat)=2^32 from rfl,<-fD];exact aF (by omega) (by omega)
theorem sT(a b:List Nat):val (a++b)=val a+4294967296^a.length*val b:=by induction a with|nil=>simp[val]|cons x r ih=>simp only[cv,val,ih,aU,aT,cG];rw[ay (4294967296^r.length) 4294967296,aw];omega
theorem FE{l:List Nat}(h:P8 l):val l<4294967296^l.length:=by induction l with|nil=>simp[val]|cons x r ih=>have h1:=h x (by simp);have h2:=ih (λy hy=>h y (by simp[hy]));simp only[val,aU,aT];have h3:val r+1<=4294967296^r.length:=h2;have h4:=ce 4294967296 h3;rw[ay (4294967296^r.length)];omega
theorem xG{l:List Nat}{x:Nat}(hx:x≠0):fR (l++[x]):=by intro y hy;simp at hy;omega
theorem sy:fR []:=by intro y hy;simp at hy
theorem sX{l:List Nat}(h:l≠[]):∃r x,l=r++[x]:=⟨l.dropLast,l.getLast h,(un h).symm⟩
theorem JA{l:List Nat}(h:fR l)(hne:l≠[]):4294967296^(l.length-1)<=val l:=by obtain⟨r,x,rfl⟩:=sX hne;have hx:x≠0:=h x (by simp);rw[sT];simp only[val,aJ,aU,cd];have:4294967296^r.length*1<=4294967296^r.length*(x+4294967296*0):=ce _ (by omega);simp at this⊢;omega
theorem PC{l:List Nat}(h:fR l){k:Nat}(hk:val l<4294967296^k):l.length<=k:=by by_cases hne:l=[];{simp[hne]};{have h1:=JA h hne;have h2:4294967296^(l.length-1)<4294967296^k:=dF h1 hk;have h3:=(kP (by omega:1<4294967296)).1 h2;omega}
theorem Bn{l:List Nat}(h:fR l)(hk:eE (val l)):l.length<=2048:=by obtain⟨L,h1,h2⟩:=hk;have:=PC h h2;omega
def jx(l:List Nat):List Nat:=(l.reverse.dropWhile (·==0)).reverse
theorem jg(l:List Nat):jx (l++[0])=jx l:=by simp[jx]
theorem kx(l:List Nat){x:Nat}(h:x≠0):jx (l++[x])=l++[x]:=by
 have:(x==0)=false:=by simpa using h
 simp[jx,this]
theorem qw(P:List Nat->Prop)(h0:P [])(h1:∀l x,x≠0->P (l++[x]))(h2:∀l,P l->P (l++[0]))(l:List Nat):P l:=by
 generalize hn:l.length=n;induction n generalizing l with|zero=>rw[cN.1 hn];exact h0|succ n ih=>obtain⟨r,x,rfl⟩:=sX (l:=l) (by intro e;simp[e]at hn);(have hr:r.length=n:=by simpa using hn);by_cases hx:x=0;{subst hx;exact h2 r (ih r hr)};{exact h1 r x hx}
theorem rH(l:List Nat):val (jx l)=val l:=by refine qw (λl=>val (jx l)=val l) rfl ?_ ?_ l;{intro r x hx;rw[kx r hx]};{intro r h;rw[jg,h,sT];simp[val]}
theorem iu(l:List Nat):fR (jx l):=by refine qw (λl=>fR (jx l)) sy ?_ ?_ l;{intro r x hx;rw[kx r hx];exact xG hx};{intro r h;rw[jg];exact h}
theorem FG(l:List Nat):∃k,k<=l.length/\jx l=l.take k:=by refine qw (λl=>∃k,k<=l.length/\jx l=l.take k) ⟨0,by simp,rfl⟩ ?_ ?_ l;{intro r x hx;exact⟨_,aj _,by rw[kx r hx,dx]⟩};{rintro r⟨k,hk,h⟩;exact⟨k,by simp;omega,by rw[jg,h,gM hk]⟩}
theorem G8{l:List Nat}(h:P8 l)(k:Nat):P8 (l.take k):=λx hx=>h x (kI hx)
theorem NR(l:List Nat):(jx l).length<=l.length:=by obtain⟨k,hk,e⟩:=FG l;rw[e,bE];omega
theorem cJ{α:Type}{l:List α}{k:Nat}{x:α}(h:l[k]?=some x):l.take (k+1)=l.take k++[x]:=by rw[dw,h];rfl
theorem kz{α:Type}{p:List α}{k:Nat}(hk:k<p.length)(y:α):(p.set k y).take (k+1)=p.take k++[y]:=by rw[cJ (x:=y) (by simp[hk])];rw[List.take_set_of_le (aj k)]
theorem take_len{α:Type}{l:List α}{k:Nat}(h:k<=l.length):(l.take k).length=k:=by rw[bE];omega
theorem lK(l:List Nat)(x:Nat):val (l++[x])=val l+4294967296^l.length*x:=by rw[sT];simp[val]
theorem Io{p l:List Nat}{k x cy f m y c':Nat}(hp:k<p.length)(hx:l[k]?=some x)(ht:y+4294967296*c'=cy+x*f)(h:val (p.take k)+4294967296^k*cy=val (l.take k)*f+m):val ((p.set k y).take (k+1))+4294967296^(k+1)*c'=val (l.take (k+1))*f+m:=by
 have hk:k<l.length:=(ar.1 hx).1;rw[kz hp,cJ hx,lK,lK,take_len (by omega),take_len (by omega)];have e:4294967296^(k+1)*c'=4294967296^k*(4294967296*c'):=by rw[aT,aw]
 have e2:4294967296^k*(y+4294967296*c')=4294967296^k*(cy+x*f):=by rw[ht]
 rw[cG,cG]at e2;rw[e,eI,aw (4294967296^k) x f];omega
theorem QM{p:List Nat}{n y:Nat}(hp:p.length=n+1):p.set n y=p.take n++[y]:=by rw[<-kz (by omega) y,aI (by simp;omega)]
theorem xY{p:List Nat}{n y:Nat}(hp:p.length=n+1):val (p.set n y)=val (p.take n)+4294967296^n*y:=by rw[QM hp,lK,take_len (by omega)]
theorem kv{l:List Nat}{k y:Nat}(h:l[k]?=some y\/(l.length<=k/\y=0)):val (l.take (k+1))=val (l.take k)+4294967296^k*y:=by rcases h with h|⟨h,rfl⟩;{rw[cJ h,lK,take_len (by have:=(ar.1 h).1;omega)]};{rw[aI (by omega),aI h];simp}
theorem EL{la lb p:List Nat}{k x y r b' bw:Nat}(hx:la[k]?=some x)(hy:lb[k]?=some y\/(lb.length<=k/\y=0))(hp:k<p.length)(e:x+4294967296*b'=r+y+bw)(h:val (la.take k)+4294967296^k*bw=val (p.take k)+val (lb.take k)):val (la.take (k+1))+4294967296^(k+1)*b'=val ((p.set k r).take (k+1))+val (lb.take (k+1)):=by
 rw[kv (.inl hx),kv hy,kz hp,lK,take_len (by omega)];have e1:4294967296^(k+1)*b'=4294967296^k*(4294967296*b'):=by rw[aT,aw]
 have e2:4294967296^k*(x+4294967296*b')=4294967296^k*(r+y+bw):=by rw[e]
 rw[cG,cG,cG]at e2;omega
theorem zP{p la:List Nat}{k r:Nat}(h:p.drop k=la.drop k):(p.set k r).drop (k+1)=la.drop (k+1):=by rw[List.drop_set_of_lt (by omega)];have:=congrArg (List.drop 1) h;simpa[ni,fU]using this
theorem vg{p la:List Nat}{k x:Nat}(h:p.drop k=la.drop k)(hx:p[k]?=some x):la[k]?=some x:=by have:=congrArg (λl:List Nat=>l[0]?) h;simp[hx]at this;exact this.symm
theorem QD{la lb p:List Nat}{bw:Nat}(hw:P8 p)(hp:p.length=la.length)(xx:lb.length<=la.length)(mj:val lb<=val la)(h:val (la.take la.length)+4294967296^la.length*bw=val (p.take la.length)+val (lb.take la.length)):val p=val la-val lb:=by
 have h1:=FE hw;rw[dx,aI xx,aI (by omega)]at h;rw[hp]at h1;have:bw=0:=by by_cases e:bw=0;{exact e};{have:4294967296^la.length*1<=4294967296^la.length*bw:=ce _ (by omega);omega}
 subst this;omega
theorem L9(x y bw:Nat)(hx:x<4294967296)(hy:y<4294967296)(hb:bw<=1):∃r b':Nat,((((x:Int)-bw)%18446744073709551616-y)%18446744073709551616)%4294967296=(r:Int)/\((((x:Int)-bw)%18446744073709551616-y)%18446744073709551616)/9223372036854775808=(b':Int)/\r<4294967296/\b'<=1/\x+4294967296*b'=r+y+bw:=by by_cases h:x<y+bw;{exact⟨x+4294967296-y-bw,1,by omega,by omega,by omega,by omega,by omega⟩};{exact⟨x-y-bw,0,by omega,by omega,by omega,by omega,by omega⟩}
theorem JJ(x bw:Nat)(hx:x<4294967296)(hb:bw<=1):∃r b':Nat,(((x:Int)-bw)%18446744073709551616)%4294967296=(r:Int)/\(((x:Int)-bw)%18446744073709551616)/9223372036854775808=(b':Int)/\r<4294967296/\b'<=1/\x+4294967296*b'=r+0+bw:=by by_cases h:x<bw;{exact⟨x+4294967296-bw,1,by omega,by omega,by omega,by omega,by omega⟩};{exact⟨x-bw,0,by omega,by omega,by omega,by omega,by omega⟩}
theorem FX{cy x f:Nat}(hc:cy<4294967296)(hx:x<4294967296)(hf:f<4294967296):x*f<=18446744065119617025/\(cy+x*f)/4294967296<4294967296:=by have h1:x*f<=4294967295*4294967295:=bI (by omega) (by omega);exact⟨by omega,by omega⟩
theorem RJ{p p0 lb:List Nat}{k j x y z cy r c':Nat}(hp:k+j<p.length)(hp0:p0[k+j]?=some z)(hy:lb[j]?=some y)(ht:r+4294967296*c'=cy+(x*y+z))(h:val (p.take (k+j))+4294967296^(k+j)*cy=val (p0.take (k+j))+4294967296^k*(x*val (lb.take j))):val ((p.set (k+j) r).take (k+(j+1)))+4294967296^(k+(j+1))*c'=val (p0.take (k+(j+1)))+4294967296^k*(x*val (lb.take (j+1))):=by
 rw[show k+(j+1)=(k+j)+1 from by omega,kz hp,lK,take_len (by omega),kv (.inl hp0),kv (.inl hy)];have e1:4294967296^(k+j+1)*c'=4294967296^(k+j)*(4294967296*c'):=by rw[aT,aw]
 have e2:4294967296^(k+j)*(r+4294967296*c')=4294967296^(k+j)*(cy+(x*y+z)):=by rw[ht]
 have e3:4294967296^k*(x*(val (lb.take j)+4294967296^j*y))=4294967296^k*(x*val (lb.take j))+4294967296^(k+j)*(x*y):=by rw[cG,cG,cl,aw (4294967296^k) (4294967296^j),kH x]
 rw[cG,cG,cG]at e2;rw[e1,e3];omega
theorem VV{p p0 la lb:List Nat}{k x cy:Nat}(hp:k+lb.length<p.length)(hx:la[k]?=some x)(h0:val (p0.take (k+lb.length))=val (la.take k)*val lb)(h:val (p.take (k+lb.length))+4294967296^(k+lb.length)*cy=val (p0.take (k+lb.length))+4294967296^k*(x*val (lb.take lb.length))):val ((p.set (k+lb.length) cy).take ((k+1)+lb.length))=val (la.take (k+1))*val lb:=by rw[show(k+1)+lb.length=(k+lb.length)+1 from by omega,kz hp,lK,take_len (by omega),h,h0,kv (.inl hx),dx,eI,aw]
theorem Ot{cy x y z:Nat}(hc:cy<4294967296)(hx:x<4294967296)(hy:y<4294967296)(hz:z<4294967296):x*y<=18446744065119617025/\(cy+(x*y+z))/4294967296<4294967296:=by have h1:x*y<=4294967295*4294967295:=bI (by omega) (by omega);exact⟨by omega,by omega⟩
theorem EG(n:Nat):val (List.replicate n 0)=0:=by induction n with|zero=>rfl|succ n ih=>simp[nT,val,ih]
theorem EH{l:List Nat}{k x:Nat}(h:l[k]?=some x):val l=val (l.take k)+4294967296^k*(x+4294967296*val (l.drop (k+1))):=by
 have hk:=(ar.1 h).1;have e:l=l.take k++x::l.drop (k+1):=by have h1:=(cT k l).symm;rw[bW hk]at h1;rw[(ar.1 h).2]at h1;exact h1
 have:=congrArg val e;rw[sT,take_len (by omega)]at this;simpa[val]using this
theorem EI{la lb:List Nat}{k x y:Nat}(hw:P8 la)(hx:la[k]?=some x)(hy:lb[k]?=some y)(hd:la.drop (k+1)=lb.drop (k+1))(h:x<y):val la<val lb:=by rw[EH hx,EH hy,hd];have h1:=FE (G8 hw k);rw[take_len (by have:=(ar.1 hx).1;omega)]at h1;have h2:4294967296^k*(x+4294967296*val (lb.drop (k+1))+1)<=4294967296^k*(y+4294967296*val (lb.drop (k+1))):=ce _ (by omega);rw[cG _ _ 1]at h2;omega
theorem xh{la lb:List Nat}(hw:P8 la)(hc:fR lb)(h:la.length<lb.length):val la<val lb:=by have h1:=FE hw;have h2:=JA hc (by intro e;simp[e]at h);have h3:4294967296^la.length<=4294967296^(lb.length-1):=aF (by omega) (by omega);omega
def yf(l:List Nat):List Value:=l.map λx:Nat=>Value.int .u32 (x:Int)
def Own(w:World)(B:Nat)(v:Value)(l:List Nat):Prop:=w.ownsRow B 124 1 v l.length (yf l)/\P8 l
def iT(w:World)(B:Nat)(v:Value)(n:Nat):Prop:=∃l,Own w B v l/\fR l/\val l=n
theorem wT{w w':World}{B e size n:Nat}{v:Value}{xs:List Value}(h:w.ownsRow B e size v n xs)(hb:Below w.heap.size w w'):w'.ownsRow B e size v n xs:=by refine⟨h.1,?_⟩;rcases h.2 with hn|⟨g,cap,cE,rfl,h1,hg,rest⟩;{exact .inl hn};{exact .inr ⟨g,cap,cE,rfl,h1,by rw[hb.block g (aO.1 hg).1];exact hg,rest⟩}
theorem jr{w:World}{B B' e size n:Nat}{v:Value}{xs:List Value}(h:w.ownsRow B e size v n xs)(hb:B'<=B):w.ownsRow B' e size v n xs:=by refine⟨h.1,?_⟩;rcases h.2 with hn|⟨g,cap,cE,rfl,h1,rest⟩;{exact .inl hn};{exact .inr ⟨g,cap,cE,rfl,ak hb h1,rest⟩}
theorem Own.below{w w':World}{B:Nat}{v:Value}{l:List Nat}(h:Own w B v l)(hb:Below w.heap.size w w'):Own w' B v l:=⟨wT h.1 hb,h.2⟩
theorem Own.base{w:World}{B B':Nat}{v:Value}{l:List Nat}(h:Own w B v l)(hb:B'<=B):Own w B' v l:=⟨jr h.1 hb,h.2⟩
theorem iT.below{w w':World}{B:Nat}{v:Value}{n:Nat}(h:iT w B v n)(hb:Below w.heap.size w w'):iT w' B v n:=by obtain⟨l,h1,h2⟩:=h;exact⟨l,h1.below hb,h2⟩
theorem iT.base{w:World}{B B':Nat}{v:Value}{n:Nat}(h:iT w B v n)(hb:B'<=B):iT w B' v n:=by obtain⟨l,h1,h2⟩:=h;exact⟨l,h1.base hb,h2⟩
theorem Own.shape{w:World}{B:Nat}{v:Value}{l:List Nat}(h:Own w B v l):(v=.slice none 0 0/\l=[])\/∃g cap,v=.slice (some ⟨g,0,none⟩) l.length cap/\B<=g/\g<w.heap.size/\l.length<=cap/\cap<=maxLen/\(∀(i x:Nat),l[i]?=some x->w.cell? ⟨g,i,none⟩=some (.int .u32 (x:Int)))/\(∀i,w.frozen? ⟨g,i,none⟩=false):=by
 rcases h.1.2 with⟨rfl,h0⟩|⟨g,cap,cE,rfl,hb,hg,hnc,ml,hcs,CN⟩;{exact .inl ⟨rfl,cN.1 h0⟩};{refine .inr ⟨g,cap,rfl,hb,(aO.1 hg).1,hnc,ml,?_,?_⟩;{intro i x hi;have di:i<l.length:=(ar.1 hi).1;rw[h.1.cellAt i (by omega)];simp[yf,hi]};{intro i;exact h.1.frozenAt i}}
theorem Own.gy{w:World}{B:Nat}{v:Value}{l:List Nat}(h:Own w B v l):∃ao cap,v=.slice ao l.length cap/\l.length<=cap/\cap<=maxLen/\(∀(i x:Nat),l[i]?=some x->x<4294967296/\∃g,ao=some ⟨g,0,none⟩/\B<=g/\g<w.heap.size/\w.cell? ⟨g,i,none⟩=some (.int .u32 (x:Int))):=by rcases h.shape with⟨rfl,rfl⟩|⟨g,cap,rfl,h1,h2,h3,h4,h5,_⟩;{exact⟨none,0,rfl,by simp,by simp,by simp⟩};{exact⟨_,cap,rfl,h3,h4,λi x hi=>⟨h.2 x (bU hi),g,rfl,h1,h2,h5 i x hi⟩⟩}
theorem Own.len{w:World}{B:Nat}{v:Value}{l:List Nat}(h:Own w B v l):l.length<=maxLen:=by rcases h.shape with⟨_,rfl⟩|⟨g,cap,_,_,_,h1,h2,_⟩;{simp};{omega}
theorem Own.take{w:World}{B g n cap:Nat}{l:List Nat}(h:Own w B (.slice (some ⟨g,0,none⟩) n cap) l)(hn:n=l.length){k:Nat}(hk:k<=l.length):Own w B (.slice (some ⟨g,0,none⟩) k cap) (l.take k):=by
 subst hn;have Lo:(l.take k).length=k:=by rw[bE];omega
 refine⟨⟨by simp[yf],?_⟩,G8 h.2 k⟩;rcases h.1.2 with⟨h',_⟩|⟨g',ez,cE,h',hb,hg,hnc,ml,hcs,CN⟩;{simp at h'};{simp only[Value.slice.injEq,fw,Addr.mk.injEq,and_true,true_and]at h';obtain⟨rfl,rfl⟩:=h';refine .inr ⟨g,cap,cE,by rw[Lo],hb,hg,by omega,ml,hcs,?_⟩;rw[Lo];simp only[yf,List.map_take,jF]at CN⊢;rw[<-CN,Vo,gx hk]}
theorem Own.stored{w:World}{B g n cap:Nat}{l:List Nat}(h:Own w B (.slice (some ⟨g,0,none⟩) n cap) l)(hn:n=l.length)(j:Nat){y:Nat}(hy:y<4294967296):Own (w.setCell ⟨g,j,none⟩ (.int .u32 (y:Int))) B (.slice (some ⟨g,0,none⟩) n cap) (l.set j y):=by subst hn;refine⟨?_,?_⟩;{have:=(h.1.stored j (.int .u32 (y:Int))).1;simpa[yf,qc]using this};{intro x hx;rcases XJ hx with h1|h1;{exact h.2 x h1};{omega}}
theorem Cz{w:World}{B:Nat}{v:Value}{n:Nat}(h:w.ownsRow B 124 1 v n (madeCells #[Value.int .u32 0] n).toList):Own w B v (List.replicate n 0):=by refine⟨?_,?_⟩;{(have e:(madeCells #[Value.int .u32 0] n).toList=yf (List.replicate n 0):=by rw[toList_madeCells_one];simp[yf]);rw[e]at h;simpa using h};{intro x hx;have:=(List.mem_replicate.1 hx).2;omega}
theorem Own.yj{w:World}{B:Nat}{v:Value}{l:List Nat}(h:Own w B v l){a:Addr}(u:Value)(hne:∀k,v.ownBlock=some k->k≠a.block):Own (w.setCell a u) B v l:=by refine⟨⟨h.1.1,?_⟩,h.2⟩;rcases h.1.2 with hn|⟨g,cap,cE,rfl,h1,hg,rest⟩;{exact .inl hn};{exact .inr ⟨g,cap,cE,rfl,h1,by rw[Below.heap_setCell _ _ _ _ (hne g rfl)];exact hg,rest⟩}
theorem Own.FZ{w:World}{B n cap:Nat}{ao:Option Addr}{l:List Nat}(h:Own w B (.slice ao n cap) l):n=l.length:=by rcases h.shape with⟨e,rfl⟩|⟨g',ez,e,_⟩;{simp at e;simp[e]};{simp at e;omega}
theorem Own.tJ{w:World}{B g n cap:Nat}{l:List Nat}(h:Own w B (.slice (some ⟨g,0,none⟩) n cap) l)(j:Nat):w.frozen? ⟨g,j,none⟩=false:=by have:=h.FZ;subst this;exact h.1.frozenAt j
theorem Own.TS{w:World}{B g n cap:Nat}{l:List Nat}(h:Own w B (.slice (some ⟨g,0,none⟩) n cap) l){j y:Nat}(hj:l[j]?=some y):w.cell? ⟨g,j,none⟩=some (.int .u32 (y:Int)):=by have:=h.FZ;subst this;rw[h.1.cellAt j (by have:=(ar.1 hj).1;omega)];simp[yf,hj]
theorem Own.at{w:World}{B g n cap:Nat}{l:List Nat}(h:Own w B (.slice (some ⟨g,0,none⟩) n cap) l){j:Nat}(hj:j<n):∃y,l[j]?=some y/\y<4294967296/\w.cell? ⟨g,j,none⟩=some (.int .u32 (y:Int)):=by
 have:=h.FZ;subst this;have e:l[j]?=some l[j]:=by simp[hj]
 exact⟨l[j],e,h.2 _ (NJ hj),h.TS e⟩
def RU:Value->Nat|.slice _ n _=>n|_=>0
def jQ(l:List UInt8):List Value:=l.map λx=>Value.int .u8 (x.toNat:Int)
structure jd(w:World)(B:Nat)(v:Value)(l:List UInt8):Prop where
 row:w.ownsRow B 5 1 v l.length (jQ l)
theorem Tryz.qP:(prog.info? 5).map (λi=>(i.zero,i.size,i.bytes))=some (some (.int .u8 0),1,1):=by kernel_rfl
theorem xZ(l:List UInt8)(x:UInt8):jQ (l++[x])=jQ l++[.int .u8 (x.toNat:Int)]:=by simp[jQ]
theorem jd.kind{w:World}{B:Nat}{v:Value}{l:List UInt8}(h:jd w B v l):∀g,v.ownBlock=some g->∃c fz,w.heap[g]?=some (.cells c 5 fz):=by intro g hg;obtain⟨_,h1|⟨g',cap,cE,rfl,_,h2,_⟩⟩:=h.row;{rw[h1.1]at hg;cases hg};{cases hg;exact⟨_,_,h2⟩}
theorem Nl(x i:Nat):((x:Int)/2^(8*i))%256=(((UInt8.ofNat (x/256^i%256)).toNat:Nat):Int):=by
 have h1:(UInt8.ofNat (x/256^i%256)).toNat=x/256^i%256:=by simp
 rw[h1,show((2:Int)^(8*i))=(((2^(8*i):Nat)):Int)by simp,fD,show(2:Nat)^8=256 from rfl];omega
theorem QI(w:World):Calls prog 176 #[] w λe w'=>e=.returned (.int .i64 8)/\w'=w:=by
 have hm:bits BinOp.xor IntKind.u64 IntKind.u64.max 0=18446744073709551615:=by kernel_rfl
 have hl:Lib.bitLen 18446744073709551615=64:=by decide
 go_enter func176,ntmps176;go_wp2_with fail;refine(bits_Len64 18446744073709551615 _ (by omega) (by omega)).mono ?_;rintro e w1⟨rfl,rfl⟩;go_wp2;go_ret;exact⟨by simp,rfl⟩
theorem Ub(w:World)(B:Nat)(v:Value)(l:List UInt8)(x:Nat)(h:jd w B v l)(hB:B<=w.heap.size)(hl:l.length<=100000):Calls prog 141 #[v,.int .u64 (x:Int)] w λe w'=>∃v',e=.returned v'/\jd w' B v' (l++gu x 8)/\Below B w w'/\Lib.OthersKept 5 Option.none w w':=by
 obtain⟨i0,hi,ip,fS,gU⟩:=info_parts Tryz.qP;go_enter func141,ntmps141;go_wp2_with fail;refine(QI _).mono ?_;rintro e w1⟨rfl,kK⟩;rw[kK];clear kK;go_wp2;go_loopw[0,7](λvv vi wr=>∃k:Nat,vi=.int .i64 (k:Int)/\k<=8/\jd wr B vv (l++gu x k)/\Below B w wr/\Lib.OthersKept 5 Option.none w wr)(λ_ vi _=>8-(intOf vi).toNat)
 case atStart=>exact⟨0,rfl,by omega,by simpa[gu]using h,Below.refl _ _,Lib.OthersKept.refl _ _ _⟩
 case round=>clear h;obtain⟨k,rfl,hk,bp,bF,nj⟩:=hrel;by_cases di:k<8;{(have fJ:(k:Int)<8:=by omega);have dU:=bF.size;(have Eo:(l++gu x k).length=l.length+k:=by simp[eK]);have HB:=hid (Nl x k);go_wp2_with(at_builtin;refine wpList_append_own _ rfl _ _ 72 rfl B 5 i0 (.int .u8 0) 1 1 underlying72 hi ip fS gU rfl (by decide) _ _ _ rfl (bp.row.alloc _) ⟨wr.heap.size,0,none⟩ 1 1 [.int .u8 ((x:Int)/2^(8*k)%256)] rfl rfl ?c1 ?c2 ?c3 ?c4 ?c5 ?_);(case c1=>exact cell_one_new _ _ _);(case c2=>intro u hu;simp at hu;subst hu;rfl);(case c3=>unfold maxLen;omega);(case c4=>omega);(case c5=>simp;omega);{intro v' w1 cF bG oU;(have hr:jd w1 B v' (l++gu x (k+1)):=by refine⟨?_⟩;rw[HB.out]at cF;(have e1:jQ (l++gu x (k+1))=jQ (l++gu x k)++[.int .u8 ((UInt8.ofNat (x/256^k%256)).toNat:Int)]:=by simp[gu,jQ]);(have e2:(l++gu x (k+1)).length=(l++gu x k).length+1:=by simp[eK];omega);rw[e1,e2,Eo];exact cF);have hb:Below B w w1:=(bF.alloc (by omega) _).grown bG (by simp;omega) (λq hq=>(bp.row.lt q hq).1);have DT:Lib.OthersKept 5 Option.none w w1:=(nj.alloc _).grown bG (λg hg=>by obtain⟨c,fz,h2⟩:=bp.kind g hg;exact⟨c,fz,(Below.heap_alloc _ _ _ (aO.1 h2).1).trans h2⟩);clear cF bG bp bF nj oU HB;go_wp2;go_roundw;(case rel=>exact⟨k+1,by simp,by omega,hr,hb,DT⟩);case measure=>simp[intOf];omega}};{(have fJ:¬(k:Int)<8:=by omega);(obtain rfl:k=8:=by omega);go_wp2;go_ret;exact⟨_,rfl,bp,bF,nj⟩}
theorem QJ(w:World):Calls prog 172 #[] w λe w'=>e=.returned (.int .i64 4)/\w'=w:=by
 have hm:bits BinOp.xor IntKind.u32 IntKind.u32.max 0=4294967295:=by kernel_rfl
 have hl:Lib.bitLen 4294967295=32:=by decide
 go_enter func172,ntmps172;go_wp2_with fail;refine(bits_Len64 4294967295 _ (by omega) (by omega)).mono ?_;rintro e w1⟨rfl,rfl⟩;go_wp2;go_ret;exact⟨by simp,rfl⟩
theorem Uc(w:World)(B:Nat)(v:Value)(l:List UInt8)(x:Nat)(h:jd w B v l)(hB:B<=w.heap.size)(hl:l.length<=100000)(hx:x<=4294967295):Calls prog 137 #[v,.int .u32 (x:Int)] w λe w'=>∃v',e=.returned v'/\jd w' B v' (l++gu x 4)/\Below B w w'/\Lib.OthersKept 5 Option.none w w':=by
 obtain⟨i0,hi,ip,fS,gU⟩:=info_parts Tryz.qP;go_enter func137,ntmps137;go_wp2_with fail;refine(QJ _).mono ?_;rintro e w1⟨rfl,kK⟩;rw[kK];clear kK;go_wp2;go_loopw[0,7](λvv vi wr=>∃k:Nat,vi=.int .i64 (k:Int)/\k<=4/\jd wr B vv (l++gu x k)/\Below B w wr/\Lib.OthersKept 5 Option.none w wr)(λ_ vi _=>4-(intOf vi).toNat)
 case atStart=>exact⟨0,rfl,by omega,by simpa[gu]using h,Below.refl _ _,Lib.OthersKept.refl _ _ _⟩
 case round=>clear h;obtain⟨k,rfl,hk,bp,bF,nj⟩:=hrel;by_cases di:k<4;{(have fJ:(k:Int)<4:=by omega);have dU:=bF.size;(have Eo:(l++gu x k).length=l.length+k:=by simp[eK]);have HB:=hid (Nl x k);go_wp2_with(at_builtin;refine wpList_append_own _ rfl _ _ 72 rfl B 5 i0 (.int .u8 0) 1 1 underlying72 hi ip fS gU rfl (by decide) _ _ _ rfl (bp.row.alloc _) ⟨wr.heap.size,0,none⟩ 1 1 [.int .u8 ((x:Int)/2^(8*k)%256)] rfl rfl ?c1 ?c2 ?c3 ?c4 ?c5 ?_);(case c1=>exact cell_one_new _ _ _);(case c2=>intro u hu;simp at hu;subst hu;rfl);(case c3=>unfold maxLen;omega);(case c4=>omega);(case c5=>simp;omega);{intro v' w1 cF bG oU;(have hr:jd w1 B v' (l++gu x (k+1)):=by refine⟨?_⟩;rw[HB.out]at cF;(have e1:jQ (l++gu x (k+1))=jQ (l++gu x k)++[.int .u8 ((UInt8.ofNat (x/256^k%256)).toNat:Int)]:=by simp[gu,jQ]);(have e2:(l++gu x (k+1)).length=(l++gu x k).length+1:=by simp[eK];omega);rw[e1,e2,Eo];exact cF);have hb:Below B w w1:=(bF.alloc (by omega) _).grown bG (by simp;omega) (λq hq=>(bp.row.lt q hq).1);have DT:Lib.OthersKept 5 Option.none w w1:=(nj.alloc _).grown bG (λg hg=>by obtain⟨c,fz,h2⟩:=bp.kind g hg;exact⟨c,fz,(Below.heap_alloc _ _ _ (aO.1 h2).1).trans h2⟩);clear cF bG bp bF nj oU HB;go_wp2;go_roundw;(case rel=>exact⟨k+1,by simp,by omega,hr,hb,DT⟩);case measure=>simp[intOf];omega}};{(have fJ:¬(k:Int)<4:=by omega);(obtain rfl:k=4:=by omega);go_wp2;go_ret;exact⟨_,rfl,bp,bF,nj⟩}
theorem QK(w:World):Calls prog 175 #[] w λe w'=>e=.returned (.int .i64 2)/\w'=w:=by
 have hm:bits BinOp.xor IntKind.u16 IntKind.u16.max 0=65535:=by kernel_rfl
 have hl:Lib.bitLen 65535=16:=by decide
 go_enter func175,ntmps175;go_wp2_with fail;refine(bits_Len64 65535 _ (by omega) (by omega)).mono ?_;rintro e w1⟨rfl,rfl⟩;go_wp2;go_ret;exact⟨by simp,rfl⟩
theorem yT(w:World)(B:Nat)(v:Value)(l:List UInt8)(x:Nat)(h:jd w B v l)(hB:B<=w.heap.size)(hl:l.length<=100000)(hx:x<=65535):Calls prog 140 #[v,.int .u16 (x:Int)] w λe w'=>∃v',e=.returned v'/\jd w' B v' (l++gu x 2)/\Below B w w'/\Lib.OthersKept 5 Option.none w w':=by
 obtain⟨i0,hi,ip,fS,gU⟩:=info_parts Tryz.qP;go_enter func140,ntmps140;go_wp2_with fail;refine(QK _).mono ?_;rintro e w1⟨rfl,kK⟩;rw[kK];clear kK;go_wp2;go_loopw[0,7](λvv vi wr=>∃k:Nat,vi=.int .i64 (k:Int)/\k<=2/\jd wr B vv (l++gu x k)/\Below B w wr/\Lib.OthersKept 5 Option.none w wr)(λ_ vi _=>2-(intOf vi).toNat)
 case atStart=>exact⟨0,rfl,by omega,by simpa[gu]using h,Below.refl _ _,Lib.OthersKept.refl _ _ _⟩
 case round=>clear h;obtain⟨k,rfl,hk,bp,bF,nj⟩:=hrel;by_cases di:k<2;{(have fJ:(k:Int)<2:=by omega);have dU:=bF.size;(have Eo:(l++gu x k).length=l.length+k:=by simp[eK]);have HB:=hid (Nl x k);go_wp2_with(at_builtin;refine wpList_append_own _ rfl _ _ 72 rfl B 5 i0 (.int .u8 0) 1 1 underlying72 hi ip fS gU rfl (by decide) _ _ _ rfl (bp.row.alloc _) ⟨wr.heap.size,0,none⟩ 1 1 [.int .u8 ((x:Int)/2^(8*k)%256)] rfl rfl ?c1 ?c2 ?c3 ?c4 ?c5 ?_);(case c1=>exact cell_one_new _ _ _);(case c2=>intro u hu;simp at hu;subst hu;rfl);(case c3=>unfold maxLen;omega);(case c4=>omega);(case c5=>simp;omega);{intro v' w1 cF bG oU;(have hr:jd w1 B v' (l++gu x (k+1)):=by refine⟨?_⟩;rw[HB.out]at cF;(have e1:jQ (l++gu x (k+1))=jQ (l++gu x k)++[.int .u8 ((UInt8.ofNat (x/256^k%256)).toNat:Int)]:=by simp[gu,jQ]);(have e2:(l++gu x (k+1)).length=(l++gu x k).length+1:=by simp[eK];omega);rw[e1,e2,Eo];exact cF);have hb:Below B w w1:=(bF.alloc (by omega) _).grown bG (by simp;omega) (λq hq=>(bp.row.lt q hq).1);have DT:Lib.OthersKept 5 Option.none w w1:=(nj.alloc _).grown bG (λg hg=>by obtain⟨c,fz,h2⟩:=bp.kind g hg;exact⟨c,fz,(Below.heap_alloc _ _ _ (aO.1 h2).1).trans h2⟩);clear cF bG bp bF nj oU HB;go_wp2;go_roundw;(case rel=>exact⟨k+1,by simp,by omega,hr,hb,DT⟩);case measure=>simp[intOf];omega}};{(have fJ:¬(k:Int)<2:=by omega);(obtain rfl:k=2:=by omega);go_wp2;go_ret;exact⟨_,rfl,bp,bF,nj⟩}
theorem XO(w:World):Calls prog 174 #[] w λe w'=>e=.returned (.int .i64 1)/\w'=w:=by
 have hm:bits BinOp.xor IntKind.u8 IntKind.u8.max 0=255:=by kernel_rfl
 have hl:Lib.bitLen 255=8:=by decide
 go_enter func174,ntmps174;go_wp2_with fail;refine(bits_Len64 255 _ (by omega) (by omega)).mono ?_;rintro e w1⟨rfl,rfl⟩;go_wp2;go_ret;exact⟨by simp,rfl⟩
theorem TM{h b i:Nat}(hh:h<4294967296)(hb:b<256):(bits BinOp.and IntKind.u32 (bits BinOp.xor IntKind.u32 (h:Int) ((b:Int)/2^i)) 1==1)=decide ((b>>>i+h)%2=1):=by
 have e1:((b:Int)/2^i)=((b/2^i:Nat):Int):=by simp
 have di:b/2^i<4294967296:=dF (l5 _ _) (by omega);have hx:h^^^(b/2^i)<2^32:=afj hh di;rw[e1,u32_xor_nat _ _ hh di,show(1:Int)=((1:Nat):Int)from rfl,u32_and_nat _ _ hx (by omega),G4,iJ]
 rw[dz,kO,fT];have:=@Nat.xor_mod_two_eq_one h (b/2^i);constructor;{intro h1;(have h2:(h^^^b/2^i)%2=1:=by omega);have h3:=this.1 h2;omega};{intro h1;have h3:(h^^^b/2^i)%2=1:=this.2 (by omega);omega}
theorem Fg{s:Nat}(hs:s<4294967296):bits BinOp.xor IntKind.u32 IntKind.u32.max (s:Int)=((fY s:Nat):Int):=by rw[show IntKind.u32.max=((4294967295:Nat):Int)from by kernel_rfl,u32_xor_nat _ _ (by omega) hs,Nat.xor_comm,Jk hs]
theorem Ni{h:Nat}(hh:h<4294967296):bits BinOp.xor IntKind.u32 ((h:Int)/2) 3988292384=((((h>>>1)^^^3988292384:Nat)):Int):=by
 have e:((h:Int)/2)=((h/2:Nat):Int):=by omega
 have e2:h>>>1=h/2:=by rw[iJ]
 have:=u32_xor_nat (h/2) 3988292384 (by omega) (by omega);rw[e,e2];exact this
theorem BR(s:Nat):fY s<4294967296:=by unfold fY;omega
theorem Cj(w:World)(s:Nat)(b:UInt8)(hs:s<4294967296):Calls prog 173 #[.int .u32 (s:Int),.int .u8 (b.toNat:Int)] w λe w'=>e=.returned (.int .u32 ((fY (kZ (fY s) b.toNat 8):Nat):Int))/\w'=w:=by
 have hf:=Fg hs;have OX:=Fg (vz (b:=b.toNat) (BR s) 8);have HF:=hid (λk=>vz (b:=b.toNat) (BR s) k);go_enter func173,ntmps173;go_wp2;go_loop[5,10](λvh vi=>∃k:Nat,vi=.int .i64 (k:Int)/\k<=8/\vh=.int .u32 ((kZ (fY s) b.toNat k:Nat):Int))(λ_ vi=>8-(intOf vi).toNat)
 case atStart=>exact⟨0,rfl,by omega,rfl⟩
 case round=>obtain⟨k,rfl,hk,rfl⟩:=hrel;by_cases di:k<8;{(have fJ:(k:Int)<8:=by omega);have hH:=HF.out k;have HS:Hid (kZ (fY s) b.toNat (k+1)=tN (kZ (fY s) b.toNat k) b.toNat k):=rfl;generalize kZ (fY s) b.toNat k=H at*;have ht:=TM (i:=k) hH b.toNat_lt;have hx:=Ni hH;have oy:b.toNat<256:=b.toNat_lt;clear hf OX HF;by_cases hc:(b.toNat>>>k+H)%2=1;{have HE:Hid (tN H b.toNat k=(H>>>1)^^^3988292384):=au hc;rw[eY hc]at ht;go_wp2;{go_round;(case rel=>exact⟨k+1,by simp,by omega,by rw[HS.out,HE.out]⟩);case measure=>simp[intOf];omega}};{have HE:Hid (tN H b.toNat k=H>>>1):=ai hc;rw[dH hc]at ht;go_wp2;{go_round;(case rel=>exact⟨k+1,by simp,by omega,by rw[HS.out,HE.out,iJ];simp⟩);case measure=>simp[intOf];omega}}};{(have fJ:¬(k:Int)<8:=by omega);(obtain rfl:k=8:=by omega);go_wp2;go_ret;exact⟨rfl,rfl⟩}
def PY(w:World)(a:Option Addr)(l:List UInt8):Prop:=∀k x,l[k]?=some x->∃g,a=some ⟨g,0,none⟩/\w.cell? ⟨g,k,none⟩=some (.int .u8 (x.toNat:Int))
theorem jd.shape{w:World}{B:Nat}{v:Value}{l:List UInt8}(h:jd w B v l):∃a cap,v=.slice a l.length cap/\l.length<=cap/\cap<=maxLen/\PY w a l:=by
 obtain⟨h0,⟨h1,h2⟩|⟨g,cap,cE,rfl,_,h2,h3,h4,h5,h6⟩⟩:=h.row;{have:l=[]:=eJ h2;subst this;exact⟨none,0,h1,by simp,ap _,λk x hx=>by simp at hx⟩};{
 refine⟨some ⟨g,0,none⟩,cap,rfl,h3,h4,λk x hx=>⟨g,rfl,?_⟩⟩;have hk:k<l.length:=(ar.1 hx).1;have h7:(cE.toList.take (l.length*1))[k]?=(jQ l)[k]?:=by rw[h6]
 rw[dC,au (by omega)]at h7;have h8:(jQ l)[k]?=some (.int .u8 (x.toNat:Int)):=by simp[jQ,hx]
 rw[h8]at h7;simp[World.cell?,h2];simpa using h7}
theorem NW(w:World)(B:Nat)(v:Value)(l:List UInt8)(h:jd w B v l):Calls prog 138 #[v] w λe w'=>e=.returned (.int .u32 ((hZ l:Nat):Int))/\w'=w:=by
 obtain⟨a,cap,rfl,iF,Wy,LG⟩:=h.shape;unfold maxLen at Wy;go_enter func138,ntmps138;go_wp2;go_loop[3,8](λvs vi=>∃k S:Nat,vi=.int .i64 (k:Int)/\k<=l.length/\vs=.int .u32 (S:Int)/\S<4294967296/\Hid (S=hZ (l.take k)))(λ_ vi=>l.length-(intOf vi).toNat)
 case atStart=>exact⟨0,0,rfl,by omega,rfl,by omega,by rw[gW];exact Hk.symm⟩
 case round=>obtain⟨k,S,rfl,hk,rfl,BK,EA⟩:=hrel;by_cases di:k<l.length;{(have fJ:(k:Int)<l.length:=by omega);obtain⟨x,hx⟩:∃x,l[k]?=some x:=⟨l[k],by simp[di]⟩;obtain⟨g,rfl,hc⟩:=LG k x hx;have j9:=Cj w S x BK;(have HS:Hid (fY (kZ (fY S) x.toNat 8)=hZ (l.take (k+1))):=by show _=_;rw[EA.out,dw,hx];exact(EN _ _).symm);have pJ:fY (kZ (fY S) x.toNat 8)<4294967296:=BR _;generalize fY (kZ (fY S) x.toNat 8)=S' at*;clear hx LG EA;go_wp2_with fail;refine j9.mono ?_;rintro e w1⟨rfl,kK⟩;rw[kK];clear kK j9;go_wp2;go_round;(case rel=>exact⟨k+1,S',by simp,by omega,rfl,pJ,HS⟩);case measure=>simp[intOf];omega};{(have fJ:¬(k:Int)<l.length:=by omega);(obtain rfl:k=l.length:=by omega);(have xU:Hid (S=hZ l):=by have:=EA.out;rw[dx]at this;exact this);clear EA;go_wp2;go_ret;exact⟨by rw[<-xU.out];rfl,rfl⟩}
theorem Ci(w:World)(B:Nat)(v:Value)(l:List UInt8)(h:jd w B v l)(hB:B<=w.heap.size)(hl:l.length<=50000):Calls prog 104 #[v] w λe w'=>∃v',e=.returned v'/\jd w' B v' (l++gu (hZ l) 4)/\Below B w w'/\Lib.OthersKept 5 Option.none w w':=by
 have BK:=yh l;go_enter func104,ntmps104;go_wp2_with fail;refine(NW _ B v l h).mono ?_;rintro e w1⟨rfl,kK⟩;rw[kK];clear kK;go_wp2_with fail;refine(Uc _ B v l (hZ l) h hB (by omega) (by omega)).mono ?_
 rintro e w1⟨v',rfl,h1,h2,h3⟩;go_wp2;go_ret;exact⟨v',rfl,h1,h2,h3⟩
end Go.Proofs.YthdcceackfdbbaaGreatDoor
