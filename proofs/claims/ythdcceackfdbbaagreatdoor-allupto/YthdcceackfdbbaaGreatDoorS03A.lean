import Derived.Test.YthdcceackfdbbaaGreatDoorS02A
set_option linter.unusedSimpArgs false
set_option maxRecDepth 20000
set_option maxHeartbeats 1000000
open Go.RowKit Go.Proofs.Tryz
namespace Go.Proofs.YthdcceackfdbbaaGreatDoor
def fp:List UInt8->Nat|[]=>0|b::r=>b.toNat+256*fp r
theorem oN:∀l,fp l<256^l.length|[]=>by simp[fp]|b::r=>by have h1:=oN r;have h2:=b.toNat_lt;simp only[fp,aU,aT];omega
theorem rG:∀(l:List UInt8)(b:UInt8),fp (l++[b])=fp l+b.toNat*256^l.length|[],b=>by simp[fp]|c::r,b=>by have:=rG r b;simp only[cv,fp,this,aU,aT];rw[cG,kH 256 b.toNat,ay 256 (256^r.length),dO]
theorem FR{a b k:Nat}(h:a<2^k):a|||(b*2^k)=a+b*2^k:=by rw[ay b,fU,adj];exact(Nat.two_pow_add_eq_or_of_lt h b).symm
def gc(w:World)(g off:Nat)(l:List UInt8):Prop:=∀k x,l[k]?=some x->w.cell? ⟨g,off+k,none⟩=some (.int .u8 (x.toNat:Int))
theorem Pu{l:List UInt8}{i:Nat}{x:UInt8}(hx:l[i]?=some x)(hi:i<1):bits .or .u8 (fp (l.take i):Int) ((x.toNat:Int)*2^(8*i)%256)=(fp (l.take (i+1)):Int):=by
 have h2:=x.toNat_lt;have hil:i<l.length:=(ar.1 hx).1;have Bg:2^(8*i)=256^i:=by rw[fD]
 have h4:fp (l.take i)<2^(8*i):=by have:=oN (l.take i);rw[bE,gx (by omega)]at this;rw[Bg];exact this
 have h5:2^(8*i)*256<=256:=by have:2^(8*i)<=2^0:=aF (by omega) (by omega);(have e:(2:Nat)^0*256=256:=by decide);omega
 have h3:x.toNat*2^(8*i)<256:=by have:x.toNat*2^(8*i)<256*2^(8*i):=dy h2 (Bu _);omega
 have e2:(x.toNat:Int)*2^(8*i)=((x.toNat*2^(8*i):Nat):Int):=by simp
 have e3:((x.toNat*2^(8*i):Nat):Int)%256=((x.toNat*2^(8*i):Nat):Int):=by omega
 rw[e2,e3,u8_or_nat _ _ (by omega) h3,FR h4,dw,hx,iU,rG,bE,gx (by omega),Bg]
theorem TL(w:World)(g off cap:Nat)(l:List UInt8)(h:gc w g off l)(hl:1<=l.length)(iF:l.length<=cap)(hm:cap<=9223372036854775807):Calls prog 183 #[.slice (some ⟨g,off,none⟩) l.length cap] w λe w'=>e=.returned (.tuple #[.int .u8 (fp (l.take 1):Int),.slice (if cap=1 then some ⟨g,off,none⟩else some ⟨g,off+1,none⟩) (l.length-1) (cap-1)])/\∃m,w'=w.drewN m:=by
 have HB:=hid h;clear h;obtain⟨n,hn⟩:∃n,l.length=n:=⟨_,rfl⟩;rw[hn]at hl iF⊢;go_enter func183,ntmps183;go_wp2_with fail;refine(XO _).mono ?_;rintro e w1⟨rfl,kK⟩;rw[kK]
 clear kK;go_wp2;go_loopw[2,8](λvx vi wr=>∃i:Nat,vi=.int .i64 (i:Int)/\i<=1/\vx=.int .u8 (fp (l.take i):Int)/\wr=w)(λ_ vi _=>1-(intOf vi).toNat);case atStart=>exact⟨0,rfl,by omega,rfl,rfl⟩
 case round=>obtain⟨i,rfl,hi,rfl,rfl⟩:=hrel;by_cases di:i<1;{(have fJ:(i:Int)<1:=by omega);(have pJ:(i:Int)<n:=by omega);obtain⟨x,hx⟩:∃x,l[i]?=some x:=⟨l[i]'(by omega),by simp⟩;have hc:=HB.out i x hx;have HX:=hid hx;clear hx;go_wp2;refine⟨⟨i+1,by simp,by omega,?_,trivial⟩,by simp[intOf];omega⟩;rw[Pu HX.out di]};{(have fJ:¬(i:Int)<1:=by omega);(obtain rfl:i=1:=by omega);(have h8:¬((n:Int)<1):=by omega);go_wp2;go_quiet(fail);go_wp2;all_goals(go_ret2;exact⟨rfl,_,rfl⟩)}
theorem LZ{l:List UInt8}{i:Nat}{x:UInt8}(hx:l[i]?=some x)(hi:i<2):bits .or .u16 (fp (l.take i):Int) (IntKind.u16.wrap ((IntKind.u16.wrap (x.toNat:Int))*2^(8*i)))=(fp (l.take (i+1)):Int):=by
 have h2:=x.toNat_lt;have hil:i<l.length:=(ar.1 hx).1;have Bg:2^(8*i)=256^i:=by rw[fD]
 have h4:fp (l.take i)<2^(8*i):=by have:=oN (l.take i);rw[bE,gx (by omega)]at this;rw[Bg];exact this
 have h5:2^(8*i)*256<=65536:=by have:2^(8*i)<=2^8:=aF (by omega) (by omega);(have e:(2:Nat)^8*256=65536:=by decide);omega
 have h3:x.toNat*2^(8*i)<65536:=by have:x.toNat*2^(8*i)<256*2^(8*i):=dy h2 (Bu _);omega
 have e1:IntKind.u16.wrap (x.toNat:Int)=(x.toNat:Int):=by rw[IntKind.wrap_u16];omega
 rw[e1];have e2:(x.toNat:Int)*2^(8*i)=((x.toNat*2^(8*i):Nat):Int):=by simp
 have e3:IntKind.u16.wrap ((x.toNat*2^(8*i):Nat):Int)=((x.toNat*2^(8*i):Nat):Int):=by rw[IntKind.wrap_u16];omega
 rw[e2,e3,u16_or_nat _ _ (by omega) h3,FR h4,dw,hx,iU,rG,bE,gx (by omega),Bg]
theorem Fl(w:World)(g off cap:Nat)(l:List UInt8)(h:gc w g off l)(hl:2<=l.length)(iF:l.length<=cap)(hm:cap<=9223372036854775807):Calls prog 184 #[.slice (some ⟨g,off,none⟩) l.length cap] w λe w'=>e=.returned (.tuple #[.int .u16 (fp (l.take 2):Int),.slice (if cap=2 then some ⟨g,off,none⟩else some ⟨g,off+2,none⟩) (l.length-2) (cap-2)])/\∃m,w'=w.drewN m:=by
 have HB:=hid h;clear h;obtain⟨n,hn⟩:∃n,l.length=n:=⟨_,rfl⟩;rw[hn]at hl iF⊢;go_enter func184,ntmps184;go_wp2_with fail;refine(QK _).mono ?_;rintro e w1⟨rfl,kK⟩;rw[kK]
 clear kK;go_wp2;go_loopw[2,8](λvx vi wr=>∃i:Nat,vi=.int .i64 (i:Int)/\i<=2/\vx=.int .u16 (fp (l.take i):Int)/\wr=w)(λ_ vi _=>2-(intOf vi).toNat);case atStart=>exact⟨0,rfl,by omega,rfl,rfl⟩
 case round=>obtain⟨i,rfl,hi,rfl,rfl⟩:=hrel;by_cases di:i<2;{(have fJ:(i:Int)<2:=by omega);(have pJ:(i:Int)<n:=by omega);obtain⟨x,hx⟩:∃x,l[i]?=some x:=⟨l[i]'(by omega),by simp⟩;have hc:=HB.out i x hx;have HX:=hid hx;clear hx;go_wp2;refine⟨⟨i+1,by simp,by omega,?_,trivial⟩,by simp[intOf];omega⟩;rw[LZ HX.out di]};{(have fJ:¬(i:Int)<2:=by omega);(obtain rfl:i=2:=by omega);(have h8:¬((n:Int)<2):=by omega);go_wp2;go_quiet(fail);go_wp2;all_goals(go_ret2;exact⟨rfl,_,rfl⟩)}
theorem LY{l:List UInt8}{i:Nat}{x:UInt8}(hx:l[i]?=some x)(hi:i<4):bits .or .u32 (fp (l.take i):Int) ((x.toNat:Int)%4294967296*2^(8*i)%4294967296)=(fp (l.take (i+1)):Int):=by
 have h2:=x.toNat_lt;have hil:i<l.length:=(ar.1 hx).1;have Bg:2^(8*i)=256^i:=by rw[fD]
 have h4:fp (l.take i)<2^(8*i):=by have:=oN (l.take i);rw[bE,gx (by omega)]at this;rw[Bg];exact this
 have h5:2^(8*i)*256<=4294967296:=by have:2^(8*i)<=2^24:=aF (by omega) (by omega);(have e:(2:Nat)^24*256=4294967296:=by decide);omega
 have h3:x.toNat*2^(8*i)<4294967296:=by have:x.toNat*2^(8*i)<256*2^(8*i):=dy h2 (Bu _);omega
 have e1:(x.toNat:Int)%4294967296=(x.toNat:Int):=by omega
 rw[e1];have e2:(x.toNat:Int)*2^(8*i)=((x.toNat*2^(8*i):Nat):Int):=by simp
 have e3:((x.toNat*2^(8*i):Nat):Int)%4294967296=((x.toNat*2^(8*i):Nat):Int):=by omega
 rw[e2,e3,u32_or_nat _ _ (by omega) h3,FR h4,dw,hx,iU,rG,bE,gx (by omega),Bg]
theorem Pw(w:World)(g off cap:Nat)(l:List UInt8)(h:gc w g off l)(hl:4<=l.length)(iF:l.length<=cap)(hm:cap<=9223372036854775807):Calls prog 215 #[.slice (some ⟨g,off,none⟩) l.length cap] w λe w'=>e=.returned (.tuple #[.int .u32 (fp (l.take 4):Int),.slice (if cap=4 then some ⟨g,off,none⟩else some ⟨g,off+4,none⟩) (l.length-4) (cap-4)])/\∃m,w'=w.drewN m:=by
 have HB:=hid h;clear h;obtain⟨n,hn⟩:∃n,l.length=n:=⟨_,rfl⟩;rw[hn]at hl iF⊢;go_enter func215,ntmps215;go_wp2_with fail;refine(QJ _).mono ?_;rintro e w1⟨rfl,kK⟩;rw[kK]
 clear kK;go_wp2;go_loopw[2,8](λvx vi wr=>∃i:Nat,vi=.int .i64 (i:Int)/\i<=4/\vx=.int .u32 (fp (l.take i):Int)/\wr=w)(λ_ vi _=>4-(intOf vi).toNat);case atStart=>exact⟨0,rfl,by omega,rfl,rfl⟩
 case round=>obtain⟨i,rfl,hi,rfl,rfl⟩:=hrel;by_cases di:i<4;{(have fJ:(i:Int)<4:=by omega);(have pJ:(i:Int)<n:=by omega);obtain⟨x,hx⟩:∃x,l[i]?=some x:=⟨l[i]'(by omega),by simp⟩;have hc:=HB.out i x hx;have HX:=hid hx;clear hx;go_wp2;refine⟨⟨i+1,by simp,by omega,?_,trivial⟩,by simp[intOf];omega⟩;rw[LY HX.out di]};{(have fJ:¬(i:Int)<4:=by omega);(obtain rfl:i=4:=by omega);(have h8:¬((n:Int)<4):=by omega);go_wp2;go_quiet(fail);go_wp2;all_goals(go_ret2;exact⟨rfl,_,rfl⟩)}
theorem LX{l:List UInt8}{i:Nat}{x:UInt8}(hx:l[i]?=some x)(hi:i<8):bits .or .u64 (fp (l.take i):Int) (IntKind.u64.wrap ((IntKind.u64.wrap (x.toNat:Int))*2^(8*i)))=(fp (l.take (i+1)):Int):=by
 have h2:=x.toNat_lt;have hil:i<l.length:=(ar.1 hx).1;have Bg:2^(8*i)=256^i:=by rw[fD]
 have h4:fp (l.take i)<2^(8*i):=by have:=oN (l.take i);rw[bE,gx (by omega)]at this;rw[Bg];exact this
 have h5:2^(8*i)*256<=18446744073709551616:=by have:2^(8*i)<=2^56:=aF (by omega) (by omega);(have e:(2:Nat)^56*256=18446744073709551616:=by decide);omega
 have h3:x.toNat*2^(8*i)<18446744073709551616:=by have:x.toNat*2^(8*i)<256*2^(8*i):=dy h2 (Bu _);omega
 have e1:IntKind.u64.wrap (x.toNat:Int)=(x.toNat:Int):=by rw[IntKind.wrap_u64];omega
 rw[e1];have e2:(x.toNat:Int)*2^(8*i)=((x.toNat*2^(8*i):Nat):Int):=by simp
 have e3:IntKind.u64.wrap ((x.toNat*2^(8*i):Nat):Int)=((x.toNat*2^(8*i):Nat):Int):=by rw[IntKind.wrap_u64];omega
 rw[e2,e3,u64_or_nat _ _ (by omega) h3,FR h4,dw,hx,iU,rG,bE,gx (by omega),Bg]
theorem Pv(w:World)(g off cap:Nat)(l:List UInt8)(h:gc w g off l)(hl:8<=l.length)(iF:l.length<=cap)(hm:cap<=9223372036854775807):Calls prog 236 #[.slice (some ⟨g,off,none⟩) l.length cap] w λe w'=>e=.returned (.tuple #[.int .u64 (fp (l.take 8):Int),.slice (if cap=8 then some ⟨g,off,none⟩else some ⟨g,off+8,none⟩) (l.length-8) (cap-8)])/\∃m,w'=w.drewN m:=by
 have HB:=hid h;clear h;obtain⟨n,hn⟩:∃n,l.length=n:=⟨_,rfl⟩;rw[hn]at hl iF⊢;go_enter func236,ntmps236;go_wp2_with fail;refine(QI _).mono ?_;rintro e w1⟨rfl,kK⟩;rw[kK]
 clear kK;go_wp2;go_loopw[2,8](λvx vi wr=>∃i:Nat,vi=.int .i64 (i:Int)/\i<=8/\vx=.int .u64 (fp (l.take i):Int)/\wr=w)(λ_ vi _=>8-(intOf vi).toNat);case atStart=>exact⟨0,rfl,by omega,rfl,rfl⟩
 case round=>obtain⟨i,rfl,hi,rfl,rfl⟩:=hrel;by_cases di:i<8;{(have fJ:(i:Int)<8:=by omega);(have pJ:(i:Int)<n:=by omega);obtain⟨x,hx⟩:∃x,l[i]?=some x:=⟨l[i]'(by omega),by simp⟩;have hc:=HB.out i x hx;have HX:=hid hx;clear hx;go_wp2;refine⟨⟨i+1,by simp,by omega,?_,trivial⟩,by simp[intOf];omega⟩;rw[LX HX.out di]};{(have fJ:¬(i:Int)<8:=by omega);(obtain rfl:i=8:=by omega);(have h8:¬((n:Int)<8):=by omega);go_wp2;go_quiet(fail);go_wp2;all_goals(go_ret2;exact⟨rfl,_,rfl⟩)}
structure Kept(S:Nat->Prop)(w w':World):Prop where
 os:w'.os=w.os
 tape:w'.tape=w.tape
 output:w'.output=w.output
 size:w.heap.size<=w'.heap.size
 block:∀k,k<w.heap.size->¬S k->w'.heap[k]?=w.heap[k]?
def wJ(S:Nat->Prop)(w w':World):Nat->Prop:=λk=>S k\/(w.heap.size<=k/\k<w'.heap.size)
theorem Kept.refl(S:Nat->Prop)(w:World):Kept S w w:=⟨rfl,rfl,rfl,aj _,λ_ _ _=>rfl⟩
theorem Kept.trans{S T:Nat->Prop}{w w1 w2:World}(h:Kept S w w1)(k:Kept T w1 w2)(hT:∀q,T q->S q\/w.heap.size<=q):Kept S w w2:=⟨k.os.trans h.os,k.tape.trans h.tape,k.output.trans h.output,ak h.size k.size,λq hq hs=>(k.block q (ax hq h.size) (λht=>by rcases hT q ht with h1|h1;{exact hs h1};omega)).trans (h.block q hq hs)⟩
theorem Kept.mono{S T:Nat->Prop}{w w':World}(h:Kept S w w')(hT:∀q,S q->T q):Kept T w w':=⟨h.os,h.tape,h.output,h.size,λq hq hs=>h.block q hq (λht=>hs (hT q ht))⟩
theorem Kept.cK{S:Nat->Prop}{w w':World}(h:Below w.heap.size w w'):Kept S w w':=⟨h.os,h.tape,h.output,h.size,λq hq _=>h.block q hq⟩
theorem Kept.below{B:Nat}{S:Nat->Prop}{w w':World}(h:Kept S w w')(hS:∀q,S q->B<=q)(hB:B<=w.heap.size):Below B w w':=⟨h.os,h.tape,h.output,h.size,λq hq=>h.block q (by omega) (λhs=>by have:=hS q hs;omega)⟩
theorem Kept.grown{S:Nat->Prop}{w w':World}{row:Option Nat}(h:w.grownBy w' row)(hr:∀k,row=some k->S k):Kept S w w':=⟨h.os,h.tape,h.output,h.size,λk hk hs=>h.block k hk (λe=>hs (hr k e.symm))⟩
theorem Kept.set{S:Nat->Prop}{w:World}{b j:Nat}(hb:S b)(v:Value):Kept S w (w.setCell ⟨b,j,none⟩ v):=⟨rfl,rfl,rfl,by simp[World.setCell],λk _ hs=>Below.heap_setCell _ _ _ _ (λe=>hs (by have e':k=b:=e;rw[e'];exact hb))⟩
theorem Kept.drewN{S:Nat->Prop}{w:World}(n:Nat):Kept S w (w.drewN n):=⟨rfl,rfl,rfl,aj _,λ_ _ _=>rfl⟩
theorem Kept.arr{S:Nat->Prop}{w w':World}{g:Nat}{t:TypeId}{l:List Value}(h:Kept S w w')(ha:aD w g t l)(hg:¬S g):aD w' g t l:=(h.block g ha.lt hg).trans ha
structure cL(w:World)(S:Nat->Prop)(e:TypeId)(size:Nat)(v:Value)(n:Nat)(xs:List Value):Prop where
 row:w.ownsRow 0 e size v n xs
 own:∀g,v.ownBlock=some g->S g
theorem cL.nil(w:World)(S:Nat->Prop)(e:TypeId)(size:Nat):cL w S e size (.slice none 0 0) 0 []:=⟨World.ownsRow_nil _ _ _ _,λg h=>by cases h⟩
theorem cL.mono{w:World}{S T:Nat->Prop}{e:TypeId}{size:Nat}{v:Value}{n:Nat}{xs:List Value}(h:cL w S e size v n xs)(hT:∀q,S q->T q):cL w T e size v n xs:=⟨h.row,λg hg=>hT g (h.own g hg)⟩
theorem cL.keep{w w':World}{S:Nat->Prop}{e:TypeId}{size:Nat}{v:Value}{n:Nat}{xs:List Value}(h:cL w S e size v n xs)(hk:∀g,v.ownBlock=some g->w'.heap[g]?=w.heap[g]?):cL w' S e size v n xs:=by refine⟨?_,h.own⟩;obtain⟨h0,h1|⟨g,cap,cE,rfl,hB,h2,h3⟩⟩:=h.row;{exact⟨h0,.inl h1⟩};{exact⟨h0,.inr ⟨g,cap,cE,rfl,hB,(hk g rfl).trans h2,h3⟩⟩}
theorem cL.lt{w:World}{S:Nat->Prop}{e:TypeId}{size:Nat}{v:Value}{n:Nat}{xs:List Value}(h:cL w S e size v n xs)(g:Nat)(hg:v.ownBlock=some g):g<w.heap.size/\∃c,w.heap[g]?=some (.cells c e (0,0)):=by obtain⟨h0,h1|⟨g',cap,cE,rfl,hB,h2,h3⟩⟩:=h.row;{rw[h1.1]at hg;cases hg};{obtain rfl:g'=g:=cI hg;exact⟨(aO.1 h2).1,cE,h2⟩}
theorem cL.below{w w':World}{S:Nat->Prop}{e:TypeId}{size:Nat}{v:Value}{n:Nat}{xs:List Value}(h:cL w S e size v n xs)(b:Below w.heap.size w w'):cL w' S e size v n xs:=h.keep (λg hg=>b.block g (h.lt g hg).1)
theorem cL.set{w:World}{S:Nat->Prop}{e:TypeId}{size:Nat}{v:Value}{n:Nat}{xs:List Value}(h:cL w S e size v n xs){b j:Nat}{t:TypeId}{c:List Value}(ha:aD w b t c)(ht:t≠e)(u:Value):cL (w.setCell ⟨b,j,none⟩ u) S e size v n xs:=h.keep (λg hg=>Below.heap_setCell _ _ _ _ (λe'=>by have e':g=b:=e';obtain⟨_,c',hc⟩:=h.lt g hg;rw[e',show w.heap[b]?=_ from ha]at hc;cases hc;exact ht rfl))
theorem cL.shape{w:World}{S:Nat->Prop}{e:TypeId}{size:Nat}{v:Value}{n:Nat}{xs:List Value}(h:cL w S e size v n xs):∃a cap,v=.slice a n cap/\n<=cap/\cap<=maxLen:=by obtain⟨h0,⟨h1,h2⟩|⟨g,cap,cE,rfl,_,h2,h3,h4,_⟩⟩:=h.row;{exact⟨none,0,by rw[h1,h2],by omega,ap _⟩};{exact⟨_,cap,rfl,h3,h4⟩}
theorem ua{P:Program}(w:World)(t ty e:TypeId)(i:TypeInfo)(z:Value)(size bytes:Nat)(ht:P.underlying t=some (.slice e))(hi:P.info? e=some i)(hz:i.zero=some z)(E5:i.size=size)(Tb:i.bytes=bytes)(hzs:z.cells.size=size)(dU:0<size)(v:Value)(n:Nat)(xs:List Value)(bp:w.ownsRow 0 e size v n xs)(a:Addr)(m c:Nat)(news:List Value)(hl:news.length=m*size)(uj:∀j u,news[j]?=some u->w.cell? (a.add j)=some u)(h1:∀u∈news,u.oneCell'=true)(h63:n+m<=maxLen)(oA:(n+m)*bytes<=140737488355328):∃v' w',(Builtin.append_ #[t,t] ty #[v,.slice (some a) m c]).run P w=.ok v' w'/\w'.ownsRow 0 e size v' (n+m) (xs++news)/\w.grownBy w' v.ownBlock/\(∀g,v'.ownBlock=some g->v.ownBlock=some g\/w.heap.size<=g):=by
 obtain⟨v',w',hr,h2,h3,h4⟩:=run_append_own (P:=P) w 0 t ty e i z size bytes ht hi hz E5 Tb hzs dU v n xs bp a m c news hl uj h1 h63 oA (ap _);refine⟨v',w',hr,h2,h3,?_⟩
 have new:∀Y8 Ha,(Builtin.append_ #[t,t] ty #[v,.slice (some a) m c]).run P w=.ok Y8 Ha->Ha.ownsRow w.heap.size e size Y8 (n+m) (xs++news)->∀g,v'.ownBlock=some g->w.heap.size<=g:=by intro Y8 Ha qR ho g hg;rw[hr]at qR;cases qR;obtain⟨_,⟨e1,_⟩|⟨g',cap,cE,rfl,hB,_⟩⟩:=ho;{rw[e1]at hg;cases hg};{obtain rfl:g'=g:=cI hg;exact hB}
 obtain⟨h0,⟨rfl,rfl⟩|⟨g,cap,cE,rfl,_,k2,k3,k4,k5,k6⟩⟩:=bp;{
 obtain rfl:xs=[]:=eJ (by simpa using h0);obtain⟨Y8,Ha,qR,ho,_⟩:=run_append_own (P:=P) w w.heap.size t ty e i z size bytes ht hi hz E5 Tb hzs dU (.slice none 0 0) 0 [] (World.ownsRow_nil w _ e size) a m c news hl uj h1 h63 oA (aj _)
 exactλg hg=>.inr (new Y8 Ha qR ho g hg)};{
 have ha:aD w g e cE.toList:=by unfold aD;rw[sO];exact k2
 by_cases X9:n+m<=cap;{
 subst E5;have BN:∀j,j<news.length->0+n*i.size+j<cE.toList.length:=λj hj=>by rw[FA,k5];have:(n+m)*i.size<=cap*i.size:=cR _ X9;rw[eI]at this;omega
 have abL:=run_append_room_cells (P:=P) w t ty e i ht hi g 0 n cap a m c news hl uj h1 X9 (λj hj=>by rw[ha.cell (cB (BN j hj))];rfl) (λj hj=>ha.frozen _);rw[hr]at abL
 cases abL;exactλg' U1=>.inl U1};{
 have zL:∀j u,xs[j]?=some u->w.cell? ((⟨g,0,none⟩:Addr).add j)=some u:=λj u hj=>by rw[Addr.add_lit];(have Er:j<n*size:=by have:=(ar.1 hj).1;omega);rw[<-k6,dC,au Er]at hj;have:=ha.cell hj;simpa using this
 obtain⟨Y8,Ha,qR,ho,_⟩:=run_append_arg_grows (P:=P) w t ty e i z size bytes ht hi hz E5 Tb hzs dU ⟨g,0,none⟩ n cap xs h0 zL a m c news hl uj (by omega) h63 oA;exactλg' U1=>.inr (new Y8 Ha qR ho g' U1)}}
theorem ik{P:Program}(w:World){ops:Array Oper}{rest:List Oper}{o:Oper}{a:Act}{Q:Exit->Act->World->Prop}(Lx:o.guard=none)(s x:Operand)(t:TypeId)(ho:o.op=.call {callee:=.builtin .append,args:=#[s,x],argTypes:=#[t,t]})(S:Nat->Prop)(e:TypeId)(i:TypeInfo)(z:Value)(size bytes:Nat)(ht:P.underlying t=some (.slice e))(hi:P.info? e=some i)(hz:i.zero=some z)(E5:i.size=size)(Tb:i.bytes=bytes)(hzs:z.cells.size=size)(dU:0<size)(v:Value)(n:Nat)(xs:List Value)(hs:a.eval s=v)(bp:cL w S e size v n xs)(ad:Addr)(m c:Nat)(news:List Value)(hx:a.eval x=.slice (some ad) m c)(hl:news.length=m*size)(uj:∀j u,news[j]?=some u->w.cell? (ad.add j)=some u)(h1:∀u∈news,u.oneCell'=true)(h63:n+m<=maxLen)(oA:(n+m)*bytes<=140737488355328)(h:∀v' w',cL w' (λq=>S q\/w.heap.size<=q) e size v' (n+m) (xs++news)->w.grownBy w' v.ownBlock->wpList P ops Q rest (a.put o.dst v') w'):wpList P ops Q (o::rest) a w:=by
 refine wpList_plain Lx λK hK=>?_;obtain⟨v',w',hr,h2,h3,h4⟩:=ua (P:=P) w t o.type e i z size bytes ht hi hz E5 Tb hzs dU v n xs bp.row ad m c news hl uj h1 h63 oA
 unfold Oper.wp execOp;simp only[ho,resolve,invoke,builtin,Sem.run_bind,Sem.run_pure,Result.andThen_ok,List.map_toArray,sK,uG,hs,hx,hr];exact hK _ _ (h v' w' ⟨h2,λg hg=>(h4 g hg).imp (bp.own g) id⟩ h3)
theorem cL.bytes{w:World}{S:Nat->Prop}{v:Value}{l:List UInt8}(h:cL w S 5 1 v l.length (jQ l)):∃ao cap,v=.slice ao l.length cap/\l.length<=cap/\cap<=9223372036854775807/\((ao=none/\l=[])\/∃g,ao=some ⟨g,0,none⟩/\gc w g 0 l):=by
 obtain⟨h0,⟨h1,h2⟩|⟨g,cap,cE,rfl,_,h2,h3,h4,h5,h6⟩⟩:=h.row;{have:l=[]:=eJ h2;subst this;exact⟨none,0,h1,by simp,by omega,.inl ⟨rfl,rfl⟩⟩};{
 refine⟨some ⟨g,0,none⟩,cap,rfl,h3,by unfold maxLen at h4;omega,.inr ⟨g,rfl,λk x hx=>?_⟩⟩;have hk:k<l.length:=(ar.1 hx).1;have h7:(cE.toList.take (l.length*1))[k]?=(jQ l)[k]?:=by rw[h6]
 rw[dC,au (by omega)]at h7;have h8:(jQ l)[k]?=some (.int .u8 (x.toNat:Int)):=by simp[jQ,hx]
 rw[h8]at h7;rw[cA];simp[World.cell?,h2];simpa using h7}
theorem gc.drewN{w:World}{g off:Nat}{l:List UInt8}(h:gc w g off l)(n:Nat):gc (w.drewN n) g off l:=h
theorem gc.take{w:World}{g off:Nat}{l:List UInt8}(h:gc w g off l)(n:Nat):gc w g off (l.take n):=λk x hx=>by rw[dC]at hx;split at hx;{exact h k x hx};{cases hx}
theorem gc.drop{w:World}{g off:Nat}{l:List UInt8}(h:gc w g off l)(n:Nat):gc w g (off+n) (l.drop n):=λk x hx=>by rw[ib]at hx;rw[dO];exact h (n+k) x hx
theorem Za(w:World)(g n cap:Nat)(l:List UInt8)(hn:l.length=n)(iF:n<=cap)(Wy:cap<=9223372036854775807)(LG:gc w g 0 l):Calls prog 138 #[.slice (some ⟨g,0,none⟩) n cap] w λe w'=>e=.returned (.int .u32 ((hZ l:Nat):Int))/\w'=w:=by
 have Vn:Hid (∀k x,l[k]?=some x->w.cell? ⟨g,k,none⟩=some (.int .u8 (x.toNat:Int))):=λk x hx=>by have:=LG k x hx;rw[cA]at this;exact this
 clear LG;go_enter func138,ntmps138;go_wp2;go_loop[3,8](λvs vi=>∃k S:Nat,vi=.int .i64 (k:Int)/\k<=n/\vs=.int .u32 (S:Int)/\S<4294967296/\Hid (S=hZ (l.take k)))(λ_ vi=>n-(intOf vi).toNat)
 case atStart=>exact⟨0,0,rfl,by omega,rfl,by omega,by rw[gW];exact Hk.symm⟩
 case round=>obtain⟨k,S,rfl,hk,rfl,BK,EA⟩:=hrel;by_cases di:k<n;{(have fJ:(k:Int)<n:=by omega);obtain⟨x,hx⟩:∃x,l[k]?=some x:=⟨l[k]'(by omega),by simp⟩;have hc:=Vn.out k x hx;have j9:=Cj w S x BK;(have HS:Hid (fY (kZ (fY S) x.toNat 8)=hZ (l.take (k+1))):=by show _=_;rw[EA.out,dw,hx];exact(EN _ _).symm);have pJ:fY (kZ (fY S) x.toNat 8)<4294967296:=BR _;generalize fY (kZ (fY S) x.toNat 8)=S' at*;clear hx EA;go_wp2_with fail;refine j9.mono ?_;rintro e w1⟨rfl,kK⟩;rw[kK];clear kK j9;go_wp2;go_round;(case rel=>exact⟨k+1,S',by simp,by omega,rfl,pJ,HS⟩);case measure=>simp[intOf];omega};{(have fJ:¬(k:Int)<n:=by omega);(obtain rfl:k=n:=by omega);(have xU:Hid (S=hZ l):=by have:=EA.out;rw[<-hn,dx]at this;exact this);clear EA;go_wp2;go_ret;exact⟨by rw[<-xU.out];rfl,rfl⟩}
def kT(l:List UInt8):Bool:=decide (fp (l.drop (l.length-4))=hZ (l.take (l.length-4)))
theorem Dn(w:World)(g cap:Nat)(l:List UInt8)(hl:4<=l.length)(iF:l.length<=cap)(Wy:cap<=9223372036854775807)(LG:gc w g 0 l):Calls prog 182 #[.slice (some ⟨g,0,none⟩) l.length cap] w λe w'=>e=.returned (.tuple #[.slice (some ⟨g,0,none⟩) (l.length-4) cap,.bool (kT l)])/\∃m,w'=w.drewN m:=by
 obtain⟨n,hn⟩:∃n,l.length-4=n:=⟨_,rfl⟩;have UX:l.length=n+4:=by omega
 have hd:(l.drop n).length=4:=by rw[cD];omega
 have hcut:=Pw w g n (cap-n) (l.drop n) (by have:=LG.drop n;rw[cA]at this;exact this) (by omega) (by omega) (by omega);rw[aI (by omega),hd]at hcut;have HC:=hid hcut
 have HS:Hid (∀m k,Calls prog 138 #[.slice (some ⟨g,0,none⟩) n cap] ((w.drewN k).drewN m) λe w'=>e=.returned (.int .u32 ((hZ (l.take n):Nat):Int))/\∃q,w'=(w.drewN k).drewN q):=λm k=>Calls.quiet_of_same (Za ((w.drewN k).drewN m) g n cap (l.take n) (by rw[bE];omega) (by omega) Wy ((LG.take n).drewN k))
 have HR:Hid (kT l=decide ((fp (l.drop n):Int)=(hZ (l.take n):Int))):=by show _=_;unfold kT;rw[hn];rw[dz];simp;omega
 rw[hn,UX];rw[UX]at iF;clear hcut LG;have e1:((n+4:Nat):Int)-4=(n:Int):=by omega
 have e2:¬(((n+4:Nat):Int)<(n:Int)):=by omega
 have e3:¬((cap:Int)<(n:Int)):=by omega
 have e4:¬cap=n:=by omega
 have e5:n+4-n=4:=by omega
 generalize fp (l.drop n)=tv at*;generalize hZ (l.take n)=sv at*;go_enter func182,ntmps182;go_wp2_with fail;refine HC.out.mono ?_;rintro e W1⟨rfl,m1,rfl⟩;clear HC
 obtain⟨wd,Sr⟩:∃wd,w.drewN m1=wd:=⟨_,rfl⟩;have HSQ:=hid (λm=>HS.out m m1);rw[Sr]at HSQ⊢;have Up:=hid Sr;clear Sr HS;obtain⟨sl,BK⟩:∃sl,sl=Value.slice (if cap-n=4 then some ⟨g,n,none⟩else some ⟨g,n+4,none⟩) (4-4) (cap-n-4):=⟨_,rfl⟩
 rw[<-BK];clear BK;go_wp2_with fail;go_quiet(first|(go_at_call 138;with_reducible exact HSQ.out _));go_wp2;go_ret2;refine⟨?_,m1+nq,by rw[<-Up.out,World.drewN_drewN]⟩
 rw[HR.out];rfl
theorem uN(w:World)(B:Nat)(v:Value)(l:List Nat)(h:Own w B v l):Calls prog 194 #[v] w λe w'=>∃v',e=.returned v'/\Own w B v' (jx l)/\w'=w:=by
 have hlen:=h.len;unfold maxLen at hlen;rcases h.shape with⟨rfl,rfl⟩|⟨g,cap,rfl,hB,hg,uu,iF,hcell,o6⟩;{go_enter func194,ntmps194;go_wp2;go_loop[0](λv=>v=.slice none 0 0)(λ_=>0);(case atStart=>rfl);case round=>subst hrel;go_wp2;go_ret;exact⟨_,rfl,by simpa[jx]using h,rfl⟩}
 {
 unfold maxLen at iF;go_enter func194,ntmps194;go_wp2;go_loop[0](λv=>∃k:Nat,k<=l.length/\v=.slice (some ⟨g,0,none⟩) k cap/\jx (l.take k)=jx l)(λv=>RU v);case atStart=>exact⟨l.length,aj _,rfl,by rw[dx]⟩
 case round=>obtain⟨k,hk,rfl,ht⟩:=hrel;have HT:Hid (jx (l.take k)=jx l):=ht;clear ht;cases k with|zero=>go_wp2;go_ret;exact⟨_,rfl,by have:=h.take rfl (k:=0) (by omega);rw[<-HT.out];simpa[jx]using this,rfl⟩|succ k=>obtain⟨x,hx⟩:∃x,l[k]?=some x:=⟨l[k],by simp⟩;have hc:=hcell k x hx;have wL:=cJ hx;have HX:Hid (l.take (k+1)=l.take k++[x]):=wL;clear wL hcell hx;by_cases Eg:x=0;{subst Eg;go_wp2;go_round;(case rel=>exact⟨k,by omega,by simp,by rw[<-HT.out,HX.out,jg]⟩);case measure=>simp[RU]};{(have ZH:((x:Int)==0)=false:=by simpa using Eg);go_wp2;go_ret;exact⟨_,rfl,by have:=h.take rfl (k:=k+1) (by omega);rw[<-HT.out,HX.out,kx _ Eg,<-HX.out];exact this,rfl⟩}}
def gh(a b:Int):Int:=if a<b then-1 else if b<a then 1 else 0
theorem fh{a b:Int}(h:a<b):gh a b=-1:=by simp[gh,h]
theorem gI{a b:Int}(h:b<a):gh a b=1:=by simp[gh,h,show¬a<b by omega]
theorem gJ{a b:Int}(h:a=b):gh a b=0:=by simp[gh,h]
theorem aS{k:IntKind}{a b:Int}(h:a=b):Ending.returned (.int k a)=.returned (.int k b):=by rw[h]
theorem L2(a b:Int)(w:World):Calls prog 223 #[.int .i64 a,.int .i64 b] w λe w'=>e=.returned (.int .i64 (gh a b))/\w'=w:=by
 rcases Int.lt_trichotomy a b with h|h|h;{have H:=fh h;have HH:Hid (gh a b=-1):=H;clear H;go_enter func223,ntmps223;go_wp2;go_ret;exact⟨aS HH.out.symm,rfl⟩};{subst h;go_enter func223,ntmps223;go_wp2;go_ret;exact⟨aS (gJ rfl).symm,rfl⟩}
 {have HH:Hid (gh a b=1):=gI h;go_enter func223,ntmps223;go_wp2;go_ret;exact⟨aS HH.out.symm,rfl⟩}
theorem L1(a b:Int)(w:World):Calls prog 224 #[.int .u32 a,.int .u32 b] w λe w'=>e=.returned (.int .i64 (gh a b))/\w'=w:=by
 rcases Int.lt_trichotomy a b with h|h|h;{have H:=fh h;have HH:Hid (gh a b=-1):=H;clear H;go_enter func224,ntmps224;go_wp2;go_ret;exact⟨aS HH.out.symm,rfl⟩};{subst h;go_enter func224,ntmps224;go_wp2;go_ret;exact⟨aS (gJ rfl).symm,rfl⟩}
 {have HH:Hid (gh a b=1):=gI h;go_enter func224,ntmps224;go_wp2;go_ret;exact⟨aS HH.out.symm,rfl⟩}
theorem nD(w:World):Calls prog 193 #[] w λe w'=>e=.returned (.int .i64 32)/\w'=w:=by go_enter func193,ntmps193;go_wp2_with fail;refine(bits_Len64 _ _ (by decide) (by decide)).mono ?_;rintro e w'⟨rfl,rfl⟩;go_wp2;go_ret;exact⟨rfl,rfl⟩
theorem Tryz.yF:(prog.info? 124).map (λi=>(i.zero,i.size,i.bytes))=some (some (.int .u32 0),1,4):=by kernel_rfl
theorem KY(w:World)(v:Value)(l:List Nat)(f m:Nat)(h:Own w 0 v l)(hl:l.length<=4096)(hf:f<4294967296)(hm:m<4294967296):Calls prog 157 #[v,.int .u32 f,.int .u32 m] w λe w'=>∃v' l',e=.returned v'/\Own w' w.heap.size v' l'/\fR l'/\val l'=val l*f+m/\Below w.heap.size w w':=by
 obtain⟨ao,cap,rfl,uu,iF,hcell⟩:=h.gy;unfold maxLen at iF;obtain⟨i0,hi,ip,fS,gU⟩:=info_parts Tryz.yF;go_enter func157,ntmps157;go_wp2_with(at_make;refine wpList_make_full _ rfl _ _ 225 rfl w.heap.size 124 i0 (.int .u32 0) 1 underlying225 hi ip fS _ _ _ _ (l.length+1) rfl rfl ?c1 ?c2 ?c3 ?c4 ?c5 ?c6)
 case c1=>omega
 case c2=>omega
 case c3=>rw[gU];omega
 case c4=>unfold maxLen;omega
 case c5=>exact aj _
 intro w1 bp bG;have nv:=Cz bp;have bF:Below w.heap.size w w1:=(Below.refl _ _).grown bG (aj _) (by intro k hk;cases hk);clear bp bG;go_wp2;go_loopw[8,19](λc i wr=>∃(k:Nat)(p:List Nat)(cy:Nat),k<=l.length/\i=.int .i64 k/\c=.int .u64 cy/\cy<4294967296/\p.length=l.length+1/\Own wr w.heap.size (.slice (some ⟨w.heap.size,0,none⟩) (l.length+1) (l.length+1)) p/\val (p.take k)+4294967296^k*cy=val (l.take k)*f+m/\Below w.heap.size w wr)(λ_ i _=>l.length-(intOf i).toNat)
 case atStart=>exact⟨0,_,m,ap _,rfl,rfl,hm,by simp,nv,by simp[val],bF⟩
 case round=>clear nv bF;obtain⟨k,p,cy,hk,rfl,rfl,yL,hp,bp,hval,bF⟩:=hrel;have HV:=hval;have GU:Hid (val (p.take k)+4294967296^k*cy=val (l.take k)*f+m):=hval;have HP:Hid (p.length=l.length+1):=hp;clear hval HV hp;by_cases di:k<l.length;{obtain⟨x,hx⟩:∃x,l[k]?=some x:=⟨l[k],by simp[di]⟩;obtain⟨uf,g,rfl,_,hg,hc⟩:=hcell k x hx;have xy:=bF.cell (p:=⟨g,k,none⟩) hg;rw[hc]at xy;have HX:Hid (l[k]?=some x):=hx;have o6:=bp.tJ k;obtain⟨y0,_,_,hold⟩:=bp.at (j:=k) (by omega);obtain⟨kg,kL⟩:=FX yL uf hf;clear hx hc hcell;go_wp2_with(go_at_call 193;refine(nD _).mono ?_;rintro e w'⟨rfl,rfl⟩);go_roundw;(case rel=>(have e1:((cy:Int)+(x:Int)*(f:Int))%4294967296=(((cy+x*f)%4294967296:Nat):Int):=by simp);(have e2:((cy:Int)+(x:Int)*(f:Int))/4294967296=(((cy+x*f)/4294967296:Nat):Int):=by simp);rw[e1,e2];exact⟨k+1,p.set k ((cy+x*f)%4294967296),(cy+x*f)/4294967296,by omega,by go_num,rfl,kL,by simp[HP.out],bp.stored (by simp[HP.out]) k (dK _ (by omega)),Io (by rw[HP.out];omega) HX.out (by omega) GU.out,bF.setCell (aj _) _⟩);case measure=>simp[intOf];omega};{have o6:=bp.tJ l.length;obtain⟨y0,BJ,_,hold⟩:=bp.at (j:=l.length) (by omega);(have HK:Hid (k=l.length):=by unfold Hid;omega);clear hcell BJ;go_wp2_with fail;have yI:=bp.stored (by simp[HP.out]) l.length yL;refine(uN _ _ _ _ yI).mono ?_;rintro e w'⟨v',rfl,pI,rfl⟩;go_wp2;go_ret;refine⟨v',_,rfl,pI,iu _,?_,bF.setCell (aj _) _⟩;have hv:=GU.out;rw[HK.out,dx]at hv;rw[rH,xY HP.out,hv]}
theorem Own.ofRow{w:World}{B n:Nat}{v:Value}{l:List Nat}{xs:List Value}(h:w.ownsRow B 124 1 v n xs)(hx:xs=yf l)(hl:P8 l):Own w B v l:=by
 subst hx;have:n=l.length:=by have:=h.1;simp[yf]at this;omega
 subst this;exact⟨h,hl⟩
theorem Qu{l:List Nat}{y:Nat}(h:P8 l)(hy:y<4294967296):P8 (l++[y]):=by intro x hx;rcases jm.1 hx with h1|h1;{exact h x h1};{simp at h1;omega}
theorem VR{l:List Nat}{x y:Nat}(h:val l+4294967296^l.length*y=x):val (l++[y%4294967296])+4294967296^(l++[y%4294967296]).length*(y/4294967296)=x:=by rw[lK];simp only[aJ,aU,cd,cA,aT];rw[<-h,aw,dO,<-cG,Nat.mod_add_div]
theorem RC{l:List Nat}{y:Nat}(hy:y≠0):y/4294967296=0->fR (l++[y%4294967296]):=by intro h;exact xG (by omega)
theorem Zq{l:List Nat}{x y:Nat}(h:val l+4294967296^l.length*y=x)(hy:y≠0)(hx:x<18446744073709551616):l.length<2:=by by_cases h2:l.length<2;{exact h2};{have h1:4294967296^2<=4294967296^l.length:=aF (by omega) (by omega);have h3:4294967296^2*1<=4294967296^l.length*y:=bI h1 (by omega);omega}
theorem zF(w:World)(x:Nat)(hx:x<18446744073709551616):Calls prog 161 #[.int .u64 x] w λe w'=>∃v',e=.returned v'/\iT w' w.heap.size v' x/\Below w.heap.size w w':=by
 obtain⟨i0,hi,ip,fS,gU⟩:=info_parts Tryz.yF;go_enter func161,ntmps161;go_wp2;go_loopw[0,3](λs v wr=>∃(y:Nat)(l:List Nat),s=.int .u64 y/\y<18446744073709551616/\Own wr w.heap.size v l/\val l+4294967296^l.length*y=x/\(y=0->fR l)/\Below w.heap.size w wr)(λs _ _=>(intOf s).toNat)
 case atStart=>exact⟨x,[],rfl,hx,⟨World.ownsRow_nil _ _ _ _,by intro y hy;simp at hy⟩,by simp[val],λ_=>sy,Below.refl _ _⟩
 case round=>obtain⟨y,l,rfl,hy,bp,hval,uw,bF⟩:=hrel;have HV:Hid (val l+4294967296^l.length*y=x):=hval;have HC:Hid (y=0->fR l):=uw;clear hval uw;by_cases BJ:y=0;{subst BJ;go_wp2;go_ret;refine⟨u3,rfl,⟨l,bp,HC.out (by simp),?_⟩,bF⟩;have:=HV.out;simpa using this};{have Eo:=Zq HV.out BJ hx;have dU:=bF.size;(have hne:((y:Int)!=0)=true:=by simpa using BJ);go_wp2_with(first|(at_builtin;refine wpList_append_own _ rfl _ _ 225 rfl w.heap.size 124 i0 (.int .u32 0) 1 4 underlying225 hi ip fS gU rfl (by decide) _ _ _ rfl (bp.1.alloc _) ⟨wr.heap.size,0,none⟩ 1 1 [.int .u32 ((y:Int)%4294967296)] rfl rfl ?c1 ?c2 ?c3 ?c4 ?c5 ?_)|(go_at_call 193;refine(nD _).mono ?_;rintro e w'⟨rfl,rfl⟩));(case c1=>exact cell_one_new _ _ _);(case c2=>intro u hu;simp at hu;subst hu;rfl);(case c3=>unfold maxLen;omega);(case c4=>omega);(case c5=>simp;omega);{intro v' w1 cF bG _;have hr:Own w1 w.heap.size v' (l++[y%4294967296]):=Own.ofRow cF (by simp[yf]) (Qu bp.2 (dK _ (by omega)));have hb:Below w.heap.size w w1:=(bF.alloc dU _).grown bG (by simp;omega) (λk hk=>(bp.1.lt k hk).1);clear cF bG bp bF;go_wp2_with(go_at_call 193;refine(nD _).mono ?_;rintro e w'⟨rfl,rfl⟩);go_roundw;(case rel=>exact⟨y/4294967296,_,by simp,by omega,hr,VR HV.out,RC BJ,hb⟩);case measure=>simp[intOf];omega}}
theorem Fm(w:World)(v:Value)(l:List Nat)(h:Own w 0 v l)(hl:l.length<=4096):Calls prog 206 #[v] w λe w'=>∃v',e=.returned v'/\Own w' w.heap.size v' l/\Below w.heap.size w w':=by
 obtain⟨i0,hi,ip,fS,gU⟩:=info_parts Tryz.yF;have q:∀(w:World)(a:Option Addr)(n c n' c':Nat),(binOp .eql 225 (.slice a n c) (.slice none n' c')).run prog w=.ok (.bool a.isNone) w:=λw a n c n' c'=>Lib.run_eql_slice_nil w _ _ a n c n' c' underlying225
 rcases h.shape with⟨rfl,rfl⟩|⟨g,cap,rfl,hB,hg,uu,iF,hcell,o6⟩;{go_enter func206,ntmps206;go_wp2;go_ret;exact⟨_,rfl,⟨World.ownsRow_nil _ _ _ _,h.2⟩,Below.refl _ _⟩}
 {
 unfold maxLen at iF;have HC:Hid (∀(i x:Nat),l[i]?=some x->w.cell? ⟨g,i,none⟩=some (.int .u32 (x:Int))):=hcell;clear hcell o6;go_enter func206,ntmps206;go_wp2_with(at_builtin;refine wpList_append_own _ rfl _ _ 225 rfl w.heap.size 124 i0 (.int .u32 0) 1 4 underlying225 hi ip fS gU rfl (by decide) _ _ _ rfl (World.ownsRow_made w #[] 0 (aj _) (ap _) rfl) ⟨g,0,none⟩ l.length cap (yf l) rfl ?qc1 ?qc2 ?qc3 ?qc4 ?qc5 ?qc6 ?_)
 case qc1=>simp[yf]
 case qc2=>intro j u hj;rw[Addr.add_lit];refine Lib.cell?_alloc_some _ ?_;simp only[yf,bN,abj]at hj;obtain⟨x,hx,rfl⟩:=hj;rw[cA];exact HC.out j x hx
 case qc3=>intro u hu;obtain⟨x,_,rfl⟩:=eF.1 hu;rfl
 case qc4=>unfold maxLen;omega
 case qc5=>omega
 case qc6=>simp
 intro v' w1 bp bG oU;go_wp2;go_ret;exact⟨v',rfl,Own.ofRow bp (by simp) h.2,((Below.refl _ w).alloc (aj _) _).grown bG (by simp) (by intro k hk;simp[Value.ownBlock]at hk;omega)⟩}
theorem Cg(n:Int):IntKind.u64.wrap n=n%18446744073709551616:=rfl
theorem xB(w:World)(r:Option Nat):w.grownBy w r:=⟨rfl,rfl,rfl,aj _,λ_ _ _=>rfl⟩
theorem wX{w wr:World}{g:Nat}(h:w.grownBy wr (some g))(j:Nat)(u:Value):w.grownBy (wr.setCell ⟨g,j,none⟩ u) (some g):=⟨h.os,h.tape,h.output,by have:=h.size;simpa[World.setCell]using this,λk hk hne=>by rw[Below.heap_setCell _ _ _ _ (by intro e;exact hne (by rw[e])),h.block k hk hne]⟩
theorem Hi(w:World)(B g n cap:Nat)(vb:Value)(la lb:List Nat)(h:Own w B (.slice (some ⟨g,0,none⟩) n cap) la)(hb:Own w 0 vb lb)(hne:vb.ownBlock≠some g)(hl:la.length<=4096)(xx:lb.length<=la.length)(mj:val lb<=val la):Calls prog 207 #[.slice (some ⟨g,0,none⟩) n cap,vb] w λe w'=>e=.returned (.tuple #[])/\(∃p,Own w' B (.slice (some ⟨g,0,none⟩) n cap) p/\val p=val la-val lb/\p.length=la.length)/\w.grownBy w' (some g):=by
 have hn:=h.FZ;subst hn;obtain⟨ao,yP,rfl,uu,iF,hcell⟩:=hb.gy;have HC:Hid (∀(i x:Nat),lb[i]?=some x->x<4294967296/\∃g,ao=some ⟨g,0,none⟩/\0<=g/\g<w.heap.size/\w.cell? ⟨g,i,none⟩=some (.int .u32 (x:Int))):=hcell
 unfold maxLen at iF;clear hcell;go_enter func207,ntmps207;go_wp2;go_loopw[4,10](λc i wr=>∃(k:Nat)(p:List Nat)(bw:Nat),k<=la.length/\i=.int .i64 k/\c=.int .u64 bw/\bw<=1/\p.length=la.length/\Own wr B (.slice (some ⟨g,0,none⟩) la.length cap) p/\val (la.take k)+4294967296^k*bw=val (p.take k)+val (lb.take k)/\p.drop k=la.drop k/\w.grownBy wr (some g))(λ_ i _=>la.length-(intOf i).toNat)
 case atStart=>exact⟨0,la,0,ap _,rfl,rfl,by omega,rfl,h,by simp[val],rfl,xB _ _⟩
 case round=>obtain⟨k,p,bw,hk,rfl,rfl,mZ,hp,bp,hval,CZ,Ys⟩:=hrel;have HV:Hid (val (la.take k)+4294967296^k*bw=val (p.take k)+val (lb.take k)):=hval;have HP:Hid (p.length=la.length):=hp;have HD:Hid (p.drop k=la.drop k):=CZ;clear hval hp CZ;by_cases di:k<la.length;{obtain⟨x,hx,uf,hold⟩:=bp.at (j:=k) di;have o6:=bp.tJ k;have HX:Hid (p[k]?=some x):=hx;clear hx;by_cases pJ:k<lb.length;{obtain⟨y,hy⟩:∃y,lb[k]?=some y:=⟨lb[k],by simp[pJ]⟩;obtain⟨XY,gb,rfl,_,GQ,hc⟩:=HC.out k y hy;have xz:=Ys.cell hc (by simpa[Value.ownBlock]using hne);have HY:Hid (lb[k]?=some y):=hy;clear hc hy;go_wp2;go_roundw;(case rel=>obtain⟨r,b',e1,e2,hr,wM,e3⟩:=L9 x y bw uf XY mZ;rw[Cg,Cg,e1,e2];exact⟨k+1,p.set k r,b',by omega,by go_num,rfl,wM,by simp[HP.out],bp.stored (by rw[HP.out]) k hr,EL (vg HD.out HX.out) (.inl HY.out) (by rw[HP.out];omega) e3 HV.out,zP HD.out,wX Ys _ _⟩);case measure=>simp[intOf];omega};{go_wp2;go_roundw;(case rel=>obtain⟨r,b',e1,e2,hr,wM,e3⟩:=JJ x bw uf mZ;rw[Cg,e1,e2];exact⟨k+1,p.set k r,b',by omega,by go_num,rfl,wM,by simp[HP.out],bp.stored (by rw[HP.out]) k hr,EL (vg HD.out HX.out) (.inr ⟨by omega,rfl⟩) (by rw[HP.out];omega) e3 HV.out,zP HD.out,wX Ys _ _⟩);case measure=>simp[intOf];omega}};{(have HK:Hid (k=la.length):=by unfold Hid;omega);go_wp2;go_end0;refine⟨rfl,⟨p,bp,?_,HP.out⟩,Ys⟩;have hv:=HV.out;rw[HK.out]at hv;exact QD bp.2 HP.out xx mj hv}
end Go.Proofs.YthdcceackfdbbaaGreatDoor
