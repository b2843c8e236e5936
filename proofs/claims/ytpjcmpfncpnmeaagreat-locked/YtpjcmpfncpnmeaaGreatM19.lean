import Derived.Test.YtpjcmpfncpnmeaaGreatM17
set_option linter.all false
set_option maxRecDepth 100000
namespace Go.Proofs.aH
open Go.RowKit
def IB{K id}(h:iF (λt=>t≠id) K):anyM K id=false:=by unfold anyM;rw[Ux];intro i _ hi;obtain⟨c,a⟩:=aa3.1 hi;exact h _ c a rfl
def Ha(a su h x o mem K)(e:x.outs=[o])(f:o.val<=su)(d:iF (λt=>t≠x.id) K):(dG a su h [x] mem K []).1=0/\(dG a su h [x] mem K []).2.1.K=K.put ⟨x.id,0,o.val,o.lock,h⟩/\(dG a su h [x] mem K []).2.2=mem:=by
 have c:jX x h su ⟨K,[],0,[]⟩=(0,⟨K.put ⟨x.id,0,o.val,o.lock,h⟩,[⟨⟨x.id,0,o.val,o.lock,h⟩,true⟩],0,[]⟩):=by unfold jX eW;rw[e,aX (by show¬o.val+0>su+0;omega),IB d];rfl
 have b:dG a su h [x] mem K []=(if nN (eI mem [])then 0 else 17,⟨K.put ⟨x.id,0,o.val,o.lock,h⟩,[⟨⟨x.id,0,o.val,o.lock,h⟩,true⟩],0,[]⟩,gD a (eI mem []) mem):=by unfold dG;simp[jP];rw[c];simp
 rw[b];refine⟨?_,rfl,?_⟩;.trivial
 .trivial
def SP(g su h f a e d b c mem K)(u:f.outs=[e])(i:a.outs=[d])(k:a.ins=[b])(j:K (b.tx,b.idx)=some c)(w:d.val=c.val)(v:e.val<=su)(q:iF (λt=>t≠f.id) K)(r:iF (λt=>t≠a.id) K)(s:a.id≠f.id)(n:∀t∈mem,t.BI=0):
 (dG g su h [f,a] mem K []).1=(if(⟨b.key,c.lock,a.id,h⟩:cH).BI=0 then 0 else 17)/\(dG g su h [f,a] mem K []).2.1.K=((K.take (b.tx,b.idx)).put ⟨a.id,0,d.val,d.lock,h⟩).put ⟨f.id,0,e.val,e.lock,h⟩:=by
 have p:fS a h ⟨K,[],0,[]⟩=(0,⟨(K.take (b.tx,b.idx)).put ⟨a.id,0,d.val,d.lock,h⟩,[⟨c,false⟩,⟨⟨a.id,0,d.val,d.lock,h⟩,true⟩],0,[⟨b.key,c.lock,a.id,h⟩]⟩):=by
  have l:nP a.id h a.ins 0 ⟨K,[],0,[]⟩=(0,0+c.val,⟨K.take (b.tx,b.idx),[⟨c,false⟩],0,[⟨b.key,c.lock,a.id,h⟩]⟩):=by rw[k];unfold nP;simp[j];rfl
  unfold fS;rw[l];rw[aX S8,aX (by rw[i];show¬d.val+0>0+c.val;omega)];unfold eW;rw[IB (r.take _),i];simp only[uf,wT,mP,FO,JS.mk.injEq,wP,sf];refine⟨rfl,rfl,?_⟩;show(0:Int)+(0+c.val -(d.val+0))=0;omega
 have o:jX f h su ⟨(K.take (b.tx,b.idx)).put ⟨a.id,0,d.val,d.lock,h⟩,[⟨c,false⟩,⟨⟨a.id,0,d.val,d.lock,h⟩,true⟩],0,[⟨b.key,c.lock,a.id,h⟩]⟩=(0,⟨((K.take (b.tx,b.idx)).put ⟨a.id,0,d.val,d.lock,h⟩).put ⟨f.id,0,e.val,e.lock,h⟩,[⟨c,false⟩,⟨⟨a.id,0,d.val,d.lock,h⟩,true⟩,⟨⟨f.id,0,e.val,e.lock,h⟩,true⟩],0,[⟨b.key,c.lock,a.id,h⟩]⟩):=by unfold jX eW;rw[u,aX (by show¬e.val+0>su+0;omega),IB ((q.take _).put _ s)];rfl
 have m:dG g su h [f,a] mem K []=(if nN (eI mem [⟨b.key,c.lock,a.id,h⟩])then 0 else 17,⟨((K.take (b.tx,b.idx)).put ⟨a.id,0,d.val,d.lock,h⟩).put ⟨f.id,0,e.val,e.lock,h⟩,[⟨c,false⟩,⟨⟨a.id,0,d.val,d.lock,h⟩,true⟩,⟨⟨f.id,0,e.val,e.lock,h⟩,true⟩],0,[⟨b.key,c.lock,a.id,h⟩]⟩,gD g (eI mem [⟨b.key,c.lock,a.id,h⟩]) mem):=by unfold dG;simp only[List.drop_succ_cons,List.drop_zero,jP];rw[p];simp;rw[o];simp
 rw[m];rw[Oa mem _ n];simp[nN]
def SQ(g su h i a b mem K)(d:a.ins=[b])(c:K (b.tx,b.idx)=none):(dG g su h [i,a] mem K []).1=15:=by
 have f:fS a h ⟨K,[],0,[]⟩=(15,⟨K,[],0,[]⟩):=by
  have e:nP a.id h a.ins 0 ⟨K,[],0,[]⟩=(15,0,⟨K,[],0,[]⟩):=by rw[d];unfold nP;simp[c]
  unfold fS;rw[e];simp
 unfold dG;simp[jP];rw[f];simp
def Z7{a cb p bits n b}(g:kK (wB p bits b n)=true)(f:(bits:Int)=cb)(d:Shown p bits b n)(hi:iL (wS p bits b n)∉a.ids)(c:a.ids.length≠49):zB a cb (wS p bits b n) (wB p bits b n)=0:=by unfold zB;rw[aX (λe=>hi (wE.1 e)),aX (by show¬(bits:Int)<cb;omega),aX (by show¬(jM (wS p bits b n)).toNat%2^((bits:Int).toNat)≠0;rw[CJ];exactλe=>e d),aX c]
def IC{c a p bits n b}(d:kK (wB p bits b n)=true)(e:(bits:Int)=c.bi)(g:Shown p bits b n)(hi:iL (wS p bits b n)∉a.ids)(f:a.ids.length≠49):fN c a (wS p bits b n)=if(gS c a (wB p bits b n)).1=0 then(1,0,⟨a.ids++[iL (wS p bits b n)],iL (wS p bits b n),a.cB+1,a.wo+2^bits,(gS c a (wB p bits b n)).2.1.K,(gS c a (wB p bits b n)).2.2,a.lo⟩)else(0,(gS c a (wB p bits b n)).1,{a with ids:=a.ids++[iL (wS p bits b n)],mem:=(gS c a (wB p bits b n)).2.2}):=by
 unfold fN;rw[vI d];simp only;rw[Z7 d e g hi f,aX S8];rfl
def yj:List rh:=[⟨65535,[],[⟨50,mk [byteOf 1]⟩]⟩]
def sh0:Shown (be 0 8) 0 yj 0:=by unfold Shown;decide+kernel
def sh1:Shown (be 0 8) 1 yj 0:=by unfold Shown;decide+kernel
def sh2:Shown (be 0 8) 2 yj 1:=by unfold Shown;decide+kernel
def no2:¬Shown (be 0 8) 2 yj 0:=by unfold Shown;decide+kernel
def id0:iL (wS (be 0 8) 0 yj 0)≠lM:=by decide+kernel
def id1:iL (wS (be 0 8) 1 yj 0)≠lM:=by decide+kernel
def id2:iL (wS (be 0 8) 2 yj 1)≠lM:=by decide+kernel
def Xh{bits n}(f:bits<=2)(h:Shown (be 0 8) bits yj n)(g:∀j,j<n->¬Shown (be 0 8) bits yj j):iL (wS (be 0 8) bits yj n)≠lM:=by
 have key:∀k,Shown (be 0 8) bits yj k->(∀j,j<k->¬Shown (be 0 8) bits yj j)->n=k:=λk c d=>by grind
 have b:bits=0\/bits=1\/bits=2:=O9;obtain rfl|rfl|rfl:=b;.have e:=key 0 sh0 (λj a=>absurd a (pj j));subst e;exact id0
 .have e:=key 0 sh1 (λj a=>absurd a (pj j));subst e;exact id1
 .have e:=key 1 sh2 (λj a=>by have h0:j=0:=O9;subst h0;exact no2)
  subst e;exact id2
def SS{c N n D}(f:kK (wB (be 0 8) N yj n)=true)(e:(N:Int)=c.bi)(i:Shown (be 0 8) N yj n)(hi:iL (wS (be 0 8) N yj n)≠lM)(j:50<=c.su):fN c (an0 D) (wS (be 0 8) N yj n)=(1,0,⟨[lM,iL (wS (be 0 8) N yj n)],iL (wS (be 0 8) N yj n),1,0+2^N,mO.put (λ_=>none) ⟨jL 65535 [] [⟨50,mk [byteOf 1]⟩],0,50,mk [byteOf 1],1⟩,[],D⟩):=by
 rw[IC f e i (by show _∉[lM];simpa using hi) (by show 1≠49;decide)];have g:gS c (an0 D) (wB (be 0 8) N yj n)=dG c.me.toNat c.su 1 [⟨jL 65535 [] [⟨50,mk [byteOf 1]⟩],[],[⟨50,mk [byteOf 1]⟩]⟩] [] (λ_=>none) []:=by rfl
 obtain⟨a,b,d⟩:=Ha c.me.toNat c.su 1 ⟨jL 65535 [] [⟨50,mk [byteOf 1]⟩],[],[⟨50,mk [byteOf 1]⟩]⟩ ⟨50,mk [byteOf 1]⟩ [] (λ_=>none) rfl j (λp c h=>by cases h);rw[g,a,b,d,bM rfl];rfl
def acv:fJ (fF yj) [[(⟨⟨#[]⟩,0,0,0⟩:iI)]]=[⟨jL 65535 [] [⟨50,mk [byteOf 1]⟩],0,0,0⟩]:=by rfl
def Xi(a b w):(Op.equalIn 10000 37 (.agg #[.int .i64 a,.int .i64 b]) (.agg #[a,b])).run aI.prog w=.ok true w:=by simp[go_sem]
def Xj(s a b w):(Op.equalIn 10000 55 (.agg #[.string s,.int .i64 a,.int .i64 b]) (.agg #[s,a,b])).run aI.prog w=.ok true w:=by simp[go_sem]
def SU(s l a b c d w):(Op.equalIn 10000 60 (.agg #[.string s,.int .i64 a,.int .i64 b,.string l,.int .i64 c,.bool d]) (.agg #[s,a,b,l,c,.bool d])).run aI.prog w=.ok true w:=by simp[go_sem]
end Go.Proofs.aH
