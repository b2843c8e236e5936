import Derived.Test.YtpjcmpfncpnmeaaGreatM17
import Derived.Test.YtpjcmpfncpnmeaaGreatM18
set_option linter.all false
set_option maxHeartbeats 16000000
set_option maxRecDepth 100000
namespace Go.Proofs.aH
open Go.RowKit
attribute [local go_sem↓] Go.wp_at_zero Go.wp_at_succ
def ya:iI:=⟨⟨#[]⟩,0,0,0⟩
def vM{B g w v l}(h:Row w g 42 [v])(c:kM B w v l)(b:B<=g):kN B w (.slice g 1 1) [(v,l)]:=⟨fE h rfl b D9,λx a=>by(simp at a;subst a;exact c)⟩
def Ck.then{LB a w w1 w2}(h:Ck LB a w w1)(b:Below w1 w1 w2):Ck LB a w w2:=⟨bT h.size b.size,λk cs t f c d=>(b.block k (cE (h.cells k cs t f c d))).trans (h.cells k cs t f c d)⟩
def eH.ck{LB a w w' rb B r}(h:eH w rb B r)(x:Ck LB a w w')(b:¬a 44)(c:¬a 9)(d:¬a 3)(e:¬a 50):eH w' rb B r:=⟨h.row.ck x b,rZ h.ids x c,rZ h.bS x d,rZ h.aP x e,bT h.base x.size⟩
def mQ{t}(a:t≠130)(b:t≠181)(c:t≠234)(d:t≠298)(f:t≠135)(g:t≠132):¬Y2 t:=by
 rintro(e|e);.exact BJ a b c d f e
 .exact g e
def IB{K id}(h:iF (λt=>t≠id) K):anyM K id=false:=by unfold anyM;rw[Ux];intro i _ hi;obtain⟨c,a⟩:=aa3.1 hi;exact h _ c a rfl
def Ha(a su h x o mem K)(e:x.outs=[o])(f:o.val<=su)(d:iF (λt=>t≠x.id) K):(dG a su h [x] mem K []).1=0/\(dG a su h [x] mem K []).2.1.K=K.put ⟨x.id,0,o.val,o.lock,h⟩/\(dG a su h [x] mem K []).2.2=mem:=by
 have c:jX x h su ⟨K,[],0,[]⟩=(0,⟨K.put ⟨x.id,0,o.val,o.lock,h⟩,[⟨⟨x.id,0,o.val,o.lock,h⟩,true⟩],0,[]⟩):=by unfold jX eW;rw[e,aX (by show¬o.val+0>su+0;omega),IB d];rfl
 have b:dG a su h [x] mem K []=(if nN (eI mem [])then 0 else 17,⟨K.put ⟨x.id,0,o.val,o.lock,h⟩,[⟨⟨x.id,0,o.val,o.lock,h⟩,true⟩],0,[]⟩,gD a (eI mem []) mem):=by unfold dG;simp[jP];rw[c];simp
 rw[b];refine⟨?_,rfl,?_⟩;.trivial
 .trivial
def Z7{a cb p bits n b}(g:kK (wB p bits b n)=true)(f:(bits:Int)=cb)(d:Shown p bits b n)(hi:iL (wS p bits b n)∉a.ids)(c:a.ids.length≠49):zB a cb (wS p bits b n) (wB p bits b n)=0:=by unfold zB;rw[aX (λe=>hi (wE.1 e)),aX (by show¬(bits:Int)<cb;omega),aX (by show¬(jM (wS p bits b n)).toNat%2^((bits:Int).toNat)≠0;rw[CJ];exactλe=>e d),aX c]
def IC{c a p bits n b}(d:kK (wB p bits b n)=true)(e:(bits:Int)=c.bi)(g:Shown p bits b n)(hi:iL (wS p bits b n)∉a.ids)(f:a.ids.length≠49):fN c a (wS p bits b n)=if(gS c a (wB p bits b n)).1=0 then(1,0,⟨a.ids++[iL (wS p bits b n)],iL (wS p bits b n),a.cB+1,a.wo+2^bits,(gS c a (wB p bits b n)).2.1.K,(gS c a (wB p bits b n)).2.2,a.lo⟩)else(0,(gS c a (wB p bits b n)).1,{a with ids:=a.ids++[iL (wS p bits b n)],mem:=(gS c a (wB p bits b n)).2.2}):=by
 unfold fN;rw[vI d];simp only;rw[Z7 d e g hi f,aX S8];rfl
def yj:List rh:=[⟨65535,[],[⟨50,mk [byteOf 1]⟩]⟩]
def sh0:Shown (be 0 8) 0 yj 0:=by unfold Shown;decide+kernel
def sh1:Shown (be 0 8) 1 yj 0:=by unfold Shown;decide+kernel
def sh2:Shown (be 0 8) 2 yj 1:=by unfold Shown;decide+kernel
def no2:¬Shown (be 0 8) 2 yj 0:=by unfold Shown;decide+kernel
def id0:iL (wS (be 0 8) 0 yj 0)≠lM:=by decide+kernel
def id1:iL (wS (be 0 8) 1 yj 0)≠lM:=by decide+kernel
def id2:iL (wS (be 0 8) 2 yj 1)≠lM:=by decide+kernel
def Xh{bits n}(f:bits<=2)(h:Shown (be 0 8) bits yj n)(g:∀j,j<n->¬Shown (be 0 8) bits yj j):iL (wS (be 0 8) bits yj n)≠lM:=by
 have key:∀k,Shown (be 0 8) bits yj k->(∀j,j<k->¬Shown (be 0 8) bits yj j)->n=k:=λk c d=>by grind
 have b:bits=0\/bits=1\/bits=2:=O9;obtain rfl|rfl|rfl:=b;.have e:=key 0 sh0 (λj a=>absurd a (pj j));subst e;exact id0
 .have e:=key 0 sh1 (λj a=>absurd a (pj j));subst e;exact id1
 .have e:=key 1 sh2 (λj a=>by have h0:j=0:=O9;subst h0;exact no2)
  subst e;exact id2
def SS{c N n D}(f:kK (wB (be 0 8) N yj n)=true)(e:(N:Int)=c.bi)(i:Shown (be 0 8) N yj n)(hi:iL (wS (be 0 8) N yj n)≠lM)(j:50<=c.su):fN c (an0 D) (wS (be 0 8) N yj n)=(1,0,⟨[lM,iL (wS (be 0 8) N yj n)],iL (wS (be 0 8) N yj n),1,0+2^N,mO.put (λ_=>none) ⟨jL 65535 [] [⟨50,mk [byteOf 1]⟩],0,50,mk [byteOf 1],1⟩,[],D⟩):=by
 rw[IC f e i (by show _∉[lM];simpa using hi) (by show 1≠49;decide)];have g:gS c (an0 D) (wB (be 0 8) N yj n)=dG c.me.toNat c.su 1 [⟨jL 65535 [] [⟨50,mk [byteOf 1]⟩],[],[⟨50,mk [byteOf 1]⟩]⟩] [] (λ_=>none) []:=by rfl
 obtain⟨a,b,d⟩:=Ha c.me.toNat c.su 1 ⟨jL 65535 [] [⟨50,mk [byteOf 1]⟩],[],[⟨50,mk [byteOf 1]⟩]⟩ ⟨50,mk [byteOf 1]⟩ [] (λ_=>none) rfl j (λp c h=>by cases h);rw[g,a,b,d,bM rfl];rfl
def acv:fJ (fF yj) [[(⟨⟨#[]⟩,0,0,0⟩:iI)]]=[⟨jL 65535 [] [⟨50,mk [byteOf 1]⟩],0,0,0⟩]:=by rfl
def Xi(a b w):(Op.equalIn 10000 37 (.agg #[.int .i64 a,.int .i64 b]) (.agg #[a,b])).run aI.prog w=.ok true w:=by simp[go_sem]
def Xj(s a b w):(Op.equalIn 10000 55 (.agg #[.string s,.int .i64 a,.int .i64 b]) (.agg #[s,a,b])).run aI.prog w=.ok true w:=by simp[go_sem]
def SU(s l a b c d w):(Op.equalIn 10000 60 (.agg #[.string s,.int .i64 a,.int .i64 b,.string l,.int .i64 c,.bool d]) (.agg #[s,a,b,l,c,.bool d])).run aI.prog w=.ok true w:=by simp[go_sem]
def ID{n V w}(h:Below n V w)(a:n<=w)(o o' b):Below n V (((w.alloc o).alloc o').alloc b):=((h.alloc a _).alloc Z9 _).alloc (by simp;omega) _
structure Xk(w w':World)(rb B:Nat)(c:lA)(r:kC)(a:AN):Prop where
 lw:Lw w.heap.size w w'
 run:eH w' rb B r
 node:gB w' r.nb r.c a
 knows:Knows r a
 gL:ry r 2
 c:r.c=Cj c
 lo:w.heap.size<=rb/\w.heap.size<=B/\w.heap.size<=a.lo
 al:a.ids.length<=2
 cn:r.aP≠[]
 sup:Sup r.c a
def SV(c w)(h1:c.Vg):Calls aI.prog 9 #[.agg #[c.wk,c.sh,c.me,c.su,c.bi],aD] w λe w'=>∃rb B r a,e=.returned (.pointer (some ⟨rb,0,none⟩))/\Xk w w' rb B c r a:=by
 have av:Below w.heap.size w (w.alloc (.cells #[.int .i64 c.wk,.int .i64 c.sh,.int .i64 c.me,.int .i64 c.su,.int .i64 c.bi] 26)):=B0.alloc L9 _;have cb:=ZN c (w.alloc (.cells #[.int .i64 c.wk,.int .i64 c.sh,.int .i64 c.me,.int .i64 c.su,.int .i64 c.bi] 26)) h1;unfold lA.v at cb;obtain⟨en,eo,ej,ek⟩:=Ql c;have j4:Hid (∀d,d=Cj c->d=Cj c):=λ_ h=>h;generalize M:Cj c=d at cb en eo ej ek;replace M:=aJ M;have c9:=λW=>ZB d W;unfold lA.v ptr at c9;obtain⟨wk,sh,me,su,bi⟩:=d;simp only at cb eo ej ek c9;go_enter aI.func9,Tryz.ntmps9;go_wp2_with fail;refine cb.mono ?_;rintro e w1 ⟨rfl,ft⟩;have b1:Below w.heap.size w w1:=av.trans (ft.mono av.size);clear cb av ft;have bm:Below w1.heap.size w1 (w1.alloc (.cells #[.int .i64 wk,.int .i64 sh,.int .i64 me,.int .i64 su,.int .i64 bi] 26)):=B0.alloc L9 _;have bg:=aV w1 [.int .i64 wk,.int .i64 sh,.int .i64 me,.int .i64 su,.int .i64 bi] 26;go_wp2_with fail;generalize w1.alloc (.cells #[.int .i64 wk,.int .i64 sh,.int .i64 me,.int .i64 su,.int .i64 bi] 26)=Q at bm bg|-;have gl:w.heap.size<=w1.heap.size:=b1.size;generalize w1.heap.size=l at bm bg gl|-;refine(c9 Q).mono ?_;rintro e w2 ⟨c7,⟨fu,_⟩|⟨nb,_,rfl,j6,ed⟩⟩;.rw[en]at fu;cases fu
 have b9:=Xl ed en;have S:=bg.keep c7 bg.lt;have j1:=bm.size;have gg:=c7.size;have j3:=bg.lt;have b2:Below w.heap.size w w2:=b1.trans ((bm.mono gl).trans (c7.mono (bT b1.size bm.size)));have a5:Hid (∀W:World,Calls aI.prog 27 #[aC] W λe w'=>e=.returned (.string lM)/\Below W.heap.size W w'):=λW=>by rw[show lM=mk (be 0 8)from by decide+kernel];exact oV 0 W D9 D9
 have a6:Hid (∀W:World,Calls aI.prog 28 #[aG] W λe w'=>e=.returned (.string (mk [byteOf 1]))/\Below W.heap.size W w'):=λW=>qw 1 W D9 D9;generalize a4:mk [byteOf 1]=E at a6;replace a4:=aJ a4;generalize ba:lM=H at a5;replace ba:=aJ ba;generalize b8:an0 Q.heap.size=di at b9;replace b8:=aJ b8;clear ed c9 bg bm b1 c7;have g6:w2.cell? ⟨l,0,none⟩=some (.int .i64 wk):=S.cell 0;have g7:w2.cell? ⟨l,1,none⟩=some (.int .i64 sh):=S.cell 1;have g8:w2.cell? ⟨l,2,none⟩=some (.int .i64 me):=S.cell 2;have g9:w2.cell? ⟨l,3,none⟩=some (.int .i64 su):=S.cell 3;have b4:w2.cell? ⟨l,4,none⟩=some (.int .i64 bi):=S.cell 4;go_wp2_with fail;have ae:Hid (∀W:World,Below w2.heap.size w2 W->W.cell? ⟨l,0,none⟩=some (.int .i64 wk)/\W.cell? ⟨l,1,none⟩=some (.int .i64 sh)/\W.cell? ⟨l,2,none⟩=some (.int .i64 me)/\W.cell? ⟨l,3,none⟩=some (.int .i64 su)/\W.cell? ⟨l,4,none⟩=some (.int .i64 bi)):=λW R=>by have h:=S.keep R S.lt;exact⟨h.cell 0,h.cell 1,h.cell 2,h.cell 3,h.cell 4⟩
 have I:Hid (Below w2.heap.size w2 w2.drew):=bW B0;have az:Hid (Below w2.heap.size w2 (w2.drew.alloc (.cells #[aA] 3))):=I.out.alloc L9 _;go_cut [8] (λq aj=>∃rb Y wg:Nat,q=.pointer (some ⟨rb,0,none⟩)/\Row aj rb 44 [.pointer (some ⟨nb,0,none⟩),.int .i64 wk,.int .i64 sh,.int .i64 me,.int .i64 su,.int .i64 bi,.slice (some ⟨Y,0,none⟩) 1 1,.slice (some ⟨wg,0,none⟩) 1 1,.slice none 0 0,aA,aB,aA,aD]/\Row aj Y 9 [.string H]/\Row aj wg 3 [aA]/\w2.heap.size<=rb/\w2.heap.size<=Y/\w2.heap.size<=wg/\Below w2.heap.size w2 aj);case first=>
  go_region_held3 (λw'=>w'.cell? ⟨l,0,none⟩=some (.int .i64 wk)/\w'.cell? ⟨l,1,none⟩=some (.int .i64 sh)/\w'.cell? ⟨l,2,none⟩=some (.int .i64 me)/\w'.cell? ⟨l,3,none⟩=some (.int .i64 su)/\w'.cell? ⟨l,4,none⟩=some (.int .i64 bi)) (first|go_keep|exact ae.out _ f|exact ae.out _ (f.alloc f.size _)|exact ae.out _ ((f.alloc f.size _).alloc (by rw[bB];have:=f.size;omega) _)|exact ae.out _ az.out|exact ae.out _ I.out) ((first
     |(go_at_call 27;refine(a5.out w2.drew).mono ?_;rintro e w3 ⟨rfl,ay⟩;have f:Below w2.heap.size w2 w3:=I.out.trans (ay.mono I.out.size))
     |(go_at_call 27;refine(a5.out (w2.drew.alloc (.cells #[aA] 3))).mono ?_;rintro e w3 ⟨rfl,ay⟩;have f:Below w2.heap.size w2 w3:=az.out.trans (ay.mono az.out.size);have g2:Row w3 w2.heap.size 3 [aA]:=(aV w2.drew [aA] 3).keep ay (aV w2.drew [aA] 3).lt)))
  .go_wp2_with fail;go_meet;exact⟨w3.heap.size+1+1,w3.heap.size,w3.heap.size+1,rfl,eB (by simp only[bB]),((aV w3 [.string H] 9).alloc _).alloc _,(eB (w:=w3.alloc (.cells #[.string H] 9)) (cs:=[↑aA]) (by simp only[bB])).alloc _,by have:=f.size;omega,f.size,by have:=f.size;omega,((f.alloc f.size _).alloc (by rw[bB];have:=f.size;omega) _).alloc (by simp only[bB];have:=f.size;omega) _⟩
  .go_wp2_with fail;go_meet;exact⟨w3.heap.size+1+1,w3.heap.size+1,w3.heap.size,rfl,eB (by simp only[bB]),(eB (w:=w3.alloc (.cells #[aA] 3)) (cs:=[.string H]) (by simp only[bB])).alloc _,((aV w3 [aA] 3).alloc _).alloc _,by have:=f.size;omega,by have:=f.size;omega,f.size,((f.alloc f.size _).alloc (by rw[bB];have:=f.size;omega) _).alloc (by simp only[bB];have:=f.size;omega) _⟩
  .go_wp2_with fail;go_meet;exact⟨w3.heap.size+1,w3.heap.size,w2.heap.size,rfl,eB (by simp only[bB]),(aV w3 [.string H] 9).alloc _,(g2.alloc _).alloc _,by have:=f.size;omega,f.size,L9,(f.alloc f.size _).alloc (by rw[bB];have:=f.size;omega) _⟩
 case' rest=>
  obtain⟨rb,Y,wg,rfl,e9,RI,fb,j7,h3,iu,au⟩:=hcut;replace b9:=b9.keep au;replace S:=S.keep au S.lt;replace b2:=b2.trans (au.mono b2.size);have ij:=au.size;clear au I az ae g6 g7 g8 g9 b4 a5;obtain⟨V,hv⟩:∃V,V=wc:=⟨_,rfl⟩;subst hv;have a5:Hid (∀W:World,Calls aI.prog 27 #[aC] W λe w'=>e=.returned (.string H)/\Below W.heap.size W w'):=λW=>by rw[<-ba.out,show lM=mk (be 0 8)from by decide+kernel];exact oV 0 W D9 D9
  have b4:V.cell? ⟨l,4,none⟩=some (.int .i64 bi):=S.cell 4;have ae:Hid (∀W:World,Below V.heap.size V W->W.cell? ⟨l,4,none⟩=some (.int .i64 bi)):=λW R=>(S.keep R S.lt).cell 4;have I:Hid (Below V.heap.size V V.drew):=bW B0;have az:Hid (Below V.heap.size V (V.drew.alloc (.cells #[aB,aA,aA,.slice none 0 0] 93))):=I.out.alloc L9 _;go_wp2_with fail;go_cut [9] (λq aj=>∃a3 tg ai:Nat,q=.pointer (some ⟨a3,0,none⟩)/\Row aj a3 93 [.string H,.int .i64 bi,aA,.slice (some ⟨tg,0,none⟩) 1 1]/\Row aj tg 90 [.int .i64 65535,.slice none 0 0,.slice (some ⟨ai,0,none⟩) 1 1]/\Row aj ai 86 [.int .i64 50,.string E]/\V.heap.size<=a3/\V.heap.size<=tg/\V.heap.size<=ai/\Below V.heap.size V aj);case first=>
   have fp:Hid (∀(W:World) (o:Obj),Below V.heap.size V W->(W.alloc o).cell? ⟨l,4,none⟩=some (.int .i64 bi)):=λW o h=>ae.out _ (h.alloc h.size _);have ee:Hid (∀(W:World) (o o':Obj),Below V.heap.size V W->((W.alloc o).alloc o').cell? ⟨l,4,none⟩=some (.int .i64 bi)):=λW o o' h=>fp.out _ _ (h.alloc h.size _);have hr:Hid (∀(W:World) (o o' gz:Obj),Below V.heap.size V W->(((W.alloc o).alloc o').alloc gz).cell? ⟨l,4,none⟩=some (.int .i64 bi)):=λW o o' gz h=>ee.out _ _ _ (h.alloc h.size _);have hs:Hid (∀(W:World) (k:Nat) (a b c d:Value) (o o':Obj),Below V.heap.size V W->V.heap.size<=k->((((((W.setCell ⟨k,0,none⟩ a).setCell ⟨k,1,none⟩ b).setCell ⟨k,2,none⟩ c).setCell ⟨k,3,none⟩ d).alloc o).alloc o').cell? ⟨l,4,none⟩=some (.int .i64 bi)):=λW k a b c d o o' h cf=>ee.out _ _ _ ((((h.setCell (p:=⟨k,0,none⟩) cf _).setCell (p:=⟨k,1,none⟩) cf _).setCell (p:=⟨k,2,none⟩) cf _).setCell (p:=⟨k,3,none⟩) cf _);go_region_held3 (λw'=>w'.cell? ⟨l,4,none⟩=some (.int .i64 bi)) (first|with_reducible exact ae.out _ f|with_reducible exact fp.out _ _ f|with_reducible exact ee.out _ _ _ f|with_reducible exact hr.out _ _ _ _ f|with_reducible exact ae.out _ az.out|with_reducible exact ae.out _ I.out|with_reducible exact hs.out _ _ _ _ _ _ _ _ f F|go_keep) ((first
      |(go_at_call 27;refine(a5.out V.drew).mono ?_;rintro e w3 ⟨rfl,ay⟩;have f:Below V.heap.size V w3:=I.out.trans (ay.mono I.out.size))
      |(go_at_call 27;refine(a5.out (V.drew.alloc (.cells #[aB,aA,aA,.slice none 0 0] 93))).mono ?_;rintro e w3 ⟨rfl,ay⟩;have f:Below V.heap.size V w3:=az.out.trans (ay.mono az.out.size);have fa:Row w3 V.heap.size 93 [aB,aA,aA,.slice none 0 0]:=(aV V.drew [aB,aA,aA,.slice none 0 0] 93).keep ay (aV V.drew [aB,aA,aA,.slice none 0 0] 93).lt)
      |(go_at_call 28;refine(a6.out w3).mono ?_;rintro e w4 ⟨rfl,a9⟩;have A:=fa.keep a9 fa.lt;have F:V.heap.size<=V.heap.size:=L9;replace f:Below V.heap.size V w4:=f.trans (a9.mono f.size);have ju:w4.cell? ⟨V.heap.size,0,none⟩=some ↑aB:=A.cell 0;have jv:w4.cell? ⟨V.heap.size,1,none⟩=some ↑aA:=A.cell 1;have jw:w4.cell? ⟨V.heap.size,2,none⟩=some ↑aA:=A.cell 2;have jx:w4.cell? ⟨V.heap.size,3,none⟩=some (.slice none 0 0):=A.cell 3;have ib:=A.lt;have f0:=A.frozen 0;have f1:=A.frozen 1;have f2:=A.frozen 2;have hh:=A.frozen 3)
      |(go_at_call 28;refine(a6.out w3).mono ?_;rintro e w4 ⟨rfl,a9⟩;replace f:Below V.heap.size V w4:=f.trans (a9.mono f.size))
      |(go_at_call 28;refine(a6.out (w3.alloc (.cells #[aB,aA,aA,.slice none 0 0] 93))).mono ?_;rintro e w4 ⟨rfl,a9⟩;have A:=(aV w3 [aB,aA,aA,.slice none 0 0] 93).keep a9 (aV w3 [aB,aA,aA,.slice none 0 0] 93).lt;have F:V.heap.size<=w3.heap.size:=f.size;have jz:=F;replace f:Below V.heap.size V w4:=(f.alloc f.size _).trans (a9.mono Z9);have ju:w4.cell? ⟨w3.heap.size,0,none⟩=some ↑aB:=A.cell 0;have jv:w4.cell? ⟨w3.heap.size,1,none⟩=some ↑aA:=A.cell 1;have jw:w4.cell? ⟨w3.heap.size,2,none⟩=some ↑aA:=A.cell 2;have jx:w4.cell? ⟨w3.heap.size,3,none⟩=some (.slice none 0 0):=A.cell 3;have ib:=A.lt;have f0:=A.frozen 0;have f1:=A.frozen 1;have f2:=A.frozen 2;have hh:=A.frozen 3)))
   .go_wp2_with fail;go_meet;exact⟨w4.heap.size+1+1,w4.heap.size+1,w4.heap.size,rfl,eB (by simp only[bB]),(eB (w:=w4.alloc (.cells #[.int .i64 50,.string E] 86)) (cs:=[.int .i64 65535,.slice none 0 0,.slice (some ⟨w4.heap.size,0,none⟩) 1 1]) (by simp only[bB])).alloc _,((aV w4 [.int .i64 50,.string E] 86).alloc _).alloc _,by have:=f.size;omega,by have:=f.size;omega,f.size,ID f f.size _ _ _⟩
   .go_wp2_with fail;go_meet;exact⟨w4.heap.size+1,w4.heap.size+1+1,w4.heap.size,rfl,(eB (w:=w4.alloc (.cells #[.int .i64 50,.string E] 86)) (cs:=[.string H,.int .i64 bi,↑aA,.slice (some ⟨w4.heap.size+1+1,0,none⟩) 1 1]) (by simp only[bB])).alloc _,eB (by simp only[bB]),((aV w4 [.int .i64 50,.string E] 86).alloc _).alloc _,by have:=f.size;omega,by have:=f.size;omega,f.size,ID f f.size _ _ _⟩
   .go_wp2_with fail;go_meet;exact⟨w4.heap.size,w4.heap.size+1+1,w4.heap.size+1,rfl,((aV w4 [.string H,.int .i64 bi,aA,.slice (some ⟨w4.heap.size+1+1,0,none⟩) 1 1] 93).alloc _).alloc _,eB (by simp only[bB]),(eB (w:=w4.alloc (.cells #[.string H,.int .i64 bi,aA,.slice (some ⟨w4.heap.size+1+1,0,none⟩) 1 1] 93)) (cs:=[.int .i64 50,.string E]) (by simp only[bB])).alloc _,f.size,by have:=f.size;omega,by have:=f.size;omega,ID f f.size _ _ _⟩
   all_goals(go_wp2_with fail;go_meet;have ec:=(((f.setCell (p:=⟨_,0,none⟩) F (.string H)).setCell (p:=⟨_,1,none⟩) F (.int .i64 bi)).setCell (p:=⟨_,2,none⟩) F ↑aA).setCell (p:=⟨_,3,none⟩) F (.slice (some ⟨w4.heap.size+1,0,none⟩) 1 1);exact⟨_,w4.heap.size+1,w4.heap.size,rfl,(((((A.set 0 _).set 1 _).set 2 _).set 3 _).alloc _).alloc _,eB (by simp only[bB,lG]),(eB (cs:=[.int .i64 50,.string E]) (by simp only[lG])).alloc _,F,by have:=f.size;omega,f.size,(ec.alloc ec.size _).alloc (by have:=ec.size;rw[bB];omega) _⟩)
  case' rest=>
   obtain⟨a3,tg,ai,rfl,RB,A,dt,j2,ik,ie,au⟩:=hcut;have cz:eH V rb w2.heap.size ⟨nb,⟨wk,sh,me,su,bi⟩,.slice (some ⟨Y,0,none⟩) 1 1,.slice (some ⟨wg,0,none⟩) 1 1,.slice none 0 0,[H],[0],[],0,⟨#[]⟩,0⟩:=⟨e9,fE RI rfl h3 D9,fE fb rfl iu D9,iZ _ _ _ _,ij⟩;generalize bs:(⟨nb,⟨wk,sh,me,su,bi⟩,.slice (some ⟨Y,0,none⟩) 1 1,.slice (some ⟨wg,0,none⟩) 1 1,.slice none 0 0,[H],[0],[],0,⟨#[]⟩,0⟩:kC)=r0 at cz;have fy:r0.kv=.slice none 0 0:=by rw[<-bs]
   obtain⟨z,hx⟩:∃z,z=wc:=⟨_,rfl⟩;subst hx;have j8:=au.size;have hc:z.cell? ⟨a3,0,none⟩=some (.string H):=RB.cell 0;have hf:z.cell? ⟨a3,1,none⟩=some (.int .i64 bi):=RB.cell 1;have a8:z.cell? ⟨a3,2,none⟩=some ↑aA:=RB.cell 2;have hg:z.cell? ⟨a3,3,none⟩=some (.slice (some ⟨tg,0,none⟩) 1 1):=RB.cell 3;have av:Below z.heap.size z (((z.alloc (.cells #[.slice none 0 0] 42)).alloc (.cells #[aB,aA,aA,aA] 50)).alloc (.cells #[.slice (some ⟨z.heap.size+1,0,none⟩) 1 1] 42)):=ID B0 L9 _ _ _;have dm:=((aV z [.slice none 0 0] 42).alloc (.cells #[aB,aA,aA,aA] 50)).alloc (.cells #[.slice (some ⟨z.heap.size+1,0,none⟩) 1 1] 42);have dn:=(eB (w:=z.alloc (.cells #[.slice none 0 0] 42)) (cs:=[↑aB,↑aA,↑aA,↑aA]) (t:=50) (k:=z.heap.size+1) (by simp only[bB])).alloc (.cells #[.slice (some ⟨z.heap.size+1,0,none⟩) 1 1] 42);have dk:=eB (w:=(z.alloc (.cells #[.slice none 0 0] 42)).alloc (.cells #[aB,aA,aA,aA] 50)) (cs:=[.slice (some ⟨z.heap.size+1,0,none⟩) 1 1]) (t:=42) (k:=z.heap.size+1+1) (by simp only[bB]);go_wp2_with fail;generalize((z.alloc (.cells #[.slice none 0 0] 42)).alloc (.cells #[aB,aA,aA,aA] 50)).alloc (.cells #[.slice (some ⟨z.heap.size+1,0,none⟩) 1 1] 42)=X at av dm dn dk|-;clear hc hf a8 hg;obtain⟨N,hz⟩:∃N:Nat,bi=(N:Int):=⟨bi.toNat,O9⟩;subst hz;have hq:N<=2:=O9;have fo:eH X rb w2.heap.size r0:=(cz.keep au).keep av;have dv:=A.keep av A.lt;have du:=dt.keep av dt.lt;have fq:cM V.heap.size X (.slice (some ⟨tg,0,none⟩) 1 1) [⟨65535,.slice none 0 0,[],.slice (some ⟨ai,0,none⟩) 1 1,[⟨50,E⟩]⟩]:=by
    refine⟨fE dv rfl ik D9,λd M=>?_,λd M=>?_⟩;.simp only[gF]at M;subst M;exact⟨iZ _ _ _ _,λk e=>by cases e⟩
    .simp only[gF]at M;subst M;exact⟨fE du rfl ie D9,λk e ha=>by cases e;cases ha;exact dv.ne du D9 rfl⟩
   have fc:Apart [⟨65535,.slice none 0 0,[],.slice (some ⟨ai,0,none⟩) 1 1,[⟨50,E⟩]⟩]:=λi j a b h4 eh bq=>by have ah:=(eJ.1 eh).1;have b7:=(eJ.1 bq).1;simp only[nT]at ah b7;omega
   have fs:kN 0 X (.slice (some ⟨z.heap.size,0,none⟩) 1 1) [(.slice none 0 0,[])]:=vM dm (iZ _ _ _ _) (eX _);have fi:kN z.heap.size X (.slice (some ⟨z.heap.size+1+1,0,none⟩) 1 1) [(.slice (some ⟨z.heap.size+1,0,none⟩) 1 1,[ya])]:=vM dk (fE dn rfl O9 D9) O9;have fz:eY.fits ⟨50,E⟩=true:=by rw[<-a4.out];decide+kernel
   have ak:qD [] 65535 [⟨65535,.slice none 0 0,[],.slice (some ⟨ai,0,none⟩) 1 1,[⟨50,E⟩]⟩] [(.slice none 0 0,[])] [(.slice (some ⟨z.heap.size+1,0,none⟩) 1 1,[ya])]:=by
    refine⟨rfl,rfl,Uy,λd M=>?_,λi d M=>?_,λi d t hi M _=>?_,λt bb x P=>?_,λt bb=>?_⟩;.cases M;exact⟨rfl,rfl⟩
    .have ah:=(eJ.1 M).1;simp only[nT]at ah;have b7:i=0:=O9;subst b7;cases M;exact⟨⟨(by decide:(0:Int)<=65535),(by decide:(65535:Int)<=65535)⟩,⟨(by decide:1<=1),(by decide:1<=2)⟩,λx P=>by simp only[gF]at P;subst P;exact fz⟩
    .have ah:=(eJ.1 M).1;simp only[nT]at ah;omega
    .simp only[gF]at bb;subst bb;cases P
    .simp only[gF]at bb;subst bb;exact⟨⟨(by decide:1<=1),(by decide:1<=2)⟩,λx P=>by simp only[gF]at P;subst P;exact⟨D9,D9⟩⟩
   have fh:tT [(.slice (some ⟨z.heap.size+1,0,none⟩) 1 1,[ya])] r0.kv:=⟨λi j a b h4 eh bq=>by have ah:=(eJ.1 eh).1;have b7:=(eJ.1 bq).1;simp only[nT]at ah b7;omega,λa _ k _ e=>by rw[fy]at e;cases e⟩
   have ca:Hid (∀n:Nat,n<65536->kK (wB (be 0 8) N ([⟨65535,.slice none 0 0,[],.slice (some ⟨ai,0,none⟩) 1 1,[⟨50,E⟩]⟩].map dA.m) n)=true):=λn cj=>ak.fits (by decide:1<=3) (λx P=>by cases P) (bI _ _) O9 cj;have br:=tS (be 0 8) N (some ⟨tg,0,none⟩) 1 _ _ _ _ _ false X fo fq fc fs fi ak.pos (by decide:1<=9) ak.small ak.l1 ak.l2 (λi d s hi M ey=>by rw[(ak.ins i d s hi M ey).2,iB]) (λs ey x P=>by cases ak.yi s ey x P) fh (λm ic=>by have:=(ak.qJ m ic).1;omega) (by rw[<-bs];exact eX _) (λn cj=>vL (ca.out n cj) (vK _ _ _)) O9 (ca.out 0 O9);have gk:tR (gQ [((.slice none 0 0:Value),[])] (fF ([⟨65535,.slice none 0 0,[],.slice (some ⟨ai,0,none⟩) 1 1,[⟨50,E⟩]⟩].map dA.m)) false) ([⟨65535,.slice none 0 0,[],.slice (some ⟨ai,0,none⟩) 1 1,[⟨50,E⟩]⟩].map dA.m)=yj:=by rw[<-a4.out];rfl
   have ez:([⟨65535,.slice none 0 0,[],.slice (some ⟨ai,0,none⟩) 1 1,[⟨50,E⟩]⟩].map dA.m)=yj:=by rw[<-a4.out];rfl
   have iy:mk (be 0 8)=H:=by rw[<-ba.out];decide+kernel
   rw[gk,ez,iy]at br;rw[ez]at ca;simp only[nT,qM,T9]at br;replace br:=aJ br;replace ak:=aJ ak;clear fh fq fc fs fi gk ez fz dv du dm dn dk;refine br.out.mono ?_;rintro e w4 ⟨ho,⟨kv,ig⟩,n,cj,rfl,gj⟩;clear br;have c8:=ca.out n cj;have fw:=Ix (vI c8);have db:Shown (be 0 8) N yj n/\∀j,j<n->¬Shown (be 0 8) N yj j:=by
    obtain ah|ah:=gj;.exact ah
    .obtain⟨k,h6,h7⟩:=GW (be 0 8) N yj O9;exact absurd h7 (ah k h6)
   clear gj;have ep:=Xh hq db.1 db.2;have gv:Xc (uH rb r0) V w4:=((jB au).then av).trans ho (λk cf e=>by
    obtain e|e|⟨e,_⟩|⟨e,_⟩:=e;.exact .inl e
    .exact .inr (.inl e)
    .omega
    .omega)
   have g1:=S.xc gv (by
    rintro(e|e|e|e);.omega
    .rw[fy]at e;cases e
    .rw[<-bs]at e;have a8:some Y=some l:=e;injection a8 with a8;omega
    .rw[<-bs]at e;have a8:some wg=some l:=e;injection a8 with a8;omega)
   have gy:Mf Q.heap.size V w4:=cz.mf gv ⟨O9,gg⟩;have dd:w.heap.size<=Q.heap.size:=O9;have ff:Lw w.heap.size w w4:=(Lw.below b2).trans (gy.lw.mono dd);have fl:gB w4 nb ⟨wk,sh,me,su,(N:Int)⟩ di:=b9.mf gy;have ga:∀b,mZ (wS (be 0 8) N yj n)=some b->mk b.parent=di.fT:=λb bq=>by rw[vI c8]at bq;cases bq;rw[<-b8.out];exact(by decide+kernel:mk (be 0 8)=lM)
   have a2:=yb (wS (be 0 8) N yj n) w4 fl ga;have et:=SS (c:=⟨wk,sh,me,su,(N:Int)⟩) (D:=Q.heap.size) c8 rfl db.1 ep eo;rw[b8.out]at et;rw[et]at a2;clear et;have ia:di.lo=Q.heap.size:=by rw[<-b8.out];rfl
   rw[ba.out,ia,a4.out]at a2;rw[ba.out]at ep;unfold ptr at a2;have ef:wS (be 0 8) N yj n≠[]:=Xb;generalize wS (be 0 8) N yj n=C at a2 ep ef fw|-;have j5:(mk C).toList.isEmpty=false:=EC ef;simp only at a2;replace a2:=aJ a2;clear b9 cz fo ga c8 ca db e9 RI fb A dt RB ef fl a6 a5 ae I az b4;go_wp2_with fail;refine a2.out.mono ?_;rintro e bd ⟨rfl,L,O⟩;clear a2;have J:=ig.ck O (mQ D9 D9 D9 D9 D9 D9) (mQ D9 D9 D9 D9 D9 D9) (mQ D9 D9 D9 D9 D9 D9) (mQ D9 D9 D9 D9 D9 D9);have G:=g1.ck O (mQ D9 D9 D9 D9 D9 D9);have b5:Below bd.heap.size bd (bd.alloc (.cells #[aA,aG] 37)):=B0.alloc L9 _;have π:=aV bd [aA,aG] 37;go_wp2_with fail;replace L:=L.keep b5;replace J:=J.keep b5;replace O:=O.then b5;replace G:=G.keep b5 G.lt;have hl:=π.lt;generalize bd.alloc (.cells #[aA,aG] 37)=dw at b5 π L J O G hl|-;have dc:=WB dw L;unfold ptr AN.NV at dc;simp only at dc;refine dc.mono ?_;rintro e bz ⟨rfl,dx⟩;clear dc b5;have bk:Below dw.heap.size dw (bz.alloc (.cells #[.string (iL C),aG,.int .i64 (2^N)] 55)):=dx.alloc dx.size _;have ar:=aV bz [.string (iL C),aG,.int .i64 (2^N)] 55;replace L:=L.keep bk;replace J:=J.keep bk;replace O:=O.then bk;replace G:=G.keep bk G.lt;replace π:=π.keep bk π.lt;go_wp2_with fail;clear bk dx;have hn:=ar.lt;generalize bz.alloc (.cells #[.string (iL C),aG,.int .i64 (2^N)] 55)=g3 at ar L J O π G hn|-;have ei:=SX ⟨jL 65535 [] [⟨50,E⟩],0,50,E,1⟩ g3 L rfl;unfold ptr at ei;refine ei.mono ?_;rintro e ao ⟨v,rfl,bc,a7⟩;obtain⟨cg,cc,rfl⟩:=cO bc 0 rfl;replace L:=L.keep a7;replace J:=J.keep a7;replace O:=O.then a7;replace G:=G.keep a7 G.lt;replace π:=π.keep a7 π.lt;replace ar:=ar.keep a7 ar.lt;clear ei a7;have i6:ao.cell? ⟨bd.heap.size,0,none⟩=some ↑aA:=π.cell 0;have i7:ao.cell? ⟨bd.heap.size,1,none⟩=some ↑aG:=π.cell 1;have i9:ao.cell? ⟨bz.heap.size,0,none⟩=some (.string (iL C)):=ar.cell 0;have ja:ao.cell? ⟨bz.heap.size,1,none⟩=some ↑aG:=ar.cell 1;have jb:ao.cell? ⟨bz.heap.size,2,none⟩=some (.int .i64 (2^N)):=ar.cell 2;have b4:ao.cell? ⟨l,4,none⟩=some (.int .i64 (N:Int)):=G.cell 4;have jc:=Xi 0 1;have jd:=Xj (iL C) 1 (2^N);have ir:IntKind.i64.wrap (2^N)=2^N:=by rw[(wD N O9).1];simp
   have ed:(0:Int)<=(N:Int):=O9;clear ej ek;go_wp2_with fail;go_quiet (fail);have fv:fJ (fF yj) [[ya]]=[⟨jL 65535 [] [⟨50,E⟩],0,0,0⟩]:=by rw[<-a4.out];exact acv
   have h2:r0.aP=[]:=by rw[<-bs]
   simp only[fv,h2,CM]at J;generalize eg:jL 65535 [] [⟨50,E⟩]=T at J L bc fv;replace eg:=aJ eg;have bo:Below ao.heap.size ao (ao.drewN nq):=jN B0;replace L:=L.keep bo;replace J:=J.keep bo;replace O:=O.then bo;replace G:=G.keep bo G.lt;replace bc:=aY bc bo;clear i6 i7 i9 ja jb b4 π ar jc jd ir bo;generalize ao.drewN nq=ab at L J O G bc|-;obtain⟨af,kc,h8,eu⟩:=pI J.aP (k:=0) (x:=⟨T,0,0,0⟩) rfl;have k0:ab.cell? ⟨af,0,none⟩=some (.string T):=eu 0 _ rfl;have gp:ab.cell? ⟨af,1,none⟩=some ↑aA:=eu 1 _ rfl;have h9:kv=.slice (some ⟨af,0,none⟩) 1 kc:=h8;subst h9;have oc:=sx (g:=cg) bc rfl;have a0:Hid (∀W:World,Below ab.heap.size ab W->W.cell? ⟨cg,0,none⟩=some (.string T)/\W.cell? ⟨cg,1,none⟩=some ↑aA/\W.cell? ⟨cg,2,none⟩=some (.int .i64 50)/\W.cell? ⟨cg,3,none⟩=some (.string E)/\W.cell? ⟨cg,4,none⟩=some ↑aG/\W.cell? ⟨cg,5,none⟩=some ↑aD/\W.cell? ⟨rb,8,none⟩=some (.slice (some ⟨af,0,none⟩) 1 kc)/\W.cell? ⟨af,0,none⟩=some (.string T)/\W.cell? ⟨af,1,none⟩=some ↑aA):=λW R=>by
    refine⟨aW R ?_,aW R ?_,aW R ?_,aW R ?_,aW R ?_,aW R ?_,(J.keep R).row.cell 8,aW R k0,aW R gp⟩;.exact oc 0 _ rfl
    .exact oc 1 _ rfl
    .exact oc 2 _ rfl
    .exact oc 3 _ rfl
    .exact oc 4 _ rfl
    .exact oc 5 _ rfl
   have a6:Hid (∀W:World,Calls aI.prog 28 #[aG] W λe w'=>e=.returned (.string E)/\Below W.heap.size W w'):=λW=>by rw[<-a4.out];exact qw 1 W D9 D9
   have I:Hid (Below ab.heap.size ab ab.drew):=bW B0;have je:=SU T E 0 50 1 true;obtain⟨ji,jj,jk,jl,jm,jo,jq,jr,js⟩:=a0.out _ B0;have j0:(0:Int)<((1:Nat):Int):=D9;go_wp2_with fail;go_cut [101] (λq aj=>q=↑aF/\Below ab.heap.size ab aj);case first=>
    go_region_held3 (λW=>W.cell? ⟨cg,0,none⟩=some (.string T)/\W.cell? ⟨cg,1,none⟩=some ↑aA/\W.cell? ⟨cg,2,none⟩=some (.int .i64 50)/\W.cell? ⟨cg,3,none⟩=some (.string E)/\W.cell? ⟨cg,4,none⟩=some ↑aG/\W.cell? ⟨cg,5,none⟩=some ↑aD/\W.cell? ⟨rb,8,none⟩=some (.slice (some ⟨af,0,none⟩) 1 kc)/\W.cell? ⟨af,0,none⟩=some (.string T)/\W.cell? ⟨af,1,none⟩=some ↑aA) (first|with_reducible exact a0.out _ f|with_reducible exact a0.out _ I.out|go_keep) ((go_at_call 28;refine(a6.out ab.drew).mono ?_;rintro e dh ⟨rfl,b6⟩;have f:Below ab.heap.size ab dh:=I.out.trans (b6.mono I.out.size)))
    go_wp2_with fail;go_meet;exact⟨rfl,f⟩
   case' rest=>
    obtain⟨rfl,b0⟩:=hcut;replace L:=L.keep b0;replace J:=J.keep b0;replace O:=O.then b0;replace G:=G.keep b0 G.lt;have cm:eH wc rb w2.heap.size ⟨nb,⟨wk,sh,me,su,(N:Int)⟩,.slice (some ⟨Y,0,none⟩) 1 1,.slice (some ⟨wg,0,none⟩) 1 1,.slice (some ⟨af,0,none⟩) 1 kc,[H],[0],[⟨T,0,0,0⟩],0,⟨#[]⟩,0⟩:=by rw[<-bs]at J;exact J
    have fg:Lw w.heap.size w wc:=ff.trans (O.lw.mono dd);clear J a0 ji jj jk jl jm jo jq jr js I je a6 oc eu k0 gp bc O ff b0;have g4:wc.cell? ⟨rb,10,none⟩=some ↑aB:=cm.row.cell 10;have f10:=cm.row.frozen 10;have ih:=cm.row.lt;have ew:=cm.made (mk C);have c6:(wc.setCell ⟨rb,10,none⟩ (.string (mk C))).cell? ⟨rb,6,none⟩=some (.slice (some ⟨Y,0,none⟩) 1 1):=ew.row.cell 6;have dj:=aV (wc.setCell ⟨rb,10,none⟩ (.string (mk C))) [.string (iL C)] 9;rw[lG]at dj;have ag:Below (wc.setCell ⟨rb,10,none⟩ (.string (mk C))).heap.size (wc.setCell ⟨rb,10,none⟩ (.string (mk C))) ((wc.setCell ⟨rb,10,none⟩ (.string (mk C))).alloc (.cells [.string (iL C)].toArray 9)):=B0.alloc L9 _;have bu:=ew.keep ag;have dq:((wc.setCell ⟨rb,10,none⟩ (.string (mk C))).alloc (.cells [.string (iL C)].toArray 9)).ownsRow w2.heap.size 9 1 (.slice (some ⟨Y,0,none⟩) 1 1) 1 [.string H]:=bu.ids;have e5:=bu.base;have gw:Xc (uH rb ⟨nb,⟨wk,sh,me,su,(N:Int)⟩,.slice (some ⟨Y,0,none⟩) 1 1,.slice (some ⟨wg,0,none⟩) 1 1,.slice (some ⟨af,0,none⟩) 1 kc,[H],[0],[⟨T,0,0,0⟩],0,⟨#[]⟩,0⟩) wc ((wc.setCell ⟨rb,10,none⟩ (.string (mk C))).alloc (.cells [.string (iL C)].toArray 9)):=((jO _ wc).setCell ⟨rb,10,none⟩ _ (λ_=>.inl rfl)).then ag;have e7:=(G.aM ⟨rb,10,none⟩ (.string (mk C)) (by show l≠rb;omega)).keep ag (G.aM ⟨rb,10,none⟩ (.string (mk C)) (by show l≠rb;omega)).lt;replace bu:=aJ bu;clear ag ew;obtain⟨gn,cd,cu,cv,cw⟩:=info_parts Qx;go_wp2_with (at_builtin;refine wpList_append_own_at _ rfl _ _ 41 rfl w2.heap.size 9 gn _ 1 16 aI.underlying41 cd cu cv cw rfl D9 (.slice (some ⟨Y,0,none⟩) 1 1) 1 [.string H] rfl dq ⟨_,0,none⟩ 1 1 [.string (iL C)] rfl rfl (λj u h5=>by rw[add0,dj.cell];exact h5) (λu cq=>by simp at cq;subst cq;rfl) (by unfold maxLen;omega) O9 e5 ?_;intro kg dh e3 b6 _ i1;refine BG.out ?_);obtain⟨cy,bx,gx⟩:=bu.out.idp b6 e3;have e8:=nM e7 dq b6 D9;obtain⟨dz,ea,iq⟩:=cO e3 1 rfl;subst iq;have g5:dh.cell? ⟨rb,6,none⟩=some (.slice (some ⟨Y,0,none⟩) 1 1):=cy.cell 6;have hj:=cy.frozen 6;have i2:=cy.lt;have e0:=gw.trans gx (λk _ e=>by obtain e|e:=e;exact .inl e;exact .inr (.inr (.inl e)));have bj:=e8.aM ⟨rb,6,none⟩ (.slice (some ⟨dz,0,none⟩) (1+1) ea) (by show l≠rb;omega);clear bu dq dj e5 b6 e3 cy gw gx e8 e7 G cd cu cv cw c6 g4 f10 ih i1;refine⟨?_⟩;go_wp2_with fail;generalize dh.setCell ⟨rb,6,none⟩ (.slice (some ⟨dz,0,none⟩) (1+1) ea)=aa at bx bj e0|-;replace bx:eH aa rb w2.heap.size ⟨nb,⟨wk,sh,me,su,(N:Int)⟩,.slice (some ⟨dz,0,none⟩) (1+1) ea,.slice (some ⟨wg,0,none⟩) 1 1,.slice (some ⟨af,0,none⟩) 1 kc,[H,iL C],[0],[⟨T,0,0,0⟩],0,mk C,0⟩:=bx;obtain⟨bf,gm⟩:∃y,IntKind.i64.wrap (2^N)=y:=⟨_,rfl⟩;have iw:Hid (0<=bf/\bf<=8):=by obtain⟨i3,i4,i5⟩:=wD N O9;rw[i3]at gm;rw[<-gm];exact⟨i4,i5⟩
    have a0:Hid (∀W:World,Below aa.heap.size aa W->W.cell? ⟨rb,7,none⟩=some (.slice (some ⟨wg,0,none⟩) 1 1)/\W.cell? ⟨l,4,none⟩=some (.int .i64 (N:Int))):=λW R=>⟨(bx.keep R).row.cell 7,(bj.keep R bj.lt).cell 4⟩;have I:Hid (Below aa.heap.size aa aa.drew):=bW B0;have ag:Below aa.heap.size aa (aa.drew.alloc (.cells [.int .i64 bf].toArray 3)):=I.out.alloc L9 _;have e6:=aV aa.drew [.int .i64 bf] 3;have da:=bx.keep ag;have dp:(aa.drew.alloc (.cells [.int .i64 bf].toArray 3)).ownsRow w2.heap.size 3 1 (.slice (some ⟨wg,0,none⟩) 1 1) 1 [aA]:=da.bS;have e4:=da.base;obtain⟨gn,cd,cu,cv,cw⟩:=info_parts Xa;have μ:=a0.out _ I.out;clear g5 hj i2;refine po 12 (λW=>W.cell? ⟨rb,7,none⟩=some (.slice (some ⟨wg,0,none⟩) 1 1)/\W.cell? ⟨l,4,none⟩=some (.int .i64 (N:Int))) K8 ?_;refine cA 0 μ ?_;simp only[Act.put,bE];refine cA 1 μ ?_;simp only[Act.put,bE];refine cA 2 μ ?_;simp only[Act.put,bE];refine cA 3 μ ?_;simp only[Act.put,bE];refine cA 4 μ ?_;simp only[Act.put,bE];refine cA 5 μ ?_;simp only[Act.put,bE];refine cA 6 μ ?_;simp only[Act.put,bE];refine cA 7 μ ?_;simp only[Act.put,bE];refine lI 8 K8 rfl (λK F=>?_);go_simp;refine F.out _ _ (λ_=>a0.out _ ag) ?_;clear F K μ;have μ:=a0.out _ ag;try simp only[Act.put,bE]
    refine lI 9 K8 rfl (λK F=>?_);refine oX aI.underlying33 cd cu cv cw rfl D9 D9 w2.heap.size rfl _ _ rfl (.slice (some ⟨wg,0,none⟩) 1 1) 1 [aA] E9 dp 1 [.int .i64 bf] rfl aa.heap.size 1 E9 e6 (λu cq=>by simp at cq;subst cq;rfl) O9 O9 e4 ?_;intro j9 de e2 eb i0 iz;obtain⟨cx,gd,gq⟩:=da.wkp eb e2;have bp:de.cell? ⟨rb,7,none⟩=some (.slice (some ⟨wg,0,none⟩) 1 1)/\de.cell? ⟨l,4,none⟩=some (.int .i64 (N:Int)):=⟨cx.cell 7,(nM (bj.keep ag bj.lt) dp eb D9).cell 4⟩;refine F.out _ _ (λ_=>bp) ?_;clear F K μ;have μ:=bp;show jZ _ _ _ _ _ _ _ _ (Act.put _ (some 125) _) _;simp only[Act.put,bE];refine lI 10 K8 rfl (λK F=>?_);go_simp;refine F.out _ _ (λ_=>bp) ?_;clear F K;try simp only[Act.put,bE]
    refine lI 11 K8 rfl (λK F=>?_);go_simp;refine F.out _ _ (λ_=>bp) ?_;clear F K;try simp only[Act.put,bE]
    obtain⟨hk,gc,im⟩:=cO e2 1 rfl;subst im;have jf:de.cell? ⟨rb,7,none⟩=some (.slice (some ⟨wg,0,none⟩) 1 1):=bp.1;have jg:=cx.frozen 7;have jh:=cx.lt;refine lI 12 K8 rfl (λK F=>?_);go_simp;refine F.out _ _ (λh=>absurd rfl h) ?_;clear F K μ;refine Dc K8 ?_ _;have gu:=(e0.then ag).trans gq (λk _ e=>by obtain e|e:=e;exact .inl e;exact .inr (.inr (.inr e)));have e1:=cm.mf (LB:=Q.heap.size) gu ⟨O9,gg⟩;have fj:=L.mf e1;have fe:=fg.trans (e1.lw.mono dd);clear a0 I ag e6 da dp e4 cd cu cv cw e2 eb i0 iz cx bp jf jg jh gq e0 bx bj gu e1 L fg;generalize de.setCell ⟨rb,7,none⟩ (.slice (some ⟨hk,0,none⟩) (1+1) gc)=jy at gd fj fe|-;go_wp2_with fail;go_ret;have ht:(cR T).length=8:=by rw[<-eg.out];unfold jL;rw[kB,bI]
    have hy:(cR H).length=8:=by rw[<-ba.out];decide+kernel
    refine⟨rb,rfl,w2.heap.size,_,_,⟨fe,gd,fj,⟨?_,?_,?_,?_⟩,⟨?_,?_,?_,?_,?_,?_,?_⟩,?_,?_,?_,List.cons_ne_nil _ _,?_⟩⟩;.exact Pb _ (gF.2 rfl)
    .exactλi hi=>hi
    .exact iF.put (λp c h=>by cases h) _ ⟨_,gF.2 rfl,rfl⟩
    .exactλt bb=>by cases bb
    .exact I9 2
    .rfl
    .intro x P;have cr:x=0\/x=bf:=by
      obtain e|e:=gA.1 P;.exact .inl e
      .exact .inr (gF.1 e)
     show 0<=x/\x<=8*((2:Nat):Int);have:=iw.out;obtain rfl|rfl:=cr<;>omega
    .show 1<=6*2;omega
    .intro x P;have cr:x=H\/x=iL C:=by
      obtain e|e:=gA.1 P;.exact .inl e
      .exact .inr (gF.1 e)
     obtain rfl|rfl:=cr;.exact hy
     .exact fw
    .intro x P;have cr:=gF.1 P;subst cr;exact⟨⟨⟨(by decide:(0:Int)<=0),(by decide:(0:Int)<4)⟩,⟨(by decide:(0:Int)<=0),(by decide:(0:Int)<64)⟩⟩,ht,⟨(by decide:(0:Int)<=0),(by decide:(0:Int)<=255)⟩⟩
    .exact⟨(by decide:(0:Int)<=0),(by decide:(0:Int)<=65535)⟩
    .exact M.out.symm
    .exact⟨O9,O9,dd⟩
    .exact I9 2
    .exact afu _ eo ⟨nB 0,show(0:Int)<8 by decide⟩ (qN 1)
def Qy(c a s):(fN c a s).2.2.lo=a.lo:=by unfold fN;cases mZ s with
 |none=>rfl
 |some b=>
   repeat' split
   all_goals rfl
structure uV(C:Nat)(w:World)(sa:Option Addr)(l:List (Int×List Int)):Prop where
 at_:l≠[]->∃g o,g<C/\sa=some ⟨g,o,none⟩/\∀(i:Nat) (x:Int×List Int),l[i]?=some x->∃va vc,w.cell? ⟨g,o+i*2,none⟩=some (.int .i64 x.1)/\w.cell? ⟨g,o+i*2+1,none⟩=some (.slice va x.2.length vc)/\nW C w (.slice va x.2.length vc) x.2
def uV.lw{C w w' b l}(h:uV C w b l)(x:Lw C w w'):uV C w' b l:=by refine⟨λf=>?_⟩;obtain⟨g,o,a,j,k⟩:=h.at_ f;refine⟨g,o,a,j,λi y m=>?_⟩;obtain⟨n,p,c,d,e⟩:=k i y m;exact⟨n,p,Iw x a c,Iw x a d,e.lw x L9⟩
structure Cm(w wr:World)(rb B m:Nat)(c:lA)(r:kC)(a:AN):Prop where
 lw:Lw w.heap.size w wr
 run:eH wr rb B r
 node:gB wr r.nb r.c a
 knows:Knows r a
 gL:ry r m
 c:r.c=Cj c
 lo:w.heap.size<=rb/\w.heap.size<=B/\w.heap.size<=a.lo
 al:a.ids.length<=m
 cn:r.aP≠[]
def Xk.pst{w w' rb B c r a}(h:Xk w w' rb B c r a):Cm w w' rb B 2 c r a:=⟨h.lw,h.run,h.node,h.knows,h.gL,h.c,h.lo,h.al,h.cn⟩
def Cm.keep{w wr w' rb B m c r a}(h:Cm w wr rb B m c r a)(b:Below wr wr w'):Cm w w' rb B m c r a:=⟨h.lw.trans (Lw.below b),h.run.keep b,h.node.keep b,h.knows,h.gL,h.c,h.lo,h.al,h.cn⟩
def Cm.make{w wr w' rb B m c r b a}(h:Cm w wr rb B m c r a)(p:ED wr w' rb B m r a b):Cm w w' rb B (m+1) c b a:=by
 have mf:=h.run.mf (LB:=(w:Nat)) p.fx ⟨h.lo.1,h.lo.2.1⟩;have d:=h.node.mf mf;refine⟨h.lw.trans mf.lw,p.run,?_,h.knows.grow p.ids p.aP,p.gL,p.c.trans h.c,h.lo,Nat.le_succ_of_le h.al,λe=>?_⟩;.rw[p.nb,p.c];exact d
 .obtain⟨x,l,f⟩:=List.exists_cons_of_ne_nil h.cn;have:=p.aP x (by rw[f];exact Jk);rw[e]at this;cases this
def Cm.sub{w wr w' rb B m c r a s}(h:Cm w wr rb B (m+1) c r a)(i:a.ids.length<=m)(g:zz r a s)(f:gB w' r.nb r.c (fN r.c a s).2.2)(x:Ck a.lo Y2 wr w'):Cm w w' rb B (m+1) c r (fN r.c a s).2.2:=by obtain⟨e,j⟩:=h.knows.sub (c:=r.c) (s:=s) (λb d=>(g.it b d).2);refine⟨h.lw.trans (x.lw.mono h.lo.2.2),h.run.ck x (mQ D9 D9 D9 D9 D9 D9) (mQ D9 D9 D9 D9 D9 D9) (mQ D9 D9 D9 D9 D9 D9) (mQ D9 D9 D9 D9 D9 D9),f,e,h.gL,h.c,?_,O9,h.cn⟩;rw[Qy];exact h.lo
end Go.Proofs.aH
