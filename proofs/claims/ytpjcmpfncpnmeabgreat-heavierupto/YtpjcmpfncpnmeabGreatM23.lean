import Derived.Test.YtpjcmpfncpnmeabGreatM18
import Derived.Test.YtpjcmpfncpnmeabGreatM22
set_option linter.all false
set_option maxHeartbeats 16000000
set_option maxRecDepth 100000
namespace Go.Proofs.aH
open Go.RowKit Go.Sort
attribute [local go_sem↓] Go.wp_at_zero Go.wp_at_succ
def Mh{B}{w:World}{v D k x}(h:w.ownsRow B 60 6 v D.length (fJ D))(e:D[k]?=some x):∃g c,v=.slice (some ⟨g,0,none⟩) D.length c/\g<w/\w.cell? (g,k*6)=some x.tx/\w.cell? (g,k*6+1)=some x.idx/\w.cell? (g,k*6+2)=some x.val/\w.cell? (g,k*6+3)=some x.lock/\w.cell? (g,k*6+4)=some x.aX/\w.cell? (g,k*6+5)=some ↑aD:=by
 have m:=(bY.1 e).1;have a:=λg (b:v.ownBlock=some g)=>h.cells (g:=g) b;obtain⟨_,h0⟩|⟨g,cap,cur,rfl,i,b,_⟩:=h.2;.omega
 .have a:=a g rfl;have q:∀j,j<6->w.cell? (g,k*6+j)=some ((sD x)[j]!):=λj l=>by
   have d:=uC D (k*6+j) O9;have f:(k*6+j)/6=k:=O9;have e2:(k*6+j)%6=j:=O9;have e3:D[k]! =x:=by rw[Vu,e];rfl
   rw[f,e2,e3]at d;have:=a _ _ d;rwa [add0]at this
  exact⟨g,cap,rfl,bD b,q 0 O9,q 1 O9,q 2 O9,q 3 O9,q 4 O9,q 5 O9⟩
def Gj{B B' v f}(D w)(c:w.ownsRow B 60 6 v D.length (fJ D))(d:w.ownsRow B' 60 6 f D.length (fJ D))(hl:D.length<=100000):Calls Vp 13 #[v,f] w λe w'=>e=.returned ↑aD/\Below w w w':=by
 obtain⟨va,vc,rfl⟩:=bF c;obtain⟨P,uc,rfl⟩:=bF d;go_enter fA Tryz.func13,Tryz.ntmps13;go_wp2;go_loopw [5] (λi wr=>∃k:Nat,k<=D.length/\i=↑k/\Below w w wr) (λi _=>D.length -(intOf i).toNat);case atStart=>exact⟨0,O9,rfl,B0⟩
 case round=>
  obtain⟨k,L,rfl,a⟩:=hrel;by_cases j:k<D.length
  .have b:=bP j;generalize D[k]=x at b;have⟨g,cc,l,J,q0,t,u,y,z,A⟩:=Mh (aV c a) b;have⟨g',I,m,K,n,o,p,q,r,s⟩:=Mh (aV d a) b;cases l;cases m;have M:(0:Int)<=(k:Int):=O9;have N:(k:Int)<(D.length:Int):=O9;have⟨G,E,H,F,C⟩:=x;simp only at q0 t u y z A n o p q r s;have O:=HB G F E H C true;go_wp2;go_region;all_goals go_wp2
   all_goals go_roundw
   all_goals first
    |exact⟨k+1,O9,by go_num,cZ a⟩
    |(simp[intOf];omega)
  .have h:k=D.length:=O9;subst h;go_wp2;go_ret;exact⟨rfl,a⟩
end Go.Proofs.aH
namespace Go.Proofs.aH
open Go.RowKit
attribute [local go_sem↓] Go.wp_at_zero Go.wp_at_succ
def Jm{n V w}(h:Below n V w)(a:n<=w)(o o' b):Below n V (((w.alloc o).alloc o').alloc b):=((h.alloc a _).alloc Z9 _).alloc (by simp;omega) _
structure Yf(w w':World)(rb B:Nat)(c:jN)(r:pQ)(a:AG):Prop where
 lw:Lw w.heap.size w w'
 run:gH w' rb B r
 node:gI w' r.nb r.c a
 kn:(∀i∈a.bl.map BN.id,i∈r.ids)/\0<r.ids.length
 jT:wK r 2
 c:r.c=C7 c
 lo:w.heap.size<=rb/\w.heap.size<=B/\w.heap.size<=a.lo
 wk:aa4 r a
 NC:r.ids.Nodup
def TQ(c w)(im:c.Ints):Calls Vp 8 #[.agg #[c.wk,c.sh,c.me,c.su,c.bi],aF] w λe w'=>∃rb B r a,e=.returned (.pointer (some ⟨rb,0,none⟩))/\Yf w w' rb B c r a:=by
 have ay:Below w.heap.size w (w.alloc (.cells #[.int .i64 c.wk,.int .i64 c.sh,.int .i64 c.me,.int .i64 c.su,.int .i64 c.bi] 23)):=B0.alloc L9 _;have cw:=aa7 c (w.alloc (.cells #[.int .i64 c.wk,.int .i64 c.sh,.int .i64 c.me,.int .i64 c.su,.int .i64 c.bi] 23)) im;unfold jN.v at cw;obtain⟨e7,dm,e5,e6⟩:=Ro c;have kz:Hid (∀d,d=C7 c->d=C7 c):=λ_ h=>h;generalize M:C7 c=d at cw e7 dm e5 e6;replace M:=aL M;have dp:=λW=>aaN d W;unfold jN.v ptr at dp;obtain⟨wk,sh,me,su,bi⟩:=d;simp only at cw dm e5 e6 dp;go_enter fA Tryz.func8,Tryz.ntmps8;go_wp2;refine cw.m1 λw1 gu=>?_;have b1:Below w.heap.size w w1:=ay.trans (gu.mono ay.size);clear cw ay gu;have b6:Below w1.heap.size w1 (w1.alloc (.cells #[.int .i64 wk,.int .i64 sh,.int .i64 me,.int .i64 su,.int .i64 bi] 23)):=B0.alloc L9 _;have bz:=aW w1 [.int .i64 wk,.int .i64 sh,.int .i64 me,.int .i64 su,.int .i64 bi] 23;go_wp2;generalize w1.alloc (.cells #[.int .i64 wk,.int .i64 sh,.int .i64 me,.int .i64 su,.int .i64 bi] 23)=Q at b6 bz|-;have g7:w.heap.size<=w1.heap.size:=b1.size;generalize w1.heap.size=l at b6 bz g7|-;refine(dp Q).mono ?_;rintro e w2 ⟨dk,⟨gv,_⟩|⟨nb,_,rfl,k6,ew⟩⟩;.rw[e7]at gv;cases gv
 have cu:=abq ew e7;have μ:=bz.keep dk bz.lt;have ku:=b6.size;have g4:=dk.size;have ky:=bz.lt;have b2:Below w.heap.size w w2:=b1.trans ((b6.mono g7).trans (dk.mono (bJ b1.size b6.size)));have bf:Hid (∀W:World,Calls Vp 19 #[aC] W λe w'=>e=.returned (.string jS)/\Below W.heap.size W w'):=λW=>by rw[show jS=mk (be 0 8)from by decide+kernel];exact qH 0 W D9 D9
 have bg:Hid (∀W:World,Calls Vp 20 #[aG] W λe w'=>e=.returned (.string (mk [byteOf 1]))/\Below W.heap.size W w'):=λW=>A8 1 W D9 D9;generalize bd:mk [byteOf 1]=F at bg;replace bd:=aL bd;generalize bo:jS=C at bf;replace bo:=aL bo;generalize cr:YF Q.heap.size=dz at cu;replace cr:=aL cr;clear ew dp bz b6 b1 dk;have hv:=μ.r 0;have hx:=μ.r 1;have hy:=μ.r 2;have hz:=μ.r 3;have cj:=μ.r 4;go_wp2;have ag:Hid (∀W:World,Below w2.heap.size w2 W->W.cell? ⟨l,0,none⟩=some (.int .i64 wk)/\W.cell? ⟨l,1,none⟩=some (.int .i64 sh)/\W.cell? ⟨l,2,none⟩=some (.int .i64 me)/\W.cell? ⟨l,3,none⟩=some (.int .i64 su)/\W.cell? ⟨l,4,none⟩=some (.int .i64 bi)):=λW S=>by have h:=μ.keep S μ.lt;exact⟨h.cell 0,h.cell 1,h.cell 2,h.cell 3,h.cell 4⟩
 have I:Hid (Below w2.heap.size w2 w2.drew):=cZ B0;have a2:Hid (Below w2.heap.size w2 (w2.drew.alloc (.cells #[aA] 3))):=I.out.alloc L9 _;go_cut [8] (λq wx=>∃rb π wg:Nat,q=.pointer (some ⟨rb,0,none⟩)/\Row wx rb 37 [.pointer (some ⟨nb,0,none⟩),.int .i64 wk,.int .i64 sh,.int .i64 me,.int .i64 su,.int .i64 bi,.slice (some ⟨π,0,none⟩) 1 1,.slice (some ⟨wg,0,none⟩) 1 1,.slice none 0 0,aA,aB,aA,aF]/\Row wx π 9 [.string C]/\Row wx wg 3 [aA]/\w2.heap.size<=rb/\w2.heap.size<=π/\w2.heap.size<=wg/\Below w2.heap.size w2 wx);case first=>
  go_region_held3 (λw'=>w'.cell? ⟨l,0,none⟩=some (.int .i64 wk)/\w'.cell? ⟨l,1,none⟩=some (.int .i64 sh)/\w'.cell? ⟨l,2,none⟩=some (.int .i64 me)/\w'.cell? ⟨l,3,none⟩=some (.int .i64 su)/\w'.cell? ⟨l,4,none⟩=some (.int .i64 bi)) (first|go_keep|exact ag.out _ f|exact ag.out _ (f.alloc f.size _)|exact ag.out _ ((f.alloc f.size _).alloc (by rw[bL];have:=f.size;omega) _)|exact ag.out _ a2.out|exact ag.out _ I.out) ((first
     |(go_at_call 19;refine(bf.out w2.drew).mono ?_;rintro e w3 ⟨rfl,az⟩;have f:Below w2.heap.size w2 w3:=I.out.trans (az.mono I.out.size))
     |(go_at_call 19;refine(bf.out (w2.drew.alloc (.cells #[aA] 3))).mono ?_;rintro e w3 ⟨rfl,az⟩;have f:Below w2.heap.size w2 w3:=a2.out.trans (az.mono a2.out.size);have ho:Row w3 w2.heap.size 3 [aA]:=(aW w2.drew [aA] 3).keep az (aW w2.drew [aA] 3).lt)))
  .go_wp2;go_meet;exact⟨w3.heap.size+1+1,w3.heap.size,w3.heap.size+1,rfl,fI (by simp only[bL]),((aW w3 [.string C] 9).alloc _).alloc _,(fI (w:=w3.alloc (.cells #[.string C] 9)) (cs:=[↑aA]) (by simp only[bL])).alloc _,by have:=f.size;omega,f.size,by have:=f.size;omega,((f.alloc f.size _).alloc (by rw[bL];have:=f.size;omega) _).alloc (by simp only[bL];have:=f.size;omega) _⟩
  .go_wp2;go_meet;exact⟨w3.heap.size+1+1,w3.heap.size+1,w3.heap.size,rfl,fI (by simp only[bL]),(fI (w:=w3.alloc (.cells #[aA] 3)) (cs:=[.string C]) (by simp only[bL])).alloc _,((aW w3 [aA] 3).alloc _).alloc _,by have:=f.size;omega,by have:=f.size;omega,f.size,((f.alloc f.size _).alloc (by rw[bL];have:=f.size;omega) _).alloc (by simp only[bL];have:=f.size;omega) _⟩
  .go_wp2;go_meet;exact⟨w3.heap.size+1,w3.heap.size,w2.heap.size,rfl,fI (by simp only[bL]),(aW w3 [.string C] 9).alloc _,(ho.alloc _).alloc _,by have:=f.size;omega,f.size,L9,(f.alloc f.size _).alloc (by rw[bL];have:=f.size;omega) _⟩
 case' rest=>
  obtain⟨rb,π,wg,rfl,fv,RI,fy,k7,ir,jh,av⟩:=hcut;replace cu:=cu.keep av;replace μ:=μ.keep av μ.lt;replace b2:=b2.trans (av.mono b2.size);have i9:=av.size;clear av I a2 ag hv hx hy hz cj bf;obtain⟨V,ig⟩:∃V,V=wc:=⟨_,rfl⟩;subst ig;have bf:Hid (∀W:World,Calls Vp 19 #[aC] W λe w'=>e=.returned (.string C)/\Below W.heap.size W w'):=λW=>by rw[<-bo.out,show jS=mk (be 0 8)from by decide+kernel];exact qH 0 W D9 D9
  have cj:=μ.r 4;have ag:Hid (∀W:World,Below V.heap.size V W->W.cell? ⟨l,4,none⟩=some (.int .i64 bi)):=λW S=>(μ.keep S μ.lt).cell 4;have I:Hid (Below V.heap.size V V.drew):=cZ B0;have a2:Hid (Below V.heap.size V (V.drew.alloc (.cells #[aB,aA,aA,.slice none 0 0] 76))):=I.out.alloc L9 _;go_wp2;go_cut [9] (λq wx=>∃bb tg ak:Nat,q=.pointer (some ⟨bb,0,none⟩)/\Row wx bb 76 [.string C,.int .i64 bi,aA,.slice (some ⟨tg,0,none⟩) 1 1]/\Row wx tg 73 [.int .i64 65535,.slice none 0 0,.slice (some ⟨ak,0,none⟩) 1 1]/\Row wx ak 69 [.int .i64 50,.string F]/\V.heap.size<=bb/\V.heap.size<=tg/\V.heap.size<=ak/\Below V.heap.size V wx);case first=>
   have gn:Hid (∀(W:World) (o:Obj),Below V.heap.size V W->(W.alloc o).cell? ⟨l,4,none⟩=some (.int .i64 bi)):=λW o h=>ag.out _ (h.alloc h.size _);have ey:Hid (∀(W:World) (o o':Obj),Below V.heap.size V W->((W.alloc o).alloc o').cell? ⟨l,4,none⟩=some (.int .i64 bi)):=λW o o' h=>gn.out _ _ (h.alloc h.size _);have ib:Hid (∀(W:World) (o o' hj:Obj),Below V.heap.size V W->(((W.alloc o).alloc o').alloc hj).cell? ⟨l,4,none⟩=some (.int .i64 bi)):=λW o o' hj h=>ey.out _ _ _ (h.alloc h.size _);have ic:Hid (∀(W:World) (k:Nat) (a b c d:Value) (o o':Obj),Below V.heap.size V W->V.heap.size<=k->((((((W.setCell ⟨k,0,none⟩ a).setCell ⟨k,1,none⟩ b).setCell ⟨k,2,none⟩ c).setCell ⟨k,3,none⟩ d).alloc o).alloc o').cell? ⟨l,4,none⟩=some (.int .i64 bi)):=λW k a b c d o o' h cy=>ey.out _ _ _ ((((h.setCell (p:=⟨k,0,none⟩) cy _).setCell (p:=⟨k,1,none⟩) cy _).setCell (p:=⟨k,2,none⟩) cy _).setCell (p:=⟨k,3,none⟩) cy _);go_region_held3 (λw'=>w'.cell? ⟨l,4,none⟩=some (.int .i64 bi)) (first|with_reducible exact ag.out _ f|with_reducible exact gn.out _ _ f|with_reducible exact ey.out _ _ _ f|with_reducible exact ib.out _ _ _ _ f|with_reducible exact ag.out _ a2.out|with_reducible exact ag.out _ I.out|with_reducible exact ic.out _ _ _ _ _ _ _ _ f G|go_keep) ((first
      |(go_at_call 19;refine(bf.out V.drew).mono ?_;rintro e w3 ⟨rfl,az⟩;have f:Below V.heap.size V w3:=I.out.trans (az.mono I.out.size))
      |(go_at_call 19;refine(bf.out (V.drew.alloc (.cells #[aB,aA,aA,.slice none 0 0] 76))).mono ?_;rintro e w3 ⟨rfl,az⟩;have f:Below V.heap.size V w3:=a2.out.trans (az.mono a2.out.size);have fw:Row w3 V.heap.size 76 [aB,aA,aA,.slice none 0 0]:=(aW V.drew [aB,aA,aA,.slice none 0 0] 76).keep az (aW V.drew [aB,aA,aA,.slice none 0 0] 76).lt)
      |(go_at_call 20;refine(bg.out w3).mono ?_;rintro e w4 ⟨rfl,bm⟩;have E:=fw.keep bm fw.lt;have G:V.heap.size<=V.heap.size:=L9;replace f:Below V.heap.size V w4:=f.trans (bm.mono f.size);have z0:w4.cell? ⟨V.heap.size,0,none⟩=some ↑aB:=E.cell 0;have ko:w4.cell? ⟨V.heap.size,1,none⟩=some ↑aA:=E.cell 1;have kq:w4.cell? ⟨V.heap.size,2,none⟩=some ↑aA:=E.cell 2;have z3:w4.cell? ⟨V.heap.size,3,none⟩=some (.slice none 0 0):=E.cell 3;have i3:=E.lt;have f0:=E.frozen 0;have f1:=E.frozen 1;have f2:=E.frozen 2;have en:=E.frozen 3)
      |(go_at_call 20;refine(bg.out w3).mono ?_;rintro e w4 ⟨rfl,bm⟩;replace f:Below V.heap.size V w4:=f.trans (bm.mono f.size))
      |(go_at_call 20;refine(bg.out (w3.alloc (.cells #[aB,aA,aA,.slice none 0 0] 76))).mono ?_;rintro e w4 ⟨rfl,bm⟩;have E:=(aW w3 [aB,aA,aA,.slice none 0 0] 76).keep bm (aW w3 [aB,aA,aA,.slice none 0 0] 76).lt;have G:V.heap.size<=w3.heap.size:=f.size;have ks:=G;replace f:Below V.heap.size V w4:=(f.alloc f.size _).trans (bm.mono Z9);have z0:w4.cell? ⟨w3.heap.size,0,none⟩=some ↑aB:=E.cell 0;have ko:w4.cell? ⟨w3.heap.size,1,none⟩=some ↑aA:=E.cell 1;have kq:w4.cell? ⟨w3.heap.size,2,none⟩=some ↑aA:=E.cell 2;have z3:w4.cell? ⟨w3.heap.size,3,none⟩=some (.slice none 0 0):=E.cell 3;have i3:=E.lt;have f0:=E.frozen 0;have f1:=E.frozen 1;have f2:=E.frozen 2;have en:=E.frozen 3)))
   .go_wp2;go_meet;exact⟨w4.heap.size+1+1,w4.heap.size+1,w4.heap.size,rfl,fI (by simp only[bL]),(fI (w:=w4.alloc (.cells #[.int .i64 50,.string F] 69)) (cs:=[.int .i64 65535,.slice none 0 0,.slice (some ⟨w4.heap.size,0,none⟩) 1 1]) (by simp only[bL])).alloc _,((aW w4 [.int .i64 50,.string F] 69).alloc _).alloc _,by have:=f.size;omega,by have:=f.size;omega,f.size,Jm f f.size _ _ _⟩
   .go_wp2;go_meet;exact⟨w4.heap.size+1,w4.heap.size+1+1,w4.heap.size,rfl,(fI (w:=w4.alloc (.cells #[.int .i64 50,.string F] 69)) (cs:=[.string C,.int .i64 bi,↑aA,.slice (some ⟨w4.heap.size+1+1,0,none⟩) 1 1]) (by simp only[bL])).alloc _,fI (by simp only[bL]),((aW w4 [.int .i64 50,.string F] 69).alloc _).alloc _,by have:=f.size;omega,by have:=f.size;omega,f.size,Jm f f.size _ _ _⟩
   .go_wp2;go_meet;exact⟨w4.heap.size,w4.heap.size+1+1,w4.heap.size+1,rfl,((aW w4 [.string C,.int .i64 bi,aA,.slice (some ⟨w4.heap.size+1+1,0,none⟩) 1 1] 76).alloc _).alloc _,fI (by simp only[bL]),(fI (w:=w4.alloc (.cells #[.string C,.int .i64 bi,aA,.slice (some ⟨w4.heap.size+1+1,0,none⟩) 1 1] 76)) (cs:=[.int .i64 50,.string F]) (by simp only[bL])).alloc _,f.size,by have:=f.size;omega,by have:=f.size;omega,Jm f f.size _ _ _⟩
   all_goals(go_wp2;go_meet;have eu:=(((f.setCell (p:=⟨_,0,none⟩) G (.string C)).setCell (p:=⟨_,1,none⟩) G (.int .i64 bi)).setCell (p:=⟨_,2,none⟩) G ↑aA).setCell (p:=⟨_,3,none⟩) G (.slice (some ⟨w4.heap.size+1,0,none⟩) 1 1);exact⟨_,w4.heap.size+1,w4.heap.size,rfl,(((((E.set 0 _).set 1 _).set 2 _).set 3 _).alloc _).alloc _,fI (by simp only[bL,qs]),(fI (cs:=[.int .i64 50,.string F]) (by simp only[qs])).alloc _,G,by have:=f.size;omega,f.size,(eu.alloc eu.size _).alloc (by have:=eu.size;rw[bL];omega) _⟩)
  case' rest=>
   obtain⟨bb,tg,ak,rfl,RB,E,eg,kx,ja,i5,av⟩:=hcut;have dj:gH V rb w2.heap.size ⟨nb,⟨wk,sh,me,su,bi⟩,.slice (some ⟨π,0,none⟩) 1 1,.slice (some ⟨wg,0,none⟩) 1 1,.slice none 0 0,[C],[0],[],0,⟨#[]⟩,0⟩:=⟨fv,mX RI rfl ir D9,mX fy rfl jh D9,nB _ _ _ _,i9⟩;generalize ca:(⟨nb,⟨wk,sh,me,su,bi⟩,.slice (some ⟨π,0,none⟩) 1 1,.slice (some ⟨wg,0,none⟩) 1 1,.slice none 0 0,[C],[0],[],0,⟨#[]⟩,0⟩:pQ)=r0 at dj;have gz:r0.kv=.slice none 0 0:=by rw[<-ca]
   obtain⟨A,ih⟩:∃A,A=wc:=⟨_,rfl⟩;subst ih;have k8:=av.size;have h4:=RB.r 0;have bc:=RB.r 1;have e2:=RB.r 2;have e3:=RB.r 3;have ay:Below A.heap.size A (((A.alloc (.cells #[.slice none 0 0] 35)).alloc (.cells #[aB,aA,aA,aA] 64)).alloc (.cells #[.slice (some ⟨A.heap.size+1,0,none⟩) 1 1] 35)):=Jm B0 L9 _ _ _;have ec:=((aW A [.slice none 0 0] 35).alloc (.cells #[aB,aA,aA,aA] 64)).alloc (.cells #[.slice (some ⟨A.heap.size+1,0,none⟩) 1 1] 35);have ed:=(fI (w:=A.alloc (.cells #[.slice none 0 0] 35)) (cs:=[↑aB,↑aA,↑aA,↑aA]) (t:=64) (k:=A.heap.size+1) (by simp only[bL])).alloc (.cells #[.slice (some ⟨A.heap.size+1,0,none⟩) 1 1] 35);have eb:=fI (w:=(A.alloc (.cells #[.slice none 0 0] 35)).alloc (.cells #[aB,aA,aA,aA] 64)) (cs:=[.slice (some ⟨A.heap.size+1,0,none⟩) 1 1]) (t:=35) (k:=A.heap.size+1+1) (by simp only[bL]);go_wp2;generalize((A.alloc (.cells #[.slice none 0 0] 35)).alloc (.cells #[aB,aA,aA,aA] 64)).alloc (.cells #[.slice (some ⟨A.heap.size+1,0,none⟩) 1 1] 35)=X at ay ec ed eb|-;clear h4 bc e2 e3;obtain⟨N,ik⟩:∃N:Nat,bi=(N:Int):=⟨bi.toNat,O9⟩;subst ik;have ia:N<=2:=O9;have gm:gH X rb w2.heap.size r0:=(dj.keep av).keep ay;have ei:=E.keep ay E.lt;have eh:=eg.keep ay eg.lt;have gp:dA V.heap.size X (.slice (some ⟨tg,0,none⟩) 1 1) [⟨65535,.slice none 0 0,[],.slice (some ⟨ak,0,none⟩) 1 1,[⟨50,F⟩]⟩]:=by
    refine⟨mX ei rfl ja D9,λd M=>?_,λd M=>?_⟩;.simp only[kH]at M;subst M;exact⟨nB _ _ _ _,λk e=>by cases e⟩
    .simp only[kH]at M;subst M;exact⟨mX eh rfl i5 D9,λk e h3=>by cases e;cases h3;exact ei.ne eh D9 rfl⟩
   have fz:Apart [⟨65535,.slice none 0 0,[],.slice (some ⟨ak,0,none⟩) 1 1,[⟨50,F⟩]⟩]:=λi j a b iu e1 b8=>by have h1:=(bY.1 e1).1;have h2:=(bY.1 b8).1;simp only[oN]at h1 h2;omega
   have gq:lN 0 X (.slice (some ⟨A.heap.size,0,none⟩) 1 1) [(.slice none 0 0,[])]:=ML ec (nB _ _ _ _) (fE _);have gk:lN A.heap.size X (.slice (some ⟨A.heap.size+1+1,0,none⟩) 1 1) [(.slice (some ⟨A.heap.size+1,0,none⟩) 1 1,[abn])]:=ML eb (mX ed rfl O9 D9) O9;have g1:fL.fits ⟨50,F⟩=true:=by rw[<-bd.out];decide+kernel
   have ao:wP [] 65535 [⟨65535,.slice none 0 0,[],.slice (some ⟨ak,0,none⟩) 1 1,[⟨50,F⟩]⟩] [(.slice none 0 0,[])] [(.slice (some ⟨A.heap.size+1,0,none⟩) 1 1,[abn])]:=by
    refine⟨rfl,rfl,Nat.zero_lt_one,λd M=>?_,λi d M=>?_,λi d t hi M _=>?_,λt br x P=>?_,λt br=>?_⟩;.cases M;exact⟨rfl,rfl⟩
    .have h1:=(bY.1 M).1;simp only[oN]at h1;have h2:i=0:=O9;subst h2;cases M;exact⟨⟨(by decide:(0:Int)<=65535),(by decide:(65535:Int)<=65535)⟩,⟨(by decide:1<=1),(by decide:1<=2)⟩,λx P=>by simp only[kH]at P;subst P;exact g1⟩
    .have h1:=(bY.1 M).1;simp only[oN]at h1;omega
    .simp only[kH]at br;subst br;cases P
    .simp only[kH]at br;subst br;exact⟨⟨(by decide:1<=1),(by decide:1<=2)⟩,λx P=>by simp only[kH]at P;subst P;exact⟨D9,D9⟩⟩
   have gj:wO [(.slice (some ⟨A.heap.size+1,0,none⟩) 1 1,[abn])] r0.kv:=⟨λi j a b iu e1 b8=>by have h1:=(bY.1 e1).1;have h2:=(bY.1 b8).1;simp only[oN]at h1 h2;omega,λa _ k _ e=>by rw[gz]at e;cases e⟩
   have cv:Hid (∀n:Nat,n<65536->mG (wB (be 0 8) N ([⟨65535,.slice none 0 0,[],.slice (some ⟨ak,0,none⟩) 1 1,[⟨50,F⟩]⟩].map eO.m) n)=true):=λn cz=>ao.fits (by decide:1<=3) (λx P=>by cases P) (bS _ _) O9 cz;have b9:=Ad (be 0 8) N (some ⟨tg,0,none⟩) 1 _ _ _ _ _ false X gm gp fz gq gk ao.pos (by decide:1<=9) ao.small ao.l1 ao.l2 (λi d s hi M fc=>by rw[(ao.ins i d s hi M fc).2,fN]) (λs fc x P=>by cases ao.Cz s fc x P) gj (λm i4=>by have:=(ao.vp m i4).1;omega) (by rw[<-ca];exact fE _) (λn cz=>Fp (cv.out n cz) (Fl _ _ _)) O9 (cv.out 0 O9);have g6:JB (nJ [((.slice none 0 0:Value),[])] (pH ([⟨65535,.slice none 0 0,[],.slice (some ⟨ak,0,none⟩) 1 1,[⟨50,F⟩]⟩].map eO.m)) false) ([⟨65535,.slice none 0 0,[],.slice (some ⟨ak,0,none⟩) 1 1,[⟨50,F⟩]⟩].map eO.m)=yZ:=by rw[<-bd.out];rfl
   have fe:([⟨65535,.slice none 0 0,[],.slice (some ⟨ak,0,none⟩) 1 1,[⟨50,F⟩]⟩].map eO.m)=yZ:=by rw[<-bd.out];rfl
   have jl:mk (be 0 8)=C:=by rw[<-bo.out];decide+kernel
   rw[g6,fe,jl]at b9;rw[fe]at cv;simp only[oN,lD,Gv]at b9;replace b9:=aL b9;replace ao:=aL ao;clear gj gp fz gq gk g6 fe g1 ei eh ec ed eb;refine b9.out.mono ?_;rintro e w4 ⟨h9,⟨kv,i6⟩,n,cz,rfl,g5⟩;clear b9;have dn:=cv.out n cz;have gy:=Ry (yN dn);have dt:Shown (be 0 8) N yZ n/\∀j,j<n->¬Shown (be 0 8) N yZ j:=by
    obtain h1|h1:=g5;.exact h1
    .obtain⟨k,iw,iy⟩:=TV (be 0 8) N yZ O9;exact absurd iy (h1 k iw)
   clear g5;have bp:=YE ia dt.1 dt.2;have ha:Xc (Jl rb r0) V w4:=((iY av).then ay).trans h9 (λk cy e=>by
    obtain e|e|⟨e,_⟩|⟨e,_⟩:=e;.exact .inl e
    .exact .inr (.inl e)
    .omega
    .omega)
   have hn:=μ.xc ha (by
    rintro(e|e|e|e);.omega
    .rw[gz]at e;cases e
    .rw[<-ca]at e;have e2:some π=some l:=e;injection e2 with e2;omega
    .rw[<-ca]at e;have e2:some wg=some l:=e;injection e2 with e2;omega)
   have hg:Mf Q.heap.size V w4:=dj.mf ha ⟨O9,g4⟩;have dv:w.heap.size<=Q.heap.size:=O9;have gd:Lw w.heap.size w w4:=(Lw.below b2).trans (hg.lw.mono dv);have gl:gI w4 nb ⟨wk,sh,me,su,(N:Int)⟩ dz:=cu.mf hg;have g2:∀b,lC (wS (be 0 8) N yZ n)=some b->mk b.parent=dz.an.vA:=λb b8=>by rw[yN dn]at b8;cases b8;rw[<-cr.out];exact(by decide+kernel:mk (be 0 8)=jS)
   have a7:=MN (wS (be 0 8) N yZ n) w4 gl g2;have e8:=T9 (c:=⟨wk,sh,me,su,(N:Int)⟩) (D:=Q.heap.size) dn rfl dt.1 bp dm;rw[show an0 Q.heap.size=(YF Q.heap.size).an from rfl,cr.out]at e8;rw[e8]at a7;clear e8;have i2:dz.lo=Q.heap.size:=by rw[<-cr.out];rfl
   rw[bo.out,i2,bd.out]at a7;rw[bo.out]at bp;unfold ptr at a7;have ez:wS (be 0 8) N yZ n≠[]:=acS;generalize wS (be 0 8) N yZ n=z at a7 bp ez gy|-;have k5:(mk z).toList.isEmpty=false:=E7 ez;simp only at a7;replace a7:=aL a7;clear cu dj gm g2 dn cv dt fv RI fy E eg RB ez gl bg bf ag I a2 cj;go_wp2;refine a7.out.mono ?_;rintro e bx ⟨rfl,⟨a5,R,af⟩,O⟩;have L:=R.is;rw[af]at L;clear a7;have J:=i6.ck O (qT D9 D9 D9 D9 D9 D9) (qT D9 D9 D9 D9 D9 D9) (qT D9 D9 D9 D9 D9 D9) (qT D9 D9 D9 D9 D9 D9);have H:=hn.ck O (qT D9 D9 D9 D9 D9 D9);have b5:Below bx.heap.size bx (bx.alloc (.cells #[aA,aG] 44)):=B0.alloc L9 _;have aa:=aW bx [aA,aG] 44;go_wp2;replace L:=L.keep b5;replace R:=R.keep b5;replace J:=J.keep b5;replace O:=O.then b5;replace H:=H.keep b5 H.lt;have h7:=aa.lt;generalize bx.alloc (.cells #[aA,aG] 44)=ej at b5 aa L R J O H h7|-;have du:=Pm ej L;unfold ptr AN.abr at du;simp only at du;refine du.m1 λcf ek=>?_;clear du b5;have bj:Below ej.heap.size ej (cf.alloc (.cells #[.string (jC z),aG,.int .i64 (2^N)] 39)):=ek.alloc ek.size _;have au:=aW cf [.string (jC z),aG,.int .i64 (2^N)] 39;replace L:=L.keep bj;replace R:=R.keep bj;replace J:=J.keep bj;replace O:=O.then bj;replace H:=H.keep bj H.lt;replace aa:=aa.keep bj aa.lt;go_wp2;clear bj ek;have h8:=au.lt;generalize cf.alloc (.cells #[.string (jC z),aG,.int .i64 (2^N)] 39)=hs at au L R J O aa H h8|-;have e4:=Ua ⟨wM 65535 [] [⟨50,F⟩],0,50,F,1⟩ hs L rfl;unfold ptr at e4;refine e4.mono ?_;rintro e ar ⟨v,rfl,bu,ba⟩;obtain⟨cg,cc,rfl⟩:=cQ bu 0 rfl;replace L:=L.keep ba;replace R:=R.keep ba;replace J:=J.keep ba;replace O:=O.then ba;replace H:=H.keep ba H.lt;replace aa:=aa.keep ba aa.lt;replace au:=au.keep ba au.lt;clear e4 ba;have jw:=aa.r 0;have jx:=aa.r 1;have jy:=au.r 0;have jz:=au.r 1;have j0:=au.r 2;have cj:=H.r 4;have j1:=Mr 0 1;have j2:=Mq (jC z) 1 (2^N);have jg:IntKind.i64.wrap (2^N)=2^N:=by rw[(tL N O9).1];simp
   have ew:(0:Int)<=(N:Int):=O9;clear e5 e6;go_wp2;go_quiet (fail);have gx:iX (pH yZ) [[abn]]=[⟨wM 65535 [] [⟨50,F⟩],0,0,0⟩]:=by rw[<-bd.out];exact adX
   have iq:r0.aY=[]:=by rw[<-ca]
   simp only[gx,iq,vJ]at J;generalize e0:wM 65535 [] [⟨50,F⟩]=T at J L af bu gx;replace e0:=aL e0;have bk:Below ar.heap.size ar (ar.drewN nq):=jU B0;replace L:=L.keep bk;replace R:=R.keep bk;replace J:=J.keep bk;replace O:=O.then bk;replace H:=H.keep bk H.lt;replace bu:=aV bu bk;clear jw jx jy jz j0 cj aa au j1 j2 jg bk;generalize ar.drewN nq=ae at L R J O H bu|-;obtain⟨ah,kc,iz,fa⟩:=Br J.aY (k:=0) (x:=⟨T,0,0,0⟩) rfl;have k0:ae.cell? ⟨ah,0,none⟩=some (.string T):=fa 0 _ rfl;have k1:ae.cell? ⟨ah,1,none⟩=some ↑aA:=fa 1 _ rfl;have i1:kv=.slice (some ⟨ah,0,none⟩) 1 kc:=iz;subst i1;have oc:=uT (g:=cg) bu rfl;have a6:Hid (∀W:World,Below ae.heap.size ae W->W.cell? ⟨cg,0,none⟩=some (.string T)/\W.cell? ⟨cg,1,none⟩=some ↑aA/\W.cell? ⟨cg,2,none⟩=some (.int .i64 50)/\W.cell? ⟨cg,3,none⟩=some (.string F)/\W.cell? ⟨cg,4,none⟩=some ↑aG/\W.cell? ⟨cg,5,none⟩=some ↑aD/\W.cell? ⟨rb,8,none⟩=some (.slice (some ⟨ah,0,none⟩) 1 kc)/\W.cell? ⟨ah,0,none⟩=some (.string T)/\W.cell? ⟨ah,1,none⟩=some ↑aA):=λW S=>by
    refine⟨aS S ?_,aS S ?_,aS S ?_,aS S ?_,aS S ?_,aS S ?_,(J.keep S).row.cell 8,aS S k0,aS S k1⟩;.exact oc 0 _ rfl
    .exact oc 1 _ rfl
    .exact oc 2 _ rfl
    .exact oc 3 _ rfl
    .exact oc 4 _ rfl
    .exact oc 5 _ rfl
   have bg:Hid (∀W:World,Calls Vp 20 #[aG] W λe w'=>e=.returned (.string F)/\Below W.heap.size W w'):=λW=>by rw[<-bd.out];exact A8 1 W D9 D9
   have I:Hid (Below ae.heap.size ae ae.drew):=cZ B0;have j3:=HB T F 0 50 1 true;obtain⟨hk,j7,j8,j9,kg,kh,ki,kj,km⟩:=a6.out _ B0;have kt:(0:Int)<((1:Nat):Int):=D9;go_wp2;go_cut [101] (λq wx=>q=↑aF/\Below ae.heap.size ae wx);case first=>
    go_region_held3 (λW=>W.cell? ⟨cg,0,none⟩=some (.string T)/\W.cell? ⟨cg,1,none⟩=some ↑aA/\W.cell? ⟨cg,2,none⟩=some (.int .i64 50)/\W.cell? ⟨cg,3,none⟩=some (.string F)/\W.cell? ⟨cg,4,none⟩=some ↑aG/\W.cell? ⟨cg,5,none⟩=some ↑aD/\W.cell? ⟨rb,8,none⟩=some (.slice (some ⟨ah,0,none⟩) 1 kc)/\W.cell? ⟨ah,0,none⟩=some (.string T)/\W.cell? ⟨ah,1,none⟩=some ↑aA) (first|with_reducible exact a6.out _ f|with_reducible exact a6.out _ I.out|go_keep) ((go_at_call 20;refine(bg.out ae.drew).mono ?_;rintro e dx ⟨rfl,cm⟩;have f:Below ae.heap.size ae dx:=I.out.trans (cm.mono I.out.size)))
    go_wp2;go_meet;exact⟨rfl,f⟩
   case' rest=>
    obtain⟨rfl,b4⟩:=hcut;replace L:=L.keep b4;replace R:=R.keep b4;replace J:=J.keep b4;replace O:=O.then b4;replace H:=H.keep b4 H.lt;have c7:gH wc rb w2.heap.size ⟨nb,⟨wk,sh,me,su,(N:Int)⟩,.slice (some ⟨π,0,none⟩) 1 1,.slice (some ⟨wg,0,none⟩) 1 1,.slice (some ⟨ah,0,none⟩) 1 kc,[C],[0],[⟨T,0,0,0⟩],0,⟨#[]⟩,0⟩:=by rw[<-ca]at J;exact J
    have gg:Lw w.heap.size w wc:=gd.trans (O.lw.mono dv);clear J a6 hk j7 j8 j9 kg kh ki kj km I j3 bg oc fa k0 k1 bu O gd b4;have ht:=c7.row.r 10;have f10:=c7.row.frozen 10;have i7:=c7.row.lt;have fb:=c7.made (mk z);have c6:(wc.setCell ⟨rb,10,none⟩ (.string (mk z))).cell? ⟨rb,6,none⟩=some (.slice (some ⟨π,0,none⟩) 1 1):=fb.row.cell 6;have ea:=aW (wc.setCell ⟨rb,10,none⟩ (.string (mk z))) [.string (jC z)] 9;rw[qs]at ea;have ai:Below (wc.setCell ⟨rb,10,none⟩ (.string (mk z))).heap.size (wc.setCell ⟨rb,10,none⟩ (.string (mk z))) ((wc.setCell ⟨rb,10,none⟩ (.string (mk z))).alloc (.cells [.string (jC z)].toArray 9)):=B0.alloc L9 _;have cb:=fb.keep ai;have ef:((wc.setCell ⟨rb,10,none⟩ (.string (mk z))).alloc (.cells [.string (jC z)].toArray 9)).ownsRow w2.heap.size 9 1 (.slice (some ⟨π,0,none⟩) 1 1) 1 [.string C]:=cb.ids;have fq:=cb.base;have hc:Xc (Jl rb ⟨nb,⟨wk,sh,me,su,(N:Int)⟩,.slice (some ⟨π,0,none⟩) 1 1,.slice (some ⟨wg,0,none⟩) 1 1,.slice (some ⟨ah,0,none⟩) 1 kc,[C],[0],[⟨T,0,0,0⟩],0,⟨#[]⟩,0⟩) wc ((wc.setCell ⟨rb,10,none⟩ (.string (mk z))).alloc (.cells [.string (jC z)].toArray 9)):=((iV _ wc).setCell ⟨rb,10,none⟩ _ (λ_=>.inl rfl)).then ai;have ft:=(H.aP ⟨rb,10,none⟩ (.string (mk z)) (by show l≠rb;omega)).keep ai (H.aP ⟨rb,10,none⟩ (.string (mk z)) (by show l≠rb;omega)).lt;replace cb:=aL cb;clear ai fb;obtain⟨i0,cx,dc,dd,de⟩:=info_parts YD;go_wp2_with (at_builtin;refine wpList_append_own_at _ rfl _ _ 34 rfl w2.heap.size 9 i0 _ 1 16 aI.underlying34 cx dc dd de rfl D9 (.slice (some ⟨π,0,none⟩) 1 1) 1 [.string C] rfl ef ⟨_,0,none⟩ 1 1 [.string (jC z)] rfl rfl (λj u aj=>by rw[add0,ea.cell];exact aj) (λu c8=>by simp at c8;subst c8;rfl) (by unfold maxLen;omega) O9 fq ?_;intro v9 dx fj cm _ jq;refine HY.out ?_);obtain⟨dh,cd,hf⟩:=cb.out.idp cm fj;have fu:=tK ft ef cm D9;obtain⟨eo,ep,jf⟩:=cQ fj 1 rfl;subst jf;have c9:=dh.r 6;have h5:=dh.frozen 6;have jr:=dh.lt;have fg:=hc.trans hf (λk _ e=>by obtain e|e:=e;exact .inl e;exact .inr (.inr (.inl e)));have b0:=fu.aP ⟨rb,6,none⟩ (.slice (some ⟨eo,0,none⟩) (1+1) ep) (by show l≠rb;omega);clear cb ef ea fq cm fj dh hc hf fu ft H cx dc dd de c6 ht f10 i7 jq;refine⟨?_⟩;go_wp2;generalize dx.setCell ⟨rb,6,none⟩ (.slice (some ⟨eo,0,none⟩) (1+1) ep)=ab at cd b0 fg|-;replace cd:gH ab rb w2.heap.size ⟨nb,⟨wk,sh,me,su,(N:Int)⟩,.slice (some ⟨eo,0,none⟩) (1+1) ep,.slice (some ⟨wg,0,none⟩) 1 1,.slice (some ⟨ah,0,none⟩) 1 kc,[C,jC z],[0],[⟨T,0,0,0⟩],0,mk z,0⟩:=cd;obtain⟨a8,ff⟩:∃y,IntKind.i64.wrap (2^N)=y:=⟨_,rfl⟩;have jj:Hid (0<=a8/\a8<=8):=by obtain⟨js,ju,jv⟩:=tL N O9;rw[js]at ff;rw[<-ff];exact⟨ju,jv⟩
    have a6:Hid (∀W:World,Below ab.heap.size ab W->W.cell? ⟨rb,7,none⟩=some (.slice (some ⟨wg,0,none⟩) 1 1)/\W.cell? ⟨l,4,none⟩=some (.int .i64 (N:Int))):=λW S=>⟨(cd.keep S).row.cell 7,(b0.keep S b0.lt).cell 4⟩;have I:Hid (Below ab.heap.size ab ab.drew):=cZ B0;have ai:Below ab.heap.size ab (ab.drew.alloc (.cells [.int .i64 a8].toArray 3)):=I.out.alloc L9 _;have fs:=aW ab.drew [.int .i64 a8] 3;have dq:=cd.keep ai;have ee:(ab.drew.alloc (.cells [.int .i64 a8].toArray 3)).ownsRow w2.heap.size 3 1 (.slice (some ⟨wg,0,none⟩) 1 1) 1 [aA]:=dq.cN;have fp:=dq.base;obtain⟨i0,cx,dc,dd,de⟩:=info_parts acR;have Y:=a6.out _ I.out;clear c9 h5 jr;refine BV 12 (λW=>W.cell? ⟨rb,7,none⟩=some (.slice (some ⟨wg,0,none⟩) 1 1)/\W.cell? ⟨l,4,none⟩=some (.int .i64 (N:Int))) K8 ?_;refine gP 0 Y ?_;simp only[Act.put,cE];refine gP 1 Y ?_;simp only[Act.put,cE];refine gP 2 Y ?_;simp only[Act.put,cE];refine gP 3 Y ?_;simp only[Act.put,cE];refine gP 4 Y ?_;simp only[Act.put,cE];refine gP 5 Y ?_;simp only[Act.put,cE];refine gP 6 Y ?_;simp only[Act.put,cE];refine gP 7 Y ?_;simp only[Act.put,cE];refine zC 8 K8 rfl (λK G=>?_);go_simp;refine G.out _ _ (λ_=>a6.out _ ai) ?_;clear G K Y;have Y:=a6.out _ ai;try simp only[Act.put,cE]
    refine zC 9 K8 rfl (λK G=>?_);refine uJ aI.underlying30 cx dc dd de rfl D9 D9 w2.heap.size rfl _ _ rfl (.slice (some ⟨wg,0,none⟩) 1 1) 1 [aA] E9 ee 1 [.int .i64 a8] rfl ab.heap.size 1 E9 fs (λu c8=>by simp at c8;subst c8;rfl) O9 O9 fp ?_;intro k9 dw fi et jo jm;obtain⟨dg,g3,g8⟩:=dq.wkp et fi;have b7:dw.cell? ⟨rb,7,none⟩=some (.slice (some ⟨wg,0,none⟩) 1 1)/\dw.cell? ⟨l,4,none⟩=some (.int .i64 (N:Int)):=⟨dg.cell 7,(tK (b0.keep ai b0.lt) ee et D9).cell 4⟩;refine G.out _ _ (λ_=>b7) ?_;clear G K Y;have Y:=b7;show nT _ _ _ _ _ _ _ _ (Act.put _ (some 125) _) _;simp only[Act.put,cE];refine zC 10 K8 rfl (λK G=>?_);go_simp;refine G.out _ _ (λ_=>b7) ?_;clear G K;try simp only[Act.put,cE]
    refine zC 11 K8 rfl (λK G=>?_);go_simp;refine G.out _ _ (λ_=>b7) ?_;clear G K;try simp only[Act.put,cE]
    obtain⟨h6,gc,je⟩:=cQ fi 1 rfl;subst je;have j4:dw.cell? ⟨rb,7,none⟩=some (.slice (some ⟨wg,0,none⟩) 1 1):=b7.1;have j5:=dg.frozen 7;have j6:=dg.lt;refine zC 12 K8 rfl (λK G=>?_);go_simp;refine G.out _ _ (λh=>absurd rfl h) ?_;clear G K Y;refine Wp K8 ?_ _;have g9:=(fg.then ai).trans g8 (λk _ e=>by obtain e|e:=e;exact .inl e;exact .inr (.inr (.inr e)));have fh:=c7.mf (LB:=Q.heap.size) g9 ⟨O9,g4⟩;have di:=R.mf fh;have ga:=gg.trans (fh.lw.mono dv);clear a6 I ai fs dq ee fp cx dc dd de fi et jo jm dg b7 j4 j5 j6 g8 fg cd b0 g9 fh L R gg;generalize dw.setCell ⟨rb,7,none⟩ (.slice (some ⟨h6,0,none⟩) (1+1) gc)=kr at g3 di ga|-;go_wp2;go_ret;have ie:(fH T).length=8:=by rw[<-e0.out];unfold wM;rw[od,bS]
    have ij:(fH C).length=8:=by rw[<-bo.out];decide+kernel
    refine⟨rb,rfl,w2.heap.size,_,_,⟨ga,g3,di,⟨?_,Vh 1⟩,⟨?_,?_,?_,?_,?_,?_,?_⟩,?_,?_,?_,?_⟩⟩;.show∀i∈a5.an.ids,_;rw[af];exactλi hi=>hi
    .exact sW 2
    .rfl
    .intro x P;have db:x=0\/x=a8:=by
      obtain e|e:=iP.1 P;.exact .inl e
      .exact .inr (kH.1 e)
     show 0<=x/\x<=8*((2:Nat):Int);have:=jj.out;obtain rfl|rfl:=db<;>omega
    .show 1<=6*2;omega
    .intro x P;have db:x=C\/x=jC z:=by
      obtain e|e:=iP.1 P;.exact .inl e
      .exact .inr (kH.1 e)
     obtain rfl|rfl:=db;.exact ij
     .exact gy
    .intro x P;have db:=kH.1 P;subst db;exact⟨⟨⟨(by decide:(0:Int)<=0),(by decide:(0:Int)<4)⟩,⟨(by decide:(0:Int)<=0),(by decide:(0:Int)<64)⟩⟩,ie,⟨(by decide:(0:Int)<=0),(by decide:(0:Int)<=255)⟩⟩
    .exact⟨(by decide:(0:Int)<=0),(by decide:(0:Int)<=65535)⟩
    .exact M.out.symm
    .refine⟨O9,O9,?_⟩;show w.heap.size<=a5.an.lo;rw[af];exact dv
    .have jk:a8=2^N:=by rw[<-ff,(tL N O9).1];simp
     have e9:a5.bl.map BN.id=[C,jC z]:=by show a5.an.ids=_;rw[af]
     have jb:(dG a5).id=jC z:=by show a5.an.vA=_;rw[af]
     have jc:(dG a5).wo=2^N:=by show a5.an.wo=_;rw[af];show 0+_=_;omega
     obtain⟨hk,f1,_,en,_⟩:=di.wf.first;obtain⟨fo,_,t2,_⟩:=di.wf.vA;have ji:fo.ix=1:=by
      have bc:(a5.bl.map BN.id)[fo.ix]?=some (jC z):=by rw[cP,t2,dW,jb]
      rw[e9]at bc;match hq:fo.ix,bc with
      |0,bc=>exact absurd (gJ bc).symm bp
      |1,_=>rfl
      |n+2,bc=>simp at bc
     rw[ji]at t2;intro i j x v aj hi jd;have k3:=(bY.1 aj).1;have k4:a5.bl.length=2:=by have:=congrArg List.length e9;simpa using this
     have bh:(a5.bl.map BN.id)[j]?=some x.id:=by rw[cP,aj];rfl
     rw[e9]at bh;have bq:[C,jC z][i]?=some x.id:=hi;have da:[0,a8][i]?=some v:=jd;match j,i,bh,bq,da,aj with
     |0,0,_,_,da,aj=>rw[f1]at aj;cases aj;rw[en];exact(gJ da).symm
     |0,1,bh,bq,_,_=>exact absurd (gJ (bq.trans bh.symm)) bp
     |1,0,bh,bq,_,_=>exact absurd (gJ (bh.trans bq.symm)) bp
     |1,1,_,_,da,aj=>rw[t2]at aj;cases aj;rw[jc,<-jk];exact(gJ da).symm
     |_,n+2,_,bq,_,_=>simp at bq
     |n+2,_,bh,_,_,_=>simp at bh
    .show[C,jC z].Nodup;simp only[J5,kH,nO,J4,List.nodup_nil,sQ];exactλe=>bp e.symm
end Go.Proofs.aH
