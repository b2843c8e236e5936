import Derived.Test.YtpjcmpfncpnmeaaGreatM14
set_option linter.all false
set_option maxHeartbeats 8000000
set_option maxRecDepth 100000
namespace Go.Proofs.aH
open Go.RowKit Tryz
section
variable[Go.Proofs.VB]
structure Sg(o x:World)(sb:Nat)(s:List UInt8)(a xb:Nat)(t:TypeId)(xs:List Value)(K:World->Prop):Prop where
 at_:C2 x sb s a
 g:o.grownBy x (some sb)
 X:Row x xb t xs
 k:K x
 st:∀{w w':World}{g:Nat},g=sb\/xb<=g->w.grownBy w' (some g)->K w->K w'
 n:sb<xb
 l:o.heap.size<=xb
def Tr(_:World):Prop:=True
def Sg.of{o x y S s a}{K:World->Prop}(g:o.grownBy x (some S))(h:vr x y S s a)(X t)(k:K (y.alloc<|.cells X.toArray t))(b:∀{w W:World}{g:Nat},g=S\/y.heap.size<=g->w.grownBy W (some g)->K w->K W):Sg o (y.alloc<|.cells X.toArray t) S s a y.heap.size t X K:=
 ⟨h.at_.alloc _,iQ (g.trans h.grown) _,aX y X t,k,b,yX h.at_,(g.trans h.grown).size⟩
def Sg.sc{o x y S s a b X t c K}(h:Sg o x S s a X t c K)(k:vr x y S s b):Sg o y S s b X t c K:=⟨k.at_,h.g.trans k.grown,k.row h.X (by have:=h.n;omega),h.st (.inl rfl) k.grown h.k,h.st,h.n,h.l⟩
def Sg.set{o x S s a X t b K}(h:Sg o x S s a X t b K)(j:Nat)(v):Sg o (x.setCell (X,j) v) S s a X t (b.set j v) K:=⟨h.at_.bF _ v (by have:=h.n;show S≠X;omega),Ky h.g _ v h.l,h.X.set j v,h.st (.inr L9) (cI x (X,j) v) h.k,h.st,h.n,h.l⟩
def Sg.new{o x S s a X t c}(h:Sg o x S s a X t c Tr)(Y u){K:World->Prop}(k:K x)(b:∀{w W:World}{g:Nat},g=S\/x.heap.size<=g->w.grownBy W (some g)->K w->K W):Sg o (x.alloc<|.cells Y.toArray u) S s a x.heap.size u Y λy=>Row y X t c/\K y:=
 ⟨h.at_.alloc _,iQ h.g _,aX x Y u,⟨h.X.alloc _,b (.inl rfl) (iQ (bT x _) _) k⟩,λe g k=>⟨(g.block X k.1.lt<|by have:=h.n;have:=h.X.lt;simp;omega).trans k.1,b e g k.2⟩,yX h.at_,by have:=h.X.lt;have:=h.l;omega⟩
def Sg.push{o x S s a X t b K}(h:Sg o x S s a X t b K)(j:Nat)(v Y u):let y:=(x.setCell (X,j) v).alloc<|.cells Y.toArray u;Row y x.heap.size u Y/\K y/\C2 y S s a/\o.grownBy y (some S)/\x.heap.size<y.heap.size:=by
 have h:=h.set j v;have e:(x.setCell (X,j) v).heap.size=x.heap.size:=by simp[World.setCell,Fj]
 have n:=aX (x.setCell (X,j) v) Y u;rw[e]at n;exact⟨n,h.st (.inl rfl) (iQ (bT _ _) _) h.k,h.at_.alloc _,iQ h.g _,n.lt⟩
def Sg.apd{o x y S s a T t X}{u:Value}(h:y.grownBy x u.ownBlock)(d:∀b,u.ownBlock=some b->T<b)(A:C2 y S s a)(g:o.grownBy y (some S))(R:Row y T t X)(n:S<T)(l:o.heap.size<=T):Sg o x S s a T t X Tr:=⟨xW A h (λb c=>by have:=d b c;omega),YU g h (λb c=>by have:=d b c;omega),xW R h (λb c=>by have:=d b c;omega),trivial,λ_ _ _=>trivial,n,l⟩
def sgT{o x S s}{a:Nat}{X t b K}(h:Sg o x S s a X t b K)(n:Nat)(B:a<=1000000)(C:n<=1000){Q}(k:∀y,Sg o y S s (a+n) X t b K->Q (.returned (mk<|iM s a n)) y):Calls Vp 133 #[.pointer S,n] x Q:=(Hl S s a n x h.at_ B C).m1 λy e=>k y<|h.sc e
def sgN{o x S s}{a:Nat}{X t b K}(h:Sg o x S s a X t b K)(n:Nat)(B:a<=1000000)(C:n<=4){Q}(k:∀y,Sg o y S s (a+n) X t b K->Q (.returned<|cM s a n) y):Calls Vp 134 #[.pointer S,n] x Q:=(yf S s a n x h.at_ B C).m1 λy e=>k y<|h.sc e
def Te{x:World}{B e s n v c S}(h:x.ownsRow B e s v n c)(b:S<B){w W:World}{g:Nat}(d:g=S\/x.heap.size<=g)(i:w.grownBy W (some g))(k:w.ownsRow B e s v n c):W.ownsRow B e s v n c:=k.kept i (by rcases f:v.ownBlock with _|m;exact .inl rfl;have:=h.lt m f;right;intro e;cases e;omega)
def ac8{x:World}{e s n v c}{b o:Nat}{u:Value}(h:x.ownsRow (b+1) e s v n c):(x.setCell (b,o) u).ownsRow (b+1) e s v n c:=nW h (cI x (b,o) u)<|Dm _
def CX{w b g v l}(h:fG b w v l)(a:g<b)(c V e d):fG b ((((w.setCell ⟨g,0,none⟩ c).setCell ⟨g,1,none⟩ V).setCell ⟨g,2,none⟩ e).setCell ⟨g,3,none⟩ d) v l:=
 (((h.kept (cI _ ⟨g,0,none⟩ _) a).kept (cI _ ⟨g,1,none⟩ _) a).kept (cI _ ⟨g,2,none⟩ _) a).kept (cI _ ⟨g,3,none⟩ _) a
def sx{a w b}(e:Below b a w)(c v V d):Below b a ((((w.setCell ⟨b,0,none⟩ c).setCell ⟨b,1,none⟩ v).setCell ⟨b,2,none⟩ V).setCell ⟨b,3,none⟩ d):=
 (((e.setCell (p:=⟨b,0,none⟩) L9 c).setCell (p:=⟨b,1,none⟩) L9 v).setCell (p:=⟨b,2,none⟩) L9 V).setCell (p:=⟨b,3,none⟩) L9 d
def V5{B b:Nat}{w:World}{e:TypeId}{s n:Nat}{v:Value}{x:List Value}(h:w.ownsRow b e s v n x)(f:B≤b):w.ownsRow B e s v n x:=by
  refine⟨h.1,?_⟩;obtain H|⟨g,c,C,E,d,a⟩:=h.2;.exact .inl H
  .exact .inr ⟨g,c,C,E,by omega,a⟩
def YV(s:List UInt8)(a:Nat):(CV s a).1.ins.length≤9∧(CV s a).1.outs.length≤9:=by simp[CV,C3,zD];exact⟨BF _,BF _⟩
def Tf(s:List UInt8)(n a:Nat):∀t∈(kK s n a).1,t.ins.length≤9∧t.outs.length≤9:=by induction n with
  |zero=>intro t h;simp[kK]at h
  |succ n i=>
    intro t h;obtain h|h:=nA.1 h;.exact i t h
    .simp at h;subst h;exact YV s _
def Kz(s:List UInt8)(n a:Nat):(kK s n a).1.length=n:=by induction n with
  |zero=>rfl
  |succ n i=>simp[kK,i]
def YK(s w):Calls Vp 93 #[.string<|mk s] w λe w'=>∃v D,e=.returned (.agg #[.string<|mk (iD s).parent,.int .i64 (iD s).bits,.int .i64 (iD s).fX,v])/\D.map ku.m=(iD s).eO/\(∃B,w.heap.size<=B/\fG B w' v D)/\(D.length<=9/\∀d∈D,d.ins.length<=9/\d.outs.length<=9)/\Below w.heap.size w w':=by
 go_enter fA func93,ntmps93;go_wp2;have R0:=(aX w [aB,aA,aA,()] 93).alloc<|.cells #[.string<|mk s,aA] 246;have P:=aX (w.alloc<|.cells #[aB,aA,aA,()] 93) [.string<|mk s,aA] 246;rw[cR]at P;have u:=λr=>iQ (iQ (bT w r)<|.cells #[aB,aA,aA,()] 93)<|.cells #[.string<|mk s,aA] 246;refine(Hl (w.heap.size+1) s 0 8 _ P O9 O9).m1 λw1 h=>?_;replace R0:=h.row R0 O9;replace u:=u (some<|w.heap.size+1);have H:Hid (iD s=⟨iM s 0 8,cM s 8 1,cM s 9 2,(kK s (nk<|cM s 11 1) 12).1⟩):=rfl;generalize iM s 0 8=Y at H|-;generalize hsb:w.heap.size+1=sb at h u|-;go_wp2;have I:=Sg.of u h [.string<|mk Y,aA,aA,()] 93 (R0.alloc _) λe g k=>(g.block _ (yX k)<|by have:=R0.lt;simp;omega).trans k;generalize w1.alloc _=w2 at I|-;generalize w1.heap.size=bb at I|-;clear R0 u h P;refine sgN I 1 O9 O9 λw3 I=>?_;generalize cM s 8 1=bits at H|-;have C:=I.X.r 1;have f0:=I.X.frozen 1;go_wp2;clear C f0;replace I:=I.set 1<|.int .i64 bits;generalize w3.setCell _ _=w4 at I|-;refine sgN I 2 O9 O9 λw5 I=>?_;generalize cM s 9 2=fX at H|-;have C:=I.X.r 2;have f0:=I.X.frozen 2;go_wp2;clear C f0;replace I:=I.set 2<|.int .i64 fX;generalize w5.setCell _ _=w6 at I|-;refine sgN I 1 O9 O9 λw7 I=>?_;have hbd:=zE s 11;generalize cM s 11 1=n at H hbd|-;obtain⟨n,rfl⟩:=rL hbd.1;go_wp2;have hN:nk (n:Int)=min n 9:=rfl;generalize nk (n:Int)=N at H hN;go_loopw [6] (λi wr=>∃(k:Nat)(tv:Value)(D:List ku),k<=N/\i=.int .i64 k/\D.map ku.m=(kK s k 12).1/\fG (bb+1) wr tv D/\Sg w wr sb s (kK s k 12).2 bb 93 [.string<|mk Y,.int .i64 bits,.int .i64 fX,tv] λx=>Row x w.heap.size 93 [aB,aA,aA,()]) (λi _=>N -(intOf i).toNat);case atStart=>exact⟨0,_,[],cH _,rfl,rfl,fG.nil _ _,I⟩
 case round=>
  clear I;obtain⟨k,tv,D,hk,rfl,hds,hS,I⟩:=hrel;replace hds:=aK hds;by_cases hkN:k<N
  .have L:Hid (kK s (k+1) 12=((kK s k 12).1++[(CV s (kK s k 12).2).1],(CV s (kK s k 12).2).2)):=rfl;have hab:=ac7 s k 12;have htl:=aK<|Kz s k 12;generalize(kK s k 12).1=ts at hds L htl;generalize(kK s k 12).2=a at I L hab;have hkn:(k:Int)<n:=O9;have KB:(k:Int)<9:=O9;have ha1:a<=50000:=O9;clear hab;go_wp2;have⟨W,hwo⟩:∃x,x=wr:=⟨_,rfl⟩;subst hwo;have m:Hid (∀c e,c=jY s (nk<|cM s (a+2) 1) (a+2+1)->e=jq s (nk<|cM s c.2 1) (c.2+1)->CV s a=(⟨cM s a 2,c.1,e.1⟩,e.2)):=by intro c e hc he;subst hc he;rfl
   refine(yf sb s a 2 _ I.at_ O9 O9).m1 λwa h=>?_;generalize cM s a 2=tag at m|-;go_wp2;have G:=Sg.of (bT W _) h [.int .i64 tag,(),()] 90 trivial λ_ _ _=>trivial;clear h;generalize wa.alloc _=wb at G|-;generalize wa.heap.size=t at G|-;have hst:=G.n;have hol:=G.l;refine sgN G 1 O9 O9 λwc G=>?_;have hbi:=zE s<|a+2;generalize cM s (a+2) 1=ni at m hbi|-;obtain⟨ni,rfl⟩:=rL hbi.1;have hNi:nk (ni:Int)=min ni 9:=rfl;generalize nk (ni:Int)=E at m hNi;go_wp2;go_loopw [9] (λi wx=>∃(j:Nat)(o:Value),j<=E/\i=.int .i64 j/\Hn (t+1) wx o (jY s j<|a+2+1).1/\Sg W wx sb s (jY s j<|a+2+1).2 t 90 [.int .i64 tag,o,()] Tr) (λi _=>E -(intOf i).toNat);case atStart=>exact⟨0,_,cH _,rfl,mV _ _ _ _,G⟩
   case round=>
    clear G;obtain⟨j,o,hj,rfl,f,G⟩:=hrel;by_cases hjN:j<E
    .have hI:Hid (jY s (j+1) (a+2+1)=((jY s j<|a+2+1).1++[(IY s (jY s j<|a+2+1).2).1],(IY s (jY s j<|a+2+1).2).2)):=rfl;have hcb:=Hm s j<|a+2+1;have hil:=C3 s j<|a+2+1;generalize(jY s j<|a+2+1).1=is at f hI hil;generalize(jY s j<|a+2+1).2=c at G hI hcb;have hjn:(j:Int)<ni:=O9;have hj9:(j:Int)<9:=O9;have hc1:c<=60000:=O9;clear hcb;replace hil:=aK hil;go_wp2;have hiv:=λb(p:o.ownBlock=some b)=>(nD f b p).1;have q:Hid (IY s c=(⟨mk<|iM s c 8,cM s (c+8) 1,mk<|iM s (c+8+1+1) (cM s (c+8+1) 1).toNat⟩,c+8+1+1+(cM s (c+8+1) 1).toNat)):=rfl;have X:=G.new [aB,aA,aB] 139 f<|Te f O9;have htx:=G.X.lt;clear f G;generalize wr.alloc _=x0 at X|-;generalize wr.heap.size=A at X htx|-;refine sgT X 8 O9 O9 λx1 X=>?_;generalize mk (iM s c 8)=q0 at q|-;have C:=X.X.r 0;have f0:=X.X.frozen 0;go_wp2;clear C f0;replace X:=X.set 0<|.string q0;generalize x1.setCell _ _=x2 at X|-;refine sgN X 1 O9 O9 λx3 X=>?_;generalize cM s (c+8) 1=q1 at q|-;have C:=X.X.r 1;have f0:=X.X.frozen 1;go_wp2;clear C f0;replace X:=X.set 1<|.int .i64 q1;generalize x3.setCell _ _=x4 at X|-;refine sgN X 1 O9 O9 λx5 X=>?_;have hbz:=zE s<|c+8+1;generalize cM s (c+8+1) 1=z at q hbz|-;obtain⟨z,rfl⟩:=rL hbz.1;rw[oq]at q;go_wp2;refine sgT X z O9 O9 λx6 X=>?_;generalize mk (iM s (c+8+1+1) z)=π at q|-;have C:=X.X.r 2;have f0:=X.X.frozen 2;have⟨z0,z1⟩:=X.X.p2;have M:=X.k.1.r 1;have akP:t≠A:=O9;have akQ:A≠t:=O9;have aj7:is.length<=1000000:=by have:=hil.out;omega
     have⟨N7,⟨U,S⟩,Q,V,lw⟩:=X.push 2 (.string π) [.string q0,.int .i64 q1,.string π] 139;have hxl:=X.X.lt;clear X;go_wp2_with (at_builtin;refine MB rfl _ _ rfl o is rfl S ⟨q0,q1,π⟩ _ rfl N7 aj7 O9 ?_;intro iv' y hO8 hg8 hl8;have⟨ig,ic,hiq⟩:=cX hO8 is.length (by simp);subst hiq;have G8:=Sg.apd hg8 hiv Q V U hst hol;have T:=G8.X.r 1;have f8:=G8.X.frozen 1);clear T f8 C f0 z0 z1 M;go_roundw;case rel=>exact⟨j+1,_,O9,by go_num,by rw[hI.out,q.out];exact ac8 hO8,by rw[hI.out,q.out];exact G8.set 1 _⟩
     case measure=>simp[intOf];omega
    have hj':j=E:=O9;subst hj';have hil:=C3 s j<|a+2+1;have hcb:=Hm s j<|a+2+1;replace m:=λe=>m.out (jY s j<|a+2+1) e rfl;generalize(jY s j<|a+2+1).1=is at f m hil;generalize(jY s j<|a+2+1).2=c at G m hcb;replace m:=aK m;have hc1:c<=60000:=O9;have aj7:is.length<=9:=O9;clear hcb hil;have hlr:=G.X.lt;have hiv:=λb(p:o.ownBlock=some b)=>nD f b p;have aj8:(ni:Int)<=j\/((j:Int)<ni/\(9:Int)<=j):=O9;clear hj hjN hNi;have⟨wi,hwi⟩:∃x,x=wr:=⟨_,rfl⟩;subst hwi;obtain hca|hca:=aj8;all_goals
     go_wp2;refine(yf sb s c 1 _ G.at_ O9 O9).m1 λwd h=>?_;replace G:=G.sc h;replace f:=nW f h.grown O9;have hwd:=h.grown.size;clear h;have hbo:=zE s c;generalize cM s c 1=no at m hbo|-;obtain⟨no,rfl⟩:=rL hbo.1;have hNo:nk (no:Int)=min no 9:=rfl;generalize nk (no:Int)=F at m hNo;go_wp2;go_loopw [13] (λi wx=>∃(l:Nat)(O:Value),l<=F/\i=.int .i64 l/\IZ wi.heap.size wx O (jq s l<|c+1).1/\Hn (t+1) wx o is/\Sg W wx sb s (jq s l<|c+1).2 t 90 [.int .i64 tag,o,O] Tr/\Hid (wi.heap.size<=wx.heap.size)) (λi _=>F -(intOf i).toNat);case atStart=>exact⟨0,_,cH _,rfl,mV _ _ _ _,f,G,hwd⟩
     case round=>
      clear G f;obtain⟨l,O,hl,rfl,hU,f,G,hws⟩:=hrel;by_cases hlN:l<F
      .have hI:Hid (jq s (l+1) (c+1)=((jq s l<|c+1).1++[(yU s (jq s l<|c+1).2).1],(yU s (jq s l<|c+1).2).2)):=rfl;have hdb:=Kw s l<|c+1;have aiE:=zD s l<|c+1;generalize(jq s l<|c+1).1=os at hU hI aiE;generalize(jq s l<|c+1).2=d at G hI hdb;have hln:(l:Int)<no:=O9;have hl9:(l:Int)<9:=O9;have hd1:d<=70000:=O9;clear hdb;replace aiE:os.length<=1000000:=O9;go_wp2;have q:Hid (yU s d=(⟨cM s d 4,mk<|iM s (d+4+1) (cM s (d+4) 1).toNat⟩,d+4+1+(cM s (d+4) 1).toNat)):=rfl;refine(yf sb s d 4 _ G.at_ O9 O9).m1 λy1 h=>?_;replace G:=G.sc h;replace hU:=nW hU h.grown O9;replace f:=nW f h.grown O9;have hwy:=cA hws.out h.grown.size;clear h hws;generalize cM s d 4=q0 at q|-;go_wp2;have hov:=λb(p:O.ownBlock=some b)=>(nD hU b p).1;have X:=G.new [.int .i64 q0,aB] 86 (K:=λx=>IZ wi.heap.size x O os/\Hn (t+1) x o is) ⟨hU,f⟩ λe g k=>⟨Te hU O9 e g k.1,Te f O9 e g k.2⟩;have htx:=G.X.lt;clear f hU G;generalize y1.alloc _=y2 at X|-;generalize y1.heap.size=A at X htx hwy|-;refine sgN X 1 O9 O9 λy3 X=>?_;have hbz:=zE s<|d+4;generalize cM s (d+4) 1=z at q hbz|-;obtain⟨z,rfl⟩:=rL hbz.1;rw[oq]at q;go_wp2;refine sgT X z O9 O9 λy4 X=>?_;generalize mk (iM s (d+4+1) z)=q1 at q|-;have C:=X.X.r 1;have f0:=X.X.frozen 1;have z0:=X.X.r 0;have M:=X.k.1.r 2;have akP:t≠A:=O9;have akQ:A≠t:=O9;have⟨N7,⟨U,Uw,S⟩,Q,V,lw⟩:=X.push 1 (.string q1) [.int .i64 q0,.string q1] 86;have hxl:=X.X.lt;clear X;go_wp2_with (at_builtin;refine MC rfl _ _ rfl O os rfl Uw ⟨q0,q1⟩ _ rfl N7 aiE O9 ?_;intro ov' y hU8 hg8 hl8;have⟨ig,ic,hiq⟩:=cX hU8 os.length (by simp);subst hiq;have G8:=Sg.apd hg8 (λb p=>by have:=hov b p;omega) Q V U hst hol;have hO8:=qK S hg8 (λb p e=>by have:=(hiv b p).2;have:=hov b e;omega);have T:=G8.X.r 2;have f8:=G8.X.frozen 2);clear T f8 C f0 z0 M;go_roundw;case rel=>exact⟨l+1,_,O9,by go_num,by rw[hI.out,q.out];exact nW hU8 (cI y (t,2) _) (by show t<_;omega),ac8 hO8,by rw[hI.out,q.out];exact G8.set 2 _,cA (cA (by omega) hg8.size) (cI y (t,2) _).size⟩
       case measure=>simp[intOf];omega
      have hl':l=F:=O9;subst hl';have hos:=zD s l<|c+1;replace m:=m.out _ rfl;generalize(jq s l<|c+1).1=os at hU m hos;generalize(jq s l<|c+1).2=d at G m;replace m:=aK m;have hbt:=I.X.lt;have hsc:vr W wr sb s d:=⟨G.at_,G.g⟩;have hS2:=hS.kept G.g (by have:=I.n;omega);replace I:=I.sc hsc;have hsn:=I.n;have hlb:=I.l;have⟨t0,M,t2⟩:=G.X.p3;have b3:=I.X.r 3;have hdl:D.length<=1000000:=by have J:=congrArg List.length hds.out;have h2:=htl.out;rw[dS]at J;omega
      have hlw:=I.X.lt;have N7:Row (wr.alloc<|.cells [.int .i64 tag,o,O].toArray 90) wr.heap.size 90 (ku.cells ⟨tag,o,is,O,os⟩):=aX wr [.int .i64 tag,o,O] 90;have hSw:=hS2.kept (iQ (bT wr<|some sb)<|.cells [.int .i64 tag,o,O].toArray 90) O9;have hBw:=N7.lt;have hvb:=λb(p:tv.ownBlock=some b)=>(nD hS.own b p).1;have htv:=λb(p:tv.ownBlock=some b)=>(nD hS.own b p).2;have ho1:=D7 f;have ho2:=D7 hU;have aiF:(no:Int)<=l\/((l:Int)<no/\(9:Int)<=l):=O9;replace f:Hn (t+1) (wr.alloc<|.cells [.int .i64 tag,o,O].toArray 90) o is:=pP f _;replace hU:IZ (t+1) (wr.alloc<|.cells [.int .i64 tag,o,O].toArray 90) O os:=V5 (pP hU _) O9;clear hsc hS2 hS G;obtain hcc|hcc:=aiF;all_goals
       go_wp2_with (at_builtin;refine MD rfl _ _ rfl tv D rfl hSw.own ⟨tag,o,is,O,os⟩ _ rfl N7 ho1 ho2 hdl O9 ?_;intro tv' y hT8 hg8 hl8;have hS8:=hSw.snoc (B1:=t+1) O9 hT8 hg8 hl8 (λb p=>by have:=htv b p;omega) f hU;have⟨ig,ic,hiq⟩:=cX hT8 D.length (by simp);subst hiq;have R:Sg _ _ _ _ _ _ _ _ λx=>Row x w.heap.size 93 [aB,aA,aA,()]:={Sg.apd hg8 hvb (I.at_.alloc _) (iQ I.g _) (I.X.alloc _) hsn hlb with k:=xW (I.k.alloc _) hg8 (λb p=>by have:=hvb b p;omega),st:=I.st};have T:=R.X.r 3;have f8:=R.X.frozen 3);clear T f8;go_roundw;case rel=>exact⟨k+1,_,D++[⟨tag,o,is,O,os⟩],O9,by go_num,by rw[L.out,m.out,kq,hds.out];rfl,hS8.kept (cI y (bb,3) _)<|Dm bb,by rw[L.out,m.out];exact R.set 3 _⟩
       case measure=>simp[intOf];omega
  have hk':k=N:=O9;subst hk';have KB:k<=9:=O9;have hdl:D.length=k:=by have J:=congrArg List.length hds.out;rw[dS,Kz]at J;exact J
  have hdm:=aK λd(hd:d∈D)=>Tf s k 12 d.m<|hds.out▸tN hd;generalize(kK s k 12).1=ts at hds H;generalize(kK s k 12).2=a at I;have R0:=I.k;have R1:=I.X;have hbw:=R1.lt;have hlb:=I.l;have hnb:=I.n;have⟨a0,a1,a2,a3⟩:=R0.p4;have fa0:=R0.frozen;have⟨C,c1,c2,c3⟩:=R1.p4;have ak6:w.heap.size≠bb:=O9;have ak7:bb≠w.heap.size:=O9;have aiG:(n:Int)<=k\/((k:Int)<n/\(9:Int)<=k):=O9;have⟨ta,tn,tc,htq⟩:∃a n c,tv=.slice a n c:=by obtain⟨e,_⟩|⟨g,cap,cur,e,_⟩:=hS.own.2<;>exact⟨_,_,_,e⟩
  subst htq;obtain hcc|hcc:=aiG;all_goals go_wp2;rw[H.out];refine cY (v:=.agg #[.string<|mk Y,.int .i64 bits,.int .i64 fX,(ta,tn,tc)]) (by simp[results,results93,go_sem,a0,a1,a2,a3]) rfl ⟨_,D,rfl,hds.out,⟨bb+1,O9,CX hS (by omega) _ _ _ _⟩,⟨O9,hdm.out⟩,sx (B0.grown I.g L9 λk hk=>by simp at hk;omega) _ _ _ _⟩
def qB(s:List UInt8):Option jL:=if rf (iD s)then(if rh (iD s)=s then some (iD s)else none)else none
def tj(s:List UInt8)(w:World):Calls Vp 48 #[.string<|mk s] w λe I=>Below w.heap.size w I∧((qB s=none∧e=.returned (.tuple #[eU,aG]))∨∃b v D,qB s=some b∧e=.returned (.tuple #[.agg #[.string<|mk b.parent,.int .i64 b.bits,.int .i64 b.fX,v],aA])∧D.map ku.m=b.eO∧xw I v D∧∃B,fG B I v D):=by
  have H:Hid (qB s=if rf (iD s)then(if rh (iD s)=s then some (iD s)else none)else none):=rfl;go_enter fA func48,ntmps48;go_wp2;refine(YK s _).mono ?_;rintro e W⟨v,D,rfl,o,⟨B,P,l⟩,⟨aa,N⟩,z⟩;rw[cR]at P;have y:=l.acV (by omega) (λd c=>by have:=N d c;omega);have R:=(aX w [aB,aA,aA,.slice none 0 0] 93).keep z (by simp);have k:=((Below.refl _ _).alloc (mi _) _).trans (z.mono<|by simp);clear z;have G:=aiA D _ o;have E:rf (iD s)=dI (mk (iD s).parent) (iD s).bits (iD s).fX D:=(GX G _ _ _).symm;have g:rh (iD s)=fP (mk (iD s).parent) (iD s).bits (iD s).fX D:=(EF G _ _ _).symm;have H:=H.out;rw[E,g]at H;clear E g G;generalize iD s=M at H o|-;have⟨p,a,n,S⟩:=M;simp only at H o|-;have⟨t,T,Q,_⟩:=y.form;subst Q;have H:=aK H;go_wp2;have C:Below W.heap.size W (W.alloc<|.cells #[.string<|mk p,.int .i64 a,.int .i64 n,(t,D,T)] 93):=(Below.refl _ _).alloc (mi _) _;have L:=R.lt;refine(G7 (mk p) a n t T D _<|y.keep C).m1 λw2 F=>?_;have m:=mD C (mi _) F;have j:=(aX W [.string<|mk p,.int .i64 a,.int .i64 n,(t,D,T)] 93).keep F (by simp);have R:=R.keep m L;have l:=l.keep m;have k:=k.trans (m.mono<|by omega);clear C F m y;generalize W.heap.size=J at L j|-;have A:=R.cell 0;have r:=R.cell 1;have u:=R.cell 2;have x:=R.cell 3;have π:=R.frozen;have U:=j.cell 0;have V:=j.cell 1;have X:=j.cell 2;have Y:=j.cell 3;have ac:w.heap.size≠J:=by omega
  have ad:J≠w.heap.size:=by omega
  have K:=aK l;cases f:dI (mk p) a n D
  . have c:qB s=none:=by have h:=H.out;rw[f]at h;exact h
    have E:SH (mk p) a n D=1:=by simp[SH,f]
    have g:SG (mk p) a n D=⟨#[]⟩:=by simp[SG,f]
    rw[E,g];clear H;go_wp2;exact cY (v:=.tuple #[eU,aG]) (by simp[results,results48,go_sem,A,r,u,x,eU]) rfl ⟨sx k _ _ _ _,.inl ⟨c,rfl⟩⟩
  . have E:SH (mk p) a n D=0:=by simp[SH,f]
    have g:SG (mk p) a n D=mk (fP (mk p) a n D):=by rw[SG,aN f];rfl
    rw[E,g];by_cases i:fP (mk p) a n D=s
    . have c:qB s=some ⟨p,a,n,S⟩:=by have h:=H.out;rw[f,aN rfl,aN i]at h;exact h
      rw[i];clear H i;go_wp2;exact cY (v:=.tuple #[.agg #[.string<|mk p,.int .i64 a,.int .i64 n,(t,D,T)],aA]) (by simp[results,results48,go_sem,A,r,u,x]) rfl ⟨sx k _ _ _ _,.inr ⟨_,_,D,c,rfl,o,(CX K.out (by omega) _ _ _ _).acV (by omega) (λd c=>by have:=N d c;omega),B,CX K.out (by omega) _ _ _ _⟩⟩
    . have c:qB s=none:=by have h:=H.out;rw[f,aN rfl,aJ i]at h;exact h
      have O:mk (fP (mk p) a n D)≠mk s:=λh=>i (by have:=congrArg (λb:ByteArray=>b.data.toList) h;simpa[mk]using this);generalize mk (fP (mk p) a n D)=q at O|-;have ab:(q.toList==(mk s).toList)=false:=by rw[beq_eq_false_iff_ne,ByteArray.toList_eq,ByteArray.toList_eq];intro h;exact O (UM<|Array.toList_inj.1 h)
      clear H i;go_wp2;exact cY (v:=.tuple #[eU,aG]) (by simp[results,results48,go_sem,A,r,u,x,eU]) rfl ⟨sx k _ _ _ _,.inl ⟨c,rfl⟩⟩
def afB(a b)(g:b<256):a^^^b=a -a%256+(a%256^^^b):=by
 have d:(a^^^b)/2^8=a/2^8:=by rw[Nat.xor_div_two_pow,Nat.div_eq_of_lt (a:=b) O9,Nat.xor_zero]
 have e:(a^^^b)%2^8=(a%2^8)^^^b:=by rw[Nat.xor_mod_two_pow,Ng (a:=b) O9]
 have c:=Uh (a^^^b) 256;have f:=Uh a 256;rw[show(256:Nat)=2^8 from rfl]at c f|-;rw[d,e]at c;omega
def YJ(h)(c:UInt8)(a:0<=h)(b:h<18446744073709551616):0<=bits .xor .u64 (h%256) (c.toNat:Int)/\bits .xor .u64 (h%256) (c.toNat:Int)<256/\bits .xor .u64 h (c.toNat:Int)=h -h%256+bits .xor .u64 (h%256) (c.toNat:Int):=by obtain⟨n,rfl⟩:=rL a;have d:=c.toNat_lt;have e:((n:Int)%256)=((n%256:Nat):Int):=O9;have f:n%256^^^c.toNat<256:=Nat.xor_lt_two_pow (n:=8) O9 O9;rw[e,VX _ _ O9 O9,VX _ _ O9 O9,afB n c.toNat O9];omega
def BA(l w)(t:l.length<=1000000):Calls Vp 170 #[(mk l)] w λe p=>e=.returned (.int .u64<|hN l)/\p=w:=by
 go_enter fA func170,ntmps170;go_wp2;go_loop [3,4] (λh i=>∃k:Nat,k<=l/\i=↑k/\h=.int .u64 (hN<|l.take k)) (λ_ i=>l -(intOf i).toNat);case atStart=>exact⟨0,cH _,rfl,rfl⟩
 case round=>
  obtain⟨k,s,rfl,rfl⟩:=hrel;by_cases b:k<l
  .have j:=dH l k (k:Int) rfl b;have f:l.take (k+1)=l.take k++[l[k]]:=by rw[rN b]
   have d:Hid (hN (l.take<|k+1)=xp (hN<|l.take k) (l.getD k 0)):=by unfold Hid;rw[f,VY];simp[List.getD,b]
   clear f;have a:=GP<|l.take k;have o:=(l.getD k 0).toNat_lt;generalize hN (l.take k)=h at d a;generalize l.getD k 0=c at j d o;have⟨q,r,g⟩:=YJ h c a.1 a.2;have n:Hid (xp h c=IntKind.u64.wrap (IntKind.u64.wrap (h -h%256+bits .xor .u64 (h%256) (c.toNat:Int))*1099511628211)):=by unfold Hid xp;rw[IntKind.wrap_u64<|h -h%256+bits .xor .u64 (h%256) (c.toNat:Int),Int.emod_eq_of_lt O9 O9,g]
   clear q r g;go_wp2;go_round;case rel=>exact⟨k+1,O9,by go_num,by rw[d.out,n.out]⟩
   case measure=>simp[intOf];omega
  have m:k=l:=O9;subst m;rw[gQ];go_wp2;go_ret;exact⟨rfl,rfl⟩
def um(n w)(b:0<=n)(d:n<18446744073709551616):Calls Vp 169 #[.int .u64 n] w λe W=>e=.returned (mk<|be n 8)/\Below w w W:=by
 go_enter fA func169,ntmps169;go_wp2;go_loopw [0,3,4] (λN s i wr=>∃(j:Nat)(m:Int),j<=8/\i=↑j/\N=.int .u64 m/\m=n/2^(8*j)/\s=↑(mk<|be n j)/\Below w w wr) (λ_ _ i _=>8 -(intOf i).toNat);case atStart=>exact⟨0,n,cH _,rfl,rfl,S8,rfl,B0⟩
 case round=>
  obtain⟨j,m,g,rfl,rfl,h,rfl,H⟩:=hrel;have l:0<=m:=h▸Int.ediv_nonneg b (UK<|UL D9);have o:m<=n:=h▸Int.ediv_le_self _ b;have c:=aK h;clear h;by_cases k:j<8
  .have f:=V4 wr (m%256) O9 O9;have p:((mk<|be n j).size:Int)<=8:=by rw[cD,bI];omega
   go_wp2;go_roundw;case rel=>refine⟨j+1,m/256,O9,by go_num,by go_num,by rw[c.out,Pw],?_,H.alloc H.size _⟩;have e:(ByteArray.mk #[byteOf<|m%256])=mk [byteOf<|m%256]:=rfl;rw[e,eH,be,c.out];rfl
   case measure=>simp[intOf];omega
  have:j=8:=O9;subst this;generalize a:mk (be n 8)=q;go_wp2;go_ret;exact⟨by rw[(aK a).out];rfl,H⟩
end
def Sc{a:Type}(g:List UInt8->Nat->a×Nat)(P:a->Prop)(e:a->List UInt8):Prop:=∀(x:a)(p r:List UInt8),P x->g (p++(e x++r)) p.length=(x,(p++e x).length)
def G6(p l:List UInt8)(i):(p++l).getD (p+i) 0=l.getD i 0:=by grind
def Ps(p t r k)(e:k=1\/k=2\/k=4)(d:t.length=k):cM (p++(t++r)) p k=dV t:=by
 obtain rfl|rfl|rfl:=e;match t,d with
 |[a],_=>simp only[cM,G6,dV,List.foldl];simp
 match t,d with
 |[a,b],_=>simp only[cM,G6,dV,List.foldl];simp;omega
 match t,d with
 |[a,b,c,f],_=>simp only[cM,G6,dV,List.foldl];simp;omega
def aiu(k)(b:k=1\/k=2\/k=4):Sc (λs a=>(cM s a k,a+k)) (λn:Int=>0<=n/\n<256^k) (λn=>be n k):=by intro n p r ⟨c,d⟩;simp[Ps p (be n k) r k b<|bI n k,Pj n k b c d,cB,bI]
def afz(n):Sc (λs a=>(iM s a n,a+n)) (λt:List UInt8=>t=n) (λt=>t):=by intro t p r c;show(iM (p++(t++r)) p n,p+n)=_;rw[iM,aJ (by grind),List.drop_left,<-c,List.take_left,cB]
def Mq{w}{f:Nat->List UInt8->Nat->w×Nat}{F:List UInt8->Nat->Nat->List w×Nat}(p:∀s a,F s 0 a=([],a))(r:∀s n a,F s (n+1) a=((F s n a).1++[(f n s (F s n a).2).1],(f n s (F s n a).2).2)){P:Nat->w->Prop}{e}(q:∀n,Sc (f n) (P n) e)(n):Sc (λs a=>F s n a) (λl=>l=n/\∀i x,l[i]?=some x->P i x) (λl=>l.flatMap e):=by
 induction n with
 |zero=>intro l v R b;have:=lW b.1;subst this;simp[p,List.flatMap_nil,kY]
 |succ n u=>
   intro l v R b;have d:l≠[]:=by grind
   have c:=ag4 d;have o:l.dropLast=n:=by grind
   have j:P n (l.getLast d):=b.2 n _ (by rw[ag5,aY<|by rw[b.1];omega];simp[b.1,Nk]);have k:=λi x(t:l.dropLast[i]?=some x)=>b.2 i x<|c▸vd t;generalize l.dropLast=m at c o k;generalize l.getLast d=y at c j;subst c;have g:=u m v (e y++R) ⟨o,k⟩;have h:=q n y (v++m.flatMap e) R j;simp[UG,ag6,dP]at g h|-;rw[r,g,h]
def Pv{f g P e}(h:Sc g P e){s a}(x:f)(p r)(d:s=p++(e x++r))(c:a=p.length)(b:P x):g s a=(x,(p++e x).length):=by subst d c;exact h x p r b
def kS{s a k}(e:k=1\/k=2\/k=4)(n p r)(f:s=p++(be n k++r))(d:a=p.length)(b:0<=n)(c:n<256^k):cM s a k=n:=congrArg Prod.fst<|Pv (aiu k e) n p r f d ⟨b,c⟩
def vh{s a n}(t p r)(d:s=p++(t++r))(b:a=p.length)(c:t.length=n):iM s a n=t:=congrArg Prod.fst<|Pv (afz n) t p r d b c
def aj0:Sc IY (λx=>x.fits=true) jB.bytes:=by intro x p r g;have⟨b,h,i⟩:=(Mm x).1 g;generalize a:p++(x.bytes++r)=s;have c:iM s p 8=gL x.tx:=vh _ p (be x.idx 1++(be x.key.size 1++(gL x.key++r))) (by rw[<-a];simp only[jB.bytes,dP]) rfl b;have d:cM s (p+8) 1=x.idx:=kS (.inl rfl) _ (p++gL x.tx) (be x.key.size 1++(gL x.key++r)) (by rw[<-a];simp only[jB.bytes,dP]) (by simp only[cB];omega) h.1 O9;have e:cM s (p+8+1) 1=(x.key.size:Int):=kS (.inl rfl) _ (p++gL x.tx++be x.idx 1) (gL x.key++r) (by rw[<-a];simp only[jB.bytes,dP]) (by simp only[cB,bI];omega) O9 (by rw[dF]at i;omega);have f:iM s (p+8+1+1) x.key.size=gL x.key:=vh _ (p++gL x.tx++be x.idx 1++be x.key.size 1) r (by rw[<-a];simp only[jB.bytes,dP]) (by simp only[cB,bI];omega)<|dF _;simp only[IY,c,d,e,oq,f,Bz,wE,jB.bytes,cB,bI,b,dF];exact⟨trivial,O9⟩
def aiv:Sc yU (λx=>x.fits=true) dD.bytes:=by intro x p r e;have⟨f,g⟩:=(GV x).1 e;generalize a:p++(x.bytes++r)=s;have b:cM s p 4=x.val:=kS (.inr<|.inr rfl) _ p (be x.lock.size 1++(gL x.lock++r)) (by rw[<-a];simp only[dD.bytes,dP]) rfl f.1 O9;have c:cM s (p+4) 1=(x.lock.size:Int):=kS (.inl rfl) _ (p++be x.val 4) (gL x.lock++r) (by rw[<-a];simp only[dD.bytes,dP]) (by simp only[cB,bI]) O9 (by rw[dF]at g;omega);have d:iM s (p+4+1) x.lock.size=gL x.lock:=vh _ (p++be x.val 4++be x.lock.size 1) r (by rw[<-a];simp only[dD.bytes,dP]) (by simp only[cB,bI])<|dF _;simp only[yU,b,c,oq,d,Bz,wE,dD.bytes,cB,bI,dF];exact⟨trivial,O9⟩
def aiw(n):Sc (λs a=>jY s n a) (λl=>l=n/\∀(i:Nat)x,l[i]?=some x->x.fits=true) (λl=>l.flatMap jB.bytes):=Mq (f:=λ_=>IY) (F:=jY) (P:=λ_ x=>x.fits=true) (λ_ _=>rfl) (λ_ _ _=>rfl) (λ_=>aj0) n
def afA(n):Sc (λs a=>jq s n a) (λl=>l=n/\∀(i:Nat)x,l[i]?=some x->x.fits=true) (λl=>l.flatMap dD.bytes):=Mq (f:=λ_=>yU) (F:=jq) (P:=λ_ x=>x.fits=true) (λ_ _=>rfl) (λ_ _ _=>rfl) (λ_=>aiv) n
def CU(n:Nat)(h:n<=9):nk (n:Int)=n:=by simp[nk,oq];omega
def aj1(first):Sc CV (λt=>gM t.tag t.ins t.outs first=true) rI:=by intro t p r h;have⟨i,m,n,j,k⟩:=(EY t first).1 h;have l:=acH first;generalize b:p++(rI t++r)=s;have c:cM s p 2=t.tag:=kS (.inr<|.inl rfl) _ p (be t.ins 1++(t.ins.flatMap jB.bytes++(be t.outs 1++(t.outs.flatMap dD.bytes++r)))) (by rw[<-b];simp only[rI,fW,dP]) rfl i.1 O9;have d:cM s (p+2) 1=(t.ins:Int):=kS (.inl rfl) _ (p++be t.tag 2) (t.ins.flatMap jB.bytes++(be t.outs 1++(t.outs.flatMap dD.bytes++r))) (by rw[<-b];simp only[rI,fW,dP]) (by simp only[cB,bI]) O9 O9;have f:cM s (p++be t.tag 2++be t.ins.length 1++t.ins.flatMap jB.bytes) 1=(t.outs:Int):=kS (.inl rfl) _ (p++be t.tag 2++be t.ins 1++t.ins.flatMap jB.bytes) (t.outs.flatMap dD.bytes++r) (by rw[<-b];simp only[rI,fW,dP]) rfl O9 O9;simp only[CV,c,d,CU _<|show t.ins.length<=9 by omega,(Pv (aiw t.ins) (s:=s) (a:=p+2+1) t.ins (p++be t.tag 2++be t.ins 1) (be t.outs 1++(t.outs.flatMap dD.bytes++r)) (by rw[<-b];simp only[rI,fW,dP]) (by simp only[cB,bI]) ⟨rfl,j⟩),f,CU _<|show t.outs.length<=9 by omega,(Pv (afA t.outs) (s:=s) (a:=(p++be t.tag 2++be t.ins.length 1++t.ins.flatMap jB.bytes).length+1) t.outs (p++be t.tag 2++be t.ins 1++t.ins.flatMap jB.bytes++be t.outs 1) r (by rw[<-b];simp only[rI,fW,dP]) (by simp only[cB,bI]) ⟨rfl,k⟩)];simp only[rI,fW,dP]
def aix(n):Sc (λs a=>kK s n a) (λl=>l=n/\∀(i:Nat)t,l[i]?=some t->gM t.tag t.ins t.outs ((i:Int)==0)=true) (λl=>l.flatMap rI):=Mq (f:=λ_=>CV) (F:=kK) (P:=λi t=>gM t.tag t.ins t.outs ((i:Int)==0)=true) (λ_ _=>rfl) (λ_ _ _=>rfl) (λi=>aj1<|(i:Int)==0) n
def acT(b)(h:rf b=true):iD (rh b)=b:=by have⟨j,k,l,n,m⟩:=(iC b).1 h;generalize c:rh b=s;rw[xh]at c;have d:iM s 0 8=b.parent:=vh _ [] (be b.bits 1++(be b.fX 2++(be b.eO 1++b.eO.flatMap rI))) (by rw[<-c];rfl) rfl j;have e:cM s 8 1=b.bits:=kS (.inl rfl) _ b.parent (be b.fX 2++(be b.eO 1++b.eO.flatMap rI)) (by rw[<-c]) O9 k.1 O9;have f:cM s 9 2=b.fX:=kS (.inr<|.inl rfl) _ (b.parent++be b.bits 1) (be b.eO 1++b.eO.flatMap rI) (by rw[<-c];simp[dP]) (by simp[cB,bI];omega) l.1 O9;have g:cM s 11 1=(b.eO:Int):=kS (.inl rfl) _ (b.parent++be b.bits 1++be b.fX 2) (b.eO.flatMap rI) (by rw[<-c];simp[dP]) (by simp[cB,bI];omega) O9 O9;simp[iD,d,e,f,g,CU _<|show b.eO.length<=9 by omega,(Pv (aix b.eO) (s:=s) (a:=12) b.eO (b.parent++be b.bits 1++be b.fX 2++be b.eO 1) [] (by rw[<-c];simp[dP,kY]) (by simp[cB,bI];omega) ⟨rfl,m⟩)]
def xu(s):iE s=qB s:=by by_cases a:((iL ⟨s,false⟩).2.bad||!(iL ⟨s,false⟩).2.l.isEmpty)=true;rw[iE,aN a,qB];by_cases c:rf (iD s)=true;rw[aN c];by_cases g:rh (iD s)=s;have f:=GW.back (iD s) [] c;rw[kY,g]at f;rw[f]at a;simp at a;rw[aJ g];rw[aJ c];rw[iE,aJ a];simp[Jc,not_or,aaw,Bool.not_eq_false',List.isEmpty_iff]at a;have⟨_,d,b⟩:=(GW.nQ ⟨s,false⟩) a.1;rw[a.2,kY]at b;simp only at b;have e:=acT _ d;rw[<-b]at e;rw[qB,e,aN d,aN b.symm]
def aiy(s):(⟨#[98]⟩:ByteArray)++mk s=mk (98::s):=eH [98] s
def Mr(s w):Calls Vp 139 #[(mk s)] w λe n=>e=.returned (.tuple #[(vU s),(dE s)])/\Below w w n:=by
 go_enter fA func139,ntmps139;go_wp2;refine(tj s _).mono ?_;rintro e W⟨c,⟨a,rfl⟩|⟨b,v,h,a,rfl,p,i,-⟩⟩;.rw[<-xu]at a;unfold eU;go_wp2;go_ret2;exact⟨by rw[(Bv a).1,(Bv a).2];rfl,c.alloc c.size _⟩
 rw[<-xu]at a;have o:=VZ a;have q:=cD s;have⟨l,m,k,_⟩:=i.form;subst k;go_wp2;have d:=c.alloc c.size<|.cells #[↑(mk b.parent),↑b.bits,↑b.fX,(l,h,m)] 93;have g:=GP (98::s);rw[aiy];refine(BA (98::s) _<|by simp[cQ];omega).m0 ?_;go_wp2;refine(um _ _ g.1 g.2).m1 λt j=>?_;generalize f:mk (be (hN (98::s)) 8)=r;go_wp2;go_ret2;exact⟨by rw[(xq a).1,(xq a).2,(aK f).out];rfl,(mD d L9 j)⟩
def aiz(l):(⟨#[116]⟩:ByteArray)++mk l=mk (116::l):=eH [116] l
def akL(c:fL):List Value:=c.cells++[.slice none 0 0,.int .i64<|-1]
def acU:mk (be 0 8)=jk:=K8
def Px(c w):Calls Vp 47 #[c.v] w λe i=>Below w w i/\((c.ok=false/\e=.returned (.tuple #[.pointer none,.int .i64 8]))\/∃b,c.ok=true/\e=.returned (.tuple #[ptr b,aA])/\w<=b/\Row i b 199 (akL c)):=by
 go_enter fA func47,ntmps47;unfold fL.v;go_wp2;have d:=Ba w<|.cells c.cells.toArray 26;have a:=aX w c.cells 26;change Calls _ _ _ (w.alloc<|.cells c.cells.toArray 26) _;generalize w.alloc _=j at d a|-;refine(afC c j).m1 λf h=>?_;have a:=a.keep h a.lt;have d:=d.trans<|h.mono d.size;clear h;cases g:c.ok;.go_wp2;go_ret2;exact⟨d,.inl ⟨g,rfl⟩⟩
 obtain⟨n,m,l,s,k⟩:=c;have C:f.cell? ((w:Nat),0)=some ↑n:=a.cell 0;have q:f.cell? ((w:Nat),1)=some ↑m:=a.cell 1;have r:f.cell? ((w:Nat),2)=some ↑l:=a.cell 2;have t:f.cell? ((w:Nat),3)=some ↑s:=a.cell 3;have o:f.cell? ((w:Nat),4)=some ↑k:=a.cell 4;go_wp2;go_ret2;exact⟨d.alloc d.size _,.inr ⟨_,(aK g).out,rfl,d.size,pD (w:=f) rfl⟩⟩
def CW(w):Calls Vp 138 #[] w λe b=>e=.returned jk/\Below w w b:=by go_enter fA func138,ntmps138;go_wp2;refine(um 0 w O9 O9).m1 λW a=>?_;rw[acU];go_wp2;go_ret;exact⟨rfl,a⟩
def SY(p)(i:Nat)(w)(x:p.length<=1000)(u:i+9<=p.length):Calls Vp 171 #[(mk p),↑((i:Int)+1)] w λe q=>e=.returned (.int .u64<|mG p i)/\q=w:=by
 go_enter fA func171,ntmps171;go_wp2;go_loopw [5,6] (λn j r=>∃k:Nat,k<=8/\j=↑k/\n=.int .u64 (dV<|((p.drop<|i+1).take 8).take k)/\r=w) (λ_ j _=>8 -(intOf j).toNat);case atStart=>exact⟨0,O9,rfl,rfl,rfl⟩
 case round=>
  obtain⟨k,s,rfl,rfl,rfl⟩:=hrel;have f:((p.drop<|i+1).take 8).length=8:=by rw[dJ,rM];omega
  have d:∀j,j<8->((p.drop<|i+1).take 8).getD j 0=p.getD (i+1+j) 0:=λj h=>by simp[List.getD,List.getElem?_take,Dr,aN h]
  by_cases m:k<8
  .have a:=dH p (i+1+k) ((i:Int)+1+(k:Int)) O9 O9;rw[<-d k m]at a;generalize(p.drop<|i+1).take 8=t at f a;have g:=Bh (t.take k) (by rw[dJ];omega);have b:Hid (dV (t.take<|k+1)=dV (t.take k)*256+((t.getD k 0).toNat:Int)):=by unfold Hid;rw[rN (by omega:k<t.length),qX];simp[List.getD,show k<t.length from by omega]
   have o:=(t.getD k 0).toNat_lt;generalize(t.getD k 0).toNat=c at a b o;generalize v:dV (t.take k)=z at b g;clear f d;go_wp2;go_roundw;case rel=>exact⟨k+1,O9,by go_num,by rw[b.out];congr 1;omega,trivial⟩
   case measure=>simp[intOf];omega
  have l:k=8:=O9;subst l;rw[Fl,aal];go_wp2;go_ret;exact⟨rfl,rfl⟩
def V6(a w):Calls Vp 258 #[.bool a] w λe b=>e=.returned (.int .u64<|ky a)/\b=w:=by
 cases a;.go_enter fA func258,ntmps258;go_wp2;go_ret;exact⟨rfl,rfl⟩
 go_enter fA func258,ntmps258;go_wp2;go_ret;exact⟨rfl,rfl⟩
def nU(m e:Nat):Int:=if m=e then-1 else m
def sy(p)(i:Nat)(w)(S:i<p.length)(U:p.length<=1000):Calls Vp 254 #[.string<|mk p,.int .i64 i] w λe W=>(match eB p p (i+1) 0 none with|some (m,n)=>e=.returned (.tuple #[.int .i64<|nU m n,.int .i64 n,true])|none=>e=.returned (.tuple #[.int .i64<|-1,.int .i64<|-1,false]))/\W=w:=by
 generalize H:eB p p.length (i+1) 0 none=E;go_enter fA func254,ntmps254;go_wp2;go_loopw [7,8,9] (λM D I K=>∃(j d f:Nat)(m:Option Nat),I=.int .i64 j/\D=.int .i64 d/\M=.int .i64 (yu m)/\K=w/\p<=j+f/\j<=p+9/\d<=j/\(∀x,m=some x->x<j)/\Hid (eB p f j d m=E)) (λ_ _ I _=>p+9 -(intOf I).toNat);case atStart=>exact⟨i+1,0,p,none,rfl,rfl,rfl,rfl,by omega,by omega,by omega,(λ_ h=>by cases h),H⟩
 case round=>
  clear H;obtain⟨j,d,f,m,rfl,rfl,rfl,rfl,R,T,P,l,H⟩:=hrel;by_cases r:j<p
  .obtain⟨f,rfl⟩:∃F,f=F+1:=⟨f -1,by omega⟩;have y:=dH p j (j:Int) rfl r;have a:cK p j=if opAt p j=64 then j+9 else j+1:=rfl;have H:=H.out;rw[eB,aN r]at H;have z:opAt p j=(p.getD j 0).toNat:=rfl;rw[<-z]at y;have A:=Bg p j;generalize opAt p j=c at y H a A;clear z;by_cases s:c=64
   .subst s;rw[aN rfl]at a;have q:eB p f (j+9) d m=E:=by
     rw[aJ (by omega),aJ<|by omega]at H;by_cases g:0<d;rw[aN g,a]at H;exact H;have:d=0:=by omega
     subst this;rw[aJ g,aJ (by omega),aJ (by omega),a]at H;exact H
    clear H a;go_wp2;go_roundw;case rel=>exact⟨j+9,d,f,m,by go_num,rfl,rfl,trivial,by omega,by omega,by omega,(λx b=>by have:=l x b;omega),(aK q)⟩
    case measure=>simp[intOf];omega
   rw[aJ s]at a;by_cases t:c=80
   .subst t;rw[aN rfl]at H;go_wp2;go_roundw;case rel=>exact⟨j+1,d+1,f,m,by go_num,by go_num,rfl,trivial,by omega,by omega,by omega,(λx b=>by have:=l x b;omega),(aK H)⟩
    case measure=>simp[intOf];omega
   rw[aJ t]at H;by_cases g:0<d
   .have Q:((d:Int)==0)=false:=by simpa using(by omega:¬(d:Int)=0)
    by_cases o:c=82
    .subst o;rw[aN ⟨rfl,g⟩]at H;go_wp2;go_roundw;case rel=>exact⟨j+1,d -1,f,m,by go_num,by rw[Int.ofNat_sub<|by omega];rfl,rfl,trivial,by omega,by omega,by omega,(λx b=>by have:=l x b;omega),(aK H)⟩
     case measure=>simp[intOf];omega
    rw[aJ λh=>o h.1,aN g,a]at H;go_wp2;all_goals go_roundw
    all_goals first
     |(case rel=>exact⟨j+1,d,f,m,by go_num,rfl,rfl,trivial,by omega,by omega,by omega,(λx b=>by have:=l x b;omega),(aK H)⟩)
     |skip
    all_goals(simp[intOf];omega)
   have C:d=0:=by omega
   subst C;rw[aJ λh=>g h.2,aJ g]at H;by_cases u:c=81;.subst u;rw[aN rfl]at H;cases m with
    |none=>
      simp only[yu];go_wp2;go_roundw;case rel=>exact⟨j+1,0,f,some j,by go_num,rfl,rfl,trivial,by omega,by omega,by omega,(λx b=>by cases b;omega),(aK H)⟩
      case measure=>simp[intOf];omega
    |some k=>have H:=H;subst H;simp only[yu];go_wp2;refine cY (v:=.tuple #[.int .i64<|-1,.int .i64<|-1,false]) (by simp[results,results254,go_sem]) rfl ⟨rfl,rfl⟩
   rw[aJ u]at H;by_cases o:c=82
   .subst o;rw[aN rfl]at H;subst H;have J:Hid (nU (m.getD j) j=yu m):=by unfold Hid nU;obtain _|x:=m;simp[yu];have:=l x rfl;simp only[nB,yu];rw[aJ<|by omega]
    go_wp2;refine cY (v:=.tuple #[.int .i64<|yu m,.int .i64 j,true]) (by simp[results,results254,go_sem]) rfl ⟨?_,rfl⟩;rw[J.out]
   rw[aJ o,a]at H;go_wp2;go_roundw;case rel=>exact⟨j+1,0,f,m,by go_num,rfl,rfl,trivial,by omega,by omega,by omega,(λx b=>by have:=l x b;omega),(aK H)⟩
   case measure=>simp[intOf];omega
  have q:E=none:=by rw[<-H.out];obtain _|f:=f;rfl;rw[eB,aJ r]
  subst q;go_wp2;refine cY (v:=.tuple #[.int .i64<|-1,.int .i64<|-1,false]) (by simp[results,results254,go_sem]) rfl ⟨rfl,rfl⟩
def cP(o:Nat):Nat×Nat×Bool:=if o<=64\/o=77 then(0,1,true)
 else if o=65 then(1,2,true)
 else if o=66\/o=76\/o=80 then(1,0,true)
 else if o=67 then(2,2,true)
 else if(68<=o/\o<=72)\/o=75 then(2,1,true)
 else if o=73\/o=74 then(1,1,true)
 else if o=81\/o=82 then(0,0,true)
 else(0,0,false)
def YL(a:Nat)(w):a<256->Calls Vp 253 #[.int .u8 a] w λe f=>e=.returned (.tuple #[(cP a).1,(cP a).2.1,(cP a).2.2])/\f=w:=by
 intro g;by_cases b:a<=64
 .have e:Hid (cP a=(0,1,true)):=by unfold Hid cP;rw[if_pos<|.inl b]
  go_enter fA func253,ntmps253;go_wp2;go_ret3;rw[e.out];exact⟨rfl,rfl⟩
 by_cases c:a<=82
 .have d:a=65\/a=66\/a=67\/a=68\/a=69\/a=70\/a=71\/a=72\/a=73\/a=74\/a=75\/a=76\/a=77\/a=78\/a=79\/a=80\/a=81\/a=82:=O9;obtain rfl|rfl|rfl|rfl|rfl|rfl|rfl|rfl|rfl|rfl|rfl|rfl|rfl|rfl|rfl|rfl|rfl|rfl:=d;all_goals go_enter fA func253,ntmps253;go_wp2;go_ret3;exact⟨rfl,rfl⟩
 have e:Hid (cP a=(0,0,false)):=by unfold Hid cP;rw[aJ O9,aJ O9,aJ O9,aJ O9,aJ O9,aJ O9,aJ O9]
 have h:decide ((a:Int)<=64)=false:=by simp;omega
 have n:((a:Int)==77)=false:=by simp;omega
 have o:((a:Int)==65)=false:=by simp;omega
 have p:((a:Int)==66)=false:=by simp;omega
 have q:((a:Int)==76)=false:=by simp;omega
 have r:((a:Int)==80)=false:=by simp;omega
 have s:((a:Int)==67)=false:=by simp;omega
 have t:decide ((a:Int)<=72)=false:=by simp;omega
 have u:((a:Int)==75)=false:=by simp;omega
 have i:((a:Int)==73)=false:=by simp;omega
 have j:((a:Int)==74)=false:=by simp;omega
 have k:((a:Int)==81)=false:=by simp;omega
 have l:((a:Int)==82)=false:=by simp;omega
 have m:decide ((a:Int)>=68)=true:=by simp;omega
 go_enter fA func253,ntmps253;go_wp2;all_goals first
  |(go_ret3;rw[e.out];exact⟨rfl,rfl⟩)
  |(exfalso;omega)
def M7(p:List UInt8)(i a:Nat):Bool:=match eB p p.length (i+1) 0 none with
 |some (m,e)=>(nU m e==(a:Int))||((e:Int)==(a:Int))
 |none=>false
def pY(p:List UInt8)(a:Nat):Nat->Nat->Option Nat->Option Nat
 |0,_,F=>F
 |f+1,i,F=>if i<a then if opAt p i=64 then pY p a f (i+9) F
    else if opAt p i=80 then pY p a f (i+1) (if M7 p i a then some i else F)
    else pY p a f (i+1) F
   else F
def Ha(p)(a:Nat)(w)(D:a<p.length)(hp:p.length<=1000):Calls Vp 255 #[(mk p),a] w λe W=>e=.returned (yu<|pY p a p 0 none)/\W=w:=by
 generalize h:pY p a p.length 0 none=E;go_enter fA func255,ntmps255;go_wp2;go_loopw [5,6] (λz i wr=>∃(j f:Nat)(m:Option Nat),i=↑j/\z=↑(yu m)/\wr=w/\a<=j+f/\j<=a+9/\Hid (pY p a f j m=E)) (λ_ i _=>a+9 -(intOf i).toNat);case atStart=>exact⟨0,p,none,rfl,rfl,rfl,O9,O9,h⟩
 case round=>
  clear h;obtain⟨j,f,m,rfl,rfl,rfl,C,G,h⟩:=hrel;by_cases n:j<a
  .obtain⟨f,rfl⟩:∃F,f=F+1:=⟨f -1,O9⟩;have l:=dH p j (j:Int) rfl O9;have b:=sy p j wr O9 hp;replace h:=h.out;rw[pY,aN n]at h;have H:M7 p j a=match eB p p (j+1) 0 none with
    |some (m,e)=>(nU m e==(a:Int))||((e:Int)==(a:Int))
    |none=>false:=rfl
   have o:opAt p j=(p.getD j 0).toNat:=rfl;rw[<-o]at l;have v:=Bg p j;generalize opAt p j=c at l h v;generalize M7 p j a=q at h H;generalize eB p p.length (j+1) 0 none=s at b H;clear o;by_cases g:c=64
   .subst g;rw[aN rfl]at h;replace h:=aK h;clear b H;go_wp2;go_roundw;case rel=>exact⟨j+9,f,m,by go_num,rfl,trivial,O9,O9,h⟩
    case measure=>simp[intOf];omega
   rw[aJ g]at h;by_cases k:c=80;.subst k;rw[aN rfl]at h;cases s with
    |none=>
      replace H:=H;subst H;replace h:=aK h;go_wp2;refine b.m0 ?_;go_wp2;go_roundw;case rel=>exact⟨j+1,f,m,by go_num,rfl,trivial,O9,O9,h⟩
      case measure=>simp[intOf];omega
    |some y=>have⟨M,e⟩:=y;replace H:q=((nU M e==(a:Int))||((e:Int)==(a:Int))):=H;replace b:Calls Vp 254 #[↑(mk p),j] wr λr W=>r=.returned (.tuple #[↑(nU M e),e,true])/\W=wr:=b;generalize nU M e=O at b H;cases q with
      |false=>
        have⟨d,t⟩:=Bool.or_eq_false_iff.1 H.symm;replace h:=aK h;clear H;go_wp2;refine b.m0 ?_;go_wp2;go_roundw;case rel=>exact⟨j+1,f,m,by go_num,rfl,trivial,O9,O9,h⟩
        case measure=>simp[intOf];omega
      |true=>replace h:=aK h;cases d:(O==(a:Int))with
        |true=>clear H;go_wp2;refine b.m0 ?_;go_wp2;all_goals first
           | (go_roundw
              case rel=>exact⟨j+1,f,some j,by go_num,rfl,trivial,O9,O9,h⟩
              case measure=>simp[intOf];omega)
           |(exfalso;simp_all)
        |false=>
          have t:((e:Int)==(a:Int))=true:=by have:=H.symm;rw[d,Bool.false_or]at this;exact this
          clear H;go_wp2;refine b.m0 ?_;go_wp2;all_goals first
           | (go_roundw
              case rel=>exact⟨j+1,f,some j,by go_num,rfl,trivial,O9,O9,h⟩
              case measure=>simp[intOf];omega)
           |(exfalso;simp_all)
   rw[aJ k]at h;replace h:=aK h;clear b H;go_wp2;go_roundw;case rel=>exact⟨j+1,f,m,by go_num,rfl,trivial,O9,O9,h⟩
   case measure=>simp[intOf];omega
  have u:E=m:=by rw[<-h.out];obtain _|f:=f;rfl;rw[pY,aJ n]
  subst u;go_wp2;go_ret;exact⟨rfl,rfl⟩
structure RM(w:World)(b:Nat)(id:ByteArray)(h er:Int)(s:St):Prop where
 st:∃v,Row w b 326 [v,.int .i64 s.steps,.int .i64 er,.string id,.int .i64 h]/\w.ownsRow (b+1) 83 1 v s.l.length (s.l.reverse.map kj)
 lZ:∀x∈s.l,0<=x/\x<18446744073709551616
 len:s.l.length<=16
 steps:s.steps<=40
 kU:0<=h/\h<9223372036854775808
def uo{b w c e s n v x}(h:w.ownsRow b e s v n x)(a:Below w.heap.size w c):c.ownsRow b e s v n x:=h.kept (row:=none) ⟨a.os,a.tape,a.output,a.size,λk d _=>a.block k d⟩ (by obtain _|k:=v.ownBlock;exact .inl rfl;right;intro e;cases e)
def YM(a):(cP a).1<=2/\(cP a).2.1<=2:=by
 unfold cP;repeat' split
 all_goals simp
def RM.keep{w f b id h c s}(a:RM w b id h c s)(e:Below w w f):RM f b id h c s:=have⟨v,d,g⟩:=a.st;⟨⟨v,d.keep e d.lt,uo g e⟩,a.lZ,a.len,a.steps,a.kU⟩
def fF(p:List UInt8)(i:Nat)(l:List Int):Int:=if(cP<|opAt p i).2.2=false\/(opAt p i=64/\p.length<=i+8)then 2
 else if opAt p i=80/\eB p p.length (i+1) 0 none=none then 5
 else if(opAt p i=81\/opAt p i=82)/\pY p i p.length 0 none=none then 5
 else if l.length<(cP<|opAt p i).1\/16<l.length -(cP<|opAt p i).1+(cP<|opAt p i).2.1 then 3
 else if opAt p i=76/\l.headD 1=0 then 6
 else 0
def qC{w:World}{a v x l}(h:w.ownsRow a 83 1 v (x::l) ((x::l).reverse.map kj)):∃g c,v=.slice (some ⟨g,0,none⟩) (l+1) c/\w.cell? ⟨g,l,none⟩=some (.int .u64 x):=by have⟨g,c,b⟩:=cX h l rfl;subst b;refine⟨g,c,rfl,?_⟩;have:=h.cells (g:=g) rfl l (.int .u64 x) (by simp[kj]);rw[add0]at this;exact this
def xX(w n):Below w.heap.size w (w.drewN n):=⟨rfl,rfl,rfl,L9,λ_ _=>rfl⟩
def FY{p:Prop}(h:p:=by first|omega|simp<;>omega):p:=h
def YN(p)(i:Nat)(b Y h G s w)(y:i<p.length)(E:p.length<=1000)(C:RM w b (mk Y) h G s):Calls Vp 243 #[.pointer b,(mk p),i] w λe R=>e=.returned (fF p i s.l)/\Below w w R:=by
 have ar:=cD p;have d:Hid (fF p i s.l=if(cP<|opAt p i).2.2=false\/(opAt p i=64/\p<=i+8)then 2 else if opAt p i=80/\eB p p (i+1) 0 none=none then 5
  else if(opAt p i=81\/opAt p i=82)/\pY p i p 0 none=none then 5
  else if s.l<(cP<|opAt p i).1\/16<s.l -(cP<|opAt p i).1+(cP<|opAt p i).2.1 then 3
  else if opAt p i=76/\s.l.headD 1=0 then 6
  else 0):=rfl
 generalize fF p i s.l=am at d|-;have U:=dH p i (i:Int) rfl y;have D:opAt p i=(p.getD i 0).toNat:=rfl;rw[<-D]at U;clear D;have S:=Bg p i;have k:=λw=>YL (opAt p i) w S;have u:=λw=>sy p i w y E;have f:=λw=>Ha p i w y E;have X:=YM<|opAt p i;have A:opAt p i=76->(cP<|opAt p i).1=1/\(cP<|opAt p i).2.1=0:=λh=>h▸⟨rfl,rfl⟩;have⟨ac,P,B⟩:=C.st;have aa:=C.len;generalize opAt p i=c at*;generalize cP c=M at*;have⟨n,v,π⟩:=M;simp only at k d X A;have Q:=P.cell 0;have⟨av,ax,t⟩:∃a c,ac=.slice a s.l c:=by obtain⟨t,H⟩|⟨g,ao,ap,t,_⟩:=B.2;exact⟨none,0,by rw[t,H]⟩;exact⟨_,_,t⟩
 subst t;go_enter fA func243,ntmps243;go_wp2;refine(k _).m0 ?_;cases π with
 |false=>go_wp2;go_ret;rw[d.out,aN (.inl<|by trivial)];exact⟨rfl,B0⟩
 |true=>
   by_cases K:c=64/\p<=i+8;.obtain⟨rfl,V⟩:=K;have W:(i:Int)+8>=(p:Int):=O9;go_wp2;go_ret;rw[d.out,aN<|.inr ⟨by trivial,V⟩];exact⟨rfl,B0⟩
   rcases(show c=80\/c=81\/c=82\/c=64\/(¬(c:Int)=80/\¬(c:Int)=81/\¬(c:Int)=82/\¬(c:Int)=64)from O9)with rfl|rfl|rfl|rfl|⟨ah,N,O,T⟩;rcases r:eB p p (i+1) 0 none with _|⟨F,au⟩<;>rw[r]at u d<;>go_wp2<;>refine(u _).m0 ?_;.go_wp2;go_ret;rw[d.out,aJ S8,aN S8];exact⟨rfl,B0⟩
   rotate_left;iterate 2
    rcases r:pY p i p 0 none with _|F<;>rw[r]at f d<;>simp[yu]at f<;>go_wp2<;>refine(f _).m0 ?_;.go_wp2;go_ret;rw[d.out,aJ S8,aJ S8,aN S8];exact⟨rfl,B0⟩
    rotate_left
   have W:¬(i:Int)+8>=(p:Int):=O9;rotate_left;have ai:((c:Int)==81)=false:=by simpa using N
   have aj:((c:Int)==82)=false:=by simpa using O
   have ak:((c:Int)==64)=false:=by simpa using T
   all_goals
    by_cases j:s.l<n
    .have o:decide ((s.l:Int)<n)=true:=by simp;omega
     go_wp2;go_ret;rw[d.out,aJ FY,aJ FY,aJ FY,aN<|.inl j];exact⟨rfl,B0⟩
    have o:decide ((s.l:Int)<n)=false:=by simp;omega
    by_cases m:16<s.l -n+v
    .have q:decide ((s.l:Int) -(n:Int)+(v:Int)>16)=true:=by simp;omega
     go_wp2;go_ret;rw[d.out,aJ FY,aJ FY,aJ FY,aN<|.inr m];exact⟨rfl,B0⟩
    have q:decide ((s.l:Int) -(n:Int)+(v:Int)>16)=false:=by simp;omega
   rotate_left;iterate 4 go_wp2;go_quiet (fail);go_wp2;go_ret;rw[d.out,aJ FY,aJ FY,aJ FY,aJ O9,aJ O9];exact⟨rfl,xX _ _⟩
   by_cases L:c=76
   .subst L;have⟨I,J⟩:=A rfl;subst I J;have⟨aq,l⟩:=s;obtain _|⟨x,l⟩:=l;exact absurd (show(0:Nat)<1 by omega) j;have⟨g,ae,t,al⟩:=qC B;cases t;simp[cQ]at Q o q aa;have an:(l:Int)<=15:=O9;have ag:0<=(l:Int)/\(l:Int)<((l+1:Nat):Int):=O9;have z:x=0\/(x==0)=false:=by by_cases z:x=0<;>simp[z]
    obtain rfl|z:=z;all_goals go_wp2;go_quiet (fail);go_wp2;go_ret;rw[d.out,aJ S8,aJ O9,aJ O9,aJ<|by simp[cQ]at j m|-;omega];exact⟨by simp_all,xX _ _⟩
   have af:((c:Int)==76)=false:=by simpa using(by omega:¬(c:Int)=76)
   go_wp2;go_quiet (fail);go_wp2;go_ret;rw[d.out,aJ FY,aJ FY,aJ FY,aJ O9,aJ O9];exact⟨rfl,xX _ _⟩
def acX:=@Calls.regrown_of
def RM.c3{w b id h a s}(d:RM w b id h a s):w.cell? (b,3)=some ↑id:=have⟨v,c,_⟩:=d.st;c.cell 3
def wm(i:List UInt8)(o:Nat)(x y:Int):Int:=if o=73 then ky (x==0)else if o=74 then hN (be x 8)else Mg i o x y
def V7(a b x y):0<=wm a b x y/\wm a b x y<18446744073709551616:=by unfold wm;split;exact zw _;split;exact GP _;exact VM _ _ _ _
def Kl(w b a h F s)(I:RM w b (mk a) h F s)(H:a.length<=1000)(c:Nat)(J:c=68\/c=69\/c=70\/c=71\/c=72\/c=73\/c=74\/c=75)(x y)(B:0<=x/\x<18446744073709551616)(C:0<=y/\y<18446744073709551616):Calls Vp 256 #[.pointer b,.int .u8 c,.int .u64 x,.int .u64 y] w λe o=>e=.returned (.int .u64<|wm a c x y)/\Below w w o:=by
 have d:=I.c3;obtain rfl|rfl|rfl|rfl|rfl|rfl|rfl|rfl:=J;iterate 3 go_enter fA func256,ntmps256;go_wp2;go_ret;exact⟨rfl,B0⟩
 iterate 3 go_enter fA func256,ntmps256;go_wp2;refine(V6 _ _).m0 ?_;go_wp2;go_ret;exact⟨rfl,B0⟩
 .have v:Hid (wm a 74 x y=hN (be x 8)):=rfl;have j:=λw=>BA (be x 8) w (by rw[bI];omega);have u:=um x w B.1 B.2;generalize hN (be x 8)=g at j v;generalize be x 8=t at j u;go_enter fA func256,ntmps256;go_wp2;refine u.m1 λW G=>?_;go_wp2;refine(j _).m0 ?_;go_wp2;go_ret;rw[v.out];exact⟨rfl,G⟩
 have i:Hid (wm a 75 x y=ky (x==hN (be y 8++a))):=rfl;have m:=λf O=>acX<|um y (Go.Sort.grow (redrawn w f) O) C.1 C.2;have z:=bI y 8;generalize be y 8=t at i m z;have N:(mk t).size=8:=by rw[cD,z]
 have M:(mk a).size<=1000:=by rw[cD];exact H
 have n:∀f O,Calls Vp 170 #[↑(mk t++mk a)] (Go.Sort.grow (redrawn w f) O) λe q=>e=.returned (.int .u64 (hN<|t++a))/\∃p:Regrown,q=Go.Sort.grow (redrawn w p.d) p.os:=λf O=>by rw[eH];exact acX<|(BA (t++a) _<|by rw[cB];omega).mono λe o⟨k,l⟩=>⟨k,l▸B0⟩
 generalize hN (t++a)=g at i n;have E:∀f O,Calls Vp 258 #[(x==g)] (Go.Sort.grow (redrawn w f) O) λe q=>e=.returned (.int .u64 (ky<|x==g))/\∃p:Regrown,q=Go.Sort.grow (redrawn w p.d) p.os:=λf O=>acX<|(V6 (x==g) _).mono λe o⟨k,l⟩=>⟨k,l▸B0⟩
 have d:=cell_regrown d;go_enter fA func256,ntmps256;go_wp2;refine wp_region_quiet_below nO K8 ?_;repeat(go_big_quiet_step (first|(go_at_call 169;exact m _ _)|(go_at_call 170;exact n _ _)|(go_at_call 258;exact E _ _)))
 refine vZ λW A=>?_;clear m n E d;go_wp2;go_ret;rw[i.out];exact⟨rfl,A⟩
def Py{w:World}{b g c x l}(h:w.ownsRow b 83 1 (.slice (some ⟨g,0,none⟩) (l.length+1) c) (x::l) ((x::l).reverse.map kj)):w.ownsRow b 83 1 (.slice g l c) l (l.reverse.map kj):=by refine⟨S8,?_⟩;obtain⟨a,_⟩|⟨m,n,C,a,d,i,j,e,f,k⟩:=h.2;cases a;cases a;refine .inr ⟨g,c,C,rfl,d,i,by simp only[cQ]at j;omega,e,f,?_⟩;have:=congrArg (List.take l) k;simp only[Fl,cQ,Fb,List.reverse_cons,kq]at this;rw[lD O9]at this;rw[Fb,this,List.take_append_of_le_length S8,Dv S8]
def E1{w:World}{b g c n x}(j v)(_hj:j<n)(h:w.ownsRow b 83 1 (.slice (some ⟨g,0,none⟩) n c) n x):(w.setCell (g,j) v).ownsRow b 83 1 (.slice g n c) n (x.set j v):=by
 obtain⟨a,_⟩|⟨p,q,C,a,e,l,o,i,k,d⟩:=h.2;cases a;cases a;refine⟨by rw[Dw];exact h.1,.inr ⟨g,c,(C.toList.set j v).toArray,rfl,e,?_,o,i,by simp[k],?_⟩⟩;have f:Row w g 83 C.toList:=by unfold Row;simpa using l
 exact f.set j v;rw[Fb]at d|-;show(C.toList.set j v).take n=_;rw[List.take_set,d]
def Pz{w Y π o a Q t e i k K X}(T:Vp.underlying t=some (.slice e))(F:Vp.info? e=some i)(V:i.zero=some k)(O:i.size=K)(C:i.bytes=X)(W:k.cells.size=K)(S:0<K)(A:X<=1000)(d)(E:o.guard=none)(s x)(J:o.op=.call {callee:=.builtin .append,args:=#[s,x],argTypes:=#[t,t]})(v n l)(N:a.eval s=v)(L:w.ownsRow d e K v n l)
 (m R)(H:R.length=m*K)(g c)(U:a.eval x=.slice g m c)(D:Row w g e R)(p:∀u∈R,u.oneCell'=true)(ac:m<=1000)(ad:n<=100000)(y:d<=↑w)
 (h:∀f b,b.ownsRow d e K f (n+m) (l++R)->w.grownBy b v.ownBlock->wpList Vp Y Q π (a.put o.dst f) b):wpList Vp Y Q (o::π) a w:=by
 refine aaj E λaa z=>?_;have I:∀j u,R[j]?=some u->w.cell? (((g,0):Addr).add j)=some u:=λj u G=>by rw[add0,D.cell];exact G
 have⟨f,b,M,q,r,_,ab⟩:=run_append_own_at (P:=Vp) w d t o.type e i k K X T F V O C W S v n l L (g,0) m c R H I p (by unfold maxLen;omega) (Nat.le_trans (Nat.mul_le_mul (show n+m<=101000 by omega) A) O9) y;unfold Oper.wp execOp;simp[J,resolve,invoke,builtin,Ud,aax,UN,yz,gJ,qL,N,U,M];exact z _ _<|h f b q r
def CY{π o a w K Q p t e i k z Y}(T:Vp.underlying t=some (.slice e))(F:Vp.info? e=some i)(W:i.zero=some k)(O:i.size=z)(C:i.bytes=Y)(X:k.cells.size=z)(S:0<z)(A:Y<=1000)(d)(E:o.guard=none)(s x)(J:o.op=.call {callee:=.builtin .append,args:=#[s,x],argTypes:=#[t,t]})(v n l)(N:a.eval s=v)(L:w.ownsRow d e z v n l)
 (m R)(H:R.length=m*z)(g c)(V:a.eval x=.slice g m c)(D:Row w g e R)(q:∀u∈R,u.oneCell'=true)(ac:m<=1000)(ad:n<=100000)(aa:d<=↑w)
 (h:∀f b,b.ownsRow d e z f (n+m) (l++R)->w.grownBy b v.ownBlock->K (a.put o.dst f) b):if Region.wanted o (yielded π a.tmps)=true then Oper.wp Vp o a w K Q else p:=by
 rw[aN<|by simp[Region.wanted,E]];have I:∀j u,R[j]?=some u->w.cell? (((g,0):Addr).add j)=some u:=λj u G=>by rw[add0,D.cell];exact G
 have⟨f,b,M,r,y,_,ab⟩:=run_append_own_at (P:=Vp) w d t o.type e i k z Y T F W O C X S v n l L (g,0) m c R H I q (by unfold maxLen;omega) (Nat.le_trans (Nat.mul_le_mul (show n+m<=101000 by omega) A) O9) aa;unfold Oper.wp execOp;simp[J,resolve,invoke,builtin,Ud,aax,UN,yz,gJ,qL,N,V,M];exact h f b r y
def aI.afD:(Vp.info? 83).map (λi=>(i.zero,i.size,i.bytes))=some (some ↑aC,1,8):=K8
def V8:=@aI.afD
structure sL(p:Prop):Prop where
 out:p
def kV(w:World)(b:Nat)(id:ByteArray)(h:Int)(j:Nat)(s:St)(e:Ending)(W:World):Prop:=e=.returned (.int .i64 j)/\RM W b id h 0 s/\Below b w W
def uq{w:World}{a b n o e v u x}(h:w.ownsRow a e 1 v n x)(d:b<a):(w.setCell ⟨b,o,none⟩ u).ownsRow a e 1 v n x:=h.kept (pj w b o u) (by rcases c:v.ownBlock with _|k;exact .inl rfl;right;have:=(nD h k c).1;intro e;cases e;omega)
def Mt{w W b id h s v a x}(o)(f:RM w b id h 0 s)(r:0<=x/\x<18446744073709551616)(y:s.l.length<16)(i:Row w b 326 [v,s.steps,aA,id,h])(p:w.ownsRow (b+1) 83 1 v s.l (s.l.reverse.map kj))(j:(w.alloc o).grownBy W v.ownBlock)(q:W.ownsRow (b+1) 83 1 a (s.l+1) (s.l.reverse.map kj++[.int .u64 x])):
 (RM (W.setCell (b,0) a) b id h 0 ⟨s.steps,x::s.l⟩/\Below b w (W.setCell (b,0) a))/\W.cell? (b,0)=some v/\W.frozen? (b,0)=false:=by
 have z:=i.lt;have m:∀k,v.ownBlock=some k->b<k:=λk d=>by have:=(nD p k d).1;omega
 have c:Row W b 326 [v,↑s.steps,aA,id,h]:=(j.block b Z9 λe=>by have:=m b e.symm;omega).trans<|i.alloc o
 refine⟨⟨⟨⟨a,c.set 0 a,?_⟩,?_,?_,f.steps,f.kU⟩,?_⟩,c.cell 0,c.frozen 0⟩;have:=uq (b:=b) (o:=0) (u:=a) q O9;simpa[kj]using this;intro t g;obtain rfl|g:=jO.1 g;exact r;exact f.lZ t g;show s.l.length+1<=16;omega;have n:Below b w (w.alloc o):=B0.alloc O9 _;exact(n.grown j Z9 λk d=>by have:=m k d;omega).setCell L9 _
def PC(p i b n h s w)(B:i<p.length)(Q:p.length<=1000)(k:RM w b (mk n) h 0 s)(E:s.l.length<16)(O:opAt p i<64):Calls Vp 244 #[.pointer b,(mk p),i] w (kV w b (mk n) h (i+1) ⟨s.steps,(opAt p i:Int)::s.l⟩):=by
 have D:=dH p i (i:Int) rfl B;have m:opAt p i=(p.getD i 0).toNat:=rfl;rw[<-m]at D;clear m;generalize opAt p i=c at*;have⟨v,f,e⟩:=k.st;have⟨o,q,d⟩:∃a c,v=.slice a s.l c:=by obtain⟨d,y⟩|⟨g,W,X,d,_⟩:=e.2;exact⟨none,0,by rw[d,y]⟩;exact⟨_,_,d⟩
 subst d;have N:=f.cell 0;go_enter fA func244,ntmps244;have⟨T,C,I,J,K⟩:=info_parts V8;have M:=f.lt;have l:b+1<=(w.alloc<|.cells #[.int .u64 (c:Int)] 83).heap.size:=by rw[cR];omega
 go_wp2_with (at_builtin;refine Pz (BC underlying324) C I J K rfl D9 D9 (b+1) rfl _ _ rfl (o,s.l,q) s.l (s.l.reverse.map kj) rfl (pP e<|.cells #[.int .u64 (c:Int)] 83) 1 [.int .u64 (c:Int)] rfl _ _ rfl (aX w [.int .u64 (c:Int)] 83) (by intro u G;cases G with|head=>rfl|tail _ h=>cases h) O9 O9 l ?_;intro Y π j A;refine sL.out ?_);have⟨⟨F,z⟩,U,V⟩:=Mt (.cells #[.int .u64 (c:Int)] 83) k (x:=(c:Int)) O9 E f e A j;have⟨L,R,H⟩:=cX j s.l rfl;subst H;refine⟨?_⟩;go_wp2;go_ret;exact⟨rfl,F,z⟩
def SZ(p i b y h s w)(K:i<p.length)(O:p.length<=1000)(r:RM w b (mk y) h 0 s)(M:s.l.length<16)(N:opAt p i=64)(E:i+9<=p):Calls Vp 244 #[.pointer b,(mk p),i] w (kV w b (mk y) h (i+9) ⟨s.steps,mG p i::s.l⟩):=by
 have R:=cD p;have q:=dH p i (i:Int) rfl K;have t:opAt p i=(p.getD i 0).toNat:=rfl;rw[<-t]at q;clear t;rw[N]at q;have⟨v,j,k⟩:=r.st;have⟨m,n,f⟩:∃a c,v=.slice a s.l c:=by obtain⟨f,D⟩|⟨aj,ac,ai,f,_⟩:=k.2;exact⟨none,0,by rw[f,D]⟩;exact⟨_,_,f⟩
 subst f;have π:=j.cell 0;have u:∀d:Value,(w.alloc<|.cells #[d] 83).cell? (b,0)=some (.slice m s.l n):=λd=>(j.alloc _).cell 0;have P:∀w,Calls Vp 171 #[↑(mk p),.int .i64 (IntKind.i64.wrap<|(i:Int)+1)] w λe A=>∃v,e=.returned v/\(v=.int .u64 (mG p i)/\A=w):=λw=>by rw[show IntKind.i64.wrap ((i:Int)+1)=(i:Int)+1 from by rw[jP];omega];exact(SY p i w O E).mono λe A⟨H,T⟩=>⟨_,H,rfl,T⟩
 have I:∀(z:Array Value)(w:World),(callFunc 171 z).run Vp w=.ok (.enter 171 z) w:=λ_ _=>by kernel_rfl
 have F:=GN p i;generalize mG p i=d at*;go_enter fA func244,ntmps244;have⟨ad,L,U,V,W⟩:=info_parts V8;have Y:=j.lt;have B:=aX w [.int .u64 d] 83;have C:=pP k<|.cells #[.int .u64 d] 83;have g:b+1<=(w.alloc<|.cells #[.int .u64 d] 83).heap.size:=by rw[cR];omega
 go_wp2;go_region_law (first|(refine jA 171 rfl _ _ rfl #[↑(mk p),.int .i64 (IntKind.i64.wrap<|(i:Int)+1)] (by simp[Act.eval,Act.put]) _ (P _) (I _ _) ?_;rintro ag ah⟨rfl,rfl⟩)|(refine CY (BC underlying324) L U V W rfl D9 D9 (b+1) rfl _ _ rfl (.slice m s.l n) s.l (s.l.reverse.map kj) E9 C 1 [.int .u64 d] rfl (w:Nat) 1 E9 B (by intro ak l;cases l with|head=>rfl|tail _ h=>cases h) O9 O9 g ?_;intro v1 w1 o J;have⟨⟨Q,G⟩,ae,af⟩:=Mt (.cells #[.int .u64 d] 83) r (x:=d) F M j k (vo J) o;have⟨X,c1,S⟩:=cX o s.l rfl;subst S));all_goals go_wp2
 all_goals go_ret
 all_goals exact⟨rfl,Q,G⟩
def Mu(p i b y h s w)(F:i<p.length)(V:p.length<=1000)(j:RM w b (mk y) h 0 s)(H:s.l.length<16)(I:opAt p i=77):Calls Vp 244 #[.pointer b,(mk p),i] w (kV w b (mk y) h (i+1) ⟨s.steps,h::s.l⟩):=by
 have W:=cD p;have q:=dH p i (i:Int) rfl F;have r:opAt p i=(p.getD i 0).toNat:=rfl;rw[<-r]at q;clear r;rw[I]at q;have⟨v,d,f⟩:=j.st;have⟨m,n,e⟩:∃a c,v=.slice a s.l c:=by obtain⟨e,C⟩|⟨aa,u,R,e,_⟩:=f.2;exact⟨none,0,by rw[e,C]⟩;exact⟨_,_,e⟩
 subst e;have S:=d.cell 0;have T:∀z:Value,(w.alloc<|.cells #[z] 83).cell? (b,0)=some (.slice m s.l n):=λz=>(d.alloc _).cell 0;have U:=d.cell 4;have P:=j.kU;have k:IntKind.u64.wrap h=h:=by rw[IntKind.wrap_u64];omega
 replace k:=aK k;go_enter fA func244,ntmps244;have⟨X,G,L,M,N⟩:=info_parts V8;have Q:=d.lt;have A:=aX w [.int .u64<|IntKind.u64.wrap h] 83;have B:=pP f<|.cells #[.int .u64<|IntKind.u64.wrap h] 83;have g:b+1<=(w.alloc<|.cells #[.int .u64<|IntKind.u64.wrap h] 83).heap.size:=by rw[cR];omega
 go_wp2;go_region_law (refine CY (BC underlying324) G L M N rfl D9 D9 (b+1) rfl _ _ rfl (.slice m s.l n) s.l (s.l.reverse.map kj) E9 B 1 [.int .u64<|IntKind.u64.wrap h] rfl (w:Nat) 1 E9 A (by intro ab J;cases J with|head=>rfl|tail _ h=>cases h) O9 O9 g ?_;intro v1 w1 o E;have⟨⟨t,D⟩,Y,π⟩:=Mt (.cells #[.int .u64<|IntKind.u64.wrap h] 83) j (x:=(IntKind.u64.wrap h)) (VL h) H d f (vo E) o;have⟨O,l,K⟩:=cX o s.l rfl;subst K);all_goals rw[k.out]at t
 all_goals go_wp2
 all_goals go_ret
 all_goals exact⟨rfl,t,D⟩
def xY{w:World}{b g n c e x}(h:w.ownsRow b e 1 (.slice (some ⟨g,0,none⟩) n c) n x):n<=c:=by obtain⟨a,_⟩|⟨f,C,k,a,i,j,d,_⟩:=h.2;cases a;cases a;exact d
def Mv{w b g c m id h x l}(a:RM w b id h 0 ⟨m,x::l⟩)(e:Row w b 326 [.slice (some ⟨g,0,none⟩) (l+1) c,m,aA,id,h])(d:w.ownsRow (b+1) 83 1 (.slice g (l+1) c) (x::l) ((x::l).reverse.map kj)):
 RM (w.setCell (b,0)<|.slice g l c) b id h 0 ⟨m,l⟩/\Below b w (w.setCell (b,0)<|.slice g l c):=by
 refine⟨⟨⟨_,e.set 0<|.slice g l c,uq (Py d) O9⟩,λi f=>a.lZ i<|Fa _ f,?_,a.steps,a.kU⟩,(Below.refl b w).setCell (mi b) _⟩;have:=a.len;simp[cQ]at this|-;omega
def S0(p i b k h m x l w)(q:i<p.length)(D:p.length<=1000)(a:RM w b (mk k) h 0 ⟨m,x::l⟩)(s:opAt p i=66):Calls Vp 244 #[.pointer b,(mk p),i] w (kV w b (mk k) h (i+1) ⟨m,l⟩):=by
 have f:=dH p i (i:Int) rfl q;have j:opAt p i=(p.getD i 0).toNat:=rfl;rw[<-j]at f;clear j;rw[s]at f;have⟨v,d,c⟩:=a.st;have⟨g,e,u,B⟩:=qC c;subst u;have z:=d.cell 0;have C:=d.frozen 0;have A:=xY (n:=l+1) c;have y:0<=(l:Int)/\(l:Int)<((l+1:Nat):Int):=O9;have E:=a.lZ x S8;have r:=a.len;simp[cQ]at r;have⟨t,o⟩:=Mv a d c;go_enter fA func244,ntmps244;go_wp2;go_ret;exact⟨rfl,t,o⟩
def Mw(p i b k h m x l w)(q:i<p.length)(D:p.length<=1000)(a:RM w b (mk k) h 0 ⟨m,x::l⟩)(s:opAt p i=76):Calls Vp 244 #[.pointer b,(mk p),i] w (kV w b (mk k) h (i+1) ⟨m,l⟩):=by
 have f:=dH p i (i:Int) rfl q;have j:opAt p i=(p.getD i 0).toNat:=rfl;rw[<-j]at f;clear j;rw[s]at f;have⟨v,d,c⟩:=a.st;have⟨g,e,u,B⟩:=qC c;subst u;have z:=d.cell 0;have C:=d.frozen 0;have A:=xY (n:=l+1) c;have E:=a.lZ x S8;have r:=a.len;simp[cQ]at r;have⟨t,o⟩:=Mv a d c;go_enter fA func244,ntmps244;go_wp2;go_ret;exact⟨rfl,t,o⟩
def YO(p i b o h m x l w)(z:i<p.length)(W:p.length<=1000)(e:RM w b (mk o) h 0 ⟨m,x::l⟩)(D:opAt p i=65)(B:(x::l).length<16):Calls Vp 244 #[.pointer b,(mk p),i] w (kV w b (mk o) h (i+1) ⟨m,x::x::l⟩):=by
 have Y:=cD p;have j:=dH p i (i:Int) rfl z;have k:opAt p i=(p.getD i 0).toNat:=rfl;rw[<-k]at j;clear k;rw[D]at j;have⟨ad,a,d⟩:=e.st;have⟨g,c,G,U⟩:=qC d;subst G;have Q:=a.cell 0;have V:=a.frozen 0;have T:=xY (n:=l+1) d;have N:0<=(l:Int)/\(l:Int)<((l+1:Nat):Int):=O9;have I:=e.lZ x S8;have C:=e.len;simp[cQ]at C;have X:IntKind.i64.wrap (l:Int)=l:=by rw[jP];omega
 have O:0<=(l:Int)/\(l:Int)<l+1:=O9;have S:∀q,(w.alloc<|.cells #[q] 83).cell? (b,0)=some (.slice g (l+1) c):=λq=>(a.alloc _).cell 0;have⟨π,A,J,K,L⟩:=info_parts V8;have P:=a.lt;have r:=aX w [.int .u64 x] 83;have s:=pP d<|.cells #[.int .u64 x] 83;have u:b+1<=(w.alloc<|.cells #[.int .u64 x] 83).heap.size:=by rw[cR];omega
 go_enter fA func244,ntmps244;go_wp2;go_region_law (refine CY (BC underlying324) A J K L rfl D9 D9 (b+1) rfl _ _ rfl (.slice g (l+1) c) (x::l) ((x::l).reverse.map kj) E9 s 1 [.int .u64 x] rfl (w:Nat) 1 E9 r (by intro ac F;cases F with|head=>rfl|tail _ h=>cases h) O9 (by simp[cQ];omega) u ?_;intro v1 w1 f y;have⟨⟨E,t⟩,v,R⟩:=Mt (.cells #[.int .u64 x] 83) e (x:=x) I B a d (vo y) f;have⟨M,c1,H⟩:=cX f (l+1) rfl;subst H);all_goals go_wp2
 all_goals go_ret
 all_goals exact⟨rfl,E,t⟩
def YQ(p i b k h m l w)(r:i<p.length)(y:p.length<=1000)(f:RM w b (mk k) h 0 ⟨m,l⟩)(s:opAt p i=82):Calls Vp 244 #[.pointer b,(mk p),i] w (kV w b (mk k) h (i+1) ⟨m,l⟩):=by
 have e:=dH p i (i:Int) rfl r;have j:opAt p i=(p.getD i 0).toNat:=rfl;rw[<-j]at e;clear j;rw[s]at e;have⟨v,q,o⟩:=f.st;have⟨t,u,d⟩:∃a c,v=.slice a l c:=by obtain⟨d,n⟩|⟨g,C,A,d,_⟩:=o.2;exact⟨none,0,by rw[d];simp[n]⟩;exact⟨_,_,d⟩
 subst d;have x:=q.cell 0;go_enter fA func244,ntmps244;go_wp2;go_ret;exact⟨rfl,f,B0⟩
def S3(p i b t h m l k E e w)(n:i<p.length)(s:p.length<=1000)(q:RM w b (mk t) h 0 ⟨m,l⟩)(D:opAt p i=81)(A:pY p i p 0 none=some k)(C:k<p)(B:eB p p (k+1) 0 none=some (E,e))(I:e<p):Calls Vp 244 #[.pointer b,(mk p),i] w (kV w b (mk t) h (e+1) ⟨m,l⟩):=by
 have o:=dH p i (i:Int) rfl n;have r:opAt p i=(p.getD i 0).toNat:=rfl;rw[<-r]at o;clear r;rw[D]at o;have⟨v,z,y⟩:=q.st;have⟨F,G,d⟩:∃a c,v=.slice a l c:=by obtain⟨d,x⟩|⟨g,K,L,d,_⟩:=y.2;exact⟨none,0,by rw[d];simp[x]⟩;exact⟨_,_,d⟩
 subst d;have H:=z.cell 0;have f:=λw=>Ha p i w n s;have j:=λw=>sy p k w C s;rw[A]at f;rw[B]at j;simp[yu]at f;go_enter fA func244,ntmps244;go_wp2;refine(f _).mono ?_;rintro u W⟨rfl,rfl⟩;go_wp2;refine(j _).mono ?_;rintro u M⟨rfl,rfl⟩;go_wp2;go_ret;exact⟨rfl,q,B0⟩
def acY(p i b B h m x l a e w)(u:i<p.length)(F:p.length<=1000)(d:RM w b (mk B) h 0 ⟨m,x::l⟩)(E:opAt p i=80)(C:eB p p (i+1) 0 none=some (a,e))(O:a<=e)(M:e<p):Calls Vp 244 #[.pointer b,(mk p),i] w (kV w b (mk B) h (if x=0 then(if a<e then a+1 else e+1)else i+1) ⟨m,l⟩):=by
 have S:=cD p;have y:=dH p i (i:Int) rfl u;have A:opAt p i=(p.getD i 0).toNat:=rfl;rw[<-A]at y;clear A;rw[E]at y;have⟨v,k,j⟩:=d.st;have⟨g,s,G,L⟩:=qC j;subst G;have J:=k.cell 0;have N:=k.frozen 0;have K:=xY (n:=l+1) j;have I:0<=(l:Int)/\(l:Int)<((l+1:Nat):Int):=O9;have Q:=d.lZ x S8;have D:=d.len;simp[cQ]at D;have⟨r,o⟩:=Mv d k j;have c:=λw=>sy p i w u F;rw[C]at c;by_cases f:x=0
 .subst f;by_cases z:a<e
  .have q:nU a e=(a:Int):=by unfold nU;rw[if_neg O9]
   simp[q]at c;rw[aN rfl,aN z];have P:(a:Int)>=0:=O9;go_enter fA func244,ntmps244;go_wp2;refine(c _).mono ?_;rintro t W⟨rfl,rfl⟩;go_wp2;go_ret;exact⟨rfl,r,o⟩
  have q:nU a e=-1:=by unfold nU;rw[if_pos O9]
  simp[q]at c;rw[aN rfl,aJ z];go_enter fA func244,ntmps244;go_wp2;refine(c _).mono ?_;rintro t W⟨rfl,rfl⟩;go_wp2;go_ret;exact⟨rfl,r,o⟩
 have H:(x==0)=false:=by simpa using f
 rw[aJ f];generalize nU a e=T at c;go_enter fA func244,ntmps244;go_wp2;refine(c _).mono ?_;rintro t W⟨rfl,rfl⟩;go_wp2;go_ret;exact⟨rfl,r,o⟩
def S4{b a w}(h:Below b a w)(g d e v V)(c:b<=g):Below b a ((w.setCell ⟨g,d,none⟩ v).setCell ⟨g,e,none⟩ V):=
 (h.setCell (p:=(g,d)) c v).setCell (p:=(g,e)) c V
def RM.drew{w b id h c s}(a:RM w b id h c s):RM w.drew b id h c s:=⟨a.st,a.lZ,a.len,a.steps,a.kU⟩
def RM.n{w b id h c s}(a:RM w b id h c s)(n):RM (w.drewN n) b id h c s:=⟨a.st,a.lZ,a.len,a.steps,a.kU⟩
def D8{a w b}(h:Below a w b):Below a w b.drew:=⟨h.os,h.tape,h.output,h.size,h.block⟩
def Hf{w:World}{B g c x y l}(h:w.ownsRow B 83 1 (.slice (some ⟨g,0,none⟩) ((x::l)+1) c) (y::x::l) ((y::x::l).reverse.map kj)):w.cell? (g,l.length)=some (.int .u64 x):=by have:=h.cells (g:=g) rfl l (.int .u64 x) (by simp[kj]);rw[add0]at this;exact this
def vp{w:World}{b g n c e x}(h:w.ownsRow b e 1 (.slice (some ⟨g,0,none⟩) n c) n x)(j):w.frozen? ⟨g,j,none⟩=false:=by
 obtain⟨a,_⟩|⟨i,l,C,a,k,f,_⟩:=h.2;cases a;cases a;have d:Row w g e C.toList:=by unfold Row;simpa using f
 exact d.frozen j
def acZ(x y l):(((y::x::l).reverse.map kj).set l<|.int .u64 y).set (l+1) (.int .u64 x)=(x::y::l).reverse.map kj:=by simp[kj]
def afE{w b g c m id h x y l}(a:RM w b id h 0 ⟨m,y::x::l⟩)(k:b<g)(i:Row w b 326 [.slice g (l+1+1) c,m,aA,id,h])(f:w.ownsRow (b+1) 83 1 (.slice g (l+1+1) c) (y::x::l) ((y::x::l).reverse.map kj)):
 RM ((w.setCell (g,l.length)<|.int .u64 y).setCell (g,l.length+1)<|.int .u64 x) b id h 0 ⟨m,x::y::l⟩/\Below b w ((w.setCell (g,l.length)<|.int .u64 y).setCell (g,l.length+1)<|.int .u64 x):=by
 have d:=E1 (n:=l+1+1) (l+1) (.int .u64 x) O9<|E1 (n:=l+1+1) l (.int .u64 y) O9 f;rw[acZ]at d;refine⟨⟨⟨_,(i.bF _ _<|by show b≠g;omega).bF _ _ (by show b≠g;omega),d⟩,λj e=>a.lZ j (by simp[jO]at e|-;obtain h|h|h:=e<;>simp[h]),a.len,a.steps,a.kU⟩,?_⟩;exact S4 (Below.refl b w) g _ _ _ _ O9
def S5(p i b k h m x y l w)(s:i<p.length)(K:p.length<=1000)(c:RM w b (mk k) h 0 ⟨m,y::x::l⟩)(u:opAt p i=67):Calls Vp 244 #[.pointer b,(mk p),i] w (kV w b (mk k) h (i+1) ⟨m,x::y::l⟩):=by
 have f:=dH p i (i:Int) rfl s;have j:opAt p i=(p.getD i 0).toNat:=rfl;rw[<-j]at f;clear j;rw[u]at f;have⟨v,d,a⟩:=c.st;have⟨g,e,A,q⟩:=qC a;subst A;have D:=Hf a;simp[cQ]at q d;have B:=d.cell 0;have E:=d.frozen 0;have C:=xY (n:=l+1+1) a;have L:=c.lZ x S8;have M:=c.lZ y S8;have t:=c.len;simp[cQ]at t;have r:=(nD a g rfl).1;have H:=(nD a g rfl).2;have F:=vp a l;have G:=vp a<|l+1;have⟨z,o⟩:=afE c r d a;have I:¬b=g:=O9;have J:¬g=b:=O9;go_enter fA func244,ntmps244;go_wp2;go_region;all_goals go_wp2
 all_goals go_ret
 all_goals exact⟨rfl,z.drew,D8 o⟩
def aiB{w b g c m id h x y a l}(d:RM w b id h 0 ⟨m,y::x::l⟩)(s:b<g)(q:0<=a/\a<18446744073709551616)(o:Row w b 326 [.slice g (l+1+1) c,m,aA,id,h])(k:w.ownsRow (b+1) 83 1 (.slice g (l+1+1) c) (y::x::l) ((y::x::l).reverse.map kj)):
 RM ((w.setCell (b,0)<|.slice g (l+1) c).setCell (g,l.length)<|.int .u64 a) b id h 0 ⟨m,a::l⟩/\Below b w ((w.setCell (b,0)<|.slice g (l+1) c).setCell (g,l.length)<|.int .u64 a):=by
 have j:(w.setCell (b,0)<|.slice g (l+1) c).ownsRow (b+1) 83 1 (.slice g (l+1) c) (l+1) ((x::l).reverse.map kj):=uq (Py (l:=x::l) k) O9;have i:=E1 (n:=l+1) l (.int .u64 a) O9 j;have e:((x::l).reverse.map kj).set l (.int .u64 a)=(a::l).reverse.map kj:=by simp[kj]
 rw[e]at i;refine⟨⟨⟨_,(o.set 0 _).bF _ _ (by show b≠g;omega),i⟩,λr f=>?_,?_,d.steps,d.kU⟩,?_⟩;obtain rfl|f:=jO.1 f;exact q;exact d.lZ r (by simp[f]);have:=d.len;simp[cQ]at this|-;omega;exact((Below.refl b w).setCell (p:=(b,0)) (mi b) _).setCell (p:=(g,l.length)) (by show b<=g;omega) _
def YR(p i b E h m x y l w)(A:i<p.length)(an:p.length<=1000)(K:RM w b (mk E) h 0 ⟨m,y::x::l⟩)(d:E.length<=1000)(r:opAt p i=68\/opAt p i=69\/opAt p i=70\/opAt p i=71\/opAt p i=72\/opAt p i=75):Calls Vp 244 #[.pointer b,(mk p),i] w (kV w b (mk E) h (i+1) ⟨m,wm E (opAt p i) x y::l⟩):=by
 have ao:=cD p;have G:=dH p i (i:Int) rfl A;have V:opAt p i=(p.getD i 0).toNat:=rfl;rw[<-V]at G;clear V;have⟨ap,k,s⟩:=K.st;have⟨g,C,v,D⟩:=qC s;subst v;have q:=Hf s;simp[cQ]at D k;have F:=k.cell 0;have J:=k.frozen 0;have ai:=xY (n:=l+1+1) s;have z:=K.lZ x S8;have B:=K.lZ y S8;have j:=K.len;simp[cQ]at j;have π:=(nD s g rfl).1;have aj:=(nD s g rfl).2;have c:∀T o,Calls Vp 256 #[.pointer b,.int .u8<|opAt p i,.int .u64 x,.int .u64 y] (Go.Sort.grow (redrawn w T) o) λe Q=>e=.returned (.int .u64<|wm E (opAt p i) x y)/\∃Y:Regrown,Q=Go.Sort.grow (redrawn w Y.d) Y.os:=λT o=>Calls.regrown_of<|Kl _ b E h 0 _ (K.keep<|below_regrown w T o) d (opAt p i) O9 x y z B
 have X:=V7 E (opAt p i) x y;generalize wm E (opAt p i) x y=aq at c X|-;have H:=λW(U:Below w w W)=>aiB (K.keep U) π X (k.keep U k.lt)<|uo s U;have ak:¬b=g:=O9;have al:¬g=b:=O9;have I:b<=(w:Nat):=O9;have L:=cell_regrown F;have M:=cell_regrown D;have N:=cell_regrown q;obtain r|r|r|r|r|r:=r;all_goals
  rw[r]at G c;go_enter fA func244,ntmps244;go_wp2;refine wp_region_quiet_below nO K8 ?_;repeat(go_big_quiet_step ((go_at_call 256;exact c _ _)))
  refine vZ λS a=>?_;clear c L M N;have⟨R,u⟩:=H S a;have f:=k.keep a k.lt;have t:=uo s a;have O:=f.cell 0;have P:=f.frozen 0;have ac:=aM a q;have am:=vp t l;clear F D q J;go_wp2;go_ret;exact⟨rfl,R,(a.mono I).trans u⟩
def aj4{w b g c m id h x a l}(d:RM w b id h 0 ⟨m,x::l⟩)(r:b<g)(o:0<=a/\a<18446744073709551616)(k:Row w b 326 [.slice g (l+1) c,m,aA,id,h])(j:w.ownsRow (b+1) 83 1 (.slice g (l+1) c) (x::l) ((x::l).reverse.map kj)):
 RM (w.setCell (g,l.length)<|.int .u64 a) b id h 0 ⟨m,a::l⟩/\Below b w (w.setCell (g,l.length)<|.int .u64 a):=by
 have i:=E1 (n:=l+1) l (.int .u64 a) O9 j;have e:((x::l).reverse.map kj).set l (.int .u64 a)=(a::l).reverse.map kj:=by simp[kj]
 rw[e]at i;refine⟨⟨⟨_,k.bF _ _ (by show b≠g;omega),i⟩,λq f=>?_,d.len,d.steps,d.kU⟩,(Below.refl b w).setCell (p:=(g,l.length)) (by show b<=g;omega) _⟩;obtain rfl|f:=jO.1 f;.exact o
 .exact d.lZ q (by simp[f])
end Go.Proofs.aH
