import Derived.Recover
import Derived.Deep.RegionLaw
import Derived.ArgAppend
import Derived.Deep.DrawnRows
import Derived.Deep.DeepCutAuto
import Derived.Shelf.Abstract
import Derived.OwnWalkIn
import Derived.TacticsInMore
import Derived.LoopNIn
import Derived.LoopIn
import Derived.Test.YtpjcmpfncpnmeaaGreatM07
set_option linter.all false
set_option maxHeartbeats 8000000
set_option maxRecDepth 100000
namespace Go.Proofs.aH
open Go.RowKit Tryz
open Go.CM (jI yw)
def qo(g n:Nat):Value:=.agg #[(g,n,n)]
def vS:List Value:=[.int .i32 0,.int .u32 0,.int .u32 0,.int .u32 0,.int .i32 1,.int .i32 0]
def np:List Value:=[.int .i32 1,.int .u32 0,.int .u32 0,.int .u32 0,.int .i32<|-1073741824,.int .i32 0]
def zx{b t r}(w)(R:Row w b t (se++r)):Cv 43 #[.pointer b] w λe W=>e=.returned (.tuple #[])/\Row W b t (vS++r)/\W=w.setCell (b,4) (.int .i32 1):=
 (aiK b 0 0 (.int .i32 0) (.int .u32 0) (.int .u32 0) w (R.cell 0) (R.cell 2) (R.cell 3) (R.cell 4) (R.frozen 4) D9 D9).mono λe W⟨c,a⟩=>⟨c,a▸R.set 4 _,a⟩
def qZ{b t r}(u w)(R:Row w b t (vS++r)):CallsD Vp 44 #[.pointer b] u w λe c W=>c=u/\e=.returned (.tuple #[])/\Row W b t (se++r)/\W=w.setCell (b,4) (.int .i32 0):=
 (YY b 0 1 (.int .i32 0) (.int .u32 0) (.int .u32 0) u w (R.cell 0) (R.cell 2) (R.cell 3) (R.cell 4) (R.frozen 4) D9 D9).mono λe c W⟨h,d,a⟩=>⟨h,d,a▸R.set 4 _,a⟩
def Tm{b t r}(w)(R:Row w b t (se++r)):Cv 35 #[.pointer b] w λe W=>e=.returned (.tuple #[])/\Row W b t (np++r)/\w.grownBy W (some b):=
 (aka b 0 (.int .u32 0) (.int .u32 0) w (R.cell 2) (R.cell 3) (R.cell 0) (R.cell 4) (R.frozen 4)<|R.frozen 0).mono λe W⟨c,a⟩=>⟨c,a▸(R.set 0 _).set 4 _,a▸World.grownBy.trans (cI w (b,0) _) (cI _ (b,4) _)⟩
def xA{b t r}(u w)(R:Row w b t (np++r)):CallsD Vp 36 #[.pointer b] u w λe c W=>c=u/\e=.returned (.tuple #[])/\Row W b t (se++r)/\w.grownBy W (some b):=
 (adf b 0 (.int .u32 0) (.int .u32 0) u w (R.cell 2) (R.cell 3) (R.cell 0) (R.cell 4) (R.frozen 4)<|R.frozen 0).mono λe c W⟨h,d,a⟩=>⟨h,d,a▸(R.set 4 _).set 0 _,a▸World.grownBy.trans (cI w (b,4) _) (cI _ (b,0) _)⟩
def Xc.shut{S w W b t C}(x:Xc (λk=>k=b\/S k) w W)(h:Row w b t C)(a:Row W b t C):Xc S w W:=⟨x.os,x.tape,x.output,x.size,λk d f=>by by_cases e:k=b;subst e;exact(show W.heap[k]?=_ from a).trans (show w.heap[k]?=_ from h).symm;exact x.block k d λc=>c.elim e f⟩
def J8:=@Xc.shut
def Row.drewN{w k t c}(h:Row w k t c):Row w.drew k t c:=h
def qw:=@Row.drewN
def Row.CN{w k m t c}(h:Row w k t c)(o)(a:m≠k):Row (Go.ChangeMaps.setBlock w m o) k t c:=by unfold Row;simp[Go.ChangeMaps.setBlock];rw[mU a];exact h
def adg:=@Row.CN
abbrev E3(w:World)(g:Nat)(v V a b c d:Value):World:=(((((w.setCell ⟨g,0,none⟩ v).setCell ⟨g,1,none⟩ V).setCell ⟨g,2,none⟩ a).setCell ⟨g,3,none⟩ b).setCell ⟨g,4,none⟩ c).setCell ⟨g,5,none⟩ d
def Row.tB{w g t d e f i u j}(h:Row w g t [d,e,f,i,u,j])(v V k l a b):Row (E3 w g v V k l a b) g t [v,V,k,l,a,b]:=by have c:=(((((h.set 0 v).set 1 V).set 2 k).set 3 l).set 4 a).set 5 b;simp[List.set_cons_zero,List.set_cons_succ]at c;exact c
def Row.afO{w g k t C}(h:Row w k t C)(a:k≠g)(v V d e b c):Row (E3 w g v V d e b c) k t C:=(((((h.bF ⟨g,0,none⟩ v a).bF ⟨g,1,none⟩ V a).bF ⟨g,2,none⟩ d a).bF ⟨g,3,none⟩ e a).bF ⟨g,4,none⟩ b a).bF ⟨g,5,none⟩ c a
def Xc.tB{S w W}(h:Xc S w W)(g v V d e b c)(a:g<↑w->S g):Xc S w (E3 W g v V d e b c):=(((((h.setCell ⟨g,0,none⟩ v a).setCell ⟨g,1,none⟩ V a).setCell ⟨g,2,none⟩ d a).setCell ⟨g,3,none⟩ e a).setCell ⟨g,4,none⟩ b a).setCell ⟨g,5,none⟩ c a
def sB(o):∃s a b l h t,vT o=.agg #[.string s,.int .i64 a,.int .i64 b,.string l,.int .i64 h,.bool t]:=by obtain _|c:=o;exact⟨_,_,_,_,_,_,rfl⟩;exact⟨_,_,_,_,_,_,rfl⟩
def Kb{M n S O K}(p w)(h:aR w M n S O K)(aa:sJ p):Cv 45 #[qo M n,wA p] w λe P=>e=.returned (vT<|K p)/\Below w w P:=by
 have z:=Bo n p h.lo;generalize Y:sX n p=i at z;have A:=h.mp i z;have B:=h.sh i z;have C:∀W:World,Below w w W->Cv 91 #[.agg #[(M,n,n)],wA p] W λe P=>e=.returned (ptr<|S i)/\Below W W P:=λW al=>by have:=C5 p W (h.arr.keep al h.arr.lt) aa h.lo h.hi;rw[Y]at this;exact this
 have s:=λ(W:World)(e:W.heap[O i]?=w.heap[O i]?)=>(A.same e).look h.pt p Y;obtain⟨j,l,m,o,q,r,am⟩:=sB<|K p;rw[am]at s|-;obtain⟨a,b⟩:=p;unfold qo wA;unfold wA at s C;have t:Below w w (((w.alloc<|.cells #[(M,n,n)] 125).alloc<|.cells #[a,b] 48).alloc<|.cells ↑() 60):=((B0.alloc L9 _).alloc Z9 _).alloc (by rw[cR,cR];omega) _;have d:=(aX (w.alloc<|.cells #[(M,n,n)] 125) [a,b] 48).alloc<|.cells ↑() 60;have c:=aX ((w.alloc<|.cells #[(M,n,n)] 125).alloc<|.cells #[a,b] 48) ↑() 60;rw[cR]at d;rw[cR,cR]at c;have H:=A.lt;have I:O i≠S i:=λe=>A.ne B e.symm;go_enter_defers fA func45,ntmps45;go_wp2;generalize((w.alloc _).alloc _).alloc _=ak at t d c|-;refine(C ak t).m1 λπ u=>?_;have G:Xc (λ_=>False) w π:=(jS t).then u;have d:=d.keep u d.lt;have c:=c.keep u c.lt;have v:=B.xc G id;clear C u t;unfold ptr;go_wp2;refine(zx π v).mono ?_;rintro e N⟨rfl,x,D⟩;have y:Xc (λk=>k=S i\/False) w N:=by rw[D];exact(G.mono λ_ e=>e.elim).setCell _ _ λ_=>.inl rfl
 have d:=d.bF (S i,4) (.int .i32 1)<|d.ne v D9;have c:=c.bF (S i,4) (.int .i32 1)<|c.ne v D9;rw[<-D]at d c;clear v G D;have l1:=s N.drew (y.block _ H<|by simp[I]);clear s;have ac:=x.r 6;have af:=d.r 0;have ag:=d.r 1;have Q:=c.cell 0;have R:=c.cell 1;have T:=c.cell 2;have U:=c.cell 3;have V:=c.cell 4;have X:=c.cell 5;simp[vG,Ad]at Q R T U V X;have f0:=c.frozen 0;have f1:=c.frozen 1;have f2:=c.frozen 2;have ad:=c.frozen 3;have ae:=c.frozen 4;have aj:=c.frozen 5;go_wp2;go_region;have E:Row (E3 N ((w:Nat)+1+1) ↑j ↑l ↑m ↑o ↑q r).drew ((w:Nat)+1+1) 60 [j,l,m,o,q,r]:=qw<|c.tB _ _ _ _ _ _;have F:Row (E3 N ((w:Nat)+1+1) ↑j ↑l ↑m ↑o ↑q r).drew (S i) 196 (vS++[.map (some<|O i)]):=qw<|x.afO (x.ne c D9) _ _ _ _ _ _;have L:Xc (λk=>k=S i\/False) w (E3 N ((w:Nat)+1+1) ↑j ↑l ↑m ↑o ↑q r).drew:=(y.tB ((w:Nat)+1+1) _ _ _ _ _ _ O9).drew;generalize(E3 N ((w:Nat)+1+1) ↑j ↑l ↑m ↑o ↑q r).drew=w3 at E F L|-;clear Q R T U V X f0 f1 f2 ad ae aj l1 d c ac af ag y x;go_wp2;refine rO (f:=44) (args:=#[(S i,0)]) S8 (by simp[go_sem]) ?_;refine(qZ .returning _ F).mono ?_;rintro e ai w4⟨rfl,rfl,ab,J⟩;have ah:Xc (λk=>k=S i\/False) w w4:=by rw[J];exact L.setCell _ _ λ_=>.inl rfl
 have g:=E.bF (S i,4) (.int .i32 0)<|E.ne F D9;rw[<-J]at g;exact⟨.agg #[j,l,m,o,q,r],by simp[results,results45,go_sem,(g.cell 0),(g.cell 1),(g.cell 2),(g.cell 3),(g.cell 4),(g.cell 5)],rfl,(ah.shut B ab).low⟩
def adh{R n S p K}(c w)(h:aR w R n S p K)(O:sJ c.pt)(N:K c.pt=none):Cv 164 #[qo R n,c.v] w λe U=>e=.returned (.tuple #[])/\Xc (λk=>∃i,i<n/\k=p i) w U/\aR U R n S p (K.put c):=by
 have g:=Bo n c.pt h.lo;generalize V:sX n c.pt=i at g;have y:=h.mp i g;have z:=h.sh i g;have H:∀W,Below w w W->Cv 91 #[.agg #[(R,n,n)],wA c.pt] W λe U=>e=.returned (ptr<|S i)/\Below W W U:=λW M=>by have:=C5 c.pt W (h.arr.keep M h.arr.lt) O h.lo h.hi;rw[V]at this;exact this
 have u:∀W,W.heap[p i]?=w.heap[p i]?->∃o,(Instr.mapUpdate 194 (.map (some<|p i)) (wA c.pt) c.v).run Vp W=.ok () (Go.ChangeMaps.setBlock W (p i) o)/\fR (Go.ChangeMaps.setBlock W (p i) o) (p i) n i (K.put c):=λW e=>(y.same e).put c V N;have π:Hid (∀W,Xc (λk=>k=p i) w W->fR W (p i) n i (K.put c)->Xc (λk=>∃i,i<n/\k=p i) w W/\aR W R n S p (K.put c)):=λW x L=>⟨x.mono λk e=>⟨i,g,e⟩,h.iV g x L (λaf j=>by unfold jH.put;rw[if_neg λe=>j<|by rw[e];exact V])<|ade h.pt⟩;obtain⟨a,b,v,l,t⟩:=c;unfold qo;simp[bL.v,bL.pt,wA]at u H|-;have s:Below w w ((w.alloc<|.cells #[(R,n,n)] 125).alloc<|.cells #[a,b,v,l,t,true] 60):=(B0.alloc L9 _).alloc Z9 _;have d:=aX (w.alloc<|.cells #[(R,n,n)] 125) [a,b,v,l,t,true] 60;rw[cR]at d;have D:=y.lt;have j:p i≠S i:=λe=>y.ne z e.symm;go_enter_defers fA func164,ntmps164;go_wp2;generalize(w.alloc _).alloc _=X at s d|-;refine(H X s).m1 λY B=>?_;have q:Xc (λ_=>False) w Y:=(jS s).then B;have d:=d.keep B d.lt;have E:=z.xc q id;unfold ptr;go_wp2;refine(Tm Y E).mono ?_;rintro e T⟨rfl,F,A⟩;have Q:Xc (λk=>k=S i\/k=p i) w T:=(q.mono λ_ e=>e.elim).grown A (λk e _=>by cases e;exact .inl rfl);have C:=(A.block _ (fI D q.size) λe=>j<|iN e).trans<|q.block _ D id;have d:Row T _ _ _:=(A.block _ d.lt λe=>d.ne E D9<|iN e).trans d;obtain⟨ad,ac,aa⟩:=u T C;obtain⟨m,l1,r⟩:=u T.drew C;have ab:=F.r 6;have⟨c0,c1,c2,c3,c4,c5⟩:=d.p6;go_wp2;go_region;have J:=(xz Q).CN (p i) m λ_=>.inr rfl;have G:Row (Go.ChangeMaps.setBlock T.drew (p i) m) (S i) 196 (np++[.map (some<|p i)]):=by unfold Row;simp[Go.ChangeMaps.setBlock];rw[mU j];exact F
 generalize Go.ChangeMaps.setBlock T.drew (p i) m=w3 at r J G|-;refine rO (f:=36) (args:=#[(S i,0)]) S8 (by simp[go_sem]) ?_;refine(xA .returning _ G).mono ?_;rintro e ae w4⟨rfl,rfl,P,I⟩;exact⟨_,Ns rfl _ _ _,rfl,π.out w4 ((J.grown I λk e _=>by cases e;exact .inl rfl).shut z P)<|r.same (I.block _ r.lt λe=>j<|iN e)⟩
def YZ{x n q c K}(p w)(h:aR w x n q c K)(bk:sJ p):Cv 163 #[qo x n,wA p] w λe w'=>e=.returned (vT<|K p)/\Xc (λk=>∃i,i<n/\k=c i) w w'/\aR w' x n q c (K.take p):=by
 have J:=Bo n p h.lo;generalize hi:sX n p=i at J;have L:=h.mp i J;have av:=h.sh i J;have ay:∀W:World,Below w w W->Cv 91 #[.agg #[(x,n,n)],wA p] W λe w'=>e=.returned (ptr<|q i)/\Below W W w':=λW bj=>by have:=C5 p W (h.arr.keep bj h.arr.lt) bk h.lo h.hi;rw[hi]at this;exact this
 have z:=λ(W:World)(e:W.heap[c i]?=w.heap[c i]?)=>(L.same e).look h.pt p hi;have X:∀(W:World)(ty:TypeId),W.heap[c i]?=w.heap[c i]?->∃ac,(Builtin.delete_ #[194,48] ty #[.map (some<|c i),wA p]).run Vp W=.ok (.tuple #[]) (Go.ChangeMaps.setBlock W (c i) ac)/\fR (Go.ChangeMaps.setBlock W (c i) ac) (c i) n i (K.take p):=λW ty e=>(L.same e).take h.pt p;have ap:Hid (∀W:World,Xc (λk=>k=c i) w W->fR W (c i) n i (K.take p)->Xc (λk=>∃i,i<n/\k=c i) w W/\aR W x n q c (K.take p)):=λW ad bg=>⟨ad.mono λk e=>⟨i,J,e⟩,h.iV J ad bg (λaq O=>by unfold jH.take;rw[if_neg λe=>O<|by rw[e];exact hi])<|Wn h.pt⟩;obtain⟨j,l,m,r,s,t,ao⟩:=sB<|K p;rw[ao]at z|-;change Hid _ at ao hi;obtain⟨a,b⟩:=p;unfold qo;simp[wA]at z ay X|-;have Y:Below w w (((w.alloc<|.cells #[(x,n,n)] 125).alloc<|.cells #[a,b] 48).alloc<|.cells ↑() 60):=((B0.alloc L9 _).alloc Z9 _).alloc (by rw[cR,cR];omega) _;have g:=(aX (w.alloc<|.cells #[(x,n,n)] 125) [a,b] 48).alloc<|.cells ↑() 60;have u:=aX ((w.alloc<|.cells #[(x,n,n)] 125).alloc<|.cells #[a,b] 48) ↑() 60;rw[cR]at g;rw[cR,cR]at u;have ar:=L.lt;have O:c i≠q i:=λe=>L.ne av e.symm;go_enter_defers fA func163,ntmps163;go_wp2;generalize((w.alloc _).alloc _).alloc _=am at Y g u|-;refine(ay am Y).m1 λw1 π=>?_;have R:Xc (λ_=>False) w w1:=(jS Y).then π;have g:=g.keep π g.lt;have u:=u.keep π u.lt;have ab:=av.xc R id;clear ay π Y;unfold ptr;go_wp2;refine(Tm w1 ab).mono ?_;rintro e o⟨rfl,ae,P⟩;have ai:Xc (λk=>k=q i\/k=c i) w o:=(R.mono λ_ e=>e.elim).grown P (λk e _=>by cases e;exact .inl rfl);have M:=(P.block _ (fI ar R.size) λe=>O<|iN e).trans<|R.block _ ar id;have g:Row o _ _ _:=(P.block _ g.lt λe=>g.ne ab D9<|iN e).trans g;have u:Row o _ _ _:=(P.block _ u.lt λe=>u.ne ab D9<|iN e).trans u;clear ab P R;have a0:=z o M;have l1:=z o.drew M;have au:=fI ar ai.size;have l2:=z (o.alloc<|.cells ↑() 60).drew<|(Below.heap_alloc o _ _ au).trans M;clear z;have y1:=g.lt;have br:=ae.lt;have ak:=ae.r 6;have⟨a2,a3⟩:=g.p2;go_wp2;go_region;all_goals clear a0 l1 l2 ak a2 a3 y1 br
 all_goals have y:=qw<|aX o [j,l,m,r,s,.bool t] 60
 all_goals have a5:=(ai.alloc<|.cells [.string j,.int .i64 l,.int .i64 m,.string r,.int .i64 s,.bool t].toArray 60).drew
 all_goals have af:=qw (ae.alloc<|.cells [.string j,.int .i64 l,.int .i64 m,.string r,.int .i64 s,.bool t].toArray 60)
 all_goals have V:=qw (g.alloc<|.cells [.string j,.int .i64 l,.int .i64 m,.string r,.int .i64 s,.bool t].toArray 60)
 all_goals have aj:=qw (u.alloc<|.cells [.string j,.int .i64 l,.int .i64 m,.string r,.int .i64 s,.bool t].toArray 60)
 all_goals have N:(o.alloc<|.cells [.string j,.int .i64 l,.int .i64 m,.string r,.int .i64 s,.bool t].toArray 60).drew.heap[c i]?=w.heap[c i]?:=(Below.heap_alloc o _ _ au).trans M
 all_goals have bd:(o:Nat)≠(w:Nat)+1+1:=by have:=u.lt;omega
 all_goals have bf:(w:Nat)<=(o:Nat):=ai.size
 all_goals generalize(o.alloc<|.cells #[j,l,m,r,s,.bool t] 60).drew=B at y a5 af V aj N|-
 all_goals generalize(o:Nat)=al at y bd bf|-
 all_goals clear g u ae ai M au
 all_goals(have ak:B.cell? (q i,6)=some (.map (some<|c i)):=af.cell 6)
 all_goals(have a2:B.cell? ((w:Nat)+1,0)=some ↑a:=V.cell 0)
 all_goals(have a3:B.cell? ((w:Nat)+1,1)=some ↑b:=V.cell 1)
 all_goals obtain⟨bp,a0,a8⟩:=X B 0 N
 all_goals obtain⟨A,l1,T⟩:=X B.drew 0 N
 all_goals go_wp2
 all_goals go_region
 all_goals(have a6:Xc (λk=>k=q i\/k=c i) w (Go.ChangeMaps.setBlock B.drew (c i) A):=(xz a5).CN (c i) A λ_=>.inr rfl)
 all_goals(have bo:c i≠al:=λe=>a8.ne (y.CN bp λan=>have:=(L.same N).ne y;this an.symm) e.symm)
 all_goals(have n2:c i≠(w:Nat)+1+1:=by omega)
 all_goals(have ag:=adg (qw af) A O)
 all_goals(have v:=adg (qw y) A bo)
 all_goals(have d:=adg (qw aj) A n2)
 all_goals generalize Go.ChangeMaps.setBlock B.drew (c i) A=w4 at T a6 ag v d|-
 all_goals clear ak a2 a3 a0 l1 a8 X V aj y af a5 N
 all_goals(have c0:=v.cell 0;have c1:=v.cell 1;have c2:=v.cell 2;have c3:=v.cell 3;have c4:=v.cell 4;have c5:=v.cell 5)
 all_goals simp[vG,Ad]at c0 c1 c2 c3 c4 c5
 all_goals(have D:=d.cell 0;have E:=d.cell 1;have F:=d.cell 2;have G:=d.cell 3;have H:=d.cell 4;have I:=d.cell 5)
 all_goals simp[vG,Ad]at D E F G H I
 all_goals(have f0:=d.frozen 0;have f1:=d.frozen 1;have f2:=d.frozen 2;have ba:=d.frozen 3;have bb:=d.frozen 4;have bc:=d.frozen 5)
 all_goals go_wp2
 all_goals(have Q:=d.tB ↑j ↑l ↑m ↑r ↑s<|.bool t)
 all_goals(have ah:=ag.afO (ag.ne d D9) ↑j ↑l ↑m ↑r ↑s<|.bool t)
 all_goals(have a7:=a6.tB ((w:Nat)+1+1) ↑j ↑l ↑m ↑r ↑s (.bool t) O9)
 all_goals(have U:fR (E3 w4 ((w:Nat)+1+1) ↑j ↑l ↑m ↑r ↑s<|.bool t) (c i) n i (K.take (a,b)):=T.same<|(Xc.tB (S:=λk=>k=(w:Nat)+1+1) (lY _ w4) ((w:Nat)+1+1) _ _ _ _ _ _ λ_=>rfl).block _ T.lt n2)
 all_goals unfold E3 at Q ah a7 U
 all_goals generalize(((((w4.setCell ⟨(w:Nat)+1+1,0,none⟩ ↑j).setCell ⟨(w:Nat)+1+1,1,none⟩ ↑l).setCell ⟨(w:Nat)+1+1,2,none⟩ ↑m).setCell ⟨(w:Nat)+1+1,3,none⟩ ↑r).setCell ⟨(w:Nat)+1+1,4,none⟩ ↑s).setCell ⟨(w:Nat)+1+1,5,none⟩ (.bool t)=bu at Q ah a7 U|-
 all_goals clear c0 c1 c2 c3 c4 c5 D E F G H I f0 f1 f2 ba bb bc v d ag a6 T
 all_goals refine rO (f:=36) (args:=#[.pointer (q i,0)]) S8 (by simp[go_sem]) ?_
 all_goals refine(xA .returning _ ah).mono ?_
 all_goals rintro e bs a4⟨rfl,rfl,bm,az⟩
 all_goals(have bq:Xc (λk=>k=q i\/k=c i) w a4:=a7.grown az λk e _=>by cases e;exact .inl rfl)
 all_goals(have C:Row a4 _ _ _:=(az.block _ Q.lt λe=>Q.ne ah D9<|iN e).trans Q)
 all_goals(have a9:=U.same (az.block _ U.lt λe=>O<|iN e))
 all_goals(have D:=C.cell 0;have E:=C.cell 1;have F:=C.cell 2;have G:=C.cell 3;have H:=C.cell 4;have I:=C.cell 5)
 all_goals simp[vG,Ad]at D E F G H I
 all_goals exact⟨.agg #[j,l,m,r,s,.bool t],by simp[results,results163,go_sem,D,E,F,G,H,I],rfl,ap.out a4 (bq.shut av bm) a9⟩
section
variable[Go.Proofs.VB]
structure St where
 steps:Nat
 l:List Int
inductive qI(α:Type) where
 |ok (a:α) (s:St)
 |bad (e:Int) (steps:Nat)
def kj(x:Int):Value:=.int .u64 x
def ug(id:ByteArray)(h:Int)(s:St)(j:List Int):List Value:=[.string id,.int .u64 h,.int .i64 s.steps]++((s.l.reverse++j).map kj++[.int .i64 s.l.length])
structure jm(w:World)(b:Nat)(id:ByteArray)(h:Int)(s:St):Prop where
 row:∃ajP:List Int,Row w b 339 (ug id h s ajP)/\s.l.length+ajP.length=16
 lZ:∀x∈s.l,0<=x/\x<18446744073709551616
 steps:s.steps<=40
 kU:0<=h/\h<18446744073709551616
def OW(e:Int):List PanicEntry:=[{v:=.iface 38<|.int .i64 e,recovered:=false}]
def aU{c:Type}(P:c->Value)(w:World)(b:Nat)(id:ByteArray)(h:Int)(r:qI c)(e:Ending)(W:World):Prop:=w.grownBy W (some b)/\match r with
 |.ok a s=>e=.returned (P a)/\jm W b id h s
 |.bad k n=>e=.panicked (OW k)/\∃s,s.steps=n/\jm W b id h s
def lj(_:Unit):Value:=.tuple #[]
def Mh(w:World)(n r):w.grownBy (w.drewN n) r:=⟨rfl,rfl,rfl,L9,λ_ _ _=>rfl⟩
def jm.n{w b id h s}(a:jm w b id h s)(n):jm (w.drewN n) b id h s:=⟨a.row,a.lZ,a.steps,a.kU⟩
def kr(s:St):qI Unit:=if s.steps=40 then .bad 4 40 else .ok () ⟨s.steps+1,s.l⟩
def ny(x:Int)(s:St):qI Unit:=if s.l.length=16 then .bad 3 s.steps else .ok () ⟨s.steps,x::s.l⟩
def jV(s:St):qI Int:=match s.l with
 |[]=>.bad 3 s.steps
 |x::l=>.ok x ⟨s.steps,l⟩
def pj(w:World)(b o v):w.grownBy (w.setCell ⟨b,o,none⟩ v) (some b):=CL (bT w _) b (.inl rfl) o v
def wZ{w W:World}{r}(h:w.grownBy W r):w.grownBy W.drew r:=⟨h.os,h.tape,h.output,h.size,h.block⟩
def uX(id h s a)(b:s.l.length+a.length=16):(ug id h s a)[19]?=some (.int .i64 s.l):=by unfold ug;rw[cZ S8,cZ<|by simp;omega];simp;rw[show 19 -(0+1+1+1) -(s.l.length+a.length)=0 from by omega];rfl
def J6(id h n x l a):(ug id h ⟨n,x::l⟩ a)[3+l.length]?=some (.int .u64 x):=by unfold ug;rw[cZ S8,ko S8];simp[kj]
def Sv(id h n y l a):(ug id h ⟨n,l⟩ (y::a))[3+l.length]?=some (.int .u64 y):=by unfold ug;rw[cZ S8,ko S8];simp[kj]
def afo(x y n m l a k K)(b:k=l.length)(c:K=l.length+1+a.length):(((l++(y::a)).map kj++[n]).set k<|.int .u64 x).set K m=((l++[x])++a).map kj++[m]:=by
 subst b c;simp[kj,Ur,UC 1]
def Yv(id h n x y l a)(b:l.length+(a.length+1)=16):((ug id h ⟨n,l⟩ (y::a)).set (3+l)<|.int .u64 x).set 19 ↑((l:Int)+1)=ug id h ⟨n,x::l⟩ a:=by
 unfold ug;rw[Ds _ _ S8,Ds _ _ S8,afo x y _ _ l.reverse a _ _ S8<|by simp;omega];simp
def Sw(id h n x l a)(b:l.length+1+a.length=16):(ug id h ⟨n,x::l⟩ a).set 19 (l:Int)=ug id h ⟨n,l⟩ (x::a):=by
 unfold ug;rw[Ds _ _ S8,Ds _ _<|by simp;omega];simp only[cQ,pN,dS,cB,Dt];rw[show 19 -(0+1+1+1) -(l.length+1+a.length)=0 from by omega];simp
def J5(w b id h s)(a:jm w b id h s):Cv 259 #[.pointer b] w (aU lj w b id h<|kr s):=by
 have⟨f,d,e⟩:=a.row;have C:=d.cell 2;have i:=d.frozen 2;have g:=a.steps;replace C:w.cell? (b,2)=some ↑s.steps:=C;by_cases c:s.steps=40;.go_enter fA func259,ntmps259;go_wp2;refine⟨rfl,bT _ _,?_⟩;unfold kr;rw[aN c];exact⟨rfl,s,c,a⟩
 go_enter fA func259,ntmps259;go_wp2;go_end0;unfold kr;rw[aJ c];refine⟨pj _ _ _ _,rfl,⟨f,?_,e⟩,a.lZ,?_,a.kU⟩;exact d.set 2 ↑((s.steps:Int)+1);grind
def mC(w b id h x s)(d:jm w b id h s)(m:0<=x/\x<18446744073709551616):Cv 260 #[.pointer b,.int .u64 x] w (aU lj w b id h<|ny x s):=by
 have⟨e,a,c⟩:=d.row;have r:=(a.cell 19).trans<|uX id h s e c;have p:=a.frozen 19;by_cases f:s.l.length=16
 .have k:((s.l:Int)==16)=true:=by rw[f];rfl
  go_enter fA func260,ntmps260;go_wp2;refine⟨rfl,bT _ _,?_⟩;unfold ny;rw[aN f];exact⟨rfl,s,rfl,d⟩
 have k:((s.l:Int)==16)=false:=by simpa using(by omega:¬(s.l:Int)=16)
 have o:0<=(s.l:Int)/\(s.l:Int)<16:=O9;have q:=a.frozen<|3+s.l;have⟨n,l⟩:=s;obtain _|⟨y,e⟩:=e;exact absurd c f;have t:=(a.cell<|3+l).trans<|Sv id h n y l e;go_enter fA func260,ntmps260;go_wp2;go_region;have i:=a.set (3+l)<|.int .u64 x;have C:=i.cell 19;rw[ot O9,uX _ _ _ _ c]at C;go_wp2;go_end0;unfold ny;rw[aJ f];refine⟨wZ ((pj _ _ _ _).trans<|pj _ _ _ _),rfl,⟨e,?_,by simp[cQ]at c|-;omega⟩,?_,d.steps,d.kU⟩;have j:=i.set 19 ↑((l:Int)+1);rw[Yv _ _ _ _ _ _ _ c]at j;exact j;intro z g;obtain rfl|g:=jO.1 g;exact m;exact d.lZ z g
def kR(w b id h s)(a:jm w b id h s):Cv 266 #[.pointer b] w (aU kj w b id h<|jV s):=by
 have⟨e,c,d⟩:=a.row;have C:=(c.cell 19).trans<|uX id h s e d;have j:=c.frozen 19;have⟨n,l⟩:=s;cases l with
 |nil=>go_enter fA func266,ntmps266;go_wp2;exact⟨rfl,bT _ _,rfl,_,rfl,a⟩
 |cons x l=>have i:=(c.cell<|3+l).trans<|J6 id h n x l e;simp at d;go_enter fA func266,ntmps266;go_wp2;go_region;go_wp2;go_ret;refine⟨wZ<|pj _ _ _ _,rfl,⟨x::e,?_,by simp;omega⟩,λz g=>a.lZ z<|Fa _ g,a.steps,a.kU⟩;have f:=c.set 19 ↑(l:Int);rw[Sw _ _ _ _ _ _ d]at f;exact f
def O4(s:St):qI Unit:=match s.l with
 |[]=>.bad 7 s.steps
 |x::l=>if x=0 then .bad 7 s.steps else .ok () ⟨s.steps,x::l⟩
def acx(w b id h s)(a:jm w b id h s):Cv 238 #[.pointer b] w (aU lj w b id h<|O4 s):=by
 have⟨f,c,e⟩:=a.row;have C:=(c.cell 19).trans<|uX id h s f e;have m:=c.frozen 19;have⟨n,l⟩:=s;cases l with
 |nil=>have C:=C;go_enter fA func238,ntmps238;go_wp2;go_quiet (fail);go_wp2;exact⟨rfl,Mh w _ _,rfl,_,rfl,a.n nq⟩
 |cons x l=>
   have j:=(c.cell<|3+l).trans<|J6 id h n x l f;have C:=C;simp[cQ]at e;have g:(((l:Int)+1)==0)=false:=by simpa using(by omega:¬(l:Int)+1=0)
   have i:0<=(l:Int)/\(l:Int)<16:=O9;by_cases d:x=0;.subst d;go_enter fA func238,ntmps238;go_wp2;go_quiet (fail);go_wp2;exact⟨rfl,Mh w _ _,rfl,_,rfl,a.n nq⟩
   have k:(x==0)=false:=by simpa using d
   go_enter fA func238,ntmps238;go_wp2;go_quiet (fail);go_wp2;go_end0;unfold O4;simp[aJ d];exact⟨Mh w _ _,rfl,a.n nq⟩
def ky(b:Bool):Int:=if b then 1 else 0
def CK(a w):Cv 268 #[.bool a] w λe W=>e=.returned (.int .u64<|ky a)/\W=w:=by
 cases a;.go_enter fA func268,ntmps268;go_wp2;go_ret;exact⟨rfl,rfl⟩
 go_enter fA func268,ntmps268;go_wp2;go_ret;exact⟨rfl,rfl⟩
end
def jA{O o a w K Q E}(f)(j:o.guard=none)(d n)(k:o.op=.call {callee:=.value<|.func f,args:=d,argTypes:=n})(b)(l:d.map a.eval=b)(R:Value->World->Prop)(g:Cv f b w λe W=>∃v,e=.returned v/\R v W)
 (i:(callFunc f b).run Vp w=.ok (.enter f b) w)(h:∀v W,R v W->K (a.put o.dst v) W):if Region.wanted o (yielded O a.tmps)=true then Oper.wp Vp o a w K Q else E:=by
 rw[aN<|by simp[Region.wanted,j]];unfold Oper.wp execOp;simp[k,resolve,invoke,Act.eval,l,Deferred.ofValue,i];refine g.mono λe W c=>?_;obtain⟨v,rfl,c⟩:=c;exact h v W c
attribute [local go_sem↓] Go.wp_at_zero Go.wp_at_succ
def Own(F:Nat->Prop)(B:Nat)(T:TypeId->Prop)(w:World)(k:Nat):Prop:=F k\/(B<=k/\∃t c f,T t/\w.heap[k]?=some (.cells c t f))
abbrev Xo(F:Nat->Prop)(B:Nat)(T:TypeId->Prop)(w W:World):Prop:=Xc (Own F B T w) w W
def Xo.trans{F B T w W j}(h:Xo F B T w W)(g:Xo F B T W j):Xo F B T w j:=by refine Wk h g λk i e=>?_;by_cases c:Own F B T w k;exact c;obtain e|⟨a,t,C,f,b,d⟩:=e;exact .inl e;exact .inr ⟨a,t,C,f,b,(h.block k i c).symm.trans d⟩
def rz:=@Xo.trans
def Xo.mono{F a B m T b w W}(h:Xo F B T w W)(j:∀k,F k->a k)(i:m<=B)(l:∀t,T t->b t):Xo a m b w W:=Xc.mono h (λk e=>by obtain e|⟨c,t,C,f,d,g⟩:=e;exact .inl<|j k e;exact .inr ⟨cA i c,t,C,f,l t d,g⟩)
def Row.xo{F B T w W g t C}(h:Row w g t C)(x:Xo F B T w W)(d:¬F g)(a:g<B\/¬T t):Row W g t C:=by refine h.xc x ?_;rintro(e|⟨i,j,f,k,c,b⟩);exact d e;obtain a|a:=a;omega;cases h▸b;exact a c
def dB.cells(s:dB):List Value:=[.string s.km.tx,.int .i64 s.km.idx,.int .i64 s.km.val,.string s.km.lock,.int .i64 s.km.aT,↑aD,.bool s.EG]
def eV(l:List dB):List Value:=l.flatMap dB.cells
def Ee(l s):eV (l++[s])=eV l++s.cells:=by simp[eV]
def aI.adi:(Vp.info? 234).map (λi=>(i.zero,i.size,i.bytes))=some (some<|.agg #[aB,aA,aA,aB,aA,aF,aF],7,72):=K8
def adj:=@aI.adi
def vV{w}(T t V e i z S U)(q:Vp.underlying t=some (.slice e))(Y:Vp.info? e=some i)(E:i.zero=some z)(k:i.size=S)(A:i.bytes=U)(F:z.cells.size=S)(D:0<S)(v n l)(h:w.ownsRow T e S v n l)(a m c R)(f:R.length=m*S)(o:∀j u,R[j]?=some u->w.cell? (a.add j)=some u)(s:∀u∈R,u.oneCell'=true)
 (y:n+m<=maxLen)(B:(n+m)*U<=140737488355328)(I:T<=↑w):
 ∃b W,(Builtin.append_ #[t,t] V #[v,.slice (some a) m c]).run Vp w=.ok b W/\W.ownsRow T e S b (n+m) (l++R)/\w.grownBy W v.ownBlock/\(b.ownBlock=v.ownBlock\/b.ownBlock=some ↑w)/\(b.ownBlock=v.ownBlock\/w.grownBy W none):=by
 have⟨b,W,p,G,x,_,H⟩:=run_append_own_at (P:=Vp) w T t V e i z S U q Y E k A F D v n l h a m c R f o s y B I;refine⟨b,W,p,G,x,H,?_⟩;obtain⟨r,_⟩|⟨g,X,π,r,N,L,Q,O,J,aa⟩:=h.2;subst r;exact .inr x;subst r;by_cases C:n+m<=X;left;have K:n*i.size+R<=π.size:=by rw[f,J,k,<-Nat.add_mul];exact UE _ C
 have d:=run_append_room (P:=Vp) w t V e i q Y g n X π L a m c R (k▸f) o s C K;cases p▸d;rfl;right;have⟨v2,w2,d,_,M⟩:=run_append_arg_grows (P:=Vp) w t V e i z S U q Y E k A F D (g,0) n X l h.1 (h.cells (g:=g) rfl) a m c R f o O9 y B;cases p▸d;exact M
def zG{π o a w K Q E t e i z S X}(R:Vp.underlying t=some (.slice e))(Y:Vp.info? e=some i)(U:i.zero=some z)(O:i.size=S)(C:i.bytes=X)(V:z.cells.size=S)(P:0<S)(y:X<=1000)(B)(F:o.guard=none)(s x)(J:o.op=.call {callee:=.builtin .append,args:=#[s,x],argTypes:=#[t,t]})(v n l)(N:a.eval s=v)(L:w.ownsRow B e S v n l)
 (m A)(H:A.length=m*S)(g c)(T:a.eval x=.slice g m c)(D:Row w g e A)(d:∀u∈A,u.oneCell'=true)(aa:m<=1000)(ab:n<=100000)(r:B<=↑w)
 (h:∀b W,W.ownsRow B e S b (n+m) (l++A)->w.grownBy W v.ownBlock->(b.ownBlock=v.ownBlock\/b.ownBlock=some ↑w)->(b.ownBlock=v.ownBlock\/w.grownBy W none)->K (a.put o.dst b) W):if Region.wanted o (yielded π a.tmps)=true then Oper.wp Vp o a w K Q else E:=by
 rw[aN<|by simp[Region.wanted,F]];have I:∀j u,A[j]?=some u->w.cell? (((g,0):Addr).add j)=some u:=λj u G=>by rw[add0,D.cell];exact G
 have⟨b,W,M,f,k,p,q⟩:=vV (w:=w) B t o.type e i z S X R Y U O C V P v n l L (g,0) m c A H I d (by unfold maxLen;omega) (Nat.le_trans (Nat.mul_le_mul (show n+m<=101000 by omega) y) O9) r;unfold Oper.wp execOp;simp[J,resolve,invoke,builtin,N,T,M];exact h b W f k p q
def zH{V o a w K Q E t e i z S R}(L:Vp.underlying t=some (.slice e))(T:Vp.info? e=some i)(N:i.zero=some z)(I:i.size=S)(r:i.bytes=R)(O:z.cells.size=S)(J:0<S)(q:R<=1000)(B)(A:o.guard=none)(s x)(F:o.op=.call {callee:=.builtin .append,args:=#[s,x],argTypes:=#[t,t]})(v n l)(H:a.eval s=v)(G:w.ownsRow B e S v n l)
 (m P)(C:P.length=m*S)(g c)(M:a.eval x=.slice g m c)(y:Row w g e P)(d:∀u∈P,u.oneCell'=true)(D:m<=1000)(U:n<=100000)(p:B<=↑w)
 (h:∀b W,W.ownsRow B e S b (n+m) (l++P)->w.grownBy W v.ownBlock->(b.ownBlock=v.ownBlock\/b.ownBlock=some ↑w)->K (a.put o.dst b) W):if Region.wanted o (yielded V a.tmps)=true then Oper.wp Vp o a w K Q else E:=
 zG L T N I r O J q B A s x F v n l H G m P C g c M y d D U p λb W f j k _=>h b W f j k
structure bW(w:World)(tb gs n:Nat)(v:Value)(l:List dB):Prop where
 row:Row w tb 181 [(gs,n,n),v]
 own:w.ownsRow (tb+1) 234 7 v l.length (eV l)
def Old(v:Value)(w W:World):Prop:=∀(k:Nat)(c:Array Value)(f:Nat×Nat),w.heap[k]?=some (.cells c 234 f)->v.ownBlock≠some k->W.heap[k]?=some (.cells c 234 f)
def dN(w W:World):Prop:=∀(k:Nat)(c:Array Value)(f:Nat×Nat),w.heap[k]?=some (.cells c 234 f)->W.heap[k]?=some (.cells c 234 f)
def dN.old{w W d v}(h:dN w W)(a:Old v W d):Old v w d:=λk C f b c=>a k C f (h k C f b) c
def Old.all{w W d v}(h:Old v w W)(a:dN W d):Old v w d:=λk C f b c=>a k C f<|h k C f b c
def dN.trans{w W d}(h:dN w W)(a:dN W d):dN w d:=λk c f b=>a k c f<|h k c f b
def dN.any{w W}(h:dN w W)(v):Old v w W:=λk c f a _=>h k c f a
def dN.of{S w W}(x:Xc S w W)(h:∀k c f,w.heap[k]?=some (.cells c 234 f)->¬S k):dN w W:=λk c f a=>(x.block k (eD.1 a).1<|h k c f a).trans a
def Wo:=@dN.of
def dN.keep{w W}(h:Below w.heap.size w W):dN w W:=Wo (jS h (S:=λ_=>False)) λ_ _ _ _=>id
def PQ:=@dN.keep
def tE(W:World)(V:Value)(w:World)(v:Value):Prop:=W.heap.size<=w.heap.size/\(v.ownBlock=V.ownBlock\/∃k,v.ownBlock=some k/\W.heap.size<=k)/\∀(k:Nat)(c:Array Value)(f:Nat×Nat),W.heap[k]?=some (.cells c 234 f)->V.ownBlock≠some k->w.heap[k]?=some (.cells c 234 f)
def tE.refl(w v):tE w v w v:=⟨L9,.inl rfl,λ_ _ _ h _=>h⟩
def tE.trans{i w W V v b}(h:tE i V w v)(H:tE w v W b):tE i V W b:=by refine⟨cA h.1 H.1,?_,λk C f a d=>H.2.2 k C f (h.2.2 k C f a d) λe=>?_⟩;obtain e|⟨k,e,a⟩:=H.2.1;rw[e];exact h.2.1;exact .inr ⟨k,e,cA h.1 a⟩;obtain c|⟨j,c,g⟩:=h.2.1;simp_all;simp_all
def tE.all{w W}(v)(h:dN w W)(b:w<=(W:Nat)):tE w v W v:=⟨b,.inl rfl,λk c f a _=>h k c f a⟩
def Hs:=@tE.all
def tE.keep{w W}(v)(h:Below w.heap.size w W):tE w v W v:=Hs v (PQ h) h.size
def adk:=@tE.keep
def aS{B}{w:World}{e s n v d}(h:w.ownsRow B e s v n d):∃a c,v=.slice a n c:=by obtain⟨b,H⟩|⟨g,C,f,b,_⟩:=h.2;simp_all;simp_all
def World.ownsRow.drewN{B}{w:World}{e s n v a}(h:w.ownsRow B e s v n a):w.drew.ownsRow B e s v n a:=h
def Wp:=@World.ownsRow.drewN
def dA{B}{w W:World}{e s n v c}(h:w.ownsRow B e s v n c)(d:∀k j,v.ownBlock=some k->B<=k->w.heap[k]?=some (.cells j e (0,0))->W.heap[k]?=w.heap[k]?):W.ownsRow B e s v n c:=by refine⟨h.1,?_⟩;obtain f|⟨g,i,C,rfl,a,b,r⟩:=h.2;simp_all;exact .inr ⟨g,i,C,rfl,a,(d g C rfl a b).trans b,r⟩
def bO{w:World}{k o}(h:w.heap[k]?=some o):k<(w:Nat):=(eD.1 h).1
def aP{B w W e s n v a}(h:w.ownsRow B e s v n a)(b:Below w.heap.size w W):W.ownsRow B e s v n a:=dA h λk _ _ _ c=>b.block k<|bO c
def adl{F B m T w W e s n v a}(h:w.ownsRow m e s v n a)(x:Xo F B T w W)(i:∀k C,w.heap[k]?=some (.cells C e (0,0))->m<=k->¬F k)(j:¬T e):W.ownsRow m e s v n a:=by refine dA h λk C _ l b=>x.block k (bO b) ?_;rintro(c|⟨_,t,d,o,f,g⟩);simp_all;simp_all
def lu(n:Nat)(m:Nat->Nat)(k:Nat):Prop:=∃i,i<n/\k=m i
def BI(n:Nat)(m:Nat->Nat)(t k:Nat):Prop:=lu n m k\/k=t
def xB(t:TypeId):Prop:=t=234
def aR.drew{w g n s m K}(h:aR w g n s m K):aR w.drew g n s m K:=h.keep<|cN B0
def aR.Ht{w G n i g s m K t c}(h:aR w G n s m K)(H:i<n)(r:Row w g t c):g≠m i:=(h.mp i H).ne r
theorem aR.lU{w G n g s m K t c}(h:aR w G n s m K)(r:Row w g t c):¬lu n m g:=λ⟨i,H,e⟩=>h.Ht H r e
def aR.uu{w g n k s m K d t f}(h:aR w g n s m K)(a:w.heap[k]?=some (.cells d t f)):¬lu n m k:=by rintro⟨i,H,e⟩;subst e;obtain⟨C,b,-⟩:=h.mp i H;obtain⟨E,j,c,-⟩:=b;cases c▸a
def PR{w W B G n s m S M K e v b}(h:w.ownsRow B e s v m b)(f:aR w G n S M K)(x:Xc (lu n M) w W):W.ownsRow B e s v m b:=dA h λk l _ g a=>x.block k (bO a) (by rintro⟨i,H,e⟩;subst e;obtain⟨C,c,-⟩:=f.mp i H;obtain⟨E,j,d,-⟩:=c;cases d▸a)
def bS{B}{w:World}{e s n k v f}(h:w.ownsRow B e s v n f)(a:v.ownBlock=some k):B<=k/\∃C,w.heap[k]?=some (.cells C e (0,0)):=by obtain⟨b,_⟩|⟨g,i,j,b,c,d,_⟩:=h.2;cases b▸a;cases b▸a;exact⟨c,_,d⟩
def bR{B w e t s n g v d C}(h:w.ownsRow B e s v n d)(r:Row w g t C)(c:t≠e):v.ownBlock≠some g:=by intro b;have⟨_,f,a⟩:=bS h b;cases r▸a;exact c rfl
def aR.grown{w W B G n t m s M K e v q}(b:aR w G n s M K)(h:w.ownsRow B e t v m q)(a:w.grownBy W v.ownBlock)(f:e≠192)(g:e≠196):aR W G n s M K:=by refine b.xc (S:=λk=>v.ownBlock=some k) ⟨a.os,a.tape,a.output,a.size,λk o p=>a.block k o λc=>p c.symm⟩ (bR h b.arr<|gP f) (λi H=>bR h (b.sh i H)<|gP g) λi H c=>?_;have⟨_,r,d⟩:=bS h c;obtain⟨C,j,-⟩:=b.mp i H;obtain⟨E,u,l,-⟩:=j;cases l▸d
def aR.setCell{w G n g j s mb K t C}(a:aR w G n s mb K)(r:Row w g t C)(v)(b:t≠192)(c:t≠196):aR (w.setCell ⟨g,j,none⟩ v) G n s mb K:=a.xc (S:=λk=>k=g) ((lY _ w).setCell (g,j) v λ_=>rfl) (a.arr.ne r<|gP b) (λi h=>(a.sh i h).ne r<|gP c) λi h e=>a.Ht h r e.symm
def bW.note{w W G n T S M K v a l s o}(x:aR w G n S M K)(h:bW w T G n v l)(i:((w.drew).alloc o).grownBy W v.ownBlock)(y:W.ownsRow (T+1) 234 7 a (l+1) (eV l++s.cells))(j:a.ownBlock=v.ownBlock\/((w.drew).alloc o).grownBy W none)(A:a.ownBlock=v.ownBlock\/a.ownBlock=some ↑((w.drew).alloc o)):Row W T 181 [(G,n,n),v]/\aR (W.setCell (T,1) a) G n S M K/\bW (W.setCell (T,1) a) T G n a (l++[s])/\Xo (BI n M T) (T+1) xB w (W.setCell (T,1) a)/\Old a w (W.setCell (T,1) a)/\tE w v (W.setCell (T,1) a) a:=by
 have d:Below w.heap.size w ((w.drew).alloc o):=(cN B0).alloc L9 _;have R:=h.row.keep d h.row.lt;have u:=aP h.own d;have p:Row W T 181 [(G,n,n),v]:=(i.block T R.lt λc=>bR u R D9 c.symm).trans R;refine⟨p,((x.keep d).grown u i D9 D9).setCell p a D9 D9,⟨p.set 1 a,?_⟩,?_,?_,?_⟩;rw[Ee,cB];exact nW y (cI W ⟨T,1,none⟩ a)<|Dm _;refine Xc.setCell ?_ ⟨T,1,none⟩ a λ_=>.inl<|.inr rfl;refine(jS d).grown i λk e j=>?_;have⟨H,C,z⟩:=bS h.own e;exact .inr ⟨H,_,C,_,rfl,z⟩;intro k C f b q;have g:=(d.block k<|bO b).trans b;have t:=bO g;have m:W.heap[k]?=some (.cells C 234 f):=by obtain j|j:=j;exact(i.block k t λc=>q<|j▸c.symm).trans g;exact(j.block k t S8).trans g
 have r:k≠T:=by intro e;subst e;cases h.row▸b
 exact((cI W ⟨T,1,none⟩ a).block k (bO m)<|by simpa using r).trans m;refine⟨cA d.size<|cA i.size (cI W ⟨T,1,none⟩ a).size,A.imp id λe=>⟨_,e,d.size⟩,λk C f b q=>?_⟩;have g:=(d.block k<|bO b).trans b;have m:=(i.block k (bO g) λc=>q c.symm).trans g;have r:k≠T:=by intro e;subst e;cases h.row▸b
 exact((cI W ⟨T,1,none⟩ a).block k (bO m)<|by simpa using r).trans m
def ahA:=@bW.note
def KG{g n T R k K ad l}(c w)(L:aR w g n R k K)(x:bW w T g n ad l)(af:sJ c.pt)(ae:K c.pt=none)(hl:l.length<=100000):Cv 123 #[ptr T,c.v] w λe o=>e=.returned (.tuple #[])/\aR o g n R k (K.put c)/\(∃H,bW o T g n H (l++[⟨c,true⟩])/\Old H w o/\tE w ad o H)/\Xo (BI n k T) (T+1) xB w o:=by
 obtain⟨V,u,rfl⟩:=aS x.own;have A:∀W,aR W g n R k K->Cv 164 #[qo g n,c.v] W λe o=>∃I,e=.returned I/\(I=.tuple #[]/\Xc (lu n k) W o/\aR o g n R k (K.put c)):=λW aq=>(adh c W aq af ae).mono λe o⟨h1,h2⟩=>⟨_,h1,rfl,h2⟩;have au:Hid (∀Q w,(callFunc 164 Q).run Vp w=.ok (.enter 164 Q) w):=λ_ _=>by kernel_rfl
 have O:Hid (∀l:List dB,eV (l++[⟨c,true⟩])=eV l++[.string c.tx,.int .i64 c.idx,.int .i64 c.val,.string c.lock,.int .i64 c.aT,.bool true,.bool true]):=λl=>Ee l _;obtain⟨a,b,h,j,i⟩:=c;unfold ptr;simp[bL.v,qo]at A O|-;have d:=aX w [a,b,h,j,i,aD] 60;have r:=Ba w<|.cells #[a,b,h,j,i,aD] 60;have q:=L.keep r;have m:=x.row.keep r x.row.lt;have t:=aP x.own r;go_enter fA func123,ntmps123;go_wp2;generalize w.alloc _=X at d r q m t|-;have⟨U,Y,π,c3,c4,c5⟩:=d.p6;have t0:=m.r 0;have N:=A X.drew q.drew;clear A;go_cut [] (λwx=>Xc (lu n k) X wx/\aR wx g n R k (K.put ⟨a,b,h,j,i⟩));case first=>
  go_region_law (refine jA 164 rfl _ _ rfl #[.agg #[.slice g n n],.agg #[a,b,h,j,i,aD]] E9 _ N (au.out _ _) ?_;rintro I f⟨rfl,p,z⟩);all_goals go_wp2
  all_goals go_meet
  all_goals exact⟨(xz<|lY _ X).trans p λ_ _ e=>e,z⟩
 case rest=>
  obtain⟨p,z⟩:=hcut;have d:=d.xc p<|q.lU d;have m:=m.xc p<|q.lU m;have t:=PR t q p;have B:=(PQ r).trans<|Wo p λa0 cs a2 ab=>q.uu ab;have J:Xo (BI n k T) (T+1) xB w _:=(jS (S:=lu n k) r).trans p (λ_ _ e=>e)|>.mono (λa0 e=>.inl<|.inl e);clear N q p r L U Y π c3 c4 c5 t0;obtain⟨ak,aa,ah,ai,aj⟩:=info_parts adj;have al:=aX wc.drew [a,b,h,j,i,aD,aD] 234;have am:(wc.drew.alloc<|.cells [.string a,.int .i64 b,.int .i64 h,.string j,.int .i64 i,.bool true,.bool true].toArray 234).ownsRow (T+1) 234 7 (.slice V l u) l (eV l):=pP (Wp t) _;have B1:T+1<=(wc.drew.alloc<|.cells [.string a,.int .i64 b,.int .i64 h,.string j,.int .i64 i,.bool true,.bool true].toArray 234).heap.size:=by rw[cR];have:=m.lt;show _<=(wc:Nat)+1;omega
  have ap:∀ac∈[Value.string a,↑b,↑h,↑j,↑i,↑aD,↑aD],ac.oneCell'=true:=by intro ac P;simp[jO,tH,tI]at P;obtain rfl|rfl|rfl|rfl|rfl|rfl|rfl:=P<;>rfl
  have aw:Hid (∀v f,(wc.drew.alloc<|.cells [.string a,.int .i64 b,.int .i64 h,.string j,.int .i64 i,.bool true,.bool true].toArray 234).grownBy f (Value.slice V l u).ownBlock->f.ownsRow (T+1) 234 7 v (l+1) (eV l++[.string a,.int .i64 b,.int .i64 h,.string j,.int .i64 i,.bool true,.bool true])->(v.ownBlock=(Value.slice V l u).ownBlock\/(wc.drew.alloc<|.cells [.string a,.int .i64 b,.int .i64 h,.string j,.int .i64 i,.bool true,.bool true].toArray 234).grownBy f none)->(v.ownBlock=(Value.slice V l u).ownBlock\/v.ownBlock=some ↑(wc.drew.alloc<|.cells [.string a,.int .i64 b,.int .i64 h,.string j,.int .i64 i,.bool true,.bool true].toArray 234))->Row f T 181 [.slice g n n,.slice V l u]/\aR (f.setCell (T,1) v) g n R k (K.put ⟨a,b,h,j,i⟩)/\bW (f.setCell (T,1) v) T g n v (l++[⟨⟨a,b,h,j,i⟩,true⟩])/\Xo (BI n k T) (T+1) xB w (f.setCell (T,1) v)/\Old v w (f.setCell (T,1) v)/\tE w (.slice V l u) (f.setCell (T,1) v) v):=λv f ax a1 kk ll=>have⟨y,C,D,E,F,G⟩:=ahA (s:=⟨⟨a,b,h,j,i⟩,true⟩) z ⟨m,t⟩ ax a1 kk ll;⟨y,C,D,J.trans E,B.old F,(Hs _ B J.size).trans G⟩
  have⟨U,Y,π,c3,c4,c5⟩:=d.p6;have t1:=m.r 1;have y1:=d.lt;have av:=m.lt;clear z J B O;go_wp2;go_region_law (refine zG aI.underlying154 aa ah ai aj rfl D9 D9 (T+1) rfl _ _ rfl (.slice V l u) l (eV l) E9 am 1 [a,b,h,j,i,aD,aD] rfl (wc:Nat) 1 E9 al ap O9 hl B1 ?_;intro v f M an l1 k1;obtain⟨ar,ao,ag⟩:=cX M l rfl;subst ag;obtain⟨y,C,D,E,F,G⟩:=aw.out _ _ an M k1 l1;have ay:f.cell? (T,1)=some (.slice V l u):=y.cell 1;have az:=y.frozen 1;have z3:=y.lt);all_goals go_wp2
  all_goals go_end0
  all_goals exact⟨rfl,C,⟨_,D,F,G⟩,E⟩
def adm{G n t s m K v l}(c w)(g:aR w G n s m K)(h:bW w t G n v l)(j:sJ c.pt)(i:K c.pt=none)(o:l.length<=100000):Cv 123 #[ptr t,c.v] w λe W=>e=.returned (.tuple #[])/\aR W G n s m (K.put c)/\(∃a,bW W t G n a (l++[⟨c,true⟩])/\tE w v W a)/\Xo (BI n m t) (t+1) xB w W:=
 (KG c w g h j i o).mono λ_ _⟨H,k,⟨a,b,_,f⟩,d⟩=>⟨H,k,⟨a,b,f⟩,d⟩
def adn(l:List dB):Option bL->List dB
 |none=>l
 |some c=>l++[⟨c,false⟩]
def aR.tB{w G n g s m K t C}(a:aR w G n s m K)(r:Row w g t C)(v V j l b c)(d:t≠192)(f:t≠196):aR (E3 w g v V j l b c) G n s m K:=a.xc (S:=λk=>k=g) ((lY _ w).tB g v V j l b c λ_=>rfl) (a.arr.ne r<|gP d) (λi h=>(a.sh i h).ne r<|gP f) λi h e=>a.Ht h r e.symm
def ahB{w W G n S M K t J l v D A p q r u B}(L:aR W G n S M K)(a:bW W t G n J l)(d:Row W D 60 [A,p,q,r,u,B])(o:Old J w W)(s:tE w v W J)(x:Xo (BI n M t) (t+1) xB w W)(c:w<=D)(V b g h j m):(Row (E3 W D V b g h j m) D 60 [V,b,g,h,j,m])/\Hid (aR (E3 W D V b g h j m) G n S M K)/\Hid (bW (E3 W D V b g h j m) t G n J l)/\Hid (Old J w (E3 W D V b g h j m)/\tE w v (E3 W D V b g h j m) J)/\Hid (Xo (BI n M t) (t+1) xB w<|E3 W D V b g h j m):=by
 have y:=(lY (λk=>k=D) W).tB D V b g h j m λ_=>rfl;have z:=dN.of y λk C f i e=>by subst e;unfold Row at d;cases d▸i
 exact⟨d.tB _ _ _ _ _ _,L.tB d _ _ _ _ _ _ D9 D9,⟨a.row.xc y<|a.row.ne d D9,dA a.own λk C _ _ i=>y.block k (bO i) λe=>by subst e;unfold Row at d;cases d▸i⟩,⟨o.all z,s.trans<|tE.all _ z y.size⟩,Xc.tB x D _ _ _ _ _ _ O9⟩
def Hu{x n j M m K v l}(p w)(bu:aR w x n M m K)(ar:bW w j x n v l)(cj:sJ p)(hl:l.length<=100000):Cv 122 #[ptr j,wA p] w λe w'=>e=.returned (vT<|K p)/\aR w' x n M m (K.take p)/\(∃bf,bW w' j x n bf (adn l<|K p)/\Old bf w w'/\tE w v w' bf)/\Xo (BI n m j) (j+1) xB w w':=by
 obtain⟨O,π,rfl⟩:=aS ar.own;have⟨D,E,F,G,H,I,i⟩:=sB<|K p;have az:∀a1,aR a1 x n M m K->Cv 163 #[qo x n,wA p] a1 λe w'=>∃a2,e=.returned a2/\(a2=.agg #[D,E,F,G,H,.bool I]/\Xc (lu n m) a1 w'/\aR w' x n M m (K.take p)):=λa1 cf=>(YZ p a1 cf cj).mono λe w'⟨h1,h2⟩=>⟨_,h1,i,h2⟩;have b4:Hid (∀ca w,(callFunc 163 ca).run Vp w=.ok (.enter 163 ca) w):=λ_ _=>by kernel_rfl
 rw[i];have i:=aK i;have⟨a,b⟩:=p;unfold ptr;simp[qo,wA]at az|-;have aw:=(aX w [a,b] 48).alloc<|.cells ↑() 60;have d:=aX (w.alloc<|.cells #[a,b] 48) ↑() 60;rw[cR]at d;have ap:Below w w ((w.alloc<|.cells #[a,b] 48).alloc<|.cells ↑() 60):=(B0.alloc L9 _).alloc Z9 _;have A:=bu.keep ap;have q:=ar.row.keep ap ar.row.lt;have an:=aP ar.own ap;have db:=ar.row.lt;go_enter fA func122,ntmps122;go_wp2;generalize(w.alloc _).alloc _=X at aw d ap A q an|-;have⟨c0,y⟩:=aw.p2;have t0:=q.r 0;have y1:=aw.lt;have bg:=q.lt;have b7:=az X.drew A.drew;have bx:aR (X.drew.alloc<|.cells [.string ⟨#[]⟩,.int .i64 0,.int .i64 0,.string ⟨#[]⟩,.int .i64 0,.bool false].toArray 60) x n M m K:=A.drew.keep<|B0.alloc L9 _;have a6:=aX X.drew ↑() 60;have bz:Hid (∀W,Xc (lu n m) (X.drew.alloc<|.cells [.string ⟨#[]⟩,.int .i64 0,.int .i64 0,.string ⟨#[]⟩,.int .i64 0,.bool false].toArray 60) W->Row W ↑X 60 ↑()/\Xc (lu n m) X W):=λW aq=>⟨a6.xc aq<|bx.lU a6,((xz<|lY _ X).alloc _).trans aq λ_ _ e=>e⟩;have bp:Hid (∀W,Xc (lu n m) X.drew W->aR W x n M m (K.take (a,b))->(X:Nat)<=(W:Nat)/\Row (W.alloc<|.cells [.string D,.int .i64 E,.int .i64 F,.string G,.int .i64 H,.bool I].toArray 60) (W:Nat) 60 [D,E,F,G,H,.bool I]/\Xc (lu n m) X (W.alloc<|.cells [.string D,.int .i64 E,.int .i64 F,.string G,.int .i64 H,.bool I].toArray 60)/\aR (W.alloc<|.cells [.string D,.int .i64 E,.int .i64 F,.string G,.int .i64 H,.bool I].toArray 60) x n M m (K.take (a,b))):=λW aq h=>⟨aq.size,aX W _ _,((xz<|lY _ X).trans aq λ_ _ e=>e).alloc _,h.keep<|B0.alloc L9 _⟩;have bq:Hid (∀W,Row W ↑X 60 ↑()->Xc (lu n m) X W->aR W x n M m (K.take (a,b))->(X:Nat)<=(X:Nat)/\Row (E3 W ↑X ↑D ↑E ↑F ↑G ↑H<|.bool I) ↑X 60 [D,E,F,G,H,.bool I]/\Xc (lu n m) X (E3 W ↑X ↑D ↑E ↑F ↑G ↑H<|.bool I)/\aR (E3 W ↑X ↑D ↑E ↑F ↑G ↑H<|.bool I) x n M m (K.take (a,b))):=λW r aq h=>⟨L9,r.tB _ _ _ _ _ _,aq.tB _ _ _ _ _ _ _ O9,h.tB r _ _ _ _ _ _ D9 D9⟩;clear a6 bx;have b8:=az (X.drew.alloc<|.cells ↑() 60) (A.drew.keep<|B0.alloc L9 _);clear az;go_cut [5] (λs wx=>∃a0,s=.pointer (some ⟨a0,0,none⟩)/\(X:Nat)<=a0/\Row wx a0 60 [D,E,F,G,H,.bool I]/\Xc (lu n m) X wx/\aR wx x n M m (K.take (a,b)));case first=>
  go_region_law (first|(refine jA 163 rfl _ _ rfl #[.agg #[.slice x n n],.agg #[a,b]] E9 _ b7 (b4.out _ _) ?_;rintro a2 W⟨rfl,t,ac⟩)|(refine jA 163 rfl _ _ rfl #[.agg #[.slice x n n],.agg #[a,b]] E9 _ b8 (b4.out _ _) ?_;rintro a2 W⟨rfl,t,ac⟩;have⟨RB,ax⟩:=bz.out W t;have aa:=RB.cell 0;have ab:=RB.cell 1;have ae:=RB.cell 2;have af:=RB.cell 3;have ag:=RB.cell 4;have ah:=RB.cell 5;simp[vG,Ad]at aa ab ae af ag ah;have f0:=RB.frozen 0;have f1:=RB.frozen 1;have f2:=RB.frozen 2;have bk:=RB.frozen 3;have bm:=RB.frozen 4;have bo:=RB.frozen 5));all_goals go_wp2
  all_goals go_meet
  all_goals first
   |exact⟨_,rfl,bp.out W t ac⟩
   |exact⟨_,rfl,bq.out W RB ax ac⟩
 case rest=>obtain⟨a0,rfl,cy,am,t,ac⟩:=hcut;have dc:=d.lt;have aw:=aw.xc t<|A.lU aw;have d:=d.xc t<|A.lU d;have q:=q.xc t<|A.lU q;have an:=PR an A t;have av:Xo (BI n m j) (j+1) xB w _:=(jS (S:=lu n m) ap).trans t (λ_ _ e=>e)|>.mono (λk e=>.inl<|.inl e);have a8:=(PQ ap).trans<|Wo t λk cs f C=>A.uu C;have cz:a0≠(w:Nat)+1:=O9;have ay:bW wc j x n (.slice O l π) l:=⟨q,an⟩;clear b7 b8 bz bp bq A t bu c0 y t0 y1 bg ap;cases C:K (a,b)with
  |none=>have i:=i.out;rw[C]at i;simp[vT,Wm,UQ,UR,Ae,UT,UU,UW,Af,vI]at i;obtain⟨rfl,rfl,rfl,rfl,rfl,rfl⟩:=i;have C:=aK C;have⟨k0,k1,k2,U,V,Y⟩:=am.p6;have⟨aa,ab,ae,af,ag,ah⟩:=d.p6;have f0:=d.frozen;have⟨ad,P,Q,R,T⟩:=ahB ac ay d (a8.any _) (Hs _ a8 av.size) av O9 ↑aB ↑aA ↑aA ↑aB ↑aA ↑aF;have⟨ai,aj,e2,e3,ak,ao⟩:=ad.p6;change Hid _ at ad;go_wp2;exact cY (v:=.agg ↑()) (by simp[results,results122];simp[go_sem,ai,aj,e2,e3,ak,ao]) rfl ⟨rfl,P.out,⟨_,C.out▸Q.out,R.out⟩,T.out⟩
  |some c=>
    have⟨y,z,B,J,L⟩:=c;have i:=i.out;rw[C]at i;simp[vT,bL.v,UQ,UR,Ae,UT,UU,UW,Af,vI]at i;obtain⟨rfl,rfl,rfl,rfl,rfl,rfl⟩:=i;have C:=aK C;have⟨c7,b6,cr,cu,cv⟩:=info_parts adj;have bh:=aX wc.drew [y,z,B,J,L,aD,aF] 234;have bj:(wc.drew.alloc<|.cells [.string y,.int .i64 z,.int .i64 B,.string J,.int .i64 L,.bool true,.bool false].toArray 234).ownsRow (j+1) 234 7 (.slice O l π) l (eV l):=pP (Wp an) _;have B1:j+1<=(wc.drew.alloc<|.cells [.string y,.int .i64 z,.int .i64 B,.string J,.int .i64 L,.bool true,.bool false].toArray 234).heap.size:=by rw[cR];have:=q.lt;show _<=(wc:Nat)+1;omega
    have br:∀u∈[Value.string y,↑z,↑B,↑J,↑L,↑aD,↑aF],u.oneCell'=true:=by intro u b9;simp[jO,tH,tI]at b9;obtain rfl|rfl|rfl|rfl|rfl|rfl|rfl:=b9<;>rfl
    have fin:Hid (∀N W,(wc.drew.alloc<|.cells [.string y,.int .i64 z,.int .i64 B,.string J,.int .i64 L,.bool true,.bool false].toArray 234).grownBy W (Value.slice O l π).ownBlock->W.ownsRow (j+1) 234 7 N (l+1) (eV l++[.string y,.int .i64 z,.int .i64 B,.string J,.int .i64 L,.bool true,.bool false])->(N.ownBlock=(Value.slice O l π).ownBlock\/(wc.drew.alloc<|.cells [.string y,.int .i64 z,.int .i64 B,.string J,.int .i64 L,.bool true,.bool false].toArray 234).grownBy W none)->(N.ownBlock=(Value.slice O l π).ownBlock\/N.ownBlock=some ↑(wc.drew.alloc<|.cells [.string y,.int .i64 z,.int .i64 B,.string J,.int .i64 L,.bool true,.bool false].toArray 234))->Row W j 181 [.slice x n n,.slice O l π]/\aR (W.setCell (j,1) N) x n M m (K.take (a,b))/\(∃al,bW (W.setCell (j,1) N) j x n al (l++[⟨⟨y,z,B,J,L⟩,false⟩])/\Old al wc (W.setCell (j,1) N)/\tE wc (.slice O l π) (W.setCell (j,1) N) al)/\Xo (BI n m j) (j+1) xB wc (W.setCell (j,1) N)):=λN W g o kk ll=>have⟨au,ad,bb,bc,cw⟩:=ahA (s:=⟨⟨y,z,B,J,L⟩,false⟩) ac ⟨q,an⟩ g o kk ll;⟨au,ad,⟨_,bb,cw⟩,bc⟩
    have⟨k0,k1,k2,U,V,Y⟩:=am.p6;have t1:=q.r 1;have y1:=am.lt;have bg:=q.lt;go_wp2;go_cut [] (λwx=>aR wx x n M m (K.take (a,b))/\(∃al,bW wx j x n al (l++[⟨⟨y,z,B,J,L⟩,false⟩])/\Old al wc wx/\tE wc (.slice O l π) wx al)/\Xo (BI n m j) (j+1) xB wc wx);case first=>
     go_region_law (refine zG aI.underlying154 b6 cr cu cv rfl D9 D9 (j+1) rfl _ _ rfl (.slice O l π) l (eV l) E9 bj 1 [y,z,B,J,L,aD,aF] rfl (wc:Nat) 1 E9 bh br O9 hl B1 ?_;intro N W b0 cb l1 k1;have⟨da,c8,cm⟩:=cX b0 l rfl;subst cm;have⟨au,ad,bb,bc⟩:=fin.out _ _ cb b0 k1 l1;have dd:W.cell? (j,1)=some (.slice O l π):=au.cell 1;have de:=au.frozen 1;have z3:=au.lt);all_goals go_wp2
     all_goals go_meet
     all_goals exact⟨ad,bb,bc⟩
    case rest=>have⟨cd,⟨al,a7,ba,bd⟩,ax⟩:=hcut;have ba:=a8.old ba;have bd:=(Hs _ a8 av.size).trans bd;have d:=d.xo ax (λc=>by obtain c|c:=c;exact ac.lU d c;exact d.ne q D9 c) (.inr<|by unfold xB;decide);have am:=am.xo ax (λc=>by obtain c|c:=c;exact ac.lU am c;exact am.ne q D9 c) (.inr<|by unfold xB;decide);have cx:=rz av ax;clear ax av fin bh bj B1 br k0 k1 k2 U V Y t1 y1 bg ay q an ac b6;have⟨k0,k1,k2,U,V,Y⟩:=am.p6;have⟨aa,ab,ae,af,ag,ah⟩:=d.p6;have f0:=d.frozen;have⟨ad,P,Q,R,T⟩:=ahB cd a7 d ba bd cx O9 ↑y ↑z ↑B ↑J ↑L ↑aD;have⟨ai,aj,e2,e3,ak,ao⟩:=ad.p6;change Hid _ at ad;go_wp2;exact cY (v:=.agg #[y,z,B,J,L,aD]) (by simp[results,results122];simp[go_sem,ai,aj,e2,e3,ak,ao]) rfl ⟨rfl,P.out,⟨_,C.out▸Q.out,R.out⟩,T.out⟩
def Y3{G n t s m K v l}(p w)(f:aR w G n s m K)(g:bW w t G n v l)(h:sJ p)(j:l.length<=100000):Cv 122 #[ptr t,wA p] w λe W=>e=.returned (vT<|K p)/\aR W G n s m (K.take p)/\(∃a,bW W t G n a (adn l<|K p)/\tE w v W a)/\Xo (BI n m t) (t+1) xB w W:=
 (Hu p w f g h j).mono λ_ _⟨H,i,⟨a,b,_,d⟩,c⟩=>⟨H,i,⟨a,b,d⟩,c⟩
open Go.Shelf Go.Seq
section
attribute [local go_sem] Oper.semAt_some
def dB.v(s:dB):Value:=.agg #[.string s.km.tx,.int .i64 s.km.idx,.int .i64 s.km.val,.string s.km.lock,.int .i64 s.km.aT,true,s.EG]
structure C7(W:World)(g i:Nat)(s:dB):Prop where
 c0:W.cell? ⟨g,i*7,none⟩=some (.string s.km.tx)
 c1:W.cell? ⟨g,i*7+1,none⟩=some (.int .i64 s.km.idx)
 c2:W.cell? ⟨g,i*7+2,none⟩=some (.int .i64 s.km.val)
 c3:W.cell? ⟨g,i*7+3,none⟩=some (.string s.km.lock)
 c4:W.cell? ⟨g,i*7+4,none⟩=some (.int .i64 s.km.aT)
 c5:W.cell? ⟨g,i*7+5,none⟩=some (.bool true)
 c6:W.cell? ⟨g,i*7+6,none⟩=some (.bool s.EG)
def Qa(N:Nat)(s:Nat->dB)(k:Nat):Array Value:=#[.int .i64 ((N -1 -k:Nat):Int),(s<|N -1 -k).v]
def akc(B g N c:Nat)(s:Nat->dB)(W:World):Prop:=W.cell? ⟨B,0,none⟩=some (.slice (some ⟨g,0,none⟩) N c)/\∀i,i<N->C7 W g i (s i)
def adA(b g N c)(S:Nat->dB)(hN:N<=100000):OJ Fence.wide 2 Vp 162 #[(b,0)] (Qa N S) N (akc b g N c S):=by
 intro l n W A h s H;have x:1<=2:=O9;show CallsIn Fence.wide 2 Vp 162 #[.func (.yield l) #[] #[],.pointer b] W _;refine callsIn_of_wp (fA func162) rfl trivial ?_ rfl;simp[ntmps162,I9,cQ,pN,Nat.reduceAdd,Nat.reduceSub,UY,UZ,U0,Nv,yC,vK];have y:=(h 0 W H).1;gi_wp2;gi_loopw [3] (λp wr=>∃k,k<=N/\p=↑((N:Int) -1 -(k:Int))/\n k wr) (λp _=>(intOf p+1).toNat);case atStart=>exact⟨0,O9,S8,H⟩
 case round=>
  obtain⟨k,B,rfl,d⟩:=hrel;by_cases u:k<N
  .have⟨i,v⟩:∃i,N=i+k+1:=⟨N -k -1,O9⟩;have a:(N:Int) -1 -(k:Int)=i:=O9;have f:N -1 -k=i:=O9;have⟨z,j⟩:=h k wr d;have⟨G,I,J,K,L,M,O⟩:=j i O9;have⟨P,T,E,F,m,r⟩:=s k wr d u;unfold Qa dB.v at m;rw[f]at m;rw[a];have D:(i:Int)<N:=O9;have o:=aK<|show(i:Int) -1=(N:Int) -1 -((k+1:Nat):Int)from by omega
   clear a f v j;gi_wp2;refine r.mono ?_;rintro e w⟨rfl,q⟩;gi_wp2;go_roundw;exact⟨k+1,O9,by rw[<-o.out],q⟩;simp[intOf]
  have t:k=N:=O9;subst t;have a:(k:Int) -1 -(k:Int)=-1:=O9;rw[a];gi_wp2;go_end0;exact⟨⟨_,rfl⟩,d⟩
def Zh(a c d)(E:Nat->Array Value):OJ Fence.wide 2 Vp 162 #[.pointer<|some ⟨a,0,none⟩] E 0 (λW=>W.cell? (a,0)=some (.slice d 0 c)):=by
 intro l e W h b f H;have g:=b 0 W H;refine callsIn_wide.2 ?_;go_enter fA func162,ntmps162;go_wp2;go_loopw [3] (λp w=>p=.int .i64 (-1)/\w=W) (λ_ _=>0);exact⟨rfl,rfl⟩;case round=>go_wp2;go_end0;exact⟨⟨_,rfl⟩,H⟩
def Tx(a c d)(E:Nat->Array Value):OJ Fence.wide 2 Vp 126 #[.pointer<|some ⟨a,0,none⟩] E 0 (λW=>W.cell? (a,0)=some (.slice d 0 c)):=by
 intro l e W h b f H;have g:=b 0 W H;refine callsIn_wide.2 ?_;go_enter fA func126,ntmps126;go_wp2;go_loopw [3] (λp w=>p=.int .i64 (-1)/\w=W) (λ_ _=>0);exact⟨rfl,rfl⟩;case round=>go_wp2;go_end0;exact⟨⟨_,rfl⟩,H⟩
def ML(v)(b:∃a n c,v=.slice a n c)(w):Cv 121 #[v] w λe W=>e=.returned (.func (.func 162) #[] #[.pointer (w:Nat)])/\W=w.alloc (.cells #[v] 154):=by
 obtain⟨a,n,c,rfl⟩:=b;go_enter fA func121,ntmps121;go_wp2;go_ret;exact⟨rfl,rfl⟩
def I1(a n c w):Cv 84 #[.slice a n c] w λe W=>e=.returned (.func (.func 126) #[] #[.pointer (w:Nat)])/\W=w.alloc (.cells #[.slice a n c] 122):=by
 go_enter fA func84,ntmps84;go_wp2;go_ret;exact⟨rfl,rfl⟩
end
def PT(o):∃s a b l h,vT o=.agg #[.string s,.int .i64 a,.int .i64 b,.string l,.int .i64 h,o.isSome]:=by obtain _|c:=o;exact⟨_,_,_,_,_,rfl⟩;exact⟨_,_,_,_,_,rfl⟩
def Y4{K id}{k:Nat}(a:k<8)(h:(K (id,(k:Int))).isSome=true):anyM K id=true:=by unfold anyM;rw[Jk];exact⟨k,wB.2 a,h⟩
def Tn{K id}(h:∀k:Nat,k<8->(K (id,(k:Int))).isSome=false):anyM K id=false:=by unfold anyM;rw[aap];intro k a;rw[h k<|wB.1 a];simp
def Y5{K id}(h:anyM K id=false)(k:Nat)(a:k<8):K (id,(k:Int))=none:=by unfold anyM at h;rw[aap]at h;have:=h k<|wB.2 a;simpa using this
def Tp(w b c d e f a):(Instr.field 60 (.agg #[b,c,d,e,f,a]) 4).run Vp w=.ok a w:=by simp[Instr.field,part,asAgg]
def Y6{I n S M K}(id w)(b:aR w I n S M K)(v:id.size<=1000000):Cv 216 #[qo I n,.string id] w λe J=>e=.returned (anyM K id)/\Below w w J:=by
 have g:=Ba w<|.cells #[(I,n,n)] 125;have c:=aX w [(I,n,n)] 125;have m:=λ(W:World)(k:Nat)(y:k<8)(h:aR W I n S M K)=>Kb (id,(k:Int)) W h ⟨cA v (by decide),by show _<=(k:Int);omega,by show(k:Int)<_;omega⟩;have b:=b.keep g;unfold qo;go_enter fA func216,ntmps216;go_wp2;generalize w.alloc _=X at g c b|-;go_loopw [6] (λi wr=>∃k:Nat,k<=8/\i=k/\(∀j,j<k->(K (id,(j:Int))).isSome=false)/\Below w w wr/\Below X X wr) (λi _=>8 -(intOf i).toNat);exact⟨0,O9,rfl,λj x=>by omega,g,B0⟩;case round=>
  obtain⟨k,y,rfl,d,l,f⟩:=hrel;have N:=(c.keep f c.lt).r 0;by_cases r:k<8
  .have A:=m wr k r (b.keep f);clear m;go_wp2;refine A.m1 λL p=>?_;have⟨B,C,D,E,F,u⟩:=PT<|K (id,(k:Int));rw[u];have H:=Tp L B C D E F;have q:=l.trans<|p.mono l.size;cases o:(K (id,(k:Int))).isSome with
   |true=>have a:=Y4 r o;clear o;go_wp2;go_ret;exact⟨by rw[(aK a).out];rfl,q⟩
   |false=>
     have s:Hid (∀j,j<k+1->(K (id,(j:Int))).isSome=false):=λj x=>by by_cases e:j=k;simp_all;exact(aK d).out j O9
     clear o;go_wp2;go_roundw;exact⟨k+1,O9,by go_num,s.out,q,(f.trans<|p.mono f.size)⟩;simp[intOf];omega
  have z:k=8:=O9;subst z;have a:=Tn d;clear d m;go_wp2;go_ret;exact⟨by rw[(aK a).out];rfl,l⟩
def Ef(l o):cW (l++[o])=cW l+o.val:=by induction l with
 |nil=>simp[cW]
 |cons x l a=>simp[cW];omega
def lV(l)(h:∀o∈l,o.Small):0<=cW l/\cW l<=l*4294967295:=by induction l with
 |nil=>simp[cW]
 |cons o l c=>
   have d:=c λx b=>h x<|by simp[b]
   have a:=h o S8;have:=a.1;have:=a.2.2;simp[cW];omega
def KH(v l w)(h:mg w v l)(C:l.length<=1000)(j:∀o∈l,o.Small):Cv 202 #[v] w λe W=>e=.returned (cW l)/\Below w w W:=by
 obtain⟨⟨a,c,rfl,q⟩,_⟩:=h;go_enter fA func202,ntmps202;go_wp2;go_loopw [3,8] (λs i H=>∃k,k<=l.length/\i=k/\s=(cW<|l.take k)/\Below w w H) (λ_ i _=>l -(intOf i).toNat);exact⟨0,O9,rfl,rfl,B0⟩;case round=>
  obtain⟨k,B,rfl,rfl,d⟩:=hrel;by_cases b:k<l
  .obtain⟨g,o,rfl,u⟩:=q (by intro e;rw[e]at b;simp at b);have p:=(u k l[k]<|aY b).keep d;have f:=j l[k]<|oD b;have n:l.take (k+1)=l.take k++[l[k]]:=by rw[rN b]
   have A:=lV (l.take k) λo t=>j o<|UX t;have I:(l.take k).length<=1000:=by rw[dJ];omega
   have m:Hid (cW (l.take<|k+1)=cW (l.take k)+(l[k]).val):=by unfold Hid;rw[n,Ef]
   generalize l[k]=x at p f m n;have⟨G,F⟩:=x;have⟨D,E⟩:=p;have y:=f.1;have z:=f.2.2;simp only at y z;go_wp2;go_roundw;exact⟨k+1,O9,by go_num,by rw[m.out],d.alloc d.size _⟩;simp[intOf];omega
  have r:k=l:=O9;subst r;rw[gQ];go_wp2;go_ret;exact⟨rfl,d⟩
structure Rd{α:Type}(f:RS->α×RS)(P:α->Prop)(enc:α->List UInt8):Prop where
 nQ:∀r,(f r).2.bad=false->r.bad=false/\P (f r).1/\r.l=enc (f r).1++(f r).2.l
 back:∀x rest,P x->f ⟨enc x++rest,false⟩=(x,⟨rest,false⟩)
def px(x a)(h:x=(a.toNat:Int)):byteOf x=a:=by subst h;apply UInt8.toNat_inj.1;have:=fV (a.toNat:Int) O9 (by have:=a.toNat_lt;omega);omega
theorem acE(t k)(h:k=1\/k=2\/k=4)(e:t.length=k):be (dV t) k=t:=by
 obtain rfl|rfl|rfl:=h;match t,e with
 |[a],_=>have f:=a.toNat_lt;simp[be,dV];congr 1;exact px _ _ O9
 match t,e with
 |[a,b],_=>have f:=a.toNat_lt;have g:=b.toNat_lt;simp only[be,dV,List.foldl];rw[px _ a O9,px _ b O9]
 match t,e with
 |[a,b,c,d],_=>have f:=a.toNat_lt;have g:=b.toNat_lt;have i:=c.toNat_lt;have j:=d.toNat_lt;simp only[be,dV,List.foldl];rw[px _ a O9,px _ b O9,px _ c O9,px _ d O9]
def Pj(n k)(a:k=1\/k=2\/k=4)(h:0<=n)(b:n<256^k):dV (be n k)=n:=by obtain rfl|rfl|rfl:=a;simp[be,dV];rw[fV _ O9 O9];omega;simp[be,dV];rw[fV _ O9 O9,fV _ O9 O9];omega;simp[be,dV];rw[fV _ O9 O9,fV _ O9 O9,fV _ O9 O9,fV _ O9 O9];omega
def xU(n):Rd (λr=>r.take n) (λt:List UInt8=>t=n) (λt=>t):=by refine⟨λr h=>?_,λt R c=>?_⟩;grind [RS.take,pR];grind [RS.take]
def uZ(k l H)(c:k=1\/k=2\/k=4)(d:0<=l)(j:H<256^k):Rd (λr=>r.number k l H) (λn:Int=>l<=n/\n<=H) (λn=>be n k):=by
 refine⟨λr h=>?_,λn R i=>?_⟩;have b:=(xU k).nQ r;simp[RS.number]at h|-;generalize r.take k=t at h b|-;cases a:pV (dV t.1) l H;cases a▸h;grind [pV,acE];have b:=(xU k).back (be n k) R<|bI n k;have a:pV n l H=true:=by grind [pV]
 simp only[RS.number,b,Pj n k c O9 O9,a];rfl
def VT:Rd (λr=>r.code) (λt:List UInt8=>t.length<=32) (λt=>be t 1++t):=by have a:=uZ 1 0 32 (.inl rfl) O9 D9;refine⟨λr h=>?_,λt R g=>?_⟩;simp only[RS.code]at h|-;have⟨b,c,d⟩:=(xU (r.number 1 0 32).1.toNat).nQ _ h;have⟨F,f2,f⟩:=a.nQ r b;refine⟨F,O9,?_⟩;rw[f,d,c,show(((r.number 1 0 32).1.toNat:Nat):Int)=(r.number 1 0 32).1 from by omega,dP];simp[RS.code,(a.back (t:Int) (t++R) O9)];exact(xU t).back t R rfl
theorem EX(l):gL (mk l)=l:=by simp[gL,mk]
theorem Mm(x:jB):x.fits=true↔(gL x.tx).length=8/\(0<=x.idx/\x.idx<=255)/\(gL x.key).length<=32:=by simp[jB.fits,Br,pV,dF];omega
theorem GV(x:dD):x.fits=true↔(0<=x.val/\x.val<=4294967295)/\(gL x.lock).length<=32:=by simp[dD.fits,xg,pV,dF];omega
def ajU:Rd zz (λx=>x.fits=true) jB.bytes:=by
 have a:=xU 8;have c:=uZ 1 0 255 (.inl rfl) O9 D9;have b:=VT;refine⟨λr h=>?_,λx R l=>?_⟩;grind [zz,Mm,EX,jB.bytes,cD,b.nQ,c.nQ,a.nQ];have⟨m,n,o⟩:=(Mm x).1 l;have g:x.bytes++R=gL x.tx++(be x.idx 1++(be (gL x.key) 1++gL x.key++R)):=by simp[jB.bytes,dF]
 rw[g];simp only[zz,(a.back (gL x.tx) (be x.idx 1++(be (gL x.key) 1++gL x.key++R)) m),(c.back x.idx (be (gL x.key) 1++gL x.key++R) n),(b.back (gL x.key) R o)];rfl
def ait:Rd sj (λx=>x.fits=true) dD.bytes:=by
 have b:=uZ 4 0 4294967295 (.inr<|.inr rfl) O9 D9;have a:=VT;refine⟨λr h=>?_,λx R f=>?_⟩;grind [sj,GV,EX,dD.bytes,cD,a.nQ,b.nQ];have⟨g,i⟩:=(GV x).1 f;have c:x.bytes++R=be x.val 4++(be (gL x.lock) 1++gL x.lock++R):=by simp[dD.bytes,dF]
 rw[c];simp only[sj,(b.back x.val (be (gL x.lock) 1++gL x.lock++R) g),(a.back (gL x.lock) R i)];rfl
def Mn{w}{f:Nat->RS->w×RS}{F:Nat->RS->List w×RS}(H:∀r,F 0 r=([],r))(q:∀n r,F (n+1) r=((F n r).1++[(f n (F n r).2).1],(f n (F n r).2).2)){P:Nat->w->Prop}{E}(p:∀n,Rd (f n) (P n) E)(n):Rd (F n) (λl=>l=n/\∀i x,l[i]?=some x->P i x) (λl=>l.flatMap E):=by
 induction n with
 |zero=>refine⟨λr h=>?_,λl R a=>?_⟩;simp_all;simp_all
 |succ n s=>
   refine⟨λr h=>?_,λl R a=>?_⟩;rw[q]at h|-;have⟨z,C,D⟩:=(p n).nQ _ h;have⟨t,⟨d,B⟩,A⟩:=s.nQ r z;refine⟨t,⟨by simp[cB,d,Nt],λi x b=>?_⟩,?_⟩;grind;simp_all;have g:l≠[]:=by intro e;rw[e]at a;exact absurd a.1 S8
   have c:=ag4 g;have o:l.dropLast=n:=by rw[List.length_dropLast,a.1];rfl
   have j:P n (l.getLast g):=a.2 n _ (by rw[ag5,aY<|by rw[a.1];omega];simp[a.1,Nk]);have k:=λi x(b:l.dropLast[i]?=some x)=>a.2 i x<|c▸vd b;generalize l.dropLast=m at c o k;generalize l.getLast g=y at c j;subst c;simp[UG,ag6,dP];rw[q,(s.back m (E y++R) ⟨o,k⟩),((p n).back y R j)]
def acF(n):Rd (lq n) (λl=>l=n/\∀(i:Nat)x,l[i]?=some x->x.fits=true) (λl=>l.flatMap jB.bytes):=Mn (f:=λ_=>zz) (F:=lq) (P:=λ_ x=>x.fits=true) (λ_=>rfl) (λ_ _=>rfl) (λ_=>ajU) n
def VU(n):Rd (jK n) (λl=>l=n/\∀(i:Nat)x,l[i]?=some x->x.fits=true) (λl=>l.flatMap dD.bytes):=Mn (f:=λ_=>sj) (F:=jK) (P:=λ_ x=>x.fits=true) (λ_=>rfl) (λ_ _=>rfl) (λ_=>ait) n
def VV{a:Type}(p:a->Bool)(l:List a):l.all p=true↔∀(i:Nat)x,l[i]?=some x->p x=true:=by grind [List.getElem?_of_mem]
def EY(t:Iz)(first):gM t.tag t.ins t.outs first=true↔(0<=t.tag/\t.tag<=65535)/\(SD first<=t.ins/\(t.ins:Int)<=M6 first)/\(1<=(t.outs:Int)/\(t.outs:Int)<=8)/\(∀(i:Nat)x,t.ins[i]?=some x->x.fits=true)/\(∀(i:Nat)x,t.outs[i]?=some x->x.fits=true):=by simp only[gM,fx,VV,pV,vH];exact⟨λ⟨⟨⟨⟨a,b⟩,c⟩,d⟩,e⟩=>⟨a,b,c,d,e⟩,λ⟨a,b,c,d,e⟩=>⟨⟨⟨⟨a,b⟩,c⟩,d⟩,e⟩⟩
def acG(b):0<=SD b:=by cases b<;>decide
def acH(b):M6 b<=8:=by cases b<;>decide
def rI(t:Iz):List UInt8:=fW t.tag t.ins t.outs
def ajV(first):Rd (λr=>CP r first) (λt=>gM t.tag t.ins t.outs first=true) rI:=by have j:=uZ 2 0 65535 (.inr<|.inl rfl) O9 D9;have l:=uZ 1 (SD first) (M6 first) (.inl rfl) (acG _) (by have:=acH first;omega);have k:=uZ 1 1 8 (.inl rfl) O9 D9;refine⟨λr h=>?_,λt R y=>?_⟩;simp[CP]at h|-;have A:=j.nQ r;generalize r.number 2 0 65535=a at h A|-;have B:=l.nQ a.2;generalize a.2.number 1 (SD first) (M6 first)=b at h B|-;have C:=(acF b.1.toNat).nQ b.2;generalize lq b.1.toNat b.2=c at h C|-;have D:=k.nQ c.2;generalize c.2.number 1 1 8=d at h D|-;have E:=(VU d.1.toNat).nQ d.2;generalize jK d.1.toNat d.2=e at h E|-;have⟨q,⟨s,v⟩,u⟩:=E h;have⟨o,J,p⟩:=D q;have⟨N,⟨O,Q⟩,P⟩:=C o;have⟨L,S,M⟩:=B N;have⟨f,g,i⟩:=A L;have K:=acG first;have w:((b.1.toNat:Nat):Int)=b.1:=O9;have x:((d.1.toNat:Nat):Int)=d.1:=O9;refine⟨f,(EY ⟨a.1,c.1,e.1⟩ first).2 ⟨g,?_,?_,Q,v⟩,?_⟩;simp_all;simp_all;show r.l=fW a.1 c.1 e.1++e.2.l;rw[fW,O,s,w,x,i,M,P,p,u];simp[dP];have⟨z,F,G,H,I⟩:=(EY t first).1 y;simp[rI,fW,dP,CP,(j.back t.tag (be t.ins 1++(t.ins.flatMap jB.bytes++(be t.outs 1++(t.outs.flatMap dD.bytes++R)))) z),(l.back (t.ins:Int) (t.ins.flatMap jB.bytes++(be t.outs 1++(t.outs.flatMap dD.bytes++R))) F),oq,((acF t.ins).back t.ins (be t.outs 1++(t.outs.flatMap dD.bytes++R)) ⟨rfl,H⟩),(k.back (t.outs:Int) (t.outs.flatMap dD.bytes++R) G),((VU t.outs).back t.outs R ⟨rfl,I⟩)]
def acI(n):Rd (nj n) (λl=>l=n/\∀(i:Nat)t,l[i]?=some t->gM t.tag t.ins t.outs ((i:Int)==0)=true) (λl=>l.flatMap rI):=Mn (f:=λi r=>CP r<|(i:Int)==0) (F:=nj) (P:=λi t=>gM t.tag t.ins t.outs ((i:Int)==0)=true) (λ_=>rfl) (λ_ _=>rfl) (λi=>ajV<|(i:Int)==0) n
def iC(b):rf b=true↔b.parent.length=8/\(0<=b.bits/\b.bits<=8)/\(0<=b.fX/\b.fX<=65535)/\(1<=(b.eO:Int)/\(b.eO:Int)<=8)/\∀(i:Nat)t,b.eO[i]?=some t->gM t.tag t.ins t.outs ((i:Int)==0)=true:=by
 have e:(b.eO.map Iz.d).zipIdx.all (λp=>p.1.fits<|(p.2:Int)==0)=true↔∀(i:Nat)t,b.eO[i]?=some t->gM t.tag t.ins t.outs ((i:Int)==0)=true:=by rw[VV];refine⟨λh i t g=>?_,λh i p f=>?_⟩;exact h i (t.d,i) (by rw[List.getElem?_zipIdx,eG,g];simp);rw[List.getElem?_zipIdx,eG]at f;rcases g:b.eO[i]? with _|t;rw[g]at f;simp at f;rw[g]at f;simp at f;subst f;exact h i t g
 simp[rf,dI,e,pV,cD];exact⟨λ⟨⟨⟨⟨a,b⟩,c⟩,d⟩,e⟩=>⟨O9,b,c,d,e⟩,λ⟨a,b,c,d,e⟩=>⟨⟨⟨⟨O9,b⟩,c⟩,d⟩,e⟩⟩
def xh(b):rh b=b.parent++(be b.bits 1++(be b.fX 2++(be b.eO 1++b.eO.flatMap rI))):=by
 have e:(b.eO.map Iz.d).flatMap ku.bytes=b.eO.flatMap rI:=by rw[UH];rfl
 simp[rh,fP,e,EX]
def GW:Rd iL (λb=>rf b=true) rh:=by have e:=xU 8;have f:=uZ 1 0 8 (.inl rfl) O9 D9;have g:=uZ 2 0 65535 (.inr<|.inl rfl) O9 D9;have i:=uZ 1 1 8 (.inl rfl) O9 D9;refine⟨λr h=>?_,λb R s=>?_⟩;simp[iL]at h|-;have⟨n,⟨o,q⟩,p⟩:=(acI _).nQ _ h;have⟨l,y,m⟩:=i.nQ _ n;have⟨C,D,E⟩:=g.nQ _ l;have⟨B,z,A⟩:=f.nQ _ C;have⟨a,c,d⟩:=e.nQ _ B;refine⟨a,(iC _).2 ⟨c,z,D,?_,q⟩,?_⟩;grind;rw[xh];simp only[o];rw[UI O9,d,A,E,m,p];simp;have⟨t,u,v,w,x⟩:=(iC b).1 s;simp only[xh,dP,iL,(e.back b.parent (be b.bits 1++(be b.fX 2++(be b.eO 1++(b.eO.flatMap rI++R)))) t),(f.back b.bits (be b.fX 2++(be b.eO 1++(b.eO.flatMap rI++R))) u),(g.back b.fX (be b.eO 1++(b.eO.flatMap rI++R)) v),(i.back (b.eO:Int) (b.eO.flatMap rI++R) w),oq,((acI b.eO).back b.eO R ⟨rfl,x⟩)]
def kI{s b}(h:iE s=some b):rf b=true/\rh b=s:=by rw[iE]at h;split at h;cases h;rename_i a;simp[Jc,not_or,aaw,Bool.not_eq_false',List.isEmpty_iff]at a;have⟨_,d,c⟩:=GW.nQ ⟨s,false⟩ a.1;rw[a.2,kY]at c;cases h;exact⟨d,c.symm⟩
def VZ{s b}(h:iE s=some b):s.length<=6000:=by have⟨c,e⟩:=kI h;have a:=xk<|show dI (mk b.parent) b.bits b.fX (b.eO.map Iz.d)=true from c;have j:=uh ku.bytes 636 (b.eO.map Iz.d) λx f=>x.jX<|a.t x f;have g:=a.p;have i:=a.l;rw[<-e];simp only[rh,fP,cB,bI,dF];omega
def vU(s:List UInt8):ByteArray:=match iE s with|none=>⟨#[]⟩|some _=>mk<|be (hN (98::s)) 8
def dE(s:List UInt8):Int:=match iE s with|none=>1|some _=>0
def Bv{s}(h:iE s=none):vU s=⟨#[]⟩/\dE s=1:=by unfold vU dE;rw[h];exact⟨rfl,rfl⟩
def xq{s b}(h:iE s=some b):vU s=mk (be (hN (98::s)) 8)/\dE s=0:=by unfold vU dE;rw[h];exact⟨rfl,rfl⟩
def Mp(s w):Cv 66 #[(mk s)] w λe W=>e=.returned (.tuple #[(vU s),(dE s)])/\Below w w W:=by
 go_enter fA func66,ntmps66;go_wp2;refine(xt s _).mono ?_;rintro e m⟨c,⟨a,rfl⟩|⟨b,v,G,g,a,rfl,i⟩⟩;.unfold eU;go_wp2;go_ret2;exact⟨by rw[(Bv a).1,(Bv a).2];rfl,c.alloc c.size _⟩
 have j:=VZ a;have l:=cD s;obtain⟨k,_⟩:=i;go_wp2;have d:=c.alloc c.size<|.cells #[(mk b.parent),b.bits,b.fX,.slice G g g] 93;refine(Bu (98::s) _<|by simp;omega).m1 λn h=>?_;generalize f:mk (be (hN (98::s)) 8)=q;go_wp2;go_ret2;exact⟨by rw[(xq a).1,(xq a).2,(aK f).out];rfl,(mD d L9 h)⟩
def jB.bare(x:jB):jB:=⟨x.tx,x.idx,⟨#[]⟩⟩
def Pr(T d f b a c o w)(π:uk w (d,b,f) b)(G:b.length<=1000):Cv 154 #[.agg #[.int .i64 T,.slice d b f,.slice a c o]] w λe S=>∃g,e=.returned (.agg #[T,.slice (some ⟨g,0,none⟩) b b,.slice a c o])/\w<=g/\Row S g 139 (og<|b.map jB.bare)/\Below w w S:=by
 have ac:=acQ b G;go_enter fA func154,ntmps154;go_wp2;have l:Row (((w.alloc<|.cells #[T,.slice d b f,.slice a c o] 90).alloc<|.cells #[aA,(),()] 90).alloc<|.cells (V2 b).toArray 139) w 90 [T,.slice d b f,.slice a c o]:=((aX w [T,.slice d b f,.slice a c o] 90).alloc _).alloc _
 have j:Row (((w.alloc<|.cells #[T,.slice d b f,.slice a c o] 90).alloc<|.cells #[aA,(),()] 90).alloc<|.cells (V2 b).toArray 139) ((w:Nat)+1) 90 [aA,(),()]:=by have:=(aX (w.alloc<|.cells #[T,.slice d b f,.slice a c o] 90) [aA,(),()] 90).alloc<|.cells (V2 b).toArray 139;rw[cR]at this;exact this
 have RI:Row (((w.alloc<|.cells #[T,.slice d b f,.slice a c o] 90).alloc<|.cells #[aA,(),()] 90).alloc<|.cells (V2 b).toArray 139) ((w:Nat)+1+1) 139 (V2 b):=by have:=aX ((w.alloc<|.cells #[T,.slice d b f,.slice a c o] 90).alloc<|.cells #[aA,(),()] 90) (V2 b) 139;rw[cR,cR]at this;exact this
 have m:Below w w (((w.alloc<|.cells #[T,.slice d b f,.slice a c o] 90).alloc<|.cells #[aA,(),()] 90).alloc<|.cells (V2 b).toArray 139):=((B0.alloc L9 _).alloc S8 _).alloc (by simp;omega) _
 generalize((w.alloc _).alloc _).alloc _=ah at l j RI m|-;generalize N:(w:Nat)+1=Q at j RI|-;generalize O:Q+1=g at RI|-;go_loopw [13] (λi W=>∃k R,k<=b.length/\i=k/\Row W g 139 (og ((b.take k).map jB.bare)++R)/\R.length=(b.length -k)*3/\Row W w 90 [T,.slice d b.length f,.slice a c o]/\Row W Q 90 [aA,(),()]/\Below w w W) (λi _=>b.length -(intOf i).toNat);exact⟨0,V2 b.length,cH _,rfl,RI,by rw[V3];rfl,l,j,m⟩;case round=>
  obtain⟨k,R,P,rfl,RI,n,l,j,m⟩:=hrel;have n:=aK n;by_cases q:k<b.length
  .have⟨⟨a',M,I,C⟩,_⟩:=π.keep m;cases I;obtain⟨ak,al,rfl,D⟩:=C (by intro h;simp[h]at q);have⟨U,V,X⟩:=D k _<|aY q;have r:Hid ((b.take<|k+1).map jB.bare=(b.take k).map jB.bare++[⟨b[k].tx,b[k].idx,⟨#[]⟩⟩]):=by unfold Hid;rw[List.take_succ_eq_append_getElem q,List.map_append];rfl
   have p:Hid (((b.take k).map jB.bare).length=k):=by unfold Hid;simp;omega
   generalize b[k]=x at U V X r;generalize(b.take k).map jB.bare=J at RI r p;have⟨⟨ad,ag⟩,⟨ae,ai⟩,⟨af,aj⟩,Y,f1,f2⟩:=RI.three (k*3) (by have:=n.out;have:=p.out;rw[cB,sw];omega);have E:=RI.lt;go_wp2;have u:=((l.bF (g,k*3) x.tx<|by show(w:Nat)≠g;omega).bF (g,k*3+1) x.idx<|by show(w:Nat)≠g;omega).bF (g,k*3+2) ↑aB (by show(w:Nat)≠g;omega);have y:=((j.bF (g,k*3) x.tx<|by show Q≠g;omega).bF (g,k*3+1) x.idx<|by show Q≠g;omega).bF (g,k*3+2) ↑aB (by show Q≠g;omega);have s:=((RI.set (k*3) x.tx).set (k*3+1) x.idx).set (k*3+2) ↑aB;rw[CR _ _ _ _ _ _ (by rw[sw,p.out]) (by have:=n.out;omega),<-CS J ⟨x.tx,x.idx,⟨#[]⟩⟩]at s;have t:=G5 m g (k*3) (k*3+1) (k*3+2) x.tx x.idx ↑aB O9;go_roundw;exact⟨k+1,R.drop 3,O9,by go_num,r.out▸s.alloc _,by rw[rM,n.out];omega,u.alloc _,y.alloc _,t.alloc t.size _⟩;simp[intOf];omega
  have F:k=b.length:=O9;have H:=lW (by rw[n.out];omega);subst H;rw[kY,F,gQ]at RI;have K:=l.cell 0;have L:=l.r 2;have z:=j.r 0;have A:=j.cell 1;have B:=j.cell 2;have Y:=j.frozen;go_wp2;refine cY (v:=.agg #[T,.slice g b.length b.length,.slice a c o]) (by simp[results,results154,go_sem,z,A,B]) rfl ⟨g,rfl,O9,?_,?_⟩;.refine((RI.bF _ _ ?_).bF _ _ ?_).bF _ _ ?_;all_goals(show g≠Q;omega)
  exact G5 m Q 0 1 2 _ _ _ O9
def SS{x:jB}(h:x.Small):x.bare.Small:=⟨h.1,h.2.1,cH _,h.2.2.2⟩
def SU(t i o):fW t (i.map jB.bare) o=kJ true t i o:=by simp[fW,kJ,UH];rfl
def wj(t:Int)(i:List jB)(o:List dD):ByteArray:=mk<|be (hN (116::kJ true t i o)) 8
def Bw(B t i o)(f:i.length<=8)(g:o.length<=8)(b:∀x∈i,x.Small)(c:∀x∈o,x.Small):(kJ B t i o).length<=636:=by have d:=uh (gU B) 42 i λx a=>Bx B x<|b x a;have e:=uh dD.bytes 37 o λx a=>x.jX<|c x a;simp only[kJ,cB,bI];omega
def YI(T c d I b C O w)(H:uk w (.slice c I.length d) I)(s:mg w (.slice b O.length C) O)
 (u:0<=T)(h:I.length<=8)(i:O.length<=8)(l:∀x∈I,x.Small)(m:∀x∈O,x.Small):
 Cv 115 #[.agg #[.int .i64 T,.slice c I d,.slice b O C]] w λe E=>e=.returned (wj T I O)/\Below w w E:=by
 go_enter fA func115,ntmps115;go_wp2;have a:=Ba w<|.cells #[T,.slice c I d,.slice b O C] 90;refine(Pr T c d I b O C _ (H.keep a) O9).mono ?_;rintro e W⟨g,rfl,B,RI,o⟩;have a:=mD a L9 o;go_wp2;have f:=IW W () [] T g I (I.map jB.bare) b C O W (Ki (rest:=[]) (by rw[kY];exact RI)<|by rw[dS];omega) (s.keep a) B0 (mN.nil _ _) u (by rw[dS];exact h) i (λx z=>by obtain⟨y,A,rfl⟩:=gB.1 z;exact SS<|l y A) m S8;rw[dS,SU]at f;refine f.mono ?_;rintro e F⟨v,rfl,j,n⟩;have a:=mD a L9 n.below;have q:=j.toStr;have D:=Bw true T I O h i l m;have k:Hid (wj T I O=mk (be (hN (116::kJ true T I O)) 8)):=rfl;generalize kJ true T I O=L at j q D k;go_wp2;refine(Bu (116::L) _<|by simp;omega).m1 λG p=>?_;go_wp2;go_ret;exact⟨by rw[k.out];rfl,(mD a L9 p)⟩
def vt.d(p:vt):ku:=⟨p.t.tag,(p.gi,p.t.ins,p.t.ins.length),p.t.ins,(p.go,p.t.outs,p.t.outs.length),p.t.outs⟩
def aiH(a):zF a=wu (a.map vt.d):=by simp[wu,UH];rfl
def YX{w G a}(e:Row w G 90 (zF a))(l:mS w G a)(m:a.length<=1000)(d:∀p∈a,p.t.ins.length<=1000/\p.t.outs.length<=1000)(c):xw w (.slice G (a.map vt.d) c) (a.map vt.d):=by refine⟨⟨some (G,0),c,rfl,λ_=>⟨G,0,rfl,λi x b=>?_⟩⟩,by rw[dS];omega⟩;rw[aiH]at e;have⟨H,g,h⟩:=Hq _ i x b;rw[eG]at b;rcases f:a[i]? with _|p;cases f▸b;cases f▸b;have⟨_,_,j,k⟩:=l.rows i p f;have n:=d p<|eY f;refine⟨?_,?_,?_,Ki (rest:=[]) (by rw[kY];exact j) (by show p.t.ins.length<=_;omega),Hr (rest:=[]) (by rw[kY];exact k)<|by show p.t.outs.length<=_;omega⟩;rw[e.cell,mj];exact H;rw[e.cell,mj];exact g;rw[e.cell,mj];exact h
def vk{b}(h:rf b=true):b.eO.length<=8/\∀t∈b.eO,0<=t.tag/\t.tag<=65535/\t.ins.length<=8/\t.outs.length<=8/\(∀x∈t.ins,x.Small)/\(∀x∈t.outs,x.Small):=by have c:=xk<|show dI (mk b.parent) b.bits b.fX (b.eO.map Iz.d)=true from h;refine⟨by have:=c.l;rw[dS]at this;exact this,λt e=>?_⟩;have a:=c.t t.d<|tN e;exact⟨a.tag,a.ajW,a.ni,a.no,a.ins,a.outs⟩
def PL{a w v b G e}(h:PN a w v b G e)(i:rf b=true)(c):xw w (.slice G (e.map vt.d) c) (e.map vt.d):=by have⟨f,g⟩:=vk i;refine YX h.row h.rows ?_ (λp j=>?_) c;rw[<-h.eO,dS]at f;omega;have:=g p.t<|h.eO▸tN j;omega
def aj9(a:List vt):(a.map vt.d).map ku.m=a.map vt.t:=by rw[pQ];rfl
def tu(T:List Iz):List Value:=T.map λt=>.string<|wj t.tag t.ins t.outs
def aI.afM:(Vp.info? 9).map (λi=>(i.zero,i.size,i.bytes))=some (some ↑aB,1,16):=K8
def ahx:=@aI.afM
def mdS(n:Nat):List Value:=(madeCells #[aB] (n*1)).toList
def afN(n):(mdS n)=n:=by unfold mdS;rw[Array.length_toList,size_madeCells];omega
def aiI(n:Nat)(h:n<=1000)(w):(Instr.makeSlice 41 (n:Int) (n:Int)).run Vp w=.ok (.slice (w:Nat) n n) (w.alloc<|.cells (mdS n).toArray 9):=by have⟨d,H,a,b,c⟩:=info_parts ahx;have:=wC (P:=Vp) w 41 9 d _ aI.underlying41 H a .i64 .i64 (n:Int) (n:Int) O9 (lC _) (by rw[c];omega) O9;rw[this,b];simp[mdS,Value.cells]
def Tj(s w):Cv 61 #[(mk s)] w λe w'=>Below w w w'/\((iE s=none/\e=.returned (.tuple #[(),aG]))\/∃b g,iE s=some b/\e=.returned (.tuple #[.slice (some ⟨g,0,none⟩) b.eO b.eO,aA])/\w<=g/\Row w' g 9 (tu b.eO)):=by
 go_enter fA func61,ntmps61;go_wp2;refine(xt s _).mono ?_;rintro e W⟨t,⟨C,rfl⟩|⟨b,aw,gt,z,C,rfl,r⟩⟩;.unfold eU;go_wp2;go_ret2;exact⟨t.alloc t.size _,.inl ⟨C,rfl⟩⟩
 have⟨L,_⟩:=kI C;have f:=PL r L z;rw[dS]at f;have T:z=b.eO.length:=by rw[<-r.eO,dS]
 have⟨M,N⟩:=vk L;have F:=r.val;have u:(z.map vt.d).map ku.m=b.eO:=by rw[aj9,r.eO]
 clear r;subst F;rw[T]at f|-;clear T;generalize z.map vt.d=d at f u;have D:d=b.eO.length:=by rw[<-u,dS]
 have⟨G,bits,am,a⟩:=b;simp only at f u D M N|-;have R:=D.symm;rw[R]at f M|-;clear D;have o:=aiI d O9;go_wp2;have A:Below W W ((W.alloc<|.cells #[(mk G),bits,am,.slice gt d d] 93).alloc<|.cells (mdS d).toArray 9):=(B0.alloc L9 _).alloc S8 _
 have RS:=aX (W.alloc<|.cells #[(mk G),bits,am,.slice gt d d] 93) (mdS d) 9;rw[cR]at RS;generalize(W.alloc _).alloc _=aq at A RS|-;generalize av:(W:Nat)+1=g at RS|-;clear o;go_loopw [24] (λi wr=>∃k h,k<=d.length/\i=k/\Row wr g 9 (tu (a.take k)++h)/\h.length=d.length -k/\Below W W wr) (λi _=>d.length -(intOf i).toNat);exact⟨0,mdS d.length,cH _,rfl,RS,by rw[afN];rfl,A⟩;case round=>
  clear RS A;obtain⟨k,h,ay,rfl,RS,c,B⟩:=hrel;by_cases af:k<d.length;.match h,c with
   |[],c=>simp at c;omega
   |y::h,c=>
     have P:=af;have Q:k<a.length:=O9;have⟨⟨a',au,F,J⟩,_⟩:=f.keep B;cases F;have⟨ar,a3,aa,K⟩:=J (by intro ap;simp[ap]at P);cases aa;have⟨c1,v,U,m,x⟩:=K k _<|aY P;rw[mj]at c1 v U;clear J K;have o:d[k].m=a[k]:=by simp[<-u,List.getElem_map]
     have l:=N a[k]<|oD Q;have n:Hid (tu (a.take<|k+1)=tu (a.take k)++[.string<|wj d[k].tag d[k].ins d[k].outs]):=by unfold Hid tu;rw[rN Q,kq,<-o];rfl
     have E:(tu<|a.take k).length=k:=by unfold tu;rw[List.length_map,List.length_take];omega
     rw[<-o]at l;simp[ku.m]at l;clear o;have⟨ac,ad,O,_⟩:=m.form;have⟨al,oc,S,_⟩:=x.form;rw[O]at v m;rw[S]at U x;clear O S;generalize d[k].tag=π at c1 l n;generalize d[k].ins=V at v m l n;generalize d[k].outs=X at U x l n;have⟨ah,a4,ai,aj,ak,ao⟩:=l;have Y:wr.cell? (g,k)=some y:=by rw[RS.cell,cZ O9,E,rK];rfl
     go_wp2;have j:=Ba wr<|.cells #[π,.slice ac V.length ad,.slice al X.length oc] 90;refine(YI π ac ad V al oc X _ (m.keep j) (x.keep j) ah ai aj ak ao).m1 λw2 I=>?_;have j:=mD j L9 I;have RS:=RS.keep j RS.lt;clear Y I;have Y:w2.cell? (g,k)=some y:=by rw[RS.cell,cZ O9,E,rK];rfl
     have f0:=RS.frozen k;generalize wj π V X=q at n|-;have H:=RS.set k q;rw[Ds _ _ O9,E,rK,List.set_cons_zero,show(Value.string q::h)=[.string q]++h from rfl,<-dP]at H;have an:=(mD B L9 j).setCell (p:=(g,k)) (by show(W:Nat)<=g;omega) q;go_wp2;go_roundw;exact⟨k+1,h,O9,by go_num,n.out▸H,by have:=(aK c).out;simp[cQ]at this;omega,an⟩;simp[intOf];omega
  have ae:k=d.length:=O9;have ag:h=[]:=lW O9;subst ag;rw[kY,ae,<-R,gQ]at RS;have a2:¬(k:Int)<d.length:=O9;go_wp2;go_ret2;exact⟨mD t L9 B,g,rfl,by have:=t.size;omega,RS⟩
def cC.cells(t:cC):List Value:=[.string t.key,.string t.lock,.string t.id,.int .i64 t.aT]
def aZ(l:List cC):List Value:=l.flatMap cC.cells
def vw(l t):aZ (l++[t])=aZ l++t.cells:=by simp[aZ]
def JF(n:Nat)(m:Nat->Nat)(t j k:Nat):Prop:=BI n m t k\/k=j
def JT(t:TypeId):Prop:=t=234\/t=298
abbrev XJ(n:Nat)(m:Nat->Nat)(t j:Nat)(w W:World):Prop:=Xo (JF n m t j) (t+1) JT w W
class kA where
 w0:World
 v0:Value
def Eg[kA](t:Nat)(w:World):Prop:=t<kA.w0.heap.size/\∀(k:Nat)(c:Array Value)(f:Nat×Nat),kA.w0.heap[k]?=some (.cells c 298 f)->w.heap[k]?=some (.cells c 298 f)
def Eg.xc[kA]{t S w W}(h:Eg t w)(x:Xc S w W)(b:∀k c f,k<↑kA.w0->w.heap[k]?=some (.cells c 298 f)->¬S k):Eg t W:=⟨h.1,λk c f a=>have e:=h.2 k c f a;(x.block k (bO e)<|b k c f (bO a) e).trans e⟩
def Eg.keep[kA]{t w W}(h:Eg t w)(a:Below w w W):Eg t W:=h.xc (jS a (S:=λ_=>False)) λ_ _ _ _ _=>id
structure cG[kA](w:World)(jb tb gs n:Nat)(sb mb:Nat->Nat)(h:Int)(s:JS):Prop where
 row:∃tv,Row w jb 266 [ptr tb,.int .i64 h,.int .i64 s.gG,tv]/\w.ownsRow kA.w0.heap.size 298 4 tv s.bX.length (aZ s.bX)
 jy:∃v,bW w tb gs n v s.steps/\tE kA.w0 kA.v0 w v/\Eg tb w
 dL:aR w gs n sb mb s.K
def cG.keep[kA]{w W b T g n S m h s}(e:cG w b T g n S m h s)(a:Below w w W):cG W b T g n S m h s:=have⟨⟨f,r,o⟩,⟨v,t,d⟩,c⟩:=e;⟨⟨f,r.keep a r.lt,aP o a⟩,⟨v,⟨t.row.keep a t.row.lt,aP t.own a⟩,d.1.trans<|adk _ a,d.2.keep a⟩,c.keep a⟩
def XJ.PU{n m t a w W}(x:Xo (BI n m t) (t+1) xB w W):XJ n m t a w W:=Xo.mono x (λ_ e=>.inl e) L9 λ_ e=>.inl e
def cG.Wq[kA]{w W g T G n S M h s d j l}(y:cG w g T G n S M h s)(x:Xo (BI n M T) (T+1) xB w W)(q:aR W G n S M d)(A:bW W T G n l j)(z:tE kA.w0 kA.v0 W l):cG W g T G n S M h {s with K:=d,steps:=j}:=by have⟨⟨J,r,o⟩,⟨v,t,B⟩,c⟩:=y;refine⟨⟨J,r.xo x ?_ (.inr<|by unfold xB;decide),adl o x ?_<|by unfold xB;decide⟩,⟨_,A,z,B.2.xc x ?_⟩,q⟩;rintro(e|e);exact c.lU r e;exact r.ne t.row D9 e;rintro k E a D(⟨i,H,e⟩|e);subst e;obtain⟨C,m,-⟩:=c.mp i H;obtain⟨O,L,p,-⟩:=m;cases p▸a;subst e;have b:=t.row;cases b▸a;rintro k E f _ a((⟨i,H,e⟩|e)|⟨_,u,N,P,F,I⟩);exact c.uu a ⟨i,H,e⟩;subst e;cases t.row▸a;cases a▸I;revert F;unfold xB;decide
def cG.c0[kA]{w a t g n S m h s}(b:cG w a t g n S m h s):w.cell? (a,0)=some (.pointer t):=have⟨T,r,_⟩:=b.row;r.cell 0
def cG.c1[kA]{w a t g n S m h s}(b:cG w a t g n S m h s):w.cell? (a,1)=some ↑h:=have⟨T,r,_⟩:=b.row;r.cell 1
def Row.xj[kA]{w W a T G n g S m h s t C}(r:Row w g t C)(f:cG w a T G n S m h s)(x:XJ n m T a w W)(H:t≠181)(j:t≠266)(b:t≠234)(d:t≠298):Row W g t C:=by have⟨⟨l,i,o⟩,⟨v,k,_⟩,c⟩:=f;refine r.xo x ?_<|.inr λe=>e.elim b d;rintro((e|e)|e);exact c.lU r e;exact r.ne k.row H e;exact r.ne i j e
def MI(w:World)(v:Value)(l:List dD):Prop:=∃g c,v=.slice (some ⟨g,0,none⟩) l.length c/\Row w g 86 (kv l)
def InR(w:World)(v:Value)(l:List jB):Prop:=∃g c,v=.slice (some ⟨g,0,none⟩) l.length c/\Row w g 139 (og l)
def Wt(id:ByteArray)(h:Int)(i:Nat)(o:dD)(s:JS):JS:={s with K:=s.K.put ⟨id,i,o.val,o.lock,h⟩,steps:=s.steps++[⟨⟨id,i,o.val,o.lock,h⟩,true⟩]}
def Tq(id h l o):∀i s,kg id h (l++[o]) i s=Wt id h (i+l.length) o (kg id h l i s):=by induction l with
 |nil=>intro i s;rfl
 |cons x l a=>intro i s;show kg id h (l++[o]) (i+1) _=_;rw[a];show _=Wt id h (i+(l+1)) o (kg id h l (i+1) _);rw[show i+1+l.length=i+(l.length+1)from by omega]
def afP(id h l):∀(i:Nat)(s:JS)(j:Nat),(i+l.length<=j)->(kg id h l i s).K (id,(j:Int))=s.K (id,(j:Int)):=by induction l with
 |nil=>intro i s j _;rfl
 |cons x l b=>intro i s j a;simp at a;show(kg id h l (i+1) _).K (id,(j:Int))=_;rw[b (i+1) _ j O9];show(s.K.put _) (id,(j:Int))=_;unfold jH.put;rw[aJ];intro e;have:=congrArg Prod.snd e;simp[bL.pt]at this;omega
def Y7(id h l):∀i s,(kg id h l i s).steps.length=s.steps+l:=by induction l with
 |nil=>intro i s;rfl
 |cons x l a=>intro i s;show(kg id h l (i+1) _).steps.length=_;rw[a];simp;omega
def Hv[kA]{j T u n S p h s}(x V Y U ov w)(a:cG w j T u n S p h s)(ai:MI w ov x.outs)(aw:x.outs.length<=8)(I:x.id.size<=1000000)(bd:s.steps.length+8<=100000):Cv 203 #[ptr j,.agg #[x.id,.slice (some ⟨V,0,none⟩) Y U,ov]] w λe i=>e=.returned ((eJ x h s).1)/\cG i j T u n S p h (eJ x h s).2/\XJ n p T j w i:=by
 have⟨id,an,o⟩:=x;obtain⟨g,c,rfl,b⟩:=ai;simp only at b aw I|-;unfold ptr;have f:=aX w [id,.slice V Y U,.slice g o c] 169;have l:=Ba w<|.cells #[id,.slice V Y U,.slice g o c] 169;have ak:=λ(W:World)(B:aR W u n S p s.K)=>Y6 id W B I;have a:=a.keep l;have b:=b.keep l b.lt;go_enter fA func203,ntmps203;go_wp2;generalize w.alloc _=X at f l a b|-;have aa:∀d os,Cv 216 #[.agg #[.slice u n n],id] (Go.Sort.grow (redrawn X d) os) λe a2=>e=.returned (anyM s.K id)/\∃ao:Regrown,a2=Go.Sort.grow (redrawn X ao.d) ao.os:=λd os=>Calls.regrown_of<|ak _ (a.dL.keep<|below_regrown X d os)
 have⟨tv,y,P⟩:=a.row;have⟨a0,π,_⟩:=a.jy;have k0:=cell_regrown<|show X.cell? (j,0)=some (.pointer T)from y.cell 0;have k1:=cell_regrown<|show X.cell? (T,0)=some (.slice u n n)from π.row.cell 0;have k2:=cell_regrown<|show X.cell? ((w:Nat),0)=some ↑id from f.cell 0;refine wp_region_quiet_below nO K8 ?_;repeat(go_big_quiet_step (first|(go_at_call 216;exact aa _ _)))
 refine vZ λa1 K=>?_;clear y P π k0 k1 k2 aa ak;have b:=b.keep K b.lt;have a:=a.keep K;have f:=f.keep K f.lt;have l:=l.trans<|K.mono l.size;clear K;cases G:anyM s.K id with
 |true=>
   have C:Hid (eJ ⟨id,an,o⟩ h s=(14,s)):=by unfold Hid eJ;rw[if_pos G]
   go_wp2;go_ret;exact⟨by rw[C.out];rfl,by rw[C.out];exact a,jS l⟩
 |false=>
   have C:Hid (eJ ⟨id,an,o⟩ h s=(0,kg id h o 0 s)):=by unfold Hid eJ;rw[if_neg<|by rw[G];simp]
   have L:=Y5 G;clear G;have av:=f.r 2;go_wp2;go_loopw [20] (λac wr=>∃k:Nat,k<=o/\ac=↑k/\cG wr j T u n S p h (kg id h (o.take k) 0 s)/\Row wr ↑w 169 [id,.slice V Y U,.slice g o c]/\Row wr g 86 (kv o)/\XJ n p T j w wr) (λac _=>o -(intOf ac).toNat);exact⟨0,O9,rfl,a,f,b,jS l⟩;case round=>
    clear a f b l av;obtain⟨k,ba,rfl,a,f,b,Q⟩:=hrel;by_cases al:k<o
    .have⟨E,F⟩:=yg o k o[k] (aY al);have O:o.take (k+1)=o.take k++[o[k]]:=by rw[rN al]
     have N:Hid (kg id h (o.take<|k+1) 0 s=Wt id h k o[k] (kg id h (o.take k) 0 s)):=by unfold Hid;rw[O,Tq,dJ];congr 1;omega
     have J:(kg id h (o.take k) 0 s).K (id,(k:Int))=none:=by rw[afP id h (o.take k) 0 s k<|by rw[dJ];omega];exact L k O9
     have M:(kg id h (o.take k) 0 s).steps.length<=100000:=by rw[Y7,dJ];omega
     generalize o[k]=ax at E F N O;generalize kg id h (o.take k) 0 s=ab at a N J M;have⟨q,m⟩:=ax;simp only at E F;have a6:wr.cell? (g,k*2)=some ↑q:=by rw[b.cell];exact E
     have a7:wr.cell? (g,k*2+1)=some ↑m:=by rw[b.cell];exact F
     have bb:(0:Int)<=k:=O9;have bc:(k:Int)<o:=O9;clear O E F L;go_wp2;have z:=Ba wr<|.cells #[q,m] 86;have t:=aX wr [q,m] 86;have a:=a.keep z;have f:=f.keep z f.lt;have b:=b.keep z b.lt;have R:=Wl Q z;generalize wr.alloc _=ap at t a f b R|-;generalize(wr:Nat)=aq at t|-;clear z Q a6 a7;have A:=aK (a.keep<|cN B0);have D:=aK λv(x:XJ n p T j ap.drew v)=>Ai ((qw f).xj A.out x D9 D9 D9 D9)<|(qw t).xj A.out x D9 D9 D9 D9;have am:Hid (∀W:World,cG W j T u n S p h ab->Cv 123 #[.pointer T,.agg #[id,↑(k:Int),q,m,h,true]] W λe i=>e=.returned (.tuple #[])/\cG i j T u n S p h (Wt id h k ⟨q,m⟩ ab)/\XJ n p T j W i):=λW B=>by have⟨a0,π,az⟩:=B.jy;refine(adm ⟨id,(k:Int),q,m,h⟩ W B.dL π ⟨cA I (by decide),by show _<=(k:Int);omega,by show(k:Int)<_;omega⟩ J M).mono ?_;rintro e i⟨h1,h2,⟨bf,ag,ah⟩,ad⟩;exact⟨h1,B.Wq ad h2 ag<|az.1.trans ah,XJ.PU ad⟩
     have⟨tv,y,P⟩:=a.row;have ar:ap.cell? (j,0)=some (.pointer T):=y.cell 0;have au:=y.r 1;have t0:=f.r 0;have⟨q0,ay⟩:=t.p2;clear y P J M a;go_region_held3 (λi=>i.cell? (j,0)=some (.pointer T)/\i.cell? (j,1)=some ↑h/\i.cell? ((w:Nat),0)=some ↑id/\i.cell? (aq,0)=some ↑q/\i.cell? (aq,1)=some ↑m) (first|go_keep|exact⟨H.c0,H.c1,(D.out v r).1.cell 0,(D.out v r).2.cell 0,(D.out v r).2.cell 1⟩) ((go_at_call 123;refine(am.out _ A.out).mono ?_;rintro e v⟨rfl,H,r⟩))
     have ae:=(D.out v r).1;have af:=(qw b).xj A.out r D9 D9 D9 D9;have a8:=rz (xz R) r;clear ar au t0 q0 ay D am A r R t f b;go_wp2;go_roundw;exact⟨k+1,O9,by go_num,by rw[N.out];exact H,ae,af,a8⟩;simp[intOf];omega
    have aj:k=o:=O9;subst aj;rw[gQ]at a;clear L;go_wp2;go_ret;exact⟨by rw[C.out];rfl,by rw[C.out];exact a,Q⟩
end Go.Proofs.aH
