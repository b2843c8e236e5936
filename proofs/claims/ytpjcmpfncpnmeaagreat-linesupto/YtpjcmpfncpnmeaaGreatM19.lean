/- Lines answers true whatever script it is handed, where it holds at most 1048576 values and letters, in whatever order its goroutines run, and all reads behind the call as it read before. -/
import Derived.Test.YtpjcmpfncpnmeaaGreatRows
import Derived.ProofKit
import Derived.SizedLaws
import Derived.Carry
import Derived.Deep.Slices
import Derived.Deep.Strs
import Derived.Lib.SmallJoins
import Derived.Test.YtpjcmpfncpnmeaaGreatM06
import Derived.Test.YtpjcmpfncpnmeaaGreatM18
set_option linter.all false
set_option maxHeartbeats 8000000
set_option maxRecDepth 100000
namespace Go.Proofs.aH
open Go.RowKit Tryz
attribute [local go_sem↓] Go.wp_at_zero Go.wp_at_succ
structure uG(w:World)(sa:Option Addr)(l:List U7):Prop where
 at_:l≠[]->∃g o,sa=some ⟨g,o,none⟩/\∀(i:Nat)(x:U7),l[i]?=some x->∃v,(∀(j:Nat)u,(opC x v)[j]?=some u->w.cell? ⟨g,o+i*10+j,none⟩=some u)/\qg w x v
def aew(w):Cv 15 #[] w λe a=>e=.returned (.agg #[.int .i64 2,.int .i64 3,.int .i64 4,.int .i64 50,aA])/\Below w w a:=by go_enter fA func15,ntmps15;go_wp2;exact cY (v:=.agg #[.int .i64 2,.int .i64 3,.int .i64 4,.int .i64 50,aA]) (by simp[results,results15,go_sem]) rfl ⟨rfl,B0.alloc L9 _⟩
def aex:List UInt8:=[0,0,0,0,0,0,0,0,0,0,0,1,0,1,0,1,0,0,0,50,1,1]
def T9(w):Cv 18 #[] w λe a=>e=.returned (mk aex)/\a=w:=by go_enter fA func18,ntmps18;go_wp2;go_ret;exact⟨rfl,rfl⟩
def lv0(w l):LV w (w.alloc<|.cells #[(),.bool l,()] 66) w l [] []:=⟨B0.alloc L9 _,⟨L9,λi p e=>by simp at e⟩,⟨_,_,aX w [(),l,()] 66,mV _ _ _ _,mV _ _ _ _,(λk e=>by cases e),(λk e=>by cases e)⟩,(λi p e=>by simp at e),(λi j p q e=>by simp at e),(λi u e=>by simp at e),rfl⟩
def aey(l sa sc L w)(ab:uG w sa l)(m:l.length<=1048576):Cv 7 #[.slice sa l sc,.bool L] w λe w'=>e=.returned (.int .i64<|-1)/\Below w w w':=by
 have v:=lv0 w L;go_enter fA func7,ntmps7;go_wp2;generalize w.alloc _=W0 at v|-;generalize w.heap.size=c at v|-;refine(aew W0).m1 λw1 S=>?_;have T:=Ba w1<|.cells #[.int .i64 2,.int .i64 3,.int .i64 4,.int .i64 50,aA] 26;have Q:=aX w1 [.int .i64 2,.int .i64 3,.int .i64 4,.int .i64 50,aA] 26;have V:=(v.keep S).keep T;have K:=Lt ⟨2,3,4,50,0⟩ V rfl (by decide);have⟨r0,r1,r2,r3,r4⟩:=Q.p5;unfold fL.v ptr at K;simp only at K;clear v S T;go_wp2;refine K.mono ?_;rintro e f⟨rfl,p,H⟩;clear K r0 r1 r2 r3 r4 Q V;simp[yC]at H;have⟨g,nc,D,U⟩:=H.at (i:=0) (p:=p) rfl;simp[Nt]at D;have t:=aK λj(b:Below f f j)=>Ai (aM b D)<|aM b U;have I:Hid (∀j,Below f f j->Cv 17 #[(c,0),(p.pb,0),.string<|mk aex] j λe u=>e=.returned true/\∃d,LV w u c L [d] []/\u.cell? ⟨c,0,none⟩=some (.slice (some ⟨g,0,none⟩) 1 nc)/\u.cell? ⟨g,0,none⟩=some (.pointer<|some ⟨p.pb,0,none⟩)):=λj b=>by have y:=H.keep b;have⟨q0,q1⟩:=t.out j b;have⟨nv,cv,R,_,_,f1,_⟩:=y.ex;refine(yY aex j (y.pr 0 p rfl).1 R).mono λe u⟨a,d,e1,e2,E⟩=>⟨a,d,y.sub (i:=0) rfl e1 e2 E,?_,?_⟩;rw[BS (a:=⟨c,0,none⟩) (E.rest c R.lt<|y.Z2.2 0 p rfl)];exact q0;have:=R.r 0;cases q0▸this;rw[BS (a:=⟨g,0,none⟩) (E.rest g (Jj _ _ q1)<|f1 g rfl 0 p rfl)];exact q1
 have G:Hid (Below f f f.drew):=cN B0;have F:Hid (Below f f f.drew.drew):=cN<|cN B0;go_wp2;go_cut [7] (λa wx=>∃d,a=true/\LV w wx c L [d] []);case first=>as_aux_lemma=>
  go_region_held3 (λW=>W.cell? ⟨c,0,none⟩=some (.slice (some ⟨g,0,none⟩) 1 nc)/\W.cell? ⟨g,0,none⟩=some (.pointer<|some ⟨p.pb,0,none⟩)) (first|with_reducible exact π|with_reducible exact t.out _ G.out|with_reducible exact t.out _ F.out|with_reducible exact t.out _ B0|go_keep) ((first
     |(go_at_call 18;refine(T9 _).m0 ?_)
     |(go_at_call 17;(with_reducible refine(I.out _ F.out).mono ?_);rintro e O⟨rfl,d,Y,π⟩)
     |(go_at_call 17;(with_reducible refine(I.out _ G.out).mono ?_);rintro e O⟨rfl,d,Y,π⟩)))
  all_goals go_wp2
  all_goals go_meet
  all_goals exact⟨d,rfl,Y⟩
 case' rest=>obtain⟨d,rfl,X⟩:=hcut;clear I t G F D U H;have r:=λW P C aa o(h:LV w W c L P C)(N:0<P.length)(z:qg w o aa)A m=>aev h N z A m;have s:=λW P C(h:LV w W c L P C)m=>h.whole m;have n:=λW P C(h:LV w W c L P C)A m=>ZV h A m;unfold ptr at r s n;have r:=aK r;have s:=aK s;have n:=aK n;go_wp2;go_loopw [8] (λi wr=>∃(k:Nat)(P:List PM)(C:List Value),k<=l/\i=↑(k:Int)/\LV w wr c L P C/\0<P.length/\P.length<=k+1/\C.length<=6*k) (λi _=>l.length -(intOf i).toNat);exact⟨0,[d],[],cH _,rfl,X,by simp,by simp,by simp⟩;case round=>
   clear X;obtain⟨k,P,C,hk,rfl,h,N,A,hc⟩:=hrel;by_cases M:k<l.length
   .have⟨x,hx⟩:∃x,l[k]?=some x:=⟨_,aY M⟩;have⟨g,o,ad,hq⟩:=ab.at_ (by intro e;rw[e]at M;simp at M);subst ad;have⟨aa,q,z⟩:=hq k x hx;have k0:(0:Int)<=k:=O9;have K:(k:Int)<l.length:=O9;have⟨va,vc,hv,_⟩:=id z.at_;subst hv;have c0:wr.cell? ⟨g,o+k*10,none⟩=some (.int .i64 x.kind):=aM h.low<|q 0 _ rfl;have c1:=aM h.low<|q 1 _ rfl;have c2:=aM h.low<|q 2 _ rfl;have c3:=aM h.low<|q 3 _ rfl;have c4:=aM h.low<|q 4 _ rfl;have c5:=aM h.low<|q 5 _ rfl;have c6:=aM h.low<|q 6 _ rfl;have c7:=aM h.low<|q 7 _ rfl;have c8:=aM h.low<|q 8 _ rfl;have c9:=aM h.low<|q 9 _ rfl;have J:=r.out _ _ _ _ _ h N z (by omega) (by omega);unfold opC at J;clear q hq hx;go_wp2;refine J.mono ?_;rintro e w3⟨rfl,ae,ac,H,l2,l3⟩;have kw:=s.out _ _ _ H (by omega);clear J c0 c1 c2 c3 c4 c5 c6 c7 c8 c9;go_wp2;refine kw.m1 λO B=>?_;clear kw;go_wp2;go_roundw;exact⟨k+1,ae,ac,by omega,by go_num,H.keep B,by omega,by omega,by omega⟩;simp[intOf];omega
   have K:¬(k:Int)<l.length:=by omega
   have ka:=n.out _ _ _ h (by omega) (by omega);clear r s n;go_wp2;refine ka.m1 λO B=>?_;clear ka;go_wp2;go_ret;exact⟨rfl,B⟩
def aaP(l a s w)(H:uG w a l)(c:l.length<=1048576):Cv 3 #[.slice a l s] w λe d=>e=.returned true/\Below w w d:=by go_enter fA func3,ntmps3;go_wp2;refine(aey l a s true w H c).m1 λW b=>?_;go_wp2;go_ret;exact⟨rfl,b⟩
end Go.Proofs.aH
namespace Go.Proofs.YtpjcmpfncpnmeaaGreat
open Go.ChangeShapes Go.WideShapes Go.ChangeAt Go.RowKit Go.Ren
open Go.Proofs.aH (Pt sJ rP U7 opC qg uG)
def Tryz.QV:Tryz.prog.cellsOf 3=1:=K8
def aaH:=@Tryz.QV
def Tryz.QW:Tryz.prog.cellsOf 9=1:=K8
def ahc:=@Tryz.QW
def Tryz.Xm:Tryz.prog.cellsOf 48=2:=K8
def Tryz.QX:Tryz.prog.cellsOf 58=1:=K8
def Tryz.Xn:Tryz.prog.cellsOf 74=10:=K8
def ahe:=@Tryz.Xn
def Tryz.Nz:Tryz.prog.cellsOf 26=5:=K8
def ahf:=@Tryz.Nz
def EK{a}(h:(Lit.int .i64 a).wf=true):-9223372036854775808<=a/\a<9223372036854775808:=by have c:IntKind.i64.min=-9223372036854775808:=rfl;have b:IntKind.i64.max=9223372036854775807:=rfl;simp[Lit.wf]at h;omega
def NA{w:World}{a:Addr}{n C}(h:w.cells? 0 (a.add 0) n=some C)(e:0<n):∃b o,a=⟨b,o,none⟩:=by have⟨_,f,c⟩:=Z7 h;have d:=c 0 e;rw[aY O9]at d;have:=World.cell?_spot d;simp[Addr.add]at this;have⟨b,o,g⟩:=a;exact⟨b,o,by simpa using this⟩
def Jn{w:World}{b o n i C}(h:w.cells? 0 (((b,o):Addr).add i) n=some C):∀j,j<n->w.cell? ⟨b,o+i+j,none⟩=C[j]?:=by have⟨_,f,a⟩:=Z7 h;intro j c;rw[<-a j c];unfold Addr.add;by_cases e:i=0<;>by_cases d:j=0<;>simp[e,d]
def Fs{a:Type}(f:Nat->a)(n i x)(h:((List.range n).map f)[i]?=some x):i<n/\x=f i:=by grind
def za{w a v}(h:w.cell? a=some v):dU w a.block:=by unfold World.cell? at h;split at h;rename_i c t f e;exact⟨_,_,_,e⟩;cases h
def yE{w}{a:Addr}{n C}(h:w.cells? 0 (a.add 0) n=some C)(c:0<n):dU w a.block:=by have⟨_,e,b⟩:=Z7 h;have d:=b 0 c;rw[aY O9]at d;have:=za d;simpa[Addr.add]using this
def Fu{H}:∀{l:List (DataW H)}{d},d∈l->Rows.uptoBulk d<=Rows.uptoBulkAll l
 |x::l,d,m=>by simp[Rows.uptoBulkAll];obtain rfl|m:=jO.1 m;omega;have:=Fu m;omega
def Fv{H}(c):∀{l:List (DataW H)},(∀a∈l,c<=Rows.uptoBulk a)->c*l<=Rows.uptoBulkAll l
 |[],_=>cH _
 |x::l,h=>by have b:=h x S8;have d:=Fv c λa m=>h a<|Fa x m;simp[Rows.uptoBulkAll,cQ,Nat.mul_add,Fb];omega
structure aeN(W:World)(va:Option Addr)(vc:Nat)(l:List Pt):Prop where
 at_:l≠[]->∃b o,va=some ⟨b,o,none⟩/\∀(i:Nat)p,l[i]?=some p->W.cell? ⟨b,o+i*2,none⟩=some (.string p.1)/\W.cell? ⟨b,o+i*2+1,none⟩=some (.int .i64 p.2)
 real:∀a,va=some a->dU W a.block\/(l.length=0/\vc=0)
 ok:∀p∈l,sJ p
 len:l.length<=1000000
structure OpI(o:U7):Prop where
 kind:-9223372036854775808<=o.kind/\o.kind<9223372036854775808
 node:-9223372036854775808<=o.node/\o.node<9223372036854775808
 h:-9223372036854775808<=o.h/\o.h<9223372036854775808
structure ahW(W:World)(sa:Option Addr)(sc:Nat)(l:List U7):Prop where
 at_:l≠[]->∃g o,sa=some ⟨g,o,none⟩/\∀(i:Nat)(x:U7),l[i]?=some x->∃va vc,(∀(j:Nat)u,(opC x (va,x.NB,vc))[j]?=some u->W.cell? ⟨g,o+i*10+j,none⟩=some u)/\OpI x/\aeN W va vc x.NB
 real:∀a,sa=some a->dU W a.block\/(l.length=0/\sc=0)
section
variable{H:Type}{enc:TypeId×Value->H}{w:World}{held:Bool}
def aaI{F C x}(h:DataW.trod enc Tryz.prog w 0 (λ_=>true) held F 48 C=some x)(a:Rows.uptoBulk x.1<=1048576):∃p,C=[p.1,p.2]/\sJ p/\3<=Rows.uptoBulk x.1:=by have⟨m,o,n,e,l,d,f⟩:=trod_struct2 Tryz.underlying48 h;match C,l with
 |[q,r],_=>simp[aaH,ahc]at d f;have⟨s,b,g,_⟩:=DataW.trod_string Tryz.underlying9 d;have⟨i,c,j,k⟩:=zY Tryz.underlying3 f;simp at b c;rw[e]at a|-;rw[g,j]at a|-;simp[Rows.uptoBulk,Rows.uptoBulkAll]at a;have:=EK k;exact⟨(s,i),by rw[b,c],⟨by show s.size<=_;omega,this.1,this.2⟩,by simp only[Rows.uptoBulk,Rows.uptoBulkAll];omega⟩
def Xp{B v x}(h:DataW.trod enc Tryz.prog w 0 (λ_=>true) held B 58 [v]=some x)(z:Rows.uptoBulk x.1<=1048576):∃(l:List Pt)(V:Option Addr)(s:Nat),v=.slice V l s/\aeN w V s l:=by
 obtain⟨c,_⟩|⟨a,L,N,m,n,D,A,c,_,E,_,t,r,k⟩:=Go.Deep.open_slice Tryz.underlying58 h;simp at c;exact⟨[],none,0,c,⟨λh=>absurd rfl h,λa e=>(by cases e),(λp m=>by cases m),by decide⟩⟩;simp at c;subst t;rw[Tryz.Xm]at k;have π:Rows.uptoBulkAll ((List.range L).map D)<=1048576:=by rw[r]at z;simp[Rows.uptoBulk]at z;omega
 have u:dU w a.block\/(L=0/\m=0):=by by_cases j:0<m;have⟨y,C,_⟩:=k 0 j;exact .inl<|yE (by simpa using C) D9;omega
 have⟨f,q⟩:=Go.Deep.choose_lt (α:=Pt) (n:=L) (p:=λi d=>w.cells? 0 (a.add<|i*2) 2=some [.string d.1,.int .i64 d.2]/\sJ d/\3<=Rows.uptoBulk (D i)) (λi H=>by have⟨y,G,I⟩:=k i O9;have O:=Fu (gB.2 ⟨i,wB.2 H,rfl⟩:D i∈(List.range L).map D);obtain⟨p,rfl,g,b⟩:=aaI I (by simp only;omega);exact⟨p,G,g,b⟩)
 have J:=Fv 3 (l:=(List.range L).map D) (λd M=>by obtain⟨i,H,rfl⟩:=gB.1 M;exact(q i<|wB.1 H).2.2)
 simp[dS,List.length_range]at J;refine⟨(List.range L).map f,some a,m,by simp[c],⟨λF=>?_,λK e=>by cases e;simpa using u,λx r=>?_,by simp;omega⟩⟩;have j:0<L:=by obtain e|e:=pJ L;simp_all;exact e
 have⟨C,_⟩:=q 0 j;obtain⟨b,o,rfl⟩:=NA (by simpa using C) D9;refine⟨b,o,rfl,λi d g=>?_⟩;obtain⟨H,rfl⟩:=Fs f L i d g;have:=Jn (q i H).1;exact⟨this 0 D9,this 1 D9⟩;obtain⟨i,H,rfl⟩:=gB.1 r;exact(q i<|wB.1 H).2.1
def QY{F C x}(h:DataW.trod enc Tryz.prog w 0 (λ_=>true) held F 26 C=some x):∃c:Go.Proofs.aH.fL,C=c.cells:=by have⟨u,n,_,_,o,H,a⟩:=DataW.trod_struct Tryz.underlying26 h;match C,o.trans ahf with
 |[y,z,A,B,v],_=>match u,H with
   |[_,_,_,_,_],_=>have g:=a 0 _ rfl;have i:=a 1 _ rfl;have j:=a 2 _ rfl;have k:=a 3 _ rfl;have l:=a 4 _ rfl;simp[aaH]at g i j k l;have⟨p,b,_⟩:=zY Tryz.underlying3 g;have⟨q,e,_⟩:=zY Tryz.underlying3 i;have⟨r,d,_⟩:=zY Tryz.underlying3 j;have⟨s,m,_⟩:=zY Tryz.underlying3 k;have⟨t,f,_⟩:=zY Tryz.underlying3 l;simp at b e d m f;exact⟨⟨p,q,r,s,t⟩,by rw[b,e,d,m,f];rfl⟩
def aaJ{X n x}(h:DataW.trod enc Tryz.prog w 0 (λ_=>true) held X 74 n=some x)(u:Rows.uptoBulk x.1<=1048576):∃o b d,n=opC o (b,o.NB,d)/\OpI o/\aeN w b d o.NB:=by have⟨K,ab,_,R,D,Y,a⟩:=DataW.trod_struct Tryz.underlying74 h;match n,D.trans ahe with
 |[c0,c1,c2,c3,L,M,N,O,P,Q],_=>match K,Y with
   |[S,T,U,V,W,aa],_=>
     have k:=a 0 _ rfl;have m:=a 1 _ rfl;have p:=a 2 _ rfl;have q:=a 3 _ rfl;have r:=a 4 _ rfl;have t:=a 5 _ rfl;simp[aaH,ahc,Tryz.QX,ahf]at k m p q r t;have⟨E,e,_,I⟩:=zY Tryz.underlying3 k;have⟨F,f,_,π⟩:=zY Tryz.underlying3 m;have⟨s,g,_⟩:=DataW.trod_string Tryz.underlying9 p;have⟨G,i,_,J⟩:=zY Tryz.underlying3 r;have⟨c,j⟩:=QY t;have⟨l,b,d,v,H⟩:=Xp q<|by rw[R]at u;simp[gJ,qL,Rows.uptoBulk,Rows.uptoBulkAll]at u;omega
     simp at e f g i;simp[Go.Proofs.aH.fL.cells]at j;refine⟨⟨E,F,s.data.toList,l,G,c⟩,b,d,?_,⟨EK I,EK π,EK J⟩,H⟩;have⟨y,z,A,B,C⟩:=j;rw[e,f,g,v,i,y,z,A,B,C];rfl
def Xq{K v x}(h:DataW.trod enc Tryz.prog w 0 (λ_=>true) held K 22 [v]=some x)(z:Rows.uptoBulk x.1<=1048576):∃(l:List U7)(S:Option Addr)(G:Nat),v=.slice S l G/\ahW w S G l/\l.length<=1048576:=by
 obtain⟨c,_⟩|⟨a,L,T,m,n,D,A,c,_,E,_,t,r,k⟩:=Go.Deep.open_slice Tryz.underlying22 h;simp at c;exact⟨[],none,0,c,⟨λh=>absurd rfl h,λa e=>(by cases e)⟩,by decide⟩;simp at c;subst t;rw[ahe]at k;have π:Rows.uptoBulkAll ((List.range L).map D)<=1048576:=by rw[r]at z;simp[Rows.uptoBulk]at z;omega
 have u:dU w a.block\/(L=0/\m=0):=by by_cases H:0<m;have⟨J,C,_⟩:=k 0 H;exact .inl<|yE (by simpa using C) D9;omega
 haveI:Inhabited U7:=⟨⟨0,0,[],[],0,⟨0,0,0,0,0⟩⟩⟩;have⟨f,q⟩:=Go.Deep.choose_lt (α:=U7) (n:=L) (p:=λi d=>∃V s,w.cells? 0 (a.add<|i*10) 10=some (opC d (V,d.NB,s))/\OpI d/\aeN w V s d.NB) (λi y=>by have⟨J,O,P⟩:=k i O9;have W:=Fu (gB.2 ⟨i,wB.2 y,rfl⟩:D i∈(List.range L).map D);obtain⟨o,V,s,rfl,g,b⟩:=aaJ P (by simp only;omega);exact⟨o,V,s,O,g,b⟩)
 have Q:=Fv 1 (l:=(List.range L).map D) (λd U=>by cases d with
  |lit l=>cases l<;>simp[Rows.uptoBulk]
  |_=>simp[Rows.uptoBulk])
 simp[dS,List.length_range]at Q;refine⟨(List.range L).map f,some a,m,by simp[c],⟨λF=>?_,λR e=>by cases e;simpa using u⟩,by simp;omega⟩;have H:0<L:=by obtain e|e:=pJ L;simp_all;exact e
 have⟨_,_,C,_⟩:=q 0 H;obtain⟨b,o,rfl⟩:=NA (by simpa using C) D9;refine⟨b,o,rfl,λi d g=>?_⟩;obtain⟨y,rfl⟩:=Fs f L i d g;have⟨V,s,I,M,N⟩:=q i y;have:=Jn I;exact⟨V,s,λj u B=>(this j (have:=(bK.1 B).1;this)).trans B,M,N⟩
end
section
variable{G:Gs}{W w:World}{args oF:Array Value}
def uH(S:Go.Ren.Start G W w args oF){b o v}(h:W.cell? (b,o)=some v)(d:kp (dU W) v):w.cell? ⟨b,o,none⟩=some v:=by have⟨C,t,f,a⟩:=za h;have⟨i,g,_,e,_⟩:=S.cells b C t f a;simpa[World.cell?,g]using e o v (by simpa[World.cell?,a]using h) d
def ND(S:Go.Ren.Start G W w args oF){b o a}(h:W.cell? (b,o)=some (.slice (some a) 0 0)):∃d,w.cell? ⟨b,o,none⟩=some (.slice (some d) 0 0):=have⟨C,t,f,c⟩:=za h;have⟨k,j,_,_,g⟩:=S.cells b C t f c;have⟨d,e⟩:=g o a (by simpa[World.cell?,c]using h);⟨d,by simpa[World.cell?,j]using e⟩
def Xr(S:Go.Ren.Start G W w args oF){i:Nat}{l d P}(h:args[i]?=some (.slice d l.length P))(s:ahW W d P l):∃v,oF[i]?=some (.slice v l P)/\uG w v l:=by
 by_cases C:∀a,d=some a->dU W a.block;refine⟨d,S.aji i _ h ?_,⟨λB=>?_⟩⟩;obtain _|a:=d;trivial;exact C a rfl;obtain⟨g,o,rfl,F⟩:=s.at_ B;refine⟨g,o,rfl,λj x D=>?_⟩;have⟨t,J,A,I,m⟩:=F j x D;have Q:∀f,w.cell? (g,o+j*10+3)=some (.slice f x.NB J)->(x.NB≠[]->f=t)->∃v,(∀k u,(opC x v)[k]?=some u->w.cell? (g,o+j*10+k)=some u)/\qg w x v:=λf n M=>by
  refine⟨.slice f x.NB J,λk u E=>?_,⟨I.kind,I.node,I.h,⟨f,J,rfl,λz=>?_⟩,m.ok,m.len⟩⟩;match k with
  |3=>cases E;exact n
  |0|1|2|4|5|6|7|8|9=>cases E;exact uH S (A _ _ rfl) trivial
  |k+10=>cases E
  have⟨b,N,L,u⟩:=m.at_ z;exact⟨b,N,(M z).trans L,λk y r=>⟨uH S (u k y r).1 trivial,uH S (u k y r).2 trivial⟩⟩
 by_cases H:∀a,t=some a->dU W a.block;refine Q t (uH S (A 3 _ rfl) ?_) λ_=>rfl;obtain _|a:=t;trivial;exact H a rfl;obtain _|a:=t;exact absurd (λa e=>by cases e) H;have p:¬dU W a.block:=λh=>H λq e=>by cases e;exact h
 obtain⟨c,rfl⟩:=(m.real a rfl).resolve_left p;have K:=A 3 _ rfl;rw[c]at K;have⟨q,n⟩:=ND S K;exact Q (some q) (c▸n) λz=>absurd (lW c) z;obtain _|a:=d;exact absurd (λa e=>by cases e) C;have p:¬dU W a.block:=λh=>C λq e=>by cases e;exact h
 obtain⟨c,rfl⟩:=(s.real a rfl).resolve_left p;rw[c]at h;have⟨q,O⟩:=S.ajj i a h;exact⟨some q,c▸O,⟨λB=>absurd (lW c) B⟩⟩
end
open Go.Conc
def FJ(a k l d h):(#[.string k,.string l,.string d,.int .i64 h]:Array Value).map (aV a)=#[↑k,↑l,↑d,↑h]:=by simp
def ajz(h:gY.X 221):False:=by revert h;unfold gY.X aI.X aI.code;decide
def ahk(h:aI.X0 221):False:=by revert h;unfold aI.X0;decide
def aa6(k l d h)(j:h<9223372036854775808)(w):Tree gY.prog (λv _=>v=.tuple #[(Go.Proofs.aH.uJ<|Go.Proofs.aH.kG k l d h).1,(Go.Proofs.aH.uJ<|Go.Proofs.aH.kG k l d h).2]) (cF gY.prog 221 #[(Go.Proofs.aH.mk k),(Go.Proofs.aH.mk l),(Go.Proofs.aH.mk d),h] .normal []) w:=by
 refine Ay (G:=Gs.self) (μ:=λ_=>none) (aU:=λv _=>v=.tuple #[(Go.Proofs.aH.uJ<|Go.Proofs.aH.kG k l d h).1,(Go.Proofs.aH.uJ<|Go.Proofs.aH.kG k l d h).2]) rfl (@aI.ahX gY.vb _) (@aI.aa7 gY.vb _) (@aI.Xv gY.vb) (λf h=>ahl f<|by obtain rfl:=h;rfl) ⟨⟨tO (@aI.Xv gY.vb) ahk _<|.inl rfl,rfl,rfl,rfl,rfl,rfl⟩,⟨λ_ _ _ h=>(by cases h),λ_ _ h=>(by cases h),λ_ _ h=>(by cases h),λ_ _=>rfl⟩,λ_ _ h=>(by cases h),rfl,λq _ _=>?_⟩ (λt=>?_) λv W o s p m _ O _ n=>?_;simp[oH,cF];rw[qE,FJ];have g:=letI:=gY.vb;Go.Proofs.aH.LC k l d h {w with tape:=t,drawn:=0} j;have⟨N,v,W,a,b⟩:=Calls.done (R:=λv _=>v=.tuple #[(Go.Proofs.aH.uJ<|Go.Proofs.aH.kG k l d h).1,(Go.Proofs.aH.uJ<|Go.Proofs.aH.kG k l d h).2]) (g.mono λe W i=>by obtain⟨rfl,_⟩:=i;rfl) (by have:=((@aI.Xv gY.vb).ok 221 ahk).2;simpa[yt]using this)
 exact⟨N,v,W,a,b⟩;have⟨q,r,c⟩:=O.one;rw[n q r c,m];simp[aV]
def ae1{u x}(k l d)(p:u.key x=Go.Proofs.aH.mk k)(q:u.lock x=Go.Proofs.aH.mk l)(n:u.id x=Go.Proofs.aH.mk d)(o:u.aT x<9223372036854775808):zf u x (Go.Proofs.aH.uJ (Go.Proofs.aH.kG k l d<|u.aT x)).1 (Go.Proofs.aH.uJ (Go.Proofs.aH.kG k l d<|u.aT x)).2:=by
 intro T W t w;rw[p,q,n];have a:=IC (P:=Tryz.prog) (tl:=T) (G:=Gs.self) (@aI.fit gY.vb _) (@aI.calls gY.vb _) (@aI.kin gY.vb) ahl t (aa6 k l d (u.aT x) o {W with heap:=#[]}) (λ_=>none) (cF Tryz.prog 221 #[(Go.Proofs.aH.mk k),(Go.Proofs.aH.mk l),(Go.Proofs.aH.mk d),(u.aT x)] .normal T) W ⟨⟨tO (@aI.kin gY.vb) ajz _<|.inl rfl,rfl,rfl,rfl,rfl,rfl⟩,⟨λ_ _ _ h=>(by cases h),λ_ _ h=>(by cases h),λ_ _ h=>(by cases h),λ_ _=>rfl⟩,λ_ _ h=>(by cases h),rfl,λz _ _=>?_⟩ rfl
 have s:range (λ_=>none)=λ_=>False:=by funext c;exact propext ⟨λ⟨_,h⟩=>(by cases h),False.elim⟩
 rw[s]at a;refine a.mono λB g W m=>?_;obtain⟨v,y,C,A,E,D,b,e,rfl,f,i⟩:=m;have⟨z,r,c⟩:=i.one;refine⟨A,E,?_,e⟩;rw[b,f z r c];simp[aV];simp[oH,cF];rw[qE,FJ,(@aI.kin gY.vb).same 221 ajz]
open Go.Conc.Locks
def Vn{P S B s f k e a}(K:∀F,tP f k F->fC P S B s (yH F e) a 0)(t):fC P S B s (Conc.G ((iO f k).at ⟨t,[]⟩ []) e) a 0:=.step rfl (λd=>⟨_,_,_,stepG_end,S8⟩) (λd g w E e=>by cases stepG_end▸e;exact(K _ ⟨rfl,rfl,rfl,rfl⟩).at d)
def Oa{G}(z:Nat->Option Nat)(w)(aU:Value->World->Prop):rT aI.X Vp Tryz.prog G z w aU 43:=by intro M ab k cs r ae W af gs sl ad ac S R v U H I J L T N;obtain⟨aa,_,_,_,_,_,s,E,A,Q,f,y⟩:=LO (n:=22) (m:=22) R U aI.func43 (cv:=aI.rlock) rfl Go.Proofs.YtpjcmpfncpnmeaaGreat.Cj.f_rlock rfl (aI.ntmps43▸D9) D9;have h:=JB v;rw[s]at h;obtain⟨bl,p,b9,ca,cb,n,rfl,j,c2,l,a,Y,X,O,u,x⟩:=Go.Proofs.aH.XO y Q h;obtain⟨c,b,rfl⟩:=A _ rfl;obtain⟨d,C,_⟩:=f.cell b j;obtain⟨i,D,_⟩:=f.cell b l;obtain⟨g,t,π,o,q⟩:=f.XM (k:=.i32) (n:=n+1) b a;rw[<-s]at x;refine xL (V:=Vp) (frV:={(iO 43 k).at ⟨u,[]⟩ []with mode:=.returning}) pS Jv Fw R v H I J L T N aI.func43 rfl Go.Proofs.YtpjcmpfncpnmeaaGreat.Cj.f_rlock rfl (by decide+kernel) ⟨rfl,rfl,rfl,rfl⟩ x (λF K=>?_) g.ok g.obj g.os g.tp t (λB P=>π B λe=>P _<|e▸b) o q;rw[E];exact Rk Go.Proofs.YtpjcmpfncpnmeaaGreat.Cj (iO 43 k) y rfl r W c p d i n (R.ok.lt _ _ b).2 C D (f.int b a) ((f.frozen b).trans O) O9 O9<|Vn K
def ID{G}(z:Nat->Option Nat)(w)(aU:Value->World->Prop):rT aI.X Vp Tryz.prog G z w aU 44:=by intro M ab k cs r ae W af gs sl ad ac S R v U H I J L T N;obtain⟨aa,_,_,_,_,_,s,E,A,Q,f,y⟩:=LO (n:=22) (m:=23) R U aI.func44 (cv:=aI.runlock) rfl Go.Proofs.YtpjcmpfncpnmeaaGreat.Cj.f_runlock rfl (aI.ntmps44▸D9) D9;have h:=JB v;rw[s]at h;obtain⟨bl,p,ca,cb,cd,n,rfl,j,l,c3,a,Y,X,O,u,x⟩:=Go.Proofs.aH.Ob y Q h;obtain⟨c,b,rfl⟩:=A _ rfl;obtain⟨d,C,_⟩:=f.cell b j;obtain⟨i,D,_⟩:=f.cell b l;obtain⟨g,t,π,o,q⟩:=f.XM (k:=.i32) (n:=n -1) b a;rw[<-s]at x;refine xL (V:=Vp) (frV:={(iO 44 k).at ⟨u,[]⟩ []with mode:=.returning}) pS Jv Fw R v H I J L T N aI.func44 rfl Go.Proofs.YtpjcmpfncpnmeaaGreat.Cj.f_runlock rfl (by decide+kernel) ⟨rfl,rfl,rfl,rfl⟩ x (λF K=>?_) g.ok g.obj g.os g.tp t (λB P=>π B λe=>P _<|e▸b) o q;rw[E];exact LQ Go.Proofs.YtpjcmpfncpnmeaaGreat.Cj (iO 44 k) y r W c p d i n (R.ok.lt _ _ b).2 C D (f.int b a) ((f.frozen b).trans O) O9 O9<|Vn K
def Rm{G}(ac:Nat->Option Nat)(w)(aU:Value->World->Prop):rT aI.X Vp Tryz.prog G ac w aU 35:=by intro aj al k cs s ao W ap gs sl an am ad R y π J K L N Y P;obtain⟨ak,_,_,_,_,_,u,H,D,U,f,A⟩:=LO (n:=22) (m:=42) R π aI.func35 (cv:=aI.lock) rfl Go.Proofs.YtpjcmpfncpnmeaaGreat.Cl.f_wlock rfl (aI.ntmps35▸D9) D9;have h:=JB y;rw[u]at h;obtain⟨bl,o,di,dj,rfl,C,t,v,I,T,Q,ab,z⟩:=Go.Proofs.aH.abw A U h;obtain⟨c,b,rfl⟩:=D _ rfl;obtain⟨p,E,_⟩:=f.cell b t;obtain⟨q,F,_⟩:=f.cell b v;obtain⟨l,j,S,a,i⟩:=f.XM (k:=.i32) (n:=1) b C;obtain⟨g,sz,d,O,X⟩:=l.XM (k:=.i32) (n:=-1073741824) (off:=o+4) (x:=.int .i32 0) b G9;rw[<-u]at z;refine xL (V:=Vp) (frV:={(iO 35 k).at ⟨ab,[]⟩ []with mode:=.returning}) pS Jv Fw R y J K L N Y P aI.func35 rfl Go.Proofs.YtpjcmpfncpnmeaaGreat.Cl.f_wlock rfl (by decide+kernel) ⟨rfl,rfl,rfl,rfl⟩ z (λaf M=>?_) g.ok g.obj g.os g.tp (sz.trans j) (λr B=>(d r λe=>B _<|e▸b).trans (S r λe=>B _<|e▸b)) (O.trans a)<|X.trans i;rw[H];exact Ro Go.Proofs.YtpjcmpfncpnmeaaGreat.Cl (iO 35 k) A s W c o p q (R.ok.lt _ _ b).2 (f.int b C) E F (f.int b I) ((f.frozen b).trans T) ((f.frozen b).trans Q)<|Vn M
def LR{G}(ac:Nat->Option Nat)(w)(aU:Value->World->Prop):rT aI.X Vp Tryz.prog G ac w aU 36:=by intro aj al k cs s ao W ap gs sl an am ad R y π K L M O C Q;obtain⟨ak,_,_,_,_,_,u,I,E,Y,f,A⟩:=LO (n:=22) (m:=42) R π aI.func36 (cv:=aI.unlock) rfl Go.Proofs.YtpjcmpfncpnmeaaGreat.Cl.f_wunlock rfl (aI.ntmps36▸D9) D9;have h:=JB y;rw[u]at h;obtain⟨bl,o,di,dj,rfl,v,D,J,a,U,T,ab,z⟩:=Go.Proofs.aH.Rp A Y h;obtain⟨c,b,rfl⟩:=E _ rfl;obtain⟨q,F,_⟩:=f.cell b D;obtain⟨t,H,_⟩:=f.cell b J;obtain⟨p,l,S,d,j⟩:=f.XM (k:=.i32) (n:=0) b a;obtain⟨g,sz,i,P,X⟩:=p.XM (k:=.i32) (n:=0) (off:=o) (x:=.int .i32 1) b G9;rw[<-u]at z;refine xL (V:=Vp) (frV:={(iO 36 k).at ⟨ab,[]⟩ []with mode:=.returning}) pS Jv Fw R y K L M O C Q aI.func36 rfl Go.Proofs.YtpjcmpfncpnmeaaGreat.Cl.f_wunlock rfl (by decide+kernel) ⟨rfl,rfl,rfl,rfl⟩ z (λaf N=>?_) g.ok g.obj g.os g.tp (sz.trans l) (λr B=>(i r λe=>B _<|e▸b).trans (S r λe=>B _<|e▸b)) (P.trans d)<|X.trans j;rw[I];exact LS Go.Proofs.YtpjcmpfncpnmeaaGreat.Cl (iO 36 k) A s W c o q t (R.ok.lt _ _ b).2 (f.int b v) F H (f.int b a) ((f.frozen b).trans U) ((f.frozen b).trans T) (C _ _ b)<|Vn N
def Rq{G c W aU}(h:rT aI.X Vp Tryz.prog G c W aU 205):LP aI.X Vp Tryz.prog G c W aU:=by
 refine XN λf a=>?_;unfold aI.X aI.code at a;by_cases e:f=43;.subst e;exact Oa _ _ _
 by_cases e:f=44;.subst e;exact ID _ _ _
 by_cases e:f=35;.subst e;exact Rm _ _ _
 by_cases e:f=36;.subst e;exact LR _ _ _
 by_cases e:f=205;.simp_all
 simp only[*,vJ,List.contains_cons,List.contains_nil,Np,Jc,Aa]at a;split at a
 .rename_i b;obtain rfl|rfl|rfl|rfl|rfl|rfl:=b;.exact kP aI.func2 rfl
  .exact kP aI.func118 rfl
  .exact kP aI.func120 rfl
  .exact kP aI.func160 rfl
  .exact kP aI.func218 rfl
  .exact kP aI.func222 rfl
 .cases a
open Go.ConcN
structure TrP(W:World)(T o x:Nat)(r:ByteArray×ByteArray×ByteArray×Int):Prop where
 k:W.cell? ⟨T,o+x*4,none⟩=some (.string r.1)
 l:W.cell? ⟨T,o+x*4+1,none⟩=some (.string r.2.1)
 d:W.cell? ⟨T,o+x*4+2,none⟩=some (.string r.2.2.1)
 h:W.cell? ⟨T,o+x*4+3,none⟩=some (.int .i64 r.2.2.2)
 lt:r.2.2.2<9223372036854775808
def Rb{V G i w W}(h:Tw V G i w W){b c o s}(e:i b=some c)(f:w.cell? (b,o)=some (.string s)):W.cell? ⟨c,o,none⟩=some ↑s:=by have⟨g,a,d⟩:=h.cell e f;have⟨j,r,C⟩:=h.ok.one;rw[a,d j r C];simp[aV]
def given{G H E s k J y w W p}{N F I:Nat}{c:Array Value}{S:Nat->Prop}(R:Cb aI.X Vp Tryz.prog G H 205 E k J w s y W)(D:w.tape=W.tape)(C:∀b c,H b=some c->¬S c)(t:E[0]?=some (.slice p N F))(z:E[1]?=some (.int .i64 I))
 (v:∀x,x<N->∃T o k l d n,p=some ⟨T,o,none⟩/\Go.Proofs.aH.Az w T o x k l d n/\c[x]?=some ↑(Go.Proofs.aH.AA k l d n)):
 s[1]?=some (.int .i64 I)/\∃(P:Option Addr)(T o:Nat)(f:Nat->ByteArray×ByteArray×ByteArray×Int),s[0]?=some (.slice P N F)/\(0<N->P=some ⟨T,o,none⟩/\T<W/\¬S T)/\∀x,x<N->TrP W T o x (f x)/\c[x]?=some ↑(Go.Proofs.aH.AA (f x).1 (f x).2.1 (f x).2.2.1 (f x).2.2.2):=by
 have q:Tw Vp G H w W:=⟨R.ok,R.obj,R.os,D⟩;refine⟨?_,?_⟩;have⟨g,r,i⟩:=R.ok.one;rw[(R.g g r i).1,kW,z];simp[aV];cases p with
 |none=>
   have hN:¬0<N:=λh=>by have⟨T,o,_,_,_,_,j,_⟩:=v 0 h;cases j
   refine⟨none,0,0,λ_=>(⟨#[]⟩,⟨#[]⟩,⟨#[]⟩,0),?_,λh=>absurd h hN,λx h=>absurd (aab (cH _) h) hN⟩;have⟨g,r,i⟩:=R.ok.one;rw[(R.g g r i).1,kW,t];simp[aV]
 |some a=>
   by_cases hN:N=0;subst hN;have⟨g,r,i⟩:=R.ok.one;refine⟨Rc g (some a) 0 F,0,0,λ_=>(⟨#[]⟩,⟨#[]⟩,⟨#[]⟩,0),?_,λh=>absurd h O9,λx h=>absurd h O9⟩;rw[(R.g g r i).1,kW,t];simp[aV];have⟨b,e,u⟩:=R.slice t hN;have:∀x,∃r:ByteArray×ByteArray×ByteArray×Int,x<N->TrP W b a.off x r/\c[x]?=some ↑(Go.Proofs.aH.AA r.1 r.2.1 r.2.2.1 r.2.2.2):=λx=>by by_cases h:x<N;have⟨T,o,k,l,d,n,j,m,A⟩:=v x h;cases j;exact⟨(k,l,d,n),λ_=>⟨⟨Rb q e m.k,Rb q e m.l,Rb q e m.d,q.int e m.h,m.lt⟩,A⟩⟩;exact⟨(⟨#[]⟩,⟨#[]⟩,⟨#[]⟩,0),λu=>absurd u h⟩
   have⟨f,B⟩:=Classical.axiomOfChoice this;refine⟨some {a with block:=b},b,a.off,f,u,λh=>⟨?_,(R.ok.lt _ _ e).2,C _ _ e⟩,B⟩;have⟨T,o,_,_,_,_,j,_⟩:=v 0 h;cases j;rfl
def LD{G}(μ0:Nat->Option Nat)(W0)(aU:Value->World->Prop):rT aI.X Vp Tryz.prog G μ0 W0 aU 205:=by
 intro args ba k cs bd w W μ gs sl t q S R O U h0 D au B J s;have P:(iO 205 k).kind≠.early:=by obtain rfl|rfl:=R.kind<;>simp[iO]
 have a3:∀p n c a,args[0]?=some (.slice p n c)->p=some a->0<n->∃Y,w.heap[a.block]?=some Y/\dY Vp Y=true:=λp n c a h0 a0 E=>by subst a0;have⟨b,B,_⟩:=R.slice h0 O9;have⟨o,o',m,_,H,_⟩:=R.obj _ _ B;exact⟨o,m,H⟩
 have⟨p,N,cp,wk,aj,ak,aa,bq,br,frV,wv,ag,a9,ai,F,c,ay,bo,i⟩:=Go.Proofs.aH.ajA P O a3;have⟨ae,p',T,o,f,ab,a2,y⟩:=given R U J aj ak i;have⟨M,bu,bj,W',bs,a',q',W1,r1,A,j⟩:=ajx (T:=T) (o:=o) (key:=λx=>(f x).1) (lock:=λx=>(f x).2.1) (id:=λx=>(f x).2.2.1) (aT:=λx=>(f x).2.2.2) (er:=λx=>Go.Proofs.aH.AA (f x).1 (f x).2.1 (f x).2.2.1 (f x).2.2.2) (nr:=λx=>Go.Proofs.aH.ae2 (f x).1 (f x).2.1 (f x).2.2.1 (f x).2.2.2) (sl:=sl) P h0 D au B ab ae O9 aa O9 a2 (λx i=>⟨(y x i).1.k,(y x i).1.l,(y x i).1.d,(y x i).1.h⟩) (λx i=>by have:=ae1 (u:=Av W T o cp wk (λx=>(f x).1) (λx=>(f x).2.1) (λx=>(f x).2.2.1) λx=>(f x).2.2.2) (x:=x) (f x).1.data.toList (f x).2.1.data.toList (f x).2.2.1.data.toList rfl rfl rfl (y x i).1.lt;exact this)
 obtain⟨bg,af,a8,rfl⟩:=j.here;have bk:=F.size;refine LF (μ':=λb=>if b=(w:Nat)then some ((W:Nat)+2)else μ b) (S':=λc=>S c\/c=(W:Nat)+4) pS Jv Fw R O (λb g h=>?_) aI.func205 ?_ Tryz.func205 ?_ ?_ ag a9 ai af a8 ?_ ?_ r1 j.h0 j.lv j.LG ?_ ?_ ?_ ?_ ?_ ?_ ?_;.have:=(R.ok.lt _ _ h).1;simp only;rw[aJ O9];exact h
 .rfl
 .rfl
 .decide+kernel
 .rw[eN];refine⟨rfl,rfl,(by show yt Vp 205=true;decide+kernel),?_⟩;obtain rfl|rfl:=R.kind<;>simp[held,NP]
 .intro Z r ah;have:=ah w ((W:Nat)+2) S8;have V:zX Z N N ((w:Nat),0)=cL Z ((w:Nat),0):=eZ (by rw[r.gh];exact R.ok.low _ L9);simp[aV,Rc,V,cL,this,nG]
 .intro g C;have D:(W:Nat)+5<=(W':Nat):=j.L;obtain h|rfl:=C;.have:=B _ h;omega
  .omega
 .intro b g h z;split at h
  .cases h;obtain z|z:=z;.have:=B _ z;omega
   .omega
  .obtain z|rfl:=z;.exact J _ _ h z
   .have:=(R.ok.lt _ _ h).2;omega
 .have D:(W:Nat)+5<=(W':Nat):=j.L;refine⟨λa b g m v=>?_,λb g h=>?_,λb g h=>?_,λb bm=>R.ok.low b O9⟩
  .split at m<;>split at v;.omega
   .cases m;have:=(R.ok.lt _ _ v).2;omega
   .cases v;have:=(R.ok.lt _ _ m).2;omega
   .exact R.ok.inj _ _ _ m v
  .split at h;.cases h;omega
   .have:=R.ok.lt _ _ h;omega
  .split at h;.rename_i e;exact R.ok.low b O9
   .exact R.ok.real _ _ h
 .intro b g h;dsimp only at h;split at h
  .rename_i av;subst av;cases h;have⟨c2,a6,a7⟩:=j.pay;have π:W'.heap[(W:Nat)+2]?=some (.cells c2 38):=a6;have bp:c2.size=N:=a7;have hint:∀x,x<N->c2[x]?=c[x]?/\∃n,c[x]?=some (.int .i64 n):=λx i=>by
    have m:=j.has (x%wk) (by have:=Nat.mod_lt x aa;have:=Nat.mod_le x wk;omega) x ⟨i,rfl⟩;have v:W'.cell? ((W:Nat)+2,x)=c2[x]?:=by simp[World.cell?,π]
    have ao:W'.cell? ((W:Nat)+2,x)=some (Go.Proofs.aH.AA (f x).1 (f x).2.1 (f x).2.2.1 (f x).2.2.2):=m;exact⟨v.symm.trans<|ao.trans (y x i).2.symm,_,(y x i).2⟩
   have az:c2=c:=by
    apply zW;intro x;by_cases i:x<N;.exact(hint x i).1
    .rw[Nh O9,Nh O9]
   refine⟨_,_,ay,π,rfl,λZ r bf=>?_⟩;simp only[iG];rw[az];congr 1;apply zW;intro x;rw[kW];by_cases i:x<N;.have⟨_,n,E⟩:=hint x i;rw[E];simp[aV]
   .rw[Nh O9];rfl
  .have⟨a4,a5,m,v,H,ar⟩:=R.obj _ _ h;have Q:=R.ok.lt _ _ h;have I:=j.low g ⟨by show g<(W:Nat)+5;omega,by show g≠(W:Nat)+2;omega,by show g≠(W:Nat)+4;omega,J _ _ h⟩;exact⟨a4,a5,(F.old b Q.1).trans m,(I.trans<|FH A Q.2).trans v,H,ar.ext λbb bc K=>by have:=(R.ok.lt _ _ K).1;rw[aJ O9];exact K⟩
 .exact(congrArg Prod.fst<|j.os.trans A.os).trans<|R.os.trans F.os.symm
 .exact(F.tape.trans U).trans (j.tape.trans A.tape).symm
 .have D:(W:Nat)+5<=(W':Nat):=j.L;have V:=s.size;refine⟨λb g h=>?_,O9,λg C E=>?_,λb g h C=>?_,(congrArg Prod.snd<|j.os.trans A.os).trans s.out,(congrArg Prod.fst<|j.os.trans A.os).trans s.os,λg h=>?_⟩;.have:=s.ext _ _ h;have:=(R.ok.lt _ _ this).1;rw[aJ O9];exact s.ext _ _ h
  .have I:=j.low g ⟨by show g<(W:Nat)+5;omega,by show g≠(W:Nat)+2;omega,by show g≠(W:Nat)+4;omega,λe=>by have:=s.new _ e;omega⟩;exact(I.trans<|FH A O9).trans<|s.rest g C E
  .split at h;.cases h;omega
   .exact s.old _ _ h C
  .obtain h|rfl:=h;.exact s.new _ h
   .omega
def ah9{G}(a:Nat->Option Nat)(W)(aU:Value->World->Prop):LP aI.X Vp Tryz.prog G a W aU:=Rq<|LD a W aU
def meet{G b W aU g w}(a:Tree Vp aU g w)(m t)(h:uL aI.X Vp Tryz.prog G b W g w m t):Go.Ren.Ends Tryz.prog (DK Vp G aU b W) m t:=XP pS Jv Fw (ah9 b W aU) a m t h
def aeO{a}{v:Array Value}(h:v.size=1)(b:v[0]?=some a):v=#[a]:=by grind
def aaK{w c l t d}(h:uG w c l):uG {w with tape:=t,drawn:=d} c l:=⟨λn=>have⟨g,o,e,f⟩:=h.at_ n;⟨g,o,e,λi x j=>have⟨v,a,b⟩:=f i x j;⟨v,a,⟨b.kind,b.node,b.h,b.at_,b.ok,b.len⟩⟩⟩⟩
def Tryz.akq:ownKnob Tryz.prog.godebug=none:=K8
def Tryz.aaL:laidOutB Tryz.prog=true:=K8
def NF{W a}(h:aaM W a):Below W W {a with os:=W.os,tape:=W.tape}:=⟨rfl,rfl,h.out,h.size,h.block⟩
open Go.ConcM (OsLater)
def aaN(h:aI.X 3):False:=by revert h;unfold aI.X aI.code;decide
def Jo(h:aI.X0 3):False:=by revert h;unfold aI.X0;decide
def aaO(l c A W)(n:ahW W c A l)(z:l.length<=1048576):Go.Ren.Ends Tryz.prog (λv q=>v=true/\aaM W q) (solo (cF Tryz.prog 3 #[(c,l,A)] .normal []) W) #[]:=by
 have⟨G,w,B,S⟩:=Xt W #[(c,l,A)];have⟨u,g,o⟩:=Xr S (i:=0) rfl n;have j:=aeO S.ajk g;subst j;refine Xu aI.ahX ahg aI.Xv Go.Proofs.aH.NG Fw Jo aaN S (λp m t h=>meet p m t h) λt=>?_;have⟨d,v,a,x,y⟩:=Calls.done (R:=λv a=>v=true/\Whole w a) ((Go.Proofs.aH.aaP l u A {w with tape:=t,drawn:=0} (aaK o) z).mono λe a r=>by obtain⟨rfl,s⟩:=r;exact⟨rfl,λb C t f h=>(s.block b (eD.1 h).1).trans h⟩) (by have:=(aI.Xv.ok 3 Jo).2;simpa[yt]using this)
 exact⟨d,v,a,x,y⟩
def QZ(o)(ak:o.Started)(H)(m:TypeId×Value->H)(F):ReturnsInLeavingWide Rows.linesUptoRow.assume Tryz.checked o 3 .any ((Rows.OpenSpec.upto Rows.linesSpec).pre6 m Tryz.prog Tryz.f3 Rows.linesUptoRow.domain false) ((Rows.OpenSpec.upto Rows.linesSpec).postWith m Tryz.prog Tryz.f3 F (outsideKept [.timePasses]) false true false):=by
 refine Ew (C:=Tryz.checked) (cs:=Rows.linesSpec) (k:=Rows.uptoSmall) rfl rfl rfl rfl Tryz.akq ak Tryz.func3 (OpenSpec.aaQ (enc:=m) (C:=Tryz.checked) (k:=Rows.uptoSmall) rfl ⟨#[],#[↑()],[]⟩ 8 K8 K8 K8 (x:=([.nil],[],[])) K8 K8 K8) ?_
 intro W ar aq d g q U r B ap;have s:=r;obtain⟨p,au,G,ao,rfl,_,_⟩:=r;have E:=G;obtain⟨t,f,rfl,rfl,i⟩:=trodAll_one E;obtain⟨rfl,rfl⟩:=trodVars_none ao;have am:∀x∈p,x.block<(W:Nat):=λx a=>by simpa using s.lt x (by simpa[dP]using a)
 have K:∀(c:World),Below W W c->DataW.TrodAll m Tryz.prog c 0 (λb=>decide (b<(W:Nat))) true [22] [t] [f] p:=λc an=>trodAll_mk1<|Below.trod Tryz.aaL K8 (agT K8) i an λx a=>am x a
 obtain⟨e,S,n,rfl⟩:=okWide_slice Tryz.underlying22<|U 0 22 t rfl rfl;have⟨af,ai⟩:=i;have⟨l,ag,sc,T,al,L⟩:=Xq (v:=(e,S,n)) (x:=(f,p)) ai (by have D:Rows.uptoBulkAll [f]<=1048576:=agT B;simp[Rows.uptoBulkAll]at D;simp only;omega)
 cases T;have⟨A,ac,aj,z,Y,π,w,y,X⟩:=(aaO l e n W al L).mono (Post':=λv c=>Rows.linesSpec.post m Tryz.prog Tryz.f3 false true false false W #[(e,l,n)] v {c with os:=W.os}/\OsLater W.os c.os) (λv c h=>by
  obtain⟨rfl,u⟩:=h;refine⟨?_,u.os▸OsLater.refl _⟩;have j:=NF u;have Q:Rows.linesSpec.post m Tryz.prog Tryz.f3 false true false false W #[(e,l,n)] true {c with os:=W.os,tape:=W.tape}:=⟨_,_,_,[],_,[],s,trodAll_mk1<|shut_bool Tryz.underlying4 true,K _ j,rfl,j.frame _,λh=>by cases h⟩
  have⟨d,g,q,E,V,I,J,M,N,O,P,ae⟩:=Q;exact⟨d,g,q,E,V,I,J,M.of_heap (by rfl),N.of_heap (by rfl),O.of_heap (by rfl),P,λh=>by cases h⟩)
 exact⟨A,ac,aj,z,Y,π,w,y,X⟩
theorem lines_holds:Rows.LinesUptoSaid:=ajl 3 Tryz.f3 rfl rfl rfl rfl rfl rfl rfl ⟨rfl,rfl,rfl,rfl,rfl⟩ rfl rfl rfl rfl rfl K8 Tryz.func3 K8 (of_decide_eq_true K8) (by unfold Func.isWrapper;rw[if_neg<|by decide+kernel];exact⟨rfl,rfl⟩)
  (λos started H enc _ F=>QZ os started H enc F)
end Go.Proofs.YtpjcmpfncpnmeaaGreat
