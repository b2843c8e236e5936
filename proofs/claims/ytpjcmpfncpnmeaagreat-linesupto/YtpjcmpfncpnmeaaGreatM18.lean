import Derived.Test.YtpjcmpfncpnmeaaGreatM17
set_option linter.all false
set_option maxHeartbeats 8000000
set_option maxRecDepth 100000
namespace Go.Proofs.aH
open Go.RowKit Go.Ren
abbrev Nm(d:Nat->Option Nat)(j v:Value):Prop:=gN Gs.self d λa=>j=aV a v
def nZ{d w W j v}(T:Tv d w W)(h:Nm d j v)(p:∀a,aV a v=v):j=v:=by have⟨a,P,b⟩:=T.ok.one;rw[h a P b,p]
def ai8{d w W j b}(T:Tv d w W)(h:Nm d j (ptr b)):∃c,j=ptr c/\d b=some c:=by have⟨a,p,P⟩:=T.ok.one;have H:=h a p P;simp[ptr]at H;exact⟨a b,H,T.ok.dom λe r c=>by have:=h e r c;rw[H]at this;simpa[ptr]using this⟩
def T5{d w W b c t C}(T:Tv d w W)(e:d b=some c)(R:Row w b t C):∃a,Row W c t a/\a=C.length/\∀(i:Nat)v,C[i]?=some v->∃j,a[i]?=some j/\Nm d j v:=by have⟨o,O,k,m,_,A⟩:=T.obj b c e;unfold Row at R;cases R▸k;have⟨f,p,P⟩:=T.ok.one;have h:=A f p P;simp only[iG,yz]at h;refine⟨C.map<|aV f,by unfold Row;rw[m,h],by simp,λi v g=>⟨aV f v,by simp[g],λs r q=>?_⟩⟩;have H:=A s r q;rw[h]at H;simp only[iG,yz,Obj.cells.injEq]at H;simpa[g]using(congrArg (λl:Array Value=>l[i]?) H.1)
def M0{d w W B t z v n l j}(T:Tv d w W)(h:w.ownsRow B t z v n l)(q:Nm d j v):∃C,W.ownsRow 0 t z j n C/\C=l.length/\(∀(i:Nat)v,l[i]?=some v->∃j,C[i]?=some j/\Nm d j v)/\∀k,j.ownBlock=some k->∃g,v.ownBlock=some g/\d g=some k:=by
 have⟨a,P,F⟩:=T.ok.one;have H:=q a P F;obtain⟨rfl,A⟩|⟨g,f,y,rfl,L,M,m⟩:=h.2;have e:j=.slice none 0 0:=by rw[H];simp
 subst A;have:l=[]:=lW (by have:=h.1;omega);subst this;exact⟨[],⟨h.1,.inl ⟨e,rfl⟩⟩,rfl,λi v b=>by simp at b,λk x=>by rw[e]at x;cases x⟩;have s:∀a,Rn Gs.self a->aV a (g,n,f)=.slice (some ⟨a g,0,none⟩) n f:=λa r=>by rw[aV,oK,eZ (by rw[r.gh];rfl),AQ]
 rw[s a P]at H;have p:d g=some (a g):=T.ok.dom (λu r c=>by have:=q u r c;rw[H,s u r]at this;simpa using this)
 have R:Row w g t y.toList:=by simp_all[Row]
 have⟨C,G,O,K⟩:=T5 T p R;have o:C=f*z:=by grind
 have N:=UE z m.1;refine⟨C.take<|n*z,⟨by rw[dJ,o];omega,.inr ⟨a g,f,C.toArray,H,cH _,G,m.1,m.2.1,by simp[o],by simp⟩⟩,by rw[dJ,h.1,o];omega,λi v b=>?_,λk x=>by cases H▸x;exact⟨g,rfl,p⟩⟩;have I:=(bK.1 b).1;rw[h.1]at I;rw[m.2.2.2.symm,Du I]at b;have⟨j,J,D⟩:=K i v b;exact⟨j,by rw[Du I];exact J,D⟩
def agB{d w W}{c C:List Value}(T:Tv d w W)(l:C=c.length)(h:∀(i:Nat)v,c[i]?=some v->∃j,C[i]?=some j/\Nm d j v)(p:∀v∈c,∀b,aV b v=v):C=c:=by apply kX;intro i;rcases e:c[i]? with _|v;exact kD (by have:=Dp.1 e;omega);have⟨j,J,a⟩:=h i v e;rw[J,nZ T a (p v<|eY e)]
def M3{d w W B t z v n c j}(T:Tv d w W)(h:w.ownsRow B t z v n c)(q:Nm d j v)(p:∀v∈c,∀e,aV e v=v):W.ownsRow 0 t z j n c:=by have⟨C,H,a,b,_⟩:=M0 T h q;rw[agB T a b p]at H;exact H
def agC:∀(l:List jB),∀v∈og l,∀a,aV a v=v:=λl v m a=>by unfold og at m;have⟨x,_,h⟩:=Jl.1 m;simp[jB.cells]at h;obtain rfl|rfl|rfl:=h<;>simp
def aen:∀(l:List dD),∀v∈kv l,∀a,aV a v=v:=λl v m a=>by unfold kv at m;have⟨x,_,h⟩:=Jl.1 m;simp[dD.cells]at h;obtain rfl|rfl:=h<;>simp
def aeo{d w W}(T:Tv d w W):∀(l:List ku)(C:List Value),C=(wu l).length->(∀(i:Nat)v,(wu l)[i]?=some v->∃j,C[i]?=some j/\Nm d j v)->∃L:List ku,C=wu L/\L=l.length/\L.map ku.m=l.map ku.m/\∀y∈L,∃x∈l,y.ins=x.ins/\y.outs=x.outs/\Nm d y.iv x.iv/\Nm d y.ov x.ov
 |[],C,h,H=>⟨[],lW h,rfl,rfl,λy m=>by cases m⟩
 |x::l,C,h,H=>by have e:wu (x::l)=.int .i64 x.tag::x.iv::x.ov::wu l:=rfl;rw[e]at h H;match C,h with
   |a::b::c::r,h=>
     have⟨J,I,n⟩:=H 0 _ rfl;have⟨p,g,N⟩:=H 1 _ rfl;have⟨s,k,t⟩:=H 2 _ rfl;cases I;cases g;cases k;have⟨L,q,Q,o,u⟩:=aeo T l r (by simpa using h) λi v f=>H (i+3) v<|by simpa using f
     refine⟨⟨x.tag,b,x.ins,c,x.outs⟩::L,?_,by simp[Q],by simp[o,ku.m],λy m=>?_⟩;rw[nZ T n (λz=>by simp),q];rfl;obtain rfl|m:=jO.1 m;grind;grind
def agD{d w W B v j l}(T:Tv d w W)(h:fG B w v l)(q:Nm d j v):∃L,L.map ku.m=l.map ku.m/\fG 0 W j L:=by
 have⟨i,O,D,F,I⟩:=M0 T h.own q;have⟨L,J,K,P,Q⟩:=aeo T l i D F;subst J;rw[<-K]at O;have c:∀(u U:Value){e z n C},w.ownsRow B e z u n C->Nm d U u->(∀k,u.ownBlock=some k->v.ownBlock≠some k)->∀k,U.ownBlock=some k->j.ownBlock≠some k:=λu U _ _ _ _ o n f k H t=>by have⟨_,_,_,_,A⟩:=M0 T o n;have⟨g,G,p⟩:=A k H;have⟨R,r,s⟩:=I k t;rw[T.ok.inj _ _ _ p s]at G;exact f _ G r
 refine⟨L,P,O,λy m=>?_,λy m=>?_⟩;have⟨x,M,E,b,N,a⟩:=Q y m;unfold Hn;rw[E];exact⟨M3 T (h.ins x M).1 N<|agC _,c _ _ (h.ins x M).1 N (h.ins x M).2⟩;have⟨x,M,E,b,N,a⟩:=Q y m;unfold IZ;rw[b];exact⟨M3 T (h.outs x M).1 a<|aen _,c _ _ (h.outs x M).1 a (h.outs x M).2⟩
theorem agE{d w W B K c k}(T:Tv d w W)(h:Ld w B K k)(e:d K=some c):Ld W 0 c k:=by
 have⟨f,b,G,l,M,n,o,p⟩:=h.ex;have⟨C,R,N,r⟩:=T5 T e l;have⟨t,A,D⟩:=r 6 _ rfl;have⟨I,q,s⟩:=r 7 _ rfl;have⟨L,y,z⟩:=agD T o D;have e:C=KC k t I:=by
  apply kX;intro i;by_cases E:i=6;subst E;rw[A];rfl;by_cases a:i=7;subst a;rw[q];rfl;have g:(KC k t I)[i]?=(KC k f b)[i]?:=by match i with
   |0|1|2|3|4|5|8|9=>rfl
   |6=>exact absurd rfl E
   |7=>exact absurd rfl a
   |i+10=>rfl
  rw[g];rcases H:(KC k f b)[i]? with _|v;exact kD (by have:=Dp.1 H;omega);have⟨j,J,u⟩:=r i v H;rw[J,nZ T u λF=>by match i with
   |0|1|2|3|4|5|8|9=>cases H;simp
   |6=>exact absurd rfl E
   |7=>exact absurd rfl a
   |i+10=>cases H]
 rw[e]at R;exact⟨t,I,L,R,cH _,y.trans n,z,M3 T p s λv m F=>by unfold tu at m;obtain⟨x,_,rfl⟩:=gB.1 m;simp⟩
theorem agF{d w W n N c r}(T:Tv d w W)(h:jd w n c r)(e:d n=some N):jd W N c r:=by
 have⟨ad,B,R,o,H,hk⟩:=h.ex;have⟨C,r1,r2,f⟩:=T5 T e R;have⟨V,z,t2⟩:=f 5 _ rfl;have⟨P,Y,o2,π,_⟩:=M0 T o t2;have M:C=NC c V r.last:=by have⟨j0,A,D⟩:=f 0 _ rfl;have⟨J,k,E⟩:=f 1 _ rfl;have⟨y,l,F⟩:=f 2 _ rfl;have⟨j3,m,I⟩:=f 3 _ rfl;have⟨j4,p,K⟩:=f 4 _ rfl;have⟨j6,s,L⟩:=f 6 _ rfl;rw[nZ T D λj=>by simp]at A;rw[nZ T E λj=>by simp]at k;rw[nZ T F λj=>by simp]at l;rw[nZ T I λj=>by simp]at m;rw[nZ T K λj=>by simp]at p;rw[nZ T L λj=>by simp]at s;match C,r2 with
  |[x0,x1,x2,x3,x4,x5,x6],_=>simp at A k l m p s z;rw[A,k,l,m,p,s,z];rfl
 subst M;have q:∀(i:Nat)b,B[i]?=some b->∃g,P[i]?=some (ptr g)/\d b=some g:=λi b H=>by have⟨aa,J,y⟩:=π i (ptr b) (by simp[H]);obtain⟨g,rfl,G⟩:=ai8 T y;exact⟨g,J,G⟩
 have t:∀b∈B,∃g,d b=some g:=λb ac=>by grind [jQ.1]
 have O:P=(B.map λb=>(d b).getD 0).map ptr:=by apply kX;intro i;rcases x:B[i]? with _|b;grind;have⟨g,Q,G⟩:=q i b x;rw[Q];simp[x,G]
 subst O;refine⟨⟨V,_,r1,Y,⟨by rw[dS];exact H.1,?_⟩,λi b ab e1 e2=>?_⟩,h.len⟩;rw[List.Nodup,UF];refine H.2.imp_of_mem fun{a b} S U X e=>?_;have⟨g,u⟩:=t a S;have⟨g',v⟩:=t b U;rw[u,v]at e;simp at e;subst e;exact X<|T.ok.inj _ _ _ u v;grind [agE]
structure VR(W:World)(S:Nat->Prop)(nb:Nat)(c:fL)(r:RN):Prop where
 ex:∃w μ n,jd w n c r/\μ n=some nb/\Tv μ w W/\S=rng μ
theorem VR.lt{W S N c r k}(h:VR W S N c r)(s:S k):k<W.heap.size:=by obtain⟨w,a,n,_,_,T,rfl⟩:=h.ex;have⟨b,e⟩:=s;exact(T.ok.lt b k e).2
def VR.same{W a S b c r}(h:VR W S b c r)(H:W.heap.size<=a.heap.size)(d:a.tape=W.tape)(f:a.os=W.os)(g:∀k,S k->a.heap[k]?=W.heap[k]?):VR a S b c r:=by obtain⟨w,i,n,N,e,T,rfl⟩:=h.ex;exact⟨_,i,n,N.keep<|aem w _,e,T.keep H d f g,rfl⟩
def VR.at{W S n c r}(h:VR W S n c r):jd W n c r:=by grind [agF,h.ex]
def VR.new(c:fL)(W)(h:c.ok=true):Cv 47 #[c.v] W λe w=>∃b S,e=.returned (.tuple #[ptr b,aA])/\VR w S b c ⟨[],-1⟩/\Fx (λ_=>False) S W w:=by
 refine(BW (μ:=λ_=>none) D9 (Px c W) (λe m r=>by obtain⟨_,r⟩|⟨b,_,r,_⟩:=r.2;grind;exact⟨_,r⟩) ⟨⟨(nofun),(nofun),(nofun),λ_ _=>rfl⟩,(nofun),rfl,rfl,rfl⟩ λf r _=>?_).mono ?_
 simp[fL.v];rintro e w⟨v,j,m,d,⟨_,Q⟩,rfl,l,_,g,q⟩;obtain⟨Q,_⟩|⟨b,_,Q,_,o⟩:=Q;grind;cases Q;have⟨f,p,P⟩:=g.ok.one;have H:=l f p P;simp[ptr]at H;have n:d b=some (f b):=g.ok.dom (λt r c=>by have:=l t r c;rw[H]at this;simpa[ptr]using this)
 exact⟨f b,rng d,by rw[H];rfl,⟨m,d,b,⟨⟨.slice none 0 0,[],o,mV _ _ _ _,⟨rfl,aak⟩,λi b k e=>by cases e⟩,by decide⟩,n,g,rfl⟩,q.size,q.tape,q.os,q.out,λk a _=>q.rest k a λ⟨_,e⟩=>(by cases e),λk s=>(q.old k s).imp (λ⟨_,e⟩=>(by cases e)) id⟩
def ai9{W S a c r}(s)(h:VR W S a c r)(R:RW r)(k:0<=c.su/\c.su<=1000000):Cv 50 #[ptr a,.string<|mk s] W λe b=>e=.returned (.tuple #[.agg #[.int .i64 (om c r s).1,.int .i64 (om c r s).2.1],.int .i64 (om c r s).2.2.1])/\∃f,VR b f a c (om c r s).2.2.2/\Fx S f W b:=by obtain⟨w,x,n,N,e,T,rfl⟩:=h.ex;refine(BW D9 (ael s w N R k) (λe g r=>⟨_,r.1⟩) T λi r p=>?_).mono ?_;simp[ptr,p n a e];rintro E b⟨v,j,g,d,⟨Q,m⟩,rfl,o,t,q,u⟩;cases Q;have⟨i,P,l⟩:=q.ok.one;have H:=o i P l;simp at H;exact⟨by rw[H],_,⟨g,d,n,m,t _ _ e,q,rfl⟩,u⟩
open Tryz
attribute [local go_sem↓] Go.wp_at_zero Go.wp_at_succ
def sI{w Y π o a Q}(E:o.guard=none)(s x t)(L:o.op=.call {callee:=.builtin .append,args:=#[s,x],argTypes:=#[t,t]})(k e i l j K)(S:Vp.underlying t=some (.slice e))(F:Vp.info? e=some i)(W:i.zero=some l)
 (O:i.size=j)(D:i.bytes=K)(X:l.cells.size=j)(P:0<j)(v g n m c R f)(N:a.eval s=v)(U:a.eval x=.slice g m c)(T:w.ownsRow k e j v n R)(V:Row w g e f)(H:f=m*j)(p:∀u∈f,u.oneCell'=true)
 (I:n+m<=100000000)(C:K<=1000)(A:k<=↑w)
 (h:∀b d,d.ownsRow k e j b (n+m) (R++f)->w.grownBy d v.ownBlock->(b.ownBlock=v.ownBlock\/b.ownBlock=some ↑w)->(b.ownBlock=v.ownBlock\/w.grownBy d none)->wpList Vp Y Q π (a.put o.dst b) d):wpList Vp Y Q (o::π) a w:=by
 refine aaj E λaa B=>?_;have⟨b,d,M,q,r,y,z⟩:=vV (w:=w) k t o.type e i l j K S F W O D X P v n R T (g,0) m c f H (λab u G=>by rw[add0,V.cell];exact G) p (by unfold maxLen;omega) (Nat.le_trans (Nat.mul_le_mul I C) D9) A;unfold Oper.wp execOp;simp[L,resolve,invoke,builtin,Ud,aax,UN,yz,gJ,qL,N,U,M];exact B _ _<|h b d q r y z
def lA:ByteArray:=⟨#[116,104,101,32,99,97,108,108,101,114,39,115]⟩
def akY(m:Nat):bL:=⟨⟨#[]⟩,0,-9 -(m:Int),lA,0⟩
def E7{m:Nat}{a}(b:Hid (a=-9 -(m:Int)))(w)(h:m<=100000000):Cv 53 #[(m:Int)] w λe c=>e=.returned (.agg #[aB,aA,a,lA,aA,true])/\Below w w c:=by
 have j:IntKind.i64.wrap (-9 -(m:Int))=a:=by rw[jP];have:=b.out;omega
 go_enter fA func53,ntmps53;go_wp2;exact cY (v:=.agg #[aB,aA,a,lA,aA,true]) (by simp[results,results53,go_sem,lA]) rfl ⟨rfl,B0.alloc L9 _⟩
def qd(m n:Nat):List Value:=bJ (List.replicate n<|akY m)
def Ls(m n):qd m (n+1)=qd m n++[.string ⟨#[]⟩,.int .i64 0,.int .i64<|-9 -(m:Int),.string lA,.int .i64 0,.bool true]:=by unfold qd;rw[List.replicate_succ',pz];rfl
def QK(m n):(qd m n)=n*6:=by unfold qd;rw[mO,List.length_replicate]
def aep(m n d):qd m (n+d)=qd m n++qd m d:=by unfold qd;rw[<-List.replicate_append_replicate,pz]
def QL{m n k}(h:k<=n):qd m k<+:qd m n:=by rw[show n=k+(n -k)from by omega,aep];exact Z5 _ _
def Full(W:World)(u:Value)(m:Nat):Prop:=∃n a c,u=.slice a n c/\n<=1000002/\(∀g,a=some g->g.block<W.heap.size)/\(0<n->∃g C,a=some ⟨g,0,none⟩/\Row W g 60 C/\qd m n<+:C)
def Full.same{W b u m}(h:Full W u m)(s:↑W<=b.heap.size)(e:∀k C,u.ownBlock=some k->Row W k 60 C->b.heap[k]?=W.heap[k]?):Full b u m:=by obtain⟨n,a,c,rfl,l,d,i⟩:=h;refine⟨n,a,c,rfl,l,λg e=>fI (d g e) s,λp=>?_⟩;obtain⟨g,C,rfl,R,f⟩:=i p;exact⟨g,C,rfl,(e g C rfl R).trans R,f⟩
def Full.keep{W a u m}(h:Full W u m)(b:Below W W a):Full a u m:=h.same b.size λk _ _ R=>b.block k R.lt
def QM{W b u n a}(h:W.ownsRow b 60 6 u n a)(l:0<n):∃g c C,u=.slice (some ⟨g,0,none⟩) n c/\Row W g 60 C/\a<+:C:=by obtain⟨_,f⟩|⟨g,i,j,rfl,_,d,_,_,_,e⟩:=h.2;omega;exact⟨g,i,j.toList,rfl,by unfold Row;simpa using d,e▸List.take_prefix _ _⟩
def M4{W d a k b v n m}(o:W.ownsRow d 60 6 v n (qd m n))(l:k<=n)(i:k<=1000002)(e:v.ownBlock=(Value.slice a k b).ownBlock)(s:0<k->∃g,a=some ⟨g,0,none⟩):Full W (a,k,b) m:=by refine⟨k,a,b,rfl,i,λg h=>?_,λp=>?_⟩;subst h;have⟨_,_,r⟩:=bS o e;exact bO r;obtain⟨g,rfl⟩:=s p;obtain⟨j,c,C,rfl,R,f⟩:=QM o O9;cases e;exact⟨_,C,rfl,R,(QL l).trans f⟩
def full_of{W B u n m}(h:W.ownsRow B 60 6 u n (qd m n))(l:n<=1000002):Full W u m:=by obtain⟨a,c,rfl⟩:=aS h;exact M4 h L9 l rfl λp=>CO h O9
def QN{W b:World}{d u v n m}(h:W.ownsRow d 60 6 u n (qd m n))(o:b.ownsRow d 60 6 v (n+1) (qd m<|n+1))(l:n<=1000002)(e:v.ownBlock=u.ownBlock\/W.grownBy b none):Full b u m:=by obtain e|e:=e;obtain⟨a,c,rfl⟩:=aS h;exact M4 o O9 l e λp=>CO h O9;exact(full_of h l).same e.size λk _ _ R=>e.block k R.lt (λf=>by cases f)
def agG{W d r j k q x i c v n m}(F:Full W (.slice j k q) m)(o:d.ownsRow r 60 6 v n (qd m n))(l:k<=n)(g:W.grownBy d (Value.slice (some ⟨x,0,none⟩) i c).ownBlock)(e:v.ownBlock=(Value.slice x i c).ownBlock\/W.grownBy d none):Full d (.slice j k q) m:=by obtain e|e:=e;by_cases h:(Value.slice j k q).ownBlock=some x;have⟨_,_,_,s,t,_,u⟩:=F;cases s;exact M4 o l t (e.trans h.symm) λp=>have⟨g,_,h,_⟩:=u p;⟨g,h⟩;exact F.same g.size λf _ a R=>g.block f R.lt (λb=>by cases b;exact h a);exact F.same e.size λf _ _ R=>e.block f R.lt (λb=>by cases b)
def aeq{w D B n d k b X}(h:w.ownsRow D 60 6 (.slice B n d) n (b++X))(f:b.length=k*6)(O:k<n):∃g,B=some ⟨g,0,none⟩/\g<↑w/\(∃s t u x y z,w.cell? ⟨g,k*6,none⟩=some s/\w.cell? ⟨g,k*6+1,none⟩=some t/\w.cell? ⟨g,k*6+2,none⟩=some u/\w.cell? ⟨g,k*6+3,none⟩=some x/\w.cell? ⟨g,k*6+4,none⟩=some y/\w.cell? ⟨g,k*6+5,none⟩=some z)/\(∀j,w.frozen? ⟨g,j,none⟩=false)/\∀i l m o p q,(s6W w g (k*6) i l m o p q).ownsRow D 60 6 (.slice B n d) n (b++[i,l,m,o,p,q]++X.drop 6):=by
 obtain⟨_,N⟩|⟨g,U,P,e,H,I,J,K,L,F⟩:=h.2;omega;cases e;have R:Row w g 60 P.toList:=by unfold Row;simpa using I
 have A:P.toList=d*6:=ag1▸L;have G:P.toList.take (k*6)=b:=by have:=congrArg (List.take<|k*6) F;rw[Fl,lD O9,List.take_left' f]at this;exact this
 have C:P.toList=b++P.toList.drop (k*6):=by rw[<-G,pR]
 have a:(P.toList.drop<|k*6)=d*6 -k*6:=by rw[rM,A]
 have Q:X=(P.toList.drop<|k*6).take (n*6 -k*6):=by have:=congrArg (List.drop<|k*6) F;rw[List.drop_left' f,List.drop_take]at this;exact this.symm
 generalize P.toList.drop (k*6)=T at C a Q;match T,a with
 |[],a=>simp at a;omega
 |[_],a=>simp at a;omega
 |[_,_],a=>simp at a;omega
 |[_,_,_],a=>simp at a;omega
 |[_,_,_,_],a=>simp at a;omega
 |[_,_,_,_,_],a=>simp at a;omega
 |s::t::u::x::y::z::r,a=>
   rw[C]at R A;have c:∀j v,(s::t::u::x::y::z::r)[j]?=some v->w.cell? (g,k*6+j)=some v:=λj v M=>by rw[R.cell,cZ O9,f,Ah];exact M
   refine⟨g,rfl,R.lt,⟨s,t,u,x,y,z,c 0 _ rfl,c 1 _ rfl,c 2 _ rfl,c 3 _ rfl,c 4 _ rfl,c 5 _ rfl⟩,R.frozen,λi l m o p q=>?_⟩;have S:=GU R i l m o p q;rw[f]at S;simp[cB,cQ]at A;have E:=h.1;refine⟨?_,.inr ⟨g,d,_,rfl,H,S,J,K,by simp;omega,?_⟩⟩;rw[Q]at E|-;simp[cB,dJ,rM,cQ,pN]at E|-;omega;rw[Q,show n*6=b.length+(6+(n*6 -k*6 -6))from by omega,show b.length+(6+(n*6 -k*6 -6)) -k*6=6+(n*6 -k*6 -6)from by omega];simp[aav,UC 6,List.take_add]
def aI.ZN:(Vp.info? 53).map (λi=>(i.zero,i.size,i.bytes))=some (some ↑(),1,24):=K8
theorem Xc.own{S w g b e s n v d}(x:Xc S w g)(h:w.ownsRow b e s v n d)(f:∀k,v.ownBlock=some k->¬S k):g.ownsRow b e s v n d:=dA h λk _ a _ c=>x.block k (bO c)<|f k a
def vF{w:World}{i j e d r s n q v g l m}(h:w.ownsRow i e r v n l)(o:w.ownsRow j d s g q m)(c:e≠d):∀k,v.ownBlock=some k->g.ownBlock≠some k:=λk a b=>by have⟨_,x,p⟩:=bS h a;have⟨_,y,f⟩:=bS o b;cases p▸f;exact c rfl
def ZO{B D w π nv v n m ao xs c}(W)(R:Row W w 66 [nv,.bool ao,π])(oc:W.ownsRow B 53 1 π c.length c)(o:W.ownsRow D 60 6 v n xs)(m3:c.length=3*m)(hl:m<=10000000)(hn:n<=1000000)(hB:B<=W)(hD:D<=W):Cv 103 #[ptr w,v] W λe U=>e=.returned (.tuple #[])/\∃aa one ap,Row U w 66 [nv,.bool ao,aa]/\U.ownsRow B 53 1 aa (c+3) (c++[v,one,ap])/\(aa.ownBlock=π.ownBlock\/∀k,aa.ownBlock=some k->W<=k)/\(∀u∈[v,one,ap],Full U u m/\(u.ownBlock=v.ownBlock\/∀k,u.ownBlock=some k->W<=k))/\Xc (λk=>k=w\/v.ownBlock=some k\/π.ownBlock=some k) W U:=by
 unfold ptr;have c2:=R.r 2;have a6:=R.lt;obtain⟨ca,cc,rfl⟩:=aS oc;obtain⟨V,d,rfl⟩:=aS o;have hq:Hid ((c:Int)/3=(m:Int)):=by unfold Hid;rw[m3];omega
 have ch:c.length<=30000000:=O9;have⟨i0,ak,al,am,an⟩:=info_parts Pg;have⟨i1,aw,a2,a3,a4⟩:=info_parts aI.ZN;have⟨z,L⟩:∃z:Int,z=-9 -(m:Int):=⟨_,rfl⟩;replace L:=aK L;have bs:Hid (∀k,qd m (k+1)=qd m k++[.string ⟨#[]⟩,.int .i64 0,.int .i64 z,.string lA,.int .i64 0,.bool true]):=λk=>by rw[Ls,L.out]
 have aj:Hid (∀u∈[Value.string ⟨#[]⟩,↑aA,↑z,↑lA,↑aA,↑aD],u.oneCell'=true):=by intro u p;simp[jO,tH,tI]at p;obtain rfl|rfl|rfl|rfl|rfl|rfl:=p<;>rfl
 replace m3:=aK m3;go_enter fA func103,ntmps103;go_wp2;rw[hq.out];go_loopw [5] (λah wr=>∃k,k<=n/\ah=↑(k:Int)/\wr.ownsRow D 60 6 (V,n,d) n (qd m k++xs.drop (k*6))/\Xc (λq=>(Value.slice V n d).ownBlock=some q) W wr) (λah _=>n -(intOf ah).toNat);exact⟨0,cH _,rfl,by simpa[qd,bJ]using o,lY _ _⟩;case round=>
  obtain⟨k,hk,rfl,a,x⟩:=hrel;by_cases lt:k<n
  .have j0:(0:Int)<=k:=O9;have j1:(k:Int)<n:=O9;go_wp2;refine(E7 L wr O9).m1 λw1 f=>?_;have O:=aP a f;have⟨ar,hg,gl,⟨y0,y1,y2,y3,y4,y5,c0,c1,c2,c3,c4,c5⟩,F,ag⟩:=aeq O (QK m k) lt;subst hg;have f0:=F<|k*6;have f1:=F<|k*6+1;have f2:=F<|k*6+2;have f3:=F<|k*6+3;have f4:=F<|k*6+4;have f5:=F<|k*6+5;replace ag:=aK ag;have X:=x.then f;clear O a x f F;go_wp2;have:=ag.out ↑aB ↑aA ↑z ↑lA ↑aA ↑aD;rw[<-bs.out,List.drop_drop,show k*6+6=(k+1)*6 from by omega]at this;exact⟨⟨k+1,O9,S8,this,ahw X ar (k*6) _ _ _ _ _ _ λ_=>rfl⟩,by simp[intOf];omega⟩
  have ax:k=n:=O9;subst ax;have j1:¬(k:Int)<k:=O9;have xl:=o.1;rw[Dx O9,kY]at a;have ne:=vF o oc D9;have y:=x.own oc λq ae af=>ne q af ae;have r:=R.xc x<|bR o R D9;have H:=x.size;replace x:Xc (λq=>q=w\/(Value.slice V k d).ownBlock=some q\/(Value.slice ca c.length cc).ownBlock=some q) W wr:=x.mono λq e=>.inr<|.inl e;clear o R oc c2 xl;go_wp2;refine(E7 L wr O9).m1 λw1 f=>?_;replace a:=aP a f;replace y:=aP y f;replace r:=r.keep f r.lt;replace x:=x.then f;replace H:=cA H f.size;clear f;have b:=Ba w1<|.cells [.string ⟨#[]⟩,.int .i64 0,.int .i64 z,.string lA,.int .i64 0,.bool true].toArray 60;have N:=aX w1 [aB,aA,z,lA,aA,aD] 60;replace a:=aP a b;replace y:=aP y b;replace r:=r.keep b r.lt;replace x:=x.then b;have ay:=H;replace H:=cA H b.size;have S:=cA hD H;have t:k+1<=100000000:=O9;clear b;go_wp2_with (at_builtin;refine sI rfl _ _ 53 rfl D 60 i0 _ 6 64 aI.underlying53 ak al am an rfl D9 (V,k,d) ↑w1 k 1 1 (qd m k) [aB,aA,z,lA,aA,aD] E9 E9 a N rfl aj.out t D9 S ?_;intro v1 w2 O Q l1 e1;refine ahz.out ?_);rw[<-bs.out]at O;have⟨X,C,az⟩:=cX O k rfl;subst az;have G:=QN a O O9 e1;have ai:(Value.slice X (k+1) C).ownBlock=(Value.slice V k d).ownBlock\/∀q,(Value.slice X (k+1) C).ownBlock=some q->(W:Nat)<=q:=l1.imp id λe q h=>by cases e▸h;exact H
  have g:=jN r Q<|bR a r D9;have A:=qK y Q<|vF y a D9;have P:=x.grown Q λq e _=>.inr<|.inl e;have l:=cA H Q.size;clear a y r x H ay N Q l1 e1 t S;refine⟨?_⟩;go_wp2;refine(E7 L w2 O9).m1 λw3 s=>?_;replace G:=G.keep s;replace O:=aP O s;replace A:=aP A s;replace g:=g.keep s g.lt;replace P:=P.then s;replace l:=cA l s.size;clear s;have b:=Ba w3<|.cells [.string ⟨#[]⟩,.int .i64 0,.int .i64 z,.string lA,.int .i64 0,.bool true].toArray 60;have N:=aX w3 [aB,aA,z,lA,aA,aD] 60;replace G:=G.keep b;replace O:=aP O b;replace A:=aP A b;replace g:=g.keep b g.lt;replace P:=P.then b;replace l:=cA l b.size;have S:=cA hD l;have t:k+1+1<=100000000:=O9;clear b;go_wp2_with (at_builtin;refine sI rfl _ _ 53 rfl D 60 i0 _ 6 64 aI.underlying53 ak al am an rfl D9 (X,k+1,C) ↑w3 (k+1) 1 1 (qd m<|k+1) [aB,aA,z,lA,aA,aD] E9 E9 O N rfl aj.out t D9 S ?_;intro v2 E M K l2 e2;refine ahz.out ?_);rw[<-bs.out]at M;have⟨j,i,a0⟩:=cX M (k+1) rfl;subst a0;have F1:Full E (X,k+1,C) m:=QN O M O9 e2;have F2:Full E (j,k+1+1,i) m:=full_of M O9;have F3:Full E (V,k,d) m:=agG G M O9 K e2;have a5:(Value.slice j (k+1+1) i).ownBlock=(Value.slice V k d).ownBlock\/∀q,(Value.slice j (k+1+1) i).ownBlock=some q->(W:Nat)<=q:=by obtain e|e:=l2;rw[e];exact ai;exact .inr λq h=>by cases e▸h;exact l
  have I:=jN g K<|bR O g D9;have T:=qK A K<|vF A O D9;have x3:=P.grown K λq e a7=>by obtain h|h:=ai;rw[h]at e;exact .inr<|.inl e;have:=h q e;omega
  have ab:=cA l K.size;clear O A g P l N K l2 e2 t S G M;have c2:=I.r 2;have b:=Ba E<|.cells [.slice V k d,.slice (some ⟨X,0,none⟩) (k+1) C,.slice (some ⟨j,0,none⟩) (k+1+1) i].toArray 53;have N:=aX E [.slice V k d,.slice X (k+1) C,.slice j (k+1+1) i] 53;have au:Hid (∀u∈[Value.slice V k d,.slice X (k+1) C,.slice j (k+1+1) i],u.oneCell'=true):=by intro u p;simp[jO,tH,tI]at p;obtain rfl|rfl|rfl:=p<;>rfl
  replace F1:=F1.keep b;replace F2:=F2.keep b;replace F3:=F3.keep b;replace T:=aP T b;replace I:=I.keep b I.lt;replace x3:=x3.then b;replace ab:=cA ab b.size;have av:=cA hB ab;have t:c.length+3<=100000000:=O9;clear b;refine⟨?_⟩;go_wp2_with (at_builtin;refine sI rfl _ _ 64 rfl B 53 i1 _ 1 24 (BC underlying64) aw a2 a3 a4 rfl D9 (ca,c,cc) ↑E c.length 3 3 c [.slice V k d,.slice X (k+1) C,.slice j (k+1+1) i] E9 E9 T N rfl au.out t D9 av ?_;intro v3 w5 o3 g3 l3 e3;have⟨ad,Y,a1⟩:=cX o3 (c.length+2) rfl;subst a1;have J:=jN I g3 (bR T I D9);have c5:=J.r 2;have f5:=J.frozen 2;have b5:=J.lt);have R6:=J.set 2 (ad,c.length+2+1,Y);have gc:=cI w5 (w,2) (ad,c.length+2+1,Y);have o6:=qK (u:=.slice w 0 0) o3 gc (λq ae af=>by cases af;exact bR o3 J D9 ae);have x6:=(x3.grown g3 λq e _=>.inr<|.inr e).setCell (w,2) (ad,c.length+2+1,Y) λ_=>.inl rfl;have fr:=λu(aq:Full (E.alloc<|.cells [.slice V k d,.slice (some ⟨X,0,none⟩) (k+1) C,.slice (some ⟨j,0,none⟩) (k+1+1) i].toArray 53) u m)=>(aq.same g3.size λq _ _ ac=>g3.block q ac.lt λe=>bR T ac D9 e.symm).same gc.size λq _ _ ac=>Below.heap_setCell w5 _ _ q<|ac.ne J D9;go_end0;refine⟨rfl,.slice ad (c.length+2+1) Y,.slice X (k+1) C,.slice j (k+1+1) i,R6,o6,l3.imp id (λe q h=>by cases e▸h;exact ab),λu p=>?_,x6⟩;simp[jO,tH,tI]at p;obtain rfl|rfl|rfl:=p;exact⟨fr _ F3,.inl rfl⟩;exact⟨fr _ F1,ai⟩;exact⟨fr _ F2,a5⟩
def Ev:=@cell_regrown
def agH{m n k}(h:k<n){C}(p:qd m n<+:C):C[k*6]?=some ↑aB/\C[k*6+1]?=some ↑aA/\C[k*6+2]?=some ↑(-9 -(m:Int))/\C[k*6+3]?=some ↑lA/\C[k*6+4]?=some ↑aA/\C[k*6+5]?=some ↑aD:=by have b:qd m (k+1)<+:C:=(QL O9).trans p;rw[Ls]at b;obtain⟨r,rfl⟩:=b;have l:=QK m k;have a:∀j x,([Value.string ⟨#[]⟩,↑aA,↑(-9 -(m:Int)),↑lA,↑aA,↑aD])[j]?=some x->(qd m k++[Value.string ⟨#[]⟩,.int .i64 0,.int .i64<|-9 -(m:Int),.string lA,.int .i64 0,.bool true]++r)[k*6+j]?=some x:=λj x c=>eP (by rw[cZ O9,l,Ah];exact c);exact⟨a 0 _ rfl,a 1 _ rfl,a 2 _ rfl,a 3 _ rfl,a 4 _ rfl,a 5 _ rfl⟩
def ZP{B M x X T c}(w)(R:Row w M 66 [X,.bool T,x])(O:w.ownsRow B 53 1 x c.length c)(F:∀i u,c[i]?=some u->Full w u (i/3))(hl:c.length<=30000000):Cv 20 #[ptr M] w λe q=>e=.returned ↑aD/\Below w w q:=by unfold ptr;obtain⟨Y,π,rfl⟩:=aS O;have v:=R.r 2;go_enter fA func20,ntmps20;go_wp2;go_loopw [3] (λi wr=>∃k:Nat,k<=c/\i=↑(k:Int)/\Below w w wr) (λi _=>c -(intOf i).toNat);exact⟨0,cH _,rfl,B0⟩;case round=>
  obtain⟨k,hk,rfl,b⟩:=hrel;have C:=aM b v;by_cases U:k<c;.have k1:(k:Int)<c:=O9;have⟨u,J⟩:∃u,c[k]?=some u:=⟨_,aY U⟩;obtain⟨n,ua,uc,rfl,hn,-,f⟩:=F k u J;have⟨aa,cg,S,P⟩:=kN O J;cases S;go_wp2;clear C;go_loopw [4] (λi wr=>∃j:Nat,j<=n/\i=↑(j:Int)/\Below w w wr) (λi _=>n -(intOf i).toNat);exact⟨0,cH _,rfl,b⟩;case round=>
    clear b;obtain⟨j,hj,rfl,b⟩:=hrel;have C:=aM b v;have a:=aM b P;by_cases V:j<n
    .have j1:(j:Int)<n:=O9;obtain⟨ab,cs,rfl,s,p⟩:=f O9;have⟨H,y,A,E,G,I⟩:=agH V p;have r:=s.keep b s.lt;have g:=(r.cell<|j*6).trans H;have h:=(r.cell<|j*6+1).trans y;have D:=(r.cell<|j*6+2).trans A;have l:=(r.cell<|j*6+3).trans E;have m:=(r.cell<|j*6+4).trans G;have o:=(r.cell<|j*6+5).trans I;have⟨z,K⟩:∃z:Int,z=-9 -((k/3:Nat):Int):=⟨_,rfl⟩;rw[<-K]at D;have t:∀W,Cv 53 #[↑((k:Int)/3)] W λe q=>e=.returned (.agg #[aB,aA,z,lA,aA,aD])/\Below W W q:=λW=>by have:=E7 (aK K) W O9;rw[show((k/3:Nat):Int)=(k:Int)/3 from by omega]at this;exact this
     have Q:∀d L,Cv 53 #[↑((k:Int)/3)] (Go.Sort.grow (redrawn wr d) L) λe F=>e=.returned (.agg #[aB,aA,z,lA,aA,aD])/\∃p:Regrown,F=Go.Sort.grow (redrawn wr p.d) p.os:=λd L=>Calls.regrown_of<|t _;clear H y A E G I t p;go_wp2;have g:=Ev g;have h:=Ev h;have D:=Ev D;have l:=Ev l;have m:=Ev m;have o:=Ev o;have a:=Ev a;have C:=Ev C;refine wp_region_quiet_below nO K8 ?_;repeat(go_big_quiet_step (first|(go_at_call 53;exact Q _ _)))
     refine vZ λw1 N=>?_;clear g h D l m o a C Q;go_wp2;go_roundw;exact⟨j+1,O9,by go_num,(b.trans<|N.mono b.size)⟩;simp[intOf];omega
    go_wp2;go_roundw;exact⟨k+1,O9,by go_num,b⟩;simp[intOf];omega
  go_wp2;go_ret;exact⟨rfl,b⟩
def zB:∀l K C,fE K l->fJ K C->∃D,fJ (goes K l) D/\D<=C+l.length
 |[],K,C,_,h=>⟨C,h,L9⟩
 |s::l,K,C,g,h=>by have⟨h1,h2⟩:=g;cases b:s.EG with
   |true=>
     have a:=h1.2;rw[b,aN rfl]at a;have e:zV K s=K.put s.km:=by unfold zV;rw[b];rfl
     have⟨D,c,d⟩:=zB l (zV K s) (s.km::C) h2<|e▸h.put a;exact⟨D,c,by simp at d|-;omega⟩
   |false=>
     have a:=h1.2;rw[b,aJ S8]at a;have e:zV K s=K.take s.km.pt:=by unfold zV;rw[b];rfl
     have⟨f,c1,_,c3⟩:=h.take a;have⟨D,c,d⟩:=zB l (zV K s) f h2<|e▸c1;exact⟨D,c,by simp at d|-;omega⟩
def acO{a}(h:pF a):∃C,fJ a.an.K C/\C.length<=100000:=by have⟨D,b,d⟩:=zB (fD a.ch) rG [] h.path ⟨S8,λc e=>by simp at e,λp c f=>by cases f⟩;refine⟨D,b,?_⟩;have h1:=Kg h.len;have h2:=h.chl;have g:=h.ll;simp at d;omega
def kz.tail{x D}(h:kz (x::D)):kz D:=λi j u v c a b=>h (i+1) (j+1) u v O9 (by simpa using a) (by simpa using b)
def Kh:∀D D',D.Perm D'->kz D->kz D'->(D.map bL.pt).Nodup->D=D'
 |[],D',a,_,_,_=>a.nil_eq
 |x::t,[],a,_,_,_=>absurd a.length_eq S8
 |x::t,y::c,a,h1,h2,b=>by
   by_cases e:x=y;subst e;have h:(t.map bL.pt).Nodup:=by rw[gJ,Nr]at b;exact b.2
   rw[Kh t c a.cons_inv h1.tail h2.tail h];have k:x∈c:=by rcases jO.1 (a.mem_iff.1<|List.mem_cons_self ..)with q|q;simp_all;exact q
   have l:y∈t:=by grind
   have⟨i,hi⟩:=jQ.1 k;have⟨j,f⟩:=jQ.1 l;have d:=h2.lt ((a.map bL.pt).nodup_iff.1 b) (i:=0) (j:=i+1) (x:=y) (y:=x) O9 rfl (by simpa using hi);have m:=h1.lt b (i:=0) (j:=j+1) (x:=x) (y:=y) O9 rfl (by simpa using f);rw[Bn]at d;omega
def aer{r}{w:World}{v a k x}(h:w.ownsRow r 60 6 v a.length (zT a))(e:a[k]?=some x):∃g c d f i m n o,v=.slice (some ⟨g,0,none⟩) a c/\jo x=[.string d,.int .i64 f,.int .i64 i,.string m,.int .i64 n,.bool o]/\w.cell? ⟨g,k*6,none⟩=some (.string d)/\w.cell? ⟨g,k*6+1,none⟩=some (.int .i64 f)/\w.cell? ⟨g,k*6+2,none⟩=some (.int .i64 i)/\w.cell? ⟨g,k*6+3,none⟩=some (.string m)/\w.cell? ⟨g,k*6+4,none⟩=some (.int .i64 n)/\w.cell? ⟨g,k*6+5,none⟩=some (.bool o):=by
 have y:=(bK.1 e).1;obtain⟨g,c,C,rfl,R,p,rfl⟩:=QM h O9;have⟨d,f,i,m,n,o,_,q⟩:=pq x;have s:a=a.take k++x::a.drop (k+1):=by rw[<-(bK.1 e).2,U5,pR]
 have t:(zT<|a.take k)=k*6:=by rw[E6,dJ];omega
 have b:∀j v,(jo x)[j]?=some v->w.cell? (g,k*6+j)=some v:=λj v u=>by rw[R.cell];refine eP ?_;rw[s,BU,cZ O9,t,Ah];exact eP (l:=jo x) u
 rw[q]at b;exact⟨g,c,d,f,i,m,n,o,rfl,q,b 0 _ rfl,b 1 _ rfl,b 2 _ rfl,b 3 _ rfl,b 4 _ rfl,b 5 _ rfl⟩
def yr{l m v f}(a w)(c:w.ownsRow l 60 6 v a.length (zT a))(d:w.ownsRow m 60 6 f a (zT a))(J:a.length<=1000000):Cv 102 #[v,f] w λe A=>e=.returned true/\Below w w A:=by obtain⟨af,ag,rfl⟩:=aS c;obtain⟨F,G,rfl⟩:=aS d;go_enter fA func102,ntmps102;go_wp2;go_loopw [5] (λi B=>∃k:Nat,k<=a/\i=↑(k:Int)/\Below w w B) (λi _=>a -(intOf i).toNat);exact⟨0,cH _,rfl,B0⟩;case round=>
  obtain⟨k,I,rfl,b⟩:=hrel;by_cases g:k<a
  .have⟨x,j⟩:∃x,a[k]?=some x:=⟨_,aY g⟩;have⟨ac,C,r,s,t,u,y,z,o,n,L,M,N,O,P,Q⟩:=aer (aP c b) j;have⟨H,D,Y,π,R,ab,ad,ae,p,h,S,T,U,V,W,X⟩:=aer (aP d b) j;cases n▸h;cases o;cases p;go_wp2;go_region;all_goals go_wp2
   all_goals go_roundw
   all_goals first
    |exact⟨k+1,O9,by go_num,cN b⟩
    |(simp[intOf];omega)
  go_wp2;go_ret;exact⟨rfl,b⟩
structure PM where
 pb:Nat
 xb:Nat
 yb:Nat
 c:fL
 a:AG
 r:RN
 S:Nat->Prop
 T:Nat->Prop
def PM.U(p:PM)(k:Nat):Prop:=p.S k\/p.T k
structure js(W:World)(p:PM):Prop where
 row:Row W p.pb 147 [ptr p.xb,ptr p.yb]
 x:VN W p.S p.xb p.c p.a
 y:VR W p.T p.yb p.c p.r
 ap:∀k,p.S k->¬p.T k
 ref:Ref p.r p.a
 aes:xn p.c p.a
 rw:RW p.r
 ok:p.c.ok=true
 no:¬p.U p.pb
def js.su{W p}(h:js W p):0<=p.c.su/\p.c.su<=1000000:=by have:=h.ok;simp[fL.ok,pV]at this;omega
theorem js.lt{W p k}(h:js W p)(e:p.U k):k<W:=e.elim h.x.lt h.y.lt
def js.same{W a p}(h:js W p)(c:↑W<=a.heap.size)(d:a.tape=W.tape)(e:a.os=W.os)(b:∀k,p.U k\/k=p.pb->a.heap[k]?=W.heap[k]?):js a p:=⟨(b _<|.inr rfl).trans h.row,h.x.same c d e λk s=>b k (.inl<|.inl s),h.y.same c d e λk s=>b k (.inl<|.inr s),h.ap,h.ref,h.aes,h.rw,h.ok,h.no⟩
def js.keep{W a p}(h:js W p)(b:Below W W a):js a p:=h.same b.size b.tape b.os λk e=>b.block k<|e.elim h.lt λe=>e▸h.row.lt
def Il(r i):∃a b c,nP r i=.agg #[.string a,.int .i64 b,.int .i64 c]:=have⟨x,h⟩:=TZ r i;⟨_,_,_,h⟩
def QO{p}(w)(h:js w p):Cv 54 #[ptr p.pb] w λe t=>e=.returned true/\Below w w t:=by have k:=h.x.xf;have n:=T4 h.ref h.x.wf;have c:=λW(b:Below w w W)=>xH W (h.keep b).y.at h.rw.ok.l1 h.rw.ok.l2;rw[n]at c;have⟨d,f,g,m⟩:=Il p.r p.r.last;rw[n]at m;rw[m]at k c;have r:=h.row.r 0;unfold ptr at k c r|-;go_enter fA func54,ntmps54;go_wp2;refine k.m1 λy o=>?_;have i:Below w w (y.alloc<|.cells #[d,f,g] 55):=o.alloc o.size _;have a:=aX y [d,f,g] 55;have x:=(h.keep i).row.r 1;unfold ptr at x;go_wp2;refine(c _ i).m1 λE q=>?_;have j:=i.trans<|q.mono i.size;have a:=a.keep q a.lt;have s:=Ba E<|.cells #[d,f,g] 55;have⟨A,B,C⟩:=(a.keep s a.lt).p3;have⟨u,v,z⟩:=(aX E [d,f,g] 55).p3;clear k c r x n m;go_wp2;go_ret;exact⟨rfl,(j.trans<|s.mono j.size)⟩
def Xg{p}(k w)(h:js w p)(o:-9223372036854775808<=k/\k<9223372036854775808):Cv 56 #[ptr p.pb,.int .i64 k] w λe q=>e=.returned true/\Below w w q:=by
 have⟨s,e,f,i⟩:∃(s:ByteArray)(e:Int),(Cv 104 #[ptr p.xb,k] w λn l=>n=.returned (.tuple #[s,e])/\Below w w l)/\atR p.r k=(s,e):=by
  by_cases c:k<0\/(p.a.ch:Int)<=k;exact⟨_,_,h.x.akX c,ZL h.ref h.x.wf c⟩;obtain⟨j,rfl⟩:∃j:Nat,k=(j:Int):=⟨k.toNat,O9⟩;have d:=aY<|show j<p.a.ch by omega
  have⟨x,f,_⟩:=h.x.wf.ch _ _ d;exact⟨_,_,h.x.at d f,ZM h.ref h.x.wf d f⟩
 have d:=λW(b:Below w w W)=>agq k W (h.keep b).y.at h.rw.ok.par h.rw.ok.l1 h.rw.ok.l2 o;rw[i]at d;have C:=h.row.r 0;unfold ptr at f d C|-;go_enter fA func56,ntmps56;go_wp2;refine f.m1 λr g=>?_;have a:=(h.keep g).row.r 1;unfold ptr at a;go_wp2;refine(d _ g).m1 λt m=>?_;clear f d C a i;go_wp2;go_ret;exact⟨rfl,g.trans<|m.mono g.size⟩
def aja{c:fL}{r:RN}(s)(h:RW r):RW (om c r s).2.2.2:=by unfold om;rcases d:iE s with _|b;exact h;simp only;by_cases H:xG c.bi r s b=0;rw[aJ λn=>n H];have P:=Xd h d H;split;exact P;split;exact P.last _ (by omega) (by simp;omega);exact P.mark _;rw[aN H];exact h
def Fx.of{S}{W w:World}(b:Below W W w):Fx S S W w:=⟨b.size,b.tape,b.os,b.output,λk l _=>b.block k l,λ_ e=>.inl e⟩
def js.sub{w j W m g i p A R s c}(h:js w p)(d:Below w w j)(x:VN W s p.xb p.c A)(F:Fx p.S s j W)(B:Below W W m)(y:VR g c p.yb p.c R)(f:Fx p.T c m g)(b:Below g g i)(o:Ref R A)(H:xn p.c A)(u:RW R):js i {p with a:=A,r:=R,S:=s,T:=c}/\Fx p.U ({p with a:=A,r:=R,S:=s,T:=c}:PM).U w i:=by
 have z:=d.size;have C:=F.size;have D:=B.size;have E:=f.size;have G:=b.size;have N:∀k,s k->¬p.T k:=λk e t=>by have:=h.y.lt t;obtain e|e:=F.old k e;exact h.ap k e t;omega
 have v:∀k,s k->¬c k:=λk e t=>by have:=x.lt e;obtain t|t:=f.old k t;exact N k e t;omega
 have P:=h.row.lt;have q:∀k,k<w.heap.size->¬p.U k->i.heap[k]?=w.heap[k]?:=λk l n=>by rw[b.block k (by omega),f.rest k (by omega) λe=>n<|.inr e,B.block k (by omega),F.rest k (by omega) λe=>n<|.inl e,d.block k l]
 refine⟨⟨(q _ P h.no).trans h.row,?_,?_,v,o,H,u,h.ok,?_⟩,⟨by omega,?_,?_,?_,q,?_⟩⟩;refine x.same (by omega) (by rw[b.tape,f.tape,B.tape]) (by rw[b.os,f.os,B.os]) λk e=>?_;have:=x.lt e;rw[b.block k (by omega),f.rest k (by omega)<|N k e,B.block k<|by omega];exact y.same b.size b.tape b.os λk e=>b.block k<|y.lt e;rintro(e|e);obtain e|e:=F.old _ e;exact h.no<|.inl e;simp only at e;omega;obtain e|e:=f.old _ e;exact h.no<|.inr e;simp only at e;omega;rw[b.tape,f.tape,B.tape,F.tape,d.tape];rw[b.os,f.os,B.os,F.os,d.os];rw[b.output,f.out,B.output,F.out,d.output];rintro k(e|e);obtain e|e:=F.old k e;exact .inl<|.inl e;exact .inr (by omega);obtain e|e:=f.old k e;exact .inl<|.inr e;exact .inr (by omega)
def yY{p wb}{nv cv:Value}{ac:Bool}(s:List UInt8)(w)(h:js w p)(ae:Row w wb 66 [nv,ac,cv]):Cv 17 #[ptr wb,ptr p.pb,.string<|mk s] w λe j=>e=.returned true/\∃P,P.pb=p.pb/\js j P/\Fx p.U P.U w j:=by
 have R1:=ae.r 1;have t:=λW(b:Below w w W)=>ai7 s (h.keep b).x;have⟨g1,g2,g3,K⟩:=ago s h.ref h.x.wf h.aes;have ab:=aja (c:=p.c) s h.rw;have H:=λW(ad:VR W p.T p.yb p.c p.r)=>ai9 s ad h.rw h.su;rw[g1,g2,g3]at H;have V:=λaa=>xn.sub s h.aes h.x.wf aa;generalize(mQ p.c p.a s).1=A at t H;generalize(mQ p.c p.a s).2.1=E at t H;generalize(mQ p.c p.a s).2.2.1=aj at t H;generalize(mQ p.c p.a s).2.2.2=a' at t K V;generalize(om p.c p.r s).2.2.2=r' at H K ab;have rs:=acR A E;have Q:=λW(b:Below w w W)=>(h.keep b).row.r 0;have L:∃I u v,∀W(b:Below w w W),Cv 49 #[ptr p.yb] W λe j=>e=.returned (.agg #[.string I,.int .i64 u,.int .i64 v])/\Below W W j:=have⟨I,u,v,ef⟩:=Il p.r p.r.last;⟨I,u,v,λW b=>ef▸xH W (h.keep b).y.at h.rw.ok.l1 h.rw.ok.l2⟩
 have⟨I,u,v,L⟩:=L;have c1:=λW(b:Below w w W)=>(h.keep b).row.r 1;unfold ptr at t H L Q c1|-;have J:(iE s=none/\Cv 48 #[.string<|mk s] w λe j=>e=.returned (.tuple #[.agg #[aB,aA,aA,.slice none 0 0],aG])/\Below w w j)\/(∃(b:jL),Cv 48 #[.string<|mk s] w λe j=>∃x X y,e=.returned (.tuple #[.agg #[.string<|mk b.parent,.int .i64 b.bits,.int .i64 b.fX,.slice x X y],aA])/\Below w w j):=by rcases dn:iE s with _|b;exact .inl ⟨rfl,Xa dn w⟩;exact .inr ⟨b,(Xb dn w).mono λe j⟨ad,ds,q,_,q1,q2⟩=>by obtain⟨x,y,rfl⟩:=aS q1.own;exact⟨x,_,y,q,q2⟩⟩
 have af:Hid (∀f d l m Y n z,Below w w f->VN d n p.xb p.c a'->Fx p.S n f d->Below d d l->VR m z p.yb p.c r'->Fx p.T z l m->Below m m Y->∃P,P.pb=p.pb/\js Y P/\Fx p.U P.U w Y):=λf d l m Y n z B π F i y6 U O=>⟨{p with a:=a',r:=r',S:=n,T:=z},rfl,h.sub B π F i y6 U O K (V π.wf) ab⟩;have ah:Hid (∀f d l n,Below w w f->Fx p.S n f d->Below d d l->VR l p.T p.yb p.c p.r/\l.cell? ⟨p.pb,1,none⟩=some (.pointer<|some ⟨p.yb,0,none⟩)):=λf d l n B F i=>by
  have s3:=B.size;have s4:=F.size;have s5:=i.size;have pl:=h.row.lt;refine⟨h.y.same (by omega) (by rw[i.tape,F.tape,B.tape]) (by rw[i.os,F.os,B.os]) λk e=>?_,?_⟩;have:=h.y.lt e;rw[i.block k (by omega),F.rest k (by omega) λq=>h.ap k q e,B.block k this];have r5:Row l p.pb 147 [ptr p.xb,ptr p.yb]:=by unfold Row;rw[i.block _ (by omega),F.rest _ (by omega) λq=>h.no<|.inl q,B.block _ pl];exact h.row
  exact r5.r 1
 have ag:Hid (∀f,Below w w f->∃P,P.pb=p.pb/\js f P/\Fx p.U P.U w f):=λf b=>⟨p,rfl,h.keep b,Fx.of b⟩;have h:=aK h;have V:=aK V;have K:=aK K;clear g1 g2 g3;go_enter fA func17,ntmps17;obtain _|_:=ac;case' false=>have B:Below w w w:=B0;have D:=Q _ B;go_wp2;clear R1
 case' true=>
  go_wp2;obtain⟨_,J⟩|⟨b,J⟩:=J;case' inl=>refine J.m1 λw1 C=>?_;have g:=C.alloc C.size<|.cells #[aB,aA,aA,.slice none 0 0] 93;have G:=c1 _ g;go_wp2;refine(L _ g).m1 λM o=>?_;have B:=(g.trans<|o.mono g.size).alloc (cA g.size o.size)<|.cells #[.string I,.int .i64 u,.int .i64 v] 55;have D:=Q _ B;clear G;go_wp2;generalize M.alloc _=f at B D|-
  case' inr=>
   refine J.mono ?_;rintro e w1⟨x,X,y,rfl,C⟩;have g:=C.alloc C.size<|.cells #[.string<|mk b.parent,.int .i64 b.bits,.int .i64 b.fX,.slice x X y] 93;have R:=aX w1 [.string<|mk b.parent,.int .i64 b.bits,.int .i64 b.fX,.slice x X y] 93;have G:=c1 _ g;go_wp2;refine(L _ g).m1 λM o=>?_;have bB:=Ba M<|.cells #[.string I,.int .i64 u,.int .i64 v] 55;have B:=(g.trans<|o.mono g.size).trans (bB.mono<|cA g.size o.size);have RB:=aX M [.string I,.int .i64 u,.int .i64 v] 55;have R:=(R.keep o R.lt).keep bB (R.keep o R.lt).lt;have D:=Q _ B;have q0:=R.r 0;have r0:=RB.r 0;clear G bB;by_cases e:mk b.parent=I;case' pos=>
    have eb:((mk b.parent).toList==I.toList)=true:=by rw[bytes_beq];simpa using e
    go_wp2;generalize M.alloc _=f at B D|-;clear R RB q0 r0 eb e
   case' neg=>
    have eb:((mk b.parent).toList==I.toList)=false:=by rw[bytes_beq];simpa using e
    go_wp2;go_ret;exact⟨rfl,ag.out _ B⟩
 all_goals
  refine(t _ B).mono ?_;rintro e d⟨rfl,n,π,F⟩;have i:=Ba d<|.cells #[.int .i64 A,.int .i64 E] 37;have R:=aX d [.int .i64 A,.int .i64 E] 37;have⟨y5,G⟩:=ah.out _ _ _ _ B F i;have k:=H _ y5;clear t D;go_wp2;refine k.mono ?_;rintro e m⟨rfl,z,y6,U⟩;have O:=Ba m<|.cells #[.int .i64 A,.int .i64 E] 37;have nT:¬p.T d.heap.size:=λai=>by have:=h.out.y.lt ai;have:=B.size;have:=F.size;omega
  have N:Row m d.heap.size 37 [.int .i64 A,.int .i64 E]:=(U.rest _ R.lt nT).trans R;have N:=N.keep O N.lt;have RB:=aX m [.int .i64 A,.int .i64 E] 37;have⟨r0,r1⟩:=N.p2;have⟨q0,q1⟩:=RB.p2;have aa:=af.out _ _ _ _ _ _ _ B π F i y6 U O;clear k H G;go_wp2;go_ret;exact⟨rfl,aa⟩
def mh(P:List PM)(k:Nat):Prop:=∀(i:Nat)p,P[i]?=some p->¬p.U k
structure LV(w0 W:World)(wb:Nat)(line:Bool)(ps:List PM)(cl:List Value):Prop where
 low:Below w0 w0 W
 Z2:w0.heap.size<=wb/\mh ps wb
 ex:∃nv cv,Row W wb 66 [nv,.bool line,cv]/\W.ownsRow w0.heap.size 70 1 nv ps.length (ps.map λp=>ptr p.pb)/\W.ownsRow w0.heap.size 53 1 cv cl.length cl/\(∀k,nv.ownBlock=some k->mh ps k)/\∀k,cv.ownBlock=some k->mh ps k
 pr:∀(i:Nat)p,ps[i]?=some p->js W p/\w0.heap.size<=p.pb/\(∀k,p.U k->w0.heap.size<=k)/\mh ps p.pb
 ap:∀(i j:Nat)p q,ps[i]?=some p->ps[j]?=some q->i≠j->∀k,p.U k->¬q.U k
 full:∀(i:Nat)u,cl[i]?=some u->Full W u (i/3)/\∀k,u.ownBlock=some k->mh ps k/\w0.heap.size<=k
 m3:cl.length%3=0
def LV.keep{d W a g L c cl}(h:LV d W g L c cl)(b:Below W W a):LV d a g L c cl:=have⟨k,j,R,l,m,f⟩:=h.ex;⟨h.low.trans<|b.mono h.low.size,h.Z2,⟨k,j,R.keep b R.lt,aP l b,aP m b,f⟩,λi p e=>⟨(h.pr i p e).1.keep b,(h.pr i p e).2⟩,h.ap,λi u e=>⟨(h.full i u e).1.keep b,(h.full i u e).2⟩,h.m3⟩
def LV.EM{b W c L a C k}(h:LV b W c L a C)(l:↑W<=k):mh a k:=λi p e u=>by have:=(h.pr i p e).1.lt u;omega
theorem Full.lt{W u m k}(h:Full W u m)(e:u.ownBlock=some k):k<W:=by obtain⟨n,a,c,rfl,_,d,_⟩:=h;obtain _|g:=a;cases e;cases e;exact d g rfl
def ZQ{e:Type}{l}{a b c x:e}{i}(h:(l++[a,b,c])[i]?=some x):l[i]?=some x\/(x∈[a,b,c]/\l.length<=i/\i<l+3):=by obtain L|d:=lB i l;rw[ko L]at h;exact .inl h;rw[cZ d]at h;have:=(bK.1 h).1;exact .inr ⟨eY h,d,by simp at this;omega⟩
def ahO{A W B T q S v n xs D}(h:LV A W B T q S)(o:W.ownsRow D 60 6 v n xs)(ad:A<=D)(J:D<=W)(y:∀k,v.ownBlock=some k->mh q k/\∀u∈S,u.ownBlock≠some k)(K:n<=1000000)(ae:S.length<=30000000):Cv 103 #[ptr B,v] W λe g=>e=.returned (.tuple #[])/\∃w,LV A g B T q w/\w=S.length+3/\(∀u∈w,u∈S\/u.ownBlock=v.ownBlock\/∀k,u.ownBlock=some k->W<=k)/\(∀k t Q,Row W k t Q->t≠66->t≠53->v.ownBlock≠some k->Row g k t Q)/\W<=(g:Nat):=by
 have⟨N,aa,R,E,z,I,C⟩:=h.ex;have X:S=3*(S.length/3):=by have:=h.m3;omega
 have U:=h.low.size;refine(ZO W R z o X O9 K U J).mono λe g⟨rfl,G,Y,π,V,O,M,F,x⟩=>?_;have s:∀k t Q,Row W k t Q->t≠66->t≠53->v.ownBlock≠some k->g.heap[k]?=W.heap[k]?:=λk t Q r a b c=>x.block k r.lt (by rintro(e|e|e);subst e;exact r.ne R a rfl;exact c e;exact bR z r b e)
 refine⟨rfl,S++[v,Y,π],⟨?_,h.Z2,⟨N,G,V,?_,by simpa using O,I,?_⟩,λi p e=>⟨?_,(h.pr i p e).2⟩,h.ap,λi u e=>?_,by simp;have:=h.m3;omega⟩,S8,λu L=>?_,λk t Q r a b c=>(s k t Q r a b c).trans r,x.size⟩;refine⟨x.os.trans h.low.os,x.tape.trans h.low.tape,x.output.trans h.low.output,cA U x.size,λk l=>?_⟩;rw[x.block k O9 (by rintro(e|e|e);have:=h.Z2.1;omega;have:=(bS o e).1;omega;have:=(bS z e).1;omega),h.low.block k l]
 refine dA E λk Q e _ r=>s k 70 Q.toList (by unfold Row;simpa using r) D9 D9<|vF E o D9 k e;intro k e;obtain d|d:=M;rw[d]at e;exact C k e;exact h.EM<|d k e;have P:=(h.pr i p e).1;refine P.same x.size x.tape x.os λk H=>?_;obtain u|rfl:=H;exact x.block k (P.lt u) (by
 rintro(j|j|j);subst j;exact h.Z2.2 i p e u;exact(y k j).1 i p e u;exact C k j i p e u);exact s _ _ _ P.row D9 D9<|bR o P.row D9;obtain e|⟨m,ab,ac⟩:=ZQ e;refine⟨(h.full i u e).1.same x.size λk Q a r=>s k 60 Q r D9 D9 λd=>(y k d).2 u (eY e) a,(h.full i u e).2⟩;rw[show i/3=S.length/3 from by omega];refine⟨(F u m).1,λk a=>?_⟩;rcases(F u m).2 with d|d;rw[d]at a;exact⟨(y k a).1,by have:=(bS o a).1;omega⟩;exact⟨h.EM<|d k a,by have:=d k a;omega⟩;obtain m|m:=nA.1 L;exact .inl m;exact .inr (F u m).2
def BZ{a:Type}{l:List a}{i j x y}(h:(l.set i x)[j]?=some y):(j=i/\y=x)\/(j≠i/\l[j]?=some y):=by by_cases e:j=i;subst e;have:=(bK.1 h).1;rw[Dw]at this;rw[Aq this]at h;exact .inl ⟨rfl,(iN h).symm⟩;rw[ot λq=>e q.symm]at h;exact .inr ⟨e,h⟩
def LV.sub{t W s L Y c X i p U}(h:LV t W L Y c X)(d:c[i]?=some p)(C:U.pb=p.pb)(P:js s U)(f:Fx p.U U.U W s):LV t s L Y (c.set i U) X:=by
 have⟨S,N,R,G,H,D,E⟩:=h.ex;have⟨M,ac,J,T⟩:=h.pr i p d;have w1:=h.low.size;have q:∀k,k<(W:Nat)->mh c k->mh (c.set i U) k:=λk l F j b e u=>by obtain⟨_,rfl⟩|⟨_,e⟩:=BZ e;obtain u|u:=f.old k u;exact F i p d u;omega;exact F j b e u
 have x:=λk(l:k<(W:Nat))(F:mh c k)=>f.rest k l<|F i p d;have π:∀{e:TypeId}{y n:Nat}{v:Value}{w:List Value},W.ownsRow ↑t e y v n w->(∀k,v.ownBlock=some k->mh c k)->s.ownsRow ↑t e y v n w:=λo F=>dA o λk cs e _ r=>x k (bO r)<|F k e;have I:∀{e:TypeId}{y n:Nat}{v:Value}{w:List Value},W.ownsRow ↑t e y v n w->∀k,v.ownBlock=some k->k<(W:Nat):=λo k e=>have⟨_,_,r⟩:=bS o e;bO r;refine⟨⟨f.os.trans h.low.os,f.tape.trans h.low.tape,f.out.trans h.low.output,cA w1 f.size,λk l=>?_⟩,⟨h.Z2.1,q _ R.lt h.Z2.2⟩,⟨S,N,(x _ R.lt h.Z2.2).trans R,?_,π H E,λk e=>q k (I G k e)<|D k e,λk e=>q k (I H k e)<|E k e⟩,λj b e=>?_,λj l b B e g n k u m=>?_,λj u e=>?_,h.m3⟩;rw[f.rest k O9 (λu=>by have:=J k u;omega),h.low.block k l];have:=π G D;rw[Dw];have e:(c.set i U).map (λp=>ptr p.pb)=c.map λp=>ptr p.pb:=by rw[List.map_set,C];apply kX;intro j;by_cases e:j=i;subst e;rw[Aq<|by simpa using((bK.1 d).1)];simp[d];rw[ot λb=>e b.symm]
 rw[e];exact this;obtain⟨_,rfl⟩|⟨n,e⟩:=BZ e;exact⟨P,O9,λk u=>(f.old k u).elim (J k) (λl=>by omega),C▸q _ M.row.lt T⟩;have⟨Q,V,aa,K⟩:=h.pr j b e;refine⟨Q.same f.size f.tape f.os λk u=>?_,V,aa,q _ Q.row.lt K⟩;obtain u|rfl:=u;exact f.rest k (Q.lt u)<|h.ap j i b p e d n k u;exact x _ Q.row.lt K;obtain⟨rfl,rfl⟩|⟨ab,z⟩:=BZ e;obtain⟨rfl,rfl⟩|⟨O,g⟩:=BZ g;exact n rfl;have:=(h.pr l B g).1.lt m;obtain u|u:=f.old k u;exact h.ap j l p B d g n k u m;omega;obtain⟨rfl,rfl⟩|⟨O,g⟩:=BZ g;have:=(h.pr j b z).1.lt u;obtain m|m:=f.old k m;exact h.ap j l b p z d n k u m;omega;exact h.ap j l b B z g n k u m;have⟨F,A⟩:=h.full j u e;exact⟨F.same f.size λk cs a r=>x k r.lt (A k a).1,λk a=>⟨q k (F.lt a) (A k a).1,(A k a).2⟩⟩
def T6{K C D}(h:fJ K C)(g:fJ K D):C.Perm D:=by
 have d:∀{C},fJ K C->C.Nodup:=fun{C} h=>by have:=h.nd;rw[List.Nodup,UF]at this;exact this.imp λa b=>a (by rw[b])
 rw[ag3 (d h)<|d g];exactλc=>⟨λm=>(g.all _ c<|h.mem c m).1,λm=>(h.all _ c<|g.mem c m).1⟩
def ahP{I W w1 w2 w5 p Y H X v1 v2 n xs}(h:LV I W p Y H X)(A:Below W W w1)(q:Below w1 w1 w2)(f:Below w2 w2 w5)(E:w1.ownsRow W 60 6 v1 n xs)(F:w2.ownsRow w1 60 6 v2 n xs)(C:n<=1000000)(U:X.length<=20000000):Cv 103 #[ptr p,v1] w5 λe l=>e=.returned (.tuple #[])/\(∀k t V,Row w5 k t V->t≠66->t≠53->t≠60->Row l k t V)/\Cv 103 #[ptr p,v2] l λe z=>e=.returned (.tuple #[])/\(∀k t V,Row w5 k t V->t≠66->t≠53->t≠60->Row z k t V)/\∃B,LV I z p Y H B/\B=X.length+6:=by
 have S:=h.low.size;have ab:=A.size;have ac:=q.size;have ad:=f.size;have g:∀k,v1.ownBlock=some k->(W:Nat)<=k/\k<(w1:Nat):=λk e=>have⟨d,_,r⟩:=bS E e;⟨d,bO r⟩;have j:∀k,v2.ownBlock=some k->(w1:Nat)<=k/\k<(w2:Nat):=λk e=>have⟨d,_,r⟩:=bS F e;⟨d,bO r⟩;have D:∀u∈X,∀k,u.ownBlock=some k->k<(W:Nat):=λu m k e=>have⟨i,P⟩:=jQ.1 m;(h.full i u P).1.lt e
 have M:=((h.keep A).keep q).keep f;have y:=aP (aP E q) f;have G:=aP F f;have x:∀{J v}{w:World}{k t V},w.ownsRow J 60 6 v n xs->Row w k t V->t≠60->v.ownBlock≠some k:=λo r c=>bR o r c;refine(ahO M y S O9 (λk e=>⟨h.EM (g k e).1,λu m d=>by have:=D u m k d;have:=g k e;omega⟩) C O9).mono ?_;rintro e l⟨rfl,T,N,l1,π,s,ae⟩;have Q:l.ownsRow ↑w1 60 6 v2 n xs:=dA G λk V e _ r=>by
  have R:Row w5 k 60 V.toList:=by unfold Row;simpa using r
  have:=s k 60 _ R D9 D9 (λd=>by have:=g k d;have:=j k e;omega);unfold Row at this R;rw[this,R]
 refine⟨rfl,λk t V r a b c=>s k t V r a b<|x y r c,(ahO N Q O9 O9 (λk e=>⟨h.EM (by have:=j k e;omega),λu m d=>?_⟩) C O9).mono ?_⟩;have:=j k e;obtain m|m|m:=π u m;have:=D u m k d;omega;rw[m]at d;have:=g k d;omega;have:=m k d;omega;rintro e z⟨rfl,K,O,l2,c2,L,aa⟩;exact⟨rfl,λk t V r a b c=>L k t V (s k t V r a b<|x y r c) a b λd=>have:=j k d;x G r c d,K,O,O9⟩
def QP{R W F ap r E}{am:Nat}{p}(ac:LV R W F ap E r)(ak:E[am]?=some p)(ai:r.length<=20000000):Cv 55 #[ptr F,ptr p.pb] W λe ae=>e=.returned true/\∃I,LV R ae F ap E I/\I=r.length+6:=by
 have P:=(ac.pr am p ak).1;have⟨a4,C,O,L⟩:=fold_eq P.ref P.x.wf P.aes;have⟨ao,G,N⟩:=acO P.x.wf;have M:C.length<=100000:=by rw[(T6 L G).length_eq];exact N
 have t:=λa(b:Below W W a)=>(P.keep b).x.dL C L M;have A:=λa(b:Below W W a)D(V:D.Perm C)a1=>TX C D a (P.keep b).y.at P.rw.ok P.su O V a1<|(V.map bL.pt).symm.nodup L.nd;have g:=λa(b:Below W W a)=>(P.keep b).row.r 0;have n:=λa(b:Below W W a)=>(P.keep b).row.r 1;have w:=g W B0;have B:=t W B0;have kp:=λh i m s x aq xs d f v l o aj=>ahP (w1:=h) (w2:=i) (w5:=m) (v1:=s) (v2:=x) (n:=aq) (xs:=xs) ac d f v l o aj ai;have kp:=aK kp;clear O G N;unfold ptr at t A g n w B|-;go_enter fA func55,ntmps55;go_wp2;refine B.mono ?_;rintro e h⟨s,D,z,J,rfl,l,d⟩;have Q:=t _ d;have⟨au,ax,al⟩:=aS l;subst al;clear B;go_wp2;refine Q.mono ?_;rintro e i⟨x,c,K,af,rfl,o,f⟩;have ah:=Kh c D (K.trans z.symm) af J<|(K.map bL.pt).symm.nodup (aK L).out.nd;subst ah;have H:=d.trans<|f.mono d.size;have S:=A _ H c z J;have ag:=n _ H;have⟨av,ay,an⟩:=aS o;subst an;clear Q t A g n;go_wp2;refine S.mono ?_;rintro e q⟨a3,rfl,gl,ad,j⟩;have ar:c.length<=100000:=z.length_eq▸M;have U:=rC ad (mO _) (Nat.zero_le _) (by unfold maxLen;omega);have X:=λa(b:Below q q a)=>yr (c.map some) a (by rw[uF,dS];exact aP (aP (aP l f) j) b) (by rw[uF,dS];exact aP U b) (by rw[dS];omega);have Y:=λa(b:Below q q a)=>yr (c.map some) a (by rw[uF,dS];exact aP (aP o j) b) (by rw[uF,dS];exact aP U b) (by rw[dS];omega);have π:=X _ B0;clear S ag X;go_wp2;refine π.m1 λaz u=>?_;have y:=Y _ u;clear π Y;go_wp2;refine y.m1 λm v=>?_;have k:=kp.out h i m _ _ _ _ d f ((j.trans<|u.mono j.size).trans (v.mono<|cA j.size u.size)) l o O9;unfold ptr at k;clear y kp;go_wp2;refine k.mono ?_;rintro e a0⟨rfl,_,T⟩;clear k;go_wp2;refine T.mono ?_;rintro e a2⟨rfl,_,aw⟩;clear T;go_wp2;go_ret;exact⟨rfl,aw⟩
def LV.add{f W w y L z c p N g s}(h:LV f W y L c z)(R:Row W y 66 [N,L,g])(O:W.ownsRow f 70 1 N c (c.map λp=>ptr p.pb))(J:W.ownsRow f 53 1 g z z)(H:∀k,N.ownBlock=some k->mh c k)(f2:∀k,g.ownBlock=some k->mh c k)(x:Xc (λk=>k=y\/N.ownBlock=some k) W w)(S:Row w y 66 [s,L,g])(X:w.ownsRow f 70 1 s (c+1) ((c.map λp=>ptr p.pb)++[ptr p.pb]))(V:s.ownBlock=N.ownBlock\/∀k,s.ownBlock=some k->W<=k/\¬p.U k)(P:js w p)(Y:W<=p.pb)(A:∀k,p.U k->W<=k):LV f w y L (c++[p]) z:=by
 have w1:=h.low.size;have B:∀k,mh c k->¬p.U k->mh (c++[p]) k:=λk F n i q e=>by obtain e|⟨_,rfl⟩:=iF e;exact F i q e;exact n
 have m:=λk(l:k<(W:Nat))(F:mh c k)=>B k F λu=>by have:=A k u;omega
 have K:∀{e:TypeId}{aa n:Nat}{v:Value}{d:List Value},W.ownsRow ↑f e aa v n d->∀k,v.ownBlock=some k->k<(W:Nat):=λo k e=>have⟨_,_,r⟩:=bS o e;bO r;have T:∀k t C,Row W k t C->t≠66->t≠70->w.heap[k]?=W.heap[k]?:=λk t C r a b=>x.block k r.lt (by rintro(e|e);subst e;exact r.ne R a rfl;exact bR O r b e)
 refine⟨⟨x.os.trans h.low.os,x.tape.trans h.low.tape,x.output.trans h.low.output,cA w1 x.size,λk l=>?_⟩,⟨h.Z2.1,m _ R.lt h.Z2.2⟩,⟨s,g,S,by simpa using X,?_,λk e=>?_,λk e=>m k (K J k e)<|f2 k e⟩,λi q e=>?_,λi j q M e D n k u U=>?_,λi u e=>?_,h.m3⟩;rw[x.block k O9 (by
 rintro(e|e);have:=h.Z2.1;omega;have:=(bS O e).1;omega),h.low.block k l];exact dA J λk C _ _ r=>T k 53 C.toList (by unfold Row;simpa using r) D9 D9;obtain q|q:=V;rw[q]at e;exact m k (K O k e)<|H k e;exact B k (h.EM (q k e).1) (q k e).2;obtain e|⟨_,rfl⟩:=iF e;have⟨Q,π,q2,q3⟩:=h.pr i q e;refine⟨Q.same x.size x.tape x.os λk u=>?_,π,q2,m _ Q.row.lt q3⟩;obtain u|rfl:=u;exact x.block k (Q.lt u) (by
 rintro(E|E);subst E;exact h.Z2.2 i q e u;exact H k E i q e u);exact T _ _ _ Q.row D9 D9;exact⟨P,O9,λk u=>by have:=A k u;omega,B _ (h.EM Y) P.no⟩;obtain G|⟨rfl,rfl⟩:=iF e;obtain E|⟨rfl,rfl⟩:=iF D;exact h.ap i j q M G E n k u U;have:=(h.pr i q G).1.lt u;have:=A k U;omega;obtain E|⟨rfl,rfl⟩:=iF D;have:=(h.pr j M E).1.lt U;have:=A k u;omega;exact n rfl;have⟨F,I⟩:=h.full i u e;exact⟨F.same x.size λk C a r=>T k 60 C r D9 D9,λk a=>⟨m k (F.lt a) (I k a).1,(I k a).2⟩⟩
def akZ(D):Ref ⟨[],-1⟩ (TK D):=⟨rfl,⟨_,rfl,rfl⟩,⟨_,rfl,rfl⟩,(λi k e=>by simp at e),⟨_,rfl,rfl⟩⟩
def akn(c D):xn c (TK D):=⟨λt a=>(by cases a),λi x b e _=>(by obtain _|i:=i;omega;cases b),λh y x d=>(by cases d)⟩
def rw0:RW ⟨[],-1⟩:=⟨⟨λi k e=>by simp at e,λk m=>by simp at m,D9,D9⟩,λi k e=>by simp at e⟩
def Fx.low{S W a}(f:Fx (λ_=>False) S W a):Below W W a:=⟨f.os,f.tape,f.out,f.size,λk l=>f.rest k l id⟩
def aI.ZR:(Vp.info? 70).map (λi=>(i.zero,i.size,i.bytes))=some (some<|.pointer none,1,8):=K8
def ZT{k W g L C j}(c:fL)(h:LV k W g L j C)(O:c.ok=false):Cv 16 #[ptr g,c.v] W λe l=>e=.returned true/\LV k l g L j C:=by
 have a:=aX W [↑c.wk,↑c.sh,↑c.me,↑c.su,↑c.bi] 26;have o:∀W,Cv 26 #[c.v] W λe f=>e=.returned (.tuple #[.pointer none,.int .i64 8])/\Below W W f:=λW=>(VK c W).mono λe f⟨b,d⟩=>by obtain⟨_,d⟩|⟨_,d,_⟩:=d;exact⟨d,b⟩;cases O▸d
 have p:∀W,Cv 47 #[c.v] W λe f=>e=.returned (.tuple #[.pointer none,.int .i64 8])/\Below W W f:=λW=>(Px c W).mono λe f⟨b,d⟩=>by obtain⟨_,d⟩|⟨_,d,_⟩:=d;exact⟨d,b⟩;cases O▸d
 have⟨q,s,t,u,w⟩:=a.p5;unfold fL.v ptr at*;go_enter fA func16,ntmps16;go_wp2;refine(o _).m1 λr i=>?_;have⟨q,s,t,u,w⟩:=(a.keep i a.lt).p5;go_wp2;refine(p _).m1 λv m=>?_;go_wp2;go_ret;exact⟨rfl,((h.keep (Ba W<|.cells #[↑c.wk,↑c.sh,↑c.me,↑c.su,↑c.bi] 26)).keep i).keep m⟩
def Lt{H W i ac cl f}(c:fL)(h:LV H W i ac f cl)(π:c.ok=true)(bc:f.length<=2000000):Cv 16 #[ptr i,c.v] W λe am=>e=.returned true/\∃ap,LV H am i ac (f++[ap]) cl:=by
 have⟨bf,a9,R,y,ax,aa,ab⟩:=h.ex;have⟨au,ag,an,ao,ar⟩:=info_parts aI.ZR;have⟨w,x,ai⟩:=aS y;subst ai;have s:=Ba W<|.cells #[↑c.wk,↑c.sh,↑c.me,↑c.su,↑c.bi] 26;have d:=aX W [↑c.wk,↑c.sh,↑c.me,↑c.su,↑c.bi] 26;have O:=λW=>VN.new c W π;have P:=λW=>VR.new c W π;have⟨az,a0,a2,a3,a4⟩:=d.p5;unfold fL.v ptr at*;go_enter fA func16,ntmps16;go_wp2;refine(O _).mono ?_;rintro e w1⟨q,S,D,rfl,I,U⟩;have A:=U.low;have⟨az,a0,a2,a3,a4⟩:=(d.keep A d.lt).p5;have M:=s.trans<|A.mono s.size;clear O;go_wp2;refine(P _).mono ?_;rintro e p⟨r,T,rfl,J,V⟩;have l:=V.low;have m:=M.trans<|l.mono M.size;have X:=I.same l.size l.tape l.os λk e=>l.block k<|I.lt e;have o:∀k,S k->(W:Nat)<=k/\k<(w1:Nat):=λk e=>⟨by have:=s.size;obtain e|e:=U.old k e;exact e.elim;omega,I.lt e⟩
 have v:∀k,T k->(w1:Nat)<=k/\k<(p:Nat):=λk e=>⟨by obtain e|e:=V.old k e;exact e.elim;exact e,J.lt e⟩
 have t:=Ba p<|.cells #[.pointer q,.pointer r] 147;have n:=aX p [.pointer q,.pointer r] 147;have C:Below (p.alloc<|.cells #[.pointer q,.pointer r] 147) (p.alloc<|.cells #[.pointer q,.pointer r] 147) ((p.alloc<|.cells #[.pointer q,.pointer r] 147).alloc<|.cells [.pointer<|some ⟨(p:Nat),0,none⟩].toArray 70):=B0.alloc L9 _;have L:=aX (p.alloc<|.cells #[.pointer q,.pointer r] 147) [.pointer p.heap.size] 70;have n:=n.keep C n.lt;have z:(p.alloc<|.cells #[.pointer q,.pointer r] 147).heap.size=(p:Nat)+1:=cR _ _;rw[z]at L;have B:=(m.trans<|t.mono m.size).trans (C.mono<|cA m.size t.size);have G:=aP y B;have RW:=R.keep B R.lt;have c0:=(R.keep m R.lt).r 0;have a7:=RW.r 0;have ae:Hid (∀u∈[Value.pointer p.heap.size],u.oneCell'=true):=λu ak=>by rw[pO.1 ak];rfl
 have ah:f.length+1<=100000000:=O9;have af:=cA h.low.size B.size;have aj:=m.size;have z:=aK z;clear P;go_wp2_with (at_builtin;refine sI rfl _ _ 63 rfl ↑H 70 au _ 1 8 (BC underlying63) ag an ao ar rfl D9 (.slice w f x) ((p:Nat)+1) f 1 1 _ [.pointer p.heap.size] E9 E9 G L rfl ae.out ah D9 af ?_;intro bk w5 F E av ba;have⟨Y,N,al⟩:=cX F f rfl;subst al;have j:=jN RW E (bR G RW D9);have a8:=j.r 0;have bb:=j.frozen 0;have a6:=j.lt);go_ret;refine⟨rfl,⟨(p:Nat),q,r,c,TK D,⟨[],-1⟩,S,T⟩,?_⟩;have ad:=cI w5 (i,0)<|.slice Y (f+1) N;have g:=((jS (S:=λk=>k=i\/(Value.slice w f x).ownBlock=some k) (t.trans<|C.mono t.size)).grown E λk e _=>.inr e).setCell (i,0) (.slice Y (f+1) N) λ_=>.inl rfl;have a5:=(jS (S:=λk=>k=i\/(Value.slice w f x).ownBlock=some k) m).trans g λ_ _ e=>e;have bg:=A.size;have bh:=l.size;have bj:=s.size;have bm:=R.lt;have Q:∀k,(Value.slice w f x).ownBlock=some k->k<(W:Nat):=λk e=>have⟨_,_,aq⟩:=bS y e;bO aq;have ay:=qK (u:=.slice i 0 0) F ad (λaw a b=>by cases b;exact bR F j D9 a);have K:=jN n E<|bR G n D9;refine h.add R y ax aa ab a5 (j.set 0 _) ay (av.imp id λe k h=>?_) ⟨K.bF _ _<|K.ne j D9,?_,?_,?_,akZ D,akn c D,rw0,π,?_⟩ aj ?_;cases e▸h;rw[cR,z.out];refine⟨O9,?_⟩;rintro(e|e);have:=o _ e;omega;have:=v _ e;omega;exact X.same g.size g.tape g.os λk e=>g.block k (X.lt e) (by
 have:=o k e;rintro(e|e);omega;have:=Q k e;omega);exact J.same g.size g.tape g.os λk e=>g.block k (J.lt e) (by
 have:=v k e;rintro(e|e);omega;have:=Q k e;omega);intro k a b;have:=o k a;have:=v k b;omega;rintro(e|e);have:=o _ e;simp only at this;omega;have:=v _ e;simp only at this;omega;rintro k(e|e);exact(o k e).1;have:=v k e;omega
def aet:=@Below.heap_setCell
def aeu{P}(w:World)(h D E H e n g b C S)(G:List Value)(t F)(m:P.underlying h=some (.slice H))(l:(P.info? H).map (·.size)=some S)(I:b<=e)(y:F.length=b*S)
 (z:0<F.length->∃a,g=some a/\∀j v,F[j]?=some v->(w.alloc<|.cells G.toArray t).cell? (a.add j)=some v)(B:F.length=0->b=0)(q:F.length<=G.length)(o:∀v∈F,v.oneCell'=true):
 (Builtin.copy_ #[h,D] E #[.slice (w:Nat) e n,.slice g b C]).run P (w.alloc<|.cells G.toArray t)=.ok b (w.alloc<|.cells (F++G.drop F.length).toArray t):=by
 rcases d:P.info? H with _|i;simp[d]at l;by_cases k:F.length=0;have s:=B k;have p:=lW k;subst s p;have c:∀(x:Addr),(loadCells x 0).run P (w.alloc<|.cells G.toArray t)=.ok #[] (w.alloc<|.cells G.toArray t):=λx=>by simpa using run_loadCells_list (P:=P) _ x [] S8
 cases g<;>simp[Builtin.copy_,wG m,Builtin.lenOf,Builtin.firstCells,sizeOf,typeInfo,d,storeCells,c,goInt];obtain⟨a,rfl,A⟩:=z O9;have c:=run_loadCells_list (P:=P) (w.alloc<|.cells G.toArray t) a F A;have f:=aaz P ↑w 0 t F 0 G.toArray (w.alloc<|.cells G.toArray t) (wF w _) (by simpa using q) o;rw[y]at c;simp[tJ,mj,List.take_zero,yC]at f;rw[HV]at f;simp[Builtin.copy_,wG m,Builtin.lenOf,Builtin.firstCells,sizeOf,typeInfo,d,(by simpa[d]using l),(lD I),c,f,goInt]
def I5(n:Nat):List Value:=(madeCells #[aB,aA] (n*2)).toList
def QQ(n):(I5 n)=n*2:=by unfold I5;rw[Array.length_toList,size_madeCells]
def aI.ajb:(Vp.info? 48).map (λi=>(i.zero,i.size,i.bytes))=some (some<|.agg #[aB,aA],2,24):=K8
def ako(n:Nat)(h:n<=1000000)(w):(Instr.makeSlice 58 ↑((n:Int)+1) ↑((n:Int)+1)).run Vp w=.ok (.slice (w:Nat) (n+1)<|n+1) (w.alloc<|.cells (I5<|n+1).toArray 48):=by have⟨e,a,b,c,d⟩:=info_parts aI.ajb;have:=wC (P:=Vp) w 58 48 e _ (BC underlying58) a b .i64 .i64 ((n:Int)+1) ((n:Int)+1) O9 (lC _) (by rw[d];omega) O9;rw[this,c,show((n:Int)+1).toNat=n+1 from by omega];simp[I5,Value.cells]
def qf(l):(qj l)=l.length*2:=by induction l with
 |nil=>rfl
 |cons x l a=>simp only[qj,yD,cB,cQ]at*;simp only[pN];omega
def ZU{w:World}{b o l}(h:∀(i:Nat)p,l[i]?=some p->w.cell? (b,o+i*2)=some p.1/\w.cell? (b,o+i*2+1)=some p.2):∀j v,(qj l)[j]?=some v->w.cell? ((⟨b,o,none⟩:Addr).add j)=some v:=λj v a=>by have m:=(bK.1 a).1;rw[qf]at m;have⟨p,k⟩:∃p,l[j/2]?=some p:=⟨_,aY O9⟩;have⟨c,d⟩:=Bq l (j/2) p k;have⟨f,g⟩:=h _ p k;rw[Qx];obtain e|e:=Nat.mod_two_eq_zero_or_one j;rw[show j/2*2=j from by omega]at c f;cases c▸a;exact f;rw[show j/2*2+1=j from by omega]at d;rw[show o+j/2*2+1=o+j from by omega]at g;cases d▸a;exact g
def akp(w d f l)(h:rP w (d,l,f) l)(i):(Builtin.copy_ #[58,58] i #[.slice (w:Nat) (l+1)<|l+1,.slice d l f]).run Vp (w.alloc<|.cells (I5<|l+1).toArray 48)=.ok l (w.alloc<|.cells (qj l++(I5<|l+1).drop (qj l)).toArray 48):=by
 refine aeu w 58 58 i 48 _ _ d _ f 2 _ _ _ (BC underlying58) K8 O9 (qf l) ?_ ?_ ?_ λv m=>?_;intro g;rw[qf]at g;have⟨a,c,p,k⟩:=h.keep<|show Below w w (w.alloc<|.cells (I5<|l+1).toArray 48)from B0.alloc L9 _;cases p;obtain⟨b,o,rfl,n⟩:=k (by intro e;simp[e]at g);exact⟨_,rfl,ZU n⟩;intro j;rw[qf]at j;omega;rw[qf,QQ];omega;unfold qj at m;have⟨x,_,h⟩:=Jl.1 m;simp at h;obtain rfl|rfl:=h<;>rfl
def Xh(s a w):(Op.equalIn 10000 48 (.agg #[.string s,.int .i64 a])<|.agg #[s,a]).run Vp w=.ok true w:=by simp[go_sem]
def Im{w g k t c a}(h:Row w g 55 c)(r:w.heap[k]?=some (.cells a t (0,0)))(n:t≠55:=by decide):k≠g:=λe=>by subst e;unfold Row at h;cases h▸r;exact n rfl
def mkP:List Value:=[.string lA,.int .i64<|-9]
def Io{w:World}{X c n:Nat}{L:List Value}{i I f}(j:∀a,Below w w a->Cv 14 #[.pointer<|some ⟨X,0,none⟩,.slice (some ⟨c,0,none⟩) n<|n+1] a λe W=>∃v,e=.returned (.tuple #[v,.agg #[.string i,.int .i64 I,.int .i64 f]])/\W.ownsRow a.heap.size 60 6 v n L/\Below a a W):
 Hid (Below w w w.drew)/\Hid (∀o,Below w w<|w.alloc o)/\Hid (∀o,Below w w (w.alloc o).drew)/\Hid (∀o,Below w w<|w.drew.alloc o)/\
 Hid (Cv 14 #[.pointer<|some ⟨X,0,none⟩,.slice (some ⟨c,0,none⟩) n<|n+1] w.drew λe W=>∃u U,e=.returned (.tuple #[.slice u n U,.agg #[.string i,.int .i64 I,.int .i64 f]])/\W.ownsRow w.heap.size 60 6 (u,n,U) n L/\Below w w W)/\
 Hid (Cv 14 #[.pointer<|some ⟨X,0,none⟩,.slice (some ⟨c,0,none⟩) n<|n+1] (w.alloc<|.cells #[aB,aA,aA] 55).drew λe W=>∃u U,e=.returned (.tuple #[.slice u n U,.agg #[.string i,.int .i64 I,.int .i64 f]])/\W.ownsRow w.heap.size 60 6 (u,n,U) n L/\Below w w W/\Row W w.heap.size 55 [aB,aA,aA])/\
 Hid (∀(a:World)x y z,Below w w a->Below w w (((a.setCell ⟨w.heap.size,0,none⟩ x).setCell ⟨w.heap.size,1,none⟩ y).setCell ⟨w.heap.size,2,none⟩ z)):=by
 have g:Below w w w.drew:=cN B0;have G:∀o,Below w w (w.alloc o).drew:=λo=>cN<|B0.alloc L9 _;have N:=aX w [aB,aA,aA] 55;refine⟨g,λo=>B0.alloc L9 _,G,λo=>g.alloc L9 _,(j _ g).mono λe W⟨v,d,h,H⟩=>?_,(j _<|G _).mono λe W⟨v,d,h,H⟩=>?_,λa x y z b=>((b.setCell (p:=⟨w.heap.size,0,none⟩) L9 x).setCell (p:=⟨w.heap.size,1,none⟩) L9 y).setCell (p:=⟨w.heap.size,2,none⟩) L9 z⟩;all_goals obtain⟨u,U,rfl⟩:=aS h
 exact⟨u,U,d,h,g.trans<|H.mono g.size⟩;exact⟨u,U,d,ki h (G _).size,(G _).trans<|H.mono (G _).size,N.keep (w:=(w.alloc<|.cells #[aB,aA,aA] 55).drew) H N.lt⟩
def T7{w0 W wb al X am ps}{i:Nat}{p l}(ad:LV w0 W wb al ps X)(hp:ps[i]?=some p)(K:rP w0 am l)(hk:∀q∈l,sJ q)(H:l.length<=1000000)(hc:X.length<=20000000):Cv 100 #[ptr wb,ptr p.pb,am] W λe W'=>e=.returned ↑aD/\∃Y,LV w0 W' wb al ps Y/\Y=X.length+6:=by
 have P:=(ad.pr i p hp).1;have⟨a6,ao,hF,aa⟩:=fold_eq P.ref P.x.wf P.aes;have⟨va,vc,hv,_⟩:=id K;subst hv;have ak:rP W (va,l,vc) l:=K.keep ad.low;have te:=T4 P.ref P.x.wf;have⟨I,o,s,ef⟩:=Il p.r p.r.last;have ai:=ef;rw[te]at ai;have M:=λw gl(b:Below W W w)(ap:Row w gl 48 (qj l++mkP))(a3:W.heap.size<=gl)=>(P.keep b).x.look (cl:=l.length+1) l ap (λah=>by have:=P.x.lt ah;omega) (λbb=>by simp[mkP]) hk H;have hy:=λw(b:Below W W w)=>ZK ao l w (P.keep b).y.at P.rw.ok P.su hF aa (ak.keep b) H;rw[ai]at M;rw[ef]at hy;have G:=λw(b:Below W W w)=>(P.keep b).row.r 0;have c1:=λw(b:Below W W w)=>(P.keep b).row.r 1;have aw:=ako l.length H W;have af:=akp W va vc l ak;have dl:((I5<|l.length+1).drop (qj l).length).length=2:=by rw[rM,QQ,qf];omega
 have h:=qf l;have r:=aX W (qj l++(I5<|l.length+1).drop (qj l).length) 48;generalize(I5<|l.length+1).drop (qj l).length=dd at dl r af;match dd,dl with
 |[y0,y1],_=>
   have bA:Below W W (W.alloc<|.cells (qj l++[y0,y1]).toArray 48):=B0.alloc L9 _;generalize W.alloc _=V at bA r af;have C:V.cell? ⟨W.heap.size,l.length*2,none⟩=some y0:=by rw[r.cell,cZ (by omega),h,rK];rfl
   have D:V.cell? ⟨W.heap.size,l.length*2+1,none⟩=some y1:=by rw[r.cell,cZ (by omega),h,Ah];rfl
   have z0:=r.frozen<|l.length*2;have z1:=r.frozen<|l.length*2+1;have lt:=r.lt;have RB:Row ((V.setCell ⟨W.heap.size,l.length*2,none⟩<|.string lA).setCell ⟨W.heap.size,l.length*2+1,none⟩ (.int .i64<|-9)) W.heap.size 48 (qj l++mkP):=by have:=(r.set (l.length*2)<|.string lA).set (l.length*2+1) (.int .i64<|-9);rw[<-h]at this|-;simpa[mkP]using this
   have d:=(bA.setCell (p:=⟨W.heap.size,l.length*2,none⟩) L9<|.string lA).setCell (p:=⟨W.heap.size,l.length*2+1,none⟩) L9 (.int .i64<|-9);have n0:(0:Int)<=(l.length:Int):=O9;have n1:(l.length:Int)<(l.length:Int)+1:=O9;have n2:(l.length:Int)<=(l.length:Int)+1:=O9;have n3:IntKind.i64.wrap ((l.length:Int)+1)=(l.length:Int)+1:=by rw[jP];omega
   have d0:=G _ d;clear hF h r;have K:=aK K;have aa:=aK aa;unfold ptr at M hy G c1 d0|-;go_enter fA func100,ntmps100;unfold lA at*;go_wp2;generalize(V.setCell _ _).setCell _ _=v at RB d|-;clear C D z0 z1 lt bA aw af d0;have a:=aK λw(b:Below v v w)=>G _ (d.trans<|b.mono d.size);have⟨gD,gA,gE,gF,π,dt,J⟩:=Io λw(b:Below v v w)=>M _ _ (d.trans<|b.mono d.size) (RB.keep b RB.lt) L9;go_cut [8,9] (λac q y=>∃u U z,ac=.slice u l.length U/\q=.pointer (some ⟨z,0,none⟩)/\Row y z 55 [.string I,.int .i64 o,.int .i64 s]/\y.ownsRow v.heap.size 60 6 (u,l,U) l.length (looked p.a.an.K l)/\Below v v y);case' rest=>obtain⟨u,U,z,rfl,rfl,T,o1,b3⟩:=hcut;have⟨f,ax⟩:∃f,f=wc:=⟨_,rfl⟩;subst ax;have A:=RB.keep b3 RB.lt;have m:=d.trans<|b3.mono d.size;have o1:=ki o1 d.size;clear a gD gA gE gF π dt J RB;go_wp2;have a:=aK λw(b:Below f f w)=>G _ (m.trans<|b.mono m.size);have⟨gD,gA,gE,gF,π,dt,J⟩:=Io λw(b:Below f f w)=>M _ _ (m.trans<|b.mono m.size) (A.keep b A.lt) L9;go_cut [10,11] (λac q y=>∃u U z,ac=.slice u l.length U/\q=.pointer (some ⟨z,0,none⟩)/\Row y z 55 [.string I,.int .i64 o,.int .i64 s]/\y.ownsRow f.heap.size 60 6 (u,l,U) l.length (looked p.a.an.K l)/\Below f f y);case' rest=>
     obtain⟨a9,ba,a7,rfl,rfl,c,o2,E⟩:=hcut;have⟨x,ay⟩:∃x,x=wc:=⟨_,rfl⟩;subst ay;have ab:=A.keep E A.lt;have S:=m.trans<|E.mono m.size;have T:=T.keep E T.lt;have d1:=c1 _ S;have k4:=hy _ S;clear a gD gA gE gF π dt J A M hy G c1;go_wp2;refine k4.mono ?_;rintro e j⟨g5,rfl,a4,R5,b5⟩;have bU:Below j j (j.alloc<|.cells #[.string I,.int .i64 o,.int .i64 s] 55):=B0.alloc L9 _;have t:=aX j [.string I,.int .i64 o,.int .i64 s] 55;have O:j.ownsRow 0 60 6 (g5,l,l.length) l.length (looked p.a.an.K l):=rC R5 (zy _ _) (Nat.zero_le _) (by unfold maxLen;omega);have B:=b5.trans<|bU.mono b5.size;have O:=aP O bU;have e1:=aP (aP o1 E) B;have e2:=aP o2 B;have T:=T.keep B T.lt;have c:=c.keep B c.lt;have R:=ab.keep B ab.lt;have aq:=S.trans<|B.mono S.size;have lo:looked p.a.an.K l=zT (l.map p.a.an.K):=by unfold looked zT;rw[List.flatMap_map]
     have kp:=λw7(b:Below x x w7)=>ahP (w5:=w7) ad m E b o1 o2 H hc;rw[lo]at e1 e2 O;clear k4 d1 R5 b5 bU lo ab;generalize au:j.heap.size=a8 at t|-;go_wp2;clear au;generalize j.alloc _=w6 at T c t R aq B O e1 e2|-;have L:(l.map p.a.an.K).length=l.length:=dS _;have s1:=yr (l.map p.a.an.K) w6 (by rw[L];exact e1) (by rw[L];exact O) (by rw[L];exact H);have s2:=λw(b:Below w6 w6 w)=>yr (l.map p.a.an.K) w (by rw[L];exact aP e2 b) (by rw[L];exact aP O b) (by rw[L];exact H);clear e1 e2 O L;refine s1.m1 λw7 N=>?_;have s2:=s2 _ N;clear s1;go_wp2;refine s2.m1 λw8 b8=>?_;have F:=N.trans<|b8.mono N.size;have T:=T.keep F T.lt;have c:=c.keep F c.lt;have t:=t.keep F t.lt;have R:=R.keep F R.lt;have k8:=kp _ (B.trans<|F.mono B.size);have⟨C,D,a2⟩:=T.p3;have⟨q0,q1,q2⟩:=c.p3;have ts:=acS I o s;unfold ptr at k8;clear s2 kp N b8;go_wp2;refine k8.mono ?_;rintro e w9⟨rfl,-,k9⟩;clear k8 C D a2 q0 q1 q2;go_wp2;refine k9.mono ?_;rintro e an⟨rfl,fr,Y,aj,ae⟩;have T:=fr _ _ _ T (by decide) (by decide) (by decide);have t:=fr _ _ _ t (by decide) (by decide) (by decide);have R:=fr _ _ _ R (by decide) (by decide) (by decide);have ar:=K.out.keep aj.low;have ae:=aK ae;clear k9 fr c;go_wp2;go_loopw [16,17] (λah i wr=>∃k,k<=l.length/\i=↑(k:Int)/\ah=↑aD/\Below an an wr) (λ_ i _=>l.length -(intOf i).toNat);exact⟨0,cH _,rfl,rfl,B0⟩;case round=>
      obtain⟨k,a5,rfl,rfl,n⟩:=hrel;by_cases lt:k<l.length
      .have k0:(0:Int)<=(k:Int):=O9;have k1:(k:Int)<(l.length:Int):=O9;have k2:(k:Int)<(l.length:Int)+1:=O9;have⟨q,hq⟩:∃q,l[k]?=some q:=⟨_,aY lt⟩;have⟨pb,po,a,pv,p0,p1⟩:=(ar.keep n).at hq;cases pv;have⟨g0,g1⟩:=Bq l k q hq;have RW:=R.keep n R.lt;have C:=(RW.cell<|k*2).trans<|eP g0;have D:=(RW.cell<|k*2+1).trans<|eP g1;have az:=Xh q.1 q.2;clear g0 g1 RW;go_wp2;go_region;all_goals go_wp2
       all_goals go_roundw
       all_goals first
        |exact⟨k+1,by omega,by go_num,rfl,cN n⟩
        |(simp[intOf];omega)
      have av:k=l.length:=by omega
      subst av;have k1:¬(l.length:Int)<(l.length:Int):=by omega
      have T:=T.keep n T.lt;have t:=t.keep n t.lt;have RW:=R.keep n R.lt;have h:=qf l;have⟨C,D,a2⟩:=T.p3;have⟨q0,q1,q2⟩:=t.p3;have m0:wr.cell? ⟨W.heap.size,l.length*2,none⟩=some (.string ⟨#[116,104,101,32,99,97,108,108,101,114,39,115]⟩):=by rw[RW.cell,cZ (by omega),h,rK];rfl
      have m1:wr.cell? ⟨W.heap.size,l.length*2+1,none⟩=some (.int .i64<|-9):=by rw[RW.cell,cZ (by omega),h,Ah];rfl
      have az:=Xh ⟨#[116,104,101,32,99,97,108,108,101,114,39,115]⟩<|-9;clear h;go_wp2;go_ret;exact⟨rfl,Y,aj.keep n,ae.out⟩
   all_goals as_aux_lemma=>
    have d0:=a.out _ B0;go_region_held3 (λW=>W.cell? ⟨p.pb,0,none⟩=some (.pointer<|some ⟨p.xb,0,none⟩)) (first|with_reducible exact a.out _ g|with_reducible exact a.out _ gD.out|with_reducible exact a.out _ (gE.out _)|with_reducible exact a.out _ (gA.out _)|with_reducible exact a.out _ (gF.out _)|with_reducible exact a.out _ (g.alloc g.size _)|with_reducible exact a.out _ (J.out _ _ _ _ g)|go_keep) ((first
       |(go_at_call 14;(with_reducible refine(π.out).mono ?_);rintro e x⟨u,U,rfl,o4,g⟩)
       |(go_at_call 14;(with_reducible refine(dt.out).mono ?_);rintro e x⟨u,U,rfl,o4,g,Q⟩;have q0:=Q.r 0;have q1:=Q.r 1;have q2:=Q.r 2;have f0:=Q.frozen 0;have f1:=Q.frozen 1;have f2:=Q.frozen 2;have ql:=Q.lt;have Q:=aK Q)))
    all_goals go_wp2
    all_goals go_meet
    all_goals first
     |exact⟨_,_,_,rfl,rfl,aX x [.string I,.int .i64 o,.int .i64 s] 55,aP o4<|B0.alloc L9 _,g.alloc g.size _⟩
     |exact⟨_,_,_,rfl,rfl,((Q.out.set 0<|.string I).set 1<|.int .i64 o).set 2<|.int .i64 s,dA o4 λk cs _ _ ag=>((aet _ _ _ k<|Im Q.out ag).trans (aet _ _ _ k<|Im Q.out ag)).trans (aet _ _ _ k<|Im Q.out ag),J.out _ _ _ _ g⟩
def LV.at{j W c L C b i p}(h:LV j W c L b C)(e:b[i]?=some p):∃g a,W.cell? (c,0)=some (.slice (some ⟨g,0,none⟩) b a)/\W.cell? ⟨g,i,none⟩=some (.pointer p.pb):=by have⟨m,l,R,d,_⟩:=h.ex;obtain⟨g,a,rfl,f⟩:=kN d (k:=i) (u:=ptr p.pb) (by simp[e]);exact⟨g,a,R.r 0,f⟩
def LV.sl{f W d l C c}(h:LV f W d l c C):∃a b,W.cell? (d,0)=some (.slice a c b):=by have⟨i,g,R,e,_⟩:=h.ex;obtain⟨a,b,rfl⟩:=aS e;exact⟨a,b,R.r 0⟩
def LV.whole{g W a l C d}(h:LV g W a l d C)(b:C.length<=30000000):Cv 20 #[ptr a] W λe f=>e=.returned ↑aD/\Below W W f:=have⟨k,j,R,_,c,_⟩:=h.ex;ZP W R c (λi u e=>(h.full i u e).1) b
def ZV{w W f L c b}(h:LV w W f L b c)(hp:b.length<=1100000)(l:c.length<=10000000):Cv 21 #[ptr f] W λe z=>e=.returned ↑aD/\Below w w z:=by have m:=λW c(h:LV w W f L b c)l=>h.whole l;have q:=λW c i p(h:LV w W f L b c)(e:b[i]?=some p)l=>QP h e l;unfold ptr at m q|-;go_enter fA func21,ntmps21;go_wp2;go_loopw [3] (λi wr=>∃(k:Nat)(C:List Value),k<=b/\i=↑(k:Int)/\LV w wr f L b C/\C<=c+6*k) (λi _=>b -(intOf i).toNat);exact⟨0,c,cH _,rfl,h,O9⟩;case round=>
  clear h;obtain⟨k,C,hk,rfl,h,Y⟩:=hrel;by_cases N:k<b
  .have⟨p,e⟩:∃p,b[k]?=some p:=⟨_,aY N⟩;have⟨g,Q,u,D⟩:=h.at e;have k0:(0:Int)<=k:=O9;have M:(k:Int)<b:=O9;have P:=(h.pr k p e).1;have A:=QO _ P;unfold ptr at A;clear m;go_wp2;refine A.mono ?_;rintro E S⟨rfl,o⟩;have h:=h.keep o;have r:=q _ _ _ _ h e O9;clear A u D P;go_wp2;refine r.mono ?_;rintro E U⟨rfl,G,h,π⟩;have P:=(h.pr k p e).1;have D:=P.row.r 1;have T:=T4 P.ref P.x.wf;have d:=xH U P.y.at P.rw.ok.l1 P.rw.ok.l2;rw[T]at d;unfold AN.nP ptr at d;unfold ptr at D;have J:p.a.an.aT<=1000:=by have V:=P.x.wf.chl;have X:=P.x.wf.ll;show p.a.ch.length -1<=1000;omega
   generalize p.a.an.aT=H at d J;generalize p.a.an.xf=I at d;generalize p.a.an.wo=x at d;clear r T P;go_wp2;refine d.mono ?_;rintro E n⟨rfl,s⟩;have t:=Ba n<|.cells #[I,↑(H:Int),x] 55;have R:=aX n [I,↑(H:Int),x] 55;have h:=(h.keep s).keep t;clear d D s t;go_wp2;generalize n.alloc _=y at h R|-;generalize(n:Nat)=tb at R|-;go_loopw [8] (λi wr=>∃j:Nat,j<=H+3/\i=↑((j:Int) -1)/\Below y y wr) (λi _=>H+3 -(intOf i+1).toNat);exact⟨0,cH _,rfl,B0⟩;case round=>
    obtain⟨j,hj,rfl,B⟩:=hrel;have RW:=R.keep B R.lt;have r1:=RW.r 1;have v:=h.keep B;have n1:IntKind.i64.wrap ((H:Int)+1)=(H:Int)+1:=by rw[jP];omega
    have O:IntKind.i64.wrap ((j:Int) -1+1)=(j:Int):=by rw[jP];omega
    by_cases le:j<=H+2;.have K:(j:Int) -1<=(H:Int)+1:=O9;have a:=Xg ((j:Int) -1) wr (v.pr k p e).1 O9;unfold ptr at a;go_wp2;refine a.mono ?_;rintro E w5⟨rfl,F⟩;clear a;go_wp2;go_roundw;exact⟨j+1,O9,S8,B.trans<|F.mono B.size⟩;simp[intOf];omega
    have K:¬(j:Int) -1<=(H:Int)+1:=O9;clear O;go_wp2;go_roundw;exact⟨k+1,G,O9,by go_num,v,O9⟩;simp[intOf];omega
  have M:¬(k:Int)<b:=O9;have⟨na,Q,u⟩:=h.sl;have a:=m _ _ h O9;clear m q;go_wp2;refine a.mono ?_;rintro E S⟨rfl,o⟩;clear a;go_wp2;go_ret;exact⟨rfl,(h.keep o).low⟩
def pk(c:Int)(n:Nat):Nat:=((if c<0 then-(c+1)else c)%(n:Int)).toNat
def ahQ{c n}(h:0<n):pk c n<n:=by
 unfold pk;generalize(if c<0 then-(c+1)else c)=d;have:=Nu d<|show(n:Int)≠0 by omega
 have:=UJ d<|show(0:Int)<n by omega
 omega
def ZW(c)(n:Nat)(w)(k:-9223372036854775808<=c/\c<9223372036854775808)(i:0<n)(o:n<=2000000):Cv 51 #[.int .i64 c,(n:Int)] w λe f=>e=.returned (pk c n:Nat)/\Below w w f:=by
 have F:∀b:Int,0<=b->b.tmod (n:Int)=((b%(n:Int)).toNat:Int):=λb h=>by
  rw[ag9 h];have:=Nu b<|show(n:Int)≠0 by omega
  omega
 have⟨j,a⟩:∃j,pk c n=j:=⟨_,rfl⟩;rw[a];unfold pk at a;by_cases l:c<0
 .have g:IntKind.i64.wrap (c+1)=c+1:=by rw[jP];omega
  have d:IntKind.i64.wrap (-(c+1))=-(c+1):=by rw[jP];omega
  have e:=F (-(c+1)) O9;rw[aN l]at a;rw[a]at e;clear a;generalize m:-(c+1)=b at d e;go_enter fA func51,ntmps51;go_wp2;go_ret;exact⟨by simp[e],B0⟩
 have e:=F c O9;rw[aJ l]at a;rw[a]at e;clear a;go_enter fA func51,ntmps51;go_wp2;go_ret;exact⟨by simp[e],B0⟩
structure U7 where
 kind:Int
 node:Int
 s:List UInt8
 NB:List Pt
 h:Int
 c:fL
def opC(o:U7)(v:Value):List Value:=[.int .i64 o.kind,.int .i64 o.node,.string<|mk o.s,v,.int .i64 o.h,.int .i64 o.c.wk,.int .i64 o.c.sh,.int .i64 o.c.me,.int .i64 o.c.su,.int .i64 o.c.bi]
structure qg(w0:World)(o:U7)(v:Value):Prop where
 kind:-9223372036854775808<=o.kind/\o.kind<9223372036854775808
 node:-9223372036854775808<=o.node/\o.node<9223372036854775808
 h:-9223372036854775808<=o.h/\o.h<9223372036854775808
 at_:rP w0 v o.NB
 ok:∀q∈o.NB,sJ q
 len:o.NB.length<=1000000
def T8{l W m s r v o j}{i:Nat}{p}(h:LV l W m s j r)(e:j[i]?=some p)(n:qg l o v)(N:r.length<=10000000):Cv 52 #[ptr m,ptr p.pb,.agg (opC o v).toArray] W λe d=>e=.returned true/\∃g f,LV l d m s g f/\g=j.length/\f<=r.length+6:=by
 have D:=Ba W<|.cells (opC o v).toArray 74;have y:=aX W (opC o v) 74;have k:=h.keep D;have P:=(k.pr i p e).1;obtain⟨S,L,R,_⟩:=k.ex;have q:=yY o.s _ P R;have t:=QO _ P;have u:=Xg o.h _ P n.h;have w:=T7 k e n.at_ n.ok n.len O9;have x:=QP k e O9;obtain⟨B,C,rfl,_⟩:=id n.at_;have⟨T,_,V,X,ab⟩:=y.p5;have π:Hid (∀d U,U.pb=p.pb->js d U->Fx p.U U.U (W.alloc<|.cells (opC o<|(B,o.NB,C)).toArray 74) d->∃g f,LV l d m s g f/\g=j.length/\f.length<=r.length+6):=λd U a b c=>⟨_,r,k.sub e a b c,S8,O9⟩;have E:Hid (∀d,Below (W.alloc<|.cells (opC o<|(B,o.NB,C)).toArray 74) (W.alloc<|.cells (opC o<|(B,o.NB,C)).toArray 74) d->∃g f,LV l d m s g f/\g.length=j.length/\f.length<=r.length+6):=λd b=>⟨j,r,k.keep b,rfl,O9⟩;have F:Hid (∀d,(∃f,LV l d m s j f/\f.length=r.length+6)->∃g f,LV l d m s g f/\g.length=j.length/\f.length<=r.length+6):=λd⟨c,a,b⟩=>⟨j,c,a,rfl,O9⟩;clear R P y D h k n;unfold opC at*;obtain⟨A,Q,ae,ad,M,aa,ac,O,su,K⟩:=o;simp only at*;unfold ptr at q t u w x|-;go_enter fA func52,ntmps52;by_cases G:A=2;.subst G;clear t u w x;go_wp2;refine q.mono ?_;rintro z Y⟨rfl,U,a,b,c⟩;go_wp2;go_ret;exact⟨rfl,π.out _ _ a b c⟩
 by_cases H:A=3;.subst H;clear q u w x;go_wp2;refine t.mono ?_;rintro z Y⟨rfl,b⟩;go_wp2;go_ret;exact⟨rfl,E.out _ b⟩
 by_cases I:A=4;.subst I;clear q t w x;go_wp2;refine u.mono ?_;rintro z Y⟨rfl,b⟩;go_wp2;go_ret;exact⟨rfl,E.out _ b⟩
 by_cases J:A=5;.subst J;clear q t u x;go_wp2;refine w.mono ?_;rintro z Y⟨rfl,b⟩;go_wp2;go_ret;exact⟨rfl,F.out _ b⟩
 clear q t u w;go_wp2;refine x.mono ?_;rintro z Y⟨rfl,b⟩;go_wp2;go_ret;exact⟨rfl,F.out _ b⟩
def aev{z W x g d v o i}(h:LV z W x g i d)(N:0<i.length)(C:qg z o v)(au:i.length<=1100000)(aj:d.length<=10000000):Cv 19 #[ptr x,.agg (opC o v).toArray] W λe q=>e=.returned true/\∃l t,LV z q x g l t/\(i<=l.length/\l<=i.length+1)/\t<=d.length+6:=by
 have J:=Ba W<|.cells (opC o v).toArray 74;have n:=aX W (opC o v) 74;have B:=h.keep J;have D:Hid (∀(c:fL)y,LV z y x g i d->Cv 16 #[ptr x,c.v] y λe q=>e=.returned true/\∃l t,LV z q x g l t/\(i.length<=l.length/\l.length<=i.length+1)/\t.length<=d.length+6):=λc y h=>by cases R:c.ok with
  |false=>exact(ZT c h R).mono λe q⟨a,b⟩=>⟨a,i,d,b,⟨L9,O9⟩,O9⟩
  |true=>exact(Lt c h R O9).mono λe q⟨a,p,b⟩=>⟨a,_,d,b,S8,O9⟩
 obtain⟨p,M⟩:∃p,i[pk o.node i.length]?=some p:=⟨_,aY<|ahQ N⟩;have ak:=ahQ (c:=o.node) N;have r:Hid (∀y,LV z y x g i d->Cv 52 #[ptr x,ptr p.pb,.agg (opC o v).toArray] y λe q=>e=.returned true/\∃l t,LV z q x g l t/\(i.length<=l.length/\l.length<=i.length+1)/\t.length<=d.length+6):=λy h=>(T8 h M C aj).mono λe q⟨a,p,c,b,K,f⟩=>⟨a,p,c,b,O9,f⟩;have m:=λy=>ZW o.node i.length y C.node N O9;obtain⟨aq,ay,L,G⟩:=B.at M;generalize pk o.node i.length=j at M ak m G;obtain⟨al,an,rfl,_⟩:=id C.at_;have Q:Hid (∀q,Below W W q->∃l t,LV z q x g l t/\(i.length<=l.length/\l.length<=i.length+1)/\t.length<=d.length+6):=λq b=>⟨i,d,h.keep b,⟨L9,O9⟩,O9⟩;have⟨U,O,V,X,Y,π,A,s,u,E⟩:=n.p10;have B:=aK B;have n:=aK n;unfold Hid opC at*;obtain⟨H,am,a0,aw,ai,ag,af,ac,su,P⟩:=o;simp only at*;unfold ptr at*;go_enter fA func19,ntmps19;by_cases ah:H=1;.subst ah;have k:=D ⟨ag,af,ac,su,P⟩ _ B;unfold fL.v at k;simp only at k;clear D r m;go_wp2;refine k.m1 λw f=>?_;go_wp2;go_ret;exact⟨rfl,f⟩
 by_cases ao:H<2;.clear D r m;go_wp2;go_ret;exact⟨rfl,Q _ J⟩
 by_cases ar:H>6;.clear D r m;go_wp2;go_ret;exact⟨rfl,Q _ J⟩
 go_wp2;generalize W.alloc _=w at*;have T:∀K S,Cv 51 #[am,↑(i.length:Int)] (Go.Sort.grow (redrawn w K) S) λe F=>e=.returned ↑(j:Int)/\∃p:Regrown,F=Go.Sort.grow (redrawn w p.d) p.os:=λK S=>Calls.regrown_of<|m _;have L:=cell_regrown L;have G:=cell_regrown G;have O:=cell_regrown O;clear D m U V X Y π A s u E;refine wp_region_quiet_below nO K8 ?_;repeat(go_big_quiet_step (first|(go_at_call 51;exact T _ _)))
 refine vZ λw2 I=>?_;have k:=r _<|B.keep I;have⟨U,O,V,X,Y,π,A,s,u,E⟩:=(n.keep I n.lt).p10;clear L G T r;go_wp2;refine k.m1 λaz f=>?_;go_wp2;go_ret;exact⟨rfl,f⟩
end Go.Proofs.aH
