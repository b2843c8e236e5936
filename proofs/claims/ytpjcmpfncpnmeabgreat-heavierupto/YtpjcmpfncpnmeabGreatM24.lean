import Derived.ProofKit
import Derived.SizedLaws
import Derived.Carry
import Derived.Deep.Slices
import Derived.Deep.Strs
import Derived.Lib.SmallJoins
import Derived.Test.YtpjcmpfncpnmeabGreatRows
import Derived.Test.YtpjcmpfncpnmeabGreatM19
import Derived.Test.YtpjcmpfncpnmeabGreatM23
set_option linter.all false
set_option maxHeartbeats 16000000
set_option maxRecDepth 100000
namespace Go.Proofs.aH
open Go.RowKit
def HF(a su):∀(l:List (Int×List NB)) (mem:List cF) (K:jW),((bR a su l mem K).e=0->(bR a su l mem K).ls.length=l.length)/\((bR a su l mem K).e≠0->(bR a su l mem K).at_<l.length)
 |[],mem,K=>⟨λ_=>rfl,λh=>absurd rfl h⟩
 |x::r,mem,K=>by
   by_cases h0:(cB a su x.1 x.2 mem K []).1=0;.have⟨b,c⟩:=HF a su r (cB a su x.1 x.2 mem K []).2.2 (cB a su x.1 x.2 mem K []).2.1.K;rw[bR,aU (by rw[h0];simp)];simp only[fF];exact⟨λe=>by rw[b e],λe=>Nat.succ_lt_succ (c e)⟩
   .rw[bR,bE h0];simp only[fF];refine⟨λe=>?_,λ_=>Vh _⟩;split at e;.omega
    .omega
def Yd{a j y b}(d:Ye a j y)(h:a.bl[j]?=some y)(hl:b.ls.length=(fX a j y.aX).length):dG (a.rC j y b)=y/\(a.rC j y b).ch.length=cG a j y.aX+(fX a j y.aX).length:=by
 have c:=d.fork;have i:=wJ (fX a j y.aX) b.ls hl;have k:=d.pos;have g:(a.rC j y b).ch.length=cG a j y.aX+(fX a j y.aX).length:=by show(a.ch.take _++oD _ _).length=_;rw[bW,jH,uV c,i]
 refine⟨?_,g⟩;unfold dG;have e:(oD (fX a j y.aX) b.ls)[(fX a j y.aX).length -1]?=some _:=bP O9;have f:=(qR _ _ _ _ e).1;rw[d.last]at f;have e3:(a.rC j y b).ch[(a.rC j y b).ch.length -1]?=(oD (fX a j y.aX) b.ls)[(fX a j y.aX).length -1]?:=by show(a.ch.take _++oD _ _)[_]?=_;rw[eD (by rw[jH,uV c];omega),jH,uV c];congr 1;omega
 rw[e3,e,uR,<-gJ f];show(a.bl[j]?).getD _=y;rw[h];rfl
structure ae8(a:AG)(s:List UInt8)(R:Int×Int×Int×AG):Prop where
 l:R.1=0
 j:R.2.1=0
 ch:R.2.2.2.ch=a.ch
 vA:dG R.2.2.2=dG a
 ok:R.2.2.1=0->∃b,lC s=some b/\xI a b=true/\(cR a s b).wo<=(dG a).wo
structure Goes(a:AG)(s:List UInt8)(b:np)(R:Int×Int×Int×AG)(f k:Nat):Prop where
 dec:lC s=some b
 par:xI a b=true
 e:R.2.2.1=0
 wo:(dG a).wo<(cR a s b).wo
 vA:dG R.2.2.2=cR a s b
 f1:1<=f
 fl:f<=a.ch.length
 k1:1<=k
 l:R.1=((a.ch.length -f:Nat):Int)
 j:R.2.1=(k:Int)
 len:R.2.2.2.ch.length=f+k
def HI{c a s}(h:Aw a):(ae8 a s (p8 c a s)\/∃b f k,Goes a s b (p8 c a s) f k)/\(p8 c a s).2.2.2.lo=a.lo/\∀(j:Nat) (x:BN),(p8 c a s).2.2.2.bl[j]?=some x->(∃l,a.bl[j]?=some l/\x.id=l.id/\x.wo=l.wo)\/∃b,lC s=some b/\xI a b=true/\x.id=jC s/\x.wo=(cR a s b).wo:=by
 unfold p8;cases t:lC s with
 |none=>exact⟨.inl ⟨rfl,rfl,rfl,rfl,λe=>by cases e⟩,rfl,λj x g=>.inl ⟨x,g,rfl,rfl⟩⟩
 |some b=>
   simp only;by_cases hr:uE a c.bi s b=0;rotate_left;.rw[bE hr];exact⟨.inl ⟨rfl,rfl,rfl,rfl,λe=>absurd e hr⟩,rfl,λj x g=>.inl ⟨x,g,rfl,rfl⟩⟩
   .have P:¬uE a c.bi s b≠0:=by simpa using hr
    rw[aU P];have⟨r1,r2,r3,Y⟩:=xg hr;have⟨L,_⟩:=tH t;have K:=(nk b).1 L;have w:=h.keep hr (by have:=K.2.1;omega);have u:dG {a with bl:=a.bl++[cR a s b]}=dG a:=Jb h rfl (λi x g=>kM g);have X:∀(j:Nat) (x:BN),(a.bl++[cR a s b])[j]?=some x->(∃l,a.bl[j]?=some l/\x.id=l.id/\x.wo=l.wo)\/∃b,some b=some b/\xI a b=true/\x.id=jC s/\x.wo=(cR a s b).wo:=λj x g=>by
     obtain g|⟨_,rfl⟩:=tI g;.simp_all
     .exact .inr ⟨b,rfl,r2,rfl,rfl⟩
    have r:∀(j:Nat) (x:BN),(a.bl++[cR a s b])[j]?=some x->(∃l,a.bl[j]?=some l/\x.id=l.id/\x.wo=l.wo)\/∃m,some b=some m/\xI a m=true/\x.id=jC s/\x.wo=(cR a s m).wo:=λj x g=>by grind
    by_cases v:(cR a s b).wo<=(dG a).wo;.rw[bE v];exact⟨.inl ⟨rfl,rfl,rfl,u,λ_=>⟨b,t,r2,v⟩⟩,rfl,r⟩
    .rw[aU v];obtain⟨d,n⟩:∃d,d=({a with bl:=a.bl++[cR a s b]}:AG):=⟨_,rfl⟩;rw[<-n]at w u|-;have F:d.bl[a.bl.length]?=some (cR a s b):=by rw[n];simp
     have q:d.ch=a.ch:=by rw[n]
     have E:d.lo=a.lo:=by rw[n]
     have D:d.bl=a.bl++[cR a s b]:=by rw[n]
     have O:¬Bl d.ch (cR a s b).aX a.bl.length:=λe=>by unfold Bl at e;rw[q]at e;cases A:a.ch[(cR a s b).aX]? with
      |none=>rw[A]at e;cases e
      |some z=>rw[A]at e;simp only[dW,gT]at e;have⟨x,T,_⟩:=h.ch _ z A;have:=(bY.1 T).1;omega
     have p:=Pk w F rfl O;have⟨B,C⟩:=HF c.me.toNat c.su ((fX d a.bl.length (cR a s b).aX).map (mA d.bl)) d.mem (goes tJ (gG (d.ch.take (cG d a.bl.length (cR a s b).aX))));change (dI c d a.bl.length (cR a s b).aX).e=0->(dI c d a.bl.length (cR a s b).aX).ls.length=_ at B;change (dI c d a.bl.length (cR a s b).aX).e≠0->(dI c d a.bl.length (cR a s b).aX).at_<_ at C;rw[fN]at B C;unfold Cy;by_cases o:(dI c d a.bl.length (cR a s b).aX).e=0
     .rw[bE o];have⟨H,I⟩:=Yd p F (B o);have M:1<=cG d a.bl.length (cR a s b).aX:=by unfold cG;have:=p.len;omega
      refine⟨.inr ⟨b,cG d a.bl.length (cR a s b).aX,(fX d a.bl.length (cR a s b).aX).length,t,r2,rfl,O9,H,M,by rw[<-q];exact p.fork,p.pos,by rw[<-q],rfl,I⟩,E,λj x g=>r j x (by rw[<-D];exact g)⟩
     .rw[aU o];have J:=C o;have e:=bP J;have⟨z,W,_,z3,_⟩:=p.at_ _ _ e;have N:(fX d a.bl.length (cR a s b).aX).getD (dI c d a.bl.length (cR a s b).aX).at_ 0=(fX d a.bl.length (cR a s b).aX)[(dI c d a.bl.length (cR a s b).aX).at_]:=by rw[zj,e];rfl
      rw[N];have Q:=HJ w W z3 (dI c d a.bl.length (cR a s b).aX).mem;refine⟨.inl ⟨rfl,rfl,q,Q.trans u,λe=>absurd e o⟩,E,λj x g=>?_⟩;have⟨l,R,S⟩:=get_map g;subst S;rcases r j l (by rw[<-D];exact R)with⟨y,y1,μ,V⟩|⟨m,b1,b2,b3,G⟩;.exact .inl ⟨y,y1,μ,V⟩
      .exact .inr ⟨m,b1,b2,b3,G⟩
def yL:∀l K C,fB K l->qO K C->∃D,qO (goes K l) D/\D.length<=C.length+l.length
 |[],K,C,_,h=>⟨C,h,L9⟩
 |s::l,K,C,g,h=>by have⟨h1,h2⟩:=g;cases b:s.C6 with
   |true=>
     have a:=h1.2;rw[b,bE rfl]at a;have e:yY K s=K.put s.jY:=by unfold yY;rw[b];rfl
     have⟨D,c,d⟩:=yL l (yY K s) (s.jY::C) h2 (by rw[e];exact h.put a);exact⟨D,c,by simp at d|-;omega⟩
   |false=>
     have a:=h1.2;rw[b,aU S8]at a;have e:yY K s=K.take s.jY.pt:=by unfold yY;rw[b];rfl
     have⟨f,c1,_,c3⟩:=h.take a;have⟨D,c,d⟩:=yL l (yY K s) f h2 (by rw[e];exact c1);exact⟨D,c,by simp at d|-;omega⟩
def Mp{a}(h:Aw a):∃C,qO a.an.K C/\C.length<=100000:=by have⟨D,b,d⟩:=yL (gG a.ch) tJ [] h.path ⟨S8,λc e=>by simp at e,λp c f=>by cases f⟩;refine⟨D,b,?_⟩;have h1:=HL h.len;have h2:=h.chl;have g:=h.ll;simp at d;omega
def pn.tail{x D}(h:pn (x::D)):pn D:=λi j u v c a b=>h (i+1) (j+1) u v O9 (by simpa using a) (by simpa using b)
def HM:∀D D',D.Perm D'->pn D->pn D'->(D.map dC.pt).Nodup->D=D'
 |[],D',a,_,_,_=>a.nil_eq
 |x::t,[],a,_,_,_=>absurd a.length_eq S8
 |x::t,y::c,a,h1,h2,b=>by
   have g:=(a.map dC.pt).nodup_iff.1 b;by_cases e:x=y
   .subst e;have h:(t.map dC.pt).Nodup:=by rw[lD,J5]at b;exact b.2
    rw[HM t c a.cons_inv h1.tail h2.tail h]
   .have k:x∈c:=by
     rcases iP.1 (a.mem_iff.1 (Vq ..))with q|q;.simp_all
     .exact q
    have l:y∈t:=by grind
    have⟨i,hi⟩:=oL.1 k;have⟨j,f⟩:=oL.1 l;have d:=h2.lt g (i:=0) (j:=i+1) (x:=y) (y:=x) O9 rfl (by simpa using hi);have m:=h1.lt b (i:=0) (j:=j+1) (x:=x) (y:=y) O9 rfl (by simpa using f);rw[E4]at d;omega
structure vR(C:Nat)(w:World)(sa:Option Addr)(l:List (Int×List Int)):Prop where
 at_:l≠[]->∃g o,g<C/\sa=some ⟨g,o,none⟩/\∀(i:Nat) (x:Int×List Int),l[i]?=some x->(-9223372036854775808<=x.1/\x.1<9223372036854775808)/\∃va vc,w.cell? ⟨g,o+i*2,none⟩=some (.int .i64 x.1)/\w.cell? ⟨g,o+i*2+1,none⟩=some (.slice va x.2.length vc)/\nU C w (.slice va x.2.length vc) x.2
def vR.lw{C w w' sa l}(h:vR C w sa l)(x:Lw C w w'):vR C w' sa l:=by refine⟨λhl=>?_⟩;have⟨g,o,a,c,d⟩:=h.at_ hl;refine⟨g,o,a,c,λi y e=>?_⟩;have⟨hr,va,vc,h1,h2,b⟩:=d i y e;exact⟨hr,va,vc,Jc x a h1,Jc x a h2,b.lw x L9⟩
structure PG(w wr:World)(rb B m:Nat)(c:jN)(r:pQ)(a:AG):Prop where
 lw:Lw w.heap.size w wr
 run:gH wr rb B r
 node:gI wr r.nb r.c a
 jT:wK r m
 c:r.c=C7 c
 lo:w.heap.size<=rb/\w.heap.size<=B/\w.heap.size<=a.lo
 wk:aa4 r a
 NC:r.ids.Nodup
 i0:0<r.ids.length
 ain:∀(j:Nat) (x:BN),a.bl[j]?=some x->x.id∈r.ids
def Yf.pg{w w' rb B c r a}(h:Yf w w' rb B c r a):PG w w' rb B 2 c r a:=⟨h.lw,h.run,h.node,h.jT,h.c,h.lo,h.wk,h.NC,h.kn.2,λj x b=>h.kn.1 _ (vK (cW b))⟩
def PG.keep{w wr w' rb B m c r a}(h:PG w wr rb B m c r a)(b:Below wr wr w'):PG w w' rb B m c r a:=⟨h.lw.trans (Lw.below b),h.run.keep b,h.node.keep b,h.jT,h.c,h.lo,h.wk,h.NC,h.i0,h.ain⟩
def PG.base{w0 w wr rb B m c r a}(h:PG w wr rb B m c r a)(b:Below w0.heap.size w0 w):PG w0 wr rb B m c r a:=⟨(Lw.below b).trans (h.lw.mono b.size),h.run,h.node,h.jT,h.c,⟨bJ b.size h.lo.1,bJ b.size h.lo.2.1,bJ b.size h.lo.2.2⟩,h.wk,h.NC,h.i0,h.ain⟩
def PG.make{w wr w' rb B m c r k a}(h:PG w wr rb B m c r a)(p:E6 wr w' rb B m r k):PG w w' rb B (m+1) c k a:=by
 have mf:=h.run.mf (LB:=(w:Nat)) p.fx ⟨h.lo.1,h.lo.2.1⟩;have n:=h.node.mf mf;have hN:gI w' k.nb k.c a:=by rw[p.nb,p.c];exact n
 obtain⟨_,f,e2⟩|⟨s,b,q,x,M⟩:=p.made;.exact⟨h.lw.trans mf.lw,p.run,hN,p.jT,p.c.trans h.c,h.lo,by intro i j x v g hi d;rw[f]at hi;rw[e2]at d;exact h.wk i j x v g hi d,by rw[f];exact h.NC,by rw[f];exact h.i0,λj x l=>by rw[f];exact h.ain j x l⟩
 .refine⟨h.lw.trans mf.lw,p.run,hN,p.jT,p.c.trans h.c,h.lo,?_,?_,by rw[M.ids];simp,λj x l=>by rw[M.ids];exact Qr _ (h.ain j x l)⟩
  .intro i j y v g hi d;rw[M.ids]at hi;rw[M.cN]at d;obtain hi|⟨_,e⟩:=tI hi
   .refine h.wk i j y v g hi ?_;have hl:i<r.cN.length:=by rw[h.jT.wl];exact(bY.1 hi).1
    rwa [mM hl]at d
   .exact absurd (by rw[<-e];exact h.ain j y g) M.new
  .rw[M.ids,Qo];exact⟨h.NC,S8,λu o v d e=>by simp at d;subst d;subst e;exact M.new o⟩
def Dq{r f s b c x a}(M:Made r f s b c x)(e:aa4 r a)(d:xI a b=true):x+2^b.bits.toNat=(cR a s b).wo:=by have⟨h1,h2⟩:=p9 d;have:=e c _ _ x h1 (by rw[h2];exact M.par) M.wx;show _=(xJ a b).wo+2^b.bits.toNat;rw[this]
def PG.sub{w wr w' rb B m c r d a s b C x}(h:PG w wr rb B m c d a)(M:Made r d s b C x)(u:aa4 r a)(hl:r.cN.length=r.ids.length)(t:gI w' d.nb d.c (p8 d.c a s).2.2.2)(y:Ck a.lo Y2 wr w'):PG w w' rb B m c d (p8 d.c a s).2.2.2:=by
 have⟨_,n,e2⟩:=HI (c:=d.c) (s:=s) h.node.wf;refine⟨h.lw.trans (y.lw.mono h.lo.2.2),h.run.ck y (qT D9 D9 D9 D9 D9 D9) (qT D9 D9 D9 D9 D9 D9) (qT D9 D9 D9 D9 D9 D9) (qT D9 D9 D9 D9 D9 D9),t,h.jT,h.c,by rw[n];exact h.lo,?_,h.NC,h.i0,λj z A=>?_⟩
 .intro i j z v p hi k;obtain⟨z0,f,e,g⟩|⟨l,q0,f,e,g⟩:=e2 j z p;.rw[g];exact h.wk i j z0 v f (by rw[<-e];exact hi) k
  .rw[M.dec]at q0;cases q0;rw[e]at hi;have q:d.ids[r.ids.length]?=some (jC s):=by rw[M.ids];simp
   have o:=(Qs (bY.1 hi).1 h.NC).1 (hi.trans q.symm);subst o;rw[M.cN,<-hl]at k;simp at k;rw[g,<-Dq M u f,<-k]
 .obtain⟨z0,f,e,g⟩|⟨l,q0,f,e,g⟩:=e2 j z A;.rw[e];exact h.ain j z0 f
  .rw[e,M.ids];simp
end Go.Proofs.aH
namespace Go.Proofs.YtpjcmpfncpnmeabGreat
open Go.ChangeShapes Go.WideShapes Go.ChangeAt Go.RowKit Go.Ren
def Tryz.NV:Tryz.prog.cellsOf 3=1:=K8
def Wq:=@Tryz.NV
def Tryz.KH:Tryz.prog.cellsOf 32=2:=K8
def Tryz.NW:Tryz.prog.bytesOf 3=8:=K8
def Tryz.KI:Tryz.prog.bytesOf 32=32:=K8
def tY{a}(h:(Lit.int .i64 a).wf=true):-9223372036854775808<=a/\a<9223372036854775808:=by have c:IntKind.i64.min=-9223372036854775808:=rfl;have b:IntKind.i64.max=9223372036854775807:=rfl;simp[Lit.wf]at h;omega
def KJ{w:World}{a:Addr}{n cs}(h:w.cells? 0 (a.add 0) n=some cs)(d:0<n):∃b o,a=⟨b,o,none⟩:=by have⟨_,hl,c⟩:=U7 h;have h0:=c 0 d;rw[bP O9]at h0;have:=World.cell?_spot h0;simp[Addr.add]at this;have⟨b,o,sp⟩:=a;exact⟨b,o,by simpa using this⟩
def GV{w:World}{b o n i cs}(h:w.cells? 0 (((b,o):Addr).add i) n=some cs):∀j,j<n->w.cell? ⟨b,o+i+j,none⟩=cs[j]?:=by have⟨_,hl,a⟩:=U7 h;intro j c;rw[<-a j c];unfold Addr.add;by_cases hi:i=0<;>by_cases d:j=0<;>simp[hi,d]
def D3{α:Type}(f:Nat->α)(n i x)(h:((List.range n).map f)[i]?=some x):i<n/\x=f i:=by grind
def tZ{w a v}(h:w.cell? a=some v):dX w a.block:=by
 unfold World.cell? at h;split at h;.rename_i c t f e;exact⟨_,_,_,e⟩
 .cases h
def xW{w}{a:Addr}{n cs}(h:w.cells? 0 (a.add 0) n=some cs)(c:0<n):dX w a.block:=by have⟨_,hl,b⟩:=U7 h;have h0:=b 0 c;rw[bP O9]at h0;have:=tZ h0;simpa[Addr.add]using this
structure QO(W:World)(va:Option Addr)(vc:Nat)(xs:List Int):Prop where
 at_:xs.length≠0->∃b o,va=some ⟨b,o,none⟩/\∀(i:Nat) (y:Int),xs[i]?=some y->W.cell? ⟨b,o+i,none⟩=some (.int .i64 y)
 real:∀a,va=some a->dX W a.block\/(xs.length=0/\vc=0)
 yr:∀x∈xs,-9223372036854775808<=x/\x<9223372036854775808
 len:xs.length<=140737488355328
structure NY(W:World)(sa:Option Addr)(sc:Nat)(l:List (Int×List Int)):Prop where
 at_:l≠[]->∃g o,sa=some ⟨g,o,none⟩/\∀(i:Nat) (x:Int×List Int),l[i]?=some x->(-9223372036854775808<=x.1/\x.1<9223372036854775808)/\∃va vc,W.cell? ⟨g,o+i*2,none⟩=some (.int .i64 x.1)/\W.cell? ⟨g,o+i*2+1,none⟩=some (.slice va x.2.length vc)/\QO W va vc x.2
 real:∀a,sa=some a->dX W a.block\/(l.length=0/\sc=0)
 len:l.length<=140737488355328
section
variable{H:Type}{enc:TypeId×Value->H}{w:World}{held:Bool}
def NZ{fuel v x}(h:DataW.trod enc Tryz.prog w 0 (λ_=>true) held fuel 30 [v]=some x)(z:∀n∈x.1.weights Tryz.prog 30,n<=reachBytes):∃l va vc,v=.slice va l.length vc/\QO w va vc l:=by
 obtain⟨c,_⟩|⟨a,len,cap,m,n,D,A,c,_,E,_,t,r,k⟩:=Go.Deep.open_slice Tryz.underlying30 h;.simp at c;exact⟨[],none,0,c,⟨λh=>absurd rfl h,λa e=>(by cases e),S8,S8⟩⟩
 .simp at c;subst t;have C:len*8<=140737488351232:=by have:=z ((((List.range len).map D).length+((List.range (m -len)).map λj=>D (len+j)).length)*Tryz.prog.bytesOf 3) (by rw[r];simp[DataW.weights]);rw[Tryz.NW]at this;simp[reachBytes]at this;omega
  rw[Wq]at k;have u:dX w a.block\/(len=0/\m=0):=by
   by_cases h0:0<m;.have⟨cs,c0,_⟩:=k 0 h0;exact .inl (xW (by simpa using c0) D9)
   .omega
  have⟨f,q⟩:=Go.Deep.choose_lt (α:=Int) (n:=len) (p:=λi d=>∃cs,w.cells? 0 (a.add (i*1)) 1=some cs/\cs=[.int .i64 d]/\(Lit.int .i64 d).wf=true) (λi hi=>by have⟨cs,h1,h2⟩:=k i O9;have⟨d,g,s⟩:=Dx Tryz.underlying3 h2;exact⟨d,cs,h1,g,s.2⟩)
  refine⟨(List.range len).map f,some a,m,by simp[c],⟨λF=>?_,λa' e=>by cases e;simpa using u,λx r=>?_,by simp;omega⟩⟩
  .have h0:0<len:=by
    obtain e|e:=sV len;.simp_all
    .exact e
   have⟨B,c0,_⟩:=q 0 h0;obtain⟨b,o,rfl⟩:=KJ (by simpa using c0) D9;refine⟨b,o,rfl,λi d g=>?_⟩;obtain⟨hi,rfl⟩:=D3 f len i d g;obtain⟨cs,c1,rfl,_⟩:=q i hi;have h2:=GV c1 0 D9;simpa using h2
  .obtain⟨i,hi,rfl⟩:=iJ.1 r;have⟨cs,_,_,y⟩:=q i (za.1 hi);exact tY y
def uZ{P e}:∀{l:List (DataW H)} {d:DataW H},d∈l->∀n∈d.weights P e,n∈DataW.weightsAll P e l
 |x::l,d,a,n,b=>by
   simp[DataW.weightsAll];obtain rfl|h:=iP.1 a;.simp_all
   .exact .inr (uZ h n b)
def N0{fuel cs x}(h:DataW.trod enc Tryz.prog w 0 (λ_=>true) held fuel 32 cs=some x)(f:∀n∈x.1.weights Tryz.prog 32,n<=reachBytes):∃k l va vc,(-9223372036854775808<=k/\k<9223372036854775808)/\cs=[.int .i64 k,.slice va l.length vc]/\QO w va vc l:=by
 have⟨g,y1,n,e,hl,h0,h1⟩:=trod_struct2 Tryz.underlying32 h;match cs,hl with
 |[c0,c1],_=>simp[Wq]at h0 h1;have⟨i,e2,b⟩:=Dx Tryz.underlying3 h0;simp at e2;have⟨l,va,vc,d,a⟩:=NZ h1 (λm c=>f m (by rw[e];simp[DataW.weights,DataW.weightsEach,c]));exact⟨i,l,va,vc,tY b.2,by rw[e2,d],a⟩
def KL{fuel v x}(h:DataW.trod enc Tryz.prog w 0 (λ_=>true) held fuel 24 [v]=some x)(u:∀n∈x.1.weights Tryz.prog 24,n<=reachBytes):∃(l:List (Int×List Int)) (sa:Option Addr) (sc:Nat),v=.slice sa l.length sc/\NY w sa sc l:=by
 obtain⟨c,_⟩|⟨a,len,cap,m,n,D,E,c,_,G,_,z,t,q⟩:=Go.Deep.open_slice Tryz.underlying24 h;.simp at c;exact⟨[],none,0,c,⟨λh=>absurd rfl h,λa e=>(by cases e),S8⟩⟩
 .simp at c;subst z;have F:len*32<=140737488351232:=by have:=u ((((List.range len).map D).length+((List.range (m -len)).map λj=>D (len+j)).length)*Tryz.prog.bytesOf 32) (by rw[t];simp[DataW.weights]);rw[Tryz.KI]at this;simp[reachBytes]at this;omega
  have C:∀i,i<len->∀n∈(D i).weights Tryz.prog 32,n<=reachBytes:=λi hi n A=>u n (by rw[t];simp[DataW.weights];exact .inr (.inl (uZ (iJ.2 ⟨i,za.2 hi,rfl⟩) n A)))
  rw[Tryz.KH]at q;have B:dX w a.block\/(len=0/\m=0):=by
   by_cases h0:0<m;.have⟨cs,c0,_⟩:=q 0 h0;exact .inl (xW (by simpa using c0) D9)
   .omega
  have⟨f,s⟩:=Go.Deep.choose_lt (α:=Int×List Int) (n:=len) (p:=λi d=>(-9223372036854775808<=d.1/\d.1<9223372036854775808)/\∃va vc,w.cells? 0 (a.add (i*2)) 2=some [↑d.1,.slice va d.2.length vc]/\QO w va vc d.2) (λi hi=>by have⟨cs,h1,h2⟩:=q i O9;obtain⟨k,l,va,vc,r,rfl,g⟩:=N0 h2 (C i hi);exact⟨(k,l),r,va,vc,h1,g⟩)
  refine⟨(List.range len).map f,some a,m,by simp[c],⟨λH=>?_,λa' e=>by cases e;simpa using B,by simp;omega⟩⟩;have h0:0<len:=by grind
  have⟨_,I,J,c0,_⟩:=s 0 h0;obtain⟨b,o,rfl⟩:=KJ (by simpa using c0) D9;refine⟨b,o,rfl,λi d y=>?_⟩;obtain⟨hi,rfl⟩:=D3 f len i d y;have⟨r,va,vc,c1,g⟩:=s i hi;have:=GV c1;exact⟨r,va,vc,this 0 D9,this 1 D9,g⟩
end
section
variable{G:Gs}{W w:World}{args lI:Array Value}
def yt(S:Go.Ren.Start G W w args lI){b o v}(h:W.cell? (b,o)=some v)(d:kp (dX W) v):w.cell? ⟨b,o,none⟩=some v:=by
 have⟨cs,t,f,a⟩:=tZ h;have⟨cs',k1,_,e,_⟩:=S.cells b cs t f a;have c:cs[o]?=some v:=by simpa[World.cell?,a]using h
 simpa[World.cell?,k1]using e o v c d
def KM(S:Go.Ren.Start G W w args lI){b o a}(h:W.cell? (b,o)=some (.slice (some a) 0 0)):∃a',w.cell? ⟨b,o,none⟩=some (.slice (some a') 0 0):=by
 have⟨cs,t,f,c⟩:=tZ h;have⟨cs',k1,_,_,g⟩:=S.cells b cs t f c;have d:cs[o]?=some (.slice (some a) 0 0):=by simpa[World.cell?,c]using h
 have⟨a',e⟩:=g o a d;exact⟨a',by simpa[World.cell?,k1]using e⟩
def KN(S:Go.Ren.Start G W w args lI){i:Nat}{l sa sc}(h:args[i]?=some (.slice sa l.length sc))(s:NY W sa sc l):∃v,lI[i]?=some (.slice v l.length sc)/\Go.Proofs.aH.vR w w v l:=by
 have I:=S.size;by_cases hr:∀a,sa=some a->dX W a.block
 .refine⟨sa,S.acG i _ h ?_,⟨λhl=>?_⟩⟩;.cases sa with
   |none=>trivial
   |some a=>exact hr a rfl
  .obtain⟨g,o,rfl,F⟩:=s.at_ hl;have C:=(hr _ rfl).lt;simp only at C;refine⟨g,o,O9,rfl,λj x D=>?_⟩;have⟨E,va,vc,h1,h2,m⟩:=F j x D;refine⟨E,?_⟩;have fin:∀f,w.cell? (g,o+j*2+1)=some (.slice f x.2.length vc)->(x.2.length≠0->f=va)->∃va vc,w.cell? (g,o+j*2)=some ↑x.1/\w.cell? (g,o+j*2+1)=some (.slice va x.2.length vc)/\Go.Proofs.aH.nU ↑w w (.slice va x.2.length vc) x.2:=λf n B=>by
    refine⟨f,vc,yt S h1 trivial,n,⟨⟨f,vc,rfl,λd=>?_⟩,m.yr,m.len⟩⟩;have⟨b,o',A,u⟩:=m.at_ d;refine⟨b,o',?_,(B d).trans A,λk y r=>yt S (u k y r) trivial⟩;have:∃y,x.2[0]?=some y:=by cases H:x.2 with
     |nil=>rw[H]at d;exact absurd rfl d
     |cons y t=>exact⟨y,rfl⟩
    have⟨y,r⟩:=this;have:=(tZ (u 0 y r)).lt;simp only at this;omega
   by_cases q:∀a,va=some a->dX W a.block
   .refine fin va (yt S h2 ?_) λ_=>rfl;cases va with
    |none=>trivial
    |some a=>exact q a rfl
   .cases va with
    |none=>exact absurd (λa e=>by cases e) q
    |some a=>
      have p:¬dX W a.block:=λh=>q λa' e=>by cases e;exact h
      obtain⟨c,rfl⟩:=(m.real a rfl).resolve_left p;rw[c]at h2;have⟨a',n⟩:=KM S h2;exact fin (some a') (by rw[c];exact n) λd=>absurd c d
 .cases sa with
  |none=>exact absurd (λa e=>by cases e) hr
  |some a=>
    have p:¬dX W a.block:=λh=>hr λa' e=>by cases e;exact h
    obtain⟨c,rfl⟩:=(s.real a rfl).resolve_left p;rw[c]at h;have⟨a',z⟩:=S.aeN i a h;refine⟨some a',by rw[c];exact z,⟨λhl=>absurd ?_ hl⟩⟩;exact oG c
end
end Go.Proofs.YtpjcmpfncpnmeabGreat
namespace Go.Proofs.aH
open Go.RowKit
attribute [local go_sem↓] Go.wp_at_zero Go.wp_at_succ
def Ck.pR{LB g j a w w1}(h:Ck LB a w w1)(v)(d:↑w<=g):Ck LB a w (w1.setCell ⟨g,j,none⟩ v):=by have gr:=bO w1 (g,j) v;refine⟨bJ h.size gr.size,λk cs t f b c=>?_⟩;have h1:=h.cells k cs t f b c;exact(gr.block k (bD h1) (λe=>by simp only[gT]at e;have:=bD b;omega)).trans h1
def Ck.after{LB a w w1 w2}(b:Below w.heap.size w w1)(h:Ck LB a w1 w2):Ck LB a w w2:=⟨bJ b.size h.size,λk cs t f c d=>h.cells k cs t f ((b.block k (bD c)).trans c) d⟩
def Rm{W k nb c a x y}(h:gI W nb c a)(R:Row W k 44 [x,y])(u v):gI ((W.setCell (k,0) (.int .i64 u)).setCell (k,1) (.int .i64 v)) nb c a/\Row ((W.setCell (k,0) u).setCell (k,1) v) k 44 [u,v]:=by
 have⟨s,L,h⟩:=h;have b:Tk 0 (λt=>t=44) 0 s.mb W ((W.setCell (k,0) ↑u).setCell (k,1) ↑v):=(qU R _ (fE _)).trans (qU (R.set 0 _) _ (fE _));exact⟨⟨s,L,h.tk b D9 D9 D9 D9 D9 D9 D9 D9 D9 D9 D9⟩,(R.set 0 ↑u).set 1 ↑v⟩
def KO(c:jN)(l sa sc w)(e1:c.Ints)(az:vR w.heap.size w sa l)(hl:l.length<=1048576):Calls Vp 4 #[.agg #[c.wk,c.sh,c.me,c.su,c.bi],.slice sa l.length sc] w λe w'=>e=.returned ↑aD/\Lw w w w':=by
 have c8:Below w w (w.alloc (.cells #[↑c.wk,↑c.sh,↑c.me,↑c.su,↑c.bi] 23)):=B0.alloc L9 _;have di:=TQ c (w.alloc (.cells #[↑c.wk,↑c.sh,↑c.me,↑c.su,↑c.bi] 23)) e1;obtain⟨gl,gm,e7,e8⟩:=Ro c;go_enter fA Tryz.func4,Tryz.ntmps4;go_wp2;refine di.mono ?_;rintro e w1 ⟨rb,B,r0,a0,rfl,db⟩;have dd:=db.pg.base c8;clear db di c8;go_wp2;go_loopw [6] (λi wr=>∃(k:Nat) (r:pQ) (a:AG),k<=l.length/\i=↑(k:Int)/\PG w wr rb B (2+k) c r a) (λi _=>l.length -(intOf i).toNat);case atStart=>exact⟨0,r0,a0,fE _,rfl,dd⟩
 case round=>
  clear dd;obtain⟨k,r,a,gq,rfl,N⟩:=hrel;by_cases cf:k<l.length;.as_aux_lemma=>
   have cv:=bP cf;generalize l[k]=x at cv;obtain⟨gd,ee⟩:=x;obtain⟨g,o,gn,fg,dj⟩:=(az.lw N.lw).at_ (by intro e;rw[e]at cf;simp at cf);subst fg;obtain⟨dz,va,vc,ea,eb,av⟩:=dj k _ cv;simp only at ea eb av dz;have br:=Yg gd ee va vc wr N.run dz N.i0 N.jT av ⟨N.lo.1,N.lo.2.1⟩ O9 (by rw[N.c];exact⟨e7,e8⟩);have gp:(0:Int)<=(k:Int):=O9;have e9:(k:Int)<(l.length:Int):=O9;replace br:=aL br;replace av:=aL av;replace az:=aL az;clear dj cv;go_wp2;refine br.out.mono ?_;rintro e w2 ⟨rfl,m,cj⟩;have ab:=N.make cj;have aj:=N.wk;have a8:=N.jT.wl;have ff:=cj.made;clear br cj av ea eb N;obtain⟨fe,-,-⟩|⟨s,b,g2,x,M⟩:=ff
   .have ao:w2.cell? (rb,10)=some ↑(mk []):=(ab.run.row.cell 10).trans (by show some (Value.string m.made)=_;rw[fe]);have dp:(mk []).toList.isEmpty=true:=by rw[ByteArray.toList_eq];rfl
    go_wp2;exact⟨⟨k+1,m,a,O9,rfl,ab⟩,by simp[intOf];omega⟩
   .have ao:w2.cell? (rb,10)=some ↑(mk s):=(ab.run.row.cell 10).trans (by show some (Value.string m.made)=_;rw[M.made]);have c0:=ab.run.row.r 0;have dp:=E7 M.ne;have a7:Calls Vp 10 #[.pointer m.nb] w2 λe w'=>e=.returned (.agg #[↑(dG a).id,↑((a.ch.length -1:Nat):Int),↑(dG a).wo])/\Below w2 w2 w':=Pm w2 ab.node.is;go_wp2;refine a7.mono ?_;rintro e w3 ⟨rfl,b3⟩;clear a7 dp;have bc:Below w3 w3 (w3.alloc (.cells #[↑(dG a).id,↑((a.ch.length -1:Nat):Int),↑(dG a).wo] 39)):=B0.alloc L9 _;have R:=aW w3 [↑(dG a).id,↑((a.ch.length -1:Nat):Int),↑(dG a).wo] 39;have F:=(ab.keep b3).keep bc;have t0:=F.run.row.r 0;obtain⟨C,au,eo⟩:=Mp F.node.wf;have μ:=HA C _ F.node.is au eo;unfold ptr at μ;clear c0 ao ab b3;go_wp2;generalize w3.alloc (.cells #[↑(dG a).id,↑((a.ch.length -1:Nat):Int),↑(dG a).wo] 39)=gg at bc R F t0 μ|-;generalize(w3:Nat)=tb at bc R|-;refine μ.mono ?_;rintro e X ⟨v,D,bg,cr,rfl,ay,b6⟩;obtain⟨en,gc,rfl⟩:=bF ay;replace R:=R.keep b6 R.lt;replace F:=F.keep b6;replace cr:=aL cr;replace bg:=aL bg;replace au:=aL au;clear μ t0 bc b6;have c0:=F.run.row.r 0;have ao:X.cell? (rb,10)=some ↑(mk s):=(F.run.row.cell 10).trans (by show some (Value.string m.made)=_;rw[M.made]);obtain⟨A,E,T,a',hSub⟩:∃A E T a',p8 m.c a s=(A,E,T,a'):=⟨_,_,_,_,rfl⟩;have a2:=HI (c:=m.c) (s:=s) F.node.wf;have cm:Hid (∀W:World,Below X X W->Calls Vp 12 #[.pointer m.nb,↑(mk s)] W λe w'=>e=.returned (.tuple #[.agg #[A,E],T])/\(gI w' m.nb m.c a'/\Ck a.lo Y2 W w')):=λW e0=>(Rp s W (F.node.keep e0)).mono λe w' ⟨h1,h2,ah⟩=>⟨by rw[hSub]at h1;exact h1,by rw[hSub]at h2;exact h2,ah⟩;have ar:Hid (Below X X X.drew):=cZ B0;have b9:Hid (Below X X (X.alloc (.cells #[aA,aA] 44)).drew):=cZ (B0.alloc L9 _);have dq:Hid (Calls Vp 12 #[.pointer m.nb,↑(mk s)] X.drew λe w'=>e=.returned (.tuple #[.agg #[A,E],T])/\(gI w' m.nb m.c a'/\Ck a.lo Y2 X w')):=(cm.out _ ar.out).mono λe w' ⟨h1,h2,ah⟩=>⟨h1,h2,ah.after ar.out⟩;have dt:Hid (Calls Vp 12 #[.pointer m.nb,↑(mk s)] (X.alloc (.cells #[aA,aA] 44)).drew λe w'=>e=.returned (.tuple #[.agg #[A,E],T])/\(gI w' m.nb m.c a'/\Ck a.lo Y2 X w'/\Row w' ↑X 44 [aA,aA])):=(cm.out _ b9.out).mono λe w' ⟨h1,h2,ah⟩=>⟨h1,h2,ah.after b9.out,Row.ck (w:=(X.alloc (.cells #[aA,aA] 44)).drew) (aW X [aA,aA] 44) ah (qT D9 D9 D9 D9 D9 D9)⟩;have bo:Hid (∀W:World,Ck a.lo Y2 X W->W.cell? (rb,0)=some (.pointer m.nb)/\W.cell? (rb,10)=some ↑(mk s)):=λW J=>by have h:=F.run.ck J (qT D9 D9 D9 D9 D9 D9) (qT D9 D9 D9 D9 D9 D9) (qT D9 D9 D9 D9 D9 D9) (qT D9 D9 D9 D9 D9 D9);exact⟨h.row.cell 0,(h.row.cell 10).trans (by show some (Value.string m.made)=_;rw[M.made])⟩
    have cb:Hid (∀W:World,Below X X W->W.cell? (rb,0)=some (.pointer m.nb)/\W.cell? (rb,10)=some ↑(mk s)):=λW J=>⟨aS J c0,aS J ao⟩;have de:Hid (∀o:Obj,(X.drew.alloc o).cell? (rb,0)=some (.pointer m.nb)/\(X.drew.alloc o).cell? (rb,10)=some ↑(mk s)):=λo=>cb.out _ (ar.out.alloc L9 _);have dg:Hid (∀(W:World) (o:Obj),Ck a.lo Y2 X W->(W.alloc o).cell? (rb,0)=some (.pointer m.nb)/\(W.alloc o).cell? (rb,10)=some ↑(mk s)):=λW o J=>bo.out _ (J.then (B0.alloc L9 _));have dh:Hid (∀(W:World) (a' aa:Value),Ck a.lo Y2 X W->((W.setCell ((X:Nat),0) a').setCell ((X:Nat),1) aa).cell? (rb,0)=some (.pointer m.nb)/\((W.setCell ((X:Nat),0) a').setCell ((X:Nat),1) aa).cell? (rb,10)=some ↑(mk s)):=λW a' aa J=>bo.out _ ((J.pR _ L9).pR _ L9);clear cm;replace F:=aL F;replace R:=aL R;replace ay:=aL ay;replace a2:=aL a2;replace M:=aL M;go_wp2;go_cut [10,11] (λp q wx=>∃bb:Nat,p=.pointer bb/\q=↑T/\Row wx bb 44 [A,E]/\gI wx m.nb m.c a'/\Ck a.lo Y2 X wx);case first=>as_aux_lemma=>
     go_region_held3 (λW=>W.cell? (rb,0)=some (.pointer m.nb)/\W.cell? (rb,10)=some ↑(mk s)) (first|with_reducible exact bo.out _ ag|with_reducible exact cb.out _ ar.out|with_reducible exact de.out _|with_reducible exact dg.out _ _ ag|with_reducible exact dh.out _ _ _ ag|go_keep) ((first
        |(go_at_call 12;(with_reducible refine(dq.out).mono ?_);rintro e b0 ⟨rfl,bj,ag⟩)
        |(go_at_call 12;(with_reducible refine(dt.out).mono ?_);rintro e b0 ⟨rfl,bj,ag,Q⟩;have z0:b0.cell? ((X:Nat),0)=some ↑aA:=Q.cell 0;have g4:b0.cell? ((X:Nat),1)=some ↑aA:=Q.cell 1;have gu:=Q.lt;have f0:=Q.frozen 0;have f1:=Q.frozen 1;replace Q:=aL Q)))
     all_goals go_wp2
     all_goals go_meet
     all_goals first
      |exact⟨_,rfl,rfl,aW b0 [A,E] 44,bj.keep (B0.alloc L9 _),ag.then (B0.alloc L9 _)⟩
      |exact⟨_,rfl,rfl,(Rm bj Q.out A E).2,(Rm bj Q.out A E).1,(ag.pR _ L9).pR _ L9⟩
    case' rest=>
     obtain⟨bb,rfl,rfl,O,hN,bq⟩:=hcut;have cw:∀t:TypeId,t≠107->t≠161->t≠195->t≠247->t≠117->t≠114->¬Y2 t:=λ_ a b c d e f=>qT a b c d e f;have z:PG w wc rb B (2+k+1) c m a':=by have:=F.out.sub M.out aj a8 (by rw[hSub];exact hN) bq;rwa [hSub]at this
     have L:=R.out.ck bq (cw _ D9 D9 D9 D9 D9 D9);have Y:=qV ay.out bq (cw _ D9 D9 D9 D9 D9 D9);rw[hSub]at a2;clear bo cb de dg dh dq dt ar b9 c0 ao F R ay bq cw hN hSub;have c0:=z.run.row.r 0;have a7:Calls Vp 10 #[.pointer m.nb] wc λe w'=>e=.returned (.agg #[↑(dG a').id,↑((a'.ch.length -1:Nat):Int),↑(dG a').wo])/\Below wc wc w':=Pm wc z.node.is;go_wp2;refine a7.mono ?_;rintro e af ⟨rfl,b5⟩;clear a7;have c7:Below af af (af.alloc (.cells #[↑(dG a').id,↑((a'.ch.length -1:Nat):Int),↑(dG a').wo] 39)):=B0.alloc L9 _;have P:=aW af [↑(dG a').id,↑((a'.ch.length -1:Nat):Int),↑(dG a').wo] 39;have ak:=b5.trans (c7.mono b5.size);replace z:=z.keep ak;replace L:=L.keep ak L.lt;replace O:=O.keep ak O.lt;replace Y:=aV Y ak;have t0:=z.run.row.r 0;obtain⟨ed,bf,ep⟩:=Mp z.node.wf;have μ:=HA ed _ z.node.is bf ep;unfold ptr at μ;clear c0 b5 c7 ak;go_wp2;generalize af.alloc (.cells #[↑(dG a').id,↑((a'.ch.length -1:Nat):Int),↑(dG a').wo] 39)=gj at P z L O Y t0 μ|-;generalize(af:Nat)=cz at P|-;refine μ.mono ?_;rintro e I ⟨g3,D',bh,cu,rfl,bk,y⟩;obtain⟨ez,e4,rfl⟩:=bF bk;replace z:=z.keep y;replace L:=L.keep y L.lt;replace P:=P.keep y P.lt;replace O:=O.keep y O.lt;replace Y:=aV Y y;clear μ t0 y;have bp:m.ids.length=r.ids.length+1:=by rw[M.out.ids];simp
     have bu:m.cN.length=r.ids.length+1:=by rw[M.out.cN];simp[a8]
     obtain⟨V,ai⟩:∃V,V=x+2^b.bits.toNat:=⟨_,rfl⟩;obtain⟨fi,fh,a6,ci⟩:=Jd z.run.ids (k:=r.ids.length) (u:=↑(jC s)) (by rw[M.out.ids];simp);obtain⟨wg,ga,ba,b7⟩:=Jd z.run.cN (k:=r.ids.length) (u:=↑V) (by rw[M.out.cN,<-a8,ai];simp);rw[bp]at a6;rw[bu]at ba;have cx:I.cell? (rb,6)=some (.slice fi (r.ids.length+1) fh):=by rw[<-a6];exact z.run.row.cell 6
     have cy:I.cell? (rb,7)=some (.slice wg (r.ids.length+1) ga):=by rw[<-ba];exact z.run.row.cell 7
     have dm:=z.jT.il;have t0:=L.r 0;have t1:=L.r 1;have t2:=L.r 2;have u0:=P.r 0;have π:=P.r 1;have ae:=P.r 2;have bx:=O.r 0;have bz:=O.r 1;generalize dn:r.ids.length=n at bp bu a6 ba ci b7 cx cy;have gv:(0:Int)<=(n:Int):=O9;have gx:(n:Int)<(n:Int)+1:=O9;have gy:(n:Int)<((n+1:Nat):Int):=O9;have gz:n<=20000000:=O9;replace dm:=aL dm;replace bp:=aL bp;replace dn:=aL dn;replace bu:=aL bu;replace a6:=aL a6;replace ba:=aL ba;replace ai:=aL ai;replace a8:=aL a8;replace L:=aL L;replace P:=aL P;replace O:=aL O;replace Y:=aL Y;replace bk:=aL bk;replace bh:=aL bh;replace cu:=aL cu;replace bf:=aL bf;replace z:=aL z;replace az:=aL az;replace aj:=aL aj;have dw:=aL z.out.node.wf;go_wp2;obtain⟨e6,-,-⟩:=a2.out;clear a2;obtain S|⟨aa,f,kk,G⟩:=e6;.as_aux_lemma=>
      obtain⟨da,e2,e3,bd,b8⟩:=S;simp only at da e2 e3 bd b8;subst da e2;rw[bd]at u0 ae;rw[e3]at π;replace e3:=aL e3;replace bd:=aL bd;generalize((a.ch.length -1:Nat):Int)=H at t1 π;have et:D'=D:=by
       have ey:a'.an.K=a.an.K:=by show goes tJ (gG a'.ch)=goes tJ (gG a.ch);rw[e3.out]
       have h1:=bf.out;rw[ey]at h1;exact(HM D D' ((bg.out.trans (au.out.perm h1)).trans bh.out.symm) cr.out cu.out ((bg.out.map dC.pt).symm.nodup au.out.nd)).symm
      subst et;have ca:D'.length<=100000:=by rw[bh.out.length_eq];omega
      have du:Hid (∀W,Below I I W->Calls Vp 13 #[.slice en D'.length gc,.slice ez D'.length e4] W λe w'=>e=.returned ↑aD/\Below I I w'):=λW J=>(Gj D' W (aV Y.out J) (aV bk.out J) ca).mono λe w' h=>⟨h.1,J.trans (h.2.mono J.size)⟩;have dv:=Mq (dG a).id H (dG a).wo;have g1:=Mr 0 0;replace ca:=aL ca;have hle:Hid (T=0->V<=(dG a).wo):=λh=>by obtain⟨aa,fp,fq,ec⟩:=b8 h;have cd:=gJ (fp.symm.trans M.out.dec);subst cd;rw[<-Dq M.out aj.out fq,<-ai.out]at ec;exact ec
      generalize(dG a).wo=b4 at t2 ae dv hle;generalize(dG a).id=TI at t0 u0 dv;clear b8;by_cases bm:T=0;.have h1:=hle.out bm;subst bm;have fc:¬b4<V:=O9;go_quiet (fail);go_wp2;refine(du.out _ (jU B0)).mono ?_;rintro e fz ⟨rfl,y⟩;have fs:=aS y t0;have ft:=aS y t1;have fu:=aS y t2;have fv:=aS y u0;have fw:=aS y π;have fy:=aS y ae;have fj:=aS y bx;have fo:=aS y bz;clear t0 t1 t2 u0 π ae bx bz ci b7 cx cy;go_wp2;exact⟨⟨k+1,m,a',O9,rfl,z.out.keep y⟩,by simp[intOf];omega⟩
      .go_quiet (fail);go_wp2;refine(du.out _ (jU B0)).mono ?_;rintro e fz ⟨rfl,y⟩;have fs:=aS y t0;have ft:=aS y t1;have fu:=aS y t2;have fv:=aS y u0;have fw:=aS y π;have fy:=aS y ae;have fj:=aS y bx;have fo:=aS y bz;clear t0 t1 t2 u0 π ae bx bz ci b7 cx cy;go_wp2;exact⟨⟨k+1,m,a',O9,rfl,z.out.keep y⟩,by simp[intOf];omega⟩
     .as_aux_lemma=>
      have cd:=gJ (G.dec.symm.trans M.out.dec);subst cd;have dk:(dG a').id=jC s:=by have:=G.vA;simp only at this;rw[this];rfl
      have dx:(dG a').wo=V:=by have:=G.vA;simp only at this;rw[this,ai.out,Dq M.out aj.out G.par]
      have fb:(dG a).wo<V:=by have:=G.wo;rw[<-Dq M.out aj.out G.par,<-ai.out]at this;exact this
      have bm:T=0:=G.e;subst bm;rw[dk]at u0;rw[dx]at ae;have ef:=G.f1;have eg:=G.fl;have eh:=G.k1;have ei:A=((a.ch.length -f:Nat):Int):=G.l;have ej:E=(kk:Int):=G.j;have ek:a'.ch.length=f+kk:=G.len;have e5:=dw.out.chl;have fa:=dw.out.ll;have dc:((a'.ch.length -1:Nat):Int)=((a.ch.length -1:Nat):Int) -A+E:=O9;have eu:IntKind.i64.wrap (((a.ch.length -1:Nat):Int) -A)=((a.ch.length -1:Nat):Int) -A:=by rw[uQ];omega
      have ew:IntKind.i64.wrap (((a.ch.length -1:Nat):Int) -A+E)=((a.ch.length -1:Nat):Int) -A+E:=by rw[uQ];omega
      have gk:¬E<1:=O9;rw[dc]at π;clear dc ef eg eh ei ej ek e5 fa dk dx G;generalize((a.ch.length -1:Nat):Int)=H at t1 π eu ew;generalize(dG a).wo=b4 at t2 fb;have fc:¬V<=b4:=O9;go_quiet (fail);go_wp2;go_quiet (fail);go_wp2;exact⟨⟨k+1,m,a',O9,rfl,z.out.keep (jU B0)⟩,by simp[intOf];omega⟩
  .have e9:¬(k:Int)<(l.length:Int):=O9;go_wp2;go_ret;exact⟨rfl,N.lw⟩
end Go.Proofs.aH
namespace Go.Proofs.YtpjcmpfncpnmeabGreat
open Go.ChangeShapes Go.WideShapes Go.ChangeAt Go.RowKit Go.Conc Go.Ren
open Go.ConcM (OsLater)
def aI.Wt(f)(h:aI.X0 f):∃fn s,Vp.funcs[f]?=some fn/\fn.body=some (.refuse s):=by obtain rfl:=h;exact⟨_,_,aI.func2,rfl⟩
def ID(h:aI.X 4):False:=by revert h;unfold aI.X aI.code;decide
def xX(h:aI.X0 4):False:=by revert h;unfold aI.X0;decide
def Wu{a b}{v:Array Value}(h:v.size=2)(h0:v[0]?=some a)(h1:v[1]?=some b):v=#[a,b]:=by grind
def IE(c:Go.Proofs.aH.jN)(q:c.Ints)(l sa sc W)(n:NY W sa sc l)(hl:l.length<=1048576):Go.Ren.Ends Tryz.prog (λv W'=>v=↑aD/\Wv W W') (solo (cD Tryz.prog 4 #[.agg #[c.wk,c.sh,c.me,c.su,c.bi],.slice sa l.length sc] .normal []) W) #[]:=by
 have⟨G,w,lI,S⟩:=SA W #[.agg #[↑c.wk,↑c.sh,↑c.me,↑c.su,↑c.bi],.slice sa l.length sc];have⟨u,g,o⟩:=KN S (i:=1) rfl n;have d:=S.acG 0 (.agg #[↑c.wk,↑c.sh,↑c.me,↑c.su,↑c.bi]) rfl (by intro v a;simp at a;obtain rfl|rfl|rfl|rfl|rfl:=a<;>exact⟨_,_,rfl⟩)
 have j:=Wu S.aeO d g;subst j;refine SB aI.aeF aI.V5 aI.V6 aI.Wt DU xX ID S (λp m t h=>meet p m t h) (λt=>?_);have k:=Go.Proofs.aH.KO c l u sc {w with tape:=t,drawn:=0} q (o.lw ⟨L9,λ_ _ _ _ _ h=>h⟩) hl;have⟨N,v,w',h1,h2⟩:=Calls.done (R:=λv w'=>v=↑aD/\Whole w w') (k.mono λe w' r=>by obtain⟨rfl,s⟩:=r;exact⟨rfl,λb cs t f h=>s.cells b cs t f (eB.1 h).1 h⟩) (by have:=(aI.V6.ok 4 xX).2;simpa[yq]using this)
 exact⟨N,v,w',h1,h2⟩
def Tryz.afU:ownKnob Tryz.prog.godebug=none:=K8
def Tryz.Ww:laidOutB Tryz.prog=true:=K8
def acH:=@Tryz.Ww
def Tryz.N2:Tryz.prog.cellsOf 23=5:=K8
def afV{α:Type}{cs:Array α}(h:cs.size=5):∃c0 c1 c2 c3 c4,cs=#[c0,c1,c2,c3,c4]:=by have⟨l⟩:=cs;match l,h with
 |[c0,c1,c2,c3,c4],_=>exact⟨c0,c1,c2,c3,c4,rfl⟩
def N3{H enc w base spare held r m v}{d:DataW H}{p}(s:Value.okWide Tryz.prog w r m 23 v)(h:DataW.Trod enc Tryz.prog w base spare held 23 v d p):∃c:Go.Proofs.aH.jN,c.Ints/\v=.agg #[c.wk,c.sh,c.me,c.su,c.bi]:=by
 obtain⟨cs,rfl,q⟩:=okWide_struct Tryz.underlying23 s;obtain⟨c0,c1,c2,c3,c4,rfl⟩:=afV (q.trans Tryz.N2);have⟨fuel,o⟩:=h;have⟨z,n,_,_,_,hlen,a⟩:=DataW.trod_struct Tryz.underlying23 o;match z,hlen with
 |[F,y1,G,I,J],_=>have g:=a 0 _ rfl;have i:=a 1 _ rfl;have j:=a 2 _ rfl;have k:=a 3 _ rfl;have l:=a 4 _ rfl;simp[Wq,Value.cells]at g i j k l;have⟨i0,b,w0⟩:=Dx Tryz.underlying3 g;have⟨t,e,w1⟩:=Dx Tryz.underlying3 i;have⟨u,e2,w2⟩:=Dx Tryz.underlying3 j;have⟨x,e3,w3⟩:=Dx Tryz.underlying3 k;have⟨y,f,w4⟩:=Dx Tryz.underlying3 l;simp at b e e2 e3 f;refine⟨⟨i0,t,u,x,y⟩,?_,by rw[b,e,e2,e3,f]⟩;have A:=tY w0.2;have B:=tY w1.2;have C:=tY w2.2;have D:=tY w3.2;have E:=tY w4.2;constructor<;>simp_all
def KP{W W'}(h:Wv W W'):Below W W {W' with os:=W.os,tape:=W.tape}:=⟨rfl,rfl,h.out,h.size,h.block⟩
def Wx{H}(d:DataW H):1<=Rows.uptoBulk d:=by cases d with
 |lit l=>cases l<;>simp[Rows.uptoBulk]
 |_=>simp[Rows.uptoBulk]
def KQ{H}:∀l:List (DataW H),l.length<=Rows.uptoBulkAll l
 |[]=>fE _
 |d::l=>by have h1:=Wx d;have h2:=KQ l;simp[Rows.uptoBulkAll];omega
def N4{H enc w held fuel a n c}{x:DataW H×List MemPlace}(h:DataW.trod enc Tryz.prog w 0 (λ_=>true) held fuel 24 [.slice a n c]=some x):n<=Rows.uptoBulk x.1:=by
 obtain⟨b,_⟩|⟨a',len,cap,m,j,D,e,b,_,g,_,i,d,f⟩:=Go.Deep.open_slice Tryz.underlying24 h;.simp_all
 .simp at b;rw[b.2.1,d];have:=KQ ((List.range len).map D);simp at this;simp[Rows.uptoBulk];omega
end Go.Proofs.YtpjcmpfncpnmeabGreat
