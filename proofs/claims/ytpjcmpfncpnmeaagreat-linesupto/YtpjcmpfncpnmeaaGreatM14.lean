import Derived.Test.YtpjcmpfncpnmeaaGreatM04
import Derived.Test.YtpjcmpfncpnmeaaGreatM13
set_option linter.all false
set_option maxHeartbeats 1000000
namespace Go.Proofs.aH
open Go.RowKit Go.Ren
def NG(f)(h:aI.X0 f):∃F s,Vp.funcs[f]?=some F/\F.body=some (.refuse s):=by obtain rfl:=h;exact⟨_,_,aI.func2,rfl⟩
structure Fx(S S':Nat->Prop)(W W':World):Prop where
 size:W.heap.size<=W'.heap.size
 tape:W'.tape=W.tape
 os:W'.os=W.os
 out:W'.output=W.output
 rest:∀k,k<W.heap.size->¬S k->W'.heap[k]?=W.heap[k]?
 old:∀k,S' k->S k\/W.heap.size<=k
def rng(a:Nat->Option Nat)(k:Nat):Prop:=∃b,a b=some k
abbrev Tv(a:Nat->Option Nat)(w W:World):Prop:=Twn Vp Gs.self a w W
def BW{f A a w W μ R}(N:f≠2)(h:Calls Vp f A w R)(k:∀e c,R e c->∃v,e=.returned v)(T:Tv μ w W)(b:gN Gs.self μ λi=>a=A.map (aV i)):Calls Vp f a W λe g=>∃v j c d,R (.returned v) c/\e=.returned j/\(gN Gs.self d λi=>j=aV i v)/\Ext μ d/\Tv d c g/\Fx (rng μ) (rng d) W g:=
 (Q3 rfl aI.ahX ahg aI.Xv NG N h k T b).mono λe g⟨v,j,c,d,Q,l,m,o,p,q⟩=>⟨v,j,c,d,Q,l,m,o,p,⟨q.size,q.tape,q.os,q.output,λk a n=>q.rest k a λb e=>n ⟨b,e⟩,λk⟨b,e⟩=>(lB k W.heap.size).imp (λh=>⟨b,q.old b k e h⟩) id⟩⟩
def MZ{f A a w W p}{P:Value->World->Prop}(N:f≠2)(h:Calls Vp f A w λe c=>∃v,e=.returned v/\P v c/\Below w w c)(T:Tv p w W)(b:gN Gs.self p λi=>a=A.map (aV i)):Calls Vp f a W λe m=>∃v j c d,P v c/\e=.returned j/\(gN Gs.self d λi=>j=aV i v)/\Tv d c m/\Below W W m/\∀g k,d g=some k->w.heap.size<=g->W.heap.size<=k:=
 (BW N h (λe c⟨v,q,_⟩=>⟨v,q⟩) T b).mono λe m⟨v,j,c,d,⟨V,Q,I,J⟩,K,L,n,R,r⟩=>by cases Q;refine⟨v,j,c,d,I,K,L,R,⟨r.os,r.tape,r.out,r.size,λk l=>?_⟩,λg k e l=>?_⟩;by_cases s:rng p k;have⟨x,e⟩:=s;have⟨o,O,D,E,_,F⟩:=T.obj x k e;have⟨u,U,B,G,_,H⟩:=R.obj x k<|n _ _ e;rw[J.block x (T.ok.lt x k e).1,D]at B;cases B;have⟨i,t,C⟩:=R.ok.one;rw[E,G,H i t C,F i t λx y z=>C x y<|n _ _ z];grind [r.rest];rcases r.old k ⟨g,e⟩with⟨x,h⟩|h;have:=R.ok.inj _ _ _ (n _ _ h) e;subst this;have:=(T.ok.lt _ _ h).1;omega;exact h
def Tv.keep{g w W f}(T:Tv g w W)(h:W.heap.size<=f.heap.size)(H:f.tape=W.tape)(i:f.os=W.os)(j:∀k,rng g k->f.heap[k]?=W.heap[k]?):Tv g {w with drawn:=f.drawn} f:=⟨⟨T.ok.inj,λb c e=>⟨(T.ok.lt b c e).1,fI (T.ok.lt b c e).2 h⟩,T.ok.real,T.ok.low⟩,λb c e=>have⟨o,O,a,d,r⟩:=T.obj b c e;⟨o,O,a,(j c ⟨b,e⟩).trans d,r⟩,i.trans T.os,T.tape.trans H.symm,rfl⟩
def aem(w:World)(d):Below w w {w with drawn:=d}:=⟨rfl,rfl,rfl,L9,λ_ _=>rfl⟩
def Tv.add{g w W k t}{C:List Value}(T:Tv g w W)(R:Row W k t C)(n:¬rng g k)(p:∀f,C.map (aV f)=C):∃d,Tv d (w.alloc<|.cells C.toArray t) W/\Ext g d/\d w.heap.size=some k:=by refine⟨λb=>if b=w.heap.size then some k else g b,⟨⟨λa b c H i=>?_,λb c h=>?_,λb c h=>rfl,λb h=>rfl⟩,λb c h=>?_,T.os,T.tape,T.drawn⟩,λb c h=>?_,aN rfl⟩;split at H<;>split at i;omega;cases H;exact absurd ⟨b,i⟩ n;cases i;exact absurd ⟨a,H⟩ n;grind [T.ok.inj];simp[cR]at h|-;split at h;grind [R.lt];have:=T.ok.lt b c h;exact⟨by omega,this.2⟩;split at h;rename_i e;cases h;subst e;exact⟨_,_,aX w C t,R,rfl,λf _ _=>by simp[iG,yz];rw[p f]⟩;have⟨o,O,A,j,l,m⟩:=T.obj b c h;refine⟨o,O,?_,j,l,λf r q=>m f r λx y z=>q x y ?_⟩;rw[<-A];exact(show Below w w (w.alloc<|.cells C.toArray t)from B0.alloc L9 _).block b (T.ok.lt b c h).1;simp only;rw[aJ<|by have:=(T.ok.lt x y z).1;omega];exact z;simp only;rw[aJ<|by have:=(T.ok.lt b c h).1;omega];exact h
structure VN(W:World)(S:Nat->Prop)(nb:Nat)(c:fL)(a:AG):Prop where
 ex:∃w μ n,nR w n c a/\μ n=some nb/\Tv μ w W/\S=rng μ
theorem VN.lt{W S N c a k}(h:VN W S N c a)(s:S k):k<W.heap.size:=by obtain⟨w,d,n,_,_,T,rfl⟩:=h.ex;have⟨b,e⟩:=s;exact(T.ok.lt b k e).2
def VN.same{W b S d c a}(h:VN W S d c a)(H:W.heap.size<=b.heap.size)(f:b.tape=W.tape)(g:b.os=W.os)(i:∀k,S k->b.heap[k]?=W.heap[k]?):VN b S d c a:=by obtain⟨w,j,n,N,e,T,rfl⟩:=h.ex;exact⟨_,j,n,N.keep<|aem w _,e,T.keep H f g i,rfl⟩
def VN.wf{W S b c a}(h:VN W S b c a):pF a:=have⟨w,d,n,N,_⟩:=h.ex;N.wf
def VN.new(c:fL)(W)(h:c.ok=true):Cv 26 #[c.v] W λe w=>∃b S D,e=.returned (.tuple #[ptr b,aA])/\VN w S b c (TK D)/\Fx (λ_=>False) S W w:=by
 refine(BW (μ:=λ_=>none) D9 (VK c W) (λe l r=>by obtain⟨_,r⟩|⟨b,_,r,_⟩:=r.2;grind;exact⟨_,r⟩) ⟨⟨(nofun),(nofun),(nofun),λ_ _=>rfl⟩,(nofun),rfl,rfl,rfl⟩ λf r _=>?_).mono ?_
 simp[fL.v];rintro e w⟨v,j,l,d,⟨_,Q⟩,rfl,i,_,g,q⟩;obtain⟨Q,_⟩|⟨b,_,Q,_,n⟩:=Q;grind;cases Q;have⟨f,p,P⟩:=g.ok.one;have H:=i f p P;simp[ptr]at H;have m:d b=some (f b):=g.ok.dom (λo r c=>by have:=i o r c;rw[H]at this;simpa[ptr]using this)
 refine⟨f b,rng d,W.heap.size,by rw[H];rfl,⟨l,d,b,agc n h,m,g,rfl⟩,q.size,q.tape,q.os,q.out,λk a _=>q.rest k a λ⟨_,e⟩=>(by cases e),λk s=>(q.old k s).imp (λ⟨_,e⟩=>(by cases e)) id⟩
def ai7{W S b c a}(s)(h:VN W S b c a):Cv 11 #[ptr b,.string<|mk s] W λe f=>e=.returned (.tuple #[.agg #[.int .i64 (mQ c a s).1,.int .i64 (mQ c a s).2.1],.int .i64 (mQ c a s).2.2.1])/\∃g,VN f g b c (mQ c a s).2.2.2/\Fx S g W f:=by obtain⟨w,x,n,N,e,T,rfl⟩:=h.ex;refine(BW D9 (agb s w N) (λe i r=>⟨_,r.1⟩) T λk r p=>?_).mono ?_;simp[ptr,p n b e];rintro E f⟨v,j,i,d,⟨Q,m,_⟩,rfl,o,t,q,u⟩;cases Q;have⟨k,P,l⟩:=q.ok.one;have H:=o k P l;simp at H;exact⟨by rw[H],_,⟨i,d,n,m,t _ _ e,q,rfl⟩,u⟩
def VN.ask{W S g c a f v}{xs:List Value}(h:VN W S g c a)(N:f≠2)(t:∀b,xs.map (aV b)=xs)(s:∀b,aV b v=v)(q:∀w n,nR w n c a->Cv f (ptr n::xs).toArray w λe i=>e=.returned v/\Below w w i):Cv f (ptr g::xs).toArray W λe k=>e=.returned v/\Below W W k:=by obtain⟨w,z,n,K,e,T,rfl⟩:=h.ex;refine(MZ (P:=λu _=>u=v) N ((q w n K).mono λe i⟨H,l⟩=>⟨v,H,rfl,l⟩) T λb r p=>?_).mono ?_;simp[yz,gJ,t,ptr,aV,dK,AQ,p n g e];rintro E k⟨u,j,i,d,rfl,rfl,Q,x,y,_⟩;have⟨b,m,o⟩:=x.ok.one;exact⟨by rw[Q b m o,s],y⟩
theorem VN.xf{W S N c a}(h:VN W S N c a):Cv 22 #[ptr N] W λe b=>e=.returned a.an.nP/\Below W W b:=h.ask (xs:=[]) D9 (λ_=>rfl) (λd=>by simp[AN.nP]) λw n K=>aiP w K.is
def Xf{d v j n t z}{w x W l:World}{C:List Value}(T:Tv d x l)(h:x.ownsRow w.heap.size t z v n C)(q:gN Gs.self d λa=>j=aV a v)(f:∀g k,d g=some k->w.heap.size<=g->W.heap.size<=k)(p:∀a,C.map (aV a)=C):l.ownsRow W.heap.size t z j n C:=by
 have⟨a,P,u⟩:=T.ok.one;have b:=q a P u;obtain⟨rfl,F⟩|⟨g,i,E,rfl,G,I,H⟩:=h.2;have e:j=.slice none 0 0:=by rw[b];simp
 exact⟨h.1,.inl ⟨e,F⟩⟩;have s:∀a,Rn Gs.self a->aV a (g,n,i)=.slice (some ⟨a g,0,none⟩) n i:=λa r=>by rw[aV,oK,eZ (by rw[r.gh];rfl),AQ]
 rw[s a P]at b;have m:d g=some (a g):=T.ok.dom (λy r c=>by have:=q y r c;rw[b,s y r]at this;simpa using this)
 have⟨o,O,A,B,_,D⟩:=T.obj g _ m;cases I▸A;refine⟨h.1,.inr ⟨a g,i,E.map<|aV a,b,f _ _ m G,by rw[B,D a P u];rfl,H.1,H.2.1,by rw[Je];exact H.2.2.1,?_⟩⟩;rw[tM,<-aaE,H.2.2.2,p]
def Ik(a o):(jo o).map (aV a)=jo o:=by have⟨_,_,_,_,_,_,_,h⟩:=pq o;rw[h];simp
def BX{a:Type}{f:a->List Value}{b}(h:∀x,(f x).map (aV b)=f x):∀l:List a,(l.flatMap f).map (aV b)=l.flatMap f
 |[]=>rfl
 |x::l=>by rw[yD,kq,h,BX h l]
def VN.dL{W S f c a}(C)(h:VN W S f c a)(x:fJ a.an.K C)(q:C.length<=100000):Cv 23 #[ptr f] W λe b=>∃v D,D.Perm C/\kz D/\e=.returned v/\b.ownsRow W.heap.size 60 6 v D (bJ D)/\Below W W b:=by obtain⟨w,B,n,N,e,T,rfl⟩:=h.ex;refine(MZ (P:=λv g=>∃D,D.Perm C/\kz D/\g.ownsRow w.heap.size 60 6 v D (bJ D)) D9 ((YD C w N.is x q).mono λe g⟨v,D,H,k,l,m,o⟩=>⟨v,l,⟨D,H,k,m⟩,o⟩) T λi r p=>?_).mono ?_;simp[ptr,p n f e];rintro E b⟨u,j,g,d,⟨D,R,z,A⟩,rfl,Q,s,t,y⟩;exact⟨j,D,R,z,rfl,Xf s A Q y λi=>BX (λc=>Ik i<|some c) D,t⟩
def VN.at{W S N c a}{k:Nat}{y x}(h:VN W S N c a)(d:a.ch[k]?=some y)(H:a.bl[y.ix]?=some x):Cv 104 #[ptr N,.int .i64 (k:Int)] W λe b=>e=.returned (.tuple #[.string x.id,aA])/\Below W W b:=h.ask (xs:=[.int .i64 (k:Int)]) D9 (λf=>by simp) (λf=>by simp) λw n K=>ajX k w K d H
def VN.akX{W S N c a}{k:Int}(h:VN W S N c a)(H:k<0\/(a.ch:Int)<=k):Cv 104 #[ptr N,.int .i64 k] W λe b=>e=.returned (.tuple #[aB,.int .i64 18])/\Below W W b:=h.ask (xs:=[.int .i64 k]) D9 (λd=>by simp) (λd=>by simp) λw n K=>ajY k w K H
def VN.look{W S i G cl s c a}(l)(h:VN W S i c a)(A:Row W G 48 (qj l++s))(I:¬S G)(M:∀b,s.map (aV b)=s)(D:∀p∈l,sJ p)(C:l.length<=1000000):Cv 14 #[ptr i,.slice (some ⟨G,0,none⟩) l cl] W λe f=>∃v,e=.returned (.tuple #[v,a.an.nP])/\f.ownsRow W.heap.size 60 6 v l (looked a.an.K l)/\Below W W f:=by
 obtain⟨w,π,n,N,e,T,rfl⟩:=h.ex;have L:∀b,(qj l++s).map (aV b)=qj l++s:=λb=>by rw[kq,M];congr 1;exact BX (λp=>by simp) l
 have⟨X,t,E,m⟩:=T.add A I L;refine(MZ (P:=λv k=>∃u,v=.tuple #[u,a.an.nP]/\k.ownsRow (w.alloc<|.cells (qj l++s).toArray 48).heap.size 60 6 u l (looked a.an.K l)) D9 ((afv (cl:=cl) l _ (N.keep (Ba w<|.cells (qj l++s).toArray 48)).is (Row.new w (qj l++s) 48) D C).mono λe k⟨g,o,x,y,z⟩=>⟨_,o,⟨_,rfl,rC y (zy _ _) x<|by unfold maxLen;omega⟩,z⟩) t λb r p=>?_).mono ?_;have F:aV b (w.heap.size,l,cl)=.slice (some ⟨G,0,none⟩) l cl:=by rw[aV,oK,eZ (by rw[r.gh];rfl),AQ,p _ _ m]
 simp[yz,gJ,qL,F,ptr,aV,dK,AQ,p n i<|E _ _ e];rintro Y f⟨v,j,k,d,⟨u,rfl,U⟩,rfl,q,Q,O,R⟩;have⟨b,J,K⟩:=Q.ok.one;have H:=q b J K;simp[aV,yz,gJ,qL]at H;refine⟨aV b u,by rw[H];simp[AN.nP],Xf (w:=w.alloc<|.cells (qj l++s).toArray 48) Q U (λV r c=>?_) R λb=>BX (λc=>Ik b _) l,O⟩;have:=q V r c;rw[H]at this;simp at this;exact this.1
def Iy(K:jH):Prop:=∀p c,K p=some c->p.1.size<=1000000/\0<=p.2/\p.2<8
theorem Iy.take{K}(h:Iy K)(p):Iy (K.take p):=λb c a=>by unfold jH.take at a;split at a;cases a;exact h b c a
theorem Iy.put{K}(h:Iy K)(c)(e:c.tx.size<=1000000/\0<=c.idx/\c.idx<8):Iy (K.put c):=λf b a=>by unfold jH.put at a;split at a;rename_i d;rw[d];exact e;exact h f b a
def acB{K b}(h:anyM K b=false)(a:Nat)(e:a<8):K (b,(a:Int))=none:=by unfold anyM at h;rw[aap]at h;have:=h a (by simp;omega);rcases d:K (b,(a:Int))with _|c;rfl;rw[d]at this;simp at this
def vX(l:List cC):Prop:=∀t∈l,t.Md=0
theorem zt{m}(h:vX m)(l):jG (gI m l)=jG l:=by rw[Uz];unfold jG gI;simp only[Dn,vH];refine⟨λg t a=>?_,λg t a=>g t (Ff.1 a).1⟩;by_cases e:t∈m;exact h t e;exact g t<|Ff.2 ⟨a,by simpa using e⟩
def afj{d t l}(h:vX l)(c:t.Md=0):vX (rZ d t l):=by
 have b:vX (l++[t]):=λx a=>by obtain a|a:=nA.1 a;exact h x a;rw[pO.1 a];exact c
 unfold rZ;split;exact h;split;exactλx a=>b x<|Nq a;exact b
def GJ{a}:∀r l,vX l->vX (iB a r l)
 |[],_,h=>h
 |t::r,l,h=>by unfold iB;refine GJ r _ ?_;split;rename_i e;exact afj h e;exact h
def zu(e f S h a){m d}(K s)(b:vX m)(c:vX d):(bQ e S h a m K s).1=(bQ f S h a d K s).1/\(bQ e S h a m K s).2.1=(bQ f S h a d K s).2.1/\vX (bQ e S h a m K s).2.2/\vX (bQ f S h a d K s).2.2:=by
 unfold bQ;simp only;split;exact⟨rfl,rfl,b,c⟩;obtain _|⟨x,r⟩:=a;exact⟨rfl,rfl,b,c⟩;simp only;split;exact⟨rfl,rfl,b,c⟩;simp only[zt b,zt c];exact⟨trivial,trivial,GJ _ _ b,GJ _ _ c⟩
def D6(b c S):∀(l:List (Int×List Bc))(M a:List cC)(K:jH),vX M->vX a->∃e A j f z m k,bG b S l M K=⟨e,A,j,f,m,z⟩/\bG c S l a K=⟨e,A,j,f,k,z⟩/\vX m/\vX k
 |[],M,a,K,h,i=>⟨_,_,_,_,_,_,_,rfl,rfl,h,i⟩
 |x::r,M,a,K,h,i=>by
   have⟨g,n,o,p⟩:=zu b c S x.1 x.2 K [] h i;have⟨e,A,j,f,z,m,k,u,v,w,y⟩:=D6 b c S r _ _ (bQ b S x.1 x.2 M K []).2.1.K o p;by_cases d:(bQ b S x.1 x.2 M K []).1=0;rw[bG,bG,aJ (by rw[d];simp),aJ (by rw[<-g,d];simp),<-n,u,v];exact⟨_,_,_,_,_,_,_,rfl,rfl,w,y⟩;have q:bG b S (x::r) M K=⟨if r=[]then(bQ b S x.1 x.2 M K []).1 else 13,0,[],(bQ b S x.1 x.2 M K []).2.1.K,(bQ b S x.1 x.2 M K []).2.2,(bQ b S x.1 x.2 M K []).2.1.steps⟩:=by rw[bG,aN d]
   have s:bG c S (x::r) a K=⟨if r=[]then(bQ c S x.1 x.2 a K []).1 else 13,0,[],(bQ c S x.1 x.2 a K []).2.1.K,(bQ c S x.1 x.2 a K []).2.2,(bQ c S x.1 x.2 a K []).2.1.steps⟩:=by rw[bG,aN<|g▸d]
   rw[q,s,<-g,<-n];exact⟨_,_,_,_,_,_,_,rfl,rfl,o,p⟩
structure acj(a b:AG):Prop where
 bl:a.bl=b.bl
 ch:a.ch=b.ch
 ma:vX a.mem
 mb:vX b.mem
def fJ.ahL{K C D}(h:fJ K C)(p:C.Perm D):fJ K D:=⟨(p.map bL.pt).nodup h.nd,λc m=>h.mem c<|p.mem_iff.2 m,λq c e=>⟨p.mem_iff.1 (h.all q c e).1,(h.all q c e).2⟩⟩
def xD(id:ByteArray)(h:Int):List jB->Int->Bool->List bL->Option (Int×Bool×List bL)
 |[],C,o,l=>some (C,o,l)
 |x::r,C,o,l=>match l.findIdx? (λc=>decide (c.pt=(x.tx,x.idx)))with
   |none=>none
   |some i=>match l[i]? with
     |none=>none
     |some c=>xD id h r (C+c.val) (o&&decide ((⟨x.key,c.lock,id,h⟩:cC).Md=0))<|l.eraseIdx i
def Qn{K l i c}(h:fJ K l)(e:l[i]?=some c):fJ (K.take c.pt) (l.eraseIdx i):=by
 have p:l.Perm (c::l.eraseIdx i):=by grind [U5,pR]
 have f:=h.ahL p;have d:=f.nd;rw[gJ,Nr]at d;refine⟨d.2,λb m=>?_,λx b a=>?_⟩;unfold jH.take;rw[aJ λe=>d.1<|by rw[<-e];exact tN m];exact f.mem b<|Fa _ m;unfold jH.take at a;split at a;cases a;rename_i N;have⟨m,g⟩:=f.all x b a;obtain rfl|m:=jO.1 m;exact absurd g.symm N;exact⟨m,g⟩
def tY{K l p}(h:fJ K l)(e:l.findIdx? (λc=>decide (c.pt=p))=none):K p=none:=by rcases k:K p with _|c;rfl;have⟨m,q⟩:=h.all p c k;have:=U6.1 e c m;simp[q]at this
def K7{K l p i}(h:fJ K l)(e:l.findIdx? (λc=>decide (c.pt=p))=some i):∃c,l[i]?=some c/\c.pt=p/\K p=some c:=have⟨b,a,_⟩:=Dy.1 e;have a:(l[i]).pt=p:=by simpa using a
 ⟨l[i],aY b,a,a▸h.mem _ (oD b)⟩
def WQ(id h b):∀I a d l s,fJ s.K l->(b&&d)=jG s.bX->(match xD id h I a d l with
 |none=>(jZ id h I a s).1=15
 |some (k,p,o)=>(jZ id h I a s).1=0/\(jZ id h I a s).2.1=k/\fJ (jZ id h I a s).2.2.K o/\(b&&p)=jG (jZ id h I a s).2.2.bX/\(jZ id h I a s).2.2.gG=s.gG)
 |[],a,d,l,s,L,e=>⟨rfl,rfl,L,e,rfl⟩
 |x::r,a,d,l,s,L,e=>by unfold xD jZ;cases f:l.findIdx? (λc=>decide (c.pt=(x.tx,x.idx)))with
   |none=>simp[tY L f]
   |some i=>have⟨c,j,m,n⟩:=K7 L f;simp[j,n];have g:=Qn L j;rw[m]at g;exact WQ id h b r (a+c.val) _ _ {s with K:=s.K.take (x.tx,x.idx),steps:=s.steps++[⟨c,false⟩],bX:=s.bX++[⟨x.key,c.lock,id,h⟩]} g<|by unfold jG at e|-;rw[Ux,<-e];simp[Bool.and_assoc]
def uC(id:ByteArray)(h:Int):Nat->List dD->List bL
 |_,[]=>[]
 |i,o::r=>⟨id,i,o.val,o.lock,h⟩::uC id h (i+1) r
def rE(l:List bL)(id:ByteArray)(o:List dD)(h:Int):Option (List bL):=if l.any (λc=>decide (c.tx=id))then none else some (l++uC id h 0 o)
def Qo{K l}(id)(L:fJ K l)(x:Iy K):anyM K id=l.any (λc=>decide (c.tx=id)):=by
 rw[Uz];unfold anyM;rw[Jk,Jk];constructor;rintro⟨i,_,e⟩;have⟨c,d⟩:=aaD.1 e;have⟨m,f⟩:=L.all _ c d;exact⟨c,m,by have:=congrArg Prod.fst f;simpa[bL.pt]using this⟩;rintro⟨c,m,e⟩;have k:=L.mem c m;have⟨_,a,b⟩:=x _ _ k;have b:c.idx<8:=b;refine⟨c.idx.toNat,by simp;omega,?_⟩;have:(id,((c.idx.toNat:Nat):Int))=c.pt:=by grind [bL.pt]
 rw[this,k];rfl
def K9(id h)(m:id.size<=1000000):∀O i s l,fJ s.K l->Iy s.K->i+O.length<=8->(∀f,i<=f->f<8->s.K (id,(f:Int))=none)->fJ (kg id h O i s).K (l++uC id h i O)/\Iy (kg id h O i s).K/\(kg id h O i s).gG=s.gG/\(kg id h O i s).bX=s.bX
 |[],i,s,l,L,x,_,_=>⟨by simpa[uC,kg]using L,x,rfl,rfl⟩
 |o::r,i,s,l,L,x,b,k=>by
   simp at b;have w:=(L.put (c:=⟨id,i,o.val,o.lock,h⟩)<|k i L9 O9).ahL (D:=l++[⟨id,i,o.val,o.lock,h⟩]) (List.perm_append_singleton _ _).symm;have:=K9 id h m r (i+1) {s with K:=s.K.put ⟨id,i,o.val,o.lock,h⟩,steps:=s.steps++[⟨⟨id,i,o.val,o.lock,h⟩,true⟩]} _ w (x.put _ ⟨m,U1 _,by show(i:Int)<8;omega⟩) O9 (λf y u=>by show jH.put _ _ _=none;unfold jH.put;rw[aJ,k f O9 u];intro p;have:=congrArg Prod.snd p;simp[bL.pt]at this;omega)
   rw[uC,List.append_cons];exact this
def Qp{s:JS}{l:List bL}(x:Bc)(h:Int)(L:fJ s.K l)(q:Iy s.K)(o:x.outs.length<=8)(m:x.id.size<=1000000):match rE l x.id x.outs h with
 |none=>(eJ x h s).1=14
 |some l'=>(eJ x h s).1=0/\fJ (eJ x h s).2.K l'/\Iy (eJ x h s).2.K/\(eJ x h s).2.gG=s.gG/\(eJ x h s).2.bX=s.bX:=by
 unfold rE eJ;rw[Qo x.id L q];cases a:l.any (λc=>decide (c.tx=x.id))with
 |true=>simp
 |false=>have:=K9 x.id h m x.outs 0 s l L q (by omega) λf _ u=>acB (by rw[Qo x.id L q];exact a) f u;simpa using this
def dR(l:List bL)(x:Bc)(h:Int):Int×List bL×Int×Bool:=match xD x.id h x.ins 0 true l with
 |none=>(15,[],0,false)
 |some (c,o,L)=>if c -cW x.outs<0 then(16,[],0,false)else match rE L x.id x.outs h with
   |none=>(14,[],0,false)
   |some a=>(0,a,c -cW x.outs,o)
def WS(id h):∀l b s,Iy s.K->Iy (jZ id h l b s).2.2.K
 |[],_,_,a=>a
 |x::r,b,s,a=>by unfold jZ;rcases s.K (x.tx,x.idx)with _|c;exact a;exact WS id h r _ _<|a.take _
def ZG{s l}(x h)(L:fJ s.K l)(z:Iy s.K)(o:x.outs.length<=8)(m:x.id.size<=1000000):(fK x h s).1=(dR l x h).1/\((dR l x h).1=0->fJ (fK x h s).2.K (dR l x h).2.1/\Iy (fK x h s).2.K/\(fK x h s).2.gG=s.gG+(dR l x h).2.2.1/\jG (fK x h s).2.bX=(jG s.bX&&(dR l x h).2.2.2)):=by
 have b:=WQ x.id h (jG s.bX) x.ins 0 true l s L S8;have i:=WS x.id h x.ins 0 s z;unfold dR fK;generalize jZ x.id h x.ins 0 s=a at b i;rcases f:xD x.id h x.ins 0 true l with _|y;grind;have⟨d,A,e⟩:=y;rw[f]at b;have⟨j,k,n,p,q⟩:=b;simp[j,ne_eq,aam,vJ,k];by_cases v:d -cW x.outs<0;grind;rw[aJ v,aJ<|show¬cW x.outs>d by omega];have c:=Qp (s:={a.2.2 with gG:=a.2.2.gG+(d -cW x.outs)}) (l:=e) x h n i o m;rcases g:rE e x.id x.outs h with _|r;grind;grind
def fN(h:Int):List Bc->List bL->Int->Bool->Int×List bL×Int×Bool
 |[],l,f,A=>(0,l,f,A)
 |x::r,l,f,A=>let a:=dR l x h;if a.1≠0 then(a.1,[],0,false)else fN h r a.2.1 (f+a.2.2.1) (A&&a.2.2.2)
def La(h):∀a l s,fJ s.K l->Iy s.K->(∀t∈a,t.outs.length<=8/\t.id.size<=1000000)->(fS h a s).1=(fN h a l s.gG<|jG s.bX).1/\((fS h a s).1=0->fJ (fS h a s).2.K (fN h a l s.gG<|jG s.bX).2.1/\Iy (fS h a s).2.K/\(fS h a s).2.gG=(fN h a l s.gG<|jG s.bX).2.2.1/\jG (fS h a s).2.bX=(fN h a l s.gG<|jG s.bX).2.2.2)
 |[],l,s,L,d,_=>⟨rfl,λ_=>⟨L,d,rfl,rfl⟩⟩
 |x::r,l,s,L,d,b=>by
   have⟨c,i⟩:=ZG x h L d (b x S8).1 (b x S8).2;unfold fS fN;simp only;by_cases e:(dR l x h).1=0;have⟨j,k,m,n⟩:=i e;have:=La h r (dR l x h).2.1 (fK x h s).2 j k λt g=>b t<|by simp[g]
   rw[m,n]at this;rw[aJ (by rw[c,e];simp),aJ<|by rw[e];simp];exact this;grind
def eK(s h:Int)(t:List Bc)(l:List bL):Int×List bL:=let a:=fN h (t.drop 1) l 0 true;if a.1≠0 then(a.1,[])else
 match t with
 |[]=>(0,a.2.1)
 |x::_=>if cW x.outs>s+a.2.2.1 then(16,[])else match rE a.2.1 x.id x.outs h with
   |none=>(14,[])
   |some L=>if a.2.2.2 then(0,L)else(17,[])
def H3{K l M}(m S h a)(L:fJ K l)(y:Iy K)(b:∀t∈a,t.outs.length<=8/\t.id.size<=1000000)(u:vX M):(bQ m S h a M K []).1=(eK S h a l).1/\((eK S h a l).1=0->fJ (bQ m S h a M K []).2.1.K (eK S h a l).2/\Iy (bQ m S h a M K []).2.1.K):=by
 have⟨f,o⟩:=La h (a.drop 1) l ⟨K,[],0,[]⟩ L y λt w=>b t<|Nq w;have q:jG (⟨K,[],0,[]⟩:JS).bX=true:=rfl;rw[q]at f o;change (fS h (a.drop 1) ⟨K,[],0,[]⟩).1=(fN h (a.drop 1) l 0 true).1 at f;unfold bQ eK;simp only;rw[f];by_cases e:(fN h (a.drop 1) l 0 true).1=0;have⟨d,n,i,j⟩:=o<|f.trans e;change fJ _ (fN h (a.drop 1) l 0 true).2.1 at d;change _=(fN h (a.drop 1) l 0 true).2.2.1 at i;change _=(fN h (a.drop 1) l 0 true).2.2.2 at j;rw[aJ (by rw[e];simp),aJ<|by rw[e];simp];obtain _|⟨x,r⟩:=a;exact⟨rfl,λ_=>⟨d,n⟩⟩;simp only;generalize fS h (List.drop 1 (x::r)) ⟨K,[],0,[]⟩=z at d n i j;generalize fN h (List.drop 1 (x::r)) l 0 true=k at d i j e;unfold kM;rw[i];by_cases v:cW x.outs>S+k.2.2.1;rw[aN v,aN v];simp;rw[aJ v,aJ v];have c:=Qp x h d n (b x S8).1 (b x S8).2;rcases g:rE k.2.1 x.id x.outs h with _|p;grind;grind [zt];rw[aN e,aN e];exact⟨rfl,λs=>absurd s e⟩
def afy(l:List Bc):Prop:=(1<=l.length/\l.length<=8)/\∀t∈l,(1<=t.outs.length/\t.outs.length<=8)/\t.id.size<=1000000/\∀i∈t.ins,i.Small
def Pp{s b}(h:iE s=some b):afy (b.eO.map pG):=by have a:=(kI h).1;have g:=((iC b).1 a).2.2.2.1;refine⟨by rw[dS];omega,λx f=>?_⟩;obtain⟨t,c,rfl⟩:=gB.1 f;have⟨i,H⟩:=List.getElem?_of_mem c;have j:=((EY t _).1<|((iC b).1 a).2.2.2.2 i t H).2.2.1;refine⟨?_,?_,((vk a).2 t c).2.2.2.2.1⟩;show 1<=t.outs.length/\t.outs.length<=8;omega;show(wj t.tag t.ins t.outs).size<=1000000;rw[<-dF];unfold wj;rw[EX,bI];decide
def CQ(M s):∀(l:List (Int×List Bc))(m:List cC)(K:jH),(bG M s l m K).e=0->(bG M s l m K).ls.length=l
 |[],_,_,_=>rfl
 |x::r,m,K,e=>by by_cases h:(bQ M s x.1 x.2 m K []).1=0;rw[bG,aJ<|by rw[h];simp]at e|-;simp at e|-;rw[CQ M s r _ _ e];rw[bG,aN h]at e;simp only at e;split at e;omega;omega
def G3{a k}(h:pF a){i:Nat}{x}(b:(gT a.bl k)[i]?=some x)(e:x.bad=false):∃z,a.bl[i]?=some z/\z.bad=false/\x.eO=z.eO:=by unfold gT at b;rw[Am]at b;rcases d:a.bl[i]? with _|z;cases d▸b;rw[d]at b;simp only[dK,gV]at b;subst b;have c:(E5 a.bl k).getD i false=false:=e;refine⟨z,rfl,?_,by unfold BN.mark;rw[c];rfl⟩;rw[zO d λH=>(h.par i z d H).1]at c;cases f:z.bad with
 |false=>rfl
 |true=>rw[f]at c;simp at c
def GY(a S):∀(l:List (Int×List Bc))(M:List cC)(K:jH),vX M->(∀p c,K p=some c->c.pt=p)->(∀x∈l,afy x.2)->(bG a S l M K).e=0->∀k x,l[k]?=some x->∃m,vX m/\(bQ a S x.1 x.2 m (goes K ((bG a S l M K).ls.take k).flatten) []).1=0/\(bG a S l M K).ls[k]?=some (bQ a S x.1 x.2 m (goes K ((bG a S l M K).ls.take k).flatten) []).2.1.steps
 |[],_,_,_,_,_,_,k,x,d=>by simp at d
 |y::r,M,K,g,o,i,b,k,x,d=>by
   have j:=xV a S y.1 y.2 M o λt q=>have h:=(i y S8).2 t q;⟨h.2.1,h.2.2,h.1.2⟩;by_cases f:(bQ a S y.1 y.2 M K []).1=0;rw[bG,aJ<|by rw[f];simp]at b|-;simp only at b|-;cases k with
   |zero=>simp[vG,gV]at d;subst d;exact⟨M,g,by simpa[goes]using f,by simp[goes]⟩
   |succ k=>have v:=GY a S r (bQ a S y.1 y.2 M K []).2.2 (bQ a S y.1 y.2 M K []).2.1.K ((zu a a S y.1 y.2 K [] g g).2.2.1) j.pt (λw u=>i w<|by simp[u]) b k x (by simpa using d);rw[aau,List.flatten_cons,gS,<-j.at_];simpa using v
   rw[bG,aN f]at b;simp only at b;split at b;exact absurd b f;exact absurd b D9
structure xn(c:fL)(a:AG):Prop where
 mo:vX a.mem
 tx:∀(i:Nat)(x:BN),a.bl[i]?=some x->0<i->x.bad=false->afy x.eO
 jn:∀(h:Nat)(y:ve)(x:BN),a.ch[h+1]?=some y->a.bl[y.ix]?=some x->∃m,vX m/\(bQ c.me.toNat c.su ((h+1:Nat):Int) x.eO m (goes rG<|fD (a.ch.take<|h+1)) []).1=0/\(bQ c.me.toNat c.su ((h+1:Nat):Int) x.eO m (goes rG<|fD (a.ch.take<|h+1)) []).2.1.steps=y.st
def GZ{a s l M K}(h:vX M):vX (bG a s l M K).mem:=by have⟨e,A,f,d,S,m,g,b,i,c,j⟩:=D6 a a s l M M K h h;rw[b];exact c
def xn.vg{c a j y}(h:xn c a)(W:G0 a j y)(r:(cJ c a j y.aT).ls.length=(dM a j y.aT))(n:(cJ c a j y.aT).e=0):xn c (a.vg j y<|cJ c a j y.aT):=by
 have b:=W.fork;have J:=GY c.me.toNat c.su ((dM a j y.aT).map<|mA a.bl) a.mem (goes rG<|fD (a.ch.take<|bM a j y.aT)) h.mo (Ke _) (λx H=>by obtain⟨i,o,rfl⟩:=gB.1 H;have⟨k,p⟩:=jQ.1 o;have⟨z,π,f,_,_,g⟩:=W.at_ k i p;unfold mA;rw[π];exact h.tx i z π f g) n
 change ∀k x,_->∃m,vX m/\(bQ _ _ _ _ m (goes _ ((cJ c a j y.aT).ls.take k).flatten) []).1=0/\(cJ c a j y.aT).ls[k]?=some (bQ _ _ _ _ m (goes _ ((cJ c a j y.aT).ls.take k).flatten) []).2.1.steps at J;have s:vX (cJ c a j y.aT).mem:=GZ h.mo;generalize cJ c a j y.aT=R at*;refine⟨s,h.tx,λk z x d H=>?_⟩;change (a.ch.take (bM a j y.aT)++nz (dM a j y.aT) R.ls)[k+1]?=some z at d;change a.bl[z.ix]?=some x at H;show∃m,vX m/\(bQ _ _ _ _ m (goes rG<|fD ((a.ch.take (bM a j y.aT)++nz (dM a j y.aT) R.ls).take<|k+1)) []).1=0/\(bQ _ _ _ _ m (goes rG<|fD ((a.ch.take (bM a j y.aT)++nz (dM a j y.aT) R.ls).take<|k+1)) []).2.1.steps=z.st;rw[aav,nS,gS,Fl,dJ,lD b,ui _ _ _ r];obtain⟨u,q⟩|⟨u,q⟩:=ru b d;rw[show k+1 -bM a j y.aT=0 from by omega,lD O9];exact h.jn k z x q H;have⟨Q,v⟩:=pX _ _ _ _ q;have⟨w,π,f,_,A,g⟩:=W.at_ _ _ Q;cases H▸π;have E:((dM a j y.aT).map<|mA a.bl)[k+1 -bM a j y.aT]?=some ((x.aT:Int),x.eO):=by rw[eG,Q];unfold mA;simp[dK];rw[H]
 have⟨m,t,e,M⟩:=J _ _ E;rw[v]at M;have l:x.aT=k+1:=O9;rw[l]at e M;rw[Nat.min_eq_right O9];exact⟨m,t,e,(iN M).symm⟩
def xn.sub{c a}(s)(h:xn c a)(o:pF a)(p:pF (mQ c a s).2.2.2):xn c (mQ c a s).2.2.2:=by
 revert p;unfold mQ;rcases t:iE s with _|b;exactλ_=>h;simp only;split;exactλ_=>h;rename_i n;have g:=o.keep (by simpa using n) (by have:=((iC b).1 (kI t).1).2.1;omega);have f:xn c {a with bl:=a.bl++[fQ a s b]}:=⟨h.mo,λi x H j m=>by obtain H|⟨_,rfl⟩:=iF H;exact h.tx i x H j m;exact Pp t,λk z x d H=>by
  have⟨X,q,_⟩:=o.ch _ z d;have:X=x:=iN<|(eP q).symm.trans H
  subst this;exact h.jn k z X d q⟩
 split;exactλ_=>f;have⟨A,l⟩:∃A,A=({a with bl:=a.bl++[fQ a s b]}:AG):=⟨_,rfl⟩;have C:A.bl[a.bl.length]?=some (fQ a s b):=by rw[l];simp
 have y:A.ch=a.ch:=by rw[l]
 rw[<-l]at g f|-;have B:¬Bt A.ch (fQ a s b).aT a.bl:=λe=>by unfold Bt at e;rw[y]at e;rcases d:a.ch[(fQ a s b).aT]? with _|z;cases d▸e;rw[d]at e;simp[dK,gV]at e;have⟨x,G,_⟩:=o.ch _ z d;have:=(bK.1 G).1;omega
 have J:=CQ c.me.toNat c.su ((dM A a.bl (fQ a s b).aT).map<|mA A.bl) A.mem (goes rG<|fD (A.ch.take<|bM A a.bl (fQ a s b).aT));change (cJ c A a.bl (fQ a s b).aT).e=0->(cJ c A a.bl (fQ a s b).aT).ls.length=_ at J;rw[dS]at J;unfold oJ;split;rename_i u;exactλ_=>f.vg (G1 g C rfl B) (J u) u;intro p;refine⟨GZ f.mo,λi x H j m=>?_,λk z x d H=>?_⟩;have⟨z,π,v,r⟩:=G3 g H m;rw[r];exact f.tx i z π j v;have⟨X,q,_,Q⟩:=p.ch _ z d;cases q▸H;have⟨I,π,v,r⟩:=G3 g H Q;rw[r];exact f.jn k z I d π
def Er(b:List BN):Nat->Nat->List Nat
 |0,_=>[]
 |f+1,i=>if i=0 then[]else match b[i]? with
   |none=>[]
   |some x=>Er b f x.par++[i]
def sD(b:List BN)(i:Nat):List Nat:=Er b (i+1) i
theorem yn{a}(h:pF a):∀f i,i<f->Er a.bl f i=sD a.bl i
 |0,i,l=>by omega
 |f+1,i,l=>by unfold sD Er;by_cases e:i=0;rw[aN e,aN e];rw[aJ e,aJ e];rcases b:a.bl[i]? with _|x;rfl;have p:=(h.par i x b O9).1;simp only;rw[yn h f x.par O9,yn h i x.par p]
termination_by f i _ => f + i
decreasing_by all_goals omega
def uD{a i x}(h:pF a)(b:a.bl[i]?=some x)(c:0<i):sD a.bl i=sD a.bl x.par++[i]:=by
 conv=>lhs;unfold sD Er
 rw[aJ O9,b];simp only;rw[yn h i x.par<|(h.par i x b c).1]
theorem Db(b):sD b 0=[]:=by simp[sD,Er]
def vC{a}(h:pF a):∀k y,a.ch[k]?=some y->sD a.bl y.ix=((a.ch.take<|k+1).drop 1).map ve.ix
 |0,y,e=>by have⟨j,d,g⟩:=h.ch0;cases d▸e;rw[g,Db];obtain _|⟨x,l⟩:=a.ch;rfl;rfl
 |k+1,y,e=>by
   have⟨x,b,q,r⟩:=h.ch _ y e;have⟨j,d,g⟩:=h.link k y x e b;have n:0<y.ix:=by obtain c|c:=pJ y.ix;have⟨f,m,o,_⟩:=h.first;rw[c,m]at b;cases b;omega;exact c
   have p:=(bK.1 e).1;rw[uD h b n,<-g,vC h k j d,oz (i:=k+1),e];rw[aaF<|by rw[dJ];omega];simp
def Qq{a j y}(h:pF a)(W:G0 a j y):∀k i,(dM a j y.aT)[k]?=some i->sD a.bl i=((a.ch.take<|bM a j y.aT).drop 1).map ve.ix++(dM a j y.aT).take (k+1)
 |0,i,e=>by
   have⟨c,b,d,m,n,o⟩:=W.at_ 0 i e;have⟨f,g,l⟩:=W.Zx i c e b;have q:1<=bM a j y.aT:=by unfold bM;have:=W.len;omega
   rw[uD h b d,<-l,vC h _ f g,show bM a j y.aT -1+1=bM a j y.aT from by omega,oz,e];simp
 |k+1,i,e=>by have⟨c,b,d,m,n,o⟩:=W.at_ (k+1) i e;rw[uD h b d,Qq h W k c.par<|W.par k i c e b,oz (i:=k+1),e,dP];rfl
def ad7{a j y}(h:pF a)(W:G0 a j y):sD a.bl j=((a.ch.take<|bM a j y.aT).drop 1).map ve.ix++dM a j y.aT:=by have:=Qq h W _ j W.last;rw[this,show(dM a j y.aT).length -1+1=(dM a j y.aT).length from by have:=W.pos;omega,gQ]
def iT(s:Int):List (Int×List Bc)->List bL->Nat->Int×Nat×List bL
 |[],l,k=>(0,k,l)
 |x::r,l,k=>let b:=eK s x.1 x.2 l;if b.1≠0 then(b.1,k,[])else iT s r b.2 (k+1)
def xE{s x l}(h:(eK s x.1 x.2 l).1=0)(r k):iT s (x::r) l k=iT s r (eK s x.1 x.2 l).2 (k+1):=by rw[iT];rw[aJ<|by rw[h];simp]
def Qr{s x l}(h:(eK s x.1 x.2 l).1≠0)(r k):iT s (x::r) l k=((eK s x.1 x.2 l).1,k,[]):=by rw[iT];rw[aN h]
def Dc(s):∀(p q:List (Int×List Bc))(l:List bL)(k:Nat),(iT s p l k).1=0->iT s (p++q) l k=iT s q (iT s p l k).2.2 (k+p)
 |[],q,l,k,_=>rfl
 |x::r,q,l,k,e=>by rw[vK];by_cases h:(eK s x.1 x.2 l).1=0;rw[xE h]at e;rw[xE h,xE h,Dc s r q _ _ e,cQ,Nat.add_right_comm,Ur];rw[Qr h]at e;exact absurd e h
def Es(a S):∀(r:List (Int×List Bc))(M:List cC)(K:jH)(l:List bL)(k:Nat),fJ K l->Iy K->(∀x∈r,∀t∈x.2,t.outs.length<=8/\t.id.size<=1000000)->vX M->((iT S r l k).1=0->(bG a S r M K).e=0/\fJ (bG a S r M K).K (iT S r l k).2.2/\Iy (bG a S r M K).K)/\
 ((iT S r l k).1≠0->(bG a S r M K).e=(if(bG a S r M K).at_+1=r then(iT S r l k).1 else 13)/\(iT S r l k).2.1=k+(bG a S r M K).at_/\(bG a S r M K).at_<r)
 |[],M,K,l,k,L,g,_,_=>⟨λ_=>⟨rfl,L,g⟩,λe=>absurd rfl e⟩
 |x::r,M,K,l,k,L,g,b,d=>by have⟨f,p⟩:=H3 a S x.1 x.2 L g (b x S8) d;unfold iT bG;simp only;by_cases e:(eK S x.1 x.2 l).1=0;have⟨q,s⟩:=p e;rw[aJ (by rw[e];simp),aJ<|by rw[f,e];simp];have⟨j,m⟩:=Es a S r _ _ _ (k+1) q s (λy o=>b y<|by simp[o])<|(zu a a S x.1 x.2 K [] d d).2.2.1;refine⟨j,λc=>?_⟩;have⟨h,i,u⟩:=m c;refine⟨?_,by rw[i];simp only;omega,by simp only[cQ];omega⟩;simp only;rw[h];simp only[cQ,Nat.add_right_cancel_iff];rw[aN e,aN<|f▸e];refine⟨λc=>absurd c e,λ_=>?_⟩;simp only[cQ,mj,tJ,Af];refine⟨?_,O9⟩;rw[f];obtain _|⟨y,r⟩:=r;simp;simp
structure Mo(a y:AG)(h:Nat):Prop where
  bl:y.bl.length=h+1
  chl:y.ch.length=h+1
  blk:∀(k:Nat)(v:ve)(x:BN),k≤h→a.ch[k]?=some v→a.bl[v.ix]?=some x→∃z,y.bl[k]?=some z∧z.id=x.id∧z.aT=k∧z.wo=x.wo∧z.bad=false
  lk:∀(k:Nat)(v:ve),k≤h→a.ch[k]?=some v→y.ch[k]?=some ⟨k,v.st⟩
  mo:vX y.mem
theorem Mo.flat{a y:AG}{h:Nat}(F:Mo a y h)(b:h<a.ch):fD y.ch=fD (a.ch.take<|h+1):=by
  have e:y.ch.map ve.st=(a.ch.take<|h+1).map ve.st:=by
    apply kX;intro k;rw[eG,eG];by_cases H:k≤h
    . have q:=aY (show k<a.ch by omega)
      rw[F.lk k _ H q,Du (by omega),q];rfl
    grind [F.chl]
  unfold fD;rw[Ji,Ji,e]
theorem Mo.xf{a y:AG}{h:Nat}{v:ve}{x:BN}(F:Mo a y h)(H:a.ch[h]?=some v)(b:a.bl[v.ix]?=some x):(jw y).id=x.id∧(jw y).aT=h∧(jw y).wo=x.wo∧(jw y).bad=false:=by
  have⟨z,π,c,d,f,g⟩:=F.blk h v x (mi _) H b;have e:jw y=z:=by unfold jw;rw[F.chl,Nk,F.lk h v (mi _) H];show(y.bl[h]?).getD _=z;rw[π];rfl
  rw[e];exact⟨c,d,f,g⟩
structure VW(c:fL)(p x:BN)(s:List UInt8)(b:jL):Prop where
  dec:iE s=some b
  id:vU s=x.id
  par:mk b.parent=p.id
  eO:b.eO.map pG=x.eO
  wo:x.wo=p.wo+2^b.bits.toNat
  bits:¬b.bits<c.bi
  zero:(td s).toNat%2^b.bits.toNat=0
structure Src(c:fL)(ids:List ByteArray)(bs:List (List UInt8))(a:AG):Prop where
  z0:∃x,a.bl[0]?=some x∧x.id=jk
  c0:∃v,a.ch[0]?=some v∧v.st=[]
  src:∀(i:Nat)(x:BN),a.bl[i]?=some x→0<i→x.bad=false→∃(j:Nat)(s:List UInt8)(b:jL)(p:BN),ids[j]?=some x.id∧bs[j]?=some s∧a.bl[x.par]?=some p∧VW c p x s b
def Src.grow{c:fL}{I g:List ByteArray}{B d:List (List UInt8)}{a:AG}(h:Src c I B a):Src c (I++g) (B++d) a:=⟨h.z0,h.c0,λi x f H e=>have⟨j,s,b,p,q,Q,k⟩:=h.src i x f H e;⟨j,s,b,p,eP q,eP Q,k⟩⟩
def YH{a:AG}{c:Int}{s:List UInt8}{b:jL}(h:qA a c s b=0):¬b.bits<c∧(td s).toNat%2^b.bits.toNat=0:=by
  unfold qA at h;split at h;.cases h
  . split at h
    .cases h
    . rename_i H
      split at h;.cases h
      . rename_i d
        exact⟨H,by simpa using d⟩
def Src.keep{c:fL}{I:List ByteArray}{B:List (List UInt8)}{a:AG}{s:List UInt8}{b:jL}{j:Nat}(h:Src c I B a)(k:iE s=some b)(d:qA a c.bi s b=0)(l:I[j]?=some (vU s))(m:B[j]?=some s):Src c I B {a with bl:=a.bl++[fQ a s b]}:=by
  have⟨X,z,π⟩:=h.z0;refine⟨⟨X,eP z,π⟩,h.c0,λi x H e g=>?_⟩;obtain H|⟨_,rfl⟩:=iF H
  . have⟨j,s,b,p,q,Q,o,r⟩:=h.src i x H e g
    exact⟨j,s,b,p,q,Q,eP o,r⟩
  . have⟨_,f,_,_⟩:=uj d
    have⟨P,n⟩:=pH f;have⟨R,t⟩:=YH d;exact⟨j,s,b,zA a b,l,m,eP P,k,rfl,n.symm,rfl,rfl,R,t⟩
def acL{a:AG}{k i:Nat}{x:BN}(h:(gT a.bl k)[i]?=some x):∃z,a.bl[i]?=some z∧x.id=z.id∧x.par=z.par∧x.wo=z.wo∧x.aT=z.aT:=by unfold gT at h;rw[Am]at h;rcases H:a.bl[i]? with _|z;cases H▸h;rw[H]at h;simp[dK,gV]at h;subst h;exact⟨z,rfl,rfl,rfl,rfl,rfl⟩
def Kf{a:AG}{k i:Nat}{z:BN}(h:a.bl[i]?=some z):∃x,(gT a.bl k)[i]?=some x∧x.id=z.id∧x.wo=z.wo:=by unfold gT;rw[Am,h];exact⟨_,rfl,rfl,rfl⟩
def VW.of{c:fL}{p P x X:BN}{s:List UInt8}{b:jL}(h:VW c p x s b)(H:P.id=p.id)(a:P.wo=p.wo)(d:X.id=x.id)(e:X.wo=x.wo)(f:X.eO=x.eO):VW c P X s b:=⟨h.dec,d▸h.id,H▸h.par,f▸h.eO,by rw[e,a];exact h.wo,h.bits,h.zero⟩
def Src.sub{c:fL}{I:List ByteArray}{B:List (List UInt8)}{a:AG}{s:List UInt8}{j:Nat}(h:Src c I B a)(n:pF a)(y:I[j]?=some (vU s))(E:B[j]?=some s):Src c I B (mQ c a s).2.2.2:=by
  unfold mQ;rcases m:iE s with _|b;.exact h
  simp only;split;.exact h
  . rename_i d
    have d:qA a c.bi s b=0:=by simpa using d
    have g:=n.keep d (by have:=((iC b).1 (kI m).1).2.1;omega);have H:=h.keep m d y E;split;.exact H
    . have⟨A,f⟩:∃A,A=({a with bl:=a.bl++[fQ a s b]}:AG):=⟨_,rfl⟩
      have D:A.bl[a.bl.length]?=some (fQ a s b):=by rw[f];simp
      have w:A.ch=a.ch:=by rw[f]
      rw[←f]at g H|-;have C:¬Bt A.ch (fQ a s b).aT a.bl:=λe=>by
        unfold Bt at e;rw[w]at e;rcases l:a.ch[(fQ a s b).aT]? with _|z;.cases l▸e
        rw[l]at e;simp[dK,gV]at e;have⟨x,x1,_⟩:=n.ch _ z l;have:=(bK.1 x1).1;omega
      have aa:1≤bM A a.bl (fQ a s b).aT:=by unfold bM;have:=(G1 g D rfl C).len;omega
      unfold oJ;split
      . refine⟨H.z0,?_,H.src⟩
        have⟨v,V,T⟩:=H.c0;refine⟨v,?_,T⟩;show(A.ch.take _++_)[0]?=some v;have ab:=(bK.1 V).1;rw[ko (by rw[dJ];omega),Du<|by omega];exact V
      . have⟨x0,y1,y2⟩:=H.z0
        have⟨Y,W,X,_⟩:=Kf (k:=(dM A a.bl (fQ a s b).aT).getD (cJ c A a.bl (fQ a s b).aT).at_ 0) y1;refine⟨⟨Y,W,X.trans y2⟩,H.c0,λi x o q r=>?_⟩;have⟨z,π,z2,z3⟩:=G3 g o r;have⟨z',U,u,N,O,_⟩:=acL o;cases π▸U;have⟨j,S,p,ac,Q,G,J,K⟩:=H.src i z π q z2;have⟨P,R,L,M⟩:=Kf (k:=(dM A a.bl (fQ a s b).aT).getD (cJ c A a.bl (fQ a s b).aT).at_ 0) J;exact⟨j,S,p,P,u▸Q,G,N▸R,K.of L M u O z3⟩
def WT{l}(h:afy l):∀t∈l,t.outs.length<=8/\t.id.size<=1000000:=λt m=>⟨(h.2 t m).1.2,(h.2 t m).2.1⟩
def chB(a:AG)(f:Nat):List (Int×List Bc):=(((a.ch.take f).drop 1).map ve.ix).map<|mA a.bl
def WU{a f}(h:f<=a.ch):(chB a f)=f -1:=by unfold chB;simp;omega
def zQ{c a}(h:pF a)(H:xn c a)(J:∃v,a.ch[0]?=some v/\v.st=[]):∀f,f+1<=a.ch.length->∃l,iT c.su (chB a<|f+1) [] 0=(0,f,l)/\fJ (goes rG<|fD (a.ch.take<|f+1)) l/\Iy (goes rG<|fD (a.ch.take<|f+1))
 |0,_=>by
   have⟨v,V,O⟩:=J;have e:a.ch.take 1=[v]:=by rw[oz,V];rfl
   have k:fD (a.ch.take 1)=[]:=by rw[e];simp[fD,O]
   refine⟨[],?_,?_,?_⟩;unfold chB;rw[e];rfl;rw[k];exact⟨aak,λc m=>by simp at m,λp c e=>by cases e⟩;rw[k];exactλp c e=>by cases e
 |f+1,I=>by
   have⟨l,L,M,B⟩:=zQ h H J f O9;have e:=aY<|show f+1<a.ch by omega
   generalize a.ch[f+1]=y at e;have⟨x,b,E,F⟩:=h.ch _ y e;have⟨m,C,D,N⟩:=H.jn f y x e b;have u:0<y.ix:=by obtain d|d:=pJ y.ix;have⟨g,r,G,_⟩:=h.first;rw[d,r]at b;cases b;omega;exact d
   have T:=H.tx y.ix x b u F;have⟨j,w⟩:=H3 c.me.toNat c.su ((f+1:Nat):Int) x.eO M B (WT T) C;rw[D]at j;have⟨z,A⟩:=w j.symm;have o:(bQ c.me.toNat c.su ((f+1:Nat):Int) x.eO m (goes rG<|fD (a.ch.take<|f+1)) []).2.1.K=goes rG (fD (a.ch.take<|f+1+1)):=by rw[(xV c.me.toNat c.su ((f+1:Nat):Int) x.eO m (K:=goes rG<|fD (a.ch.take<|f+1)) (Ke _) λt s=>have n:=T.2 t s;⟨n.2.1,n.2.2,n.1.2⟩).at_,N,oz (i:=f+1),e];unfold fD;rw[UG,gS];simp
   have q:chB a (f+1+1)=chB a (f+1)++[(((f+1:Nat):Int),x.eO)]:=by unfold chB;rw[oz (i:=f+1),e,aaF (by rw[dJ];omega),kq,kq];congr 1;simp only[Option.toList_some,gJ,qL,mA,b,E]
   refine⟨(eK c.su ((f+1:Nat):Int) x.eO l).2,?_,o▸z,o▸A⟩;rw[q,Dc c.su _ _ _ _ (by rw[L]),L,WU O9];simp only[mj,Nk];rw[xE (x:=(((f+1:Nat):Int),x.eO)) j.symm];rfl
structure KM where
 id:ByteArray
 aT:Int
 wo:Int
 blk:jL
 par:Int
 bad:Bool
structure RN where
 kept:List KM
 last:Int
def uE(K:List KM):Nat->Int->List Nat
 |0,_=>[]
 |f+1,i=>if i<0 then[]else match K[i.toNat]? with
   |none=>[]
   |some k=>uE K f k.par++[i.toNat]
structure Ref(r:RN)(a:AG):Prop where
 len:a.bl.length=r.kept.length+1
 z0:∃x,a.bl[0]?=some x/\x.id=jk
 c0:∃v,a.ch[0]?=some v/\v.st=[]
 at_:∀(i:Nat)(k:KM),r.kept[i]?=some k->∃x,a.bl[i+1]?=some x/\x.id=k.id/\(x.aT:Int)=k.aT/\x.wo=k.wo/\x.bad=k.bad/\(x.par:Int)=k.par+1/\(k.bad=false->x.eO=k.blk.eO.map pG)
 last:∃y,a.ch[a.ch.length -1]?=some y/\(y.ix:Int)=r.last+1
theorem Lb{r a}(R:Ref r a):∀(f i:Nat),uE r.kept f ((i:Int) -1)=(Er a.bl f i).map (·-1)
 |0,i=>rfl
 |f+1,i=>by unfold uE Er;by_cases e:i=0;subst e;rfl;rw[aJ O9,aJ e];have t:((i:Int) -1).toNat=i -1:=O9;rw[t];cases g:r.kept[i -1]? with
   |none=>have c:=Dp.1 g;rw[kD<|by rw[R.len];omega];rfl
   |some k=>have⟨x,b,_,_,_,_,d,_⟩:=R.at_ _ k g;rw[show i -1+1=i from by omega]at b;rw[b];simp only;rw[show k.par=(x.par:Int) -1 from by omega,Lb R f x.par,kq];rfl
def cS(k:List KM)(i:Int):List Nat:=uE k (k.length+1) i
def vD{r a}(R:Ref r a)(h:pF a){i}(l:i<a.bl.length):cS r.kept ((i:Int) -1)=(sD a.bl i).map (·-1):=by grind [cS,Lb,yn,R.len]
def iU(r:RN)(id:ByteArray):Int:=if id=jk then-1 else match r.kept.findIdx? (λk=>decide (k.id=id))with
 |none=>-2
 |some i=>(i:Int)
def agk{r a}(R:Ref r a):a.bl.map BN.id=jk::r.kept.map KM.id:=by apply kX;intro i;obtain _|i:=i;grind [R.z0];rw[eG,Ad,eG];rcases g:r.kept[i]? with _|k;grind [R.len];grind [R.at_]
theorem Qs{r a}(R:Ref r a)(id):iU r id=(match a.bl.findIdx? (λx=>decide (x.id=id))with|none=>-2|some i=>(i:Int) -1):=by
 have e:a.bl.findIdx? (λx=>decide (x.id=id))=(a.bl.map BN.id).findIdx? (λx=>decide (x=id)):=by rw[List.findIdx?_map];rfl
 rw[e,agk R,List.findIdx?_cons];unfold iU;by_cases z:id=jk;grind;rw[aJ z,aJ (by simpa usingλe=>z e.symm),List.findIdx?_map];rw[show((λx=>decide (x=id))∘KM.id)=(λk=>decide (k.id=id))from rfl];cases r.kept.findIdx? (λk=>decide (k.id=id))with
 |none=>rfl
 |some i=>grind
def De(r:RN)(i:Int):Int×Int:=if i<0 then(0,0)else match r.kept[i.toNat]? with
 |none=>(0,0)
 |some k=>(k.aT,k.wo)
def TN(r:RN)(i:Int):Bool:=if i<0 then false else match r.kept[i.toNat]? with
 |none=>false
 |some k=>k.bad
def xG(c:Int)(r:RN)(s:List UInt8)(b:jL):Int:=if iU r (vU s)>-2 then 10 else
 if b.bits<c then 11 else
 if(td s).toNat%2^b.bits.toNat≠0 then 11 else
 if iU r (mk b.parent)=-2 then 12 else
 if TN r (iU r<|mk b.parent)then 13 else
 if r.kept.length>=48 then 9 else 0
def EI(r:RN)(s:List UInt8)(b:jL):KM:=⟨vU s,(De r (iU r<|mk b.parent)).1+1,(De r (iU r<|mk b.parent)).2+2^b.bits.toNat,b,iU r<|mk b.parent,false⟩
def kB(K:List KM)(i:Nat):Int×List Bc:=match K[i]? with
 |none=>(0,[])
 |some k=>(k.aT,k.blk.eO.map pG)
def fH:List Nat->List Nat->Nat
 |x::l,y::m=>if x=y then fH l m+1 else 0
 |_,_=>0
def om(c:fL)(r:RN)(s:List UInt8):Int×Int×Int×RN:=match iE s with
 |none=>(0,0,1,r)
 |some b=>if xG c.bi r s b≠0 then(0,0,xG c.bi r s b,r)else
   let K:=r.kept++[EI r s b];if(EI r s b).wo<=(De r r.last).2 then(0,0,0,⟨K,r.last⟩)else
   let I:=cS K (r.kept.length:Int);let f:=iT c.su (I.map<|kB K) [] 0;if f.1=0 then(((cS K r.last).length -fH (cS K r.last) I:Nat),((I.length -fH (cS K r.last) I:Nat):Int),0,⟨K,(r.kept.length:Int)⟩)else
   let a:=I.getD f.2.1 0;(0,0,if a=r.kept.length then f.1 else 13,⟨K.mapIdx λi k=>{k with bad:=k.bad||(cS K (i:Int)).contains a},r.last⟩)
def TP{r a}(R:Ref r a)(h:pF a){i:Nat}{x}(e:a.bl[i]?=some x):De r ((i:Int) -1)=((x.aT:Int),x.wo)/\TN r ((i:Int) -1)=x.bad:=by unfold De TN;obtain _|i:=i;grind [h.first];have p:=(bK.1 e).1;have⟨k,g⟩:∃k,r.kept[i]?=some k:=⟨_,aY (show i<r.kept by have:=R.len;omega)⟩;have⟨y,l,q,m,n,o,_⟩:=R.at_ i k g;cases l▸e;have t:(((i+1:Nat):Int) -1).toNat=i:=O9;rw[aJ O9,aJ O9,t,g];exact⟨by rw[m,n],o.symm⟩
def WV{r a}(R:Ref r a)(b):(EH a b=false<->iU r (mk b.parent)=-2)/\(EH a b=true->iU r (mk b.parent)=(Da a b:Int) -1):=by grind [Qs,EH,Da]
def agl{r a}(R:Ref r a)(h:pF a)(d s b):xG d r s b=qA a d s b:=by
 unfold xG qA;have j:(iU r (vU s)>-2)=(WH (a.bl.map BN.id) (vU s)=true):=by rw[Qs R,yi];cases g:a.bl.findIdx? (λx=>decide (x.id=vU s))with
  |none=>have:=U6.1 g;refine propext ⟨λe=>absurd e D9,λm=>?_⟩;have⟨x,n,e⟩:=gB.1 m;have:=this x n;simp[e]at this
  |some i=>have⟨k,q,_⟩:=Dy.1 g;simp only[gt_iff_lt,eq_iff_iff];exact⟨λ_=>gB.2 ⟨_,oD k,by simpa using q⟩,λ_=>by omega⟩
 simp only[j];split;rfl;split;rfl;split;rfl;have⟨f,p⟩:=WV R b;cases c:EH a b with
 |false=>rw[aN<|f.1 c,aN rfl]
 |true=>
   have o:¬iU r (mk b.parent)=-2:=λe=>by rw[f.2 e]at c;cases c
   rw[aJ o,aJ<|show¬true=false by simp,p c];have⟨t,u⟩:=pH c;rw[(TP R h t).2];split;rfl;have:=R.len;have:=h.ll;by_cases l:r.kept.length>=48;rw[aN l,aN O9];rw[aJ l,aJ O9]
def ad8{r a c s b}(R:Ref r a)(h:pF a)(d:qA a c s b=0):Ref ⟨r.kept++[EI r s b],r.last⟩ {a with bl:=a.bl++[fQ a s b]}:=by have⟨_,H,_,_⟩:=uj d;have⟨q,Q⟩:=pH H;have p:=(WV R b).2 H;have u:=(TP R h q).1;refine⟨by simp[R.len],?_,R.c0,λi k e=>?_,R.last⟩;have⟨x,X,f⟩:=R.z0;exact⟨x,eP X,f⟩;obtain e|⟨rfl,rfl⟩:=iF e;grind [R.at_];refine⟨fQ a s b,by rw[<-R.len];simp,rfl,?_,?_,rfl,?_,λ_=>rfl⟩;show(((zA a b).aT+1:Nat):Int)=(De r (iU r<|mk b.parent)).1+1;rw[p,u];simp;show(zA a b).wo+_=(De r (iU r<|mk b.parent)).2+_;rw[p,u];show(Da a b:Int)=iU r (mk b.parent)+1;rw[p];omega
def agm{r a}(R:Ref r a)(h:pF a):De r r.last=(((jw a).aT:Int),(jw a).wo):=by have⟨y,b,e⟩:=R.last;have⟨f,c,d,_⟩:=h.xf;cases c▸b;rw[show r.last=(y.ix:Int) -1 from by omega];exact(TP R h d).1
def ai0{r a}(R:Ref r a){i x}(e:a.bl[i]?=some x)(m:0<i)(b:x.bad=false):kB r.kept (i -1)=mA a.bl i:=by obtain⟨j,rfl⟩:∃j,i=j+1:=⟨i -1,O9⟩;have l:=(bK.1 e).1;have⟨k,g⟩:∃k,r.kept[j]?=some k:=⟨_,aY (show j<r.kept by have:=R.len;omega)⟩;have⟨y,c,n,d,o,f,p,h⟩:=R.at_ j k g;cases c▸e;unfold kB mA;rw[Nk,g,c];simp only;rw[d,h<|f▸b]
def ZH{c a s b}(h:xn c a)(f:pF a)(e:iE s=some b):xn c {a with bl:=a.bl++[fQ a s b]}:=⟨h.mo,λi x H g j=>by obtain H|⟨_,rfl⟩:=iF H;grind [h.tx];exact Pp e,λk z x d H=>by
 have⟨X,q,_⟩:=f.ch _ z d;have:X=x:=by grind
 subst this;exact h.jn k z X d q⟩
def H7:∀p u v,fH (p++u) (p++v)=p+fH u v
 |[],u,v=>by simp
 |x::p,u,v=>by rw[vK,vK,fH,aN rfl,H7 p u v,cQ];omega
def WW{a}(h:pF a)(j):∀i x,a.bl[i]?=some x->0<j->(E5 a.bl j).getD i false=(x.bad||(sD a.bl i).contains j)
 |i,x,e,g=>by
   rw[zO e λc=>(h.par _ x e c).1];by_cases f:i=0;subst f;rw[Db];have:¬0=j:=O9;simp[this];have⟨m,p,k,_,_,_,l⟩:=h.par i x e O9;rw[uD h e O9,WW h j x.par p k g,List.contains_append];have b:decide (0<i)=true:=by simp;omega
   rw[b,Bool.true_and];cases d:p.bad with
   |true=>rw[l d];simp
   |false=>grind
termination_by i => i
def agn{a j y}(W:G0 a j y):∀i∈dM a j y.aT,0<i:=λi m=>have⟨k,e⟩:=jQ.1 m;have⟨z,_,q,_⟩:=W.at_ k i e;q
def ad9{r a j y}(R:Ref r a)(h:pF a)(W:G0 a j y)(l:j<a.bl):cS r.kept ((j:Int) -1)=(((a.ch.take<|bM a j y.aT).drop 1).map ve.ix++dM a j y.aT).map (·-1):=by rw[vD R h l,ad7 h W]
def TQ{r a}(R:Ref r a):∀(l:List Nat),(∀i∈l,∃x,a.bl[i]?=some x/\0<i/\x.bad=false)->(l.map (·-1)).map (kB r.kept)=l.map (mA a.bl)
 |[],_=>rfl
 |i::l,h=>by have⟨x,b,c,d⟩:=h i S8;rw[gJ,gJ,gJ,ai0 R b c d,TQ R l λi m=>h i<|by simp[m]]
def H8{a}(h:pF a)(f):∀i∈((a.ch.take f).drop 1).map ve.ix,∃x,a.bl[i]?=some x/\0<i/\x.bad=false:=λi m=>by
 obtain⟨y,n,rfl⟩:=gB.1 m;have⟨k,e⟩:=jQ.1 n;rw[Dr]at e;have d:a.ch[1+k]?=some y:=by grind
 have⟨x,c,p,l⟩:=h.ch _ y d;refine⟨x,c,?_,l⟩;obtain b|b:=pJ y.ix;grind [h.first];exact b
def Qt{a}(h:pF a):∀i x,a.bl[i]?=some x->∀m∈sD a.bl i,0<m
 |i,x,e=>λm b=>by by_cases c:i=0;grind [Db];have⟨f,p,d,_⟩:=h.par i x e O9;rw[uD h e O9]at b;obtain b|b:=nA.1 b;exact Qt h x.par p d m b;grind
termination_by i => i
def I4{l:List Nat}{m}(h:∀i∈l,0<i)(b:0<m):(l.map (·-1)).contains (m -1)=l.contains m:=by grind
def aea{c:fL}{r:RN}{a:AG}{j:Nat}{y:BN}(R:Ref r a)(h:pF a)(H:xn c a)(e:a.bl[j]?=some y)(jl:j+1=a.bl.length)(n:y.bad=false)(hn:¬Bt a.ch y.aT j):let I:=cS r.kept<|(j:Int) -1;let f:=iT c.su (I.map<|kB r.kept) [] 0;(f.1=0->oJ c a j y.aT=((((cS r.kept r.last).length -fH (cS r.kept r.last) I:Nat):Int),((I.length -fH (cS r.kept r.last) I:Nat):Int),0,(oJ c a j y.aT).2.2.2)/\Ref ⟨r.kept,(j:Int) -1⟩ (oJ c a j y.aT).2.2.2)/\
 (f.1≠0->oJ c a j y.aT=(0,0,(if I.getD f.2.1 0=j -1 then f.1 else 13),(oJ c a j y.aT).2.2.2)/\Ref ⟨r.kept.mapIdx λi k=>{k with bad:=k.bad||(cS r.kept (i:Int)).contains (I.getD f.2.1 0)},r.last⟩ (oJ c a j y.aT).2.2.2):=by
 have W:=G1 h e n hn;have j0:0<j:=agn W j<|eY W.last;have f1:1<=bM a j y.aT:=by unfold bM;have:=W.len;omega
 have f2:=W.fork;have s:=ad9 R h W (by omega);have P:∀i∈dM a j y.aT,∃x,a.bl[i]?=some x/\0<i/\x.bad=false:=λi m=>have⟨k,e⟩:=jQ.1 m;have⟨z,π,b,g,C,z5⟩:=W.at_ k i e;⟨z,π,b,z5⟩
 intro I f;have ag:I.map (kB r.kept)=chB a (bM a j y.aT)++(dM a j y.aT).map (mA a.bl):=by show(cS r.kept<|(j:Int) -1).map _=_;rw[s,TQ R _ λi m=>(nA.1 m).elim (H8 h _ i)<|P i,kq];rfl
 have⟨l,L,T,U⟩:=zQ h H R.c0 (bM a j y.aT -1) (by omega);rw[show bM a j y.aT -1+1=bM a j y.aT from by omega]at L T U;have hf:f=iT c.su ((dM a j y.aT).map<|mA a.bl) l (bM a j y.aT -1):=by show iT c.su (I.map<|kB r.kept) [] 0=_;rw[ag,Dc _ _ _ _ _ (by rw[L]),L,WU f2,mj]
 have⟨B,K⟩:=Es c.me.toNat c.su ((dM a j y.aT).map<|mA a.bl) a.mem _ l (bM a j y.aT -1) T U (λx m ai u=>by obtain⟨i,ah,rfl⟩:=gB.1 m;have⟨z,π,b,g⟩:=P i ah;unfold mA at u;rw[π]at u;exact WT (H.tx i z π b g) ai u) H.mo
 rw[<-hf]at B K;change (f.1=0->(cJ c a j y.aT).e=0/\_)at B;change (f.1≠0->(cJ c a j y.aT).e=(if(cJ c a j y.aT).at_+1=_ then f.1 else 13)/\f.2.1=bM a j y.aT -1+(cJ c a j y.aT).at_/\(cJ c a j y.aT).at_<_)at K;rw[dS]at K;refine⟨λE=>?_,λE=>?_⟩;have J:=(B E).1;have t:=CQ c.me.toNat c.su ((dM a j y.aT).map<|mA a.bl) a.mem _ J;change (cJ c a j y.aT).ls.length=_ at t;rw[dS]at t;have⟨v,V,Y⟩:=R.last;have O:cS r.kept r.last=(((a.ch.take<|bM a j y.aT).drop 1).map ve.ix++(a.ch.drop<|bM a j y.aT).map ve.ix).map (·-1):=by
  have⟨x,X,_⟩:=h.ch _ v V;rw[show r.last=(v.ix:Int) -1 from by omega,vD R h (bK.1 X).1,vC h _ v V,show a.ch.length -1+1=a.ch.length from by omega,gQ,<-kq];congr 2;conv=>lhs;rw[<-pR (bM a j y.aT) a.ch]
  rw[aaF<|by rw[dJ];omega]
 have M:I=(((a.ch.take<|bM a j y.aT).drop 1).map ve.ix++dM a j y.aT).map (·-1):=s;have ac:fH (cS r.kept r.last) I=bM a j y.aT -1:=by
  rw[O,M,kq,kq,H7];have z:fH (((a.ch.drop<|bM a j y.aT).map ve.ix).map (·-1)) ((dM a j y.aT).map (·-1))=0:=by
   rcases aj:a.ch.drop (bM a j y.aT)with _|⟨q,u'⟩;rfl;rcases ak:dM a j y.aT with _|⟨i,w'⟩;rfl;have N:a.ch[bM a j y.aT]?=some q:=by have:=Dr (xs:=a.ch) (i:=bM a j y.aT) (j:=0);rw[aj]at this;simpa using this.symm
   have⟨z,π,b,g,C,_⟩:=W.at_ 0 i (by rw[ak];rfl);have q0:0<q.ix:=by have⟨x,X,p,_⟩:=h.ch _ q N;obtain E|E:=pJ q.ix;have⟨ab,g1,g2,_⟩:=h.first;rw[E,g1]at X;cases X;omega;exact E
   show(if q.ix -1=i -1 then _ else 0)=0;rw[aJ];intro e;apply g;unfold Bt;rw[C,tJ,N,show i=q.ix from by omega];rfl
  rw[z];simp;omega
 have ae:(cS r.kept r.last).length=a.ch.length -1:=by rw[O];simp;omega
 have af:I.length=bM a j y.aT -1+(dM a j y.aT).length:=by rw[M];simp;omega
 have d:oJ c a j y.aT=(((a.ch.length -bM a j y.aT:Nat):Int),((dM a j y.aT).length:Int),0,{a with ch:=a.ch.take (bM a j y.aT)++nz (dM a j y.aT) (cJ c a j y.aT).ls,mem:=(cJ c a j y.aT).mem}):=by unfold oJ;rw[if_pos J]
 refine⟨?_,?_⟩;rw[ac,ae,af,d];simp only[wE,vI];exact⟨by congr 1;omega,by congr 1;omega⟩;rw[d];refine⟨R.len,R.z0,?_,R.at_,?_⟩;have⟨v,V,Y⟩:=R.c0;refine⟨v,?_,Y⟩;show(a.ch.take _++_)[0]?=some v;rw[ko (by rw[dJ];omega),Du<|by omega];exact V;have Q:=xC (dM a j y.aT) _ t;have hp:=W.pos;have⟨z,S⟩:∃z,(nz (dM a j y.aT) (cJ c a j y.aT).ls)[(dM a j y.aT).length -1]?=some z:=⟨_,aY<|by rw[Q];omega⟩;refine⟨z,?_,?_⟩;show(a.ch.take (bM a j y.aT)++nz (dM a j y.aT) (cJ c a j y.aT).ls)[(a.ch.take (bM a j y.aT)++nz (dM a j y.aT) (cJ c a j y.aT).ls).length -1]?=some z;rw[cB,Q,dJ,lD f2,cZ (by rw[dJ];omega),dJ,lD f2,<-S];congr 1;omega;have:=(pX _ _ _ z S).1;rw[W.last]at this;have D:j=z.ix:=iN this;show(z.ix:Int)=(j:Int) -1+1;omega;have⟨J,j2,j3⟩:=K E;have⟨w,o⟩:∃w,(dM a j y.aT)[(cJ c a j y.aT).at_]?=some w:=⟨_,aY j3⟩;have⟨z,π,b,g,C,z5⟩:=W.at_ _ w o;have hg:(dM a j y.aT).getD (cJ c a j y.aT).at_ 0=w:=by rw[Jf,o];rfl
 have F:I.getD f.2.1 0=w -1:=by
  show(cS r.kept<|(j:Int) -1).getD _ 0=_;rw[s,j2,Jf,eG,cZ<|by simp;omega];have:bM a j y.aT -1+(cJ c a j y.aT).at_ -(((a.ch.take<|bM a j y.aT).drop 1).map ve.ix).length=(cJ c a j y.aT).at_:=by simp;omega
  rw[this,o];rfl
 have ad:((cJ c a j y.aT).at_+1=(dM a j y.aT).length)=(w -1=j -1):=by
  refine propext ⟨λq=>?_,λq=>?_⟩;have:=W.last;rw[show(dM a j y.aT).length -1=(cJ c a j y.aT).at_ from by omega,o]at this;rw[iN this];have D:w=j:=by omega
  have⟨z',y1,_,_,y4,_⟩:=W.at_ _ j W.last;rw[D]at π;rw[π]at y1;cases y1;have:=W.pos;omega
 have aa:¬(cJ c a j y.aT).e=0:=by rw[J];split;exact E;decide
 have d:oJ c a j y.aT=(0,0,(cJ c a j y.aT).e,{a with bl:=gT a.bl w,mem:=(cJ c a j y.aT).mem}):=by unfold oJ;rw[if_neg aa,hg]
 refine⟨?_,?_⟩;rw[F,d,J];simp only[ad];rw[F,d];refine⟨by simp[gT,R.len],?_,R.c0,λi k e=>?_,R.last⟩;have⟨x,X,p⟩:=R.z0;exact⟨_,kC X,p⟩;obtain⟨A,q1,rfl⟩:=get_map e;have⟨x,X,p,x3,x4,x5,x6,x7⟩:=R.at_ i A q1;have n:=WW h w (i+1) x X b;have G:(cS r.kept (i:Int)).contains (w -1)=(sD a.bl<|i+1).contains w:=by rw[show(i:Int)=((i+1:Nat):Int) -1 from by omega,vD R h<|(bK.1 X).1,I4 (Qt h _ x X) b]
 refine⟨_,kC X,p,x3,x4,?_,x6,?_⟩;show(E5 a.bl w).getD (i+1) false=(A.bad||(cS r.kept (i:Int)).contains (w -1));rw[n,G,x5];intro hk;have h1:(E5 a.bl w).getD (i+1) false=false:=by rw[n,<-G,x5];exact hk
 show(if(E5 a.bl w).getD (i+1) false then[]else x.eO)=_;rw[h1,aJ<|by simp];exact x7 (by cases ab:A.bad<;>simp_all)
def ago{c r a}(s)(R:Ref r a)(h:pF a)(H:xn c a):(om c r s).1=(mQ c a s).1/\(om c r s).2.1=(mQ c a s).2.1/\(om c r s).2.2.1=(mQ c a s).2.2.1/\Ref (om c r s).2.2.2 (mQ c a s).2.2.2:=by
 unfold om mQ;rcases o:iE s with _|b;exact⟨rfl,rfl,rfl,R⟩;simp only;rw[agl R h];by_cases g:qA a c.bi s b=0;have f:¬qA a c.bi s b≠0:=by simpa using g
 rw[aJ f,aJ f];have j:=ad8 R h g;have q:=h.keep g (by have:=((iC b).1 (kI o).1).2.1;omega);have A:(EI r s b).wo=(fQ a s b).wo:=by have⟨x,d,_,_,D,_⟩:=j.at_ r.kept (EI r s b) S8;have d:=d;rw[<-R.len]at d;simp at d;rw[<-D,d]
 rw[A,agm R h];by_cases v:(fQ a s b).wo<=(jw a).wo;rw[aN v,aN v];exact⟨rfl,rfl,rfl,j⟩;rw[aJ v,aJ v];have y:¬Bt a.ch (fQ a s b).aT a.bl:=λe=>by unfold Bt at e;rcases l:a.ch[(fQ a s b).aT]? with _|E;cases l▸e;rw[l]at e;simp[dK,gV]at e;have⟨x,d,_⟩:=h.ch _ E l;have:=(bK.1 d).1;omega
 have i:=aea (c:=c) j q (ZH (s:=s) H h o) (by simp) S8 rfl y;simp only at i;have u:((a.bl:Nat):Int) -1=(r.kept:Int):=by rw[R.len];omega
 have w:a.bl -1=r.kept.length:=by rw[R.len];omega
 rw[u,w]at i;have⟨B,C⟩:=i;split;rename_i k;have⟨m,n⟩:=B k;rw[m];exact⟨rfl,rfl,rfl,n⟩;rename_i k;have⟨m,n⟩:=C k;rw[m];exact⟨rfl,rfl,rfl,n⟩;have f:=g;rw[aN f,aN f];exact⟨rfl,rfl,rfl,R⟩
open Tryz
section
def Kq:=@cell_regrown
def Wa:=@wp_region_quiet_below
variable[Go.Proofs.VB]
def tz(w n)(s:Nat)(b:0<=n)(c:n<=1000000000000)(f:s<=4):∀a o,Calls Vp 136 #[.int .i64 n,s] (Go.Sort.grow (redrawn w a) o) λe g=>e=.returned (mk<|be n s)/\∃p:Regrown,g=Go.Sort.grow (redrawn w p.d) p.os:=λ_ _=>Calls.regrown_of<|Kj n s _ b c f
def nV(n k):(mk<|be n k).size=k:=by rw[cD,bI]
def aj5(p a b t k):mk p++t++mk a++mk b++k=mk (p++(gL t++a++(b++gL k))):=by rw[<-eH,<-eH,<-eH,<-eH,Bz,Bz];simp[ag7]
def akO(p a b k):mk p++mk a++mk b++k=mk (p++(a++(b++gL k))):=by rw[<-eH,<-eH,<-eH,Bz];simp[ag7]
def BB(t r u I O v o B w)(hi:uk w (r,I,u) I)(ho:mg w (O,o,v) o)
 (ht:0<=t)(ah:t<=65535)(af:I.length<=8)(ag:o.length<=8)(T:∀x∈I,x.Small)(U:∀x∈o,x.Small):
 Calls Vp 137 #[.agg #[.int .i64 t,.slice r I u,.slice O o v],.bool B] w λaa w'=>aa=.returned (mk<|kJ B t I o)/\Below w w w':=by
 have q:=λW=>tz W t 2 ht O9 O9;have Q:=λW=>tz W I 1 O9 O9 O9;have N:=aX w [t,.slice r I u,.slice O o v] 90;have K:=Kq<|N.r 0;have j:=Kq<|N.r 1;have z:=nV t 2;have l:=nV I 1;go_enter fA func137,ntmps137;go_wp2;refine Wa nO K8 ?_;repeat(go_big_quiet_step (first|(go_at_call_of 136 (Value.int .i64 t);exact q _ _ _)|(go_at_call_of 136 (Value.int .i64 I);exact Q _ _ _)))
 refine vZ λC f=>?_;clear q Q K j z l;simp only[cR]at f;rw[eH];go_wp2;go_loopw [5,6] (λs i wr=>∃k:Nat,k<=I/\i=↑k/\s=.string (mk<|be t 2++be I 1++(I.take k).flatMap (gU B))/\Below ((w:Nat)+1) (w.alloc<|.cells #[t,.slice r I u,.slice O o v] 90) wr) (λ_ i _=>I.length -(intOf i).toNat);case atStart=>exact⟨0,cH _,rfl,S8,f⟩
 case round=>
  clear f;obtain⟨k,hk,rfl,rfl,H⟩:=hrel;have f:=kL H 1 _ rfl;have ab:=mE (gU B) 42 I k λx g=>Bx B x<|T x g;by_cases a:k<I.length
  .have⟨⟨X,Y,J,m⟩,_⟩:=hi.keep (iZ H);cases J;obtain⟨b,ad,rfl,n⟩:=m (by intro h;simp[h]at a);have⟨D,E,c3⟩:=n k _<|aY a;have⟨L,M,S,s4⟩:=T _<|oD a;clear m n;have d:=lJ (gU B) _ k _<|aY a;have d:=aK d;have p:(be t 2++be I.length 1++(I.take k).flatMap (gU B)).length<=400:=by simp only[cB,bI];omega
   generalize e:be t 2++be I.length 1++(I.take k).flatMap (gU B)=P at p|-;have e:=aK e;generalize g:I[k]=x at D E c3 L M S s4 d|-;clear g;have ac:=Kr B x.key S;have y:=H.alloc (by simpa using H.size)<|.cells #[↑x.tx,↑x.idx,↑x.key] 139;have q:=λW=>tz W x.idx 1 O9 O9 O9;have Q:=λW=>tz W (My B x.key).size 1 O9 O9 O9;have N:=aX wr [↑x.tx,↑x.idx,↑x.key] 139;have K:=Kq<|N.r 0;have j:=Kq<|N.r 1;have π:(mk P).size<=400:=by rw[cD];exact p
   have z:=nV x.idx 1;have l:=nV (My B x.key).size 1;cases B
   .simp only[My,vJ,tK]at*;go_wp2;refine Wa nO K8 ?_;repeat(go_big_quiet_step (first|(go_at_call_of 136 (Value.int .i64 x.idx);exact q _ _ _)|(go_at_call_of 136 (Value.int .i64 x.key.size);exact Q _ _ _)))
    refine vZ λC c=>?_;clear q Q K j z l π f;rw[aj5];go_wp2;go_roundw;case rel=>refine⟨k+1,O9,by go_num,?_,mD y S8 c⟩;rw[d.out,<-e.out];simp only[gU,My,vJ,tK,dP]
    case measure=>simp[intOf];omega
   have V:=λW=>tz W 0 1 O9 O9 O9;have z3:=nV 0 1;simp only[My,yB]at*;clear Q l ac;go_wp2;refine Wa nO K8 ?_;repeat(go_big_quiet_step (first|(go_at_call_of 136 (Value.int .i64 x.idx);exact q _ _ _)|(go_at_call_of 136 (Value.int .i64 0);exact V _ _ _)))
   refine vZ λC c=>?_;clear q V K j z z3 π f;rw[aj5];go_wp2;go_roundw;case rel=>refine⟨k+1,O9,by go_num,?_,mD y S8 c⟩;rw[d.out,<-e.out];simp only[gU,My,yB,dP];rfl
   case measure=>simp[intOf];omega
  have G:k=I.length:=O9;subst G;rw[gQ]at ab|-;have F:=kL H 2 _ rfl;have π:(mk<|be t 2++be I.length 1++I.flatMap (gU B)).size<=400:=by rw[cD];simp only[cB,bI];omega
  generalize A:be t 2++be I.length 1++I.flatMap (gU B)=p1 at π|-;have A:=aK A;go_wp2;refine(Kj o.length 1 _ O9 O9 O9).m1 λC c=>?_;have R:=mD H S8 c;clear H c f F;have z:=nV o.length 1;go_wp2;rw[eH,<-A.out];go_loopw [5,9] (λs i wr=>∃k:Nat,k<=o.length/\i=↑k/\s=.string (mk<|be t 2++be I.length 1++I.flatMap (gU B)++be o.length 1++(o.take k).flatMap dD.bytes)/\Below ((w:Nat)+1) (w.alloc<|.cells #[t,.slice r I.length u,.slice O o.length v] 90) wr) (λ_ i _=>o.length -(intOf i).toNat);case atStart=>exact⟨0,cH _,rfl,S8,R⟩
  case round=>
   clear R π z A;obtain⟨k,hk,rfl,rfl,H⟩:=hrel;have F:=kL H 2 _ rfl;have ae:=mE dD.bytes 37 o k λx g=>x.jX<|U x g;by_cases a:k<o.length
   .have⟨⟨X,Y,J,m⟩,_⟩:=ho.keep (iZ H);cases J;obtain⟨b,ad,rfl,n⟩:=m (by intro h;simp[h]at a);have⟨D,E⟩:=n k _<|aY a;have⟨L,M,S⟩:=U _<|oD a;clear m n;have d:=aK (lJ dD.bytes _ k _<|aY a);have p:(be t 2++be I.length 1++I.flatMap (gU B)++be o.length 1++(o.take k).flatMap dD.bytes).length<=800:=by simp only[cB,bI];omega
    generalize e:be t 2++be I.length 1++I.flatMap (gU B)++be o.length 1++(o.take k).flatMap dD.bytes=P at p|-;have e:=aK e;generalize g:o[k]=x at D E L M S d|-;clear g;have y:=H.alloc (by simpa using H.size)<|.cells #[↑x.val,↑x.lock] 86;have q:=λW=>tz W x.val 4 O9 O9 O9;have Q:=λW=>tz W x.lock.size 1 O9 O9 O9;have N:=aX wr [↑x.val,↑x.lock] 86;have K:=Kq<|N.r 0;have j:=Kq<|N.r 1;have π:(mk P).size<=800:=by rw[cD];exact p
    have z:=nV x.val 4;have l:=nV x.lock.size 1;go_wp2;refine Wa nO K8 ?_;repeat(go_big_quiet_step (first|(go_at_call_of 136 (Value.int .i64 x.val);exact q _ _ _)|(go_at_call_of 136 (Value.int .i64 x.lock.size);exact Q _ _ _)))
    refine vZ λC c=>?_;clear q Q K j z l π F;rw[akO];go_wp2;go_roundw;case rel=>refine⟨k+1,O9,by go_num,?_,mD y S8 c⟩;rw[d.out,<-e.out];simp only[dD.bytes,dP]
    case measure=>simp[intOf];omega
   have G:k=o.length:=O9;subst G;rw[gQ];go_wp2;go_ret;exact⟨rfl,iZ H⟩
end
section
variable[Go.Proofs.VB]
end
def afC(c:fL)(w):Calls Vp 92 #[c.v] w λe a=>e=.returned (.bool c.ok)/\Below w w a:=by
 have⟨h,g,f,s,b⟩:=c;unfold fL.v fL.ok;dsimp only;have d:Hid (Below w w (w.alloc<|.cells #[h,g,f,s,b] 26)):=B0.alloc L9 _;go_enter fA func92,ntmps92;go_wp2_with (go_at_call 132;refine(zC _ _ _ _).m0 ?_);all_goals go_ret
 all_goals exact⟨by simp[*],d.out⟩
section
def V9:=@cell_regrown
variable[Go.Proofs.VB]
def Hb(x):gU false x=x.bytes:=rfl
def Hc(t i o):kJ false t i o=fW t i o:=by simp[kJ,fW,funext Hb]
def aj2(p a b c):mk p++mk a++mk b++mk c=mk (p++a++b++c):=by rw[<-eH,<-eH,<-eH]
def G7(p b c g j a w)(y:xw w (g,a,j) a):Calls Vp 94 #[.agg #[.string p,.int .i64 b,.int .i64 c,.slice g a j]] w λac s=>ac=.returned (.tuple #[(SG p b c a),(SH p b c a)])/\Below w w s:=by
 cases m:dI p b c a;.go_enter fA func94,ntmps94;go_wp2;refine(BD p b c g j a _ (y.keep<|B0.alloc L9 _)).m1 λW d=>?_;go_wp2;go_ret2;exact⟨by simp[SG,SH,m],aj3 B0 L9 d⟩
 have T:=xk m;have⟨G,au,av,ax,ay,az,a0,H⟩:=T;go_enter fA func94,ntmps94;go_wp2;refine(BD p b c g j a _ (y.keep<|B0.alloc L9 _)).m1 λW d=>?_;simp only[cR]at d;have ao:p.size<=8:=O9;have ar:=aK G;have O:=aK m;clear G;have π:=V9 (w:=W)<|kL d 0 _ rfl;have e:=V9 (w:=W)<|kL d 1 _ rfl;have h:=V9 (w:=W)<|kL d 2 _ rfl;have o:=V9 (w:=W)<|kL d 3 _ rfl;have I:=tz W b 1 O9 O9 O9;have J:=tz W c 2 O9 O9 O9;have K:=tz W a 1 O9 O9 O9;have L:=nV b 1;have R:=nV c 2;have V:=nV a 1;go_wp2;clear m;refine wp_region_quiet_below nO K8 ?_;repeat(go_big_quiet_step (first|(go_at_call_of 136 (Value.int .i64 b);exact I _ _)|(go_at_call_of 136 (Value.int .i64 c);exact J _ _)|(go_at_call_of 136 (Value.int .i64 a);exact K _ _)))
 refine vZ λw2 q0=>?_;have q:=mD d S8 q0;clear I J K π e h o L R V d;rw[show p++mk (be b 1)++mk (be c 2)++mk (be a.length 1)=mk (gL p++be b 1++be c 2++be a.length 1)from aj2 (gL p) _ _ _];have S:(gL p++be b 1++be c 2++be a.length 1).length<=20:=by simp only[cB,bI,dF];omega
 generalize u:gL p++be b 1++be c 2++be a.length 1=A at S|-;have u:=aK u;go_wp2;go_loopw [5,6] (λaq i z=>∃k,k<=a.length/\i=↑k/\aq=.string (mk<|A++(a.take k).flatMap ku.bytes)/\Below ((w:Nat)+1) (w.alloc<|.cells #[p,b,c,.slice g a.length j] 93) z) (λ_ i _=>a.length -(intOf i).toNat);case atStart=>exact⟨0,cH _,rfl,S8,q⟩
 case round=>
  clear q;obtain⟨k,an,rfl,rfl,l⟩:=hrel;have ak:=kL l 3 _ rfl;have al:=mE ku.bytes 636 a k λx X=>x.jX<|H x X;have F:(A++(a.take k).flatMap ku.bytes).length<=6000:=by simp only[cB];omega
  by_cases n:k<a.length
  .have⟨⟨ai,aj,U,B⟩,_⟩:=y.keep (iZ l);cases U;obtain⟨aw,a1,rfl,C⟩:=B (by intro am;simp[am]at n);have⟨c1,c2,c3,r,t⟩:=C k _<|aY n;have f:=H _<|oD n;clear B C;have⟨a2,a3,D,_⟩:=r.form;have⟨a4,a5,E,_⟩:=t.form;rw[D]at c2 r;rw[E]at c3 t;clear D E;have P:=aK (lJ ku.bytes _ k _<|aY n);generalize v:A++(a.take k).flatMap ku.bytes=ap at F|-;have v:=aK v;have Y:=(a[k]).jX f;go_wp2;refine(BB _ _ _ _ _ _ _ _ _ r t f.tag f.ajW f.ni f.no f.ins f.outs).m1 λa6 N=>?_;rw[Hc];have z0:(mk ap).size<=6000:=by rw[cD];exact F
   have L:(mk<|fW a[k].tag a[k].ins a[k].outs).size<=636:=by rw[cD];exact Y
   go_wp2;go_roundw;case rel=>refine⟨k+1,O9,by go_num,?_,mD l S8 N⟩;rw[P.out,<-dP,v.out,eH];rfl
   case measure=>simp[intOf];omega
  have Q:k=a.length:=O9;subst Q;rw[gQ];go_wp2;go_ret2;refine⟨?_,iZ l⟩;have M:=O.out;rw[<-u.out];simp[SG,SH,M,fP,mk]
end
section
variable[Go.Proofs.VB]
def D7{B}{w:World}{e s n v x}(h:w.ownsRow B e s v n x):v.oneCell'=true:=by obtain⟨rfl,_⟩|⟨g,c,C,rfl,_⟩:=h.2<;>rfl
end
section
def Eb:=@cell_regrown
def We:=@wp_region_quiet_below
variable[Go.Proofs.VB]
def C2(w:World)(S:Nat)(s:List UInt8)(a:Nat):Prop:=Row w S 246 [.string<|mk s,.int .i64 (a:Int)]
structure vr(w w':World)(sb:Nat)(s:List UInt8)(a:Nat):Prop where
 at_:C2 w' sb s a
 grown:w.grownBy w' (some sb)
def vr.trans{x y d c s a b}(h:vr x y c s a)(k:vr y d c s b):vr x d c s b:=⟨k.at_,h.grown.trans k.grown⟩
def ac4{w c s a}(h:C2 w c s a)(b:Nat):vr w (w.setCell (c,1) (b:Int)) c s b:=by refine⟨?_,?_⟩;exact Row.set h 1 ↑(b:Int);refine⟨rfl,rfl,rfl,?_,λk _ d=>?_⟩;simp only[World.setCell,Fj];exact L9;exact Below.heap_setCell w (c,1) _ k (show k≠c fromλe=>d<|by rw[e])
def iM(s:List UInt8)(a n:Nat):List UInt8:=if s.length<a+n then[]else(s.drop a).take n
def PI(s a n):(mk s).extract a (a+n)=mk ((s.drop a).take n):=by apply UM;simp[mk,ByteArray.data_extract]
def Hl(c s)(a n:Nat)(w)(h:C2 w c s a)(B:a<=1000000)(C:n<=1000):Calls Vp 133 #[.pointer c,n] w λe z=>e=.returned (mk<|iM s a n)/\vr w z c s (a+n):=by
 have v:=pZ h 0;have x:=pZ h 1;have u:=Kv h 1;have D:=cD s;go_enter fA func133,ntmps133;go_wp2;have d:=ac4 h<|a+n;rw[show((a+n:Nat):Int)=(a:Int)+(n:Int)from by omega]at d;generalize w.setCell _ _=i at d|-;clear v x u;have l:=Eb<|show i.cell? (c,0)=some ↑(mk s)from pZ d.at_ 0;have m:=Eb<|show i.cell? (c,1)=some ↑((a+n:Nat):Int)from pZ d.at_ 1;refine We nO K8 ?_;repeat(go_big_quiet_step (fail))
 refine vZ λW b=>?_;clear l m;have f:vr w W c s (a+n):=⟨PK d.at_ b<|yX d.at_,d.grown.trans ⟨b.os,b.tape,b.output,b.size,λk g _=>b.block k g⟩⟩;clear b d;by_cases q:s<a+n;.go_wp2;go_ret;refine⟨?_,f⟩;rw[iM,aN q];rfl
 have l:=Eb<|show W.cell? (c,0)=some ↑(mk s)from pZ f.at_ 0;have m:=Eb<|show W.cell? (c,1)=some ↑((a+n:Nat):Int)from pZ f.at_ 1;go_wp2;refine We nO K8 ?_;repeat(go_big_quiet_step (fail))
 refine vZ λA b=>?_;clear l m;have y:vr w A c s (a+n):=⟨PK f.at_ b<|yX f.at_,f.grown.trans ⟨b.os,b.tape,b.output,b.size,λk g _=>b.block k g⟩⟩;go_wp2;go_ret;refine⟨?_,y⟩;rw[iM,aJ q,<-PI];rfl
def cM(s:List UInt8)(a:Nat):Nat->Int
 |0=>0
 |k+1=>256*cM s a k+((s.getD (a+k) 0).toNat:Int)
def ac5(s a k)(f:k<=4):0<=cM s a k/\cM s a k<4294967296:=by
 have h:∀j,0<=cM s a j/\cM s a j<256^j:=by intro j;induction j with
  |zero=>simp[cM]
  |succ j g=>have b:=(s.getD (a+j) 0).toNat_lt;rw[cM,Int.pow_succ];omega
 have⟨c,d⟩:=h k;refine⟨c,Dq d ?_⟩;have b:k=0\/k=1\/k=2\/k=3\/k=4:=O9;obtain e|e|e|e|e:=b<;>rw[e]<;>decide
def Wh{w W b s a k}(h:vr w W b s (a+k)):vr w (W.setCell (b,1) ↑((a:Int)+(k:Int)+1)) b s (a+(k+1)):=by have:=h.trans (ac4 h.at_<|a+(k+1));rw[show((a+(k+1):Nat):Int)=(a:Int)+(k:Int)+1 from by omega]at this;exact this
def yf(S s)(a n:Nat)(w)(h:C2 w S s a)(z:a<=1000000)(D:n<=4):Calls Vp 134 #[.pointer S,n] w λe v=>e=.returned (cM s a n)/\vr w v S s (a+n):=by
 have E:=cD s;go_enter fA func134,ntmps134;go_wp2;go_loopw [5,6] (λm i wr=>∃k,k<=n/\i=↑k/\m=↑(cM s a k)/\vr w wr S s (a+k)) (λ_ i _=>n -(intOf i).toNat);case atStart=>exact⟨0,cH _,rfl,rfl,⟨h,bT _ _⟩⟩
 case round=>
  obtain⟨k,f,rfl,rfl,c⟩:=hrel;have o:=ac5 s a k O9;have d:Hid (cM s a (k+1)=256*cM s a k+((s.getD (a+k) 0).toNat:Int)):=rfl;generalize j:cM s a k=m at o d|-;have j:=aK j;by_cases A:k<n
  .have B:m<16777216\/16777216<=m:=O9;have K:=Eb<|show wr.cell? (S,0)=some ↑(mk s)from pZ c.at_ 0;have l:=Eb<|show wr.cell? (S,1)=some ↑((a+k:Nat):Int)from pZ c.at_ 1;go_wp2;refine We nO K8 ?_;repeat(go_big_quiet_step (fail))
   refine vZ λW H=>?_;clear K l;have b:vr w W S s (a+k):=⟨PK c.at_ H<|yX c.at_,c.grown.trans ⟨H.os,H.tape,H.output,H.size,λk f _=>H.block k f⟩⟩;clear H c;by_cases t:a+k<s
   .have K:=Eb (show W.cell? (S,0)=some ↑(mk s)from pZ b.at_ 0);have l:=Eb<|show W.cell? (S,1)=some ↑((a+k:Nat):Int)from pZ b.at_ 1;have q:=dH s (a+k) ((a:Int)+(k:Int)) O9 t;have u:=(s.getD (a+k) 0).toNat_lt;generalize(s.getD (a+k) 0).toNat=x at q d u;go_wp2;refine We nO K8 ?_;repeat(go_big_quiet_step (fail))
    refine vZ λy H=>?_;clear K l;have g:vr w y S s (a+k):=⟨PK b.at_ H<|yX b.at_,b.grown.trans ⟨H.os,H.tape,H.output,H.size,λk f _=>H.block k f⟩⟩;clear H b;have C:=pZ g.at_ 1;have F:=Kv g.at_ 1;go_wp2;go_roundw;case rel=>exact⟨k+1,O9,by go_num,by rw[d.out],Wh g⟩
    case measure=>simp[intOf];omega
   have C:=pZ b.at_ 1;have F:=Kv b.at_ 1;have p:s.getD (a+k) 0=0:=by rw[List.getD,kD O9];rfl
   go_wp2;go_roundw;case rel=>exact⟨k+1,O9,by go_num,by rw[d.out,p];simp,Wh b⟩
   case measure=>simp[intOf];omega
  have r:k=n:=O9;subst r;go_wp2;go_ret;exact⟨by rw[j.out];rfl,c⟩
end
section
variable[Go.Proofs.VB]
def IY(s:List UInt8)(a:Nat):jB×Nat:=(⟨mk<|iM s a 8,cM s (a+8) 1,mk<|iM s (a+8+1+1) (cM s (a+8+1) 1).toNat⟩,a+8+1+1+(cM s (a+8+1) 1).toNat)
def yU(s:List UInt8)(a:Nat):dD×Nat:=(⟨cM s a 4,mk<|iM s (a+4+1) (cM s (a+4) 1).toNat⟩,a+4+1+(cM s (a+4) 1).toNat)
def jY(s:List UInt8):Nat->Nat->List jB×Nat
 |0,a=>([],a)
 |n+1,a=>((jY s n a).1++[(IY s (jY s n a).2).1],(IY s (jY s n a).2).2)
def jq(s:List UInt8):Nat->Nat->List dD×Nat
 |0,a=>([],a)
 |n+1,a=>((jq s n a).1++[(yU s (jq s n a).2).1],(yU s (jq s n a).2).2)
def C3(s n a):(jY s n a).1.length=n:=by induction n with
 |zero=>rfl
 |succ n b=>simp[jY,b]
def zD(s n a):(jq s n a).1.length=n:=by induction n with
 |zero=>rfl
 |succ n b=>simp[jq,b]
def nk(n:Int):Nat:=min n.toNat 9
def CV(s:List UInt8)(a:Nat):Iz×Nat:=let c:=jY s (nk<|cM s (a+2) 1)<|a+2+1;let e:=jq s (nk<|cM s c.2 1)<|c.2+1;(⟨cM s a 2,c.1,e.1⟩,e.2)
def kK(s:List UInt8):Nat->Nat->List Iz×Nat
 |0,a=>([],a)
 |n+1,a=>((kK s n a).1++[(CV s (kK s n a).2).1],(CV s (kK s n a).2).2)
def iD(s:List UInt8):jL:=⟨iM s 0 8,cM s 8 1,cM s 9 2,(kK s (nk<|cM s 11 1) 12).1⟩
def zE(s a):0<=cM s a 1/\cM s a 1<=255:=by have b:=(s.getD a 0).toNat_lt;simp only[cM,tJ];omega
def afJ(s a):(IY s a).2<=a+265:=by have:=zE s<|a+8+1;simp[IY];omega
def ac6(s a):(yU s a).2<=a+260:=by have:=zE s<|a+4;simp[yU];omega
def Hm(s n a):(jY s n a).2<=a+n*265:=by induction n with
 |zero=>simp[jY]
 |succ n b=>have:=afJ s (jY s n a).2;simp[jY];omega
def Kw(s n a):(jq s n a).2<=a+n*260:=by induction n with
 |zero=>simp[jq]
 |succ n b=>have:=ac6 s (jq s n a).2;simp[jq];omega
def BF(n):nk n<=9:=Nat.min_le_right _ _
def afK(s a):(CV s a).2<=a+5000:=by have b:=Hm s (nk<|cM s (a+2) 1)<|a+2+1;have c:=Kw s (nk<|cM s (jY s (nk<|cM s (a+2) 1)<|a+2+1).2 1)<|(jY s (nk<|cM s (a+2) 1)<|a+2+1).2+1;have d:=BF<|cM s (a+2) 1;have e:=BF<|cM s (jY s (nk<|cM s (a+2) 1)<|a+2+1).2 1;simp[CV];omega
def ac7(s n a):(kK s n a).2<=a+n*5000:=by induction n with
 |zero=>simp[kK]
 |succ n b=>have:=afK s (kK s n a).2;simp[kK];omega
def vr.row{w d c s a}(h:vr w d c s a){g t C}(b:Row w g t C)(e:g≠c):Row d g t C:=(h.grown.block g b.lt<|by simpa using e).trans b
def C2.alloc{w b s a}(h:C2 w b s a)(o):C2 (w.alloc o) b s a:=Row.alloc h o
def C2.bF{w b s a}(h:C2 w b s a)(p v)(c:b≠p.block):C2 (w.setCell p v) b s a:=(Below.heap_setCell w p v b c).trans h
end
end Go.Proofs.aH
