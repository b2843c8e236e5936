import Derived.Maps.RangeRun
import Derived.Laws.IdiomRangeMap
import Derived.Lib.Bytealg
import Derived.Lib.Small
import Derived.Sort.Grow
import Derived.Sort.Statements
import Derived.Shelf.SlSortCmp.Insertion
import Derived.Shelf.SlSortCmp.WholeK
import Derived.Shelf.GgSortFunc.InsertionK
import Derived.Test.YtpjcmpfncpnmeaaGreatM12
set_option linter.all false
set_option maxHeartbeats 16000000
set_option maxRecDepth 100000
namespace Go.Proofs.aH
open Go.RowKit
section
variable{LB:Nat}
def KX{w N j k c s L a}{y:BN}{W:List WB}(_h:gK w N k c s L a)(b:∀x∈W,x.Ok s.l)(d:W.map WB.m=(dM a j y.aT).map (mA a.bl)):∀x∈(dM a j y.aT).map (mA a.bl),x.1<9223372036854775808/\x.2.length<=8/\∀t∈x.2,t.id.size<=1000000/\(∀i∈t.ins,i.Small)/\t.ins.length<=8/\t.outs.length<=8/\∀o∈t.outs,o.Small:=by rw[<-d];intro v g;obtain⟨x,h,rfl⟩:=gB.1 g;have o:=b x h;refine⟨o.hh,by show(x.Q.map rH.t).length<=8;rw[dS];exact o.q8,λt f=>?_⟩;obtain⟨n,e,rfl⟩:=gB.1 f;have:=o.q n e;exact⟨this.id,this.si,this.li,this.lo,this.so⟩
def aiX{w b n j J I c s L f a y r}{W:List WB}{T}(h:gK w n np c s L a)(C:a.bl[j]?=some y)(m:y.bad=false)(bh:¬Bt a.ch y.aT j)(S:s.l[j]?=some r)(a6:∀x∈W,x.Ok s.l)(a2:W.map WB.m=(dM a j y.aT).map (mA a.bl))(Y:∀(k:Nat)(i:Nat)(x:WB),(dM a j y.aT)[k]?=some i->W[k]?=some x->s.l[i]?=some x.b)(π:W=(dM a j y.aT).length)(a8:(cJ c a j y.aT).e=0)(av:aR b s.gs s.n s.sb s.mb (cJ c a j y.aT).K)
 (hN:oh b n s.B c.me.toNat (((s.cs np c).set 15 T).set 12 (J,bM a j y.aT -1+W+1,I)) s.bv T J (bM a j y.aT -1+W) I s.l (eW<|L.take (bM a j y.aT)++f) (cJ c a j y.aT).mem)
 (bf:f.map dX.st=(cJ c a j y.aT).ls)(N:f.map dX.a=W.map (λx=>x.b.a))(a7:∀x∈f,x.At b)(tk:Tk a.lo Y1 s.n s.mb w b)(am:dN w b):
 gK b n np c {s with gc:=J,kc:=bM a j y.aT -1+W,cc:=I,mv:=T,L:=eW<|L.take (bM a j y.aT)++f,p:=r} (L.take (bM a j y.aT)++f) (a.vg j y<|cJ c a j y.aT):=by
 have t:=G1 h.wf C m bh;have q:=KX (y:=y) h a6 a2;have⟨U,V,br,bu,ai⟩:=zN c.me.toNat c.su _ a.mem _ (Ke _) (h.wf.KT<|bM a j y.aT) q;have⟨aj,ak,ao⟩:=zP c.me.toNat c.su _ a.mem _ (Ke _) (h.wf.KT<|bM a j y.aT) h.base.mem q;change (cJ c a j y.aT).K=goes _ (cJ c a j y.aT).st at U;change fE _ (cJ c a j y.aT).st at V;change (cJ c a j y.aT).e=0->(cJ c a j y.aT).st=(cJ c a j y.aT).ls.flatten/\(cJ c a j y.aT).ls.length=_ at ai;change ∀s∈(cJ c a j y.aT).ls,_ at aj;change ∀al,Eh (goes _ ((cJ c a j y.aT).ls.take al).flatten)at ak;change (cJ c a j y.aT).mem.length<=_ at ao;have⟨ar,e⟩:=ai a8;rw[dS]at e;rw[ar]at U V;generalize cJ c a j y.aT=d at*;have R:=h.wf.over t e V aj ak;have ba:1<=bM a j y.aT:=by unfold bM;have:=t.len;omega
 have g:=t.fork;have K:=xC (dM a j y.aT) d.ls e;have M:(a.vg j y d).ch.length=bM a j y.aT+W:=by show(a.ch.take _++nz _ _).length=_;rw[cB,dJ,lD g,K,π]
 have bp:=t.pos;have X:f=W.length:=by have:=congrArg List.length N;simpa using this
 have bq:=(bK.1 C).1;have D:=h.tie j r y S C;have bc:bM a j y.aT -1+W.length=y.aT:=by unfold bM at ba|-;have:=t.len;omega
 have P:jw (a.vg j y d)=y:=by
  unfold jw;have o:(nz (dM a j y.aT) d.ls)[(dM a j y.aT).length -1]?=some _:=aY O9;have B:=(pX _ _ _ _ o).1;rw[t.last]at B;have e3:(a.vg j y d).ch[(a.vg j y d).ch.length -1]?=(nz (dM a j y.aT) d.ls)[(dM a j y.aT).length -1]?:=by rw[M];show(a.ch.take _++nz _ _)[_]?=_;rw[cZ (by rw[dJ,lD g];omega),dJ,lD g];congr 1;omega
  rw[e3,o,zZ,<-iN B];show(a.bl[j]?).getD _=y;rw[C];rfl
 have ay:(a.vg j y d).K=d.K:=by show goes rG (fD<|a.ch.take _++nz _ _)=_;have:=ui (dM a j y.aT) d.ls (nz (dM a j y.aT) d.ls).length e;rw[gQ,K,<-e,gQ]at this;rw[nS,gS,this,U]
 have ap:=h.wf.hle j y C;have A:=h.base;refine⟨⟨hN,by show aR b s.gs s.n s.sb s.mb (a.vg j y d).K;rw[ay];exact av,A.idn,eY S,D.bad.trans m,?_,?_,zL _,A.ids,?_,?_,?_,A.len,?_,?_,?_,ao,A.cok,A.low⟩,rfl,R,h.ll,λi x v F E=>(h.tie i x v F E).move (λ_ _ an=>an.tk tk (qx D9 D9 D9 D9 D9) (qx D9 D9 D9 D9 D9)<|qx D9 D9 D9 D9 D9) (λk ad bj=>⟨ad,bj,rfl⟩)<|eY F,h.nda,?_,λi x v F E=>?_⟩;show r.aT=((bM a j y.aT -1+W.length:Nat):Int);rw[D.aT,bc];show(eW<|L.take (bM a j y.aT)++f)[(bM a j y.aT -1+W.length)*2]?=some (.pointer r.a);have ac:=aY<|show W.length -1<f.length by omega
 have z:=aY<|show W.length -1<W.length by omega
 have O:(f.map dX.a)[W.length -1]?=(W.map λx=>x.b.a)[W.length -1]?:=by rw[N]
 rw[eG,eG,ac,z]at O;simp[dK,gV]at O;have p:=Y (W.length -1) j _ (π▸t.last) z;rw[S]at p;have bb:(L.take (bM a j y.aT)++f)[bM a j y.aT -1+W.length]?=some f[W.length -1]:=by rw[cZ (by rw[dJ,h.cl];omega),dJ,h.cl,lD g,show bM a j y.aT -1+W.length -bM a j y.aT=W.length -1 from by omega];exact ac
 rw[(rp _ _ _ bb).1,O,<-iN p];show r.id=(jw _).id;rw[P];exact D.id;show bM a j y.aT -1+W.length=(a.vg j y d).ch.length -1;rw[M];omega;show r.wo=(jw _).wo;rw[P];exact D.wo;show(a.vg j y d).ch.length -1+1<=(a.bl.map BN.id).length;rw[dS];have:(a.vg j y d).ch.length<=a.bl.length:=R.chl;omega;show 0<=(jw _).wo/\(jw _).wo<=256*((a.bl.map BN.id).length:Int);rw[P,dS];omega;show Eh (a.vg j y d).K;have:=R.KT (a.vg j y d).ch.length;rw[gQ]at this;exact this;rw[M,cB,dJ,h.cl,lD g,X];rcases ru (h.cl▸g) F with⟨bk,u⟩|⟨bk,u⟩;obtain⟨_,l⟩|⟨v1,_⟩:=ru g E;have⟨h1,h2,au⟩:=h.lnk i x v u l;exact⟨h1,h2.old am,au⟩;omega;obtain⟨v1,_⟩|⟨_,l⟩:=ru g E;omega;have⟨bm,bo⟩:=pX _ _ _ _ l;have z:=aY<|X▸(bK.1 u).1;have G:(f.map dX.st)[i -bM a j y.aT]?=d.ls[i -bM a j y.aT]?:=by rw[bf]
 rw[eG,u,bo]at G;have H:(f.map dX.a)[i -bM a j y.aT]?=(W.map λx=>x.b.a)[i -bM a j y.aT]?:=by rw[N]
 rw[eG,eG,u,z]at H;simp[dK,gV]at G H;exact⟨G,a7 x<|eY u,_,Y _ _ _ bm z,H.symm⟩
def pF.clean{a}(h:pF a){i z}(H:a.bl[i]?=some z)(m:¬Bt a.ch z.aT i):∀(k:Nat)(v:ve),a.ch[k]?=some v->(E5 a.bl i).getD v.ix false=false:=by
 have j:∀(k:Nat)(v:ve),a.ch[k]?=some v->v.ix≠i:=λk v b e=>by grind [Bt,h.ch]
 intro k;induction k with
 |zero=>grind [zO,h.ch,h.par]
 |succ k n=>grind [zO,h.ch,h.link,h.par]
def get_map{a b:Type}{f}{l:List a}{i}{y:b}(h:(l.mapIdx f)[i]?=some y):∃x,l[i]?=some x/\f i x=y:=by simp_all
def kC{a b:Type}{f:Nat->a->b}{l:List a}{i x}(h:l[i]?=some x):(l.mapIdx f)[i]?=some (f i x):=by simp_all
def akh{a}(h:pF a){i j x}(c:a.bl[i]?=some x)(b:(E5 a.bl j).getD i false=false):x.bad=false:=by grind [zO,h.par]
def AG.spoilt(a:AG)(i:Nat)(m:List cC):AG:={a with bl:=gT a.bl i,mem:=m}
def pF.aki{a}(h:pF a){i z}(A:a.bl[i]?=some z)(n:¬Bt a.ch z.aT i)(m):pF (a.spoilt i m):=by
 have j:=h.clean A n;refine⟨?_,λk x d y=>?_,h.ch0,λk v c=>?_,λk v x c d=>?_,h.path,h.len,h.KT,?_,?_⟩;have⟨x,f,g,l,w⟩:=h.first;have⟨v,V,B⟩:=h.ch0;have:=j 0 v V;rw[B]at this;exact⟨_,kC f,g,l,this⟩;obtain⟨b,H,rfl⟩:=get_map d;have⟨o,p,q,r,s,t,u⟩:=h.par k b H y;refine⟨o,_,kC q,r,s,t,λe=>?_⟩;show(E5 a.bl i).getD k false=true;have E:(E5 a.bl i).getD b.par false=true:=e;rw[zO H λy=>(h.par _ b H y).1,E];simp[y];have⟨x,f,g,l⟩:=h.ch k v c;exact⟨_,kC f,g,j k v c⟩;obtain⟨b,H,rfl⟩:=get_map d;exact h.link k v b c H;show((gT a.bl i).map BN.id).Nodup;have e:(gT a.bl i).map BN.id=a.bl.map BN.id:=by apply kX;intro k;rw[eG,eG];unfold gT;rw[Am];cases a.bl[k]?<;>rfl
 rw[e];exact h.ids;show(gT a.bl i).length<=49;unfold gT;rw[aaC];exact h.ll
def vA(b i):(gT b i).map BN.id=b.map BN.id:=by apply kX;intro k;rw[eG,eG];unfold gT;rw[Am];cases b[k]?<;>rfl
def BN.BP{x:BN}(h:x.bad=false):x.mark false=x:=by cases x;simp only at h;subst h;rfl
def kT.BP{x:kT}(h:x.bad=false):x.mark false=x:=by cases x;simp only at h;subst h;rfl
def akj{w W t i c s L a z M G}(h:gK w t np c s L a)(π:a.bl[i]?=some z)(O:¬Bt a.ch z.aT i)(U:M.length<=c.me.toNat)(T:aR W s.gs s.n s.sb s.mb a.K)(hN:oh W t s.B c.me.toNat ((s.cs np c).set 15 G) s.bv G s.gc s.kc s.cc (s.l.mapIdx λk y=>y.mark<|(E5 a.bl i).getD k false) s.L M)(tk:Tk a.lo Y1 s.n s.mb w W)(al:dN w W):
 gK W t np c {s with mv:=G,l:=s.l.mapIdx λk y=>y.mark ((E5 a.bl i).getD k false)} L (a.spoilt i M):=by
 have J:=h.wf.clean π O;have d:=h.base;have V:∀Y Q,nX w Y Q->nX W Y Q:=λ_ _ q=>q.tk tk (qx D9 D9 D9 D9 D9) (qx D9 D9 D9 D9 D9)<|qx D9 D9 D9 D9 D9;have N:(s.l.mapIdx λk y=>y.mark<|(E5 a.bl i).getD k false).map kT.id=s.l.map kT.id:=by apply kX;intro k;rw[eG,eG,Am];cases s.l[k]?<;>rfl
 have I:(s.l.mapIdx λk y=>y.mark<|(E5 a.bl i).getD k false).map kT.a=s.l.map kT.a:=by apply kX;intro k;rw[eG,eG,Am];cases s.l[k]?<;>rfl
 have⟨A,B,K,t3,t4,t5⟩:=h.wf.xf;have E:jw (a.spoilt i M)=jw a:=by
  have e:jw (a.spoilt i M)=(jw a).mark ((E5 a.bl i).getD A.ix false):=by unfold jw;show((a.ch[a.ch.length -1]?).bind λy=>(gT a.bl i)[y.ix]?).getD _=_;rw[B,zZ];unfold gT;rw[kC K,zZ,K];rfl
  rw[e,J _ A B,BN.BP t4]
 have aa:∀k(x:kT),s.l[k]?=some x->∃y,a.bl[k]?=some y:=λk x j=>⟨_,aY<|h.ll▸(bK.1 j).1⟩;have aj:s.p∈s.l.mapIdx λk y=>y.mark ((E5 a.bl i).getD k false):=by
  have⟨k,D⟩:=jQ.1 d.xf;have⟨v,r⟩:=aa k _ D;have ad:k=A.ix:=by
   have u:(a.bl.map BN.id)[k]?=some s.p.id:=by rw[eG,r,dK,(h.tie k _ v D r).id]
   have b:(a.bl.map BN.id)[A.ix]?=some s.p.id:=by rw[eG,K,dK];exact congrArg some d.tid.symm
   exact(aaA (bK.1 u).1 h.wf.ids).1<|u.trans b.symm
  have e:=kC (f:=λk y=>kT.mark y<|(E5 a.bl i).getD k false) D;rw[ad,J _ A B,kT.BP d.nQ]at e;exact eY e
 have ai:(gT a.bl i)=a.bl.length:=by unfold gT;rw[List.length_mapIdx]
 refine⟨⟨hN,T,by show(List.map kT.id _).Nodup;rw[N];exact d.idn,aj,d.nQ,d.ph,d.link,d.L1,?_,?_,d.kc,?_,?_,?_,?_,d.KT,U,d.cok,d.low.1,d.low.2.1,λx j=>?_⟩,h.sl,(h.wf.aki π O M),?_,λk x v j r=>?_,by show(List.map kT.a _).Nodup;rw[I];exact h.nda,h.cl,λk x v j r=>?_⟩;show List.map kT.id _=(gT a.bl i).map BN.id;rw[N,vA];exact d.ids;show s.p.id=(jw _).id;rw[E];exact d.tid;show s.p.wo=(jw _).wo;rw[E];exact d.wo;show((gT a.bl i).map BN.id).length<=49;rw[vA];exact d.len;show a.ch -1+1<=((gT a.bl i).map BN.id).length;rw[vA];exact d.kl;show 0<=(jw _).wo/\(jw _).wo<=256*(((gT a.bl i).map BN.id):Int);rw[E,vA];exact d.wb;have:x.a∈s.l.map kT.a:=I▸tN j;have⟨ah,n,p⟩:=gB.1 this;rw[<-p];exact d.low.2.2 ah n;show(List.mapIdx _ s.l)=(gT a.bl i).length;rw[aaC,ai];exact h.ll;obtain⟨H,ae,rfl⟩:=get_map j;obtain⟨X,P,rfl⟩:=get_map r;have g:=h.tie k H X ae P;refine⟨g.id,g.aT,g.wo,rfl,g.Zx,λm=>?_,λac m=>?_⟩;have⟨ao,af,ag⟩:=g.par m;exact⟨_,kC af,ag⟩;have C:(E5 a.bl i).getD k false=false:=ac;have F:=akh h.wf P C;have⟨q,e,o,am,ak⟩:=g.eO F m;have u:H.mark ((E5 a.bl i).getD k false)=H:=by rw[C,kT.BP<|g.bad.trans F]
 have b:X.mark ((E5 a.bl i).getD k false)=X:=by rw[C,BN.BP F]
 refine⟨q,e.trans u.symm,⟨o.tv,o.q,o.q0,o.q8,o.qc,?_,o.hh⟩,V _ _ am,by rw[b];exact ak⟩;rw[e,<-u];exact eY j;have⟨n,p,an,R,S⟩:=h.lnk k x v j r;exact⟨n,p.old al,_,kC R,S⟩
end
open Tryz
attribute [local go_sem↓] Go.wp_at_zero Go.wp_at_succ
section
def WN:=@cell_regrown
variable{LB:Nat}
def agb{n c a}(s w)(a1:nR w n c a):Cv 11 #[ptr n,(mk s)] w λe r=>e=.returned (.tuple #[.agg #[(mQ c a s).1,(mQ c a s).2.1],(mQ c a s).2.2.1])/\nR r n c (mQ c a s).2.2.2/\Ck a.lo Y2 w r:=by
 have⟨y,an,D⟩:=a1;have k:=aX w [aA,aA] 37;have G:=Ba w<|.cells #[aA,aA] 37;have fh:=D.base.nd.mem.row.lt;have bc:a.lo<=(w:Nat):=by have L:a.lo<=n:=D.base.low.1;omega
 unfold ptr;go_enter_defers fA func11,ntmps11;go_wp2;have D:=D.keep G;generalize w.alloc _=X at k G D|-;refine(adR s X).mono ?_;rintro e w1⟨O,⟨ai,rfl⟩|⟨b,d,Q,ai,rfl,M,bq,ey⟩⟩
 .have E:mQ c a s=(0,0,1,a):=by unfold mQ;rw[ai]
  have E:=aK E;have U:=Ba w1<|.cells #[aB,aB,aA,()] 106;have k:=(k.keep O k.lt).keep U<|fI k.lt O.size;have D:=(D.keep O).keep U;have G:=(G.trans<|O.mono G.size).trans (U.mono<|cA G.size O.size);have⟨c0,c1⟩:=k.p2;have f0:=k.frozen;have cd:=k.lt;unfold WC;go_wp2;generalize w1.alloc _=Y at k D G|-;have⟨v,K,T⟩:=E4 (LB:=a.lo) (mb:=y.mb) k 0 0 bc;have u:Tk a.lo Y2 0 y.mb w _:=T<|BM G;have D:=D.tk K D9 D9 D9 D9 D9 D9 D9 D9 D9 D9 D9;generalize(Y.setCell _ _).setCell _ _=F at v K u D|-;have⟨h,i⟩:=v.p2;exact⟨.tuple #[.agg #[aA,aA],aG],by simp[results,results11,go_sem,h,i],by rw[E.out],⟨y,an,by rw[E.out];exact D⟩,u.ck⟩
 have⟨bu,_⟩:=kI ai;have br:=(iC b).1 bu;have et:∃N:Nat,b.bits=(N:Int)/\N<=8:=⟨b.bits.toNat,O9,O9⟩;have⟨N,hN,cr⟩:=et;have ao:b.bits.toNat=N:=O9;have a3:Q.length=b.eO.length:=by have:=congrArg List.length bq;simpa using this
 have ep:1<=Q.length/\Q.length<=8:=by have L:=(vk bu).1;have h2:=br.2.2.2.1;omega
 have a6:=KS ai;rw[a6,hN];generalize a8:mk ((idB s).take 7++[td s])=al;have U:=Ba w1<|.cells #[al,↑(mk b.parent),↑(N:Int),.slice d Q.length Q.length] 106;have RH:=aX w1 [al,↑(mk b.parent),↑(N:Int),.slice d Q.length Q.length] 106;have k:=(k.keep O k.lt).keep U<|fI k.lt O.size;have D:=(D.keep O).keep U;have G:=(G.trans<|O.mono G.size).trans (U.mono<|cA G.size O.size);have M:=M.keep U;have b6:Hid (mQ c a s=if qA a c.bi s b≠0 then(0,0,qA a c.bi s b,a)else if(fQ a s b).wo<=(jw a).wo then(0,0,0,{a with bl:=a.bl++[fQ a s b]})else oJ c {a with bl:=a.bl++[fQ a s b]} a.bl.length (fQ a s b).aT):=by show _=_;unfold mQ;rw[ai]
 have dt:Hid (∀W,gK W n np c y an a->Cv 37 #[.pointer n,.agg #[al,↑(mk b.parent),↑(N:Int),.slice d Q.length Q.length]] W λe r=>e=.returned ↑(qA a c.bi s b)/\Below (W:Nat) W r):=by
  intro W t;have fg:y.l.length<=49:=by rw[t.ll];exact t.wf.ll
  have L:=P9 (nb:=n) (gt:=d) (q:=Q.length) (c:=Q.length) ((idB s).take 7) (td s) (mk b.parent) N c.bi W t.base.nd.qz (by rw[t.base.nd.mem.row.cell];exact t.base.nd.c11) (by rw[t.base.nd.mem.row.cell];rfl) O9 (agY t.base.xf) cr (by rw[dJ,WG];decide);rw[a8,<-ao,aiU t (t:=s) br.2.1.1 al (by rw[a6,a8]),ao]at L;exact L
 change Hid _ at a8 a6 hN ao a3 bq ai br bu;go_wp2;generalize w1.alloc _=a0 at k RH D G M|-;clear U O;generalize(w1:Nat)=bh at RH|-;refine(Tm a0 D.base.row).mono ?_;rintro e w2⟨rfl,dq,de⟩;have⟨B,I⟩:=D.shut rfl (lk':=np) rfl de dq;have u:Tk a.lo Y2 y.n y.mb w w2:=(BM G).trans<|I.zero.mono λad e=>.inl (.inl<|.inl e);have k:=k.tk I D9;have RH:=RH.tk I D9;have M:=M.tk I D9 D9 D9;clear D dq de I G;have⟨h,i,k2,cz⟩:=RH.p4;have du:=aK<|dt.out w2 B;go_wp2;refine du.out.m1 λw3 au=>?_;have k:=k.keep au k.lt;have RH:=RH.keep au RH.lt;have M:=M.keep au;have B:=B.keep au;have u:=u.trans<|BM au;clear du dt h i k2 cz au;by_cases x:qA a c.bi s b=0
 .have bj:Hid (mQ c a s=if(fQ a s b).wo<=(jw a).wo then(0,0,0,{a with bl:=a.bl++[fQ a s b]})else oJ c {a with bl:=a.bl++[fQ a s b]} a.bl.length (fQ a s b).aT):=by have:=b6.out;rw[aJ<|by simpa using x]at this;exact this
  have cv:=a6.out.trans a8.out;have⟨r1,r2,r3,fj⟩:=uj x;have⟨p,di,bz⟩:∃p,jT y.l (mk b.parent)=some p/\y.l[Da a b]?=some p:=by obtain⟨db,_⟩|⟨_,p,e2,e3⟩:=ad2 B b;cases r2▸db;exact⟨p,e2,e3⟩
  have b7:=B.tie _ _ _ bz (pH r2).1;have ff:y.l.length<=49:=by rw[B.ll];exact B.wf.ll
  have dp:(0<=p.aT/\p.aT<=100000)/\(0<=p.wo/\p.wo<=100000000):=by have L:=B.wf.hle _ _ (pH r2).1;have h2:=(bK.1 (pH r2).1).1;have ek:=B.wf.ll;rw[b7.aT,b7.wo];omega
  have ba:=adE (gt:=d) (q:=Q.length) (c:=Q.length) al (mk b.parent) N p w3 B.base.nd.mem.row B.base.nd.c11 B.base.nd.qz di B.base.nd.mem.base O9 cr dp.1 dp.2;unfold ptr at ba;have ba:=aK ba;have⟨h,i,k2,cz⟩:=RH.p4;have ez:=aK x;rw[x];change Hid _ at cv bz r1;clear b6 x di;go_wp2;refine ba.out.mono ?_;rintro e w4⟨A,eh,rfl,en,bo,cx,da⟩;have ca:=(WJ B.base bo cx da).2.2;have M:=M.tk ca (by unfold Yk;decide) (by unfold Yk;decide) (by unfold Yk;decide);rw[<-cv.out]at bo;have⟨H,_⟩:=aiW B ez.out ao.out cr bq.out ey ep M bz.out en bo cx da;have bx:(y.l++[I2 A (vU s) p N<|.slice (some ⟨d,0,none⟩) Q.length Q.length])[a.bl.length]?=some (I2 A (vU s) p N<|.slice d Q.length Q.length):=by rw[<-B.ll];simp
  have b0:p.wo+2^N=(fQ a s b).wo:=by show _=(zA a b).wo+2^b.bits.toNat;rw[b7.wo,ao.out]
  have k:=k.tk ca (by unfold Yk;decide);have u:=u.trans (ca.zero.mono λad e=>by obtain e|e:=e;exact .inl (.inl<|.inl e);exact .inr e);have dk:¬Bt a.ch (fQ a s b).aT a.bl.length:=λe=>by unfold Bt at e;rcases cy:a.ch[(fQ a s b).aT]? with _|z;cases cy▸e;rw[cy]at e;simp[dK,gV]at e;have⟨aw,bk,_⟩:=B.wf.ch _ z cy;have:=(bK.1 bk).1;omega
  have b8:y.p.wo=(jw a).wo:=B.base.wo;have⟨o,b4⟩:∃o,o=({y with bv:=eh,l:=y.l++[I2 A (vU s) p N<|.slice (some ⟨d,0,none⟩) Q.length Q.length]}:Lay):=⟨_,rfl⟩;rw[<-b4]at H;have ei:o.n=y.n/\o.mb=y.mb/\o.p=y.p/\o.l=y.l++[I2 A (vU s) p N<|.slice (some ⟨d,0,none⟩) Q.length Q.length]:=by rw[b4];exact⟨rfl,rfl,rfl,rfl⟩
  have⟨dc,av,dd,cj⟩:=ei;rw[<-cj]at bx;have⟨m,V⟩:∃m,m=({a with bl:=a.bl++[fQ a s b]}:AG):=⟨_,rfl⟩;rw[<-V]at H;have bb:m.lo=a.lo:=by rw[V]
  have bf:m.bl[a.bl.length]?=some (fQ a s b):=by rw[V];simp
  have cw:¬Bt m.ch (fQ a s b).aT a.bl.length:=by rw[V];exact dk
  rw[<-V]at bj;have ew:∃nw:kT,o.l[a.bl.length]?=some nw/\nw.a=A/\nw.wo=p.wo+2^N:=⟨_,bx,rfl,rfl⟩;have⟨nw,bd,dm,dn⟩:=ew;have b3:w4.cell? (A,3)=some ↑(p.wo+2^N):=by rw[<-dm,<-dn];exact(H.base.nd.qz.row nw<|eY bd).cell 3
  have ed:w4.cell? (y.p.a,3)=some ↑y.p.wo:=by rw[<-dd];exact(H.base.nd.qz.row o.p H.base.xf).cell 3
  have aq:w4.cell? (n,12)=some (.slice o.gc (o.kc+1) o.cc):=by rw[H.base.nd.mem.row.cell];exact H.base.nd.SP
  have cl:w4.cell? (o.gc,o.kc*2)=some (.pointer y.p.a):=by rw[<-dd];have:=H.base.nd.chain.cells (g:=o.gc) rfl (o.kc*2) _ H.base.link;rwa [add0]at this
  have fe:o.kc<=49:=by have L:o.kc=m.ch.length -1:=H.base.kc;have h2:=H.wf.chl;have ek:=H.wf.ll;omega
  change Hid _ at b0 b8 bx bd bf cj b4 V;clear ba h i k2 cz RH bo cx da ca b7 dk B dn;go_wp2;have e6:=WN b3;have e7:=WN ed;have ee:∀ap os,Cv 39 #[.pointer n] (Go.Sort.grow (redrawn w4 ap) os) λe e8=>e=.returned (.pointer y.p.a)/\∃p:Regrown,e8=Go.Sort.grow (redrawn w4 p.d) p.os:=λap os=>Calls.regrown_of<|KO n o.gc o.kc o.cc y.p.a _ (WN aq ap os) (WN cl ap os) O9
  refine wp_region_quiet_below nO K8 ?_;repeat(go_big_quiet_step (first|(go_at_call 39;exact ee _ _)))
  refine vZ λπ hq=>?_;clear e6 e7 ee b3 ed aq cl;have R:=H.keep hq;have k:=k.keep hq k.lt;have u:Tk a.lo Y2 y.n y.mb w π:=u.trans<|BM hq;clear H;clear hq;by_cases b9:p.wo+2^N<=y.p.wo
  .have a7:decide (p.wo+2^N<=y.p.wo)=true:=by simpa using b9
   rw[a7];have E:Hid (mQ c a s=(0,0,0,m)):=by have:=bj.out;rw[aN<|by rw[<-b0.out,<-b8.out];exact b9]at this;exact this
   have⟨c0,c1⟩:=k.p2;have f0:=k.frozen;have cd:=k.lt;clear a7 bj;go_wp2;have⟨v,K,T⟩:=E4 (LB:=a.lo) (mb:=o.mb) k 0 0 bc;have u:=T u;have C:=R.tk K D9 D9 D9 D9 D9 D9 D9 D9 D9 D9 D9;generalize(π.setCell _ _).setCell _ _=F at v K u C|-;refine rO (f:=36) (args:=#[.pointer n]) S8 (by simp[go_sem]) ?_;refine(xA .returning F C.base.row).mono ?_;rintro e c8 ax⟨rfl,rfl,bg,ay⟩;have⟨az,J⟩:=C.shut rfl (lk':=se) rfl ay bg;rw[bb]at J;have v:=v.tk J D9;have bm:=u.trans<|Tk.mono (Tk.zero<|by rw[av]at J;exact J) λad e=>.inl (.inl<|.inl e);have⟨h,i⟩:=v.p2;exact⟨.tuple #[.agg #[aA,aA],aA],by simp[results,results11,go_sem,h,i],by rw[E.out],⟨_,_,by rw[E.out];exact az⟩,bm.ck⟩
  have a7:decide (p.wo+2^N<=y.p.wo)=false:=by simpa using b9
  rw[a7];clear a7;have dv:Hid (mQ c a s=oJ c m a.bl.length (fQ a s b).aT):=by have:=bj.out;rw[aJ<|by rw[<-b0.out,<-b8.out];exact b9]at this;exact this
  have⟨W,fi,bp,ag,ar,a2⟩:=R.over (y:=fQ a s b) bf.out rfl cw bd.out;have j:=af9 π bp;rw[ag]at j;unfold ptr at j;rw[dm]at j;change Calls _ _ _ _ (λe r=>Tk m.lo Y1 o.n o.mb π r/\dN π r/\∃ec,(((bG c.me.toNat c.su _ m.mem (goes rG<|dO (an.take<|bM m a.bl.length (fQ a s b).aT))).e=0/\_)\/_))at j;rw[R.flat]at j;change Calls _ _ _ _ (λe r=>Tk m.lo Y1 o.n o.mb π r/\dN π r/\∃ec,(((cJ c m a.bl.length (fQ a s b).aT).e=0/\_)\/_))at j;have j:=aK j;have cm:=aK<|KX (y:=fQ a s b) R bp.ok ag;have cu:=aK bp.ok;clear bj bp;change Hid _ at ag ar a2;have P:=aK R;clear R;go_wp2;refine j.out.mono ?_;rintro e ab⟨S,cb,ec,HH⟩;have⟨X,Y,ac,m',s',L',E,he,C,hb,hl⟩:∃X Y ac m' s' L',Hid (mQ c a s=(X,Y,ac,m'))/\e=.returned (.tuple #[.agg #[.int .i64 X,.int .i64 Y],.int .i64 ac])/\gK ab n np c s' L' m'/\Hid (s'.mb=o.mb)/\Hid (m'.lo=m.lo):=by
   obtain⟨π,rfl,aj,fc,fb,fa,ak,l1,l2,eb⟩|⟨π,rfl,aj,aw,a4,bk,I,ak⟩:=HH;have eu:o.kc+1=m.ch.length:=by have L:o.kc=m.ch.length -1:=P.out.base.kc;have⟨_,_,_,_,_,h2⟩:=P.out.wf.xf;show _=_;omega
   have E:=dv.out;unfold oJ at E;change (cJ c m a.bl.length (fQ a s b).aT).e=0 at π;rw[aN π]at E;exact⟨_,_,_,_,_,_,E,by rw[eu,a2.out],aiX P.out bf.out rfl cw bd.out cu.out ag.out ar.out a2.out π aj ak l1 l2 eb S cb,rfl,rfl⟩;have dw:=G1 P.out.wf bf.out rfl cw;have⟨am,z,dx,dz,ea,ij⟩:∃am z,(dM m a.bl.length (fQ a s b).aT)[(cJ c m a.bl.length (fQ a s b).aT).at_]?=some am/\m.bl[am]?=some z/\¬Bt m.ch z.aT am/\am=a4:=by have dj:=(bK.1 bk).1;rw[a2.out]at dj;have e:=aY dj;have⟨z,e9,_,z3,_⟩:=dw.at_ _ _ e;exact⟨_,z,e,e9,z3,BO P.out.nda (ar.out _ _ aw e bk) I rfl⟩
   subst ij;have dg:=(zP c.me.toNat c.su _ m.mem _ (Ke _) (P.out.wf.KT<|bM m a.bl.length (fQ a s b).aT) P.out.base.mem cm.out).2.2;rw[P.out.flatAll]at aj;rw[<-P.out.sl]at ak;have E:=dv.out;unfold oJ at E;change (cJ c m a.bl.length (fQ a s b).aT).e≠0 at π;rw[aJ π,Jf,dx]at E;exact⟨_,_,_,_,_,_,E,rfl,akj P.out dz ea dg aj ak S cb,rfl,rfl⟩
  subst he;have k:=k.tk S<|qx D9 D9 D9 D9 D9;rw[bb,dc,av]at S;have u:Tk a.lo Y2 y.n y.mb w ab:=u.trans<|S.mono λad e=>.inl e;have⟨c0,c1⟩:=k.p2;have f0:=k.frozen;have cd:=k.lt;have C:=aK C;clear j HH S cb M cm cu ag ar;go_wp2;have C:=C.out;have⟨v,K,T⟩:=E4 (LB:=a.lo) (mb:=o.mb) k X Y bc;have u:=T u;have C:=C.tk (hb.out▸K) D9 D9 D9 D9 D9 D9 D9 D9 D9 D9 D9;generalize(ab.setCell _ _).setCell _ _=F at v K u C|-;refine rO (f:=36) (args:=#[.pointer n]) S8 (by simp[go_sem]) ?_;refine(xA .returning F C.base.row).mono ?_;rintro e c8 ax⟨rfl,rfl,bg,ay⟩;have⟨az,J⟩:=C.shut rfl (lk':=se) rfl ay bg;rw[hl.out,hb.out,bb,av]at J;have v:=v.tk J D9;have bm:=u.trans<|Tk.mono (Tk.zero J) λad e=>.inl (.inl<|.inl e);have⟨h,i⟩:=v.p2;exact⟨.tuple #[.agg #[.int .i64 X,.int .i64 Y],.int .i64 ac],by simp[results,results11,go_sem,h,i],by rw[E.out],⟨_,_,by rw[E.out];exact az⟩,bm.ck⟩
 have E:Hid (mQ c a s=(0,0,qA a c.bi s b,a)):=by have:=b6.out;rw[aN x]at this;exact this
 have e1:(qA a c.bi s b==0)=false:=by simpa using x
 have⟨c0,c1⟩:=k.p2;have f0:=k.frozen;have cd:=k.lt;generalize qA a c.bi s b=ac at x e1 E|-;clear b6;go_wp2;have⟨v,K,T⟩:=E4 (LB:=a.lo) (mb:=y.mb) k 0 0 bc;have u:=T u;have B:=B.tk K D9 D9 D9 D9 D9 D9 D9 D9 D9 D9 D9;generalize(w3.setCell _ _).setCell _ _=F at v K u B|-;refine rO (f:=36) (args:=#[.pointer n]) S8 (by simp[go_sem]) ?_;refine(xA .returning F B.base.row).mono ?_;rintro e c8 ef⟨rfl,rfl,e0,ej⟩;have⟨eo,eg⟩:=B.shut rfl (lk':=se) rfl ej e0;have v:=v.tk eg D9;have u:=u.trans<|eg.zero.mono λad e=>.inl (.inl<|.inl e);have⟨h,i⟩:=v.p2;exact⟨.tuple #[.agg #[aA,aA],ac],by simp[results,results11,go_sem,h,i],by rw[E.out],⟨y,an,by rw[E.out];exact eo⟩,u.ck⟩
end
open Go.CM (jI yw)
def an0(D:Nat):AN:=⟨[jk],jk,0,0,λ_=>none,[],D⟩
def rC{w B g s n t C}(h:Row w g t C)(a:C.length=n*s)(b:B<=g)(c:n<=maxLen):w.ownsRow B t s (g,n,n) n C:=⟨a,.inr ⟨g,n,C.toArray,rfl,b,h,L9,c,by simpa using a,by rw[<-a];simp⟩⟩
def MM{w G n}(h:lh w G n)(l:1<=n)(o:n<=16):∃S M,aR w G n S M (λ_=>none):=by
 have⟨a,A,t,u,v⟩:=h.at_;have b:∀i,i<n->a[i]?=some (a.getD i 0):=λi H=>by rw[Jf,aY O9];rfl
 have d:∀i,i<n->∃m,a.getD i 0=m+1/\Row w (a.getD i 0) 196 (CJ m)/\w.heap[m]?=some (.map #[] 0):=λi H=>(v _ (eY<|b i H)).at_;refine⟨λi=>a.getD i 0,λi=>a.getD i 0 -1,?_,λi H=>?_,λi H=>?_,λp c f=>(by cases f),λi j H k e=>?_,l,o⟩;have e:(List.range n).map (λi=>ptr<|a.getD i 0)=a.map ptr:=by apply kX;intro i;by_cases H:i<n;simp_all;simp_all
 rw[e];exact u;grind;have⟨m,e,_,s⟩:=d i H;have:a.getD i 0 -1=m:=O9;rw[this];exact⟨[],⟨#[],0,s,rfl,λx g=>(by simp at g),⟨λx g=>(by simp at g),S8,S8⟩⟩,λc r=>(by simp at r),λp c f=>(by cases f)⟩;have⟨m,y,_⟩:=d i H;have⟨B,z,_⟩:=d j k;have q:a[i]?=a[j]?:=by rw[b i H,b j k];congr 1;omega
 exact(aaA O9 t).1 q
def af1{D w b c}(h:OV D w b c)(g:c.ok=true):∃s a,jW w b se c s (an0 D)/\s.l=[⟨a,jk,none,0,0,afW,false⟩]/\s.L=[ptr a,()]:=by have⟨a,G,l,z,n,H,A,o,q,r,f,e,j,k,m⟩:=h.at_;have⟨S,M,t⟩:=MM r f.1 f.2;have y:=WI g;refine⟨⟨D,z,n,l,0,1,S,M,.slice G 1 1,↑(),[⟨a,jk,none,0,0,afW,false⟩],[ptr a,↑()],⟨a,jk,none,0,0,afW,false⟩⟩,a,⟨⟨⟨H,?_,rfl,mV _ _ _ _,cA e<|Ak H.lt⟩,rfl,rfl,⟨rC A rfl k D9,λx d=>?_⟩,rC (n:=1) o rfl m D9⟩,t,S8,S8,rfl,rfl,rfl,?_,rfl,rfl,rfl,rfl,(show(1:Nat)<=49 by decide),(show(0:Nat)+1<=1 by decide),(show(0:Int)<=0/\(0:Int)<=256*((1:Nat):Int)by decide),λp c v=>(by cases v),cH _,g,e,L9,λx d=>(by rw[pO.1 d];exact j)⟩,rfl,rfl⟩;show some (Value.int .i64 c.me)=_;rw[UI O9];rw[pO.1 d];exact q;intro u i;simp at i;obtain rfl|rfl:=i<;>rfl
def TK(D:Nat):AG:=⟨[⟨jk,0,0,0,[],false⟩],[⟨0,[]⟩],[],D⟩
def wf0(D):pF (TK D):=by
 refine⟨⟨_,rfl,rfl,rfl,rfl⟩,λi x b H=>?_,⟨_,rfl,rfl⟩,λh y a=>?_,λh y x a=>?_,trivial,λy a=>?_,λf=>?_,?_,show(1:Nat)<=49 by decide⟩;have:i<1:=(bK.1 b).1;omega;have:h<1:=(bK.1 a).1;obtain rfl:h=0:=O9;cases a;exact⟨_,rfl,rfl,rfl⟩;trivial;rw[pO.1 a];exact cH _;have e:fD ((TK D).ch.take f)=[]:=by obtain _|f:=f;rfl;cases f<;>rfl
 rw[e];exactλp c h=>by cases h
 show[jk].Nodup;simp
def agc{D w b c}(h:OV D w b c)(g:c.ok=true):nR w b c (TK D):=by have⟨s,f,h,d,E⟩:=af1 h g;refine⟨s,[⟨f,[],none,0⟩],h,E,wf0 D,by rw[d];rfl,λi x y a e=>?_,by rw[d];simp,rfl,λi x y a e=>?_⟩;have j:i<1:=(bK.1 e).1;obtain rfl:i=0:=O9;rw[d]at a|-;cases a;cases e;exact⟨rfl,rfl,rfl,rfl,λ_=>rfl,λH=>by omega,λ_ H=>by omega⟩;have j:i<1:=(bK.1 a).1;obtain rfl:i=0:=O9;cases a;cases e;exact⟨rfl,.inl rfl,_,by rw[d];rfl,rfl⟩
def nR.keep{w W n c a}(h:nR w n c a)(b:Below w w W):nR W n c a:=have⟨s,L,h⟩:=h;⟨s,L,h.keep b⟩
def nR.is{w n c a}(h:nR w n c a):xe w n c a.an:=have⟨s,L,h⟩:=h;h.is
def nR.wf{w n c a}(h:nR w n c a):pF a:=have⟨s,L,h⟩:=h;h.wf
def xe.keep{w W n c a}(h:xe w n c a)(b:Below w w W):xe W n c a:=have⟨s,h⟩:=h;⟨s,h.keep b⟩
def jW.rlock{w W n c s a}(h:jW w n se c s a)(r:Row W n 130 (vS++(c.cells++[s.bv,(s.gc,s.kc+1,s.cc),(s.gs,s.n,s.n),.int .i64 c.me,s.mv])))(e:W=w.setCell (n,4) (.int .i32 1)):jW W n vS c s a/\Xc (λk=>k=n) w W:=by have g:w.grownBy W (some n):=e▸cI w (n,4) _;exact⟨(h.shut rfl (lk':=vS) rfl g r).1,⟨g.os,g.tape,g.output,g.size,λk b d=>g.block k b λe=>d<|by simpa using e⟩⟩
def jW.SP{w n b c s a}(h:jW w n b c s a):w.cell? (n,12)=some (.slice s.gc (s.kc+1) s.cc):=by rw[h.nd.mem.row.cell];exact h.nd.SP
theorem jW.cl{w n b c s a}(h:jW w n b c s a):w.cell? (s.gc,s.kc*2)=some (.pointer s.p.a):=by have:=h.nd.chain.cells (g:=s.gc) rfl (s.kc*2) _ h.link;rwa [add0]at this
def AN.nP(a:AN):Value:=.agg #[.string a.xf,.int .i64 (a.aT:Int),.int .i64 a.wo]
def Ph{n b c s a}(w)(h:jW w n b c s a):Cv 46 #[.pointer n] w λe W=>e=.returned a.nP/\Below w w W:=by
 have:=adx n s.gc s.kc s.cc s.p w h.SP h.cl (by have d:=h.kc;have f:=h.kl;have g:=h.len;omega)<|h.nd.qz.row s.p h.xf;rw[h.tid,h.wo,h.ph,h.kc]at this;exact this
def aiP{N c a}(w)(h:xe w N c a):Cv 22 #[ptr N] w λe E=>e=.returned a.nP/\Below w w E:=by
 have⟨s,d⟩:=h;have t:=d.row;have b:=aX w [aB,aA,aA] 55;have j:Below w.heap.size w (w.alloc<|.cells #[aB,aA,aA] 55):=B0.alloc L9 _;have l:=t.lt;unfold ptr;go_enter_defers fA func22,ntmps22;go_wp2;have d:=d.keep j;generalize w.alloc _=X at b j d|-;refine(zx X d.row).mono ?_;rintro e W⟨rfl,q,u⟩;have⟨i,n⟩:=d.rlock q u;have o:Xc (λk=>k=N\/False) w W:=(jS j).trans n λk _ e=>.inl e;have b:=b.xc n (λe=>by omega);clear q u n j d;go_wp2;refine(Ph W i).m1 λC m=>?_;have o:=o.then m;have b:=b.keep m b.lt;have i:=i.keep m;have⟨H,I,J⟩:=b.p3;have L:=b.frozen;unfold AN.nP;go_wp2;have p:=((b.set 0 a.xf).set 1 (a.aT:Int)).set 2 a.wo;have x:Xc (λk=>k=N\/False) w (((C.setCell ⟨w.heap.size,0,none⟩ a.xf).setCell ⟨w.heap.size,1,none⟩ (a.aT:Int)).setCell ⟨w.heap.size,2,none⟩ a.wo):=((o.setCell ⟨w.heap.size,0,none⟩ _ λe=>absurd e<|Fq _).setCell ⟨w.heap.size,1,none⟩ _ λe=>absurd e<|Fq _).setCell ⟨w.heap.size,2,none⟩ _ λe=>absurd e<|Fq _;have r:=((i.row.bF ⟨w.heap.size,0,none⟩ a.xf<|Jh l).bF ⟨w.heap.size,1,none⟩ (a.aT:Int)<|Jh l).bF ⟨w.heap.size,2,none⟩ a.wo<|Jh l;generalize((C.setCell _ _).setCell _ _).setCell _ _=F at p x r|-;refine rO (f:=44) (args:=#[(N,0)]) S8 (by simp[go_sem]) ?_;refine(qZ .returning F r).mono ?_;rintro e B G⟨rfl,rfl,y,v⟩;have A:Xc (λk=>k=N\/False) w G:=by rw[v];exact x.setCell _ _ λ_=>.inl rfl
 have g:=p.bF ⟨N,4,none⟩ (.int .i32 0)<|Z8 l;rw[<-v]at g;have K:=g.cell 0;have z:=g.cell 1;have D:=g.cell 2;exact⟨.agg #[a.xf,(a.aT:Int),a.wo],by simp[results,results22,go_sem,K,z,D],rfl,(J8 A t y).low⟩
section
variable{LB:Nat}
def aI.Zl:(Vp.info? 60).map (λi=>(i.zero,i.size,i.bytes))=some (some<|.agg (),6,64):=K8
def Pg:=@aI.Zl
def jo:Option bL->List Value
 |none=>[↑aB,↑aA,↑aA,↑aB,↑aA,false]
 |some c=>[.string c.tx,.int .i64 c.idx,.int .i64 c.val,.string c.lock,.int .i64 c.aT,true]
end
def fR.none_{w m n i c}(h:fR w m n i (jH.put (λ_=>none) c))(H:sX n c.pt≠i):∃p,w.heap[m]?=some (.map #[] p):=by
 have⟨C,⟨E,p,a,j,k,l⟩,b,o⟩:=h;have:C=[]:=by obtain _|⟨d,C⟩:=C;rfl;have f:=b d S8;unfold jH.put at f;by_cases e:d.pt=c.pt;simp_all;simp_all
 have g:E=#[]:=by simp_all
 subst g;exact⟨p,a⟩
def fR.one{w m n i c}(h:fR w m n i (jH.put (λ_=>none) c))(H:sX n c.pt=i):∃e F,w.heap[m]?=some (.map #[e] F)/\e.val=c.v/\e.born<F:=by
 have⟨C,⟨v,F,r,f,E,s⟩,t,u⟩:=h;have p:=u c.pt c (by unfold jH.put;rw[if_pos rfl]) H;have g:∀d∈C,d=c:=λd y=>by have:=(t d y).1;unfold jH.put at this;by_cases e:d.pt=c.pt;simp_all;simp_all
 have q:(C.map bL.pt).Nodup:=by
  have o:=s.2.2;have j:v.toList.map (·.key)=(v.toList.map λe=>(e.key,e.val)).map Prod.fst:=by rw[pQ];rfl
  rw[j,f,pQ]at o;have k:(Prod.fst∘qY)=wA∘bL.pt:=rfl;rw[k,<-pQ]at o;exact List.Pairwise.of_map wA (λa b B e=>B<|by rw[e]) o
 have x:C=[c]:=by match C,p,g,q with
  |[d],p,g,_=>rw[g d S8]
  |d::G::D,p,g,q=>have j:=g d S8;subst j;simp[(g G S8)]at q
 subst x;have A:v.size=1:=by have:=congrArg List.length f;simpa using this
 have⟨e,z⟩:∃e,v=#[e]:=⟨v[0],by apply Array.ext;simp[A];intro i r f;simp at f;subst f;rfl⟩;subst z;refine⟨e,F,r,?_,s.1 e S8⟩;have:=congrArg (λl=>l.map Prod.snd) f;simpa[qY]using this
def Mj{B w O R o a Q}(k:o.guard=none)(s x)(q:o.op=.call {callee:=.builtin .append,args:=#[s,x],argTypes:=#[53,53]})(v)(n)(l)(t:a.eval s=v)(r:w.ownsRow B 60 6 v n l)
 (g c)(N)(p:N.length=1*6)(y:a.eval x=.slice g 1 c)(i:Row w g 60 N)(d:∀u∈N,u.oneCell'=true)(E:n<=100000)(f:B<=↑w)
 (h:∀b W,W.ownsRow B 60 6 b (n+1) (l++N)->w.grownBy W v.ownBlock->wpList Vp O Q R (a.put o.dst b) W):wpList Vp O Q (o::R) a w:=by
 have⟨D,H,z,A,C⟩:=info_parts Pg;refine wpList_append_own_at _ k s x 53 q B 60 D _ 6 64 aI.underlying53 H z A C rfl D9 v n l t r (g,0) 1 c N y p (λj u m=>by rw[add0,i.cell];exact m) d (by unfold maxLen;omega) O9 f ?_;intro b W d e _ _;exact h b W d e
def bJ(l:List bL):List Value:=l.flatMap λc=>jo<|some c
def mO(l):(bJ l)=l.length*6:=by induction l with
 |nil=>rfl
 |cons c l a=>unfold bJ at*;rw[List.flatMap_cons,List.length_append,a];simp[jo];omega
def O6(l c):bJ (l++[c])=bJ l++jo (some c):=by simp[bJ]
def O7:Value->bL
 |.agg c=>match c.toList with
   |[.string t,.int _ i,.int _ v,.string l,.int _ h,_]=>⟨t,i,v,l,h⟩
   |_=>⟨⟨#[]⟩,0,0,⟨#[]⟩,0⟩
 |_=>⟨⟨#[]⟩,0,0,⟨#[]⟩,0⟩
def acy(c):O7 c.v=c:=rfl
def ajQ:Value->Nat
 |.slice _ n _=>n
 |_=>0
def J7:∀(l:List MapEntry),(l.map (·.born)).Nodup->∀e∈l,l.Perm (e::l.filter λx=>x.born !=e.born)
 |[],_,_,h=>by cases h
 |x::l,a,e,h=>by
   simp only[gJ,Nr]at a;obtain rfl|h:=jO.1 h;rw[Fp S8,aan.2 (λy d=>by have:y.born≠e.born:=λb=>a.1 (b▸tN (f:=(·.born)) d);simpa using this)]
   have c:x.born≠e.born:=λb=>a.1 (b▸tN (f:=(·.born)) h);rw[Jg<|by simpa using c];exact((J7 l a.2 e h).cons x).trans<|List.Perm.swap _ _ _
def Yw{E s e}(c:(E.toList.map (·.born)).Nodup)(b:e∈(leftOf E s).toList):(leftOf E s).toList.Perm (e::(leftOf E<|s.push e.born).toList):=by
 have a:((leftOf E s).toList.map (·.born)).Nodup:=by unfold leftOf;rw[aao];exact List.Nodup.sublist (List.Sublist.map _ Uo) c
 have h:(leftOf E<|s.push e.born).toList=(leftOf E s).toList.filter λx=>x.born !=e.born:=by unfold leftOf;rw[aao,aao,List.filter_filter];congr 1;funext x;simp[Array.contains_push];cases d:(x.born==e.born)<;>simp_all
 rw[h];exact J7 _ a e b
def Mi{b m B k T aw}(C w)(t:Row w b 196 (CJ m))(X:jI afp w m (C.map qY))(j:w.ownsRow B 60 6 aw k T)(bz:b<B)(b0:m<B)(a8:B<=w)(hl:k+C.length<=100000):Cv 106 #[ptr b,aw] w λe w'=>∃ay D,D.Perm C/\e=.returned ay/\w'.ownsRow B 60 6 ay (k+C.length) (T++bJ D)/\Xc (λq=>B<=q) w w':=by
 obtain⟨v,o,X,ak,-,ad⟩:=X;obtain⟨sa,sc,rfl⟩:=aS j;have bc:v.toList.map (λe=>O7 e.val)=C:=by have:=congrArg (List.map λa1:Value×Value=>O7 a1.2) ak;rw[pQ,pQ]at this;simpa[Ut,qY,acy]using this
 have bq:Hid (∀e∈v.toList,e.val=(O7 e.val).v):=λe G=>by have:(e.key,e.val)∈C.map qY:=ak▸gB.2 ⟨e,G,rfl⟩;have⟨c,_,H⟩:=gB.1 this;have:c.v=e.val:=congrArg Prod.snd H;rw[<-this,acy]
 have bg:m≠b:=by intro e;subst e;unfold Row at t;cases X▸t
 unfold ptr;go_enter_defers fA func106,ntmps106;go_wp2;refine(zx w t).mono ?_;rintro bx W⟨rfl,S,L⟩;have an:Xc (λq=>q=b\/B<=q) w W:=by rw[L];exact(lY _ w).setCell ⟨b,4,none⟩ _ λ_=>.inl rfl
 have y:=(an.block m (bO X) λe=>by obtain e|e:=e;exact bg e;omega).trans X;have c6:=S.r 6;have bm:=run_range_map (P:=Vp) W 194 _ _ m v o aI.underlying194 y;have d:(W.alloc<|.mapIter (some m) o #[] o).heap[W.heap.size]?=some (.mapIter (some m) o #[] o):=wF W _;have i:(W.alloc<|.mapIter (some m) o #[] o).heap[m]?=some (.map v o):=by first|exact(heap_alloc_old W _ _<|bO y).trans y|exact(heap_alloc_old W _<|bO y).trans y
 have K:W.heap.size=w.heap.size:=by rw[L];simp[World.setCell,Fj]
 have g:Row (W.alloc<|.mapIter (some m) o #[] o) b 196 (vS++[.map<|some m]):=S.alloc _;have p:Xc (λq=>q=b\/B<=q) w (W.alloc<|.mapIter (some m) o #[] o):=an.alloc _;have O:(W.alloc<|.mapIter (some m) o #[] o).ownsRow B 60 6 (sa,k,sc) k T:=pP (by rw[L];exact pn j t D9) _;clear L an S y j;replace K:=aK K;go_wp2;generalize W.alloc _=a2 at d i g p O|-;generalize bo:W.heap.size=r at d K|-;clear bo bm c6;go_loopw [1] (λap wr=>∃(D:List bL)(u:Array Nat),(D++(leftOf v u).toList.map λe=>O7 e.val).Perm C/\wr.ownsRow B 60 6 ap (k+D) (T++bJ D)/\wr.heap[r]?=some (.mapIter (some m) o u o)/\wr.heap[m]?=some (.map v o)/\Row wr b 196 (vS++[.map<|some m])/\Xc (λq=>q=b\/B<=q) w wr) (λap _=>k+C -ajQ ap);case atStart=>
  refine⟨[],#[],?_,by simpa[bJ]using O,d,i,g,p⟩;have:leftOf v #[]=v:=by unfold leftOf;simp
  rw[this,yC,bc]
 case round=>
  clear O d i g p;have⟨D,u,J,j,d,i,g,p⟩:=hrel;obtain⟨A,Y,rfl⟩:=aS j;rcases run_next_at (P:=Vp) wr 0 r m o o u v o d i ad.1 L9 with⟨br,b4⟩|⟨e,G,n,am,ac⟩
  .have ae:D.Perm C:=by
    have:(leftOf v u).toList=[]:=by rw[Array.eq_empty_of_size_eq_zero br]
    rw[this]at J;simpa using J
   go_wp2;refine rO (f:=44) (args:=#[(b,0)]) S8 (by simp[go_sem]) ?_;refine(qZ .returning _ g).mono ?_;rintro e b8 w4⟨rfl,rfl,bk,av⟩;have bu:Xc (λq=>q=b\/B<=q) w w4:=by rw[av];exact p.setCell _ _ λ_=>.inl rfl
   refine⟨_,results_tmp rfl _ _ _,_,D,ae,rfl,?_,J8 bu t bk⟩;rw[av,<-ae.length_eq];exact pn j g D9
  have ar:=Yw ad.2.1 G;have R:=(mem_left G).1;have al:=bq.out e R;generalize H:O7 e.val=c at al;have ao:((D++[c])++(leftOf v<|u.push e.born).toList.map λe=>O7 e.val).Perm C:=by refine List.Perm.trans ?_ J;rw[dP];refine List.Perm.append_left D ?_;have:=(ar.map λe=>O7 e.val).symm;rw[gJ,H]at this;exact this
  have a3:k+D<k+C:=by have:=ao.length_eq;simp at this;omega
  have U:n.heap=wr.heap:=by obtain h|h:=am<;>rw[h]<;>rfl
  have bh:m≠r:=by intro e;subst e;cases d▸i
  have bf:b≠r:=by intro e;subst e;unfold Row at g;cases d▸g
  have bb:B<=r:=by have:=K.out;omega
  have az:Xc (λq=>q=b\/B<=q) w n:=by obtain h|h:=am<;>rw[h];exact p;exact p.drew
  have af:=dA j (λq _ _ _ _=>by rw[U]);have l:(Go.ChangeMaps.setBlock n r<|.mapIter (some m) o (u.push e.born) o).heap[r]?=some (.mapIter (some m) o (u.push e.born) o):=by simp[Go.ChangeMaps.setBlock,U];rw[Uf<|bO d]
  have s:(Go.ChangeMaps.setBlock n r<|.mapIter (some m) o (u.push e.born) o).heap[m]?=some (.map v o):=by simp[Go.ChangeMaps.setBlock,U];rw[mU<|gP bh];exact i
  have E:Row (Go.ChangeMaps.setBlock n r<|.mapIter (some m) o (u.push e.born) o) b 196 (vS++[.map<|some m]):=by unfold Row;simp[Go.ChangeMaps.setBlock,U];rw[mU<|gP bf];exact g
  have F:=az.CN r (.mapIter (some m) o (u.push e.born) o) λ_=>.inr bb;have M:(Go.ChangeMaps.setBlock n r<|.mapIter (some m) o (u.push e.born) o).ownsRow B 60 6 (A,k+D,Y) (k+D) (T++bJ D):=dA af (λq ax _ _ ah=>by simp[Go.ChangeMaps.setBlock];rw[mU];intro a;subst a;rw[U,d]at ah;cases ah)
  generalize Go.ChangeMaps.setBlock n r (.mapIter (some m) o (u.push e.born) o)=V at ac l s E F M;have aj:=run_entry_at (P:=Vp) V r m o u v o e l s R ad.2.1;rw[al]at ac aj;clear d i g p j az af al H G R am U ar J;unfold bL.v at ac aj;have z:Below V.heap.size V ((V.alloc<|.cells #[↑c.tx,↑c.idx,↑c.val,↑c.lock,↑c.aT,true] 60).alloc<|.cells #[↑c.tx,↑c.idx,↑c.val,↑c.lock,↑c.aT,true] 60):=(B0.alloc L9 _).alloc S8 _;have aa:=aX (V.alloc<|.cells #[↑c.tx,↑c.idx,↑c.val,↑c.lock,↑c.aT,true] 60) [↑c.tx,↑c.idx,↑c.val,↑c.lock,↑c.aT,true] 60;rw[cR]at aa;have a6:=aP M z;have B1:=cA a8<|cA F.size z.size;have N:∀aq∈[Value.string c.tx,↑c.idx,↑c.val,↑c.lock,↑c.aT,true],aq.oneCell'=true:=by intro aq au;simp[jO,tH,tI]at au;obtain rfl|rfl|rfl|rfl|rfl|rfl:=au<;>rfl
  replace N:=aK N;have a0:Hid (∀x,((V.alloc<|.cells #[↑c.tx,↑c.idx,↑c.val,↑c.lock,↑c.aT,true] 60).alloc<|.cells #[↑c.tx,↑c.idx,↑c.val,↑c.lock,↑c.aT,true] 60).grownBy x (Value.slice A (k+D) Y).ownBlock->x.heap[r]?=some (.mapIter (some m) o (u.push e.born) o)/\x.heap[m]?=some (.map v o)/\Row x b 196 (vS++[.map<|some m])/\Xc (λq=>q=b\/B<=q) w x):=by
   intro x ab;have I:∀q,(Value.slice A (k+D) Y).ownBlock=some q->B<=q/\q≠r:=λq π=>by have⟨ba,ax,ai⟩:=bS M π;refine⟨ba,λa=>?_⟩;subst a;cases l▸ai
   have Q:=λq(π:q<V.heap.size)(bj:(Value.slice A (k+D) Y).ownBlock≠some q)=>(ab.block q (fI π z.size) λa=>bj a.symm).trans<|z.block q π;refine⟨(Q r (bO l) λa=>(I r a).2 rfl).trans l,(Q m (bO s) λa=>by have:=(I m a).1;omega).trans s,?_,(F.then z).grown ab λq a _=>.inr (I q a).1⟩;exact(Q b E.lt λa=>by have:=(I b a).1;omega).trans E
  clear z l s E F M;go_wp2_with (refine Mj rfl _ _ rfl (A,k+D,Y) (k+D) (T++bJ D) E9 a6 (V.heap.size+1) 1 [↑c.tx,↑c.idx,↑c.val,↑c.lock,↑c.aT,true] rfl E9 aa N.out O9 B1 ?_;intro v2 x ag a7;have⟨b7,b6,bp⟩:=cX ag (k+D) rfl;subst bp);go_roundw;case rel=>have⟨l,s,E,F⟩:=a0.out _ a7;refine⟨D++[c],u.push e.born,ao,?_,l,s,E,F⟩;rw[O6,<-dP,cB];exact ag
  case measure=>simp[ajQ];omega
open Go.Sort
def acz(x w):Cv 149 #[.int .i64 x] w λe W=>e=.returned false/\W=w:=by go_enter fA func149,ntmps149;go_wp2;go_ret;exact⟨rfl,rfl⟩
def Sz(x y w):Cv 111 #[.int .i64 x,.int .i64 y] w λe W=>e=.returned (Lib.compareInt x y)/\W=w:=by go_enter fA func111,ntmps111;go_wp2_with (go_at_call 149;refine(acz _ _).m1 λW a=>?_;rw[a]);all_goals(go_ret;refine⟨?_,rfl⟩;unfold Lib.compareInt;(repeat' split)<;>first|rfl|(exfalso;omega))
def Mk(a b w):Cv 148 #[.string a,.string b] w λe W=>e=.returned (Lib.compareBytes a.data.toList b.data.toList)/\W=w:=by go_enter fA func148,ntmps148;go_wp2;rw[run_callFunc_extern (fA func186) K8 K8 K8 (e:=Extern.BytealgCompare.compare) K8,Lib.run_compareString];go_wp2;go_ret;exact⟨rfl,rfl⟩
def SA(a b w):Cv 110 #[.string a,.string b] w λe W=>e=.returned (Lib.compareBytes a.data.toList b.data.toList)/\W=w:=by go_enter fA func110,ntmps110;go_wp2_with (go_at_call 148;refine(Mk _ _ _).m0 ?_);go_ret;exact⟨rfl,rfl⟩
def aiq{g}(p q w)(h:Row w g 3 [.int .i64 p,.int .i64 q]):Cv 109 #[.slice g 2 2] w λe W=>e=.returned ↑(if p≠0 then p else q)/\W=w:=by
 have⟨C,o⟩:=h.p2;generalize j:(if p≠0 then p else q)=r;have f:p≠0->r=p:=λh=>by rw[<-j,aN h]
 have R:p=0->r=q:=λh=>by rw[<-j,aJ<|by simpa using h]
 clear j h;go_enter fA func109,ntmps109;go_wp2;go_loopw [8] (λi n=>∃k:Nat,k<=2/\i=↑k/\n=w/\(0<k->p=0)/\(1<k->q=0)) (λi _=>2 -(intOf i).toNat);exact⟨0,O9,rfl,rfl,O9,O9⟩;case round=>
  obtain⟨k,d,rfl,rfl,H,l⟩:=hrel;have c:k=0\/k=1\/k=2:=O9;obtain rfl|rfl|rfl:=c
  .by_cases a:p=0
   .go_wp2;go_roundw;case rel=>refine⟨1,O9,by go_num,?_⟩;simp[a]
    case measure=>simp[intOf]
   have:=f a;subst this;clear f R;go_wp2;go_ret;exact⟨rfl,rfl⟩
  .by_cases m:q=0
   .go_wp2;go_roundw;case rel=>refine⟨2,O9,by go_num,?_⟩;simp[m,H]
    case measure=>simp[intOf]
   have:=R<|H O9;subst this;clear f R H;go_wp2;go_ret;exact⟨rfl,rfl⟩
  have b:=R<|H O9;have E:=l O9;subst b;subst E;clear f R H l;go_wp2;go_ret;exact⟨rfl,rfl⟩
def Yx(x y:bL):Int:=if Lib.compareBytes x.tx.data.toList y.tx.data.toList≠0 then Lib.compareBytes x.tx.data.toList y.tx.data.toList else Lib.compareInt x.idx y.idx
def O8(x y W):Cv 108 #[x.v,y.v] W λe l=>e=.returned (Yx x y)/\∃q w,l=grow (W.drewN q) w:=by
 have⟨T,I,i,g,d⟩:=x;have⟨v,a,j,h,f⟩:=y;unfold Yx;simp only[bL.v];have c:=(aX W [T,I,i,g,d,true] 60).alloc<|.cells #[v,a,j,h,f,true] 60;have b:=aX (W.alloc<|.cells #[T,I,i,g,d,true] 60) [v,a,j,h,f,true] 60;rw[cR]at b;have o:Hid (∃O,(W.alloc<|.cells #[T,I,i,g,d,true] 60).alloc (.cells #[v,a,j,h,f,true] 60)=grow W O):=⟨_,by rw[alloc_eq_grow,alloc_eq_grow,grow_grow]⟩;have n:=aK λl=>SA T v l;have m:=aK λl=>Sz I a l;generalize Lib.compareBytes T.data.toList v.data.toList=p at n|-;generalize Lib.compareInt I a=r at m|-;have k:=λ(V:World)=>aiq p r _<|aX V.drew [p,r] 3;generalize(if p≠0 then p else r)=z at k|-;go_enter fA func108,ntmps108;go_wp2;generalize(W.alloc _).alloc _=V at c b o|-;have⟨C,A⟩:=c.p2;have⟨s,t⟩:=b.p2;have u:=aK<|k V;clear c b k;go_region_held3 (λl=>l.cell? ((W:Nat),0)=some ↑T/\l.cell? ((W:Nat),1)=some ↑I/\l.cell? ((W:Nat)+1,0)=some ↑v/\l.cell? ((W:Nat)+1,1)=some ↑a) (first|exact⟨C,A,s,t⟩|go_keep) (first
    |(go_at_call 110;refine(n.out _).m0 ?_)
    |(go_at_call 111;refine(m.out _).m0 ?_)
    |(go_at_call 109;refine u.out.m0 ?_))
 all_goals go_wp2
 all_goals go_ret
 all_goals obtain⟨O,rfl⟩:=o.out;exact⟨rfl,1,O++#[.cells #[p,r] 3],by rw[alloc_eq_grow,grow_grow];rfl⟩
def xR:∀a b,Lib.compareBytes a b=0↔a=b
 |[],[]=>by simp[Lib.compareBytes]
 |[],_::_=>by simp[Lib.compareBytes]
 |_::_,[]=>by simp[Lib.compareBytes]
 |a::f,b::g=>by
   unfold Lib.compareBytes;split;rename_i h;have:a≠b:=λe=>by subst e;exact UInt8.lt_irrefl _ h
   simp[this];split;rename_i h;have:a≠b:=λe=>by subst e;exact UInt8.lt_irrefl _ h
   simp[this];rename_i c H;have:a=b:=by apply UInt8.toNat_inj.1;rw[aaq]at c H;omega
   simp[this,(xR f g)]
def acC:∀a b,Lib.compareBytes b a=-Lib.compareBytes a b
 |[],[]=>by simp[Lib.compareBytes]
 |[],_::_=>by simp[Lib.compareBytes]
 |_::_,[]=>by simp[Lib.compareBytes]
 |a::e,b::f=>by
   unfold Lib.compareBytes;by_cases c:a<b;have h:¬b<a:=by rw[aaq]at c|-;omega
   simp[c,h];by_cases h:b<a;simp[c,h];simp[c,h,(acC e f)]
def Pe:∀a b c,Lib.compareBytes a b<0->Lib.compareBytes b c<0->Lib.compareBytes a c<0
 |[],b,[],d,H=>by cases b<;>simp[Lib.compareBytes]at d H
 |[],b,_::_,_,_=>by simp[Lib.compareBytes]
 |_::_,[],c,d,_=>by simp[Lib.compareBytes]at d
 |_::_,_::_,[],_,H=>by simp[Lib.compareBytes]at H
 |a::f,b::g,c::h,d,H=>by unfold Lib.compareBytes at*;simp[aaq]at*;split at d;split at H;rw[aN O9];omega;split at H;omega;rw[aN O9];omega;split at d;omega;split at H;rw[aN O9];omega;split at H;omega;rw[aJ O9,aJ O9];exact(Pe f g h) d H
def wh(p q:Pt):Int:=if Lib.compareBytes p.1.data.toList q.1.data.toList≠0 then Lib.compareBytes p.1.data.toList q.1.data.toList else Lib.compareInt p.2 q.2
def afq(x y):Lib.compareInt x y=0↔x=y:=by unfold Lib.compareInt;(repeat' split)<;>omega
def air(x y):Lib.compareInt y x=-Lib.compareInt x y:=by unfold Lib.compareInt;(repeat' split)<;>omega
def ahu(x y):Lib.compareInt x y<0↔x<y:=by unfold Lib.compareInt;(repeat' split)<;>omega
def xS(p q):wh p q=0↔p=q:=by
 unfold wh;by_cases h:Lib.compareBytes p.1.data.toList q.1.data.toList=0;rw[aJ (by simpa using h),afq];have:=(xR _ _).1 h;constructor;intro e;exact Ni (by
  have a:p.1.data=q.1.data:=by apply Ul;exact this
  cases b:p.1;cases H:q.1;rw[b,H]at a;simp at a;rw[a]) e
 intro e;rw[e];rw[aN h];constructor;intro e;exact absurd e h;intro e;exact absurd ((xR _ _).2<|by rw[e]) h
def Bn(p q):wh q p=-wh p q:=by unfold wh;rw[acC p.1.data.toList q.1.data.toList,air p.2 q.2];by_cases h:Lib.compareBytes p.1.data.toList q.1.data.toList=0;simp[h];rw[aN h,aN O9]
def GR{p q r}(b:wh p q<0)(h:wh q r<0):wh p r<0:=by unfold wh at*;by_cases a:Lib.compareBytes p.1.data.toList q.1.data.toList=0;rw[aJ<|by simpa using a]at b;have:=(xR _ _).1 a;rw[this];by_cases e:Lib.compareBytes q.1.data.toList r.1.data.toList=0;rw[aJ<|by simpa using e]at h;rw[aJ<|by simpa using e];rw[ahu]at*;omega;rw[aN e]at h|-;exact h;rw[aN a]at b;by_cases e:Lib.compareBytes q.1.data.toList r.1.data.toList=0;have:=(xR _ _).1 e;rw[<-this,aN a];exact b;rw[aN e]at h;have:=Pe _ _ _ b h;rw[aN O9];exact this
def ltC(x y):ltOf Yx x y=true↔wh x.pt y.pt<0:=decide_eq_true_iff
def SB(x y):ltOf Yx x y=false↔¬wh x.pt y.pt<0:=UB
def akK:SWO (ltOf Yx) where
 irrefl x:=by rw[SB,(xS _ _).2 rfl];omega
 trans x y z h1 h2:=by rw[ltC]at*;exact GR h1 h2
 ntrans x y z h1 h2:=by
  rw[SB]at*;intro h;rcases Int.lt_trichotomy (wh y.pt z.pt) 0 with h3|h3|h3;exact h2 h3;rw[(xS _ _).1 h3]at h1;exact h1 h;have:wh z.pt y.pt<0:=by rw[Bn];omega
  exact h1<|GR h this
end Go.Proofs.aH
namespace Go.Proofs
open Go.Shelf
def aI.Bl:Go.Shelf.Ren:=⟨fun|6=>107|15=>147|14=>146|28=>184|29=>185|20=>176|21=>177|22=>178|23=>179|24=>180|25=>181|26=>182|27=>183|46=>209|47=>210|48=>211|49=>212|50=>213|57=>225|n=>n,fun|22=>53|24=>60|25=>218|3=>3|39=>254|0=>0|53=>111|55=>83|4=>4|46=>279|45=>278|50=>283|5=>5|9=>9|66=>307|70=>311|76=>327|77=>287|n=>n,λn=>n⟩
def S7{p:Prop}(h:p:=by simp[aI.Bl]):p:=h
def aI.acA:SlLaysF0.n6 Vp aI.Bl where
 mixed:=by kernel_rfl
 f6:=⟨Tryz.f107.name,by decide,fA<|Tryz.func107.trans (congrArg some<|by kernel_rfl)⟩;f14:=⟨Tryz.f146.name,by decide,fA<|Tryz.func146.trans (congrArg some<|by kernel_rfl)⟩;f15:=fA<|Tryz.func147.trans (congrArg some<|by kernel_rfl);f20:=⟨Tryz.f176.name,by decide,fA<|Tryz.func176.trans (congrArg some<|by kernel_rfl)⟩;f21:=⟨Tryz.f177.name,by decide,fA<|Tryz.func177.trans (congrArg some<|by kernel_rfl)⟩;f22:=⟨Tryz.f178.name,by decide,fA<|Tryz.func178.trans (congrArg some<|by kernel_rfl)⟩;f23:=⟨Tryz.f179.name,by decide,fA<|Tryz.func179.trans (congrArg some<|by kernel_rfl)⟩;f24:=⟨Tryz.f180.name,by decide,fA<|Tryz.func180.trans (congrArg some<|by kernel_rfl)⟩;f25:=⟨Tryz.f181.name,by decide,fA<|Tryz.func181.trans (congrArg some<|by kernel_rfl)⟩;f26:=⟨Tryz.f182.name,by decide,fA<|Tryz.func182.trans (congrArg some<|by kernel_rfl)⟩;f27:=⟨Tryz.f183.name,by decide,fA<|Tryz.func183.trans (congrArg some<|by kernel_rfl)⟩;f28:=fA<|Tryz.func184.trans (congrArg some<|by kernel_rfl);f29:=fA<|Tryz.func185.trans (congrArg some<|by kernel_rfl);f46:=⟨Tryz.f209.name,by decide,fA<|Tryz.func209.trans (congrArg some<|by kernel_rfl)⟩;f47:=fA<|Tryz.func210.trans (congrArg some<|by kernel_rfl);f48:=fA<|Tryz.func211.trans (congrArg some<|by kernel_rfl);f49:=⟨Tryz.f212.name,by decide,fA<|Tryz.func212.trans (congrArg some<|by kernel_rfl)⟩;f50:=⟨Tryz.f213.name,by decide,fA<|Tryz.func213.trans (congrArg some<|by kernel_rfl)⟩;f57:=⟨Tryz.f225.name,by decide,fA<|Tryz.func225.trans (congrArg some<|by kernel_rfl)⟩;t0:=S7;a0:=S7;z0:=S7;v0:=S7;t3:=S7;a3:=S7;z3:=S7;v3:=S7;t4:=S7;a4:=S7;z4:=S7;v4:=S7;t5:=S7;a5:=S7;z5:=S7;v5:=S7;t9:=S7;a9:=S7;z9:=S7;v9:=S7;t22:=S7;a22:=S7;z22:=S7;v22:=S7;t25:=S7;a25:=S7;z25:=S7;v25:=S7;t39:=S7;a39:=S7;z39:=S7;v39:=S7;t45:=S7;a45:=S7;z45:=S7;v45:=S7;t46:=S7;a46:=S7;z46:=S7;v46:=S7;t50:=S7;a50:=S7;z50:=S7;v50:=S7;t53:=S7;a53:=S7;z53:=S7;v53:=S7;t55:=S7;a55:=S7;z55:=S7;v55:=S7;t66:=S7;a66:=S7;z66:=S7;v66:=S7;t70:=S7;a70:=S7;z70:=S7;v70:=S7;t76:=S7;a76:=S7;z76:=S7;v76:=S7;t77:=S7;a77:=S7;z77:=S7;v77:=S7
end Go.Proofs
namespace Go.Proofs.aH
open Go.RowKit Go.Sort
instance:Inhabited bL:=⟨⟨⟨#[]⟩,0,0,⟨#[]⟩,0⟩⟩
def sW(c:bL):List Value:=jo<|some c
def xd(c):(sW c).length=6:=rfl
def uY:∀l t,t<l.length*6->(bJ l)[t]?=some ((sW l[t/6]!)[t%6]!)
 |[],t,h=>by simp at h
 |c::l,t,h=>by
   have e:bJ (c::l)=sW c++bJ l:=by simp[bJ,sW]
   rw[e];by_cases a:t<6;rw[ko (by rw[xd];exact a),Nat.div_eq_of_lt a,Ng a];have:t<(sW c):=by rw[xd];exact a
   simp[this];rw[cZ (by rw[xd];omega),xd,uY l (t -6)<|by simp at h;omega];have b:t/6=(t -6)/6+1:=O9;have E:t%6=(t -6)%6:=O9;rw[b,E];rfl
def afr(d):(flatK sW 6 d).toList=bJ d.toList:=by
 apply kX;intro t;by_cases a:t<d.size*6;rw[uY d.toList t<|by simpa using a];have:=get_flatK sW 6 d t a;rw[Jb,qs<|by simpa using a];rw[aar _ t<|by simpa using a]at this;rw[this];have e:d.toList[t/6]! =d[t/6]!:=by simp[aas,ag2,I8]
 rw[e];rw[kD (by simp;omega),kD<|by rw[mO];simp;omega]
def YA{B g C w E}(h:w.ownsRow B 60 6 (.slice g E.length C) E.length (bJ E)):HoldsK sW 6 w g 0 E.toArray:=by
 intro j b;rw[size_flatK]at b;have d:(flatK sW 6 E.toArray)[j]! =(sW E[j/6]!)[j%6]!:=by rw[get_flatK _ _ _ _ b];congr 2;simp[aas,ag2,I8]
 have c:=h.cells (g:=g) rfl j _ (uY E j<|by simpa using b);rw[add0]at c;rw[mj,d];refine⟨c,?_⟩;obtain⟨a,_⟩|⟨G,i,k,a,_,f,_⟩:=h.2;cases a;simp[UD,gV,Un]at a;obtain⟨⟨rfl,_⟩,_⟩:=a;simp[World.frozen?,f]
def J9{g n k w d o}(a:k<↑w):(sortWorldK sW 6 w g 0 n d o).heap[k]?=if g=k then(w.heap[k]?).map (onCells (putCells id 0<|flatK sW 6 d))else w.heap[k]?:=by show((w.heap.modify g<|onCells (putCells id 0<|flatK sW 6 d))++o)[k]?=_;rw[aac (by simpa using a),Jd]
def afs{g n w d o}:Xc (λk=>k=g) w (sortWorldK sW 6 w g 0 n d o):=by refine⟨rfl,rfl,rfl,?_,λk a b=>?_⟩;show _<=((w.heap.modify g<|onCells (putCells id 0<|flatK sW 6 d))++o).size;simp;rw[J9 a,aJ λe=>b e.symm]
def SC{B g C n w E d O}(h:w.ownsRow B 60 6 (.slice g E.length C) E.length (bJ E))(a:d.size=E.length):(sortWorldK sW 6 w g 0 n d O).ownsRow B 60 6 (.slice g E.length C) E.length (bJ d.toList):=by
 refine⟨by rw[mO];simp[a],.inr ?_⟩;obtain⟨c,_⟩|⟨G,o,r,c,k,i,e,H,f,p⟩:=h.2;cases c;simp[UD,gV,Un]at c;obtain⟨⟨rfl,_⟩,_,rfl⟩:=c;refine⟨g,C,putCells id 0 (flatK sW 6 d) r,rfl,k,?_,e,H,by simp[putCells,f],?_⟩;rw[J9<|(eD.1 i).1,aN rfl,i];rfl;rw[<-afr];apply kX;intro j;by_cases b:j<E*6;have q:j<(flatK sW 6 d).size:=by rw[size_flatK,a];exact b
 rw[Du b,Jb,Jb];simp[putCells,(f▸fI b (UE 6 e)),a,b];rw[kD (by simp;omega),kD<|by simp[a];omega]
open Tryz
def kz(D:List bL):Prop:=∀(i j:Nat)(x y:bL),i<j->D[i]?=some x->D[j]?=some y->¬wh y.pt x.pt<0
theorem kz.lt{D}(h:kz D)(n:(D.map bL.pt).Nodup){i j:Nat}{x y}(a:i<j)(b:D[i]?=some x)(c:D[j]?=some y):wh x.pt y.pt<0:=by
 have d:=h i j x y a b c;have H:x.pt≠y.pt:=λe=>by
  have f:(D.map bL.pt)[i]?=some x.pt:=by rw[eG,b];rfl
  have g:(D.map bL.pt)[j]?=some x.pt:=by rw[eG,c,e];rfl
  have⟨p,k⟩:=bK.1 f;have⟨l,m⟩:=bK.1 g;exact aat.1 n i j p l a<|k.trans m.symm
 have o:wh x.pt y.pt≠0:=λe=>H<|(xS _ _).1 e;rw[Bn x.pt y.pt]at d;omega
def YB{B g C}(E w)(h:w.ownsRow B 60 6 (g,E,C) E.length (bJ E))(H:E.length<=100000):Cv 107 #[.slice (some ⟨g,0,none⟩) E.length C,.func (.func 108) #[] #[]] w λe W=>e=.returned (.tuple #[])/\∃D,D.Perm E/\kz D/\W.ownsRow B 60 6 (g,E,C) E.length (bJ D)/\Xc (λk=>k=g) w W:=by
 have b:=AnyQ.slices_SortFunc aI.acA 6 (λw=>S7) (λw=>S7) sW xd (λx v o=>by simp[sW,jo]at o;obtain rfl|rfl|rfl|rfl|rfl|rfl:=o<;>rfl) Yx akK 108 #[] g 0 C E.toArray w (enters_of (fA func108) K8 rfl) (λ_ _ _ _ x y=>O8 x y _) (YA h) ((nD h g rfl).2) (by simp;omega);change Cv 107 _ _ _ at b;rw[I9]at b;refine b.mono ?_;rintro e W⟨rfl,d,n,O,m,z,rfl⟩;have a:d.size=E:=by have:=m.1;simpa using this
 have u:d.toList.Perm E:=by
  have:=m.2.2;have q:(d.extract 0 E).toList=d.toList:=by rw[<-a];simp
  rw[q]at this;simpa using this
 refine⟨rfl,d.toList,u,λi j x y t p c=>?_,SC h a,afs⟩;have l:j<d.size:=by have:=(bK.1 c).1;simpa using this
 have f:=z i j (cH _) t<|a▸l;rw[SB]at f;have A:d[i]! =x:=by rw[Jb]at p;rw[aar d i O9];exact(eD.1 p).2
 have r:d[j]! =y:=by rw[Jb]at c;rw[aar d j l];exact(eD.1 c).2
 rwa [A,r]at f
def Pb{g i:Type}[DecidableEq i](f:g->i):∀(l:List g),(l.map f).Nodup->∀e∈l,l.Perm (e::l.filter λx=>decide (f x≠f e))
 |[],_,_,h=>by cases h
 |x::l,a,e,h=>by
   simp only[gJ,Nr]at a;obtain rfl|h:=jO.1 h;rw[Fp S8,aan.2 λy d=>by have:f y≠f e:=λb=>a.1<|b▸tN (f:=f) d;simpa using this]
   have c:f x≠f e:=λb=>a.1<|b▸tN (f:=f) h;rw[Jg<|by simpa using c];exact((Pb f l a.2 e h).cons x).trans<|List.Perm.swap _ _ _
structure fJ(K:jH)(C:List bL):Prop where
 nd:(C.map bL.pt).Nodup
 mem:∀c,c∈C->K c.pt=some c
 all:∀p c,K p=some c->c∈C/\c.pt=p
def Pd(C:List bL):Int:=(C.map bL.val).sum
def Yy(c C):Pd (c::C)=c.val+Pd C:=by simp[Pd]
def Yz{C D}(h:C.Perm D):Pd C=Pd D:=by unfold Pd;induction h with
 |nil=>rfl
 |cons x _ b=>simp[b]
 |swap x y l=>simp;omega
 |trans _ _ a H=>exact a.trans H
theorem fJ.take{K C p c}(h:fJ K C)(i:K p=some c):∃D,fJ (K.take p) D/\Pd C=c.val+Pd D/\D<=C.length:=by
 have⟨j,b⟩:=h.all p c i;refine⟨C.filter λx=>decide (x.pt≠c.pt),⟨?_,λd g=>?_,λq d H=>?_⟩,?_⟩;exact List.Nodup.sublist (List.Sublist.map _ Uo) h.nd;have a:=Ff.1 g;have:d.pt≠p:=by rw[<-b];simpa using a.2
 unfold jH.take;rw[aJ this];exact h.mem d a.1;unfold jH.take at H;by_cases e:q=p;rw[aN e]at H;cases H;rw[aJ e]at H;have⟨f,k⟩:=h.all q d H;exact⟨Ff.2 ⟨f,by rw[k,b];simpa using e⟩,k⟩;exact⟨by rw[Yz<|Pb bL.pt C h.nd c j,Yy],Nl _ _⟩
theorem fJ.put{K C c}(h:fJ K C)(g:K c.pt=none):fJ (K.put c) (c::C):=by
 have b:∀d∈C,d.pt≠c.pt:=λd a e=>by have:=h.mem d a;rw[e,g]at this;cases this
 refine⟨?_,λd a=>?_,λq d H=>?_⟩;rw[gJ,Nr];exact⟨λi=>have⟨d,a,e⟩:=gB.1 i;b d a e,h.nd⟩;unfold jH.put;obtain rfl|a:=jO.1 a;rw[aN rfl];rw[aJ<|b d a];exact h.mem d a;unfold jH.put at H;by_cases e:q=c.pt;rw[aN e]at H;cases H;exact⟨List.mem_cons_self,e.symm⟩;rw[aJ e]at H;have⟨f,j⟩:=h.all q d H;exact⟨Fa _ f,j⟩
open Go.CM (jI yw)
attribute [local go_sem↓] Go.wp_at_zero Go.wp_at_succ
def aft(w):Cv 185 #[aC] w λe W=>e=.returned ↑aA/\W=w:=by go_enter fA func185,ntmps185;go_wp2;go_ret;exact⟨K8,rfl⟩
def ajR(w):Cv 147 #[aC] w λe W=>e=.returned ↑aA/\W=w:=by go_enter fA func147,ntmps147;go_wp2_with (go_at_call 185;refine(aft _).mono ?_;rintro e W⟨rfl,rfl⟩);go_ret;exact⟨rfl,rfl⟩
def Pf(v f w):Cv 176 #[v,aA,aA,f] w λe W=>e=.returned (.tuple #[])/\W=w:=by go_enter fA func176,ntmps176;go_wp2;go_loopw [8] (λi a=>i=↑aG/\a=w) (λ_ _=>0);exact⟨rfl,rfl⟩;case round=>obtain⟨rfl,rfl⟩:=hrel;go_wp2;go_end0;exact⟨rfl,rfl⟩
def ajS(v f w):Cv 146 #[v,aA,aA,aA,f] w λe W=>e=.returned (.tuple #[])/\W=w:=by go_enter fA func146,ntmps146;go_wp2;go_loopw [1,2,3] (λa b l c=>a=↑aA/\b=↑aA/\l=↑aA/\c=w) (λ_ _ _ _=>0);exact⟨rfl,rfl,rfl,rfl⟩;case round=>obtain⟨rfl,rfl,rfl,rfl⟩:=hrel;go_wp2_with (go_at_call 176;refine(Pf _ _ _).mono ?_;rintro e W⟨rfl,rfl⟩);exact cY (v:=.tuple #[]) (Ns rfl _ _ _) rfl ⟨rfl,rfl⟩
def ais(a c f w):Cv 107 #[.slice a 0 c,f] w λe W=>e=.returned (.tuple #[])/\W=w:=by go_enter fA func107,ntmps107;go_wp2_with (first|(go_at_call 147;refine(ajR _).mono ?_;rintro e W⟨rfl,rfl⟩)|(go_at_call 146;refine(ajS _ _ _).mono ?_;rintro e W⟨rfl,rfl⟩));go_end0;exact⟨rfl,rfl⟩
def Ka(f:bL->Nat)(k):∀C:List bL,(C.filter λc=>decide (f c<k+1)).Perm (C.filter (λc=>decide (f c<k))++C.filter (λc=>decide (f c=k)))
 |[]=>.nil
 |c::C=>by have b:=Ka f k C;by_cases a:f c<k;rw[Jg (by simp;omega),Jg (by simpa using a),Fp<|by simp;omega];exact b.cons c;by_cases h:f c=k;rw[Jg (by simp;omega),Fp (by simpa using a),Jg<|by simpa using h];exact(b.cons c).trans List.perm_middle.symm;rw[Fp (by simp;omega),Fp (by simpa using a),Fp<|by simpa using h];exact b
theorem Xc.at_{B w d}(h:Xc (λq=>B<=q) w d)(W)(c:B=W.heap.size)(a:Below B W w):Below B W d:=⟨h.os.trans a.os,h.tape.trans a.tape,h.output.trans a.output,cA a.size h.size,λk b=>(h.block k (by have:=a.size;omega) O9).trans<|a.block k b⟩
def CO{B}{w:World}{e s n c a f}(h:w.ownsRow B e s (.slice a n c) n f)(d:n≠0):∃g,a=some ⟨g,0,none⟩:=by obtain⟨_,H⟩|⟨g,C,i,b,_⟩:=h.2;exact absurd H d;simp[UD]at b;exact⟨g,b.1⟩
def YC{w m n i K C}(h:fR w m n i K)(b:fJ K C):∃D:List bL,jI afp w m (D.map qY)/\D.Perm (C.filter λc=>decide (sX n c.pt=i)):=by
 have⟨D,g,f,H⟩:=h;refine⟨D,g,?_⟩;have k:(D.map bL.pt).Nodup:=by have d:=g.keys;rw[pQ]at d;have e:(Prod.fst∘qY)=wA∘bL.pt:=rfl;rw[e,<-pQ]at d;exact(UF.1 d).imp λh e=>h<|congrArg _ e
 have j:∀{l:List bL},(l.map bL.pt).Nodup->l.Nodup:=λo=>(UF.1 o).imp λh e=>h<|congrArg _ e;rw[ag3 (j k)<|(j b.nd).sublist Uo];intro c;rw[Ff];exact⟨λa=>⟨(b.all _ c (f c a).1).1,by simpa using(f c a).2⟩,λa=>H _ c (b.mem c a.1)<|by simpa using a.2⟩
def afu{gs n sb π K}(C w)(h:aR w gs n sb π K)(H:fJ K C)(X:C.length<=100000):Cv 57 #[.agg #[(gs,n,n)]] w λe y=>∃v D,D.Perm C/\kz D/\e=.returned v/\y.ownsRow w 60 6 v D (bJ D)/\Below w w y:=by
 have af:=h.hi;go_enter fA func57,ntmps57;go_wp2;go_loopw [3,9] (λl i wr=>∃(k:Nat)(E:List bL),k<=n/\i=↑k/\Below w w wr/\E.Perm (C.filter λc=>decide (sX n c.pt<k))/\wr.ownsRow ↑w 60 6 l E.length (bJ E)) (λ_ i _=>n -(intOf i).toNat);exact⟨0,[],cH _,rfl,(B0.alloc L9 _),S8,mV _ _ _ _⟩;case round=>
  obtain⟨k,E,aa,rfl,m,d,a⟩:=hrel;by_cases o:k<n
  .have ab:(0:Int)<=(k:Int):=O9;have ae:(k:Int)<(n:Int):=O9;have p:=h.keep m;have q0:wr.cell? (gs,k)=some (.pointer (sb k,0)):=by rw[p.arr.cell];simp[o,ptr]
   have A:=p.sh k o;have⟨D,u,b⟩:=YC (p.mp k o) H;have r:=Ka (λc=>sX n c.pt) k C;have ah:E.length+D.length<=C.length:=by have ad:=d.length_eq;have h2:=b.length_eq;have G:=r.length_eq;have ag:=Nl (λc:bL=>decide (sX n c.pt<k+1)) C;rw[cB]at G;omega
   have Q:=(h.sh k o).lt;have O:=(h.mp k o).lt;have t:=aK<|Mi D wr A u a Q O m.size O9;unfold ptr at t;change Hid _ at d b r;obtain⟨Y,U,rfl⟩:=aS a;clear A u p a;go_wp2;refine t.out.mono ?_;rintro e w1⟨v,j,z,rfl,s,V⟩;have⟨ac,c1,S⟩:=aS s;subst S;go_wp2;go_roundw;case rel=>
    refine⟨k+1,E++j,O9,by go_num,V.at_ w rfl m,?_,?_⟩;refine List.Perm.trans ?_ r.out.symm;exact d.out.append<|z.trans b.out;have F:bJ (E++j)=bJ E++bJ j:=by simp[bJ]
    rw[F,cB,z.length_eq];exact s
   case measure=>simp[intOf];omega
  have M:k=n:=O9;subst M;have f:E.Perm C:=by refine d.trans ?_;rw[aan.2 λc _=>by simpa using Bo k c.pt h.lo]
  obtain⟨Y,U,rfl⟩:=aS a;by_cases x:E.length=0;.have B:=List.length_eq_zero_iff.1 x;subst B;go_wp2;refine(ais _ _ _ _).m0 ?_;go_wp2;go_ret;exact⟨_,[],f,λi ai aj ak _ T=>by simp at T,rfl,a,m⟩
  obtain⟨g,rfl⟩:=CO a x;have P:=aK (YB E wr a<|f.length_eq▸X);have L:=(nD a g rfl).1;change Hid _ at f d;clear a;go_wp2;refine P.out.mono ?_;rintro e w2⟨rfl,D,b,R,I,W⟩;go_wp2;go_ret;exact⟨_,D,b.trans f.out,R,rfl,b.length_eq▸I,(W.mono (S':=λq=>(w:Nat)<=q) λk e=>e▸L).at_ w rfl m⟩
def YD{n c a}(C w)(h:xe w n c a)(x:fJ a.K C)(N:C.length<=100000):Cv 23 #[ptr n] w λe K=>∃v D,D.Perm C/\kz D/\e=.returned v/\K.ownsRow w 60 6 v D (bJ D)/\Below w w K:=by
 have⟨s,i⟩:=h;have r:=i.row;have L:=r.lt;unfold ptr;go_enter_defers fA func23,ntmps23;go_wp2;refine(zx w i.row).mono ?_;rintro e W⟨rfl,q,o⟩;have⟨j,u⟩:=i.rlock q o;have G:Xc (λk=>k=n\/False) w W:=u.mono λk e=>.inl e;have d:(W:Nat)=(w:Nat):=by rw[o];simp[World.setCell,Fj]
 have R:W.cell? (n,13)=some (.slice s.gs s.n s.n):=by rw[j.nd.mem.row.cell];rfl
 have g:=afu C W j.dL x N;rw[d]at g;have g:=aK g;have d:=aK d;clear o u q;go_wp2;refine g.out.mono ?_;rintro e O⟨v,D,y,A,rfl,p,b⟩;have m:=j.row.keep (b.mono<|pK d.out) (by have:=d.out;omega);have⟨J,I,B⟩:=aS p;subst B;have E:=G.trans (S':=λ_=>False) ⟨b.os,b.tape,b.output,b.size,λk H _=>b.block k<|by have:=d.out;omega⟩ λ_ _ e=>e.elim;go_wp2;refine rO (f:=44) (args:=#[.pointer n]) S8 (by simp[go_sem]) ?_;refine(qZ .returning _ m).mono ?_;rintro e M P⟨rfl,rfl,z,t⟩;have F:Xc (λk=>k=n\/False) w P:=by rw[t];exact E.setCell _ _ λ_=>.inl rfl
 refine⟨_,results_tmp rfl _ _ _,_,D,y,A,rfl,?_,(J8 F r z).low⟩;rw[t];refine dA p λk Q _ _ l=>(cI O (n,4) _).block k (bO l) λe=>?_;simp[gV]at e;subst e;unfold Row at m;cases m▸l
def acR(a b w):(Op.equalIn 10000 37 (.agg #[.int .i64 a,.int .i64 b])<|.agg #[a,b]).run Vp w=.ok true w:=by simp[go_sem]
def acS(s a b w):(Op.equalIn 10000 55 (.agg #[.string s,.int .i64 a,.int .i64 b])<|.agg #[s,a,b]).run Vp w=.ok true w:=by simp[go_sem]
def pW{B}{w:World}{v D k x}(h:w.ownsRow B 60 6 v D.length (bJ D))(e:D[k]?=some x):∃g c,v=.slice (some ⟨g,0,none⟩) D c/\g<w/\w.cell? (g,k*6)=some x.tx/\w.cell? (g,k*6+1)=some x.idx/\w.cell? (g,k*6+2)=some x.val/\w.cell? (g,k*6+3)=some x.lock/\w.cell? (g,k*6+4)=some x.aT/\w.cell? (g,k*6+5)=some ↑aD:=by
 have m:=(bK.1 e).1;have a:=λg(b:v.ownBlock=some g)=>h.cells (g:=g) b;obtain⟨_,H⟩|⟨g,C,o,rfl,i,b,_⟩:=h.2;omega;have q:∀j,j<6->w.cell? (g,k*6+j)=some ((sW x)[j]!):=λj l=>by
  have d:=uY D (k*6+j) O9;have f:(k*6+j)/6=k:=O9;have E:(k*6+j)%6=j:=O9;have n:D[k]! =x:=by rw[aas,e];rfl
  rw[f,E,n]at d;have:=(a g rfl) _ _ d;rwa [add0]at this
 exact⟨g,C,rfl,bO b,q 0 O9,q 1 O9,q 2 O9,q 3 O9,q 4 O9,q 5 O9⟩
def Bp(n:Nat):List Value:=(madeCells #[aB,aA,aA,aB,aA,false] (n*6)).toList
def acD(n):(Bp n)=n*6:=by unfold Bp;rw[Array.length_toList,size_madeCells]
def qj(l:List Pt):List Value:=l.flatMap λp=>[.string p.1,.int .i64 p.2]
def Bq:∀l i p,l[i]?=some p->(qj l)[i*2]?=some p.1/\(qj l)[i*2+1]?=some (.int .i64 p.2)
 |[],i,x,h=>by simp at h
 |y::l,0,x,h=>by simp at h;subst h;exact⟨rfl,rfl⟩
 |y::l,i+1,x,h=>by have:=Bq l i x (by simpa using h);have e:qj (y::l)=[.string y.1,.int .i64 y.2]++qj l:=rfl;rw[e];simp only[show(i+1)*2=2+i*2 from by omega,show 2+i*2+1=2+(i*2+1)from by omega];rw[cZ S8,cZ S8];simpa using this
def pq(o):∃s S a b d e,vT o=.agg #[.string s,.int .i64 S,.int .i64 a,.string b,.int .i64 d,.bool e]/\jo o=[.string s,.int .i64 S,.int .i64 a,.string b,.int .i64 d,.bool e]:=by obtain _|c:=o;exact⟨_,_,_,_,_,_,rfl,rfl⟩;exact⟨_,_,_,_,_,_,rfl,rfl⟩
def looked(K:jH)(l:List Pt):List Value:=l.flatMap λp=>jo<|K p
def zy(K l):(looked K l)=l.length*6:=by induction l with
 |nil=>rfl
 |cons p l i=>have e:looked K (p::l)=jo (K p)++looked K l:=rfl;have⟨_,_,_,_,_,_,_,h⟩:=pq<|K p;rw[e,h];simp;omega
def ahv(Q:Exit->Act->World->Prop):Exit->Act->World->Prop
 |.normal,a,w=>Q .normal a w
 |_,_,_=>False
def s6W(w:World)(g o:Nat)(v V a b c d:Value):World:=(((((w.setCell ⟨g,o,none⟩ v).setCell ⟨g,o+1,none⟩ V).setCell ⟨g,o+2,none⟩ a).setCell ⟨g,o+3,none⟩ b).setCell ⟨g,o+4,none⟩ c).setCell ⟨g,o+5,none⟩ d
def ahw{S w W}(h:Xc S w W)(g o v V a b c d)(H:g<↑w->S g):Xc S w (s6W W g o v V a b c d):=(((((h.setCell (g,o) v H).setCell (g,o+1) V H).setCell (g,o+2) a H).setCell (g,o+3) b H).setCell (g,o+4) c H).setCell (g,o+5) d H
def GU{w g t A r x X f i j k}(h:Row w g t (A++x::X::f::i::j::k::r))(v V a b c d):Row (s6W w g A.length v V a b c d) g t (A++v::V::a::b::c::d::r):=by
 have H:=(((((h.set A v).set (A+1) V).set (A+2) a).set (A+3) b).set (A+4) c).set (A+5) d;have e:((((((A++x::X::f::i::j::k::r).set A v).set (A+1) V).set (A+2) a).set (A+3) b).set (A+4) c).set (A+5) d=A++v::V::a::b::c::d::r:=by simp
 rw[e]at H;exact H
def ajT{w g o n mb t C}(r:Row w g t C)(v V a b c d):Tk 0 (λu=>u=t) n mb w (s6W w g o v V a b c d):=have z:=cH g;(mP r v z).trans ((mP (r.set o v) V z).trans ((mP ((r.set o v).set (o+1) V) a z).trans<|(mP (((r.set o v).set (o+1) V).set (o+2) a) b z).trans ((mP ((((r.set o v).set (o+1) V).set (o+2) a).set (o+3) b) c z).trans<|mP (((((r.set o v).set (o+1) V).set (o+2) a).set (o+3) b).set (o+4) c) d z)))
def YE{P}{c:Code}{Q a w}(h:c.wp P (ahv Q) a w):c.wp P Q a w:=Code.wp_mono (λe _ _ H=>by cases e with
  |normal=>exact H
  |_=>exact H.elim) h
def Ml(n:Nat)(h:n<=1000000)(w):(Instr.makeSlice 53 (n:Int) (n:Int)).run Vp w=.ok (.slice (w:Nat) n n) (w.alloc<|.cells (Bp n).toArray 60):=by have⟨i,H,a,b,c⟩:=info_parts Pg;have:=wC (P:=Vp) w 53 60 i _ aI.underlying53 H a .i64 .i64 (n:Int) (n:Int) O9 (lC _) (by rw[c];omega) O9;rw[this,b];simp[Bp,Value.cells]
def afv{N gl cl sp c a}(l w)(ax:xe w N c a)(X:Row w gl 48 (qj l++sp))(hp:∀p∈l,sJ p)(hl:l.length<=1000000):Cv 14 #[ptr N,.slice gl l cl] w λe W=>∃g,e=.returned (.tuple #[.slice (some ⟨g,0,none⟩) l l,a.nP])/\w<=g/\Row W g 60 (looked a.K l)/\Below w w W:=by
 have⟨s,A⟩:=ax;have π:=A.row;have R:=aX w [aB,aA,aA] 55;have J:=Ba w<|.cells #[aB,aA,aA] 55;have M:=π.lt;have a6:=X.lt;have aw:=X.ne π D9;unfold ptr;go_enter_defers fA func14,ntmps14;go_wp2;have A:=A.keep J;generalize w.alloc _=ar at R J A|-;refine(zx ar A.row).mono ?_;rintro e E⟨rfl,al,an⟩;have⟨H,x2⟩:=A.rlock al an;have x:Xc (λk=>k=N\/False) w E:=(jS J).trans x2 λk _ e=>.inl e;have R:=R.xc x2 (λe=>by omega);clear al an x2 J A;have a2:=Ml l hl;have b:=aX E (Bp l) 60;have K:=Ba E<|.cells (Bp l).toArray 60;have am:=x.size;go_wp2;have x:=x.then K;have R:=R.keep K R.lt;have H:=H.keep K;generalize(E:Nat)=G at b am|-;generalize E.alloc _=a5 at b x R H|-;clear a2 K;go_loopw [21] (λac wr=>∃(k:Nat)(d:List Value),k<=l/\ac=↑k/\Row wr G 60 (looked a.K (l.take k)++d)/\d=(l.length -k)*6/\jW wr N vS c s a/\Row wr ↑w 55 [aB,aA,aA]/\Xc (λk=>k=N\/False) w wr) (λac _=>l.length -(intOf ac).toNat);exact⟨0,Bp l.length,cH _,rfl,b,by rw[acD];rfl,H,R,x⟩;case round=>
  clear b H R x;obtain⟨k,d,hk,rfl,b,h,H,R,x⟩:=hrel;by_cases aj:k<l.length;.match d,h with
   |[],h=>simp at h;omega
   |[_],h=>simp at h;omega
   |[_,_],h=>simp at h;omega
   |[_,_,_],h=>simp at h;omega
   |[_,_,_,_],h=>simp at h;omega
   |[_,_,_,_,_],h=>simp at h;omega
   |y0::y1::y2::y3::y4::y5::d,h=>
     have L:=aY aj;have aa:l.take (k+1)=l.take k++[l[k]]:=by rw[rN aj]
     generalize l[k]=p at L aa;have ak:=hp p<|eY L;have⟨g0,T⟩:=Bq l k p L;have hgw:=X.xc x (λe=>by obtain e|e:=e;exact aw e;exact e);have c0:wr.cell? (gl,k*2)=some ↑p.1:=by rw[hgw.cell,ko (bK.1 g0).1];exact g0
     have c1:wr.cell? (gl,k*2+1)=some ↑p.2:=by rw[hgw.cell,ko (bK.1 T).1];exact T
     have⟨S,t,u,v,y,z,ag,ah⟩:=pq<|a.K p;have I:(looked a.K<|l.take k).length=k*6:=by rw[zy,dJ];omega
     have ai:Hid (looked a.K (l.take<|k+1)=looked a.K (l.take k)++[.string S,.int .i64 t,.int .i64 u,.string v,.int .i64 y,.bool z]):=by show _=_;rw[aa];unfold looked;rw[UG,yD,List.flatMap_nil,kY,ah]
     have D:=Ba wr<|.cells #[↑p.1,↑p.2] 48;have C:=aX wr [↑p.1,↑p.2] 48;have b:=b.keep D b.lt;have R:=R.keep D R.lt;have H:=H.keep D;have x:=x.then D;have a7:(0:Int)<=k:=O9;have a8:(k:Int)<l.length:=O9;have I:=aK I;have h:=aK h;clear L aa g0 T D hgw ah;go_wp2;generalize wr.alloc _=V at b R H x C|-;generalize(wr:Nat)=bq at C|-;have d0:=C.cell 0;have d1:V.cell? (bq,1)=some ↑p.2:=C.cell 1;have a9:V.cell? (N,13)=some (.slice s.gs s.n s.n):=by rw[H.nd.mem.row.cell];rfl
     have U:Below V V V.drew:=cN B0;have a1:Cv 45 #[.agg #[.slice s.gs s.n s.n],.agg #[↑p.1,↑p.2]] V.drew λe W=>∃vv,e=.returned vv/\(vv=.agg #[S,t,u,v,y,z]/\Below V V W):=by refine(Kb p V.drew (H.dL.keep U) ak).m1 λW j=>?_;exact⟨_,rfl,ag,U.trans j⟩
     have az:Hid (∀(vs:Array Value)(w:World),(callFunc 45 vs).run Vp w=.ok (.enter 45 vs) w):=λ_ _=>by kernel_rfl
     have au:=aK λW(j:Below V V W)=>b.keep j b.lt;have av:Hid (∀W,Below V V W->Row (s6W W G (k*6) ↑S ↑t ↑u ↑v ↑y z) G 60 (looked a.K (l.take<|k+1)++d)/\jW (s6W W G (k*6) ↑S ↑t ↑u ↑v ↑y z) N vS c s a/\Row (s6W W G (k*6) ↑S ↑t ↑u ↑v ↑y z) ↑w 55 [aB,aA,aA]/\Xc (λk=>k=N\/False) w (s6W W G (k*6) ↑S ↑t ↑u ↑v ↑y z)):=by intro W j;have r:=b.keep j b.lt;have ap:=ajT (o:=k*6) (n:=0) (mb:=s.mb) r ↑S ↑t ↑u ↑v ↑y z;refine⟨?_,(H.keep j).tk ap D9 D9 D9 D9 D9 D9 D9,(R.keep j R.lt).tk ap D9,ahw (x.then j) G (k*6) _ _ _ _ _ _ λe=>by omega⟩;have r6:=GU r ↑S ↑t ↑u ↑v ↑y z;rw[I.out]at r6;rw[ai.out,dP];exact r6
     have ay:Hid (∀W,Row W G 60 (looked a.K (l.take k)++y0::y1::y2::y3::y4::y5::d)->(W.cell? (G,k*6)=some y0/\W.cell? (G,k*6+1)=some y1/\W.cell? (G,k*6+2)=some y2/\W.cell? (G,k*6+3)=some y3/\W.cell? (G,k*6+4)=some y4/\W.cell? (G,k*6+5)=some y5)):=by
      intro W r;have q:∀ad ae,(y0::y1::y2::y3::y4::y5::d)[ad]?=some ae->W.cell? (G,k*6+ad)=some ae:=λad ae hv=>by rw[r.cell,<-I.out,cZ O9,Ah];exact hv
      exact⟨q 0 _ rfl,q 1 _ rfl,q 2 _ rfl,q 3 _ rfl,q 4 _ rfl,q 5 _ rfl⟩
     clear b R H x C U c0 c1 ag ak ai;refine YE ?_;go_region_law (refine jA 45 rfl _ _ rfl #[.agg #[.slice s.gs s.n s.n],.agg #[↑p.1,↑p.2]] E9 _ a1 (az.out _ _) ?_;rintro vv i⟨rfl,B⟩;have m:=au.out _ B;have⟨e0,e1,e2,e3,e4,e5⟩:=ay.out _ m;have f0:=m.frozen (k*6);have f1:=m.frozen (k*6+1);have f2:=m.frozen (k*6+2);have f3:=m.frozen (k*6+3);have f4:=m.frozen (k*6+4);have f5:=m.frozen (k*6+5);have bb:=m.lt;have Q:=aK<|av.out _ B);all_goals unfold ahv
     all_goals go_wp2
     .go_roundw;exact⟨k+1,d,O9,by go_num,Q.out.1,by have:=h.out;simp[cQ]at this;omega,Q.out.2.1,Q.out.2.2.1,Q.out.2.2.2⟩;simp[intOf];omega
     go_roundw;exact⟨k+1,d,O9,by go_num,Q.out.1,by have:=h.out;simp[cQ]at this;omega,Q.out.2.1,Q.out.2.2.1,Q.out.2.2.2⟩;simp[intOf];omega
  have a0:k=l.length:=O9;subst a0;have a3:d=[]:=lW O9;subst a3;rw[kY,gQ]at b;go_wp2;refine(Ph wr H).m1 λi B=>?_;have x:=x.then B;have R:=R.keep B R.lt;have b:=b.keep B b.lt;have H:=H.keep B;have c0:i.cell? ((w:Nat),0)=some ↑aB:=R.cell 0;have c1:i.cell? ((w:Nat),1)=some ↑aA:=R.cell 1;have c2:i.cell? ((w:Nat),2)=some ↑aA:=R.cell 2;have f0:=R.frozen;have ba:=R.lt;unfold AN.nP;go_wp2;have RF:Row (((i.setCell ((w:Nat),0) ↑a.xf).setCell ((w:Nat),1) ↑(a.aT:Int)).setCell ((w:Nat),2) ↑a.wo) ↑w 55 [↑a.xf,↑(a.aT:Int),↑a.wo]:=((R.set 0 ↑a.xf).set 1 ↑(a.aT:Int)).set 2 ↑a.wo;have xF:Xc (λk=>k=N\/False) w (((i.setCell ((w:Nat),0) ↑a.xf).setCell ((w:Nat),1) ↑(a.aT:Int)).setCell ((w:Nat),2) ↑a.wo):=((x.setCell ((w:Nat),0) _ λe=>absurd e<|Fq _).setCell ((w:Nat),1) _ λe=>absurd e<|Fq _).setCell ((w:Nat),2) _ λe=>absurd e<|Fq _;have Y:Row (((i.setCell ⟨w.heap.size,0,none⟩<|.string a.xf).setCell ⟨w.heap.size,1,none⟩<|.int .i64 (a.aT:Int)).setCell ⟨w.heap.size,2,none⟩<|.int .i64 a.wo) N 130 _:=((H.row.bF ⟨w.heap.size,0,none⟩ (.string a.xf)<|Jh M).bF ⟨w.heap.size,1,none⟩ (.int .i64 (a.aT:Int))<|Jh M).bF ⟨w.heap.size,2,none⟩ (.int .i64 a.wo)<|Jh M;have ab:G≠(w:Nat):=b.ne R D9;have P:Row (((i.setCell ⟨w.heap.size,0,none⟩<|.string a.xf).setCell ⟨w.heap.size,1,none⟩<|.int .i64 (a.aT:Int)).setCell ⟨w.heap.size,2,none⟩<|.int .i64 a.wo) G 60 _:=((b.bF ⟨w.heap.size,0,none⟩ (.string a.xf) ab).bF ⟨w.heap.size,1,none⟩ (.int .i64 (a.aT:Int)) ab).bF ⟨w.heap.size,2,none⟩ (.int .i64 a.wo) ab;generalize((i.setCell _ _).setCell _ _).setCell _ _=aq at RF xF Y P|-;refine rO (f:=44) (args:=#[.pointer N]) S8 (by simp[go_sem]) ?_;refine(qZ .returning aq Y).mono ?_;rintro e u' O⟨rfl,rfl,a4,ao⟩;have x4:Xc (λk=>k=N\/False) w O:=by rw[ao];exact xF.setCell _ _ λ_=>.inl rfl
  have F:=RF.bF (N,4) (.int .i32 0)<|Z8 M;have af:=P.bF (N,4) (.int .i32 0)<|P.ne Y D9;rw[<-ao]at F af;have k0:O.cell? ((w:Nat),0)=some ↑a.xf:=F.cell 0;have k1:O.cell? ((w:Nat),1)=some ↑(a.aT:Int):=F.cell 1;have k2:O.cell? ((w:Nat),2)=some ↑a.wo:=F.cell 2;exact⟨.tuple #[.slice G l.length l.length,.agg #[↑a.xf,↑(a.aT:Int),↑a.wo]],by simp[results,results14,go_sem,k0,k1,k2],G,rfl,am,af,(J8 x4 π a4).low⟩
def gK.afx{w:World}{N h:Nat}{n:List Value}{c:fL}{s:Lay}{L:List dX}{a:AG}{y:ve}{x:BN}(H:gK w N n c s L a)(f:a.ch[h]?=some y)(m:a.bl[y.ix]?=some x):∃b∈s.l,b.id=x.id∧w.cell? ⟨s.gc,h*2,none⟩=some (.pointer (some ⟨b.a,0,none⟩)):=by have k:h<L:=H.cl▸((bK.1 f).1);have e:=aY k;generalize L[h]=z at e;have⟨_,_,b,d,i⟩:=H.lnk h z y e f;refine⟨b,eY d,(H.tie y.ix b x d m).id,?_⟩;have:=Aj (g:=s.gc) H.base.nd.chain rfl (h*2) (b.a,0) (by rw[H.sl,i];exact((rp L h z e).1));rwa [add0]at this
def ajX{n:Nat}{c:fL}{a:AG}{y:ve}{x:BN}(h:Nat)(w:World)(t:nR w n c a)(q:a.ch[h]?=some y)(C:a.bl[y.ix]?=some x):Cv 104 #[ptr n,.int .i64 (h:Int)] w λe D=>e=.returned (.tuple #[.string x.id,aA])∧Below w.heap.size w D:=by
  have⟨s,L,H⟩:=t;have V:=(bK.1 q).1;have T:s.kc+1=a.ch:=by have j:=H.base.kc;change s.kc=a.ch -1 at j;omega
  have R:=H.wf.chl;have U:=H.wf.ll;have⟨b,u,o,m⟩:=H.afx q C;have g:=H.base.row;have N:¬(h:Int)<0:=by omega
  have j:¬((s.kc+1:Nat):Int)≤(h:Int):=by omega
  have O:(h:Int)<((s.kc+1:Nat):Int):=by omega
  have P:(0:Int)≤(h:Int):=by omega
  unfold ptr;go_enter_defers fA func104,ntmps104;go_wp2;refine(zx w g).mono ?_;rintro e W⟨rfl,p,i⟩;have⟨l,X⟩:=H.base.rlock p i;have I:=l.SP;have z:s.gc≠n:=λe=>by
    subst e;have:=H.base.nd.chain;obtain⟨d,_⟩|⟨M,J,K,d,_,v,_⟩:=this.2;.cases d
    . simp[UD,gV,Un]at d
      obtain⟨⟨rfl,_⟩,_,rfl⟩:=d;have r:=g;cases r▸v
  have Q:W.cell? ⟨s.gc,h*2,none⟩=some (.pointer<|some ⟨b.a,0,none⟩):=by rw[i];have:=m;simp[World.cell?,World.setCell]at this|-;rw[Jd,aJ<|gP z];exact this
  have S:W.cell? ⟨b.a,0,none⟩=some (.string x.id):=by rw[←o];exact(l.nd.qz.row b u).cell 0
  clear H m o i;go_wp2;refine rO (f:=44) (args:=#[(n,0)]) (by simp) (by simp[go_sem]) ?_;refine(qZ .returning W p).mono ?_;rintro e Y E⟨rfl,rfl,A,B⟩;have F:Xc (λk=>k=n∨False) w W:=X.mono λ_ e=>.inl e;have G:Xc (λk=>k=n∨False) w E:=by rw[B];exact F.setCell _ _ λ_=>.inl rfl
  exact⟨_,mq rfl _ _ _,rfl,(J8 G g A).low⟩
def ajY{n:Nat}{c:fL}{a:AG}(h:Int)(w:World)(l:nR w n c a)(y:h<0∨(a.ch:Int)≤h):Cv 104 #[ptr n,.int .i64 h] w λe t=>e=.returned (.tuple #[aB,.int .i64 18])∧Below w.heap.size w t:=by
  have⟨s,L,H⟩:=l;have o:h<0∨((s.kc+1:Nat):Int)≤h:=by have b:=H.base.kc;change s.kc=a.ch -1 at b;have⟨z,r,_⟩:=H.wf.ch0;have:=(bK.1 r).1;omega
  have g:=H.base.row;obtain j|b:=o;case' inr=>have j:¬h<0:=by omega
  all_goals
   unfold ptr;go_enter_defers fA func104,ntmps104;go_wp2;refine(zx w g).mono ?_;rintro e W⟨rfl,d,i⟩;have⟨m,x⟩:=H.base.rlock d i;have C:=m.SP;clear H i;go_wp2;refine rO (f:=44) (args:=#[(n,0)]) (by simp) (by simp[go_sem]) ?_;refine(qZ .returning W d).mono ?_;rintro e U u⟨rfl,rfl,p,q⟩;have v:Xc (λk=>k=n∨False) w u:=by rw[q];exact(x.mono λ_ e=>.inl e).setCell _ _ λ_=>.inl rfl
   exact⟨_,mq rfl _ _ _,rfl,(J8 v g p).low⟩
end Go.Proofs.aH
