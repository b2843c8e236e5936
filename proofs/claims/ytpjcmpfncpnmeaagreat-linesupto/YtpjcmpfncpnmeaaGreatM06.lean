import Derived.Conc.WgWords
import Derived.Conc.AppendWalk
import Derived.Conc.RwLib
import Derived.Conc.FxGenLone
import Derived.Conc.RwLone
import Derived.Conc.RwLoneW
import Derived.Conc.HoldsTime
import Derived.JoinedCond
import Derived.Test.YtpjcmpfncpnmeaaGreatM05
set_option linter.all false
set_option maxHeartbeats 8000000
set_option maxRecDepth 100000
namespace Go.Ren
open Go.Conc Go.ConcN Go.ConcN.Gen Go.RowKit Go.Conc.Lib Go.ConcR.Gen
open Go.ConcR (wgBlock WgAt stA smA rd wr mk Payload DC0 Bk)
section
section
variable{P:Program}{s:Site}
def jR.mono{m K a}(h:∀B g W,K B g W->a B g W):∀B g W,jR P m K B g W->jR P m a B g W:=λ_ _ _⟨b,G,c,d⟩=>⟨b,G,c,h _ _ _ d⟩
def Rf.mono{v K M a}(h:∀B g W,M B g W->a B g W):∀B g W,Rf P s v K M B g W->Rf P s v K a B g W:=λ_ _ _⟨f,b⟩=>⟨f,λv c d=>⟨(b v c d).1,λe=>let⟨G,i,j⟩:=(b v c d).2 e;⟨G,i,h _ _ _ j⟩⟩⟩
def tQ.mono{K a b}(h:∀v B g W,a v B g W->b v B g W):∀B g W,tQ P s K a B g W->tQ P s K b B g W:=λ_ _ _⟨c,d⟩=>⟨c,λv k l=>let⟨G,f,i,j⟩:=d v k l;⟨G,f,i,λe=>h v _ _ _<|j e⟩⟩
end
variable[Payload]
section
variable{P:Program}{L:WgLink}{s:Site}{B:Nat→Prop}{F:World→Prop}{c:Frame}{cs:List Frame}
def Q9(H:WgLib P L)(h:s.ty=L.tWg)(b:∀W w,lG s aL aL B W w->F W->F w)(W)(a:F W/\WgLive s.ty s.Wg W):gH P s true aL aL (jR P .disable (Kan P s<|Vl L F s c cs)) B (G ((base L.wait).at ⟨#[.pointer<|some ⟨s.Wg,0,none⟩]++Array.replicate 83 undef,[]⟩ [.code<|body_wait L]) (c::cs)) W:=by
 simp[body_wait,waitFn];refine cE 20 _ _ ?_;u_c stepG_seq (fZ b) a;u_cond true (fZ b) a;u_reg (fZ b) a;refine Goes.stop λi d=>?_;replace a:=fZ b a d;refine gH.stop λj e=>?_;replace a:=fZ b a e;refine⟨rfl,_,stepG_mark0 .disable S8 rfl rfl (by k_ne) rfl H.f_disable (x_disable_n L) (x_disable_b L) (x_disable_x L)<|x_disable_f L,?_⟩;refine cE 20 _ _ ?_;u_c stepG_region_end (fZ b) a;u_c stepG_block (fZ b) a;u_c stepG_loop (fZ b) a;refine Goes.stop λk f=>?_;replace a:=fZ b a f;refine gH.stop λl g=>?_;replace a:=fZ b a g;rw[h]at a;exact⟨_,rfl,S8,S8,a⟩
end
section
variable{P:Program}{s:Site}
def gH.mono{m r o}{S b:fB}(h:∀B g W,S B g W->b B g W){B g W}(c:gH P s m r o S B g W):gH P s m r o b B g W:=by induction c with
 |stop a=>exact .stop λw d=>h _ _ _<|a w d
 |step a k _ e=>exact .step a k e
def XD{A d F}(h:∀B g W,A B g W->d B g W){B g W}(c:gH P s true aL aL (tQ P s (ZZ P s F)<|K2 P s A F) B g W):gH P s true aL aL (tQ P s (ZZ P s F)<|K2 P s d F) B g W:=c.mono<|tQ.mono λ_ _ _ _ a=>gH.mono (Rf.mono λ_ _ _ b=>gH.mono h b) a
def XC{m A Anch'}(h:∀B g W,A B g W->Anch' B g W){B g W}(b:gH P s true aL aL (jR P m<|Kan P s A) B g W):gH P s true aL aL (jR P m<|Kan P s Anch') B g W:=b.mono<|jR.mono λ_ _ _ a=>gH.mono h a
end
end
end Go.Ren
namespace Go.Proofs.YtpjcmpfncpnmeaaGreat
open Go.Conc Go.ConcN Go.ConcN.Gen Go.RowKit Go.Conc.Lib Go.ConcR.Gen Go.Ren
open Go.ConcR (wgBlock WgAt stA smA rd wr mk Payload DC0 Bk)
section
def ae0(s:Site)(k:CallKind)(c:List Frame):Goroutine->World->Prop:=λg _=>∃f,tP 205 k f/\f.tmps[4]?=some (.slice (some ⟨s.C,0,none⟩) s.N s.N)/\g=yH f c
noncomputable def frM(k:CallKind)(T:Array Value):Frame:=match Vf with
 |.seq (.region _ o _) c=>(iO 205 k).at ⟨T,[]⟩ [.inRegion o [0],.code c]
 |_=>default
variable[Payload]
section
variable{s:Site}{u:zb}{n j:Nat}{B:Nat→Prop}{W:World}{k:CallKind}{cs:List Frame}{T:Array Value}
def FM(s:Site)(u:zb):World->Prop:=λW=>MK s u W
def Ax(s:Site)(u:zb)(n:Nat)(k:CallKind)(c:List Frame):fB:=λ_ g W=>∃T,vX s u n n T/\AnchWN wK (FM s u) s.Wg (frM k T) c g W
def ah2(D:s.ty=320)(G:(iO 205 k).kind≠.early)(d:FD s u)(C:vX s u n n T)(a:MK s u W/\WgLive s.ty s.Wg W):gH Tryz.prog s true aL aL (jR Tryz.prog .disable (Kan Tryz.prog s<|Ax s u n k cs)) B (MH k cs T) W:=by
 obtain⟨v,V,p,t,j,f,R,rfl⟩:=C.list;simp only[tL];have b:∀{W e:World},MK s u W/\WgLive s.ty s.Wg W->lG s aL aL B W e->MK s u e/\WgLive s.ty s.Wg e:=λh r=>⟨DF d h.1 r,r.live h.2⟩;simp[MH,jf,Vf,yG,Tryz.f205];refine cE 50 _ _ ?_;u_c stepG_seq b a;u_reg b a;u_op b a;u_c stepG_region_end b a;u_c stepG_seq b a;u_cond false b a;u_exit b a;u_c stepG_seq b a;u_reg b a;refine Goes.step rfl λE x=>?_;replace a:=b a x;refine goes_call (c:=body_wait wK) rfl rfl (by k_ne) rfl ze.f_wait (nm_wait wK) rfl ⟨by u_nil,Goes.stop λw y=>?_⟩;replace a:=b a y;have A:=XC (Anch':=Ax s u n k cs) (λB g W h=>⟨(v::V::.pointer u.b2::.pointer u.b3::p::.pointer u.b5::.pointer s.Wg::tL 7 t (n::n::false::tL 6 f R)).toArray,⟨by simp[tL],rfl,rfl,rfl,rfl,rfl,rfl⟩,h⟩)<|Q9 (L:=wK) (c:=frM k (v::V::.pointer u.b2::.pointer u.b3::p::.pointer u.b5::.pointer s.Wg::tL 7 t (n::n::false::tL 6 f R)).toArray) (cs:=cs) (F:=FM s u) (B:=B) ze D (λW i r h=>DF d h r) w a;simp;exact A
end
end
section
variable[Payload]
section
variable{s:Site}{u:zb}{n:Nat}{B:Nat→Prop}{W:World}{k:CallKind}{cs:List Frame}{T:Array Value}
def ah1(A:s.ty=320)(J:(iO 205 k).kind≠.early)(f:FD s u)(g)(h:Ax s u n k cs B g W):gH Tryz.prog s true aL aL (tQ Tryz.prog s (ZZ Tryz.prog s<|ae0 s k cs) (K2 Tryz.prog s (Ax s u n k cs)<|ae0 s k cs)) B g W:=by
 have⟨T,i,h⟩:=h;obtain⟨V,P,p,O,M,N,R,rfl⟩:=i.list;refine XD (λ_ _ _ h=>⟨_,i,h⟩)<|ajy ze A (λW L(r:lG s aL aL B W L)(h:FM s u W)=>DF f h r) (λW a v(p:a.block=s.Wg)(h:FM s u W)=>MK.of f h (λb _ q=>(aside_setCell W a v).block b<|p▸q)<|pK (aside_setCell W a v).size.symm) (λW(h:FM s u W)=>Ai f.wg h.B6) (λW c K=>?_) g W h;have d:∀{W C:World},MK s u W->lG s aL aL B W C->MK s u C:=λh r=>DF f h r;refine cE 20 _ _ ?_;u_c stepG_region_end d c;u_c stepG_seq d c;u_reg d c;refine Goes.stop λD m=>?_;replace c:=d c m;refine vM rfl rfl (by k_ne) λl o=>?_;replace c:=d c o;have I:=c.an;refine⟨(s.C,s.N,s.N),l,by go_simp,yF λe t=>?_,?_⟩;.have j:=mem_listed t;simp[go_sem, *]at j;subst j;exact⟨_,rfl,.inr<|.inr f.b5,fI f.b5.1 c.B6⟩
 rw[fO];refine cE 20 _ _ ?_;u_op d c;u_c stepG_region_end d c;u_c stepG_ret' d c;refine Goes.stop λE G=>?_;refine gH.stop λF H=>⟨rfl,_,?_,?_,rfl⟩;exact⟨rfl,rfl,rfl,rfl⟩;rfl
end
end
section
def NM:=@stepG_seq
def NN:=@stepG_region_end
def aa5:=@aside_setCell
def Ra(B:Nat->Prop):un aL B=B:=by funext c;exact propext ⟨λh=>h.elim False.elim id,.inr⟩
variable[Payload]
section
variable{s:Site}{u:zb}{n j:Nat}{W:World}{k:CallKind}{cs:List Frame}{T:Array Value}{fin:Nat→Value}{er nr:Nat→Int}{StopK Kn:fB}
def FB(s:Site)(u:zb)(b j:Nat):World->Prop:=λW=>MK s u W/\W.heap[b]?=some (.cells #[.int .i64 j] 3)/\s.L<=b
def FB.rely{B}(Y:FD s u){W w}(h:FB s u B j W)(r:lG s aL aL (λb=>b=B) W w):FB s u B j w:=⟨DF Y h.1 r,(r.keep B<|.inl rfl).trans h.2.1,h.2.2⟩
def Vg(a2:(iO 205 k).kind≠.early)(l:FD s u)(a0:j<n)(a3:n<2147483648)(ah:vX s u n j T)(a:MK s u W/\WgLive s.ty s.Wg W)(ae:∀c W,s.L<=c->c<W.heap.size->MK s u W->WgLive s.ty s.Wg W->W.cell? ⟨c,0,none⟩=some ↑j->Kn (λb=>b=c) (born Tryz.prog<|FA s u c) W)
 (af:∀I q,vX s u n (j+1) I->MK s u q/\WgLive s.ty s.Wg q->gH Tryz.prog s true aL aL StopK aL (MH k cs I) q):
 gH Tryz.prog s true aL aL (jR Tryz.prog .disable (KD Tryz.prog s (λ_=>Kn) j<|gH Tryz.prog s true aL aL StopK)) aL (MH k cs T) W:=by
 obtain⟨v0,v1,p,tt,cc,dd,rr,rfl⟩:=ah.list;simp only[tL,Nat.reduceAdd];have g:∀{W e:World},MK s u W/\WgLive s.ty s.Wg W->lG s aL aL aL W e->MK s u e/\WgLive s.ty s.Wg e:=λh r=>⟨DF l h.1 r,r.live h.2⟩;have al:decide ((j:Int)<n)=true:=pM O9;simp only[MH,jf,Vf,yG,Tryz.f205,nB];refine cE 50 _ _ ?_;u_c NM g a;u_reg g a;u_op g a;u_c NN g a;u_c NM g a;u_cond true g a;u_c stepG_skip g a;u_c NM g a;u_c stepG_block g a;u_c NM g a;u_reg g a;u_op g a;refine Goes.stop λak K=>?_;replace a:=g a K;clear K al;refine vM rfl rfl (by k_ne) λi M=>?_;replace a:=g a M;clear M;have R:=fI l.c a.1.B6;refine⟨.pointer i.heap.size,i.alloc<|.cells #[aA] 3,by go_simp,?_,?_⟩;.have:∀(C:Array Event),(∀ad∈C,False)->C=#[]:=λC h=>agU.2 h;rw[this (listed _ _ _ _ _) λad G=>by have D:=mem_listed G;simp[go_sem, *]at D];exact aaT R
 rw[Jq,Ra];have t:(i.alloc<|.cells #[aA] 3).heap[(i:Nat)]?=some (.cells #[aA] 3):=by show(i.heap.push _)[(i:Nat)]?=_;rw[Nf]
 have H:∀b,b<s.L->(i.alloc<|.cells #[aA] 3).heap[b]?=i.heap[b]?:=λb x=>by have U:=fI x a.1.B6;show(i.heap.push _)[b]?=_;rw[I7 U,qs U]
 have V:=a.1.B6;replace a:MK s u (i.alloc<|.cells #[aA] 3)/\WgLive s.ty s.Wg (i.alloc<|.cells #[aA] 3):=⟨MK.of l a.1 (λb x _=>H b x) (by show(i:Nat)<=(i.heap.push _).size;rw[Ui];omega),let⟨π,Y,y⟩:=a.2;⟨π,Y,y.of_block<|H _ l.wg⟩⟩
 clear H R;generalize(i:Nat)=c,i.alloc _=ar at*;walk_nrm;refine aaU rfl rfl (by k_ne) λm A=>?_;replace a:MK s u m/\WgLive s.ty s.Wg m:=⟨DF l a.1 A,A.live a.2⟩;replace t:=(A.keep c<|.inl rfl).trans t;clear A;have c0:m.cell? (c,0)=some ↑aA:=by simp[World.cell?,t]
 have aa:m.frozen? (c,0)=false:=by simp[World.frozen?,t]
 have⟨J,z,E⟩:=LA (o:=0) (v:=j) t;have B:=(eD.1 t).1;refine⟨m.setCell (c,0) j,by go_simp,?_,?_⟩;.refine aaV (b:=c) rfl (by have:=l.c;omega) z E rfl rfl B (λad G=>?_);have D:=mem_listed G;simp[go_sem,storedEv, *]at D;subst D;exact⟨_,_,rfl⟩
 have X:grow (λb=>b=c) m (m.setCell (c,0) j)=λb=>b=c:=by funext ac;exact propext ⟨λh=>h.elim id λh=>by omega,.inl⟩
 rw[X];replace a:FB s u c j (m.setCell (c,0) j)/\WgLive s.ty s.Wg (m.setCell (c,0) j):=⟨⟨MK.of l a.1 (λb x _=>z b O9)<|pK E.symm,by simpa using J,V⟩,let⟨π,Y,y⟩:=a.2;⟨π,Y,y.of_block (z _<|by have:=l.wg;omega)⟩⟩
 clear J z E X aa c0 t B V;generalize m.setCell _ _=au at*;have p:∀{W e:World},FB s u c j W/\WgLive s.ty s.Wg W->lG s aL aL (λb=>b=c) W e->FB s u c j e/\WgLive s.ty s.Wg e:=λh r=>⟨FB.rely l h.1 r,r.live h.2⟩;walk_nrm;refine cE 50 _ _ ?_;u_c NN p a;u_c NM p a;u_reg p a;refine Goes.step rfl λav N=>?_;replace a:=p a N;clear N;refine goes_call (c:=body_add wK) rfl rfl (by k_ne) rfl ze.f_add (nm_add wK) rfl ⟨by u_nil,Goes.stop λay O=>?_⟩;replace a:=p a O;clear O;have an:(addFn wK).ntmps=117:=rfl;rw[an];simp only[Act.eval,yz,gJ,qL,I8,Uk,Ad,vG,nB,I9,cQ,pN,Nat.reduceAdd,Nat.reduceSub];refine akE (L:=wK) (F:=FB s u c j) ze (λW q r h=>FB.rely l h r) (λW v h=>⟨MK.of l h.1 (λb _ x=>(aa5 W (stA s.Wg) v).block b x)<|pK (aa5 W (stA s.Wg) v).size.symm,((aa5 W (stA s.Wg) v).block c<|by have:=h.2.2;have:=l.wg;show c≠s.Wg;omega).trans h.2.1,h.2.2⟩) (λW h=>⟨l.wg,h.1.B6⟩) (λW a y=>?_) _ a;replace a:FB s u c j W/\WgLive s.ty s.Wg W:=⟨a,y⟩;clear y;show gH Tryz.prog s true aL aL (SGo Tryz.prog s Kn<|gH Tryz.prog s true aL aL StopK) (λb=>b=c) _ _;walk_nrm;refine cE 50 _ _ ?_;u_c NN p a;u_reg p a;u_op p a;refine Goes.stop λaz P=>?_;replace a:=p a P;clear P;refine gH.stop λw Q=>?_;replace a:=p a Q;clear Q;refine⟨rfl,?_⟩;rw[stepG_spawn (d:=FA s u c) (w':=w) (f:=.func 219) (c:=#[.pointer s.Wg,.pointer c,.pointer u.b2,.pointer u.b3,.pointer u.b5]) rfl rfl (by k_ne) (by simp[go_sem,FA,Deferred.ofValue]) rfl];generalize S:listed _ _ _ _ _=am;have ag:am=#[]:=by rw[<-S];simp[listed,go_sem,seen,Deferred.ofValue];rfl
 subst ag;clear S;refine⟨_,_,rfl,rfl,λ_=>ae c w a.1.2.2 ((eD.1 a.1.2.1).1) a.1.1 a.2 (by simp[World.cell?,a.1.2.1]),?_⟩;replace a:MK s u w/\WgLive s.ty s.Wg w:=⟨a.1.1,a.2⟩;have al:IntKind.i64.wrap ((j:Int)+1)=((j+1:Nat):Int):=by rw[jP];omega
 walk_nrm;refine cE 50 _ _ ?_;u_c NN g a;u_c stepG_inBlock g a;u_reg g a;u_op g a;u_op g a;u_c NN g a;u_c stepG_inLoop g a;refine Goes.stop λao ab=>?_;refine af _ _ ?_<|g a ab;exact⟨S8,rfl,rfl,rfl,rfl,rfl,rfl⟩
end
end
section
variable[Payload]
section
variable{s:Site}{u:zb}{n:Nat}{k:CallKind}{cs:List Frame}{fin:Nat→Value}{er nr:Nat→Int}
def Vh(r:s.ty=320)(a:FD s u)(y:n<=u.wk)(w:n<=s.N)(hN:s.N<1099511627776)(t:u.wk<2147483648)(k:∀x,x<s.N->zf u x (er x) (nr x))(p:∀x,fin x=(er x)){j}(v:j<n)(B W)(i:s.L<=B)(h:B<W.heap.size)(d:MK s u W)(q:WgLive s.ty s.Wg W)(e:W.cell? (B,0)=some ↑j):Child Tryz.prog s (Q7 s u) fin j (λb=>b=B) (born Tryz.prog<|FA s u B) W:=by
 have f:Lay s u:=⟨a.b2,a.b3,a.b5,a.T O9⟩;have g:j%u.wk=j:=Ng O9;refine aaS f ⟨e,d.tr O9,d.wn,d.an,d.el,q,d.pay,d.B6,h⟩ λT z l m=>?_;refine aeW r f a.wg a.ne i a.c ⟨O9,g⟩ hN t O9 k p (s.N -j) j aL T z L9 g (λb o=>o.elim) l m λc e h=>?_;have:=e.2;rw[Ng O9]at this;omega
def aa4(f:s.ty=320)(d:(iO 205 k).kind≠.early)(a:FD s u)(p:n<=u.wk)(o:n<=s.N)(hN:s.N<1099511627776)(q:u.wk<2147483648)(m:n<2147483648)(i:∀x,x<s.N->zf u x (er x) (nr x))(l:∀x,fin x=(er x)):∀r T W,r<=n->vX s u n (n -r) T->MK s u W/\WgLive s.ty s.Wg W->KSp Tryz.prog s n (Child Tryz.prog s (Q7 s u) fin) (Ax s u n k cs) r aL (MH k cs T) W
 |0,T,W,_,c,b=>ah2 f d a c b
 |r+1,T,W,v,c,b=>by have t:=aa4 f d a p o hN q m i l r;have e:n -(r+1)+1=n -r:=O9;cases r with
   |zero=>exact Vg (StopK:=jR Tryz.prog .disable (Kan Tryz.prog s<|Ax s u n k cs)) (Kn:=Child Tryz.prog s (Q7 s u) fin<|n -(0+1)) d a O9 m c b (Vh f a p o hN q i l O9) λg w j h=>t g w O9 (e▸j) h
   |succ r=>exact Vg (StopK:=jR Tryz.prog .disable (KD Tryz.prog s (Child Tryz.prog s (Q7 s u) fin) (n -(r+1))<|KSp Tryz.prog s n (Child Tryz.prog s (Q7 s u) fin) (Ax s u n k cs) r)) (Kn:=Child Tryz.prog s (Q7 s u) fin<|n -(r+1+1)) d a O9 m c b (Vh f a p o hN q i l O9) λg w j h=>t g w O9 (e▸j) h
end
end
end Go.Proofs.YtpjcmpfncpnmeaaGreat
namespace Go.Ren
open Go.Conc Go.ConcN
open Go.ConcR (wgBlock WgAt stA smA rd wr mk Payload DC0 Bk)
section
variable[Payload]
section
variable{P:Program}{s:Site}{n:Nat}{oc:Nat→Nat→Prop}{fin:Nat→Value}{Anch:fB}{Fin:Goroutine→World→Prop}{gs:Array Goroutine}{W:World}{sl:Option (Nat×Nat)}{t:Trace}{q:Nat→Nat}{a:Goroutine}
def Q8(F:Fix s oc)(O:∀i,i<n->oc i i)(M:n<2147483648)(E:∀B g W,Anch B g W->g.status=.running)(A:∀B g W,Anch B g W->gH P s true aL aL (tQ P s (ZZ P s Fin)<|K2 P s Anch Fin) B g W)(H:∀a W ad,Fin a (World.at W ad)->Fin a W)(C:gs[0]?=some a)(J:KSp P s n (Child P s oc fin) Anch n aL a W)(I:Leavers P t gs q)(c:kF (mr s.dead) s.Wg 0 t)(ae:PayAt s.C s.N W)(Q:WgAt s.ty s.Wg W 0 0)(af:s.L<=W):
 ∃N S z L ag T q',runNT P N (crowd gs W sl) t=(.next<|crowd z L ag,S)/\Ju P s gs.size n oc fin W Fin z L S T q':=by
 have aj:=F.wg;have ac:∀i x,touchAt t i=some x->x.loc.isMemory=true->∀b,bY x.loc=[b]->b<s.Wg:=λi x o f b X=>FK c.seen o f X;have G:Com P s gs.size n oc fin W 0 (λ_=>⟨1,0,0⟩) (λ_=>aL) (λ_=>aL) (λi=>dC.of<|q i) gs W t q:=by
  refine⟨((eD.1 C).1),cH _,rfl,λi g p _ w=>I.old i g p w,λ_ _ _=>rfl,λi d=>absurd d<|qu _,λi d=>absurd d<|qu _,I.above,ae,af,⟨λ_ _ _ h=>h.elim,λ_ _ _ h=>h.elim,λ_ _ h=>h.elim False.elim False.elim⟩,λi d=>absurd d<|qu _,λ_ _=>rfl,rfl,rfl,?_,λi d=>absurd d<|qu _,λk x o f=>.inl<|c.known k x o f,λk g w π Y=>.inl<|c.over k g w π Y,λop ab=>MemAct.low_mono O9<|c.seen op ab,λi e=>?_⟩;have p:=TI.start (D:=Dd s) (Sh:=ShN s.Wg) (t:=t) (λi x o f=>(c.known i x o f).imp id λh=>.inl h.1) (λl=>?_) (λi x o u=>?_) c.clean;exact⟨p.quiet,λk l h=>(have⟨i,d,_⟩:=h;absurd d<|qu _),λk l h=>(have⟨i,d,_⟩:=h;absurd d<|qu _),λl v u _=>p.mine l v u λ_ h=>h,λl v u _=>p.free l v u λ_=>⟨λh=>h,λh=>h⟩,p.nr⟩;cases f:l.isMemory with
  |true=>exact .inr<|.inr rfl
  |false=>exact .inl<|.inr f
  have f:x.loc.isMemory=true:=by have⟨a,V,_⟩:=u;rw[V];rfl
  have:=ac i x o f _<|tR u;omega;have d:=lt_of_act? e;have R:=qs d;have:=c.seen t[i]<|E8 R;have U:t[i].act=.mark (.release<|stA s.Wg):=by simpa[Trace.act?,R]using e
  rw[U]at this;have ai:s.Wg<s.Wg:=this;omega
 have K:Vc 0 (λ_=>(⟨1,0,0⟩:WD))=0:=rfl;cases n with
 |zero=>have⟨r,y⟩:=Vi J;refine Jy F O M E A H (phi 0 (Vc 0 λ_=>(⟨1,0,0⟩:WD)) .kd+Ssum 0 λ_=>(⟨1,0,0⟩:WD)) _ r (flag .kd) (crowd gs W sl) t ⟨gs,W,sl,0,λ_=>⟨1,0,0⟩,.kd,_,_,q,0,a,0,0,rfl,C,.kd y,c.hears,G,Q,?_,(λe=>by cases e),rfl,rfl⟩;have:=ConcN.Mode.opn (j:=0) (D:=λ_=>(⟨1,0,0⟩:WD)) (tag:=.kd) trivial (λi d=>absurd d<|qu _) (λah e=>by cases e);simpa[K,pend]using this
 |succ m=>have⟨r,y⟩:=Vi J;refine Jy F O M E A H (phi (m+1) (Vc 0 λ_=>(⟨1,0,0⟩:WD)) (.sp m 5)+Ssum 0 λ_=>(⟨1,0,0⟩:WD)) _ r (flag<|.sp m 5) (crowd gs W sl) t ⟨gs,W,sl,0,λ_=>⟨1,0,0⟩,.sp m 5,_,_,q,0,a,0,0,rfl,C,?_,c.hears,G,Q,?_,(λe=>by cases e),rfl,rfl⟩;have:=lN.skd (P:=P) (s:=s) (n:=m+1) (Ch:=Child P s oc fin) (Anch:=Anch) (Fin:=Fin) (r:=m) O9 y;rwa [(rK _)]at this;have:=ConcN.Mode.opn (j:=0) (D:=λ_=>(⟨1,0,0⟩:WD)) (tag:=.sp m 5) trivial (λi d=>absurd d<|qu _) (λah e=>by cases e);simpa[K,pend]using this
end
end
end Go.Ren
namespace Go.Proofs.YtpjcmpfncpnmeaaGreat
open Go.Conc Go.ConcN Go.ConcN.Gen Go.RowKit Go.Conc.Lib Go.ConcR.Gen Go.Ren
open Go.ConcR (wgBlock WgAt stA smA rd wr mk Payload DC0 Bk)
section
noncomputable def ahj:Code:=match yG with|.seq _ (.seq _<|.seq _ c)=>c|_=>.skip
noncomputable def ajt:Array Oper:=match yG with|.seq _ (.seq _<|.seq (.region _ o _) _)=>o|_=>#[]
noncomputable def MG(k:CallKind)(c:List Frame)(T:Array Value):Goroutine:=G ((iO 205 k).at ⟨T,[]⟩ [.inRegion ajt [],.code ahj]) c
def aa0{a b}(c t):Builtin.min_ c t #[.int .i64 a,.int .i64 b]=pure ↑(if b<a then b else a):=by trivial
variable[Payload]
section
variable{s:Site}{u:zb}{n:Nat}{W:World}{k:CallKind}{cs:List Frame}{StopK:fB}{p:Option Addr}{cp:Nat}
def FSx(s:Site)(u:zb)(p:Option Addr)(c:Nat):World->Prop:=λW=>MK s u W/\WgLive s.ty s.Wg W/\W.cell? ⟨u.b2,0,none⟩=some (.slice p s.N c)
def FSx.rely(Y:FD s u){W w}(h:FSx s u p cp W)(r:lG s aL aL aL W w):FSx s u p cp w:=⟨DF Y h.1 r,r.live h.2.1,(cell_of_block (r.keep u.b2 (.inr<|.inr Y.b2)) 0).trans h.2.2⟩
def aeX(M:(iO 205 k).kind≠.early)(c:FD s u)(v:n=min u.wk s.N){V y G H I J z T r}(a:FSx s u p cp W)(t:∀l w,vX s u n 0 l->MK s u w/\WgLive s.ty s.Wg w->gH Tryz.prog s true aL aL StopK aL (MH k cs l) w):
 gH Tryz.prog s true aL aL StopK aL (MG k cs (V::y::.pointer u.b2::.pointer u.b3::G::.pointer u.b5::.pointer s.Wg::H::I::J::z::tL 12 T r).toArray) W:=by
 have b:∀{W x:World},FSx s u p cp W->lG s aL aL aL W x->FSx s u p cp x:=λh r=>FSx.rely c h r;simp[tL,MG,ajt,ahj,yG,Tryz.f205,nB];refine cE 50 _ _ ?_;u_c stepG_region_end b a;u_c stepG_seq b a;u_c stepG_seq b a;u_reg b a;refine Goes.stop λK m=>?_;replace a:=b a m;clear m;refine vM rfl rfl (by k_ne) λg d=>?_;replace a:=b a d;clear d;have i:=a.1.wn;refine⟨↑u.wk,g,by go_simp,yF λe j=>?_,?_⟩;.have f:=mem_listed j;simp[go_sem, *]at f;subst f;exact⟨_,rfl,.inr<|.inr c.b3,fI c.b3.1 a.1.B6⟩
 clear i;rw[fO];walk_nrm;refine vM rfl rfl (by k_ne) λg d=>?_;replace a:=b a d;clear d;have i:=a.2.2;refine⟨.slice p s.N cp,g,by go_simp,yF λe j=>?_,?_⟩;.have f:=mem_listed j;simp[go_sem, *]at f;subst f;exact⟨_,rfl,.inr<|.inr c.b2,fI c.b2.1 a.1.B6⟩
 clear i;rw[fO];walk_nrm;have q:Builtin.min_ #[3,3] 3 #[↑u.wk,↑s.N]=pure ↑n:=by rw[aa0];congr 2;split<;>omega
 refine cE 50 _ _ ?_;u_op b a;u_op b a;u_op b a;u_c stepG_region_end b a;u_c stepG_block b a;u_c stepG_loop b a;refine Goes.stop λL o=>?_;refine t _ _ ?_ ⟨(b a o).1,(b a o).2.1⟩;exact⟨S8,rfl,rfl,rfl,rfl,(by rw[v];rfl),rfl⟩
end
end
end Go.Proofs.YtpjcmpfncpnmeaaGreat
section
namespace Go.Ren
open Go.Conc
def FE:=@mem_listed
section
variable{P:Program}{wL:Loc→Prop}{Bd:Nat}{Stop:Goroutine→World→Nat→Prop}{w:World}{c:Nat}
def fC.next{g}(k:g.status=.running)(h:∀d,∃G W E,stepG P true g (w.at d)=.go G W E/\(∀e∈E,EvL wL Bd e)/\fC P wL Bd Stop G W c):fC P wL Bd Stop g w c:=by refine .step k (λd=>?_) λd m n l i=>?_;have⟨G,W,E,f,a,_⟩:=h d;exact⟨G,W,E,f,λe b=>⟨(a e b).1,(a e b).2.2.2⟩⟩;have⟨G,W,E,f,a,j⟩:=h d;cases f▸i;rw[deafBehind_still (λe b=>⟨(a e b).2.1,(a e b).2.2.1⟩) c];exact j
variable{b:Frame}{a:Act}{k:List Item}{cs:List Frame}{ops:Array Oper}{i:Nat}{rest:List Nat}{o:Oper}{Φ:World→Prop}
def fC.oper(p:∀d,Φ (w.at d))(j:ops[i]?=some o)(n:Region.wanted o (yielded ops a.tmps)=true)(g:b.kind≠.early)(h:∀q,Φ q->∃v W,(execOp a.eval o).run P q=.ok (.value v) W/\(∀e∈listed P b.fn a o q,EvL wL Bd e)/\fC P wL Bd Stop (G (b.at (a.put o.dst v) (.inRegion ops rest::k)) cs) W c):
 fC P wL Bd Stop (G (b.at a (.inRegion ops (i::rest)::k)) cs) w c:=
 .next rfl λd=>let⟨v,W,l,f,m⟩:=h (w.at d) (p d);⟨_,W,_,stepG_value j n g l,f,m⟩
def Js:=@fC.oper
def fC.aa1(p:∀d,Φ (w.at d))(j:ops[i]?=some o)(n:Region.wanted o (yielded ops a.tmps)=true)(g:b.kind≠.early)(h:∀q,Φ q->∃W,(execOp a.eval o).run P q=.ok .skip W/\(∀e∈listed P b.fn a o q,EvL wL Bd e)/\fC P wL Bd Stop (G (b.at (a.put o.dst undef) (.inRegion ops rest::k)) cs) W c):
 fC P wL Bd Stop (G (b.at a (.inRegion ops (i::rest)::k)) cs) w c:=
 .next rfl λd=>let⟨W,l,f,m⟩:=h (w.at d) (p d);⟨_,W,_,stepG_none j n g l,f,m⟩
def rS(n){g}(h:Goes P true AtRel Go.ConcR.DC0 (λg w=>fC P wL Bd Stop g w c) n g w):fC P wL Bd Stop g w c:=mJ (λw W E h e a=>by rw[h.2]at a;simp at a) n _ _ h
def Jt{S A}(x)(b:A.block<Bd)(c:¬S A.block):EvL (mr S) Bd ⟨.cell A,x,false⟩:=by refine⟨λy a d=>?_,S8,S8,b⟩;simp[MemAct.ofEvent,MemAct.touch?]at a;subst a;exact absurd d (by simpa[mr]using c)
end
structure sL(W:World)(h:Array Obj)(w:World):Prop where
 heap:w.heap=h
 os:w.oo=W.oo
 tape:w.tape=W.tape
def sL.at{W w h}(x:sL W h w)(d):sL W h (w.at d):=⟨x.heap,x.os,x.tape⟩
def sL.rel{W w a h}(x:sL W h w)(r:AtRel w a):sL W h a:=by obtain⟨d,rfl⟩:=r;exact x.at d
def sL.push{W w h}(x:sL W h w)(o):sL W (h.push o) (w.alloc o):=⟨by show w.heap.push o=_;rw[x.heap],x.os,x.tape⟩
def XB{h:Array Obj}{o n}(a:h.size=n):(h.push o)[n]?=some o:=by subst a;simp
def ah0{x h:Array Obj}{o O n}(e:x=h.push o)(b:h.size=n)(a:n<x.size):x.set n O a=h.push O:=by grind
end Go.Ren
namespace Go.Proofs.YtpjcmpfncpnmeaaGreat
open Go.Conc Go.ConcN Go.ConcN.Gen Go.RowKit Go.Conc.Lib Go.ConcR.Gen Go.Ren
open Go.ConcR (wgBlock WgAt stA smA rd wr mk Payload DC0 Bk)
def info_parts{P:Program}{t z n m}(h:(P.info? t).map (λi=>(i.zero,i.size,i.bytes))=some (z,n,m)):∃i,P.info? t=some i/\i.zero=z/\i.size=n/\i.bytes=m:=by simp_all
def aju:(Tryz.prog.info? 38).map (λi=>(i.zero,i.size,i.bytes))=some (some ↑aA,1,8):=K8
def NL(n:Nat)(h:n<1099511627776)(w):(Instr.makeSlice 301 (n:Int) (n:Int)).run Tryz.prog w=.ok (.slice (w:Nat) n n) (w.alloc<|.cells (madeCells #[aA] n) 38)/\∀E,(Instr.makeSlice 301 (n:Int) (n:Int)).events Tryz.prog w E=E:=by
 have⟨d,H,c,f,a⟩:=info_parts aju;have b:Tryz.prog.underlying 301=some (.slice 38):=by go_simp
 refine⟨?_,λE=>events_make w 301 38 d _ b H c .i64 .i64 (n:Int) (n:Int) O9 (lC _) (by rw[a];omega) O9 (by rw[a,oq];omega) E⟩;rw[(wC (P:=Tryz.prog) w 301 38 d _ b H c .i64 .i64 (n:Int) (n:Int) O9 (lC _) (by rw[a];omega) O9),f,Fb];rfl
section
variable{W:World}{k:CallKind}{cs:List Frame}{S:Nat→Prop}{Stop:Goroutine→World→Nat→Prop}{p:Option Addr}{cp N wk:Nat}
def DG(W:World)(p:Option Addr)(N c w:Nat):Array Obj:=((((W.heap.push<|.cells #[(p,N,c)] 126).push<|.cells #[.int .i64 w] 3).push<|.cells (madeCells #[aA] N) 38).push<|.cells #[.slice (some ⟨W.heap.size+2,0,none⟩) N N] 301).push<|wgBlock 320 0 0
def aeY(V:(iO 205 k).kind≠.early)(hN:N<1099511627776)(o:∀c,S c->c<W){x y L M O D P Q s t r}(F:∀w u J K I,sL W (DG W p N cp wk) w->fC Tryz.prog (mr S) (W+4) Stop (MG k cs (.slice p N cp::↑wk::.pointer (W:Nat)::.pointer ((W:Nat)+1,0)::u::.pointer ((W:Nat)+3,0)::.pointer ((W:Nat)+4,0)::D::J::K::I::tL 12 t r).toArray) w 0):
 fC Tryz.prog (mr S) (W+4) Stop (G ((iO 205 k).at ⟨(.slice p N cp::↑wk::x::y::L::M::O::D::P::Q::s::tL 12 t r).toArray,[]⟩ [.code yG]) cs) W 0:=by
 have g:∀{h:Array Obj}{w q:World},sL W h w->AtRel w q->sL W h q:=λh r=>h.rel r;have b:sL W W.heap W:=⟨rfl,rfl,rfl⟩;simp[tL,yG,Tryz.f205,nB];refine rS 50 ?_;u_c stepG_seq g b;u_reg g b;refine Goes.stop λn l=>?_;replace b:=g b l;refine Js (λd=>b.at d) rfl rfl (by k_ne) λq b=>?_;refine⟨.pointer q.heap.size,q.alloc<|.cells #[.slice p N cp] 126,by go_simp,(λe i=>?_),?_⟩;.have f:=FE i;simp[go_sem, *]at f
 have j:(q:Nat)=(W:Nat):=by rw[b.heap]
 rw[j];replace b:=b.push<|.cells #[.slice p N cp] 126;generalize q.alloc _=π at*;walk_nrm;refine Js (λd=>b.at d) rfl rfl (by k_ne) λq b=>?_;refine⟨.pointer q.heap.size,q.alloc<|.cells #[wk] 3,by go_simp,(λe i=>?_),?_⟩;.have f:=FE i;simp[go_sem, *]at f
 have j:(q:Nat)=(W:Nat)+1:=by rw[b.heap];simp
 rw[j];replace b:=b.push<|.cells #[wk] 3;generalize q.alloc _=A at*;walk_nrm;refine rS 50 ?_;u_op g b;u_c stepG_region_end g b;u_c stepG_seq g b;u_reg g b;refine Goes.stop λn l=>?_;replace b:=g b l;refine Js (λd=>b.at d) rfl rfl (by k_ne) λq b=>?_;have U:q.cell? ((W:Nat),0)=some (.slice p N cp):=by
  have:q.heap[(W:Nat)]?=some (.cells #[.slice p N cp] 126):=by rw[b.heap];simp[aaa]
  simp[World.cell?,this]
 refine⟨.slice p N cp,q,by go_simp,(λe i=>?_),?_⟩;.have f:=FE i;simp[go_sem, *]at f;subst f;exact Jt _ (by show(W:Nat)<_;omega) (λh=>by have:=o _ h;dsimp only at this;omega)
 walk_nrm;refine rS 50 ?_;u_op g b;refine Goes.stop λn l=>?_;replace b:=g b l;refine Js (λd=>b.at d) rfl rfl (by k_ne) λq b=>?_;have X:=(NL N hN q).1;have Y:=(NL N hN q).2;refine⟨.slice q.heap.size N N,q.alloc<|.cells (madeCells #[aA] N) 38,by go_simp,(λe i=>?_),?_⟩;.have f:=FE i;simp[go_sem, *]at f
 have j:(q:Nat)=(W:Nat)+2:=by rw[b.heap];simp
 rw[j];replace b:=b.push<|.cells (madeCells #[aA] N) 38;generalize q.alloc _=z at*;walk_nrm;refine Js (λd=>b.at d) rfl rfl (by k_ne) λq b=>?_;refine⟨.pointer q.heap.size,q.alloc<|.cells #[()] 301,by go_simp,(λe i=>?_),?_⟩;.have f:=FE i;simp[go_sem, *]at f
 have j:(q:Nat)=(W:Nat)+3:=by rw[b.heap];simp
 rw[j];replace b:=b.push<|.cells #[()] 301;generalize q.alloc _=B at*;walk_nrm;refine fC.aa1 (λd=>b.at d) rfl rfl (by k_ne) λq b=>?_;have m:q.heap[(W:Nat)+3]?=some (.cells #[()] 301):=b.heap▸XB S8;have c0:q.cell? ((W:Nat)+3,0)=some ():=by simp[World.cell?,m]
 have T:q.frozen? ((W:Nat)+3,0)=false:=by simp[World.frozen?,m]
 refine⟨q.setCell ((W:Nat)+3,0)<|.slice ((W:Nat)+2,0) N N,by go_simp,(λe i=>?_),?_⟩;.have f:=FE i;simp[go_sem,storedEv, *]at f;subst f;exact Jt _ (by show(W:Nat)+3<_;omega) (λh=>by have:=o _ h;dsimp only at this;omega)
 have H:=(eD.1 m).1;have j:=jF (a:=((W:Nat)+3,0)) (v:=.slice ((W:Nat)+2,0) N N) m H rfl;have E:=j.trans<|ah0 b.heap S8 _;replace b:sL W _ (q.setCell ((W:Nat)+3,0)<|.slice ((W:Nat)+2,0) N N):=⟨E,b.os,b.tape⟩;generalize q.setCell _ _=C at*;walk_nrm;refine rS 50 ?_;u_c stepG_region_end g b;u_c stepG_seq g b;u_reg g b;refine Goes.stop λn l=>?_;replace b:=g b l;refine Js (λd=>b.at d) rfl rfl (by k_ne) λq b=>?_;refine⟨.pointer q.heap.size,q.alloc<|wgBlock 320 0 0,by simp[wgBlock];go_simp,(λe i=>?_),?_⟩;.have f:=FE i;simp[go_sem, *]at f
 have j:(q:Nat)=(W:Nat)+4:=by rw[b.heap];simp
 rw[j];replace b:=b.push<|wgBlock 320 0 0;generalize q.alloc _=R at*;walk_nrm;have:=F R () (.slice p N cp) N (.slice ((W:Nat)+2,0) N N) b;exact this
end
end Go.Proofs.YtpjcmpfncpnmeaaGreat
end
section
namespace Go.Ren
open Go.Conc Go.ConcN
open Go.ConcR (Payload)
variable[Payload]
def aeZ{P s n Ch Anch}:∀r,∃S:fB,∀B g W,KSp P s n Ch Anch r B g W↔gH P s true aL aL S B g W
 |0=>⟨_,λ_ _ _=>Iff.rfl⟩
 |_+1=>⟨_,λ_ _ _=>Iff.rfl⟩
end Go.Ren
namespace Go.Proofs.YtpjcmpfncpnmeaaGreat
open Go.Conc Go.ConcN Go.ConcN.Gen Go.RowKit Go.Conc.Lib Go.ConcR.Gen Go.Ren
open Go.ConcR (wgBlock WgAt stA smA rd wr mk Payload DC0 Bk)
instance ak5:Payload:=⟨38⟩
def nG(H N:Nat)(S:Nat->Prop):Site:=⟨320,H+4,H+2,N,H+5,S⟩
def Av(H T o c w:Nat)(k l id:Nat->ByteArray)(h:Nat->Int):zb:=⟨H,H+1,H+3,T,o,c,w,k,l,id,h⟩
section
variable{H N T o cp wk:Nat}{S:Nat→Prop}{key lock id:Nat→ByteArray}{aT:Nat→Int}{p:Option Addr}{W w:World}{k:CallKind}{cs:List Frame}
def ajv(d:∀c,S c->c<H)(b:0<N->T<H/\¬S T):FD (nG H N S) (Av H T o cp wk key lock id aT):=by
 have a:∀n,¬S (H+n):=λn h=>by have:=d _ h;omega
 refine⟨⟨?_,?_,?_,a 0⟩,⟨?_,?_,?_,a 1⟩,⟨?_,?_,?_,a 3⟩,λe=>⟨?_,?_,?_,(b e).2⟩,?_,?_,?_⟩<;>simp[nG,Av]<;>first|omega|(have:=(b e).1;omega)
def ajw(e:∀c,S c->c<H):Fix (nG H N S) (Q7 (nG H N S)<|Av H T o cp wk key lock id aT):=by refine⟨?_,?_,?_,λb f=>?_,λi k c a d=>a.2.symm.trans d.2⟩<;>simp only[nG];omega;omega;omega;have:=e b f;omega
def FH{b}(h:sL W (DG W p N cp wk) w)(a:b<(W:Nat)):w.heap[b]?=W.heap[b]?:=by rw[h.heap,DG];simp[aaa];rw[aJ O9,aJ O9,aJ O9,aJ O9,aJ O9]
def Ve(h:sL W (DG W p N cp wk) w):w.heap[(W:Nat)]?=some (.cells #[(p,N,cp)] 126)/\w.heap[(W:Nat)+1]?=some (.cells #[wk] 3)/\w.heap[(W:Nat)+2]?=some (.cells (madeCells #[aA] N) 38)/\w.heap[(W:Nat)+3]?=some (.cells #[.slice ((W:Nat)+2,0) N N] 301)/\w.heap[(W:Nat)+4]?=some (wgBlock 320 0 0)/\w=(W:Nat)+5:=by rw[h.heap,DG];simp only[aaa,Ui];refine⟨?_,?_,?_,?_,?_,trivial⟩;grind;simp;simp;simp;simp
def akD(h:sL W (DG W p N cp wk) w)(a:0<N->p=some ⟨T,o,none⟩/\T<W)(k:∀x,x<N->W.cell? (T,o+x*4)=some ↑(key x)/\W.cell? (T,o+x*4+1)=some ↑(lock x)/\W.cell? (T,o+x*4+2)=some ↑(id x)/\W.cell? (T,o+x*4+3)=some ↑(aT x)):
 FSx (nG W N S) (Av W T o cp wk key lock id aT) p cp w:=by
 have⟨H,c,d,f,g,i⟩:=Ve h;have C:w.cell? ((W:Nat),0)=some (.slice p N cp):=by simp[World.cell?,H]
 refine⟨⟨λhN=>?_,by simp[Av,World.cell?,c],by simp[Av,nG,World.cell?,f],λx b=>?_,⟨_,d,Uj _ _⟩,pK i.symm⟩,⟨0,0,g⟩,C⟩;rw[(a hN).1]at C;exact C;have e:=λO=>cell_of_block (FH h<|(a<|aab (cH _) b).2) O;simp[Av,e];exact k x b
def aa2{A a b}(h:A[0]?=some a)(v:A[1]?=some b):∃f g p q r s t u V x y,A++Array.replicate (23 -A.size) undef=(a::b::f::g::p::q::r::s::t::u::V::tL 12 x y).toArray:=by
 have l:=(eD.1 v).1;have⟨_,_,x,y,e⟩:=aa3<|room A 23;have c:(A++Array.replicate (23 -A.size) undef)[0]?=some a:=by rw[aac O9];exact h
 have d:(A++Array.replicate (23 -A.size) undef)[1]?=some b:=by rw[aac l];exact v
 rw[e]at c d;simp at c d;subst c d;exact⟨_,_,_,_,_,_,_,_,_,_,_,e⟩
def ajx{e a sl t q}{er nr:Nat->Int}(f:(iO 205 k).kind≠.early)(L:a[0]?=some (cF Tryz.prog 205 e k cs))(ai:Leavers Tryz.prog t a q)(aj:kF (mr S) W 0 t)(A:∀c,S c->c<W)(aa:e[0]?=some (.slice p N cp))(ab:e[1]?=some (.int .i64 wk))(hN:N<2147483648)(bg:0<wk)(ay:wk<2147483648)(C:0<N->p=some ⟨T,o,none⟩/\T<W/\¬S T)
 (au:∀x,x<N->W.cell? (T,o+x*4)=some ↑(key x)/\W.cell? (T,o+x*4+1)=some ↑(lock x)/\W.cell? (T,o+x*4+2)=some ↑(id x)/\W.cell? (T,o+x*4+3)=some ↑(aT x))
 (ak:∀x,x<N->zf (Av W T o cp wk key lock id aT) x (er x) (nr x)):
 ∃M j b m D K Q J,runNT Tryz.prog M (crowd a W sl) t=(.next<|crowd b m D,j)/\sL W (DG W p N cp wk) J/\Ju Tryz.prog (nG W N S) a.size (min wk N) (Q7 (nG W N S)<|Av W T o cp wk key lock id aT) (λx=>(er x)) J (ae0 (nG W N S) k cs) b m j K Q:=by
 have y:=ajv (T:=T) (o:=o) (cp:=cp) (wk:=wk) (key:=key) (lock:=lock) (id:=id) (aT:=aT) A λh=>(C h).2;have⟨v2,v3,a9,ba,bb,π,bc,bd,am,X,Y,ac⟩:=aa2 aa ab;have af:cF Tryz.prog 205 e k cs=G ((iO 205 k).at ⟨(.slice p N cp::↑wk::v2::v3::a9::ba::bb::π::bc::bd::am::tL 12 X Y).toArray,[]⟩ [.code yG]) cs:=by rw[FI e k cs Tryz.func205 rfl,<-ac];rfl
 rw[af]at L;have ar:=Aw (aeY (W:=W) (S:=S) (N:=N) (wk:=wk) (p:=p) (cp:=cp) (cs:=cs) (Stop:=λg w c=>c=0/\sL W (DG W p N cp wk) w/\∃U u v l,g=MG k cs (.slice p N cp::↑wk::.pointer W.heap.size::.pointer ((W:Nat)+1,0)::U::.pointer ((W:Nat)+3,0)::.pointer ((W:Nat)+4,0)::π::u::v::l::tL 12 X Y).toArray) f O9 A (λw U u v l h=>.stop λd=>⟨rfl,h.at d,U,u,v,l,rfl⟩)) _ W.drawn a sl t q rfl L ai<|aj.mono O9
 obtain⟨M,b,K,O,bf,D,j,Q,r1,r2,r3,⟨rfl,z,U,u,v,l,rfl⟩,a4,a5⟩:=ar;have⟨bj,bk,az,bm,V,a2⟩:=Ve z;have⟨an,H⟩:=aeZ (P:=Tryz.prog) (s:=nG W N S) (n:=min wk N) (Ch:=Child Tryz.prog (nG W N S) (Q7 (nG W N S)<|Av W T o cp wk key lock id aT) λx=>(er x)) (Anch:=Ax (nG W N S) (Av W T o cp wk key lock id aT) (min wk N) k cs)<|min wk N;have ad:=Q8 (P:=Tryz.prog) (s:=nG W N S) (n:=min wk N) (oc:=Q7 (nG W N S)<|Av W T o cp wk key lock id aT) (fin:=λx=>(er x)) (Anch:=Ax (nG W N S) (Av W T o cp wk key lock id aT) (min wk N) k cs) (Fin:=ae0 (nG W N S) k cs) (gs:=b) (W:=O) (sl:=D) (t:=j) (q:=Q) (ajw A) (λi hi=>⟨by show i<N;omega,Ng<|by show i<wk;omega⟩) O9 (λB g W⟨T,_,F,av,_⟩=>by rw[av];rfl) (λB g W h=>ah1 rfl f y g h) (λap W d h=>h) r3
  ((H _ _ _).2 (aeX (n:=min wk N) f y rfl (akD z (λh=>⟨(C h).1,(C h).2.1⟩) au) λF m ao ah=>(H _ _ _).1<|aa4 (n:=min wk N) rfl f y (Nat.min_le_left _ _) (Nat.min_le_right _ _) (by show N<_;omega) ay O9 ak (λ_=>rfl) (min wk N) F m L9 (by rw[rK];exact ao) ah)) a4 a5 ⟨_,az,Uj _ _⟩ V (pK a2.symm)
 have⟨E,a8,ag,R,a7,ae,a3,a6,I⟩:=ad;rw[r2]at I;refine⟨M+E,a8,ag,R,a7,ae,a3,O,?_,z,I⟩;rw[runNT_add];show(match runNT Tryz.prog M (crowd a (W.at W.drawn) sl) t with|(.next al,t)=>runNT Tryz.prog E al t|r=>r)=_;rw[r1];exact a6
end
end Go.Proofs.YtpjcmpfncpnmeaaGreat
end
namespace Go.Ren
open Go.Conc
def IC{X V P tl G aU}(al:Fit G V P)(ad:jU G V P)(an:Dz X V P)(aq:∀f,X f->∃H s,V.funcs[f]?=some H/\H.body=some (.refuse s))(ah:tl≠[]){g w}(ao:Tree V aU g w):∀h C W,uI V P tl G h g w C W->w.tape=W.tape->DD P (ahs V P tl G aU) (range h) C W:=by
 induction ao with
 |@node g w af ax k aj=>
   intro h C W R S;have ag:C.status=.running:=by have⟨a3,r,c⟩:=R.ok.one;rw[R.g a3 r c];exact af
   have π:∀b,RB (range h) W b->ji X V P tl ⟨lF (stepG V true g<|w.at b.drawn),0,w.tape⟩ G h b (stepG V true g<|w.at b.drawn) (stepG P false C b)/\¬Lz ⟨lF (stepG V true g<|w.at b.drawn),0,w.tape⟩ (stepG V true g<|w.at b.drawn) (stepG P false C b):=λb j=>by have z:=R.keep j;refine⟨wI (tl:=tl) (main:=true) (main':=false) al ad an (λ_=>⟨rfl,λe=>absurd e ah⟩) z.ok ⟨z.obj,λi q _=>?_,z.os,by simp[World.at],rfl⟩ z.Lx z.g,λI=>?_⟩;show w.tape (b.drawn+i) q=b.tape (b.drawn+i) q;rw[S,j.tape];have:=wJ.1 I.1;simp only at this;omega
   have Q:∀{b d:World}{a:Nat->Option Nat}{A x:Array Event}{ay:Nat},Ext h a->Fr h a b d->fT G a ay (d:Nat)->wz G a A x->GB (range h) b d x:=λe f O U=>by refine⟨λc E J=>f.rest c E λar D=>J ⟨ar,D⟩,f.size,f.os,f.tape,f.output,λa1 ai c E=>?_,λaw=>zq O U aw⟩;have:=OP O U a1 ai c E;rw[<-GG e f O];exact this
   have a5:∀b,RB (range h) W b->(∃v F A,stepG V true g (w.at b.drawn)=.ended (.done v) F A/\aU v F)->ahs V P tl G aU (range h) C b:=by rintro b j⟨v,F,A,e,ae⟩;have⟨n,B⟩:=π b j;rw[e]at n B;obtain n|⟨ak,d,x,a,o,K,t,y,u,L,M⟩:=n;simp_all;exact⟨v,ak,F,d,x,a,o,Q K u t M,ae,L,t⟩
   have a6:∀b,RB (range h) W b->∀l m A,stepG V true g (w.at b.drawn)=.go l m A->∃p d x a,stepG P false C b=.go p d x/\GB (range h) b d x/\range a=grow (range h) b d/\uI V P tl G a l m p d/\m.tape=d.tape:=λb j l m A e=>by have⟨n,B⟩:=π b j;rw[e]at n B;obtain n|n|⟨p,d,x,a,o,K,t,y,u,L,M⟩:=n;simp_all;grind [zr];obtain⟨ab,aa⟩|⟨f,N,Y,cl,_,_,ap,_,_,_,rfl,_⟩:=L;refine⟨p,d,x,a,o,Q K u t M,GG K u t,⟨ab,t,y.obj,y.os,aa⟩,?_⟩;rw[y.tp];show w.tape=_;rw[S,u.tape,j.tape];exfalso;have⟨H,s,I,D⟩:=aq f ap;cases ax _ _ _ _ e with
    |node _ _ kk=>
      have T:∃r,stepG V true (cF V f N Y cl) (m.at m.drawn)=.ended (.unsupported r (Frame.pos V<|Frame.enter V f N Y)) (m.at m.drawn) #[]:=by simp only[cF,stepG,Frame.enter,I,zZ,D,nB,stepG.exec];exact⟨_,rfl⟩
      have⟨r,T⟩:=T;obtain⟨v,a0,au,ac,_⟩|⟨az,a2,av,ac⟩:=kk m.drawn;simp_all;grind
   refine .node ag (λb j=>?_) λb p d x j J e=>?_;obtain am|⟨l,m,A,e⟩:=k b.drawn;grind;grind;obtain am|⟨l,m,A,a4⟩:=k b.drawn;grind;grind
def DD.mono{P tP b}(h:∀B g W,tP B g W->b B g W){B g W}(f:DD P tP B g W):DD P b B g W:=by induction f with
 |node i k _ j=>exact .node i (λw a=>(k w a).imp (h _ _ _) id) λw G l E a d e=>j w G l E a (λc=>d<|h _ _ _ c) e
end Go.Ren
namespace Go.Proofs
open Go.Ren
abbrev gY.vb:VB:=⟨false⟩
noncomputable abbrev gY.prog:Program:=@Vp gY.vb
abbrev gY.X(k:FuncId):Prop:=@aI.X gY.vb k
def gY.ref{f c}(h:@aI.code gY.vb f=some c):c=.refuse "not here" :=by
 unfold aI.code at h;repeat' split at h
 all_goals first|(cases h;rfl)|cases h
def gY.there:(List.range 400).all (λf=>(@aI.code gY.vb f).isNone||(Tryz.prog.funcs[f]?).isSome)=true:=K8
def gY.low(f:Nat){c}(a:@aI.code gY.vb f=some c):f<400:=by
 unfold aI.code at a;repeat' split at a
 all_goals first|(cases a;done)|(subst_vars;decide)|(rename_i h;simp at h;obtain rfl|rfl|rfl|rfl|rfl|rfl:=h<;>decide)
def gY.refused(f)(h:gY.X f):∃F s,gY.prog.funcs[f]?=some F/\F.body=some (.refuse s):=by
 have⟨c,a⟩:=aaD.1 h;have:=Dn.1 gY.there f (wB.2<|gY.low f a);rcases b:Tryz.prog.funcs[f]? with _|F;.rw[a,b]at this;cases this
 refine⟨@aI.iV gY.vb f F, "not here",by rw[@aI.at gY.vb,b];rfl,?_⟩;unfold aI.iV;rw[a,gY.ref a]
def ahl:=@gY.refused
end Go.Proofs
namespace Go.Ren
open Go.Conc
def held(f:FuncId)(k:CallKind)(v:Value):Frame:={fn:=f,tmps:=#[undef,undef,undef,undef,v],todo:=[],defers:=[],mode:=.returning,kind:=k}
def GI(f:FuncId)(k:CallKind)(c:List Frame)(v:Value):Goroutine:={frame:=held f k v,callers:=c,status:=.running,dying:=none}
def J3{P f k C F n v}(j:P.funcs[f]?=some n)(l:n.results=#[.tmp 4])(d:F.fn=f)(e:F.kind=k)(g:F.mode=.returning)(h:F.defers=[])(i:F.tmps[4]?=some v)(a:k=.normal\/k=.deferred)(w):stepG P true {frame:=F,callers:=C,status:=.running,dying:=none} w=stepG P true (GI f k C v) w:=by
 subst d e;simp[stepG,GI,held,g,unwind,h];have b:∀t,t[4]?=some v->results n t=pure v:=λt m=>by simp[results,l,m]
 rw[j];simp[b _ i,b #[undef,undef,undef,undef,v] rfl];cases C with
 |cons c r=>rfl
 |nil=>obtain a|a:=a<;>simp[doReturn,a]<;>rfl
def Cb.slice{X V P G t f A d k cs j w W}(R:Cb X V P G t f A k cs w d j W){i:Nat}{a n c}(h:A[i]?=some (.slice (some a) n c))(m:n≠0):∃b,t a.block=some b/\d[i]?=some (.slice (some {a with block:=b}) n c):=by
 have K:∀g,Rn G g->Cp t g->d[i]?=some (.slice (some<|cL g a) n c):=λg r c=>by rw[(R.g g r c).1,kW,h];simp[qF (Z:=g) (a:=a) (l:=n) λh=>m h.1]
 have⟨g,r,C⟩:=R.ok.one;have⟨x,o,p⟩:=tU R.ok (a:=a) (a':=cL g a) (λs q e=>by have:=(K g r C).symm.trans<|K s q e;simpa using this)
 exact⟨x,o,by rw[K g r C,p]⟩
def LF{X V P G aU}(F:Fit G V P)(C:jU G V P)(ac:Dz X V P){M o f K J k e j w W π μ' Q T t S'}(R:Cb X V P G π f K k e w J j W)(ap:Tree V aU (cF V f K k e) w)(az:Ext π μ')
 {y x}(ah:V.funcs[f]?=some y)(aj:y.results=#[.tmp 4])(ag:P.funcs[f]?=some x)(ai:x.results=#[.tmp 4])(bs:yt V f=true)
 {L m g a v l}(q:tP f k L)(au:L.tmps[4]?=some v)(A:kx V (cF V f K k e) w (yH L e) g)(p:tP f k m)(ar:m.tmps[4]?=some l)(av:mL V (held f k v)=true)(ay:gN G μ' λO=>l=aV O v)
 {N n H i U}(Y:runNT P N (crowd Q W T) t=(.next<|crowd n a H,i))(r3:n[0]?=some (yH m j))(bb:Leavers P i n U)(bc:kF (mr S') a 0 i)(z:∀c,S' c->c<a)(ao:∀b c,μ' b=some c->¬S' c)
 (a2:fT G μ' g a)(a0:QT V G μ' g a)(a3:a.os=g.os)(bm:g.tape=a.tape)(B:Kp M o S' μ' a):
 (∃N E i d h,runNT P N (crowd Q W T) t=(.next E,i)/\kx V (cF V f K k e) w d h/\uL X V P G M o d h E i)\/Ends P (DK V G aU M o) (crowd Q W T) t:=by
 have D:∀w,stepG V true (yH L e) w=stepG V true (GI f k e v) w:=λw=>J3 ah aj q.fn q.kind q.mode q.defers au R.kind w;have aa:=J1 D rfl<|A.tree ap;have ax:uI V P [] G μ' (GI f k e v) g (GI f k j l) a:=by refine⟨⟨av,R.okc,rfl,rfl,rfl,OA R.bt rfl⟩,a2,a0,a3,λO r c=>?_⟩;have:=(R.g O r λb u aq=>c b u<|az b u aq).2;simp[GI,oH,this];simp[held,cU,rQ,ay O r c]
 have ab:=OS (S:=S') (μ0:=μ') (W0:=a) F C ac z aa ax bm (ach ao) (λw=>(J3 ag ai p.fn p.kind p.mode p.defers ar R.kind w).symm) rfl;obtain⟨I,am,ad,W2,br,bk,bo,ba,bd,bu,bf,⟨rfl,d,h,bq,af,ak,al,s⟩,bg,bj⟩|an:=uW ab _ a.drawn n H i U rfl r3 bb bc;refine .inl ⟨N+I,_,bo,d,h,?_,(λd h(aw:kx V (GI f k e v) g d h)=>A.trans<|J2 (λw=>(D w).symm) aw) _ _ af,am,bk,ba,bq,W2,ad,S',rfl,bf,ak,al,bg,bj,λc ae=>?_,s.EE,B.since s⟩;rw[runNT_add,Y];exact bd;have:=z c ae;have:=s.size;omega;exact .inr (JZ Y<|an.mono λl W'⟨v,w',bp,a4,a5,a6,a7,a8,a9⟩=>⟨v,w',bp,a4,a5,a6,a7,a8,S',B.since a9⟩)
end Go.Ren
namespace Go.Proofs.YtpjcmpfncpnmeaaGreat
open Go.Conc.Locks
abbrev Vy:RwLink:={lock:=69,unlock:=78,ilock:=118,iunlock:=120,lockSlow:=160,unlockSlow:=161,disable:=68,enable:=72,acquire:=73,relMerge:=75,cas32:=159,add32:=119,tMutex:=115,tIMutex:=113,tPMutex:=173,tPIMutex:=262,tPI32:=229,tUP:=172,tNoCopy:=110,tU32:=111,rlock:=43,runlock:=44,wlock:=35,wunlock:=36,i32add:=70,raceRead:=67,release:=74,rUnlockSlow:=90,semacqR:=89,semacqW:=71,semrel:=77,sfatal:=76,tRW:=120,tPRW:=170,tAI32:=118,tPAI32:=227,tPU32:=176,tANoCopy:=116}
def JQ:RwCore Tryz.prog Vy:=⟨Tryz.func70,Tryz.func67,Tryz.func68,Tryz.func72,Tryz.func73,Tryz.func75,Tryz.func119,Tryz.underlying120,Tryz.runUnderlying120,Tryz.sizeOf120,Tryz.isAgg120,Tryz.zeroValue120,Tryz.underlying118,Tryz.runUnderlying118,Tryz.sizeOf118,Tryz.isAgg118,Tryz.zeroValue118,Tryz.underlying170,Tryz.runUnderlying170,Tryz.sizeOf170,Tryz.isAgg170,Tryz.zeroValue170,Tryz.underlying227,Tryz.runUnderlying227,Tryz.sizeOf227,Tryz.isAgg227,Tryz.zeroValue227,Tryz.underlying176,Tryz.runUnderlying176,Tryz.sizeOf176,Tryz.isAgg176,Tryz.zeroValue176,Tryz.underlying116,Tryz.runUnderlying116,Tryz.sizeOf116,Tryz.isAgg116,Tryz.zeroValue116,Tryz.underlying111,Tryz.runUnderlying111,Tryz.sizeOf111,Tryz.isAgg111,Tryz.zeroValue111,Tryz.underlying115,Tryz.runUnderlying115,Tryz.sizeOf115,Tryz.isAgg115,Tryz.zeroValue115,Tryz.underlying173,Tryz.runUnderlying173,Tryz.sizeOf173,Tryz.isAgg173,Tryz.zeroValue173,Tryz.underlying229,Tryz.runUnderlying229,Tryz.sizeOf229,Tryz.isAgg229,Tryz.zeroValue229,Tryz.underlying172,Tryz.runUnderlying172,Tryz.sizeOf172,Tryz.isAgg172,Tryz.zeroValue172,Tryz.underlying21,Tryz.runUnderlying21,Tryz.sizeOf21,Tryz.isAgg21,Tryz.zeroValue21,K8,K8⟩
def afg:MuLib Tryz.prog Vy.toMuLink:=⟨Tryz.func69,Tryz.func78,Tryz.func118,Tryz.func120,Tryz.func68,Tryz.func72,Tryz.func73,Tryz.func75,Tryz.func159,Tryz.func119,Tryz.underlying113,Tryz.runUnderlying113,Tryz.sizeOf113,Tryz.isAgg113,Tryz.zeroValue113,Tryz.underlying115,Tryz.runUnderlying115,Tryz.sizeOf115,Tryz.isAgg115,Tryz.zeroValue115,Tryz.underlying173,Tryz.runUnderlying173,Tryz.sizeOf173,Tryz.isAgg173,Tryz.zeroValue173,Tryz.underlying262,Tryz.runUnderlying262,Tryz.sizeOf262,Tryz.isAgg262,Tryz.zeroValue262,Tryz.underlying229,Tryz.runUnderlying229,Tryz.sizeOf229,Tryz.isAgg229,Tryz.zeroValue229,Tryz.underlying172,Tryz.runUnderlying172,Tryz.sizeOf172,Tryz.isAgg172,Tryz.zeroValue172,Tryz.underlying110,Tryz.runUnderlying110,Tryz.sizeOf110,Tryz.isAgg110,Tryz.zeroValue110,Tryz.underlying21,Tryz.runUnderlying21,Tryz.sizeOf21,Tryz.isAgg21,Tryz.zeroValue21,K8⟩
def Cj:RwRLib Tryz.prog Vy:=⟨JQ,Tryz.func43,Tryz.func44⟩
def Cl:RwWLib Tryz.prog Vy:=⟨JQ,afg,Tryz.func35,Tryz.func36,Tryz.func74,Tryz.underlying3,Tryz.runUnderlying3,Tryz.sizeOf3,Tryz.isAgg3,Tryz.zeroValue3⟩
end Go.Proofs.YtpjcmpfncpnmeaaGreat
namespace Go.Ren
open Go.Conc Go.ConcX Go.ConcX.Gen Go.RowKit Go.Conc.Lib Go.Conc.Locks
section
variable{P:Program}{L:RwLink}{l:Loc→Prop}{B:Nat}{Stop:Goroutine→World→Nat→Prop}
def pd(a x)(h:a.block<B):EvL l B ⟨.cell a,x,true⟩:=by
 refine⟨λy b=>?_,S8,S8,?_⟩;simp[ofEvent_cell0,MemAct.touch?]at b;subst b;exactλ_=>by simp
 trivial
def Bb(m)(a:m≠.disable)(b:m≠.enable)(c:∀y,(MemAct.ofEvent ⟨.mark m,false,true⟩).touch?=some y->y.kind≠.plain)(d:(MemAct.ofEvent ⟨.mark m,false,true⟩).low B):EvL l B ⟨.mark m,false,true⟩:=⟨λy e _=>c y e,by simpa using a,by simpa using b,d⟩
def A9(a)(h:a.block<B):EvL l B ⟨.mark<|.read a,false,true⟩:=Bb _ S8 S8 (λy b=>by simp[MemAct.ofEvent,MemAct.touch?]at b;subst b;simp) h
def rY(a)(h:a.block<B):EvL l B ⟨.mark<|.acquire a,false,true⟩:=Bb _ S8 S8 (λy b=>by simp[MemAct.ofEvent,MemAct.touch?]at b) h
def uV(a)(h:a.block<B):EvL l B ⟨.mark<|.releaseMerge a,false,true⟩:=Bb _ S8 S8 (λy b=>by simp[MemAct.ofEvent,MemAct.touch?]at b) h
def fC.mark{g G w c}(m)(a:g.status=.running)(h:∀d,stepG P true g (w.at d)=.go G (w.at d) #[⟨.mark m,false,true⟩])(f:EvM l B ⟨.mark m,false,true⟩)(k:∀d,fC P l B Stop G (w.at d)<|deafBehind c #[⟨.mark m,false,true⟩]):fC P l B Stop g w c:=by
 refine .step a (λd=>⟨G,w.at d,_,h d,λe i=>?_⟩) λd b W E e=>?_;simp_all;grind
def kH{g G w c n k}(m C)(h:∀d,stepG P true g (w.at d)=.go G (w.at d) #[⟨.mark m,false,true⟩])(K:Goes P true AtRel (DE<|EvL l B) (λg w=>fC P l B Stop g w C) k G w)(s:g.status=.running:=by rfl)(a:m=.disable\/m=.enable:=by simp)(e:deafBehind c #[⟨.mark m,false,true⟩]=C:=by rfl):Goes P true AtRel (DE<|EvL l B) (λg w=>fC P l B Stop g w c) n g w:=Goes.stop λW⟨d,f⟩=>f▸(fC.mark m s h (by obtain rfl|rfl:=a<;>exact⟨λy j=>by simp[MemAct.ofEvent,MemAct.touch?]at j,trivial⟩) λd=>e▸(mJ (λ_ _ _ h=>h) k _ _ K).at d).at d
def mF{g G w e n Q}(h:∀d,stepG P true g (w.at d)=.go G (w.at d) #[e])(v:EvL l B e)(K:Goes P true AtRel (DE<|EvL l B) Q n G w)(s:g.status=.running:=by rfl):Goes P true AtRel (DE<|EvL l B) Q (n+1) g w:=Goes.step s λW⟨d,e⟩=>by subst e;rw[h d];exact⟨λe a=>by simp at a;subst a;exact v,K.rely atRel_trans ⟨d,rfl⟩⟩
end
def JU:=@stepG_seq
def Gz:=@stepG_region_end
section
variable{P:Program}{L:RwLink}{M:Loc→Prop}{B:Nat}{Stop:Goroutine→World→Nat→Prop}
def Rk(q:RwRLib P L){F R}(b:Frame)(g:b.kind≠.early)(J:b.roundOf=none)(x w j O o k n)(i:j<B)(y:w.cell? (j,O)=some o)(E:w.cell? (j,O+3)=some k)(v:w.cell? (j,O+4)=some (.int .i32 n))(C:w.frozen? (j,O+4)=false)(K:0<=n)(I:n<2147483647)
 (u:∀T,fC P M B Stop (G (b.at ⟨T,[]⟩ []) x) (w.setCell (j,O+4) (.int .i32<|n+1)) 0):
 fC P M B Stop (G (b.at ⟨(.pointer (j,O)::tL 22 F R).toArray,[]⟩ [.code<|(rlockFn L).body.getD .skip]) x) w 0:=by
 have H:=q.core;have p:=H;cases p;simp only[tL,rlockFn,nB];refine mJ (D:=DE<|EvL M B) (λ_ _ _ h=>h) 40 _ _ ?_;l_c JU;l_cond true;l_c JU;l_reg;l_op;l_op;l_op;l_conv H.underlying_tPMutex H.room_tMutex (λd=>(show(w.at d).cell? (j,O)=some o from y));refine mF (λd=>stepG_markAt .read S8 rfl rfl g rfl H.f_raceRead K8 K8 K8 K8 (ad:=(j,O)) E9) (A9 _ i) ?_;walk_nrm;l_c Gz;l_reg;refine kH .disable 1 (k:=60) (λd=>stepG_mark0 .disable S8 rfl rfl g rfl H.f_disable K8 K8 K8 K8) ?_;walk_nrm;l_c Gz;l_c JU;l_c JU;l_reg;l_op;l_op;l_op;l_call H.f_i32add rfl i32addFn;iterate 10 first|l_reg|l_op|l_c JU|l_c Gz
 refine Goes.step rfl λW c=>?_;have⟨m,z⟩:=c;subst z;simp only[at_at];rw[stepG_add_atomic rfl rfl (base_kind _) rfl H.f_add32 K8 K8 K8 .i32 K8 rfl rfl (show(w.at m).cell? (j,O+4)=some (.int .i32 n)from v)<|show(w.at m).frozen? (j,O+4)=false from C];simp only[goes_go];refine⟨λe a=>?_,?_⟩;simp at a;obtain rfl|rfl:=a<;>exact pd _ _ i;have s:IntKind.i32.wrap (n+1)=n+1:=by have:IntKind.i32.bits=32:=rfl;have t:IntKind.i32.signed=true:=rfl;simp only[IntKind.wrap,this,t];split<;>rename_i h<;>simp at h<;>omega
 rw[s,setCell_at];walk_nrm;l_op;l_c Gz;l_c stepG_ret';l_leave1 H.f_i32add;l_op;l_c Gz;have A:decide (n+1<0)=false:=by simp;omega
 rw[A];l_cond false;l_c stepG_skip;l_cond true;l_c JU;l_reg;refine kH .enable 0 (k:=20) (λd=>stepG_mark0 .enable S8 rfl rfl g rfl H.f_enable K8 K8 K8 K8) ?_;walk_nrm;l_c Gz;l_reg;l_op;l_op;l_op;have r:(w.setCell (j,O+4) (.int .i32<|n+1)).cell? (j,O+3)=some k:=(Fi _ (j,O+4) (j,O+3) _ S8).trans E;l_conv H.underlying_tPU32 H.room_tU32 (λd=>(show((w.setCell (j,O+4) (.int .i32<|n+1)).at d).cell? (j,O+3)=some k from r));refine mF (λd=>stepG_markAt .acquire S8 rfl rfl g rfl H.f_acquire K8 K8 K8 K8 (ad:=(j,O+3)) E9) (rY _ i) ?_;walk_nrm;l_c Gz;refine Goes.stop λW c=>?_;have⟨l,f⟩:=c;subst f;exact(u _).at _
end
def GA:=@stepG_seq
def GC:=@stepG_region_end
section
variable{P:Program}{L:RwLink}{J:Loc→Prop}{B:Nat}{Stop:Goroutine→World→Nat→Prop}
def LQ(q:RwRLib P L){E R}(b:Frame)(g:b.kind≠.early)(C w j O m o n)(i:j<B)(v:w.cell? (j,O)=some m)(y:w.cell? (j,O+2)=some o)(u:w.cell? (j,O+4)=some (.int .i32 n))(A:w.frozen? (j,O+4)=false)(I:0<n)(F:n<=2147483647)
 (t:∀T,fC P J B Stop (G (b.at ⟨T,[]⟩ []) C) (w.setCell (j,O+4) (.int .i32<|n -1)) 0):
 fC P J B Stop (G (b.at ⟨(.pointer (j,O)::tL 23 E R).toArray,[]⟩ [.code<|(runlockFn L).body.getD .skip]) C) w 0:=by
 have H:=q.core;have p:=H;cases p;simp only[tL,runlockFn,nB];refine mJ (D:=DE<|EvL J B) (λ_ _ _ h=>h) 40 _ _ ?_;l_c GA;l_cond true;l_c GA;l_reg;l_op;l_op;l_op;l_conv H.underlying_tPMutex H.room_tMutex (λd=>(show(w.at d).cell? (j,O)=some m from v));refine mF (λd=>stepG_markAt .read S8 rfl rfl g rfl H.f_raceRead K8 K8 K8 K8 (ad:=(j,O)) E9) (A9 _ i) ?_;walk_nrm;l_c GC;l_c GA;l_reg;l_op;l_op;l_op;l_conv H.underlying_tPU32 H.room_tU32 (λd=>(show(w.at d).cell? (j,O+2)=some o from y));refine mF (λd=>stepG_markAt .releaseMerge S8 rfl rfl g rfl H.f_relMerge K8 K8 K8 K8 (ad:=(j,O+2)) E9) (uV _ i) ?_;walk_nrm;l_c GC;l_reg;refine kH .disable 1 (k:=60) (λd=>stepG_mark0 .disable S8 rfl rfl g rfl H.f_disable K8 K8 K8 K8) ?_;walk_nrm;l_c GC;l_c GA;l_c GA;l_reg;l_op;l_op;l_op;l_call H.f_i32add rfl i32addFn;iterate 10 first|l_reg|l_op|l_c GA|l_c GC
 refine Goes.step rfl λW c=>?_;have⟨l,x⟩:=c;subst x;simp only[at_at];rw[stepG_add_atomic rfl rfl (base_kind _) rfl H.f_add32 K8 K8 K8 .i32 K8 rfl rfl (show(w.at l).cell? (j,O+4)=some (.int .i32 n)from u)<|show(w.at l).frozen? (j,O+4)=false from A];simp only[goes_go];refine⟨λe a=>?_,?_⟩;simp at a;obtain rfl|rfl:=a<;>exact pd _ _ i;have r:IntKind.i32.wrap (n+-1)=n -1:=by have:IntKind.i32.bits=32:=rfl;have s:IntKind.i32.signed=true:=rfl;simp only[IntKind.wrap,this,s];split<;>rename_i h<;>simp at h<;>omega
 rw[r,setCell_at];walk_nrm;l_op;l_c GC;l_c stepG_ret';l_leave1 H.f_i32add;iterate 7 first|l_reg|l_op|l_c GC|l_c GA
 have z:decide (n -1<0)=false:=by simp;omega
 rw[z];l_cond false;l_c stepG_skip;l_cond true;l_reg;refine kH .enable 0 (k:=20) (λd=>stepG_mark0 .enable S8 rfl rfl g rfl H.f_enable K8 K8 K8 K8) ?_;walk_nrm;l_c GC;refine Goes.stop λW c=>?_;have⟨k,f⟩:=c;subst f;exact(t _).at _
end
def qU:=@stepG_seq
def Vz:=@stepG_markAt
def qV:=@stepG_region_end
def VA:=@stepG_mark0
def OH:=@base_kind
section
variable{P:Program}{L:RwLink}{V:Loc→Prop}{B:Nat}{Stop:Goroutine→World→Nat→Prop}
def Ro(i:RwWLib P L){K R}(b:Frame)(l:b.kind≠.early)(z w g O o p)(j:g<B)(y:w.cell? (g,O)=some (.int .i32 0))(I:w.cell? (g,O+2)=some o)(J:w.cell? (g,O+3)=some p)(v:w.cell? (g,O+4)=some (.int .i32 0))
 (C:w.frozen? (g,O)=false)(A:w.frozen? (g,O+4)=false)
 (u:∀T,fC P V B Stop (G (b.at ⟨T,[]⟩ []) z) ((w.setCell (g,O)<|.int .i32 1).setCell (g,O+4) (.int .i32<|-1073741824)) 0):
 fC P V B Stop (G (b.at ⟨(.pointer (g,O)::tL 42 K R).toArray,[]⟩ [.code<|(wlockFn L).body.getD .skip]) z) w 0:=by
 have H:=i.core;have q:=H;cases q;have M:=i.mu;have r:=M;cases r;have Q:=i.runUnderlying_t3;have S:=i.sizeOf_t3;have N:=i.isAgg_t3;have U:=i.zeroValue_t3;have F:(w.setCell (g,O)<|.int .i32 1).cell? (g,O)=some (.int .i32 1):=World.cell?_setCell_same _ _ _ y;have x:(w.setCell (g,O)<|.int .i32 1).cell? (g,O+4)=some (.int .i32 0):=(Fi _ (g,O) (g,O+4) _ S8).trans v;have E:(w.setCell (g,O)<|.int .i32 1).frozen? (g,O+4)=false:=by rw[ag0];exact A
 have s:((w.setCell (g,O)<|.int .i32 1).setCell (g,O+4) (.int .i32<|-1073741824)).cell? (g,O+2)=some o:=(Fi _ (g,O+4) (g,O+2) _ S8).trans<|(Fi _ (g,O) (g,O+2) _ S8).trans I;have t:((w.setCell (g,O)<|.int .i32 1).setCell (g,O+4) (.int .i32<|-1073741824)).cell? (g,O+3)=some p:=(Fi _ (g,O+4) (g,O+3) _ S8).trans<|(Fi _ (g,O) (g,O+3) _ S8).trans J;simp only[tL,wlockFn,nB];refine mJ (D:=DE<|EvL V B) (λ_ _ _ h=>h) 40 _ _ ?_;l_c qU;l_cond true;l_c qU;l_reg;l_op;l_op;l_op;l_conv H.underlying_tPMutex H.room_tMutex (λd=>(show(w.at d).cell? (g,O)=some (.int .i32 0)from y));refine mF (λd=>Vz .read S8 rfl rfl l rfl H.f_raceRead K8 K8 K8 K8 (ad:=(g,O)) E9) (A9 _ j) ?_;walk_nrm;l_c qV;l_reg;refine kH .disable 1 (k:=120) (λd=>VA .disable S8 rfl rfl l rfl H.f_disable K8 K8 K8 K8) ?_;walk_nrm;l_c qV;l_c qU;l_reg;l_op;l_op;l_op;l_call M.f_lock rfl lockFn;l_reg;l_op;l_op;l_op;l_call M.f_ilock rfl ilockFn;l_c qU;l_reg;refine kH .disable 2 (k:=120) (λd=>VA .disable S8 rfl rfl (OH _) rfl H.f_disable K8 K8 K8 K8) ?_;walk_nrm;l_c qV;l_c qU;l_c qU;l_reg;l_op;l_op;l_op;refine Goes.step rfl λW c=>?_;have⟨k,n⟩:=c;subst n;simp only[at_at];rw[stepG_cas_hit rfl rfl (OH _) rfl M.f_cas32 K8 K8 K8 .i32 K8 rfl rfl rfl (show(w.at k).cell? (g,O)=some (.int .i32 0)from y)<|show(w.at k).frozen? (g,O)=false from C];simp only[goes_go];refine⟨λe a=>?_,?_⟩;simp at a;obtain rfl|rfl:=a<;>exact pd _ _ j;rw[setCell_at];walk_nrm;l_c qV;l_cond true;l_c qU;l_cond true;l_c qU;l_reg;refine kH .enable 1 (k:=120) (λd=>VA .enable S8 rfl rfl (OH _) rfl H.f_enable K8 K8 K8 K8) ?_;walk_nrm;l_c qV;l_reg;l_op;l_conv M.underlying_tPIMutex M.room_tIMutex (λd=>(show((w.setCell (g,O)<|.int .i32 1).at d).cell? (g,O)=some (.int .i32 1)from F));refine mF (λd=>Vz .acquire S8 rfl rfl (OH _) rfl H.f_acquire K8 K8 K8 K8 (ad:=(g,O)) E9) (rY _ j) ?_;walk_nrm;l_c qV;l_c stepG_ret';l_leave0 M.f_ilock;l_c qV;l_c stepG_end;l_leave0 M.f_lock;l_c qV;l_c qU;l_reg;l_op;l_op;l_op;l_call H.f_i32add rfl i32addFn;l_c qU;l_reg;l_op;l_c qV;l_c qU;l_reg;l_op;l_op;l_op;l_op;refine Goes.step rfl λW c=>?_;have⟨k,n⟩:=c;subst n;simp only[at_at];rw[stepG_add_atomic rfl rfl (OH _) rfl H.f_add32 K8 K8 K8 .i32 K8 rfl rfl (show((w.setCell (g,O)<|.int .i32 1).at k).cell? (g,O+4)=some (.int .i32<|0)from x)<|show((w.setCell (g,O)<|.int .i32 1).at k).frozen? (g,O+4)=false from E];simp only[goes_go];refine⟨λe a=>?_,?_⟩;simp at a;obtain rfl|rfl:=a<;>exact pd _ _ j;rw[show IntKind.i32.wrap (0+-1073741824)=-1073741824 by decide,setCell_at];walk_nrm;l_op;l_c qV;l_c stepG_ret';l_leave1 H.f_i32add;l_op;l_op;l_c qV;l_c qU;l_c qU;l_reg;l_op;l_op;l_op;l_skip;l_skip;l_skip;l_skip;l_skip;l_skip;l_op;l_c qV;l_cond false;l_c stepG_skip;l_cond true;l_c qU;l_reg;refine kH .enable 0 (k:=120) (λd=>VA .enable S8 rfl rfl l rfl H.f_enable K8 K8 K8 K8) ?_;walk_nrm;l_c qV;l_c qU;l_reg;l_op;l_op;l_op;l_conv H.underlying_tPU32 H.room_tU32 (λd=>(show(((w.setCell (g,O)<|.int .i32 1).setCell (g,O+4) (.int .i32<|-1073741824)).at d).cell? (g,O+3)=some p from t));refine mF (λd=>Vz .acquire S8 rfl rfl l rfl H.f_acquire K8 K8 K8 K8 (ad:=(g,O+3)) E9) (rY _ j) ?_;walk_nrm;l_c qV;l_reg;l_op;l_op;l_op;l_conv H.underlying_tPU32 H.room_tU32 (λd=>(show(((w.setCell (g,O)<|.int .i32 1).setCell (g,O+4) (.int .i32<|-1073741824)).at d).cell? (g,O+2)=some o from s));refine mF (λd=>Vz .acquire S8 rfl rfl l rfl H.f_acquire K8 K8 K8 K8 (ad:=(g,O+2)) E9) (rY _ j) ?_;walk_nrm;l_c qV;refine Goes.stop λW c=>?_;have⟨m,f⟩:=c;subst f;exact(u _).at _
end
def mZ:=@stepG_seq
def VC:=@stepG_markAt
def nN:=@stepG_region_end
def VD:=@stepG_mark0
def JV:=@base_kind
section
variable{P:Program}{L:RwLink}{wL:Loc→Prop}{B:Nat}{Stop:Goroutine→World→Nat→Prop}
def OI(a)(h:a.block<B):EvL wL B ⟨.mark<|.release a,false,true⟩:=Bb _ S8 S8 (λy b=>by simp[MemAct.ofEvent,MemAct.touch?]at b) h
def LS(g:RwWLib P L){S R}(b:Frame)(l:b.kind≠.early)(J w j O s t)(i:j<B)(C:w.cell? (j,O)=some (.int .i32 1))(N:w.cell? (j,O+2)=some s)(Q:w.cell? (j,O+3)=some t)(A:w.cell? (j,O+4)=some (.int .i32<|-1073741824))
 (F:w.frozen? (j,O)=false)(E:w.frozen? (j,O+4)=false)(x:¬wL (.cell (j,O)))
 (z:∀T,fC P wL B Stop (G (b.at ⟨T,[]⟩ []) J) ((w.setCell (j,O+4)<|.int .i32 0).setCell (j,O)<|.int .i32 0) 0):
 fC P wL B Stop (G (b.at ⟨(.pointer (j,O)::tL 42 S R).toArray,[]⟩ [.code<|(wunlockFn L).body.getD .skip]) J) w 0:=by
 have H:=g.core;have u:=H;cases u;have M:=g.mu;have v:=M;cases v;have X:=g.runUnderlying_t3;have Y:=g.sizeOf_t3;have V:=g.isAgg_t3;have π:=g.zeroValue_t3;have y:(w.setCell (j,O+4)<|.int .i32 0).cell? (j,O)=some (.int .i32 1):=(Fi _ (j,O+4) (j,O) _ S8).trans C;have I:(w.setCell (j,O+4)<|.int .i32 0).frozen? (j,O)=false:=by rw[ag0];exact F
 have r:=H.underlying_t21;have o:=g.underlying_t3;have U:P.intKind 3=.i64:=by simp[Program.intKind,o]
 simp only[tL,wunlockFn,nB];refine mJ (D:=DE<|EvL wL B) (λ_ _ _ h=>h) 60 _ _ ?_;l_c mZ;l_cond true;l_c mZ;l_reg;l_op;l_op;l_op;l_conv H.underlying_tPMutex H.room_tMutex (λd=>(show((w).at d).cell? (j,O)=some (.int .i32 1)from C));refine mF (λd=>VC .read S8 rfl rfl l rfl H.f_raceRead K8 K8 K8 K8 (ad:=(j,O)) E9) (A9 _ i) ?_;walk_nrm;l_c nN;l_c mZ;l_reg;l_op;l_op;l_op;l_conv H.underlying_tPU32 H.room_tU32 (λd=>(show((w).at d).cell? (j,O+3)=some t from Q));refine mF (λd=>VC .release S8 rfl rfl l rfl g.f_release K8 K8 K8 K8 (ad:=(j,O+3)) E9) (OI _ i) ?_;walk_nrm;l_c nN;l_c mZ;l_reg;l_op;l_op;l_op;l_conv H.underlying_tPU32 H.room_tU32 (λd=>(show((w).at d).cell? (j,O+2)=some s from N));refine mF (λd=>VC .releaseMerge S8 rfl rfl l rfl H.f_relMerge K8 K8 K8 K8 (ad:=(j,O+2)) E9) (uV _ i) ?_;walk_nrm;l_c nN;l_reg;refine kH .disable 1 (k:=120) (λd=>VD .disable S8 rfl rfl l rfl H.f_disable K8 K8 K8 K8) ?_;walk_nrm;l_c nN;l_c mZ;l_reg;l_op;l_op;l_op;l_call H.f_i32add rfl i32addFn;l_c mZ;l_reg;l_op;l_c nN;l_c mZ;l_reg;l_op;l_op;l_op;l_op;refine Goes.step rfl λW c=>?_;have⟨k,n⟩:=c;subst n;simp only[at_at];rw[stepG_add_atomic rfl rfl (JV _) rfl H.f_add32 K8 K8 K8 .i32 K8 rfl rfl (show((w).at k).cell? (j,O+4)=some (.int .i32<|-1073741824)from A)<|show((w).at k).frozen? (j,O+4)=false from E];simp only[goes_go];refine⟨λe a=>?_,?_⟩;simp at a;obtain rfl|rfl:=a<;>exact pd _ _ i;rw[show IntKind.i32.wrap (-1073741824+1073741824)=0 by decide,setCell_at];walk_nrm;l_op;l_c nN;l_c stepG_ret';l_leave1 H.f_i32add;l_op;l_c nN;l_c mZ;l_c mZ;l_reg;l_op;l_op;l_c nN;l_cond false;l_c stepG_skip;l_c mZ;l_c mZ;l_reg;l_op;l_c nN;l_c stepG_block;l_c stepG_loop;l_c mZ;l_c mZ;l_reg;l_op;l_op;l_op;l_op;l_c nN;l_cond false;l_in;refine goes_exit rfl ?_;refine⟨by u_nil,?_⟩;l_c mZ;l_reg;l_op;l_op;l_op;l_call M.f_unlock rfl unlockFn;l_reg;l_op;l_op;l_op;l_call M.f_iunlock rfl iunlockFn;l_c mZ;l_cond true;l_c mZ;l_reg;l_op;l_op;l_op;l_in;refine goes_oper_k rfl rfl (JV _) λK p=>?_;go_simp;refine p _ _ ⟨?_,?_⟩;.intro e a;have q:=mem_listed a;simp[go_sem, *]at q;subst q;exact evL_cell _ _ x i
 clear p K;l_c nN;l_c mZ;l_reg;l_op;l_conv M.underlying_tPIMutex M.room_tIMutex (λd=>(show((w.setCell (j,O+4)<|.int .i32 0).at d).cell? (j,O)=some (.int .i32 1)from y));refine mF (λd=>VC .releaseMerge S8 rfl rfl (JV _) rfl H.f_relMerge K8 K8 K8 K8 (ad:=(j,O)) E9) (uV _ i) ?_;walk_nrm;l_c nN;l_reg;refine kH .disable 2 (k:=120) (λd=>VD .disable S8 rfl rfl (JV _) rfl H.f_disable K8 K8 K8 K8) ?_;walk_nrm;l_c nN;l_c mZ;l_reg;l_op;l_op;l_op;refine Goes.step rfl λW c=>?_;have⟨k,n⟩:=c;subst n;simp only[at_at];rw[stepG_add_atomic rfl rfl (JV _) rfl H.f_add32 K8 K8 K8 .i32 K8 rfl rfl (show((w.setCell (j,O+4)<|.int .i32 0).at k).cell? (j,O)=some (.int .i32<|1)from y)<|show((w.setCell (j,O+4)<|.int .i32 0).at k).frozen? (j,O)=false from I];simp only[goes_go];refine⟨λe a=>?_,?_⟩;simp at a;obtain rfl|rfl:=a<;>exact pd _ _ i;rw[show IntKind.i32.wrap (1+-1)=0 by decide,setCell_at];walk_nrm;l_op;l_c nN;l_c mZ;l_c mZ;l_reg;l_op;l_op;l_c nN;l_cond false;l_c stepG_skip;l_reg;refine kH .enable 1 (k:=120) (λd=>VD .enable S8 rfl rfl (JV _) rfl H.f_enable K8 K8 K8 K8) ?_;walk_nrm;l_c nN;l_c stepG_end;l_leave0 M.f_iunlock;l_c nN;l_c stepG_end;l_leave0 M.f_unlock;l_c nN;l_cond true;l_reg;refine kH .enable 0 (k:=120) (λd=>VD .enable S8 rfl rfl l rfl H.f_enable K8 K8 K8 K8) ?_;walk_nrm;l_c nN;refine Goes.stop λW c=>?_;have⟨m,f⟩:=c;subst f;exact(z _).at _
end
end Go.Ren
namespace Go
open Go.Conc Go.ConcM
section
variable{H:Type}{enc:TypeId×Value->H}
def OpenSpec.aaQ{C:Checked}{o f F}{s:OpenSpec}{k}(c:s.cond=some k){l A}(i m)(g:(World.plainHolding C.prog o i).variablesB C.prog=true)
 (n:((World.plainHolding C.prog o i).heap.toList.drop C.prog.globals.size).take ((begin C.prog (λ_ _=>0) default).world.heap.size -C.prog.globals.size)=(begin C.prog (λ_ _=>0) default).world.heap.toList.drop C.prog.globals.size)
 (a:Input.okWideB C.prog (World.plainHolding C.prog o i) f ⟨#[],i.args,[]⟩=true)
 {x}(j:DataW.whole enc C.prog (World.plainHolding C.prog o i).memory F.params.toList s.vars A i.args.toList m=some x)
 (b:l.all (PathCond.test C.prog ⟨F.params.toList,x.1,s.bare.plain.varTypes C.prog,x.2.1⟩)=true)(d:k H (x.1++x.2.1)=true)
 (e:s.bare.sizedB enc C.prog F A (World.plainHolding C.prog o i).memory i.args m=true:=by kernel_rfl):
 ∃(w:World)(t:Tape)(i:Input),w.os=o/\(w.forCall t i).Shaped C.prog/\i.vars=[]/\Input.okWide C.prog (w.forCall t i) .any w f i/\s.pre6 enc C.prog F l A (w.forCall t i).memory i.args/\({calm:=true}:Assume).holds C.prog (lone (Frame.enter C.prog f i.args .normal) []<|w.forCall t i):=by
 refine⟨World.holding C.prog o i,λ_ _=>0,⟨#[],i.args,[]⟩,rfl,World.shaped_of_B g n,((agV (base:=0) a).1),(agV a).2,⟨(OpenSpec.pre_some c l A _ _).2 ⟨x.1,x.2.1,x.2.2,DataW.Whole_of_whole j,b,d⟩,sizedMet_of_sizedB e⟩,?_⟩;simp only[Assume.holds];exact⟨S8,λ_ _ _ _=>rfl,S8,S8,S8⟩
def Ew{a C O f l cs}{s:OpenSpec}{k}(ae:s.cond=some k)(B:s.vars=cs.vars)(q:s.bare.plain.varTypes C.prog=cs.plain.varTypes C.prog){F Q u K N}(A:s.postWith enc C.prog l F (outsideKept [.timePasses]) u K N=(OpenSpec.ofChange cs).postWith enc C.prog l F (outsideKept [.timePasses]) u K N)
 (V:ownKnob C.prog.godebug=none)(ab:O.Started)(r:C.prog.funcs[f]?=some l)
 (ad:∃(w:World)(T:Tape)(i:Input),w.os=O/\(w.forCall T i).Shaped C.prog/\i.vars=[]/\Input.okWide C.prog (w.forCall T i) .any w f i/\s.pre6 enc C.prog l Q u (w.forCall T i).memory i.args/\a.holds C.prog (lone (Frame.enter C.prog f i.args .normal) []<|w.forCall T i))
 (aa:∀(W:World)(S:Nat)(y:Array Value)(z J:List (DataW H))(P:List MemPlace),(∀(j:Nat)t v,l.params[j]?=some t->y[j]?=some v->Value.okWide C.prog W .any S t v)->
   DataW.Whole enc C.prog l.params.toList cs.vars u W y.toList z J P->
   k H (z++J)=true->
   (DataW.weightsEach C.prog (l.params.toList++cs.plain.varTypes C.prog)<|z++J).all (·<=reachBytes)=true->
   ∃M L o x b,runNT C.prog (M+1) (solo (G (Frame.enter C.prog f y .normal) []) W) #[]=(.ended o x,b)/\runN C.prog M (solo (G (Frame.enter C.prog f y .normal) []) W)=.next L/\step C.prog L=.ended o x/\Conc.Good C.prog (λv R=>cs.post enc C.prog l u K N false W y v {R with os:=W.os}/\OsLater W.os R.os) L o x b):
 ReturnsInLeavingWide a C O f .any (s.pre6 enc C.prog l Q u) (s.postWith enc C.prog l F (outsideKept [.timePasses]) u K N):=by
 refine returnsInLeavingWide_of_good V ab ad ?_;intro w T i _ _ _ ag g ah;have⟨_,_,_,ai,ac,_,_,_,_,D⟩:=ag;have e:=iN<|ac.symm.trans r;subst e;have⟨z,J,P,c,_,af⟩:=(OpenSpec.pre_some ae Q u _ _).1 g.1;have h:=g.2.weights c;rw[q]at h;rw[B]at c;have⟨M,L,o,x,b,m,U,n,p⟩:=aa (w.forCall T i) ↑w i.args z J P D (DataW.Whole.of_heap (w':=w.forCall T i) (by rfl) c) af h;have⟨v,e,d,X,Y,π,I⟩:=p;rw[A];exact⟨M,L,o,x,b,m,U,n,v,e,postWith_blind<|postWith_of_post d.1 d.2,X,Y,π,I⟩
end
def OpenClaim.vY{p s c}(f h)(C:c.program=p.name)(G:c.sum=p.sum)(J:c.spec=s.name)
 (j:c.start=.entering)(d:c.outside=[.timePasses])(a1:c.inits=[])(L:c.under=none)(a0:c.initsInPlace=[]/\c.initsUnfollowed=false/\c.initsRecurse=false/\c.initsNamed=[]/\c.initsPassed=[])(l:c.noBlocks=false)(B:c.leaving=true)(e:c.followed=none)(E:c.narrowed=s.cond.isSome)(K:c.still=false)
 (az:p.checked.prog.funcNamed c.func=some f)(ay:p.checked.prog.funcs[f]?=some h)
 (n:joinedFacts p.checked.prog f h s.bare c=true)
 (A:h.isInstance p.checked.prog c.origin c.targs)(M:h.isWrapper p.checked.prog c.wrapper c.mainSum)
 (ac:∀o,o.Started->∀(H:Type)(i:TypeId×Value->H),(∀a b,i a=i b->a=b)->∀F,ReturnsInLeavingWide c.assume p.checked o f .any (c.pre i p.checked.prog h s)<|s.postWith i p.checked.prog h F (outsideKept [.timePasses]) c.apart c.fresh c.handsOn):c.holds p s:=by
 simp only[joinedFacts,fx,Aa,Ac,Dn,vH]at n;have⟨⟨⟨⟨⟨⟨⟨⟨⟨⟨⟨⟨⟨⟨⟨⟨⟨⟨⟨⟨⟨⟨⟨⟨⟨⟨⟨⟨⟨⟨⟨k1,k2⟩,ak⟩,ao⟩,ar⟩,t⟩,au⟩,av⟩,g⟩,N⟩,O⟩,P⟩,Q⟩,R⟩,S⟩,T⟩,U⟩,V⟩,W⟩,X⟩,Y⟩,π⟩,q⟩,ap⟩,u⟩,r⟩,v⟩,w⟩,x⟩,y⟩,z⟩,aj⟩:=n;have hq:∀o:Os,Stop.quiet p.checked.prog o:=λo a2 am=>by cases g▸am
 refine⟨k1,C,G,J,k2,ak,by unfold OpenClaim.startFits;rw[j];exact r,by unfold OpenClaim.startTold;rw[j];exact⟨a1,L,a0⟩,f,h,az,ay,⟨ao,X⟩,(λad=>by cases l▸ad),by unfold OpenClaim.namedList;rw[e];exact ar,A,M,t.trans au.symm,⟨av.trans g.symm,by unfold Program.envWorded;rw[g];rfl,u⟩,N,O,P,Q,R,⟨S,z,aj⟩,⟨T,Y⟩,⟨U,π,x,y⟩,⟨q,v,w,V⟩,(by rw[d,E];cases I:c.shortTexts with|none=>(cases s.cond<;>rfl)|some _=>cases I▸ap),λan D=>varReadable_some<|W an D,
  ⟨_,by unfold OpenClaim.world;rw[d,j];exact⟨WideRow.started_initial,λa3 m=>by simp at m;subst m;trivial⟩,hq _⟩,[],by unfold OpenClaim.lists;rw[e],λo k _ H i al=>?_⟩
 have aq:o.Started:=by unfold OpenClaim.world at k;rw[d,j]at k;exact k.1
 rw[OpenClaim.post_not_still K];unfold OpenClaim.form;rw[j,t];intro F;have aw:c.okInput=Input.okWide:=by unfold OpenClaim.okInput;rw[l]
 have e2:c.atReturn p.checked.prog=leavingAtReturn p.checked.prog:=by unfold OpenClaim.atReturn;rw[B]
 have e3:c.always p.checked.prog []=nothingAlways:=by unfold OpenClaim.always;rw[e]
 have ax:s.post i p.checked.prog h F c.outside c.apart c.fresh c.handsOn c.again=s.postWith i p.checked.prog h F (outsideKept [.timePasses]) c.apart c.fresh c.handsOn:=by rw[d];rfl
 rw[aw,e2,e3];show ReturnsInOpen _ _ _ _ _ _ _ _ (s.post i p.checked.prog h F c.outside c.apart c.fresh c.handsOn c.again) _ _;rw[ax];exact ac o aq H i al F r
def ajl:=@OpenClaim.vY
end Go
