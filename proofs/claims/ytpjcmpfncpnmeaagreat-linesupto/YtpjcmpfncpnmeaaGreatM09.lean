import Derived.Deep.RegionHeld
import Derived.Conc.FxGenLone
import Derived.Conc.AppendWalk
import Derived.Test.YtpjcmpfncpnmeaaGreatM08
set_option linter.all false
set_option maxHeartbeats 16000000
set_option maxRecDepth 100000
namespace Go.Proofs.aH
open Go.RowKit Tryz
attribute [local go_sem↓] Go.wp_at_zero Go.wp_at_succ
theorem MI.at_{w v l}(h:MI w v l)(b:l.length<=1000):mg w v l:=by obtain⟨g,c,rfl,a⟩:=h;exact Hr (rest:=[]) (by rw[kY];exact a) O9
def ado[kA]{j T N n U J h s}(x t I m O S w)(f:cG w j T N n U J h s)(D:MI w O x.outs)(Y:x.outs.length<=8)(y:∀ac∈x.outs,ac.Small)(v:x.id.size<=1000000)(F:s.steps.length+8<=100000)(E:0<=s.gG/\s.gG<=1000000000000000)(ad:0<=S/\S<=1000000):Cv 166 #[ptr j,.agg #[x.id,.slice (some ⟨t,0,none⟩) I m,O],.int .i64 S] w λe π=>e=.returned ((kM x h S s).1)/\cG π j T N n U J h (kM x h S s).2/\XJ n J T j w π:=by
 have q:=aK λW(h1:cG W j T N n U J h s)(P:MI W O x.outs)=>Hv x t I m O W h1 P Y v F;have r:=λW(P:MI W O x.outs)=>KH O x.outs W (P.at_ O9) O9 y;have G:=lV x.outs y;have l:Hid (kM x h S s=if cW x.outs>S+s.gG then(16,s)else eJ x h s):=rfl;have⟨id,Q,o⟩:=x;obtain⟨g,c,rfl,a⟩:=D;simp only at a Y v r G l q|-;have H:0<=cW o/\cW o<=100000000000:=O9;generalize cW o=A at H r l;unfold ptr at q|-;have b:=aX w [id,.slice t I m,.slice g o c] 169;have i:=Ba w<|.cells #[id,.slice t I m,.slice g o c] 169;have f:=f.keep i;have a:=a.keep i a.lt;go_enter fA func166,ntmps166;go_wp2;generalize w.alloc _=X at b i f a|-;have K:∀d R,Cv 202 #[.slice g o c] (Go.Sort.grow (redrawn X d) R) λe M=>e=.returned ↑A/\∃p:Regrown,M=Go.Sort.grow (redrawn X p.d) p.os:=λd R=>Calls.regrown_of<|r _ ⟨g,c,rfl,a.keep (below_regrown X d R) a.lt⟩
 have⟨tv,L,ah⟩:=f.row;have k0:=cell_regrown<|show X.cell? (j,2)=some ↑s.gG from L.cell 2;have k1:=cell_regrown<|show X.cell? ((w:Nat),2)=some (.slice g o c)from b.cell 2;generalize u:s.gG=B at E k0 l;have u:=aK u;refine wp_region_quiet_below nO K8 ?_;repeat(go_big_quiet_step (first|(go_at_call 202;exact K _ _)))
 refine vZ λab z=>?_;have f:=f.keep z;have i:=i.trans<|z.mono i.size;by_cases V:S+B<A
 .have k:Hid (kM ⟨id,Q,o⟩ h S s=(16,s)):=by have:=l.out;rw[aN V]at this;exact this
  go_wp2;go_ret;exact⟨by rw[k.out];rfl,by rw[k.out];exact f,jS i⟩
 have k:Hid (kM ⟨id,Q,o⟩ h S s=eJ ⟨id,Q,o⟩ h s):=by have:=l.out;rw[aJ V]at this;exact this
 have⟨ae,af,ag⟩:=(b.keep z b.lt).p3;go_wp2;refine(q.out ab f ⟨g,c,rfl,(a.keep z a.lt)⟩).mono ?_;rintro e w1⟨rfl,C,aa⟩;go_wp2;go_ret;exact⟨by rw[k.out];rfl,by rw[k.out];exact C,rz (jS i) aa⟩
def Eh(K:jH):Prop:=∀p c,K p=some c->0<=c.val/\c.val<=4294967295
theorem Eh.take{K}(h:Eh K)(q):Eh (K.take q):=by intro p c a;unfold jH.take at a;split at a;cases a;exact h p c a
theorem Eh.put{K}(h:Eh K)(d)(b:0<=d.val/\d.val<=4294967295):Eh (K.put d):=by intro p c a;unfold jH.put at a;split at a;simp_all;exact h p c a
def pn{B w e t s n g j v u b C}(h:w.ownsRow B e s v n b)(r:Row w g t C)(c:t≠e):(w.setCell ⟨g,j,none⟩ u).ownsRow B e s v n b:=dA h (λk d _ _ a=>((Xc.refl (λk=>k=g) w).setCell (g,j) u λ_=>rfl).block k (bO a) λe=>by subst e;unfold Row at r;cases r▸a;exact c rfl)
def bW.setCell{w T G n g j v u l t c}(h:bW w T G n v l)(r:Row w g t c)(a:t≠181)(b:t≠234):bW (w.setCell ⟨g,j,none⟩ u) T G n v l:=⟨h.row.bF (g,j) u (h.row.ne r<|gP a),pn h.own r b⟩
def bW.grown{w W t G n B s m v u l e j}(h:bW w t G n v l)(d:w.ownsRow B e s u m j)(b:w.grownBy W u.ownBlock)(f:e≠181)(g:e≠234):bW W t G n v l:=by refine⟨(b.block t h.row.lt λc=>bR d h.row (gP f) c.symm).trans h.row,dA h.own λk C _ _ a=>b.block k (bO a) λc=>?_⟩;have⟨_,o,i⟩:=bS d c.symm;cases i▸a;exact g rfl
def Wu{w g j u t c}(v)(r:Row w g t c)(h:t≠234):tE w v (w.setCell ⟨g,j,none⟩ u) v:=have y:=(lY (λk=>k=g) w).setCell (g,j) u λ_=>rfl;tE.all v (dN.of y λk c f a e=>by subst e;unfold Row at r;cases r▸a;exact h rfl) y.size
def Y8{w W B s m g j u x e t i C}(v)(h:w.ownsRow B e s u m i)(r:Row W g t C)(b:w.grownBy W u.ownBlock)(H:e≠234)(l:t≠234):tE w v (W.setCell ⟨g,j,none⟩ x) v:=(Hs v (λk C f a=>(b.block k (bO a) λc=>by have⟨_,n,d⟩:=bS h c.symm;cases d▸a;exact H rfl).trans a) b.size).trans<|Wu v r l
def cG.push[kA]{b W a T G n B M h s t y V o}(m:cG b a T G n B M h s)(r:Row b a 266 [ptr T,h,s.gG,y])(q:b.ownsRow kA.w0 298 4 y s.bX (aZ s.bX))(d:(b.drew.alloc o).grownBy W y.ownBlock)(x:W.ownsRow kA.w0 298 4 V (s.bX+1) (aZ s.bX++t.cells)):Row W a 266 [ptr T,h,s.gG,y]/\XJ n M T a b W/\cG (W.setCell (a,3) V) a T G n B M h {s with bX:=s.bX++[t]}/\XJ n M T a b (W.setCell (a,3) V):=by
 have g:Below b b (b.drew.alloc o):=(cN B0).alloc L9 _;have z:=r.keep g r.lt;have i:=aP q g;have⟨v,A,l⟩:=m.jy;have I:bW (b.drew.alloc o) T G n v s.steps:=⟨A.row.keep g A.row.lt,aP A.own g⟩;have R:Row W a 266 [ptr T,h,↑s.gG,y]:=(d.block a z.lt λc=>bR i z D9 c.symm).trans z;have E:=(m.dL.keep g).grown i d D9 D9;have u:XJ n M T a b W:=(jS g).grown d λk e j=>have⟨H,C,F⟩:=bS q e;.inr ⟨cA l.2.1 H,_,C,_,.inr rfl,F⟩
 refine⟨R,u,⟨⟨V,R.set 3 V,?_⟩,⟨v,(I.grown i d D9 D9).setCell R D9 D9,l.1.trans ((tE.keep _ g).trans<|Y8 _ i R d D9 D9),((l.2.keep g).xc (S:=λk=>y.ownBlock=some k) ⟨d.os,d.tape,d.output,d.size,λk j w=>d.block k j λe=>w e.symm⟩ λk C f j _ e=>by have:=(bS i e).1;omega).xc ((Xc.refl (λk=>k=a) W).setCell (a,3) V λ_=>rfl) λk C f _ p e=>by subst e;unfold Row at R;cases R▸p⟩,E.setCell R V D9 D9⟩,u.setCell (a,3) V λ_=>.inl<|.inr rfl⟩;rw[vw,cB];exact pn x R D9
def cG.fee[kA]{w a t G n S m h s}(f)(c:cG w a t G n S m h s):cG (w.setCell (a,2)<|.int .i64 f) a t G n S m h {s with gG:=f}/\XJ n m t a w (w.setCell (a,2) f):=have⟨j,b,i⟩:=c.row;have⟨v,T,g⟩:=c.jy;⟨⟨⟨j,b.set 2 _,pn i b D9⟩,⟨v,T.setCell b D9 D9,g.1.trans<|Wu _ b D9,g.2.xc ((Xc.refl (λk=>k=a) w).setCell (a,2) _ λ_=>rfl) λk C f _ d e=>by subst e;unfold Row at b;cases b▸d⟩,c.dL.setCell b _ D9 D9⟩,(Xc.refl _ w).setCell (a,2) _ λ_=>.inl<|.inr rfl⟩
def aI.Y9:(Vp.info? 298).map (λi=>(i.zero,i.size,i.bytes))=some (some<|.agg #[aB,aB,aB,aA],4,56):=K8
def Wv:=@aI.Y9
def Hw(id:ByteArray)(h:Int)(x:jB)(c:bL)(s:JS):JS:={s with K:=s.K.take (x.tx,x.idx),steps:=s.steps++[⟨c,false⟩],bX:=s.bX++[⟨x.key,c.lock,id,h⟩]}
def uv{id h x r S s c}(a:s.K (x.tx,x.idx)=some c):jZ id h (x::r) S s=jZ id h r (S+c.val) (Hw id h x c s):=by show(match s.K (x.tx,x.idx)with|none=>_|some c=>_)=_;rw[a];rfl
def uw{id h x r S s}(a:s.K (x.tx,x.idx)=none):jZ id h (x::r) S s=(15,S,s):=by show(match s.K (x.tx,x.idx)with|none=>_|some c=>_)=_;rw[a]
end Go.Proofs.aH
namespace Go
section
variable{P:Program}{ops:Array Oper}{Q:Exit→Act→World→Prop}{md:Region.Mode}{S:World→Prop}{z:Nat}
def oO(P:Program)(m:Region.Mode)(o:Array Oper)(Q:Exit->Act->World->Prop)(S:World->Prop)(z:Nat):Nat->Array Bool->Act->World->Prop
 |0,l,a,w=>Region.ready m o l=[]/\Q .normal a w
 |f+1,l,a,w=>(Region.ready m o l=[]->Q .normal a w)/\
   ∀i∈Region.ready m o l,wpOp P o Q i (λA W=>(i≠z->S W)/\oO P m o Q S z f (l.setIfInBounds i true) A W) a w
def FP:∀f l a w,oO P md ops Q S z f l a w->wpAny P md ops Q f l a w
 |0,_,_,_,h=>h
 |f+1,_,_,_,h=>⟨h.1,λi H=>wpOp_mono (λA W b=>FP f _ A W b.2)<|h.2 i H⟩
def LN{i g F v}(π:ops[i]?=some g)(C:∀(j:Nat)(o:Oper)W b,ops[j]?=some o->o.op≠.select W b)(E:ops[z]?=some F)(U:∃e∈F.after,Region.binds md e=true/\e.on=i)
 (J:∀c a w,Q (.panic c) (a.put g.dst v) w->Q (.panic c) a w):
 ∀X I a w,(∀j l,ops[j]?=some l->j≠i->I.getD j true=false->(∀e∈l.after,Region.binds md e=true->e.on≠i)->g.apart ops l=true)->
   i∈Region.ready md ops I->YieldsIf P ops S g v a->S w->
   oO P md ops Q S z X (I.setIfInBounds i true) (a.put g.dst v) w->oO P md ops Q S z (X+1) I a w:=by
 intro X;induction X with
 |zero=>intro I a w _ f r m H;refine⟨λh=>(by cases h▸f),λj p=>?_⟩;by_cases d:j=i;subst d;exact r.wpOp π m ⟨λ_=>m,H⟩;have:=ready_mono p d;rw[H.1]at this;cases this
 |succ X V=>
   intro I a w x f r m H;refine⟨λh=>(by cases h▸f),λj p=>?_⟩;by_cases d:j=i;subst d;exact r.wpOp π m ⟨λ_=>m,H⟩;have s:=H.2 j<|ready_mono p d;have⟨A,l,q,K⟩:=mem_ready.1 p;have B:∀e∈l.after,Region.binds md e=true->e.on≠i:=λe u t aa=>by have s:=K e u t;have h0:=(mem_ready.1 f).1;rw[aa]at s;obtain G|G:=lB i I.size;grind;grind
   have M:j≠z:=λe=>by subst e;cases q▸E;have⟨e,u,t,T⟩:=U;exact B e u t T
   have L:∀k Y,ops[k]?=some Y->k≠i->(I.setIfInBounds j true).getD k true=false->(∀e∈Y.after,Region.binds md e=true->e.on≠i)->g.apart ops Y=true:=λk Y N O D R=>by
    refine x k Y N O ?_ R;by_cases y:j=k;subst y;exact A;rw[getD_set_ne true y]at D;exact D
   refine wpOp_mono (λa' w' n=>⟨n.2.1,V (I.setIfInBounds j true) a' w' L (ready_mono f<|gP d) n.1 (n.2.1 M) ?_⟩)<|wpOp_putIf q (x j l q d A B) (λW b=>C i g W b π) (λW b=>C j l W b q) J r s;rw[Array.setIfInBounds_comm _ _ d];exact n.2.2
def abt(m:Region.Mode)(O:Array Oper)(z:Nat)(l:Array Bool)(i d:Nat):Bool:=(match O[i]? with|some o=>o.dst==some d|none=>false)&&Region.noSelect O&&Region.free m O l i&&(Region.ready m O l).contains i&&
 (match O[z]? with|some o=>o.after.any (λe=>Region.binds m e&&e.on==i)|none=>false)
def ah6{F L a w j v}(i d)(e:abt md ops z L i d=true)(H:ops[i]?=some j)(g:∀c a w,Q (.panic c) (a.put (some d) v) w->Q (.panic c) a w)(t:YieldsIf P ops S j v a)(r:S w)
 (h:oO P md ops Q S z F (L.setIfInBounds i true) (a.put (some d) v) w):oO P md ops Q S z (F+1) L a w:=by
 unfold abt at e;rw[H]at e;simp at e;have⟨⟨⟨⟨l,m⟩,n⟩,o⟩,b⟩:=e;rcases f:ops[z]? with _|u;cases f▸b;rw[f]at b;simp at b;have⟨k,s,p,q⟩:=b;rw[<-l]at g h;exact LN H (Region.noSelect_spec m) f ⟨_,Array.getElem_mem s,p,q⟩ g F L a w (Region.free_spec H n) (by simpa using o) t r h
def Vm{F l a w o}(i)(d:Region.ready md ops l=[i])(k:ops[i]?=some o)(h:∀b,Shut (∀a w,(i≠z->S w)->oO P md ops Q S z F (l.setIfInBounds i true) a w->b a w)->if Region.wanted o (yielded ops a.tmps)=true then Oper.wp P o a w b Q else b (a.put o.dst undef) w):oO P md ops Q S z (F+1) l a w:=by
 refine⟨λH=>(by cases H▸d),λj c=>?_⟩;rw[d]at c;simp at c;subst c;exact wpOp_step k λb e=>h b λa w f g=>e a w ⟨f,g⟩
def ah7{l a w}(b:Region.ready md ops l=[])(h:Q .normal a w):∀f,oO P md ops Q S z f l a w
 |0=>⟨b,h⟩
 |_+1=>⟨λ_=>h,by rw[b];simp⟩
def N6{id a w}(z)(S:World->Prop)(b:P.follows .mixedOrders=true)(h:oO P .any ops Q S z ops.size (Array.replicate ops.size false) a w.drew):(Code.region id ops true).wp P Q a w:=wp_region_any b<|FP _ _ _ _ h
end
def Cg{a:Type}:type_of%(wD (@List.setIfInBounds_toArray a) (wD (@List.set_cons_succ a)<|@List.set_cons_zero a)):=wD (@List.setIfInBounds_toArray a) (wD (@List.set_cons_succ a)<|@List.set_cons_zero a)
def N9{a:Type}:type_of%(wD (@List.getElem_toArray a) (wD (@List.getElem_cons_succ a)<|@List.getElem_cons_zero a)):=wD (@List.getElem_toArray a) (wD (@List.getElem_cons_succ a)<|@List.getElem_cons_zero a)
def abr{P o Q m S z F l a w b v n}{d:Nat}(g:S w)(h:oO P m o Q S z F (l.setIfInBounds (n -(F+1)) true) (a.put (some d) v) w)(_hn:o.size=n:=by rfl)(H:o[n -(F+1)]?=some b:=by rfl)(_hd:b.dst=some d:=by rfl)(e:abt m o z l (n -(F+1)) d=true:=by kernel_rfl)
 (f:∀c a w,Q (.panic c) (a.put (some d) v) w->Q (.panic c) a w:=by exactλ_ _ _ h=>h)(k:YieldsIf P o S b v a:=by exact .inl ⟨by rfl,by intro W j;(try dsimp only at j);go_simp;try with_reducible rfl⟩):oO P m o Q S z (F+1) l a w:=
 ah6 _ d e H f k g h
end Go
namespace Go.Proofs.aH
open Go.RowKit Tryz
attribute [local go_sem↓] Go.wp_at_zero Go.wp_at_succ
def Za{K:jH}{p}(h:K p=none):K.take p=K:=by funext q;unfold jH.take;split;simp_all;rfl
def cG.tB[kA]{w j J H n g S M h s t C}(x:cG w j J H n S M h s)(r:Row w g t C)(V D E F b G)(K:t≠192)(L:t≠196)(q:t≠181)(u:t≠266)(d:t≠234)(i:t≠298):cG (E3 w g V D E F b G) j J H n S M h s:=have⟨⟨N,l,A⟩,⟨v,T,o⟩,c⟩:=x;have y:=(lY (λk=>k=g) w).tB g V D E F b G λ_=>rfl
 have O:∀{B e I m:Nat}{v:Value}{p:List Value},w.ownsRow B e I v m p->t≠e->(E3 w g V D E F b G).ownsRow B e I v m p:=λh z=>dA h (λk P _ _ a=>y.block k (bO a) λe=>by subst e;unfold Row at r;cases r▸a;exact z rfl)
 ⟨⟨N,l.afO (l.ne r<|Ne.symm u) _ _ _ _ _ _,O A i⟩,⟨v,⟨T.row.afO (T.row.ne r<|Ne.symm q) _ _ _ _ _ _,O T.own d⟩,o.1.trans<|tE.all _ (dN.of y λk C f a e=>by subst e;unfold Row at r;cases r▸a;exact d rfl) y.size,o.2.xc y λk C f _ a e=>by subst e;unfold Row at r;cases r▸a;exact i rfl⟩,c.tB r _ _ _ _ _ _ K L⟩
structure PV(x:Bc)(h:Int)(s:JS)(k:Nat)(sp:Int)(sk:JS):Prop where
 same:jZ x.id h x.ins 0 s=jZ x.id h (x.ins.drop k) sp sk
 sp0:0<=sp
 sp1:sp<=k*4294967295
 ok:Eh sk.K
 gG:sk.gG=s.gG
 steps:sk.steps.length<=s.steps.length+k
 bX:sk.bX.length<=s.bX.length+k
def PV.next{x h s k S a i c}(H:PV x h s k S a)(d:x.ins.drop k=i::x.ins.drop (k+1))(b:a.K (i.tx,i.idx)=some c):PV x h s (k+1) (S+c.val) (Hw x.id h i c a):=by have e:=H.ok _ c b;refine⟨by rw[H.same,d,uv b],?_,?_,H.ok.take _,H.gG,?_,?_⟩;have:=H.sp0;omega;have:=H.sp1;omega;have:=H.steps;simp[Hw];omega;have:=H.bX;simp[Hw];omega
def adp[kA]{a T N n O i h s}(x iv ov w)(j:cG w a T N n O i h s)(dw:InR w iv x.ins)(dz:MI w ov x.outs)(fq:x.ins.length<=8)(ef:∀ax∈x.ins,ax.Small)(hlen:x.outs.length<=8)(bm:∀o∈x.outs,o.Small)(ec:x.id.size<=1000000)(fv:s.steps.length<=50000)(fy:s.bX.length<=50000)(fi:0<=s.gG/\s.gG<=100000000000000)(b9:Eh s.K):Cv 165 #[ptr a,.agg #[x.id,iv,ov]] w λe w'=>e=.returned ((fK x h s).1)/\cG w' a T N n O i h (fK x h s).2/\XJ n i T a w w':=by
 have cj:=aK λ(W:World)(s':JS)(K:Nat)(P:Nat)(ci:Nat)(h1:cG W a T N n O i h s')(h0:s'.steps.length+8<=100000)(h2:MI W ov x.outs)=>Hv x K P ci ov W h1 h2 hlen ec h0;have cy:=aK λ(W:World)(h2:MI W ov x.outs)=>KH ov x.outs W (h2.at_ O9) O9 bm;have ei:=lV x.outs bm;have ab:Hid (fK x h s=if(jZ x.id h x.ins 0 s).1≠0 then((jZ x.id h x.ins 0 s).1,(jZ x.id h x.ins 0 s).2.2)else if cW x.outs>(jZ x.id h x.ins 0 s).2.1 then(16,(jZ x.id h x.ins 0 s).2.2)else eJ x h {(jZ x.id h x.ins 0 s).2.2 with gG:=(jZ x.id h x.ins 0 s).2.2.gG+((jZ x.id h x.ins 0 s).2.1 -cW x.outs)}):=rfl;have cd:Hid (PV x h s 0 0 s):=⟨rfl,O9,O9,b9,rfl,O9,O9⟩;obtain⟨an,c,rfl,m⟩:=dz;obtain⟨K,ci,rfl,y⟩:=dw;generalize af:x.outs.length=lo,a6:x.ins.length=P,V:x.id=id at*;have ej:0<=cW x.outs/\cW x.outs<=100000000000:=O9;clear ei bm b9;generalize a2:cW x.outs=G at ej cy ab;unfold ptr at cj|-;have f:=aX w [id,.slice K P ci,.slice an lo c] 169;have aa:=Ba w<|.cells #[id,.slice K P ci,.slice an lo c] 169;replace j:=j.keep aa;replace m:=m.keep aa m.lt;replace y:=y.keep aa y.lt;go_enter fA func165,ntmps165;have e0:=f.r 1;go_wp2;generalize w.alloc _=X at f aa j m y|-;go_loopw [5,13] (λsv ax wr=>∃(k:Nat)(S:Int)(b:JS),k<=P/\ax=↑k/\sv=↑S/\PV x h s k S b/\cG wr a T N n O i h b/\Row wr ↑w 169 [id,.slice K P ci,.slice an lo c]/\Row wr an 86 (kv x.outs)/\Row wr K 139 (og x.ins)/\XJ n i T a w wr) (λ_ ax _=>P -(intOf ax).toNat);exact⟨0,0,s,O9,rfl,rfl,cd.out,j,f,m,y,jS aa⟩;case round=>
  clear j f m y aa e0 cd;obtain⟨k,S,b,fj,rfl,rfl,C,j,f,m,y,bb⟩:=hrel;by_cases fs:k<P
  .have bk:=oD (show k<x.ins.length by omega);have⟨ay,π,az⟩:=BJ x.ins k x.ins[k]<|aY O9;have ao:x.ins.drop k=x.ins[k]::x.ins.drop (k+1):=wH O9;have ar:=ef _ bk;generalize x.ins[k]=ax at ao ay π az ar bk;clear bk;change Hid _ at ao af a6 V a2 C;have⟨q,B,p⟩:=ax;simp only at ay π az;have e6:wr.cell? (K,k*3)=some ↑q:=by rw[y.cell];exact ay
   have H:wr.cell? (K,k*3+1)=some ↑B:=by rw[y.cell];exact π
   have e7:wr.cell? (K,k*3+2)=some ↑p:=by rw[y.cell];exact az
   have fo:(0:Int)<=k:=O9;have fp:(k:Int)<P:=O9;have cv:Hid (sJ (q,B)):=⟨by have:=ar.1;show q.size<=_;simp only at this;omega,by have:=ar.2.1;show _<=B;simp only at this;omega,by have:=ar.2.2.2;show B<_;simp only at this;omega⟩;clear ay π az ar;go_wp2;have b1:=Ba wr<|.cells #[q,B,p] 139;have E:=aX wr [q,B,p] 139;replace j:=j.keep b1;replace f:=f.keep b1 f.lt;replace m:=m.keep b1 m.lt;replace y:=y.keep b1 y.lt;have bq:XJ n i T a w _:=Wl bb b1;generalize wr.alloc _=d at E j f m y bq|-;generalize(wr:Nat)=I at E|-;clear b1 bb e6 H e7;have⟨L,M,ac,ad,al,am,F⟩:=sB<|b.K (q,B);have ea:b.steps.length<=100000:=by have:=C.out.steps;omega
   generalize ae:({b with K:=b.K.take (q,B),steps:=adn b.steps (b.K (q,B))}:JS)=l;have bo:∀W:World,cG W a T N n O i h b->Cv 122 #[.pointer T,.agg #[q,B]] W λe w'=>∃ba,e=.returned ba/\(ba=.agg #[L,M,ac,ad,al,.bool am]/\cG w' a T N n O i h l/\XJ n i T a W w'):=λW bg=>by have⟨v,tr,bp⟩:=bg.jy;refine(Y3 (q,B) W bg.dL tr cv.out ea).mono λe w'⟨h1,h2,⟨gn,du,dv⟩,b7⟩=>?_;exact⟨_,h1,F,ae▸bg.Wq b7 h2 du (bp.1.trans dv),XJ.PU b7⟩
   change Hid _ at ae F;have bh:Hid (∀(de:Array Value)(w:World),(callFunc 122 de).run Vp w=.ok (.enter 122 de) w):=λ_ _=>by kernel_rfl
   have bf:=j.keep<|cN B0;have bd:cG (d.drew.alloc<|.cells [.string ⟨#[]⟩,.int .i64 0,.int .i64 0,.string ⟨#[]⟩,.int .i64 0,.bool false].toArray 60) a T N n O i h b:=bf.keep<|B0.alloc L9 _;have bz:=aX d.drew ↑() 60;have b0:Hid (∀g,XJ n i T a d.drew g->cG g a T N n O i h l->(d:Nat)<=(g:Nat)/\Row (g.alloc<|.cells [.string L,.int .i64 M,.int .i64 ac,.string ad,.int .i64 al,.bool am].toArray 60) (g:Nat) 60 [L,M,ac,ad,al,.bool am]/\XJ n i T a d (g.alloc<|.cells [.string L,.int .i64 M,.int .i64 ac,.string ad,.int .i64 al,.bool am].toArray 60)/\cG (g.alloc<|.cells [.string L,.int .i64 M,.int .i64 ac,.string ad,.int .i64 al,.bool am].toArray 60) a T N n O i h l):=λg x h=>⟨x.size,aX g _ _,(rz (xz<|lY _ d) x).alloc _,h.keep<|B0.alloc L9 _⟩;have ca:Hid (∀g,XJ n i T a (d.drew.alloc<|.cells [.string ⟨#[]⟩,.int .i64 0,.int .i64 0,.string ⟨#[]⟩,.int .i64 0,.bool false].toArray 60) g->Row g ↑d 60 ↑()/\XJ n i T a d g):=λg x=>⟨bz.xj bd x D9 D9 D9 D9,rz ((xz<|lY _ d).alloc _) x⟩;have b4:Hid (∀g,Row g ↑d 60 ↑()->XJ n i T a d g->cG g a T N n O i h l->(d:Nat)<=(d:Nat)/\Row (E3 g ↑d ↑L ↑M ↑ac ↑ad ↑al<|.bool am) ↑d 60 [L,M,ac,ad,al,.bool am]/\XJ n i T a d (E3 g ↑d ↑L ↑M ↑ac ↑ad ↑al<|.bool am)/\cG (E3 g ↑d ↑L ↑M ↑ac ↑ad ↑al<|.bool am) a T N n O i h l):=λg r x h=>⟨L9,r.tB _ _ _ _ _ _,Xc.tB x _ _ _ _ _ _ _ O9,h.tB r _ _ _ _ _ _ D9 D9 D9 D9 D9 D9⟩;have cr:=bo d.drew bf;have cu:=bo (d.drew.alloc<|.cells ↑() 60) bd;clear bo bz bd bf;have⟨c0,c1⟩:=E.p2;have eu:=j.c0;have y1:=E.lt;have dh:a<(d:Nat):=have⟨tv,A,_⟩:=j.row;A.lt;go_cut [8] (λs wx=>∃a1,s=.pointer (some ⟨a1,0,none⟩)/\(d:Nat)<=a1/\Row wx a1 60 [L,M,ac,ad,al,.bool am]/\XJ n i T a d wx/\cG wx a T N n O i h l);case first=>
    go_region_law (first|(refine jA 122 rfl _ _ rfl #[.pointer T,.agg #[q,B]] E9 _ cr (bh.out _ _) ?_;rintro ba g⟨rfl,z,H⟩)|(refine jA 122 rfl _ _ rfl #[.pointer T,.agg #[q,B]] E9 _ cu (bh.out _ _) ?_;rintro ba g⟨rfl,z,H⟩;have⟨RB,e8⟩:=ca.out g H;have dk:=RB.cell 0;have dm:=RB.cell 1;have dn:=RB.cell 2;have dp:=RB.cell 3;have dq:=RB.cell 4;have dt:=RB.cell 5;simp[vG,Ad]at dk dm dn dp dq dt;have f0:=RB.frozen 0;have f1:=RB.frozen 1;have f2:=RB.frozen 2;have fe:=RB.frozen 3;have ff:=RB.frozen 4;have fg:=RB.frozen 5));all_goals go_wp2
    all_goals go_meet
    all_goals first
     |exact⟨_,rfl,b0.out g H z⟩
     |exact⟨_,rfl,b4.out g RB e8 z⟩
   case rest=>obtain⟨a1,rfl,fh,R,H,z⟩:=hcut;replace f:=f.xj j H D9 D9 D9 D9;replace E:=E.xj j H D9 D9 D9 D9;replace m:=m.xj j H D9 D9 D9 D9;replace y:=y.xj j H D9 D9 D9 D9;have br:XJ n i T a w wc:=rz bq H;clear cr cu b0 b4 ca c0 c1 eu y1 dh H bq j bh cv;cases J:b.K (q,B)with
    |none=>
      replace F:=F.out;rw[J]at F;simp[vT,Wm,UQ,UR,Ae,UT,UU,UW,Af,vI]at F;obtain⟨rfl,rfl,rfl,rfl,rfl,rfl⟩:=F;have aj:jZ id h x.ins 0 s=(15,S,b):=by have:=C.out.same;rw[V.out,ao.out,uw (x:=⟨q,B,p⟩) J]at this;exact this
      have aw:Hid (fK x h s=(15,b)):=by have:=ab.out;rw[aj]at this;exact this
      have cw:l=b:=by rw[<-ae.out,J,Za J];rfl
      rw[cw]at z;clear aj J cw;have t5:=R.r 5;go_wp2;go_ret;exact⟨by rw[aw.out];rfl,aw.out▸z,br⟩
    |some cn=>
      have⟨a7,n2,U,D,a8⟩:=cn;replace F:=F.out;rw[J]at F;simp[vT,bL.v,UQ,UR,Ae,UT,UU,UW,Af,vI]at F;obtain⟨rfl,rfl,rfl,rfl,rfl,rfl⟩:=F;have cb:=aK<|C.out.next (i:=⟨q,B,p⟩) (ao.out) J;rw[V.out]at cb;have c7:=C.out.ok _ _ J;simp only at c7;have eg:=C.out.sp0;have eh:=C.out.sp1;have cx:Hid ({l with bX:=l.bX++[⟨p,D,id,h⟩]}=Hw id h ⟨q,B,p⟩ ⟨a7,n2,U,D,a8⟩ b):=by unfold Hid;rw[<-ae.out,J];rfl
      have ek:l.bX.length<=100000:=by rw[<-ae.out];have:=C.out.bX;show b.bX.length<=_;omega
      clear J;have⟨tv,A,ag⟩:=z.row;obtain⟨ta,ai,rfl⟩:=aS ag;have⟨gg,cm,eo,ep,et⟩:=info_parts Wv;have bu:=aX wc.drew [p,D,id,h] 298;have bx:(wc.drew.alloc<|.cells [.string p,.string D,.string id,.int .i64 h].toArray 298).ownsRow ↑kA.w0 298 4 (.slice ta l.bX.length ai) l.bX.length (aZ l.bX):=pP (Wp ag) _;have B1:kA.w0.heap.size<=(wc.drew.alloc<|.cells [.string p,.string D,.string id,.int .i64 h].toArray 298).heap.size:=by rw[cR];have⟨v,tr,bp,_⟩:=z.jy;have:=bp.1;show _<=(wc:Nat)+1;omega
      have b6:∀u∈[Value.string p,↑D,↑id,↑h],u.oneCell'=true:=by intro u cz;simp[jO,tH,tI]at cz;obtain rfl|rfl|rfl|rfl:=cz<;>rfl
      have fin:Hid (∀(v1:Value)(g:World),(wc.drew.alloc<|.cells [.string p,.string D,.string id,.int .i64 h].toArray 298).grownBy g (Value.slice ta l.bX.length ai).ownBlock->g.ownsRow ↑kA.w0 298 4 v1 (l.bX.length+1) (aZ l.bX++[.string p,.string D,.string id,.int .i64 h])->(Row g a 266 [ptr T,h,↑l.gG,.slice ta l.bX.length ai]/\Row g ↑w 169 [id,.slice K P ci,.slice an lo c]/\Row g I 139 [q,B,p]/\Row g a1 60 [a7,n2,U,D,a8,aD])/\
       cG (g.setCell (a,3) v1) a T N n O i h (Hw id h ⟨q,B,p⟩ ⟨a7,n2,U,D,a8⟩ b)/\Row (g.setCell (a,3) v1) ↑w 169 [id,.slice K P ci,.slice an lo c]/\Row (g.setCell (a,3) v1) an 86 (kv x.outs)/\Row (g.setCell (a,3) v1) K 139 (og x.ins)/\XJ n i T a w (g.setCell (a,3) v1)/\Row (g.setCell (a,3) v1) I 139 [q,B,p]/\Row (g.setCell (a,3) v1) a1 60 [a7,n2,U,D,a8,aD]):=λv1 g eb ee=>by
       have⟨Y,ah,au,ap⟩:=cG.push (t:=⟨p,D,id,h⟩) z A ag eb ee;rw[cx.out]at au;exact⟨⟨Y,f.xj z ah D9 D9 D9 D9,E.xj z ah D9 D9 D9 D9,R.xj z ah D9 D9 D9 D9⟩,au,f.xj z ap D9 D9 D9 D9,m.xj z ap D9 D9 D9 D9,y.xj z ap D9 D9 D9 D9,rz br ap,E.xj z ap D9 D9 D9 D9,R.xj z ap D9 D9 D9 D9⟩
      have⟨_,_,t2,t3,_,t5⟩:=R.p6;have dd:=E.r 2;have a0:=f.r 0;have⟨_,ew,_,ey⟩:=A.p4;have fc:=R.ne A D9;have e2:=E.ne A D9;have e3:=f.ne A D9;have y1:=R.lt;have dh:=E.lt;have gp:=f.lt;have gq:=A.lt;have fz:-9223372036854775808<=S+U/\S+U<9223372036854775808:=O9;clear A ag f E R m y z br cx C c7 eg eh;go_wp2;refine N6 20 (λW=>W.cell? (a,3)=some (.slice ta l.bX.length ai)/\W.cell? (a,1)=some ↑h/\W.cell? ((w:Nat),0)=some ↑id/\W.cell? (I,2)=some ↑p/\W.cell? (a1,3)=some ↑D) K8 ?_;iterate 16 (refine abr ⟨ey,ew,a0,dd,t3⟩ ?_;simp[Act.put,Cg])
      refine Vm 16 K8 rfl λaq Q=>?_;go_simp;have hA:Below wc wc (wc.drew.alloc<|.cells [.string p,.string D,.string id,.int .i64 h].toArray 298):=(cN B0).alloc L9 _;refine Q.out _ _ (λ_=>⟨aM hA ey,aM hA ew,aM hA a0,aM hA dd,aM hA t3⟩) ?_;clear Q aq;try simp[Act.put,Cg]
      refine Vm 17 K8 rfl λaq Q=>?_;refine zH aI.underlying126 cm eo ep et rfl D9 D9 ↑kA.w0 rfl _ _ rfl (.slice ta l.bX.length ai) l.bX.length (aZ l.bX) E9 bx 1 [p,D,id,h] rfl (wc:Nat) 1 E9 bu b6 O9 ek B1 ?_;intro v1 g cf π l1;have⟨gk,gj,en⟩:=cX cf l.bX.length rfl;subst en;have⟨⟨Y,ah,au,ap⟩,c8,da,e4,q8,e5,dc,db⟩:=fin.out _ _ π cf;have fa:=Y.r 3;have fb:=Y.frozen 3;have z3:=Y.lt;have z4:=Y.r 1;have z5:=ah.r 0;have di:=au.r 2;have dj:=ap.r 3;refine Q.out _ _ (λ_=>⟨fa,z4,z5,di,dj⟩) ?_;clear Q aq hA;show oO _ _ _ _ _ _ _ _ (Act.put _ (some 48) _) _;simp[Act.put,Cg];refine Vm 18 K8 rfl λaq Q=>?_;go_simp;refine Q.out _ _ (λ_=>⟨fa,z4,z5,di,dj⟩) ?_;clear Q aq;try simp[Act.put,Cg]
      refine abr ⟨fa,z4,z5,di,dj⟩ ?_;simp[Act.put,Cg];refine Vm 20 K8 rfl λaq Q=>?_;go_simp;refine Q.out _ _ (λh=>absurd rfl h) ?_;clear Q aq;refine ah7 K8 ?_ _;all_goals clear Y ah au ap dc db fa fb z3 z4 z5 di dj t5 t2 t3 dd a0 ew ey bu bx B1 b6 fin cm
      all_goals go_wp2
      all_goals go_roundw
      all_goals first
       |exact⟨k+1,S+U,_,O9,by go_num,rfl,cb.out,c8,da,e4,q8,e5⟩
       |(simp[intOf];omega)
  have ed:k=P:=O9;subst ed;have aj:jZ id h x.ins 0 s=(0,S,b):=by have:=C.same;rw[V,Dx O9]at this;exact this
  have bj:=C.gG;have ft:=C.sp0;have fu:=C.sp1;have fw:=C.steps;rw[aj]at ab;simp[ne_eq,aam,vJ]at ab;clear aj C;have e1:=f.r 2;change Hid _ at af a6 V a2;go_wp2;refine(cy.out wr ⟨an,c,by rw[af.out],m⟩).m1 λg ak=>?_;replace j:=j.keep ak;replace f:=f.keep ak f.lt;replace m:=m.keep ak m.lt;have dg:XJ n i T a w g:=Wl bb ak;clear bb ak e1 y;by_cases aT:S<G
  .have aw:Hid (fK x h s=(16,b)):=by have:=ab.out;rw[aN aT]at this;exact this
   go_wp2;go_ret;exact⟨by rw[aw.out];rfl,aw.out▸j,dg⟩
  have aw:Hid (fK x h s=eJ x h {b with gG:=b.gG+(S -G)}):=by have:=ab.out;rw[aJ aT]at this;exact this
  have⟨tv,A,ag⟩:=j.row;have gl:=A.r 2;have f2:=A.frozen 2;have ez:=f.ne A D9;have b8:=aK (j.fee<|b.gG+(S -G));clear A ag;have av:=f.bF (a,2) ↑(b.gG+(S -G)) ez;have bc:Row (g.setCell (a,2) ↑(b.gG+(S -G))) an 86 (kv x.outs):=m.bF (a,2) _ (have⟨tv,A,_⟩:=j.row;m.ne A D9);have ga:-9223372036854775808<=S -G/\S -G<9223372036854775808:=O9;have gd:-9223372036854775808<=b.gG+(S -G)/\b.gG+(S -G)<9223372036854775808:=by rw[bj];omega
  replace bj:=aK bj;have⟨t0,t1,t2⟩:=av.p3;have⟨u0,gm,dd⟩:=f.p3;replace bc:=aK bc;clear av f m j;go_wp2;refine(cj.out _ {b with gG:=b.gG+(S -G)} K k ci b8.out.1 (by show b.steps.length+8<=_;omega) ⟨an,c,by rw[af.out],bc.out⟩).mono ?_;rintro e w2⟨rfl,dx,e9⟩;go_wp2;go_ret;exact⟨by rw[aw.out];rfl,by rw[aw.out];exact dx,rz (rz dg b8.out.2) e9⟩
def PW:=@cell_regrown
def cC.v(t:cC):Value:=.agg #[.string t.key,.string t.lock,.string t.id,.int .i64 t.aT]
def bytes_beq(a b:ByteArray):(a.toList==b.toList)=decide (a=b):=by by_cases h:a=b;simp_all;rw[lX h,beq_eq_false_iff_ne];intro e;apply h;rw[ByteArray.toList_eq,ByteArray.toList_eq]at e;have⟨⟨x⟩⟩:=a;simp only at e;rw[e]
def yh{a b:ByteArray}(h:a≠b):a.toList≠b.toList:=by have:=bytes_beq a b;rw[lX h]at this;simpa using this
def adq{a b c A e f d D}(h:(⟨a,b,c,d⟩:cC)≠⟨A,e,f,D⟩):a.toList≠A.toList\/(a.toList=A.toList/\b.toList≠e.toList)\/(a.toList=A.toList/\b.toList=e.toList/\c.toList≠f.toList)\/(a.toList=A.toList/\b.toList=e.toList/\c.toList=f.toList/\d≠D):=by by_cases g:a=A;subst g;by_cases i:b=e;subst i;by_cases j:c=f;simp_all;exact .inr (.inr<|.inl ⟨rfl,rfl,yh j⟩);exact .inr<|.inl ⟨rfl,yh i⟩;exact .inl<|yh g
def Zb(s t:cC)(w):(binOp .eql 298 s.v t.v).run Vp w=.ok (decide (s=t)) w:=by
 have⟨a,b,c,d⟩:=s;have⟨A,e,f,D⟩:=t;unfold cC.v;rw[run_eql_struct];have⟨m,l⟩:∃m,10000=m+2:=⟨9998,rfl⟩;rw[l];have k:decide (({key:=a,lock:=b,id:=c,aT:=d}:cC)=⟨A,e,f,D⟩)=(decide (a=A)&&(decide (b=e)&&(decide (c=f)&&decide (d=D)))):=by rw[Uz];simp
 rw[k];by_cases g:a=A<;>by_cases h:b=e<;>by_cases i:c=f<;>by_cases j:d=D<;>simp[go_sem,bytes_beq,g,h,i,j]
def Ei:∀l i x,l[i]?=some x->(aZ l)[i*4]?=some x.key/\(aZ l)[i*4+1]?=some (.string x.lock)/\(aZ l)[i*4+2]?=some (.string x.id)/\(aZ l)[i*4+3]?=some (.int .i64 x.aT)
 |[],i,x,h=>by simp at h
 |y::l,0,x,h=>by simp at h;subst h;exact⟨rfl,rfl,rfl,rfl⟩
 |y::l,i+1,x,h=>by have:=Ei l i x (by simpa using h);have e:aZ (y::l)=y.cells++aZ l:=rfl;rw[e];simp[show(i+1)*4=4+i*4 from by omega,show 4+i*4+1=4+(i*4+1)from by omega,show 4+i*4+2=4+(i*4+2)from by omega,show 4+i*4+3=4+(i*4+3)from by omega];have a:y.cells.length=4:=rfl;rw[cZ O9,cZ O9,cZ O9,cZ O9];simpa[a]using this
def uy{B}{w:World}{v l k x}(h:w.ownsRow B 298 4 v l.length (aZ l))(d:l[k]?=some x):∃g c,v=.slice (some ⟨g,0,none⟩) l c/\g<w/\w.cell? ⟨g,k*4,none⟩=some x.key/\w.cell? ⟨g,k*4+1,none⟩=some x.lock/\w.cell? ⟨g,k*4+2,none⟩=some x.id/\w.cell? ⟨g,k*4+3,none⟩=some x.aT:=by
 have n:=(bK.1 d).1;have a:=λg(b:v.ownBlock=some g)=>h.cells (g:=g) b;obtain⟨_,H⟩|⟨g,C,o,rfl,m,b,_⟩:=h.2;omega;have a:=a g rfl;have⟨e,f,i,j⟩:=Ei l k x d;refine⟨g,C,rfl,bO b,?_,?_,?_,?_⟩;have:=a _ _ e;rwa [add0]at this;have:=a _ _ f;rwa [add0]at this;have:=a _ _ i;rwa [add0]at this;have:=a _ _ j;rwa [add0]at this
def Zc{B}(t v l w)(m:w.ownsRow B 298 4 v l.length (aZ l))(R:l.length<=100000):Cv 245 #[v,t.v] w λe W=>(∃z,e=.returned (.int .i64 z)/\decide (0<=z)=decide (t∈l))/\Below w w W:=by
 have g:=Zb t;obtain⟨ab,ac,rfl⟩:=aS m;have S:Hid (∀x∈l,x=t->t∈l):=λx o e=>e▸o;have⟨a,b,c,d⟩:=t;simp only[cC.v]at g|-;have f:=aX w [a,b,c,d] 298;have h:=Ba w<|.cells #[a,b,c,d] 298;have m:=aP m h;go_enter fA func245,ntmps245;go_wp2;generalize w.alloc _=X at f h m|-;go_loopw [8] (λi Y=>∃k,k<=l.length/\i=k/\(∀j x,j<k->l[j]?=some x->⟨a,b,c,d⟩≠x)/\Below X X Y) (λi _=>l -(intOf i).toNat);exact⟨0,O9,rfl,λj x p=>by omega,B0⟩;case round=>
  obtain⟨k,Q,rfl,A,n⟩:=hrel;by_cases C:k<l
  .have o:=aY C;have q:=oD C;generalize l[k]=x at o q;have⟨ad,cc,K,P,T,U,V,aa⟩:=uy (aP m n) o;cases K;have f:=f.keep n f.lt;have r0:=f.cell 0;have r1:=f.cell 1;have r2:=f.cell 2;have r3:=f.cell 3;have G:(0:Int)<=k:=O9;have⟨L,M,π,N⟩:=x;by_cases s:(⟨a,b,c,d⟩:cC)=⟨L,M,π,N⟩
   .cases s;have q:=aK q;go_wp2;go_region;all_goals go_wp2
    all_goals go_ret
    all_goals exact⟨⟨(k:Int),rfl,by rw[pM q.out,pM G]⟩,cN (h.trans<|n.mono h.size)⟩
   have E:Hid (∀j x,j<k+1->l[j]?=some x->⟨a,b,c,d⟩≠x):=λj x p u=>by by_cases e:j=k;subst e;cases o▸u;exact s;exact A j x O9 u
   have I:=adq s;obtain r|⟨r,y⟩|⟨r,y,D⟩|⟨r,y,D,O⟩:=I;all_goals go_wp2
   all_goals go_region
   all_goals go_wp2
   all_goals go_roundw
   all_goals first
    |exact⟨k+1,O9,by go_num,E.out,cN n⟩
    |(simp[intOf];omega)
  have F:k=l:=O9;subst F;have J:Hid ((⟨a,b,c,d⟩:cC)∉l):=λH=>have⟨j,p,e⟩:=List.getElem_of_mem H;A j _ p (aY p) e.symm
  go_wp2;go_ret;exact⟨⟨-1,rfl,by rw[lX J.out];rfl⟩,h.trans<|n.mono h.size⟩
def MJ{B}(t v l w)(f:w.ownsRow B 298 4 v l.length (aZ l))(k:l.length<=100000):Cv 226 #[v,t.v] w λe n=>e=.returned (decide (t∈l))/\Below w w n:=by
 have H:=λW(h:W.ownsRow B 298 4 v l (aZ l))=>Zc t v l W h k;have⟨a,b,c,d⟩:=t;simp[cC.v]at H|-;have i:=aX w [a,b,c,d] 298;have g:=Ba w<|.cells #[a,b,c,d] 298;have f:=aP f g;go_enter fA func226,ntmps226;go_wp2;generalize w.alloc _=X at i g f|-;refine(H X f).mono ?_;rintro e o⟨⟨z,rfl,m⟩,j⟩;go_wp2;go_ret;exact⟨rfl,g.trans<|j.mono g.size⟩
def Ww{B b o}(t v l w)(j:w.cell? (b,o+1)=some v)(i:w.ownsRow B 298 4 v l.length (aZ l))(m:l.length<=100000):Cv 217 #[.pointer<|some ⟨b,o,none⟩,t.v] w λe z=>e=.returned (.bool<|decide (t∈l))/\Below w w z:=by
 have H:=λW(h:W.ownsRow B 298 4 v l (aZ l))=>MJ t v l W h m;have⟨a,e,c,d⟩:=t;simp[cC.v]at H|-;have f:=aX w [a,e,c,d] 298;have g:=Ba w<|.cells #[a,e,c,d] 298;have i:=aP i g;have j:=aM g j;go_enter fA func217,ntmps217;go_wp2;generalize w.alloc _=X at f g i j|-;have K:=PW<|show X.cell? ((w:Nat),0)=some a from f.cell 0;have u:=PW<|show X.cell? ((w:Nat),1)=some e from f.cell 1;have A:=PW<|show X.cell? ((w:Nat),2)=some c from f.cell 2;have x:=PW<|show X.cell? ((w:Nat),3)=some d from f.cell 3;have y:=PW j;have r:=λd O=>Calls.regrown_of<|H (Go.Sort.grow (redrawn X d) O) (aP i<|below_regrown X d O);refine wp_region_quiet_below nO K8 ?_;repeat(go_big_quiet_step (first|(go_at_call 226;exact r _ _)))
 intro _ p;have⟨⟨k,q⟩,s⟩:=p;go_wp2;go_ret;exact⟨rfl,g.trans<|(below_regrown X k q).mono g.size⟩
def gI(l T:List cC):List cC:=T.filter λt=>!decide (t∈l)
def I0{B w O R o a Q}(n:o.guard=none)(s x)(q:o.op=.call {callee:=.builtin .append,args:=#[s,x],argTypes:=#[126,126]})(v l)(t:a.eval s=v)(r:w.ownsRow B 298 4 v l.length (aZ l))
 (d g)(y:a.eval x=.slice g 1 1)(m:Row w g 298 d.cells)(E:l.length<=1000000)(k:B<=↑w)
 (h:∀b W,W.ownsRow B 298 4 b (l++[d]).length (aZ<|l++[d])->w.grownBy W v.ownBlock->(b.ownBlock=v.ownBlock\/b.ownBlock=some ↑w)->wpList Vp O Q R (a.put o.dst b) W):wpList Vp O Q (o::R) a w:=by
 have⟨D,H,z,A,C⟩:=info_parts Wv;refine wpList_append_own_at _ n s x 126 q B 298 D _ 4 56 aI.underlying126 H z A C rfl D9 v l (aZ l) t r (g,0) 1 1 d.cells y rfl (λj u p=>by rw[add0,m.cell];exact p) ?_ (by unfold maxLen;omega) O9 k ?_;intro u c;simp[cC.cells]at c;obtain rfl|rfl|rfl|rfl:=c<;>rfl;intro b W e f _ i;refine h b W ?_ f i;rw[vw,cB];exact e
def PX{B B' b o}(mv tv l a w)(V:w.cell? (b,o+1)=some mv)(T:w.ownsRow B 298 4 mv l (aZ l))(C:w.ownsRow B' 298 4 tv a (aZ a))(aa:l.length<=100000)(ak:a.length<=100000):Cv 204 #[.pointer<|some ⟨b,o,none⟩,tv] w λe w'=>∃N,e=.returned N/\w'.ownsRow w 298 4 N (gI l a) (aZ<|gI l a)/\Below w w w':=by
 obtain⟨au,av,rfl⟩:=aS C;go_enter fA func204,ntmps204;go_wp2;go_loopw [5,10] (λf i wr=>∃k,k<=a.length/\i=k/\wr.ownsRow w 298 4 f (gI l<|a.take k).length (aZ (gI l<|a.take k))/\Below w w wr) (λ_ i _=>a.length -(intOf i).toNat);exact⟨0,O9,rfl,mV _ _ _ _,B0⟩;case round=>
  rename_i f _ _;obtain⟨k,ah,rfl,d,c⟩:=hrel;by_cases H:k<a.length
  .have A:=aY H;have z:a.take (k+1)=a.take k++[a[k]]:=by rw[rN H]
   have G:(gI l<|a.take k).length<=1000000:=by have:=Nl (λt=>!decide (t∈l))<|a.take k;rw[dJ]at this;unfold gI;omega
   generalize a[k]=x at A z;have q:Hid (gI l (a.take<|k+1)=gI l (a.take k)++(if decide (x∈l)then[]else[x])):=by unfold Hid gI;rw[z,List.filter_append];congr 1;by_cases ae:x∈l<;>simp[ae]
   have⟨g,cc,af,Y,J,K,L,M⟩:=uy (aP C c) A;cases af;obtain⟨s,u,rfl⟩:=aS d;have ai:(0:Int)<=(k:Int):=O9;have aj:(k:Int)<(a.length:Int):=O9;have r:=λW(E:Below w w W)=>Ww x mv l W (aM E V) (aP T E) aa;clear z A;generalize X:decide (x∈l)=R at q r;clear X;generalize F:gI l (a.take k)=fk at d G q|-;have F:=aK F;have⟨j,m,xc,n⟩:=x;simp[cC.v]at J K L M r;have h:=aX wr [j,m,xc,n] 298;have y:Below wr wr (wr.alloc<|.cells #[j,m,xc,n] 298):=B0.alloc L9 _;have d:=aP d y;have c:=c.trans<|y.mono c.size;go_wp2;generalize wr.alloc _=Q at h d c|-;generalize(wr:Nat)=I at h|-;refine(r Q c).m1 λw1 p=>?_;have h:=h.keep p h.lt;have d:=aP d p;have c:=c.trans<|p.mono c.size;clear p r y J K L M Y;cases R with
   |true=>go_wp2;go_roundw;exact⟨k+1,O9,by go_num,by rw[q.out];simpa using d,c⟩;simp[intOf];omega
   |false=>
     have r0:w1.cell? (I,0)=some j:=h.cell 0;have r1:w1.cell? (I,1)=some m:=h.cell 1;have r2:w1.cell? (I,2)=some xc:=h.cell 2;have r3:w1.cell? (I,3)=some n:=h.cell 3;have O:=aX w1 [j,m,xc,n] 298;have P:=pP d<|.cells #[j,m,xc,n] 298;have B1:(w:Nat)<=(w1.alloc<|.cells #[j,m,xc,n] 298).heap.size:=by rw[cR];have:=c.size;omega
     have U:Below w w (w1.alloc<|.cells #[j,m,xc,n] 298):=c.alloc c.size _;have ab:=λk(e:(Value.slice s fk.length u).ownBlock=some k)=>(bS d e).1;go_wp2_with (refine I0 rfl _ _ rfl (s,fk,u) fk E9 P ⟨j,m,xc,n⟩ (w1:Nat) E9 O G B1 ?_;intro v2 w2 D S l2;have⟨ar,ao,ag⟩:=cX D fk.length S8;subst ag);go_roundw;exact⟨k+1,O9,by go_num,by rw[q.out];exact D,U.trans<|ac9 S B1 ab⟩;simp[intOf];omega
  .have π:k=a.length:=O9;subst π;rw[gQ]at d;obtain⟨s,u,rfl⟩:=aS d;go_wp2;go_ret;exact⟨_,rfl,d,c⟩
def Wx:=@World.grownBy.trans
def putAt(c:List Value):Nat->List Value->List Value
 |_,[]=>c
 |o,v::r=>putAt (c.set o v) (o+1) r
def Row.setCells{g t}:∀a o w c,Row w g t c->Row (w.setCells g o a) g t (putAt c o a)
 |[],_,_,_,h=>h
 |v::r,o,w,c,h=>Row.setCells r (o+1) _ _<|h.set o v
def akb:=@Row.setCells
def KI:∀c a O b,O.length=c.length->putAt (a++(O++b)) a c=a++(c++b)
 |[],a,O,b,h=>by have:O=[]:=lW (by simpa using h);rw[this];rfl
 |v::r,a,[],b,h=>by simp at h
 |v::r,a,o::O,b,h=>by show putAt ((a++(o::O++b)).set a v) (a+1) r=_;rw[Ds _ _ L9];simp;have:=KI r (a++[v]) O b (by simpa using h);simp at this;rw[this]
def Ej(g):∀(a:List Value)(o:Nat)(w:World),w.grownBy (w.setCells g o a) (some g)
 |[],_,w=>bT w _
 |v::r,o,w=>Wx (cI w (g,o) v)<|Ej g r (o+1) _
def PY(l):(aZ l)=l.length*4:=by induction l with
 |nil=>rfl
 |cons x l a=>simp only[aZ,yD,cB]at*;simp only[cC.cells,cQ,pN];omega
def PZ(l):∀u∈aZ l,u.oneCell'=true:=by intro u b;have⟨t,_,a⟩:=Jl.1 b;simp[cC.cells]at a;obtain rfl|rfl|rfl|rfl:=a<;>rfl
def Zd{B w g n C b}(h:w.ownsRow B 298 4 (g,n,C) n b):∃s,Row w g 298 (b++s)/\B<=g/\n<=C/\C<=maxLen/\(b++s).length=C*4:=by obtain⟨a,_⟩|⟨G,j,l,a,f,i,c,d,k,e⟩:=h.2;cases a;cases a;refine⟨l.toList.drop<|n*4,?_,f,c,d,?_⟩;rw[<-e,pR];unfold Row;rw[i];grind
def afQ{B w g n C a s}(h:Row w g 298 (a++s))(f:B<=g)(c:n<=C)(d:C<=maxLen)(e:(a++s).length=C*4)(b:a=n*4):w.ownsRow B 298 4 (g,n,C) n a:=⟨b,.inr ⟨g,C,(a++s).toArray,rfl,f,h,c,d,by simpa using e,by rw[<-b];simp⟩⟩
def vW:List Value:=[↑aB,↑aB,↑aB,↑aA]
def Hx(w t g k c a O s)(d:Row w g 298 (a++(O++s)))(j:a.length=k)(p:O.length=4):∃W,(Builtin.clear_ #[126] t #[.slice (g,k) 1 c]).run Vp w=.ok (.tuple #[]) W/\Row W g 298 (a++(vW++s))/\w.grownBy W (some g):=by
 have n:Builtin.zeroCells (Value.agg #[aB,aB,aB,aA]).cells 1=vW.toArray:=K8;have b:=aaz (P:=Vp) g k 298 vW 0 (a++(O++s)).toArray w d (by simp[vW];omega) (by intro v f;simp[vW]at f;obtain rfl|rfl|rfl|rfl:=f<;>rfl);have m:(Builtin.clear_ #[126] t #[.slice (g,k) 1 c]).run Vp w=.ok (.tuple #[]) (w.setRow g (a++(vW++s)).toArray):=by
  simp only[tJ]at b;have e:((a++(O++s)).toArray.toList.take k++vW++(a++(O++s)).toArray.toList.drop (k+vW))=a++(vW++s):=by
   subst j;have o:vW.length=4:=rfl;have h:(a++(O++s)).drop (a+4)=s:=by simp_all
   rw[o,h,List.take_left,dP]
  rw[e]at b;simp[Builtin.clear_,n,b]
 refine⟨_,m,?_,?_⟩;unfold Row;rw[setRow_heap w g _ _ _ _ d];refine⟨rfl,rfl,rfl,by simp[World.setRow],λi H l=>setRow_other _ _ _ _ λe=>l<|by rw[e]⟩
def Tt{B g S}(t r w)(s:w.ownsRow B 298 4 (.slice g (t::r) S) (t::r) (aZ (t::r)))(L:r.length<=1000):Cv 223 #[.slice (some ⟨g,0,none⟩) (t::r) S,aA,aG] w λe V=>e=.returned (g,r,S)/\V.ownsRow B 298 4 (g,r,S) r (aZ r)/\w.grownBy V (some g):=by
 have⟨T,a,E,n,D,f⟩:=Zd s;have⟨C,h,M,A,N⟩:=info_parts Wv;have z:aZ (t::r)=t.cells++aZ r:=rfl;rw[z]at a f;have i:=PY r;have y:=PZ r;have q:(t.cells++aZ r).length=(aZ r)+4:=by simp[cB];show 4+_=_;omega
 have I:∃U,U.length=4/\putAt (t.cells++aZ r++T) 0 (aZ r)=aZ r++(U++T):=by refine⟨(t.cells++aZ r).drop<|aZ r,by rw[rM];omega,?_⟩;have:=KI (aZ r) [] ((t.cells++aZ r).take<|aZ r) ((t.cells++aZ r).drop (aZ r)++T) (by rw[dJ];omega);simp[yC,pN]at this;rw[<-dP,pR]at this;rw[this]
 have⟨U,x,p⟩:=I;simp[cQ]at n f|-;have o:∀j u,(aZ r)[j]?=some u->w.drew.cell? (((g,4):Addr).add j)=some u:=λj u b=>by
  have e:((g,4):Addr).add j=(g,4+j):=by unfold Addr.add;split<;>simp_all
  rw[e];have:=(qw a).cell<|4+j;rw[this,dP,cZ<|by show 4<=_;omega];show(aZ r++T)[4+j -4]?=_;rw[show 4+j -4=j from by omega,ko (bK.1 b).1];exact b
 have k:∀j,j<(aZ r).length->(w.drew.cell? (g,0+0*4+j)).isSome=true/\w.drew.frozen? (g,0+0*4+j)=false:=λj b=>by refine⟨?_,(qw a).frozen _⟩;rw[(qw a).cell,aY<|by simp[cB]at q|-;omega];rfl
 have c:Row (w.drew.setCells g (0+0*4)<|aZ r) g 298 (aZ r++(U++T)):=by have:=akb (aZ r) 0 w.drew _<|qw a;rw[p]at this;exact this
 have d:w.grownBy (w.drew.setCells g (0+0*4)<|aZ r) (some g):=Wx (wZ<|bT w _)<|Ej g (aZ r) _ w.drew;have K:=n;have Y:=aK λV(J:Row V g 298 (aZ r++(vW++T)))=>afQ J E O9 D (by simp[cB]at f q|-;rw[show vW.length=4 from rfl];omega) i;have O:(1:Int)<=r+1:=O9;have P:(r:Int)+1<=(S:Int):=O9;have Q:(0:Int)<=r:=O9;have R:(r:Int)<=r+1:=O9;have p:=aK p;clear s a z f q n;by_cases F:S=1
 .have H:r=[]:=lW O9;subst F H;have v:∀j u,(aZ [])[j]?=some u->w.drew.cell? (((g,0):Addr).add j)=some u:=λj u b=>by simp[aZ]at b
  clear o;go_enter fA func223,ntmps223;go_wp2;go_region_law (refine step_append_room rfl _ _ 126 rfl 298 C 4 aI.underlying126 h A g 0 0 1 (by simp[Act.eval,Act.put]) (g,0) 0 0 (aZ []) (by simp[Act.eval,Act.put]) i v y O9 k ?_);all_goals generalize w.drew.setCells g (0+0*4) (aZ [])=W at c d|-
  all_goals clear v k h
  all_goals have⟨X,G,l,m⟩:=Hx W 0 g 0 1 (aZ []) U T c rfl x
  all_goals go_wp2
  all_goals go_ret
  all_goals exact⟨rfl,Y.out X l,Wx d m⟩
 go_enter fA func223,ntmps223;go_wp2;go_region_law (refine step_append_room rfl _ _ 126 rfl 298 C 4 aI.underlying126 h A g 0 0 S (by simp[Act.eval,Act.put]) (g,4) r.length (S -1) (aZ r) (by simp[Act.eval,Act.put]) i o y O9 k ?_);all_goals generalize w.drew.setCells g (0+0*4) (aZ r)=W at c d|-
 all_goals clear o k h
 all_goals have⟨X,G,l,m⟩:=Hx W 0 g (r*4) (S -r) (aZ r) U T c i x
 all_goals go_wp2
 all_goals go_ret
 all_goals exact⟨rfl,Y.out X l,Wx d m⟩
def rZ(m:Nat)(t:cC)(l:List cC):List cC:=if t∈l then l else if m<(l++[t]).length then(l++[t]).drop 1 else l++[t]
structure iR(w:World)(nb B:Nat)(cs:List Value)(most:Nat)(mv:Value)(l:List cC):Prop where
 row:Row w nb 130 cs
 Ze:cs[14]?=some (.int .i64 most)
 KJ:cs[15]?=some mv
 own:w.ownsRow B 298 4 mv l.length (aZ l)
 base:B<=w.heap.size
def iR.keep{w W n B c b m l}(h:iR w n B c b m l)(a:Below w w W):iR W n B c b m l:=⟨h.row.keep a h.row.lt,h.Ze,h.KJ,aP h.own a,cA h.base a.size⟩
def MF(n:Nat)(m:Value)(k:Nat):Prop:=k=n\/m.ownBlock=some k
def KL(c:List Value)(a b):(c.set 15 a).set 15 b=c.set 15 b:=by simp
def rA{c:List Value}{a}(h:c[15]?=some a):c.set 15 a=c:=by apply kX;intro i;by_cases e:i=15;grind;grind
def iR.push{a w N B C f M v l t o}(h:iR a N B C f M l)(d:(a.drew.alloc o).grownBy w M.ownBlock)(m:w.ownsRow B 298 4 v (l+1) (aZ l++t.cells))(j:v.ownBlock=M.ownBlock\/v.ownBlock=some ↑(a.drew.alloc o)):Row w N 130 C/\iR (w.setCell (N,15) v) N B (C.set 15 v) f v (l++[t])/\Xc (MF N M) a (w.setCell (N,15) v)/\(∀k,v.ownBlock=some k->M.ownBlock=some k\/a<=k):=by
 have b:Below a a (a.drew.alloc o):=(cN B0).alloc L9 _;have r:=h.row.keep b h.row.lt;have R:Row w N 130 C:=(d.block N r.lt λc=>bR (aP h.own b) r D9 c.symm).trans r;have g:Xc (MF N M) a w:=(jS b).grown d λk e _=>.inr e;refine⟨R,⟨R.set 15 v,?_,?_,?_,?_⟩,g.setCell (N,15) v λ_=>.inl rfl,?_⟩;rw[ot D9];exact h.Ze;rw[Aq (bK.1 h.KJ).1];rw[vw,cB];exact pn m R D9;have:=(g.setCell (N,15) v λ_=>.inl rfl).size;have:=h.base;omega;intro k i;obtain e|e:=j;simp_all;rw[i]at e;have:=iN e;rw[cR]at this;have p:a.drew.heap.size=(a:Nat):=rfl;omega
def adr{n B m s M l}(t w)(h:iR w n B s m M l)(hl:l.length<=500)(hm:m<=1000):Cv 206 #[.pointer (n,14),t.v] w λe F=>e=.returned (.tuple #[])/\∃mv',iR F n B (s.set 15 mv') m mv' (rZ m t l)/\Xc (MF n M) w F/\∀k,mv'.ownBlock=some k->M.ownBlock=some k\/w<=k:=by
 have D:∀W,iR W n B s m M l->Cv 217 #[.pointer (n,14),t.v] W λe F=>e=.returned (.bool<|decide (t∈l))/\Below (W:Nat) W F:=λW G=>Ww (b:=n) (o:=14) t M l W (by rw[G.row.cell];exact G.KJ) G.own O9;have hno:Hid (rZ m t l=if t∈l then l else if m<(l++[t]).length then(l++[t]).drop 1 else l++[t]):=rfl;obtain⟨V,p,rfl⟩:=aS h.own;have R:=aX w t.cells 298;have i:Below w w (w.alloc<|.cells t.cells.toArray 298):=B0.alloc L9 _;replace h:=h.keep i;have hcl:Hid (∀Q:List cC,aZ Q++t.cells=aZ Q++t.cells):=λ_=>rfl;by_cases E:t∈l
 .have I:Hid (rZ m t l=l):=by have:=hno.out;rw[aN E]at this;exact this
  rw[pM E]at D;replace E:=aK E;have⟨T,a,d,f⟩:=t;simp only[cC.v,cC.cells]at D R i h|-;go_enter fA func206,ntmps206;go_wp2;generalize w.alloc _=X at R i h|-;refine(D X h).m1 λj A=>?_;replace h:=h.keep A;go_wp2;refine cY (Ns rfl _ _ _) rfl ?_;refine⟨rfl,_,?_,jS (i.trans<|A.mono i.size),λk e=>.inl e⟩;rw[I.out,rA h.KJ];exact h
 .rw[lX E]at D;have⟨T,a,d,f⟩:=t;simp only[cC.v,cC.cells]at D R i h|-;have I:Hid (rZ m ⟨T,a,d,f⟩ l=if m<(l++[(⟨T,a,d,f⟩:cC)]).length then(l++[(⟨T,a,d,f⟩:cC)]).drop 1 else l++[⟨T,a,d,f⟩]):=by have:=hno.out;rw[aJ E]at this;exact this
  clear hno E hcl;go_enter fA func206,ntmps206;go_wp2;generalize w.alloc _=X at R i h|-;refine(D X h).m1 λj A=>?_;replace h:=h.keep A;replace R:=R.keep A R.lt;replace i:=i.trans<|A.mono i.size;clear A D;go_wp2;have⟨i1,hi1,akR,akS,akT⟩:=info_parts Wv;have N1:=aX j.drew [T,a,d,f] 298;have O2:(j.drew.alloc<|.cells [.string T,.string a,.string d,.int .i64 f].toArray 298).ownsRow B 298 4 (.slice V l.length p) l.length (aZ l):=pP (Wp h.own) _;have B1:B<=(j.drew.alloc<|.cells [.string T,.string a,.string d,.int .i64 f].toArray 298).heap.size:=by rw[cR];have:=h.base;show _<=(j:Nat)+1;omega
  have h1c:∀u∈[Value.string T,↑a,↑d,↑f],u.oneCell'=true:=by intro u P;simp only[jO,tH,tI]at P;obtain rfl|rfl|rfl|rfl:=P<;>rfl
  have fin:Hid (∀(v:Value)(z:World),(j.drew.alloc<|.cells [.string T,.string a,.string d,.int .i64 f].toArray 298).grownBy z (Value.slice V l.length p).ownBlock->z.ownsRow B 298 4 v (l.length+1) (aZ l++[.string T,.string a,.string d,.int .i64 f])->(v.ownBlock=(Value.slice V l.length p).ownBlock\/v.ownBlock=some ↑(j.drew.alloc<|.cells [.string T,.string a,.string d,.int .i64 f].toArray 298))->Row z n 130 s/\iR (z.setCell (n,15) v) n B (s.set 15 v) m v (l++[⟨T,a,d,f⟩])/\Xc (MF n<|.slice V l.length p) j (z.setCell (n,15) v)/\(∀k,v.ownBlock=some k->(Value.slice V l.length p).ownBlock=some k\/(j:Nat)<=k)):=λv z hg ho hw=>iR.push (t:=⟨T,a,d,f⟩) h hg ho hw
  have⟨π,c1,c2,c3⟩:=R.p4;have n15:j.cell? (n,15)=some (.slice V l.length p):=by rw[h.row.cell];exact h.KJ
  have y1:=R.lt;have y2:=h.row.lt;go_cut [] (λS=>∃v,iR S n B (s.set 15 v) m v (l++[⟨T,a,d,f⟩])/\Xc (MF n<|.slice V l.length p) j S/\(∀k,v.ownBlock=some k->(Value.slice V l.length p).ownBlock=some k\/(j:Nat)<=k));case first=>
   go_region_law (refine zH aI.underlying126 hi1 akR akS akT rfl D9 D9 B rfl _ _ rfl (.slice V l.length p) l.length (aZ l) E9 O2 1 [T,a,d,f] rfl (j:Nat) 1 E9 N1 h1c O9 O9 B1 ?_;intro v z hT2 g2 l2;have⟨ig,ic,N⟩:=cX hT2 l.length rfl;subst N;have⟨q1,q2,q3,q4⟩:=fin.out _ _ g2 hT2 l2;have z1:z.cell? (n,15)=some (.slice V l.length p):=(by rw[q1.cell];exact h.KJ);have z2:=q1.frozen 15;have z3:=q1.lt);all_goals go_wp2
   all_goals go_meet
   all_goals exact⟨_,q2,q3,q4⟩
  case rest=>
   have⟨v,H,U,N⟩:=hcut;clear fin N1 O2 B1 h1c π c1 c2 c3 n15 y1 y2 hi1 R;have Y:=(jS i).trans U λ_ _ e=>e;have hvw:Hid (∀k,v.ownBlock=some k->(Value.slice V l.length p).ownBlock=some k\/(w:Nat)<=k):=λk e=>(N k e).imp id λq=>cA i.size q;clear U N i h;have⟨y,r,L⟩:∃y r,l++[(⟨T,a,d,f⟩:cC)]=y::r:=by
    obtain _|⟨x,l⟩:=l;.exact⟨_,_,rfl⟩
    exact⟨_,_,rfl⟩
   have hrl:r.length=l.length:=by have:=congrArg List.length L;simp at this;omega
   rw[L]at H I;replace L:=aK L;have⟨g,C,hv⟩:=cX H.own r.length S8;subst hv;have n14:wc.cell? (n,14)=some ↑m:=by rw[H.row.cell];exact H.Ze
   have n15:wc.cell? (n,15)=some (.slice g (r.length+1) C):=by rw[H.row.cell];exact H.KJ
   have hdl:Hid (∀W,W.ownsRow B 298 4 (.slice g (r.length+1) C) (y::r).length (aZ (y::r))->Cv 223 #[.slice g (r.length+1) C,aA,aG] W λe F=>e=.returned (.slice g r.length C)/\F.ownsRow B 298 4 (.slice g r.length C) r.length (aZ r)/\W.grownBy F (some g)):=λW G=>Tt y r W G O9;replace hrl:=aK hrl;by_cases aT:m<r.length+1
   .have hn2:Hid (rZ m ⟨T,a,d,f⟩ l=r):=by have:=I.out;rw[aN<|show m<(y::r).length from aT]at this;exact this
    have hgi:(m:Int)<(r.length:Int)+1:=O9;go_wp2;go_region;all_goals go_wp2
    all_goals refine(hdl.out _<|by exact H.own).mono ?_
    all_goals rintro e J⟨rfl,hO3,O⟩
    all_goals(have hne:g≠n:=λe=>bR H.own H.row D9<|by rw[e];rfl)
    all_goals(have K:Row J n 130 (s.set 15<|.slice g (r.length+1) C):=(O.block n H.row.lt λc=>hne (iN c).symm).trans H.row)
    all_goals(have m15:J.cell? (n,15)=some (.slice g (r.length+1) C):=by rw[K.cell];exact H.KJ)
    all_goals(have f15:=K.frozen 15)
    all_goals(have afl:Hid (iR (J.setCell (n,15)<|.slice g r.length C) n B (s.set 15<|.slice g r.length C) m (.slice g r.length C) r):=⟨by have:=K.set 15 (.slice g r.length C);rw[KL]at this;exact this,by have:=H.Ze;rw[ot D9]at this|-;exact this,by have:=(bK.1 H.KJ).1;rw[Dw]at this;rw[Aq this],pn hO3 K D9,by have:=H.base;have:=O.size;have hd:wc.drew.heap.size=(wc:Nat):=rfl;have:=(cI J (n,15)<|.slice g r.length C).size;omega⟩)
    all_goals(have x3:Hid (Xc (MF n<|.slice V l.length p) w (J.setCell ⟨n,15,none⟩<|.slice (some ⟨g,0,none⟩) r.length C)):=((xz Y).grown O λk e hk=>by cases e;exact(hvw.out g rfl).elim (λq=>.inr q) λq=>by omega).setCell ⟨n,15,none⟩ _ λ_=>.inl rfl)
    all_goals go_wp2
    all_goals go_end0
    all_goals exact⟨rfl,.slice g r.length C,by rw[hn2.out];exact afl.out,x3.out,λk e=>hvw.out k e⟩
   .have hn2:Hid (rZ m ⟨T,a,d,f⟩ l=y::r):=by have:=I.out;rw[aJ<|show¬m<(y::r).length from aT]at this;exact this
    have hgi:¬((m:Int)<(r.length:Int)+1):=O9;go_wp2;go_region;all_goals go_wp2
    all_goals go_end0
    all_goals exact⟨rfl,_,by rw[hn2.out];exact H.keep<|cN B0,xz Y,λk e=>hvw.out k e⟩
open Go.Conc Go.Ren
def Ho:=@stepG_seq
def Hp:=@stepG_region
def Ec:=@stepG_region_end
def Wi:=@stepG_cond
def ME{aU i o}{b:Frame}{a w k}(id t l H c)(d:b.kind≠.early){f I S J m T U W X Y N O v x r z}(e:t=7/\z=W\/t=11/\z=O)(h:On Vp aU i o (G (b.at ⟨(f::I::S::J::m::T::U::W::X::Y::N::O::v::x::r).toArray,[]⟩ (.code (aI.only id t l H c)::k)) a) w):
 ∃n p q,z=.int .i32 n/\l<=n/\n<=H/\On Vp aU i o (G (b.at ⟨(f::I::S::J::m::T::U::W::X::Y::N::O::p::q::r).toArray,[]⟩ (.code c::k)) a) w:=by
 simp only[aI.only,aI.o]at h;replace h:=h.step Ho;replace h:=h.step Hp;obtain⟨rfl,rfl⟩|⟨rfl,rfl⟩:=e;all_goals
  have L:∃n,z=.int .i32 n:=yA λE=>by rcases ae7 (V:=Vp) (w:=w) 21 z .i32 l (λn e=>E ⟨n,e⟩)with⟨s,j⟩|j;exact h.stuck (s:=s) (w':=w);exact h.AO (u:=.addressObserved) (w':=w)
  obtain⟨n,rfl⟩:=L;replace h:=h.v (decide (n<l)) w;replace h:=h.v (decide (H<n)) w;replace h:=h.step Ec;replace h:=h.step Ho;replace h:=h.step<|Wi (t:=decide (n<l)) rfl;have D:=UO.1 λg=>by rw[pM g,aN rfl]at h;exact h.refuse
  rw[lX<|UO.2 D]at h;simp only[tK,↓reduceIte]at h;replace h:=h.step stepG_skip;replace h:=h.step Ho;replace h:=h.step<|Wi (t:=decide (H<n)) rfl;have C:=UO.1 λg=>by rw[pM g,aN rfl]at h;exact h.refuse
  rw[lX<|UO.2 C]at h;simp only[tK,↓reduceIte]at h;exact⟨n,_,_,rfl,D,C,h.step stepG_skip⟩
def BG{aU u E}{b:Frame}{q w k}(L v c)(ac:b.kind≠.early){f I S J z T U W X Y N O ak al P Q am R y}(H:∀a,f=.pointer (some a)->∃r,w.heap[a.block]?=some r/\dY Vp r=true)
 (h:On Vp aU u E (G (b.at ⟨(f::I::S::J::z::T::U::W::X::Y::N::O::ak::al::P::Q::am::R::y).toArray,[]⟩ (.code (aI.cells L v c)::k)) q) w):
 ∃d o l A B n,f=(d,o)/\w.cell? ⟨d,o,none⟩=some l/\w.cell? ⟨d,o+2,none⟩=some A/\w.cell? ⟨d,o+3,none⟩=some B/\w.cell? ⟨d,o+4,none⟩=some (.int .i32 n)/\L<=n/\n<=v/\∃v2 ah ai aj π V ab ae af ag,On Vp aU u E (G (b.at ⟨(f::I::v2::J::z::ah::(d,o+4)::.int .i32 n::ai::aj::(d,o)::l::π::V::ab::ae::af::ag::y).toArray,[]⟩ (.code c::k)) q) w:=by
 simp only[aI.cells,aI.here,aI.count,aI.state,aI.YW,aI.o,Nv,vK,yC]at h;replace h:=h.step Ho;replace h:=h.step Hp;have x:=λs(j:(binOp .eql 170 f<|.pointer none).run Vp w=.halt (.stuck s) w)=>h.stuck (s:=s) (w':=w) (j:=by go_simp;rw[XK,UN,j];rfl);have M:∃p,f=.pointer p:=yA λF=>have⟨s,j⟩:=ae6 aI.underlying170 f (λp ad=>F ⟨p,ad⟩) w;x s j
 obtain⟨p,rfl⟩:=M;clear x;cases p with
 |none=>replace h:=h.v true w;replace h:=h.step Ec;replace h:=h.step Ho;replace h:=h.step<|Wi (t:=true) rfl;exact h.refuse.elim
 |some a=>have⟨r,i,m⟩:=H a rfl;have⟨d,o,e⟩:=a;replace i:∀an ao,w.heap[(⟨d,an,ao⟩:Addr).block]?=some r:=λ_ _=>i;clear H;replace h:=h.v false w;replace h:=h.step Ec;replace h:=h.step Ho;replace h:=h.step<|Wi (t:=false) rfl;simp only[tK,↓reduceIte]at h;replace h:=h.step stepG_skip;replace h:=h.step Ho;replace h:=h.step Hp;replace h:=h.v (d,o+4) w;simp only[Act.put,N9,Cg]at h;replace h:=h.v (d,o+4) w;cases c4:w.cell? (d,o+4)with
   |none=>exact(h.stuck (j:=by go_simp;rw[oW (i _ _) m];rfl)).elim
   |some ap=>
   replace h:=h.v ap w;simp only[Act.put,N9,Cg]at h;replace h:=h.v (.pointer<|some ⟨d,o,e⟩) w;replace h:=h.v (.pointer<|some ⟨d,o,e⟩) w;simp only[Act.put,N9,Cg]at h;replace h:=h.v (.pointer<|some ⟨d,o,e⟩) w;cases g:w.cell? ⟨d,o,e⟩with
   |none=>exact(h.stuck (j:=by go_simp;rw[oW (i _ _) m];rfl)).elim
   |some l=>
   replace h:=h.v l w;simp only[Act.put,N9,Cg]at h;have K:e=none:=by obtain _|aq:=e;rfl;simp only[World.cell?,Option.isSome_some,yB]at g;split at g<;>cases g
   subst K;replace h:=h.v (d,o+2) w;cases c2:w.cell? (d,o+2)with
   |none=>exact(h.stuck (j:=by go_simp;rw[oW (i _ _) m];rfl)).elim
   |some A=>
   replace h:=h.v A w;simp only[Act.put,N9,Cg]at h;replace h:=h.v (d,o+3) w;cases c3:w.cell? (d,o+3)with
   |none=>exact(h.stuck (j:=by go_simp;rw[oW (i _ _) m];rfl)).elim
   |some B=>
   replace h:=h.v B w;simp only[Act.put,N9,Cg]at h;replace h:=h.step Ec;obtain⟨n,_,_,rfl,D,C,h⟩:=ME _ _ _ _ _ ac (.inl ⟨rfl,rfl⟩) h;exact⟨d,o,l,A,B,n,rfl,g,c2,c3,c4,D,C,_,_,_,_,_,_,_,_,_,_,h⟩
def XO{aU k W}{b:Frame}{C w}(d:b.kind≠.early){c s r}(L:∀a,c=.pointer (some a)->∃j,w.heap[a.block]?=some j/\dY Vp j=true)
 (h:On Vp aU k W (G (b.at ⟨(c::tL 22 s r).toArray,[]⟩ [.code aI.rlock]) C) w):
 ∃B o f g i n,c=(B,o)/\w.cell? ⟨B,o,none⟩=some f/\w.cell? ⟨B,o+2,none⟩=some g/\w.cell? ⟨B,o+3,none⟩=some i/\w.cell? ⟨B,o+4,none⟩=some (.int .i32 n)/\0<=n/\n<=2147483646/\w.frozen? ⟨B,o+4,none⟩=false/\∃t,kx Vp k W (G {b.at ⟨t,[]⟩ []with mode:=.returning} C) (w.setCell (B,o+4) (.int .i32<|n+1)):=by
 simp only[tL]at h;obtain⟨B,o,f,g,i,n,rfl,l,m,p,q,K,J,v,S,T,U,M,N,O,P,Q,R,h⟩:=BG _ _ _ d L h;have e:IntKind.i32.wrap (n+1)=n+1:=KF _ O9 O9;simp[aI.o,aI.st]at h;replace h:=h.step Hp;replace h:=h.v (.int .i32<|n+1) w;cases I:w.frozen? (B,o+4)with
 |true=>exact(h.AO (u:=.unsafePointer "a write to bytes that a string shares") (w':=w)).elim
 |false=>
 replace h:=h.none<|w.setCell (B,o+4) (.int .i32<|n+1);replace h:=h.step Ec;exact⟨B,o,f,g,i,n,rfl,l,m,p,q,K,J,I,_,h.next stepG_end⟩
def Ob{aU k W}{b:Frame}{C w}(d:b.kind≠.early){c s r}(L:∀a,c=.pointer (some a)->∃j,w.heap[a.block]?=some j/\dY Vp j=true)
 (h:On Vp aU k W (G (b.at ⟨(c::tL 22 s r).toArray,[]⟩ [.code aI.runlock]) C) w):
 ∃B o f g i n,c=(B,o)/\w.cell? ⟨B,o,none⟩=some f/\w.cell? ⟨B,o+2,none⟩=some g/\w.cell? ⟨B,o+3,none⟩=some i/\w.cell? ⟨B,o+4,none⟩=some (.int .i32 n)/\1<=n/\n<=2147483647/\w.frozen? ⟨B,o+4,none⟩=false/\∃t,kx Vp k W (G {b.at ⟨t,[]⟩ []with mode:=.returning} C) (w.setCell (B,o+4) (.int .i32<|n -1)):=by
 simp only[tL]at h;obtain⟨B,o,f,g,i,n,rfl,l,m,p,q,K,J,v,S,T,U,M,N,O,P,Q,R,h⟩:=BG _ _ _ d L h;have e:IntKind.i32.wrap (n -1)=n -1:=KF _ O9 O9;simp[aI.o,aI.st]at h;replace h:=h.step Hp;replace h:=h.v (.int .i32<|n -1) w;cases I:w.frozen? (B,o+4)with
 |true=>exact(h.AO (u:=.unsafePointer "a write to bytes that a string shares") (w':=w)).elim
 |false=>
 replace h:=h.none<|w.setCell (B,o+4) (.int .i32<|n -1);replace h:=h.step Ec;exact⟨B,o,f,g,i,n,rfl,l,m,p,q,K,J,I,_,h.next stepG_end⟩
def abw{aU e k}{b:Frame}{c w}(d:b.kind≠.early){f T s}(R:∀a,f=.pointer (some a)->∃l,w.heap[a.block]?=some l/\dY Vp l=true)
 (h:On Vp aU e k (G (b.at ⟨(f::tL 22 T s).toArray,[]⟩ [.code aI.lock]) c) w):
 ∃B o i j,f=(B,o)/\w.cell? ⟨B,o,none⟩=some (.int .i32<|0)/\w.cell? ⟨B,o+2,none⟩=some i/\w.cell? ⟨B,o+3,none⟩=some j/\w.cell? ⟨B,o+4,none⟩=some (.int .i32<|0)/\w.frozen? ⟨B,o,none⟩=false/\w.frozen? ⟨B,o+4,none⟩=false/\∃t,kx Vp e k (G {b.at ⟨t,[]⟩ []with mode:=.returning} c) ((w.setCell (B,o)<|.int .i32 1).setCell (B,o+4) (.int .i32<|-1073741824)):=by
 simp only[tL]at h;obtain⟨B,o,g,i,j,n,rfl,C,p,q,r,W,U,V,y,z,D,X,Y,π,A,v,x,h⟩:=BG _ _ _ d R h;obtain rfl:n=0:=O9;obtain⟨m,_,_,rfl,Q,P,h⟩:=ME _ _ _ _ _ d (.inr ⟨rfl,rfl⟩) h;obtain rfl:m=0:=O9;simp only[aI.st]at h;replace h:=h.step Hp;cases O:w.frozen? (B,o)with
 |true=>exact(h.AO (u:=.unsafePointer "a write to bytes that a string shares") (w':=w)).elim
 |false=>
 replace h:=h.none (w.setCell (B,o)<|.int .i32 1);cases N:w.frozen? (B,o+4)with
 |true=>exact(h.AO (u:=.unsafePointer "a write to bytes that a string shares") (w':=w.setCell (B,o)<|.int .i32 1)).elim
 |false=>
 replace h:=h.none<|(w.setCell (B,o)<|.int .i32 1).setCell (B,o+4) (.int .i32<|-1073741824);replace h:=h.step Ec;exact⟨B,o,i,j,rfl,C,p,q,r,O,N,_,h.next stepG_end⟩
def Rp{aU e k}{b:Frame}{c w}(d:b.kind≠.early){f T s}(R:∀a,f=.pointer (some a)->∃l,w.heap[a.block]?=some l/\dY Vp l=true)
 (h:On Vp aU e k (G (b.at ⟨(f::tL 22 T s).toArray,[]⟩ [.code aI.unlock]) c) w):
 ∃B o i j,f=(B,o)/\w.cell? ⟨B,o,none⟩=some (.int .i32<|1)/\w.cell? ⟨B,o+2,none⟩=some i/\w.cell? ⟨B,o+3,none⟩=some j/\w.cell? ⟨B,o+4,none⟩=some (.int .i32<|-1073741824)/\w.frozen? ⟨B,o,none⟩=false/\w.frozen? ⟨B,o+4,none⟩=false/\∃t,kx Vp e k (G {b.at ⟨t,[]⟩ []with mode:=.returning} c) ((w.setCell (B,o+4)<|.int .i32 0).setCell (B,o)<|.int .i32 0):=by
 simp only[tL]at h;obtain⟨B,o,g,i,j,n,rfl,C,p,q,r,W,U,V,y,z,D,X,Y,π,A,v,x,h⟩:=BG _ _ _ d R h;obtain rfl:n=-1073741824:=O9;obtain⟨m,_,_,rfl,Q,P,h⟩:=ME _ _ _ _ _ d (.inr ⟨rfl,rfl⟩) h;obtain rfl:m=1:=O9;simp only[aI.st]at h;replace h:=h.step Hp;cases N:w.frozen? (B,o+4)with
 |true=>exact(h.AO (u:=.unsafePointer "a write to bytes that a string shares") (w':=w)).elim
 |false=>
 replace h:=h.none (w.setCell (B,o+4)<|.int .i32 0);cases O:w.frozen? (B,o)with
 |true=>exact(h.AO (u:=.unsafePointer "a write to bytes that a string shares") (w':=w.setCell (B,o+4)<|.int .i32 0)).elim
 |false=>
 replace h:=h.none ((w.setCell (B,o+4)<|.int .i32 0).setCell (B,o)<|.int .i32 0);replace h:=h.step Ec;exact⟨B,o,i,j,rfl,C,p,q,r,O,N,_,h.next stepG_end⟩
def Lu:=@stepG_seq
def Iq:Code:=match aI.rF with|.seq _ (.seq _ (.seq _<|.seq _ (.seq _<|.seq (.block _<|.loop c) _)))=>c|_=>.skip
def Ir:Code:=match aI.rF with|.seq _ (.seq _ (.seq _<|.seq _ (.seq _<|.seq _ c)))=>c|_=>.skip
def aeB:(Vp.info? 38).map (λi=>(i.zero,i.size,i.bytes))=some (some ↑aA,1,8):=K8
def NL(n:Nat)(h:n<1099511627776)(w):(Instr.makeSlice 301 (n:Int) (n:Int)).run Vp w=.ok (.slice (w:Nat) n n) (w.alloc<|.cells (madeCells #[aA] n) 38):=by cases H:Vp.info? 38 with
 |none=>have:=aeB;cases H▸this
 |some g=>
 have a:=aeB;rw[H]at a;simp at a;have⟨f,d,c⟩:=a;have b:=wC (P:=Vp) w 301 38 g _ (by go_simp) H f .i64 .i64 (n:Int) (n:Int) O9 (lC _) (by rw[c];omega) O9;rw[b,d,Fb];rfl
def AtL(aU:Value->World->Prop)(d:Goroutine)(W:World)(b:Frame)(a:List Frame)(p:Option Addr)(N c C i:Nat)(w:World):Prop:=∃g u L,17<=List.length L/\On Vp aU d W (G (b.at ⟨(.slice p N c::g::↑i::.slice C N N::u::↑N::L).toArray,[]⟩ [.code Iq,.inLoop Iq,.inBlock 0,.code Ir]) a) w
def agK{aU q v}{b:Frame}{o w}(a:b.kind≠.early){d f t r}(h:On Vp aU q v (G (b.at ⟨(d::f::tL 21 t r).toArray,[]⟩ [.code aI.rF]) o) w):
 ∃p N C,∃W:Nat,d=.slice p N C/\f=W/\0<W/\W<=2147483646/\N<=2147483646/\AtL aU q v b o p N C w 0 (w.alloc<|.cells (madeCells #[aA] N) 38):=by
 have I:Vp.underlying 126=some (.slice 298):=by go_simp
 simp only[tL,aI.rF,aI.o,aI.st]at h;replace h:=h.step Lu;replace h:=h.step stepG_region;obtain⟨p,N,C,rfl⟩:∃p N C,d=.slice p N C:=yA λg=>have⟨s,i⟩:=ae8 (ty:=3) I d (λp n c e=>g ⟨p,n,c,e⟩) w;h.stuck (s:=s) (w':=w)
 replace h:=h.v N w;obtain⟨n,rfl⟩:∃n,f=.int .i64 n:=yA λg=>by rcases Oc (V:=Vp) (w:=w) 3 f .i64 0 (λn e=>g ⟨n,e⟩)with⟨s,i⟩|i;exact h.stuck (s:=s) (w':=w);exact h.AO (u:=.addressObserved) (w':=w)
 replace h:=h.v (.bool<|decide (0<n)) w;replace h:=h.v (.bool<|decide (2147483646<n)) w;replace h:=h.v (.bool<|decide ((2147483646:Int)<N)) w;replace h:=h.step stepG_region_end;replace h:=h.step Lu;replace h:=h.step<|stepG_cond (t:=decide (0<n)) rfl;by_cases j:0<n;case neg=>simp only[vH,aJ j]at h;exact h.refuse.elim
 simp only[vH,aN j]at h;replace h:=h.step stepG_skip;replace h:=h.step Lu;replace h:=h.step<|stepG_cond (t:=decide (2147483646<n)) rfl;by_cases k:2147483646<n;case pos=>simp only[vH,aN k]at h;exact h.refuse.elim
 simp only[vH,aJ k]at h;replace h:=h.step stepG_skip;replace h:=h.step Lu;replace h:=h.step<|stepG_cond (t:=decide ((2147483646:Int)<N)) rfl;by_cases l:(2147483646:Int)<N;case pos=>simp only[vH,aN l]at h;exact h.refuse.elim
 simp only[vH,aJ l]at h;replace h:=h.step stepG_skip;replace h:=h.step Lu;replace h:=h.step stepG_region;replace h:=h.v () w;have U:=NL N O9 w;replace h:=h.v ((w.heap.size,N,N)) (w.alloc<|.cells (madeCells #[aA] N) 38);replace h:=h.v ↑aA (w.alloc<|.cells (madeCells #[aA] N) 38);replace h:=h.step stepG_region_end;replace h:=h.step Lu;replace h:=h.step stepG_block;replace h:=h.step stepG_loop;obtain⟨m,rfl⟩:∃m:Nat,n=m:=⟨n.toNat,O9⟩;exact⟨p,N,C,m,rfl,rfl,O9,O9,O9,_,_,_,S8,h⟩
def Iu:=@stepG_seq
def Xj:=@stepG_region_end
def Xk:=@stepG_cond
def ahR:Code:=match Iq with|.seq _ (.seq _ (.seq _<|.seq _ (.seq _<|.seq _ c)))=>c|_=>.skip
def Ip(w a b c d):(Instr.field 298 (.agg #[a,b,c,d]) 0).run Vp w=.ok a w/\(Instr.field 298 (.agg #[a,b,c,d]) 1).run Vp w=.ok b w/\(Instr.field 298 (.agg #[a,b,c,d]) 2).run Vp w=.ok c w/\(Instr.field 298 (.agg #[a,b,c,d]) 3).run Vp w=.ok d w:=by refine⟨?_,?_,?_,?_⟩<;>simp[Instr.field,part,asAgg]<;>done
def AtC(aU:Value->World->Prop)(e:Goroutine)(W:World)(b:Frame)(a:List Frame)(p:Option Addr)(N c C i:Nat)(k l d:ByteArray)(E:Int)(w:World):Prop:=∃g u x y z q L,9<=List.length L/\On Vp aU e W (G (b.at ⟨(.slice p N c::g::↑i::.slice C N N::u::↑N::x::y::z::q::↑k::↑l::↑d::↑E::L).toArray,[]⟩ [.code ahR,.inLoop Iq,.inBlock 0,.code Ir]) a) w
def agL{aU J W}{b:Frame}{G w}(aa:b.kind≠.early){p N q C i}(hi:i<N)(hN:N<=2147483646)(R:∀T o c,p=some ⟨T,o,c⟩->c=none\/i=0)
 (Q:∀a,p=some a->∃D,w.heap[a.block]?=some D/\dY Vp D=true)
 (H:AtL aU J W b G p N q C i w):
 ∃T o k l d E,p=some ⟨T,o,none⟩/\w.cell? ⟨T,o+i*4,none⟩=some (.string k)/\w.cell? ⟨T,o+i*4+1,none⟩=some (.string l)/\w.cell? ⟨T,o+i*4+2,none⟩=some (.string d)/\w.cell? ⟨T,o+i*4+3,none⟩=some (.int .i64 E)/\E<9223372036854775808/\AtC aU J W b G p N q C i k l d E w:=by
 have⟨_,_,L,O,h⟩:=H;have⟨t,_,e⟩:=ah8 O;subst e;have U:Vp.underlying 126=some (.slice 298):=by go_simp
 have az:=xM (V:=Vp) U p N q w;simp only[tL,Iq,Ir,aI.rF,aI.o,aI.st]at h;replace h:=h.step Iu;replace h:=h.step stepG_region;have ab:decide ((i:Int)<N)=true:=pM O9;replace h:=h.v ↑aD w;replace h:=h.step Xj;replace h:=h.step Iu;replace h:=h.step<|Xk (t:=true) rfl;simp only[↓reduceIte]at h;replace h:=h.step stepG_skip;replace h:=h.step Iu;replace h:=h.step stepG_region;cases p with
 |none=>replace h:=h.v ↑aD w;replace h:=h.step Xj;replace h:=h.step Iu;replace h:=h.step<|Xk (t:=true) rfl;exact h.refuse.elim
 |some a=>
 replace h:=h.v ↑aF w;replace h:=h.step Xj;replace h:=h.step Iu;replace h:=h.step<|Xk (t:=false) rfl;simp only[tK,↓reduceIte]at h;replace h:=h.step stepG_skip;replace h:=h.step Iu;replace h:=h.step stepG_region;obtain⟨T,o,c⟩:=a;obtain⟨D,z,A⟩:=Q _ rfl;have X:(i:Int).toNat=i:=O9;have Y:¬((i:Int)<0\/(N:Int)<=i):=O9;have π:(0:Int)<=i/\(i:Int)<N:=O9;have S:c=none:=by
  obtain _|y:=c;rfl;have e:=R _ _ _ rfl;obtain e|rfl:=e;cases e;replace h:=h.v (.pointer<|some ⟨T,o,some y⟩) w;have v:w.cell? ⟨T,o,some y⟩=none:=by simp only[World.cell?,Option.isSome_some,yB];split<;>rfl
  exact(h.stuck (j:=by go_simp;rw[oW z A];rfl)).elim
 subst S;replace h:=h.v (.pointer (T,o+i*4)) w;replace z:∀x y,w.heap[(⟨T,x,y⟩:Addr).block]?=some D:=λ_ _=>z;cases v:w.cell? (T,o+i*4)<;>cases K:w.cell? (T,o+i*4+1)<;>cases M:w.cell? (T,o+i*4+2)<;>cases P:w.cell? (T,o+i*4+3)<;>try exact(h.stuck (j:=by go_simp;rw[oW (z _ _) A];rfl)).elim
 rename_i g j m r;replace h:=h.v (.agg #[g,j,m,r]) w;simp only[Act.put,N9,Cg]at h;replace h:=h.v g w (e:=by go_simp;rw[(Ip w g j m r).1];rfl);replace h:=h.v j w (e:=by go_simp;rw[(Ip w g j m r).2.1];rfl);replace h:=h.v m w (e:=by go_simp;rw[(Ip w g j m r).2.2.1];rfl);replace h:=h.v r w (e:=by go_simp;rw[(Ip w g j m r).2.2.2];rfl);have F:Vp.underlying 9=some .string:=by go_simp
 obtain⟨k,rfl⟩:∃s,g=.string s:=yA λf=>have⟨s,B⟩:=FQ (ty:=3) F g (λs e=>f ⟨s,e⟩) w;h.stuck (s:=s) (w':=w)
 replace h:=h.v ↑k.size w;obtain⟨l,rfl⟩:∃s,j=.string s:=yA λf=>have⟨s,B⟩:=FQ (ty:=3) F j (λs e=>f ⟨s,e⟩) w;h.stuck (s:=s) (w':=w)
 replace h:=h.v ↑l.size w;simp only[Act.put,N9,Cg]at h;obtain⟨d,rfl⟩:∃s,m=.string s:=yA λf=>have⟨s,B⟩:=FQ (ty:=3) F m (λs e=>f ⟨s,e⟩) w;h.stuck (s:=s) (w':=w)
 replace h:=h.v ↑d.size w;obtain⟨n,rfl⟩:∃n,r=.int .i64 n:=yA λf=>by rcases Oc (V:=Vp) (w:=w) 3 r .i64 9223372036854775807 (λn e=>f ⟨n,e⟩)with⟨s,B⟩|B;exact h.stuck (s:=s) (w':=w);exact h.AO (u:=.addressObserved) (w':=w)
 replace h:=h.v (.bool<|decide (9223372036854775807<n)) w;replace h:=h.step Xj;replace h:=h.step Iu;replace h:=h.step<|Xk (t:=decide (9223372036854775807<n)) rfl;by_cases I:9223372036854775807<n;case pos=>simp only[vH,aN I]at h;exact h.refuse.elim
 simp only[vH,aJ I]at h;replace h:=h.step stepG_skip;exact⟨T,o,k,l,d,n,rfl,v,K,M,P,O9,_,_,_,_,_,_,_,S8,h⟩
def ajc{b:Frame}{a O i r k o v}(c:O[i]?=some o):(b.at a (.inRegion O (i::r)::k)).finish v=b.at (a.put o.dst v) (.inRegion O r::k):=by simp only[Frame.finish,Frame.at,c,zZ];cases o.dst<;>rfl
def agM{aU G q}{b:Frame}{g w}{R:World->World->Prop}{e n}(a:b.kind≠.early){p N o C i}(r:i<N)(hN:N<=2147483646){k l d c}(E:Cv 221 #[.string k,.string l,.string d,.int .i64 c] w λx W=>∃v,x=.returned v/\v=.tuple #[.int .i64 e,.int .i64 n]/\R w W)
 (D:∀W,R w W->∃g,W.heap[C]?=some (.cells g 38)/\g.size=N)
 (H:AtC aU G q b g p N o C i k l d c w):
 ∃W,R w W/\AtL aU G q b g p N o C (i+1) (W.setCell (C,i) e):=by
 have⟨_,_,_,_,_,_,L,O,h⟩:=H;have⟨t,_,e⟩:=ah8 O;subst e;simp only[tL,ahR,Iq,Ir,aI.rF,aI.o,aI.st]at h;replace h:=h.step stepG_seq;replace h:=h.step stepG_region;replace h:=h.step<|stepG_enter (f:=221) (args:=#[k,l,d,c]) (w':=w) rfl rfl a G9;obtain⟨v,W,⟨rfl,j⟩,h⟩:=On.call (f:=221) (args:=#[k,l,d,c]) h E;have⟨B,m,F⟩:=D W j;refine⟨W,j,?_⟩;rw[ajc rfl]at h;replace h:=h.step stepG_region_end;replace h:=h.step stepG_region;replace h:=h.v e W;have Q:(i:Int).toNat=i:=O9;have S:¬((i:Int)<0\/(N:Int)<=i):=O9;have T:(0:Int)<=i/\(i:Int)<N:=O9;replace h:=h.v (.pointer (C,i)) W;have s:W.cell? (C,i)=some B[i]:=by simp[World.cell?,m,F,r]
 have P:W.frozen? (C,i)=false:=by simp[World.frozen?,m]
 replace h:=h.none<|W.setCell (C,i) e;have U:IntKind.i64.wrap ((i:Int)+1)=((i+1:Nat):Int):=by rw[jP];omega
 replace h:=h.v (((i+1:Nat):Int))<|W.setCell (C,i) e;replace h:=h.v (((i+1:Nat):Int))<|W.setCell (C,i) e;replace h:=h.step stepG_region_end;replace h:=h.step stepG_inLoop;exact⟨_,_,_,S8,h⟩
structure Az(w:World)(T o x:Nat)(k l d:ByteArray)(hg:Int):Prop where
 k:w.cell? ⟨T,o+x*4,none⟩=some (.string k)
 l:w.cell? ⟨T,o+x*4+1,none⟩=some (.string l)
 d:w.cell? ⟨T,o+x*4+2,none⟩=some (.string d)
 h:w.cell? ⟨T,o+x*4+3,none⟩=some (.int .i64 hg)
 lt:hg<9223372036854775808
structure Kept(C:Nat)(w w':World):Prop where
 old:∀b,b<C->w'.heap[b]?=w.heap[b]?
 size:C<w'.heap.size
 os:w'.os=w.os
 tape:w'.tape=w.tape
structure agJ(w w':World):Prop where
 old:∀b,b<w.heap.size->w'.heap[b]?=w.heap[b]?
 size:w.heap.size<=w'.heap.size
 os:w'.os=w.os
 tape:w'.tape=w.tape
theorem Kept.cell{C w W}(h:Kept C w W){T o}(a:T<C):W.cell? (T,o)=w.cell? ⟨T,o,none⟩:=by simp[World.cell?,h.old T a]
section
variable{aU:Value→World→Prop}{g0:Goroutine}{w0:World}{b:Frame}{cs:List Frame}{w1:World}{E F:ByteArray→ByteArray→ByteArray→Int→Int}
def agN{w}(a:b.kind≠.early){p N c C}(H:AtL aU g0 w0 b cs p N c C N w):∃f,f.fn=b.fn/\f.kind=b.kind/\f.mode=.returning/\f.defers=[]/\f.tmps[4]?=some (.slice C N N)/\kx Vp g0 w0 (G f cs) w:=by
 have⟨_,_,L,O,h⟩:=H;have⟨t,_,e⟩:=ah8 O;subst e;simp only[tL,Iq,Ir,aI.rF,aI.o,aI.st]at h;replace h:=h.step stepG_seq;replace h:=h.step stepG_region;replace h:=h.v ↑aF w;replace h:=h.step stepG_region_end;replace h:=h.step stepG_seq;replace h:=h.step<|stepG_cond (t:=false) rfl;replace h:=h.step<|stepG_exit (k':=[.code Ir]) rfl;simp only[Ir,aI.rF,aI.o,aI.st]at h;replace h:=h.step stepG_seq;replace h:=h.step stepG_region;replace h:=h.v (.slice C N N) w;replace h:=h.step stepG_region_end;refine⟨_,?_,?_,?_,?_,?_,h.next stepG_ret'⟩<;>rfl
def Xi(P:b.kind≠.early){p N cp C}(hN:N<=2147483646)(π:∀a,p=some a->0<N->a.block<C/\∃S,w1.heap[a.block]?=some S/\dY Vp S=true)(u:∀k l d f w,f<9223372036854775808->Cv 221 #[.string k,.string l,.string d,.int .i64 f] w λx j=>∃v,x=.returned v/\v=.tuple #[(E k l d f),(F k l d f)]/\agJ w j):
 ∀m i w,i+m=N->(∀T o B,p=some ⟨T,o,B⟩->B=none\/i=0)->Kept C w1 w->(∃c,w.heap[C]?=some (.cells c 38)/\c.size=N/\∀x,x<i->∃T o k l d f,p=some ⟨T,o,none⟩/\Az w1 T o x k l d f/\c[x]?=some ↑(E k l d f))->AtL aU g0 w0 b cs p N cp C i w->
   ∃n j,n.fn=b.fn/\n.kind=b.kind/\n.mode=.returning/\n.defers=[]/\n.tmps[4]?=some (.slice C N N)/\kx Vp g0 w0 (G n cs) j/\Kept C w1 j/\∃c,j.heap[C]?=some (.cells c 38)/\c.size=N/\∀x,x<N->∃T o k l d f,p=some ⟨T,o,none⟩/\Az w1 T o x k l d f/\c[x]?=some ↑(E k l d f)
 |0,i,w,hi,_,g,⟨c,O,Q,A⟩,h=>by obtain rfl:i=N:=O9;have⟨n,U,V,W,I,J,ao⟩:=agN P h;exact⟨n,w,U,V,W,I,J,ao,g,c,O,Q,A⟩
 |m+1,i,w,hi,av,g,⟨c,O,Q,A⟩,h=>by have⟨T,o,k,l,d,f,Y,c0,c1,c2,c3,y,h⟩:=agL P O9 hN av (λa ar=>let⟨U,S,V,W⟩:=π a ar O9;⟨S,(g.old _ U).trans V,W⟩) h;have L:T<C:=(π _ Y O9).1;have X:=u k l d f w y;have s:=g.size;have⟨j,K,h⟩:=agM (R:=λw j=>agJ w j) P O9 hN X (λj X=>⟨c,(X.old C s).trans O,Q⟩) h;have M:=(K.old C s).trans O;have t:=(eD.1 M).1;have r:=jF (a:=(C,i)) (v:=↑(E k l d f)) M t rfl;refine Xi P hN π u m (i+1) _ O9 (λq z a9 e=>.inl<|by cases Y▸e;rfl) ⟨λb M=>?_,?_,?_,?_⟩ ⟨c.setIfInBounds i ↑(E k l d f),?_,by simpa using Q,λx a8=>?_⟩ h;rw[r,Nj t<|show C≠b by omega,K.old b O9,g.old b M];simp_all;exact K.os.trans g.os;exact K.tape.trans g.tape;rw[r];simp;by_cases e:x=i;subst e;refine⟨T,o,k,l,d,f,Y,⟨(g.cell L).symm.trans c0,(g.cell L).symm.trans c1,(g.cell L).symm.trans c2,(g.cell L).symm.trans c3,y⟩,?_⟩;rw[Uf O9];have⟨q,z,k',ay,d',au,y1,D,H⟩:=A x O9;refine⟨q,z,k',ay,d',au,y1,D,?_⟩;rw[mU O9];exact H
end
section
variable[Go.Proofs.VB]
def opAt(p:List UInt8)(i:Nat):Nat:=(p.getD i 0).toNat
def cK(p:List UInt8)(i:Nat):Nat:=if opAt p i=64 then i+9 else i+1
def Bg(p i):opAt p i<256:=(p.getD i 0).toNat_lt
def qW(p)(i:Nat)(w)(h:i<p.length)(f:p.length<=1000):Cv 264 #[(mk p),i] w λe W=>e=.returned (cK p i)/\W=w:=by
 have d:=dH p i (i:Int) rfl h;have a:cK p i=if(p.getD i 0).toNat=64 then i+9 else i+1:=rfl;generalize(p.getD i 0).toNat=c at d a;by_cases b:c=64;.subst b;replace a:=aK a;go_enter fA func264,ntmps264;go_wp2;go_ret;rw[a.out];exact⟨rfl,rfl⟩
 rw[aJ b]at a;replace a:=aK a;go_enter fA func264,ntmps264;go_wp2;go_ret;rw[a.out];exact⟨rfl,rfl⟩
def mG(p:List UInt8)(i:Nat):Int:=dV<|(p.drop<|i+1).take 8
def eB(p:List UInt8):Nat->Nat->Nat->Option Nat->Option (Nat×Nat)
 |0,_,_,_=>none
 |f+1,i,d,m=>if i<p.length then if opAt p i=80 then eB p f (i+1) (d+1) m
    else if opAt p i=82/\0<d then eB p f (i+1) (d -1) m
    else if 0<d then eB p f (cK p i) d m
    else if opAt p i=81 then(if m.isSome then none else eB p f (i+1) 0 (some i))
    else if opAt p i=82 then some (m.getD i,i)
    else eB p f (cK p i) 0 m
   else none
def yu(m:Option Nat):Int:=match m with|some k=>k|none=>-1
def ain(a)(b:Nat)(h:0<=a)(e:a<72057594037927936)(c:b<256):bits .or .u64 (a*256) (b:Int)=a*256+(b:Int):=by obtain⟨n,rfl⟩:=rL h;have d:n*256<18446744073709551616:=O9;have f:=nat_join8 (n*256) b O9 c;show IntKind.u64.wrap ((BitVec.ofInt 64 ((n:Int)*256)|||BitVec.ofInt 64 (b:Int)).toNat:Int)=_;rw[BitVec.toNat_or,show((n:Int)*256)=((n*256:Nat):Int)from by simp,ofInt_u64 (n*256) d,ofInt_u64 b O9,IntKind.wrap_u64];omega
def Bh(t)(h:t.length<=7):0<=dV t/\dV t<72057594037927936:=by have⟨a,b⟩:=GM t;refine⟨a,Dq b ?_⟩;have c:t.length=0\/t.length=1\/t.length=2\/t.length=3\/t.length=4\/t.length=5\/t.length=6\/t.length=7:=O9;obtain e|e|e|e|e|e|e|e:=c<;>rw[e]<;>decide
def afm(t)(h:t.length<=8):0<=dV t/\dV t<18446744073709551616:=by by_cases c:t.length<=7;have:=Bh t c;omega;have⟨b,a⟩:=GM t;rw[show t.length=8 from by omega]at a;exact⟨b,a⟩
def GN(p i):0<=mG p i/\mG p i<18446744073709551616:=afm _ (by rw[dJ];omega)
def Sr(p i w)(H:i<p.length)(s:p.length<=1000)(r:opAt p i=64):Cv 261 #[(mk p),i] w λe W=>(if i+9<=p then e=.returned (.int .u64<|mG p i)else e=.panicked (OW 2))/\W=w:=by
 have B:=cD p;have l:cK p i=i+9:=by unfold cK;rw[if_pos r]
 go_enter fA func261,ntmps261;go_wp2;refine(qW p i w H s).mono ?_;rintro e C⟨rfl,rfl⟩;rw[l];by_cases y:i+9<=p;.have o:¬((i+9:Nat):Int)>(p:Int):=O9;go_wp2;go_loopw [5,14] (λn j D=>∃k:Nat,k<=8/\j=↑k/\n=.int .u64 (dV<|((p.drop<|i+1).take 8).take k)/\D=C) (λ_ j _=>8 -(intOf j).toNat);exact⟨0,O9,rfl,rfl,rfl⟩;case round=>
   obtain⟨k,x,rfl,rfl,rfl⟩:=hrel;have g:((p.drop<|i+1).take 8).length=8:=by rw[dJ,rM];omega
   have f:∀j,j<8->((p.drop<|i+1).take 8).getD j 0=p.getD (i+1+j) 0:=λj v=>by grind
   by_cases q:k<8
   .have b:=dH p (i+1+k) ((i:Int)+1+(k:Int)) O9 O9;rw[<-f k q]at b;generalize(p.drop<|i+1).take 8=t at g b;have a:=Bh (t.take k) (by rw[dJ];omega);have d:Hid (dV (t.take<|k+1)=dV (t.take k)*256+((t.getD k 0).toNat:Int)):=by unfold Hid;rw[rN (by omega:k<t.length),qX];simp[List.getD,show k<t.length from by omega]
    have u:=(t.getD k 0).toNat_lt;generalize(t.getD k 0).toNat=c at b d u;generalize z:dV (t.take k)=h at d a;have A:IntKind.u64.wrap (h*256)=h*256:=by rw[IntKind.wrap_u64];omega
    clear g f;go_wp2;go_roundw;exact⟨k+1,O9,by go_num,by rw[d.out,ain _ _ a.1 a.2 O9],trivial⟩;simp[intOf];omega
   have m:k=8:=O9;subst m;rw[Fl,aal];go_wp2;go_ret;exact⟨rfl,rfl⟩
 go_wp2;exact⟨rfl,rfl,rfl⟩
def acm(p)(i:Nat)(w)(T:i<p.length)(H:p.length<=1000):Cv 265 #[(mk p),i] w λe W=>(match eB p p (i+1) 0 none with|some (m,n)=>e=.returned (.tuple #[m,n])|none=>e=.panicked (OW 5))/\W=w:=by
 generalize a:eB p p.length (i+1) 0 none=E;go_enter fA func265,ntmps265;go_wp2;go_loopw [4,6,7] (λS A Q wr=>∃(j d f:Nat)(m:Option Nat),Q=↑j/\A=↑d/\S=↑(yu m)/\wr=w/\p<=j+f/\j<=p+9/\d<=j/\(∀x,m=some x->x<p)/\Hid (eB p f j d m=E)) (λ_ _ Q _=>p+9 -(intOf Q).toNat);exact⟨i+1,0,p,none,rfl,rfl,rfl,rfl,O9,O9,O9,(λ_ h=>by cases h),a⟩;case round=>
  clear a;obtain⟨j,d,f,m,rfl,rfl,rfl,rfl,N,O,L,r,a⟩:=hrel;by_cases o:j<p
  .obtain⟨f,rfl⟩:∃R,f=R+1:=⟨f -1,O9⟩;have y:=dH p j (j:Int) rfl o;have g:=qW p j wr o H;have b:cK p j=if opAt p j=64 then j+9 else j+1:=rfl;have a:=a.out;rw[eB,aN o]at a;have z:opAt p j=(p.getD j 0).toNat:=rfl;rw[<-z]at y;have C:=Bg p j;generalize opAt p j=c at y a b C;clear z;by_cases u:c=80;.subst u;rw[aN rfl]at a;rw[aJ D9]at b;change Hid _ at a b;go_wp2;refine g.m0 ?_;rw[b.out];go_wp2;go_roundw;exact⟨j+1,d+1,f,m,by go_num,by go_num,rfl,trivial,O9,O9,O9,r,a⟩;simp[intOf];omega
   rw[aJ u]at a;by_cases q:0<d
   .have M:(d:Int)>0:=O9;by_cases l:c=82;.subst l;rw[aN ⟨rfl,q⟩]at a;rw[aJ D9]at b;change Hid _ at a b;go_wp2;refine g.m0 ?_;rw[b.out];go_wp2;go_roundw;exact⟨j+1,d -1,f,m,by go_num,by rw[Int.ofNat_sub O9];rfl,rfl,trivial,O9,O9,O9,r,a⟩;simp[intOf];omega
    rw[aJ λh=>l h.1,aN q]at a;have t:j<cK p j/\cK p j<=j+9:=by rw[b];split<;>omega
    clear b;generalize cK p j=s at g a t;go_wp2;refine g.m0 ?_;go_wp2;go_roundw;exact⟨s,d,f,m,rfl,rfl,rfl,trivial,O9,O9,O9,r,(aK a)⟩;simp[intOf];omega
   have F:d=0:=O9;subst F;rw[aJ λh=>q h.2,aJ q]at a;by_cases v:c=81;.subst v;rw[aN rfl]at a;rw[aJ D9]at b;cases m with
    |none=>simp only[yu];go_wp2;refine g.m0 ?_;rw[(aK b).out];go_wp2;go_roundw;exact⟨j+1,0,f,some j,by go_num,rfl,rfl,trivial,O9,O9,O9,(λx I=>by cases I;exact o),a⟩;simp[intOf];omega
    |some k=>have a:=a;subst a;simp only[yu];go_wp2;exact⟨rfl,rfl,rfl⟩
   rw[aJ v]at a;by_cases l:c=82;.subst l;rw[aN rfl]at a;subst a;cases m with
    |none=>simp only[yu];go_wp2;go_ret2;exact⟨rfl,rfl⟩
    |some k=>simp only[yu];go_wp2;go_ret2;exact⟨rfl,rfl⟩
   rw[aJ l]at a;have t:j<cK p j/\cK p j<=j+9:=by rw[b];split<;>omega
   clear b;generalize cK p j=s at g a t;go_wp2;refine g.m0 ?_;go_wp2;go_roundw;exact⟨s,0,f,m,rfl,rfl,rfl,trivial,O9,O9,O9,r,(aK a)⟩;simp[intOf];omega
  have B:E=none:=by rw[<-a.out];obtain _|f:=f;rfl;rw[eB,aJ o]
  subst B;go_wp2;exact⟨rfl,rfl,rfl⟩
end
end Go.Proofs.aH
