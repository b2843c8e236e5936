import Derived.Maps.RangeRun
import Derived.Test.YtpjcmpfncpnmeabGreatM12
set_option linter.all false
set_option maxHeartbeats 8000000
set_option maxRecDepth 100000
namespace Go.Proofs.aH
open Go.RowKit Go.Seq
attribute [local go_sem↓] Go.wp_at_zero Go.wp_at_succ
section
def aag:=@grownBy_putObj'
variable{LB:Nat}
def om{w:World}{B B' size n e v a}(h:w.ownsRow B' e size v n a)(d:B<=B'):w.ownsRow B e size v n a:=by
 refine⟨h.1,?_⟩;obtain i|⟨g,cap,cur,f,b,c⟩:=h.2;.simp_all
 .exact .inr ⟨g,cap,cur,f,bI d b,c⟩
structure Ck(LB:Nat)(Y:TypeId->Prop)(w w':World):Prop where
 size:w.heap.size<=w'.heap.size
 cells:∀(k:Nat) (cs:Array Value) (t:TypeId) (f:Nat×Nat),w.heap[k]?=some (.cells cs t f)->k<LB\/¬Y t->w'.heap[k]?=some (.cells cs t f)
def Tk.ck{Y n mb w w'}(h:Tk LB Y n mb w w'):Ck LB Y w w':=⟨h.size,h.cells⟩
def Row.ck{a g w w' t cs}(h:Row w g t cs)(x:Ck LB a w w')(b:¬a t):Row w' g t cs:=x.cells _ _ _ _ h (.inr b)
def sM{a size m B w w' e v c}(h:w.ownsRow B e size v m c)(x:Ck LB a w w')(d:¬a e):w'.ownsRow B e size v m c:=dF h (λk cs _ _ b=>(x.cells k cs e _ b (.inr d)).trans b.symm)
def oD.ck{a w w' nb B c gc kc cc cs L bv mv l mem}(h:oD w nb B c cs bv mv gc kc cc l L mem)(x:Ck LB a w w')(d:¬a 107)(e:¬a 247)(f:¬a 114)(g:¬a 117)(i:¬a 123):oD w' nb B c cs bv mv gc kc cc l L mem:=⟨⟨h.mem.row.ck x d,h.mem.Vi,h.mem.IG,sM h.mem.own x e,bI h.mem.base x.size⟩,h.Nc,h.N6,⟨sM h.rf.own x f,λb j=>(h.rf.row b j).ck x g⟩,sM h.chain x i⟩
def bM.ck{a w w' tb gs n v l}(h:bM w tb gs n v l)(x:Ck LB a w w')(b:¬a 161)(c:¬a 195):bM w' tb gs n v l:=⟨h.row.ck x b,sM h.own x c⟩
def aah{w D o o'}(h:w.heap[D]?=some o)(b:o.isCells=false):Ck LB (λ_=>False) w (w.putObj D o'):=⟨by simp[World.putObj],λk cs t f a _=>lR (aag w D o') (λr e=>by cases e;exact⟨o,h,b⟩) k cs t f a⟩
def aQ.put{w D gs n sb mb K o o'}(a:aQ w gs n sb mb K)(h:w.heap[D]?=some o)(j:o.isCells=false)(d:∀i,i<n->mb i≠D):aQ w (gs) n sb mb K/\aQ (w.putObj D o') gs n sb mb K:=by
 have g:=aag w D o';have b:∀(k:Nat) (t:TypeId) (cs:List Value),Row w k t cs->k≠D:=λk t cs r e=>by subst e;unfold Row at r;rw[h]at r;cases r;simp[Obj.isCells]at j
 refine⟨a,a.xc (S:=λk=>k=D) ⟨g.os,g.tape,g.output,g.size,λk c f=>g.block k c (λe=>f (by simpa using e))⟩ (b _ _ _ a.arr) (λi hi=>b _ _ _ (a.sh i hi)) d⟩
def uL{w g j n mb t cs}(r:Row w g t cs)(v)(h:LB<=g):Tk LB (λu=>u=t) n mb w (w.setCell ⟨g,j,none⟩ v):=by
 have gr:=bJ w (g,j) v;refine⟨gr.os,gr.tape,gr.output,gr.size,λk d i f a b=>(gr.block k (bE a) (λe=>?_)).trans a,λk o a c _=>(gr.block k (bE a) (λe=>?_)).trans a⟩
 .simp at e;subst e;unfold Row at r;rw[a]at r;cases r;obtain b|b:=b;.omega
  .simp_all
 .simp at e;subst e;unfold Row at r;rw[a]at r;cases r;simp[Obj.isCells]at c
def aQ.tkc{b w w' gs n sb mb K}(a:aQ w gs n sb mb K)(x:Tk LB b 0 mb w w')(d:¬b 145)(e:¬b 173):aQ w' gs n sb mb K:=by refine⟨a.arr.tk x d,λi hi=>(a.sh i hi).tk x e,λi hi=>(a.mp i hi).same ?_,a.pt,a.inj,a.lo,a.hi⟩;have⟨o,c,f⟩:=a.maps (mb i) ⟨i,hi,rfl⟩;exact(x.rest (mb i) o c f (by rintro⟨j,g,_⟩;omega)).trans c.symm
def Tk.zero{a n mb w w'}(h:Tk LB a 0 mb w w'):Tk LB a n mb w w':=⟨h.os,h.tape,h.output,h.size,h.cells,λk o b c _=>h.rest k o b c (by rintro⟨j,d,_⟩;omega)⟩
def Tk.yO{c n g j mb w w1}(h:Tk LB c n mb w w1)(v)(q:↑w<=g):Tk LB c n mb w (w1.setCell ⟨g,j,none⟩ v):=by have gr:=bJ w1 (g,j) v;have i:∀(k:Nat) (o:Obj) (b:Obj),w.heap[k]?=some o->w1.heap[k]?=some b->(w1.setCell (g,j) v).heap[k]?=some b:=λk o b a d=>(gr.block k (bE d) (λe=>by simp at e;have:=bE a;omega)).trans d;exact⟨gr.os.trans h.os,gr.tape.trans h.tape,gr.output.trans h.output,bI h.size gr.size,λk cs t f a p=>i k _ _ a (h.cells k cs t f a p),λk o a m l=>i k _ _ a (h.rest k o a m l)⟩
def Tk.aai{c n D mb w w1}(h:Tk LB c n mb w w1)(o')(m:↑w<=D):Tk LB c n mb w (w1.putObj D o'):=by have gr:=aag w1 D o';have g:∀(k:Nat) (o:Obj) (b:Obj),w.heap[k]?=some o->w1.heap[k]?=some b->(w1.putObj D o').heap[k]?=some b:=λk o b a d=>(gr.block k (bE d) (λe=>by simp at e;have:=bE a;omega)).trans d;exact⟨gr.os.trans h.os,gr.tape.trans h.tape,gr.output.trans h.output,bI h.size gr.size,λk cs t f a l=>g k _ _ a (h.cells k cs t f a l),λk o a j i=>g k _ _ a (h.rest k o a j i)⟩
end
open Tryz
def J6(t:x7):Mn:=⟨wG t.tag t.ins t.outs,t.ins,t.outs⟩
def uJ.q(p:uJ):rz:=⟨J6 p.t,p.gi,p.t.ins.length,p.go,p.t.outs.length⟩
def aI.acz:(Vp.info? 155).map (λi=>(i.zero,i.size,i.bytes))=some (some (.agg #[aB,(),()]),3,64):=K8
def mdN(n:Nat):List Value:=(madeCells #[aB,.slice none 0 0,.slice none 0 0] (n*3)).toList
def acA(n):(mdN n).length=n*3:=by unfold mdN;rw[Array.length_toList,size_madeCells]
def ae2(n:Nat)(h:n<=1000)(w):(Instr.makeSlice 108 (n:Int) (n:Int)).run Vp w=.ok (.slice (w:Nat) n n) (w.alloc (.cells (mdN n).toArray 155)):=by have⟨d,hi,a,b,c⟩:=info_parts aI.acz;have:=xG (P:=Vp) w 108 155 d _ aI.underlying108 hi a .i64 .i64 (n:Int) (n:Int) O9 (nA _) (by rw[c];omega) O9;rw[this,b];simp[mdN,Value.cells]
def aaj(l):(yN l).length=l.length*3:=by induction l with
 |nil=>rfl
 |cons x l a=>simp only[yN,BS,bY]at*;simp only[rz.cells,fL,jU];omega
def Vo(l q):yN (l++[q])=yN l++q.cells:=by simp[yN]
def aak{w g t A r x y z}(h:Row w g t (A++x::y::z::r))(a b c):Row (((w.setCell (g,A.length) a).setCell (g,A.length+1) b).setCell (g,A.length+2) c) g t (A++a::b::c::r):=by
 have d:=((h.set A.length a).set (A.length+1) b).set (A.length+2) c;have e:(((A++x::y::z::r).set A.length a).set (A.length+1) b).set (A.length+2) c=A++a::b::c::r:=by simp
 rw[e]at d;exact d
def adM{w Y:World}{c0 c1 c2 c3:Value}(R:Row Y w.heap.size 110 [c0,c1,c2,c3])(hb:Below w.heap.size w Y)(a b:ByteArray)(c:Int)(d:Value):Row ((((Y.setCell ⟨w.heap.size,0,none⟩ (.string a)).setCell ⟨w.heap.size,1,none⟩ (.string b)).setCell ⟨w.heap.size,2,none⟩ (.int .i64 c)).setCell ⟨w.heap.size,3,none⟩ d) w.heap.size 110 [.string a,.string b,.int .i64 c,d]∧Below w.heap.size w ((((Y.setCell ⟨w.heap.size,0,none⟩ (.string a)).setCell ⟨w.heap.size,1,none⟩ (.string b)).setCell ⟨w.heap.size,2,none⟩ (.int .i64 c)).setCell ⟨w.heap.size,3,none⟩ d):=
  ⟨(((R.set 0 (.string a)).set 1 (.string b)).set 2 (.int .i64 c)).set 3 d,(((hb.setCell (p:=⟨w.heap.size,0,none⟩) (uS _) _).setCell (p:=⟨w.heap.size,1,none⟩) (uS _) _).setCell (p:=⟨w.heap.size,2,none⟩) (uS _) _).setCell (p:=⟨w.heap.size,3,none⟩) (uS _) _⟩
def NI:∀l i q,l[i]?=some q->(yM l)[i*3]?=some q.t.tag/\(yM l)[i*3+1]?=some (.slice q.gi q.t.ins.length q.t.ins.length)/\(yM l)[i*3+2]?=some (.slice q.go q.t.outs.length q.t.outs.length)
 |[],i,x,h=>by simp at h
 |y::l,0,x,h=>by simp at h;subst h;exact⟨rfl,rfl,rfl⟩
 |y::l,i+1,x,h=>by have:=NI l i x (by simpa using h);have e:yM (y::l)=y.cells++yM l:=rfl;rw[e];simp[show(i+1)*3=3+i*3 from by omega,show 3+i*3+1=3+(i*3+1)from by omega,show 3+i*3+2=3+(i*3+2)from by omega];have a:y.cells.length=3:=rfl;rw[eK O9,eK O9,eK O9];simpa[a]using this
def ag0(w:World)(g:Nat)(a b:ByteArray)(c:Int)(d:Value):Xc (λj=>j=g) w ((((w.setCell ⟨g,0,none⟩ (.string a)).setCell ⟨g,1,none⟩ (.string b)).setCell ⟨g,2,none⟩ (.int .i64 c)).setCell ⟨g,3,none⟩ d):=((((iT (λj=>j=g) w).setCell ⟨g,0,none⟩ (.string a) (λ_=>rfl)).setCell ⟨g,1,none⟩ (.string b) (λ_=>rfl)).setCell ⟨g,2,none⟩ (.int .i64 c) (λ_=>rfl)).setCell ⟨g,3,none⟩ d (λ_=>rfl)
def aal{S w b W B}(a:Below B w b)(d:B<=b)(x:Xc S b W)(f:∀k,S k->B<=k):Below B w W:=⟨x.os.trans a.os,x.tape.trans a.tape,x.output.trans a.output,bI a.size x.size,λk c=>(x.block k (dV c d) (λe=>by have:=f k e;omega)).trans (a.block k c)⟩
def SQ:Value:=.agg #[aB,aB,aA,.slice none 0 0]
def aam(s w):Cv 29 #[(mk s)] w λe w'=>Below w w w'/\((np s=none/\e=.returned (.tuple #[SQ,aG]))\/∃b gt Q,np s=some b/\e=.returned (.tuple #[.agg #[(kT s),(mk b.parent),b.bits,.slice (some ⟨gt,0,none⟩) Q.length Q.length],aA])/\mM w' gt Q/\Q.map rz.t=b.cO.map J6/\∀q∈Q,q.Ok):=by
 have c:=aU w [aB,aB,aA,()] 110;have d:Below w w (w.alloc (.cells #[aB,aB,aA,()] 110)):=B0.alloc L9 _;go_enter fA func29,ntmps29;go_wp2;generalize w.alloc (.cells #[aB,aB,aA,()] 110)=X at c d|-;refine(wF s _).mono ?_;rintro e w1 ⟨z,⟨u,rfl⟩|⟨b,v,gt,a,u,rfl,B⟩⟩
 .replace c:=(c.keep z c.lt).alloc (.cells #[aB,aA,aA,()] 76);replace d:Below w w (w1.alloc (.cells #[aB,aA,aA,()] 76)):=(d.trans (z.mono d.size)).alloc (bI d.size z.size) _;unfold lM;have c0:=c.r 0;have c1:=c.r 1;have c2:=c.r 2;have c3:=c.r 3;have f0:=c.frozen 0;have f1:=c.frozen 1;have f2:=c.frozen 2;have bj:=c.frozen 3;have o:=c.lt;go_wp2;generalize w1.alloc (.cells #[aB,aA,aA,()] 76)=Y at c d|-;obtain⟨hrf,a3⟩:=adM c d ⟨#[]⟩ ⟨#[]⟩ 0 ↑();generalize(((Y.setCell ⟨(w:Nat),0,none⟩ ↑aB).setCell ⟨(w:Nat),1,none⟩ ↑aB).setCell ⟨(w:Nat),2,none⟩ ↑aA).setCell ⟨(w:Nat),3,none⟩ ↑()=G at hrf a3|-;have k0:=hrf.r 0;have ak:=hrf.r 1;have k2:=hrf.r 2;have ao:=hrf.r 3;exact nC (v:=.tuple #[SQ,aG]) (by simp[results,results29,go_sem,k0,ak,k2,ao,SQ]) rfl ⟨a3,.inl ⟨u,rfl⟩⟩
 .obtain⟨ai,_⟩:=wE u;have bu:=B.val;subst bu;obtain⟨bm,a7⟩:=F3 ai;have ae:a.length=b.cO.length:=by rw[<-B.cO,fM]
  have cb:a.length<=8:=O9;have ab:FP b.cO=a.map λp=>↑(J6 p.t).id:=by unfold FP J6;rw[<-B.cO,pD];rfl
  have br:∀q∈a.map uJ.q,q.Ok:=by intro q T;obtain⟨p,y,rfl⟩:=iF.1 T;have E:=a7 p.t (by rw[<-B.cO];exact xK y);exact⟨E.2.2.1,E.2.2.2.2.1,E.2.2.2.1,E.2.2.2.2.2,by show(mk _).size<=_;rw[dG];simp[be]⟩
  have π:(a.map uJ.q).map rz.t=b.cO.map J6:=by rw[<-B.cO,pD,pD];rfl
  have aY:=B.row;have n:=B.rows;clear B a7 bm;obtain⟨h,bits,bU,cd⟩:=b;simp only at ae ab π|-;replace ae:=aL ae;have RB:=aU w1 [↑(mk h),bits,bU,.slice gt a.length a.length] 76;have P:Below w1 w1 (w1.alloc (.cells #[↑(mk h),bits,bU,.slice gt a.length a.length] 76)):=B0.alloc L9 _;go_wp2;replace c:=(c.keep z c.lt).keep P (dV c.lt z.size);replace aY:=aY.keep P aY.lt;replace n:=n.kept (w':=w1.alloc (.cells #[↑(mk h),bits,bU,.slice gt a.length a.length] 76)) (λb _ o=>P.block b o);replace d:Below w w (w1.alloc (.cells #[↑(mk h),bits,bU,.slice gt a.length a.length] 76)):=(d.trans (z.mono d.size)).trans (P.mono (bI d.size z.size));generalize bk:(w1:Nat)=bb at RB|-;generalize w1.alloc (.cells #[↑(mk h),bits,bU,.slice gt a.length a.length] 76)=Y at c aY n d RB|-;clear P z bk;refine(Aa s Y).m1 λw2 K=>?_;have a5:dE s=0:=by unfold dE;rw[u]
  rw[a5];clear a5;replace c:=c.keep K c.lt;replace RB:=RB.keep K RB.lt;replace aY:=aY.keep K aY.lt;replace n:=n.kept (w':=w2) (λb _ o=>K.block b o);replace d:=d.trans (K.mono d.size);clear K;go_wp2;refine(FT s w2).mono ?_;rintro e w3 ⟨L,⟨S,_⟩|⟨b0,gi,S,rfl,b6,RI⟩⟩;.rw[u]at S;cases S
  .rw[u]at S;cases S;simp only;rw[ab]at RI;rw[<-ae.out];replace c:=c.keep L c.lt;replace RB:=RB.keep L RB.lt;replace aY:=aY.keep L aY.lt;replace n:=n.kept (w':=w3) (λb _ o=>L.block b o);replace d:=d.trans (L.mono d.size);clear L;have g:=aU w3 (mdN a.length) 155;have A:Below w3 w3 (w3.alloc (.cells (mdN a.length).toArray 155)):=B0.alloc L9 _;have bq:=ae2 a.length O9;have b3:=RB.r 3;have bb3:=aW A b3;have a8:=d.size;change Hid _ at u π ab ai;go_wp2;replace c:=c.keep A c.lt;replace RB:=RB.keep A RB.lt;replace RI:=RI.keep A RI.lt;replace aY:=aY.keep A aY.lt;replace n:=n.kept (w':=w3.alloc (.cells (mdN a.length).toArray 155)) (λb _ o=>A.block b o);replace d:=d.trans (A.mono d.size);generalize bo:(w3:Nat)=f at g a8|-;generalize w3.alloc (.cells (mdN a.length).toArray 155)=G at c RB RI g aY n d bb3|-;clear bq A b3 bo bb3;have D:=g;go_loopw [39] (λi wr=>∃(k:Nat) (rest:List Value),k<=a.length/\i=↑k/\Row wr f 155 (yN ((a.take k).map uJ.q)++rest)/\rest.length=(a.length -k)*3/\Xc (λj=>j=f) G wr) (λi _=>a.length -(intOf i).toNat);exact⟨0,mdN a.length,fJ _,rfl,g,by rw[acA];rfl,iT _ _⟩;case round=>
    obtain⟨k,rest,b7,rfl,g,r,x⟩:=hrel;replace c:=c.xc x (c.ne D D9);replace RB:=RB.xc x (RB.ne D D9);replace RI:=RI.xc x (RI.ne D D9);replace aY:=aY.xc x (aY.ne D D9);by_cases o:k<a.length;.match rest,r with
     |[],r=>simp at r;omega
     |[_],r=>simp at r;omega
     |[_,_],r=>simp at r;omega
     |bx::y1::bz::rest,r=>
       have af:=bS o;have aj:a.take (k+1)=a.take k++[a[k]]:=by rw[xH o]
       generalize a[k]=q at af aj;obtain⟨au,av,ay⟩:=NI a k q af;have c0:wr.cell? (gt,k*3)=some ↑q.t.tag:=by rw[aY.cell];exact au
       have c1:wr.cell? (gt,k*3+1)=some (.slice q.gi q.t.ins.length q.t.ins.length):=by rw[aY.cell];exact av
       have c2:wr.cell? (gt,k*3+2)=some (.slice q.go q.t.outs.length q.t.outs.length):=by rw[aY.cell];exact ay
       have J:(yN ((a.take k).map uJ.q)).length=k*3:=by rw[aaj,fM,kI];omega
       have a6:Hid (yN ((a.take (k+1)).map uJ.q)=yN ((a.take k).map uJ.q)++[.string (J6 q.t).id,.slice (some ⟨q.gi,0,none⟩) q.t.ins.length q.t.ins.length,.slice (some ⟨q.go,0,none⟩) q.t.outs.length q.t.outs.length]):=by show _=_;rw[aj,nP,kV,DY,Vo];rfl
       have aa:Below wr wr (wr.alloc (.cells #[↑q.t.tag,.slice q.gi q.t.ins.length q.t.ins.length,.slice q.go q.t.outs.length q.t.outs.length] 73)):=B0.alloc L9 _;have O:=aU wr [↑q.t.tag,.slice q.gi q.t.ins.length q.t.ins.length,.slice q.go q.t.outs.length q.t.outs.length] 73;replace g:=g.keep aa g.lt;replace RI:=RI.keep aa RI.lt;replace x:=x.then aa;have b8:(0:Int)<=(k:Int):=O9;have b9:(k:Int)<(a.length:Int):=O9;have R:(a.map λp=>Value.string (J6 p.t).id)[k]?=some (↑(J6 q.t).id):=by rw[cT,af];rfl
       change Hid _ at R J r;clear af aj au av ay aa;generalize(J6 q.t).id=W at a6 R|-;generalize q.t.ins.length=l,q.t.outs.length=m,q.gi=H,q.go=I,q.t.tag=a9 at*;go_wp2;generalize wr.alloc (.cells #[a9,.slice H l l,.slice I m m] 73)=V at g RI O x|-;generalize(wr:Nat)=ar at O|-;have ba:V.cell? (gi,k)=some ↑W:=by rw[RI.cell];exact R.out
       have bb:=O.r 1;have bc:=O.r 2;have bd:V.cell? (f,k*3)=some bx:=by rw[g.cell,<-J.out,eK L9];simp
       have bf:V.cell? (f,k*3+1)=some y1:=by rw[g.cell,<-J.out,eK O9];simp
       have bg:V.cell? (f,k*3+2)=some bz:=by rw[g.cell,<-J.out,eK O9];simp
       have f0:=g.frozen (k*3);have f1:=g.frozen (k*3+1);have f2:=g.frozen (k*3+2);have cf:=g.lt;clear c0 c1 c2 R;go_region;have C:=aak g ↑W (.slice H l l) (.slice I m m);rw[J.out]at C;have ag:=((x.setCell (f,k*3) ↑W (λ_=>rfl)).setCell (f,k*3+1) (.slice H l l) (λ_=>rfl)).setCell (f,k*3+2) (.slice I m m) (λ_=>rfl);replace C:Row ((((V.setCell (f,k*3) ↑W).setCell (f,k*3+1) (.slice H l l)).setCell (f,k*3+2) (.slice I m m)).drew) f 155 _:=C;replace ag:=ag.drew;clear x g bd bf bg f0 f1 f2 ba bb bc RI O;generalize(((V.setCell ⟨f,k*3,none⟩ ↑W).setCell ⟨f,k*3+1,none⟩ (.slice H l l)).setCell ⟨f,k*3+2,none⟩ (.slice I m m)).drew=μ at C ag|-;replace C:=aL C;go_wp2;go_roundw;exact⟨k+1,rest,O9,by go_num,by rw[a6.out,iG];exact C.out,by have:=r.out;simp only[fL]at this;omega,ag⟩;simp[intOf];omega
    .have bp:k=a.length:=O9;subst bp;have bs:rest=[]:=oG O9;subst bs;rw[oL,jI]at g;have a4:=aal d d.size x (λj e=>by subst e;exact a8);have M:∀p∈a,Row wr p.gi 133 (mX p.t.ins)/\Row wr p.go 69 (lQ p.t.outs):=λp y=>by obtain⟨i,hi⟩:=oK.1 y;obtain⟨_,_,E,az⟩:=n.rows i p hi;exact⟨E.xc x (E.ne D D9),az.xc x (az.ne D D9)⟩
     obtain⟨N,a2⟩:=adM c a4 (kT s) (mk h) bits (.slice f a.length a.length);have ah:Xc (λj=>j=(w:Nat)) wr ((((wr.setCell ((w:Nat),0) ↑(kT s)).setCell ((w:Nat),1) ↑(mk h)).setCell ((w:Nat),2) ↑bits).setCell ((w:Nat),3) (.slice f a.length a.length)):=ag0 wr ↑w (kT s) (mk h) bits _;have a0:mM ((((wr.setCell ((w:Nat),0) ↑(kT s)).setCell ((w:Nat),1) ↑(mk h)).setCell ((w:Nat),2) ↑bits).setCell ((w:Nat),3) (.slice f a.length a.length)) f (a.map uJ.q):=by
      refine⟨g.xc ah (g.ne c D9),λq T=>?_,λq T=>?_⟩;.obtain⟨p,y,rfl⟩:=iF.1 T;exact(M p y).1.xc ah ((M p y).1.ne c D9)
      .obtain⟨p,y,rfl⟩:=iF.1 T;exact(M p y).2.xc ah ((M p y).2.ne c D9)
     have c0:=c.r 0;have c1:=c.r 1;have c2:=c.r 2;have c3:=c.r 3;have f0:=c.frozen 0;have f1:=c.frozen 1;have f2:=c.frozen 2;have bj:=c.frozen 3;have ca:=c.lt;have b4:=RB.r 0;have b1:=RB.r 1;replace M:=aL M;clear a4 ah g D RI RB c aY n d x;go_wp2;generalize(((wr.setCell ⟨(w:Nat),0,none⟩ ↑(kT s)).setCell ⟨(w:Nat),1,none⟩ ↑(mk h)).setCell ⟨(w:Nat),2,none⟩ ↑bits).setCell ⟨(w:Nat),3,none⟩ (.slice f a.length a.length)=F at N a2 a0|-;have k0:=N.r 0;have ak:=N.r 1;have k2:=N.r 2;have ao:=N.r 3;exact nC (v:=.tuple #[.agg #[↑(kT s),↑(mk h),bits,.slice f a.length a.length],aA]) (by simp[results,results29,go_sem,k0,ak,k2,ao]) rfl ⟨a2,.inr ⟨_,f,a.map uJ.q,u.out,by rw[fM],a0,π.out,br⟩⟩
structure AN where
 ids:List ByteArray
 rS:ByteArray
 aY:Nat
 wo:Int
 K:jO
 mem:List bX
 lo:Nat
def idB(s:List UInt8):List UInt8:=be (hN (98::s)) 8
def iK(s:List UInt8):UInt8:=(idB s).getD 7 0
def JJ(s):(idB s).length=8:=by simp[idB,be]
def UQ(s):idB s=(idB s).take 7++[iK s]:=by trivial
def Bv{s b}(h:np s=some b):kT s=mk ((idB s).take 7++[iK s]):=by unfold kT;rw[h];rfl
def NJ(l:List ByteArray)(id:ByteArray):Bool:=l.any λi=>decide (i=id)
def xg{l id}:NJ l id=true↔id∈l:=by
 unfold NJ;constructor;.simp
 .simp
def Ng(a:AN)(cb:Int)(s:List UInt8)(b:pn):Int:=if NJ a.ids (kT s)=true then 10 else
 if b.bits<cb then 11 else
 if(iK s).toNat%2^b.bits.toNat≠0 then 11 else
 if a.ids.length=49 then 9 else 0
def lO(c:fV)(a:AN)(b:pn):Int×JS×List bX:=bP c.me.toNat c.su ((a.aY+1:Nat):Int) (b.cO.map J6) a.mem a.K []
def Ds(c:fV)(a:AN)(s:List UInt8):Int×Int×AN:=match np s with
 |none=>(0,1,a)
 |some b=>if Ng a c.bi s b≠0 then(0,Ng a c.bi s b,a)else
   if(lO c a b).1=0 then(1,0,⟨a.ids++[kT s],kT s,a.aY+1,a.wo+2^b.bits.toNat,(lO c a b).2.1.K,(lO c a b).2.2,a.lo⟩)
   else(0,(lO c a b).1,{a with ids:=a.ids++[kT s],mem:=(lO c a b).2.2})
structure Lay where
 B:Nat
 gs:Nat
 n:Nat
 gc:Nat
 kc:Nat
 cc:Nat
 sb:Nat->Nat
 mb:Nat->Nat
 bv:Value
 mv:Value
 l:List kH
 L:List Value
 p:kH
def Qm(lk:List Value)(c:fV)(bv cv:Value)(gs n:Nat)(mv:Value):List Value:=lk++c.cells++[bv,cv,.slice (some ⟨gs,0,none⟩) n n,.int .i64 c.me,mv]
def Lay.cs(s:Lay)(lk:List Value)(c:fV):List Value:=Qm lk c s.bv (.slice (some ⟨s.gc,0,none⟩) (s.kc+1) s.cc) s.gs s.n s.mv
structure kO(w:World)(nb:Nat)(lk:List Value)(c:fV)(s:Lay)(a:AN):Prop where
 nd:oD w nb s.B c.me.toNat (s.cs lk c) s.bv s.mv s.gc s.kc s.cc s.l s.L a.mem
 aV:aQ w s.gs s.n s.sb s.mb a.K
 idn:(s.l.map kH.id).Nodup
 rS:s.p∈s.l
 kD:s.p.bad=false
 ph:s.p.aY=(s.kc:Int)
 link:s.L[s.kc*2]?=some (.pointer (some ⟨s.p.a,0,none⟩))
 L1:∀u∈s.L,u.oneCell'=true
 ids:s.l.map kH.id=a.ids
 tid:s.p.id=a.rS
 kc:s.kc=a.aY
 wo:s.p.wo=a.wo
 len:a.ids.length<=49
 kl:a.aY+1<=a.ids.length
 wb:0<=a.wo/\a.wo<=256*a.ids.length
 Dr:BI a.K
 mem:a.mem.length<=c.me.toNat
 cok:c.ok=true
 low:a.lo<=nb/\a.lo<=s.B/\∀x∈s.l,a.lo<=x.a
def uw(w:World)(nb:Nat)(c:fV)(a:AN):Prop:=∃s,kO w nb qM c s a
def DI{c:fV}(h:c.ok=true):(0<c.wk/\c.wk<=8)/\(1<=c.sh/\c.sh<=16)/\(0<=c.me/\c.me<=64)/\(0<=c.su/\c.su<=1000000)/\(0<=c.bi/\c.bi<=8):=by simp[fV.ok,p5]at h;omega
def IP:∀l p,(l.map kH.id).Nodup->p∈l->jF l p.id=some p
 |[],p,_,h=>by simp at h
 |x::l,p,a,h=>by
   simp at a;unfold jF;obtain e|b:=iN.1 h;.simp_all
   .rw[afl];.exact IP l p a.2 b
    .grind
def rh{l id}:(jF l id).isSome=true↔id∈l.map kH.id:=by
 unfold jF;constructor;.simp
 .simp
section
variable{LB:Nat}
def Y2(t:TypeId):Prop:=Y1 t\/t=114
def kO.keep{w w' nb d c s a}(h:kO w nb d c s a)(b:Below w w w'):kO w' nb d c s a:=⟨h.nd.keep b,h.aV.keep b,h.idn,h.rS,h.kD,h.ph,h.link,h.L1,h.ids,h.tid,h.kc,h.wo,h.len,h.kl,h.wb,h.Dr,h.mem,h.cok,h.low⟩
def kO.row{w nb b c s a}(h:kO w nb b c s a):Row w nb 107 (b++(c.cells++[s.bv,.slice (some ⟨s.gc,0,none⟩) (s.kc+1) s.cc,.slice (some ⟨s.gs,0,none⟩) s.n s.n,.int .i64 c.me,s.mv])):=by have:=h.nd.mem.row;unfold Lay.cs Qm at this;rw[iG]at this;exact this
def kO.shut{w w' nb b lk' c s a}(h:kO w nb b c s a)(hl:b.length=6)(o:lk'.length=6)(g:w.grownBy w' (some nb))(r:Row w' nb 107 (lk'++(c.cells++[s.bv,.slice (some ⟨s.gc,0,none⟩) (s.kc+1) s.cc,.slice (some ⟨s.gs,0,none⟩) s.n s.n,.int .i64 c.me,s.mv]))):kO w' nb lk' c s a/\Tk a.lo (λt=>t=107) 0 s.mb w w':=by
 have hr:=h.row;have x:Xc (λk=>k=nb) w w':=⟨g.os,g.tape,g.output,g.size,λk m p=>g.block k m (λe=>p (by simpa using e))⟩;have f:Tk a.lo (λt=>t=107) 0 s.mb w w':=IA x (by rintro k ⟨i,hi,_⟩;omega) (λk _ e=>by subst e;exact .inr ⟨h.low.1,_,_,_,rfl,hr⟩);have hlen:∀(j:Nat) (T:List Value),6<=j->(lk'++T)[j]?=(b++T)[j]?:=λj T d=>by rw[eK O9,eK O9,hl,o]
 have l:∀b,s.cs b c=b++(c.cells++[s.bv,.slice (some ⟨s.gc,0,none⟩) (s.kc+1) s.cc,.slice (some ⟨s.gs,0,none⟩) s.n s.n,.int .i64 c.me,s.mv]):=λb=>by unfold Lay.cs Qm;rw[List.append_assoc]
 have d:∀j,6<=j->(s.cs lk' c)[j]?=(s.cs b c)[j]?:=λj d=>by rw[l,l];exact hlen j _ d
 refine⟨⟨⟨⟨by rw[l];exact r,by rw[d 14 D9];exact h.nd.mem.Vi,by rw[d 15 D9];exact h.nd.mem.IG,pW h.nd.mem.own f D9,bI h.nd.mem.base x.size⟩,by rw[d 11 D9];exact h.nd.Nc,by rw[d 12 D9];exact h.nd.N6,h.nd.rf.tk f D9 D9,pW h.nd.chain f D9⟩,h.aV.tkc f D9 D9,h.idn,h.rS,h.kD,h.ph,h.link,h.L1,h.ids,h.tid,h.kc,h.wo,h.len,h.kl,h.wb,h.Dr,h.mem,h.cok,h.low⟩,f⟩
def kO.tk{b w w' nb d c s a}(h:kO w nb d c s a)(x:Tk LB b 0 s.mb w w')(h1:¬b 107)(h2:¬b 247)(e:¬b 114)(f:¬b 117)(g:¬b 123)(i:¬b 145)(j:¬b 173):kO w' nb d c s a:=⟨h.nd.ck x.ck h1 h2 e f g,h.aV.tkc x i j,h.idn,h.rS,h.kD,h.ph,h.link,h.L1,h.ids,h.tid,h.kc,h.wo,h.len,h.kl,h.wb,h.Dr,h.mem,h.cok,h.low⟩
def Ar{w W mb x y}(R:Row W w.heap.size 44 [x,y])(u v)(b:LB<=w.heap.size):Row ((W.setCell (w.heap.size,0) (.int .i64 u)).setCell (w.heap.size,1) (.int .i64 v)) w.heap.size 44 [u,v]/\Tk LB (λt=>t=44) 0 mb W ((W.setCell (w.heap.size,0) u).setCell (w.heap.size,1) v)/\∀{a:TypeId->Prop} {n:Nat} {mb:Nat->Nat},Tk LB a n mb w W->Tk LB a n mb w ((W.setCell ((w:Nat),0) u).setCell ((w:Nat),1) v):=
 ⟨(R.set 0 ↑u).set 1 ↑v,(uL R _ b).trans (uL (R.set 0 _) _ b),λh=>(h.yO _ L9).yO _ L9⟩
def Yk(t:TypeId):Prop:=t=107\/t=114
def SS{w w' nb c y a b nw}(h:kO w nb oq c y a)(g:jB w' y.B b (y.l++[nw]))(m:Row w' nb 107 ((y.cs oq c).set 11 b))(x:Xc (λk=>k=nb\/y.bv.ownBlock=some k) w w'):oD w' nb y.B c.me.toNat ((y.cs oq c).set 11 b) b y.mv y.gc y.kc y.cc (y.l++[nw]) y.L a.mem/\aQ w' y.gs y.n y.sb y.mb a.K/\Tk a.lo Yk 0 y.mb w w':=by
 have d:Tk a.lo Yk 0 y.mb w w':=IA x (by rintro k ⟨i,hi,_⟩;omega) (λk _ e=>by
  obtain e|e:=e;.subst e;exact .inr ⟨h.low.1,_,_,_,.inl rfl,h.nd.mem.row⟩
  .have⟨j,o,f⟩:=bV h.nd.rf.own e;exact .inr ⟨bI h.low.2.1 j,_,_,_,.inr rfl,f⟩)
 have p:=(cE.1 h.nd.mem.Vi).1;refine⟨⟨⟨m,?_,?_,pW h.nd.mem.own d (by unfold Yk;decide),Nat.le_trans h.nd.mem.base x.size⟩,?_,?_,g,pW h.nd.chain d (by unfold Yk;decide)⟩,h.aV.tkc d (by unfold Yk;decide) (by unfold Yk;decide),d⟩;.rw[sY D9];exact h.nd.mem.Vi
 .trivial
 .grind
 .trivial
def aan{l nw}(h:(l.map kH.id).Nodup)(a:nw.id∉l.map kH.id):((l++[nw]).map kH.id).Nodup:=by grind
def aao{w nb A d c y a nw}(h:kO w nb d c y a)(g:(w:Nat)<=A)(i:nw.a=A):∀x∈y.l++[nw],a.lo<=x.a:=by
 have e:=h.low.1;have f:=h.nd.mem.row.lt;intro x b;obtain b|b:=mN.1 b;.exact h.low.2.2 x b
 .grind
end
open Go.Bj (iR xA)
def an0(D:Nat):AN:=⟨[jQ],jQ,0,0,λ_=>none,[],D⟩
def mZ{w B g size n t cs}(h:Row w g t cs)(a:cs.length=n*size)(b:B<=g)(c:n<=maxLen):w.ownsRow B t size (.slice g n n) n cs:=⟨a,.inr ⟨g,n,cs.toArray,rfl,b,h,L9,c,by simpa using a,by rw[<-a];simp⟩⟩
def JV{w gs n}(h:kE w gs n)(l:1<=n)(o:n<=16):∃sb mb,aQ w gs n sb mb (λ_=>none):=by
 have⟨a,A,t,u,v⟩:=h.at_;have b:∀i,i<n->a[i]?=some (a.getD i 0):=λi hi=>by rw[BR,bS O9];rfl
 have d:∀i,i<n->∃m,a.getD i 0=m+1/\Row w (a.getD i 0) 173 (uz m)/\w.heap[m]?=some (.map #[] 0):=λi hi=>(v _ (cU (b i hi))).at_;refine⟨λi=>a.getD i 0,λi=>a.getD i 0 -1,?_,λi hi=>?_,λi hi=>?_,λp c f=>(by cases f),λi j hi k e=>?_,l,o⟩
 .have e:(List.range n).map (λi=>ptr (a.getD i 0))=a.map ptr:=by
   apply kJ;intro i;by_cases hi:i<n;.simp_all
   .simp_all
  rw[e];exact u
 .grind
 .have⟨m,e,_,s⟩:=d i hi;have:a.getD i 0 -1=m:=O9;rw[this];refine⟨[],?_,λc r=>(by simp at r),λp c f=>(by cases f)⟩;exact⟨#[],0,s,rfl,λx g=>(by simp at g),⟨λx g=>(by simp at g),S8,S8⟩⟩
 .have⟨m,y,_⟩:=d i hi;have⟨B,z,_⟩:=d j k;have q:a[i]?=a[j]?:=by rw[b i hi,b j k];congr 1;omega
  exact(WI O9 t).1 q
def acB{D w b c}(h:Ms D w b c)(g:c.ok=true):∃s a,kO w b qM c s (an0 D)/\s.l=[⟨a,jQ,none,0,0,acw,false⟩]/\s.L=[ptr a,()]:=by
 have⟨a,gb,gc,gs,n,h1,h2,o,q,r,f,e,j,k,m⟩:=h.at_;have⟨sb,mb,t⟩:=JV r f.1 f.2;have y:=DI g;refine⟨⟨D,gs,n,gc,0,1,sb,mb,.slice gb 1 1,↑(),[⟨a,jQ,none,0,0,acw,false⟩],[ptr a,↑()],⟨a,jQ,none,0,0,acw,false⟩⟩,a,⟨⟨⟨h1,?_,rfl,nB _ _ _ _,bI e (D6 h1.lt)⟩,rfl,rfl,⟨mZ h2 rfl k D9,λx d=>?_⟩,mZ (n:=1) o rfl m D9⟩,t,S8,S8,rfl,rfl,rfl,?_,rfl,rfl,rfl,rfl,(show(1:Nat)<=49 by decide),(show(0:Nat)+1<=1 by decide),(show(0:Int)<=0/\(0:Int)<=256*((1:Nat):Int)by decide),λp c v=>(by cases v),fJ _,g,e,L9,λx d=>(by rw[jW.1 d];exact j)⟩,rfl,rfl⟩;.show some (Value.int .i64 c.me)=_;rw[KC O9]
 .rw[jW.1 d];exact q
 .intro u i;simp at i;obtain rfl|rfl:=i<;>rfl
def uw.keep{w w' nb c a}(h:uw w nb c a)(b:Below w w w'):uw w' nb c a:=by have⟨s,h⟩:=h;exact⟨s,h.keep b⟩
def kO.rlock{w w' nb c s a}(h:kO w nb qM c s a)(r:Row w' nb 107 (qQ++(c.cells++[s.bv,.slice (some ⟨s.gc,0,none⟩) (s.kc+1) s.cc,.slice (some ⟨s.gs,0,none⟩) s.n s.n,.int .i64 c.me,s.mv])))(e:w'=w.setCell (nb,4) (.int .i32 1)):kO w' nb qQ c s a/\Xc (λk=>k=nb) w w':=by
 have g:w.grownBy w' (some nb):=by rw[e];exact bJ w (nb,4) _
 exact⟨(h.shut rfl (lk':=qQ) rfl g r).1,⟨g.os,g.tape,g.output,g.size,λk b d=>g.block k b (λe=>d (by simpa using e))⟩⟩
def kO.N6{w nb b c s a}(h:kO w nb b c s a):w.cell? (nb,12)=some (.slice s.gc (s.kc+1) s.cc):=by rw[h.nd.mem.row.cell];exact h.nd.N6
def kO.cl{w nb b c s a}(h:kO w nb b c s a):w.cell? (s.gc,s.kc*2)=some (.pointer s.p.a):=by have:=h.nd.chain.cells (g:=s.gc) rfl (s.kc*2) _ h.link;rwa [add0]at this
def AN.zT(a:AN):Value:=.agg #[.string a.rS,.int .i64 (a.aY:Int),.int .i64 a.wo]
def aap{nb b c s a}(w)(h:kO w nb b c s a):Cv 27 #[.pointer nb] w λe w'=>e=.returned a.zT/\Below w w w':=by
 have:=Z0 nb s.gc s.kc s.cc s.p w h.N6 h.cl (by have d:=h.kc;have f:=h.kl;have g:=h.len;omega) (h.nd.rf.row s.p h.rS);rw[h.tid,h.wo,h.ph,h.kc]at this;exact this
def Pq{nb c a}(w)(h:uw w nb c a):Cv 10 #[ptr nb] w λe w'=>e=.returned a.zT/\Below w w w':=by
 have⟨s,d⟩:=h;have t:=d.row;have b:=aU w [aB,aA,aA] 39;have j:Below w.heap.size w (w.alloc (.cells #[aB,aA,aA] 39)):=B0.alloc L9 _;have l:=t.lt;unfold ptr;go_enter_defers fA func10,ntmps10;go_wp2;replace d:=d.keep j;generalize w.alloc (.cells #[aB,aA,aA] 39)=X at b j d|-;refine(yE X d.row).mono ?_;rintro e w2 ⟨rfl,q,u⟩;have⟨i,n⟩:=d.rlock q u;have o:Xc (λk=>k=nb\/False) w w2:=(iW j).trans n (λk _ e=>.inl e);replace b:=b.xc n (λe=>by omega);clear q u n j d;go_wp2;refine(aap w2 i).m1 λw3 m=>?_;replace o:=o.then m;replace b:=b.keep m b.lt;replace i:=i.keep m;have c0:=b.r 0;have c1:=b.r 1;have c2:=b.r 2;have f0:=b.frozen 0;have f1:=b.frozen 1;have f2:=b.frozen 2;unfold AN.zT;go_wp2;have p:Row (((w3.setCell ⟨w.heap.size,0,none⟩ a.rS).setCell ⟨w.heap.size,1,none⟩ (a.aY:Int)).setCell ⟨w.heap.size,2,none⟩ a.wo) w.heap.size 39 [a.rS,(a.aY:Int),a.wo]:=((b.set 0 a.rS).set 1 (a.aY:Int)).set 2 a.wo;have x:Xc (λk=>k=nb\/False) w (((w3.setCell ⟨w.heap.size,0,none⟩ a.rS).setCell ⟨w.heap.size,1,none⟩ (a.aY:Int)).setCell ⟨w.heap.size,2,none⟩ a.wo):=((o.setCell ⟨w.heap.size,0,none⟩ _ (λe=>absurd e (Ha _))).setCell ⟨w.heap.size,1,none⟩ _ (λe=>absurd e (Ha _))).setCell ⟨w.heap.size,2,none⟩ _ (λe=>absurd e (Ha _));have r:Row (((w3.setCell ⟨w.heap.size,0,none⟩ a.rS).setCell ⟨w.heap.size,1,none⟩ (a.aY:Int)).setCell ⟨w.heap.size,2,none⟩ a.wo) nb 107 _:=((i.row.aP ⟨w.heap.size,0,none⟩ a.rS (WJ l)).aP ⟨w.heap.size,1,none⟩ (a.aY:Int) (WJ l)).aP ⟨w.heap.size,2,none⟩ a.wo (WJ l);generalize((w3.setCell ⟨w.heap.size,0,none⟩ a.rS).setCell ⟨w.heap.size,1,none⟩ (a.aY:Int)).setCell ⟨w.heap.size,2,none⟩ a.wo=F at p x r|-;refine qu (f:=26) (args:=#[.pointer (some ⟨nb,0,none⟩)]) S8 (by simp[go_sem]) ?_;refine(qR .returning F r).mono ?_;rintro e B w4 ⟨rfl,rfl,y,v⟩;have A:Xc (λk=>k=nb\/False) w w4:=by rw[v];exact x.setCell _ _ (λ_=>.inl rfl)
 have g:=p.aP ⟨nb,4,none⟩ (.int .i32 0) (Nat.ne_of_gt l);rw[<-v]at g;have k0:w4.cell? ⟨w.heap.size,0,none⟩=some a.rS:=g.cell 0;have z:w4.cell? ⟨w.heap.size,1,none⟩=some (a.aY:Int):=g.cell 1;have k2:w4.cell? ⟨w.heap.size,2,none⟩=some a.wo:=g.cell 2;exact⟨.agg #[a.rS,(a.aY:Int),a.wo],by simp[results,results10,go_sem,k0,z,k2],rfl,(Ig A t y).low⟩
section
variable{LB:Nat}
def aI.Vq:(Vp.info? 60).map (λi=>(i.zero,i.size,i.bytes))=some (some (.agg ()),6,64):=K8
def qL:Option dD->List Value
 |none=>[↑aB,↑aA,↑aA,↑aB,↑aA,↑aF]
 |some c=>[.string c.tx,.int .i64 c.idx,.int .i64 c.val,.string c.lock,.int .i64 c.aY,↑aD]
end
def fG.none_{w m n i c}(h:fG w m n i (jO.put (λ_=>none) c))(hi:rC n c.pt≠i):∃cl,w.heap[m]?=some (.map #[] cl):=by
 have⟨C,⟨es,cl,a,j,k,l⟩,b,o⟩:=h;have:C=[]:=by cases C with
  |nil=>rfl
  |cons d C=>
    have f:=b d S8;unfold jO.put at f;by_cases e:d.pt=c.pt;.simp_all
    .simp_all
 have g:es=#[]:=by simp_all
 subst g;exact⟨cl,a⟩
def fG.one{w m n i c}(h:fG w m n i (jO.put (λ_=>none) c))(hi:rC n c.pt=i):∃e cl,w.heap[m]?=some (.map #[e] cl)/\e.val=c.v/\e.born<cl:=by
 have⟨C,⟨es,cl,r,f,E,s⟩,t,u⟩:=h;have p:=u c.pt c (by unfold jO.put;rw[if_pos rfl]) hi;have g:∀d∈C,d=c:=λd y=>by
  have:=(t d y).1;unfold jO.put at this;by_cases e:d.pt=c.pt;.simp_all
  .simp_all
 have q:(C.map dD.pt).Nodup:=by
  have o:=s.2.2;have j:es.toList.map (·.key)=(es.toList.map (λe=>(e.key,e.val))).map Prod.fst:=by rw[pD];rfl
  rw[j,f,pD]at o;have k:(Prod.fst∘qP)=vq∘dD.pt:=rfl;rw[k,<-pD]at o;exact List.Pairwise.of_map vq (λa b B e=>B (by rw[e])) o
 have x:C=[c]:=by match C,p,g,q with
  |[d],p,g,_=>rw[g d S8]
  |d::d'::D,p,g,q=>have j:=g d S8;have k:=g d' S8;subst j;simp[k]at q
 subst x;have A:es.size=1:=by have:=congrArg List.length f;simpa using this
 obtain⟨e,z⟩:∃e,es=#[e]:=⟨es[0],by apply Array.ext;simp[A];intro i r f;simp at f;subst f;rfl⟩;subst z;refine⟨e,cl,r,?_,s.1 e S8⟩;have:=congrArg (λl=>l.map Prod.snd) f;simpa[qP]using this
def yf{b m cl}(a k d w)(c:Row w b 173 (uz m))(g:w.heap[m]?=some (.map #[] cl)):Cv 53 #[ptr b,.slice a k d] w λe w'=>e=.returned (.slice a k d)/\Below w w w':=by
 have r:m≠b:=by intro e;subst e;unfold Row at c;rw[g]at c;cases c
 unfold ptr;go_enter_defers fA func53,ntmps53;go_wp2;refine(yE w c).mono ?_;rintro e w1 ⟨rfl,n,p⟩;have q:Xc (λk=>k=b\/False) w w1:=by rw[p];exact(iT _ w).setCell ⟨b,4,none⟩ _ (λ_=>.inl rfl)
 have i:=(q.block m (bE g) (λe=>by obtain e|e:=e;exact r e;exact e)).trans g;have c6:=n.r 6;have A:=run_range_map (P:=Vp) w1 171 _ _ m #[] cl aI.underlying171 i;have j:(w1.alloc (.mapIter (some m) cl #[] cl)).heap[w1.heap.size]?=some (.mapIter (some m) cl #[] cl):=uV w1 _;have l:(w1.alloc (.mapIter (some m) cl #[] cl)).heap[m]?=some (.map #[] cl):=by first|exact(heap_alloc_old w1 _ _ (bE i)).trans i|exact(heap_alloc_old w1 _ (bE i)).trans i
 have z:∀ty,(Instr.next (.pointer (some ⟨w1.heap.size,0,none⟩)) false ty).run Vp (w1.alloc (.mapIter (some m) cl #[] cl))=.ok (.tuple #[aF]) (w1.alloc (.mapIter (some m) cl #[] cl)):=λty=>by
  rcases run_next_at (P:=Vp) (w1.alloc (.mapIter (some m) cl #[] cl)) ty w1.heap.size m cl cl #[] #[] cl j l S8 L9 with h|⟨e,y,_⟩;.exact h.2
  .trivial
 clear j l p;go_wp2;go_loopw [1] (λo wr=>o=.slice a k d/\wr=w1.alloc (.mapIter (some m) cl #[] cl)) (λ_ _=>0);exact⟨rfl,rfl⟩;case round=>
  obtain⟨rfl,rfl⟩:=hrel;go_wp2;have u:Row (w1.alloc (.mapIter (some m) cl #[] cl)) b 173 (qQ++[.map (some m)]):=n.alloc _;have v:=q.alloc (.mapIter (some m) cl #[] cl);refine qu (f:=26) (args:=#[.pointer (some ⟨b,0,none⟩)]) S8 (by simp[go_sem]) ?_;refine(qR .returning _ u).mono ?_;rintro e B w4 ⟨rfl,rfl,s,t⟩;have x:Xc (λk=>k=b\/False) w w4:=by rw[t];exact v.setCell _ _ (λ_=>.inl rfl)
  exact⟨_,Ky rfl _ _ _,rfl,(Ig x c s).low⟩
def zY{B w ops rest o a Q}(k:o.guard=none)(s x)(q:o.op=.call {callee:=.builtin .append,args:=#[s,x],argTypes:=#[41,41]})(v)(n)(l)(t:a.eval s=v)(r:w.ownsRow B 60 6 v n l)
 (g c)(news)(p:news.length=1*6)(y:a.eval x=.slice g 1 c)(i:Row w g 60 news)(d:∀u∈news,u.oneCell'=true)(hlen:n<=100000)(f:B<=↑w)
 (h:∀b w',w'.ownsRow B 60 6 b (n+1) (l++news)->w.grownBy w' v.ownBlock->wpList Vp ops Q rest (a.put o.dst b) w'):wpList Vp ops Q (o::rest) a w:=by
 have⟨D,hi,z,A,C⟩:=info_parts aI.Vq;refine wpList_append_own_at _ k s x 41 q B 60 D _ 6 64 aI.underlying41 hi z A C rfl D9 v n l t r (g,0) 1 c news y p (λj u m=>by rw[add0,i.cell];exact m) d (by unfold maxLen;omega) O9 f ?_;intro b w' d e _ _;exact h b w' d e
def JW{b m cl e}(c w)(j:Row w b 173 (uz m))(A:w.heap[m]?=some (.map #[e] cl))(ar:e.val=c.v)(N:e.born<cl):Cv 53 #[ptr b,()] w λe w'=>∃v,e=.returned v/\w'.ownsRow w 60 6 v 1 (qL (some c))/\Below w w w':=by
 have ag:m≠b:=by intro e;subst e;unfold Row at j;rw[A]at j;cases j
 unfold ptr;go_enter_defers fA func53,ntmps53;go_wp2;refine(yE w j).mono ?_;rintro a8 w1 ⟨rfl,E,H⟩;have I:Xc (λk=>k=b\/False) w w1:=by rw[H];exact(iT _ w).setCell ⟨b,4,none⟩ _ (λ_=>.inl rfl)
 have p:=(I.block m (bE A) (λe=>by obtain e|e:=e;exact ag e;exact e)).trans A;have c6:=E.r 6;have aj:=run_range_map (P:=Vp) w1 171 _ _ m #[e] cl aI.underlying171 p;have a:(w1.alloc (.mapIter (some m) cl #[] cl)).heap[w1.heap.size]?=some (.mapIter (some m) cl #[] cl):=uV w1 _;have d:(w1.alloc (.mapIter (some m) cl #[] cl)).heap[m]?=some (.map #[e] cl):=by first|exact(heap_alloc_old w1 _ _ (bE p)).trans p|exact(heap_alloc_old w1 _ (bE p)).trans p
 have y:w1.heap.size=w.heap.size:=by rw[H];simp only[World.setCell,xI]
 have i:Row (w1.alloc (.mapIter (some m) cl #[] cl)) b 173 (qQ++[.map (some m)]):=E.alloc _;have n:Xc (λk=>k=b\/False) w (w1.alloc (.mapIter (some m) cl #[] cl)):=I.alloc _;clear H I E p;replace y:=aL y;go_wp2;generalize w1.alloc (.mapIter (some m) cl #[] cl)=W at a d i n|-;generalize ak:w1.heap.size=r at a y|-;clear ak aj c6;go_loopw [1] (λo wr=>(o=.slice none 0 0/\wr=W)\/(∃g cap,o=.slice (some ⟨g,0,none⟩) 1 cap/\wr.ownsRow w.heap.size 60 6 (.slice (some ⟨g,0,none⟩) 1 cap) 1 (qL (some c))/\wr.heap[r]?=some (.mapIter (some m) cl #[e.born] cl)/\wr.heap[m]?=some (.map #[e] cl)/\Row wr b 173 (qQ++[.map (some m)])/\Xc (λk=>k=b\/False) w wr)) (λo _=>agi o);exact .inl ⟨rfl,rfl⟩;case round=>
  obtain⟨rfl,rfl⟩|⟨g,cap,rfl,ab,π,aa,F,a6⟩:=hrel
  .have l:∃V,(Instr.next (.pointer (some ⟨r,0,none⟩)) false 0).run Vp wr=.ok (.tuple #[aD,e.key,e.val]) V/\V.heap[r]?=some (.mapIter (some m) cl #[e.born] cl)/\V.heap[m]?=some (.map #[e] cl)/\Row V b 173 (qQ++[.map (some m)])/\Xc (λk=>k=b\/False) w V:=by
    rcases run_next_at (P:=Vp) wr 0 r m cl cl #[] #[e] cl a d (by simpa using N) L9 with h|⟨L,C,T,R,ao⟩;.have:=h.1;simp[leftOf]at this
    .have af:L=e:=by simpa[leftOf]using C
     subst af;have D:T.heap=wr.heap:=by obtain h|h:=R<;>rw[h]<;>rfl
     have ah:m≠r:=by intro e;subst e;rw[a]at d;cases d
     have ae:b≠r:=by intro e;subst e;unfold Row at i;rw[a]at i;cases i
     have a4:Xc (λk=>k=b\/False) w T:=by obtain h|h:=R<;>rw[h];exact n;exact n.drew
     refine⟨_,ao,?_,?_,?_,a4.yF r _ (λe=>by have:=y.out;omega)⟩;.simp only[Go.ChangeMaps.setBlock,D];rw[Kc (bE a)];rfl
     .simp only[Go.ChangeMaps.setBlock,D];rw[lG (fY ah)];exact d
     .unfold Row;simp only[Go.ChangeMaps.setBlock,D];rw[lG (fY ae)];exact i
   have⟨V,l,q,s,G,J⟩:=l;have O:=run_entry_at (P:=Vp) V r m cl #[] #[e] cl e q s S8 S8;rw[ar]at l O;clear a d i n;unfold dD.v at l O;have x:Below V.heap.size V ((V.alloc (.cells #[c.tx,c.idx,c.val,c.lock,c.aY,aD] 60)).alloc (.cells #[c.tx,c.idx,c.val,c.lock,c.aY,aD] 60)):=(B0.alloc L9 _).alloc S8 _;have K:=aU (V.alloc (.cells #[c.tx,c.idx,c.val,c.lock,c.aY,aD] 60)) [c.tx,c.idx,c.val,c.lock,c.aY,aD] 60;rw[bL]at K;have μ:((V.alloc (.cells #[c.tx,c.idx,c.val,c.lock,c.aY,aD] 60)).alloc (.cells #[c.tx,c.idx,c.val,c.lock,c.aY,aD] 60)).ownsRow w.heap.size 60 6 (.slice none 0 0) 0 []:=nB _ _ _ _;have B1:=bI J.size x.size;have z:∀u∈[Value.string c.tx,c.idx,c.val,c.lock,c.aY,↑aD],u.oneCell'=true:=by intro u Q;simp only[iN,nO,oJ]at Q;obtain rfl|rfl|rfl|rfl|rfl|rfl:=Q<;>rfl
   replace z:=aL z;have fin:Hid (∀w3,((V.alloc (.cells #[c.tx,c.idx,c.val,c.lock,c.aY,aD] 60)).alloc (.cells #[c.tx,c.idx,c.val,c.lock,c.aY,aD] 60)).grownBy w3 (Value.slice none 0 0).ownBlock->w3.heap[r]?=some (.mapIter (some m) cl #[e.born] cl)/\w3.heap[m]?=some (.map #[e] cl)/\Row w3 b 173 (qQ++[.map (some m)])/\Xc (λk=>k=b\/False) w w3):=by intro w3 Y;have t:=x.grown Y x.size (λk e=>by cases e);exact⟨(t.block r (bE q)).trans q,(t.block m (bE s)).trans s,G.keep t G.lt,J.then t⟩
   clear x q s G J;go_wp2_with (refine zY rfl _ _ rfl (.slice none 0 0) 0 [] E9 μ (V.heap.size+1) 1 [c.tx,c.idx,c.val,c.lock,c.aY,aD] rfl E9 K z.out O9 B1 ?_;intro v2 w3 M X;obtain⟨ay,av,au⟩:=cP M 0 rfl;subst au);go_roundw;case rel=>have⟨az,a0,a2,a3⟩:=fin.out _ X;exact .inr ⟨ay,av,rfl,M,az,a0,a2,a3⟩
   case measure=>exact Nat.zero_lt_one
  .have l:(Instr.next (.pointer (some ⟨r,0,none⟩)) false 0).run Vp wr=.ok (.tuple #[aF]) wr:=by
    rcases run_next_at (P:=Vp) wr 0 r m cl cl #[e.born] #[e] cl π aa (by simpa using N) L9 with h|⟨L,C,_⟩;.exact h.2
    .simp[leftOf]at C
   clear a d i n;go_wp2;refine qu (f:=26) (args:=#[.pointer (some ⟨b,0,none⟩)]) S8 (by simp[go_sem]) ?_;refine(qR .returning _ F).mono ?_;rintro e a9 w4 ⟨rfl,rfl,ai,S⟩;have a5:Xc (λk=>k=b\/False) w w4:=by rw[S];exact a6.setCell _ _ (λ_=>.inl rfl)
   refine⟨_,Ky rfl _ _ _,_,rfl,?_,(Ig a5 j ai).low⟩;rw[S];refine dF ab (λk a7 _ _ B=>(bJ wr ⟨b,4,none⟩ _).block k (bE B) (λe=>?_));simp only[gW]at e;subst e;unfold Row at F;rw[F]at B;cases B
def acC(w):Cv 117 #[.int .u64 1] w λe w'=>e=.returned ↑aG/\w'=w:=by go_enter fA func117,ntmps117;go_wp2;go_ret;exact⟨K8,rfl⟩
def agk(w):Cv 85 #[.int .u64 1] w λe w'=>e=.returned ↑aG/\w'=w:=by go_enter fA func85,ntmps85;go_wp2_with (go_at_call 117;refine(acC _).mono ?_;rintro e w' ⟨rfl,rfl⟩);go_ret;exact⟨rfl,rfl⟩
def NK(v f w):Cv 108 #[v,aA,aG,f] w λe w'=>e=.returned (.tuple #[])/\w'=w:=by go_enter fA func108,ntmps108;go_wp2;go_loopw [8] (λi wr=>i=↑aG/\wr=w) (λ_ _=>0);exact⟨rfl,rfl⟩;case round=>go_wp2;go_end0;exact⟨rfl,rfl⟩
def agl(v f w):Cv 84 #[v,aA,aG,aG,f] w λe w'=>e=.returned (.tuple #[])/\w'=w:=by go_enter fA func84,ntmps84;go_wp2;go_loopw [1,2,3] (λa b l wr=>a=↑aA/\b=↑aG/\l=↑aG/\wr=w) (λ_ _ _ _=>0);exact⟨rfl,rfl,rfl,rfl⟩;case round=>obtain⟨rfl,rfl,rfl,rfl⟩:=hrel;go_wp2_with (go_at_call 108;refine(NK _ _ _).mono ?_;rintro e w' ⟨rfl,rfl⟩);exact nC (v:=.tuple #[]) (KB rfl _ _ _) rfl ⟨rfl,rfl⟩
def sort_1(a c f w):Cv 54 #[.slice a 1 c,f] w λe w'=>e=.returned (.tuple #[])/\w'=w:=by go_enter fA func54,ntmps54;go_wp2_with (first|(go_at_call 85;refine(agk _).mono ?_;rintro e w' ⟨rfl,rfl⟩)|(go_at_call 84;refine(agl _ _ _).mono ?_;rintro e w' ⟨rfl,rfl⟩));go_end0;exact⟨rfl,rfl⟩
def acD{gs n sb mb}(c w)(h:aQ w gs n sb mb (jO.put (λ_=>none) c)):Cv 28 #[.agg #[.slice gs n n]] w λe w'=>∃v,e=.returned v/\w'.ownsRow w 60 6 v 1 (qL (some c))/\Below w w w':=by
 have B:Below w w (w.alloc (.cells #[.slice gs n n] 102)):=B0.alloc L9 _;have D:=w9 n c.pt h.lo;obtain⟨m,f⟩:∃m,rC n c.pt=m:=⟨_,rfl⟩;rw[f]at D;have K:=h.hi;go_enter fA func28,ntmps28;go_wp2;go_loopw [3,9] (λl i wr=>∃k,k<=n/\i=k/\Below w w wr/\((k<=m/\l=())\/(m<k/\∃g cap,l=.slice (some ⟨g,0,none⟩) 1 cap/\wr.ownsRow w 60 6 (.slice (some ⟨g,0,none⟩) 1 cap) 1 (qL (some c))))) (λ_ i _=>n -(intOf i).toNat);exact⟨0,fJ _,rfl,B,.inl ⟨fJ _,rfl⟩⟩;case round=>
  obtain⟨k,H,rfl,a,u⟩:=hrel;by_cases q:k<n
  .have I:(0:Int)<=(k:Int):=O9;have J:(k:Int)<(n:Int):=O9;have o:=h.keep a;have L:wr.cell? (gs,k)=some (.pointer (sb k,0)):=by rw[o.arr.cell];simp[q,ptr]
   have t:=o.sh k q;have s:=o.mp k q;obtain⟨p,rfl⟩|⟨p,g,cap,rfl,b⟩:=u
   .by_cases e:k=m;.subst e;have⟨me,cl,x,y,z⟩:=s.one f;replace f:=aL f;have A:=aL (JW c wr t x y z);unfold ptr at A;clear x y z;go_wp2;refine A.out.mono ?_;rintro e w1 ⟨v,rfl,b,d⟩;have⟨G,F,E⟩:=cP b 0 rfl;subst E;go_wp2;go_roundw;exact⟨k+1,O9,by go_num,a.trans (d.mono a.size),.inr ⟨O9,G,F,rfl,om b a.size⟩⟩;simp[intOf];omega
    .have⟨cl,r⟩:=s.none_ (by rw[f];omega);have j:=aL (yf none 0 0 wr t r);unfold ptr at j;go_wp2;refine j.out.m1 λw1 d=>?_;go_wp2;go_roundw;exact⟨k+1,O9,by go_num,a.trans (d.mono a.size),.inl ⟨O9,rfl⟩⟩;simp[intOf];omega
   .have⟨cl,r⟩:=s.none_ (by rw[f];omega);have j:=aL (yf g 1 cap wr t r);unfold ptr at j;go_wp2;refine j.out.m1 λw1 d=>?_;go_wp2;go_roundw;exact⟨k+1,O9,by go_num,a.trans (d.mono a.size),.inr ⟨O9,g,cap,rfl,aX b d⟩⟩;simp[intOf];omega
  .have C:k=n:=O9;subst C;obtain⟨p,_⟩|⟨_,g,cap,rfl,b⟩:=u;.exact absurd p O9
   .go_wp2;refine(sort_1 _ _ _ _).m0 ?_;go_wp2;go_ret;exact⟨_,rfl,b,a⟩
def UU{nb c a}(d w)(h:uw w nb c a)(z:a.K=jO.put (λ_=>none) d):Cv 11 #[ptr nb] w λe w'=>∃v,e=.returned v/\w'.ownsRow w 60 6 v 1 (qL (some d))/\Below w w w':=by
 obtain⟨s,j⟩:=h;have u:=j.row;have L:=u.lt;unfold ptr;go_enter_defers fA func11,ntmps11;go_wp2;refine(yE w j.row).mono ?_;rintro e w2 ⟨rfl,r,o⟩;obtain⟨l,y⟩:=j.rlock r o;have E:Xc (λk=>k=nb\/False) w w2:=y.mono (λk e=>.inl e);have g:(w2:Nat)=(w:Nat):=by rw[o];simp
 have J:w2.cell? (nb,13)=some (.slice s.gs s.n s.n):=by rw[l.nd.mem.row.cell];rfl
 have p:=l.aV;rw[z]at p;have i:=acD d w2 p;rw[g]at i;replace i:=aL i;replace g:=aL g;clear o y r;go_wp2;refine i.out.mono ?_;rintro e w3 ⟨v,rfl,q,b⟩;have t:=l.row.keep (b.mono (nL g.out)) (by have:=g.out;omega);obtain⟨I,H,B⟩:=cP q 0 rfl;subst B;have C:=E.trans (S':=λ_=>False) ⟨b.os,b.tape,b.output,b.size,λk G _=>b.block k (by have:=g.out;omega)⟩ (λ_ _ e=>e.elim);go_wp2;refine qu (f:=26) (args:=#[.pointer nb]) S8 (by simp[go_sem]) ?_;refine(qR .returning _ t).mono ?_;rintro e M w4 ⟨rfl,rfl,A,x⟩;have D:Xc (λk=>k=nb\/False) w w4:=by rw[x];exact C.setCell _ _ (λ_=>.inl rfl)
 refine⟨_,Ky rfl _ _ _,_,rfl,?_,(Ig D u A).low⟩;rw[x];refine dF q (λk F _ _ m=>(bJ w3 (nb,4) _).block k (bE m) (λe=>?_));simp only[gW]at e;subst e;rw[t]at m;cases m
end Go.Proofs.aH
