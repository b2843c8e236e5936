import Derived.Laws.IdiomRangeMap
import Derived.Lib.Bytealg
import Derived.Lib.Small
import Derived.Sort.Grow
import Derived.Sort.Statements
import Derived.Shelf.SlSortCmp.Insertion
import Derived.Shelf.GgSortFunc.InsertionK
import Derived.Shelf.SlSortCmp.WholeK
import Derived.Test.YtpjcmpfncpnmeabGreatM13
set_option linter.all false
set_option maxHeartbeats 16000000
set_option maxRecDepth 100000
namespace Go.Proofs.aH
open Go.RowKit
open Go.Bj (iR xA)
attribute [local go_sem↓] Go.wp_at_zero Go.wp_at_succ
def dN(l:List dD):List Value:=l.flatMap λc=>qL (some c)
def FH(l):(dN l).length=l.length*6:=by induction l with
 |nil=>rfl
 |cons c l a=>unfold dN at*;rw[List.flatMap_cons,List.length_append,a];simp[qL];omega
def MB(l c):dN (l++[c])=dN l++qL (some c):=by simp[dN]
def MC:Value->dD
 |.agg cs=>match cs.toList with
   |[.string t,.int _ i,.int _ v,.string l,.int _ h,_]=>⟨t,i,v,l,h⟩
   |_=>⟨⟨#[]⟩,0,0,⟨#[]⟩,0⟩
 |_=>⟨⟨#[]⟩,0,0,⟨#[]⟩,0⟩
def Y5(c):MC c.v=c:=rfl
def afZ:Value->Nat
 |.slice _ n _=>n
 |_=>0
def Ie:∀(l:List MapEntry),(l.map (·.born)).Nodup->∀e∈l,l.Perm (e::l.filter λx=>x.born !=e.born)
 |[],_,_,h=>by cases h
 |x::l,a,e,h=>by
   simp only[kV,Kw]at a;obtain rfl|h:=iN.1 h;.rw[D7 S8,Wj.2 (λy d=>by have:y.born≠e.born:=λb=>a.1 (b▸xK (f:=(·.born)) d);simpa using this)]
   .have c:x.born≠e.born:=λb=>a.1 (b▸xK (f:=(·.born)) h);rw[G7 (by simpa using c)];exact((Ie l a.2 e h).cons x).trans (List.Perm.swap _ _ _)
def Us{es seen e}(c:(es.toList.map (·.born)).Nodup)(b:e∈(leftOf es seen).toList):(leftOf es seen).toList.Perm (e::(leftOf es (seen.push e.born)).toList):=by
 have a:((leftOf es seen).toList.map (·.born)).Nodup:=by unfold leftOf;rw[Wk];exact List.Nodup.sublist (List.Sublist.map _ QL) c
 have h2:(leftOf es (seen.push e.born)).toList=(leftOf es seen).toList.filter λx=>x.born !=e.born:=by unfold leftOf;rw[Wk,Wk,List.filter_filter];congr 1;funext x;simp[Array.contains_push];cases d:(x.born==e.born)<;>simp_all
 rw[h2];exact Ie _ a e b
def JB{b m B k cs v}(C w)(t:Row w b 173 (uz m))(h2:iR abP w m (C.map qP))(j:w.ownsRow B 60 6 v k cs)(bz:b<B)(b0:m<B)(a8:B<=w)(hl:k+C.length<=100000):Cv 53 #[ptr b,v] w λe w'=>∃ay D,D.Perm C/\e=.returned ay/\w'.ownsRow B 60 6 ay (k+C.length) (cs++dN D)/\Xc (λq=>B<=q) w w':=by
 obtain⟨es,cl,h2,ak,-,μ⟩:=h2;obtain⟨sa,sc,rfl⟩:=bG j;have bc:es.toList.map (λe=>MC e.val)=C:=by have:=congrArg (List.map λx:Value×Value=>MC x.2) ak;rw[pD,pD]at this;simpa[QP,qP,Y5]using this
 have bq:Hid (∀e∈es.toList,e.val=(MC e.val).v):=λe G=>by have:(e.key,e.val)∈C.map qP:=ak▸iF.2 ⟨e,G,rfl⟩;have⟨c,_,H⟩:=iF.1 this;have:c.v=e.val:=congrArg Prod.snd H;rw[<-this,Y5]
 have bg:m≠b:=by intro e;subst e;unfold Row at t;rw[h2]at t;cases t
 unfold ptr;go_enter_defers fA Tryz.func53,Tryz.ntmps53;go_wp2;refine(yE w t).mono ?_;rintro bx w1 ⟨rfl,S,L⟩;have π:Xc (λq=>q=b\/B<=q) w w1:=by rw[L];exact(iT _ w).setCell ⟨b,4,none⟩ _ (λ_=>.inl rfl)
 have y:=(π.block m (bE h2) (λe=>by obtain e|e:=e;exact bg e;omega)).trans h2;have c6:=S.r 6;have bm:=run_range_map (P:=Vp) w1 171 _ _ m es cl aI.underlying171 y;have d:(w1.alloc (.mapIter (some m) cl #[] cl)).heap[w1.heap.size]?=some (.mapIter (some m) cl #[] cl):=uV w1 _;have i:(w1.alloc (.mapIter (some m) cl #[] cl)).heap[m]?=some (.map es cl):=by first|exact(heap_alloc_old w1 _ _ (bE y)).trans y|exact(heap_alloc_old w1 _ (bE y)).trans y
 have K:w1.heap.size=w.heap.size:=by rw[L];simp only[World.setCell,xI]
 have g:Row (w1.alloc (.mapIter (some m) cl #[] cl)) b 173 (qQ++[.map (some m)]):=S.alloc _;have p:Xc (λq=>q=b\/B<=q) w (w1.alloc (.mapIter (some m) cl #[] cl)):=π.alloc _;have O:(w1.alloc (.mapIter (some m) cl #[] cl)).ownsRow B 60 6 (.slice sa k sc) k cs:=pC (by rw[L];exact bO j t D9) _;clear L π S y j;replace K:=aL K;go_wp2;generalize w1.alloc (.mapIter (some m) cl #[] cl)=W at d i g p O|-;generalize bo:w1.heap.size=r at d K|-;clear bo bm c6;go_loopw [1] (λo wr=>∃(D:List dD) (seen:Array Nat),(D++(leftOf es seen).toList.map λe=>MC e.val).Perm C/\wr.ownsRow B 60 6 o (k+D.length) (cs++dN D)/\wr.heap[r]?=some (.mapIter (some m) cl seen cl)/\wr.heap[m]?=some (.map es cl)/\Row wr b 173 (qQ++[.map (some m)])/\Xc (λq=>q=b\/B<=q) w wr) (λo _=>k+C.length -afZ o);case atStart=>
  refine⟨[],#[],?_,by simpa[dN]using O,d,i,g,p⟩;have:leftOf es #[]=es:=by unfold leftOf;simp
  rw[this,vI,bc]
 case round=>
  clear O d i g p;have⟨D,seen,J,j,d,i,g,p⟩:=hrel;obtain⟨A,oc,rfl⟩:=bG j;rcases run_next_at (P:=Vp) wr 0 r m cl cl seen es cl d i μ.1 L9 with⟨br,b4⟩|⟨e,G,n,Y,T⟩
  .have ae:D.Perm C:=by
    have:(leftOf es seen).toList=[]:=by rw[Array.eq_empty_of_size_eq_zero br]
    rw[this]at J;simpa using J
   have bd:=ae.length_eq;go_wp2;refine qu (f:=26) (args:=#[.pointer (some ⟨b,0,none⟩)]) S8 (by simp[go_sem]) ?_;refine(qR .returning _ g).mono ?_;rintro e b8 w4 ⟨rfl,rfl,bk,av⟩;have bu:Xc (λq=>q=b\/B<=q) w w4:=by rw[av];exact p.setCell _ _ (λ_=>.inl rfl)
   refine⟨_,Ky rfl _ _ _,_,D,ae,rfl,?_,Ig bu t bk⟩;rw[av,<-bd];exact bO j g D9
  .have ar:=Us μ.2.1 G;have R:=(mem_left G).1;have X:=bq.out e R;generalize H:MC e.val=c at X;have ao:((D++[c])++(leftOf es (seen.push e.born)).toList.map λe=>MC e.val).Perm C:=by refine List.Perm.trans ?_ J;rw[iG];refine List.Perm.append_left D ?_;have:=(ar.map λe=>MC e.val).symm;rw[kV,H]at this;exact this
   have hlen:k+D.length<k+C.length:=by have:=ao.length_eq;simp at this;omega
   have hh:n.heap=wr.heap:=by obtain h|h:=Y<;>rw[h]<;>rfl
   have bh:m≠r:=by intro e;subst e;rw[d]at i;cases i
   have bf:b≠r:=by intro e;subst e;unfold Row at g;rw[d]at g;cases g
   have bb:B<=r:=by have:=K.out;omega
   have az:Xc (λq=>q=b\/B<=q) w n:=by obtain h|h:=Y<;>rw[h];exact p;exact p.drew
   have af:=dF j (λq _ _ _ _=>by rw[hh]);have l:(Go.ChangeMaps.setBlock n r (.mapIter (some m) cl (seen.push e.born) cl)).heap[r]?=some (.mapIter (some m) cl (seen.push e.born) cl):=by simp only[Go.ChangeMaps.setBlock,hh];rw[Kc (bE d)]
   have s:(Go.ChangeMaps.setBlock n r (.mapIter (some m) cl (seen.push e.born) cl)).heap[m]?=some (.map es cl):=by simp only[Go.ChangeMaps.setBlock,hh];rw[lG (fY bh)];exact i
   have E:Row (Go.ChangeMaps.setBlock n r (.mapIter (some m) cl (seen.push e.born) cl)) b 173 (qQ++[.map (some m)]):=by unfold Row;simp only[Go.ChangeMaps.setBlock,hh];rw[lG (fY bf)];exact g
   have F:=az.yF r (.mapIter (some m) cl (seen.push e.born) cl) (λ_=>.inr bb);have M:(Go.ChangeMaps.setBlock n r (.mapIter (some m) cl (seen.push e.born) cl)).ownsRow B 60 6 (.slice A (k+D.length) oc) (k+D.length) (cs++dN D):=dF af (λq cs' _ _ ah=>by simp only[Go.ChangeMaps.setBlock];rw[lG];intro a;subst a;rw[hh,d]at ah;cases ah)
   generalize Go.ChangeMaps.setBlock n r (.mapIter (some m) cl (seen.push e.born) cl)=V at T l s E F M;have aj:=run_entry_at (P:=Vp) V r m cl seen es cl e l s R μ.2.1;rw[X]at T aj;clear d i g p j az af X H G R Y hh ar J;unfold dD.v at T aj;have z:Below V.heap.size V ((V.alloc (.cells #[↑c.tx,↑c.idx,↑c.val,↑c.lock,↑c.aY,aD] 60)).alloc (.cells #[↑c.tx,↑c.idx,↑c.val,↑c.lock,↑c.aY,aD] 60)):=(B0.alloc L9 _).alloc S8 _;have aa:=aU (V.alloc (.cells #[↑c.tx,↑c.idx,↑c.val,↑c.lock,↑c.aY,aD] 60)) [↑c.tx,↑c.idx,↑c.val,↑c.lock,↑c.aY,aD] 60;rw[bL]at aa;have a6:=aX M z;have B1:=bI a8 (bI F.size z.size);have N:∀u∈[Value.string c.tx,↑c.idx,↑c.val,↑c.lock,↑c.aY,↑aD],u.oneCell'=true:=by intro u au;simp only[iN,nO,oJ]at au;obtain rfl|rfl|rfl|rfl|rfl|rfl:=au<;>rfl
   replace N:=aL N;have fin:Hid (∀w3,((V.alloc (.cells #[↑c.tx,↑c.idx,↑c.val,↑c.lock,↑c.aY,aD] 60)).alloc (.cells #[↑c.tx,↑c.idx,↑c.val,↑c.lock,↑c.aY,aD] 60)).grownBy w3 (Value.slice A (k+D.length) oc).ownBlock->w3.heap[r]?=some (.mapIter (some m) cl (seen.push e.born) cl)/\w3.heap[m]?=some (.map es cl)/\Row w3 b 173 (qQ++[.map (some m)])/\Xc (λq=>q=b\/B<=q) w w3):=by
    intro w3 ab;have I:∀q,(Value.slice A (k+D.length) oc).ownBlock=some q->B<=q/\q≠r:=λq hq=>by have⟨ba,cs',ai⟩:=bV M hq;refine⟨ba,λa=>?_⟩;subst a;rw[l]at ai;cases ai
    have Q:∀q,q<V.heap.size->(Value.slice A (k+D.length) oc).ownBlock≠some q->w3.heap[q]?=V.heap[q]?:=λq hq bj=>(ab.block q (dV hq z.size) (λa=>bj a.symm)).trans (z.block q hq);refine⟨(Q r (bE l) (λa=>(I r a).2 rfl)).trans l,(Q m (bE s) (λa=>by have:=(I m a).1;omega)).trans s,?_,(F.then z).grown ab (λq a _=>.inr (I q a).1)⟩;exact(Q b E.lt (λa=>by have:=(I b a).1;omega)).trans E
   clear z l s E F M;go_wp2_with (refine zY rfl _ _ rfl (.slice A (k+D.length) oc) (k+D.length) (cs++dN D) E9 a6 (V.heap.size+1) 1 [↑c.tx,↑c.idx,↑c.val,↑c.lock,↑c.aY,aD] rfl E9 aa N.out O9 B1 ?_;intro v2 w3 ag a7;obtain⟨b7,b6,bp⟩:=cP ag (k+D.length) rfl;subst bp);go_roundw;case rel=>have⟨l,s,E,F⟩:=fin.out _ a7;refine⟨D++[c],seen.push e.born,ao,?_,l,s,E,F⟩;rw[MB,<-iG,bY];exact ag
   case measure=>simp only[afZ];omega
open Go.Sort Tryz
def Y6(x w):Cv 87 #[.int .i64 x] w λe w'=>e=.returned ↑aF/\w'=w:=by go_enter fA func87,ntmps87;go_wp2;go_ret;exact⟨rfl,rfl⟩
def PE(x y w):Cv 58 #[.int .i64 x,.int .i64 y] w λe w'=>e=.returned (Lib.compareInt x y)/\w'=w:=by go_enter fA func58,ntmps58;go_wp2_with (go_at_call 87;refine(Y6 _ _).mono ?_;rintro e w' ⟨rfl,a⟩;rw[a]);all_goals(go_ret;refine⟨?_,rfl⟩;unfold Lib.compareInt;(repeat' split)<;>first|rfl|(exfalso;omega))
def JC(a b w):Cv 86 #[.string a,.string b] w λe w'=>e=.returned (Lib.compareBytes a.data.toList b.data.toList)/\w'=w:=by go_enter fA func86,ntmps86;go_wp2;rw[run_callFunc_extern (fA func118) K8 K8 K8 (e:=Extern.BytealgCompare.compare) K8,Lib.run_compareString];go_wp2;go_ret;exact⟨rfl,rfl⟩
def PF(a b w):Cv 57 #[.string a,.string b] w λe w'=>e=.returned (Lib.compareBytes a.data.toList b.data.toList)/\w'=w:=by go_enter fA func57,ntmps57;go_wp2_with (go_at_call 86;refine(JC _ _ _).mono ?_;rintro e w' ⟨rfl,rfl⟩);go_ret;exact⟨rfl,rfl⟩
def aeF{g}(p q w)(h:Row w g 3 [.int .i64 p,.int .i64 q]):Cv 56 #[.slice g 2 2] w λe w'=>e=.returned ↑(if p≠0 then p else q)/\w'=w:=by
 have c0:=h.r 0;have c1:=h.r 1;generalize hr:(if p≠0 then p else q)=r;have r0:p≠0->r=p:=λh=>by rw[<-hr,bD h]
 have r1:p=0->r=q:=λh=>by rw[<-hr,aT (by simpa using h)]
 clear hr h;go_enter fA func56,ntmps56;go_wp2;go_loopw [8] (λi wr=>∃k:Nat,k<=2/\i=↑k/\wr=w/\(0<k->p=0)/\(1<k->q=0)) (λi _=>2 -(intOf i).toNat);exact⟨0,O9,rfl,rfl,O9,O9⟩;case round=>
  obtain⟨k,d,rfl,rfl,h0,h1⟩:=hrel;have c:k=0\/k=1\/k=2:=O9;obtain rfl|rfl|rfl:=c
  .by_cases a:p=0
   .go_wp2;go_roundw;case rel=>refine⟨1,O9,by go_num,?_⟩;simp[a]
    case measure=>simp[intOf]
   .have:=r0 a;subst this;clear r0 r1;go_wp2;go_ret;exact⟨rfl,rfl⟩
  .by_cases hq:q=0
   .go_wp2;go_roundw;case rel=>refine⟨2,O9,by go_num,?_⟩;simp[hq,h0]
    case measure=>simp[intOf]
   .have:=r1 (h0 O9);subst this;clear r0 r1 h0;go_wp2;go_ret;exact⟨rfl,rfl⟩
  .have b:=r1 (h0 O9);have e2:=h1 O9;subst b;subst e2;clear r0 r1 h0 h1;go_wp2;go_ret;exact⟨rfl,rfl⟩
def Ut(x y:dD):Int:=if Lib.compareBytes x.tx.data.toList y.tx.data.toList≠0 then Lib.compareBytes x.tx.data.toList y.tx.data.toList else Lib.compareInt x.idx y.idx
def MD(x y W):Cv 55 #[x.v,y.v] W λe w'=>e=.returned (Ut x y)/\∃q w,w'=grow (W.drewN q) w:=by
 have⟨tx,ix,i,g,d⟩:=x;have⟨ty,a,j,h,f⟩:=y;unfold Ut;simp only[dD.v];have c:=(aU W [tx,ix,i,g,d,aD] 60).alloc (.cells #[ty,a,j,h,f,aD] 60);have b:=aU (W.alloc (.cells #[tx,ix,i,g,d,aD] 60)) [ty,a,j,h,f,aD] 60;rw[bL]at b;have o:Hid (∃os,(W.alloc (.cells #[tx,ix,i,g,d,aD] 60)).alloc (.cells #[ty,a,j,h,f,aD] 60)=grow W os):=⟨_,by rw[alloc_eq_grow,alloc_eq_grow,grow_grow]⟩;have n:Hid (∀w',Cv 57 #[tx,ty] w' λe l=>e=.returned ↑(Lib.compareBytes tx.data.toList ty.data.toList)/\l=w'):=λw'=>PF tx ty w';have m:Hid (∀w',Cv 58 #[ix,a] w' λe l=>e=.returned ↑(Lib.compareInt ix a)/\l=w'):=λw'=>PE ix a w';generalize Lib.compareBytes tx.data.toList ty.data.toList=p at n|-;generalize Lib.compareInt ix a=r at m|-;have k:∀V:World,Cv 56 #[.slice V.heap.size 2 2] (V.drew.alloc (.cells #[p,r] 3)) λe w'=>e=.returned ↑(if p≠0 then p else r)/\w'=V.drew.alloc (.cells #[p,r] 3):=λV=>aeF p r _ (aU V.drew [p,r] 3);generalize(if p≠0 then p else r)=z at k|-;go_enter fA Tryz.func55,Tryz.ntmps55;go_wp2;generalize(W.alloc (.cells #[tx,ix,i,g,d,aD] 60)).alloc (.cells #[ty,a,j,h,f,aD] 60)=V at c b o|-;have c0:=c.r 0;have c1:=c.r 1;have s:=b.r 0;have t:=b.r 1;have u:=aL (k V);clear c b k;go_region_held3 (λw'=>w'.cell? ((W:Nat),0)=some ↑tx/\w'.cell? ((W:Nat),1)=some ↑ix/\w'.cell? ((W:Nat)+1,0)=some ↑ty/\w'.cell? ((W:Nat)+1,1)=some ↑a) (first|exact⟨c0,c1,s,t⟩|go_keep) (first
    |(go_at_call 57;refine(n.out _).mono ?_;rintro e w' ⟨rfl,rfl⟩)
    |(go_at_call 58;refine(m.out _).mono ?_;rintro e w' ⟨rfl,rfl⟩)
    |(go_at_call 56;refine u.out.mono ?_;rintro e w' ⟨rfl,rfl⟩))
 all_goals go_wp2
 all_goals go_ret
 all_goals obtain⟨os,rfl⟩:=o.out;exact⟨rfl,1,os++#[.cells #[p,r] 3],by rw[alloc_eq_grow,grow_grow];rfl⟩
def z6:∀a b,Lib.compareBytes a b=0↔a=b
 |[],[]=>by simp[Lib.compareBytes]
 |[],_::_=>by simp[Lib.compareBytes]
 |_::_,[]=>by simp[Lib.compareBytes]
 |a::f,b::g=>by
   unfold Lib.compareBytes;have d:=z6 f g;split
   .rename_i h;have:a≠b:=λe=>by subst e;exact UInt8.lt_irrefl _ h
    simp[this]
   .split
    .rename_i h;have:a≠b:=λe=>by subst e;exact UInt8.lt_irrefl _ h
     simp[this]
    .rename_i c h2;have:a=b:=by apply UInt8.toNat_inj.1;rw[Wm]at c h2;omega
     simp[this,d]
def Y8:∀a b,Lib.compareBytes b a=-Lib.compareBytes a b
 |[],[]=>by simp[Lib.compareBytes]
 |[],_::_=>by simp[Lib.compareBytes]
 |_::_,[]=>by simp[Lib.compareBytes]
 |a::e,b::f=>by
   unfold Lib.compareBytes;have d:=Y8 e f;by_cases c:a<b
   .have h2:¬b<a:=by rw[Wm]at c|-;omega
    simp[c,h2]
   .by_cases h2:b<a;.simp[c,h2]
    .simp[c,h2,d]
def MJ:∀a b c,Lib.compareBytes a b<0->Lib.compareBytes b c<0->Lib.compareBytes a c<0
 |[],b,[],d,h2=>by cases b<;>simp[Lib.compareBytes]at d h2
 |[],b,_::_,_,_=>by simp[Lib.compareBytes]
 |_::_,[],c,d,_=>by simp[Lib.compareBytes]at d
 |_::_,_::_,[],_,h2=>by simp[Lib.compareBytes]at h2
 |a::f,b::g,c::h,d,h2=>by
   unfold Lib.compareBytes at*;simp only[Wm]at*;have e:=MJ f g h;split at d
   .split at h2;.rw[bD O9];omega
    .split at h2;.omega
     .rw[bD O9];omega
   .split at d;.omega
    .split at h2;.rw[bD O9];omega
     .split at h2;.omega
      .rw[aT O9,aT O9];exact e d h2
def xB(p q:Pt):Int:=if Lib.compareBytes p.1.data.toList q.1.data.toList≠0 then Lib.compareBytes p.1.data.toList q.1.data.toList else Lib.compareInt p.2 q.2
def abQ(x y):Lib.compareInt x y=0↔x=y:=by unfold Lib.compareInt;(repeat' split)<;>omega
def aeG(x y):Lib.compareInt y x=-Lib.compareInt x y:=by unfold Lib.compareInt;(repeat' split)<;>omega
def af0(x y):Lib.compareInt x y<0↔x<y:=by unfold Lib.compareInt;(repeat' split)<;>omega
def Bl(p q):xB p q=0↔p=q:=by
 unfold xB;by_cases h:Lib.compareBytes p.1.data.toList q.1.data.toList=0
 .rw[aT (by simpa using h),abQ];have:=(z6 _ _).1 h;constructor
  .intro e;exact Ki (by
    have a:p.1.data=q.1.data:=by apply Array.ext';exact this
    cases b:p.1;cases hq:q.1;rw[b,hq]at a;simp at a;rw[a]) e
  .intro e;rw[e]
 .rw[bD h];constructor;.intro e;exact absurd e h
  .intro e;exact absurd ((z6 _ _).2 (by rw[e])) h
def FI(p q):xB q p=-xB p q:=by
 unfold xB;rw[Y8 p.1.data.toList q.1.data.toList,aeG p.2 q.2];by_cases h:Lib.compareBytes p.1.data.toList q.1.data.toList=0;.simp[h]
 .rw[bD h,bD O9]
def FJ{p q r}(b:xB p q<0)(h2:xB q r<0):xB p r<0:=by
 unfold xB at*;by_cases a:Lib.compareBytes p.1.data.toList q.1.data.toList=0
 .rw[aT (by simpa using a)]at b;have:=(z6 _ _).1 a;rw[this];by_cases e2:Lib.compareBytes q.1.data.toList r.1.data.toList=0;.rw[aT (by simpa using e2)]at h2;rw[aT (by simpa using e2)];rw[af0]at*;omega
  .rw[bD e2]at h2|-;exact h2
 .rw[bD a]at b;by_cases e2:Lib.compareBytes q.1.data.toList r.1.data.toList=0;.have:=(z6 _ _).1 e2;rw[<-this,bD a];exact b
  .rw[bD e2]at h2;have:=MJ _ _ _ b h2;rw[bD O9];exact this
def ltC(x y):ltOf Ut x y=true↔xB x.pt y.pt<0:=decide_eq_true_iff
def PG(x y):ltOf Ut x y=false↔¬xB x.pt y.pt<0:=Wh
def agU:SWO (ltOf Ut) where
 irrefl x:=by rw[PG,(Bl _ _).2 rfl];omega
 trans x y z h1 h2:=by rw[ltC]at*;exact FJ h1 h2
 ntrans x y z h1 h2:=by
  rw[PG]at*;intro h;rcases Int.lt_trichotomy (xB y.pt z.pt) 0 with h3|h3|h3;.exact h2 h3
  .rw[(Bl _ _).1 h3]at h1;exact h1 h
  .have:xB z.pt y.pt<0:=by rw[FI];omega
   exact h1 (FJ h this)
instance:Inhabited dD:=⟨⟨⟨#[]⟩,0,0,⟨#[]⟩,0⟩⟩
def sF(c:dD):List Value:=qL (some c)
def wu(c):(sF c).length=6:=rfl
def uC:∀l t,t<l.length*6->(dN l)[t]?=some ((sF l[t/6]!)[t%6]!)
 |[],t,h=>by simp at h
 |c::l,t,h=>by
   have e:dN (c::l)=sF c++dN l:=by simp[dN,sF]
   rw[e];by_cases a:t<6
   .rw[nz (by rw[wu];exact a),Nat.div_eq_of_lt a,Ke a];have:t<(sF c).length:=by rw[wu];exact a
    simp[this]
   .rw[eK (by rw[wu];omega),wu,uC l (t -6) (by simp at h;omega)];have b:t/6=(t -6)/6+1:=O9;have e2:t%6=(t -6)%6:=O9;rw[b,e2];rfl
def abR(d):(flatK sF 6 d).toList=dN d.toList:=by
 apply kJ;intro t;by_cases a:t<d.size*6
 .rw[uC d.toList t (by simpa using a)];have:=get_flatK sF 6 d t a;rw[Kz,nN (by simpa using a)];rw[Wn _ t (by simpa using a)]at this;rw[this];have e:d.toList[t/6]! =d[t/6]!:=by simp[Wo,adi,G1]
  rw[e]
 .rw[pE (by simp;omega),pE (by rw[FH];simp;omega)]
def Uw{B g cap w E}(h:w.ownsRow B 60 6 (.slice g E.length cap) E.length (dN E)):HoldsK sF 6 w g 0 E.toArray:=by
 intro j b;rw[size_flatK]at b;have d:(flatK sF 6 E.toArray)[j]! =(sF E[j/6]!)[j%6]!:=by rw[get_flatK _ _ _ _ b];congr 2;simp[Wo,adi,G1]
 have e:=uC E j (by simpa using b);have c:=h.cells (g:=g) rfl j _ e;rw[add0]at c;rw[iO,d];refine⟨c,?_⟩;obtain⟨a,_⟩|⟨g',i,cur,a,_,f,_⟩:=h.2;.cases a
 .simp only[Wp,gW,QJ]at a;obtain⟨⟨rfl,_⟩,_⟩:=a;simp[World.frozen?,f]
def Ih{g n k w d os}(a:k<↑w):(sortWorldK sF 6 w g 0 n d os).heap[k]?=if g=k then(w.heap[k]?).map (onCells (putCells id 0 (flatK sF 6 d)))else w.heap[k]?:=by show((w.heap.modify g (onCells (putCells id 0 (flatK sF 6 d))))++os)[k]?=_;rw[VY (by simpa using a),Ko]
def abS{g n w d os}:Xc (λk=>k=g) w (sortWorldK sF 6 w g 0 n d os):=by
 refine⟨rfl,rfl,rfl,?_,λk a b=>?_⟩;.show _<=((w.heap.modify g (onCells (putCells id 0 (flatK sF 6 d))))++os).size;simp
 .rw[Ih a,aT (λe=>b e.symm)]
def PH{B g cap n w E d os}(h:w.ownsRow B 60 6 (.slice g E.length cap) E.length (dN E))(a:d.size=E.length):(sortWorldK sF 6 w g 0 n d os).ownsRow B 60 6 (.slice g E.length cap) E.length (dN d.toList):=by
 refine⟨by rw[FH];simp[a],.inr ?_⟩;obtain⟨c,_⟩|⟨g',o,cur,c,k,i,e,h2,f,p⟩:=h.2;.cases c
 .simp only[Wp,gW,QJ]at c;obtain⟨⟨rfl,_⟩,_,rfl⟩:=c;have m:=(eA.1 i).1;refine⟨g,cap,putCells id 0 (flatK sF 6 d) cur,rfl,k,?_,e,h2,by simp[putCells,f],?_⟩;.rw[Ih m,bD rfl,i];rfl
  .rw[<-abR];apply kJ;intro j;by_cases b:j<E.length*6
   .have l:j<cur.size:=by rw[f];exact dV b (Wq 6 e)
    have q:j<(flatK sF 6 d).size:=by rw[size_flatK,a];exact b
    rw[adj b,Kz,Kz];simp[putCells,l,a,b]
   .rw[pE (by simp;omega),pE (by simp[a];omega)]
end Go.Proofs.aH
namespace Go.Proofs
open Go.Shelf
def aI.zZ:Go.Shelf.Ren:=⟨fun|6=>54|15=>85|14=>84|28=>116|29=>117|20=>108|21=>109|22=>110|23=>111|24=>112|25=>113|26=>114|27=>115|46=>136|47=>137|48=>138|49=>139|50=>140|57=>157|n=>n,fun|22=>41|24=>60|25=>150|3=>3|39=>185|0=>0|53=>88|55=>66|4=>4|46=>211|45=>210|50=>215|5=>5|9=>9|66=>235|70=>239|76=>253|77=>230|n=>n,λn=>n⟩
def S7{p:Prop}(h:p:=by simp[aI.zZ]):p:=h
def aI.Y7:SlLaysF0.n6 Vp aI.zZ where
 mixed:=by kernel_rfl
 f6:=⟨Tryz.f54.name,by decide,fA (Tryz.func54.trans (congrArg some (by kernel_rfl)))⟩;f14:=⟨Tryz.f84.name,by decide,fA (Tryz.func84.trans (congrArg some (by kernel_rfl)))⟩;f15:=fA (Tryz.func85.trans (congrArg some (by kernel_rfl)));f20:=⟨Tryz.f108.name,by decide,fA (Tryz.func108.trans (congrArg some (by kernel_rfl)))⟩;f21:=⟨Tryz.f109.name,by decide,fA (Tryz.func109.trans (congrArg some (by kernel_rfl)))⟩;f22:=⟨Tryz.f110.name,by decide,fA (Tryz.func110.trans (congrArg some (by kernel_rfl)))⟩;f23:=⟨Tryz.f111.name,by decide,fA (Tryz.func111.trans (congrArg some (by kernel_rfl)))⟩;f24:=⟨Tryz.f112.name,by decide,fA (Tryz.func112.trans (congrArg some (by kernel_rfl)))⟩;f25:=⟨Tryz.f113.name,by decide,fA (Tryz.func113.trans (congrArg some (by kernel_rfl)))⟩;f26:=⟨Tryz.f114.name,by decide,fA (Tryz.func114.trans (congrArg some (by kernel_rfl)))⟩;f27:=⟨Tryz.f115.name,by decide,fA (Tryz.func115.trans (congrArg some (by kernel_rfl)))⟩;f28:=fA (Tryz.func116.trans (congrArg some (by kernel_rfl)));f29:=fA (Tryz.func117.trans (congrArg some (by kernel_rfl)));f46:=⟨Tryz.f136.name,by decide,fA (Tryz.func136.trans (congrArg some (by kernel_rfl)))⟩;f47:=fA (Tryz.func137.trans (congrArg some (by kernel_rfl)));f48:=fA (Tryz.func138.trans (congrArg some (by kernel_rfl)));f49:=⟨Tryz.f139.name,by decide,fA (Tryz.func139.trans (congrArg some (by kernel_rfl)))⟩;f50:=⟨Tryz.f140.name,by decide,fA (Tryz.func140.trans (congrArg some (by kernel_rfl)))⟩;f57:=⟨Tryz.f157.name,by decide,fA (Tryz.func157.trans (congrArg some (by kernel_rfl)))⟩;t0:=S7;a0:=S7;z0:=S7;v0:=S7;t3:=S7;a3:=S7;z3:=S7;v3:=S7;t4:=S7;a4:=S7;z4:=S7;v4:=S7;t5:=S7;a5:=S7;z5:=S7;v5:=S7;t9:=S7;a9:=S7;z9:=S7;v9:=S7;t22:=S7;a22:=S7;z22:=S7;v22:=S7;t25:=S7;a25:=S7;z25:=S7;v25:=S7;t39:=S7;a39:=S7;z39:=S7;v39:=S7;t45:=S7;a45:=S7;z45:=S7;v45:=S7;t46:=S7;a46:=S7;z46:=S7;v46:=S7;t50:=S7;a50:=S7;z50:=S7;v50:=S7;t53:=S7;a53:=S7;z53:=S7;v53:=S7;t55:=S7;a55:=S7;z55:=S7;v55:=S7;t66:=S7;a66:=S7;z66:=S7;v66:=S7;t70:=S7;a70:=S7;z70:=S7;v70:=S7;t76:=S7;a76:=S7;z76:=S7;v76:=S7;t77:=S7;a77:=S7;z77:=S7;v77:=S7
end Go.Proofs
namespace Go.Proofs.aH
open Go.RowKit Go.Sort
def lA(D:List dD):Prop:=∀(i j:Nat) (x y:dD),i<j->D[i]?=some x->D[j]?=some y->¬xB y.pt x.pt<0
def lA.lt{D}(h:lA D)(n:(D.map dD.pt).Nodup){i j:Nat}{x y}(a:i<j)(b:D[i]?=some x)(c:D[j]?=some y):xB x.pt y.pt<0:=by
 have d:=h i j x y a b c;have h2:x.pt≠y.pt:=λe=>by
  have f:(D.map dD.pt)[i]?=some x.pt:=by rw[cT,b];rfl
  have g:(D.map dD.pt)[j]?=some x.pt:=by rw[cT,c,e];rfl
  have⟨hi,k⟩:=cE.1 f;have⟨l,m⟩:=cE.1 g;exact Wt.1 n i j hi l a (k.trans m.symm)
 have o:xB x.pt y.pt≠0:=λe=>h2 ((Bl _ _).1 e);rw[FI x.pt y.pt]at d;omega
def Ux{B g cap}(E w)(h:w.ownsRow B 60 6 (.slice g E.length cap) E.length (dN E))(hl:E.length<=100000):Cv 54 #[.slice (some ⟨g,0,none⟩) E.length cap,.func (.func 55) #[] #[]] w λe w'=>e=.returned (.tuple #[])/\∃D,D.Perm E/\lA D/\w'.ownsRow B 60 6 (.slice g E.length cap) E.length (dN D)/\Xc (λk=>k=g) w w':=by
 have s:=(kY h g rfl).2;have b:=AnyQ.slices_SortFunc aI.Y7 6 (λw=>S7) (λw=>S7) sF wu (λx v o=>by simp[sF,qL]at o;obtain rfl|rfl|rfl|rfl|rfl|rfl:=o<;>rfl) Ut agU 55 #[] g 0 cap E.toArray w (enters_of (fA Tryz.func55) K8 rfl) (λ_ _ _ _ x y=>MD x y _) (Uw h) s (by simp;omega);change Cv 54 _ _ _ at b;rw[oH]at b;refine b.mono ?_;rintro e w' ⟨rfl,d,n,os,m,z,rfl⟩;have a:d.size=E.length:=by have:=m.1;simpa using this
 have u:d.toList.Perm E:=by
  have:=m.2.2;have q:(d.extract 0 E.length).toList=d.toList:=by rw[<-a];simp
  rw[q]at this;simpa using this
 refine⟨rfl,d.toList,u,λi j x y t p c=>?_,PH h a,abS⟩;have l:j<d.size:=by have:=(cE.1 c).1;simpa using this
 have f:=z i j (fJ _) t (by rw[<-a];exact l);rw[PG]at f;have ex:d[i]! =x:=by rw[Kz]at p;rw[Wn d i O9];exact(eA.1 p).2
 have r:d[j]! =y:=by rw[Kz]at c;rw[Wn d j l];exact(eA.1 c).2
 rwa [ex,r]at f
def ME{α β:Type}[DecidableEq β](f:α->β):∀(l:List α),(l.map f).Nodup->∀e∈l,l.Perm (e::l.filter λx=>decide (f x≠f e))
 |[],_,_,h=>by cases h
 |x::l,a,e,h=>by
   simp only[kV,Kw]at a;obtain rfl|h:=iN.1 h;.rw[D7 S8,Wj.2 (λy d=>by have:f y≠f e:=λb=>a.1 (b▸xK (f:=f) d);simpa using this)]
   .have c:f x≠f e:=λb=>a.1 (b▸xK (f:=f) h);rw[G7 (by simpa using c)];exact((ME f l a.2 e h).cons x).trans (List.Perm.swap _ _ _)
structure pM(K:jO)(C:List dD):Prop where
 nd:(C.map dD.pt).Nodup
 mem:∀c,c∈C->K c.pt=some c
 all:∀p c,K p=some c->c∈C/\c.pt=p
def MI(C:List dD):Int:=(C.map dD.val).sum
def Uu(c C):MI (c::C)=c.val+MI C:=by simp[MI]
def Uv{C D}(h:C.Perm D):MI C=MI D:=by unfold MI;induction h with
 |nil=>rfl
 |cons x _ b=>simp[b]
 |swap x y l=>simp;omega
 |trans _ _ a h2=>exact a.trans h2
def pM.take{K C p c}(h:pM K C)(i:K p=some c):∃D,pM (K.take p) D/\MI C=c.val+MI D/\D.length<=C.length:=by
 have⟨j,b⟩:=h.all p c i;refine⟨C.filter λx=>decide (x.pt≠c.pt),⟨?_,λd g=>?_,λq d hq=>?_⟩,?_⟩;.exact List.Nodup.sublist (List.Sublist.map _ QL) h.nd
 .have a:=D2.1 g;have:d.pt≠p:=by rw[<-b];simpa using a.2
  unfold jO.take;rw[aT this];exact h.mem d a.1
 .unfold jO.take at hq;by_cases e:q=p;.rw[bD e]at hq;cases hq
  .rw[aT e]at hq;have⟨f,h2⟩:=h.all q d hq;exact⟨D2.2 ⟨f,by rw[h2,b];simpa using e⟩,h2⟩
 .exact⟨by rw[Uv (ME dD.pt C h.nd c j),Uu],Kl _ _⟩
def pM.put{K C c}(h:pM K C)(g:K c.pt=none):pM (K.put c) (c::C):=by
 have b:∀d∈C,d.pt≠c.pt:=λd a e=>by have:=h.mem d a;rw[e,g]at this;cases this
 refine⟨?_,λd a=>?_,λq d hq=>?_⟩;.rw[kV,Kw];exact⟨λi=>by obtain⟨d,a,e⟩:=iF.1 i;exact b d a e,h.nd⟩
 .unfold jO.put;obtain rfl|a:=iN.1 a;.rw[bD rfl]
  .rw[aT (b d a)];exact h.mem d a
 .unfold jO.put at hq;by_cases e:q=c.pt;.rw[bD e]at hq;cases hq;exact⟨Wl,e.symm⟩
  .rw[aT e]at hq;have⟨f,h2⟩:=h.all q d hq;exact⟨Wi _ f,h2⟩
open Tryz
open Go.Bj (iR xA)
attribute [local go_sem↓] Go.wp_at_zero Go.wp_at_succ
def abT(w):Cv 117 #[aC] w λe w'=>e=.returned ↑aA/\w'=w:=by go_enter fA func117,ntmps117;go_wp2;go_ret;exact⟨K8,rfl⟩
def af1(w):Cv 85 #[aC] w λe w'=>e=.returned ↑aA/\w'=w:=by go_enter fA func85,ntmps85;go_wp2_with (go_at_call 117;refine(abT _).mono ?_;rintro e w' ⟨rfl,rfl⟩);go_ret;exact⟨rfl,rfl⟩
def ML(v f w):Cv 108 #[v,aA,aA,f] w λe w'=>e=.returned (.tuple #[])/\w'=w:=by go_enter fA func108,ntmps108;go_wp2;go_loopw [8] (λi wr=>i=↑aG/\wr=w) (λ_ _=>0);exact⟨rfl,rfl⟩;case round=>obtain⟨rfl,rfl⟩:=hrel;go_wp2;go_end0;exact⟨rfl,rfl⟩
def af2(v f w):Cv 84 #[v,aA,aA,aA,f] w λe w'=>e=.returned (.tuple #[])/\w'=w:=by go_enter fA func84,ntmps84;go_wp2;go_loopw [1,2,3] (λa b l wr=>a=↑aA/\b=↑aA/\l=↑aA/\wr=w) (λ_ _ _ _=>0);exact⟨rfl,rfl,rfl,rfl⟩;case round=>obtain⟨rfl,rfl,rfl,rfl⟩:=hrel;go_wp2_with (go_at_call 108;refine(ML _ _ _).mono ?_;rintro e w' ⟨rfl,rfl⟩);exact nC (v:=.tuple #[]) (KB rfl _ _ _) rfl ⟨rfl,rfl⟩
def aeH(a c f w):Cv 54 #[.slice a 0 c,f] w λe w'=>e=.returned (.tuple #[])/\w'=w:=by go_enter fA func54,ntmps54;go_wp2_with (first|(go_at_call 85;refine(af1 _).mono ?_;rintro e w' ⟨rfl,rfl⟩)|(go_at_call 84;refine(af2 _ _ _).mono ?_;rintro e w' ⟨rfl,rfl⟩));go_end0;exact⟨rfl,rfl⟩
def Ii(f:dD->Nat)(k):∀C:List dD,(C.filter (λc=>decide (f c<k+1))).Perm (C.filter (λc=>decide (f c<k))++C.filter (λc=>decide (f c=k)))
 |[]=>.nil
 |c::C=>by
   have b:=Ii f k C;by_cases a:f c<k;.rw[G7 (by simp;omega),G7 (by simpa using a),D7 (by simp;omega)];exact b.cons c
   .by_cases h2:f c=k;.rw[G7 (by simp;omega),D7 (by simpa using a),G7 (by simpa using h2)];exact(b.cons c).trans List.perm_middle.symm
    .rw[D7 (by simp;omega),D7 (by simpa using a),D7 (by simpa using h2)];exact b
def Xc.at_{B w w'}(h:Xc (λq=>B<=q) w w')(w0)(c:B=w0.heap.size)(a:Below B w0 w):Below B w0 w':=⟨h.os.trans a.os,h.tape.trans a.tape,h.output.trans a.output,bI a.size h.size,λk b=>(h.block k (by have:=a.size;omega) O9).trans (a.block k b)⟩
def Uy{B}{w:World}{e size n c a f}(h:w.ownsRow B e size (.slice a n c) n f)(d:n≠0):∃g,a=some ⟨g,0,none⟩:=by
 obtain⟨_,h0⟩|⟨g,cap,cur,b,_⟩:=h.2;.exact absurd h0 d
 .simp only[Wp]at b;exact⟨g,b.1⟩
def Uz{w m n i K C}(h:fG w m n i K)(b:pM K C):∃D:List dD,iR abP w m (D.map qP)/\D.Perm (C.filter λc=>decide (rC n c.pt=i)):=by
 have⟨D,g,f,h2⟩:=h;refine⟨D,g,?_⟩;have k:(D.map dD.pt).Nodup:=by have d:=g.keys;rw[pD]at d;have e:(Prod.fst∘qP)=vq∘dD.pt:=rfl;rw[e,<-pD]at d;exact(List.pairwise_map.1 d).imp (λh e=>h (congrArg _ e))
 have j:∀{l:List dD},(l.map dD.pt).Nodup->l.Nodup:=λhl=>(List.pairwise_map.1 hl).imp (λh e=>h (congrArg _ e));rw[List.perm_ext_iff_of_nodup (j k) ((j b.nd).sublist QL)];intro c;rw[D2];exact⟨λa=>⟨(b.all _ c (f c a).1).1,by simpa using(f c a).2⟩,λa=>h2 _ c (b.mem c a.1) (by simpa using a.2)⟩
def abU{gs n sb mb K}(C w)(h:aQ w gs n sb mb K)(H:pM K C)(hl:C.length<=100000):Cv 28 #[.agg #[.slice gs n n]] w λe w'=>∃v D,D.Perm C/\lA D/\e=.returned v/\w'.ownsRow w 60 6 v D.length (dN D)/\Below w w w':=by
 have J:Below w w (w.alloc (.cells #[.slice gs n n] 102)):=B0.alloc L9 _;have af:=h.hi;go_enter fA func28,ntmps28;go_wp2;go_loopw [3,9] (λl i wr=>∃(k:Nat) (E:List dD),k<=n/\i=↑k/\Below w w wr/\E.Perm (C.filter λc=>decide (rC n c.pt<k))/\wr.ownsRow ↑w 60 6 l E.length (dN E)) (λ_ i _=>n -(intOf i).toNat);exact⟨0,[],fJ _,rfl,J,S8,nB _ _ _ _⟩;case round=>
  obtain⟨k,E,aa,rfl,m,d,a⟩:=hrel;by_cases o:k<n
  .have ab:(0:Int)<=(k:Int):=O9;have ae:(k:Int)<(n:Int):=O9;have p:=h.keep m;have q0:wr.cell? (gs,k)=some (.pointer (sb k,0)):=by rw[p.arr.cell];simp[o,ptr]
   have A:=p.sh k o;have⟨D,u,b⟩:=Uz (p.mp k o) H;have r:=Ii (λc=>rC n c.pt) k C;have hlen:E.length+D.length<=C.length:=by have Y:=d.length_eq;have h2:=b.length_eq;have G:=r.length_eq;have π:=Kl (λc:dD=>decide (rC n c.pt<k+1)) C;rw[bY]at G;omega
   have Q:=(h.sh k o).lt;have O:=(h.mp k o).lt;have t:=aL (JB D wr A u a Q O m.size O9);unfold ptr at t;change Hid _ at d b r;obtain⟨la,μ,rfl⟩:=bG a;clear A u p a;go_wp2;refine t.out.mono ?_;rintro e w1 ⟨v,D',z,rfl,s,V⟩;have⟨X,c1,S⟩:=bG s;subst S;go_wp2;go_roundw;case rel=>
    refine⟨k+1,E++D',O9,by go_num,V.at_ w rfl m,?_,?_⟩;.refine List.Perm.trans ?_ r.out.symm;exact d.out.append (z.trans b.out)
    .have F:dN (E++D')=dN E++dN D':=by simp[dN]
     rw[F,bY,z.length_eq];exact s
   case measure=>simp[intOf];omega
  .have M:k=n:=O9;subst M;have f:E.Perm C:=by refine d.trans ?_;rw[Wj.2 (λc _=>by simpa using w9 k c.pt h.lo)]
   have N:E.length<=100000:=by rw[f.length_eq];exact hl
   obtain⟨la,μ,rfl⟩:=bG a;by_cases h0:E.length=0;.have B:=List.length_eq_zero_iff.1 h0;subst B;go_wp2;refine(aeH _ _ _ _).m0 ?_;go_wp2;go_ret;exact⟨_,[],f,λi j x y _ T=>by simp at T,rfl,a,m⟩
   .obtain⟨g,rfl⟩:=Uy a h0;have P:=aL (Ux E wr a N);have L:=(kY a g rfl).1;change Hid _ at f d;clear a;go_wp2;refine P.out.mono ?_;rintro e w2 ⟨rfl,D,b,R,I,W⟩;go_wp2;go_ret;exact⟨_,D,b.trans f.out,R,rfl,by rw[b.length_eq];exact I,(W.mono (S':=λq=>(w:Nat)<=q) (λk e=>by subst e;exact L)).at_ w rfl m⟩
def H7{nb c a}(C w)(h:uw w nb c a)(x:pM a.K C)(hl:C.length<=100000):Cv 11 #[ptr nb] w λe w'=>∃v D,D.Perm C/\lA D/\e=.returned v/\w'.ownsRow w 60 6 v D.length (dN D)/\Below w w w':=by
 obtain⟨s,i⟩:=h;have r:=i.row;have L:=r.lt;unfold ptr;go_enter_defers fA func11,ntmps11;go_wp2;refine(yE w i.row).mono ?_;rintro e w2 ⟨rfl,q,o⟩;obtain⟨j,u⟩:=i.rlock q o;have G:Xc (λk=>k=nb\/False) w w2:=u.mono (λk e=>.inl e);have d:(w2:Nat)=(w:Nat):=by rw[o];simp only[World.setCell,xI]
 have n13:w2.cell? (nb,13)=some (.slice s.gs s.n s.n):=by rw[j.nd.mem.row.cell];rfl
 have g:=abU C w2 j.aV x hl;rw[d]at g;replace g:=aL g;replace d:=aL d;clear o u q;go_wp2;refine g.out.mono ?_;rintro e w3 ⟨v,D,y,A,rfl,p,b⟩;have m:Row w3 nb 107 _:=j.row.keep (b.mono (nL d.out)) (by have:=d.out;omega);obtain⟨J,I,B⟩:=bG p;subst B;have E:Xc (λk=>k=nb\/False) w w3:=G.trans (S':=λ_=>False) ⟨b.os,b.tape,b.output,b.size,λk H _=>b.block k (by have:=d.out;omega)⟩ (λ_ _ e=>e.elim);go_wp2;refine qu (f:=26) (args:=#[.pointer nb]) S8 (by simp[go_sem]) ?_;refine(qR .returning _ m).mono ?_;rintro e M w4 ⟨rfl,rfl,z,t⟩;have F:Xc (λk=>k=nb\/False) w w4:=by rw[t];exact E.setCell _ _ (λ_=>.inl rfl)
 refine⟨_,Ky rfl _ _ _,_,D,y,A,rfl,?_,(Ig F r z).low⟩;rw[t];refine dF p (λk cs' _ _ l=>(bJ w3 (nb,4) _).block k (bE l) (λe=>?_));simp only[gW]at e;subst e;unfold Row at m;rw[m]at l;cases l
end Go.Proofs.aH
