import Derived.Laws.IdiomRangeMap
import Derived.Lib.Bytealg
import Derived.Lib.Small
import Derived.Sort.Grow
import Derived.Sort.Statements
import Derived.Shelf.SlSortCmp.Insertion
import Derived.Shelf.GgSortFunc.InsertionK
import Derived.Shelf.SlSortCmp.WholeK
import Derived.Test.YtpjcmpfncpnmeaaGreatM13
set_option linter.all false
set_option maxHeartbeats 16000000
set_option maxRecDepth 100000
namespace Go.Proofs.aH
open Go.RowKit
open Go.Il (lQ Ci)
attribute [local go_sem↓] Go.wp_at_zero Go.wp_at_succ
def afE:=@Array.toList_filter
def dg(l:List kO):List Value:=l.flatMap λc=>vT (some c)
def acQ(l:List kO):(dg l).length=l.length*6:=by induction l with
  |nil=>rfl
  |cons c l ih=>unfold dg at*;rw[List.flatMap_cons,List.length_append,ih];simp[vT];omega
def ae1(l:List kO)(c:kO):dg (l++[c])=dg l++vT (some c):=by simp[dg]
def ae2:Value->kO
  |.agg cs=>match cs.toList with
    |[.string t,.int _ i,.int _ v,.string l,.int _ h,_]=>⟨t,i,v,l,h⟩
    |_=>⟨⟨#[]⟩,0,0,⟨#[]⟩,0⟩
  |_=>⟨⟨#[]⟩,0,0,⟨#[]⟩,0⟩
def afF(c:kO):ae2 c.v=c:=rfl
def agb:Value->Nat
  |.slice _ n _=>n
  |_=>0
def aeQ:∀(l:List MapEntry),(l.map (·.born)).Nodup->∀e∈l,l.Perm (e::l.filter λx=>x.born !=e.born)
  |[],_,_,h=>by cases h
  |x::l,hn,e,h=>by
    simp only[qM,List.nodup_cons]at hn;obtain rfl|h:=gA.1 h;.rw[List.filter_cons_of_neg (by simp),List.filter_eq_self.2 (λy hy=>by have:y.born≠e.born:=λe'=>hn.1 (e'▸A3 (f:=(·.born)) hy);simpa using this)]
    . have hx:x.born≠e.born:=λe'=>hn.1 (e'▸A3 (f:=(·.born)) h)
      rw[List.filter_cons_of_pos (by simpa using hx)];exact((aeQ l hn.2 e h).cons x).trans (List.Perm.swap _ _ _)
def afq{es:Array MapEntry}{seen:Array Nat}{e:MapEntry}(hn:(es.toList.map (·.born)).Nodup)(he:e∈(leftOf es seen).toList):(leftOf es seen).toList.Perm (e::(leftOf es (seen.push e.born)).toList):=by
  have h1:((leftOf es seen).toList.map (·.born)).Nodup:=by unfold leftOf;rw[afE];exact List.Nodup.sublist (List.Sublist.map _ List.filter_sublist) hn
  have h2:(leftOf es (seen.push e.born)).toList=(leftOf es seen).toList.filter λx=>x.born !=e.born:=by unfold leftOf;rw[afE,afE,List.filter_filter];congr 1;funext x;simp[Array.contains_push];cases hx:(x.born==e.born)<;>simp_all
  rw[h2];exact aeQ _ h1 e he
def aeX{b m B k:Nat}{cs:List Value}{v:Value}(C:List kO)(w:World)(h1:Row w b 196 (vw m))(h2:lQ adC w m (C.map AH))(hO:w.ownsRow B 60 6 v k cs)(hb:b<B)(hm:m<B)(hB:B<=w.heap.size)(hl:k+C.length<=100000):Calls aI.prog 106 #[ptr b,v] w λe w'=>∃v' D,D.Perm C/\e=.returned v'/\w'.ownsRow B 60 6 v' (k+C.length) (cs++dg D)/\Xc (λq=>B<=q) w w':=by
  obtain⟨es,cl,h2,hes,-,hst⟩:=h2;obtain⟨sa,sc,rfl⟩:=bH hO;have hC:es.toList.map (λe=>ae2 e.val)=C:=by have:=congrArg (List.map λx:Value×Value=>ae2 x.2) hes;rw[uS,uS]at this;simpa[Uf,AH,afF]using this
  have hval:Hid (∀e∈es.toList,e.val=(ae2 e.val).v):=λe he=>by have:(e.key,e.val)∈C.map AH:=hes▸jV.2 ⟨e,he,rfl⟩;obtain⟨c,_,hc⟩:=jV.1 this;have:c.v=e.val:=congrArg Prod.snd hc;rw[<-this,afF]
  have hmb:m≠b:=by intro e;subst e;unfold Row at h1;rw[h2]at h1;cases h1
  unfold ptr;go_enter_defers aI.func106,Tryz.ntmps106;go_wp2_with fail;refine(AK w h1).mono ?_;rintro ee w1 ⟨rfl,hr1,hw1⟩;have x1:Xc (λq=>q=b\/B<=q) w w1:=by rw[hw1];exact(jO _ w).setCell ⟨b,4,none⟩ _ (λ_=>.inl rfl)
  have h2':w1.heap[m]?=some (.map es cl):=(x1.block m (cE h2) (λe=>by obtain e|e:=e;exact hmb e;omega)).trans h2;have c6:w1.cell? (b,6)=some (.map (some m)):=hr1.cell 6;have hrg:=run_range_map (P:=aI.prog) w1 194 _ _ m es cl aI.underlying194 h2';have hI:(w1.alloc (.mapIter (some m) cl #[] cl)).heap[w1.heap.size]?=some (.mapIter (some m) cl #[] cl):=uP w1 _;have hM:(w1.alloc (.mapIter (some m) cl #[] cl)).heap[m]?=some (.map es cl):=by first|exact(heap_alloc_old w1 _ _ (cE h2')).trans h2'|exact(heap_alloc_old w1 _ (cE h2')).trans h2'
  have hsz:w1.heap.size=w.heap.size:=by rw[hw1];simp only[World.setCell,AZ]
  have hrb:Row (w1.alloc (.mapIter (some m) cl #[] cl)) b 196 (sV++[.map (some m)]):=hr1.alloc _;have xi:Xc (λq=>q=b\/B<=q) w (w1.alloc (.mapIter (some m) cl #[] cl)):=x1.alloc _;have hO1:(w1.alloc (.mapIter (some m) cl #[] cl)).ownsRow B 60 6 (.slice sa k sc) k cs:=qc (by rw[hw1];exact bJ hO h1 (by decide)) _;clear hw1 x1 hr1 h2' hO;replace hsz:=aJ hsz;go_wp2_with fail;generalize w1.alloc (.mapIter (some m) cl #[] cl)=W at hI hM hrb xi hO1|-;generalize hrr:w1.heap.size=r at hI hsz|-;clear hrr hrg c6;go_loopw [1] (λo wr=>∃(D:List kO) (seen:Array Nat),(D++(leftOf es seen).toList.map λe=>ae2 e.val).Perm C/\wr.ownsRow B 60 6 o (k+D.length) (cs++dg D)/\wr.heap[r]?=some (.mapIter (some m) cl seen cl)/\wr.heap[m]?=some (.map es cl)/\Row wr b 196 (sV++[.map (some m)])/\Xc (λq=>q=b\/B<=q) w wr) (λo _=>k+C.length -agb o);case atStart=>
    refine⟨[],#[],?_,by simpa[dg]using hO1,hI,hM,hrb,xi⟩;have:leftOf es #[]=es:=by unfold leftOf;simp
    rw[this,CM,hC]
  case round=>
    clear hO1 hI hM hrb xi;obtain⟨D,seen,hp,hO,hI,hM,hrb,xi⟩:=hrel;obtain⟨oa,oc,rfl⟩:=bH hO;rcases run_next_at (P:=aI.prog) wr 0 r m cl cl seen es cl hI hM hst.1 (I9 _)with⟨hz,hnx⟩|⟨e,he,w1',af5,hrun⟩
    . have hD:D.Perm C:=by
        have:(leftOf es seen).toList=[]:=by rw[Array.eq_empty_of_size_eq_zero hz]
        rw[this]at hp;simpa using hp
      have hDl:=hD.length_eq;go_wp2_with fail;refine sy (f:=44) (args:=#[.pointer (some ⟨b,0,none⟩)]) (by simp) (by simp[go_sem]) ?_;refine(sW .returning _ hrb).mono ?_;rintro e u' w4 ⟨rfl,rfl,hr4,hw4⟩;have x4:Xc (λq=>q=b\/B<=q) w w4:=by rw[hw4];exact xi.setCell _ _ (λ_=>.inl rfl)
      refine⟨_,results_tmp rfl _ _ _,_,D,hD,rfl,?_,Ls x4 h1 hr4⟩;rw[hw4,<-hDl];exact bJ hO hrb (by decide)
    . have hperm:=afq hst.2.1 he
      have hmem:=(mem_left he).1;have hv:=hval.out e hmem;generalize hc:ae2 e.val=c at hv;have hp2:((D++[c])++(leftOf es (seen.push e.born)).toList.map λe=>ae2 e.val).Perm C:=by refine List.Perm.trans ?_ hp;rw[kH];refine List.Perm.append_left D ?_;have:=(hperm.map λe=>ae2 e.val).symm;rw[qM,hc]at this;exact this
      have hlen:k+D.length<k+C.length:=by have:=hp2.length_eq;simp at this;omega
      have hh:w1'.heap=wr.heap:=by obtain h|h:=af5<;>rw[h]<;>rfl
      have hmr:m≠r:=by intro e;subst e;rw[hI]at hM;cases hM
      have hbr:b≠r:=by intro e;subst e;unfold Row at hrb;rw[hI]at hrb;cases hrb
      have hBr:B<=r:=by have:=hsz.out;omega
      have x1':Xc (λq=>q=b\/B<=q) w w1':=by obtain h|h:=af5<;>rw[h];exact xi;exact xi.drew
      have hO':w1'.ownsRow B 60 6 (.slice oa (k+D.length) oc) (k+D.length) (cs++dg D):=dY hO (λq _ _ _ _=>by rw[hh]);have q1:(Go.ChangeMaps.setBlock w1' r (.mapIter (some m) cl (seen.push e.born) cl)).heap[r]?=some (.mapIter (some m) cl (seen.push e.born) cl):=by simp only[Go.ChangeMaps.setBlock,hh];rw[OL (cE hI)]
      have q2:(Go.ChangeMaps.setBlock w1' r (.mapIter (some m) cl (seen.push e.born) cl)).heap[m]?=some (.map es cl):=by simp only[Go.ChangeMaps.setBlock,hh];rw[nA (gN hmr)];exact hM
      have q3:Row (Go.ChangeMaps.setBlock w1' r (.mapIter (some m) cl (seen.push e.born) cl)) b 196 (sV++[.map (some m)]):=by unfold Row;simp only[Go.ChangeMaps.setBlock,hh];rw[nA (gN hbr)];exact hrb
      have q4:=x1'.AG r (.mapIter (some m) cl (seen.push e.born) cl) (λ_=>.inr hBr);have q5:(Go.ChangeMaps.setBlock w1' r (.mapIter (some m) cl (seen.push e.born) cl)).ownsRow B 60 6 (.slice oa (k+D.length) oc) (k+D.length) (cs++dg D):=dY hO' (λq cs' _ _ hcc=>by simp only[Go.ChangeMaps.setBlock];rw[nA];intro e';subst e';rw[hh,hI]at hcc;cases hcc)
      generalize Go.ChangeMaps.setBlock w1' r (.mapIter (some m) cl (seen.push e.born) cl)=V at hrun q1 q2 q3 q4 q5;have hen:=run_entry_at (P:=aI.prog) V r m cl seen es cl e q1 q2 hmem hst.2.1;rw[hv]at hrun hen;clear hI hM hrb xi hO x1' hO' hv hc he hmem af5 hh hperm hp;unfold kO.v at hrun hen;have IK:Below V.heap.size V ((V.alloc (.cells #[.string c.tx,.int .i64 c.idx,.int .i64 c.val,.string c.lock,.int .i64 c.cB,aD] 60)).alloc (.cells #[.string c.tx,.int .i64 c.idx,.int .i64 c.val,.string c.lock,.int .i64 c.cB,aD] 60)):=((Below.refl _ _).alloc (I9 _) _).alloc (by simp) _;have N1:=aV (V.alloc (.cells #[.string c.tx,.int .i64 c.idx,.int .i64 c.val,.string c.lock,.int .i64 c.cB,aD] 60)) [.string c.tx,.int .i64 c.idx,.int .i64 c.val,.string c.lock,.int .i64 c.cB,aD] 60;rw[bB]at N1;have O1:=aY q5 IK;have B1:B<=((V.alloc (.cells #[.string c.tx,.int .i64 c.idx,.int .i64 c.val,.string c.lock,.int .i64 c.cB,aD] 60)).alloc (.cells #[.string c.tx,.int .i64 c.idx,.int .i64 c.val,.string c.lock,.int .i64 c.cB,aD] 60)).heap.size:=bT hB (bT q4.size IK.size);have h1c:∀u∈[Value.string c.tx,.int .i64 c.idx,.int .i64 c.val,.string c.lock,.int .i64 c.cB,↑aD],u.oneCell'=true:=by intro u hu;simp only[gA,kF,kG]at hu;obtain rfl|rfl|rfl|rfl|rfl|rfl:=hu<;>rfl
      replace h1c:=aJ h1c;have fin:Hid (∀w3,((V.alloc (.cells #[.string c.tx,.int .i64 c.idx,.int .i64 c.val,.string c.lock,.int .i64 c.cB,aD] 60)).alloc (.cells #[.string c.tx,.int .i64 c.idx,.int .i64 c.val,.string c.lock,.int .i64 c.cB,aD] 60)).grownBy w3 (Value.slice oa (k+D.length) oc).ownBlock->w3.heap[r]?=some (.mapIter (some m) cl (seen.push e.born) cl)/\w3.heap[m]?=some (.map es cl)/\Row w3 b 196 (sV++[.map (some m)])/\Xc (λq=>q=b\/B<=q) w w3):=by
        intro w3 g3;have hne:∀q,(Value.slice oa (k+D.length) oc).ownBlock=some q->B<=q/\q≠r:=λq hq=>by obtain⟨hBq,cs',hcs⟩:=cP q5 hq;refine⟨hBq,λe'=>?_⟩;subst e';rw[q1]at hcs;cases hcs
        have hk:∀q,q<V.heap.size->(Value.slice oa (k+D.length) oc).ownBlock≠some q->w3.heap[q]?=V.heap[q]?:=λq hq hn=>(g3.block q (eQ hq IK.size) (λe'=>hn e'.symm)).trans (IK.block q hq);refine⟨(hk r (cE q1) (λe'=>(hne r e').2 rfl)).trans q1,(hk m (cE q2) (λe'=>by have:=(hne m e').1;omega)).trans q2,?_,(q4.then IK).grown g3 (λq e' _=>.inr (hne q e').1)⟩;exact(hk b q3.lt (λe'=>by have:=(hne b e').1;omega)).trans q3
      clear IK q1 q2 q3 q4 q5;go_wp2_with (refine IP rfl _ _ rfl (.slice oa (k+D.length) oc) (k+D.length) (cs++dg D) (by simp[Act.eval]) O1 (V.heap.size+1) 1 [.string c.tx,.int .i64 c.idx,.int .i64 c.val,.string c.lock,.int .i64 c.cB,aD] rfl (by simp[Act.eval]) N1 h1c.out (by omega) B1 ?_;intro v2 w3 hT1 g1;obtain⟨ig,ic,hv1⟩:=cO hT1 (k+D.length) rfl;subst hv1);go_roundw;case rel=>obtain⟨q1,q2,q3,q4⟩:=fin.out _ g1;refine⟨D++[c],seen.push e.born,hp2,?_,q1,q2,q3,q4⟩;rw[ae1,<-kH,cK];exact hT1
      case measure=>simp only[agb];omega
end Go.Proofs.aH
section
namespace Go.Proofs
@[simp] def aI.func108:=aI.aQ Tryz.func108
@[simp] def aI.call108:=aI.aR aI.func108 (by kernel_rfl)
@[simp] def aI.func109:=aI.aQ Tryz.func109
@[simp] def aI.call109:=aI.aR aI.func109 (by kernel_rfl)
@[simp] def aI.func110:=aI.aQ Tryz.func110
@[simp] def aI.call110:=aI.aR aI.func110 (by kernel_rfl)
@[simp] def aI.func111:=aI.aQ Tryz.func111
@[simp] def aI.call111:=aI.aR aI.func111 (by kernel_rfl)
@[simp] def aI.func148:=aI.aQ Tryz.func148
@[simp] def aI.call148:=aI.aR aI.func148 (by kernel_rfl)
@[simp] def aI.func149:=aI.aQ Tryz.func149
@[simp] def aI.call149:=aI.aR aI.func149 (by kernel_rfl)
end Go.Proofs
namespace Go.Proofs.aH
open Go.RowKit Go.Sort
attribute [local go_sem↓] Go.wp_at_zero Go.wp_at_succ
def afG(x:Int)(w:World):Calls aI.prog 149 #[.int .i64 x] w λe w'=>e=.returned ↑aF/\w'=w:=by go_enter aI.func149,Tryz.ntmps149;go_wp2_with fail;go_ret;exact⟨rfl,rfl⟩
def aff(x y:Int)(w:World):Calls aI.prog 111 #[.int .i64 x,.int .i64 y] w λe w'=>e=.returned (.int .i64 (Lib.compareInt x y))/\w'=w:=by go_enter aI.func111,Tryz.ntmps111;go_wp2_with (go_at_call 149;refine(afG _ _).mono ?_;rintro e w' ⟨rfl,hw⟩;rw[hw]);all_goals(go_ret;refine⟨?_,rfl⟩;unfold Lib.compareInt;(repeat' split)<;>first|rfl|(exfalso;omega))
end Go.Proofs.aH
end
section
namespace Go.Proofs
@[simp] def aI.func186:=aI.aQ Tryz.func186
end Go.Proofs
namespace Go.Proofs.aH
open Go.RowKit Go.Sort
attribute [local go_sem↓] Go.wp_at_zero Go.wp_at_succ
def aeY(a b:ByteArray)(w:World):Calls aI.prog 148 #[.string a,.string b] w λe w'=>e=.returned (.int .i64 (Lib.compareBytes a.data.toList b.data.toList))/\w'=w:=by go_enter aI.func148,Tryz.ntmps148;go_wp2_with fail;rw[run_callFunc_extern aI.func186 (by kernel_rfl) (by kernel_rfl) (by kernel_rfl) (e:=Extern.BytealgCompare.compare) (by kernel_rfl),Lib.run_compareString];simp only[Result.andThen];rw[Oper.upon_value];go_wp2_with fail;go_ret;exact⟨rfl,rfl⟩
def afg(a b:ByteArray)(w:World):Calls aI.prog 110 #[.string a,.string b] w λe w'=>e=.returned (.int .i64 (Lib.compareBytes a.data.toList b.data.toList))/\w'=w:=by go_enter aI.func110,Tryz.ntmps110;go_wp2_with (go_at_call 148;refine(aeY _ _ _).mono ?_;rintro e w' ⟨rfl,rfl⟩);go_ret;exact⟨rfl,rfl⟩
def af6{g:Nat}(p q:Int)(w:World)(h:Row w g 3 [.int .i64 p,.int .i64 q]):Calls aI.prog 109 #[.slice (some ⟨g,0,none⟩) 2 2] w λe w'=>e=.returned (.int .i64 (if p≠0 then p else q))/\w'=w:=by
  have c0:w.cell? (g,0)=some (.int .i64 p):=h.cell 0;have c1:w.cell? (g,1)=some (.int .i64 q):=h.cell 1;generalize hr:(if p≠0 then p else q)=r;have r0:p≠0->r=p:=λh=>by rw[<-hr,bM h]
  have r1:p=0->r=q:=λh=>by rw[<-hr,aX (by simpa using h)]
  clear hr h;go_enter aI.func109,Tryz.ntmps109;go_wp2_with fail;go_loopw [8] (λi wr=>∃k:Nat,k<=2/\i=.int .i64 k/\wr=w/\(0<k->p=0)/\(1<k->q=0)) (λi _=>2 -(intOf i).toNat);case atStart=>exact⟨0,by omega,rfl,rfl,by omega,by omega⟩
  case round=>
    obtain⟨k,hk,rfl,rfl,h0,h1⟩:=hrel;have hk3:k=0\/k=1\/k=2:=by omega
    obtain rfl|rfl|rfl:=hk3
    . by_cases hp:p=0
      . go_wp2_with fail
        go_roundw;case rel=>refine⟨1,by omega,by go_num,?_⟩;simp[hp]
        case measure=>simp[intOf]
      . have:=r0 hp
        subst this;clear r0 r1;go_wp2_with fail;go_ret;exact⟨rfl,rfl⟩
    . by_cases hq:q=0
      . go_wp2_with fail
        go_roundw;case rel=>refine⟨2,by omega,by go_num,?_⟩;simp[hq,h0]
        case measure=>simp[intOf]
      . have:=r1 (h0 (by omega))
        subst this;clear r0 r1 h0;go_wp2_with fail;go_ret;exact⟨rfl,rfl⟩
    . have e1:=r1 (h0 (by omega))
      have e2:=h1 (by omega);subst e1;subst e2;clear r0 r1 h0 h1;go_wp2_with fail;go_ret;exact⟨rfl,rfl⟩
end Go.Proofs.aH
end
namespace Go.Proofs.aH
open Go.RowKit Go.Sort
attribute [local go_sem↓] Go.wp_at_zero Go.wp_at_succ
def afr(x y:kO):Int:=if Lib.compareBytes x.tx.data.toList y.tx.data.toList≠0 then Lib.compareBytes x.tx.data.toList y.tx.data.toList else Lib.compareInt x.idx y.idx
def ae3(x y:kO)(W:World):Calls aI.prog 108 #[x.v,y.v] W λe w'=>e=.returned (.int .i64 (afr x y))/\∃q os',w'=grow (W.drewN q) os':=by
  obtain⟨tx,ix,vx,lx,hx⟩:=x;obtain⟨ty,iy,vy,ly,hy⟩:=y;unfold afr;simp only[kO.v];have N0:=(aV W [.string tx,.int .i64 ix,.int .i64 vx,.string lx,.int .i64 hx,aD] 60).alloc (.cells #[.string ty,.int .i64 iy,.int .i64 vy,.string ly,.int .i64 hy,aD] 60);have N1:=aV (W.alloc (.cells #[.string tx,.int .i64 ix,.int .i64 vx,.string lx,.int .i64 hx,aD] 60)) [.string ty,.int .i64 iy,.int .i64 vy,.string ly,.int .i64 hy,aD] 60;rw[bB]at N1;have hg:Hid (∃os,(W.alloc (.cells #[.string tx,.int .i64 ix,.int .i64 vx,.string lx,.int .i64 hx,aD] 60)).alloc (.cells #[.string ty,.int .i64 iy,.int .i64 vy,.string ly,.int .i64 hy,aD] 60)=grow W os):=⟨_,by rw[alloc_eq_grow,alloc_eq_grow,grow_grow]⟩;have hcs:Hid (∀w',Calls aI.prog 110 #[.string tx,.string ty] w' λe w''=>e=.returned (.int .i64 (Lib.compareBytes tx.data.toList ty.data.toList))/\w''=w'):=λw'=>afg tx ty w';have hci:Hid (∀w',Calls aI.prog 111 #[.int .i64 ix,.int .i64 iy] w' λe w''=>e=.returned (.int .i64 (Lib.compareInt ix iy))/\w''=w'):=λw'=>aff ix iy w';generalize Lib.compareBytes tx.data.toList ty.data.toList=p at hcs|-;generalize Lib.compareInt ix iy=r at hci|-;have af7:∀V:World,Calls aI.prog 109 #[.slice (some ⟨V.heap.size,0,none⟩) 2 2] (V.drew.alloc (.cells #[.int .i64 p,.int .i64 r] 3)) λe w'=>e=.returned (.int .i64 (if p≠0 then p else r))/\w'=V.drew.alloc (.cells #[.int .i64 p,.int .i64 r] 3):=λV=>af6 p r _ (aV V.drew [.int .i64 p,.int .i64 r] 3);generalize(if p≠0 then p else r)=z at af7|-;go_enter aI.func108,Tryz.ntmps108;go_wp2_with fail;generalize(W.alloc (.cells #[.string tx,.int .i64 ix,.int .i64 vx,.string lx,.int .i64 hx,aD] 60)).alloc (.cells #[.string ty,.int .i64 iy,.int .i64 vy,.string ly,.int .i64 hy,aD] 60)=V at N0 N1 hg|-;have c0:V.cell? (W.heap.size,0)=some (.string tx):=N0.cell 0;have c1:V.cell? (W.heap.size,1)=some (.int .i64 ix):=N0.cell 1;have d0:V.cell? (W.heap.size+1,0)=some (.string ty):=N1.cell 0;have d1:V.cell? (W.heap.size+1,1)=some (.int .i64 iy):=N1.cell 1;have hor:=aJ (af7 V);clear N0 N1 af7;go_region_held3 (λw'=>w'.cell? (W.heap.size,0)=some (.string tx)/\w'.cell? (W.heap.size,1)=some (.int .i64 ix)/\w'.cell? (W.heap.size+1,0)=some (.string ty)/\w'.cell? (W.heap.size+1,1)=some (.int .i64 iy)) (first|exact⟨c0,c1,d0,d1⟩|go_keep) (first
      |(go_at_call 110;refine(hcs.out _).mono ?_;rintro e w' ⟨rfl,rfl⟩)
      |(go_at_call 111;refine(hci.out _).mono ?_;rintro e w' ⟨rfl,rfl⟩)
      |(go_at_call 109;refine hor.out.mono ?_;rintro e w' ⟨rfl,rfl⟩))
  all_goals go_wp2_with fail
  all_goals go_ret
  all_goals obtain⟨os,rfl⟩:=hg.out;exact⟨rfl,1,os++#[.cells #[.int .i64 p,.int .i64 r] 3],by rw[alloc_eq_grow,grow_grow];rfl⟩
end Go.Proofs.aH
namespace Go.Proofs.aH
open Go.Sort
def afJ:=@UInt8.lt_iff_toNat_lt
def rH:∀a b:List UInt8,Lib.compareBytes a b=0↔a=b
  |[],[]=>by simp[Lib.compareBytes]
  |[],_::_=>by simp[Lib.compareBytes]
  |_::_,[]=>by simp[Lib.compareBytes]
  |a::xs,b::ys=>by
    unfold Lib.compareBytes;have ih:=rH xs ys;split
    . rename_i h
      have:a≠b:=λe=>by subst e;exact UInt8.lt_irrefl _ h
      simp[this]
    . split
      . rename_i h
        have:a≠b:=λe=>by subst e;exact UInt8.lt_irrefl _ h
        simp[this]
      . rename_i h1 h2
        have:a=b:=by apply UInt8.toNat_inj.1;rw[afJ]at h1 h2;omega
        simp[this,ih]
def afK:∀a b:List UInt8,Lib.compareBytes b a=-Lib.compareBytes a b
  |[],[]=>by simp[Lib.compareBytes]
  |[],_::_=>by simp[Lib.compareBytes]
  |_::_,[]=>by simp[Lib.compareBytes]
  |a::xs,b::ys=>by
    unfold Lib.compareBytes;have ih:=afK xs ys;by_cases h1:a<b
    . have h2:¬b<a:=by rw[afJ]at h1|-;omega
      simp[h1,h2]
    . by_cases h2:b<a
      .simp[h1,h2]
      .simp[h1,h2,ih]
def ae7:∀a b c:List UInt8,Lib.compareBytes a b<0->Lib.compareBytes b c<0->Lib.compareBytes a c<0
  |[],b,[],h1,h2=>by cases b<;>simp[Lib.compareBytes]at h1 h2
  |[],b,_::_,_,_=>by simp[Lib.compareBytes]
  |_::_,[],c,h1,_=>by simp[Lib.compareBytes]at h1
  |_::_,_::_,[],_,h2=>by simp[Lib.compareBytes]at h2
  |a::xs,b::ys,c::zs,h1,h2=>by
    unfold Lib.compareBytes at*;simp only[afJ]at*;have ih:=ae7 xs ys zs;split at h1
    . split at h2
      .rw[bM (by omega)];omega
      . split at h2
        .omega
        .rw[bM (by omega)];omega
    . split at h1
      .omega
      . split at h2
        .rw[bM (by omega)];omega
        . split at h2
          .omega
          . rw[aX (by omega),aX (by omega)]
            exact ih h1 h2
def Zh(p q:Pt):Int:=if Lib.compareBytes p.1.data.toList q.1.data.toList≠0 then Lib.compareBytes p.1.data.toList q.1.data.toList else Lib.compareInt p.2 q.2
def afT(x y:Int):Lib.compareInt x y=0↔x=y:=by unfold Lib.compareInt;(repeat' split)<;>omega
def af8(x y:Int):Lib.compareInt y x=-Lib.compareInt x y:=by unfold Lib.compareInt;(repeat' split)<;>omega
def af3(x y:Int):Lib.compareInt x y<0↔x<y:=by unfold Lib.compareInt;(repeat' split)<;>omega
def aeF(p q:Pt):Zh p q=0↔p=q:=by
  unfold Zh;by_cases h:Lib.compareBytes p.1.data.toList q.1.data.toList=0
  . rw[aX (by simpa using h),afT]
    have:=(rH _ _).1 h;constructor
    . intro e
      exact Prod.ext (by
        have h1:p.1.data=q.1.data:=by apply Array.ext';exact this
        cases hp:p.1;cases hq:q.1;rw[hp,hq]at h1;simp at h1;rw[h1]) e
    .intro e;rw[e]
  . rw[bM h]
    constructor;.intro e;exact absurd e h
    .intro e;exact absurd ((rH _ _).2 (by rw[e])) h
def ae8(p q:Pt):Zh q p=-Zh p q:=by
  unfold Zh;rw[afK p.1.data.toList q.1.data.toList,af8 p.2 q.2];by_cases h:Lib.compareBytes p.1.data.toList q.1.data.toList=0;.simp[h]
  .rw[bM h,bM (by omega)]
def aeN{p q r:Pt}(h1:Zh p q<0)(h2:Zh q r<0):Zh p r<0:=by
  unfold Zh at*;by_cases e1:Lib.compareBytes p.1.data.toList q.1.data.toList=0
  . rw[aX (by simpa using e1)]at h1
    have:=(rH _ _).1 e1;rw[this];by_cases e2:Lib.compareBytes q.1.data.toList r.1.data.toList=0
    . rw[aX (by simpa using e2)]at h2
      rw[aX (by simpa using e2)];rw[af3]at*;omega
    . rw[bM e2]at h2|-
      exact h2
  . rw[bM e1]at h1
    by_cases e2:Lib.compareBytes q.1.data.toList r.1.data.toList=0
    . have:=(rH _ _).1 e2
      rw[<-this,bM e1];exact h1
    . rw[bM e2]at h2
      have:=ae7 _ _ _ h1 h2;rw[bM (by omega)];exact this
def ltC(x y:kO):ltOf afr x y=true↔Zh x.pt y.pt<0:=decide_eq_true_iff
def afh(x y:kO):ltOf afr x y=false↔¬Zh x.pt y.pt<0:=O8
def agi:SWO (ltOf afr) where
  irrefl x:=by rw[afh,(aeF _ _).2 rfl];omega
  trans x y z h1 h2:=by rw[ltC]at*;exact aeN h1 h2
  ntrans x y z h1 h2:=by
    rw[afh]at*;intro h;rcases Int.lt_trichotomy (Zh y.pt z.pt) 0 with h3|h3|h3;.exact h2 h3
    .rw[(aeF _ _).1 h3]at h1;exact h1 h
    . have:Zh z.pt y.pt<0:=by rw[ae8];omega
      exact h1 (aeN h this)
end Go.Proofs.aH
namespace Go.Proofs.aH
def afm:∀a b:List UInt8,Op.bytesLess a b=true↔Lib.compareBytes a b<0
  |[],[]=>by simp[Op.bytesLess,Lib.compareBytes]
  |[],_::_=>by simp[Op.bytesLess,Lib.compareBytes]
  |_::_,[]=>by simp[Op.bytesLess,Lib.compareBytes]
  |a::xs,b::ys=>by
    unfold Op.bytesLess Lib.compareBytes;have ih:=afm xs ys;by_cases h1:a<b;.simp[h1]
    . by_cases h2:b<a
      . have:a≠b:=λe=>by subst e;exact UInt8.lt_irrefl _ h2
        simp[h1,h2,this]
      . have:a=b:=by apply UInt8.toNat_inj.1;rw[UInt8.lt_iff_toNat_lt]at h1 h2;omega
        subst this;simp[ih]
def afz{y x:ByteArray}{yi xi:Int}(h:Zh (y,yi) (x,xi)<0):(Op.bytesLess y.toList x.toList=true/\y≠x)\/(y=x/\yi<xi):=by
  unfold Zh at h;by_cases e:Lib.compareBytes y.data.toList x.data.toList=0
  . rw[aX (by simpa using e),af3]at h
    have:=(rH _ _).1 e;refine .inr ⟨?_,h⟩;have h1:y.data=x.data:=by apply Array.ext';exact this
    cases y;cases x;simp at h1;rw[h1]
  . rw[bM e]at h
    refine .inl ⟨?_,λe'=>e ((rH _ _).2 (by rw[e']))⟩;rw[afm,ByteArray.toList_eq,ByteArray.toList_eq];exact h
end Go.Proofs.aH
namespace Go.Proofs.aH
open Go.RowKit Go.Sort
def afL:=@Array.getElem?_toList
def af4:=@List.getElem!_eq_getElem?_getD
instance:Inhabited kO:=⟨⟨⟨#[]⟩,0,0,⟨#[]⟩,0⟩⟩
def nk(c:kO):List Value:=vT (some c)
def abY(c:kO):(nk c).length=6:=rfl
def tq:∀(l:List kO) (t:Nat),t<l.length*6->(dg l)[t]?=some ((nk l[t/6]!)[t%6]!)
  |[],t,h=>by simp at h
  |c::l,t,h=>by
    have e:dg (c::l)=nk c++dg l:=by simp[dg,nk]
    rw[e];by_cases ht:t<6
    . rw[pK (by rw[abY];exact ht),Nat.div_eq_of_lt ht,OP ht]
      have:t<(nk c).length:=by rw[abY];exact ht
      simp[this]
    . rw[eZ (by rw[abY];omega),abY,tq l (t -6) (by simp at h;omega)]
      have e1:t/6=(t -6)/6+1:=by omega
      have e2:t%6=(t -6)%6:=by omega
      rw[e1,e2];rfl
def afU(d:Array kO):(flatK nk 6 d).toList=dg d.toList:=by
  apply qf;intro t;by_cases ht:t<d.size*6
  . rw[tq d.toList t (by simpa using ht)]
    have:=get_flatK nk 6 d t ht;rw[afL,o9 (by simpa using ht)];rw[getElem!_pos _ t (by simpa using ht)]at this;rw[this];have e:d.toList[t/6]! =d[t/6]!:=by simp[af4,Array.getElem!_eq_getD,OQ]
    rw[e]
  .rw[aa2 (by simp;omega),aa2 (by rw[acQ];simp;omega)]
def afv{B g cap:Nat}{w:World}{E:List kO}(h:w.ownsRow B 60 6 (.slice (some ⟨g,0,none⟩) E.length cap) E.length (dg E)):HoldsK nk 6 w g 0 E.toArray:=by
  intro j hj;rw[size_flatK]at hj;have e1:(flatK nk 6 E.toArray)[j]! =(nk E[j/6]!)[j%6]!:=by rw[get_flatK _ _ _ _ hj];congr 2;simp[af4,Array.getElem!_eq_getD,OQ]
  have h1:=tq E j (by simpa using hj);have hc:=h.cells (g:=g) rfl j _ h1;rw[add0]at hc;rw[jF,e1];refine⟨hc,?_⟩;obtain⟨hv,_⟩|⟨g',cap',cur,hv,_,hb,_⟩:=h.2;.cases hv
  . simp only[Value.slice.injEq,oC,Addr.mk.injEq]at hv
    obtain⟨⟨rfl,_⟩,_⟩:=hv;simp[World.frozen?,hb]
def aeT{g n k:Nat}{w:World}{d:Array kO}{os:Array Obj}(hk:k<w.heap.size):(sortWorldK nk 6 w g 0 n d os).heap[k]?=if g=k then(w.heap[k]?).map (onCells (putCells id 0 (flatK nk 6 d)))else w.heap[k]?:=by show((w.heap.modify g (onCells (putCells id 0 (flatK nk 6 d))))++os)[k]?=_;rw[aaS (by simpa using hk),OX]
def afV{g n:Nat}{w:World}{d:Array kO}{os:Array Obj}:Xc (λk=>k=g) w (sortWorldK nk 6 w g 0 n d os):=by
  refine⟨rfl,rfl,rfl,?_,λk hk hn=>?_⟩
  . show _<=((w.heap.modify g (onCells (putCells id 0 (flatK nk 6 d))))++os).size
    simp
  .rw[aeT hk,aX (λe=>hn e.symm)]
def afi{B g cap n:Nat}{w:World}{E:List kO}{d:Array kO}{os:Array Obj}(h:w.ownsRow B 60 6 (.slice (some ⟨g,0,none⟩) E.length cap) E.length (dg E))(hd:d.size=E.length):(sortWorldK nk 6 w g 0 n d os).ownsRow B 60 6 (.slice (some ⟨g,0,none⟩) E.length cap) E.length (dg d.toList):=by
  refine⟨by rw[acQ];simp[hd],.inr ?_⟩;obtain⟨hv,_⟩|⟨g',cap',cur,hv,hB,hb,h1,h2,h3,h4⟩:=h.2;.cases hv
  . simp only[Value.slice.injEq,oC,Addr.mk.injEq]at hv
    obtain⟨⟨rfl,_⟩,_,rfl⟩:=hv;have hlt:g<w.heap.size:=(eK.1 hb).1;refine⟨g,cap,putCells id 0 (flatK nk 6 d) cur,rfl,hB,?_,h1,h2,by simp[putCells,h3],?_⟩
    . rw[aeT hlt,bM rfl,hb]
      rfl
    . rw[<-afU]
      apply qf;intro j;by_cases hj:j<E.length*6
      . have hjc:j<cur.size:=by rw[h3];exact eQ hj (Nat.mul_le_mul_right 6 h1)
        have hjf:j<(flatK nk 6 d).size:=by rw[size_flatK,hd];exact hj
        rw[List.getElem?_take_of_lt hj,afL,afL];simp[putCells,hjc,hd,hj]
      .rw[aa2 (by simp;omega),aa2 (by simp[hd];omega)]
end Go.Proofs.aH
namespace Go.Proofs
open Go.Shelf
def aI.aeZ:Go.Shelf.Ren:=⟨fun|6=>107|15=>147|14=>146|28=>184|29=>185|20=>176|21=>177|22=>178|23=>179|24=>180|25=>181|26=>182|27=>183|46=>209|47=>210|48=>211|49=>212|50=>213|57=>225|n=>n,fun|22=>53|24=>60|25=>218|3=>3|39=>254|0=>0|53=>111|55=>83|4=>4|46=>279|45=>278|50=>283|5=>5|9=>9|66=>307|70=>311|76=>327|77=>287|n=>n,λn=>n⟩
def aI.afH:SlLaysF0.n6 aI.prog aI.aeZ where
  mixed:=by kernel_rfl
  f6:=⟨Tryz.f107.name,by decide,aI.aQ (Tryz.func107.trans (congrArg some (by kernel_rfl)))⟩;f14:=⟨Tryz.f146.name,by decide,aI.aQ (Tryz.func146.trans (congrArg some (by kernel_rfl)))⟩;f15:=aI.aQ (Tryz.func147.trans (congrArg some (by kernel_rfl)));f20:=⟨Tryz.f176.name,by decide,aI.aQ (Tryz.func176.trans (congrArg some (by kernel_rfl)))⟩;f21:=⟨Tryz.f177.name,by decide,aI.aQ (Tryz.func177.trans (congrArg some (by kernel_rfl)))⟩;f22:=⟨Tryz.f178.name,by decide,aI.aQ (Tryz.func178.trans (congrArg some (by kernel_rfl)))⟩;f23:=⟨Tryz.f179.name,by decide,aI.aQ (Tryz.func179.trans (congrArg some (by kernel_rfl)))⟩;f24:=⟨Tryz.f180.name,by decide,aI.aQ (Tryz.func180.trans (congrArg some (by kernel_rfl)))⟩;f25:=⟨Tryz.f181.name,by decide,aI.aQ (Tryz.func181.trans (congrArg some (by kernel_rfl)))⟩;f26:=⟨Tryz.f182.name,by decide,aI.aQ (Tryz.func182.trans (congrArg some (by kernel_rfl)))⟩;f27:=⟨Tryz.f183.name,by decide,aI.aQ (Tryz.func183.trans (congrArg some (by kernel_rfl)))⟩;f28:=aI.aQ (Tryz.func184.trans (congrArg some (by kernel_rfl)));f29:=aI.aQ (Tryz.func185.trans (congrArg some (by kernel_rfl)));f46:=⟨Tryz.f209.name,by decide,aI.aQ (Tryz.func209.trans (congrArg some (by kernel_rfl)))⟩;f47:=aI.aQ (Tryz.func210.trans (congrArg some (by kernel_rfl)));f48:=aI.aQ (Tryz.func211.trans (congrArg some (by kernel_rfl)));f49:=⟨Tryz.f212.name,by decide,aI.aQ (Tryz.func212.trans (congrArg some (by kernel_rfl)))⟩;f50:=⟨Tryz.f213.name,by decide,aI.aQ (Tryz.func213.trans (congrArg some (by kernel_rfl)))⟩;f57:=⟨Tryz.f225.name,by decide,aI.aQ (Tryz.func225.trans (congrArg some (by kernel_rfl)))⟩;t0:=aI.jS Tryz.underlying0;a0:=aI.fC Tryz.isAgg0;z0:=aI.dM Tryz.sizeOf0;v0:=aI.lB Tryz.zeroValue0;t3:=aI.jS Tryz.underlying3;a3:=aI.fC Tryz.isAgg3;z3:=aI.dM Tryz.sizeOf3;v3:=aI.lB Tryz.zeroValue3;t4:=aI.jS Tryz.underlying4;a4:=aI.fC Tryz.isAgg4;z4:=aI.dM Tryz.sizeOf4;v4:=aI.lB Tryz.zeroValue4;t5:=aI.jS Tryz.underlying5;a5:=aI.fC Tryz.isAgg5;z5:=aI.dM Tryz.sizeOf5;v5:=aI.lB Tryz.zeroValue5;t9:=aI.jS Tryz.underlying9;a9:=aI.fC Tryz.isAgg9;z9:=aI.dM Tryz.sizeOf9;v9:=aI.lB Tryz.zeroValue9;t22:=aI.jS Tryz.underlying53;a22:=aI.fC Tryz.isAgg53;z22:=aI.dM Tryz.sizeOf53;v22:=aI.lB Tryz.zeroValue53;t25:=aI.jS Tryz.underlying218;a25:=aI.fC Tryz.isAgg218;z25:=aI.dM Tryz.sizeOf218;v25:=aI.lB Tryz.zeroValue218;t39:=aI.jS Tryz.underlying254;a39:=aI.fC Tryz.isAgg254;z39:=aI.dM Tryz.sizeOf254;v39:=aI.lB Tryz.zeroValue254;t45:=aI.jS Tryz.underlying278;a45:=aI.fC Tryz.isAgg278;z45:=aI.dM Tryz.sizeOf278;v45:=aI.lB Tryz.zeroValue278;t46:=aI.jS Tryz.underlying279;a46:=aI.fC Tryz.isAgg279;z46:=aI.dM Tryz.sizeOf279;v46:=aI.lB Tryz.zeroValue279;t50:=aI.jS Tryz.underlying283;a50:=aI.fC Tryz.isAgg283;z50:=aI.dM Tryz.sizeOf283;v50:=aI.lB Tryz.zeroValue283;t53:=aI.jS Tryz.underlying111;a53:=aI.fC Tryz.isAgg111;z53:=aI.dM Tryz.sizeOf111;v53:=aI.lB Tryz.zeroValue111;t55:=aI.jS Tryz.underlying83;a55:=aI.fC Tryz.isAgg83;z55:=aI.dM Tryz.sizeOf83;v55:=aI.lB Tryz.zeroValue83;t66:=aI.jS Tryz.underlying307;a66:=aI.fC Tryz.isAgg307;z66:=aI.dM Tryz.sizeOf307;v66:=aI.lB Tryz.zeroValue307;t70:=aI.jS Tryz.underlying311;a70:=aI.fC Tryz.isAgg311;z70:=aI.dM Tryz.sizeOf311;v70:=aI.lB Tryz.zeroValue311;t76:=aI.jS Tryz.underlying327;a76:=aI.fC Tryz.isAgg327;z76:=aI.dM Tryz.sizeOf327;v76:=aI.lB Tryz.zeroValue327;t77:=aI.jS Tryz.underlying287;a77:=aI.fC Tryz.isAgg287;z77:=aI.dM Tryz.sizeOf287;v77:=aI.lB Tryz.zeroValue287
end Go.Proofs
namespace Go.Proofs.aH
open Go.RowKit Go.Sort
def aeD(D:List kO):Prop:=∀(i j:Nat) (x y:kO),i<j->D[i]?=some x->D[j]?=some y->¬Zh y.pt x.pt<0
def aeD.lt{D:List kO}(h:aeD D)(hn:(D.map kO.pt).Nodup){i j:Nat}{x y:kO}(hij:i<j)(hx:D[i]?=some x)(hy:D[j]?=some y):Zh x.pt y.pt<0:=by
  have h1:=h i j x y hij hx hy;have h2:x.pt≠y.pt:=λe=>by
    have h3:(D.map kO.pt)[i]?=some x.pt:=by rw[fW,hx];rfl
    have h4:(D.map kO.pt)[j]?=some x.pt:=by rw[fW,hy,e];rfl
    obtain⟨hi,hi2⟩:=eJ.1 h3;obtain⟨hj,hj2⟩:=eJ.1 h4;exact List.pairwise_iff_getElem.1 hn i j hi hj hij (hi2.trans hj2.symm)
  have h5:Zh x.pt y.pt≠0:=λe=>h2 ((aeF _ _).1 e);rw[ae8 x.pt y.pt]at h1;omega
def afw{B g cap:Nat}(E:List kO)(w:World)(h:w.ownsRow B 60 6 (.slice (some ⟨g,0,none⟩) E.length cap) E.length (dg E))(hl:E.length<=100000):Calls aI.prog 107 #[.slice (some ⟨g,0,none⟩) E.length cap,.func (.func 108) #[] #[]] w λe w'=>e=.returned (.tuple #[])/\∃D,D.Perm E/\aeD D/\w'.ownsRow B 60 6 (.slice (some ⟨g,0,none⟩) E.length cap) E.length (dg D)/\Xc (λk=>k=g) w w':=by
  have hb:=(jE h g rfl).2;have hs:=AnyQ.slices_SortFunc aI.afH 6 (λw=>aI.fC Tryz.isAgg60 w) (λw=>aI.dM Tryz.sizeOf60 w) nk abY (λx v hv=>by simp[nk,vT]at hv;obtain rfl|rfl|rfl|rfl|rfl|rfl:=hv<;>rfl) afr agi 108 #[] g 0 cap E.toArray w (enters_of aI.func108 (by kernel_rfl) rfl) (λ_ _ _ _ x y=>ae3 x y _) (afv h) hb (by simp;omega);change Calls aI.prog 107 _ _ _ at hs;rw[pM]at hs;refine hs.mono ?_;rintro e w' ⟨rfl,d,n,os,hp,hso,rfl⟩;have hd:d.size=E.length:=by have:=hp.1;simpa using this
  have hpm:d.toList.Perm E:=by
    have:=hp.2.2;have e1:(d.extract 0 E.length).toList=d.toList:=by rw[<-hd];simp
    rw[e1]at this;simpa using this
  refine⟨rfl,d.toList,hpm,λi j x y hij hx hy=>?_,afi h hd,afV⟩;have hjl:j<d.size:=by have:=(eJ.1 hy).1;simpa using this
  have h1:=hso i j (eX _) hij (by rw[<-hd];exact hjl);rw[afh]at h1;have ex:d[i]! =x:=by rw[Array.getElem?_toList]at hx;rw[getElem!_pos d i (by omega)];exact(eK.1 hx).2
  have ey:d[j]! =y:=by rw[Array.getElem?_toList]at hy;rw[getElem!_pos d j hjl];exact(eK.1 hy).2
  rwa [ex,ey]at h1
end Go.Proofs.aH
namespace Go.Proofs.aH
def ae4{α β:Type}[DecidableEq β](f:α->β):∀(l:List α),(l.map f).Nodup->∀e∈l,l.Perm (e::l.filter λx=>decide (f x≠f e))
  |[],_,_,h=>by cases h
  |x::l,hn,e,h=>by
    simp only[qM,List.nodup_cons]at hn;obtain rfl|h:=gA.1 h;.rw[List.filter_cons_of_neg (by simp),List.filter_eq_self.2 (λy hy=>by have:f y≠f e:=λe'=>hn.1 (e'▸A3 (f:=f) hy);simpa using this)]
    . have hx:f x≠f e:=λe'=>hn.1 (e'▸A3 (f:=f) h)
      rw[List.filter_cons_of_pos (by simpa using hx)];exact((ae4 f l hn.2 e h).cons x).trans (List.Perm.swap _ _ _)
structure ng(K:mO)(C:List kO):Prop where
  nd:(C.map kO.pt).Nodup
  mem:∀c,c∈C->K c.pt=some c
  all:∀p c,K p=some c->c∈C/\c.pt=p
def na(C:List kO):Int:=(C.map kO.val).sum
def aeE(c:kO)(C:List kO):na (c::C)=c.val+na C:=by simp[na]
def aeR{C D:List kO}(h:C.Perm D):na C=na D:=by unfold na;induction h with
  |nil=>rfl
  |cons x _ ih=>simp[ih]
  |swap x y l=>simp;omega
  |trans _ _ h1 h2=>exact h1.trans h2
def ng.take{K:mO}{C:List kO}{p:Pt}{c:kO}(h:ng K C)(hk:K p=some c):∃D,ng (K.take p) D/\na C=c.val+na D/\D.length<=C.length:=by
  obtain⟨hm,hp⟩:=h.all p c hk;refine⟨C.filter λx=>decide (x.pt≠c.pt),⟨?_,λd hd=>?_,λq d hq=>?_⟩,?_⟩;.exact List.Nodup.sublist (List.Sublist.map _ List.filter_sublist) h.nd
  . have hd':=List.mem_filter.1 hd
    have:d.pt≠p:=by rw[<-hp];simpa using hd'.2
    unfold mO.take;rw[aX this];exact h.mem d hd'.1
  . unfold mO.take at hq
    by_cases e:q=p;.rw[bM e]at hq;cases hq
    . rw[aX e]at hq
      obtain⟨h1,h2⟩:=h.all q d hq;exact⟨List.mem_filter.2 ⟨h1,by rw[h2,hp];simpa using e⟩,h2⟩
  .exact⟨by rw[aeR (ae4 kO.pt C h.nd c hm),aeE],Uc _ _⟩
def ng.put{K:mO}{C:List kO}{c:kO}(h:ng K C)(hk:K c.pt=none):ng (K.put c) (c::C):=by
  have hne:∀d∈C,d.pt≠c.pt:=λd hd e=>by have:=h.mem d hd;rw[e,hk]at this;cases this
  refine⟨?_,λd hd=>?_,λq d hq=>?_⟩
  . rw[qM,List.nodup_cons]
    exact⟨λhm=>by obtain⟨d,hd,e⟩:=jV.1 hm;exact hne d hd e,h.nd⟩
  . unfold mO.put
    obtain rfl|hd:=gA.1 hd;.rw[bM rfl]
    .rw[aX (hne d hd)];exact h.mem d hd
  . unfold mO.put at hq
    by_cases e:q=c.pt
    . rw[bM e]at hq
      cases hq;exact⟨Jk,e.symm⟩
    . rw[aX e]at hq
      obtain⟨h1,h2⟩:=h.all q d hq;exact⟨Pb _ h1,h2⟩
def Ix8(K:mO):Prop:=∀p c,K p=some c->0<=p.2/\p.2<8
def Ix8.take{K:mO}(h:Ix8 K)(p:Pt):Ix8 (K.take p):=λq c hq=>by
  unfold mO.take at hq;split at hq;.cases hq
  .exact h q c hq
def Ix8.put{K:mO}(h:Ix8 K)(c:kO)(hc:0<=c.idx/\c.idx<8):Ix8 (K.put c):=λq d hq=>by
  unfold mO.put at hq;split at hq;.rename_i e;rw[e];exact hc
  .exact h q d hq
def ae5(id:ByteArray)(h:Int):∀(l:List jR) (sp:Int) (s:JS) (C:List kO),ng s.K C->Ix8 s.K->∃D,ng (nP id h l sp s).2.2.K D/\Ix8 (nP id h l sp s).2.2.K/\na D+(nP id h l sp s).2.1=na C+sp/\(nP id h l sp s).2.2.iU=s.iU/\D.length<=C.length
  |[],sp,s,C,hC,h8=>⟨C,hC,h8,rfl,rfl,I9 _⟩
  |x::r,sp,s,C,hC,h8=>by unfold nP;cases hk:s.K (x.tx,x.idx)with
    |none=>exact⟨C,hC,h8,rfl,rfl,I9 _⟩
    |some c=>obtain⟨D,hD,hs,hdl⟩:=hC.take hk;obtain⟨E,hE,e8,h1,h2,h3⟩:=ae5 id h r (sp+c.val) {s with K:=s.K.take (x.tx,x.idx),steps:=s.steps++[⟨c,false⟩],cC:=s.cC++[⟨x.key,c.lock,id,h⟩]} D hD (h8.take _);exact⟨E,hE,e8,by simp only;omega,h2,bT h3 hdl⟩
def aeS(id:ByteArray)(h:Int):∀(l:List eY) (i:Nat) (s:JS) (C:List kO),ng s.K C->Ix8 s.K->i+l.length<=8->(∀j:Nat,i<=j->j<8->s.K (id,(j:Int))=none)->∃D,ng (mP id h l i s).K D/\Ix8 (mP id h l i s).K/\na D=na C+fU l/\(mP id h l i s).iU=s.iU/\D.length=C.length+l.length
  |[],i,s,C,hC,h8,_,_=>⟨C,hC,h8,by simp[fU],rfl,rfl⟩
  |o::r,i,s,C,hC,h8,hl,hn=>by
    simp only[fH]at hl;unfold mP;have hput:=hC.put (c:=⟨id,i,o.val,o.lock,h⟩) (hn i (I9 _) (by omega));obtain⟨D,hD,d8,h1,h2,h3⟩:=aeS id h r (i+1) {s with K:=s.K.put ⟨id,i,o.val,o.lock,h⟩,steps:=s.steps++[⟨⟨id,i,o.val,o.lock,h⟩,true⟩]} _ hput (h8.put _ ⟨FP _,by show(i:Int)<8;omega⟩) (by omega) (λj hj hj8=>by show mO.put _ _ _=none;unfold mO.put;rw[aX,hn j (by omega) hj8];intro e;have:=congrArg Prod.snd e;simp[kO.pt]at this;omega)
    exact⟨D,hD,d8,by rw[h1,aeE];simp only[fU];omega,h2,by rw[h3];simp;omega⟩
def afI{K:mO}{id:ByteArray}(h:anyM K id=false)(j:Nat)(hj:j<8):K (id,(j:Int))=none:=by unfold anyM at h;rw[Ux]at h;have:=h j (by simp;omega);cases hk:K (id,(j:Int))with
  |none=>rfl
  |some c=>rw[hk]at this;simp at this
def aeI(x:RN)(h:Int)(s:JS)(C:List kO)(hC:ng s.K C)(h8:Ix8 s.K)(hl:x.outs.length<=8)(h0:(eW x h s).1=0):∃D,ng (eW x h s).2.K D/\Ix8 (eW x h s).2.K/\na D=na C+fU x.outs/\(eW x h s).2.iU=s.iU/\D.length<=C.length+8/\x.outs.length<=D.length:=by
  unfold eW at h0|-;cases ha:anyM s.K x.id with
  |true=>rw[ha]at h0;simp at h0
  |false=>obtain⟨D,h1,h2,h3,h4,h5⟩:=aeS x.id h x.outs 0 s C hC h8 (by omega) (λj _ hj=>afI ha j hj);exact⟨D,by simpa using h1,by simpa using h2,h3,by simpa using h4,by omega,by omega⟩
def afs(x:RN)(h:Int)(s:JS)(C:List kO)(hC:ng s.K C)(h8:Ix8 s.K)(hl:x.outs.length<=8)(h0:(fS x h s).1=0):∃D,ng (fS x h s).2.K D/\Ix8 (fS x h s).2.K/\na D+(fS x h s).2.iU=na C+s.iU/\D.length<=C.length+8:=by
  obtain⟨D,hD,d8,h1,h2,hl1⟩:=ae5 x.id h x.ins 0 s C hC h8;unfold fS at h0|-;simp only at h0|-;split at h0;.rename_i hne;exact absurd h0 hne
  . split at h0
    .simp at h0
    . rename_i hne cB
      rw[aX hne,aX cB];obtain⟨E,hE,e8,h3,h4,hl2,_⟩:=aeI x h {(nP x.id h x.ins 0 s).2.2 with iU:=(nP x.id h x.ins 0 s).2.2.iU+((nP x.id h x.ins 0 s).2.1 -fU x.outs)} D hD d8 hl h0;exact⟨E,hE,e8,by rw[h3,h4];simp only;omega,by omega⟩
def aeM(h:Int):∀(l:List RN) (s:JS) (C:List kO),ng s.K C->Ix8 s.K->(∀x∈l,x.outs.length<=8)->(jP h l s).1=0->∃D,ng (jP h l s).2.K D/\Ix8 (jP h l s).2.K/\na D+(jP h l s).2.iU=na C+s.iU/\D.length<=C.length+8*l.length
  |[],s,C,hC,h8,_,_=>⟨C,hC,h8,rfl,I9 _⟩
  |x::r,s,C,hC,h8,hl,h0=>by
    unfold jP at h0|-;simp only at h0|-;split at h0;.rename_i hne;exact absurd h0 hne
    . rename_i he
      rw[aX he];obtain⟨D,hD,d8,h1,hl1⟩:=afs x h s C hC h8 (hl x (by simp)) (by simpa using he);obtain⟨E,hE,e8,h2,hl2⟩:=aeM h r (fS x h s).2 D hD d8 (λy hy=>hl y (by simp[hy])) h0;exact⟨E,hE,e8,by omega,by simp only[fH];omega⟩
def aft{most:Nat}{su h:Int}{dH:List RN}{mem:List cH}{K:mO}{steps:List iT}{C:List kO}(hC:ng K C)(h8:Ix8 K)(hl:∀x∈dH,x.outs.length<=8)(hl1:∀x∈dH,1<=x.outs.length)(hne:dH≠[])(h0:(dG most su h dH mem K steps).1=0):∃D,ng (dG most su h dH mem K steps).2.1.K D/\Ix8 (dG most su h dH mem K steps).2.1.K/\na D<=na C+su/\D.length<=C.length+8*dH.length/\1<=D.length:=by
  unfold dG at h0|-;simp only at h0|-;split at h0;.rename_i hne;exact absurd h0 hne
  . rename_i he
    rw[aX he];obtain⟨D,hD,d8,h1,hll⟩:=aeM h (dH.drop 1) ⟨K,steps,0,[]⟩ C hC h8 (λx hx=>hl x (Uw hx)) (by simpa using he);cases dH with
    |nil=>exact absurd rfl hne
    |cons x r=>
      simp only at h0|-;split at h0;.rename_i hne;exact absurd h0 hne
      . rename_i hm
        rw[aX hm];have hm0:(jX x h su (jP h (List.drop 1 (x::r)) ⟨K,steps,0,[]⟩).2).1=0:=by simpa using hm
        unfold jX at hm0|-;split at hm0;.simp at hm0
        . rename_i cB
          rw[aX cB];obtain⟨E,hE,e8,h3,h4,hl2,hl3⟩:=aeI x h (jP h (List.drop 1 (x::r)) ⟨K,steps,0,[]⟩).2 D hD d8 (hl x (by simp)) hm0;exact⟨E,hE,e8,by simp only at h1;omega,by simp only[fH,List.drop_succ_cons,List.drop_zero]at hll|-;omega,bT (hl1 x (by simp)) hl3⟩
structure Sup(c:lA)(a:AN):Prop where
  it:∃C,ng a.K C/\na C<=c.su*(a.cB:Int)/\C.length<=64*a.cB/\1<=C.length
  ix:Ix8 a.K
  hl:a.cB<=a.ids.length
def ae6{s:List UInt8}{b:vH}(h:mZ s=some b):∀x∈b.dH.map YL,1<=x.outs.length/\x.outs.length<=8:=λx hx=>by obtain⟨t,ht,rfl⟩:=jV.1 hx;obtain⟨i,hi⟩:=Ur ht;have h1:=((qy b).1 (zo h).1).2.2.2.2 i t hi;have h2:=((zk t _).1 h1).2.2.1;show 1<=t.outs.length/\t.outs.length<=8;omega
def afS{s:List UInt8}{b:vH}(h:mZ s=some b):1<=(b.dH.map YL).length/\(b.dH.map YL).length<=8:=by have:=((qy b).1 (zo h).1).2.2.2.1;rw[iB];omega
def Sup.sub{c:lA}{a:AN}(h:Sup c a)(s:List UInt8):Sup c (fN c a s).2.2:=by unfold fN;cases hd:mZ s with
  |none=>exact h
  |some b=>
    simp only;split;.exact h
    . split
      . rename_i h0
        obtain⟨C,hC,hs,hcl,_⟩:=h.it;have h3:=afS hd;obtain⟨D,hD,d8,h1,h2,h4⟩:=aft (most:=c.me.toNat) (su:=c.su) (h:=((a.cB+1:Nat):Int)) (mem:=a.mem) (steps:=[]) hC h.ix (λx hx=>(ae6 hd x hx).2) (λx hx=>(ae6 hd x hx).1) (λe=>by rw[e]at h3;simp at h3) h0;refine⟨⟨D,hD,?_,by show D.length<=64*(a.cB+1);omega,h4⟩,d8,by have:=h.hl;show a.cB+1<=(a.ids++[iL s]).length;simp;omega⟩;show na D<=c.su*((a.cB+1:Nat):Int);have:c.su*((a.cB+1:Nat):Int)=c.su*(a.cB:Int)+c.su:=by rw[Int.natCast_add];simp[Int.mul_add]
        omega
      .exact⟨h.it,h.ix,by have:=h.hl;show a.cB<=(a.ids++[iL s]).length;simp;omega⟩
def afu{c:lA}{ids:List ByteArray}{fT:ByteArray}{wo:Int}{mem:List cH}{lo:Nat}(d:kO)(h:d.val<=c.su)(hi:0<=d.idx/\d.idx<8)(hl:1<=ids.length):Sup c ⟨ids,fT,1,wo,mO.put (λ_=>none) d,mem,lo⟩:=by
  have h0:ng (λ_=>none) []:=⟨List.nodup_nil,λc h=>by simp at h,λp c h=>by simp at h⟩;refine⟨⟨[d],h0.put rfl,?_,?_,I9 1⟩,Ix8.put (λp c h=>by cases h) d hi,hl⟩
  . show na [d]<=c.su*((1:Nat):Int)
    simp[na];exact h
  . show 1<=64*1
    omega
end Go.Proofs.aH
namespace Go.Proofs.aH
open Go.RowKit Go.Sort
open Go.Il (lQ Ci)
attribute [local go_sem↓] Go.wp_at_zero Go.wp_at_succ
def afk:=@List.filter_cons_of_pos
def ae9:=@List.filter_cons_of_neg
def afW(w:World):Calls aI.prog 185 #[aC] w λe w'=>e=.returned ↑aA/\w'=w:=by go_enter aI.func185,Tryz.ntmps185;go_wp2_with fail;go_ret;exact⟨by kernel_rfl,rfl⟩
def agc(w:World):Calls aI.prog 147 #[aC] w λe w'=>e=.returned ↑aA/\w'=w:=by go_enter aI.func147,Tryz.ntmps147;go_wp2_with (go_at_call 185;refine(afW _).mono ?_;rintro e w' ⟨rfl,rfl⟩);go_ret;exact⟨rfl,rfl⟩
def afa(v f:Value)(w:World):Calls aI.prog 176 #[v,aA,aA,f] w λe w'=>e=.returned (.tuple #[])/\w'=w:=by
  go_enter aI.func176,Tryz.ntmps176;go_wp2_with fail;go_loopw [8] (λi wr=>i=↑aG/\wr=w) (λ_ _=>0);case atStart=>exact⟨rfl,rfl⟩
  case round=>obtain⟨rfl,rfl⟩:=hrel;go_wp2_with fail;go_end0;exact⟨rfl,rfl⟩
def agd(v f:Value)(w:World):Calls aI.prog 146 #[v,aA,aA,aA,f] w λe w'=>e=.returned (.tuple #[])/\w'=w:=by
  go_enter aI.func146,Tryz.ntmps146;go_wp2_with fail;go_loopw [1,2,3] (λa b l wr=>a=↑aA/\b=↑aA/\l=↑aA/\wr=w) (λ_ _ _ _=>0);case atStart=>exact⟨rfl,rfl,rfl,rfl⟩
  case round=>obtain⟨rfl,rfl,rfl,rfl⟩:=hrel;go_wp2_with (go_at_call 176;refine(afa _ _ _).mono ?_;rintro e w' ⟨rfl,rfl⟩);exact nC (v:=.tuple #[]) (Pm rfl _ _ _) rfl ⟨rfl,rfl⟩
def af9(a:Option Addr)(c:Nat)(f:Value)(w:World):Calls aI.prog 107 #[.slice a 0 c,f] w λe w'=>e=.returned (.tuple #[])/\w'=w:=by go_enter aI.func107,Tryz.ntmps107;go_wp2_with (first|(go_at_call 147;refine(agc _).mono ?_;rintro e w' ⟨rfl,rfl⟩)|(go_at_call 146;refine(agd _ _ _).mono ?_;rintro e w' ⟨rfl,rfl⟩));go_end0;exact⟨rfl,rfl⟩
def aeU(f:kO->Nat)(k:Nat):∀C:List kO,(C.filter (λc=>decide (f c<k+1))).Perm (C.filter (λc=>decide (f c<k))++C.filter (λc=>decide (f c=k)))
  |[]=>.nil
  |c::C=>by
    have ih:=aeU f k C;by_cases h1:f c<k
    . rw[afk (by simp;omega),afk (by simpa using h1),ae9 (by simp;omega)]
      exact ih.cons c
    . by_cases h2:f c=k
      . rw[afk (by simp;omega),ae9 (by simpa using h1),afk (by simpa using h2)]
        exact(ih.cons c).trans List.perm_middle.symm
      . rw[ae9 (by simp;omega),ae9 (by simpa using h1),ae9 (by simpa using h2)]
        exact ih
def Xc.at_{B:Nat}{w w':World}(h:Xc (λq=>B<=q) w w')(w0:World)(hB:B=w0.heap.size)(hb:Below B w0 w):Below B w0 w':=⟨h.os.trans hb.os,h.tape.trans hb.tape,h.output.trans hb.output,bT hb.size h.size,λk hk=>(h.block k (by have:=hb.size;omega) (by omega)).trans (hb.block k hk)⟩
def aeV{B:Nat}{w:World}{e:TypeId}{size n c:Nat}{a:Option Addr}{xs:List Value}(h:w.ownsRow B e size (.slice a n c) n xs)(hn:n≠0):∃g,a=some ⟨g,0,none⟩:=by
  obtain⟨_,h0⟩|⟨g,cap,cur,hv,_⟩:=h.2;.exact absurd h0 hn
  . simp only[Value.slice.injEq]at hv
    exact⟨g,hv.1⟩
def afx{w:World}{m n i:Nat}{K:mO}{C:List kO}(h:fO w m n i K)(hC:ng K C):∃D:List kO,lQ adC w m (D.map AH)/\D.Perm (C.filter λc=>decide (uI n c.pt=i)):=by
  obtain⟨D,hm,h1,h2⟩:=h;refine⟨D,hm,?_⟩;have hD:(D.map kO.pt).Nodup:=by have hk:=hm.keys;rw[uS]at hk;have e:(Prod.fst∘AH)=uF∘kO.pt:=rfl;rw[e,<-uS]at hk;exact(List.pairwise_map.1 hk).imp (λh e=>h (congrArg _ e))
  have hn:∀{l:List kO},(l.map kO.pt).Nodup->l.Nodup:=λhl=>(List.pairwise_map.1 hl).imp (λh e=>h (congrArg _ e));rw[List.perm_ext_iff_of_nodup (hn hD) ((hn hC.nd).sublist List.filter_sublist)];intro c;rw[List.mem_filter];exact⟨λhc=>⟨(hC.all _ c (h1 c hc).1).1,by simpa using(h1 c hc).2⟩,λhc=>h2 _ c (hC.mem c hc.1) (by simpa using hc.2)⟩
def afX{gs n:Nat}{sb mb:Nat->Nat}{K:mO}(C:List kO)(w:World)(h:aU w gs n sb mb K)(hC:ng K C)(hl:C.length<=100000):Calls aI.prog 57 #[.agg #[.slice (some ⟨gs,0,none⟩) n n]] w λe w'=>∃v D,D.Perm C/\aeD D/\e=.returned v/\w'.ownsRow w.heap.size 60 6 v D.length (dg D)/\Below w.heap.size w w':=by
  have hb0:Below w.heap.size w (w.alloc (.cells #[.slice (some ⟨gs,0,none⟩) n n] 125)):=(Below.refl _ _).alloc (I9 _) _;have agm:=h.hi;go_enter aI.func57,Tryz.ntmps57;go_wp2_with fail;go_loopw [3,9] (λl i wr=>∃(k:Nat) (E:List kO),k<=n/\i=.int .i64 k/\Below w.heap.size w wr/\E.Perm (C.filter λc=>decide (uI n c.pt<k))/\wr.ownsRow w.heap.size 60 6 l E.length (dg E)) (λ_ i _=>n -(intOf i).toNat);case atStart=>exact⟨0,[],eX _,rfl,hb0,by simp,iZ _ _ _ _⟩
  case round=>
    obtain⟨k,E,hk,rfl,hb,hE,hO⟩:=hrel;by_cases hkn:k<n
    . have hk0:(0:Int)<=(k:Int):=by omega
      have hk1:(k:Int)<(n:Int):=by omega
      have hW:=h.keep hb;have q0:wr.cell? (gs,k)=some (.pointer (some ⟨sb k,0,none⟩)):=by rw[hW.arr.cell];simp[hkn,ptr]
      have hrow:=hW.sh k hkn;obtain⟨D,hm,hD⟩:=afx (hW.mp k hkn) hC;have hf:=aeU (λc=>uI n c.pt) k C;have hlen:E.length+D.length<=C.length:=by have h1:=hE.length_eq;have h2:=hD.length_eq;have h3:=hf.length_eq;have h4:=Uc (λc:kO=>decide (uI n c.pt<k+1)) C;rw[cK]at h3;omega
      have hsb:sb k<w.heap.size:=(h.sh k hkn).lt;have hmb:mb k<w.heap.size:=(h.mp k hkn).lt;have hap:=aJ (aeX D wr hrow hm hO hsb hmb hb.size (by omega));unfold ptr at hap;replace hE:=aJ hE;replace hD:=aJ hD;replace hf:=aJ hf;obtain⟨la,lc,rfl⟩:=bH hO;clear hrow hm hW hO;go_wp2_with fail;refine hap.out.mono ?_;rintro e w1 ⟨v,D',hp,rfl,hO1,x1⟩;obtain⟨a1,c1,hv1⟩:=bH hO1;subst hv1;go_wp2_with fail;go_roundw;case rel=>
        refine⟨k+1,E++D',by omega,by go_num,x1.at_ w rfl hb,?_,?_⟩
        . refine List.Perm.trans ?_ hf.out.symm
          exact hE.out.append (hp.trans hD.out)
        . have e1:dg (E++D')=dg E++dg D':=by simp[dg]
          rw[e1,cK,hp.length_eq];exact hO1
      case measure=>simp[intOf];omega
    . have hk':k=n:=by omega
      subst hk';have hEC:E.Perm C:=by refine hE.trans ?_;rw[List.filter_eq_self.2 (λc _=>by simpa using zE k c.pt h.lo)]
      have hlE:E.length<=100000:=by rw[hEC.length_eq];exact hl
      obtain⟨la,lc,rfl⟩:=bH hO;by_cases h0:E.length=0
      . have e0:E=[]:=List.length_eq_zero_iff.1 h0
        subst e0;go_wp2_with fail;refine(af9 _ _ _ _).mono ?_;rintro e w2 ⟨rfl,rfl⟩;go_wp2_with fail;go_ret;exact⟨_,[],hEC,λi j x y _ hx=>by simp at hx,rfl,hO,hb⟩
      . obtain⟨g,rfl⟩:=aeV hO h0
        have hs:=aJ (afw E wr hO hlE);have hg:=(jE hO g rfl).1;replace hEC:=aJ hEC;replace hE:=aJ hE;clear hO;go_wp2_with fail;refine hs.out.mono ?_;rintro e w2 ⟨rfl,D,hD,hso,hO2,x2⟩;go_wp2_with fail;go_ret;exact⟨_,D,hD.trans hEC.out,hso,rfl,by rw[hD.length_eq];exact hO2,(x2.mono (S':=λq=>w.heap.size<=q) (λk e=>by subst e;exact hg)).at_ w rfl hb⟩
def afy{nb:Nat}{c:lA}{a:AN}(C:List kO)(w:World)(h:gB w nb c a)(hC:ng a.K C)(hl:C.length<=100000):Calls aI.prog 23 #[ptr nb] w λe w'=>∃v D,D.Perm C/\aeD D/\e=.returned v/\w'.ownsRow w.heap.size 60 6 v D.length (dg D)/\Below w.heap.size w w':=by
  obtain⟨s,hL⟩:=h;have hrow:=hL.row;have nlt:=hrow.lt;unfold ptr;go_enter_defers aI.func23,Tryz.ntmps23;go_wp2_with fail;refine(AK w hL.row).mono ?_;rintro e w2 ⟨rfl,hr2,hw2⟩;obtain⟨hL2,x2⟩:=hL.rlock hr2 hw2;have xw:Xc (λk=>k=nb\/False) w w2:=x2.mono (λk e=>.inl e);have hsz:w2.heap.size=w.heap.size:=by rw[hw2];simp only[World.setCell,AZ]
  have n13:w2.cell? (nb,13)=some (.slice (some ⟨s.gs,0,none⟩) s.n s.n):=by rw[hL2.nd.mem.row.cell];rfl
  have hal:=afX C w2 hL2.aP hC hl;rw[hsz]at hal;replace hal:=aJ hal;replace hsz:=aJ hsz;clear hw2 x2 hr2;go_wp2_with fail;refine hal.out.mono ?_;rintro e w3 ⟨v,D,hD,hso,rfl,hO,hb3⟩;have hr3:Row w3 nb 130 _:=hL2.row.keep (hb3.mono (oz hsz.out)) (by have:=hsz.out;omega);obtain⟨ig,ic,hv1⟩:=bH hO;subst hv1;have x3:Xc (λk=>k=nb\/False) w w3:=xw.trans (S':=λ_=>False) ⟨hb3.os,hb3.tape,hb3.output,hb3.size,λk hk _=>hb3.block k (by have:=hsz.out;omega)⟩ (λ_ _ e=>e.elim);go_wp2_with fail;refine sy (f:=44) (args:=#[.pointer (some ⟨nb,0,none⟩)]) (by simp) (by simp[go_sem]) ?_;refine(sW .returning _ hr3).mono ?_;rintro e u' w4 ⟨rfl,rfl,hr4,hw4⟩;have x4:Xc (λk=>k=nb\/False) w w4:=by rw[hw4];exact x3.setCell _ _ (λ_=>.inl rfl)
  refine⟨_,results_tmp rfl _ _ _,_,D,hD,hso,rfl,?_,(Ls x4 hrow hr4).low⟩;rw[hw4];refine dY hO (λk cs' _ _ hc=>(bO w3 ⟨nb,4,none⟩ _).block k (cE hc) (λe=>?_));simp only[oC]at e;subst e;unfold Row at hr3;rw[hr3]at hc;cases hc
end Go.Proofs.aH
