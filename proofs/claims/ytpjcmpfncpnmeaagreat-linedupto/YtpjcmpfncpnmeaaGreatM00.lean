import Derived.KernelRfl
import Derived.Below
import Derived.Tactics
import GoSem.Step
import Derived.Laws.Sem
set_option linter.all false
set_option maxHeartbeats 4000000
namespace Go
instance:Coe Int Value:=⟨.int .i64⟩
instance:Coe Nat Value:=⟨λn=>.int .i64 n⟩
instance:Coe Unit Value:=⟨λ_=>.slice none 0 0⟩
instance:Coe Unit (List Value):=⟨λ_=>[.string ⟨#[]⟩,.int .i64 0,.int .i64 0,.string ⟨#[]⟩,.int .i64 0,.bool false]⟩
instance:Coe Unit (Array Value):=⟨λ_=>#[.string ⟨#[]⟩,.int .i64 0,.int .i64 0,.string ⟨#[]⟩,.int .i64 0,.bool false]⟩
instance:Coe ByteArray Value:=⟨.string⟩
instance:Coe World Nat:=⟨λw=>w.heap.size⟩
instance:Coe Nat (Option Addr):=⟨λb=>some ⟨b,0,none⟩⟩
instance{b o:Nat}:CoeDep (Nat×Nat) (b,o) Addr:=⟨⟨b,o,none⟩⟩
instance{b o:Nat}:CoeDep (Nat×Nat) (b,o) (Option Addr):=⟨some ⟨b,o,none⟩⟩
structure Co(n:Nat)
instance:Coe (Co 0) Value:=⟨λ_=>.int .i64 0⟩
instance:Coe (Co 1) Value:=⟨λ_=>.string ⟨#[]⟩⟩
instance:Coe (Co 2) Value:=⟨λ_=>.int .u64 0⟩
instance:Coe (Co 3) Value:=⟨λ_=>.bool true⟩
instance:Coe (Co 4) Value:=⟨λ_=>.bool false⟩
instance:Coe (Co 5) Value:=⟨λ_=>.int .i64 1⟩
def aA:Co 0:=⟨⟩
def aB:Co 1:=⟨⟩
def aC:Co 2:=⟨⟩
def aD:Co 3:=⟨⟩
def aF:Co 4:=⟨⟩
def aG:Co 5:=⟨⟩
def O9{p:Prop}(h:p:=by omega):p:=h
def D9{p:Prop}(h:p:=by decide):p:=h
def K8{p:Prop}(h:p:=by kernel_rfl):p:=h
def S8{p:Prop}(h:p:=by simp):p:=h
def E9{p:Prop}(h:p:=by simp[Act.eval]):p:=h
def G9{p:Prop}(h:p:=by go_simp):p:=h
def Z9{p:Prop}(h:p:=by rw[World.size_alloc];omega):p:=h
def L9{n:Nat}:n≤n:=Nat.le_refl n
def B0{B:Nat}{w:World}:RowKit.Below B w w:=RowKit.Below.refl B w
def kV:=@List.mem_append
def pK:=@List.getElem?_append_left
def eJ:=@List.getElem?_eq_some_iff
def ub:=@List.prefix_refl
def qM:=@List.map_cons
def OJ:=@Array.sizeOf_lt_of_mem
def yl:=@Array.ext_getElem?
def kW:=@Array.getElem?_map
def CI:=@Array.mem_of_getElem?
def eQ:=@Nat.lt_of_lt_of_le
def o7:=@Nat.lt_succ_self
def oz:=@Nat.le_of_eq
def se:=@List.eq_nil_of_length_eq_zero
def bT:=@Nat.le_trans
def o8:=@Option.getD_some
def lF:=@decide_eq_false
def nQ:=@decide_eq_true
def aaR:=@Array.eq_empty_iff_forall_not_mem
def T4:=@Nat.ne_of_gt
def yo:=@Array.getElem?_push_lt
def o9:=@Array.getElem?_eq_getElem
def I4:=@Array.getElem?_push_size
def eK:=@Array.getElem?_eq_some_iff
def nA:=@Array.getElem?_setIfInBounds_ne
def OL:=@Array.getElem?_setIfInBounds_self_of_lt
def gN:=@Ne.symm
def dJ:=@Bool.and_eq_true
def uM:=@beq_iff_eq
def AV:=@List.all_eq_true
def yq:=@List.mem_range
def AW:=@Array.all_eq_true_iff_forall_mem
def pd:=@Go.IntKind.wrap_i64
def qb:=@Nat.lt_or_ge
def T6:=@Nat.lt_trichotomy
def nB:=@Int.le_refl
def uN:=@Go.run_make
def CJ:=@Int.toNat_natCast
def T7:=@Array.getElem?_push
def aX:=@if_neg
def OM:=@Array.size_push
def OO:=@Go.size_madeCells
def T8:=@Nat.lt_of_le_of_lt
def eX:=@Nat.zero_le
def aaS:=@Array.getElem?_append_left
def OP:=@Nat.mod_eq_of_lt
def AX:=@Nat.sub_self
def T9:=@List.map_nil
def OQ:=@Array.getD_eq_getD_getElem?
def I5:=@List.getElem?_toArray
def pg:=@List.getElem?_cons_succ
def nR:=@List.getElem?_cons_zero
def pM:=@List.size_toArray
def fH:=@List.length_cons
def jU:=@List.length_nil
def I6:=@Nat.mod_lt
def I7:=@Array.getElem?_eq_none
def pj:=@Nat.not_lt_zero
def OS:=@List.mem_toArray
def gA:=@List.mem_cons
def kF:=@List.not_mem_nil
def kG:=@or_false
def OT:=@Classical.choose_spec
def wP:=@true_and
def sf:=@and_true
def kX:=@Option.some.inj
def I8:=@Option.map_eq_some_iff
def iN:=@Option.map_some
def wQ:=@Nat.eq_zero_or_pos
def oC:=@Option.some.injEq
def aaT:=@Array.getElem_setIfInBounds
def yr:=@List.cons.injEq
def wR:=@if_true
def aaU:=@Array.getElem?_append_right
def I9:=@Nat.le_refl
def FJ:=@Nat.add_zero
def Ua:=@Array.mem_iff_getElem
def Ja:=@Array.getElem?_set_ne
def Ub:=@Nat.add_sub_cancel
def aaV:=@List.length_pos_of_mem
def aaW:=@List.getElem?_eq_none_iff
def eN:=@List.mem_of_getElem?
def Uc:=@List.length_filter_le
def AY:=@And.intro
def Ud:=@Go.World.cells?_some
def cN:=@List.getElem?_eq_getElem
def CK:=@Go.DataW.trod_int
def jV:=@List.mem_map
def nS:=@List.append_nil
def kH:=@List.append_assoc
def OU:=@of_decide_eq_true
def Jb:=@Go.Sem.runT_fst
def OV:=@Go.Sem.run_bind'
def bM:=@if_pos
def Jc:=@Array.map_setIfInBounds
def OW:=@Bool.or_eq_true
def wT:=@if_false
def OX:=@Array.getElem?_modify
def qN:=@Nat.le_succ
def qO:=@Classical.em
def Ue:=@Nat.add_assoc
def Jd:=@Array.size_map
def OY:=@Array.forIn_toList
def aaX:=@Std.Legacy.Range.forIn_eq_forIn_range'
def Je:=@Bool.and_false
def uf:=@Bool.false_eq_true
def Jf:=@Option.map_none
def sj:=@Array.toList_map
def Uf:=@Function.comp_def
def OZ:=@Option.all_some
def Ug:=@Array.foldl_toList
def Uh:=@Array.mapM_eq_mapM_toList
def Ui:=@Nat.zero_mul
def Uj:=@Array.map_append
def iY:=@List.all_cons
def FK:=@List.foldl_cons
def Uk:=@Go.Next.round.injEq
def Ul:=@List.all_append
def FL:=@List.cons_append
def CL:=@Int.lt_of_lt_of_le
def FN:=@Int.ofNat_le
def FO:=@Prod.mk.injEq
def sw:=@List.map_append
def O0:=@Nat.le_add_right
def CM:=@List.nil_append
def yt:=@Option.bind_eq_some_iff
def CN:=@Go.World.cell?_setCell_other
def aaY:=@Go.World.frozen?_setCell
def bB:=@Go.World.size_alloc
def O3:=@Array.getElem?_eq_none_iff
def CO:=@List.getD_eq_getElem?_getD
def Um:=@Nat.add_sub_cancel_left
def eZ:=@List.getElem?_append_right
def aaZ:=@List.getElem?_replicate
def O4:=@Option.bind_some
def yu:=@List.mem_iff_getElem?
def Un:=@Go.GStep.go.injEq
def O5:=@Int.emod_nonneg
def O6:=@Int.emod_lt_of_pos
def aa0:=@Int.tmod_eq_emod_of_nonneg
def ug:=@List.set_append_right
def aa1:=@List.length_replicate
def Uo:=@Int.le_of_lt
def uO:=@List.take_succ_eq_append_getElem
def iZ:=@Go.World.ownsRow_nil
def qc:=@Go.World.ownsRow.alloc
def jE:=@Go.World.ownsRow.lt
def cK:=@List.length_append
def sx:=@Go.World.ownsRow.cells
def acU:=@Array.length_toList
def nC:=@Go.bodyPost_ret
def AZ:=@Array.size_modify
def uP:=@Go.heap_alloc_new
def gF:=@List.mem_singleton
def CP:=@Nat.le_of_lt
def wU:=@Int.eq_ofNat_of_zero_le
def qd:=@List.length_take
def CQ:=@List.length_drop
def wV:=@ne_eq
def Jg:=@not_true_eq_false
def O7:=@not_false_eq_true
def wW:=@decide_eq_true_eq
def O8:=@decide_eq_false_iff_not
def sy:=@Go.leaves_cons
def iB:=@List.length_map
def uh:=@List.getElem?_set_ne
def Pb:=@List.mem_cons_of_mem
def Uq:=@List.take_append_drop
def nT:=@List.length_singleton
def Ur:=@List.getElem?_of_mem
def fW:=@List.getElem?_map
def Us:=@List.flatMap_map
def Jh:=@Int.toNat_of_nonneg
def wX:=@List.getElem_mem
def pN:=@List.take_length
def qf:=@List.ext_getElem?
def aa2:=@List.getElem?_eq_none
def Pd:=@List.flatMap_def
def Pe:=@List.take_add_one
def Pf:=@List.take_of_length_le
def Ut:=@Nat.xor_lt_two_pow
def wY:=@Go.run_underlying
def A0:=@List.drop_eq_getElem_cons
def Pg:=@List.drop_eq_nil_of_le
def Ph:=@Nat.pow_le_pow_right
def FP:=@Int.natCast_nonneg
def Ji:=@List.foldl_append
def jF:=@Nat.zero_add
def Uu:=@List.modify_succ_cons
def Jj:=@List.getElem?_modify
def uQ:=@List.getElem?_mapIdx
def A1:=@Nat.lt_irrefl
def lG:=@Go.World.size_setCell
def Pj:=@beq_eq_false_iff_ne
def sA:=@Or.inl
def Uv:=@List.drop_of_length_le
def A2:=@List.mem_append_left
def Jk:=@List.mem_cons_self
def FQ:=@List.mem_append_right
def Uw:=@List.mem_of_mem_drop
def Ux:=@List.any_eq_false
def aa3:=@Option.isSome_iff_exists
def Uy:=@Nat.zero_lt_one
def Uz:=@Int.mul_comm
def uR:=@List.flatMap_cons
def Pk:=@List.append_toArray
def FR:=@Int.lt_or_le
def FT:=@Int.not_lt
def uS:=@List.map_map
def Jl:=@Go.MapKept.run_getObj_map
def UA:=@Go.MapKept.run_setObj_map
def aa4:=@List.eraseIdx_sublist
def A3:=@List.mem_map_of_mem
def Pm:=@Go.results_none
def Pn:=@Go.Value.agg.injEq
def Po:=@Array.mk.injEq
def Pp:=@Go.Value.string.injEq
def Pq:=@Go.Value.int.injEq
def Pr:=@Go.Value.bool.injEq
def aa5:=@List.getElem?_set_self
def acV:=@List.find?_cons_of_neg
def UB:=@Array.replicate_succ
def UC:=@Array.replicate_zero
def UD:=@List.push_toArray
def FU:=@Nat.ne_of_lt
def aa6:=@Option.isNone_iff_eq_none
def aa7:=@Array.idxOf?_eq_none_iff
end Go
namespace Go.Ren
def I0:Value->Prop
 |.pointer (some _)|.slice (some _) _ _|.map (some _)|.chan (some _)|.func (.yield _) _ _=>True
 |_=>False
structure Pi where
 f:Nat->Nat
 s:Nat->Value
 leaf:∀k,I0 (s k)
 gh:Nat->Option Addr
instance:CoeFun Pi (λ_=>Nat->Nat):=⟨Pi.f⟩
structure Gs where
 s:Nat->Value
 leaf:∀k,I0 (s k)
 gh:Nat->Option Addr
 strict:Bool
 id:strict=true->(∀k,s k=.chan (some k))/\∀b,gh b=none
def Gs.self:Gs:=⟨λk=>.chan (some k),λ_=>trivial,λ_=>none,true,λ_=>⟨λ_=>rfl,λ_=>rfl⟩⟩
def ot(Z:Pi):Option Nat->Value
 |none=>.chan none
 |some k=>Z.s k
def bX(Z:Pi)(a:Addr):Addr:={a with block:=Z a.block}
def ym(Z:Pi)(l c:Nat)(a:Addr):Addr:=if l=0/\c=0 then(Z.gh a.block).getD (bX Z a)else bX Z a
def Jr(Z:Pi)(a:Option Addr)(l c:Nat):Option Addr:=a.map (ym Z l c)
def pZ{Z l c a}(h:¬(l=0/\c=0)):ym Z l c a=bX Z a:=aX h
def fP{Z l c a}(h:Z.gh a.block=none):ym Z l c a=bX Z a:=by
 unfold ym;split;.simp_all
 .rfl
def qa(Z:Pi):Fn->Fn
 |.yield l=>.yield (Z l)
 |f=>f
def bC(Z:Pi):Value->Value
 |.bool b=>.bool b
 |.int k n=>.int k n
 |.float k b=>.float k b
 |.complex k a b=>.complex k a b
 |.string s=>.string s
 |.pointer a=>.pointer (a.map (bX Z))
 |.slice a l c=>.slice (Jr Z a l c) l c
 |.map r=>.map (r.map Z.f)
 |.chan r=>ot Z r
 |.func fn a b=>.func (qa Z fn) (a.map (bC Z)) (b.map (bC Z))
 |.nilFunc=>.nilFunc
 |.iface t v=>.iface t (bC Z v)
 |.nilIface=>.nilIface
 |.agg cs=>.agg (cs.map (bC Z))
 |.tuple vs=>.tuple (vs.map (bC Z))
def BV(Z:Pi):Target->Target
 |.fn f c=>.fn (qa Z f) (c.map (bC Z))
 |.collected r=>.collected (Z r)
 |.coroexit c=>.coroexit (Z c)
 |t=>t
def mG(Z:Pi)(d:Deferred):Deferred:={target:=BV Z d.target,args:=d.args.map (bC Z)}
def mB(Z:Pi)(e:MapEntry):MapEntry:={e with key:=bC Z e.key,val:=bC Z e.val}
def Rw(Z:Pi)(l:Loop):Loop:={l with tmps:=l.tmps.map (bC Z),defers:=Z l.defers}
def dO(Z:Pi):Obj->Obj
 |.cells c e f=>.cells (c.map (bC Z)) e f
 |.pending c e=>.pending (c.map (bC Z)) e
 |.view a t=>.view (bX Z a) t
 |.number a l=>.number (bX Z a) l
 |.map es c=>.map (es.map (mB Z)) c
 |.chan cap buf cl s r t=>.chan cap (buf.map (bC Z)) cl s r t
 |.stringIter s p=>.stringIter s p
 |.mapIter m s seen st=>.mapIter (m.map Z.f) s seen st
 |.loop l=>.loop (Rw Z l)
 |.deferred cs=>.deferred (cs.map (·.map (mG Z)))
 |.coro p=>.coro p
 |.finalizers fs r=>.finalizers (fs.map λ(n,d)=>(n,mG Z d)) r
def JU(Z:Pi):Mark->Mark
 |.acquire a=>.acquire (bX Z a)
 |.release a=>.release (bX Z a)
 |.releaseMerge a=>.releaseMerge (bX Z a)
 |.read a=>.read (bX Z a)
 |.write a=>.write (bX Z a)
 |m=>m
def HY(Z:Pi):Halt->Halt
 |.panic v=>.panic (bC Z v)
 |h=>h
def xL(Z:Pi):Loc->Loc
 |.cell a=>.cell (bX Z a)
 |.obj r=>.obj (Z r)
 |.mark m=>.mark (JU Z m)
 |l=>l
def zQ(Z:Pi)(e:Event):Event:={e with loc:=xL Z e.loc}
def oM:Nat->Value->Bool
 |0,_=>false
 |n+1,v=>match v with
   |.pointer a|.slice a _ _=>a.isNone
   |.map r|.chan r=>r.isNone
   |.func f a b=>(match f with|.yield _=>false|_=>true)&&a.all (oM n)&&b.all (oM n)
   |.iface _ v=>oM n v
   |.agg cs|.tuple cs=>cs.all (oM n)
   |_=>true
def HZ(v:Value):Bool:=oM 5 v
def ab1:Option TypeDesc->Bool
 |some (.int .u8)=>true
 |_=>false
def MQ(p:Program)(s d:TypeId):Bool:=match p.underlying s,p.underlying d with
 |some (.int _),some (.int _)=>true
 |some .string,some .string=>true
 |some (.slice e),some .string=>ab1 (p.underlying e)
 |some .string,some (.slice e)=>ab1 (p.underlying e)
 |_,_=>false
def ab2:Operand->Bool
 |.const .nilIface=>true
 |_=>false
section
variable(p:Program)
def MR(t:TypeId):Bool:=decide (t<p.types.size)
def qW(_:Program):Operand->Bool
 |.const v=>HZ v
 |.global _=>false
 |_=>true
def uu:Nat->TypeId->Bool
 |0,_=>false
 |n+1,t=>((p.info? t).all fun i=>match i.desc with|.named "sync.copyChecker" _=>false|_=>true)&&match p.underlying t with
   |some (.interface _)|some (.chan ..)=>false
   |some (.array _ e)=>uu n e
   |some (.struct fs)=>fs.all fun f=>uu n f.type
   |_=>true
def Rx(t:TypeId)(nl:Bool):Bool:=uu p 5 t||(nl&&match p.underlying t with|some (.interface _)=>true|_=>false)
def yN(t:TypeId):Bool:=match p.underlying t with
 |some (.map k _)=>uu p 5 k
 |_=>true
def okL(t:TypeId):Bool:=match p.underlying t with
 |some (.chan ..)=>false
 |_=>true
def okB(ts:Array TypeId):Builtin->Bool
 |.append|.clear=>(ts[0]?).all (MR p)
 |.delete=>(ts[0]?).all (yN p)
 |.len|.cap=>(ts[0]?).all (okL p)
 |.copy|.max|.min|.panic|.recover|.unsafeString=>true
 |_=>false
def MS(c:Call):Bool:=c.args.all (qW p)&&match c.callee with
  |.value f=>qW p f
  |.invoke f _=>qW p f
  |.builtin b=>okB p c.argTypes b
def okD(d:Deferred):Bool:=match d.target with
 |.builtin b ts _ _=>okB p ts b
 |.coroexit _=>false
 |_=>true
def Ry:Op->Bool
 |.move x|.assign x|.box _ x|.load _ x|.nilCheck x|.unOp _ _ x|.makeInterface _ x|.fieldAddr _ x _|.field _ x _|.range _ x|.next x _|.entry x|.extract x _|.panic x=>qW p x
 |.pick a b c=>qW p a&&qW p b&&qW p c
 |.alloc t=>MR p t
 |.build t ps=>MR p t&&ps.all λ(_,x)=>qW p x
 |.buildSlice t _ ps=>MR p t&&ps.all λ(_,x)=>qW p x
 |.store _ a b|.indexAddr _ a b|.index _ a b=>qW p a&&qW p b
 |.binOp op t a b _=>qW p a&&qW p b&&(match op with|.eql|.neq=>Rx p t (ab2 b)|_=>true)
 |.lookup t a b _=>MR p t&&qW p a&&qW p b&&yN p t
 |.makeSlice t a b=>MR p t&&qW p a&&qW p b
 |.convert s d x=>MQ p s d&&qW p x
 |.makeFunc f a b=>(match f with|.yield _=>false|_=>true)&&a.all (qW p)&&b.all (qW p)
 |.makeMap _ r=>r.all (qW p)
 |.slice _ x l h m=>qW p x&&l.all (qW p)&&h.all (qW p)&&m.all (qW p)
 |.mapUpdate t a b c=>qW p a&&qW p b&&qW p c&&yN p t
 |.typeAssert x _ t _=>MR p t&&qW p x
 |.call c|.defer c=>MS p c
 |_=>false
def xI(f:FuncId):Bool:=(p.inits.idxOf? f).isNone
def eG:Code->Bool
 |.region _ ops _=>ops.all λo=>Ry p o.op
 |.seq a b=>eG a&&eG b
 |.cond c a b=>qW p c&&eG a&&eG b
 |.block _ b|.loop b|.scope b=>eG b
 |.rangeFunc f _ a b=>qW p f&&eG a&&eG b
 |_=>true
end
def cI(p:Program):Obj->Bool
 |.pending ..|.view ..=>false
 |.loop l=>eG p l.assign&&eG p l.body&&l.pending.all (eG p)&&xI p l.fn
 |.deferred cs=>cs.all (·.all (okD p))
 |_=>true
def xf:Halt->Bool
 |.stuck _=>true
 |.unsupported (.initOrder _)=>false
 |.unsupported _=>true
 |_=>false
def okM:Mark->Bool
 |.disable|.enable=>false
 |_=>true
def MT(e:Event):Bool:=match e.loc with
 |.mark m=>okM m
 |_=>true
def PI:Halt->Bool
 |.panic _|.throw _=>true
 |_=>false
def adn{α β:Type}(p:Program)(f:α->Sem β):Result α×Array Event->Result β×Array Event
 |(.ok a w₁,uX)=>(f a).runT p w₁ uX
 |(.halt h w₁,uX)=>(.halt h w₁,uX)
def oN{α β:Type}(p:Program)(s:Sem α)(f:α->Sem β):∀(w:World) (es:Array Event),(s>>=f).runT p w es=adn p f (s.runT p w es):=by change ∀w es,(s.bind f).runT p w es=_;induction s with
 |pure a=>intro w es;rfl
 |halt h=>intro w es;rfl
 |store m a v k ih=>intro w es;cases v<;>simp only[Sem.bind,Sem.runT]<;>(repeat' split)<;>first|rfl|exact ih _ _
 |_=>
   rename_i ih;intro w es;simp only[Sem.bind,Sem.runT];repeat' split
   all_goals first|rfl|exact ih _ _ _|exact ih _ _
def dW{α:Type}(p:Program)(s:Sem α):Prop:=∀w es,∃h w' es',s.runT p w es=(.halt h w',es')/\xf h=true
def dW.bind{α β p s}{f:α->Sem β}(h:dW p s):dW p (s.bind f):=λw es=>by obtain⟨x,w',a,e,b⟩:=h w es;refine⟨x,w',a,?_,b⟩;have:=oN p s f w es;rw[e]at this;exact this
def dW.then{α β p s}{f:α->Sem β}(h:∀a,dW p (f a))(g:∀w es,∃a w' b,s.runT p w es=(.ok a w',b)):dW p (s>>=f):=λw es=>by obtain⟨a,w',b,e⟩:=g w es;obtain⟨x,w2,d,c,i⟩:=h a w' b;exact⟨x,w2,d,by rw[oN,e];exact c,i⟩
section
variable(p p':Program)(Z:Pi)
inductive SR{α β:Type}(Q:α->β->Prop):Sem α->Sem β->Prop
 |pure {a:α} {b:β}:Q a b->SR Q (.pure a) (.pure b)
 |load {m:Mode} {a:Addr} {k:Value->Sem α} {k':Value->Sem β}:(∀v,SR Q (k v) (k' (bC Z v)))->SR Q (.load m a k) (.load m (bX Z a) k')
 |store {m:Mode} {a:Addr} {v:Value} {k:Sem α} {k':Sem β}:SR Q k k'->SR Q (.store m a v k) (.store m (bX Z a) (bC Z v) k')
 |new {o:Obj} {k:Nat->Sem α} {k':Nat->Sem β}:cI p o=true->(∀r,Z.gh r=none->SR Q (k r) (k' (Z r)))->SR Q (.new o k) (.new (dO Z o) k')
 |shape {r:Nat} {k:Option (TypeId×Nat)->Sem α} {k':Option (TypeId×Nat)->Sem β}:(∀s,SR Q (k s) (k' s))->SR Q (.shape r k) (.shape (Z r) k')
 |freeze {a:Addr} {n:Nat} {k:Sem α} {k':Sem β}:SR Q k k'->SR Q (.freeze a n k) (.freeze (bX Z a) n k')
 |frozen {a:Addr} {k:Bool->Sem α} {k':Bool->Sem β}:(∀b,SR Q (k b) (k' b))->SR Q (.frozen a k) (.frozen (bX Z a) k')
 |getObj {r:Nat} {k:Obj->Sem α} {k':Obj->Sem β}:(∀o,cI p o=true->SR Q (k o) (k' (dO Z o)))->SR Q (.getObj r k) (.getObj (Z r) k')
 |setObj {r:Nat} {o:Obj} {k:Sem α} {k':Sem β}:cI p o=true->SR Q k k'->SR Q (.setObj r o k) (.setObj (Z r) (dO Z o) k')
 |choose {q:Question} {k:Nat->Sem α} {k':Nat->Sem β}:(∀n,SR Q (k n) (k' n))->SR Q (.choose q k) (.choose q k')
 |env {k:SysRet->Sem α} {k':SysRet->Sem β}:(∀r,SR Q (k r) (k' r))->SR Q (.sys .env k) (.sys .env k')
 |program {k:Program->Sem α} {k':Program->Sem β}:SR Q (k p) (k' p')->SR Q (.program k) (.program k')
 |mark {m:Mark} {k:Sem α} {k':Sem β}:okM m=true->SR Q k k'->SR Q (.mark m k) (.mark (JU Z m) k')
 |halt {h:Halt}:PI h=true->SR Q (.halt h) (.halt (HY Z h))
 |qh {s:Sem α} {s':Sem β}:dW p s->SR Q s s'
end
def SR.lost{α β p p' Z}{Q:α->β->Prop}{h s}(e:xf h=true):SR p p' Z Q (.halt h) s:=.qh λw es=>⟨h,w,es,rfl,e⟩
def aN:=@SR.lost
def SR.abg{α β:Type}{p p':Program}{Z:Pi}{Q:α->β->Prop}{k:Program->Sem α}{h:Halt}{s:Sem β}(e:k p=.halt h)(e2:xf h=true):SR p p' Z Q (.program k) s:=.qh λw es=>⟨h,w,es,by simp only[Sem.runT,e],e2⟩
section
variable{p p':Program}{Z:Pi}{α β γ δ:Type}{Q:α->β->Prop}{Q':γ->δ->Prop}
def SR.bind'{s s' f f'}(h:SR p p' Z Q s s')(e:∀a b,Q a b->SR p p' Z Q' (f a) (f' b)):SR p p' Z Q' (s.bind f) (s'.bind f'):=by induction h with
 |pure h=>exact e _ _ h
 |load _ c=>exact .load c
 |store _ c=>exact .store c
 |new d _ c=>exact .new d c
 |shape _ c=>exact .shape c
 |freeze _ c=>exact .freeze c
 |frozen _ c=>exact .frozen c
 |getObj _ c=>exact .getObj c
 |setObj d _ c=>exact .setObj d c
 |choose _ c=>exact .choose c
 |env _ c=>exact .env c
 |program _ c=>exact .program c
 |mark h _ c=>exact .mark h c
 |halt h=>exact .halt h
 |qh h=>exact .qh h.bind
def PK:=@SR.bind'
def SR.bind{s s' f f'}(h:SR p p' Z Q s s')(c:∀a b,Q a b->SR p p' Z Q' (f a) (f' b)):SR p p' Z Q' (s>>=f) (s'>>=f'):=PK h c
def aL:=@SR.bind
def SR.ret{a b}(h:Q a b):SR p p' Z Q (Pure.pure a) (Pure.pure b):=SR.pure h
def aO:=@SR.ret
def SR.mono{s s' e}(h:SR p p' Z Q s s')(f:∀a b,Q a b->e a b):SR p p' Z e s s':=by induction h with
 |pure h=>exact .pure (f _ _ h)
 |load _ c=>exact .load c
 |store _ c=>exact .store c
 |new d _ c=>exact .new d c
 |shape _ c=>exact .shape c
 |freeze _ c=>exact .freeze c
 |frozen _ c=>exact .frozen c
 |getObj _ c=>exact .getObj c
 |setObj d _ c=>exact .setObj d c
 |choose _ c=>exact .choose c
 |env _ c=>exact .env c
 |program _ c=>exact .program c
 |mark h _ c=>exact .mark h c
 |halt h=>exact .halt h
 |qh h=>exact .qh h
end
@[simp] theorem dX(Z b):bC Z (.bool b)=.bool b:=by rw[bC]
@[simp] theorem cQ(Z k n):bC Z (.int k n)=.int k n:=by rw[bC]
@[simp] theorem cY(Z k n):bC Z (.float k n)=.float k n:=by rw[bC]
@[simp] theorem cG(Z k n m):bC Z (.complex k n m)=.complex k n m:=by rw[bC]
@[simp] theorem bV(Z s):bC Z (.string s)=s:=by rw[bC]
@[simp] theorem bG(Z a):bC Z (.pointer a)=.pointer (a.map (bX Z)):=by rw[bC]
@[simp] theorem bN(Z a l c):bC Z (.slice a l c)=.slice (Jr Z a l c) l c:=by rw[bC]
@[simp] theorem Rz(Z l c):Jr Z none l c=none:=rfl
@[simp] theorem pY(Z a l c):Jr Z (some a) l c=some (ym Z l c a):=rfl
@[simp] theorem dQ(Z r):bC Z (.map r)=.map (r.map Z.f):=by rw[bC]
@[simp] theorem cJ(Z r):bC Z (.chan r)=ot Z r:=by rw[bC]
@[simp] theorem dK(Z f a b):bC Z (.func f a b)=.func (qa Z f) (a.map (bC Z)) (b.map (bC Z)):=by rw[bC]
@[simp] theorem cT(Z):bC Z .nilFunc=.nilFunc:=by rw[bC]
@[simp] theorem cS(Z t v):bC Z (.iface t v)=.iface t (bC Z v):=by rw[bC]
@[simp] theorem cD(Z):bC Z .nilIface=.nilIface:=by rw[bC]
@[simp] theorem dB(Z c):bC Z (.agg c)=.agg (c.map (bC Z)):=by rw[bC]
@[simp] theorem dI(Z c):bC Z (.tuple c)=.tuple (c.map (bC Z)):=by rw[bC]
@[simp] theorem Dh(Z a):(bX Z a).block=Z a.block:=rfl
@[simp] theorem ado(Z a):(bX Z a).off=a.off:=rfl
@[simp] theorem acR(Z a):(bX Z a).spot=a.spot:=rfl
@[simp] theorem ad0(Z b o s):bX Z ⟨b,o,s⟩=⟨Z b,o,s⟩:=rfl
@[simp] theorem yO(Z a n):bX Z (a.add n)=(bX Z a).add n:=by simp[Addr.add];split<;>rfl
@[simp] theorem acS(Z):ot Z none=.chan none:=rfl
def fL(Z r):ot Z r=.chan none\/(∃a,ot Z r=.pointer (some a))\/(∃a l c,ot Z r=.slice (some a) l c)\/(∃m,ot Z r=.map (some m))\/(∃m,ot Z r=.chan (some m))\/∃l a b,ot Z r=.func (.yield l) a b:=by cases r with
 |none=>exact .inl rfl
 |some k=>have h:=Z.leaf k;simp[ot];revert h;cases Z.s k with
   |pointer a=>cases a with|none=>exact False.elim|some a=>intro _;exact .inr (.inl ⟨a,rfl⟩)
   |slice a l c=>cases a with|none=>exact False.elim|some a=>intro _;exact .inr (.inr (.inl ⟨a,l,c,rfl⟩))
   |map r=>cases r with|none=>exact False.elim|some r=>intro _;exact .inr (.inr (.inr (.inl ⟨r,rfl⟩)))
   |chan r=>cases r with|none=>exact False.elim|some r=>intro _;exact .inr (.inr (.inr (.inr (.inl ⟨r,rfl⟩))))
   |func f a b=>cases f<;>first|exact False.elim|(intro _;exact .inr (.inr (.inr (.inr (.inr ⟨_,_,_,rfl⟩)))))
   |_=>exact False.elim
@[simp] theorem MU(Z r):(ot Z r).cells=#[ot Z r]:=by obtain h|⟨_,h⟩|⟨_,_,_,h⟩|⟨_,h⟩|⟨_,h⟩|⟨_,_,_,h⟩:=fL Z r<;>rw[h]<;>rfl
def Di(Z r c):ot Z r≠.agg c:=by obtain h|⟨_,h⟩|⟨_,_,_,h⟩|⟨_,h⟩|⟨_,h⟩|⟨_,_,_,h⟩:=fL Z r<;>rw[h]<;>simp
def xg(Z r):ot Z r≠.nilIface:=by obtain h|⟨_,h⟩|⟨_,_,_,h⟩|⟨_,h⟩|⟨_,h⟩|⟨_,_,_,h⟩:=fL Z r<;>rw[h]<;>simp
def MV(Z r c):ot Z r≠.tuple c:=by obtain h|⟨_,h⟩|⟨_,_,_,h⟩|⟨_,h⟩|⟨_,h⟩|⟨_,_,_,h⟩:=fL Z r<;>rw[h]<;>simp
@[simp] theorem lW(Z v):(bC Z v).cells=v.cells.map (bC Z):=by cases v with
  |chan r=>rw[cJ,MU];simp[Value.cells]
  |_=>simp[Value.cells]
@[simp] theorem zR(Z):bC Z undef=undef:=by simp[undef]
structure Rn(G:Gs)(Z:Pi):Prop where
 inj:∀a b,Z a=Z b->a=b
 sub:Z.s=G.s
 gh:Z.gh=G.gh
def Cp(U:Nat->Option Nat)(Z:Pi):Prop:=∀b c,U b=some c->Z b=c
structure eV(G:Gs)(U:Nat->Option Nat)(m M:Nat):Prop where
 inj:∀a b c,U a=some c->U b=some c->a=b
 lt:∀b c,U b=some c->b<m/\c<M
 real:∀b c,U b=some c->G.gh b=none
 low:∀b,m<=b->G.gh b=none
def Ext(U μ':Nat->Option Nat):Prop:=∀b c,U b=some c->μ' b=some c
def Ext.refl(U:Nat->Option Nat):Ext U U:=λ_ _ h=>h
def oH:=@Ext.refl
def Ext.trans{a b c}(h:Ext a b)(d:Ext b c):Ext a c:=λ_ _ x=>d _ _ (h _ _ x)
def Cp.H0{U μ' Z}(h:Ext U μ')(c:Cp μ' Z):Cp U Z:=λ_ _ x=>c _ _ (h _ _ x)
def eO(G:Gs)(U:Nat->Option Nat)(F:Pi->Prop):Prop:=∀Z,Rn G Z->Cp U Z->F Z
def eO.ext{G U μ' F}(h:eO G U F)(e:Ext U μ'):eO G μ' F:=λZ r c=>h Z r (c.H0 e)
def PL(U:Nat->Option Nat)(M K:Nat)(b:Nat):Nat:=(U b).getD (M+K+b)
def JV(G:Gs)(U:Nat->Option Nat)(M K:Nat):Pi:=⟨PL U M K,G.s,G.leaf,G.gh⟩
def yP{G m M U}(h:eV G U m M)(K):Rn G (JV G U M K):=by
 refine⟨λa b e=>?_,rfl,rfl⟩
 .simp[JV,PL]at e;cases c:U a<;>cases d:U b<;>rw[c,d]at e<;>simp at e;.omega
  .have:=(h.lt _ _ d).2;omega
  .have:=(h.lt _ _ c).2;omega
  .subst e;exact h.inj _ _ _ c d
def uY(G)(U:Nat->Option Nat)(M K):Cp U (JV G U M K):=λb c h=>by simp[JV,PL,h]
def eV.one{G m M U}(h:eV G U m M):∃Z,Rn G Z/\Cp U Z:=⟨_,yP h 0,uY G U M 0⟩
def eV.dom{G m M U}(h:eV G U m M){b x}(e:eO G U λZ=>x=Z b):U b=some x:=by cases a:U b with
 |some c=>rw[e _ (yP h 0) (uY G U M 0),uY G U M 0 _ _ a]
 |none=>have d:=e _ (yP h 0) (uY G U M 0);have f:=e _ (yP h 1) (uY G U M 1);simp[JV,PL,a]at d f;omega
structure Mh where
 lim:Nat
 MW:Int
 tp:Nat->Question->Nat
structure WR(p:Program)(L:Mh)(G:Gs)(U:Nat->Option Nat)(w W:World):Prop where
 obj:∀b c,U b=some c->∃o o',w.heap[b]?=some o/\W.heap[c]?=some o'/\cI p o=true/\eO G U λZ=>o'=dO Z o
 tape:∀i q,w.drawn+i<L.lim->w.tape (w.drawn+i) q=W.tape (W.drawn+i) q
 os:W.os=w.os
 MW:(W.drawn:Int)=w.drawn+L.MW
 tp:w.tape=L.tp
structure WE(p:Program)(L:Mh)(G:Gs)(U:Nat->Option Nat)(w W:World):Prop where
 obj:∀b c,U b=some c->∃o o',w.heap[b]?=some o/\W.heap[c]?=some o'/\cI p o=true/\eO G U λZ=>o'=dO Z o
 os:W.os=w.os
 MW:G.strict=true->(W.drawn:Int)=w.drawn+L.MW
 tp:w.tape=L.tp
def WR.we{p L G U w W}(h:WR p L G U w W):WE p L G U w W:=⟨h.obj,h.os,λ_=>h.MW,h.tp⟩
structure Fr(U μ':Nat->Option Nat)(W W':World):Prop where
 size:W.heap.size<=W'.heap.size
 rest:∀c,c<W.heap.size->(∀b,U b≠some c)->W'.heap[c]?=W.heap[c]?
 new:∀c,W.heap.size<=c->c<W'.heap.size->∃b,μ' b=some c
 old:∀b c,μ' b=some c->c<W.heap.size->U b=some c
 tape:W'.tape=W.tape
 output:W'.output=W.output
 dr:W.drawn<=W'.drawn
 os:W'.os=W.os
def Fr.refl(U:Nat->Option Nat)(W):Fr U U W W:=⟨L9,λ_ _ _=>rfl,λc h a=>by omega,λ_ _ h _=>h,rfl,rfl,L9,rfl⟩
def JW:=@Fr.refl
def Fr.trans{U μ' ab3:Nat->Option Nat}{W W' W'':World}(e:Ext μ' ab3)(h:Fr U μ' W W')(h':Fr μ' ab3 W' W''):Fr U ab3 W W'' where
 size:=bT h.size h'.size;rest:=λc hc hn=>by have hs:=h.size;rw[h'.rest c (by omega) (λb hb=>hn b (h.old b c hb hc)),h.rest c hc hn]
 new:=λc h1 h2=>by
  by_cases hc:c<W'.heap.size;.obtain⟨b,hb⟩:=h.new c h1 hc;exact⟨b,e _ _ hb⟩
  .exact h'.new c (by omega) h2
 old:=λb c hb hc=>by have hs:=h.size;exact h.old b c (h'.old b c hb (by omega)) hc
 tape:=h'.tape.trans h.tape;output:=h'.output.trans h.output;dr:=bT h.dr h'.dr;os:=h'.os.trans h.os
def cV{α:Type}:Result α->World
 |.ok _ w|.halt _ w=>w
def uE(L:Mh)(w W:World):Prop:=(L.lim:Int)<w.drawn/\L.lim+L.MW<W.drawn
structure oI(G:Gs)(U:Nat->Option Nat)(es ES:Array Event):Prop where
 all:eO G U λZ=>ES=es.map (zQ Z)
 quiet:∀e∈es,MT e=true
def oI.push{G U es ES}(h:oI G U es ES){e E}(b:eO G U λZ=>E=zQ Z e)(d:MT e=true):oI G U (es.push e) (ES.push E):=⟨λZ r c=>by show ES.push E=(es.push e).map (zQ Z);rw[h.all Z r c,b Z r c,Array.map_push],λx f=>by
  obtain a|rfl:=Array.mem_push.1 f;.exact h.quiet x a
  .exact d⟩
def Out{α β:Type}(p:Program)(L:Mh)(G:Gs)(U:Nat->Option Nat)(W:World)(Q:Pi->α->β->Prop)(r:Result α×Array Event)(r':Result β×Array Event):Prop:=match r with
 |(.ok a w₁,uX)=>uE L w₁ (cV r'.1)\/∃b W₁ uZ eF,r'=(.ok b W₁,uZ)/\Ext U eF/\eV G eF w₁.heap.size W₁.heap.size/\WR p L G eF w₁ W₁/\Fr U eF W W₁/\oI G eF uX uZ/\eO G eF λZ=>Q Z a b
 |(.halt h w₁,uX)=>uE L w₁ (cV r'.1)\/xf h=true\/PI h=true/\∃h' W₁ uZ eF,r'=(.halt h' W₁,uZ)/\Ext U eF/\eV G eF w₁.heap.size W₁.heap.size/\WR p L G eF w₁ W₁/\Fr U eF W W₁/\oI G eF uX uZ/\eO G eF λZ=>h'=HY Z h
def ow{α β:Type}(p:Program)(L:Mh)(G:Gs)(U:Nat->Option Nat)(W:World)(Q:Pi->α->β->Prop)(r:Result α×Array Event)(r':Result β×Array Event):Prop:=match r with
 |(.ok a w₁,uX)=>uE L w₁ (cV r'.1)\/∃b W₁ uZ eF,r'=(.ok b W₁,uZ)/\Ext U eF/\eV G eF w₁.heap.size W₁.heap.size/\WE p L G eF w₁ W₁/\Fr U eF W W₁/\oI G eF uX uZ/\eO G eF λZ=>Q Z a b
 |(.halt h w₁,uX)=>uE L w₁ (cV r'.1)\/xf h=true\/PI h=true/\∃h' W₁ uZ eF,r'=(.halt h' W₁,uZ)/\Ext U eF/\eV G eF w₁.heap.size W₁.heap.size/\WE p L G eF w₁ W₁/\Fr U eF W W₁/\oI G eF uX uZ/\eO G eF λZ=>h'=HY Z h
def Out.we{p L α β G U W Q}{r:Result α×Array Event}{m:Result β×Array Event}(h:Out p L G U W Q r m):ow p L G U W Q r m:=by match r with
 |(.ok a w₁,n)=>
   obtain k|⟨b,d,c,l,e,f,g,i,j⟩:=h;.exact .inl k
   .exact .inr ⟨b,d,c,l,e,f,g,i.we,j⟩
 |(.halt x w₁,n)=>
   obtain k|h|⟨o,b,d,c,l,e,f,g,i,j⟩:=h;.exact .inl k
   .exact .inr (.inl h)
   .exact .inr<|.inr ⟨o,b,d,c,l,e,f,g,i.we,j⟩
def Out.weaken{p L α β G U q W W₁ Q}{r:Result α×Array Event}{s:Result β×Array Event}(e:Ext U q)(f:Fr U q W W₁)(h:Out p L G q W₁ Q r s):Out p L G U W Q r s:=by
 match r with
 |(.ok a w₁,t)=>
   obtain n|⟨b,g,d,o,i,c,j,k,l,m⟩:=h;.exact .inl n
   .exact .inr ⟨b,g,d,o,i,e.trans c,j,k,f.trans c l,m⟩
 |(.halt x w₁,t)=>
   obtain n|h|⟨u,b,g,d,o,i,c,j,k,l,m⟩:=h;.exact .inl n
   .exact .inr (.inl h)
   .exact .inr<|.inr ⟨u,b,g,d,o,i,e.trans c,j,k,f.trans c l,m⟩
section inv
variable{p p':Program}{Z:Pi}{α β:Type}{Q:α->β->Prop}{s':Sem β}
def SR.JX{a}(h:SR p p' Z Q (.pure a) s'):∃b,s'=.pure b/\Q a b:=by cases h with|pure h=>exact⟨_,rfl,h⟩|qh d=>obtain⟨_,_,_,e,_⟩:=d default #[];cases e
def SR.JY{m a k}(b:¬dW p (.load m a k))(h:SR p p' Z Q (.load m a k) s'):∃k',s'=.load m (bX Z a) k'/\∀v,SR p p' Z Q (k v) (k' (bC Z v)):=by cases h with|load h=>exact⟨_,rfl,h⟩|qh d=>exact absurd d b
def SR.Gb{m a v k}(b:¬dW p (.store m a v k))(h:SR p p' Z Q (.store m a v k) s'):∃k',s'=.store m (bX Z a) (bC Z v) k'/\SR p p' Z Q k k':=by cases h with|store h=>exact⟨_,rfl,h⟩|qh d=>exact absurd d b
def SR.PM{o k}(b:¬dW p (.new o k))(h:SR p p' Z Q (.new o k) s'):∃k',s'=.new (dO Z o) k'/\cI p o=true/\∀r,Z.gh r=none->SR p p' Z Q (k r) (k' (Z r)):=by cases h with|new h a=>exact⟨_,rfl,h,a⟩|qh d=>exact absurd d b
def SR.Gc{r k}(a:¬dW p (.shape r k))(h:SR p p' Z Q (.shape r k) s'):∃k',s'=.shape (Z r) k'/\∀v,SR p p' Z Q (k v) (k' v):=by cases h with|shape h=>exact⟨_,rfl,h⟩|qh d=>exact absurd d a
def SR.Dj{a n k}(b:¬dW p (.freeze a n k))(h:SR p p' Z Q (.freeze a n k) s'):∃k',s'=.freeze (bX Z a) n k'/\SR p p' Z Q k k':=by cases h with|freeze h=>exact⟨_,rfl,h⟩|qh d=>exact absurd d b
def SR.Dk{a k}(b:¬dW p (.frozen a k))(h:SR p p' Z Q (.frozen a k) s'):∃k',s'=.frozen (bX Z a) k'/\∀v,SR p p' Z Q (k v) (k' v):=by cases h with|frozen h=>exact⟨_,rfl,h⟩|qh d=>exact absurd d b
def SR.Dl{r k}(a:¬dW p (.getObj r k))(h:SR p p' Z Q (.getObj r k) s'):∃k',s'=.getObj (Z r) k'/\∀v,cI p v=true->SR p p' Z Q (k v) (k' (dO Z v)):=by cases h with|getObj h=>exact⟨_,rfl,h⟩|qh d=>exact absurd d a
def SR.Dm{r o k}(b:¬dW p (.setObj r o k))(h:SR p p' Z Q (.setObj r o k) s'):∃k',s'=.setObj (Z r) (dO Z o) k'/\cI p o=true/\SR p p' Z Q k k':=by cases h with|setObj h a=>exact⟨_,rfl,h,a⟩|qh d=>exact absurd d b
def SR.Dn{q k}(a:¬dW p (.choose q k))(h:SR p p' Z Q (.choose q k) s'):∃k',s'=.choose q k'/\∀v,SR p p' Z Q (k v) (k' v):=by cases h with|choose h=>exact⟨_,rfl,h⟩|qh d=>exact absurd d a
def SR.Bc{k}(a:¬dW p (.program k))(h:SR p p' Z Q (.program k) s'):∃k',s'=.program k'/\SR p p' Z Q (k p) (k' p'):=by cases h with|program h=>exact⟨_,rfl,h⟩|qh d=>exact absurd d a
def SR.JZ{m k}(a:¬dW p (.mark m k))(h:SR p p' Z Q (.mark m k) s'):∃k',s'=.mark (JU Z m) k'/\okM m=true/\SR p p' Z Q k k':=by cases h with|mark b h=>exact⟨_,rfl,b,h⟩|qh d=>exact absurd d a
def SR.J0{a}(h:SR p p' Z Q (.halt a) s'):xf a=true\/s'=.halt (HY Z a)/\PI a=true:=by cases h with|halt h=>exact .inr ⟨rfl,h⟩|qh d=>obtain⟨_,_,_,e,b⟩:=d default #[];cases e;exact .inl b
def SR.PN{c k}(a:¬dW p (.sys c k))(h:SR p p' Z Q (.sys c k) s'):c=.env/\∃k',s'=.sys c k'/\∀v,SR p p' Z Q (k v) (k' v):=by cases h with|env h=>exact⟨rfl,_,rfl,h⟩|qh d=>exact absurd d a
end inv
def WR.cells{p L G m M U w W}(h:WR p L G U w W)(ok:eV G U m M){b c}(e:U b=some c){cs t f}(k:w.heap[b]?=some (.cells cs t f)):∃a,W.heap[c]?=some (.cells a t f)/\eO G U λZ=>a=cs.map (bC Z):=by
 obtain⟨o,o',d,j,_,g⟩:=h.obj b c e;rw[k]at d;cases d;obtain⟨Z,r,cp⟩:=ok.one;have h0:=g Z r cp;subst h0;exact⟨_,j,λn l i=>by have:=g n l i;simpa only[dO,Obj.cells.injEq,and_self,sf]using this⟩
def xM{w:World}{a cs t f}(h:w.heap[a.block]?=some (.cells cs t f)):w.cell? a=if a.spot.isSome then none else cs[a.off]?:=by simp[World.cell?,h]
def kQ{p}{w:World}{a o b}(h:w.heap[a.block]?=some o)(c:cI p o=true):w.farLoad p a b=.error (.stuck "load: no such cell"):=by cases o<;>simp_all[World.farLoad,World.noCell,cI]
def MX{p}{w:World}{a o v b}(h:w.heap[a.block]?=some o)(c:cI p o=true):w.farStore p a v b=.error (.stuck "store: no such cell"):=by cases o<;>simp_all[World.farStore,World.noCell,cI]
def zN{w:World}{a o}(h:w.heap[a.block]?=some o)(b:∀cs t f,o≠.cells cs t f):w.cell? a=none:=by cases o<;>simp_all[World.cell?]
def WR.cell{p L G m M U w W}(h:WR p L G U w W)(ok:eV G U m M){a c}(e:U a.block=some c){v}(b:w.cell? a=some v):∃j,W.cell? {a with block:=c}=some j/\eO G U λZ=>j=bC Z v:=by
 obtain⟨o,o',d,y,z,A⟩:=h.obj _ c e;cases o with
 |cells cs t f=>
   obtain⟨u,n,k2⟩:=h.cells ok e d;rw[xM d]at b;rw[xM (a:={a with block:=c}) n];split at b;.cases b
   .rename_i l;obtain⟨Z,r,cp⟩:=ok.one;rw[aX l];refine⟨bC Z v,by rw[k2 Z r cp,kW,b];rfl,λs q k=>?_⟩;have g:=k2 Z r cp;rw[k2 s q k]at g;have i:=congrArg (λx:Array Value=>x[a.off]?) g;simp[b]at i;exact i.symm
 |_=>rw[zN d (by intros;simp)]at b;cases b
def WR.frozen{p L G m M U w W}(h:WR p L G U w W)(ok:eV G U m M){a c}(e:U a.block=some c):W.frozen? {a with block:=c}=w.frozen? a:=by obtain⟨o,o',b,d,g,f⟩:=h.obj _ c e;obtain⟨Z,r,cp⟩:=ok.one;have h0:=f Z r cp;subst h0;cases o<;>simp[World.frozen?,b,d,dO]
def WR.shape{p L G m M U w W}(h:WR p L G U w W)(ok:eV G U m M){b c}(e:U b=some c):W.shape? c=w.shape? b:=by obtain⟨o,o',a,d,g,f⟩:=h.obj _ c e;obtain⟨Z,r,cp⟩:=ok.one;have h0:=f Z r cp;subst h0;cases o<;>simp[World.shape?,a,d,dO]
def WR.iH{p L G U w W}(h:WR p L G U w W)(ok:eV G U w W){b c}(e:U b=some c)(f m)(A:cI p f=true)(z:eO G U λZ=>m=dO Z f){w₁ W₁}(y:w₁.heap=w.heap.set b f (ok.lt _ _ e).1)(u:W₁.heap=W.heap.set c m (ok.lt _ _ e).2)(a:w₁.tape=w.tape/\w₁.drawn=w.drawn/\w₁.os=w.os)(d:W₁.tape=W.tape/\W₁.drawn=W.drawn/\W₁.os=W.os):WR p L G U w₁ W₁:=by
 refine⟨λg j k=>?_,λi q hi=>by rw[a.1,a.2.1,d.1,d.2.1];exact h.tape i q (by rw[a.2.1]at hi;exact hi),by rw[a.2.2,d.2.2];exact h.os,by rw[a.2.1,d.2.1];exact h.MW,by rw[a.1];exact h.tp⟩;rw[y,u];by_cases l:g=b;.simp_all
 .have v:j≠c:=λx=>l (ok.inj _ _ _ k (x▸e));obtain⟨o,o',n,r,s,t⟩:=h.obj g j k;exact⟨o,o',by rw[Ja _ (gN l)];exact n,by rw[Ja _ (gN v)];exact r,s,t⟩
def Fr.iH{G:Gs}{U:Nat->Option Nat}{m:Nat}{W W₁:World}(ok:eV G U m W.heap.size){b c:Nat}(e:U b=some c){o:Obj}(hW:W₁.heap=W.heap.set c o (ok.lt _ _ e).2)(t:W₁.tape=W.tape)(ou:W₁.output=W.output)(dr:W₁.drawn=W.drawn)(os:W₁.os=W.os):Fr U U W W₁ where
 dr:=oz dr.symm;os:=os;size:=by rw[hW];simp
 rest:=λc' _ hn=>by rw[hW,Ja _ (λx=>hn b (by rw[e,x]))]
 new:=λc' h1 h2=>by rw[hW]at h2;simp at h2;omega
 old:=λ_ _ h _=>h;tape:=t;output:=ou
def iO{w:World}{a v cs t f}(h:w.heap[a.block]?=some (.cells cs t f))(b:a.block<↑w)(c:a.spot=none):(w.setCell a v).heap=w.heap.set a.block (.cells (cs.setIfInBounds a.off v) t f) b:=by
 apply yl;intro i;simp[World.setCell,OX];by_cases hi:a.block=i;.simp_all
 .simp[hi]
def Be{w:World}{a n cs t lo hi}(h:w.heap[a.block]?=some (.cells cs t (lo,hi)))(b:a.block<↑w)(c:n≠0):(w.freeze a n).heap=w.heap.set a.block (.cells cs t (if lo==hi then(a.off,a.off+n)else(min lo a.off,max hi (a.off+n)))) b:=by
 apply yl;intro i;simp[World.freeze,aX c,OX];by_cases hi:a.block=i;.simp_all
 .simp[hi]
def Bf{w:World}{a n o}(h:w.heap[a.block]?=some o)(c:∀cs t f,o≠.cells cs t f):(w.freeze a n).heap=w.heap:=by
 by_cases b:n=0;.simp[World.freeze,b]
 .apply yl;intro i;simp[World.freeze,aX b,OX];by_cases hi:a.block=i;.simp_all
  .simp[hi]
def Dp{α p m a v}{k:Sem α}{w es}:(∃h,(Sem.store m a v k).runT p w es=(.halt (.stuck h) w,es))\/(Sem.store m a v k).runT p w es=(match w.cell? a with
     |some _=>if w.frozen? a then(.halt (.unsupported (.unsafePointer "a write to bytes that a string shares")) w,es)else k.runT p (w.setCell a v) (es.push ⟨.cell a,true,m==.atomic⟩)
     |none=>match w.farStore p a v (m==.atomic)with
       |.ok (w,b)=>k.runT p w (es++b.toArray.map (⟨.cell ·,true,m==.atomic⟩))
       |.error h=>(.halt h w,es)):=by
 cases v<;>first|exact .inr rfl|exact .inl ⟨_,rfl⟩
def Bg{α p m a v}{k:Sem α}{w es}(b:∀c,v≠.agg c/\v≠.tuple c):(Sem.store m a v k).runT p w es=(match w.cell? a with
   |some _=>if w.frozen? a then(.halt (.unsupported (.unsafePointer "a write to bytes that a string shares")) w,es)else k.runT p (w.setCell a v) (es.push ⟨.cell a,true,m==.atomic⟩)
   |none=>match w.farStore p a v (m==.atomic)with
     |.ok (w,d)=>k.runT p w (es++d.toArray.map (⟨.cell ·,true,m==.atomic⟩))
     |.error h=>(.halt h w,es)):=by
 cases v<;>first|rfl|exact absurd rfl (b _).1|exact absurd rfl (b _).2
def sH{G m M U}(ok:eV G U m M){a a'}(h:eO G U λZ=>a'=bX Z a):∃c,U a.block=some c/\a'={a with block:=c}:=by
 have b:eO G U λZ=>a'.block=Z a.block:=λZ r c=>by rw[h Z r c];rfl
 refine⟨a'.block,ok.dom b,?_⟩;obtain⟨Z,r,c⟩:=ok.one;rw[h Z r c];rfl
def RA{γ:Type}(A:Ask γ):∀w:World,w.drawn<=(w.ask A).2.drawn:=by induction A with
 |done a=>intro w;exact I9 _
 |ask what range k ih=>
   intro w;simp only[World.ask];split;.exact ih 0 w
   .exact bT (qN _) (ih _ {w with drawn:=w.drawn+1})
def RD(c)(w:World):w.drawn<=(w.sys c).2.drawn:=by have h:=RA (Kernel.perform c w.os) w;unfold World.sys;revert h;generalize w.ask (Kernel.perform c w.os)=x;obtain⟨⟨r,os⟩,w'⟩:=x;intro h;cases r<;>first|exact L9|exact h
def Zk(w:World):(w.sys .env).2=w:=rfl
def BW{p}{w w':World}{at_ k u v b l}(h:w.viewStore p at_ u k v b=.ok (w',l)):w'.drawn=w.drawn:=by
 simp[World.viewStore,bind,Except.bind]at h;repeat' split at h
 all_goals first|(cases h;done)|(cases h;rfl)
def qi{α p}(s:Sem α):∀w es,w.drawn<=(cV (s.runT p w es).1).drawn:=by induction s with
 |pure a=>intro w es;exact L9
 |load m a k b=>
   intro w es;simp only[Sem.runT];split;.simp_all
   .split;.simp_all
    .exact L9
 |store m a v k b=>
   intro w es;rcases Dp (p:=p) (m:=m) (a:=a) (v:=v) (k:=k) (w:=w) (es:=es)with⟨h,e⟩|e;.rw[e];exact L9
   .rw[e];split
    .split;.exact L9
     .exact b (w.setCell a v) _
    .split
     .rename_i w' t h;have d:w'.drawn=w.drawn:=by
       unfold World.farStore at h;split at h
       .split at h;.rename_i f;cases h;exact BW f
        .cases h
       .cases h
      rw[<-d];exact b w' _
     .exact L9
 |new o k b=>intro w es;exact b _ {w with heap:=w.heap.push o} es
 |shape r k b=>intro w es;exact b _ w es
 |freeze a n k b=>
   intro w es;have:(w.freeze a n).drawn=w.drawn:=by unfold World.freeze;split<;>rfl
   rw[<-this];exact b (w.freeze a n) es
 |frozen a k b=>intro w es;exact b _ w es
 |getObj r k b=>
   intro w es;simp only[Sem.runT];split;.exact L9
   .simp_all
   .exact L9
 |setObj r o k b=>
   intro w es;simp only[Sem.runT];split;.exact L9
   .grind
   .exact L9
 |choose q k b=>
   simp only[Sem.runT];split;.simp_all
   .grind
 |sys c k b=>intro w es;exact bT (RD c w) (b _ (w.sys c).2 _)
 |program k b=>intro w es;exact b _ w es
 |mark m k b=>intro w es;exact b w _
 |halt h=>intro w es;exact L9
def Out.r9{α β p L G U W Q}{r:Result α×Array Event}{a:Result β×Array Event}(h:uE L (cV r.1) (cV a.1)):Out p L G U W Q r a:=by obtain⟨r,es⟩:=r;cases r<;>exact .inl h
def Out.qh{α β p L G U w W es Q}{s:Sem α}{b:Result β×Array Event}(h:dW p s):Out p L G U W Q (s.runT p w es) b:=by obtain⟨x,w',c,e,a⟩:=h w es;rw[e];exact .inr (.inl a)
def qX:=@Out.qh
def qY{α β p p' L G Q}(s:Sem α):∀(s':Sem β) (U:Nat->Option Nat) (w W:World) (es ES:Array Event),eV G U w W->WR p L G U w W->oI G U es ES->(eO G U λZ=>SR p p' Z (Q Z) s s')->Out p L G U W Q (s.runT p w es) (s'.runT p' W ES):=by
 induction s with
 |pure a=>intro s' U w W es ES ok wr ev y;refine(qO (dW p _)).elim (λl=>qX l) (λl=>?_);obtain⟨Z,r,c⟩:=ok.one;obtain⟨b,rfl,_⟩:=(y Z r c).JX;refine .inr ⟨b,W,ES,U,rfl,oH _,ok,wr,JW _ _,ev,λZ r c=>?_⟩;obtain⟨a9,e,q⟩:=(y Z r c).JX;cases e;exact q
 |load m a k D=>
   intro s' U w W es ES ok wr ev y;refine(qO (dW p _)).elim (λl=>qX l) (λl=>?_);obtain⟨Z,r,c⟩:=ok.one;obtain⟨k',rfl,_⟩:=(y Z r c).JY l;have u:eO G U λd=>bX Z a=bX d a/\∀v,SR p p' d (Q d) (k v) (k' (bC d v)):=λd j g=>by obtain⟨N,e,q⟩:=(y d j g).JY l;simp only[Sem.load.injEq]at e;obtain⟨_,J,F⟩:=e;exact⟨J,F▸q⟩
   obtain⟨x,B,R⟩:=sH ok (λd j g=>(u d j g).1);rw[R];simp only[Sem.runT];cases T:w.cell? a with
   |none=>obtain⟨o,o',A,H,O,M⟩:=wr.obj _ _ B;rw[kQ A O];exact .inr (.inl rfl)
   |some v=>obtain⟨au,ai,ao⟩:=wr.cell ok B T;rw[ai];refine D v (k' au) U w W _ _ ok wr (ev.push (λd j g=>?_) rfl) (λd j g=>by rw[ao d j g];exact(u d j g).2 v);rw[<-R,(u d j g).1];rfl
 |store m a v k D=>
   intro s' U w W es ES ok wr ev y;refine(qO (dW p _)).elim (λl=>qX l) (λl=>?_);obtain⟨Z,r,c⟩:=ok.one;obtain⟨k',rfl,_⟩:=(y Z r c).Gb l;have u:eO G U λd=>bX Z a=bX d a/\bC Z v=bC d v/\SR p p' d (Q d) k k':=λd j g=>by obtain⟨N,e,q⟩:=(y d j g).Gb l;simp only[Sem.store.injEq]at e;obtain⟨_,J,F,ay⟩:=e;exact⟨J,F,ay▸q⟩
   obtain⟨x,B,R⟩:=sH ok (λd j g=>(u d j g).1);by_cases ah:∀c,v≠.agg c/\v≠.tuple c
   .have a4:∀c,bC Z v≠.agg c/\bC Z v≠.tuple c:=λc=>by cases v with
     |chan r=>rw[cJ];exact⟨Di Z r c,MV Z r c⟩
     |_=>simp_all
    rw[Bg ah,Bg a4,R];cases T:w.cell? a with
    |none=>obtain⟨o,o',A,H,O,M⟩:=wr.obj _ _ B;simp only[MX A O];exact .inr (.inl rfl)
    |some v0=>
      obtain⟨au,ai,ao⟩:=wr.cell ok B T;simp only[ai,wr.frozen ok B];split;.exact .inr (.inl rfl)
      .obtain⟨o,o',A,H,O,M⟩:=wr.obj _ _ B;cases o with
       |cells cs t f=>
         obtain⟨av,aj,k2⟩:=wr.cells ok B A;have ar:a.spot=none:=by
          rw[xM A]at T;split at T;.cases T
          .simp_all
         have J:=iO (v:=v) A (ok.lt _ _ B).1 ar;have F:=iO (w:=W) (a:={a with block:=x}) (v:=bC Z v) aj (ok.lt _ _ B).2 ar;have X:WR p L G U (w.setCell a v) (W.setCell {a with block:=x} (bC Z v)):=wr.iH ok B _ _ rfl (λd j g=>by simp only[dO];rw[k2 d j g,(u d j g).2.1,Jc]) J F ⟨rfl,rfl,rfl⟩ ⟨rfl,rfl,rfl⟩
         have V:eV G U ↑(w.setCell a v) ↑(W.setCell {a with block:=x} (bC Z v)):=by rw[J,F];simpa using ok
         exact(D k' U _ _ _ _ V X (ev.push (λd j g=>by rw[<-R,(u d j g).1];rfl) rfl) (λd j g=>(u d j g).2.2)).weaken (oH _) (Fr.iH ok B F rfl rfl rfl rfl)
       |_=>rw[zN A (by intros;simp)]at T;cases T
   .cases v<;>first|exact .inr (.inl rfl)|exact absurd (λc=>⟨S8,S8⟩) ah
 |new o k D=>
   intro s' U w W es ES ok wr ev y;refine(qO (dW p _)).elim (λl=>qX l) (λl=>?_);obtain⟨Z,r,c⟩:=ok.one;obtain⟨k',rfl,aa,_⟩:=(y Z r c).PM l;have u:eO G U λd=>dO Z o=dO d o/\∀v,d.gh v=none->SR p p' d (Q d) (k v) (k' (d v)):=λd j g=>by obtain⟨N,e,_,q⟩:=(y d j g).PM l;simp only[Sem.new.injEq]at e;exact⟨e.1,e.2▸q⟩
   simp only[Sem.runT];let μ:Nat->Option Nat:=λb=>if b=(w:Nat)then some ↑W else U b;have P:μ (w:Nat)=some ↑W:=by simp[μ]
   have K:∀b,b≠(w:Nat)->μ b=U b:=λb h=>by simp[μ,h]
   have ex:Ext U μ:=λb c h=>by rw[K b (λe=>by have:=(ok.lt _ _ h).1;omega)];exact h
   have a7:eV G μ (w.heap.push o).size (W.heap.push (dO Z o)).size:=by
    refine⟨λa b c Y C=>?_,λb c C=>?_,λb c C=>?_,λb C=>ok.low b (by simp at C;omega)⟩
    .by_cases A:a=(w:Nat)<;>by_cases H:b=(w:Nat);.rw[A,H]
     .rw[A,P]at Y;rw[K b H]at C;cases Y;have:=(ok.lt _ _ C).2;omega
     .rw[H,P]at C;rw[K a A]at Y;cases C;have:=(ok.lt _ _ Y).2;omega
     .rw[K a A]at Y;rw[K b H]at C;exact ok.inj _ _ _ Y C
    .by_cases A:b=(w:Nat);.rw[A,P]at C;cases C;simp[A]
     .rw[K b A]at C;have:=ok.lt _ _ C;simp;omega
    .by_cases A:b=(w:Nat);.exact ok.low b (oz A.symm)
     .rw[K b A]at C;exact ok.real _ _ C
   have a8:WR p L G μ {w with heap:=w.heap.push o} {W with heap:=W.heap.push (dO Z o)}:=by
    refine⟨λb c C=>?_,wr.tape,wr.os,wr.MW,wr.tp⟩;by_cases A:b=(w:Nat);.rw[A,P]at C;cases C;exact⟨o,dO Z o,by simp[A],S8,aa,λd j g=>(u d j (g.H0 ex)).1⟩
    .rw[K b A]at C;obtain⟨a5,a6,H,O,M,az⟩:=wr.obj b c C;have:=ok.lt _ _ C;exact⟨a5,a6,by rw[yo this.1,<-o9 this.1];exact H,by rw[yo this.2,<-o9 this.2];exact O,M,az.ext ex⟩
   refine(D ↑w (k' ↑W) μ _ _ _ _ a7 a8 ⟨ev.all.ext ex,ev.quiet⟩ (λd j g=>?_)).weaken ex ?_;.have:=(u d j (g.H0 ex)).2 ↑w (by rw[j.gh];exact ok.low _ L9);rwa [g _ _ P]at this
   .refine⟨S8,λc ag ah=>by show(W.heap.push _)[c]?=_;rw[yo ag,<-o9 ag],λc A H=>⟨(w:Nat),?_⟩,λb c C ag=>?_,rfl,rfl,L9,rfl⟩
    .have ba:c<(W:Nat)+1:=by simpa using H
     rw[P];congr 1;omega
    .by_cases A:b=(w:Nat);.rw[A,P]at C;cases C;omega
     .rw[K b A]at C;exact C
 |shape E k D=>
   intro s' U w W es ES ok wr ev y;refine(qO (dW p _)).elim (λl=>qX l) (λl=>?_);obtain⟨Z,r,c⟩:=ok.one;obtain⟨k',rfl,_⟩:=(y Z r c).Gc l;have u:eO G U λd=>Z E=d E/\∀v,SR p p' d (Q d) (k v) (k' v):=λd j g=>by obtain⟨N,e,q⟩:=(y d j g).Gc l;simp only[Sem.shape.injEq]at e;exact⟨e.1,e.2▸q⟩
   have B:=ok.dom (λd j g=>(u d j g).1);simp only[Sem.runT,wr.shape ok B];exact D _ _ U w W _ _ ok wr ev (λd j g=>(u d j g).2 _)
 |freeze a n k D=>
   intro s' U w W es ES ok wr ev y;refine(qO (dW p _)).elim (λl=>qX l) (λl=>?_);obtain⟨Z,r,c⟩:=ok.one;obtain⟨k',rfl,_⟩:=(y Z r c).Dj l;have u:eO G U λd=>bX Z a=bX d a/\SR p p' d (Q d) k k':=λd j g=>by obtain⟨N,e,q⟩:=(y d j g).Dj l;simp only[Sem.freeze.injEq]at e;exact⟨e.1,e.2.2▸q⟩
   obtain⟨x,B,R⟩:=sH ok (λd j g=>(u d j g).1);rw[R];simp only[Sem.runT];by_cases ab:n=0
   .subst ab;have z:∀(w:World) (a:Addr),w.freeze a 0=w:=λw a=>by simp[World.freeze]
    rw[z,z];exact D _ U w W _ _ ok wr ev (λd j g=>(u d j g).2)
   .obtain⟨o,o',A,H,O,M⟩:=wr.obj _ _ B;have tp:∀(w:World) (a:Addr),(w.freeze a n).tape=w.tape/\(w.freeze a n).drawn=w.drawn/\(w.freeze a n).os=w.os/\(w.freeze a n).output=w.output:=λw a=>by simp[World.freeze,ab]
    by_cases ak:∃cs t f,o=.cells cs t f
    .obtain⟨cs,t,⟨lo,hi⟩,rfl⟩:=ak;obtain⟨av,aj,k2⟩:=wr.cells ok B A;have J:=Be (n:=n) A (ok.lt _ _ B).1 ab;have F:=Be (w:=W) (a:={a with block:=x}) (n:=n) aj (ok.lt _ _ B).2 ab;have X:WR p L G U (w.freeze a n) (W.freeze {a with block:=x} n):=wr.iH ok B _ _ rfl (λd j g=>by simp only[dO];rw[k2 d j g]) J F ⟨(tp _ _).1,(tp _ _).2.1,(tp _ _).2.2.1⟩ ⟨(tp _ _).1,(tp _ _).2.1,(tp _ _).2.2.1⟩
     have V:eV G U ↑(w.freeze a n) ↑(W.freeze {a with block:=x} n):=by rw[J,F];simpa using ok
     exact(D k' U _ _ _ _ V X ev (λd j g=>(u d j g).2)).weaken (oH _) (Fr.iH ok B F (tp _ _).1 (tp _ _).2.2.2 (tp _ _).2.1 (tp _ _).2.2.1)
    .have a2:∀cs t f,o≠.cells cs t f:=λcs t f e=>ak ⟨cs,t,f,e⟩;have a3:∀cs t f,o'≠.cells cs t f:=λcs t f e=>by have:=M Z r c;rw[e]at this;cases o<;>simp_all[dO]
     have J:=Bf (n:=n) A a2;have F:=Bf (w:=W) (a:={a with block:=x}) (n:=n) H a3;have V:eV G U ↑(w.freeze a n) ↑(W.freeze {a with block:=x} n):=by rw[J,F];exact ok
     have X:WR p L G U (w.freeze a n) (W.freeze {a with block:=x} n):=⟨λb c C=>by rw[J,F];exact wr.obj b c C,λi q hi=>by rw[(tp w a).1,(tp w a).2.1,(tp W _).1,(tp W _).2.1];exact wr.tape i q (by rw[(tp w a).2.1]at hi;exact hi),by rw[(tp w a).2.2.1,(tp W _).2.2.1];exact wr.os,by rw[(tp w a).2.1,(tp W _).2.1];exact wr.MW,by rw[(tp w a).1];exact wr.tp⟩;refine(D k' U _ _ _ _ V X ev (λd j g=>(u d j g).2)).weaken (oH _) ⟨by rw[F];exact L9,λc _ _=>by rw[F],λc A H=>by rw[F]at H;omega,λ_ _ h _=>h,(tp _ _).1,(tp _ _).2.2.2,oz (tp _ _).2.1.symm,(tp _ _).2.2.1⟩
 |frozen a k D=>
   intro s' U w W es ES ok wr ev y;refine(qO (dW p _)).elim (λl=>qX l) (λl=>?_);obtain⟨Z,r,c⟩:=ok.one;obtain⟨k',rfl,_⟩:=(y Z r c).Dk l;have u:eO G U λd=>bX Z a=bX d a/\∀v,SR p p' d (Q d) (k v) (k' v):=λd j g=>by obtain⟨N,e,q⟩:=(y d j g).Dk l;simp only[Sem.frozen.injEq]at e;exact⟨e.1,e.2▸q⟩
   obtain⟨x,B,R⟩:=sH ok (λd j g=>(u d j g).1);rw[R];simp only[Sem.runT,wr.frozen ok B];exact D _ _ U w W _ _ ok wr ev (λd j g=>(u d j g).2 _)
 |getObj E k D=>
   intro s' U w W es ES ok wr ev y;refine(qO (dW p _)).elim (λl=>qX l) (λl=>?_);obtain⟨Z,r,c⟩:=ok.one;obtain⟨k',rfl,_⟩:=(y Z r c).Dl l;have u:eO G U λd=>Z E=d E/\∀v,cI p v=true->SR p p' d (Q d) (k v) (k' (dO d v)):=λd j g=>by obtain⟨N,e,q⟩:=(y d j g).Dl l;simp only[Sem.getObj.injEq]at e;exact⟨e.1,e.2▸q⟩
   have B:=ok.dom (λd j g=>(u d j g).1);obtain⟨o,o',A,H,O,M⟩:=wr.obj _ _ B;have K:=M Z r c;subst K;have hi:(dO Z o).isChan=o.isChan:=by cases o<;>rfl
   have goal:∀(af ae:Array Event),oI G U af ae->Out p L G U W Q ((k o).runT p w af) ((k' (dO Z o)).runT p' W ae):=λaf ae π=>D _ _ U w W _ _ ok wr π (λd j g=>by have h:=(u d j g).2 o O;rwa [<-M d j g]at h)
   have π:oI G U (es.push ⟨.obj E,false,o.isChan⟩) (ES.push ⟨.obj (Z E),false,o.isChan⟩):=ev.push (λd j g=>by rw[(u d j g).1];rfl) rfl;have:=goal _ _ π;cases o<;>simp only[Sem.runT,A,H,dO]<;>first|exact .inr (.inl rfl)|simpa only[dO,Obj.isChan]using this
 |setObj E I k D=>
   intro s' U w W es ES ok wr ev y;refine(qO (dW p _)).elim (λl=>qX l) (λl=>?_);obtain⟨Z,r,c⟩:=ok.one;obtain⟨k',rfl,aa,_⟩:=(y Z r c).Dm l;have u:eO G U λd=>Z E=d E/\dO Z I=dO d I/\SR p p' d (Q d) k k':=λd j g=>by obtain⟨N,e,_,q⟩:=(y d j g).Dm l;simp only[Sem.setObj.injEq]at e;exact⟨e.1,e.2.1,e.2.2▸q⟩
   have B:=ok.dom (λd j g=>(u d j g).1);obtain⟨o,o',A,H,O,M⟩:=wr.obj _ _ B;have K:=M Z r c;subst K;have hi:(dO Z I).isChan=I.isChan:=by cases I<;>rfl
   have S:=ok.lt _ _ B;have J:w.heap.setIfInBounds E I=w.heap.set E I S.1:=by simp[Array.setIfInBounds,S.1]
   have F:W.heap.setIfInBounds (Z E) (dO Z I)=W.heap.set (Z E) (dO Z I) S.2:=by simp[Array.setIfInBounds,S.2]
   have X:WR p L G U {w with heap:=w.heap.setIfInBounds E I} {W with heap:=W.heap.setIfInBounds (Z E) (dO Z I)}:=wr.iH ok B _ _ aa (λd j g=>(u d j g).2.1) J F ⟨rfl,rfl,rfl⟩ ⟨rfl,rfl,rfl⟩;have V:eV G U (w.heap.setIfInBounds E I).size (W.heap.setIfInBounds (Z E) (dO Z I)).size:=by simpa using ok
   have π:oI G U (es.push ⟨.obj E,true,I.isChan⟩) (ES.push ⟨.obj (Z E),true,(dO Z I).isChan⟩):=ev.push (λd j g=>by rw[hi,(u d j g).1];rfl) rfl;have goal:=(D k' U _ _ _ _ V X π (λd j g=>(u d j g).2.2)).weaken (oH _) (Fr.iH (W₁:={W with heap:=W.heap.setIfInBounds (Z E) (dO Z I)}) ok B F rfl rfl rfl rfl);cases o<;>simp only[Sem.runT,A,H,dO]<;>first|exact .inr (.inl rfl)|exact goal
 |choose q k D=>
   intro s' U w W es ES ok wr ev y;refine(qO (dW p _)).elim (λl=>qX l) (λl=>?_);obtain⟨Z,r,c⟩:=ok.one;obtain⟨k',rfl,_⟩:=(y Z r c).Dn l;have u:eO G U λd=>∀v,SR p p' d (Q d) (k v) (k' v):=λd j g=>by obtain⟨N,e,q⟩:=(y d j g).Dn l;simp only[Sem.choose.injEq]at e;exact e.2▸q
   simp only[Sem.runT];split;.exact D _ _ U w W _ _ ok wr ev (λd j g=>u d j g _)
   .by_cases a0:w.drawn<L.lim;.have h0:=wr.tape 0 q a0;simp only[FJ]at h0;rw[h0];have f:Fr U U W {W with drawn:=W.drawn+1}:=⟨L9,λ_ _ _=>rfl,λc (A:(W:Nat)<=c) (H:c<(W:Nat))=>by omega,λ_ _ h _=>h,rfl,rfl,qN _,rfl⟩;refine Out.weaken (oH _) f (D _ _ U {w with drawn:=w.drawn+1} {W with drawn:=W.drawn+1} _ _ ok ⟨wr.obj,λi q hi=>?_,wr.os,by have:=wr.MW;simp only[Int.natCast_add];omega,wr.tp⟩ ev (λd j g=>u d j g _));have:=wr.tape (1+i) q (by simp only at hi;omega);simpa[Ue]using this
    .refine Out.r9 ⟨?_,?_⟩;.have:=qi (p:=p) (k (q.cut (w.tape w.drawn q))) {w with drawn:=w.drawn+1} es;simp only at this;omega
     .have:=qi (p:=p') (k' (q.cut (W.tape W.drawn q))) {W with drawn:=W.drawn+1} ES;have bb:=wr.MW;simp only at this;omega
 |sys cl k D=>
   intro s' U w W es ES ok wr ev y;refine(qO (dW p _)).elim (λl=>qX l) (λl=>?_);obtain⟨Z,r,c⟩:=ok.one;obtain⟨rfl,k',rfl,_⟩:=(y Z r c).PN l;have u:eO G U λd=>∀v,SR p p' d (Q d) (k v) (k' v):=λd j g=>by obtain⟨_,N,e,q⟩:=(y d j g).PN l;simp only[Sem.sys.injEq]at e;exact e.2▸q
   have A:(W.sys .env).1=(w.sys .env).1:=by have:=wr.os;obtain⟨aa,tp,dr,os,bc⟩:=W;simp only at this;subst this;rfl
   simp only[Sem.runT,Zk,A];exact D _ _ U w W _ _ ok wr (ev.push (λd j g=>rfl) rfl) (λd j g=>u d j g _)
 |program k D=>
   intro s' U w W es ES ok wr ev y;refine(qO (dW p _)).elim (λl=>qX l) (λl=>?_);obtain⟨Z,r,c⟩:=ok.one;obtain⟨k',rfl,_⟩:=(y Z r c).Bc l;have u:eO G U λd=>SR p p' d (Q d) (k p) (k' p'):=λd j g=>by obtain⟨N,e,q⟩:=(y d j g).Bc l;simp only[Sem.program.injEq]at e;exact e▸q
   simp only[Sem.runT];exact D _ _ U w W _ _ ok wr ev u
 |mark m k D=>
   intro s' U w W es ES ok wr ev y;refine(qO (dW p _)).elim (λl=>qX l) (λl=>?_);obtain⟨Z,r,c⟩:=ok.one;obtain⟨k',rfl,P,_⟩:=(y Z r c).JZ l;have u:eO G U λd=>JU Z m=JU d m/\SR p p' d (Q d) k k':=λd j g=>by obtain⟨N,e,_,q⟩:=(y d j g).JZ l;simp only[Sem.mark.injEq]at e;exact⟨e.1,e.2▸q⟩
   simp only[Sem.runT];exact D _ U w W _ _ ok wr (ev.push (λd j g=>by rw[(u d j g).1];rfl) P) (λd j g=>(u d j g).2)
 |halt h=>
   intro s' U w W es ES ok wr ev y;refine(qO (dW p _)).elim (λl=>qX l) (λl=>?_);by_cases S:xf h=true;.exact .inr (.inl S)
   .obtain⟨Z,r,c⟩:=ok.one;rcases(y Z r c).J0 with x|⟨rfl,u⟩;.exact absurd x S
    .refine .inr<|.inr ⟨u,HY Z h,W,ES,U,rfl,oH _,ok,wr,JW _ _,ev,λd j g=>?_⟩;rcases(y d j g).J0 with x|⟨e,-⟩;.exact absurd x S
     .simpa using e
def iM(L:List Value):Prop:=∀v∈L,I0 v
def iM.push{L}(h:iM L){v}(c:I0 v):iM (L++[v]):=λx b=>by
 obtain a|a:=kV.1 b;.exact h x a
 .simp_all
def Sy1(L:List Value)(Z:Pi):Prop:=∀k x,L[k]?=some x->Z.s k=x
def OH{α:Type}{L a}(h:L<+:a){k:Nat}{x:α}(e:L[k]?=some x):a[k]?=some x:=by obtain⟨t,rfl⟩:=h;rw[pK (eJ.1 e).1];exact e
def Sy1.mono{L a Z}(h:Sy1 a Z)(e:L<+:a):Sy1 L Z:=λk x b=>h k x (OH e b)
structure Ab (L : List Value) (v v' : Value) : Prop where
 to : ∀ Z, Sy1 L Z -> bC Z v' = v
 fix : ∀ Z : Pi, Z.s = Gs.self.s -> bC Z v' = v'
def Ab.mono{L a v b}(h:Ab L v b)(e:L<+:a):Ab a v b:=⟨λZ c=>h.to Z (c.mono e),h.fix⟩
def Ab.leaf{L v}:Ab (L++[v]) v (.chan (some L.length)):=by
 refine⟨λZ h=>?_,λZ h=>?_⟩;.rw[cJ];exact h L.length v S8
 .rw[cJ];show Z.s L.length=_;rw[h];rfl
def TZ(v:Value):Prop:=∀L,iM L->∃L' v',L<+:L'/\iM L'/\Ab L' v v'
def I1:∀c,(∀v∈c,TZ v)->∀L,iM L->∃(d b:List Value),L<+:d/\iM d/\(∀Z,Sy1 d Z->b.map (bC Z)=c)/\∀Z,Z.s=Gs.self.s->b.map (bC Z)=b
 |[],_,L,e=>⟨L,[],ub _,e,λ_ _=>rfl,λ_ _=>rfl⟩
 |v::c,h,L,e=>by obtain⟨L1,l,k,l1,f⟩:=h v S8 L e;obtain⟨i,b,g,l2,t2,f2⟩:=I1 c (λx j=>h x (by simp[j])) L1 l1;exact⟨i,l::b,k.trans g,l2,λZ a=>by rw[qM,t2 Z a,(f.mono g).to Z a],λZ a=>by rw[qM,f2 Z a,f.fix Z a]⟩
def vV(b)(h:∀v∈b,TZ v)(L)(d:iM L):∃(a:List Value) (c:Array Value),L<+:a/\iM a/\(∀Z,Sy1 a Z->c.map (bC Z)=b)/\∀Z,Z.s=Gs.self.s->c.map (bC Z)=c:=by
 obtain⟨a,l,p,e,t,f⟩:=I1 b.toList (λv i=>h v (by simpa using i)) L d;refine⟨a,l.toArray,p,e,λZ g=>?_,λZ g=>?_⟩;.simp_all
 .simp_all
def lD{v}(h:∀Z,bC Z v=v):TZ v:=λL a=>⟨L,v,ub _,a,⟨λZ _=>h Z,λZ _=>h Z⟩⟩
def uL{v}(h:I0 v):TZ v:=λL a=>⟨L++[v],_,List.prefix_append _ _,a.push h,Ab.leaf⟩
def OI:∀n v,SizeOf.sizeOf v<n->TZ v
 |0,_,h=>by omega
 |n+1,v,h=>by have o:=OI n;cases v with
   |bool b=>exact lD λZ=>by simp
   |int k i=>exact lD λZ=>by simp
   |float k i=>exact lD λZ=>by simp
   |complex k a b=>exact lD λZ=>by simp
   |string s=>exact lD λZ=>by simp
   |nilFunc=>exact lD λZ=>by simp
   |nilIface=>exact lD λZ=>by simp
   |pointer a=>cases a with
     |none=>exact lD λZ=>by simp
     |some a=>exact uL trivial
   |slice a l c=>cases a with
     |none=>exact lD λZ=>by simp
     |some a=>exact uL trivial
   |map r=>cases r with
     |none=>exact lD λZ=>by simp
     |some a=>exact uL trivial
   |chan r=>cases r with
     |none=>exact lD λZ=>by simp
     |some a=>exact uL trivial
   |iface t x=>intro L e;obtain⟨m,j,p,l,a⟩:=o x (by simp at h;omega) L e;exact⟨m,.iface t j,p,l,⟨λZ d=>by rw[cS,a.to Z d],λZ d=>by rw[cS,a.fix Z d]⟩⟩
   |agg cs=>intro L e;obtain⟨m,j,p,l,t,f⟩:=vV cs (λv g=>o v (by have:=OJ g;simp at h;omega)) L e;exact⟨m,.agg j,p,l,⟨λZ d=>by rw[dB,t Z d],λZ d=>by rw[dB,f Z d]⟩⟩
   |tuple cs=>intro L e;obtain⟨m,j,p,l,t,f⟩:=vV cs (λv g=>o v (by have:=OJ g;simp at h;omega)) L e;exact⟨m,.tuple j,p,l,⟨λZ d=>by rw[dI,t Z d],λZ d=>by rw[dI,f Z d]⟩⟩
   |func fn a b=>
     by_cases u:∃k,fn=.yield k;.obtain⟨k,rfl⟩:=u;exact uL trivial
     have q:∀Z,qa Z fn=fn:=λZ=>by cases fn<;>first|rfl|exact absurd ⟨_,rfl⟩ u
     intro L e;obtain⟨L1,j,p,l,t,f⟩:=vV a (λv g=>o v (by have:=OJ g;simp at h;omega)) L e;obtain⟨y,z,w,l2,t2,f2⟩:=vV b (λv g=>o v (by have:=OJ g;simp at h;omega)) L1 l;exact⟨y,.func fn j z,p.trans w,l2,⟨λZ d=>by rw[dK,q,t Z (d.mono w),t2 Z d],λZ d=>by rw[dK,q,f Z d,f2 Z d]⟩⟩
structure Sy(n:Nat)(L:List Value)(H:List Addr)(Z:Pi):Prop where
 s:Sy1 L Z
 gh:∀j x,H[j]?=some x->Z.gh (n+j)=some x
 real:∀b,b<n->Z.gh b=none
def Sy.mono{n L b H a Z}(h:Sy n b a Z)(e:L<+:b)(c:H<+:a):Sy n L H Z:=⟨h.s.mono e,λj x d=>h.gh j x (OH c d),h.real⟩
def kp(N:Nat->Prop):Value->Prop
 |.int ..|.string _|.slice none _ _=>True
 |.slice (some a) _ _=>N a.block
 |.agg cs=>∀v∈cs,∃k n,v=.int k n
 |_=>False
def I2(Z){cs:Array Value}(h:∀v∈cs,∃k n,v=.int k n):cs.map (bC Z)=cs:=by apply yl;intro i;rw[kW];cases a:cs[i]? with
 |none=>rfl
 |some v=>obtain⟨k,n,rfl⟩:=h v (CI a);simp
structure Rl (n : Nat) (N : Nat -> Prop) (L : List Value) (H : List Addr) (v v' : Value) : Prop where
 to : ∀ Z, Sy n L H Z -> (∀ b, N b -> Z b = b) -> bC Z v' = v
 fix : ∀ Z : Pi, Z.s = Gs.self.s -> (∀ b, Z.gh b = none) -> (∀ b, N b -> Z b = b) -> (∀ j, j < H.length -> Z (n + j) = n + j) -> bC Z v' = v'
 keep : kp N v -> v' = v
 bare : ∀ a, v = .slice (some a) 0 0 -> ∃ a', v' = .slice (some a') 0 0
def Rl.mono{n N L b H a v d}(h:Rl n N L H v d)(e:L<+:b)(c:H<+:a):Rl n N b a v d:=⟨λZ o m=>h.to Z (o.mono e c) m,λZ f g i k=>h.fix Z f g i λj l=>k j (eQ l c.length_le),h.keep,h.bare⟩
def abE{n N}(hN:∀b,N b->b<n)(v L H)(m:iM L):∃f q o,L<+:f/\H<+:q/\iM f/\Rl n N f q v o:=by
 by_cases d:kp N v
 .refine⟨L,H,v,ub _,ub _,m,⟨λZ g w=>?_,λZ j k r t=>?_,λ_=>rfl,λa e=>⟨a,e⟩⟩⟩
  .cases v<;>first|(cases d;done)|(simp;done)|exact(by rw[dB,I2 Z d])|skip
   rename_i a l c;cases a with
   |none=>simp
   |some a=>have i:=d;rw[bN,pY,fP (g.real _ (hN _ i))];simp[bX,w _ i]
  .cases v<;>first|(cases d;done)|(simp;done)|exact(by rw[dB,I2 Z d])|skip
   rename_i a l c;cases a with
   |none=>simp
   |some a=>have i:=d;rw[bN,pY,fP (k _)];simp[bX,r _ i]
 by_cases u:∃a,v=.slice (some a) 0 0
 .obtain⟨a,rfl⟩:=u;refine⟨L,H++[a],.slice (n+H.length,0) 0 0,ub _,List.prefix_append _ _,m,⟨λZ g w=>?_,λZ j k r t=>?_,λh=>absurd h d,λ_ _=>⟨_,rfl⟩⟩⟩;.have:=g.gh H.length a S8;simp[ym,this]
  .rw[bN,pY,fP (k _)];simp[t H.length S8]
 .obtain⟨f,o,p,l,a⟩:=OI (SizeOf.sizeOf v+1) v (o7 _) L m;exact⟨f,H,o,p,ub _,l,⟨λZ g _=>a.to Z g.s,λZ j _ _ _=>a.fix Z j,λh=>absurd h d,λx e=>absurd ⟨x,e⟩ u⟩⟩
def Hx{n N}(hN:∀b,N b->b<n):∀(c:List Value) (L:List Value) (H:List Addr),iM L->∃(e:List Value) (j:List Addr) (d:List Value),L<+:e/\H<+:j/\iM e/\d.length=c.length/\∀(i:Nat) (v:Value),c[i]?=some v->∃a,d[i]?=some a/\Rl n N e j v a
 |[],L,H,f=>⟨L,H,[],ub _,ub _,f,rfl,λi v h=>by simp at h⟩
 |v::c,L,H,f=>by obtain⟨L1,m,a,r,s,l1,r1⟩:=abE hN v L H f;obtain⟨p,o,d,k,l,l2,q,r2⟩:=Hx hN c L1 m l1;refine⟨p,o,a::d,r.trans k,s.trans l,l2,by simp[q],λi x g=>?_⟩;cases i with
   |zero=>simp at g;subst g;exact⟨a,rfl,r1.mono k l⟩
   |succ i=>exact r2 i x (by simpa using g)
def RlO(n:Nat)(N:Nat->Prop)(L:List Value)(H:List Addr)(o o':Obj):Prop:=(∀cs' t f,o'=.cells cs' t f->∃cs,o=.cells cs t f)/\∀(cs:Array Value) (t:TypeId) (f:Nat×Nat),o=.cells cs t f->∃cs',o'=.cells cs' t f/\cs'.size=cs.size/\∀(i:Nat) (v:Value),cs[i]?=some v->∃v',cs'[i]?=some v'/\Rl n N L H v v'
def RlO.mono{n N L b H a o o'}(h:RlO n N L H o o')(e:L<+:b)(d:H<+:a):RlO n N b a o o':=⟨h.1,λcs t f l=>by obtain⟨c,g,j,k⟩:=h.2 cs t f l;exact⟨c,g,j,λi v m=>let⟨q,p,k2⟩:=k i v m;⟨q,p,k2.mono e d⟩⟩⟩
def YO{n N}(hN:∀b,N b->b<n)(o L H)(g:iM L):∃c d o',L<+:c/\H<+:d/\iM c/\RlO n N c d o o':=by
 by_cases h:∃cs t f,o=.cells cs t f
 .obtain⟨cs,t,f,rfl⟩:=h;obtain⟨c,d,j,p,q,l,e,r⟩:=Hx hN cs.toList L H g;refine⟨c,d,.cells j.toArray t f,p,q,l,λk s f' a=>?_,λk s f' a=>?_⟩;.simp_all
  cases a;exact⟨j.toArray,rfl,by simpa using e,λi v m=>by simpa using r i v (by simpa using m)⟩
 .exact⟨L,H,o,ub _,ub _,g,λcs t f a=>⟨cs,a⟩,λcs t f a=>absurd ⟨cs,t,f,a⟩ h⟩
def I3{n N}(hN:∀b,N b->b<n):∀(os:List Obj) (L:List Value) (H:List Addr),iM L->∃(a:List Value) (e:List Addr) (f:List Obj),L<+:a/\H<+:e/\iM a/\f.length=os.length/\∀(i:Nat) (o:Obj),os[i]?=some o->∃o',f[i]?=some o'/\RlO n N a e o o'
 |[],L,H,c=>⟨L,H,[],ub _,ub _,c,rfl,λi v h=>by simp at h⟩
 |v::t,L,H,c=>by obtain⟨L1,l,k,r,s,l1,r1⟩:=YO hN v L H c;obtain⟨p,m,u,g,j,l2,q,r2⟩:=I3 hN t L1 l l1;refine⟨p,m,k::u,r.trans g,s.trans j,l2,by simp[q],λi x d=>?_⟩;cases i with
   |zero=>simp at d;subst d;exact⟨k,rfl,r1.mono g j⟩
   |succ i=>exact r2 i x (by simpa using d)
theorem wh{Z n}(a:∀v,oM n v=true->bC Z v=v){cs:Array Value}(h:cs.all (oM n)=true):cs.map (bC Z)=cs:=by grind
theorem Dq(Z):∀n v,oM n v=true->bC Z v=v
 |0,_,h=>by cases h
 |n+1,v,h=>by have c:=Dq Z n;cases v with
   |pointer a=>cases a<;>simp_all[oM]
   |slice a=>cases a<;>simp_all[oM]
   |map a=>cases a<;>simp_all[oM]
   |chan a=>cases a<;>simp_all[oM]
   |iface t v=>rw[cS,c v h]
   |agg cs=>rw[dB,wh c h]
   |tuple cs=>rw[dI,wh c h]
   |func f a b=>simp only[oM,dJ]at h;rw[dK,wh c h.1.2,wh c h.2];cases f<;>first|rfl|(exact absurd h.1.1 S8)
   |_=>simp
theorem Dr(Z v)(h:HZ v=true):bC Z v=v:=Dq Z 5 v h
def zS(n:Nat):TypeDesc->Bool
 |.pointer e|.slice e|.array _ e|.chan _ e=>decide (e<n)
 |.map k e=>decide (k<n)&&decide (e<n)
 |.struct fs=>fs.all λf=>decide (f.type<n)
 |.func a b _=>a.all (decide<|·<n)&&b.all (decide<|·<n)
 |.tuple ts=>ts.all (decide<|·<n)
 |.named _ u=>decide (u<n)
 |_=>true
structure Fit(G:Gs)(p p':Program):Prop where
 tab:p'.toTables={p.toTables with globals:=p'.globals,rt:=p'.rt}
 rts:{p'.rt with typeAssertionError:=p.rt.typeAssertionError}=p.rt
 ta:∀e,p.underlying p.rt.typeAssertionError≠some (.pointer e)
 zero:∀i∈p.types,∀v,i.zero=some v->HZ v=true
 desc:∀i∈p.types,zS p.types.size i.desc=true
 none:p.globals.size=0
 fol:p.follows .rangeFuncRecover=true
 adp:p'.globals.size<=1
section
variable{G:Gs}{p p':Program}(F:Fit G p p')
include F
theorem Fit.ex:∃a r,p'.toTables={p.toTables with globals:=a,rt:=r}:=⟨_,_,F.tab⟩
theorem Fit.types:p'.types=p.types:=by obtain⟨a,r,h⟩:=F.ex;rw[h]
theorem Fit.cut:p'.cutTypes=p.cutTypes:=by obtain⟨a,r,h⟩:=F.ex;rw[h]
theorem Fit.inits:p'.inits=p.inits:=by obtain⟨a,r,h⟩:=F.ex;rw[h]
theorem Fit.follow:p'.follow=p.follow:=by obtain⟨a,r,h⟩:=F.ex;rw[h]
theorem Fit.infoAt:∀n t,Made.infoAt p'.toTables n t=Made.infoAt p.toTables n t
 |0,_=>rfl
 |n+1,t=>by have a:Made.infoAt p'.toTables n=Made.infoAt p.toTables n:=funext (Fit.infoAt n);simp[Made.infoAt,F.types,a]
theorem Fit.info(t):p'.info? t=p.info? t:=by simp[Tables.info?,F.types,F.infoAt]
theorem Fit.under(t):p'.underlying t=p.underlying t:=by simp[Program.underlying,F.info]
theorem Fit.cellsOf(t):p'.cellsOf t=p.cellsOf t:=by simp[Program.cellsOf,F.info]
theorem Fit.bytesOf(t):p'.bytesOf t=p.bytesOf t:=by simp[Program.bytesOf,F.info]
theorem Fit.depth:p'.depth=p.depth:=by simp[Program.depth,F.types]
end
theorem Ds{p:Program}{t:TypeId}{i}(a:t<p.types.size)(h:p.info? t=some i):i∈p.types:=by simp only[Tables.info?,a]at h;exact CI h
theorem Dt{G p p'}(F:Fit G p p'){t:TypeId}{d}(c:t<p.types.size)(h:p.underlying t=some d):zS p.types.size d=true:=by simp[Program.underlying]at h;cases hi:p.info? t with
 |none=>rw[hi]at h;cases h
 |some i=>have a:=F.desc i (Ds c hi);rw[hi]at h;obtain⟨desc,_,_,_,_,_,_,_,_,_⟩:=i;cases desc with
   |named n u=>simp[zS]at a;simp only at h;cases b:p.info? u with
     |none=>rw[b]at h;cases h
     |some j=>rw[b]at h;cases h;exact F.desc j (Ds a b)
   |_=>cases h;exact a
section
variable{G:Gs}{p p':Program}{Z:Pi}(F:Fit G p p')(R:Rn G Z)
variable{α β:Type}{Q:α->β->Prop}
theorem iG{f f'}(h:SR p p' Z Q (f p) (f' p')):SR p p' Z Q (program>>=f) (program>>=f'):=SR.program h
theorem Cr{s s'}:SR p p' Z Q (stuck s) s':=aN rfl
theorem Vm{u s'}(h:xf (.unsupported u)=true):SR p p' Z Q (unsupported u) s':=aN h
theorem Cs{a m}:SR p p' Z (λv b=>b=bC Z v) (load a m) (load (bX Z a) m):=SR.load λ_=>SR.pure rfl
theorem Vn{a v m}:SR p p' Z (λ_ _=>True) (store a v m) (store (bX Z a) (bC Z v) m):=SR.store (SR.pure trivial)
theorem p5{o}(a:cI p o=true):SR p p' Z (λr b=>b=Z r) (newObj o) (newObj (dO Z o)):=SR.new a λ_ _=>SR.pure rfl
theorem MZ{o}(a:cI p o=true):SR p p' Z (λr b=>b=Z r/\Z.gh r=none) (newObj o) (newObj (dO Z o)):=SR.new a λ_ h=>SR.pure ⟨rfl,h⟩
theorem nX{r}:SR p p' Z (λs s'=>s'=s) (shape r) (shape (Z r)):=SR.shape λ_=>SR.pure rfl
theorem wj{a}:SR p p' Z (λs s'=>s'=s) (frozen a) (frozen (bX Z a)):=SR.frozen λ_=>SR.pure rfl
theorem Gd{a n}:SR p p' Z (λ_ _=>True) (freeze a n) (freeze (bX Z a) n):=SR.freeze (SR.pure trivial)
theorem gX{r}:SR p p' Z (λo o'=>o'=dO Z o) (getObj r) (getObj (Z r)):=SR.getObj λ_ _=>SR.pure rfl
theorem xN{r}:SR p p' Z (λo o'=>o'=dO Z o/\cI p o=true) (getObj r) (getObj (Z r)):=SR.getObj λ_ h=>SR.pure ⟨rfl,h⟩
theorem gI{r o}(a:cI p o=true):SR p p' Z (λ_ _=>True) (setObj r o) (setObj (Z r) (dO Z o)):=SR.setObj a (SR.pure trivial)
theorem gY{q}:SR p p' Z (λn a=>a=n) (choose q) (choose q):=SR.choose λ_=>SR.pure rfl
theorem H2{m}(h:okM m=true:=by rfl):SR p p' Z (λ_ _=>True) (mark m) (mark (JU Z m)):=SR.mark h (SR.pure trivial)
theorem eA{c}[Decidable c]{s t s' a}(h:SR p p' Z Q s s')(b:SR p p' Z Q t a):SR p p' Z Q (if c then s else t) (if c then s' else a):=by grind
theorem Zl{c}[Decidable c]{s t s' a}(h:c->SR p p' Z Q s s')(b:¬c->SR p p' Z Q t a):SR p p' Z Q (if c then s else t) (if c then s' else a):=by grind
include F
theorem fQ(t):SR p p' Z (λi a=>a=i/\p.info? t=some i) (typeInfo t) (typeInfo t):=by refine iG ?_;rw[F.info];cases h:p.info? t with
 |none=>exact Cr
 |some i=>exact aO ⟨rfl,rfl⟩
theorem aT(t):SR p p' Z (λi a=>a=i/\p.underlying t=some i) (underlying t) (underlying t):=by refine iG ?_;rw[F.under];cases h:p.underlying t with
 |none=>exact Cr
 |some i=>exact aO ⟨rfl,rfl⟩
theorem dS(t):SR p p' Z (λi a=>a=i) (sizeOf t) (sizeOf t):=by refine aL (fQ F t) ?_;rintro _ _ ⟨rfl,_⟩;exact aO rfl
theorem fY{t:TypeId}(a:t<p.types.size):SR p p' Z (λv c=>c=v/\bC Z v=v) (zeroValue t) (zeroValue t):=by refine aL (fQ F t) ?_;rintro _ i ⟨rfl,hi⟩;cases b:i.zero with
 |none=>exact Vm rfl
 |some v=>exact aO ⟨rfl,Dr Z v (F.zero i (Ds a hi) v b)⟩
theorem J1(t):SR p p' Z (λi a=>a=i) (isAgg t) (isAgg t):=by refine aL (aT F t) ?_;rintro _ d ⟨rfl,_⟩;cases d<;>exact aO rfl
omit F in
theorem sI(a):∀n i acc,SR p p' Z (λv b=>b=v.map (bC Z)) (loadCellsFrom a i n acc) (loadCellsFrom (bX Z a) i n (acc.map (bC Z)))
 |0,_,_=>aO rfl
 |n+1,i,acc=>by
   refine aL (Q:=λv b=>b=bC Z v) ?_ ?_;.rw[<-yO];exact Cs
   .rintro v _ rfl;rw[<-Array.map_push];exact sI a n (i+1) (acc.push v)
omit F in
theorem yQ(a n):SR p p' Z (λv b=>b=v.map (bC Z)) (loadCells a n) (loadCells (bX Z a) n):=by have:=sI (p:=p) (p':=p') (Z:=Z) a n 0 #[];simpa[loadCells]using this
omit F in
theorem oZ(a):∀b i,SR p p' Z (λ_ _=>True) (storeCells a b i) (storeCells (bX Z a) (b.map (bC Z)) i)
 |[],_=>aO trivial
 |v::b,i=>by
   refine aL (Q:=λ_ _=>True) ?_ ?_;.rw[<-yO];exact Vn
   .intro _ _ _;exact oZ a b (i+1)
theorem tz(t a):SR p p' Z (λv c=>c=bC Z v) (loadVar t a) (loadVar t (bX Z a)):=by
 refine aL (J1 F t) ?_;rintro _ b rfl;cases b;.exact Cs
 .refine aL (dS F t) ?_;rintro _ n rfl;refine aL (yQ a n) ?_;rintro v _ rfl;exact aO S8
theorem J2(t a v):SR p p' Z (λ_ _=>True) (storeVar t a v) (storeVar t (bX Z a) (bC Z v)):=by
 refine aL (dS F t) ?_;rintro _ n rfl;rw[lW,Jd];by_cases h:v.cells.size≠n;.rw[bM h];exact aN rfl
 .rw[aX h,aX h];simp;exact oZ a _ 0
omit F in
theorem xh(a n l c)(h:l=0->c=0->n=0):SR p p' Z (λv d=>d=v.map (bC Z)) (loadCells a n) (loadCells (ym Z l c a) n):=by
 by_cases b:l=0/\c=0;.have:=h b.1 b.2;subst this;exact aO S8
 .rw[pZ b];exact yQ a n
omit F in
theorem u6(a b x l c)(h:l=0->c=0->b=[]):SR p p' Z (λ_ _=>True) (storeCells (a.add x) b) (storeCells ((ym Z l c a).add x) (b.map (bC Z))):=by
 by_cases d:l=0/\c=0;.have:=h d.1 d.2;subst this;exact aO trivial
 .rw[pZ d,<-yO];exact oZ _ b 0
omit F in
theorem RF(e cs):SR p p' Z (λa a'=>a'=bX Z a) (newRow e cs) (newRow e (cs.map (bC Z))):=by refine aL (p5 (o:=.cells cs e) rfl) ?_;rintro r _ rfl;exact aO rfl
omit F in
theorem qj(e cs):SR p p' Z (λa a'=>a'=bX Z a/\Z.gh a.block=none) (newRow e cs) (newRow e (cs.map (bC Z))):=by refine aL (MZ (o:=.cells cs e) rfl) ?_;rintro r _ ⟨rfl,h⟩;exact aO ⟨rfl,h⟩
omit F in
theorem zT(e v):SR p p' Z (λa a'=>a'=bX Z a) (newVar e v) (newVar e (bC Z v)):=by simp[newVar];exact RF e _
theorem Ge(t):SR p p' Z (λa a'=>a'=a) (elemOf t) (elemOf t):=by refine aL (aT F t) ?_;rintro _ d ⟨rfl,_⟩;cases d<;>first|exact aO rfl|exact Cr
theorem kY(t cs off):SR p p' Z (λv a=>a=bC Z v) (part t cs off) (part t (cs.map (bC Z)) off):=by
 refine aL (J1 F t) ?_;rintro _ b rfl;cases b;.rw[kW];cases cs[off]? with
  |none=>exact Cr
  |some v=>exact aO rfl
 .refine aL (dS F t) ?_;rintro _ n rfl;exact aO S8
omit F in
theorem ql(v):SR p p' Z (λx b=>b=x) (asIntOf v) (asIntOf (bC Z v)):=by cases v with
 |int k n=>rw[cQ];exact aO rfl
 |pointer a=>cases a<;>exact aN rfl
 |_=>exact aN rfl
omit F in
theorem zU(v):SR p p' Z (λx a=>a=x) (asBool v) (asBool (bC Z v)):=by cases v with
 |bool k=>rw[dX];exact aO rfl
 |_=>exact aN rfl
omit F in
theorem qZ(v):SR p p' Z (λx b=>b=bX Z x) (Instr.sureAddr v) (Instr.sureAddr (bC Z v)):=by cases v with
 |pointer a=>cases a with
   |none=>exact aN rfl
   |some a=>rw[bG];exact aO rfl
 |_=>exact aN rfl
end
section
variable{G:Gs}{p p':Program}{Z:Pi}(F:Fit G p p')(R:Rn G Z)
variable{α β:Type}{Q:α->β->Prop}
abbrev VR(Z:Pi)(v v':Value):Prop:=v'=bC Z v
theorem mV{v a}(h:a=bC Z v):SR p p' Z Q (goPanic v) (goPanic a):=by subst h;exact SR.halt rfl
include F R
omit F R in
theorem J3{t Q}{s':Sem TypeId}(h:∀e,p.underlying t≠some (.pointer e))(f:∃k,s'=.program k):SR p p' Z Q (elemOf t) s':=by
 obtain⟨k,rfl⟩:=f;have e:∃BU:Program->Sem TypeId,elemOf t=.program BU/\((∀e,p.underlying t≠some (.pointer e))->∃s,BU p=.halt (.stuck s)):=by refine⟨_,rfl,λh=>?_⟩;simp[Sem.bind];cases g:p.underlying t with
  |none=>exact⟨_,rfl⟩
  |some d=>rw[g]at h;cases d<;>first|exact absurd rfl (h _)|exact⟨_,rfl⟩
 obtain⟨BU,a,b⟩:=e;obtain⟨s,c⟩:=b h;rw[a];exact SR.program (by rw[c];exact aN rfl)
def abh:RuntimeError->Bool
 |.unhashable _=>true
 |_=>false
omit R in
theorem bK(e)(k:abh e=false:=by rfl):SR p p' Z Q (runtimePanic e) (runtimePanic e):=by
 have b:=F.rts;have f:p'.rt.boundsError=p.rt.boundsError:=by rw[<-b]
 have d:p'.rt.errorString=p.rt.errorString:=by rw[<-b]
 have g:p'.rt.plainError=p.rt.plainError:=by rw[<-b]
 have j:p'.rt.panicNilError=p.rt.panicNilError:=by rw[<-b]
 refine iG ?_;cases e with
 |bounds x y s c=>simp[f];exact mV S8
 |error m=>simp[d];exact mV (by simp[strVal])
 |plain m=>simp[g];exact mV (by simp[strVal])
 |nilDeref=>simp[d];exact mV (by simp[strVal])
 |typeAssertion i c a m=>exact aL (Q:=λ_ _=>False) (J3 F.ta ⟨_,rfl⟩) (λ_ _ h=>h.elim)
 |panicNil=>simp[j];refine aL (Ge F _) ?_;rintro _ e rfl;refine aL (Q:=λa a'=>a'=bX Z a) (by simpa using zT (p:=p) (p':=p') (Z:=Z) e (.agg #[])) ?_;rintro a _ rfl;exact mV S8
 |unhashable t=>cases k
theorem iC(k x y c):SR p p' Z Q (boundsPanic k x y c) (boundsPanic k x y c):=by
 unfold boundsPanic;split;.refine aL (Q:=λa b=>b=a) (PK (f:=λn=>Sem.pure (n==1)) (f':=λn=>Sem.pure (n==1)) gY (by rintro _ n rfl;exact SR.pure rfl)) ?_;rintro _ s rfl;exact bK F _
 .refine aL (Q:=λa b=>b=a) (aO rfl) ?_;rintro _ s rfl;exact bK F _
theorem zV(v):SR p p' Z (λx b=>b=bX Z x) (asAddr v) (asAddr (bC Z v)):=by cases v with
 |pointer a=>cases a with
   |none=>rw[bG];exact(bK F .nilDeref:SR p p' Z _ (runtimePanic .nilDeref) (runtimePanic .nilDeref))
   |some a=>rw[bG];exact aO rfl
 |_=>exact aN rfl
omit R
theorem Vo{t:TypeId}(b:t<p.types.size):SR p p' Z (VR Z) (Instr.alloc t true (.tuple #[])) (Instr.alloc t true (.tuple #[])):=by refine aL (fY F b) ?_;rintro _ v ⟨rfl,c⟩;refine aL (Q:=λa a'=>a'=bX Z a) (by have:=zT (p:=p) (p':=p') (Z:=Z) t v;rwa [c]at this) ?_;rintro a _ rfl;exact aO (by simp[VR])
omit F in
theorem ab4(t v):SR p p' Z (VR Z) (Instr.box t v) (Instr.box t (bC Z v)):=by refine aL (zT t v) ?_;rintro a _ rfl;exact aO (by simp[VR])
theorem RG(t v):SR p p' Z (VR Z) (Instr.loadAt t v) (Instr.loadAt t (bC Z v)):=by refine aL (qZ v) ?_;rintro a _ rfl;exact tz F t a
theorem M0(t v x):SR p p' Z (λ_ _=>True) (Instr.storeAt t v x) (Instr.storeAt t (bC Z v) (bC Z x)):=by refine aL (qZ v) ?_;rintro a _ rfl;exact J2 F t a x
omit F in
theorem Gf(r):SR p p' Z (λx b=>b=x.map λ(a,t)=>(bX Z a,t)) (viewAt r) (viewAt (Z r)):=by refine aL nX ?_;rintro _ s rfl;cases s with
 |some s=>exact aO rfl
 |none=>refine aL gX ?_;rintro o _ rfl;cases o<;>exact aO rfl
omit F in
theorem Bh(r):SR p p' Z (λx b=>b=x.map λ(a,t)=>(bX Z a,t)) (numberAt r) (numberAt (Z r)):=by refine aL nX ?_;rintro _ s rfl;cases s with
 |some s=>exact aO rfl
 |none=>refine aL gX ?_;rintro o _ rfl;cases o<;>exact aO rfl
omit F in
theorem gK(a):SR p p' Z (λx b=>b=(bX Z x.1,x.2)) (behindNumber a) (behindNumber (bX Z a)):=by refine aL (Bh a.block) ?_;rintro x _ rfl;cases x<;>exact aO rfl
omit F in
theorem J4(a b):SR p p' Z (VR Z) (asNumber a b) (asNumber (bX Z a) b):=by refine aL (p5 (o:=.number a b) rfl) ?_;rintro r _ rfl;exact aO (by simp[VR])
omit F in
theorem zW(a):SR p p' Z (λ_ _=>True) (noView a) (noView (bX Z a)):=by refine aL (Gf a.block) ?_;rintro x _ rfl;cases x with
 |none=>exact aO trivial
 |some x=>exact aN rfl
theorem xk(d t c):byteOfCell p' d t c=byteOfCell p d t c:=by induction d generalizing t c with
 |zero=>rfl
 |succ d a=>simp[byteOfCell,F.under,F.bytesOf,F.cellsOf,a]
theorem zX(a):SR p p' Z (λx b=>b=x) (byteOf a) (byteOf (bX Z a)):=by simp[byteOf];cases a.spot with
 |some s=>exact aO rfl
 |none=>refine iG ?_;refine aL (zW a) ?_;intro _ _ _;refine aL nX ?_;rintro _ s rfl;cases s with
   |none=>exact aN rfl
   |some s=>
     simp[F.cellsOf,F.bytesOf,F.depth,xk F];split;.exact aO rfl
     .split;.exact aO rfl
      .exact aN rfl
theorem RL(a c b):SR p p' Z (λx d=>d=bX Z x) (partAt a c b) (partAt (bX Z a) c b):=by refine aL (zX F a) ?_;rintro _ n rfl;refine aL (Q:=λx d=>d=x) (zX F {block:=a.block,off:=a.off+c}) ?_;rintro _ m rfl;refine aO ?_;split<;>rfl
theorem rK(a f):SR p p' Z (λx b=>b=bX Z x) (fieldPlace a f) (fieldPlace (bX Z a) f):=by
 refine aL (dS F f.type) ?_;rintro _ n rfl;split;.exact RL F a _ _
 .exact aO (by rw[yO])
theorem M3(s v i):SR p p' Z (VR Z) (Instr.fieldAt s v i) (Instr.fieldAt s (bC Z v) i):=by refine aL (aT F s) ?_;rintro _ d ⟨rfl,_⟩;cases d with
 |struct fields=>simp only;cases fields[i]? with
   |none=>exact aN rfl
   |some f=>refine aL (qZ v) ?_;rintro a _ rfl;refine aL (rK F a f) ?_;rintro a _ rfl;exact aO (by simp[VR])
 |_=>exact aN rfl
include R
theorem Fl(v y c):SR p p' Z (λx a=>a=x/\x<=y) (Instr.sliceBound v y c) (Instr.sliceBound (bC Z v) y c):=by
 refine aL (ql v) ?_;rintro _ ⟨k,i⟩ rfl;simp only;split;.exact aO ⟨rfl,O9⟩
 .exact iC F R _ _ _ _
def nw(Z:Pi):Value->Prop
 |.pointer (some a)=>Z.gh a.block=none
 |.slice (some a) l c=>Z.gh a.block=none\/(l=0/\c=0)
 |_=>True
omit F R in
theorem add_block(a:Addr)(n):(a.add n).block=a.block:=by simp[Addr.add];split<;>rfl
theorem nY(b l c lo hi a):SR p p' Z (λx d=>d=x/\(l=0->c=0->x=(0,0,0))) (Instr.sliceBounds b l c lo hi a) (Instr.sliceBounds b l c (lo.map (bC Z)) (hi.map (bC Z)) (a.map (bC Z))):=by cases a<;>cases hi<;>cases lo<;>simp;all_goals repeat' (first|exact aO ⟨rfl,λe f=>by simp;omega⟩|refine aL (Fl F R _ _ _) ?_|refine aL (Q:=λx d=>d=x/\x=_) (aO ⟨rfl,rfl⟩) ?_|exact aN rfl|(rintro _ _ ⟨rfl,_⟩))
theorem Vp(t x)(g:nw Z x)(lo hi c):SR p p' Z (VR Z) (Instr.slice t x lo hi c) (Instr.slice t (bC Z x) (lo.map (bC Z)) (hi.map (bC Z)) (c.map (bC Z))):=by refine aL (aT F t) ?_;rintro _ d ⟨rfl,_⟩;cases d with
 |string=>cases x with
   |string s=>
     simp;split;.exact aN rfl
     .refine aL (nY F R false _ _ lo hi none) ?_;rintro _ ⟨l,h,m⟩ ⟨rfl,-⟩;exact aO (by simp[VR])
   |_=>exact aN rfl
 |slice e=>cases x with
   |slice a len cap=>simp;refine aL (nY F R true _ _ lo hi c) ?_;rintro _ ⟨l,h,m⟩ ⟨rfl,i⟩;refine aL (dS F e) ?_;rintro _ n rfl;refine aO ?_;simp[VR];cases a with
     |none=>split<;>rfl
     |some a=>
       rcases(g:Z.gh a.block=none\/(len=0/\cap=0))with b|⟨rfl,rfl⟩
       .have f:Z.gh (a.add (l*n)).block=none:=by rw[add_block];exact b
        split<;>simp[fP b,fP f]
       .simp_all
   |_=>exact aN rfl
 |pointer arr=>
   refine aL (Q:=λa a'=>a'=bX Z a/\Z.gh a.block=none) ?_ ?_;.cases x with
    |pointer a=>cases a with
      |none=>rw[bG];exact(bK F .nilDeref:SR p p' Z _ (runtimePanic .nilDeref) (runtimePanic .nilDeref))
      |some a=>rw[bG];exact aO ⟨rfl,g⟩
    |_=>exact aN rfl
   rintro a _ ⟨rfl,b⟩;refine aL (aT F arr) ?_;rintro _ d ⟨rfl,_⟩;cases d with
   |array n e=>
     refine aL (nY F R false _ _ lo hi c) ?_;rintro _ ⟨l,h,m⟩ ⟨rfl,-⟩;refine aL (dS F e) ?_;rintro _ n rfl;refine aO ?_;have f:Z.gh (a.add (l*n)).block=none:=by rw[add_block];exact b
     simp[VR];split<;>simp[fP b,fP f]
   |_=>exact aN rfl
 |_=>exact aN rfl
theorem M4(t x)(f:nw Z x)(lo hi b):SR p p' Z (VR Z) (Instr.sliceAt t x lo hi b) (Instr.sliceAt t (bC Z x) (lo.map (bC Z)) (hi.map (bC Z)) (b.map (bC Z))):=by refine aL (aT F t) ?_;rintro _ d ⟨rfl,_⟩;cases d with
 |array n e=>
   refine aL (Q:=λa a'=>a'=bX Z a/\Z.gh a.block=none) ?_ ?_;.cases x with
    |pointer a=>cases a with
      |none=>exact aN rfl
      |some a=>rw[bG];exact aO ⟨rfl,f⟩
    |_=>exact aN rfl
   rintro a _ ⟨rfl,c⟩;refine aL (nY F R false _ _ lo hi b) ?_;rintro _ ⟨l,h,m⟩ ⟨rfl,-⟩;refine aL (dS F e) ?_;rintro _ n rfl;refine aO ?_;have g:Z.gh (a.add (l*n)).block=none:=by rw[add_block];exact c
   simp[VR];split<;>simp[fP c,fP g]
 |_=>exact Vp F R t x f lo hi b
theorem M5(t x i):SR p p' Z (VR Z) (Instr.indexAt t x i) (Instr.indexAt t (bC Z x) (bC Z i)):=by refine aL (ql i) ?_;rintro _ ⟨k,i⟩ rfl;refine aL (aT F t) ?_;rintro _ d ⟨rfl,_⟩;cases d with
 |array n e=>refine aL (qZ x) ?_;rintro a _ rfl;.refine aL (Q:=λ(a b:Option Addr×Nat×TypeId)=>b=(a.1.map (bX Z),a.2.1,a.2.2)) (aO rfl) ?_;rintro⟨base,len,elem⟩ _ rfl;refine aL (aT F t) ?_;rintro _ d ⟨rfl,_⟩;cases base with
    |none=>exact iC F R _ _ _ _
    |some a=>
      simp;split;.refine aL (dS F elem) ?_;rintro _ n rfl;exact aO (by simp[VR])
      .repeat' split
       all_goals first|exact iC F R _ _ _ _|exact aN rfl
 |slice e=>cases x with
   |slice a l c=>rw[bN];refine aL (Q:=λ(a b:Option Addr×Nat×TypeId)=>∃c,b=(Jr Z a.1 a.2.1 c,a.2.1,a.2.2)) (aO ⟨c,rfl⟩) ?_;rintro⟨base,len,elem⟩ _ ⟨c,rfl⟩;refine aL (aT F t) ?_;rintro _ d ⟨rfl,_⟩;cases base with
     |none=>exact iC F R _ _ _ _
     |some a=>
       simp;split;.refine aL (dS F elem) ?_;rintro _ n rfl;have f:ym Z len c a=bX Z a:=pZ O9;exact aO (by simp[VR,f])
       .repeat' split
        all_goals first|exact iC F R _ _ _ _|exact aN rfl
   |_=>exact aN rfl
 |_=>exact aN rfl
theorem Vq(t x i):SR p p' Z (VR Z) (Instr.index t x i) (Instr.index t (bC Z x) (bC Z i)):=by refine aL (ql i) ?_;rintro _ ⟨k,i⟩ rfl;refine aL (aT F t) ?_;rintro _ d ⟨rfl,_⟩;cases d with
 |array n e=>cases x with
   |agg cs=>
     simp;split;.refine aL (dS F e) ?_;rintro _ n rfl;exact kY F e cs _
     .exact iC F R _ _ _ _
   |_=>exact aN rfl
 |string=>cases x with
   |string s=>
     simp;split;.exact aO (by simp[VR])
     .exact iC F R _ _ _ _
   |_=>exact aN rfl
 |_=>exact aN rfl
omit R
theorem zY(t x):SR p p' Z (VR Z) (Instr.makeInterface t x) (Instr.makeInterface t (bC Z x)):=by refine aL (aT F t) ?_;rintro _ d ⟨rfl,_⟩;cases d with
 |interface _=>exact aN rfl
 |_=>exact aO (by simp[VR])
omit F in
theorem M6(x i):SR p p' Z (VR Z) (Instr.extract x i) (Instr.extract (bC Z x) i):=by unfold Instr.extract;cases x with
 |tuple a=>simp;cases a[i]? with
   |none=>exact aN rfl
   |some v=>exact aO rfl
 |_=>exact aN rfl
include R
theorem Fp(x b){a:TypeId}(h:a<p.types.size)(ok):SR p p' Z (VR Z) (Instr.typeAssert x b a ok) (Instr.typeAssert (bC Z x) b a ok):=by
 have c:∀(s d:Option TypeId) (m:String),SR p p' Z (VR Z) (if ok=true then do let z<-zeroValue a;pure (.tuple #[z,aF])else runtimePanic (.typeAssertion s d a m)) (if ok=true then do let z<-zeroValue a;pure (.tuple #[z,aF])else runtimePanic (.typeAssertion s d a m)):=λs d m=>by
  split;.refine aL (fY F h) ?_;rintro _ v ⟨rfl,e⟩;exact aO (by simp[VR,e])
  .exact bK F _
 have holds:∀v:Value,SR p p' Z (VR Z) (pure (if ok=true then .tuple #[v,aD]else v)) (pure (if ok=true then .tuple #[bC Z v,aD]else bC Z v)):=λv=>by refine aO ?_;split<;>simp[VR]
 refine aL (aT F a) ?_;rintro _ d ⟨rfl,_⟩;cases x with
 |nilIface=>cases d<;>simp<;>exact c _ _ _
 |iface t v=>cases d with
   |interface want=>
     simp only[cS];refine aL (fQ F t) ?_;rintro _ i ⟨rfl,_⟩;split;.have:=holds (.iface t v);rwa [cS]at this
     .simp_all
   |_=>
     simp only[cS];split;.simp_all
     .simp_all
 |_=>cases d<;>exact aN rfl
theorem J5(x):SR p p' Z (VR Z) (Instr.panic x) (Instr.panic (bC Z x)):=by cases x with
 |iface t v=>simp;exact mV S8
 |nilIface=>
   simp;refine aL (Q:=λa b=>b=a) ?_ ?_;.refine PK (Q:=λa b=>b=a) (SR.env λr=>SR.pure rfl) ?_;rintro _ r rfl;cases r with
    |strings env=>refine iG ?_;obtain⟨c,r,h⟩:=F.ex;simp[h];exact aO rfl
    |_=>exact aN rfl
   .rintro _ n rfl;split;.exact mV S8
    .exact bK F _
 |_=>exact aN rfl
end
section
variable{G:Gs}{p p':Program}{Z:Pi}
variable{α β:Type}
inductive iW(Z:Pi){α:Type}(H:α->Prop):Sem α->Prop
 |pure {a:α}:H a->iW Z H (.pure a)
 |choose {q:Question} {k:Nat->Sem α}:(∀n,iW Z H (k n))->iW Z H (.choose q k)
 |lost {h:Halt}:xf h=true->iW Z H (.halt h)
theorem iW.sr{H}{s:Sem α}(h:iW Z H s):SR p p' Z (λa b=>b=a/\H a) s s:=by induction h with
 |pure h=>exact SR.pure ⟨rfl,h⟩
 |choose _ c=>exact SR.choose c
 |lost h=>exact aN h
theorem iW.bind{γ H b s}{f:α->Sem γ}(h:iW Z H s)(c:∀a,H a->iW Z b (f a)):iW Z b (s>>=f):=by induction h with
 |pure h=>exact c _ h
 |choose _ d=>exact .choose d
 |lost h=>exact .lost h
def gJ:=@iW.bind
theorem iW.val{s}(h:iW Z (λv=>bC Z v=v) s):SR p p' Z (VR Z) s s:=h.sr.mono λ_ _ ⟨e,h⟩=>by rw[e,VR,h]
theorem iW.ret{H}{a:α}(h:H a):iW Z H (Pure.pure a):=.pure h
theorem iW.ab5{q}:iW Z (λ_=>True) (Go.choose q):=.choose λ_=>.pure trivial
def J6:=@iW.ab5
theorem iW.any{H}{s:Sem α}(h:iW Z H s):iW Z (λ_=>True) s:=by induction h with
 |pure _=>exact .pure trivial
 |choose _ a=>exact .choose a
 |lost h=>exact .lost h
theorem uv(op k x y):iW Z (λv=>bC Z v=v) (Op.floatArith op k x y):=by
 cases op<;>first|exact .lost rfl|skip
 all_goals refine gJ (H:=λ_=>True) (.ret trivial) λr _=>?_;cases r with
  |some r=>exact .ret S8
  |none=>exact gJ J6 λ_ _=>.ret S8
theorem xn(op k x y):iW Z (λv=>bC Z v=v) (Op.floatCmp op k x y):=by cases op<;>first|exact .ret S8|exact .lost rfl
theorem qm(op k x y):iW Z (λ_=>True) (Op.Complex.arith op k x y):=by refine gJ (uv op k x y).any λv _=>?_;cases v<;>first|exact .ret trivial|exact .lost rfl
theorem Du(op k x y):iW Z (λ_=>True) (Op.Complex.cmp op k x y):=by refine gJ (xn op k x y).any λv _=>?_;cases v<;>first|exact .ret trivial|exact .lost rfl
theorem yR(s x d):iW Z (λv=>bC Z v=v) (Conv.floatToFloat s x d):=by
 unfold Conv.floatToFloat;split;.exact .ret S8
 .split;.exact gJ J6 λ_ _=>.ret S8
  .exact .ret S8
  .dsimp only;split;.exact gJ J6 λ_ _=>.ret S8
   .exact .ret S8
theorem RO(s x d):iW Z (λ_=>True) (Op.Complex.conv s x d):=by
 unfold Op.Complex.conv;split;.exact .ret trivial
 .refine gJ (yR s x d).any λv _=>?_;cases v<;>first|exact .ret trivial|exact .lost rfl
theorem yS(x y):iW Z (λ_=>True) (Op.Complex.add x y):=qm _ _ _ _
theorem Dv(x y):iW Z (λ_=>True) (Op.Complex.sub x y):=qm _ _ _ _
theorem qo(x y):iW Z (λ_=>True) (Op.Complex.mul x y):=qm _ _ _ _
theorem Dw(x y):iW Z (λ_=>True) (Op.Complex.quo x y):=qm _ _ _ _
theorem H3(a b c d):iW Z (λ_=>True) (Op.Complex.product a b c d):=by repeat' first|exact .ret trivial|(refine gJ (qo _ _) λ_ _=>?_)|(refine gJ (Dv _ _) λ_ _=>?_)|(refine gJ (yS _ _) λ_ _=>?_)
theorem u7(s a b c d):iW Z (λ_=>True) (Op.Complex.corrected s a b c d):=by repeat' first|exact .ret trivial|(refine gJ (qo _ _) λ_ _=>?_)|(refine gJ (Dv _ _) λ_ _=>?_)|(refine gJ (yS _ _) λ_ _=>?_)
theorem sJ{α H c}[Decidable c]{s t:Sem α}(h:iW Z H s)(a:iW Z H t):iW Z H (if c then s else t):=by grind
theorem Fq(a b c d):iW Z (λ_=>True) (Op.Complex.quotient a b c d):=by refine sJ ?_ ?_;all_goals
  refine gJ (Dw _ _) λ_ _=>gJ (qo _ _) λ_ _=>gJ (yS _ _) λ_ _=>gJ (qo _ _) λ_ _=>gJ (yS _ _) λ_ _=>gJ (Dw _ _) λ_ _=>gJ (qo _ _) λ_ _=>gJ (Dv _ _) λ_ _=>gJ (Dw _ _) λ_ _=>gJ (H:=λ_=>True) (.ret trivial) λx _=>?_
  exact gJ (Du _ _ _ _) λ_ _=>gJ (Du _ _ _ _) λ_ _=>sJ (.ret trivial) (sJ (gJ (qo _ _) λ_ _=>gJ (qo _ _) λ_ _=>.ret trivial) (sJ (u7 _ _ _ _ _) (sJ (u7 _ _ _ _ _) (.ret trivial))))
theorem Dx(op k a b c d):iW Z (λv=>bC Z v=v) (Op.complexOp op k a b c d):=by cases op;all_goals repeat' first
  |exact .lost rfl
  |exact .ret S8
  |(refine gJ (qm _ _ _ _) λ_ _=>?_)
  |(refine gJ (Du _ _ _ _) λ_ _=>?_)
  |(refine gJ (RO _ _ _) λ_ _=>?_)
  |(refine gJ (H3 _ _ _ _) λ_ _=>?_)
  |(refine gJ (Fq _ _ _ _) λ_ _=>?_)
  |split
theorem xp(op k x y):iW Z (λv=>bC Z v=v) (Op.intArith op k x y):=by cases op<;>first|exact .ret S8|exact .lost rfl
theorem yT(op k x y):iW Z (λv=>bC Z v=v) (Op.intBits op k x y):=by cases op<;>first|exact .ret S8|exact .lost rfl
theorem J7(op x y):iW Z (λv=>bC Z v=v) (Op.intCmp op x y):=by cases op<;>first|exact .ret S8|exact .lost rfl
theorem rL(op x y):iW Z (λv=>bC Z v=v) (Op.stringOp op x y):=by unfold Op.stringOp;cases op;all_goals repeat' first|exact .ret S8|exact .lost rfl|split
end
section
variable{G:Gs}{p p':Program}{Z:Pi}(F:Fit G p p')(R:Rn G Z)
include F R
theorem RP(op k x y):SR p p' Z (VR Z) (Op.intDiv op k x y) (Op.intDiv op k x y):=by
 unfold Op.intDiv;split;.exact bK F _
 .cases op<;>first|exact aO (by simp[VR])|exact aN rfl
theorem Vr(op k x a y):SR p p' Z (VR Z) (Op.shift op k x a y) (Op.shift op k x a y):=by
 unfold Op.shift;split;.exact bK F _
 .cases op<;>first|exact aO (by simp[VR])|exact aN rfl
omit F R in
theorem Vs(op x):SR p p' Z (VR Z) (Op.unary op x) (Op.unary op (bC Z x)):=by cases op<;>cases x<;>(try simp);all_goals first
  |exact aN rfl
  |exact(xp _ _ _ _).val
  |exact(yT _ _ _ _).val
  |exact aO (by simp[VR])
  |(rename_i a;cases a<;>exact aN rfl)
omit F in
theorem Vt(a b):((bX Z a).block==(bX Z b).block)=(a.block==b.block):=by
 by_cases h:a.block=b.block;.simp[h]
 .have:Z a.block≠Z b.block:=λe=>h (R.inj _ _ e);rw[Dh,Dh,beq_eq_false_iff_ne.mpr h,beq_eq_false_iff_ne.mpr this]
omit F in
theorem addr_eq(a b):(bX Z a==bX Z b)=(a==b):=by
 by_cases h:a=b;.simp[h]
 .have:bX Z a≠bX Z b:=λe=>h (by have c:=R.inj _ _ (congrArg Addr.block e);have d:=congrArg Addr.off e;have f:=congrArg Addr.spot e;cases a;cases b;simp at c d f;simp[c,d,f])
  rw[beq_eq_false_iff_ne.mpr h,beq_eq_false_iff_ne.mpr this]
omit F R in
theorem yU(a):SR p p' Z (λx c=>c=x) (stringish a) (stringish (bX Z a)):=by
 refine aL wj ?_;rintro _ b rfl;cases b;.refine aL nX ?_;rintro _ s rfl;cases s with
  |none=>exact aO rfl
  |some s=>exact wj (a:={block:=a.block,off:=s.2})
 .exact aO rfl
omit F R in
theorem J8(a b):SR p p' Z (λx c=>c=x) (mayBeOne a b) (mayBeOne (bX Z a) (bX Z b)):=by
 refine aL (yU a) ?_;rintro _ e rfl;refine aL (yU b) ?_;rintro _ sb rfl;have none:∀x:Addr,SR p p' Z (λx c=>c=x) (do let s<-shape x.block;pure (s matches some (_,0))) (do let s<-shape (bX Z x).block;pure (s matches some (_,0))):=λx=>by refine aL nX ?_;rintro _ s rfl;exact aO rfl
 refine aL (none a) ?_;rintro _ d rfl;refine aL (none b) ?_;rintro _ nb rfl;exact aO rfl
omit F in
theorem Bi(a b):SR p p' Z (λx c=>c=x) (sameAddr a b) (sameAddr (bX Z a) (bX Z b)):=by
 unfold sameAddr;rw[Vt R,addr_eq R];split;.exact aO rfl
 .refine aL wj ?_;rintro _ d rfl;refine aL wj ?_;rintro _ e rfl;split;.exact aN rfl
  .refine aL (zW a) ?_;intro _ _ _;refine aL (zW b) ?_;intro _ _ _;refine aL (J8 a b) ?_;rintro _ m rfl;split;.refine aL gY ?_;rintro _ n rfl;exact aO rfl
   .exact aO rfl
omit F in
theorem Dy(a b):SR p p' Z (λx c=>c=x) (samePointer a b) (samePointer (a.map (bX Z)) (b.map (bX Z))):=by
 cases a<;>cases b;.exact aO rfl
 .exact aO rfl
 .exact aO rfl
 .exact Bi R _ _
end
section
variable{G:Gs}{p p':Program}{Z:Pi}
theorem zZ{γ δ:Type}(f f':γ->δ->Sem (ForInStep δ)):∀(l:List γ) (b:δ),(∀a∈l,∀b,SR p p' Z (λx c=>c=x) (f a b) (f' a b))->SR p p' Z (λx c=>c=x) (forIn l b f) (forIn l b f')
 |[],b,_=>by simp;exact aO rfl
 |a::l,b,h=>by simp;refine aL (h a S8 b) ?_;rintro _ s rfl;cases s with
   |done b=>exact aO rfl
   |yield b=>exact zZ f f' l b (λa d=>h a (by simp[d]))
theorem z6{γ δ:Type}{f f'}(l:Array γ)(b:δ)(h:∀a∈l,∀b,SR p p' Z (λx c=>c=x) (f a b) (f' a b)):SR p p' Z (λx c=>c=x) (forIn l b f) (forIn l b f'):=by rw[<-OY,<-OY];exact zZ f f' l.toList b (λa d=>h a (by simpa using d))
theorem z7{δ f f'}(n)(b:δ)(h:∀a b,SR p p' Z (λx c=>c=x) (f a b) (f' a b)):SR p p' Z (λx c=>c=x) (forIn [0:n] b f) (forIn [0:n] b f'):=by rw[aaX,aaX];exact zZ f f' _ b (λa _=>h a)
end
section
variable{G:Gs}{p p':Program}{Z:Pi}(F:Fit G p p')(R:Rn G Z)
include F
theorem Vu(n):∀t u,p'.alikeButTags n t u=p.alikeButTags n t u:=by induction n with
 |zero=>intro t u;rfl
 |succ n a=>intro t u;simp[Program.alikeButTags,F.info,a]
theorem Vv(t):p'.underlyingId t=p.underlyingId t:=by simp[Program.underlyingId,F.info]
theorem H4(t):p'.stoodInAs t=p.stoodInAs t:=by simp[Program.stoodInAs,F.under,F.cut,Vu F,Vv F,F.depth]
theorem nZ(t):p'.stoodInHeld t=p.stoodInHeld t:=by simp[Program.stoodInHeld,H4 F,F.info]
theorem u9(d):∀t,p'.eqGuardType d t=p.eqGuardType d t:=by induction d with
 |zero=>intro t;rfl
 |succ d a=>intro t;simp[Program.eqGuardType,F.under,a]
omit F in
theorem Vw{α β Q t}{s:Sem α}{s':Sem β}(a:((p.info? t).all fun i=>match i.desc with|.named "sync.copyChecker" _=>false|_=>true)=true):SR p p' Z Q (typeInfo t>>=fun i=>match i.desc with|.named "sync.copyChecker" _=>s|_=>unsupported .addressObserved) s':=by cases hi:p.info? t with
 |none=>refine SR.abg (h:=.stuck "no such type") ?_ rfl;show Sem.bind (match p.info? t with|some i=>Pure.pure i|none=>stuck "no such type") _=_;rw[hi];rfl
 |some i=>
   refine SR.abg (h:=.unsupported .addressObserved) ?_ rfl;show Sem.bind (match p.info? t with|some i=>Pure.pure i|none=>stuck "no such type") _=_;rw[hi];show(match i.desc with|.named "sync.copyChecker" _=>s|_=>unsupported .addressObserved)=_;split;.simp_all
   .rfl
include R
theorem Dz:∀d n t x y,uu p n t=true->SR p p' Z (λx B=>B=x) (Op.equalIn d t x y) (Op.equalIn d t (bC Z x) (bC Z y))
 |0,_,_,_,_,_=>aN rfl
 |_+1,0,_,_,_,h=>by cases h
 |d+1,n+1,t,x,y,g=>by have q:=Dz d n;refine aL (aT F t) ?_;rintro _ u ⟨rfl,A⟩;simp only[uu,A,dJ]at g;obtain⟨w,g⟩:=g;cases u with
   |bool=>cases x<;>first|exact aN rfl|(cases y<;>first|exact aN rfl|(simp only[dX];exact aO rfl))
   |string=>cases x<;>first|exact aN rfl|(cases y<;>first|exact aN rfl|(simp only[bV];exact aO rfl))
   |float k=>
     cases x<;>first|exact aN rfl|skip
     cases y<;>first|exact aN rfl|skip
     simp only[cY];split;.exact aO rfl
     .exact aN rfl
   |complex k=>
     cases x<;>first|exact aN rfl|skip
     cases y<;>first|exact aN rfl|skip
     simp only[cG];split;.exact aO rfl
     .exact aN rfl
   |int k=>cases x with
     |int k n=>cases y with
       |int k' C=>
         simp only[cQ];split;.exact aO rfl
         .exact aN rfl
       |pointer b=>cases b with
         |none=>match n with
           |0=>exact aN rfl
           |Int.ofNat (m+1)=>exact aN rfl
           |Int.negSucc m=>exact aN rfl
         |some b=>simp only[cQ,bG,iN];match n with
           |0=>exact aO rfl
           |Int.ofNat (m+1)=>exact aN rfl
           |Int.negSucc m=>exact aN rfl
       |_=>exact aN rfl
     |pointer a=>cases a with
       |none=>cases y<;>exact aN rfl
       |some a=>cases y with
         |int k' n=>simp only[cQ,bG,iN];match n with
           |0=>exact aO rfl
           |Int.ofNat (m+1)=>exact aN rfl
           |Int.negSucc m=>exact aN rfl
         |pointer b=>cases b with
           |none=>exact aN rfl
           |some b=>simp only[bG,iN];refine aL (gK a) ?_;rintro a _ rfl;refine aL (gK b) ?_;rintro b _ rfl;refine iG ?_;rw[F.none];simp only[pj,decide_false,Je,uf,wT];exact Vw w
         |_=>exact aN rfl
     |_=>cases y<;>exact aN rfl
   |pointer e=>cases x with
     |pointer a=>cases y with
       |pointer b=>
         simp only[bG];cases a<;>cases b<;>simp only[Jf,iN];.exact aO rfl
         .exact aO rfl
         .exact aO rfl
         .rename_i a b;refine aL (dS F e) ?_;rintro _ n rfl;split;.exact Bi R a b
          .rw[addr_eq R];split;.exact aO rfl
           .refine aL gY ?_;rintro _ n rfl;exact aO rfl
       |_=>cases a<;>exact aN rfl
     |_=>exact aN rfl
   |unsafePointer=>
     cases x<;>first|exact aN rfl|skip
     cases y<;>first|exact aN rfl|skip
     simp only[bG];exact Dy R _ _
   |chan a b=>cases g
   |interface ms=>cases g
   |struct s=>
     cases x<;>first|exact aN rfl|skip
     cases y<;>first|exact aN rfl|skip
     rename_i j o;simp only[dB];refine iG ?_;rw[nZ F];split;.exact aN rfl
     .refine aL (z6 s _ λf z b=>?_) ?_
      .split;.refine aL (kY F f.type j f.offset) ?_;rintro v _ rfl;refine aL (kY F f.type o f.offset) ?_;rintro i _ rfl;refine aL (q f.type v i (AW.1 g f z)) ?_;rintro _ e rfl;split<;>exact aO rfl
       .exact aO rfl
      .rintro _ r rfl;split<;>exact aO rfl
   |array n e=>
     cases x<;>first|exact aN rfl|skip
     cases y<;>first|exact aN rfl|skip
     rename_i j o;simp only[dB];refine aL (dS F e) ?_;rintro _ m rfl;refine aL (z7 n _ λf b=>?_) ?_;.refine aL (kY F e j _) ?_;rintro v _ rfl;refine aL (kY F e o _) ?_;rintro i _ rfl;refine aL (q e v i g) ?_;rintro _ e rfl;split<;>exact aO rfl
     .rintro _ r rfl;split<;>exact aO rfl
   |slice e=>
     cases x<;>first|exact aN rfl|skip
     rename_i a l c;cases a<;>cases y<;>first|exact aN rfl|skip
     all_goals rename_i b _ _;cases b<;>simp only[bN,Rz,pY]<;>first|exact aO rfl|exact aN rfl
   |map a b=>
     cases x<;>first|exact aN rfl|skip
     rename_i a;cases a<;>cases y<;>first|exact aN rfl|skip
     all_goals rename_i b;cases b<;>simp only[dQ,Jf,iN]<;>first|exact aO rfl|exact aN rfl
   |func a b c=>
     cases x<;>first|exact aN rfl|skip
     all_goals cases y<;>first|exact aN rfl|(simp only[cT,dK];exact aO rfl)
   |_=>exact aN rfl
end
section
variable{G:Gs}{p p':Program}{Z:Pi}(F:Fit G p p')(R:Rn G Z)
include F
omit F in
theorem Bj(d t x y)(a:x≠.nilIface)(b:∀c,x≠.agg c):Op.eqGuardIn (d+1) t x y=(underlying t>>=λ_=>Pure.pure false):=by unfold Op.eqGuardIn;congr 1;funext u;cases x<;>first|exact absurd rfl a|exact absurd rfl (b _)|(cases u<;>rfl)
omit F in
theorem Bl(d t x y)(a:y≠.nilIface)(b:∀c,y≠.agg c):Op.eqGuardIn (d+1) t x y=(underlying t>>=λ_=>Pure.pure false):=by unfold Op.eqGuardIn;congr 1;funext u;cases y<;>first|exact absurd rfl a|exact absurd rfl (b _)|(cases u<;>cases x<;>rfl)
theorem tA:∀d t x y,SR p p' Z (λx l=>l=x) (Op.eqGuardIn d t x y) (Op.eqGuardIn d t (bC Z x) (bC Z y))
 |0,_,_,_=>aN rfl
 |d+1,t,x,y=>by
   have j:=tA d;by_cases a:∃r,x=.chan r;.obtain⟨r,rfl⟩:=a;rw[cJ,Bj d t (.chan r) y S8 S8,Bj d t (ot Z r) _ (xg Z r) (Di Z r)];exact aL (aT F t) λ_ _ _=>aO rfl
   by_cases c:∃r,y=.chan r;.obtain⟨r,rfl⟩:=c;rw[cJ,Bl d t x (.chan r) S8 S8,Bl d t _ (ot Z r) (xg Z r) (Di Z r)];exact aL (aT F t) λ_ _ _=>aO rfl
   unfold Op.eqGuardIn;refine aL (aT F t) ?_;rintro _ u ⟨rfl,_⟩;cases u with
   |interface ms=>cases x<;>first|exact absurd ⟨_,rfl⟩ a|(cases y<;>first|exact absurd ⟨_,rfl⟩ c|(simp only[cD,cS,dX,cQ,cY,cG,bV,bG,bN,dQ,cJ,dK,cT,dB,dI];exact aO rfl))
   |struct k=>cases x with
     |agg h=>cases y with
       |agg i=>
         simp only[dB];refine aL (z6 k _ λf _ b=>?_) ?_
         .split;.refine aL (kY F f.type h f.offset) ?_;rintro v _ rfl;refine aL (kY F f.type i f.offset) ?_;rintro g _ rfl;refine aL (j f.type v g) ?_;rintro _ e rfl;split<;>exact aO rfl
          .exact aO rfl
         .rintro _ r rfl;split<;>exact aO rfl
       |_=>first|exact absurd ⟨_,rfl⟩ c|(simp only[cD,cS,dX,cQ,cY,cG,bV,bG,bN,dQ,cJ,dK,cT,dB,dI];exact aO rfl)
     |_=>first|exact absurd ⟨_,rfl⟩ a|(simp only[cD,cS,dX,cQ,cY,cG,bV,bG,bN,dQ,cJ,dK,cT,dB,dI];exact aO rfl)
   |array n e=>cases x with
     |agg h=>cases y with
       |agg i=>
         simp only[dB];refine aL (dS F e) ?_;rintro _ m rfl;refine aL (z7 n _ λf b=>?_) ?_;.refine aL (kY F e h _) ?_;rintro v _ rfl;refine aL (kY F e i _) ?_;rintro g _ rfl;refine aL (j e v g) ?_;rintro _ e rfl;split<;>exact aO rfl
         .rintro _ r rfl;split<;>exact aO rfl
       |_=>first|exact absurd ⟨_,rfl⟩ c|(simp only[cD,cS,dX,cQ,cY,cG,bV,bG,bN,dQ,cJ,dK,cT,dB,dI];exact aO rfl)
     |_=>first|exact absurd ⟨_,rfl⟩ a|(simp only[cD,cS,dX,cQ,cY,cG,bV,bG,bN,dQ,cJ,dK,cT,dB,dI];exact aO rfl)
   |_=>exact aO rfl
theorem M7(op t x y a b):SR p p' Z (λ_ _=>True) (eqGuard op t x y a b) (eqGuard op t x y (bC Z a) (bC Z b)):=by
 unfold eqGuard;refine eA (aO trivial) ?_;by_cases c:∃r,a=.chan r;.obtain⟨r,rfl⟩:=c;rw[cJ];obtain h|⟨_,h⟩|⟨_,_,_,h⟩|⟨_,h⟩|⟨_,h⟩|⟨_,_,_,h⟩:=fL Z r<;>rw[h]<;>exact aO trivial
 by_cases d:∃r,b=.chan r;.obtain⟨r,rfl⟩:=d;rw[cJ];obtain h|⟨_,h⟩|⟨_,_,_,h⟩|⟨_,h⟩|⟨_,h⟩|⟨_,_,_,h⟩:=fL Z r<;>rw[h]<;>cases a<;>first|exact absurd ⟨_,rfl⟩ c|(simp only[cD,cS,dX,cQ,cY,cG,bV,bG,bN,dQ,dK,cT,dB,dI];exact aO trivial)
 .cases a with
  |nilIface=>cases b with
    |nilIface=>
      simp only[cD];refine eA (aO trivial) ?_
      .refine aL (by have:=tA F (Z:=Z) Op.maxDepth t .nilIface .nilIface;simpa only[cD]using this) ?_;rintro _ e rfl;split;.exact aN rfl
       .exact aO trivial
    |_=>first|exact absurd ⟨_,rfl⟩ d|(simp only[cD,cS,dX,cQ,cY,cG,bV,bG,bN,dQ,cJ,dK,cT,dB,dI];exact aO trivial)
  |agg f=>cases b with
    |agg g=>
      simp only[dB];refine iG ?_;refine iG ?_;rw[F.depth,u9 F];split;.exact aO trivial
      .refine aL (by have:=tA F (Z:=Z) Op.maxDepth t (.agg f) (.agg g);simpa only[dB]using this) ?_;rintro _ e rfl;split;.exact aN rfl
       .exact aO trivial
    |_=>first|exact absurd ⟨_,rfl⟩ d|(simp only[cD,cS,dX,cQ,cY,cG,bV,bG,bN,dQ,cJ,dK,cT,dB,dI];exact aO trivial)
  |_=>first|exact absurd ⟨_,rfl⟩ c|(simp only[cD,cS,dX,cQ,cY,cG,bV,bG,bN,dQ,cJ,dK,cT,dB,dI];exact aO trivial)
theorem Fs(d):∀t b,cellOfByte p' d t b=cellOfByte p d t b:=by induction d with
 |zero=>intro t b;rfl
 |succ d a=>intro t b;simp[cellOfByte,F.under,F.bytesOf,F.cellsOf,a]
theorem DC(d e c o b):cellAtBytes p' d e c o b=cellAtBytes p d e c o b:=by simp[cellAtBytes,F.bytesOf,F.cellsOf,xk F,Fs F]
theorem xq(c t a y):SR p p' Z (λv d=>d=bC Z v/\∃a,v=.pointer a) (Builtin.unsafeAdd_ c t #[.pointer a,y]) (Builtin.unsafeAdd_ c t #[.pointer (a.map (bX Z)),bC Z y]):=by
 unfold Builtin.unsafeAdd_;dsimp only;refine aL (Q:=λa b=>b=a) (aL (ql y) (by rintro _ n rfl;exact aO rfl)) ?_;rintro _ n rfl;split;.cases a with
  |none=>exact aN rfl
  |some a=>refine aL (Gf a.block) ?_;rintro v _ rfl;cases v with
    |none=>exact aO ⟨S8,_,rfl⟩
    |some v=>exact aN rfl
 .split;.exact aN rfl
  .cases a with
   |none=>exact aN rfl
   |some a=>refine aL nX ?_;rintro _ s rfl;cases s with
     |none=>exact aN rfl
     |some s=>
       refine iG ?_;simp[F.depth,F.cellsOf,DC F];split;.exact aO ⟨by simp[bX],_,rfl⟩
       .exact aN rfl
theorem tB(b t a y):SR p p' Z (VR Z) (Builtin.unsafeAdd_ b t #[.pointer a,y]) (Builtin.unsafeAdd_ b t #[.pointer (a.map (bX Z)),bC Z y]):=(xq F b t a y).mono λ_ _ h=>h.1
theorem BX(t a y):SR p p' Z (VR Z) (movedPointer t (.pointer a) y) (movedPointer t (.pointer (a.map (bX Z))) (bC Z y)):=by cases a with
 |none=>exact tB F #[] t none y
 |some a=>refine aL (Bh a.block) ?_;rintro v _ rfl;cases v with
   |none=>exact tB F #[] t (some a) y
   |some v=>exact aN rfl
theorem n7(t a y):SR p p' Z (VR Z) (movedNumber t (.pointer a) y) (movedNumber t (.pointer (a.map (bX Z))) (bC Z y)):=by refine aL (aT F t) ?_;rintro _ d ⟨rfl,_⟩;refine eA (aN rfl) ?_;cases a with
 |none=>exact tB F #[] t none y
 |some a=>refine aL (gK a) ?_;rintro⟨b,l⟩ _ rfl;refine aL (xq F #[] t (some b) y) ?_;rintro v _ ⟨rfl,c,rfl⟩;cases c with
   |none=>rw[bG];exact aO (by simp[VR])
   |some c=>rw[bG];exact J4 c l
include R
theorem yV(a b):SR p p' Z (λx c=>c=x) (Op.twoPlaces a b) (Op.twoPlaces (bX Z a) (bX Z b)):=by refine iG ?_;rw[F.none];simp;exact aN rfl
theorem M8(k a b):SR p p' Z (VR Z) (Op.addrSub k a b) (Op.addrSub k (bX Z a) (bX Z b)):=by refine aL (yV F R a b) ?_;rintro _ x rfl;exact aO (by simp[VR])
theorem M9(op a b):SR p p' Z (VR Z) (Op.addrCmp op a b) (Op.addrCmp op (bX Z a) (bX Z b)):=by refine aL (yV F R a b) ?_;rintro _ x rfl;cases op<;>first|exact aO (by simp[VR])|exact aN rfl
omit R in
theorem DD(k a n):SR p p' Z (VR Z) (Op.addrMod k a n) (Op.addrMod k (bX Z a) n):=by refine aL nX ?_;rintro _ s rfl;cases s with
 |none=>exact aN rfl
 |some s=>
   refine aL (fQ F s.1) ?_;rintro _ i ⟨rfl,_⟩;dsimp only;split;.exact aN rfl
   .refine aL (zX F a) ?_;rintro _ x rfl;exact aO (by simp[VR])
theorem J9{n}(t x y)(h:uu p n t=true):SR p p' Z (λx a=>a=x) (Op.equal t x y) (Op.equal t (bC Z x) (bC Z y)):=Dz F R _ n t x y h
theorem Gg{b}(t x y)(h:Rx p t b=true)(d:b=true->y=.nilIface):SR p p' Z (λx g=>g=x) (Op.equal t x y) (Op.equal t (bC Z x) (bC Z y)):=by
 unfold Rx at h;rw[OW,dJ]at h;obtain h|⟨c,a⟩:=h;.exact J9 F R t x y h
 have f:=d c;subst f;refine aL (aT F t) ?_;rintro _ u ⟨rfl,e⟩;rw[e]at a;cases u<;>first|(cases a;done)|skip
 cases x<;>first|exact aN rfl|(simp;exact aO rfl)
end
section
variable{G:Gs}{p p':Program}{Z:Pi}(F:Fit G p p')(R:Rn G Z)
include F R
omit F R in
theorem PO(r Z t y):binOp .eql t (ot Z r) y=(do let e<-Op.equal t (ot Z r) y;pure (.bool e))/\binOp .neq t (ot Z r) y=(do let e<-Op.equal t (ot Z r) y;pure (.bool !e)):=by obtain h|⟨_,h⟩|⟨_,_,_,h⟩|⟨_,h⟩|⟨_,h⟩|⟨_,_,_,h⟩:=fL Z r<;>rw[h]<;>constructor<;>cases y<;>first|rfl|(rename_i b;cases b<;>rfl)
omit F R in
theorem PQ(r Z t x):binOp .eql t x (ot Z r)=(do let e<-Op.equal t x (ot Z r);pure (.bool e))/\binOp .neq t x (ot Z r)=(do let e<-Op.equal t x (ot Z r);pure (.bool !e)):=by obtain h|⟨_,h⟩|⟨_,_,_,h⟩|⟨_,h⟩|⟨_,h⟩|⟨_,_,_,h⟩:=fL Z r<;>rw[h]<;>constructor<;>cases x<;>first|rfl|(rename_i b;cases b<;>rfl)
omit F R in
theorem Ka(r t y):binOp .eql t (.chan r) y=(do let e<-Op.equal t (.chan r) y;pure (.bool e))/\binOp .neq t (.chan r) y=(do let e<-Op.equal t (.chan r) y;pure (.bool !e)):=by trivial
omit F R in
theorem Kb(r t x):binOp .eql t x (.chan r)=(do let e<-Op.equal t x (.chan r);pure (.bool e))/\binOp .neq t x (.chan r)=(do let e<-Op.equal t x (.chan r);pure (.bool !e)):=by constructor<;>cases x<;>first|rfl|(rename_i b;cases b<;>rfl)
theorem Vx{j}(op t x y)(f:(match op with|.eql|.neq=>Rx p t j|_=>true)=true)(o:j=true->y=.nilIface):SR p p' Z (VR Z) (binOp op t x y) (binOp op t (bC Z x) (bC Z y)):=by
 have eql:Rx p t j=true->SR p p' Z (VR Z) (do let e<-Op.equal t x y;pure (.bool e)) (do let e<-Op.equal t (bC Z x) (bC Z y);pure (.bool e)):=λf=>by refine aL (Gg F R t x y f o) ?_;rintro _ e rfl;exact aO (by simp[VR])
 have neq:Rx p t j=true->SR p p' Z (VR Z) (do let e<-Op.equal t x y;pure (.bool !e)) (do let e<-Op.equal t (bC Z x) (bC Z y);pure (.bool !e)):=λf=>by refine aL (Gg F R t x y f o) ?_;rintro _ e rfl;exact aO (by simp[VR])
 by_cases g:∃r,x=.chan r;.obtain⟨r,rfl⟩:=g;rw[cJ]at eql neq|-;cases op with
  |eql=>rw[(Ka r t y).1,(PO r Z t _).1];exact eql f
  |neq=>rw[(Ka r t y).2,(PO r Z t _).2];exact neq f
  |_=>cases y<;>first|exact aN rfl|(rename_i b;cases b<;>exact aN rfl)
 by_cases h:∃r,y=.chan r;.obtain⟨r,rfl⟩:=h;rw[cJ]at eql neq|-;cases op with
  |eql=>rw[(Kb r t x).1,(PQ r Z t _).1];exact eql f
  |neq=>rw[(Kb r t x).2,(PQ r Z t _).2];exact neq f
  |_=>cases x<;>first|exact aN rfl|(rename_i b;cases b<;>exact aN rfl)
 cases x with
 |int k a=>cases y with
   |int k' b=>simp only[cQ];unfold binOp;cases op<;>dsimp only<;>first
      |exact Vr F R _ _ _ _ _
      |(refine eA (aN rfl) ?_;first|exact(xp _ _ _ _).val|exact RP F R _ _ _ _|exact(yT _ _ _ _).val|exact(J7 _ _ _).val)
   |pointer b=>simp only[cQ,bG]at eql neq|-;cases b with
     |none=>cases op<;>first|exact aN rfl|exact eql f|exact neq f|(have:=n7 F (Z:=Z) t none (.int k a);rw[cQ]at this;exact this)
     |some b=>simp only[iN]at eql neq|-;cases op<;>first
        |exact aN rfl|exact eql f|exact neq f
        |(have:=n7 F (Z:=Z) t (some b) (.int k a);rw[cQ]at this;exact this)
        |(refine aL (gK b) ?_;rintro x _ rfl;exact DD F _ _ _)
   |_=>first|exact absurd ⟨_,rfl⟩ h|exact absurd ⟨_,rfl⟩ g|(clear g h;simp only[cD,cS,dX,cQ,cY,cG,bV,bN,dQ,cJ,dK,cT,dB,dI]at eql neq|-;cases op<;>first|exact aN rfl|exact eql f|exact neq f)
 |float k a=>cases y with
   |float k' b=>simp only[cY];unfold binOp;cases op<;>dsimp only<;>first
      |(refine eA (aN rfl) ?_;first|exact(uv _ _ _ _).val|exact(xn _ _ _ _).val)
   |pointer b=>simp only[cY,bG]at eql neq|-;cases b<;>cases op<;>first|exact aN rfl|exact eql f|exact neq f
   |_=>first|exact absurd ⟨_,rfl⟩ h|exact absurd ⟨_,rfl⟩ g|(clear g h;simp only[cD,cS,dX,cQ,cY,cG,bV,bN,dQ,cJ,dK,cT,dB,dI]at eql neq|-;cases op<;>first|exact aN rfl|exact eql f|exact neq f)
 |complex k a b=>cases y with
   |complex k' c d=>simp only[cG];unfold binOp;cases op<;>dsimp only<;>(refine eA (SR.lost rfl) ?_;exact(Dx _ _ _ _ _ _).val)
   |pointer b=>simp only[cG,bG]at eql neq|-;cases b<;>cases op<;>first|exact aN rfl|exact eql f|exact neq f
   |_=>first|exact absurd ⟨_,rfl⟩ h|exact absurd ⟨_,rfl⟩ g|(clear g h;simp only[cD,cS,dX,cQ,cY,cG,bV,bN,dQ,cJ,dK,cT,dB,dI]at eql neq|-;cases op<;>first|exact aN rfl|exact eql f|exact neq f)
 |string a=>cases y with
   |string b=>simp only[bV];unfold binOp;cases op<;>exact(rL _ _ _).val
   |pointer b=>simp only[bV,bG]at eql neq|-;cases b<;>cases op<;>first|exact aN rfl|exact eql f|exact neq f
   |_=>first|exact absurd ⟨_,rfl⟩ h|exact absurd ⟨_,rfl⟩ g|(clear g h;simp only[cD,cS,dX,cQ,cY,cG,bV,bN,dQ,cJ,dK,cT,dB,dI]at eql neq|-;cases op<;>first|exact aN rfl|exact eql f|exact neq f)
 |pointer a=>simp only[bG]at eql neq|-;cases y with
   |int k n=>
     simp only[cQ]at eql neq|-;have m:SR p p' Z (VR Z) (do if(<-underlying t) matches .unsafePointer then movedPointer t (.pointer a) (.int k n)else movedNumber t (.pointer a) (.int k n)) (do if(<-underlying t) matches .unsafePointer then movedPointer t (.pointer (a.map (bX Z))) (.int k n)else movedNumber t (.pointer (a.map (bX Z))) (.int k n)):=by refine aL (aT F t) ?_;rintro _ d ⟨rfl,_⟩;have l:=BX F (Z:=Z) t a (.int k n);have i:=n7 F (Z:=Z) t a (.int k n);rw[cQ]at l i;exact eA l i
     have q:SR p p' Z (VR Z) (movedNumber t (.pointer a) (.int k (-n))) (movedNumber t (.pointer (a.map (bX Z))) (.int k (-n))):=by have i:=n7 F (Z:=Z) t a (.int k (-n));rwa [cQ]at i
     cases a with
     |none=>cases op<;>first|exact aN rfl|exact eql f|exact neq f|exact m|exact q
     |some a=>cases op<;>first
        |exact aN rfl|exact eql f|exact neq f|exact m|exact q
        |(refine aL (gK a) ?_;rintro x _ rfl;exact DD F _ _ _)
   |pointer b=>simp only[bG]at eql neq|-;cases a with
     |none=>cases b<;>cases op<;>first|exact aN rfl|exact eql f|exact neq f
     |some a=>cases b with
       |none=>cases op<;>first|exact aN rfl|exact eql f|exact neq f
       |some b=>cases op<;>first
          |exact aN rfl|exact eql f|exact neq f
          |(refine aL (gK a) ?_;rintro x _ rfl;refine aL (gK b) ?_;rintro y _ rfl;first|exact M8 F R _ _ _|exact M9 F R _ _ _)
   |_=>first|exact absurd ⟨_,rfl⟩ h|exact absurd ⟨_,rfl⟩ g|(clear g h;simp only[cD,cS,dX,cQ,cY,cG,bV,bN,dQ,cJ,dK,cT,dB,dI]at eql neq|-;cases a<;>cases op<;>first|exact aN rfl|exact eql f|exact neq f)
 |_=>cases y with
   |pointer b=>first|exact absurd ⟨_,rfl⟩ g|(clear g h;simp only[bG,cD,cS,dX,cQ,cY,cG,bV,bN,dQ,cJ,dK,cT,dB,dI]at eql neq|-;cases b<;>cases op<;>first|exact aN rfl|exact eql f|exact neq f)
   |_=>first|exact absurd ⟨_,rfl⟩ h|exact absurd ⟨_,rfl⟩ g|(clear g h;simp only[cD,cS,dX,cQ,cY,cG,bV,bN,dQ,cJ,dK,cT,dB,dI]at eql neq|-;cases op<;>first|exact aN rfl|exact eql f|exact neq f)
omit F R in
theorem BZ(s b k):iW Z (λv=>bC Z v=v) (Conv.floatToInt s b k):=by
 unfold Conv.floatToInt;split;.exact sJ (.ret S8) (gJ J6 λ_ _=>.ret S8)
 .exact gJ J6 λ_ _=>.ret S8
omit F R in
theorem z8(x:Value):SR p p' Z (VR Z) (Conv.bytesToString x) (Conv.bytesToString (bC Z x)):=by unfold Conv.bytesToString;cases x with
 |slice a l c=>cases a with
   |none=>rw[bN];exact aO (by simp[VR])
   |some a=>
     rw[bN,pY];refine aL (xh a l l c λh _=>h) ?_;rintro vs _ rfl;refine aL (Q:=λa b=>b=a) ?_ ?_;.rw[<-OY,<-OY,sj];generalize vs.toList=l;generalize ByteArray.empty=acc;induction l generalizing acc with
      |nil=>exact aO rfl
      |cons v l ih=>simp only[qM,List.forIn_cons];cases v with
        |int k n=>rw[cQ];cases k<;>first|exact aN rfl|exact ih _
        |_=>exact aN rfl
     .rintro _ s rfl;exact aO (by simp[VR])
 |_=>exact aN rfl
omit F R in
theorem Aa(a):SR p p' Z (λ_ _=>True) (markStringish a) (markStringish (bX Z a)):=by refine aL nX ?_;rintro _ s rfl;cases s with
 |none=>exact aO trivial
 |some s=>exact Gd (a:={block:=a.block,off:=s.2})
omit F R in
theorem Ac(e s):SR p p' Z (VR Z) (Conv.stringToBytes e s) (Conv.stringToBytes e s):=by
 refine aL gY ?_;rintro _ n rfl;refine aL (Q:=λa b=>b=bX Z a/\Z.gh a.block=none) ?_ ?_;.have:=qj (p:=p) (p':=p') (Z:=Z) e ((s.data.map λb=>.int .u8 b.toNat)++Array.replicate (n -s.size) (.int .u8 0));simpa[Uf]using this
 .rintro a _ ⟨rfl,c⟩;refine aL (Aa a) ?_;intro _ _ _;exact aO (by simp[VR,fP c])
omit F R in
theorem PR{d}(h:ab1 d=true):d=some (.int .u8):=by cases d with
 |none=>cases h
 |some d=>cases d<;>first|(cases h;done)|(rename_i k;cases k<;>first|(cases h;done)|rfl)
omit R in
theorem Na(s d x)(h:MQ p s d=true):SR p p' Z (VR Z) (convert s d x) (convert s d (bC Z x)):=by refine aL (aT F s) ?_;rintro _ m ⟨rfl,j⟩;refine aL (aT F d) ?_;rintro _ g ⟨rfl,i⟩;simp[MQ,j,i]at h;cases m with
 |int k=>cases g with
   |int k'=>cases x with
     |int a n=>rw[cQ];exact aO (by simp[VR])
     |float a n=>rw[cY];exact(BZ _ _ _).val
     |pointer a=>cases a<;>exact aN rfl
     |_=>exact aN rfl
   |_=>cases h
 |string=>cases g with
   |string=>cases x with
     |int a n=>rw[cQ];exact aO (by simp[VR])
     |string a=>rw[bV];exact aO (by simp[VR])
     |_=>exact aN rfl
   |slice e=>have f:=PR h;cases x with
     |string a=>rw[bV];refine aL (aT F e) ?_;rintro _ u ⟨rfl,b⟩;rw[f]at b;cases b;exact Ac _ _
     |slice a _ _=>cases a<;>exact aN rfl
     |_=>exact aN rfl
   |_=>cases h
 |slice e=>cases g with
   |string=>have f:=PR h;cases x with
     |int a n=>rw[cQ];exact aO (by simp[VR])
     |string a=>rw[bV];exact aO (by simp[VR])
     |slice a l c=>rw[bN];refine aL (aT F e) ?_;rintro _ u ⟨rfl,b⟩;rw[f]at b;cases b;have:=z8 (p:=p) (p':=p') (Z:=Z) (.slice a l c);rwa [bN]at this
     |chan r=>rw[cJ];obtain h|⟨_,h⟩|⟨_,_,_,h⟩|⟨_,h⟩|⟨_,h⟩|⟨_,_,_,h⟩:=fL Z r<;>rw[h]<;>(refine aL (aT F e) ?_;rintro _ u ⟨rfl,b⟩;rw[f]at b;cases b;exact aN rfl)
     |_=>simp;refine aL (aT F e) ?_;rintro _ u ⟨rfl,b⟩;rw[f]at b;cases b;exact aN rfl
   |_=>cases h
 |_=>cases h
omit R in
theorem ab6(a t args)(b:(a[0]?).all (okL p)=true):SR p p' Z (VR Z) (Builtin.len_ a t args) (Builtin.len_ a t (args.map (bC Z))):=by unfold Builtin.len_;rw[kW];cases f:a[0]? with
 |none=>exact aN rfl
 |some t=>rw[f,OZ]at b;cases args[0]? with
   |none=>exact aN rfl
   |some x=>refine aL (aT F t) ?_;rintro _ d ⟨rfl,c⟩;cases d with
     |string=>cases x<;>first|exact aN rfl|(rw[bV];exact aO (by simp[VR,goInt]))
     |array n e=>exact aO (by simp[VR,goInt])
     |pointer e=>refine aL (aT F e) ?_;rintro _ d ⟨rfl,_⟩;cases d<;>first|exact aN rfl|exact aO (by simp[VR,goInt])
     |slice e=>cases x<;>first|exact aN rfl|(rw[bN];exact aO (by simp[VR,goInt]))
     |map k e=>
       cases x<;>first|exact aN rfl|skip
       rename_i r;cases r with
       |none=>rw[dQ];exact aO (by simp[VR,goInt])
       |some r=>rw[dQ,iN];refine aL gX ?_;rintro o _ rfl;cases o<;>first|exact aN rfl|exact aO (by simp[VR,goInt])
     |chan k e=>simp[okL,c]at b
     |_=>exact aN rfl
end
section
variable{G:Gs}{p p':Program}{Z:Pi}(F:Fit G p p')(R:Rn G Z)
theorem sK{z:Array Value}(h:z.map (bC Z)=z)(n):((Array.range n).map (λi=>z[i%z.size]!)).map (bC Z)=(Array.range n).map (λi=>z[i%z.size]!):=by
 rw[Array.map_map];refine Array.map_congr_left λi _=>?_;simp;by_cases a:i%z.size<z.size;.grind
 .rw[getElem!_neg z _ a];exact(by simp:bC Z (.bool default)=.bool default)
include F
omit F in
theorem Vy(x):SR p p' Z (λa b=>b=a.map (bC Z)) (asAgg x) (asAgg (bC Z x)):=by cases x with
 |agg cs=>rw[dB];exact aO rfl
 |_=>exact aN rfl
theorem Vz(t x i):SR p p' Z (VR Z) (Instr.field t x i) (Instr.field t (bC Z x) i):=by refine aL (aT F t) ?_;rintro _ d ⟨rfl,_⟩;cases d with
 |struct a=>dsimp only;cases a[i]? with
   |none=>exact aN rfl
   |some f=>refine aL (Vy x) ?_;rintro cs _ rfl;exact kY F _ _ _
 |_=>exact aN rfl
omit F in
theorem yX(place:Nat->Option (Nat×Nat)):∀(b:List (Nat×Value)) (cells:Array Value),Instr.fill place (cells.map (bC Z)) (b.map λ(i,v)=>(i,bC Z v))=(Instr.fill place cells b).map (·.map (bC Z))
 |[],cells=>rfl
 |(i,v)::rest,cells=>by simp only[qM,Instr.fill];cases place i with
   |none=>rfl
   |some os=>
     obtain⟨off,size⟩:=os;simp only[lW,Jd];split;.rfl
     .rw[<-yX place rest];congr 1;have:∀(l:List (Value×Nat)) (cs:Array Value),(l.map λx=>(bC Z x.1,x.2)).foldl (λcs (x:Value×Nat)=>cs.setIfInBounds (off+x.2) x.1) (cs.map (bC Z))=(l.foldl (λcs (x:Value×Nat)=>cs.setIfInBounds (off+x.2) x.1) cs).map (bC Z):=by intro l;induction l with
       |nil=>intro cs;rfl
       |cons x l c=>intro cs;simp;rw[<-c,Jc]
      have a:=this v.cells.zipIdx.toList cells;simp only[<-Ug]at a|-;rw[<-a];congr 1;simp[List.zipIdx_map]
theorem VA{t:TypeId}(h:t<p.types.size)(c):SR p p' Z (VR Z) (Instr.build t c) (Instr.build t (c.map λ(i,x)=>(i,bC Z x))):=by
 refine aL (fY F h) ?_;rintro _ z ⟨rfl,j⟩;have k:z.cells.map (bC Z)=z.cells:=by rw[<-lW,j]
 refine aL (aT F t) ?_;rintro _ d ⟨rfl,_⟩;have key:∀(place:Nat->Option (Nat×Nat)) (msg:String),SR p p' Z (VR Z) (match Instr.fill place z.cells c.toList with|some cells=>pure (.agg cells)|_=>stuck msg) (match Instr.fill place z.cells (c.map λ(i,x)=>(i,bC Z x)).toList with|some cells=>pure (.agg cells)|_=>stuck msg):=λplace msg=>by have:=yX (Z:=Z) place c.toList z.cells;rw[k]at this;rw[sj,this];cases Instr.fill place z.cells c.toList with
  |none=>exact aN rfl
  |some cs=>exact aO (by simp[VR])
 cases d with
 |struct g=>
   refine aL (Q:=λa b=>b=a) ?_ ?_
   .have:∀l:Array Field,SR p p' Z (λa b=>b=a) (l.mapM λf=>do pure (f.offset,<-sizeOf f.type)) (l.mapM λf=>do pure (f.offset,<-sizeOf f.type)):=λl=>by rw[Uh];refine PK (Q:=λa b=>b=a) (f:=λ(l:List (Nat×Nat))=>Sem.pure l.toArray) (f':=λ(l:List (Nat×Nat))=>Sem.pure l.toArray) ?_ (by rintro _ l rfl;exact SR.pure rfl);induction l.toList with
     |nil=>simp;exact aO rfl
     |cons f l m=>rw[List.mapM_cons];refine aL (Q:=λa b=>b=a) (aL (dS F f.type) (by rintro _ n rfl;exact aO rfl)) ?_;rintro _ x rfl;refine aL m ?_;rintro _ y rfl;exact aO rfl
    exact this g
   .rintro _ places rfl;exact key _ _
 |array n e=>refine aL (dS F e) ?_;rintro _ n rfl;exact key _ _
 |_=>exact aN rfl
end
end Go.Ren
