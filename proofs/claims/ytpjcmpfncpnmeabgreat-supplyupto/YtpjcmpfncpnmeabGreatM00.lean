import Derived.KernelRfl
import Derived.Below
import Derived.Tactics
import GoSem.Step
import Derived.Laws.Sem
set_option linter.all false
set_option maxHeartbeats 4000000
namespace Go
instance:Coe Int Value:=⟨.int .i64⟩
instance:Coe Nat Value:=⟨λn=>.int .i64 n⟩
instance:Coe Unit Value:=⟨λ_=>.slice none 0 0⟩
instance:Coe Unit (List Value):=⟨λ_=>[.string ⟨#[]⟩,.int .i64 0,.int .i64 0,.string ⟨#[]⟩,.int .i64 0,.bool false]⟩
instance:Coe Unit (Array Value):=⟨λ_=>#[.string ⟨#[]⟩,.int .i64 0,.int .i64 0,.string ⟨#[]⟩,.int .i64 0,.bool false]⟩
instance:Coe ByteArray Value:=⟨.string⟩
instance:Coe World Nat:=⟨λw=>w.heap.size⟩
instance:Coe Nat (Option Addr):=⟨λb=>some ⟨b,0,none⟩⟩
instance{b o:Nat}:CoeDep (Nat×Nat) (b,o) Addr:=⟨⟨b,o,none⟩⟩
instance{b o:Nat}:CoeDep (Nat×Nat) (b,o) (Option Addr):=⟨some ⟨b,o,none⟩⟩
structure Ds(n:Nat)
instance:Coe (Ds 0) Value:=⟨λ_=>.int .i64 0⟩
instance:Coe (Ds 1) Value:=⟨λ_=>.string ⟨#[]⟩⟩
instance:Coe (Ds 2) Value:=⟨λ_=>.int .u64 0⟩
instance:Coe (Ds 3) Value:=⟨λ_=>.bool true⟩
instance:Coe (Ds 4) Value:=⟨λ_=>.bool false⟩
instance:Coe (Ds 5) Value:=⟨λ_=>.int .i64 1⟩
def aA:Ds 0:=⟨⟩
def aB:Ds 1:=⟨⟩
def aC:Ds 2:=⟨⟩
def aD:Ds 3:=⟨⟩
def aF:Ds 4:=⟨⟩
def aG:Ds 5:=⟨⟩
def O9{p:Prop}(h:p:=by omega):p:=h
def D9{p:Prop}(h:p:=by decide):p:=h
def K8{p:Prop}(h:p:=by kernel_rfl):p:=h
def S8{p:Prop}(h:p:=by simp):p:=h
def E9{p:Prop}(h:p:=by simp[Act.eval]):p:=h
def G9{p:Prop}(h:p:=by go_simp):p:=h
def Z9{p:Prop}(h:p:=by rw[World.size_alloc];omega):p:=h
def L9{n:Nat}:n≤n:=Nat.le_refl n
def B0{B:Nat}{w:World}:RowKit.Below B w w:=RowKit.Below.refl B w
def Calls.m1{P f a w v Q}{R:World->Prop}(h:Calls P f a w λe w'=>e=.returned v/\R w')(k:∀w',R w'->Q (.returned v) w'):Calls P f a w Q:=h.mono λ_ w' r=>r.1▸k w' r.2
def Calls.m0{P f a w v Q}(h:Calls P f a w λe w'=>e=.returned v/\w'=w)(k:Q (.returned v) w):Calls P f a w Q:=h.mono λ_ _ r=>r.1▸r.2▸k
def nC:=@List.mem_append
def mG:=@List.getElem?_append_left
def cB:=@List.getElem?_eq_some_iff
def sN:=@List.prefix_refl
def lC:=@List.map_cons
def Qk:=@Array.sizeOf_lt_of_mem
def y9:=@Array.ext_getElem?
def kT:=@Array.getElem?_map
def DR:=@Array.mem_of_getElem?
def eO:=@Nat.lt_of_lt_of_le
def nN:=@Nat.lt_succ_self
def nO:=@Nat.le_of_eq
def nP:=@List.eq_nil_of_length_eq_zero
def bI:=@Nat.le_trans
def px:=@Option.getD_some
def kU:=@decide_eq_false
def nD:=@decide_eq_true
def acO:=@Array.eq_empty_iff_forall_not_mem
def Vt:=@Nat.ne_of_gt
def zb:=@Array.getElem?_push_lt
def nQ:=@Array.getElem?_eq_getElem
def JZ:=@Array.getElem?_push_size
def eA:=@Array.getElem?_eq_some_iff
def lF:=@Array.getElem?_setIfInBounds_ne
def J0:=@Array.getElem?_setIfInBounds_self_of_lt
def gA:=@Ne.symm
def dK:=@Bool.and_eq_true
def uQ:=@beq_iff_eq
def ze:=@List.all_eq_true
def zf:=@List.mem_range
def zg:=@Array.all_eq_true_iff_forall_mem
def vH:=@Go.IntKind.wrap_i64
def qu:=@Nat.lt_or_ge
def Ql:=@Nat.lt_trichotomy
def mH:=@Int.le_refl
def vI:=@Go.run_make
def vJ:=@Int.toNat_natCast
def Vu:=@Array.getElem?_push
def aS:=@if_neg
def Qm:=@Array.size_push
def Qn:=@Go.size_madeCells
def Vv:=@Nat.lt_of_le_of_lt
def eX:=@Nat.zero_le
def Vw:=@Array.getElem?_append_left
def J1:=@Nat.mod_eq_of_lt
def sO:=@Nat.sub_self
def GL:=@List.map_nil
def GM:=@Array.getD_eq_getD_getElem?
def J2:=@List.getElem?_toArray
def py:=@List.getElem?_cons_succ
def mI:=@List.getElem?_cons_zero
def oJ:=@List.size_toArray
def fG:=@List.length_cons
def jW:=@List.length_nil
def J3:=@Nat.mod_lt
def J4:=@Array.getElem?_eq_none
def acP:=@Go.Input.okWide_of_okWideB
def jX:=@Option.some.inj
def vK:=@decide_eq_true_eq
def oK:=@Nat.not_lt_zero
def Qo:=@List.mem_toArray
def iL:=@List.mem_cons
def nR:=@List.not_mem_nil
def nS:=@or_false
def Qp:=@Array.ext'
def J5:=@Prod.ext
def Qq:=@Classical.choose_spec
def J6:=@Go.Addr.mk.injEq
def vL:=@true_and
def rC:=@and_true
def GN:=@Option.map_eq_some_iff
def dY:=@Option.map_some
def sP:=@Nat.eq_zero_or_pos
def gQ:=@Option.some.injEq
def acQ:=@Array.getElem_setIfInBounds
def vM:=@List.cons.injEq
def vN:=@if_true
def acR:=@Array.getElem?_append_right
def rD:=@Nat.le_refl
def DT:=@Nat.add_zero
def Vx:=@Array.mem_iff_getElem
def J7:=@Array.getElem?_set_ne
def Qr:=@Nat.add_sub_cancel
def J8:=@List.mem_filter
def Qs:=@List.filter_sublist
def Vy:=@List.length_pos_of_mem
def acS:=@List.getElem?_eq_none_iff
def cQ:=@List.mem_of_getElem?
def J9:=@List.length_filter_le
def B6:=@And.intro
def Ka:=@Go.Sem.runT_fst
def Qt:=@Go.Sem.run_bind'
def bE:=@if_pos
def Kb:=@Array.map_setIfInBounds
def Qu:=@Bool.or_eq_true
def zh:=@if_false
def Kc:=@Array.getElem?_modify
def xL:=@Nat.le_succ
def rE:=@Classical.em
def Vz:=@Nat.add_assoc
def Ke:=@Array.size_map
def Qv:=@Array.forIn_toList
def acT:=@Std.Legacy.Range.forIn_eq_forIn_range'
def Kf:=@Bool.and_false
def vO:=@Bool.false_eq_true
def Kg:=@Option.map_none
def sQ:=@Array.toList_map
def Qw:=@Function.comp_def
def Qx:=@Option.all_some
def VA:=@Array.foldl_toList
def VC:=@Array.mapM_eq_mapM_toList
def VD:=@Nat.zero_mul
def VE:=@Array.map_append
def jG:=@List.all_cons
def Kh:=@List.foldl_cons
def VF:=@Go.Next.round.injEq
def VG:=@List.all_append
def DU:=@List.cons_append
def DV:=@Int.lt_of_lt_of_le
def GP:=@Int.ofNat_le
def Ki:=@Prod.mk.injEq
def nT:=@List.map_append
def Qy:=@Nat.le_add_right
def vP:=@List.nil_append
def zi:=@Option.bind_eq_some_iff
def DW:=@Go.World.cell?_setCell_other
def acU:=@Go.World.frozen?_setCell
def bJ:=@Go.World.size_alloc
def VH:=@Go.World.cells?_some
def bO:=@List.getElem?_eq_getElem
def DX:=@Go.DataW.trod_int
def gS:=@List.mem_map
def iM:=@List.append_assoc
def Qz:=@of_decide_eq_true
def QA:=@Array.getElem?_eq_none_iff
def Ca:=@List.getD_eq_getElem?_getD
def VI:=@Nat.add_sub_cancel_left
def dU:=@List.getElem?_append_right
def acV:=@List.getElem?_replicate
def vQ:=@Option.bind_some
def pz:=@List.mem_iff_getElem?
def VJ:=@List.getElem?_drop
def VK:=@Go.GStep.go.injEq
def nE:=@List.append_nil
def QB:=@Int.emod_nonneg
def QC:=@Int.emod_lt_of_pos
def acW:=@Int.tmod_eq_emod_of_nonneg
def uR:=@List.set_append_right
def acX:=@List.length_replicate
def VL:=@Int.le_of_lt
def vR:=@List.take_succ_eq_append_getElem
def mN:=@Go.World.ownsRow_nil
def oL:=@Go.World.ownsRow.alloc
def kG:=@Go.World.ownsRow.lt
def bW:=@List.length_append
def uS:=@Go.World.ownsRow.cells
def aeY:=@Array.length_toList
def nG:=@Go.bodyPost_ret
def xM:=@Array.size_modify
def uT:=@Go.heap_alloc_new
def VM:=@List.nodup_append
def kH:=@List.mem_singleton
def DY:=@Nat.le_of_lt
def Cb:=@Int.eq_ofNat_of_zero_le
def iU:=@List.length_take
def Cc:=@List.length_drop
def VN:=@List.take_take
def xN:=@ne_eq
def Kj:=@not_true_eq_false
def QD:=@not_false_eq_true
def VO:=@decide_eq_false_iff_not
def pW:=@Go.leaves_cons
def fC:=@List.length_map
def zj:=@List.length_reverse
def sV:=@List.getElem?_set_ne
def VP:=@List.mem_cons_of_mem
def uU:=@List.flatMap_cons
def VQ:=@List.nodup_cons
def DZ:=@List.filter_cons_of_neg
def VS:=@List.filter_eq_self
def xO:=@List.mem_map_of_mem
def GQ:=@List.filter_cons_of_pos
def VT:=@Array.toList_filter
def pA:=@List.map_map
def Kl:=@Go.results_tmp
def D2:=@Int.natCast_nonneg
def Km:=@List.any_eq_false
def VU:=@List.mem_of_mem_drop
def VV:=@UInt8.lt_iff_toNat_lt
def kI:=@List.ext_getElem?
def Ko:=@Array.getElem?_toList
def VW:=@getElem!_pos
def VX:=@List.getElem!_eq_getElem?_getD
def acY:=@Array.getElem!_eq_getD
def pC:=@List.getElem?_eq_none
def iV:=@Nat.zero_add
def QE:=@Go.Value.slice.injEq
def VY:=@Nat.mul_le_mul_right
def acZ:=@List.getElem?_take_of_lt
def cW:=@List.getElem?_map
def VZ:=@List.pairwise_iff_getElem
def Kq:=@Go.results_none
def iB:=@List.take_length
def xP:=@Nat.lt_irrefl
def GR:=@Nat.ne_of_lt
def zk:=@List.take_append_drop
def oM:=@List.length_singleton
def V2:=@List.flatMap_map
def Kr:=@Int.toNat_of_nonneg
def sW:=@List.getElem_mem
def QF:=@List.flatMap_def
def zl:=@List.take_add_one
def QG:=@List.take_of_length_le
def vS:=@Go.run_underlying
def xQ:=@List.drop_eq_getElem_cons
def V3:=@List.drop_eq_nil_of_le
def QH:=@List.take_succ_cons
def Ks:=@Nat.pow_le_pow_right
def Kt:=@List.length_set
def V4:=@List.modify_succ_cons
def Ku:=@List.getElem?_modify
def pX:=@List.getElem?_mapIdx
def qw:=@Go.World.size_setCell
def QI:=@beq_eq_false_iff_ne
def V5:=@List.drop_of_length_le
def V6:=@Option.isSome_iff_exists
def Kv:=@List.append_toArray
def V7:=@Option.isSome_some
def GU:=@Int.lt_or_le
def GV:=@Int.not_lt
def Kw:=@Go.MapKept.run_getObj_map
def V8:=@Go.MapKept.run_setObj_map
def ac0:=@List.eraseIdx_sublist
def QJ:=@Go.Value.agg.injEq
def QK:=@Array.mk.injEq
def GW:=@Go.Value.string.injEq
def GX:=@Go.Value.int.injEq
def GY:=@Go.Value.bool.injEq
def QL:=@List.any_eq_true
def QM:=@List.mem_of_mem_take
def QN:=@List.getElem?_set_self
def aeZ:=@List.find?_cons_of_neg
def QO:=@Array.replicate_succ
def QP:=@Array.replicate_zero
def QQ:=@List.push_toArray
def V9:=@List.getElem?_inj
def Wa:=@Go.World.grownBy_alloc
def QR:=@Nat.sub_zero
def Wb:=@List.drop_length
def GZ:=@List.getElem?_reverse
def QS:=@List.map_reverse
def Wc:=@List.length_mapIdx
def sX:=@Nat.min_eq_left
def Wd:=@List.flatten_cons
def ac1:=@Option.isNone_iff_eq_none
def ac2:=@Array.idxOf?_eq_none_iff
end Go
namespace Go.Ren
def JV:Value->Prop
 |.pointer (some _)|.slice (some _) _ _|.map (some _)|.chan (some _)|.func (.yield _) _ _=>True
 |_=>False
structure Pi where
 f:Nat->Nat
 s:Nat->Value
 leaf:∀k,JV (s k)
 gh:Nat->Option Addr
instance:CoeFun Pi (λ_=>Nat→Nat):=⟨Pi.f⟩
structure Gs where
 s:Nat->Value
 leaf:∀k,JV (s k)
 gh:Nat->Option Addr
 strict:Bool
 id:strict=true->(∀k,s k=.chan (some k))/\∀b,gh b=none
def Gs.self:Gs:=⟨λk=>.chan (some k),λ_=>trivial,λ_=>none,true,λ_=>⟨λ_=>rfl,λ_=>rfl⟩⟩
def oG(Z:Pi):Option Nat->Value
 |none=>.chan none
 |some k=>Z.s k
def cC(Z:Pi)(a:Addr):Addr:={a with block:=Z a.block}
def za(Z:Pi)(l c:Nat)(a:Addr):Addr:=if l=0/\c=0 then(Z.gh a.block).getD (cC Z a)else cC Z a
def KG(Z:Pi)(a:Option Addr)(l c:Nat):Option Addr:=a.map (za Z l c)
def qh{Z l c a}(h:¬(l=0/\c=0)):za Z l c a=cC Z a:=aS h
def fT{Z l c a}(h:Z.gh a.block=none):za Z l c a=cC Z a:=by
 unfold za;split;.simp_all
 .rfl
def qs(Z:Pi):Fn->Fn
 |.yield l=>.yield (Z l)
 |f=>f
def bB(Z:Pi):Value->Value
 |.bool b=>.bool b
 |.int k n=>.int k n
 |.float k b=>.float k b
 |.complex k a b=>.complex k a b
 |.string s=>.string s
 |.pointer a=>.pointer (a.map (cC Z))
 |.slice a l c=>.slice (KG Z a l c) l c
 |.map r=>.map (r.map Z.f)
 |.chan r=>oG Z r
 |.func fn a b=>.func (qs Z fn) (a.map (bB Z)) (b.map (bB Z))
 |.nilFunc=>.nilFunc
 |.iface t v=>.iface t (bB Z v)
 |.nilIface=>.nilIface
 |.agg cs=>.agg (cs.map (bB Z))
 |.tuple vs=>.tuple (vs.map (bB Z))
def Dc(Z:Pi):Target->Target
 |.fn f c=>.fn (qs Z f) (c.map (bB Z))
 |.collected r=>.collected (Z r)
 |.coroexit c=>.coroexit (Z c)
 |t=>t
def mP(Z:Pi)(d:Deferred):Deferred:={target:=Dc Z d.target,args:=d.args.map (bB Z)}
def mK(Z:Pi)(e:MapEntry):MapEntry:={e with key:=bB Z e.key,val:=bB Z e.val}
def Ta(Z:Pi)(l:Loop):Loop:={l with tmps:=l.tmps.map (bB Z),defers:=Z l.defers}
def dS(Z:Pi):Obj->Obj
 |.cells c e f=>.cells (c.map (bB Z)) e f
 |.pending c e=>.pending (c.map (bB Z)) e
 |.view a t=>.view (cC Z a) t
 |.number a l=>.number (cC Z a) l
 |.map es c=>.map (es.map (mK Z)) c
 |.chan cap buf cl s r t=>.chan cap (buf.map (bB Z)) cl s r t
 |.stringIter s p=>.stringIter s p
 |.mapIter m s seen st=>.mapIter (m.map Z.f) s seen st
 |.loop l=>.loop (Ta Z l)
 |.deferred cs=>.deferred (cs.map (·.map (mP Z)))
 |.coro p=>.coro p
 |.finalizers fs r=>.finalizers (fs.map λ(n,d)=>(n,mP Z d)) r
def KX(Z:Pi):Mark->Mark
 |.acquire a=>.acquire (cC Z a)
 |.release a=>.release (cC Z a)
 |.releaseMerge a=>.releaseMerge (cC Z a)
 |.read a=>.read (cC Z a)
 |.write a=>.write (cC Z a)
 |m=>m
def I4(Z:Pi):Halt->Halt
 |.panic v=>.panic (bB Z v)
 |h=>h
def yt(Z:Pi):Loc->Loc
 |.cell a=>.cell (cC Z a)
 |.obj r=>.obj (Z r)
 |.mark m=>.mark (KX Z m)
 |l=>l
def AR(Z:Pi)(e:Event):Event:={e with loc:=yt Z e.loc}
def oW:Nat->Value->Bool
 |0,_=>false
 |n+1,v=>match v with
   |.pointer a|.slice a _ _=>a.isNone
   |.map r|.chan r=>r.isNone
   |.func f a b=>(match f with|.yield _=>false|_=>true)&&a.all (oW n)&&b.all (oW n)
   |.iface _ v=>oW n v
   |.agg cs|.tuple cs=>cs.all (oW n)
   |_=>true
def I5(v:Value):Bool:=oW 5 v
def ad1:Option TypeDesc->Bool
 |some (.int .u8)=>true
 |_=>false
def Od(p:Program)(s d:TypeId):Bool:=match p.underlying s,p.underlying d with
 |some (.int _),some (.int _)=>true
 |some .string,some .string=>true
 |some (.slice e),some .string=>ad1 (p.underlying e)
 |some .string,some (.slice e)=>ad1 (p.underlying e)
 |_,_=>false
def ad2:Operand->Bool
 |.const .nilIface=>true
 |_=>false
section
variable(p:Program)
def Oe(t:TypeId):Bool:=decide (t<p.types.size)
def rI(_:Program):Operand->Bool
 |.const v=>I5 v
 |.global _=>false
 |_=>true
def uZ:Nat->TypeId->Bool
 |0,_=>false
 |n+1,t=>((p.info? t).all fun i=>match i.desc with|.named "sync.copyChecker" _=>false|_=>true)&&match p.underlying t with
   |some (.interface _)|some (.chan ..)=>false
   |some (.array _ e)=>uZ n e
   |some (.struct fs)=>fs.all fun f=>uZ n f.type
   |_=>true
def Tb(t:TypeId)(nl:Bool):Bool:=uZ p 5 t||(nl&&match p.underlying t with|some (.interface _)=>true|_=>false)
def zF(t:TypeId):Bool:=match p.underlying t with
 |some (.map k _)=>uZ p 5 k
 |_=>true
def okL(t:TypeId):Bool:=match p.underlying t with
 |some (.chan ..)=>false
 |_=>true
def okB(ts:Array TypeId):Builtin->Bool
 |.append|.clear=>(ts[0]?).all (Oe p)
 |.delete=>(ts[0]?).all (zF p)
 |.len|.cap=>(ts[0]?).all (okL p)
 |.copy|.max|.min|.panic|.recover|.unsafeString=>true
 |_=>false
def Og(c:Call):Bool:=c.args.all (rI p)&&match c.callee with
  |.value f=>rI p f
  |.invoke f _=>rI p f
  |.builtin b=>okB p c.argTypes b
def okD(d:Deferred):Bool:=match d.target with
 |.builtin b ts _ _=>okB p ts b
 |.coroexit _=>false
 |_=>true
def Tc:Op->Bool
 |.move x|.assign x|.box _ x|.load _ x|.nilCheck x|.unOp _ _ x|.makeInterface _ x|.fieldAddr _ x _|.field _ x _|.range _ x|.next x _|.entry x|.extract x _|.panic x=>rI p x
 |.pick a b c=>rI p a&&rI p b&&rI p c
 |.alloc t=>Oe p t
 |.build t ps=>Oe p t&&ps.all λ(_,x)=>rI p x
 |.buildSlice t _ ps=>Oe p t&&ps.all λ(_,x)=>rI p x
 |.store _ a b|.indexAddr _ a b|.index _ a b=>rI p a&&rI p b
 |.binOp op t a b _=>rI p a&&rI p b&&(match op with|.eql|.neq=>Tb p t (ad2 b)|_=>true)
 |.lookup t a b _=>Oe p t&&rI p a&&rI p b&&zF p t
 |.makeSlice t a b=>Oe p t&&rI p a&&rI p b
 |.convert s d x=>Od p s d&&rI p x
 |.makeFunc f a b=>(match f with|.yield _=>false|_=>true)&&a.all (rI p)&&b.all (rI p)
 |.makeMap _ r=>r.all (rI p)
 |.slice _ x l h m=>rI p x&&l.all (rI p)&&h.all (rI p)&&m.all (rI p)
 |.mapUpdate t a b c=>rI p a&&rI p b&&rI p c&&zF p t
 |.typeAssert x _ t _=>Oe p t&&rI p x
 |.call c|.defer c=>Og p c
 |_=>false
def yr(f:FuncId):Bool:=(p.inits.idxOf? f).isNone
def eV:Code->Bool
 |.region _ ops _=>ops.all λo=>Tc p o.op
 |.seq a b=>eV a&&eV b
 |.cond c a b=>rI p c&&eV a&&eV b
 |.block _ b|.loop b|.scope b=>eV b
 |.rangeFunc f _ a b=>rI p f&&eV a&&eV b
 |_=>true
end
def cK(p:Program):Obj->Bool
 |.pending ..|.view ..=>false
 |.loop l=>eV p l.assign&&eV p l.body&&l.pending.all (eV p)&&yr p l.fn
 |.deferred cs=>cs.all (·.all (okD p))
 |_=>true
def xW:Halt->Bool
 |.stuck _=>true
 |.unsupported (.initOrder _)=>false
 |.unsupported _=>true
 |_=>false
def okM:Mark->Bool
 |.disable|.enable=>false
 |_=>true
def Oh(e:Event):Bool:=match e.loc with
 |.mark m=>okM m
 |_=>true
def Q4:Halt->Bool
 |.panic _|.throw _=>true
 |_=>false
def afo{α β:Type}(p:Program)(f:α->Sem β):Result α×Array Event->Result β×Array Event
 |(.ok a w1,Xf)=>(f a).runT p w1 Xf
 |(.halt h w1,Xf)=>(.halt h w1,Xf)
def oX{α β:Type}(p:Program)(s:Sem α)(f:α->Sem β):∀(w:World) (es:Array Event),(s>>=f).runT p w es=afo p f (s.runT p w es):=by change ∀w es,(s.bind f).runT p w es=_;induction s with
 |pure a=>intro w es;rfl
 |halt h=>intro w es;rfl
 |store m a v k ih=>intro w es;cases v<;>simp only[Sem.bind,Sem.runT]<;>(repeat' split)<;>first|rfl|exact ih _ _
 |_=>
   rename_i ih;intro w es;simp only[Sem.bind,Sem.runT];repeat' split
   all_goals first|rfl|exact ih _ _ _|exact ih _ _
def eF{α:Type}(p:Program)(s:Sem α):Prop:=∀w es,∃h w' es',s.runT p w es=(.halt h w',es')/\xW h=true
def eF.bind{α β p s}{f:α->Sem β}(h:eF p s):eF p (s.bind f):=λw es=>by have⟨x,w',a,e,b⟩:=h w es;refine⟨x,w',a,?_,b⟩;have:=oX p s f w es;rw[e]at this;exact this
def eF.then{α β p s}{f:α->Sem β}(h:∀a,eF p (f a))(g:∀w es,∃a w' b,s.runT p w es=(.ok a w',b)):eF p (s>>=f):=λw es=>by have⟨a,w',b,e⟩:=g w es;have⟨x,w2,d,c,i⟩:=h a w' b;exact⟨x,w2,d,by rw[oX,e];exact c,i⟩
section
variable(p p':Program)(Z:Pi)
inductive SR{α β:Type}(Q:α->β->Prop):Sem α->Sem β->Prop
 |pure {a:α} {b:β}:Q a b->SR Q (.pure a) (.pure b)
 |load {m:Mode} {a:Addr} {k:Value->Sem α} {k':Value->Sem β}:(∀v,SR Q (k v) (k' (bB Z v)))->SR Q (.load m a k) (.load m (cC Z a) k')
 |store {m:Mode} {a:Addr} {v:Value} {k:Sem α} {k':Sem β}:SR Q k k'->SR Q (.store m a v k) (.store m (cC Z a) (bB Z v) k')
 |new {o:Obj} {k:Nat->Sem α} {k':Nat->Sem β}:cK p o=true->(∀r,Z.gh r=none->SR Q (k r) (k' (Z r)))->SR Q (.new o k) (.new (dS Z o) k')
 |shape {r:Nat} {k:Option (TypeId×Nat)->Sem α} {k':Option (TypeId×Nat)->Sem β}:(∀s,SR Q (k s) (k' s))->SR Q (.shape r k) (.shape (Z r) k')
 |freeze {a:Addr} {n:Nat} {k:Sem α} {k':Sem β}:SR Q k k'->SR Q (.freeze a n k) (.freeze (cC Z a) n k')
 |frozen {a:Addr} {k:Bool->Sem α} {k':Bool->Sem β}:(∀b,SR Q (k b) (k' b))->SR Q (.frozen a k) (.frozen (cC Z a) k')
 |getObj {r:Nat} {k:Obj->Sem α} {k':Obj->Sem β}:(∀o,cK p o=true->SR Q (k o) (k' (dS Z o)))->SR Q (.getObj r k) (.getObj (Z r) k')
 |setObj {r:Nat} {o:Obj} {k:Sem α} {k':Sem β}:cK p o=true->SR Q k k'->SR Q (.setObj r o k) (.setObj (Z r) (dS Z o) k')
 |choose {q:Question} {k:Nat->Sem α} {k':Nat->Sem β}:(∀n,SR Q (k n) (k' n))->SR Q (.choose q k) (.choose q k')
 |env {k:SysRet->Sem α} {k':SysRet->Sem β}:(∀r,SR Q (k r) (k' r))->SR Q (.sys .env k) (.sys .env k')
 |program {k:Program->Sem α} {k':Program->Sem β}:SR Q (k p) (k' p')->SR Q (.program k) (.program k')
 |mark {m:Mark} {k:Sem α} {k':Sem β}:okM m=true->SR Q k k'->SR Q (.mark m k) (.mark (KX Z m) k')
 |halt {h:Halt}:Q4 h=true->SR Q (.halt h) (.halt (I4 Z h))
 |qy {s:Sem α} {s':Sem β}:eF p s->SR Q s s'
end
def SR.lost{α β p p' Z}{Q:α->β->Prop}{h s}(e:xW h=true):SR p p' Z Q (.halt h) s:=.qy λw es=>⟨h,w,es,rfl,e⟩
def aM:=@SR.lost
def SR.adb{α β:Type}{p p':Program}{Z:Pi}{Q:α->β->Prop}{k:Program->Sem α}{h:Halt}{s:Sem β}(e:k p=.halt h)(e2:xW h=true):SR p p' Z Q (.program k) s:=.qy λw es=>⟨h,w,es,by simp only[Sem.runT,e],e2⟩
section
variable{p p':Program}{Z:Pi}{α β γ δ:Type}{Q:α→β→Prop}{Q':γ→δ→Prop}
def SR.bind'{s s' f f'}(h:SR p p' Z Q s s')(e:∀a b,Q a b->SR p p' Z Q' (f a) (f' b)):SR p p' Z Q' (s.bind f) (s'.bind f'):=by induction h with
 |pure h=>exact e _ _ h
 |load _ c=>exact .load c
 |store _ c=>exact .store c
 |new d _ c=>exact .new d c
 |shape _ c=>exact .shape c
 |freeze _ c=>exact .freeze c
 |frozen _ c=>exact .frozen c
 |getObj _ c=>exact .getObj c
 |setObj d _ c=>exact .setObj d c
 |choose _ c=>exact .choose c
 |env _ c=>exact .env c
 |program _ c=>exact .program c
 |mark h _ c=>exact .mark h c
 |halt h=>exact .halt h
 |qy h=>exact .qy h.bind
def Q5:=@SR.bind'
def SR.bind{s s' f f'}(h:SR p p' Z Q s s')(c:∀a b,Q a b->SR p p' Z Q' (f a) (f' b)):SR p p' Z Q' (s>>=f) (s'>>=f'):=Q5 h c
def aK:=@SR.bind
def SR.ret{a b}(h:Q a b):SR p p' Z Q (Pure.pure a) (Pure.pure b):=SR.pure h
def aN:=@SR.ret
def SR.mono{s s' e}(h:SR p p' Z Q s s')(f:∀a b,Q a b->e a b):SR p p' Z e s s':=by induction h with
 |pure h=>exact .pure (f _ _ h)
 |load _ c=>exact .load c
 |store _ c=>exact .store c
 |new d _ c=>exact .new d c
 |shape _ c=>exact .shape c
 |freeze _ c=>exact .freeze c
 |frozen _ c=>exact .frozen c
 |getObj _ c=>exact .getObj c
 |setObj d _ c=>exact .setObj d c
 |choose _ c=>exact .choose c
 |env _ c=>exact .env c
 |program _ c=>exact .program c
 |mark h _ c=>exact .mark h c
 |halt h=>exact .halt h
 |qy h=>exact .qy h
end
@[simp] theorem eG(Z b):bB Z (.bool b)=.bool b:=by rw[bB]
@[simp] theorem cR(Z k n):bB Z (.int k n)=.int k n:=by rw[bB]
@[simp] theorem dC(Z k n):bB Z (.float k n)=.float k n:=by rw[bB]
@[simp] theorem cJ(Z k n m):bB Z (.complex k n m)=.complex k n m:=by rw[bB]
@[simp] theorem cA(Z s):bB Z (.string s)=s:=by rw[bB]
@[simp] theorem bH(Z a):bB Z (.pointer a)=.pointer (a.map (cC Z)):=by rw[bB]
@[simp] theorem bQ(Z a l c):bB Z (.slice a l c)=.slice (KG Z a l c) l c:=by rw[bB]
@[simp] theorem Td(Z l c):KG Z none l c=none:=rfl
@[simp] theorem qg(Z a l c):KG Z (some a) l c=some (za Z l c a):=rfl
@[simp] theorem dV(Z r):bB Z (.map r)=.map (r.map Z.f):=by rw[bB]
@[simp] theorem cL(Z r):bB Z (.chan r)=oG Z r:=by rw[bB]
@[simp] theorem dM(Z f a b):bB Z (.func f a b)=.func (qs Z f) (a.map (bB Z)) (b.map (bB Z)):=by rw[bB]
@[simp] theorem cU(Z):bB Z .nilFunc=.nilFunc:=by rw[bB]
@[simp] theorem cT(Z t v):bB Z (.iface t v)=.iface t (bB Z v):=by rw[bB]
@[simp] theorem cH(Z):bB Z .nilIface=.nilIface:=by rw[bB]
@[simp] theorem dD(Z c):bB Z (.agg c)=.agg (c.map (bB Z)):=by rw[bB]
@[simp] theorem dL(Z c):bB Z (.tuple c)=.tuple (c.map (bB Z)):=by rw[bB]
@[simp] theorem Ej(Z a):(cC Z a).block=Z a.block:=rfl
@[simp] theorem afp(Z a):(cC Z a).off=a.off:=rfl
@[simp] theorem aeW(Z a):(cC Z a).spot=a.spot:=rfl
@[simp] theorem af8(Z b o s):cC Z ⟨b,o,s⟩=⟨Z b,o,s⟩:=rfl
@[simp] theorem zG(Z a n):cC Z (a.add n)=(cC Z a).add n:=by simp[Addr.add];split<;>rfl
@[simp] theorem aeX(Z):oG Z none=.chan none:=rfl
def fO(Z r):oG Z r=.chan none\/(∃a,oG Z r=.pointer (some a))\/(∃a l c,oG Z r=.slice (some a) l c)\/(∃m,oG Z r=.map (some m))\/(∃m,oG Z r=.chan (some m))\/∃l a b,oG Z r=.func (.yield l) a b:=by cases r with
 |none=>exact .inl rfl
 |some k=>have h:=Z.leaf k;simp[oG];revert h;cases Z.s k with
   |pointer a=>cases a with|none=>exact False.elim|some a=>intro _;exact .inr (.inl ⟨a,rfl⟩)
   |slice a l c=>cases a with|none=>exact False.elim|some a=>intro _;exact .inr (.inr (.inl ⟨a,l,c,rfl⟩))
   |map r=>cases r with|none=>exact False.elim|some r=>intro _;exact .inr (.inr (.inr (.inl ⟨r,rfl⟩)))
   |chan r=>cases r with|none=>exact False.elim|some r=>intro _;exact .inr (.inr (.inr (.inr (.inl ⟨r,rfl⟩))))
   |func f a b=>cases f<;>first|exact False.elim|(intro _;exact .inr (.inr (.inr (.inr (.inr ⟨_,_,_,rfl⟩)))))
   |_=>exact False.elim
@[simp] theorem Oi(Z r):(oG Z r).cells=#[oG Z r]:=by obtain h|⟨_,h⟩|⟨_,_,_,h⟩|⟨_,h⟩|⟨_,h⟩|⟨_,_,_,h⟩:=fO Z r<;>rw[h]<;>rfl
def Ek(Z r c):oG Z r≠.agg c:=by obtain h|⟨_,h⟩|⟨_,_,_,h⟩|⟨_,h⟩|⟨_,h⟩|⟨_,_,_,h⟩:=fO Z r<;>rw[h]<;>simp
def xX(Z r):oG Z r≠.nilIface:=by obtain h|⟨_,h⟩|⟨_,_,_,h⟩|⟨_,h⟩|⟨_,h⟩|⟨_,_,_,h⟩:=fO Z r<;>rw[h]<;>simp
def Oj(Z r c):oG Z r≠.tuple c:=by obtain h|⟨_,h⟩|⟨_,_,_,h⟩|⟨_,h⟩|⟨_,h⟩|⟨_,_,_,h⟩:=fO Z r<;>rw[h]<;>simp
@[simp] theorem lY(Z v):(bB Z v).cells=v.cells.map (bB Z):=by cases v with
  |chan r=>rw[cL,Oi];simp[Value.cells]
  |_=>simp[Value.cells]
@[simp] theorem AU(Z):bB Z undef=undef:=by simp[undef]
structure Rn(G:Gs)(Z:Pi):Prop where
 inj:∀a b,Z a=Z b->a=b
 sub:Z.s=G.s
 gh:Z.gh=G.gh
def Cp(U:Nat->Option Nat)(Z:Pi):Prop:=∀b c,U b=some c->Z b=c
structure fF(G:Gs)(U:Nat->Option Nat)(m M:Nat):Prop where
 inj:∀a b c,U a=some c->U b=some c->a=b
 lt:∀b c,U b=some c->b<m/\c<M
 real:∀b c,U b=some c->G.gh b=none
 low:∀b,m<=b->G.gh b=none
def Ext(U μ':Nat->Option Nat):Prop:=∀b c,U b=some c->μ' b=some c
def Ext.refl(U:Nat->Option Nat):Ext U U:=λ_ _ h=>h
def oQ:=@Ext.refl
def Ext.trans{a b c}(h:Ext a b)(d:Ext b c):Ext a c:=λ_ _ x=>d _ _ (h _ _ x)
def Cp.I6{U μ' Z}(h:Ext U μ')(c:Cp μ' Z):Cp U Z:=λ_ _ x=>c _ _ (h _ _ x)
def eZ(G:Gs)(U:Nat->Option Nat)(F:Pi->Prop):Prop:=∀Z,Rn G Z->Cp U Z->F Z
def eZ.ext{G U μ' F}(h:eZ G U F)(e:Ext U μ'):eZ G μ' F:=λZ r c=>h Z r (c.I6 e)
def Q6(U:Nat->Option Nat)(M K:Nat)(b:Nat):Nat:=(U b).getD (M+K+b)
def KY(G:Gs)(U:Nat->Option Nat)(M K:Nat):Pi:=⟨Q6 U M K,G.s,G.leaf,G.gh⟩
def zH{G m M U}(h:fF G U m M)(K):Rn G (KY G U M K):=by
 refine⟨λa b e=>?_,rfl,rfl⟩
 .simp[KY,Q6]at e;cases c:U a<;>cases d:U b<;>rw[c,d]at e<;>simp at e;.omega
  .have:=(h.lt _ _ d).2;omega
  .have:=(h.lt _ _ c).2;omega
  .subst e;exact h.inj _ _ _ c d
def vY(G)(U:Nat->Option Nat)(M K):Cp U (KY G U M K):=λb c h=>by simp[KY,Q6,h]
def fF.one{G m M U}(h:fF G U m M):∃Z,Rn G Z/\Cp U Z:=⟨_,zH h 0,vY G U M 0⟩
def fF.dom{G m M U}(h:fF G U m M){b x}(e:eZ G U λZ=>x=Z b):U b=some x:=by cases a:U b with
 |some c=>rw[e _ (zH h 0) (vY G U M 0),vY G U M 0 _ _ a]
 |none=>have d:=e _ (zH h 0) (vY G U M 0);have f:=e _ (zH h 1) (vY G U M 1);simp[KY,Q6,a]at d f;omega
structure NM where
 lim:Nat
 Ol:Int
 tp:Nat->Question->Nat
structure WR(p:Program)(L:NM)(G:Gs)(U:Nat->Option Nat)(w W:World):Prop where
 obj:∀b c,U b=some c->∃o o',w.heap[b]?=some o/\W.heap[c]?=some o'/\cK p o=true/\eZ G U λZ=>o'=dS Z o
 tape:∀i q,w.drawn+i<L.lim->w.tape (w.drawn+i) q=W.tape (W.drawn+i) q
 os:W.os=w.os
 Ol:(W.drawn:Int)=w.drawn+L.Ol
 tp:w.tape=L.tp
structure WE(p:Program)(L:NM)(G:Gs)(U:Nat->Option Nat)(w W:World):Prop where
 obj:∀b c,U b=some c->∃o o',w.heap[b]?=some o/\W.heap[c]?=some o'/\cK p o=true/\eZ G U λZ=>o'=dS Z o
 os:W.os=w.os
 Ol:G.strict=true->(W.drawn:Int)=w.drawn+L.Ol
 tp:w.tape=L.tp
def WR.we{p L G U w W}(h:WR p L G U w W):WE p L G U w W:=⟨h.obj,h.os,λ_=>h.Ol,h.tp⟩
structure Fr(U μ':Nat->Option Nat)(W W':World):Prop where
 size:W.heap.size<=W'.heap.size
 rest:∀c,c<W.heap.size->(∀b,U b≠some c)->W'.heap[c]?=W.heap[c]?
 new:∀c,W.heap.size<=c->c<W'.heap.size->∃b,μ' b=some c
 old:∀b c,μ' b=some c->c<W.heap.size->U b=some c
 tape:W'.tape=W.tape
 output:W'.output=W.output
 dr:W.drawn<=W'.drawn
 os:W'.os=W.os
def Fr.refl(U:Nat->Option Nat)(W):Fr U U W W:=⟨L9,λ_ _ _=>rfl,λc h a=>by omega,λ_ _ h _=>h,rfl,rfl,L9,rfl⟩
def KZ:=@Fr.refl
def Fr.trans{U μ' ad3:Nat->Option Nat}{W W' W'':World}(e:Ext μ' ad3)(h:Fr U μ' W W')(h':Fr μ' ad3 W' W''):Fr U ad3 W W'' where
 size:=bI h.size h'.size;rest:=λc hc hn=>by have hs:=h.size;rw[h'.rest c (by omega) (λb hb=>hn b (h.old b c hb hc)),h.rest c hc hn]
 new:=λc h1 h2=>by
  by_cases hc:c<W'.heap.size;.obtain⟨b,hb⟩:=h.new c h1 hc;exact⟨b,e _ _ hb⟩
  .exact h'.new c (by omega) h2
 old:=λb c hb hc=>by have hs:=h.size;exact h.old b c (h'.old b c hb (by omega)) hc
 tape:=h'.tape.trans h.tape;output:=h'.output.trans h.output;dr:=bI h.dr h'.dr;os:=h'.os.trans h.os
def cX{α:Type}:Result α->World
 |.ok _ w|.halt _ w=>w
def vA(L:NM)(w W:World):Prop:=(L.lim:Int)<w.drawn/\L.lim+L.Ol<W.drawn
structure rW(G:Gs)(U:Nat->Option Nat)(es ES:Array Event):Prop where
 all:eZ G U λZ=>ES=es.map (AR Z)
 quiet:∀e∈es,Oh e=true
def rW.push{G U es ES}(h:rW G U es ES){e E}(b:eZ G U λZ=>E=AR Z e)(d:Oh e=true):rW G U (es.push e) (ES.push E):=⟨λZ r c=>by show ES.push E=(es.push e).map (AR Z);rw[h.all Z r c,b Z r c,Array.map_push],λx f=>by
  obtain a|rfl:=Array.mem_push.1 f;.exact h.quiet x a
  .exact d⟩
def Out{α β:Type}(p:Program)(L:NM)(G:Gs)(U:Nat->Option Nat)(W:World)(Q:Pi->α->β->Prop)(r:Result α×Array Event)(r':Result β×Array Event):Prop:=match r with
 |(.ok a w1,Xf)=>vA L w1 (cX r'.1)\/∃b W1 Xg ry,r'=(.ok b W1,Xg)/\Ext U ry/\fF G ry w1.heap.size W1.heap.size/\WR p L G ry w1 W1/\Fr U ry W W1/\rW G ry Xf Xg/\eZ G ry λZ=>Q Z a b
 |(.halt h w1,Xf)=>vA L w1 (cX r'.1)\/xW h=true\/Q4 h=true/\∃h' W1 Xg ry,r'=(.halt h' W1,Xg)/\Ext U ry/\fF G ry w1.heap.size W1.heap.size/\WR p L G ry w1 W1/\Fr U ry W W1/\rW G ry Xf Xg/\eZ G ry λZ=>h'=I4 Z h
def oH{α β:Type}(p:Program)(L:NM)(G:Gs)(U:Nat->Option Nat)(W:World)(Q:Pi->α->β->Prop)(r:Result α×Array Event)(r':Result β×Array Event):Prop:=match r with
 |(.ok a w1,Xf)=>vA L w1 (cX r'.1)\/∃b W1 Xg ry,r'=(.ok b W1,Xg)/\Ext U ry/\fF G ry w1.heap.size W1.heap.size/\WE p L G ry w1 W1/\Fr U ry W W1/\rW G ry Xf Xg/\eZ G ry λZ=>Q Z a b
 |(.halt h w1,Xf)=>vA L w1 (cX r'.1)\/xW h=true\/Q4 h=true/\∃h' W1 Xg ry,r'=(.halt h' W1,Xg)/\Ext U ry/\fF G ry w1.heap.size W1.heap.size/\WE p L G ry w1 W1/\Fr U ry W W1/\rW G ry Xf Xg/\eZ G ry λZ=>h'=I4 Z h
def Out.we{p L α β G U W Q}{r:Result α×Array Event}{m:Result β×Array Event}(h:Out p L G U W Q r m):oH p L G U W Q r m:=by match r with
 |(.ok a w1,n)=>
   obtain k|⟨b,d,c,l,e,f,g,i,j⟩:=h;.exact .inl k
   .exact .inr ⟨b,d,c,l,e,f,g,i.we,j⟩
 |(.halt x w1,n)=>
   obtain k|h|⟨o,b,d,c,l,e,f,g,i,j⟩:=h;.exact .inl k
   .exact .inr (.inl h)
   .exact .inr<|.inr ⟨o,b,d,c,l,e,f,g,i.we,j⟩
def Out.weaken{p L α β G U q W W1 Q}{r:Result α×Array Event}{s:Result β×Array Event}(e:Ext U q)(f:Fr U q W W1)(h:Out p L G q W1 Q r s):Out p L G U W Q r s:=by
 match r with
 |(.ok a w1,t)=>
   obtain n|⟨b,g,d,o,i,c,j,k,l,m⟩:=h;.exact .inl n
   .exact .inr ⟨b,g,d,o,i,e.trans c,j,k,f.trans c l,m⟩
 |(.halt x w1,t)=>
   obtain n|h|⟨u,b,g,d,o,i,c,j,k,l,m⟩:=h;.exact .inl n
   .exact .inr (.inl h)
   .exact .inr<|.inr ⟨u,b,g,d,o,i,e.trans c,j,k,f.trans c l,m⟩
section inv
variable{p p':Program}{Z:Pi}{α β:Type}{Q:α→β→Prop}{s':Sem β}
def SR.K5{a}(h:SR p p' Z Q (.pure a) s'):∃b,s'=.pure b/\Q a b:=by cases h with|pure h=>exact⟨_,rfl,h⟩|qy d=>obtain⟨_,_,_,e,_⟩:=d default #[];cases e
def SR.K6{m a k}(b:¬eF p (.load m a k))(h:SR p p' Z Q (.load m a k) s'):∃k',s'=.load m (cC Z a) k'/\∀v,SR p p' Z Q (k v) (k' (bB Z v)):=by cases h with|load h=>exact⟨_,rfl,h⟩|qy d=>exact absurd d b
def SR.Hf{m a v k}(b:¬eF p (.store m a v k))(h:SR p p' Z Q (.store m a v k) s'):∃k',s'=.store m (cC Z a) (bB Z v) k'/\SR p p' Z Q k k':=by cases h with|store h=>exact⟨_,rfl,h⟩|qy d=>exact absurd d b
def SR.Q7{o k}(b:¬eF p (.new o k))(h:SR p p' Z Q (.new o k) s'):∃k',s'=.new (dS Z o) k'/\cK p o=true/\∀r,Z.gh r=none->SR p p' Z Q (k r) (k' (Z r)):=by cases h with|new h a=>exact⟨_,rfl,h,a⟩|qy d=>exact absurd d b
def SR.Hg{r k}(a:¬eF p (.shape r k))(h:SR p p' Z Q (.shape r k) s'):∃k',s'=.shape (Z r) k'/\∀v,SR p p' Z Q (k v) (k' v):=by cases h with|shape h=>exact⟨_,rfl,h⟩|qy d=>exact absurd d a
def SR.El{a n k}(b:¬eF p (.freeze a n k))(h:SR p p' Z Q (.freeze a n k) s'):∃k',s'=.freeze (cC Z a) n k'/\SR p p' Z Q k k':=by cases h with|freeze h=>exact⟨_,rfl,h⟩|qy d=>exact absurd d b
def SR.Em{a k}(b:¬eF p (.frozen a k))(h:SR p p' Z Q (.frozen a k) s'):∃k',s'=.frozen (cC Z a) k'/\∀v,SR p p' Z Q (k v) (k' v):=by cases h with|frozen h=>exact⟨_,rfl,h⟩|qy d=>exact absurd d b
def SR.En{r k}(a:¬eF p (.getObj r k))(h:SR p p' Z Q (.getObj r k) s'):∃k',s'=.getObj (Z r) k'/\∀v,cK p v=true->SR p p' Z Q (k v) (k' (dS Z v)):=by cases h with|getObj h=>exact⟨_,rfl,h⟩|qy d=>exact absurd d a
def SR.Eo{r o k}(b:¬eF p (.setObj r o k))(h:SR p p' Z Q (.setObj r o k) s'):∃k',s'=.setObj (Z r) (dS Z o) k'/\cK p o=true/\SR p p' Z Q k k':=by cases h with|setObj h a=>exact⟨_,rfl,h,a⟩|qy d=>exact absurd d b
def SR.Ep{q k}(a:¬eF p (.choose q k))(h:SR p p' Z Q (.choose q k) s'):∃k',s'=.choose q k'/\∀v,SR p p' Z Q (k v) (k' v):=by cases h with|choose h=>exact⟨_,rfl,h⟩|qy d=>exact absurd d a
def SR.Cq{k}(a:¬eF p (.program k))(h:SR p p' Z Q (.program k) s'):∃k',s'=.program k'/\SR p p' Z Q (k p) (k' p'):=by cases h with|program h=>exact⟨_,rfl,h⟩|qy d=>exact absurd d a
def SR.K7{m k}(a:¬eF p (.mark m k))(h:SR p p' Z Q (.mark m k) s'):∃k',s'=.mark (KX Z m) k'/\okM m=true/\SR p p' Z Q k k':=by cases h with|mark b h=>exact⟨_,rfl,b,h⟩|qy d=>exact absurd d a
def SR.K9{a}(h:SR p p' Z Q (.halt a) s'):xW a=true\/s'=.halt (I4 Z a)/\Q4 a=true:=by cases h with|halt h=>exact .inr ⟨rfl,h⟩|qy d=>obtain⟨_,_,_,e,b⟩:=d default #[];cases e;exact .inl b
def SR.Q8{c k}(a:¬eF p (.sys c k))(h:SR p p' Z Q (.sys c k) s'):c=.env/\∃k',s'=.sys c k'/\∀v,SR p p' Z Q (k v) (k' v):=by cases h with|env h=>exact⟨rfl,_,rfl,h⟩|qy d=>exact absurd d a
end inv
def WR.cells{p L G m M U w W}(h:WR p L G U w W)(ok:fF G U m M){b c}(e:U b=some c){cs t f}(k:w.heap[b]?=some (.cells cs t f)):∃a,W.heap[c]?=some (.cells a t f)/\eZ G U λZ=>a=cs.map (bB Z):=by
 have⟨o,o',d,j,_,g⟩:=h.obj b c e;rw[k]at d;cases d;have⟨Z,r,cp⟩:=ok.one;have h0:=g Z r cp;subst h0;exact⟨_,j,λn l i=>by have:=g n l i;simpa only[dS,Obj.cells.injEq,and_self,rC]using this⟩
def yu{w:World}{a cs t f}(h:w.heap[a.block]?=some (.cells cs t f)):w.cell? a=if a.spot.isSome then none else cs[a.off]?:=by simp[World.cell?,h]
def kO{p}{w:World}{a o b}(h:w.heap[a.block]?=some o)(c:cK p o=true):w.farLoad p a b=.error (.stuck "load: no such cell"):=by cases o<;>simp_all[World.farLoad,World.noCell,cK]
def Om{p}{w:World}{a o v b}(h:w.heap[a.block]?=some o)(c:cK p o=true):w.farStore p a v b=.error (.stuck "store: no such cell"):=by cases o<;>simp_all[World.farStore,World.noCell,cK]
def AO{w:World}{a o}(h:w.heap[a.block]?=some o)(b:∀cs t f,o≠.cells cs t f):w.cell? a=none:=by cases o<;>simp_all[World.cell?]
def WR.cell{p L G m M U w W}(h:WR p L G U w W)(ok:fF G U m M){a c}(e:U a.block=some c){v}(b:w.cell? a=some v):∃j,W.cell? {a with block:=c}=some j/\eZ G U λZ=>j=bB Z v:=by
 have⟨o,o',d,y,z,A⟩:=h.obj _ c e;cases o with
 |cells cs t f=>
   have⟨u,n,k2⟩:=h.cells ok e d;rw[yu d]at b;rw[yu (a:={a with block:=c}) n];split at b;.cases b
   .rename_i l;have⟨Z,r,cp⟩:=ok.one;rw[aS l];refine⟨bB Z v,by rw[k2 Z r cp,kT,b];rfl,λs q k=>?_⟩;have g:=k2 Z r cp;rw[k2 s q k]at g;have i:=congrArg (λx:Array Value=>x[a.off]?) g;simp[b]at i;exact i.symm
 |_=>rw[AO d (by intros;simp)]at b;cases b
def WR.frozen{p L G m M U w W}(h:WR p L G U w W)(ok:fF G U m M){a c}(e:U a.block=some c):W.frozen? {a with block:=c}=w.frozen? a:=by have⟨o,o',b,d,g,f⟩:=h.obj _ c e;have⟨Z,r,cp⟩:=ok.one;have h0:=f Z r cp;subst h0;cases o<;>simp[World.frozen?,b,d,dS]
def WR.shape{p L G m M U w W}(h:WR p L G U w W)(ok:fF G U m M){b c}(e:U b=some c):W.shape? c=w.shape? b:=by have⟨o,o',a,d,g,f⟩:=h.obj _ c e;have⟨Z,r,cp⟩:=ok.one;have h0:=f Z r cp;subst h0;cases o<;>simp[World.shape?,a,d,dS]
def WR.iD{p L G U w W}(h:WR p L G U w W)(ok:fF G U w W){b c}(e:U b=some c)(f m)(A:cK p f=true)(z:eZ G U λZ=>m=dS Z f){w1 W1}(y:w1.heap=w.heap.set b f (ok.lt _ _ e).1)(u:W1.heap=W.heap.set c m (ok.lt _ _ e).2)(a:w1.tape=w.tape/\w1.drawn=w.drawn/\w1.os=w.os)(d:W1.tape=W.tape/\W1.drawn=W.drawn/\W1.os=W.os):WR p L G U w1 W1:=by
 refine⟨λg j k=>?_,λi q hi=>by rw[a.1,a.2.1,d.1,d.2.1];exact h.tape i q (by rw[a.2.1]at hi;exact hi),by rw[a.2.2,d.2.2];exact h.os,by rw[a.2.1,d.2.1];exact h.Ol,by rw[a.1];exact h.tp⟩;rw[y,u];by_cases l:g=b;.simp_all
 .have v:j≠c:=λx=>l (ok.inj _ _ _ k (x▸e));have⟨o,o',n,r,s,t⟩:=h.obj g j k;exact⟨o,o',by rw[J7 _ (gA l)];exact n,by rw[J7 _ (gA v)];exact r,s,t⟩
def Fr.iD{G:Gs}{U:Nat->Option Nat}{m:Nat}{W W1:World}(ok:fF G U m W.heap.size){b c:Nat}(e:U b=some c){o:Obj}(hW:W1.heap=W.heap.set c o (ok.lt _ _ e).2)(t:W1.tape=W.tape)(ou:W1.output=W.output)(dr:W1.drawn=W.drawn)(os:W1.os=W.os):Fr U U W W1 where
 dr:=nO dr.symm;os:=os;size:=by rw[hW];simp
 rest:=λc' _ hn=>by rw[hW,J7 _ (λx=>hn b (by rw[e,x]))]
 new:=λc' h1 h2=>by rw[hW]at h2;simp at h2;omega
 old:=λ_ _ h _=>h;tape:=t;output:=ou
def iW{w:World}{a v cs t f}(h:w.heap[a.block]?=some (.cells cs t f))(b:a.block<↑w)(c:a.spot=none):(w.setCell a v).heap=w.heap.set a.block (.cells (cs.setIfInBounds a.off v) t f) b:=by
 apply y9;intro i;simp[World.setCell,Kc];by_cases hi:a.block=i;.simp_all
 .simp[hi]
def Cr{w:World}{a n cs t lo hi}(h:w.heap[a.block]?=some (.cells cs t (lo,hi)))(b:a.block<↑w)(c:n≠0):(w.freeze a n).heap=w.heap.set a.block (.cells cs t (if lo==hi then(a.off,a.off+n)else(min lo a.off,max hi (a.off+n)))) b:=by
 apply y9;intro i;simp[World.freeze,aS c,Kc];by_cases hi:a.block=i;.simp_all
 .simp[hi]
def Cs{w:World}{a n o}(h:w.heap[a.block]?=some o)(c:∀cs t f,o≠.cells cs t f):(w.freeze a n).heap=w.heap:=by
 by_cases b:n=0;.simp[World.freeze,b]
 .apply y9;intro i;simp[World.freeze,aS b,Kc];by_cases hi:a.block=i;.simp_all
  .simp[hi]
def Er{α p m a v}{k:Sem α}{w es}:(∃h,(Sem.store m a v k).runT p w es=(.halt (.stuck h) w,es))\/(Sem.store m a v k).runT p w es=(match w.cell? a with
     |some _=>if w.frozen? a then(.halt (.unsupported (.unsafePointer "a write to bytes that a string shares")) w,es)else k.runT p (w.setCell a v) (es.push ⟨.cell a,true,m==.atomic⟩)
     |none=>match w.farStore p a v (m==.atomic)with
       |.ok (w,b)=>k.runT p w (es++b.toArray.map (⟨.cell ·,true,m==.atomic⟩))
       |.error h=>(.halt h w,es)):=by
 cases v<;>first|exact .inr rfl|exact .inl ⟨_,rfl⟩
def Ct{α p m a v}{k:Sem α}{w es}(b:∀c,v≠.agg c/\v≠.tuple c):(Sem.store m a v k).runT p w es=(match w.cell? a with
   |some _=>if w.frozen? a then(.halt (.unsupported (.unsafePointer "a write to bytes that a string shares")) w,es)else k.runT p (w.setCell a v) (es.push ⟨.cell a,true,m==.atomic⟩)
   |none=>match w.farStore p a v (m==.atomic)with
     |.ok (w,d)=>k.runT p w (es++d.toArray.map (⟨.cell ·,true,m==.atomic⟩))
     |.error h=>(.halt h w,es)):=by
 cases v<;>first|rfl|exact absurd rfl (b _).1|exact absurd rfl (b _).2
def tq{G m M U}(ok:fF G U m M){a a'}(h:eZ G U λZ=>a'=cC Z a):∃c,U a.block=some c/\a'={a with block:=c}:=by
 have b:eZ G U λZ=>a'.block=Z a.block:=λZ r c=>by rw[h Z r c];rfl
 refine⟨a'.block,ok.dom b,?_⟩;have⟨Z,r,c⟩:=ok.one;rw[h Z r c];rfl
def Te{γ:Type}(A:Ask γ):∀w:World,w.drawn<=(w.ask A).2.drawn:=by induction A with
 |done a=>intro w;exact rD _
 |ask what range k ih=>
   intro w;simp only[World.ask];split;.exact ih 0 w
   .exact bI (xL _) (ih _ {w with drawn:=w.drawn+1})
def Tf(c)(w:World):w.drawn<=(w.sys c).2.drawn:=by have h:=Te (Kernel.perform c w.os) w;unfold World.sys;revert h;generalize w.ask (Kernel.perform c w.os)=x;have⟨⟨r,os⟩,w'⟩:=x;intro h;cases r<;>first|exact L9|exact h
def aa3(w:World):(w.sys .env).2=w:=rfl
def De{p}{w w':World}{at_ k u v b l}(h:w.viewStore p at_ u k v b=.ok (w',l)):w'.drawn=w.drawn:=by
 simp[World.viewStore,bind,Except.bind]at h;repeat' split at h
 all_goals first|(cases h;done)|(cases h;rfl)
def qz{α p}(s:Sem α):∀w es,w.drawn<=(cX (s.runT p w es).1).drawn:=by induction s with
 |pure a=>intro w es;exact L9
 |load m a k b=>
   intro w es;simp only[Sem.runT];split;.simp_all
   .split;.simp_all
    .exact L9
 |store m a v k b=>
   intro w es;rcases Er (p:=p) (m:=m) (a:=a) (v:=v) (k:=k) (w:=w) (es:=es)with⟨h,e⟩|e;.rw[e];exact L9
   .rw[e];split
    .split;.exact L9
     .exact b (w.setCell a v) _
    .split
     .rename_i w' t h;have d:w'.drawn=w.drawn:=by
       unfold World.farStore at h;split at h
       .split at h;.rename_i f;cases h;exact De f
        .cases h
       .cases h
      rw[<-d];exact b w' _
     .exact L9
 |new o k b=>intro w es;exact b _ {w with heap:=w.heap.push o} es
 |shape r k b=>intro w es;exact b _ w es
 |freeze a n k b=>
   intro w es;have:(w.freeze a n).drawn=w.drawn:=by unfold World.freeze;split<;>rfl
   rw[<-this];exact b (w.freeze a n) es
 |frozen a k b=>intro w es;exact b _ w es
 |getObj r k b=>
   intro w es;simp only[Sem.runT];split;.exact L9
   .simp_all
   .exact L9
 |setObj r o k b=>
   intro w es;simp only[Sem.runT];split;.exact L9
   .grind
   .exact L9
 |choose q k b=>
   simp only[Sem.runT];split;.simp_all
   .grind
 |sys c k b=>intro w es;exact bI (Tf c w) (b _ (w.sys c).2 _)
 |program k b=>intro w es;exact b _ w es
 |mark m k b=>intro w es;exact b w _
 |halt h=>intro w es;exact L9
def Out.sM{α β p L G U W Q}{r:Result α×Array Event}{a:Result β×Array Event}(h:vA L (cX r.1) (cX a.1)):Out p L G U W Q r a:=by have⟨r,es⟩:=r;cases r<;>exact .inl h
def Out.qy{α β p L G U w W es Q}{s:Sem α}{b:Result β×Array Event}(h:eF p s):Out p L G U W Q (s.runT p w es) b:=by have⟨x,w',c,e,a⟩:=h w es;rw[e];exact .inr (.inl a)
def rJ:=@Out.qy
def rK{α β p p' L G Q}(s:Sem α):∀(s':Sem β) (U:Nat->Option Nat) (w W:World) (es ES:Array Event),fF G U w W->WR p L G U w W->rW G U es ES->(eZ G U λZ=>SR p p' Z (Q Z) s s')->Out p L G U W Q (s.runT p w es) (s'.runT p' W ES):=by
 induction s with
 |pure a=>intro s' U w W es ES ok wr ev y;refine(rE (eF p _)).elim (λl=>rJ l) (λl=>?_);have⟨Z,r,c⟩:=ok.one;obtain⟨b,rfl,_⟩:=(y Z r c).K5;refine .inr ⟨b,W,ES,U,rfl,oQ _,ok,wr,KZ _ _,ev,λZ r c=>?_⟩;have⟨a9,e,q⟩:=(y Z r c).K5;cases e;exact q
 |load m a k D=>
   intro s' U w W es ES ok wr ev y;refine(rE (eF p _)).elim (λl=>rJ l) (λl=>?_);have⟨Z,r,c⟩:=ok.one;obtain⟨k',rfl,_⟩:=(y Z r c).K6 l;have u:eZ G U λd=>cC Z a=cC d a/\∀v,SR p p' d (Q d) (k v) (k' (bB d v)):=λd j g=>by have⟨N,e,q⟩:=(y d j g).K6 l;simp only[Sem.load.injEq]at e;have⟨_,J,F⟩:=e;exact⟨J,F▸q⟩
   have⟨x,B,R⟩:=tq ok (λd j g=>(u d j g).1);rw[R];simp only[Sem.runT];cases T:w.cell? a with
   |none=>have⟨o,o',A,H,O,M⟩:=wr.obj _ _ B;rw[kO A O];exact .inr (.inl rfl)
   |some v=>have⟨au,ai,ao⟩:=wr.cell ok B T;rw[ai];refine D v (k' au) U w W _ _ ok wr (ev.push (λd j g=>?_) rfl) (λd j g=>by rw[ao d j g];exact(u d j g).2 v);rw[<-R,(u d j g).1];rfl
 |store m a v k D=>
   intro s' U w W es ES ok wr ev y;refine(rE (eF p _)).elim (λl=>rJ l) (λl=>?_);have⟨Z,r,c⟩:=ok.one;obtain⟨k',rfl,_⟩:=(y Z r c).Hf l;have u:eZ G U λd=>cC Z a=cC d a/\bB Z v=bB d v/\SR p p' d (Q d) k k':=λd j g=>by have⟨N,e,q⟩:=(y d j g).Hf l;simp only[Sem.store.injEq]at e;have⟨_,J,F,ay⟩:=e;exact⟨J,F,ay▸q⟩
   have⟨x,B,R⟩:=tq ok (λd j g=>(u d j g).1);by_cases ah:∀c,v≠.agg c/\v≠.tuple c
   .have a4:∀c,bB Z v≠.agg c/\bB Z v≠.tuple c:=λc=>by cases v with
     |chan r=>rw[cL];exact⟨Ek Z r c,Oj Z r c⟩
     |_=>simp_all
    rw[Ct ah,Ct a4,R];cases T:w.cell? a with
    |none=>have⟨o,o',A,H,O,M⟩:=wr.obj _ _ B;simp only[Om A O];exact .inr (.inl rfl)
    |some v0=>
      have⟨au,ai,ao⟩:=wr.cell ok B T;simp only[ai,wr.frozen ok B];split;.exact .inr (.inl rfl)
      .have⟨o,o',A,H,O,M⟩:=wr.obj _ _ B;cases o with
       |cells cs t f=>
         have⟨av,aj,k2⟩:=wr.cells ok B A;have ar:a.spot=none:=by
          rw[yu A]at T;split at T;.cases T
          .simp_all
         have J:=iW (v:=v) A (ok.lt _ _ B).1 ar;have F:=iW (w:=W) (a:={a with block:=x}) (v:=bB Z v) aj (ok.lt _ _ B).2 ar;have X:WR p L G U (w.setCell a v) (W.setCell {a with block:=x} (bB Z v)):=wr.iD ok B _ _ rfl (λd j g=>by simp only[dS];rw[k2 d j g,(u d j g).2.1,Kb]) J F ⟨rfl,rfl,rfl⟩ ⟨rfl,rfl,rfl⟩
         have V:fF G U ↑(w.setCell a v) ↑(W.setCell {a with block:=x} (bB Z v)):=by rw[J,F];simpa using ok
         exact(D k' U _ _ _ _ V X (ev.push (λd j g=>by rw[<-R,(u d j g).1];rfl) rfl) (λd j g=>(u d j g).2.2)).weaken (oQ _) (Fr.iD ok B F rfl rfl rfl rfl)
       |_=>rw[AO A (by intros;simp)]at T;cases T
   .cases v<;>first|exact .inr (.inl rfl)|exact absurd (λc=>⟨S8,S8⟩) ah
 |new o k D=>
   intro s' U w W es ES ok wr ev y;refine(rE (eF p _)).elim (λl=>rJ l) (λl=>?_);have⟨Z,r,c⟩:=ok.one;obtain⟨k',rfl,aa,_⟩:=(y Z r c).Q7 l;have u:eZ G U λd=>dS Z o=dS d o/\∀v,d.gh v=none->SR p p' d (Q d) (k v) (k' (d v)):=λd j g=>by have⟨N,e,_,q⟩:=(y d j g).Q7 l;simp only[Sem.new.injEq]at e;exact⟨e.1,e.2▸q⟩
   simp only[Sem.runT];let μ:Nat->Option Nat:=λb=>if b=(w:Nat)then some ↑W else U b;have P:μ (w:Nat)=some ↑W:=by simp[μ]
   have K:∀b,b≠(w:Nat)->μ b=U b:=λb h=>by simp[μ,h]
   have ex:Ext U μ:=λb c h=>by rw[K b (λe=>by have:=(ok.lt _ _ h).1;omega)];exact h
   have a7:fF G μ (w.heap.push o).size (W.heap.push (dS Z o)).size:=by
    refine⟨λa b c Y C=>?_,λb c C=>?_,λb c C=>?_,λb C=>ok.low b (by simp at C;omega)⟩
    .by_cases A:a=(w:Nat)<;>by_cases H:b=(w:Nat);.rw[A,H]
     .rw[A,P]at Y;rw[K b H]at C;cases Y;have:=(ok.lt _ _ C).2;omega
     .rw[H,P]at C;rw[K a A]at Y;cases C;have:=(ok.lt _ _ Y).2;omega
     .rw[K a A]at Y;rw[K b H]at C;exact ok.inj _ _ _ Y C
    .by_cases A:b=(w:Nat);.rw[A,P]at C;cases C;simp[A]
     .rw[K b A]at C;have:=ok.lt _ _ C;simp;omega
    .by_cases A:b=(w:Nat);.exact ok.low b (nO A.symm)
     .rw[K b A]at C;exact ok.real _ _ C
   have a8:WR p L G μ {w with heap:=w.heap.push o} {W with heap:=W.heap.push (dS Z o)}:=by
    refine⟨λb c C=>?_,wr.tape,wr.os,wr.Ol,wr.tp⟩;by_cases A:b=(w:Nat);.rw[A,P]at C;cases C;exact⟨o,dS Z o,by simp[A],S8,aa,λd j g=>(u d j (g.I6 ex)).1⟩
    .rw[K b A]at C;have⟨a5,a6,H,O,M,az⟩:=wr.obj b c C;have:=ok.lt _ _ C;exact⟨a5,a6,by rw[zb this.1,<-nQ this.1];exact H,by rw[zb this.2,<-nQ this.2];exact O,M,az.ext ex⟩
   refine(D ↑w (k' ↑W) μ _ _ _ _ a7 a8 ⟨ev.all.ext ex,ev.quiet⟩ (λd j g=>?_)).weaken ex ?_;.have:=(u d j (g.I6 ex)).2 ↑w (by rw[j.gh];exact ok.low _ L9);rwa [g _ _ P]at this
   .refine⟨S8,λc ag ah=>by show(W.heap.push _)[c]?=_;rw[zb ag,<-nQ ag],λc A H=>⟨(w:Nat),?_⟩,λb c C ag=>?_,rfl,rfl,L9,rfl⟩
    .have ba:c<(W:Nat)+1:=by simpa using H
     rw[P];congr 1;omega
    .by_cases A:b=(w:Nat);.rw[A,P]at C;cases C;omega
     .rw[K b A]at C;exact C
 |shape E k D=>
   intro s' U w W es ES ok wr ev y;refine(rE (eF p _)).elim (λl=>rJ l) (λl=>?_);have⟨Z,r,c⟩:=ok.one;obtain⟨k',rfl,_⟩:=(y Z r c).Hg l;have u:eZ G U λd=>Z E=d E/\∀v,SR p p' d (Q d) (k v) (k' v):=λd j g=>by have⟨N,e,q⟩:=(y d j g).Hg l;simp only[Sem.shape.injEq]at e;exact⟨e.1,e.2▸q⟩
   have B:=ok.dom (λd j g=>(u d j g).1);simp only[Sem.runT,wr.shape ok B];exact D _ _ U w W _ _ ok wr ev (λd j g=>(u d j g).2 _)
 |freeze a n k D=>
   intro s' U w W es ES ok wr ev y;refine(rE (eF p _)).elim (λl=>rJ l) (λl=>?_);have⟨Z,r,c⟩:=ok.one;obtain⟨k',rfl,_⟩:=(y Z r c).El l;have u:eZ G U λd=>cC Z a=cC d a/\SR p p' d (Q d) k k':=λd j g=>by have⟨N,e,q⟩:=(y d j g).El l;simp only[Sem.freeze.injEq]at e;exact⟨e.1,e.2.2▸q⟩
   have⟨x,B,R⟩:=tq ok (λd j g=>(u d j g).1);rw[R];simp only[Sem.runT];by_cases ab:n=0
   .subst ab;have z:∀(w:World) (a:Addr),w.freeze a 0=w:=λw a=>by simp[World.freeze]
    rw[z,z];exact D _ U w W _ _ ok wr ev (λd j g=>(u d j g).2)
   .have⟨o,o',A,H,O,M⟩:=wr.obj _ _ B;have tp:∀(w:World) (a:Addr),(w.freeze a n).tape=w.tape/\(w.freeze a n).drawn=w.drawn/\(w.freeze a n).os=w.os/\(w.freeze a n).output=w.output:=λw a=>by simp[World.freeze,ab]
    by_cases ak:∃cs t f,o=.cells cs t f
    .obtain⟨cs,t,⟨lo,hi⟩,rfl⟩:=ak;have⟨av,aj,k2⟩:=wr.cells ok B A;have J:=Cr (n:=n) A (ok.lt _ _ B).1 ab;have F:=Cr (w:=W) (a:={a with block:=x}) (n:=n) aj (ok.lt _ _ B).2 ab;have X:WR p L G U (w.freeze a n) (W.freeze {a with block:=x} n):=wr.iD ok B _ _ rfl (λd j g=>by simp only[dS];rw[k2 d j g]) J F ⟨(tp _ _).1,(tp _ _).2.1,(tp _ _).2.2.1⟩ ⟨(tp _ _).1,(tp _ _).2.1,(tp _ _).2.2.1⟩
     have V:fF G U ↑(w.freeze a n) ↑(W.freeze {a with block:=x} n):=by rw[J,F];simpa using ok
     exact(D k' U _ _ _ _ V X ev (λd j g=>(u d j g).2)).weaken (oQ _) (Fr.iD ok B F (tp _ _).1 (tp _ _).2.2.2 (tp _ _).2.1 (tp _ _).2.2.1)
    .have a2:∀cs t f,o≠.cells cs t f:=λcs t f e=>ak ⟨cs,t,f,e⟩;have a3:∀cs t f,o'≠.cells cs t f:=λcs t f e=>by have:=M Z r c;rw[e]at this;cases o<;>simp_all[dS]
     have J:=Cs (n:=n) A a2;have F:=Cs (w:=W) (a:={a with block:=x}) (n:=n) H a3;have V:fF G U ↑(w.freeze a n) ↑(W.freeze {a with block:=x} n):=by rw[J,F];exact ok
     have X:WR p L G U (w.freeze a n) (W.freeze {a with block:=x} n):=⟨λb c C=>by rw[J,F];exact wr.obj b c C,λi q hi=>by rw[(tp w a).1,(tp w a).2.1,(tp W _).1,(tp W _).2.1];exact wr.tape i q (by rw[(tp w a).2.1]at hi;exact hi),by rw[(tp w a).2.2.1,(tp W _).2.2.1];exact wr.os,by rw[(tp w a).2.1,(tp W _).2.1];exact wr.Ol,by rw[(tp w a).1];exact wr.tp⟩;refine(D k' U _ _ _ _ V X ev (λd j g=>(u d j g).2)).weaken (oQ _) ⟨by rw[F];exact L9,λc _ _=>by rw[F],λc A H=>by rw[F]at H;omega,λ_ _ h _=>h,(tp _ _).1,(tp _ _).2.2.2,nO (tp _ _).2.1.symm,(tp _ _).2.2.1⟩
 |frozen a k D=>
   intro s' U w W es ES ok wr ev y;refine(rE (eF p _)).elim (λl=>rJ l) (λl=>?_);have⟨Z,r,c⟩:=ok.one;obtain⟨k',rfl,_⟩:=(y Z r c).Em l;have u:eZ G U λd=>cC Z a=cC d a/\∀v,SR p p' d (Q d) (k v) (k' v):=λd j g=>by have⟨N,e,q⟩:=(y d j g).Em l;simp only[Sem.frozen.injEq]at e;exact⟨e.1,e.2▸q⟩
   have⟨x,B,R⟩:=tq ok (λd j g=>(u d j g).1);rw[R];simp only[Sem.runT,wr.frozen ok B];exact D _ _ U w W _ _ ok wr ev (λd j g=>(u d j g).2 _)
 |getObj E k D=>
   intro s' U w W es ES ok wr ev y;refine(rE (eF p _)).elim (λl=>rJ l) (λl=>?_);have⟨Z,r,c⟩:=ok.one;obtain⟨k',rfl,_⟩:=(y Z r c).En l;have u:eZ G U λd=>Z E=d E/\∀v,cK p v=true->SR p p' d (Q d) (k v) (k' (dS d v)):=λd j g=>by have⟨N,e,q⟩:=(y d j g).En l;simp only[Sem.getObj.injEq]at e;exact⟨e.1,e.2▸q⟩
   have B:=ok.dom (λd j g=>(u d j g).1);have⟨o,o',A,H,O,M⟩:=wr.obj _ _ B;have K:=M Z r c;subst K;have hi:(dS Z o).isChan=o.isChan:=by cases o<;>rfl
   have goal:∀(af ae:Array Event),rW G U af ae->Out p L G U W Q ((k o).runT p w af) ((k' (dS Z o)).runT p' W ae):=λaf ae π=>D _ _ U w W _ _ ok wr π (λd j g=>by have h:=(u d j g).2 o O;rwa [<-M d j g]at h)
   have π:rW G U (es.push ⟨.obj E,false,o.isChan⟩) (ES.push ⟨.obj (Z E),false,o.isChan⟩):=ev.push (λd j g=>by rw[(u d j g).1];rfl) rfl;have:=goal _ _ π;cases o<;>simp only[Sem.runT,A,H,dS]<;>first|exact .inr (.inl rfl)|simpa only[dS,Obj.isChan]using this
 |setObj E I k D=>
   intro s' U w W es ES ok wr ev y;refine(rE (eF p _)).elim (λl=>rJ l) (λl=>?_);have⟨Z,r,c⟩:=ok.one;obtain⟨k',rfl,aa,_⟩:=(y Z r c).Eo l;have u:eZ G U λd=>Z E=d E/\dS Z I=dS d I/\SR p p' d (Q d) k k':=λd j g=>by have⟨N,e,_,q⟩:=(y d j g).Eo l;simp only[Sem.setObj.injEq]at e;exact⟨e.1,e.2.1,e.2.2▸q⟩
   have B:=ok.dom (λd j g=>(u d j g).1);have⟨o,o',A,H,O,M⟩:=wr.obj _ _ B;have K:=M Z r c;subst K;have hi:(dS Z I).isChan=I.isChan:=by cases I<;>rfl
   have S:=ok.lt _ _ B;have J:w.heap.setIfInBounds E I=w.heap.set E I S.1:=by simp[Array.setIfInBounds,S.1]
   have F:W.heap.setIfInBounds (Z E) (dS Z I)=W.heap.set (Z E) (dS Z I) S.2:=by simp[Array.setIfInBounds,S.2]
   have X:WR p L G U {w with heap:=w.heap.setIfInBounds E I} {W with heap:=W.heap.setIfInBounds (Z E) (dS Z I)}:=wr.iD ok B _ _ aa (λd j g=>(u d j g).2.1) J F ⟨rfl,rfl,rfl⟩ ⟨rfl,rfl,rfl⟩;have V:fF G U (w.heap.setIfInBounds E I).size (W.heap.setIfInBounds (Z E) (dS Z I)).size:=by simpa using ok
   have π:rW G U (es.push ⟨.obj E,true,I.isChan⟩) (ES.push ⟨.obj (Z E),true,(dS Z I).isChan⟩):=ev.push (λd j g=>by rw[hi,(u d j g).1];rfl) rfl;have goal:=(D k' U _ _ _ _ V X π (λd j g=>(u d j g).2.2)).weaken (oQ _) (Fr.iD (W1:={W with heap:=W.heap.setIfInBounds (Z E) (dS Z I)}) ok B F rfl rfl rfl rfl);cases o<;>simp only[Sem.runT,A,H,dS]<;>first|exact .inr (.inl rfl)|exact goal
 |choose q k D=>
   intro s' U w W es ES ok wr ev y;refine(rE (eF p _)).elim (λl=>rJ l) (λl=>?_);have⟨Z,r,c⟩:=ok.one;obtain⟨k',rfl,_⟩:=(y Z r c).Ep l;have u:eZ G U λd=>∀v,SR p p' d (Q d) (k v) (k' v):=λd j g=>by have⟨N,e,q⟩:=(y d j g).Ep l;simp only[Sem.choose.injEq]at e;exact e.2▸q
   simp only[Sem.runT];split;.exact D _ _ U w W _ _ ok wr ev (λd j g=>u d j g _)
   .by_cases a0:w.drawn<L.lim;.have h0:=wr.tape 0 q a0;simp only[DT]at h0;rw[h0];have f:Fr U U W {W with drawn:=W.drawn+1}:=⟨L9,λ_ _ _=>rfl,λc (A:(W:Nat)<=c) (H:c<(W:Nat))=>by omega,λ_ _ h _=>h,rfl,rfl,xL _,rfl⟩;refine Out.weaken (oQ _) f (D _ _ U {w with drawn:=w.drawn+1} {W with drawn:=W.drawn+1} _ _ ok ⟨wr.obj,λi q hi=>?_,wr.os,by have:=wr.Ol;simp only[Int.natCast_add];omega,wr.tp⟩ ev (λd j g=>u d j g _));have:=wr.tape (1+i) q (by simp only at hi;omega);simpa[Vz]using this
    .refine Out.sM ⟨?_,?_⟩;.have:=qz (p:=p) (k (q.cut (w.tape w.drawn q))) {w with drawn:=w.drawn+1} es;simp only at this;omega
     .have:=qz (p:=p') (k' (q.cut (W.tape W.drawn q))) {W with drawn:=W.drawn+1} ES;have bb:=wr.Ol;simp only at this;omega
 |sys cl k D=>
   intro s' U w W es ES ok wr ev y;refine(rE (eF p _)).elim (λl=>rJ l) (λl=>?_);have⟨Z,r,c⟩:=ok.one;obtain⟨rfl,k',rfl,_⟩:=(y Z r c).Q8 l;have u:eZ G U λd=>∀v,SR p p' d (Q d) (k v) (k' v):=λd j g=>by have⟨_,N,e,q⟩:=(y d j g).Q8 l;simp only[Sem.sys.injEq]at e;exact e.2▸q
   have A:(W.sys .env).1=(w.sys .env).1:=by have:=wr.os;have⟨aa,tp,dr,os,bc⟩:=W;simp only at this;subst this;rfl
   simp only[Sem.runT,aa3,A];exact D _ _ U w W _ _ ok wr (ev.push (λd j g=>rfl) rfl) (λd j g=>u d j g _)
 |program k D=>
   intro s' U w W es ES ok wr ev y;refine(rE (eF p _)).elim (λl=>rJ l) (λl=>?_);have⟨Z,r,c⟩:=ok.one;obtain⟨k',rfl,_⟩:=(y Z r c).Cq l;have u:eZ G U λd=>SR p p' d (Q d) (k p) (k' p'):=λd j g=>by have⟨N,e,q⟩:=(y d j g).Cq l;simp only[Sem.program.injEq]at e;exact e▸q
   simp only[Sem.runT];exact D _ _ U w W _ _ ok wr ev u
 |mark m k D=>
   intro s' U w W es ES ok wr ev y;refine(rE (eF p _)).elim (λl=>rJ l) (λl=>?_);have⟨Z,r,c⟩:=ok.one;obtain⟨k',rfl,P,_⟩:=(y Z r c).K7 l;have u:eZ G U λd=>KX Z m=KX d m/\SR p p' d (Q d) k k':=λd j g=>by have⟨N,e,_,q⟩:=(y d j g).K7 l;simp only[Sem.mark.injEq]at e;exact⟨e.1,e.2▸q⟩
   simp only[Sem.runT];exact D _ U w W _ _ ok wr (ev.push (λd j g=>by rw[(u d j g).1];rfl) P) (λd j g=>(u d j g).2)
 |halt h=>
   intro s' U w W es ES ok wr ev y;refine(rE (eF p _)).elim (λl=>rJ l) (λl=>?_);by_cases S:xW h=true;.exact .inr (.inl S)
   .have⟨Z,r,c⟩:=ok.one;rcases(y Z r c).K9 with x|⟨rfl,u⟩;.exact absurd x S
    .refine .inr<|.inr ⟨u,I4 Z h,W,ES,U,rfl,oQ _,ok,wr,KZ _ _,ev,λd j g=>?_⟩;rcases(y d j g).K9 with x|⟨e,-⟩;.exact absurd x S
     .simpa using e
def iT(L:List Value):Prop:=∀v∈L,JV v
def iT.push{L}(h:iT L){v}(c:JV v):iT (L++[v]):=λx b=>by
 obtain a|a:=nC.1 b;.exact h x a
 .simp_all
def Sy1(L:List Value)(Z:Pi):Prop:=∀k x,L[k]?=some x->Z.s k=x
def Qi{α:Type}{L a}(h:L<+:a){k:Nat}{x:α}(e:L[k]?=some x):a[k]?=some x:=by obtain⟨t,rfl⟩:=h;rw[mG (cB.1 e).1];exact e
def Sy1.mono{L a Z}(h:Sy1 a Z)(e:L<+:a):Sy1 L Z:=λk x b=>h k x (Qi e b)
structure Ab (L : List Value) (v v' : Value) : Prop where
 to : ∀ Z, Sy1 L Z -> bB Z v' = v
 fix : ∀ Z : Pi, Z.s = Gs.self.s -> bB Z v' = v'
def Ab.mono{L a v b}(h:Ab L v b)(e:L<+:a):Ab a v b:=⟨λZ c=>h.to Z (c.mono e),h.fix⟩
def Ab.leaf{L v}:Ab (L++[v]) v (.chan (some L.length)):=by
 refine⟨λZ h=>?_,λZ h=>?_⟩;.rw[cL];exact h L.length v S8
 .rw[cL];show Z.s L.length=_;rw[h];rfl
def Vs(v:Value):Prop:=∀L,iT L->∃L' v',L<+:L'/\iT L'/\Ab L' v v'
def JW:∀c,(∀v∈c,Vs v)->∀L,iT L->∃(d b:List Value),L<+:d/\iT d/\(∀Z,Sy1 d Z->b.map (bB Z)=c)/\∀Z,Z.s=Gs.self.s->b.map (bB Z)=b
 |[],_,L,e=>⟨L,[],sN _,e,λ_ _=>rfl,λ_ _=>rfl⟩
 |v::c,h,L,e=>by have⟨L1,l,k,l1,f⟩:=h v S8 L e;have⟨i,b,g,l2,t2,f2⟩:=JW c (λx j=>h x (by simp[j])) L1 l1;exact⟨i,l::b,k.trans g,l2,λZ a=>by rw[lC,t2 Z a,(f.mono g).to Z a],λZ a=>by rw[lC,f2 Z a,f.fix Z a]⟩
def wW(b)(h:∀v∈b,Vs v)(L)(d:iT L):∃(a:List Value) (c:Array Value),L<+:a/\iT a/\(∀Z,Sy1 a Z->c.map (bB Z)=b)/\∀Z,Z.s=Gs.self.s->c.map (bB Z)=c:=by
 have⟨a,l,p,e,t,f⟩:=JW b.toList (λv i=>h v (by simpa using i)) L d;refine⟨a,l.toArray,p,e,λZ g=>?_,λZ g=>?_⟩;.simp_all
 .simp_all
def lD{v}(h:∀Z,bB Z v=v):Vs v:=λL a=>⟨L,v,sN _,a,⟨λZ _=>h Z,λZ _=>h Z⟩⟩
def vG{v}(h:JV v):Vs v:=λL a=>⟨L++[v],_,List.prefix_append _ _,a.push h,Ab.leaf⟩
def Qj:∀n v,SizeOf.sizeOf v<n->Vs v
 |0,_,h=>by omega
 |n+1,v,h=>by have o:=Qj n;cases v with
   |bool b=>exact lD λZ=>by simp
   |int k i=>exact lD λZ=>by simp
   |float k i=>exact lD λZ=>by simp
   |complex k a b=>exact lD λZ=>by simp
   |string s=>exact lD λZ=>by simp
   |nilFunc=>exact lD λZ=>by simp
   |nilIface=>exact lD λZ=>by simp
   |pointer a=>cases a with
     |none=>exact lD λZ=>by simp
     |some a=>exact vG trivial
   |slice a l c=>cases a with
     |none=>exact lD λZ=>by simp
     |some a=>exact vG trivial
   |map r=>cases r with
     |none=>exact lD λZ=>by simp
     |some a=>exact vG trivial
   |chan r=>cases r with
     |none=>exact lD λZ=>by simp
     |some a=>exact vG trivial
   |iface t x=>intro L e;have⟨m,j,p,l,a⟩:=o x (by simp at h;omega) L e;exact⟨m,.iface t j,p,l,⟨λZ d=>by rw[cT,a.to Z d],λZ d=>by rw[cT,a.fix Z d]⟩⟩
   |agg cs=>intro L e;have⟨m,j,p,l,t,f⟩:=wW cs (λv g=>o v (by have:=Qk g;simp at h;omega)) L e;exact⟨m,.agg j,p,l,⟨λZ d=>by rw[dD,t Z d],λZ d=>by rw[dD,f Z d]⟩⟩
   |tuple cs=>intro L e;have⟨m,j,p,l,t,f⟩:=wW cs (λv g=>o v (by have:=Qk g;simp at h;omega)) L e;exact⟨m,.tuple j,p,l,⟨λZ d=>by rw[dL,t Z d],λZ d=>by rw[dL,f Z d]⟩⟩
   |func fn a b=>
     by_cases u:∃k,fn=.yield k;.obtain⟨k,rfl⟩:=u;exact vG trivial
     have q:∀Z,qs Z fn=fn:=λZ=>by cases fn<;>first|rfl|exact absurd ⟨_,rfl⟩ u
     intro L e;have⟨L1,j,p,l,t,f⟩:=wW a (λv g=>o v (by have:=Qk g;simp at h;omega)) L e;have⟨y,z,w,l2,t2,f2⟩:=wW b (λv g=>o v (by have:=Qk g;simp at h;omega)) L1 l;exact⟨y,.func fn j z,p.trans w,l2,⟨λZ d=>by rw[dM,q,t Z (d.mono w),t2 Z d],λZ d=>by rw[dM,q,f Z d,f2 Z d]⟩⟩
structure Sy(n:Nat)(L:List Value)(H:List Addr)(Z:Pi):Prop where
 s:Sy1 L Z
 gh:∀j x,H[j]?=some x->Z.gh (n+j)=some x
 real:∀b,b<n->Z.gh b=none
def Sy.mono{n L b H a Z}(h:Sy n b a Z)(e:L<+:b)(c:H<+:a):Sy n L H Z:=⟨h.s.mono e,λj x d=>h.gh j x (Qi c d),h.real⟩
def kp(N:Nat->Prop):Value->Prop
 |.int ..|.string _|.slice none _ _=>True
 |.slice (some a) _ _=>N a.block
 |.agg cs=>∀v∈cs,∃k n,v=.int k n
 |_=>False
def JX(Z){cs:Array Value}(h:∀v∈cs,∃k n,v=.int k n):cs.map (bB Z)=cs:=by apply y9;intro i;rw[kT];cases a:cs[i]? with
 |none=>rfl
 |some v=>obtain⟨k,n,rfl⟩:=h v (DR a);simp
structure Rl (n : Nat) (N : Nat -> Prop) (L : List Value) (H : List Addr) (v v' : Value) : Prop where
 to : ∀ Z, Sy n L H Z -> (∀ b, N b -> Z b = b) -> bB Z v' = v
 fix : ∀ Z : Pi, Z.s = Gs.self.s -> (∀ b, Z.gh b = none) -> (∀ b, N b -> Z b = b) -> (∀ j, j < H.length -> Z (n + j) = n + j) -> bB Z v' = v'
 keep : kp N v -> v' = v
 bare : ∀ a, v = .slice (some a) 0 0 -> ∃ a', v' = .slice (some a') 0 0
def Rl.mono{n N L b H a v d}(h:Rl n N L H v d)(e:L<+:b)(c:H<+:a):Rl n N b a v d:=⟨λZ o m=>h.to Z (o.mono e c) m,λZ f g i k=>h.fix Z f g i λj l=>k j (eO l c.length_le),h.keep,h.bare⟩
def adF{n N}(hN:∀b,N b->b<n)(v L H)(m:iT L):∃f q o,L<+:f/\H<+:q/\iT f/\Rl n N f q v o:=by
 by_cases d:kp N v
 .refine⟨L,H,v,sN _,sN _,m,⟨λZ g w=>?_,λZ j k r t=>?_,λ_=>rfl,λa e=>⟨a,e⟩⟩⟩
  .cases v<;>first|(cases d;done)|(simp;done)|exact(by rw[dD,JX Z d])|skip
   rename_i a l c;cases a with
   |none=>simp
   |some a=>have i:=d;rw[bQ,qg,fT (g.real _ (hN _ i))];simp[cC,w _ i]
  .cases v<;>first|(cases d;done)|(simp;done)|exact(by rw[dD,JX Z d])|skip
   rename_i a l c;cases a with
   |none=>simp
   |some a=>have i:=d;rw[bQ,qg,fT (k _)];simp[cC,r _ i]
 by_cases u:∃a,v=.slice (some a) 0 0
 .obtain⟨a,rfl⟩:=u;refine⟨L,H++[a],.slice (n+H.length,0) 0 0,sN _,List.prefix_append _ _,m,⟨λZ g w=>?_,λZ j k r t=>?_,λh=>absurd h d,λ_ _=>⟨_,rfl⟩⟩⟩;.have:=g.gh H.length a S8;simp[za,this]
  .rw[bQ,qg,fT (k _)];simp[t H.length S8]
 .have⟨f,o,p,l,a⟩:=Qj (SizeOf.sizeOf v+1) v (nN _) L m;exact⟨f,H,o,p,sN _,l,⟨λZ g _=>a.to Z g.s,λZ j _ _ _=>a.fix Z j,λh=>absurd h d,λx e=>absurd ⟨x,e⟩ u⟩⟩
def IJ{n N}(hN:∀b,N b->b<n):∀(c:List Value) (L:List Value) (H:List Addr),iT L->∃(e:List Value) (j:List Addr) (d:List Value),L<+:e/\H<+:j/\iT e/\d.length=c.length/\∀(i:Nat) (v:Value),c[i]?=some v->∃a,d[i]?=some a/\Rl n N e j v a
 |[],L,H,f=>⟨L,H,[],sN _,sN _,f,rfl,λi v h=>by simp at h⟩
 |v::c,L,H,f=>by have⟨L1,m,a,r,s,l1,r1⟩:=adF hN v L H f;have⟨p,o,d,k,l,l2,q,r2⟩:=IJ hN c L1 m l1;refine⟨p,o,a::d,r.trans k,s.trans l,l2,by simp[q],λi x g=>?_⟩;cases i with
   |zero=>simp at g;subst g;exact⟨a,rfl,r1.mono k l⟩
   |succ i=>exact r2 i x (by simpa using g)
def RlO(n:Nat)(N:Nat->Prop)(L:List Value)(H:List Addr)(o o':Obj):Prop:=(∀cs' t f,o'=.cells cs' t f->∃cs,o=.cells cs t f)/\∀(cs:Array Value) (t:TypeId) (f:Nat×Nat),o=.cells cs t f->∃cs',o'=.cells cs' t f/\cs'.size=cs.size/\∀(i:Nat) (v:Value),cs[i]?=some v->∃v',cs'[i]?=some v'/\Rl n N L H v v'
def RlO.mono{n N L b H a o o'}(h:RlO n N L H o o')(e:L<+:b)(d:H<+:a):RlO n N b a o o':=⟨h.1,λcs t f l=>by have⟨c,g,j,k⟩:=h.2 cs t f l;exact⟨c,g,j,λi v m=>let⟨q,p,k2⟩:=k i v m;⟨q,p,k2.mono e d⟩⟩⟩
def aaE{n N}(hN:∀b,N b->b<n)(o L H)(g:iT L):∃c d o',L<+:c/\H<+:d/\iT c/\RlO n N c d o o':=by
 by_cases h:∃cs t f,o=.cells cs t f
 .obtain⟨cs,t,f,rfl⟩:=h;have⟨c,d,j,p,q,l,e,r⟩:=IJ hN cs.toList L H g;refine⟨c,d,.cells j.toArray t f,p,q,l,λk s f' a=>?_,λk s f' a=>?_⟩;.simp_all
  cases a;exact⟨j.toArray,rfl,by simpa using e,λi v m=>by simpa using r i v (by simpa using m)⟩
 .exact⟨L,H,o,sN _,sN _,g,λcs t f a=>⟨cs,a⟩,λcs t f a=>absurd ⟨cs,t,f,a⟩ h⟩
def JY{n N}(hN:∀b,N b->b<n):∀(os:List Obj) (L:List Value) (H:List Addr),iT L->∃(a:List Value) (e:List Addr) (f:List Obj),L<+:a/\H<+:e/\iT a/\f.length=os.length/\∀(i:Nat) (o:Obj),os[i]?=some o->∃o',f[i]?=some o'/\RlO n N a e o o'
 |[],L,H,c=>⟨L,H,[],sN _,sN _,c,rfl,λi v h=>by simp at h⟩
 |v::t,L,H,c=>by have⟨L1,l,k,r,s,l1,r1⟩:=aaE hN v L H c;have⟨p,m,u,g,j,l2,q,r2⟩:=JY hN t L1 l l1;refine⟨p,m,k::u,r.trans g,s.trans j,l2,by simp[q],λi x d=>?_⟩;cases i with
   |zero=>simp at d;subst d;exact⟨k,rfl,r1.mono g j⟩
   |succ i=>exact r2 i x (by simpa using d)
theorem xa{Z n}(a:∀v,oW n v=true->bB Z v=v){cs:Array Value}(h:cs.all (oW n)=true):cs.map (bB Z)=cs:=by grind
theorem Es(Z):∀n v,oW n v=true->bB Z v=v
 |0,_,h=>by cases h
 |n+1,v,h=>by have c:=Es Z n;cases v with
   |pointer a=>cases a<;>simp_all[oW]
   |slice a=>cases a<;>simp_all[oW]
   |map a=>cases a<;>simp_all[oW]
   |chan a=>cases a<;>simp_all[oW]
   |iface t v=>rw[cT,c v h]
   |agg cs=>rw[dD,xa c h]
   |tuple cs=>rw[dL,xa c h]
   |func f a b=>simp only[oW,dK]at h;rw[dM,xa c h.1.2,xa c h.2];cases f<;>first|rfl|(exact absurd h.1.1 S8)
   |_=>simp
theorem Et(Z v)(h:I5 v=true):bB Z v=v:=Es Z 5 v h
def AV(n:Nat):TypeDesc->Bool
 |.pointer e|.slice e|.array _ e|.chan _ e=>decide (e<n)
 |.map k e=>decide (k<n)&&decide (e<n)
 |.struct fs=>fs.all λf=>decide (f.type<n)
 |.func a b _=>a.all (decide<|·<n)&&b.all (decide<|·<n)
 |.tuple ts=>ts.all (decide<|·<n)
 |.named _ u=>decide (u<n)
 |_=>true
structure Fit(G:Gs)(p p':Program):Prop where
 tab:p'.toTables={p.toTables with globals:=p'.globals,rt:=p'.rt}
 rts:{p'.rt with typeAssertionError:=p.rt.typeAssertionError}=p.rt
 ta:∀e,p.underlying p.rt.typeAssertionError≠some (.pointer e)
 zero:∀i∈p.types,∀v,i.zero=some v->I5 v=true
 desc:∀i∈p.types,AV p.types.size i.desc=true
 none:p.globals.size=0
 fol:p.follows .rangeFuncRecover=true
 afq:p'.globals.size<=1
section
variable{G:Gs}{p p':Program}(F:Fit G p p')
include F
theorem Fit.ex:∃a r,p'.toTables={p.toTables with globals:=a,rt:=r}:=⟨_,_,F.tab⟩
theorem Fit.types:p'.types=p.types:=by obtain⟨a,r,h⟩:=F.ex;rw[h]
theorem Fit.cut:p'.cutTypes=p.cutTypes:=by obtain⟨a,r,h⟩:=F.ex;rw[h]
theorem Fit.inits:p'.inits=p.inits:=by obtain⟨a,r,h⟩:=F.ex;rw[h]
theorem Fit.follow:p'.follow=p.follow:=by obtain⟨a,r,h⟩:=F.ex;rw[h]
theorem Fit.infoAt:∀n t,Made.infoAt p'.toTables n t=Made.infoAt p.toTables n t
 |0,_=>rfl
 |n+1,t=>by have a:=funext (Fit.infoAt n);simp[Made.infoAt,F.types,a]
theorem Fit.info(t):p'.info? t=p.info? t:=by simp[Tables.info?,F.types,F.infoAt]
theorem Fit.under(t):p'.underlying t=p.underlying t:=by simp[Program.underlying,F.info]
theorem Fit.cellsOf(t):p'.cellsOf t=p.cellsOf t:=by simp[Program.cellsOf,F.info]
theorem Fit.bytesOf(t):p'.bytesOf t=p.bytesOf t:=by simp[Program.bytesOf,F.info]
theorem Fit.depth:p'.depth=p.depth:=by simp[Program.depth,F.types]
end
theorem Eu{p:Program}{t:TypeId}{i}(a:t<p.types.size)(h:p.info? t=some i):i∈p.types:=by simp only[Tables.info?,a]at h;exact DR h
theorem Ev{G p p'}(F:Fit G p p'){t:TypeId}{d}(c:t<p.types.size)(h:p.underlying t=some d):AV p.types.size d=true:=by simp[Program.underlying]at h;cases hi:p.info? t with
 |none=>rw[hi]at h;cases h
 |some i=>have a:=F.desc i (Eu c hi);rw[hi]at h;have⟨desc,_,_,_,_,_,_,_,_,_⟩:=i;cases desc with
   |named n u=>simp[AV]at a;simp only at h;cases b:p.info? u with
     |none=>rw[b]at h;cases h
     |some j=>rw[b]at h;cases h;exact F.desc j (Eu a b)
   |_=>cases h;exact a
section
variable{G:Gs}{p p':Program}{Z:Pi}(F:Fit G p p')(R:Rn G Z)
variable{α β:Type}{Q:α→β→Prop}
theorem iK{f f'}(h:SR p p' Z Q (f p) (f' p')):SR p p' Z Q (program>>=f) (program>>=f'):=SR.program h
theorem Du{s s'}:SR p p' Z Q (stuck s) s':=aM rfl
theorem Xh{u s'}(h:xW (.unsupported u)=true):SR p p' Z Q (unsupported u) s':=aM h
theorem Dv{a m}:SR p p' Z (λv b=>b=bB Z v) (load a m) (load (cC Z a) m):=SR.load λ_=>SR.pure rfl
theorem Xi{a v m}:SR p p' Z (λ_ _=>True) (store a v m) (store (cC Z a) (bB Z v) m):=SR.store (SR.pure trivial)
theorem qi{o}(a:cK p o=true):SR p p' Z (λr b=>b=Z r) (newObj o) (newObj (dS Z o)):=SR.new a λ_ _=>SR.pure rfl
theorem Oo{o}(a:cK p o=true):SR p p' Z (λr b=>b=Z r/\Z.gh r=none) (newObj o) (newObj (dS Z o)):=SR.new a λ_ h=>SR.pure ⟨rfl,h⟩
theorem nZ{r}:SR p p' Z (λs s'=>s'=s) (shape r) (shape (Z r)):=SR.shape λ_=>SR.pure rfl
theorem xb{a}:SR p p' Z (λs s'=>s'=s) (frozen a) (frozen (cC Z a)):=SR.frozen λ_=>SR.pure rfl
theorem Hh{a n}:SR p p' Z (λ_ _=>True) (freeze a n) (freeze (cC Z a) n):=SR.freeze (SR.pure trivial)
theorem iE{r}:SR p p' Z (λo o'=>o'=dS Z o) (getObj r) (getObj (Z r)):=SR.getObj λ_ _=>SR.pure rfl
theorem yw{r}:SR p p' Z (λo o'=>o'=dS Z o/\cK p o=true) (getObj r) (getObj (Z r)):=SR.getObj λ_ h=>SR.pure ⟨rfl,h⟩
theorem gK{r o}(a:cK p o=true):SR p p' Z (λ_ _=>True) (setObj r o) (setObj (Z r) (dS Z o)):=SR.setObj a (SR.pure trivial)
theorem iF{q}:SR p p' Z (λn a=>a=n) (choose q) (choose q):=SR.choose λ_=>SR.pure rfl
theorem I7{m}(h:okM m=true:=by rfl):SR p p' Z (λ_ _=>True) (mark m) (mark (KX Z m)):=SR.mark h (SR.pure trivial)
theorem eP{c}[Decidable c]{s t s' a}(h:SR p p' Z Q s s')(b:SR p p' Z Q t a):SR p p' Z Q (if c then s else t) (if c then s' else a):=by grind
theorem aa4{c}[Decidable c]{s t s' a}(h:c->SR p p' Z Q s s')(b:¬c->SR p p' Z Q t a):SR p p' Z Q (if c then s else t) (if c then s' else a):=by grind
include F
theorem fV(t):SR p p' Z (λi a=>a=i/\p.info? t=some i) (typeInfo t) (typeInfo t):=by refine iK ?_;rw[F.info];cases h:p.info? t with
 |none=>exact Du
 |some i=>exact aN ⟨rfl,rfl⟩
theorem aR(t):SR p p' Z (λi a=>a=i/\p.underlying t=some i) (underlying t) (underlying t):=by refine iK ?_;rw[F.under];cases h:p.underlying t with
 |none=>exact Du
 |some i=>exact aN ⟨rfl,rfl⟩
theorem dZ(t):SR p p' Z (λi a=>a=i) (sizeOf t) (sizeOf t):=by refine aK (fV F t) ?_;rintro _ _ ⟨rfl,_⟩;exact aN rfl
theorem fY{t:TypeId}(a:t<p.types.size):SR p p' Z (λv c=>c=v/\bB Z v=v) (zeroValue t) (zeroValue t):=by refine aK (fV F t) ?_;rintro _ i ⟨rfl,hi⟩;cases b:i.zero with
 |none=>exact Xh rfl
 |some v=>exact aN ⟨rfl,Et Z v (F.zero i (Eu a hi) v b)⟩
theorem La(t):SR p p' Z (λi a=>a=i) (isAgg t) (isAgg t):=by refine aK (aR F t) ?_;rintro _ d ⟨rfl,_⟩;cases d<;>exact aN rfl
omit F in
theorem tu(a):∀n i acc,SR p p' Z (λv b=>b=v.map (bB Z)) (loadCellsFrom a i n acc) (loadCellsFrom (cC Z a) i n (acc.map (bB Z)))
 |0,_,_=>aN rfl
 |n+1,i,acc=>by
   refine aK (Q:=λv b=>b=bB Z v) ?_ ?_;.rw[<-zG];exact Dv
   .rintro v _ rfl;rw[<-Array.map_push];exact tu a n (i+1) (acc.push v)
omit F in
theorem zI(a n):SR p p' Z (λv b=>b=v.map (bB Z)) (loadCells a n) (loadCells (cC Z a) n):=by have:=tu (p:=p) (p':=p') (Z:=Z) a n 0 #[];simpa[loadCells]using this
omit F in
theorem pk(a):∀b i,SR p p' Z (λ_ _=>True) (storeCells a b i) (storeCells (cC Z a) (b.map (bB Z)) i)
 |[],_=>aN trivial
 |v::b,i=>by
   refine aK (Q:=λ_ _=>True) ?_ ?_;.rw[<-zG];exact Xi
   .intro _ _ _;exact pk a b (i+1)
theorem tZ(t a):SR p p' Z (λv c=>c=bB Z v) (loadVar t a) (loadVar t (cC Z a)):=by
 refine aK (La F t) ?_;rintro _ b rfl;cases b;.exact Dv
 .refine aK (dZ F t) ?_;rintro _ n rfl;refine aK (zI a n) ?_;rintro v _ rfl;exact aN S8
theorem Lb(t a v):SR p p' Z (λ_ _=>True) (storeVar t a v) (storeVar t (cC Z a) (bB Z v)):=by
 refine aK (dZ F t) ?_;rintro _ n rfl;rw[lY,Ke];by_cases h:v.cells.size≠n;.rw[bE h];exact aM rfl
 .rw[aS h,aS h];simp;exact pk a _ 0
omit F in
theorem xY(a n l c)(h:l=0->c=0->n=0):SR p p' Z (λv d=>d=v.map (bB Z)) (loadCells a n) (loadCells (za Z l c a) n):=by
 by_cases b:l=0/\c=0;.have:=h b.1 b.2;subst this;exact aN S8
 .rw[qh b];exact zI a n
omit F in
theorem vZ(a b x l c)(h:l=0->c=0->b=[]):SR p p' Z (λ_ _=>True) (storeCells (a.add x) b) (storeCells ((za Z l c a).add x) (b.map (bB Z))):=by
 by_cases d:l=0/\c=0;.have:=h d.1 d.2;subst this;exact aN trivial
 .rw[qh d,<-zG];exact pk _ b 0
omit F in
theorem Tg(e cs):SR p p' Z (λa a'=>a'=cC Z a) (newRow e cs) (newRow e (cs.map (bB Z))):=by refine aK (qi (o:=.cells cs e) rfl) ?_;rintro r _ rfl;exact aN rfl
omit F in
theorem qA(e cs):SR p p' Z (λa a'=>a'=cC Z a/\Z.gh a.block=none) (newRow e cs) (newRow e (cs.map (bB Z))):=by refine aK (Oo (o:=.cells cs e) rfl) ?_;rintro r _ ⟨rfl,h⟩;exact aN ⟨rfl,h⟩
omit F in
theorem AW(e v):SR p p' Z (λa a'=>a'=cC Z a) (newVar e v) (newVar e (bB Z v)):=by simp[newVar];exact Tg e _
theorem Hi(t):SR p p' Z (λa a'=>a'=a) (elemOf t) (elemOf t):=by refine aK (aR F t) ?_;rintro _ d ⟨rfl,_⟩;cases d<;>first|exact aN rfl|exact Du
theorem kV(t cs off):SR p p' Z (λv a=>a=bB Z v) (part t cs off) (part t (cs.map (bB Z)) off):=by
 refine aK (La F t) ?_;rintro _ b rfl;cases b;.rw[kT];cases cs[off]? with
  |none=>exact Du
  |some v=>exact aN rfl
 .refine aK (dZ F t) ?_;rintro _ n rfl;exact aN S8
omit F in
theorem qB(v):SR p p' Z (λx b=>b=x) (asIntOf v) (asIntOf (bB Z v)):=by cases v with
 |int k n=>rw[cR];exact aN rfl
 |pointer a=>cases a<;>exact aM rfl
 |_=>exact aM rfl
omit F in
theorem AX(v):SR p p' Z (λx a=>a=x) (asBool v) (asBool (bB Z v)):=by cases v with
 |bool k=>rw[eG];exact aN rfl
 |_=>exact aM rfl
omit F in
theorem rL(v):SR p p' Z (λx b=>b=cC Z x) (Instr.sureAddr v) (Instr.sureAddr (bB Z v)):=by cases v with
 |pointer a=>cases a with
   |none=>exact aM rfl
   |some a=>rw[bH];exact aN rfl
 |_=>exact aM rfl
end
section
variable{G:Gs}{p p':Program}{Z:Pi}(F:Fit G p p')(R:Rn G Z)
variable{α β:Type}{Q:α→β→Prop}
abbrev VR(Z:Pi)(v v':Value):Prop:=v'=bB Z v
theorem nk{v a}(h:a=bB Z v):SR p p' Z Q (goPanic v) (goPanic a):=by subst h;exact SR.halt rfl
include F R
omit F R in
theorem Ld{t Q}{s':Sem TypeId}(h:∀e,p.underlying t≠some (.pointer e))(f:∃k,s'=.program k):SR p p' Z Q (elemOf t) s':=by
 obtain⟨k,rfl⟩:=f;have e:∃k0:Program->Sem TypeId,elemOf t=.program k0/\((∀e,p.underlying t≠some (.pointer e))->∃s,k0 p=.halt (.stuck s)):=by refine⟨_,rfl,λh=>?_⟩;simp[Sem.bind];cases g:p.underlying t with
  |none=>exact⟨_,rfl⟩
  |some d=>rw[g]at h;cases d<;>first|exact absurd rfl (h _)|exact⟨_,rfl⟩
 have⟨k0,a,b⟩:=e;have⟨s,c⟩:=b h;rw[a];exact SR.program (by rw[c];exact aM rfl)
def ade:RuntimeError->Bool
 |.unhashable _=>true
 |_=>false
omit R in
theorem bK(e)(k:ade e=false:=by rfl):SR p p' Z Q (runtimePanic e) (runtimePanic e):=by
 have b:=F.rts;have f:p'.rt.boundsError=p.rt.boundsError:=by rw[<-b]
 have d:p'.rt.errorString=p.rt.errorString:=by rw[<-b]
 have g:p'.rt.plainError=p.rt.plainError:=by rw[<-b]
 have j:p'.rt.panicNilError=p.rt.panicNilError:=by rw[<-b]
 refine iK ?_;cases e with
 |bounds x y s c=>simp[f];exact nk S8
 |error m=>simp[d];exact nk (by simp[strVal])
 |plain m=>simp[g];exact nk (by simp[strVal])
 |nilDeref=>simp[d];exact nk (by simp[strVal])
 |typeAssertion i c a m=>exact aK (Q:=λ_ _=>False) (Ld F.ta ⟨_,rfl⟩) (λ_ _ h=>h.elim)
 |panicNil=>simp[j];refine aK (Hi F _) ?_;rintro _ e rfl;refine aK (Q:=λa a'=>a'=cC Z a) (by simpa using AW (p:=p) (p':=p') (Z:=Z) e (.agg #[])) ?_;rintro a _ rfl;exact nk S8
 |unhashable t=>cases k
theorem iH(k x y c):SR p p' Z Q (boundsPanic k x y c) (boundsPanic k x y c):=by
 unfold boundsPanic;split;.refine aK (Q:=λa b=>b=a) (Q5 (f:=λn=>Sem.pure (n==1)) (f':=λn=>Sem.pure (n==1)) iF (by rintro _ n rfl;exact SR.pure rfl)) ?_;rintro _ s rfl;exact bK F _
 .refine aK (Q:=λa b=>b=a) (aN rfl) ?_;rintro _ s rfl;exact bK F _
theorem AY(v):SR p p' Z (λx b=>b=cC Z x) (asAddr v) (asAddr (bB Z v)):=by cases v with
 |pointer a=>cases a with
   |none=>rw[bH];exact(bK F .nilDeref:SR p p' Z _ (runtimePanic .nilDeref) (runtimePanic .nilDeref))
   |some a=>rw[bH];exact aN rfl
 |_=>exact aM rfl
omit R
theorem Xj{t:TypeId}(b:t<p.types.size):SR p p' Z (VR Z) (Instr.alloc t true (.tuple #[])) (Instr.alloc t true (.tuple #[])):=by refine aK (fY F b) ?_;rintro _ v ⟨rfl,c⟩;refine aK (Q:=λa a'=>a'=cC Z a) (by have:=AW (p:=p) (p':=p') (Z:=Z) t v;rwa [c]at this) ?_;rintro a _ rfl;exact aN (by simp[VR])
omit F in
theorem ad4(t v):SR p p' Z (VR Z) (Instr.box t v) (Instr.box t (bB Z v)):=by refine aK (AW t v) ?_;rintro a _ rfl;exact aN (by simp[VR])
theorem Ti(t v):SR p p' Z (VR Z) (Instr.loadAt t v) (Instr.loadAt t (bB Z v)):=by refine aK (rL v) ?_;rintro a _ rfl;exact tZ F t a
theorem Oq(t v x):SR p p' Z (λ_ _=>True) (Instr.storeAt t v x) (Instr.storeAt t (bB Z v) (bB Z x)):=by refine aK (rL v) ?_;rintro a _ rfl;exact Lb F t a x
omit F in
theorem Hj(r):SR p p' Z (λx b=>b=x.map λ(a,t)=>(cC Z a,t)) (viewAt r) (viewAt (Z r)):=by refine aK nZ ?_;rintro _ s rfl;cases s with
 |some s=>exact aN rfl
 |none=>refine aK iE ?_;rintro o _ rfl;cases o<;>exact aN rfl
omit F in
theorem Cu(r):SR p p' Z (λx b=>b=x.map λ(a,t)=>(cC Z a,t)) (numberAt r) (numberAt (Z r)):=by refine aK nZ ?_;rintro _ s rfl;cases s with
 |some s=>exact aN rfl
 |none=>refine aK iE ?_;rintro o _ rfl;cases o<;>exact aN rfl
omit F in
theorem gM(a):SR p p' Z (λx b=>b=(cC Z x.1,x.2)) (behindNumber a) (behindNumber (cC Z a)):=by refine aK (Cu a.block) ?_;rintro x _ rfl;cases x<;>exact aN rfl
omit F in
theorem Le(a b):SR p p' Z (VR Z) (asNumber a b) (asNumber (cC Z a) b):=by refine aK (qi (o:=.number a b) rfl) ?_;rintro r _ rfl;exact aN (by simp[VR])
omit F in
theorem AZ(a):SR p p' Z (λ_ _=>True) (noView a) (noView (cC Z a)):=by refine aK (Hj a.block) ?_;rintro x _ rfl;cases x with
 |none=>exact aN trivial
 |some x=>exact aM rfl
theorem xZ(d t c):byteOfCell p' d t c=byteOfCell p d t c:=by induction d generalizing t c with
 |zero=>rfl
 |succ d a=>simp[byteOfCell,F.under,F.bytesOf,F.cellsOf,a]
theorem A0(a):SR p p' Z (λx b=>b=x) (byteOf a) (byteOf (cC Z a)):=by simp[byteOf];cases a.spot with
 |some s=>exact aN rfl
 |none=>refine iK ?_;refine aK (AZ a) ?_;intro _ _ _;refine aK nZ ?_;rintro _ s rfl;cases s with
   |none=>exact aM rfl
   |some s=>
     simp[F.cellsOf,F.bytesOf,F.depth,xZ F];split;.exact aN rfl
     .split;.exact aN rfl
      .exact aM rfl
theorem Tj(a c b):SR p p' Z (λx d=>d=cC Z x) (partAt a c b) (partAt (cC Z a) c b):=by refine aK (A0 F a) ?_;rintro _ n rfl;refine aK (Q:=λx d=>d=x) (A0 F {block:=a.block,off:=a.off+c}) ?_;rintro _ m rfl;refine aN ?_;split<;>rfl
theorem rY(a f):SR p p' Z (λx b=>b=cC Z x) (fieldPlace a f) (fieldPlace (cC Z a) f):=by
 refine aK (dZ F f.type) ?_;rintro _ n rfl;split;.exact Tj F a _ _
 .exact aN (by rw[zG])
theorem Ot(s v i):SR p p' Z (VR Z) (Instr.fieldAt s v i) (Instr.fieldAt s (bB Z v) i):=by refine aK (aR F s) ?_;rintro _ d ⟨rfl,_⟩;cases d with
 |struct fields=>simp only;cases fields[i]? with
   |none=>exact aM rfl
   |some f=>refine aK (rL v) ?_;rintro a _ rfl;refine aK (rY F a f) ?_;rintro a _ rfl;exact aN (by simp[VR])
 |_=>exact aM rfl
include R
theorem Gh(v y c):SR p p' Z (λx a=>a=x/\x<=y) (Instr.sliceBound v y c) (Instr.sliceBound (bB Z v) y c):=by
 refine aK (qB v) ?_;rintro _ ⟨k,i⟩ rfl;simp only;split;.exact aN ⟨rfl,O9⟩
 .exact iH F R _ _ _ _
def nw(Z:Pi):Value->Prop
 |.pointer (some a)=>Z.gh a.block=none
 |.slice (some a) l c=>Z.gh a.block=none\/(l=0/\c=0)
 |_=>True
omit F R in
theorem add_block(a:Addr)(n):(a.add n).block=a.block:=by simp[Addr.add];split<;>rfl
theorem n9(b l c lo hi a):SR p p' Z (λx d=>d=x/\(l=0->c=0->x=(0,0,0))) (Instr.sliceBounds b l c lo hi a) (Instr.sliceBounds b l c (lo.map (bB Z)) (hi.map (bB Z)) (a.map (bB Z))):=by cases a<;>cases hi<;>cases lo<;>simp;all_goals repeat' (first|exact aN ⟨rfl,λe f=>by simp;omega⟩|refine aK (Gh F R _ _ _) ?_|refine aK (Q:=λx d=>d=x/\x=_) (aN ⟨rfl,rfl⟩) ?_|exact aM rfl|(rintro _ _ ⟨rfl,_⟩))
theorem Xk(t x)(g:nw Z x)(lo hi c):SR p p' Z (VR Z) (Instr.slice t x lo hi c) (Instr.slice t (bB Z x) (lo.map (bB Z)) (hi.map (bB Z)) (c.map (bB Z))):=by refine aK (aR F t) ?_;rintro _ d ⟨rfl,_⟩;cases d with
 |string=>cases x with
   |string s=>
     simp;split;.exact aM rfl
     .refine aK (n9 F R false _ _ lo hi none) ?_;rintro _ ⟨l,h,m⟩ ⟨rfl,-⟩;exact aN (by simp[VR])
   |_=>exact aM rfl
 |slice e=>cases x with
   |slice a len cap=>simp;refine aK (n9 F R true _ _ lo hi c) ?_;rintro _ ⟨l,h,m⟩ ⟨rfl,i⟩;refine aK (dZ F e) ?_;rintro _ n rfl;refine aN ?_;simp[VR];cases a with
     |none=>split<;>rfl
     |some a=>
       rcases(g:Z.gh a.block=none\/(len=0/\cap=0))with b|⟨rfl,rfl⟩
       .have f:Z.gh (a.add (l*n)).block=none:=by rw[add_block];exact b
        split<;>simp[fT b,fT f]
       .simp_all
   |_=>exact aM rfl
 |pointer arr=>
   refine aK (Q:=λa a'=>a'=cC Z a/\Z.gh a.block=none) ?_ ?_;.cases x with
    |pointer a=>cases a with
      |none=>rw[bH];exact(bK F .nilDeref:SR p p' Z _ (runtimePanic .nilDeref) (runtimePanic .nilDeref))
      |some a=>rw[bH];exact aN ⟨rfl,g⟩
    |_=>exact aM rfl
   rintro a _ ⟨rfl,b⟩;refine aK (aR F arr) ?_;rintro _ d ⟨rfl,_⟩;cases d with
   |array n e=>
     refine aK (n9 F R false _ _ lo hi c) ?_;rintro _ ⟨l,h,m⟩ ⟨rfl,-⟩;refine aK (dZ F e) ?_;rintro _ n rfl;refine aN ?_;have f:Z.gh (a.add (l*n)).block=none:=by rw[add_block];exact b
     simp[VR];split<;>simp[fT b,fT f]
   |_=>exact aM rfl
 |_=>exact aM rfl
theorem Ou(t x)(f:nw Z x)(lo hi b):SR p p' Z (VR Z) (Instr.sliceAt t x lo hi b) (Instr.sliceAt t (bB Z x) (lo.map (bB Z)) (hi.map (bB Z)) (b.map (bB Z))):=by refine aK (aR F t) ?_;rintro _ d ⟨rfl,_⟩;cases d with
 |array n e=>
   refine aK (Q:=λa a'=>a'=cC Z a/\Z.gh a.block=none) ?_ ?_;.cases x with
    |pointer a=>cases a with
      |none=>exact aM rfl
      |some a=>rw[bH];exact aN ⟨rfl,f⟩
    |_=>exact aM rfl
   rintro a _ ⟨rfl,c⟩;refine aK (n9 F R false _ _ lo hi b) ?_;rintro _ ⟨l,h,m⟩ ⟨rfl,-⟩;refine aK (dZ F e) ?_;rintro _ n rfl;refine aN ?_;have g:Z.gh (a.add (l*n)).block=none:=by rw[add_block];exact c
   simp[VR];split<;>simp[fT c,fT g]
 |_=>exact Xk F R t x f lo hi b
theorem Ov(t x i):SR p p' Z (VR Z) (Instr.indexAt t x i) (Instr.indexAt t (bB Z x) (bB Z i)):=by refine aK (qB i) ?_;rintro _ ⟨k,i⟩ rfl;refine aK (aR F t) ?_;rintro _ d ⟨rfl,_⟩;cases d with
 |array n e=>refine aK (rL x) ?_;rintro a _ rfl;.refine aK (Q:=λ(a b:Option Addr×Nat×TypeId)=>b=(a.1.map (cC Z),a.2.1,a.2.2)) (aN rfl) ?_;rintro⟨base,len,elem⟩ _ rfl;refine aK (aR F t) ?_;rintro _ d ⟨rfl,_⟩;cases base with
    |none=>exact iH F R _ _ _ _
    |some a=>
      simp;split;.refine aK (dZ F elem) ?_;rintro _ n rfl;exact aN (by simp[VR])
      .repeat' split
       all_goals first|exact iH F R _ _ _ _|exact aM rfl
 |slice e=>cases x with
   |slice a l c=>rw[bQ];refine aK (Q:=λ(a b:Option Addr×Nat×TypeId)=>∃c,b=(KG Z a.1 a.2.1 c,a.2.1,a.2.2)) (aN ⟨c,rfl⟩) ?_;rintro⟨base,len,elem⟩ _ ⟨c,rfl⟩;refine aK (aR F t) ?_;rintro _ d ⟨rfl,_⟩;cases base with
     |none=>exact iH F R _ _ _ _
     |some a=>
       simp;split;.refine aK (dZ F elem) ?_;rintro _ n rfl;have f:za Z len c a=cC Z a:=qh O9;exact aN (by simp[VR,f])
       .repeat' split
        all_goals first|exact iH F R _ _ _ _|exact aM rfl
   |_=>exact aM rfl
 |_=>exact aM rfl
theorem Xl(t x i):SR p p' Z (VR Z) (Instr.index t x i) (Instr.index t (bB Z x) (bB Z i)):=by refine aK (qB i) ?_;rintro _ ⟨k,i⟩ rfl;refine aK (aR F t) ?_;rintro _ d ⟨rfl,_⟩;cases d with
 |array n e=>cases x with
   |agg cs=>
     simp;split;.refine aK (dZ F e) ?_;rintro _ n rfl;exact kV F e cs _
     .exact iH F R _ _ _ _
   |_=>exact aM rfl
 |string=>cases x with
   |string s=>
     simp;split;.exact aN (by simp[VR])
     .exact iH F R _ _ _ _
   |_=>exact aM rfl
 |_=>exact aM rfl
omit R
theorem A2(t x):SR p p' Z (VR Z) (Instr.makeInterface t x) (Instr.makeInterface t (bB Z x)):=by refine aK (aR F t) ?_;rintro _ d ⟨rfl,_⟩;cases d with
 |interface _=>exact aM rfl
 |_=>exact aN (by simp[VR])
omit F in
theorem Ow(x i):SR p p' Z (VR Z) (Instr.extract x i) (Instr.extract (bB Z x) i):=by unfold Instr.extract;cases x with
 |tuple a=>simp;cases a[i]? with
   |none=>exact aM rfl
   |some v=>exact aN rfl
 |_=>exact aM rfl
include R
theorem Gi(x b){a:TypeId}(h:a<p.types.size)(ok):SR p p' Z (VR Z) (Instr.typeAssert x b a ok) (Instr.typeAssert (bB Z x) b a ok):=by
 have c:∀(s d:Option TypeId) (m:String),SR p p' Z (VR Z) (if ok=true then do let z<-zeroValue a;pure (.tuple #[z,aF])else runtimePanic (.typeAssertion s d a m)) (if ok=true then do let z<-zeroValue a;pure (.tuple #[z,aF])else runtimePanic (.typeAssertion s d a m)):=λs d m=>by
  split;.refine aK (fY F h) ?_;rintro _ v ⟨rfl,e⟩;exact aN (by simp[VR,e])
  .exact bK F _
 have holds:∀v:Value,SR p p' Z (VR Z) (pure (if ok=true then .tuple #[v,aD]else v)) (pure (if ok=true then .tuple #[bB Z v,aD]else bB Z v)):=λv=>by refine aN ?_;split<;>simp[VR]
 refine aK (aR F a) ?_;rintro _ d ⟨rfl,_⟩;cases x with
 |nilIface=>cases d<;>simp<;>exact c _ _ _
 |iface t v=>cases d with
   |interface want=>
     simp only[cT];refine aK (fV F t) ?_;rintro _ i ⟨rfl,_⟩;split;.have:=holds (.iface t v);rwa [cT]at this
     .simp_all
   |_=>
     simp only[cT];split;.simp_all
     .simp_all
 |_=>cases d<;>exact aM rfl
theorem Lf(x):SR p p' Z (VR Z) (Instr.panic x) (Instr.panic (bB Z x)):=by cases x with
 |iface t v=>simp;exact nk S8
 |nilIface=>
   simp;refine aK (Q:=λa b=>b=a) ?_ ?_;.refine Q5 (Q:=λa b=>b=a) (SR.env λr=>SR.pure rfl) ?_;rintro _ r rfl;cases r with
    |strings env=>refine iK ?_;have⟨c,r,h⟩:=F.ex;simp[h];exact aN rfl
    |_=>exact aM rfl
   .rintro _ n rfl;split;.exact nk S8
    .exact bK F _
 |_=>exact aM rfl
end
section
variable{G:Gs}{p p':Program}{Z:Pi}
variable{α β:Type}
inductive jC(Z:Pi){α:Type}(H:α->Prop):Sem α->Prop
 |pure {a:α}:H a->jC Z H (.pure a)
 |choose {q:Question} {k:Nat->Sem α}:(∀n,jC Z H (k n))->jC Z H (.choose q k)
 |lost {h:Halt}:xW h=true->jC Z H (.halt h)
theorem jC.sr{H}{s:Sem α}(h:jC Z H s):SR p p' Z (λa b=>b=a/\H a) s s:=by induction h with
 |pure h=>exact SR.pure ⟨rfl,h⟩
 |choose _ c=>exact SR.choose c
 |lost h=>exact aM h
theorem jC.bind{γ H b s}{f:α->Sem γ}(h:jC Z H s)(c:∀a,H a->jC Z b (f a)):jC Z b (s>>=f):=by induction h with
 |pure h=>exact c _ h
 |choose _ d=>exact .choose d
 |lost h=>exact .lost h
def gL:=@jC.bind
theorem jC.val{s}(h:jC Z (λv=>bB Z v=v) s):SR p p' Z (VR Z) s s:=h.sr.mono λ_ _ ⟨e,h⟩=>by rw[e,VR,h]
theorem jC.ret{H}{a:α}(h:H a):jC Z H (Pure.pure a):=.pure h
theorem jC.ad5{q}:jC Z (λ_=>True) (Go.choose q):=.choose λ_=>.pure trivial
def Lg:=@jC.ad5
theorem jC.any{H}{s:Sem α}(h:jC Z H s):jC Z (λ_=>True) s:=by induction h with
 |pure _=>exact .pure trivial
 |choose _ a=>exact .choose a
 |lost h=>exact .lost h
theorem u6(op k x y):jC Z (λv=>bB Z v=v) (Op.floatArith op k x y):=by
 cases op<;>first|exact .lost rfl|skip
 all_goals refine gL (H:=λ_=>True) (.ret trivial) λr _=>?_;cases r with
  |some r=>exact .ret S8
  |none=>exact gL Lg λ_ _=>.ret S8
theorem x6(op k x y):jC Z (λv=>bB Z v=v) (Op.floatCmp op k x y):=by cases op<;>first|exact .ret S8|exact .lost rfl
theorem qC(op k x y):jC Z (λ_=>True) (Op.Complex.arith op k x y):=by refine gL (u6 op k x y).any λv _=>?_;cases v<;>first|exact .ret trivial|exact .lost rfl
theorem Ew(op k x y):jC Z (λ_=>True) (Op.Complex.cmp op k x y):=by refine gL (x6 op k x y).any λv _=>?_;cases v<;>first|exact .ret trivial|exact .lost rfl
theorem zJ(s x d):jC Z (λv=>bB Z v=v) (Conv.floatToFloat s x d):=by
 unfold Conv.floatToFloat;split;.exact .ret S8
 .split;.exact gL Lg λ_ _=>.ret S8
  .exact .ret S8
  .dsimp only;split;.exact gL Lg λ_ _=>.ret S8
   .exact .ret S8
theorem Tm(s x d):jC Z (λ_=>True) (Op.Complex.conv s x d):=by
 unfold Op.Complex.conv;split;.exact .ret trivial
 .refine gL (zJ s x d).any λv _=>?_;cases v<;>first|exact .ret trivial|exact .lost rfl
theorem zK(x y):jC Z (λ_=>True) (Op.Complex.add x y):=qC _ _ _ _
theorem Ex(x y):jC Z (λ_=>True) (Op.Complex.sub x y):=qC _ _ _ _
theorem qD(x y):jC Z (λ_=>True) (Op.Complex.mul x y):=qC _ _ _ _
theorem Ey(x y):jC Z (λ_=>True) (Op.Complex.quo x y):=qC _ _ _ _
theorem I8(a b c d):jC Z (λ_=>True) (Op.Complex.product a b c d):=by repeat' first|exact .ret trivial|(refine gL (qD _ _) λ_ _=>?_)|(refine gL (Ex _ _) λ_ _=>?_)|(refine gL (zK _ _) λ_ _=>?_)
theorem wa(s a b c d):jC Z (λ_=>True) (Op.Complex.corrected s a b c d):=by repeat' first|exact .ret trivial|(refine gL (qD _ _) λ_ _=>?_)|(refine gL (Ex _ _) λ_ _=>?_)|(refine gL (zK _ _) λ_ _=>?_)
theorem tz{α H c}[Decidable c]{s t:Sem α}(h:jC Z H s)(a:jC Z H t):jC Z H (if c then s else t):=by grind
theorem Gj(a b c d):jC Z (λ_=>True) (Op.Complex.quotient a b c d):=by refine tz ?_ ?_;all_goals
  refine gL (Ey _ _) λ_ _=>gL (qD _ _) λ_ _=>gL (zK _ _) λ_ _=>gL (qD _ _) λ_ _=>gL (zK _ _) λ_ _=>gL (Ey _ _) λ_ _=>gL (qD _ _) λ_ _=>gL (Ex _ _) λ_ _=>gL (Ey _ _) λ_ _=>gL (H:=λ_=>True) (.ret trivial) λx _=>?_
  exact gL (Ew _ _ _ _) λ_ _=>gL (Ew _ _ _ _) λ_ _=>tz (.ret trivial) (tz (gL (qD _ _) λ_ _=>gL (qD _ _) λ_ _=>.ret trivial) (tz (wa _ _ _ _ _) (tz (wa _ _ _ _ _) (.ret trivial))))
theorem Ez(op k a b c d):jC Z (λv=>bB Z v=v) (Op.complexOp op k a b c d):=by cases op;all_goals repeat' first
  |exact .lost rfl
  |exact .ret S8
  |(refine gL (qC _ _ _ _) λ_ _=>?_)
  |(refine gL (Ew _ _ _ _) λ_ _=>?_)
  |(refine gL (Tm _ _ _) λ_ _=>?_)
  |(refine gL (I8 _ _ _ _) λ_ _=>?_)
  |(refine gL (Gj _ _ _ _) λ_ _=>?_)
  |split
theorem x7(op k x y):jC Z (λv=>bB Z v=v) (Op.intArith op k x y):=by cases op<;>first|exact .ret S8|exact .lost rfl
theorem zL(op k x y):jC Z (λv=>bB Z v=v) (Op.intBits op k x y):=by cases op<;>first|exact .ret S8|exact .lost rfl
theorem Lh(op x y):jC Z (λv=>bB Z v=v) (Op.intCmp op x y):=by cases op<;>first|exact .ret S8|exact .lost rfl
theorem rZ(op x y):jC Z (λv=>bB Z v=v) (Op.stringOp op x y):=by unfold Op.stringOp;cases op;all_goals repeat' first|exact .ret S8|exact .lost rfl|split
end
section
variable{G:Gs}{p p':Program}{Z:Pi}(F:Fit G p p')(R:Rn G Z)
include F R
theorem Tn(op k x y):SR p p' Z (VR Z) (Op.intDiv op k x y) (Op.intDiv op k x y):=by
 unfold Op.intDiv;split;.exact bK F _
 .cases op<;>first|exact aN (by simp[VR])|exact aM rfl
theorem Xm(op k x a y):SR p p' Z (VR Z) (Op.shift op k x a y) (Op.shift op k x a y):=by
 unfold Op.shift;split;.exact bK F _
 .cases op<;>first|exact aN (by simp[VR])|exact aM rfl
omit F R in
theorem Xn(op x):SR p p' Z (VR Z) (Op.unary op x) (Op.unary op (bB Z x)):=by cases op<;>cases x<;>(try simp);all_goals first
  |exact aM rfl
  |exact(x7 _ _ _ _).val
  |exact(zL _ _ _ _).val
  |exact aN (by simp[VR])
  |(rename_i a;cases a<;>exact aM rfl)
omit F in
theorem Xp(a b):((cC Z a).block==(cC Z b).block)=(a.block==b.block):=by
 by_cases h:a.block=b.block;.simp[h]
 .have:Z a.block≠Z b.block:=λe=>h (R.inj _ _ e);rw[Ej,Ej,beq_eq_false_iff_ne.mpr h,beq_eq_false_iff_ne.mpr this]
omit F in
theorem addr_eq(a b):(cC Z a==cC Z b)=(a==b):=by
 by_cases h:a=b;.simp[h]
 .have:cC Z a≠cC Z b:=λe=>h (by have c:=R.inj _ _ (congrArg Addr.block e);have d:=congrArg Addr.off e;have f:=congrArg Addr.spot e;cases a;cases b;simp at c d f;simp[c,d,f])
  rw[beq_eq_false_iff_ne.mpr h,beq_eq_false_iff_ne.mpr this]
omit F R in
theorem zM(a):SR p p' Z (λx c=>c=x) (stringish a) (stringish (cC Z a)):=by
 refine aK xb ?_;rintro _ b rfl;cases b;.refine aK nZ ?_;rintro _ s rfl;cases s with
  |none=>exact aN rfl
  |some s=>exact xb (a:={block:=a.block,off:=s.2})
 .exact aN rfl
omit F R in
theorem Li(a b):SR p p' Z (λx c=>c=x) (mayBeOne a b) (mayBeOne (cC Z a) (cC Z b)):=by
 refine aK (zM a) ?_;rintro _ e rfl;refine aK (zM b) ?_;rintro _ sb rfl;have none:∀x:Addr,SR p p' Z (λx c=>c=x) (do let s<-shape x.block;pure (s matches some (_,0))) (do let s<-shape (cC Z x).block;pure (s matches some (_,0))):=λx=>by refine aK nZ ?_;rintro _ s rfl;exact aN rfl
 refine aK (none a) ?_;rintro _ d rfl;refine aK (none b) ?_;rintro _ nb rfl;exact aN rfl
omit F in
theorem Cw(a b):SR p p' Z (λx c=>c=x) (sameAddr a b) (sameAddr (cC Z a) (cC Z b)):=by
 unfold sameAddr;rw[Xp R,addr_eq R];split;.exact aN rfl
 .refine aK xb ?_;rintro _ d rfl;refine aK xb ?_;rintro _ e rfl;split;.exact aM rfl
  .refine aK (AZ a) ?_;intro _ _ _;refine aK (AZ b) ?_;intro _ _ _;refine aK (Li a b) ?_;rintro _ m rfl;split;.refine aK iF ?_;rintro _ n rfl;exact aN rfl
   .exact aN rfl
omit F in
theorem EA(a b):SR p p' Z (λx c=>c=x) (samePointer a b) (samePointer (a.map (cC Z)) (b.map (cC Z))):=by
 cases a<;>cases b;.exact aN rfl
 .exact aN rfl
 .exact aN rfl
 .exact Cw R _ _
end
section
variable{G:Gs}{p p':Program}{Z:Pi}
theorem A3{γ δ:Type}(f f':γ->δ->Sem (ForInStep δ)):∀(l:List γ) (b:δ),(∀a∈l,∀b,SR p p' Z (λx c=>c=x) (f a b) (f' a b))->SR p p' Z (λx c=>c=x) (forIn l b f) (forIn l b f')
 |[],b,_=>by simp;exact aN rfl
 |a::l,b,h=>by simp;refine aK (h a S8 b) ?_;rintro _ s rfl;cases s with
   |done b=>exact aN rfl
   |yield b=>exact A3 f f' l b (λa d=>h a (by simp[d]))
theorem A4{γ δ:Type}{f f'}(l:Array γ)(b:δ)(h:∀a∈l,∀b,SR p p' Z (λx c=>c=x) (f a b) (f' a b)):SR p p' Z (λx c=>c=x) (forIn l b f) (forIn l b f'):=by rw[<-Qv,<-Qv];exact A3 f f' l.toList b (λa d=>h a (by simpa using d))
theorem A5{δ f f'}(n)(b:δ)(h:∀a b,SR p p' Z (λx c=>c=x) (f a b) (f' a b)):SR p p' Z (λx c=>c=x) (forIn [0:n] b f) (forIn [0:n] b f'):=by rw[acT,acT];exact A3 f f' _ b (λa _=>h a)
end
section
variable{G:Gs}{p p':Program}{Z:Pi}(F:Fit G p p')(R:Rn G Z)
include F
theorem Xq(n):∀t u,p'.alikeButTags n t u=p.alikeButTags n t u:=by induction n with
 |zero=>intro t u;rfl
 |succ n a=>intro t u;simp[Program.alikeButTags,F.info,a]
theorem Xr(t):p'.underlyingId t=p.underlyingId t:=by simp[Program.underlyingId,F.info]
theorem I9(t):p'.stoodInAs t=p.stoodInAs t:=by simp[Program.stoodInAs,F.under,F.cut,Xq F,Xr F,F.depth]
theorem oa(t):p'.stoodInHeld t=p.stoodInHeld t:=by simp[Program.stoodInHeld,I9 F,F.info]
theorem wh(d):∀t,p'.eqGuardType d t=p.eqGuardType d t:=by induction d with
 |zero=>intro t;rfl
 |succ d a=>intro t;simp[Program.eqGuardType,F.under,a]
omit F in
theorem Xt{α β Q t}{s:Sem α}{s':Sem β}(a:((p.info? t).all fun i=>match i.desc with|.named "sync.copyChecker" _=>false|_=>true)=true):SR p p' Z Q (typeInfo t>>=fun i=>match i.desc with|.named "sync.copyChecker" _=>s|_=>unsupported .addressObserved) s':=by cases hi:p.info? t with
 |none=>refine SR.adb (h:=.stuck "no such type") ?_ rfl;show Sem.bind (match p.info? t with|some i=>Pure.pure i|none=>stuck "no such type") _=_;rw[hi];rfl
 |some i=>
   refine SR.adb (h:=.unsupported .addressObserved) ?_ rfl;show Sem.bind (match p.info? t with|some i=>Pure.pure i|none=>stuck "no such type") _=_;rw[hi];show(match i.desc with|.named "sync.copyChecker" _=>s|_=>unsupported .addressObserved)=_;split;.simp_all
   .rfl
include R
theorem EB:∀d n t x y,uZ p n t=true->SR p p' Z (λx B=>B=x) (Op.equalIn d t x y) (Op.equalIn d t (bB Z x) (bB Z y))
 |0,_,_,_,_,_=>aM rfl
 |_+1,0,_,_,_,h=>by cases h
 |d+1,n+1,t,x,y,g=>by have q:=EB d n;refine aK (aR F t) ?_;rintro _ u ⟨rfl,A⟩;simp only[uZ,A,dK]at g;have⟨w,g⟩:=g;cases u with
   |bool=>cases x<;>first|exact aM rfl|(cases y<;>first|exact aM rfl|(simp only[eG];exact aN rfl))
   |string=>cases x<;>first|exact aM rfl|(cases y<;>first|exact aM rfl|(simp only[cA];exact aN rfl))
   |float k=>
     cases x<;>first|exact aM rfl|skip
     cases y<;>first|exact aM rfl|skip
     simp only[dC];split;.exact aN rfl
     .exact aM rfl
   |complex k=>
     cases x<;>first|exact aM rfl|skip
     cases y<;>first|exact aM rfl|skip
     simp only[cJ];split;.exact aN rfl
     .exact aM rfl
   |int k=>cases x with
     |int k n=>cases y with
       |int k' C=>
         simp only[cR];split;.exact aN rfl
         .exact aM rfl
       |pointer b=>cases b with
         |none=>match n with
           |0=>exact aM rfl
           |Int.ofNat (m+1)=>exact aM rfl
           |Int.negSucc m=>exact aM rfl
         |some b=>simp only[cR,bH,dY];match n with
           |0=>exact aN rfl
           |Int.ofNat (m+1)=>exact aM rfl
           |Int.negSucc m=>exact aM rfl
       |_=>exact aM rfl
     |pointer a=>cases a with
       |none=>cases y<;>exact aM rfl
       |some a=>cases y with
         |int k' n=>simp only[cR,bH,dY];match n with
           |0=>exact aN rfl
           |Int.ofNat (m+1)=>exact aM rfl
           |Int.negSucc m=>exact aM rfl
         |pointer b=>cases b with
           |none=>exact aM rfl
           |some b=>simp only[bH,dY];refine aK (gM a) ?_;rintro a _ rfl;refine aK (gM b) ?_;rintro b _ rfl;refine iK ?_;rw[F.none];simp only[oK,decide_false,Kf,vO,zh];exact Xt w
         |_=>exact aM rfl
     |_=>cases y<;>exact aM rfl
   |pointer e=>cases x with
     |pointer a=>cases y with
       |pointer b=>
         simp only[bH];cases a<;>cases b<;>simp only[Kg,dY];.exact aN rfl
         .exact aN rfl
         .exact aN rfl
         .rename_i a b;refine aK (dZ F e) ?_;rintro _ n rfl;split;.exact Cw R a b
          .rw[addr_eq R];split;.exact aN rfl
           .refine aK iF ?_;rintro _ n rfl;exact aN rfl
       |_=>cases a<;>exact aM rfl
     |_=>exact aM rfl
   |unsafePointer=>
     cases x<;>first|exact aM rfl|skip
     cases y<;>first|exact aM rfl|skip
     simp only[bH];exact EA R _ _
   |chan a b=>cases g
   |interface ms=>cases g
   |struct s=>
     cases x<;>first|exact aM rfl|skip
     cases y<;>first|exact aM rfl|skip
     rename_i j o;simp only[dD];refine iK ?_;rw[oa F];split;.exact aM rfl
     .refine aK (A4 s _ λf z b=>?_) ?_
      .split;.refine aK (kV F f.type j f.offset) ?_;rintro v _ rfl;refine aK (kV F f.type o f.offset) ?_;rintro i _ rfl;refine aK (q f.type v i (zg.1 g f z)) ?_;rintro _ e rfl;split<;>exact aN rfl
       .exact aN rfl
      .rintro _ r rfl;split<;>exact aN rfl
   |array n e=>
     cases x<;>first|exact aM rfl|skip
     cases y<;>first|exact aM rfl|skip
     rename_i j o;simp only[dD];refine aK (dZ F e) ?_;rintro _ m rfl;refine aK (A5 n _ λf b=>?_) ?_;.refine aK (kV F e j _) ?_;rintro v _ rfl;refine aK (kV F e o _) ?_;rintro i _ rfl;refine aK (q e v i g) ?_;rintro _ e rfl;split<;>exact aN rfl
     .rintro _ r rfl;split<;>exact aN rfl
   |slice e=>
     cases x<;>first|exact aM rfl|skip
     rename_i a l c;cases a<;>cases y<;>first|exact aM rfl|skip
     all_goals rename_i b _ _;cases b<;>simp only[bQ,Td,qg]<;>first|exact aN rfl|exact aM rfl
   |map a b=>
     cases x<;>first|exact aM rfl|skip
     rename_i a;cases a<;>cases y<;>first|exact aM rfl|skip
     all_goals rename_i b;cases b<;>simp only[dV,Kg,dY]<;>first|exact aN rfl|exact aM rfl
   |func a b c=>
     cases x<;>first|exact aM rfl|skip
     all_goals cases y<;>first|exact aM rfl|(simp only[cU,dM];exact aN rfl)
   |_=>exact aM rfl
end
section
variable{G:Gs}{p p':Program}{Z:Pi}(F:Fit G p p')(R:Rn G Z)
include F
omit F in
theorem Cx(d t x y)(a:x≠.nilIface)(b:∀c,x≠.agg c):Op.eqGuardIn (d+1) t x y=(underlying t>>=λ_=>Pure.pure false):=by unfold Op.eqGuardIn;congr 1;funext u;cases x<;>first|exact absurd rfl a|exact absurd rfl (b _)|(cases u<;>rfl)
omit F in
theorem Cy(d t x y)(a:y≠.nilIface)(b:∀c,y≠.agg c):Op.eqGuardIn (d+1) t x y=(underlying t>>=λ_=>Pure.pure false):=by unfold Op.eqGuardIn;congr 1;funext u;cases y<;>first|exact absurd rfl a|exact absurd rfl (b _)|(cases u<;>cases x<;>rfl)
theorem ua:∀d t x y,SR p p' Z (λx l=>l=x) (Op.eqGuardIn d t x y) (Op.eqGuardIn d t (bB Z x) (bB Z y))
 |0,_,_,_=>aM rfl
 |d+1,t,x,y=>by
   have j:=ua d;by_cases a:∃r,x=.chan r;.obtain⟨r,rfl⟩:=a;rw[cL,Cx d t (.chan r) y S8 S8,Cx d t (oG Z r) _ (xX Z r) (Ek Z r)];exact aK (aR F t) λ_ _ _=>aN rfl
   by_cases c:∃r,y=.chan r;.obtain⟨r,rfl⟩:=c;rw[cL,Cy d t x (.chan r) S8 S8,Cy d t _ (oG Z r) (xX Z r) (Ek Z r)];exact aK (aR F t) λ_ _ _=>aN rfl
   unfold Op.eqGuardIn;refine aK (aR F t) ?_;rintro _ u ⟨rfl,_⟩;cases u with
   |interface ms=>cases x<;>first|exact absurd ⟨_,rfl⟩ a|(cases y<;>first|exact absurd ⟨_,rfl⟩ c|(simp only[cH,cT,eG,cR,dC,cJ,cA,bH,bQ,dV,cL,dM,cU,dD,dL];exact aN rfl))
   |struct k=>cases x with
     |agg h=>cases y with
       |agg i=>
         simp only[dD];refine aK (A4 k _ λf _ b=>?_) ?_
         .split;.refine aK (kV F f.type h f.offset) ?_;rintro v _ rfl;refine aK (kV F f.type i f.offset) ?_;rintro g _ rfl;refine aK (j f.type v g) ?_;rintro _ e rfl;split<;>exact aN rfl
          .exact aN rfl
         .rintro _ r rfl;split<;>exact aN rfl
       |_=>first|exact absurd ⟨_,rfl⟩ c|(simp only[cH,cT,eG,cR,dC,cJ,cA,bH,bQ,dV,cL,dM,cU,dD,dL];exact aN rfl)
     |_=>first|exact absurd ⟨_,rfl⟩ a|(simp only[cH,cT,eG,cR,dC,cJ,cA,bH,bQ,dV,cL,dM,cU,dD,dL];exact aN rfl)
   |array n e=>cases x with
     |agg h=>cases y with
       |agg i=>
         simp only[dD];refine aK (dZ F e) ?_;rintro _ m rfl;refine aK (A5 n _ λf b=>?_) ?_;.refine aK (kV F e h _) ?_;rintro v _ rfl;refine aK (kV F e i _) ?_;rintro g _ rfl;refine aK (j e v g) ?_;rintro _ e rfl;split<;>exact aN rfl
         .rintro _ r rfl;split<;>exact aN rfl
       |_=>first|exact absurd ⟨_,rfl⟩ c|(simp only[cH,cT,eG,cR,dC,cJ,cA,bH,bQ,dV,cL,dM,cU,dD,dL];exact aN rfl)
     |_=>first|exact absurd ⟨_,rfl⟩ a|(simp only[cH,cT,eG,cR,dC,cJ,cA,bH,bQ,dV,cL,dM,cU,dD,dL];exact aN rfl)
   |_=>exact aN rfl
theorem Ox(op t x y a b):SR p p' Z (λ_ _=>True) (eqGuard op t x y a b) (eqGuard op t x y (bB Z a) (bB Z b)):=by
 unfold eqGuard;refine eP (aN trivial) ?_;by_cases c:∃r,a=.chan r;.obtain⟨r,rfl⟩:=c;rw[cL];obtain h|⟨_,h⟩|⟨_,_,_,h⟩|⟨_,h⟩|⟨_,h⟩|⟨_,_,_,h⟩:=fO Z r<;>rw[h]<;>exact aN trivial
 by_cases d:∃r,b=.chan r;.obtain⟨r,rfl⟩:=d;rw[cL];obtain h|⟨_,h⟩|⟨_,_,_,h⟩|⟨_,h⟩|⟨_,h⟩|⟨_,_,_,h⟩:=fO Z r<;>rw[h]<;>cases a<;>first|exact absurd ⟨_,rfl⟩ c|(simp only[cH,cT,eG,cR,dC,cJ,cA,bH,bQ,dV,dM,cU,dD,dL];exact aN trivial)
 .cases a with
  |nilIface=>cases b with
    |nilIface=>
      simp only[cH];refine eP (aN trivial) ?_
      .refine aK (by have:=ua F (Z:=Z) Op.maxDepth t .nilIface .nilIface;simpa only[cH]using this) ?_;rintro _ e rfl;split;.exact aM rfl
       .exact aN trivial
    |_=>first|exact absurd ⟨_,rfl⟩ d|(simp only[cH,cT,eG,cR,dC,cJ,cA,bH,bQ,dV,cL,dM,cU,dD,dL];exact aN trivial)
  |agg f=>cases b with
    |agg g=>
      simp only[dD];refine iK ?_;refine iK ?_;rw[F.depth,wh F];split;.exact aN trivial
      .refine aK (by have:=ua F (Z:=Z) Op.maxDepth t (.agg f) (.agg g);simpa only[dD]using this) ?_;rintro _ e rfl;split;.exact aM rfl
       .exact aN trivial
    |_=>first|exact absurd ⟨_,rfl⟩ d|(simp only[cH,cT,eG,cR,dC,cJ,cA,bH,bQ,dV,cL,dM,cU,dD,dL];exact aN trivial)
  |_=>first|exact absurd ⟨_,rfl⟩ c|(simp only[cH,cT,eG,cR,dC,cJ,cA,bH,bQ,dV,cL,dM,cU,dD,dL];exact aN trivial)
theorem Gk(d):∀t b,cellOfByte p' d t b=cellOfByte p d t b:=by induction d with
 |zero=>intro t b;rfl
 |succ d a=>intro t b;simp[cellOfByte,F.under,F.bytesOf,F.cellsOf,a]
theorem EC(d e c o b):cellAtBytes p' d e c o b=cellAtBytes p d e c o b:=by simp[cellAtBytes,F.bytesOf,F.cellsOf,xZ F,Gk F]
theorem x8(c t a y):SR p p' Z (λv d=>d=bB Z v/\∃a,v=.pointer a) (Builtin.unsafeAdd_ c t #[.pointer a,y]) (Builtin.unsafeAdd_ c t #[.pointer (a.map (cC Z)),bB Z y]):=by
 unfold Builtin.unsafeAdd_;dsimp only;refine aK (Q:=λa b=>b=a) (aK (qB y) (by rintro _ n rfl;exact aN rfl)) ?_;rintro _ n rfl;split;.cases a with
  |none=>exact aM rfl
  |some a=>refine aK (Hj a.block) ?_;rintro v _ rfl;cases v with
    |none=>exact aN ⟨S8,_,rfl⟩
    |some v=>exact aM rfl
 .split;.exact aM rfl
  .cases a with
   |none=>exact aM rfl
   |some a=>refine aK nZ ?_;rintro _ s rfl;cases s with
     |none=>exact aM rfl
     |some s=>
       refine iK ?_;simp[F.depth,F.cellsOf,EC F];split;.exact aN ⟨by simp[cC],_,rfl⟩
       .exact aM rfl
theorem ub(b t a y):SR p p' Z (VR Z) (Builtin.unsafeAdd_ b t #[.pointer a,y]) (Builtin.unsafeAdd_ b t #[.pointer (a.map (cC Z)),bB Z y]):=(x8 F b t a y).mono λ_ _ h=>h.1
theorem Df(t a y):SR p p' Z (VR Z) (movedPointer t (.pointer a) y) (movedPointer t (.pointer (a.map (cC Z))) (bB Z y)):=by cases a with
 |none=>exact ub F #[] t none y
 |some a=>refine aK (Cu a.block) ?_;rintro v _ rfl;cases v with
   |none=>exact ub F #[] t (some a) y
   |some v=>exact aM rfl
theorem od(t a y):SR p p' Z (VR Z) (movedNumber t (.pointer a) y) (movedNumber t (.pointer (a.map (cC Z))) (bB Z y)):=by refine aK (aR F t) ?_;rintro _ d ⟨rfl,_⟩;refine eP (aM rfl) ?_;cases a with
 |none=>exact ub F #[] t none y
 |some a=>refine aK (gM a) ?_;rintro⟨b,l⟩ _ rfl;refine aK (x8 F #[] t (some b) y) ?_;rintro v _ ⟨rfl,c,rfl⟩;cases c with
   |none=>rw[bH];exact aN (by simp[VR])
   |some c=>rw[bH];exact Le c l
include R
theorem zN(a b):SR p p' Z (λx c=>c=x) (Op.twoPlaces a b) (Op.twoPlaces (cC Z a) (cC Z b)):=by refine iK ?_;rw[F.none];simp;exact aM rfl
theorem Oy(k a b):SR p p' Z (VR Z) (Op.addrSub k a b) (Op.addrSub k (cC Z a) (cC Z b)):=by refine aK (zN F R a b) ?_;rintro _ x rfl;exact aN (by simp[VR])
theorem Oz(op a b):SR p p' Z (VR Z) (Op.addrCmp op a b) (Op.addrCmp op (cC Z a) (cC Z b)):=by refine aK (zN F R a b) ?_;rintro _ x rfl;cases op<;>first|exact aN (by simp[VR])|exact aM rfl
omit R in
theorem ED(k a n):SR p p' Z (VR Z) (Op.addrMod k a n) (Op.addrMod k (cC Z a) n):=by refine aK nZ ?_;rintro _ s rfl;cases s with
 |none=>exact aM rfl
 |some s=>
   refine aK (fV F s.1) ?_;rintro _ i ⟨rfl,_⟩;dsimp only;split;.exact aM rfl
   .refine aK (A0 F a) ?_;rintro _ x rfl;exact aN (by simp[VR])
theorem Lj{n}(t x y)(h:uZ p n t=true):SR p p' Z (λx a=>a=x) (Op.equal t x y) (Op.equal t (bB Z x) (bB Z y)):=EB F R _ n t x y h
theorem Hk{b}(t x y)(h:Tb p t b=true)(d:b=true->y=.nilIface):SR p p' Z (λx g=>g=x) (Op.equal t x y) (Op.equal t (bB Z x) (bB Z y)):=by
 unfold Tb at h;rw[Qu,dK]at h;obtain h|⟨c,a⟩:=h;.exact Lj F R t x y h
 have f:=d c;subst f;refine aK (aR F t) ?_;rintro _ u ⟨rfl,e⟩;rw[e]at a;cases u<;>first|(cases a;done)|skip
 cases x<;>first|exact aM rfl|(simp;exact aN rfl)
end
section
variable{G:Gs}{p p':Program}{Z:Pi}(F:Fit G p p')(R:Rn G Z)
include F R
omit F R in
theorem Q9(r Z t y):binOp .eql t (oG Z r) y=(do let e<-Op.equal t (oG Z r) y;pure (.bool e))/\binOp .neq t (oG Z r) y=(do let e<-Op.equal t (oG Z r) y;pure (.bool !e)):=by obtain h|⟨_,h⟩|⟨_,_,_,h⟩|⟨_,h⟩|⟨_,h⟩|⟨_,_,_,h⟩:=fO Z r<;>rw[h]<;>constructor<;>cases y<;>first|rfl|(rename_i b;cases b<;>rfl)
omit F R in
theorem Ra(r Z t x):binOp .eql t x (oG Z r)=(do let e<-Op.equal t x (oG Z r);pure (.bool e))/\binOp .neq t x (oG Z r)=(do let e<-Op.equal t x (oG Z r);pure (.bool !e)):=by obtain h|⟨_,h⟩|⟨_,_,_,h⟩|⟨_,h⟩|⟨_,h⟩|⟨_,_,_,h⟩:=fO Z r<;>rw[h]<;>constructor<;>cases x<;>first|rfl|(rename_i b;cases b<;>rfl)
omit F R in
theorem Lm(r t y):binOp .eql t (.chan r) y=(do let e<-Op.equal t (.chan r) y;pure (.bool e))/\binOp .neq t (.chan r) y=(do let e<-Op.equal t (.chan r) y;pure (.bool !e)):=by trivial
omit F R in
theorem Lp(r t x):binOp .eql t x (.chan r)=(do let e<-Op.equal t x (.chan r);pure (.bool e))/\binOp .neq t x (.chan r)=(do let e<-Op.equal t x (.chan r);pure (.bool !e)):=by constructor<;>cases x<;>first|rfl|(rename_i b;cases b<;>rfl)
theorem Xu{j}(op t x y)(f:(match op with|.eql|.neq=>Tb p t j|_=>true)=true)(o:j=true->y=.nilIface):SR p p' Z (VR Z) (binOp op t x y) (binOp op t (bB Z x) (bB Z y)):=by
 have eql:Tb p t j=true->SR p p' Z (VR Z) (do let e<-Op.equal t x y;pure (.bool e)) (do let e<-Op.equal t (bB Z x) (bB Z y);pure (.bool e)):=λf=>by refine aK (Hk F R t x y f o) ?_;rintro _ e rfl;exact aN (by simp[VR])
 have neq:Tb p t j=true->SR p p' Z (VR Z) (do let e<-Op.equal t x y;pure (.bool !e)) (do let e<-Op.equal t (bB Z x) (bB Z y);pure (.bool !e)):=λf=>by refine aK (Hk F R t x y f o) ?_;rintro _ e rfl;exact aN (by simp[VR])
 by_cases g:∃r,x=.chan r;.obtain⟨r,rfl⟩:=g;rw[cL]at eql neq|-;cases op with
  |eql=>rw[(Lm r t y).1,(Q9 r Z t _).1];exact eql f
  |neq=>rw[(Lm r t y).2,(Q9 r Z t _).2];exact neq f
  |_=>cases y<;>first|exact aM rfl|(rename_i b;cases b<;>exact aM rfl)
 by_cases h:∃r,y=.chan r;.obtain⟨r,rfl⟩:=h;rw[cL]at eql neq|-;cases op with
  |eql=>rw[(Lp r t x).1,(Ra r Z t _).1];exact eql f
  |neq=>rw[(Lp r t x).2,(Ra r Z t _).2];exact neq f
  |_=>cases x<;>first|exact aM rfl|(rename_i b;cases b<;>exact aM rfl)
 cases x with
 |int k a=>cases y with
   |int k' b=>simp only[cR];unfold binOp;cases op<;>dsimp only<;>first
      |exact Xm F R _ _ _ _ _
      |(refine eP (aM rfl) ?_;first|exact(x7 _ _ _ _).val|exact Tn F R _ _ _ _|exact(zL _ _ _ _).val|exact(Lh _ _ _).val)
   |pointer b=>simp only[cR,bH]at eql neq|-;cases b with
     |none=>cases op<;>first|exact aM rfl|exact eql f|exact neq f|(have:=od F (Z:=Z) t none (.int k a);rw[cR]at this;exact this)
     |some b=>simp only[dY]at eql neq|-;cases op<;>first
        |exact aM rfl|exact eql f|exact neq f
        |(have:=od F (Z:=Z) t (some b) (.int k a);rw[cR]at this;exact this)
        |(refine aK (gM b) ?_;rintro x _ rfl;exact ED F _ _ _)
   |_=>first|exact absurd ⟨_,rfl⟩ h|exact absurd ⟨_,rfl⟩ g|(clear g h;simp only[cH,cT,eG,cR,dC,cJ,cA,bQ,dV,cL,dM,cU,dD,dL]at eql neq|-;cases op<;>first|exact aM rfl|exact eql f|exact neq f)
 |float k a=>cases y with
   |float k' b=>simp only[dC];unfold binOp;cases op<;>dsimp only<;>first
      |(refine eP (aM rfl) ?_;first|exact(u6 _ _ _ _).val|exact(x6 _ _ _ _).val)
   |pointer b=>simp only[dC,bH]at eql neq|-;cases b<;>cases op<;>first|exact aM rfl|exact eql f|exact neq f
   |_=>first|exact absurd ⟨_,rfl⟩ h|exact absurd ⟨_,rfl⟩ g|(clear g h;simp only[cH,cT,eG,cR,dC,cJ,cA,bQ,dV,cL,dM,cU,dD,dL]at eql neq|-;cases op<;>first|exact aM rfl|exact eql f|exact neq f)
 |complex k a b=>cases y with
   |complex k' c d=>simp only[cJ];unfold binOp;cases op<;>dsimp only<;>(refine eP (SR.lost rfl) ?_;exact(Ez _ _ _ _ _ _).val)
   |pointer b=>simp only[cJ,bH]at eql neq|-;cases b<;>cases op<;>first|exact aM rfl|exact eql f|exact neq f
   |_=>first|exact absurd ⟨_,rfl⟩ h|exact absurd ⟨_,rfl⟩ g|(clear g h;simp only[cH,cT,eG,cR,dC,cJ,cA,bQ,dV,cL,dM,cU,dD,dL]at eql neq|-;cases op<;>first|exact aM rfl|exact eql f|exact neq f)
 |string a=>cases y with
   |string b=>simp only[cA];unfold binOp;cases op<;>exact(rZ _ _ _).val
   |pointer b=>simp only[cA,bH]at eql neq|-;cases b<;>cases op<;>first|exact aM rfl|exact eql f|exact neq f
   |_=>first|exact absurd ⟨_,rfl⟩ h|exact absurd ⟨_,rfl⟩ g|(clear g h;simp only[cH,cT,eG,cR,dC,cJ,cA,bQ,dV,cL,dM,cU,dD,dL]at eql neq|-;cases op<;>first|exact aM rfl|exact eql f|exact neq f)
 |pointer a=>simp only[bH]at eql neq|-;cases y with
   |int k n=>
     simp only[cR]at eql neq|-;have m:SR p p' Z (VR Z) (do if(<-underlying t) matches .unsafePointer then movedPointer t (.pointer a) (.int k n)else movedNumber t (.pointer a) (.int k n)) (do if(<-underlying t) matches .unsafePointer then movedPointer t (.pointer (a.map (cC Z))) (.int k n)else movedNumber t (.pointer (a.map (cC Z))) (.int k n)):=by refine aK (aR F t) ?_;rintro _ d ⟨rfl,_⟩;have l:=Df F (Z:=Z) t a (.int k n);have i:=od F (Z:=Z) t a (.int k n);rw[cR]at l i;exact eP l i
     have q:SR p p' Z (VR Z) (movedNumber t (.pointer a) (.int k (-n))) (movedNumber t (.pointer (a.map (cC Z))) (.int k (-n))):=by have i:=od F (Z:=Z) t a (.int k (-n));rwa [cR]at i
     cases a with
     |none=>cases op<;>first|exact aM rfl|exact eql f|exact neq f|exact m|exact q
     |some a=>cases op<;>first
        |exact aM rfl|exact eql f|exact neq f|exact m|exact q
        |(refine aK (gM a) ?_;rintro x _ rfl;exact ED F _ _ _)
   |pointer b=>simp only[bH]at eql neq|-;cases a with
     |none=>cases b<;>cases op<;>first|exact aM rfl|exact eql f|exact neq f
     |some a=>cases b with
       |none=>cases op<;>first|exact aM rfl|exact eql f|exact neq f
       |some b=>cases op<;>first
          |exact aM rfl|exact eql f|exact neq f
          |(refine aK (gM a) ?_;rintro x _ rfl;refine aK (gM b) ?_;rintro y _ rfl;first|exact Oy F R _ _ _|exact Oz F R _ _ _)
   |_=>first|exact absurd ⟨_,rfl⟩ h|exact absurd ⟨_,rfl⟩ g|(clear g h;simp only[cH,cT,eG,cR,dC,cJ,cA,bQ,dV,cL,dM,cU,dD,dL]at eql neq|-;cases a<;>cases op<;>first|exact aM rfl|exact eql f|exact neq f)
 |_=>cases y with
   |pointer b=>first|exact absurd ⟨_,rfl⟩ g|(clear g h;simp only[bH,cH,cT,eG,cR,dC,cJ,cA,bQ,dV,cL,dM,cU,dD,dL]at eql neq|-;cases b<;>cases op<;>first|exact aM rfl|exact eql f|exact neq f)
   |_=>first|exact absurd ⟨_,rfl⟩ h|exact absurd ⟨_,rfl⟩ g|(clear g h;simp only[cH,cT,eG,cR,dC,cJ,cA,bQ,dV,cL,dM,cU,dD,dL]at eql neq|-;cases op<;>first|exact aM rfl|exact eql f|exact neq f)
omit F R in
theorem Dg(s b k):jC Z (λv=>bB Z v=v) (Conv.floatToInt s b k):=by
 unfold Conv.floatToInt;split;.exact tz (.ret S8) (gL Lg λ_ _=>.ret S8)
 .exact gL Lg λ_ _=>.ret S8
omit F R in
theorem A6(x:Value):SR p p' Z (VR Z) (Conv.bytesToString x) (Conv.bytesToString (bB Z x)):=by unfold Conv.bytesToString;cases x with
 |slice a l c=>cases a with
   |none=>rw[bQ];exact aN (by simp[VR])
   |some a=>
     rw[bQ,qg];refine aK (xY a l l c λh _=>h) ?_;rintro vs _ rfl;refine aK (Q:=λa b=>b=a) ?_ ?_;.rw[<-Qv,<-Qv,sQ];generalize vs.toList=l,ByteArray.empty=acc;induction l generalizing acc with
      |nil=>exact aN rfl
      |cons v l ih=>simp only[lC,List.forIn_cons];cases v with
        |int k n=>rw[cR];cases k<;>first|exact aM rfl|exact ih _
        |_=>exact aM rfl
     .rintro _ s rfl;exact aN (by simp[VR])
 |_=>exact aM rfl
omit F R in
theorem A7(a):SR p p' Z (λ_ _=>True) (markStringish a) (markStringish (cC Z a)):=by refine aK nZ ?_;rintro _ s rfl;cases s with
 |none=>exact aN trivial
 |some s=>exact Hh (a:={block:=a.block,off:=s.2})
omit F R in
theorem A8(e s):SR p p' Z (VR Z) (Conv.stringToBytes e s) (Conv.stringToBytes e s):=by
 refine aK iF ?_;rintro _ n rfl;refine aK (Q:=λa b=>b=cC Z a/\Z.gh a.block=none) ?_ ?_;.have:=qA (p:=p) (p':=p') (Z:=Z) e ((s.data.map λb=>.int .u8 b.toNat)++Array.replicate (n -s.size) (.int .u8 0));simpa[Qw]using this
 .rintro a _ ⟨rfl,c⟩;refine aK (A7 a) ?_;intro _ _ _;exact aN (by simp[VR,fT c])
omit F R in
theorem Rb{d}(h:ad1 d=true):d=some (.int .u8):=by cases d with
 |none=>cases h
 |some d=>cases d<;>first|(cases h;done)|(rename_i k;cases k<;>first|(cases h;done)|rfl)
omit R in
theorem OB(s d x)(h:Od p s d=true):SR p p' Z (VR Z) (convert s d x) (convert s d (bB Z x)):=by refine aK (aR F s) ?_;rintro _ m ⟨rfl,j⟩;refine aK (aR F d) ?_;rintro _ g ⟨rfl,i⟩;simp[Od,j,i]at h;cases m with
 |int k=>cases g with
   |int k'=>cases x with
     |int a n=>rw[cR];exact aN (by simp[VR])
     |float a n=>rw[dC];exact(Dg _ _ _).val
     |pointer a=>cases a<;>exact aM rfl
     |_=>exact aM rfl
   |_=>cases h
 |string=>cases g with
   |string=>cases x with
     |int a n=>rw[cR];exact aN (by simp[VR])
     |string a=>rw[cA];exact aN (by simp[VR])
     |_=>exact aM rfl
   |slice e=>have f:=Rb h;cases x with
     |string a=>rw[cA];refine aK (aR F e) ?_;rintro _ u ⟨rfl,b⟩;rw[f]at b;cases b;exact A8 _ _
     |slice a _ _=>cases a<;>exact aM rfl
     |_=>exact aM rfl
   |_=>cases h
 |slice e=>cases g with
   |string=>have f:=Rb h;cases x with
     |int a n=>rw[cR];exact aN (by simp[VR])
     |string a=>rw[cA];exact aN (by simp[VR])
     |slice a l c=>rw[bQ];refine aK (aR F e) ?_;rintro _ u ⟨rfl,b⟩;rw[f]at b;cases b;have:=A6 (p:=p) (p':=p') (Z:=Z) (.slice a l c);rwa [bQ]at this
     |chan r=>rw[cL];obtain h|⟨_,h⟩|⟨_,_,_,h⟩|⟨_,h⟩|⟨_,h⟩|⟨_,_,_,h⟩:=fO Z r<;>rw[h]<;>(refine aK (aR F e) ?_;rintro _ u ⟨rfl,b⟩;rw[f]at b;cases b;exact aM rfl)
     |_=>simp;refine aK (aR F e) ?_;rintro _ u ⟨rfl,b⟩;rw[f]at b;cases b;exact aM rfl
   |_=>cases h
 |_=>cases h
omit R in
theorem ad6(a t args)(b:(a[0]?).all (okL p)=true):SR p p' Z (VR Z) (Builtin.len_ a t args) (Builtin.len_ a t (args.map (bB Z))):=by unfold Builtin.len_;rw[kT];cases f:a[0]? with
 |none=>exact aM rfl
 |some t=>rw[f,Qx]at b;cases args[0]? with
   |none=>exact aM rfl
   |some x=>refine aK (aR F t) ?_;rintro _ d ⟨rfl,c⟩;cases d with
     |string=>cases x<;>first|exact aM rfl|(rw[cA];exact aN (by simp[VR,goInt]))
     |array n e=>exact aN (by simp[VR,goInt])
     |pointer e=>refine aK (aR F e) ?_;rintro _ d ⟨rfl,_⟩;cases d<;>first|exact aM rfl|exact aN (by simp[VR,goInt])
     |slice e=>cases x<;>first|exact aM rfl|(rw[bQ];exact aN (by simp[VR,goInt]))
     |map k e=>
       cases x<;>first|exact aM rfl|skip
       rename_i r;cases r with
       |none=>rw[dV];exact aN (by simp[VR,goInt])
       |some r=>rw[dV,dY];refine aK iE ?_;rintro o _ rfl;cases o<;>first|exact aM rfl|exact aN (by simp[VR,goInt])
     |chan k e=>simp[okL,c]at b
     |_=>exact aM rfl
end
section
variable{G:Gs}{p p':Program}{Z:Pi}(F:Fit G p p')(R:Rn G Z)
theorem tA{z:Array Value}(h:z.map (bB Z)=z)(n):((Array.range n).map (λi=>z[i%z.size]!)).map (bB Z)=(Array.range n).map (λi=>z[i%z.size]!):=by
 rw[Array.map_map];refine Array.map_congr_left λi _=>?_;simp;by_cases a:i%z.size<z.size;.grind
 .rw[getElem!_neg z _ a];exact(by simp:bB Z (.bool default)=.bool default)
include F
omit F in
theorem Xv(x):SR p p' Z (λa b=>b=a.map (bB Z)) (asAgg x) (asAgg (bB Z x)):=by cases x with
 |agg cs=>rw[dD];exact aN rfl
 |_=>exact aM rfl
theorem Xw(t x i):SR p p' Z (VR Z) (Instr.field t x i) (Instr.field t (bB Z x) i):=by refine aK (aR F t) ?_;rintro _ d ⟨rfl,_⟩;cases d with
 |struct a=>dsimp only;cases a[i]? with
   |none=>exact aM rfl
   |some f=>refine aK (Xv x) ?_;rintro cs _ rfl;exact kV F _ _ _
 |_=>exact aM rfl
omit F in
theorem zO(place:Nat->Option (Nat×Nat)):∀(b:List (Nat×Value)) (cells:Array Value),Instr.fill place (cells.map (bB Z)) (b.map λ(i,v)=>(i,bB Z v))=(Instr.fill place cells b).map (·.map (bB Z))
 |[],cells=>rfl
 |(i,v)::rest,cells=>by simp only[lC,Instr.fill];cases place i with
   |none=>rfl
   |some os=>
     have⟨off,size⟩:=os;simp only[lY,Ke];split;.rfl
     .rw[<-zO place rest];congr 1;have:∀(l:List (Value×Nat)) (cs:Array Value),(l.map λx=>(bB Z x.1,x.2)).foldl (λcs (x:Value×Nat)=>cs.setIfInBounds (off+x.2) x.1) (cs.map (bB Z))=(l.foldl (λcs (x:Value×Nat)=>cs.setIfInBounds (off+x.2) x.1) cs).map (bB Z):=by intro l;induction l with
       |nil=>intro cs;rfl
       |cons x l c=>intro cs;simp;rw[<-c,Kb]
      have a:=this v.cells.zipIdx.toList cells;simp only[<-VA]at a|-;rw[<-a];congr 1;simp[List.zipIdx_map]
theorem Xx{t:TypeId}(h:t<p.types.size)(c):SR p p' Z (VR Z) (Instr.build t c) (Instr.build t (c.map λ(i,x)=>(i,bB Z x))):=by
 refine aK (fY F h) ?_;rintro _ z ⟨rfl,j⟩;have k:z.cells.map (bB Z)=z.cells:=by rw[<-lY,j]
 refine aK (aR F t) ?_;rintro _ d ⟨rfl,_⟩;have key:∀(place:Nat->Option (Nat×Nat)) (msg:String),SR p p' Z (VR Z) (match Instr.fill place z.cells c.toList with|some cells=>pure (.agg cells)|_=>stuck msg) (match Instr.fill place z.cells (c.map λ(i,x)=>(i,bB Z x)).toList with|some cells=>pure (.agg cells)|_=>stuck msg):=λplace msg=>by have:=zO (Z:=Z) place c.toList z.cells;rw[k]at this;rw[sQ,this];cases Instr.fill place z.cells c.toList with
  |none=>exact aM rfl
  |some cs=>exact aN (by simp[VR])
 cases d with
 |struct g=>
   refine aK (Q:=λa b=>b=a) ?_ ?_
   .have:∀l:Array Field,SR p p' Z (λa b=>b=a) (l.mapM λf=>do pure (f.offset,<-sizeOf f.type)) (l.mapM λf=>do pure (f.offset,<-sizeOf f.type)):=λl=>by rw[VC];refine Q5 (Q:=λa b=>b=a) (f:=λ(l:List (Nat×Nat))=>Sem.pure l.toArray) (f':=λ(l:List (Nat×Nat))=>Sem.pure l.toArray) ?_ (by rintro _ l rfl;exact SR.pure rfl);induction l.toList with
     |nil=>simp;exact aN rfl
     |cons f l m=>rw[List.mapM_cons];refine aK (Q:=λa b=>b=a) (aK (dZ F f.type) (by rintro _ n rfl;exact aN rfl)) ?_;rintro _ x rfl;refine aK m ?_;rintro _ y rfl;exact aN rfl
    exact this g
   .rintro _ places rfl;exact key _ _
 |array n e=>refine aK (dZ F e) ?_;rintro _ n rfl;exact key _ _
 |_=>exact aM rfl
end
end Go.Ren
