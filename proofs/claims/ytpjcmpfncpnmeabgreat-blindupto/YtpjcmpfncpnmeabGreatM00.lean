import Derived.KernelRfl
import Derived.Below
import Derived.Tactics
import GoSem.Step
import Derived.Laws.Sem
set_option linter.all false
set_option maxHeartbeats 4000000
namespace Go
instance:Coe Int Value:=⟨.int .i64⟩
instance:Coe Nat Value:=⟨λn=>.int .i64 n⟩
instance:Coe Unit Value:=⟨λ_=>.slice none 0 0⟩
instance:Coe Unit (List Value):=⟨λ_=>[.string ⟨#[]⟩,.int .i64 0,.int .i64 0,.string ⟨#[]⟩,.int .i64 0,.bool false]⟩
instance:Coe Unit (Array Value):=⟨λ_=>#[.string ⟨#[]⟩,.int .i64 0,.int .i64 0,.string ⟨#[]⟩,.int .i64 0,.bool false]⟩
instance:Coe ByteArray Value:=⟨.string⟩
instance:Coe World Nat:=⟨λw=>w.heap.size⟩
instance:Coe Nat (Option Addr):=⟨λb=>some ⟨b,0,none⟩⟩
instance{b o:Nat}:CoeDep (Nat×Nat) (b,o) Addr:=⟨⟨b,o,none⟩⟩
instance{b o:Nat}:CoeDep (Nat×Nat) (b,o) (Option Addr):=⟨some ⟨b,o,none⟩⟩
structure Dv(n:Nat)
instance:Coe (Dv 0) Value:=⟨λ_=>.int .i64 0⟩
instance:Coe (Dv 1) Value:=⟨λ_=>.string ⟨#[]⟩⟩
instance:Coe (Dv 2) Value:=⟨λ_=>.int .u64 0⟩
instance:Coe (Dv 3) Value:=⟨λ_=>.bool true⟩
instance:Coe (Dv 4) Value:=⟨λ_=>.bool false⟩
instance:Coe (Dv 5) Value:=⟨λ_=>.int .i64 1⟩
def aA:Dv 0:=⟨⟩
def aB:Dv 1:=⟨⟩
def aC:Dv 2:=⟨⟩
def aD:Dv 3:=⟨⟩
def aF:Dv 4:=⟨⟩
def aG:Dv 5:=⟨⟩
def O9{p:Prop}(h:p:=by omega):p:=h
def D9{p:Prop}(h:p:=by decide):p:=h
def K8{p:Prop}(h:p:=by kernel_rfl):p:=h
def S8{p:Prop}(h:p:=by simp):p:=h
def E9{p:Prop}(h:p:=by simp[Act.eval]):p:=h
def G9{p:Prop}(h:p:=by go_simp):p:=h
def Z9{p:Prop}(h:p:=by rw[World.size_alloc];omega):p:=h
def L9{n:Nat}:n≤n:=Nat.le_refl n
def B0{B:Nat}{w:World}:RowKit.Below B w w:=RowKit.Below.refl B w
def Calls.m1{P f a w v Q}{R:World->Prop}(h:Calls P f a w λe w'=>e=.returned v/\R w')(k:∀w',R w'->Q (.returned v) w'):Calls P f a w Q:=h.mono λ_ w' r=>r.1▸k w' r.2
def Calls.m0{P f a w v Q}(h:Calls P f a w λe w'=>e=.returned v/\w'=w)(k:Q (.returned v) w):Calls P f a w Q:=h.mono λ_ _ r=>r.1▸r.2▸k
def mN:=@List.mem_append
def nz:=@List.getElem?_append_left
def cE:=@List.getElem?_eq_some_iff
def sQ:=@List.prefix_refl
def kV:=@List.map_cons
def QB:=@Array.sizeOf_lt_of_mem
def yY:=@Array.ext_getElem?
def kW:=@Array.getElem?_map
def DV:=@Array.mem_of_getElem?
def dV:=@Nat.lt_of_lt_of_le
def nK:=@Nat.lt_succ_self
def uP:=@Option.bind_some
def oF:=@Option.getD_some
def QC:=@Array.mapM_eq_mapM_toList
def DW:=@Go.Sem.runT_fst
def VV:=@Go.World.cells?_some
def bS:=@List.getElem?_eq_getElem
def DX:=@Go.DataW.trod_int
def sV:=@Nat.eq_zero_or_pos
def iF:=@List.mem_map
def y5:=@List.mem_range
def iN:=@List.mem_cons
def oG:=@List.eq_nil_of_length_eq_zero
def eA:=@Array.getElem?_eq_some_iff
def fJ:=@Nat.zero_le
def iG:=@List.append_assoc
def QD:=@of_decide_eq_true
def xE:=@List.all_eq_true
def aT:=@if_neg
def nL:=@Nat.le_of_eq
def bI:=@Nat.le_trans
def kX:=@decide_eq_false
def nM:=@decide_eq_true
def ac5:=@Array.eq_empty_iff_forall_not_mem
def y7:=@Array.getElem?_push_lt
def nN:=@Array.getElem?_eq_getElem
def Kb:=@Array.getElem?_push_size
def lG:=@Array.getElem?_setIfInBounds_ne
def Kc:=@Array.getElem?_setIfInBounds_self_of_lt
def fY:=@Ne.symm
def dJ:=@Bool.and_eq_true
def uQ:=@beq_iff_eq
def y8:=@Array.all_eq_true_iff_forall_mem
def y9:=@Go.IntKind.wrap_i64
def pX:=@Nat.lt_or_ge
def QE:=@Nat.lt_trichotomy
def nA:=@Int.le_refl
def xG:=@Go.run_make
def vF:=@Int.toNat_natCast
def VW:=@Array.getElem?_push
def QF:=@Array.size_push
def QG:=@Go.size_madeCells
def VX:=@Nat.lt_of_le_of_lt
def VY:=@Array.getElem?_append_left
def Ke:=@Nat.mod_eq_of_lt
def sW:=@Nat.sub_self
def DY:=@List.map_nil
def G1:=@Array.getD_eq_getD_getElem?
def Kf:=@List.getElem?_toArray
def pA:=@List.getElem?_cons_succ
def mG:=@List.getElem?_cons_zero
def oH:=@List.size_toArray
def fL:=@List.length_cons
def jU:=@List.length_nil
def Kg:=@Nat.mod_lt
def Kh:=@Array.getElem?_eq_none
def ac6:=@Go.Input.okWide_of_okWideB
def jV:=@Option.some.inj
def uR:=@decide_eq_true_eq
def oI:=@Nat.not_lt_zero
def QH:=@List.mem_toArray
def nO:=@List.not_mem_nil
def oJ:=@or_false
def Ki:=@Prod.ext
def QI:=@Classical.choose_spec
def QJ:=@Go.Addr.mk.injEq
def za:=@true_and
def sX:=@and_true
def G3:=@Option.map_eq_some_iff
def dY:=@Option.map_some
def gW:=@Option.some.injEq
def ac7:=@Array.getElem_setIfInBounds
def zb:=@List.cons.injEq
def vG:=@if_true
def ac8:=@Array.getElem?_append_right
def uS:=@Nat.le_refl
def DZ:=@Nat.add_zero
def VZ:=@Array.mem_iff_getElem
def Kj:=@Array.getElem?_set_ne
def QK:=@Nat.add_sub_cancel
def D2:=@List.mem_filter
def QL:=@List.filter_sublist
def V2:=@List.length_pos_of_mem
def ac9:=@List.getElem?_eq_none_iff
def cU:=@List.mem_of_getElem?
def Kl:=@List.length_filter_le
def BQ:=@And.intro
def QM:=@Go.Sem.run_bind'
def bD:=@if_pos
def Km:=@Array.map_setIfInBounds
def QN:=@Bool.or_eq_true
def ze:=@if_false
def Ko:=@Array.getElem?_modify
def zf:=@Nat.le_succ
def rF:=@Classical.em
def V3:=@Nat.add_assoc
def G5:=@Array.size_map
def QO:=@Array.forIn_toList
def ada:=@Std.Legacy.Range.forIn_eq_forIn_range'
def Kq:=@Bool.and_false
def vH:=@Bool.false_eq_true
def Kr:=@Option.map_none
def rG:=@Array.toList_map
def QP:=@Function.comp_def
def QQ:=@Option.all_some
def V4:=@Array.foldl_toList
def V5:=@Nat.zero_mul
def V6:=@Array.map_append
def jD:=@List.all_cons
def Ks:=@List.foldl_cons
def V7:=@Go.Next.round.injEq
def V8:=@List.all_append
def D3:=@List.cons_append
def D4:=@Int.lt_of_lt_of_le
def G6:=@Int.ofNat_le
def Kt:=@Prod.mk.injEq
def nP:=@List.map_append
def QR:=@Nat.le_add_right
def vI:=@List.nil_append
def zg:=@Option.bind_eq_some_iff
def D5:=@Go.World.cell?_setCell_other
def adb:=@Go.World.frozen?_setCell
def bL:=@Go.World.size_alloc
def QS:=@Array.getElem?_eq_none_iff
def BR:=@List.getD_eq_getElem?_getD
def ade:=@Nat.add_sub_cancel_left
def eK:=@List.getElem?_append_right
def adf:=@List.getElem?_replicate
def oK:=@List.mem_iff_getElem?
def V9:=@List.getElem?_drop
def Wa:=@Go.GStep.go.injEq
def oL:=@List.append_nil
def QT:=@Int.emod_nonneg
def QU:=@Int.emod_lt_of_pos
def adg:=@Int.tmod_eq_emod_of_nonneg
def uT:=@List.set_append_right
def adh:=@List.length_replicate
def Wb:=@Int.le_of_lt
def xH:=@List.take_succ_eq_append_getElem
def jW:=@List.mem_singleton
def Wc:=@List.mem_of_mem_drop
def BS:=@List.flatMap_cons
def Wd:=@List.map_take
def nB:=@Go.World.ownsRow_nil
def pC:=@Go.World.ownsRow.alloc
def kY:=@Go.World.ownsRow.lt
def bY:=@List.length_append
def uU:=@Go.World.ownsRow.cells
def afk:=@Array.length_toList
def nC:=@Go.bodyPost_ret
def xI:=@Array.size_modify
def uV:=@Go.heap_alloc_new
def We:=@List.nodup_append
def D6:=@Nat.le_of_lt
def BU:=@Int.eq_ofNat_of_zero_le
def kI:=@List.length_take
def BW:=@List.length_drop
def xJ:=@ne_eq
def Ku:=@not_true_eq_false
def Kv:=@not_false_eq_true
def Wh:=@decide_eq_false_iff_not
def qu:=@Go.leaves_cons
def fM:=@List.length_map
def zh:=@List.length_reverse
def sY:=@List.getElem?_set_ne
def Wi:=@List.mem_cons_of_mem
def Kw:=@List.nodup_cons
def D7:=@List.filter_cons_of_neg
def Wj:=@List.filter_eq_self
def xK:=@List.mem_map_of_mem
def G7:=@List.filter_cons_of_pos
def Wk:=@Array.toList_filter
def pD:=@List.map_map
def Ky:=@Go.results_tmp
def Wl:=@List.mem_cons_self
def Wm:=@UInt8.lt_iff_toNat_lt
def kJ:=@List.ext_getElem?
def Kz:=@Array.getElem?_toList
def Wn:=@getElem!_pos
def Wo:=@List.getElem!_eq_getElem?_getD
def adi:=@Array.getElem!_eq_getD
def pE:=@List.getElem?_eq_none
def iO:=@Nat.zero_add
def Wp:=@Go.Value.slice.injEq
def Wq:=@Nat.mul_le_mul_right
def adj:=@List.getElem?_take_of_lt
def cT:=@List.getElem?_map
def Wt:=@List.pairwise_iff_getElem
def KB:=@Go.results_none
def BX:=@List.take_append_drop
def oM:=@List.length_singleton
def Wu:=@List.flatMap_map
def KC:=@Int.toNat_of_nonneg
def s5:=@List.getElem_mem
def jI:=@List.take_length
def QV:=@List.flatMap_def
def D8:=@List.take_add_one
def QW:=@List.take_of_length_le
def vJ:=@Go.run_underlying
def xL:=@List.drop_eq_getElem_cons
def Wv:=@List.drop_eq_nil_of_le
def Ww:=@List.take_succ_cons
def KF:=@Nat.pow_le_pow_right
def G8:=@Int.natCast_nonneg
def KG:=@List.length_set
def Wx:=@List.modify_succ_cons
def KH:=@List.getElem?_modify
def qw:=@List.getElem?_mapIdx
def Ha:=@Nat.lt_irrefl
def qx:=@Go.World.size_setCell
def QX:=@beq_eq_false_iff_ne
def Wy:=@List.drop_of_length_le
def Wz:=@List.any_eq_false
def WA:=@Option.isSome_iff_exists
def KI:=@List.append_toArray
def Hb:=@Int.lt_or_le
def Hc:=@Int.not_lt
def KJ:=@Go.MapKept.run_getObj_map
def WC:=@Go.MapKept.run_setObj_map
def adk:=@List.eraseIdx_sublist
def QY:=@Go.Value.agg.injEq
def QZ:=@Array.mk.injEq
def Q0:=@Go.Value.string.injEq
def Q3:=@Go.Value.int.injEq
def Q4:=@Go.Value.bool.injEq
def WG:=@List.any_eq_true
def WH:=@List.mem_of_mem_take
def Q5:=@List.getElem?_set_self
def afl:=@List.find?_cons_of_neg
def Q7:=@Array.replicate_succ
def Q8:=@Array.replicate_zero
def Q9:=@List.push_toArray
def WI:=@List.getElem?_inj
def WJ:=@Nat.ne_of_lt
def WL:=@Go.World.grownBy_alloc
def Ra:=@Nat.sub_zero
def WM:=@List.drop_length
def Hd:=@List.getElem?_reverse
def Rb:=@List.map_reverse
def WN:=@List.length_mapIdx
def zi:=@Nat.min_eq_left
def adl:=@Option.isNone_iff_eq_none
def adm:=@Array.idxOf?_eq_none_iff
end Go
namespace Go.Ren
def J7:Value->Prop
 |.pointer (some _)|.slice (some _) _ _|.map (some _)|.chan (some _)|.func (.yield _) _ _=>True
 |_=>False
structure Pi where
 f:Nat->Nat
 s:Nat->Value
 leaf:∀k,J7 (s k)
 gh:Nat->Option Addr
instance:CoeFun Pi (λ_=>Nat→Nat):=⟨Pi.f⟩
structure Gs where
 s:Nat->Value
 leaf:∀k,J7 (s k)
 gh:Nat->Option Addr
 strict:Bool
 id:strict=true->(∀k,s k=.chan (some k))/\∀b,gh b=none
def Gs.self:Gs:=⟨λk=>.chan (some k),λ_=>trivial,λ_=>none,true,λ_=>⟨λ_=>rfl,λ_=>rfl⟩⟩
def oz(Z:Pi):Option Nat->Value
 |none=>.chan none
 |some k=>Z.s k
def cC(Z:Pi)(a:Addr):Addr:={a with block:=Z a.block}
def yZ(Z:Pi)(l c:Nat)(a:Addr):Addr:=if l=0/\c=0 then(Z.gh a.block).getD (cC Z a)else cC Z a
def La(Z:Pi)(a:Option Addr)(l c:Nat):Option Addr:=a.map (yZ Z l c)
def qi{Z l c a}(h:¬(l=0/\c=0)):yZ Z l c a=cC Z a:=aT h
def fE{Z l c a}(h:Z.gh a.block=none):yZ Z l c a=cC Z a:=by
 unfold yZ;split;.simp_all
 .rfl
def qs(Z:Pi):Fn->Fn
 |.yield l=>.yield (Z l)
 |f=>f
def bB(Z:Pi):Value->Value
 |.bool b=>.bool b
 |.int k n=>.int k n
 |.float k b=>.float k b
 |.complex k a b=>.complex k a b
 |.string s=>.string s
 |.pointer a=>.pointer (a.map (cC Z))
 |.slice a l c=>.slice (La Z a l c) l c
 |.map r=>.map (r.map Z.f)
 |.chan r=>oz Z r
 |.func fn a b=>.func (qs Z fn) (a.map (bB Z)) (b.map (bB Z))
 |.nilFunc=>.nilFunc
 |.iface t v=>.iface t (bB Z v)
 |.nilIface=>.nilIface
 |.agg cs=>.agg (cs.map (bB Z))
 |.tuple vs=>.tuple (vs.map (bB Z))
def Da(Z:Pi):Target->Target
 |.fn f c=>.fn (qs Z f) (c.map (bB Z))
 |.collected r=>.collected (Z r)
 |.coroexit c=>.coroexit (Z c)
 |t=>t
def mI(Z:Pi)(d:Deferred):Deferred:={target:=Da Z d.target,args:=d.args.map (bB Z)}
def mK(Z:Pi)(e:MapEntry):MapEntry:={e with key:=bB Z e.key,val:=bB Z e.val}
def TJ(Z:Pi)(l:Loop):Loop:={l with tmps:=l.tmps.map (bB Z),defers:=Z l.defers}
def dK(Z:Pi):Obj->Obj
 |.cells c e f=>.cells (c.map (bB Z)) e f
 |.pending c e=>.pending (c.map (bB Z)) e
 |.view a t=>.view (cC Z a) t
 |.number a l=>.number (cC Z a) l
 |.map es c=>.map (es.map (mK Z)) c
 |.chan cap buf cl s r t=>.chan cap (buf.map (bB Z)) cl s r t
 |.stringIter s p=>.stringIter s p
 |.mapIter m s seen st=>.mapIter (m.map Z.f) s seen st
 |.loop l=>.loop (TJ Z l)
 |.deferred cs=>.deferred (cs.map (·.map (mI Z)))
 |.coro p=>.coro p
 |.finalizers fs r=>.finalizers (fs.map λ(n,d)=>(n,mI Z d)) r
def Lu(Z:Pi):Mark->Mark
 |.acquire a=>.acquire (cC Z a)
 |.release a=>.release (cC Z a)
 |.releaseMerge a=>.releaseMerge (cC Z a)
 |.read a=>.read (cC Z a)
 |.write a=>.write (cC Z a)
 |m=>m
def Ji(Z:Pi):Halt->Halt
 |.panic v=>.panic (bB Z v)
 |h=>h
def yo(Z:Pi):Loc->Loc
 |.cell a=>.cell (cC Z a)
 |.obj r=>.obj (Z r)
 |.mark m=>.mark (Lu Z m)
 |l=>l
def AO(Z:Pi)(e:Event):Event:={e with loc:=yo Z e.loc}
def oY:Nat->Value->Bool
 |0,_=>false
 |n+1,v=>match v with
   |.pointer a|.slice a _ _=>a.isNone
   |.map r|.chan r=>r.isNone
   |.func f a b=>(match f with|.yield _=>false|_=>true)&&a.all (oY n)&&b.all (oY n)
   |.iface _ v=>oY n v
   |.agg cs|.tuple cs=>cs.all (oY n)
   |_=>true
def Jj(v:Value):Bool:=oY 5 v
def aej:Option TypeDesc->Bool
 |some (.int .u8)=>true
 |_=>false
def OL(p:Program)(s d:TypeId):Bool:=match p.underlying s,p.underlying d with
 |some (.int _),some (.int _)=>true
 |some .string,some .string=>true
 |some (.slice e),some .string=>aej (p.underlying e)
 |some .string,some (.slice e)=>aej (p.underlying e)
 |_,_=>false
def aek:Operand->Bool
 |.const .nilIface=>true
 |_=>false
section
variable(p:Program)
def OM(t:TypeId):Bool:=decide (t<p.types.size)
def rL(_:Program):Operand->Bool
 |.const v=>Jj v
 |.global _=>false
 |_=>true
def u9:Nat->TypeId->Bool
 |0,_=>false
 |n+1,t=>((p.info? t).all fun i=>match i.desc with|.named "sync.copyChecker" _=>false|_=>true)&&match p.underlying t with
   |some (.interface _)|some (.chan ..)=>false
   |some (.array _ e)=>u9 n e
   |some (.struct fs)=>fs.all fun f=>u9 n f.type
   |_=>true
def TK(t:TypeId)(nl:Bool):Bool:=u9 p 5 t||(nl&&match p.underlying t with|some (.interface _)=>true|_=>false)
def zC(t:TypeId):Bool:=match p.underlying t with
 |some (.map k _)=>u9 p 5 k
 |_=>true
def okL(t:TypeId):Bool:=match p.underlying t with
 |some (.chan ..)=>false
 |_=>true
def okB(ts:Array TypeId):Builtin->Bool
 |.append|.clear=>(ts[0]?).all (OM p)
 |.delete=>(ts[0]?).all (zC p)
 |.len|.cap=>(ts[0]?).all (okL p)
 |.copy|.max|.min|.panic|.recover|.unsafeString=>true
 |_=>false
def OO(c:Call):Bool:=c.args.all (rL p)&&match c.callee with
  |.value f=>rL p f
  |.invoke f _=>rL p f
  |.builtin b=>okB p c.argTypes b
def okD(d:Deferred):Bool:=match d.target with
 |.builtin b ts _ _=>okB p ts b
 |.coroexit _=>false
 |_=>true
def TL:Op->Bool
 |.move x|.assign x|.box _ x|.load _ x|.nilCheck x|.unOp _ _ x|.makeInterface _ x|.fieldAddr _ x _|.field _ x _|.range _ x|.next x _|.entry x|.extract x _|.panic x=>rL p x
 |.pick a b c=>rL p a&&rL p b&&rL p c
 |.alloc t=>OM p t
 |.build t ps=>OM p t&&ps.all λ(_,x)=>rL p x
 |.buildSlice t _ ps=>OM p t&&ps.all λ(_,x)=>rL p x
 |.store _ a b|.indexAddr _ a b|.index _ a b=>rL p a&&rL p b
 |.binOp op t a b _=>rL p a&&rL p b&&(match op with|.eql|.neq=>TK p t (aek b)|_=>true)
 |.lookup t a b _=>OM p t&&rL p a&&rL p b&&zC p t
 |.makeSlice t a b=>OM p t&&rL p a&&rL p b
 |.convert s d x=>OL p s d&&rL p x
 |.makeFunc f a b=>(match f with|.yield _=>false|_=>true)&&a.all (rL p)&&b.all (rL p)
 |.makeMap _ r=>r.all (rL p)
 |.slice _ x l h m=>rL p x&&l.all (rL p)&&h.all (rL p)&&m.all (rL p)
 |.mapUpdate t a b c=>rL p a&&rL p b&&rL p c&&zC p t
 |.typeAssert x _ t _=>OM p t&&rL p x
 |.call c|.defer c=>OO p c
 |_=>false
def xu(f:FuncId):Bool:=(p.inits.idxOf? f).isNone
def eU:Code->Bool
 |.region _ ops _=>ops.all λo=>TL p o.op
 |.seq a b=>eU a&&eU b
 |.cond c a b=>rL p c&&eU a&&eU b
 |.block _ b|.loop b|.scope b=>eU b
 |.rangeFunc f _ a b=>rL p f&&eU a&&eU b
 |_=>true
end
def cJ(p:Program):Obj->Bool
 |.pending ..|.view ..=>false
 |.loop l=>eU p l.assign&&eU p l.body&&l.pending.all (eU p)&&xu p l.fn
 |.deferred cs=>cs.all (·.all (okD p))
 |_=>true
def xR:Halt->Bool
 |.stuck _=>true
 |.unsupported (.initOrder _)=>false
 |.unsupported _=>true
 |_=>false
def okM:Mark->Bool
 |.disable|.enable=>false
 |_=>true
def OP(e:Event):Bool:=match e.loc with
 |.mark m=>okM m
 |_=>true
def Ru:Halt->Bool
 |.panic _|.throw _=>true
 |_=>false
def afL{α β:Type}(p:Program)(f:α->Sem β):Result α×Array Event->Result β×Array Event
 |(.ok a w1,XN)=>(f a).runT p w1 XN
 |(.halt h w1,XN)=>(.halt h w1,XN)
def oZ{α β:Type}(p:Program)(s:Sem α)(f:α->Sem β):∀(w:World) (es:Array Event),(s>>=f).runT p w es=afL p f (s.runT p w es):=by change ∀w es,(s.bind f).runT p w es=_;induction s with
 |pure a=>intro w es;rfl
 |halt h=>intro w es;rfl
 |store m a v k ih=>intro w es;cases v<;>simp only[Sem.bind,Sem.runT]<;>(repeat' split)<;>first|rfl|exact ih _ _
 |_=>
   rename_i ih;intro w es;simp only[Sem.bind,Sem.runT];repeat' split
   all_goals first|rfl|exact ih _ _ _|exact ih _ _
def eF{α:Type}(p:Program)(s:Sem α):Prop:=∀w es,∃h w' es',s.runT p w es=(.halt h w',es')/\xR h=true
def eF.bind{α β p s}{f:α->Sem β}(h:eF p s):eF p (s.bind f):=λw es=>by have⟨x,w',a,e,b⟩:=h w es;refine⟨x,w',a,?_,b⟩;have:=oZ p s f w es;rw[e]at this;exact this
def eF.then{α β p s}{f:α->Sem β}(h:∀a,eF p (f a))(g:∀w es,∃a w' b,s.runT p w es=(.ok a w',b)):eF p (s>>=f):=λw es=>by have⟨a,w',b,e⟩:=g w es;have⟨x,w2,d,c,i⟩:=h a w' b;exact⟨x,w2,d,by rw[oZ,e];exact c,i⟩
section
variable(p p':Program)(Z:Pi)
inductive SR{α β:Type}(Q:α->β->Prop):Sem α->Sem β->Prop
 |pure {a:α} {b:β}:Q a b->SR Q (.pure a) (.pure b)
 |load {m:Mode} {a:Addr} {k:Value->Sem α} {k':Value->Sem β}:(∀v,SR Q (k v) (k' (bB Z v)))->SR Q (.load m a k) (.load m (cC Z a) k')
 |store {m:Mode} {a:Addr} {v:Value} {k:Sem α} {k':Sem β}:SR Q k k'->SR Q (.store m a v k) (.store m (cC Z a) (bB Z v) k')
 |new {o:Obj} {k:Nat->Sem α} {k':Nat->Sem β}:cJ p o=true->(∀r,Z.gh r=none->SR Q (k r) (k' (Z r)))->SR Q (.new o k) (.new (dK Z o) k')
 |shape {r:Nat} {k:Option (TypeId×Nat)->Sem α} {k':Option (TypeId×Nat)->Sem β}:(∀s,SR Q (k s) (k' s))->SR Q (.shape r k) (.shape (Z r) k')
 |freeze {a:Addr} {n:Nat} {k:Sem α} {k':Sem β}:SR Q k k'->SR Q (.freeze a n k) (.freeze (cC Z a) n k')
 |frozen {a:Addr} {k:Bool->Sem α} {k':Bool->Sem β}:(∀b,SR Q (k b) (k' b))->SR Q (.frozen a k) (.frozen (cC Z a) k')
 |getObj {r:Nat} {k:Obj->Sem α} {k':Obj->Sem β}:(∀o,cJ p o=true->SR Q (k o) (k' (dK Z o)))->SR Q (.getObj r k) (.getObj (Z r) k')
 |setObj {r:Nat} {o:Obj} {k:Sem α} {k':Sem β}:cJ p o=true->SR Q k k'->SR Q (.setObj r o k) (.setObj (Z r) (dK Z o) k')
 |choose {q:Question} {k:Nat->Sem α} {k':Nat->Sem β}:(∀n,SR Q (k n) (k' n))->SR Q (.choose q k) (.choose q k')
 |env {k:SysRet->Sem α} {k':SysRet->Sem β}:(∀r,SR Q (k r) (k' r))->SR Q (.sys .env k) (.sys .env k')
 |program {k:Program->Sem α} {k':Program->Sem β}:SR Q (k p) (k' p')->SR Q (.program k) (.program k')
 |mark {m:Mark} {k:Sem α} {k':Sem β}:okM m=true->SR Q k k'->SR Q (.mark m k) (.mark (Lu Z m) k')
 |halt {h:Halt}:Ru h=true->SR Q (.halt h) (.halt (Ji Z h))
 |qz {s:Sem α} {s':Sem β}:eF p s->SR Q s s'
end
def SR.lost{α β p p' Z}{Q:α->β->Prop}{h s}(e:xR h=true):SR p p' Z Q (.halt h) s:=.qz λw es=>⟨h,w,es,rfl,e⟩
def aM:=@SR.lost
def SR.adx{α β:Type}{p p':Program}{Z:Pi}{Q:α->β->Prop}{k:Program->Sem α}{h:Halt}{s:Sem β}(e:k p=.halt h)(e2:xR h=true):SR p p' Z Q (.program k) s:=.qz λw es=>⟨h,w,es,by simp only[Sem.runT,e],e2⟩
section
variable{p p':Program}{Z:Pi}{α β γ δ:Type}{Q:α→β→Prop}{Q':γ→δ→Prop}
def SR.bind'{s s' f f'}(h:SR p p' Z Q s s')(e:∀a b,Q a b->SR p p' Z Q' (f a) (f' b)):SR p p' Z Q' (s.bind f) (s'.bind f'):=by induction h with
 |pure h=>exact e _ _ h
 |load _ c=>exact .load c
 |store _ c=>exact .store c
 |new d _ c=>exact .new d c
 |shape _ c=>exact .shape c
 |freeze _ c=>exact .freeze c
 |frozen _ c=>exact .frozen c
 |getObj _ c=>exact .getObj c
 |setObj d _ c=>exact .setObj d c
 |choose _ c=>exact .choose c
 |env _ c=>exact .env c
 |program _ c=>exact .program c
 |mark h _ c=>exact .mark h c
 |halt h=>exact .halt h
 |qz h=>exact .qz h.bind
def Rv:=@SR.bind'
def SR.bind{s s' f f'}(h:SR p p' Z Q s s')(c:∀a b,Q a b->SR p p' Z Q' (f a) (f' b)):SR p p' Z Q' (s>>=f) (s'>>=f'):=Rv h c
def aK:=@SR.bind
def SR.ret{a b}(h:Q a b):SR p p' Z Q (Pure.pure a) (Pure.pure b):=SR.pure h
def aN:=@SR.ret
def SR.mono{s s' e}(h:SR p p' Z Q s s')(f:∀a b,Q a b->e a b):SR p p' Z e s s':=by induction h with
 |pure h=>exact .pure (f _ _ h)
 |load _ c=>exact .load c
 |store _ c=>exact .store c
 |new d _ c=>exact .new d c
 |shape _ c=>exact .shape c
 |freeze _ c=>exact .freeze c
 |frozen _ c=>exact .frozen c
 |getObj _ c=>exact .getObj c
 |setObj d _ c=>exact .setObj d c
 |choose _ c=>exact .choose c
 |env _ c=>exact .env c
 |program _ c=>exact .program c
 |mark h _ c=>exact .mark h c
 |halt h=>exact .halt h
 |qz h=>exact .qz h
end
@[simp] theorem eG(Z b):bB Z (.bool b)=.bool b:=by rw[bB]
@[simp] theorem cN(Z k n):bB Z (.int k n)=.int k n:=by rw[bB]
@[simp] theorem dC(Z k n):bB Z (.float k n)=.float k n:=by rw[bB]
@[simp] theorem cK(Z k n m):bB Z (.complex k n m)=.complex k n m:=by rw[bB]
@[simp] theorem cB(Z s):bB Z (.string s)=s:=by rw[bB]
@[simp] theorem bF(Z a):bB Z (.pointer a)=.pointer (a.map (cC Z)):=by rw[bB]
@[simp] theorem bQ(Z a l c):bB Z (.slice a l c)=.slice (La Z a l c) l c:=by rw[bB]
@[simp] theorem TM(Z l c):La Z none l c=none:=rfl
@[simp] theorem oW(Z a l c):La Z (some a) l c=some (yZ Z l c a):=rfl
@[simp] theorem dW(Z r):bB Z (.map r)=.map (r.map Z.f):=by rw[bB]
@[simp] theorem cL(Z r):bB Z (.chan r)=oz Z r:=by rw[bB]
@[simp] theorem dO(Z f a b):bB Z (.func f a b)=.func (qs Z f) (a.map (bB Z)) (b.map (bB Z)):=by rw[bB]
@[simp] theorem cR(Z):bB Z .nilFunc=.nilFunc:=by rw[bB]
@[simp] theorem cQ(Z t v):bB Z (.iface t v)=.iface t (bB Z v):=by rw[bB]
@[simp] theorem cG(Z):bB Z .nilIface=.nilIface:=by rw[bB]
@[simp] theorem dB(Z c):bB Z (.agg c)=.agg (c.map (bB Z)):=by rw[bB]
@[simp] theorem dL(Z c):bB Z (.tuple c)=.tuple (c.map (bB Z)):=by rw[bB]
@[simp] theorem Eu(Z a):(cC Z a).block=Z a.block:=rfl
@[simp] theorem afM(Z a):(cC Z a).off=a.off:=rfl
@[simp] theorem afi(Z a):(cC Z a).spot=a.spot:=rfl
@[simp] theorem Rw(Z b o s):cC Z ⟨b,o,s⟩=⟨Z b,o,s⟩:=rfl
@[simp] theorem zD(Z a n):cC Z (a.add n)=(cC Z a).add n:=by simp[Addr.add];split<;>rfl
@[simp] theorem afj(Z):oz Z none=.chan none:=rfl
def fO(Z r):oz Z r=.chan none\/(∃a,oz Z r=.pointer (some a))\/(∃a l c,oz Z r=.slice (some a) l c)\/(∃m,oz Z r=.map (some m))\/(∃m,oz Z r=.chan (some m))\/∃l a b,oz Z r=.func (.yield l) a b:=by cases r with
 |none=>exact .inl rfl
 |some k=>have h:=Z.leaf k;simp[oz];revert h;cases Z.s k with
   |pointer a=>cases a with|none=>exact False.elim|some a=>intro _;exact .inr (.inl ⟨a,rfl⟩)
   |slice a l c=>cases a with|none=>exact False.elim|some a=>intro _;exact .inr (.inr (.inl ⟨a,l,c,rfl⟩))
   |map r=>cases r with|none=>exact False.elim|some r=>intro _;exact .inr (.inr (.inr (.inl ⟨r,rfl⟩)))
   |chan r=>cases r with|none=>exact False.elim|some r=>intro _;exact .inr (.inr (.inr (.inr (.inl ⟨r,rfl⟩))))
   |func f a b=>cases f<;>first|exact False.elim|(intro _;exact .inr (.inr (.inr (.inr (.inr ⟨_,_,_,rfl⟩)))))
   |_=>exact False.elim
@[simp] theorem OQ(Z r):(oz Z r).cells=#[oz Z r]:=by obtain h|⟨_,h⟩|⟨_,_,_,h⟩|⟨_,h⟩|⟨_,h⟩|⟨_,_,_,h⟩:=fO Z r<;>rw[h]<;>rfl
def Ev(Z r c):oz Z r≠.agg c:=by obtain h|⟨_,h⟩|⟨_,_,_,h⟩|⟨_,h⟩|⟨_,h⟩|⟨_,_,_,h⟩:=fO Z r<;>rw[h]<;>simp
def xS(Z r):oz Z r≠.nilIface:=by obtain h|⟨_,h⟩|⟨_,_,_,h⟩|⟨_,h⟩|⟨_,h⟩|⟨_,_,_,h⟩:=fO Z r<;>rw[h]<;>simp
def OS(Z r c):oz Z r≠.tuple c:=by obtain h|⟨_,h⟩|⟨_,_,_,h⟩|⟨_,h⟩|⟨_,h⟩|⟨_,_,_,h⟩:=fO Z r<;>rw[h]<;>simp
@[simp] theorem mB(Z v):(bB Z v).cells=v.cells.map (bB Z):=by cases v with
  |chan r=>rw[cL,OQ];simp[Value.cells]
  |_=>simp[Value.cells]
@[simp] theorem AP(Z):bB Z undef=undef:=by simp[undef]
structure Rn(G:Gs)(Z:Pi):Prop where
 inj:∀a b,Z a=Z b->a=b
 sub:Z.s=G.s
 gh:Z.gh=G.gh
def Cp(U:Nat->Option Nat)(Z:Pi):Prop:=∀b c,U b=some c->Z b=c
structure eX(G:Gs)(U:Nat->Option Nat)(m M:Nat):Prop where
 inj:∀a b c,U a=some c->U b=some c->a=b
 lt:∀b c,U b=some c->b<m/\c<M
 real:∀b c,U b=some c->G.gh b=none
 low:∀b,m<=b->G.gh b=none
def Ext(U μ':Nat->Option Nat):Prop:=∀b c,U b=some c->μ' b=some c
def Ext.refl(U:Nat->Option Nat):Ext U U:=λ_ _ h=>h
def nD:=@Ext.refl
def Ext.trans{a b c}(h:Ext a b)(d:Ext b c):Ext a c:=λ_ _ x=>d _ _ (h _ _ x)
def Cp.Jk{U μ' Z}(h:Ext U μ')(c:Cp μ' Z):Cp U Z:=λ_ _ x=>c _ _ (h _ _ x)
def eQ(G:Gs)(U:Nat->Option Nat)(F:Pi->Prop):Prop:=∀Z,Rn G Z->Cp U Z->F Z
def eQ.ext{G U μ' F}(h:eQ G U F)(e:Ext U μ'):eQ G μ' F:=λZ r c=>h Z r (c.Jk e)
def Rx(U:Nat->Option Nat)(M K:Nat)(b:Nat):Nat:=(U b).getD (M+K+b)
def Lv(G:Gs)(U:Nat->Option Nat)(M K:Nat):Pi:=⟨Rx U M K,G.s,G.leaf,G.gh⟩
def zE{G m M U}(h:eX G U m M)(K):Rn G (Lv G U M K):=by
 refine⟨λa b e=>?_,rfl,rfl⟩
 .simp[Lv,Rx]at e;cases c:U a<;>cases d:U b<;>rw[c,d]at e<;>simp at e;.omega
  .have:=(h.lt _ _ d).2;omega
  .have:=(h.lt _ _ c).2;omega
  .subst e;exact h.inj _ _ _ c d
def vR(G)(U:Nat->Option Nat)(M K):Cp U (Lv G U M K):=λb c h=>by simp[Lv,Rx,h]
def eX.one{G m M U}(h:eX G U m M):∃Z,Rn G Z/\Cp U Z:=⟨_,zE h 0,vR G U M 0⟩
def eX.dom{G m M U}(h:eX G U m M){b x}(e:eQ G U λZ=>x=Z b):U b=some x:=by cases a:U b with
 |some c=>rw[e _ (zE h 0) (vR G U M 0),vR G U M 0 _ _ a]
 |none=>have d:=e _ (zE h 0) (vR G U M 0);have f:=e _ (zE h 1) (vR G U M 1);simp[Lv,Rx,a]at d f;omega
structure KM where
 lim:Nat
 KN:Int
 tp:Nat->Question->Nat
structure WR(p:Program)(L:KM)(G:Gs)(U:Nat->Option Nat)(w W:World):Prop where
 obj:∀b c,U b=some c->∃o o',w.heap[b]?=some o/\W.heap[c]?=some o'/\cJ p o=true/\eQ G U λZ=>o'=dK Z o
 tape:∀i q,w.drawn+i<L.lim->w.tape (w.drawn+i) q=W.tape (W.drawn+i) q
 os:W.os=w.os
 KN:(W.drawn:Int)=w.drawn+L.KN
 tp:w.tape=L.tp
structure WE(p:Program)(L:KM)(G:Gs)(U:Nat->Option Nat)(w W:World):Prop where
 obj:∀b c,U b=some c->∃o o',w.heap[b]?=some o/\W.heap[c]?=some o'/\cJ p o=true/\eQ G U λZ=>o'=dK Z o
 os:W.os=w.os
 KN:G.strict=true->(W.drawn:Int)=w.drawn+L.KN
 tp:w.tape=L.tp
def WR.we{p L G U w W}(h:WR p L G U w W):WE p L G U w W:=⟨h.obj,h.os,λ_=>h.KN,h.tp⟩
structure Fr(U μ':Nat->Option Nat)(W W':World):Prop where
 size:W.heap.size<=W'.heap.size
 rest:∀c,c<W.heap.size->(∀b,U b≠some c)->W'.heap[c]?=W.heap[c]?
 new:∀c,W.heap.size<=c->c<W'.heap.size->∃b,μ' b=some c
 old:∀b c,μ' b=some c->c<W.heap.size->U b=some c
 tape:W'.tape=W.tape
 output:W'.output=W.output
 dr:W.drawn<=W'.drawn
 os:W'.os=W.os
def Fr.refl(U:Nat->Option Nat)(W):Fr U U W W:=⟨L9,λ_ _ _=>rfl,λc h a=>by omega,λ_ _ h _=>h,rfl,rfl,L9,rfl⟩
def He:=@Fr.refl
def Fr.trans{U μ' ael:Nat->Option Nat}{W W' W'':World}(e:Ext μ' ael)(h:Fr U μ' W W')(h':Fr μ' ael W' W''):Fr U ael W W'' where
 size:=bI h.size h'.size;rest:=λc hc hn=>by have hs:=h.size;rw[h'.rest c (by omega) (λb hb=>hn b (h.old b c hb hc)),h.rest c hc hn]
 new:=λc h1 h2=>by
  by_cases hc:c<W'.heap.size;.obtain⟨b,hb⟩:=h.new c h1 hc;exact⟨b,e _ _ hb⟩
  .exact h'.new c (by omega) h2
 old:=λb c hb hc=>by have hs:=h.size;exact h.old b c (h'.old b c hb (by omega)) hc
 tape:=h'.tape.trans h.tape;output:=h'.output.trans h.output;dr:=bI h.dr h'.dr;os:=h'.os.trans h.os
def cV{α:Type}:Result α->World
 |.ok _ w|.halt _ w=>w
def vA(L:KM)(w W:World):Prop:=(L.lim:Int)<w.drawn/\L.lim+L.KN<W.drawn
structure r9(G:Gs)(U:Nat->Option Nat)(es ES:Array Event):Prop where
 all:eQ G U λZ=>ES=es.map (AO Z)
 quiet:∀e∈es,OP e=true
def r9.push{G U es ES}(h:r9 G U es ES){e E}(b:eQ G U λZ=>E=AO Z e)(d:OP e=true):r9 G U (es.push e) (ES.push E):=⟨λZ r c=>by show ES.push E=(es.push e).map (AO Z);rw[h.all Z r c,b Z r c,Array.map_push],λx f=>by
  obtain a|rfl:=Array.mem_push.1 f;.exact h.quiet x a
  .exact d⟩
def Out{α β:Type}(p:Program)(L:KM)(G:Gs)(U:Nat->Option Nat)(W:World)(Q:Pi->α->β->Prop)(r:Result α×Array Event)(r':Result β×Array Event):Prop:=match r with
 |(.ok a w1,XN)=>vA L w1 (cV r'.1)\/∃b W1 XO rA,r'=(.ok b W1,XO)/\Ext U rA/\eX G rA w1.heap.size W1.heap.size/\WR p L G rA w1 W1/\Fr U rA W W1/\r9 G rA XN XO/\eQ G rA λZ=>Q Z a b
 |(.halt h w1,XN)=>vA L w1 (cV r'.1)\/xR h=true\/Ru h=true/\∃h' W1 XO rA,r'=(.halt h' W1,XO)/\Ext U rA/\eX G rA w1.heap.size W1.heap.size/\WR p L G rA w1 W1/\Fr U rA W W1/\r9 G rA XN XO/\eQ G rA λZ=>h'=Ji Z h
def oC{α β:Type}(p:Program)(L:KM)(G:Gs)(U:Nat->Option Nat)(W:World)(Q:Pi->α->β->Prop)(r:Result α×Array Event)(r':Result β×Array Event):Prop:=match r with
 |(.ok a w1,XN)=>vA L w1 (cV r'.1)\/∃b W1 XO rA,r'=(.ok b W1,XO)/\Ext U rA/\eX G rA w1.heap.size W1.heap.size/\WE p L G rA w1 W1/\Fr U rA W W1/\r9 G rA XN XO/\eQ G rA λZ=>Q Z a b
 |(.halt h w1,XN)=>vA L w1 (cV r'.1)\/xR h=true\/Ru h=true/\∃h' W1 XO rA,r'=(.halt h' W1,XO)/\Ext U rA/\eX G rA w1.heap.size W1.heap.size/\WE p L G rA w1 W1/\Fr U rA W W1/\r9 G rA XN XO/\eQ G rA λZ=>h'=Ji Z h
def Out.we{p L α β G U W Q}{r:Result α×Array Event}{m:Result β×Array Event}(h:Out p L G U W Q r m):oC p L G U W Q r m:=by match r with
 |(.ok a w1,n)=>
   obtain k|⟨b,d,c,l,e,f,g,i,j⟩:=h;.exact .inl k
   .exact .inr ⟨b,d,c,l,e,f,g,i.we,j⟩
 |(.halt x w1,n)=>
   obtain k|h|⟨o,b,d,c,l,e,f,g,i,j⟩:=h;.exact .inl k
   .exact .inr (.inl h)
   .exact .inr<|.inr ⟨o,b,d,c,l,e,f,g,i.we,j⟩
def Out.weaken{p L α β G U q W W1 Q}{r:Result α×Array Event}{s:Result β×Array Event}(e:Ext U q)(f:Fr U q W W1)(h:Out p L G q W1 Q r s):Out p L G U W Q r s:=by
 match r with
 |(.ok a w1,t)=>
   obtain n|⟨b,g,d,o,i,c,j,k,l,m⟩:=h;.exact .inl n
   .exact .inr ⟨b,g,d,o,i,e.trans c,j,k,f.trans c l,m⟩
 |(.halt x w1,t)=>
   obtain n|h|⟨u,b,g,d,o,i,c,j,k,l,m⟩:=h;.exact .inl n
   .exact .inr (.inl h)
   .exact .inr<|.inr ⟨u,b,g,d,o,i,e.trans c,j,k,f.trans c l,m⟩
section inv
variable{p p':Program}{Z:Pi}{α β:Type}{Q:α→β→Prop}{s':Sem β}
def SR.Lx{a}(h:SR p p' Z Q (.pure a) s'):∃b,s'=.pure b/\Q a b:=by cases h with|pure h=>exact⟨_,rfl,h⟩|qz d=>obtain⟨_,_,_,e,_⟩:=d default #[];cases e
def SR.Lz{m a k}(b:¬eF p (.load m a k))(h:SR p p' Z Q (.load m a k) s'):∃k',s'=.load m (cC Z a) k'/\∀v,SR p p' Z Q (k v) (k' (bB Z v)):=by cases h with|load h=>exact⟨_,rfl,h⟩|qz d=>exact absurd d b
def SR.Ht{m a v k}(b:¬eF p (.store m a v k))(h:SR p p' Z Q (.store m a v k) s'):∃k',s'=.store m (cC Z a) (bB Z v) k'/\SR p p' Z Q k k':=by cases h with|store h=>exact⟨_,rfl,h⟩|qz d=>exact absurd d b
def SR.Ry{o k}(b:¬eF p (.new o k))(h:SR p p' Z Q (.new o k) s'):∃k',s'=.new (dK Z o) k'/\cJ p o=true/\∀r,Z.gh r=none->SR p p' Z Q (k r) (k' (Z r)):=by cases h with|new h a=>exact⟨_,rfl,h,a⟩|qz d=>exact absurd d b
def SR.Hu{r k}(a:¬eF p (.shape r k))(h:SR p p' Z Q (.shape r k) s'):∃k',s'=.shape (Z r) k'/\∀v,SR p p' Z Q (k v) (k' v):=by cases h with|shape h=>exact⟨_,rfl,h⟩|qz d=>exact absurd d a
def SR.Ew{a n k}(b:¬eF p (.freeze a n k))(h:SR p p' Z Q (.freeze a n k) s'):∃k',s'=.freeze (cC Z a) n k'/\SR p p' Z Q k k':=by cases h with|freeze h=>exact⟨_,rfl,h⟩|qz d=>exact absurd d b
def SR.Ex{a k}(b:¬eF p (.frozen a k))(h:SR p p' Z Q (.frozen a k) s'):∃k',s'=.frozen (cC Z a) k'/\∀v,SR p p' Z Q (k v) (k' v):=by cases h with|frozen h=>exact⟨_,rfl,h⟩|qz d=>exact absurd d b
def SR.Ey{r k}(a:¬eF p (.getObj r k))(h:SR p p' Z Q (.getObj r k) s'):∃k',s'=.getObj (Z r) k'/\∀v,cJ p v=true->SR p p' Z Q (k v) (k' (dK Z v)):=by cases h with|getObj h=>exact⟨_,rfl,h⟩|qz d=>exact absurd d a
def SR.Ez{r o k}(b:¬eF p (.setObj r o k))(h:SR p p' Z Q (.setObj r o k) s'):∃k',s'=.setObj (Z r) (dK Z o) k'/\cJ p o=true/\SR p p' Z Q k k':=by cases h with|setObj h a=>exact⟨_,rfl,h,a⟩|qz d=>exact absurd d b
def SR.EA{q k}(a:¬eF p (.choose q k))(h:SR p p' Z Q (.choose q k) s'):∃k',s'=.choose q k'/\∀v,SR p p' Z Q (k v) (k' v):=by cases h with|choose h=>exact⟨_,rfl,h⟩|qz d=>exact absurd d a
def SR.Cn{k}(a:¬eF p (.program k))(h:SR p p' Z Q (.program k) s'):∃k',s'=.program k'/\SR p p' Z Q (k p) (k' p'):=by cases h with|program h=>exact⟨_,rfl,h⟩|qz d=>exact absurd d a
def SR.LA{m k}(a:¬eF p (.mark m k))(h:SR p p' Z Q (.mark m k) s'):∃k',s'=.mark (Lu Z m) k'/\okM m=true/\SR p p' Z Q k k':=by cases h with|mark b h=>exact⟨_,rfl,b,h⟩|qz d=>exact absurd d a
def SR.LC{a}(h:SR p p' Z Q (.halt a) s'):xR a=true\/s'=.halt (Ji Z a)/\Ru a=true:=by cases h with|halt h=>exact .inr ⟨rfl,h⟩|qz d=>obtain⟨_,_,_,e,b⟩:=d default #[];cases e;exact .inl b
def SR.Rz{c k}(a:¬eF p (.sys c k))(h:SR p p' Z Q (.sys c k) s'):c=.env/\∃k',s'=.sys c k'/\∀v,SR p p' Z Q (k v) (k' v):=by cases h with|env h=>exact⟨rfl,_,rfl,h⟩|qz d=>exact absurd d a
end inv
def WR.cells{p L G m M U w W}(h:WR p L G U w W)(ok:eX G U m M){b c}(e:U b=some c){cs t f}(k:w.heap[b]?=some (.cells cs t f)):∃a,W.heap[c]?=some (.cells a t f)/\eQ G U λZ=>a=cs.map (bB Z):=by
 have⟨o,o',d,j,_,g⟩:=h.obj b c e;rw[k]at d;cases d;have⟨Z,r,cp⟩:=ok.one;have h0:=g Z r cp;subst h0;exact⟨_,j,λn l i=>by have:=g n l i;simpa only[dK,Obj.cells.injEq,and_self,sX]using this⟩
def yq{w:World}{a cs t f}(h:w.heap[a.block]?=some (.cells cs t f)):w.cell? a=if a.spot.isSome then none else cs[a.off]?:=by simp[World.cell?,h]
def kQ{p}{w:World}{a o b}(h:w.heap[a.block]?=some o)(c:cJ p o=true):w.farLoad p a b=.error (.stuck "load: no such cell"):=by cases o<;>simp_all[World.farLoad,World.noCell,cJ]
def OT{p}{w:World}{a o v b}(h:w.heap[a.block]?=some o)(c:cJ p o=true):w.farStore p a v b=.error (.stuck "store: no such cell"):=by cases o<;>simp_all[World.farStore,World.noCell,cJ]
def AJ{w:World}{a o}(h:w.heap[a.block]?=some o)(b:∀cs t f,o≠.cells cs t f):w.cell? a=none:=by cases o<;>simp_all[World.cell?]
def WR.cell{p L G m M U w W}(h:WR p L G U w W)(ok:eX G U m M){a c}(e:U a.block=some c){v}(b:w.cell? a=some v):∃j,W.cell? {a with block:=c}=some j/\eQ G U λZ=>j=bB Z v:=by
 have⟨o,o',d,y,z,A⟩:=h.obj _ c e;cases o with
 |cells cs t f=>
   have⟨u,n,k2⟩:=h.cells ok e d;rw[yq d]at b;rw[yq (a:={a with block:=c}) n];split at b;.cases b
   .rename_i l;have⟨Z,r,cp⟩:=ok.one;rw[aT l];refine⟨bB Z v,by rw[k2 Z r cp,kW,b];rfl,λs q k=>?_⟩;have g:=k2 Z r cp;rw[k2 s q k]at g;have i:=congrArg (λx:Array Value=>x[a.off]?) g;simp[b]at i;exact i.symm
 |_=>rw[AJ d (by intros;simp)]at b;cases b
def WR.frozen{p L G m M U w W}(h:WR p L G U w W)(ok:eX G U m M){a c}(e:U a.block=some c):W.frozen? {a with block:=c}=w.frozen? a:=by have⟨o,o',b,d,g,f⟩:=h.obj _ c e;have⟨Z,r,cp⟩:=ok.one;have h0:=f Z r cp;subst h0;cases o<;>simp[World.frozen?,b,d,dK]
def WR.shape{p L G m M U w W}(h:WR p L G U w W)(ok:eX G U m M){b c}(e:U b=some c):W.shape? c=w.shape? b:=by have⟨o,o',a,d,g,f⟩:=h.obj _ c e;have⟨Z,r,cp⟩:=ok.one;have h0:=f Z r cp;subst h0;cases o<;>simp[World.shape?,a,d,dK]
def WR.gY{p L G U w W}(h:WR p L G U w W)(ok:eX G U w W){b c}(e:U b=some c)(f m)(A:cJ p f=true)(z:eQ G U λZ=>m=dK Z f){w1 W1}(y:w1.heap=w.heap.set b f (ok.lt _ _ e).1)(u:W1.heap=W.heap.set c m (ok.lt _ _ e).2)(a:w1.tape=w.tape/\w1.drawn=w.drawn/\w1.os=w.os)(d:W1.tape=W.tape/\W1.drawn=W.drawn/\W1.os=W.os):WR p L G U w1 W1:=by
 refine⟨λg j k=>?_,λi q hi=>by rw[a.1,a.2.1,d.1,d.2.1];exact h.tape i q (by rw[a.2.1]at hi;exact hi),by rw[a.2.2,d.2.2];exact h.os,by rw[a.2.1,d.2.1];exact h.KN,by rw[a.1];exact h.tp⟩;rw[y,u];by_cases l:g=b;.simp_all
 .have v:j≠c:=λx=>l (ok.inj _ _ _ k (x▸e));have⟨o,o',n,r,s,t⟩:=h.obj g j k;exact⟨o,o',by rw[Kj _ (fY l)];exact n,by rw[Kj _ (fY v)];exact r,s,t⟩
def Fr.gY{G:Gs}{U:Nat->Option Nat}{m:Nat}{W W1:World}(ok:eX G U m W.heap.size){b c:Nat}(e:U b=some c){o:Obj}(hW:W1.heap=W.heap.set c o (ok.lt _ _ e).2)(t:W1.tape=W.tape)(ou:W1.output=W.output)(dr:W1.drawn=W.drawn)(os:W1.os=W.os):Fr U U W W1 where
 dr:=nL dr.symm;os:=os;size:=by rw[hW];simp
 rest:=λc' _ hn=>by rw[hW,Kj _ (λx=>hn b (by rw[e,x]))]
 new:=λc' h1 h2=>by rw[hW]at h2;simp at h2;omega
 old:=λ_ _ h _=>h;tape:=t;output:=ou
def iQ{w:World}{a v cs t f}(h:w.heap[a.block]?=some (.cells cs t f))(b:a.block<↑w)(c:a.spot=none):(w.setCell a v).heap=w.heap.set a.block (.cells (cs.setIfInBounds a.off v) t f) b:=by
 apply yY;intro i;simp[World.setCell,Ko];by_cases hi:a.block=i;.simp_all
 .simp[hi]
def Co{w:World}{a n cs t lo hi}(h:w.heap[a.block]?=some (.cells cs t (lo,hi)))(b:a.block<↑w)(c:n≠0):(w.freeze a n).heap=w.heap.set a.block (.cells cs t (if lo==hi then(a.off,a.off+n)else(min lo a.off,max hi (a.off+n)))) b:=by
 apply yY;intro i;simp[World.freeze,aT c,Ko];by_cases hi:a.block=i;.simp_all
 .simp[hi]
def Cq{w:World}{a n o}(h:w.heap[a.block]?=some o)(c:∀cs t f,o≠.cells cs t f):(w.freeze a n).heap=w.heap:=by
 by_cases b:n=0;.simp[World.freeze,b]
 .apply yY;intro i;simp[World.freeze,aT b,Ko];by_cases hi:a.block=i;.simp_all
  .simp[hi]
def EB{α p m a v}{k:Sem α}{w es}:(∃h,(Sem.store m a v k).runT p w es=(.halt (.stuck h) w,es))\/(Sem.store m a v k).runT p w es=(match w.cell? a with
     |some _=>if w.frozen? a then(.halt (.unsupported (.unsafePointer "a write to bytes that a string shares")) w,es)else k.runT p (w.setCell a v) (es.push ⟨.cell a,true,m==.atomic⟩)
     |none=>match w.farStore p a v (m==.atomic)with
       |.ok (w,b)=>k.runT p w (es++b.toArray.map (⟨.cell ·,true,m==.atomic⟩))
       |.error h=>(.halt h w,es)):=by
 cases v<;>first|exact .inr rfl|exact .inl ⟨_,rfl⟩
def Cr{α p m a v}{k:Sem α}{w es}(b:∀c,v≠.agg c/\v≠.tuple c):(Sem.store m a v k).runT p w es=(match w.cell? a with
   |some _=>if w.frozen? a then(.halt (.unsupported (.unsafePointer "a write to bytes that a string shares")) w,es)else k.runT p (w.setCell a v) (es.push ⟨.cell a,true,m==.atomic⟩)
   |none=>match w.farStore p a v (m==.atomic)with
     |.ok (w,d)=>k.runT p w (es++d.toArray.map (⟨.cell ·,true,m==.atomic⟩))
     |.error h=>(.halt h w,es)):=by
 cases v<;>first|rfl|exact absurd rfl (b _).1|exact absurd rfl (b _).2
def tq{G m M U}(ok:eX G U m M){a a'}(h:eQ G U λZ=>a'=cC Z a):∃c,U a.block=some c/\a'={a with block:=c}:=by
 have b:eQ G U λZ=>a'.block=Z a.block:=λZ r c=>by rw[h Z r c];rfl
 refine⟨a'.block,ok.dom b,?_⟩;have⟨Z,r,c⟩:=ok.one;rw[h Z r c];rfl
def TN{γ:Type}(A:Ask γ):∀w:World,w.drawn<=(w.ask A).2.drawn:=by induction A with
 |done a=>intro w;exact uS _
 |ask what range k ih=>
   intro w;simp only[World.ask];split;.exact ih 0 w
   .exact bI (zf _) (ih _ {w with drawn:=w.drawn+1})
def TP(c)(w:World):w.drawn<=(w.sys c).2.drawn:=by have h:=TN (Kernel.perform c w.os) w;unfold World.sys;revert h;generalize w.ask (Kernel.perform c w.os)=x;have⟨⟨r,os⟩,w'⟩:=x;intro h;cases r<;>first|exact L9|exact h
def abo(w:World):(w.sys .env).2=w:=rfl
def Db{p}{w w':World}{at_ k u v b l}(h:w.viewStore p at_ u k v b=.ok (w',l)):w'.drawn=w.drawn:=by
 simp[World.viewStore,bind,Except.bind]at h;repeat' split at h
 all_goals first|(cases h;done)|(cases h;rfl)
def qA{α p}(s:Sem α):∀w es,w.drawn<=(cV (s.runT p w es).1).drawn:=by induction s with
 |pure a=>intro w es;exact L9
 |load m a k b=>
   intro w es;simp only[Sem.runT];split;.simp_all
   .split;.simp_all
    .exact L9
 |store m a v k b=>
   intro w es;rcases EB (p:=p) (m:=m) (a:=a) (v:=v) (k:=k) (w:=w) (es:=es)with⟨h,e⟩|e;.rw[e];exact L9
   .rw[e];split
    .split;.exact L9
     .exact b (w.setCell a v) _
    .split
     .rename_i w' t h;have d:w'.drawn=w.drawn:=by
       unfold World.farStore at h;split at h
       .split at h;.rename_i f;cases h;exact Db f
        .cases h
       .cases h
      rw[<-d];exact b w' _
     .exact L9
 |new o k b=>intro w es;exact b _ {w with heap:=w.heap.push o} es
 |shape r k b=>intro w es;exact b _ w es
 |freeze a n k b=>
   intro w es;have:(w.freeze a n).drawn=w.drawn:=by unfold World.freeze;split<;>rfl
   rw[<-this];exact b (w.freeze a n) es
 |frozen a k b=>intro w es;exact b _ w es
 |getObj r k b=>
   intro w es;simp only[Sem.runT];split;.exact L9
   .simp_all
   .exact L9
 |setObj r o k b=>
   intro w es;simp only[Sem.runT];split;.exact L9
   .grind
   .exact L9
 |choose q k b=>
   simp only[Sem.runT];split;.simp_all
   .grind
 |sys c k b=>intro w es;exact bI (TP c w) (b _ (w.sys c).2 _)
 |program k b=>intro w es;exact b _ w es
 |mark m k b=>intro w es;exact b w _
 |halt h=>intro w es;exact L9
def Out.sP{α β p L G U W Q}{r:Result α×Array Event}{a:Result β×Array Event}(h:vA L (cV r.1) (cV a.1)):Out p L G U W Q r a:=by have⟨r,es⟩:=r;cases r<;>exact .inl h
def Out.qz{α β p L G U w W es Q}{s:Sem α}{b:Result β×Array Event}(h:eF p s):Out p L G U W Q (s.runT p w es) b:=by have⟨x,w',c,e,a⟩:=h w es;rw[e];exact .inr (.inl a)
def rM:=@Out.qz
def rN{α β p p' L G Q}(s:Sem α):∀(s':Sem β) (U:Nat->Option Nat) (w W:World) (es ES:Array Event),eX G U w W->WR p L G U w W->r9 G U es ES->(eQ G U λZ=>SR p p' Z (Q Z) s s')->Out p L G U W Q (s.runT p w es) (s'.runT p' W ES):=by
 induction s with
 |pure a=>intro s' U w W es ES ok wr ev y;refine(rF (eF p _)).elim (λl=>rM l) (λl=>?_);have⟨Z,r,c⟩:=ok.one;obtain⟨b,rfl,_⟩:=(y Z r c).Lx;refine .inr ⟨b,W,ES,U,rfl,nD _,ok,wr,He _ _,ev,λZ r c=>?_⟩;have⟨a9,e,q⟩:=(y Z r c).Lx;cases e;exact q
 |load m a k D=>
   intro s' U w W es ES ok wr ev y;refine(rF (eF p _)).elim (λl=>rM l) (λl=>?_);have⟨Z,r,c⟩:=ok.one;obtain⟨k',rfl,_⟩:=(y Z r c).Lz l;have u:eQ G U λd=>cC Z a=cC d a/\∀v,SR p p' d (Q d) (k v) (k' (bB d v)):=λd j g=>by have⟨N,e,q⟩:=(y d j g).Lz l;simp only[Sem.load.injEq]at e;have⟨_,J,F⟩:=e;exact⟨J,F▸q⟩
   have⟨x,B,R⟩:=tq ok (λd j g=>(u d j g).1);rw[R];simp only[Sem.runT];cases T:w.cell? a with
   |none=>have⟨o,o',A,H,O,M⟩:=wr.obj _ _ B;rw[kQ A O];exact .inr (.inl rfl)
   |some v=>have⟨au,ai,ao⟩:=wr.cell ok B T;rw[ai];refine D v (k' au) U w W _ _ ok wr (ev.push (λd j g=>?_) rfl) (λd j g=>by rw[ao d j g];exact(u d j g).2 v);rw[<-R,(u d j g).1];rfl
 |store m a v k D=>
   intro s' U w W es ES ok wr ev y;refine(rF (eF p _)).elim (λl=>rM l) (λl=>?_);have⟨Z,r,c⟩:=ok.one;obtain⟨k',rfl,_⟩:=(y Z r c).Ht l;have u:eQ G U λd=>cC Z a=cC d a/\bB Z v=bB d v/\SR p p' d (Q d) k k':=λd j g=>by have⟨N,e,q⟩:=(y d j g).Ht l;simp only[Sem.store.injEq]at e;have⟨_,J,F,ay⟩:=e;exact⟨J,F,ay▸q⟩
   have⟨x,B,R⟩:=tq ok (λd j g=>(u d j g).1);by_cases ah:∀c,v≠.agg c/\v≠.tuple c
   .have a4:∀c,bB Z v≠.agg c/\bB Z v≠.tuple c:=λc=>by cases v with
     |chan r=>rw[cL];exact⟨Ev Z r c,OS Z r c⟩
     |_=>simp_all
    rw[Cr ah,Cr a4,R];cases T:w.cell? a with
    |none=>have⟨o,o',A,H,O,M⟩:=wr.obj _ _ B;simp only[OT A O];exact .inr (.inl rfl)
    |some v0=>
      have⟨au,ai,ao⟩:=wr.cell ok B T;simp only[ai,wr.frozen ok B];split;.exact .inr (.inl rfl)
      .have⟨o,o',A,H,O,M⟩:=wr.obj _ _ B;cases o with
       |cells cs t f=>
         have⟨av,aj,k2⟩:=wr.cells ok B A;have ar:a.spot=none:=by
          rw[yq A]at T;split at T;.cases T
          .simp_all
         have J:=iQ (v:=v) A (ok.lt _ _ B).1 ar;have F:=iQ (w:=W) (a:={a with block:=x}) (v:=bB Z v) aj (ok.lt _ _ B).2 ar;have X:WR p L G U (w.setCell a v) (W.setCell {a with block:=x} (bB Z v)):=wr.gY ok B _ _ rfl (λd j g=>by simp only[dK];rw[k2 d j g,(u d j g).2.1,Km]) J F ⟨rfl,rfl,rfl⟩ ⟨rfl,rfl,rfl⟩
         have V:eX G U ↑(w.setCell a v) ↑(W.setCell {a with block:=x} (bB Z v)):=by rw[J,F];simpa using ok
         exact(D k' U _ _ _ _ V X (ev.push (λd j g=>by rw[<-R,(u d j g).1];rfl) rfl) (λd j g=>(u d j g).2.2)).weaken (nD _) (Fr.gY ok B F rfl rfl rfl rfl)
       |_=>rw[AJ A (by intros;simp)]at T;cases T
   .cases v<;>first|exact .inr (.inl rfl)|exact absurd (λc=>⟨S8,S8⟩) ah
 |new o k D=>
   intro s' U w W es ES ok wr ev y;refine(rF (eF p _)).elim (λl=>rM l) (λl=>?_);have⟨Z,r,c⟩:=ok.one;obtain⟨k',rfl,aa,_⟩:=(y Z r c).Ry l;have u:eQ G U λd=>dK Z o=dK d o/\∀v,d.gh v=none->SR p p' d (Q d) (k v) (k' (d v)):=λd j g=>by have⟨N,e,_,q⟩:=(y d j g).Ry l;simp only[Sem.new.injEq]at e;exact⟨e.1,e.2▸q⟩
   simp only[Sem.runT];let μ:Nat->Option Nat:=λb=>if b=(w:Nat)then some ↑W else U b;have P:μ (w:Nat)=some ↑W:=by simp[μ]
   have K:∀b,b≠(w:Nat)->μ b=U b:=λb h=>by simp[μ,h]
   have ex:Ext U μ:=λb c h=>by rw[K b (λe=>by have:=(ok.lt _ _ h).1;omega)];exact h
   have a7:eX G μ (w.heap.push o).size (W.heap.push (dK Z o)).size:=by
    refine⟨λa b c Y C=>?_,λb c C=>?_,λb c C=>?_,λb C=>ok.low b (by simp at C;omega)⟩
    .by_cases A:a=(w:Nat)<;>by_cases H:b=(w:Nat);.rw[A,H]
     .rw[A,P]at Y;rw[K b H]at C;cases Y;have:=(ok.lt _ _ C).2;omega
     .rw[H,P]at C;rw[K a A]at Y;cases C;have:=(ok.lt _ _ Y).2;omega
     .rw[K a A]at Y;rw[K b H]at C;exact ok.inj _ _ _ Y C
    .by_cases A:b=(w:Nat);.rw[A,P]at C;cases C;simp[A]
     .rw[K b A]at C;have:=ok.lt _ _ C;simp;omega
    .by_cases A:b=(w:Nat);.exact ok.low b (nL A.symm)
     .rw[K b A]at C;exact ok.real _ _ C
   have a8:WR p L G μ {w with heap:=w.heap.push o} {W with heap:=W.heap.push (dK Z o)}:=by
    refine⟨λb c C=>?_,wr.tape,wr.os,wr.KN,wr.tp⟩;by_cases A:b=(w:Nat);.rw[A,P]at C;cases C;exact⟨o,dK Z o,by simp[A],S8,aa,λd j g=>(u d j (g.Jk ex)).1⟩
    .rw[K b A]at C;have⟨a5,a6,H,O,M,az⟩:=wr.obj b c C;have:=ok.lt _ _ C;exact⟨a5,a6,by rw[y7 this.1,<-nN this.1];exact H,by rw[y7 this.2,<-nN this.2];exact O,M,az.ext ex⟩
   refine(D ↑w (k' ↑W) μ _ _ _ _ a7 a8 ⟨ev.all.ext ex,ev.quiet⟩ (λd j g=>?_)).weaken ex ?_;.have:=(u d j (g.Jk ex)).2 ↑w (by rw[j.gh];exact ok.low _ L9);rwa [g _ _ P]at this
   .refine⟨S8,λc ag ah=>by show(W.heap.push _)[c]?=_;rw[y7 ag,<-nN ag],λc A H=>⟨(w:Nat),?_⟩,λb c C ag=>?_,rfl,rfl,L9,rfl⟩
    .have ba:c<(W:Nat)+1:=by simpa using H
     rw[P];congr 1;omega
    .by_cases A:b=(w:Nat);.rw[A,P]at C;cases C;omega
     .rw[K b A]at C;exact C
 |shape E k D=>
   intro s' U w W es ES ok wr ev y;refine(rF (eF p _)).elim (λl=>rM l) (λl=>?_);have⟨Z,r,c⟩:=ok.one;obtain⟨k',rfl,_⟩:=(y Z r c).Hu l;have u:eQ G U λd=>Z E=d E/\∀v,SR p p' d (Q d) (k v) (k' v):=λd j g=>by have⟨N,e,q⟩:=(y d j g).Hu l;simp only[Sem.shape.injEq]at e;exact⟨e.1,e.2▸q⟩
   have B:=ok.dom (λd j g=>(u d j g).1);simp only[Sem.runT,wr.shape ok B];exact D _ _ U w W _ _ ok wr ev (λd j g=>(u d j g).2 _)
 |freeze a n k D=>
   intro s' U w W es ES ok wr ev y;refine(rF (eF p _)).elim (λl=>rM l) (λl=>?_);have⟨Z,r,c⟩:=ok.one;obtain⟨k',rfl,_⟩:=(y Z r c).Ew l;have u:eQ G U λd=>cC Z a=cC d a/\SR p p' d (Q d) k k':=λd j g=>by have⟨N,e,q⟩:=(y d j g).Ew l;simp only[Sem.freeze.injEq]at e;exact⟨e.1,e.2.2▸q⟩
   have⟨x,B,R⟩:=tq ok (λd j g=>(u d j g).1);rw[R];simp only[Sem.runT];by_cases ab:n=0
   .subst ab;have z:∀(w:World) (a:Addr),w.freeze a 0=w:=λw a=>by simp[World.freeze]
    rw[z,z];exact D _ U w W _ _ ok wr ev (λd j g=>(u d j g).2)
   .have⟨o,o',A,H,O,M⟩:=wr.obj _ _ B;have tp:∀(w:World) (a:Addr),(w.freeze a n).tape=w.tape/\(w.freeze a n).drawn=w.drawn/\(w.freeze a n).os=w.os/\(w.freeze a n).output=w.output:=λw a=>by simp[World.freeze,ab]
    by_cases ak:∃cs t f,o=.cells cs t f
    .obtain⟨cs,t,⟨lo,hi⟩,rfl⟩:=ak;have⟨av,aj,k2⟩:=wr.cells ok B A;have J:=Co (n:=n) A (ok.lt _ _ B).1 ab;have F:=Co (w:=W) (a:={a with block:=x}) (n:=n) aj (ok.lt _ _ B).2 ab;have X:WR p L G U (w.freeze a n) (W.freeze {a with block:=x} n):=wr.gY ok B _ _ rfl (λd j g=>by simp only[dK];rw[k2 d j g]) J F ⟨(tp _ _).1,(tp _ _).2.1,(tp _ _).2.2.1⟩ ⟨(tp _ _).1,(tp _ _).2.1,(tp _ _).2.2.1⟩
     have V:eX G U ↑(w.freeze a n) ↑(W.freeze {a with block:=x} n):=by rw[J,F];simpa using ok
     exact(D k' U _ _ _ _ V X ev (λd j g=>(u d j g).2)).weaken (nD _) (Fr.gY ok B F (tp _ _).1 (tp _ _).2.2.2 (tp _ _).2.1 (tp _ _).2.2.1)
    .have a2:∀cs t f,o≠.cells cs t f:=λcs t f e=>ak ⟨cs,t,f,e⟩;have a3:∀cs t f,o'≠.cells cs t f:=λcs t f e=>by have:=M Z r c;rw[e]at this;cases o<;>simp_all[dK]
     have J:=Cq (n:=n) A a2;have F:=Cq (w:=W) (a:={a with block:=x}) (n:=n) H a3;have V:eX G U ↑(w.freeze a n) ↑(W.freeze {a with block:=x} n):=by rw[J,F];exact ok
     have X:WR p L G U (w.freeze a n) (W.freeze {a with block:=x} n):=⟨λb c C=>by rw[J,F];exact wr.obj b c C,λi q hi=>by rw[(tp w a).1,(tp w a).2.1,(tp W _).1,(tp W _).2.1];exact wr.tape i q (by rw[(tp w a).2.1]at hi;exact hi),by rw[(tp w a).2.2.1,(tp W _).2.2.1];exact wr.os,by rw[(tp w a).2.1,(tp W _).2.1];exact wr.KN,by rw[(tp w a).1];exact wr.tp⟩;refine(D k' U _ _ _ _ V X ev (λd j g=>(u d j g).2)).weaken (nD _) ⟨by rw[F];exact L9,λc _ _=>by rw[F],λc A H=>by rw[F]at H;omega,λ_ _ h _=>h,(tp _ _).1,(tp _ _).2.2.2,nL (tp _ _).2.1.symm,(tp _ _).2.2.1⟩
 |frozen a k D=>
   intro s' U w W es ES ok wr ev y;refine(rF (eF p _)).elim (λl=>rM l) (λl=>?_);have⟨Z,r,c⟩:=ok.one;obtain⟨k',rfl,_⟩:=(y Z r c).Ex l;have u:eQ G U λd=>cC Z a=cC d a/\∀v,SR p p' d (Q d) (k v) (k' v):=λd j g=>by have⟨N,e,q⟩:=(y d j g).Ex l;simp only[Sem.frozen.injEq]at e;exact⟨e.1,e.2▸q⟩
   have⟨x,B,R⟩:=tq ok (λd j g=>(u d j g).1);rw[R];simp only[Sem.runT,wr.frozen ok B];exact D _ _ U w W _ _ ok wr ev (λd j g=>(u d j g).2 _)
 |getObj E k D=>
   intro s' U w W es ES ok wr ev y;refine(rF (eF p _)).elim (λl=>rM l) (λl=>?_);have⟨Z,r,c⟩:=ok.one;obtain⟨k',rfl,_⟩:=(y Z r c).Ey l;have u:eQ G U λd=>Z E=d E/\∀v,cJ p v=true->SR p p' d (Q d) (k v) (k' (dK d v)):=λd j g=>by have⟨N,e,q⟩:=(y d j g).Ey l;simp only[Sem.getObj.injEq]at e;exact⟨e.1,e.2▸q⟩
   have B:=ok.dom (λd j g=>(u d j g).1);have⟨o,o',A,H,O,M⟩:=wr.obj _ _ B;have K:=M Z r c;subst K;have hi:(dK Z o).isChan=o.isChan:=by cases o<;>rfl
   have goal:∀(af ae:Array Event),r9 G U af ae->Out p L G U W Q ((k o).runT p w af) ((k' (dK Z o)).runT p' W ae):=λaf ae π=>D _ _ U w W _ _ ok wr π (λd j g=>by have h:=(u d j g).2 o O;rwa [<-M d j g]at h)
   have π:r9 G U (es.push ⟨.obj E,false,o.isChan⟩) (ES.push ⟨.obj (Z E),false,o.isChan⟩):=ev.push (λd j g=>by rw[(u d j g).1];rfl) rfl;have:=goal _ _ π;cases o<;>simp only[Sem.runT,A,H,dK]<;>first|exact .inr (.inl rfl)|simpa only[dK,Obj.isChan]using this
 |setObj E I k D=>
   intro s' U w W es ES ok wr ev y;refine(rF (eF p _)).elim (λl=>rM l) (λl=>?_);have⟨Z,r,c⟩:=ok.one;obtain⟨k',rfl,aa,_⟩:=(y Z r c).Ez l;have u:eQ G U λd=>Z E=d E/\dK Z I=dK d I/\SR p p' d (Q d) k k':=λd j g=>by have⟨N,e,_,q⟩:=(y d j g).Ez l;simp only[Sem.setObj.injEq]at e;exact⟨e.1,e.2.1,e.2.2▸q⟩
   have B:=ok.dom (λd j g=>(u d j g).1);have⟨o,o',A,H,O,M⟩:=wr.obj _ _ B;have K:=M Z r c;subst K;have hi:(dK Z I).isChan=I.isChan:=by cases I<;>rfl
   have S:=ok.lt _ _ B;have J:w.heap.setIfInBounds E I=w.heap.set E I S.1:=by simp[Array.setIfInBounds,S.1]
   have F:W.heap.setIfInBounds (Z E) (dK Z I)=W.heap.set (Z E) (dK Z I) S.2:=by simp[Array.setIfInBounds,S.2]
   have X:WR p L G U {w with heap:=w.heap.setIfInBounds E I} {W with heap:=W.heap.setIfInBounds (Z E) (dK Z I)}:=wr.gY ok B _ _ aa (λd j g=>(u d j g).2.1) J F ⟨rfl,rfl,rfl⟩ ⟨rfl,rfl,rfl⟩;have V:eX G U (w.heap.setIfInBounds E I).size (W.heap.setIfInBounds (Z E) (dK Z I)).size:=by simpa using ok
   have π:r9 G U (es.push ⟨.obj E,true,I.isChan⟩) (ES.push ⟨.obj (Z E),true,(dK Z I).isChan⟩):=ev.push (λd j g=>by rw[hi,(u d j g).1];rfl) rfl;have goal:=(D k' U _ _ _ _ V X π (λd j g=>(u d j g).2.2)).weaken (nD _) (Fr.gY (W1:={W with heap:=W.heap.setIfInBounds (Z E) (dK Z I)}) ok B F rfl rfl rfl rfl);cases o<;>simp only[Sem.runT,A,H,dK]<;>first|exact .inr (.inl rfl)|exact goal
 |choose q k D=>
   intro s' U w W es ES ok wr ev y;refine(rF (eF p _)).elim (λl=>rM l) (λl=>?_);have⟨Z,r,c⟩:=ok.one;obtain⟨k',rfl,_⟩:=(y Z r c).EA l;have u:eQ G U λd=>∀v,SR p p' d (Q d) (k v) (k' v):=λd j g=>by have⟨N,e,q⟩:=(y d j g).EA l;simp only[Sem.choose.injEq]at e;exact e.2▸q
   simp only[Sem.runT];split;.exact D _ _ U w W _ _ ok wr ev (λd j g=>u d j g _)
   .by_cases a0:w.drawn<L.lim;.have h0:=wr.tape 0 q a0;simp only[DZ]at h0;rw[h0];have f:Fr U U W {W with drawn:=W.drawn+1}:=⟨L9,λ_ _ _=>rfl,λc (A:(W:Nat)<=c) (H:c<(W:Nat))=>by omega,λ_ _ h _=>h,rfl,rfl,zf _,rfl⟩;refine Out.weaken (nD _) f (D _ _ U {w with drawn:=w.drawn+1} {W with drawn:=W.drawn+1} _ _ ok ⟨wr.obj,λi q hi=>?_,wr.os,by have:=wr.KN;simp only[Int.natCast_add];omega,wr.tp⟩ ev (λd j g=>u d j g _));have:=wr.tape (1+i) q (by simp only at hi;omega);simpa[V3]using this
    .refine Out.sP ⟨?_,?_⟩;.have:=qA (p:=p) (k (q.cut (w.tape w.drawn q))) {w with drawn:=w.drawn+1} es;simp only at this;omega
     .have:=qA (p:=p') (k' (q.cut (W.tape W.drawn q))) {W with drawn:=W.drawn+1} ES;have bb:=wr.KN;simp only at this;omega
 |sys cl k D=>
   intro s' U w W es ES ok wr ev y;refine(rF (eF p _)).elim (λl=>rM l) (λl=>?_);have⟨Z,r,c⟩:=ok.one;obtain⟨rfl,k',rfl,_⟩:=(y Z r c).Rz l;have u:eQ G U λd=>∀v,SR p p' d (Q d) (k v) (k' v):=λd j g=>by have⟨_,N,e,q⟩:=(y d j g).Rz l;simp only[Sem.sys.injEq]at e;exact e.2▸q
   have A:(W.sys .env).1=(w.sys .env).1:=by have:=wr.os;have⟨aa,tp,dr,os,bc⟩:=W;simp only at this;subst this;rfl
   simp only[Sem.runT,abo,A];exact D _ _ U w W _ _ ok wr (ev.push (λd j g=>rfl) rfl) (λd j g=>u d j g _)
 |program k D=>
   intro s' U w W es ES ok wr ev y;refine(rF (eF p _)).elim (λl=>rM l) (λl=>?_);have⟨Z,r,c⟩:=ok.one;obtain⟨k',rfl,_⟩:=(y Z r c).Cn l;have u:eQ G U λd=>SR p p' d (Q d) (k p) (k' p'):=λd j g=>by have⟨N,e,q⟩:=(y d j g).Cn l;simp only[Sem.program.injEq]at e;exact e▸q
   simp only[Sem.runT];exact D _ _ U w W _ _ ok wr ev u
 |mark m k D=>
   intro s' U w W es ES ok wr ev y;refine(rF (eF p _)).elim (λl=>rM l) (λl=>?_);have⟨Z,r,c⟩:=ok.one;obtain⟨k',rfl,P,_⟩:=(y Z r c).LA l;have u:eQ G U λd=>Lu Z m=Lu d m/\SR p p' d (Q d) k k':=λd j g=>by have⟨N,e,_,q⟩:=(y d j g).LA l;simp only[Sem.mark.injEq]at e;exact⟨e.1,e.2▸q⟩
   simp only[Sem.runT];exact D _ U w W _ _ ok wr (ev.push (λd j g=>by rw[(u d j g).1];rfl) P) (λd j g=>(u d j g).2)
 |halt h=>
   intro s' U w W es ES ok wr ev y;refine(rF (eF p _)).elim (λl=>rM l) (λl=>?_);by_cases S:xR h=true;.exact .inr (.inl S)
   .have⟨Z,r,c⟩:=ok.one;rcases(y Z r c).LC with x|⟨rfl,u⟩;.exact absurd x S
    .refine .inr<|.inr ⟨u,Ji Z h,W,ES,U,rfl,nD _,ok,wr,He _ _,ev,λd j g=>?_⟩;rcases(y d j g).LC with x|⟨e,-⟩;.exact absurd x S
     .simpa using e
def iM(L:List Value):Prop:=∀v∈L,J7 v
def iM.push{L}(h:iM L){v}(c:J7 v):iM (L++[v]):=λx b=>by
 obtain a|a:=mN.1 b;.exact h x a
 .simp_all
def Sy1(L:List Value)(Z:Pi):Prop:=∀k x,L[k]?=some x->Z.s k=x
def Qz{α:Type}{L a}(h:L<+:a){k:Nat}{x:α}(e:L[k]?=some x):a[k]?=some x:=by obtain⟨t,rfl⟩:=h;rw[nz (cE.1 e).1];exact e
def Sy1.mono{L a Z}(h:Sy1 a Z)(e:L<+:a):Sy1 L Z:=λk x b=>h k x (Qz e b)
structure Ab (L : List Value) (v v' : Value) : Prop where
 to : ∀ Z, Sy1 L Z -> bB Z v' = v
 fix : ∀ Z : Pi, Z.s = Gs.self.s -> bB Z v' = v'
def Ab.mono{L a v b}(h:Ab L v b)(e:L<+:a):Ab a v b:=⟨λZ c=>h.to Z (c.mono e),h.fix⟩
def Ab.leaf{L v}:Ab (L++[v]) v (.chan (some L.length)):=by
 refine⟨λZ h=>?_,λZ h=>?_⟩;.rw[cL];exact h L.length v S8
 .rw[cL];show Z.s L.length=_;rw[h];rfl
def VU(v:Value):Prop:=∀L,iM L->∃L' v',L<+:L'/\iM L'/\Ab L' v v'
def J8:∀c,(∀v∈c,VU v)->∀L,iM L->∃(d b:List Value),L<+:d/\iM d/\(∀Z,Sy1 d Z->b.map (bB Z)=c)/\∀Z,Z.s=Gs.self.s->b.map (bB Z)=b
 |[],_,L,e=>⟨L,[],sQ _,e,λ_ _=>rfl,λ_ _=>rfl⟩
 |v::c,h,L,e=>by have⟨L1,l,k,l1,f⟩:=h v S8 L e;have⟨i,b,g,l2,t2,f2⟩:=J8 c (λx j=>h x (by simp[j])) L1 l1;exact⟨i,l::b,k.trans g,l2,λZ a=>by rw[kV,t2 Z a,(f.mono g).to Z a],λZ a=>by rw[kV,f2 Z a,f.fix Z a]⟩
def wO(b)(h:∀v∈b,VU v)(L)(d:iM L):∃(a:List Value) (c:Array Value),L<+:a/\iM a/\(∀Z,Sy1 a Z->c.map (bB Z)=b)/\∀Z,Z.s=Gs.self.s->c.map (bB Z)=c:=by
 have⟨a,l,p,e,t,f⟩:=J8 b.toList (λv i=>h v (by simpa using i)) L d;refine⟨a,l.toArray,p,e,λZ g=>?_,λZ g=>?_⟩;.simp_all
 .simp_all
def lF{v}(h:∀Z,bB Z v=v):VU v:=λL a=>⟨L,v,sQ _,a,⟨λZ _=>h Z,λZ _=>h Z⟩⟩
def vE{v}(h:J7 v):VU v:=λL a=>⟨L++[v],_,List.prefix_append _ _,a.push h,Ab.leaf⟩
def QA:∀n v,SizeOf.sizeOf v<n->VU v
 |0,_,h=>by omega
 |n+1,v,h=>by have o:=QA n;cases v with
   |bool b=>exact lF λZ=>by simp
   |int k i=>exact lF λZ=>by simp
   |float k i=>exact lF λZ=>by simp
   |complex k a b=>exact lF λZ=>by simp
   |string s=>exact lF λZ=>by simp
   |nilFunc=>exact lF λZ=>by simp
   |nilIface=>exact lF λZ=>by simp
   |pointer a=>cases a with
     |none=>exact lF λZ=>by simp
     |some a=>exact vE trivial
   |slice a l c=>cases a with
     |none=>exact lF λZ=>by simp
     |some a=>exact vE trivial
   |map r=>cases r with
     |none=>exact lF λZ=>by simp
     |some a=>exact vE trivial
   |chan r=>cases r with
     |none=>exact lF λZ=>by simp
     |some a=>exact vE trivial
   |iface t x=>intro L e;have⟨m,j,p,l,a⟩:=o x (by simp at h;omega) L e;exact⟨m,.iface t j,p,l,⟨λZ d=>by rw[cQ,a.to Z d],λZ d=>by rw[cQ,a.fix Z d]⟩⟩
   |agg cs=>intro L e;have⟨m,j,p,l,t,f⟩:=wO cs (λv g=>o v (by have:=QB g;simp at h;omega)) L e;exact⟨m,.agg j,p,l,⟨λZ d=>by rw[dB,t Z d],λZ d=>by rw[dB,f Z d]⟩⟩
   |tuple cs=>intro L e;have⟨m,j,p,l,t,f⟩:=wO cs (λv g=>o v (by have:=QB g;simp at h;omega)) L e;exact⟨m,.tuple j,p,l,⟨λZ d=>by rw[dL,t Z d],λZ d=>by rw[dL,f Z d]⟩⟩
   |func fn a b=>
     by_cases u:∃k,fn=.yield k;.obtain⟨k,rfl⟩:=u;exact vE trivial
     have q:∀Z,qs Z fn=fn:=λZ=>by cases fn<;>first|rfl|exact absurd ⟨_,rfl⟩ u
     intro L e;have⟨L1,j,p,l,t,f⟩:=wO a (λv g=>o v (by have:=QB g;simp at h;omega)) L e;have⟨y,z,w,l2,t2,f2⟩:=wO b (λv g=>o v (by have:=QB g;simp at h;omega)) L1 l;exact⟨y,.func fn j z,p.trans w,l2,⟨λZ d=>by rw[dO,q,t Z (d.mono w),t2 Z d],λZ d=>by rw[dO,q,f Z d,f2 Z d]⟩⟩
structure Sy(n:Nat)(L:List Value)(H:List Addr)(Z:Pi):Prop where
 s:Sy1 L Z
 gh:∀j x,H[j]?=some x->Z.gh (n+j)=some x
 real:∀b,b<n->Z.gh b=none
def Sy.mono{n L b H a Z}(h:Sy n b a Z)(e:L<+:b)(c:H<+:a):Sy n L H Z:=⟨h.s.mono e,λj x d=>h.gh j x (Qz c d),h.real⟩
def kp(N:Nat->Prop):Value->Prop
 |.int ..|.string _|.slice none _ _=>True
 |.slice (some a) _ _=>N a.block
 |.agg cs=>∀v∈cs,∃k n,v=.int k n
 |_=>False
def J9(Z){cs:Array Value}(h:∀v∈cs,∃k n,v=.int k n):cs.map (bB Z)=cs:=by apply yY;intro i;rw[kW];cases a:cs[i]? with
 |none=>rfl
 |some v=>obtain⟨k,n,rfl⟩:=h v (DV a);simp
structure Rl (n : Nat) (N : Nat -> Prop) (L : List Value) (H : List Addr) (v v' : Value) : Prop where
 to : ∀ Z, Sy n L H Z -> (∀ b, N b -> Z b = b) -> bB Z v' = v
 fix : ∀ Z : Pi, Z.s = Gs.self.s -> (∀ b, Z.gh b = none) -> (∀ b, N b -> Z b = b) -> (∀ j, j < H.length -> Z (n + j) = n + j) -> bB Z v' = v'
 keep : kp N v -> v' = v
 bare : ∀ a, v = .slice (some a) 0 0 -> ∃ a', v' = .slice (some a') 0 0
def Rl.mono{n N L b H a v d}(h:Rl n N L H v d)(e:L<+:b)(c:H<+:a):Rl n N b a v d:=⟨λZ o m=>h.to Z (o.mono e c) m,λZ f g i k=>h.fix Z f g i λj l=>k j (dV l c.length_le),h.keep,h.bare⟩
def adV{n N}(hN:∀b,N b->b<n)(v L H)(m:iM L):∃f q o,L<+:f/\H<+:q/\iM f/\Rl n N f q v o:=by
 by_cases d:kp N v
 .refine⟨L,H,v,sQ _,sQ _,m,⟨λZ g w=>?_,λZ j k r t=>?_,λ_=>rfl,λa e=>⟨a,e⟩⟩⟩
  .cases v<;>first|(cases d;done)|(simp;done)|exact(by rw[dB,J9 Z d])|skip
   rename_i a l c;cases a with
   |none=>simp
   |some a=>have i:=d;rw[bQ,oW,fE (g.real _ (hN _ i))];simp[cC,w _ i]
  .cases v<;>first|(cases d;done)|(simp;done)|exact(by rw[dB,J9 Z d])|skip
   rename_i a l c;cases a with
   |none=>simp
   |some a=>have i:=d;rw[bQ,oW,fE (k _)];simp[cC,r _ i]
 by_cases u:∃a,v=.slice (some a) 0 0
 .obtain⟨a,rfl⟩:=u;refine⟨L,H++[a],.slice (n+H.length,0) 0 0,sQ _,List.prefix_append _ _,m,⟨λZ g w=>?_,λZ j k r t=>?_,λh=>absurd h d,λ_ _=>⟨_,rfl⟩⟩⟩;.have:=g.gh H.length a S8;simp[yZ,this]
  .rw[bQ,oW,fE (k _)];simp[t H.length S8]
 .have⟨f,o,p,l,a⟩:=QA (SizeOf.sizeOf v+1) v (nK _) L m;exact⟨f,H,o,p,sQ _,l,⟨λZ g _=>a.to Z g.s,λZ j _ _ _=>a.fix Z j,λh=>absurd h d,λx e=>absurd ⟨x,e⟩ u⟩⟩
def IZ{n N}(hN:∀b,N b->b<n):∀(c:List Value) (L:List Value) (H:List Addr),iM L->∃(e:List Value) (j:List Addr) (d:List Value),L<+:e/\H<+:j/\iM e/\d.length=c.length/\∀(i:Nat) (v:Value),c[i]?=some v->∃a,d[i]?=some a/\Rl n N e j v a
 |[],L,H,f=>⟨L,H,[],sQ _,sQ _,f,rfl,λi v h=>by simp at h⟩
 |v::c,L,H,f=>by have⟨L1,m,a,r,s,l1,r1⟩:=adV hN v L H f;have⟨p,o,d,k,l,l2,q,r2⟩:=IZ hN c L1 m l1;refine⟨p,o,a::d,r.trans k,s.trans l,l2,by simp[q],λi x g=>?_⟩;cases i with
   |zero=>simp at g;subst g;exact⟨a,rfl,r1.mono k l⟩
   |succ i=>exact r2 i x (by simpa using g)
def RlO(n:Nat)(N:Nat->Prop)(L:List Value)(H:List Addr)(o o':Obj):Prop:=(∀cs' t f,o'=.cells cs' t f->∃cs,o=.cells cs t f)/\∀(cs:Array Value) (t:TypeId) (f:Nat×Nat),o=.cells cs t f->∃cs',o'=.cells cs' t f/\cs'.size=cs.size/\∀(i:Nat) (v:Value),cs[i]?=some v->∃v',cs'[i]?=some v'/\Rl n N L H v v'
def RlO.mono{n N L b H a o o'}(h:RlO n N L H o o')(e:L<+:b)(d:H<+:a):RlO n N b a o o':=⟨h.1,λcs t f l=>by have⟨c,g,j,k⟩:=h.2 cs t f l;exact⟨c,g,j,λi v m=>let⟨q,p,k2⟩:=k i v m;⟨q,p,k2.mono e d⟩⟩⟩
def aaX{n N}(hN:∀b,N b->b<n)(o L H)(g:iM L):∃c d o',L<+:c/\H<+:d/\iM c/\RlO n N c d o o':=by
 by_cases h:∃cs t f,o=.cells cs t f
 .obtain⟨cs,t,f,rfl⟩:=h;have⟨c,d,j,p,q,l,e,r⟩:=IZ hN cs.toList L H g;refine⟨c,d,.cells j.toArray t f,p,q,l,λk s f' a=>?_,λk s f' a=>?_⟩;.simp_all
  cases a;exact⟨j.toArray,rfl,by simpa using e,λi v m=>by simpa using r i v (by simpa using m)⟩
 .exact⟨L,H,o,sQ _,sQ _,g,λcs t f a=>⟨cs,a⟩,λcs t f a=>absurd ⟨cs,t,f,a⟩ h⟩
def Ka{n N}(hN:∀b,N b->b<n):∀(os:List Obj) (L:List Value) (H:List Addr),iM L->∃(a:List Value) (e:List Addr) (f:List Obj),L<+:a/\H<+:e/\iM a/\f.length=os.length/\∀(i:Nat) (o:Obj),os[i]?=some o->∃o',f[i]?=some o'/\RlO n N a e o o'
 |[],L,H,c=>⟨L,H,[],sQ _,sQ _,c,rfl,λi v h=>by simp at h⟩
 |v::t,L,H,c=>by have⟨L1,l,k,r,s,l1,r1⟩:=aaX hN v L H c;have⟨p,m,u,g,j,l2,q,r2⟩:=Ka hN t L1 l l1;refine⟨p,m,k::u,r.trans g,s.trans j,l2,by simp[q],λi x d=>?_⟩;cases i with
   |zero=>simp at d;subst d;exact⟨k,rfl,r1.mono g j⟩
   |succ i=>exact r2 i x (by simpa using d)
theorem wV{Z n}(a:∀v,oY n v=true->bB Z v=v){cs:Array Value}(h:cs.all (oY n)=true):cs.map (bB Z)=cs:=by grind
theorem EC(Z):∀n v,oY n v=true->bB Z v=v
 |0,_,h=>by cases h
 |n+1,v,h=>by have c:=EC Z n;cases v with
   |pointer a=>cases a<;>simp_all[oY]
   |slice a=>cases a<;>simp_all[oY]
   |map a=>cases a<;>simp_all[oY]
   |chan a=>cases a<;>simp_all[oY]
   |iface t v=>rw[cQ,c v h]
   |agg cs=>rw[dB,wV c h]
   |tuple cs=>rw[dL,wV c h]
   |func f a b=>simp only[oY,dJ]at h;rw[dO,wV c h.1.2,wV c h.2];cases f<;>first|rfl|(exact absurd h.1.1 S8)
   |_=>simp
theorem ED(Z v)(h:Jj v=true):bB Z v=v:=EC Z 5 v h
def AQ(n:Nat):TypeDesc->Bool
 |.pointer e|.slice e|.array _ e|.chan _ e=>decide (e<n)
 |.map k e=>decide (k<n)&&decide (e<n)
 |.struct fs=>fs.all λf=>decide (f.type<n)
 |.func a b _=>a.all (decide<|·<n)&&b.all (decide<|·<n)
 |.tuple ts=>ts.all (decide<|·<n)
 |.named _ u=>decide (u<n)
 |_=>true
structure Fit(G:Gs)(p p':Program):Prop where
 tab:p'.toTables={p.toTables with globals:=p'.globals,rt:=p'.rt}
 rts:{p'.rt with typeAssertionError:=p.rt.typeAssertionError}=p.rt
 ta:∀e,p.underlying p.rt.typeAssertionError≠some (.pointer e)
 zero:∀i∈p.types,∀v,i.zero=some v->Jj v=true
 desc:∀i∈p.types,AQ p.types.size i.desc=true
 none:p.globals.size=0
 fol:p.follows .rangeFuncRecover=true
 afN:p'.globals.size<=1
section
variable{G:Gs}{p p':Program}(F:Fit G p p')
include F
theorem Fit.ex:∃a r,p'.toTables={p.toTables with globals:=a,rt:=r}:=⟨_,_,F.tab⟩
theorem Fit.types:p'.types=p.types:=by obtain⟨a,r,h⟩:=F.ex;rw[h]
theorem Fit.cut:p'.cutTypes=p.cutTypes:=by obtain⟨a,r,h⟩:=F.ex;rw[h]
theorem Fit.inits:p'.inits=p.inits:=by obtain⟨a,r,h⟩:=F.ex;rw[h]
theorem Fit.follow:p'.follow=p.follow:=by obtain⟨a,r,h⟩:=F.ex;rw[h]
theorem Fit.infoAt:∀n t,Made.infoAt p'.toTables n t=Made.infoAt p.toTables n t
 |0,_=>rfl
 |n+1,t=>by have a:=funext (Fit.infoAt n);simp[Made.infoAt,F.types,a]
theorem Fit.info(t):p'.info? t=p.info? t:=by simp[Tables.info?,F.types,F.infoAt]
theorem Fit.under(t):p'.underlying t=p.underlying t:=by simp[Program.underlying,F.info]
theorem Fit.cellsOf(t):p'.cellsOf t=p.cellsOf t:=by simp[Program.cellsOf,F.info]
theorem Fit.bytesOf(t):p'.bytesOf t=p.bytesOf t:=by simp[Program.bytesOf,F.info]
theorem Fit.depth:p'.depth=p.depth:=by simp[Program.depth,F.types]
end
theorem EE{p:Program}{t:TypeId}{i}(a:t<p.types.size)(h:p.info? t=some i):i∈p.types:=by simp only[Tables.info?,a]at h;exact DV h
theorem EF{G p p'}(F:Fit G p p'){t:TypeId}{d}(c:t<p.types.size)(h:p.underlying t=some d):AQ p.types.size d=true:=by simp[Program.underlying]at h;cases hi:p.info? t with
 |none=>rw[hi]at h;cases h
 |some i=>have a:=F.desc i (EE c hi);rw[hi]at h;have⟨desc,_,_,_,_,_,_,_,_,_⟩:=i;cases desc with
   |named n u=>simp[AQ]at a;simp only at h;cases b:p.info? u with
     |none=>rw[b]at h;cases h
     |some j=>rw[b]at h;cases h;exact F.desc j (EE a b)
   |_=>cases h;exact a
section
variable{G:Gs}{p p':Program}{Z:Pi}(F:Fit G p p')(R:Rn G Z)
variable{α β:Type}{Q:α→β→Prop}
theorem iE{f f'}(h:SR p p' Z Q (f p) (f' p')):SR p p' Z Q (program>>=f) (program>>=f'):=SR.program h
theorem Dx{s s'}:SR p p' Z Q (stuck s) s':=aM rfl
theorem XP{u s'}(h:xR (.unsupported u)=true):SR p p' Z Q (unsupported u) s':=aM h
theorem Dy{a m}:SR p p' Z (λv b=>b=bB Z v) (load a m) (load (cC Z a) m):=SR.load λ_=>SR.pure rfl
theorem XQ{a v m}:SR p p' Z (λ_ _=>True) (store a v m) (store (cC Z a) (bB Z v) m):=SR.store (SR.pure trivial)
theorem qj{o}(a:cJ p o=true):SR p p' Z (λr b=>b=Z r) (newObj o) (newObj (dK Z o)):=SR.new a λ_ _=>SR.pure rfl
theorem OU{o}(a:cJ p o=true):SR p p' Z (λr b=>b=Z r/\Z.gh r=none) (newObj o) (newObj (dK Z o)):=SR.new a λ_ h=>SR.pure ⟨rfl,h⟩
theorem nV{r}:SR p p' Z (λs s'=>s'=s) (shape r) (shape (Z r)):=SR.shape λ_=>SR.pure rfl
theorem wW{a}:SR p p' Z (λs s'=>s'=s) (frozen a) (frozen (cC Z a)):=SR.frozen λ_=>SR.pure rfl
theorem Hv{a n}:SR p p' Z (λ_ _=>True) (freeze a n) (freeze (cC Z a) n):=SR.freeze (SR.pure trivial)
theorem gZ{r}:SR p p' Z (λo o'=>o'=dK Z o) (getObj r) (getObj (Z r)):=SR.getObj λ_ _=>SR.pure rfl
theorem yr{r}:SR p p' Z (λo o'=>o'=dK Z o/\cJ p o=true) (getObj r) (getObj (Z r)):=SR.getObj λ_ h=>SR.pure ⟨rfl,h⟩
theorem gI{r o}(a:cJ p o=true):SR p p' Z (λ_ _=>True) (setObj r o) (setObj (Z r) (dK Z o)):=SR.setObj a (SR.pure trivial)
theorem iA{q}:SR p p' Z (λn a=>a=n) (choose q) (choose q):=SR.choose λ_=>SR.pure rfl
theorem Jl{m}(h:okM m=true:=by rfl):SR p p' Z (λ_ _=>True) (mark m) (mark (Lu Z m)):=SR.mark h (SR.pure trivial)
theorem eN{c}[Decidable c]{s t s' a}(h:SR p p' Z Q s s')(b:SR p p' Z Q t a):SR p p' Z Q (if c then s else t) (if c then s' else a):=by grind
theorem abp{c}[Decidable c]{s t s' a}(h:c->SR p p' Z Q s s')(b:¬c->SR p p' Z Q t a):SR p p' Z Q (if c then s else t) (if c then s' else a):=by grind
include F
theorem fS(t):SR p p' Z (λi a=>a=i/\p.info? t=some i) (typeInfo t) (typeInfo t):=by refine iE ?_;rw[F.info];cases h:p.info? t with
 |none=>exact Dx
 |some i=>exact aN ⟨rfl,rfl⟩
theorem aR(t):SR p p' Z (λi a=>a=i/\p.underlying t=some i) (underlying t) (underlying t):=by refine iE ?_;rw[F.under];cases h:p.underlying t with
 |none=>exact Dx
 |some i=>exact aN ⟨rfl,rfl⟩
theorem dZ(t):SR p p' Z (λi a=>a=i) (sizeOf t) (sizeOf t):=by refine aK (fS F t) ?_;rintro _ _ ⟨rfl,_⟩;exact aN rfl
theorem fW{t:TypeId}(a:t<p.types.size):SR p p' Z (λv c=>c=v/\bB Z v=v) (zeroValue t) (zeroValue t):=by refine aK (fS F t) ?_;rintro _ i ⟨rfl,hi⟩;cases b:i.zero with
 |none=>exact XP rfl
 |some v=>exact aN ⟨rfl,ED Z v (F.zero i (EE a hi) v b)⟩
theorem LD(t):SR p p' Z (λi a=>a=i) (isAgg t) (isAgg t):=by refine aK (aR F t) ?_;rintro _ d ⟨rfl,_⟩;cases d<;>exact aN rfl
omit F in
theorem tu(a):∀n i acc,SR p p' Z (λv b=>b=v.map (bB Z)) (loadCellsFrom a i n acc) (loadCellsFrom (cC Z a) i n (acc.map (bB Z)))
 |0,_,_=>aN rfl
 |n+1,i,acc=>by
   refine aK (Q:=λv b=>b=bB Z v) ?_ ?_;.rw[<-zD];exact Dy
   .rintro v _ rfl;rw[<-Array.map_push];exact tu a n (i+1) (acc.push v)
omit F in
theorem zF(a n):SR p p' Z (λv b=>b=v.map (bB Z)) (loadCells a n) (loadCells (cC Z a) n):=by have:=tu (p:=p) (p':=p') (Z:=Z) a n 0 #[];simpa[loadCells]using this
omit F in
theorem px(a):∀b i,SR p p' Z (λ_ _=>True) (storeCells a b i) (storeCells (cC Z a) (b.map (bB Z)) i)
 |[],_=>aN trivial
 |v::b,i=>by
   refine aK (Q:=λ_ _=>True) ?_ ?_;.rw[<-zD];exact XQ
   .intro _ _ _;exact px a b (i+1)
theorem tY(t a):SR p p' Z (λv c=>c=bB Z v) (loadVar t a) (loadVar t (cC Z a)):=by
 refine aK (LD F t) ?_;rintro _ b rfl;cases b;.exact Dy
 .refine aK (dZ F t) ?_;rintro _ n rfl;refine aK (zF a n) ?_;rintro v _ rfl;exact aN S8
theorem LF(t a v):SR p p' Z (λ_ _=>True) (storeVar t a v) (storeVar t (cC Z a) (bB Z v)):=by
 refine aK (dZ F t) ?_;rintro _ n rfl;rw[mB,G5];by_cases h:v.cells.size≠n;.rw[bD h];exact aM rfl
 .rw[aT h,aT h];simp;exact px a _ 0
omit F in
theorem xU(a n l c)(h:l=0->c=0->n=0):SR p p' Z (λv d=>d=v.map (bB Z)) (loadCells a n) (loadCells (yZ Z l c a) n):=by
 by_cases b:l=0/\c=0;.have:=h b.1 b.2;subst this;exact aN S8
 .rw[qi b];exact zF a n
omit F in
theorem vS(a b x l c)(h:l=0->c=0->b=[]):SR p p' Z (λ_ _=>True) (storeCells (a.add x) b) (storeCells ((yZ Z l c a).add x) (b.map (bB Z))):=by
 by_cases d:l=0/\c=0;.have:=h d.1 d.2;subst this;exact aN trivial
 .rw[qi d,<-zD];exact px _ b 0
omit F in
theorem TQ(e cs):SR p p' Z (λa a'=>a'=cC Z a) (newRow e cs) (newRow e (cs.map (bB Z))):=by refine aK (qj (o:=.cells cs e) rfl) ?_;rintro r _ rfl;exact aN rfl
omit F in
theorem qB(e cs):SR p p' Z (λa a'=>a'=cC Z a/\Z.gh a.block=none) (newRow e cs) (newRow e (cs.map (bB Z))):=by refine aK (OU (o:=.cells cs e) rfl) ?_;rintro r _ ⟨rfl,h⟩;exact aN ⟨rfl,h⟩
omit F in
theorem AR(e v):SR p p' Z (λa a'=>a'=cC Z a) (newVar e v) (newVar e (bB Z v)):=by simp[newVar];exact TQ e _
theorem Hw(t):SR p p' Z (λa a'=>a'=a) (elemOf t) (elemOf t):=by refine aK (aR F t) ?_;rintro _ d ⟨rfl,_⟩;cases d<;>first|exact aN rfl|exact Dx
theorem kZ(t cs off):SR p p' Z (λv a=>a=bB Z v) (part t cs off) (part t (cs.map (bB Z)) off):=by
 refine aK (LD F t) ?_;rintro _ b rfl;cases b;.rw[kW];cases cs[off]? with
  |none=>exact Dx
  |some v=>exact aN rfl
 .refine aK (dZ F t) ?_;rintro _ n rfl;exact aN S8
omit F in
theorem qC(v):SR p p' Z (λx b=>b=x) (asIntOf v) (asIntOf (bB Z v)):=by cases v with
 |int k n=>rw[cN];exact aN rfl
 |pointer a=>cases a<;>exact aM rfl
 |_=>exact aM rfl
omit F in
theorem AU(v):SR p p' Z (λx a=>a=x) (asBool v) (asBool (bB Z v)):=by cases v with
 |bool k=>rw[eG];exact aN rfl
 |_=>exact aM rfl
omit F in
theorem rO(v):SR p p' Z (λx b=>b=cC Z x) (Instr.sureAddr v) (Instr.sureAddr (bB Z v)):=by cases v with
 |pointer a=>cases a with
   |none=>exact aM rfl
   |some a=>rw[bF];exact aN rfl
 |_=>exact aM rfl
end
section
variable{G:Gs}{p p':Program}{Z:Pi}(F:Fit G p p')(R:Rn G Z)
variable{α β:Type}{Q:α→β→Prop}
abbrev VR(Z:Pi)(v v':Value):Prop:=v'=bB Z v
theorem ng{v a}(h:a=bB Z v):SR p p' Z Q (goPanic v) (goPanic a):=by subst h;exact SR.halt rfl
include F R
omit F R in
theorem LG{t Q}{s':Sem TypeId}(h:∀e,p.underlying t≠some (.pointer e))(f:∃k,s'=.program k):SR p p' Z Q (elemOf t) s':=by
 obtain⟨k,rfl⟩:=f;have e:∃k0:Program->Sem TypeId,elemOf t=.program k0/\((∀e,p.underlying t≠some (.pointer e))->∃s,k0 p=.halt (.stuck s)):=by refine⟨_,rfl,λh=>?_⟩;simp[Sem.bind];cases g:p.underlying t with
  |none=>exact⟨_,rfl⟩
  |some d=>rw[g]at h;cases d<;>first|exact absurd rfl (h _)|exact⟨_,rfl⟩
 have⟨k0,a,b⟩:=e;have⟨s,c⟩:=b h;rw[a];exact SR.program (by rw[c];exact aM rfl)
def ady:RuntimeError->Bool
 |.unhashable _=>true
 |_=>false
omit R in
theorem bK(e)(k:ady e=false:=by rfl):SR p p' Z Q (runtimePanic e) (runtimePanic e):=by
 have b:=F.rts;have f:p'.rt.boundsError=p.rt.boundsError:=by rw[<-b]
 have d:p'.rt.errorString=p.rt.errorString:=by rw[<-b]
 have g:p'.rt.plainError=p.rt.plainError:=by rw[<-b]
 have j:p'.rt.panicNilError=p.rt.panicNilError:=by rw[<-b]
 refine iE ?_;cases e with
 |bounds x y s c=>simp[f];exact ng S8
 |error m=>simp[d];exact ng (by simp[strVal])
 |plain m=>simp[g];exact ng (by simp[strVal])
 |nilDeref=>simp[d];exact ng (by simp[strVal])
 |typeAssertion i c a m=>exact aK (Q:=λ_ _=>False) (LG F.ta ⟨_,rfl⟩) (λ_ _ h=>h.elim)
 |panicNil=>simp[j];refine aK (Hw F _) ?_;rintro _ e rfl;refine aK (Q:=λa a'=>a'=cC Z a) (by simpa using AR (p:=p) (p':=p') (Z:=Z) e (.agg #[])) ?_;rintro a _ rfl;exact ng S8
 |unhashable t=>cases k
theorem iC(k x y c):SR p p' Z Q (boundsPanic k x y c) (boundsPanic k x y c):=by
 unfold boundsPanic;split;.refine aK (Q:=λa b=>b=a) (Rv (f:=λn=>Sem.pure (n==1)) (f':=λn=>Sem.pure (n==1)) iA (by rintro _ n rfl;exact SR.pure rfl)) ?_;rintro _ s rfl;exact bK F _
 .refine aK (Q:=λa b=>b=a) (aN rfl) ?_;rintro _ s rfl;exact bK F _
theorem AV(v):SR p p' Z (λx b=>b=cC Z x) (asAddr v) (asAddr (bB Z v)):=by cases v with
 |pointer a=>cases a with
   |none=>rw[bF];exact(bK F .nilDeref:SR p p' Z _ (runtimePanic .nilDeref) (runtimePanic .nilDeref))
   |some a=>rw[bF];exact aN rfl
 |_=>exact aM rfl
omit R
theorem XR{t:TypeId}(b:t<p.types.size):SR p p' Z (VR Z) (Instr.alloc t true (.tuple #[])) (Instr.alloc t true (.tuple #[])):=by refine aK (fW F b) ?_;rintro _ v ⟨rfl,c⟩;refine aK (Q:=λa a'=>a'=cC Z a) (by have:=AR (p:=p) (p':=p') (Z:=Z) t v;rwa [c]at this) ?_;rintro a _ rfl;exact aN (by simp[VR])
omit F in
theorem aem(t v):SR p p' Z (VR Z) (Instr.box t v) (Instr.box t (bB Z v)):=by refine aK (AR t v) ?_;rintro a _ rfl;exact aN (by simp[VR])
theorem TR(t v):SR p p' Z (VR Z) (Instr.loadAt t v) (Instr.loadAt t (bB Z v)):=by refine aK (rO v) ?_;rintro a _ rfl;exact tY F t a
theorem OV(t v x):SR p p' Z (λ_ _=>True) (Instr.storeAt t v x) (Instr.storeAt t (bB Z v) (bB Z x)):=by refine aK (rO v) ?_;rintro a _ rfl;exact LF F t a x
omit F in
theorem Hx(r):SR p p' Z (λx b=>b=x.map λ(a,t)=>(cC Z a,t)) (viewAt r) (viewAt (Z r)):=by refine aK nV ?_;rintro _ s rfl;cases s with
 |some s=>exact aN rfl
 |none=>refine aK gZ ?_;rintro o _ rfl;cases o<;>exact aN rfl
omit F in
theorem Cs(r):SR p p' Z (λx b=>b=x.map λ(a,t)=>(cC Z a,t)) (numberAt r) (numberAt (Z r)):=by refine aK nV ?_;rintro _ s rfl;cases s with
 |some s=>exact aN rfl
 |none=>refine aK gZ ?_;rintro o _ rfl;cases o<;>exact aN rfl
omit F in
theorem gK(a):SR p p' Z (λx b=>b=(cC Z x.1,x.2)) (behindNumber a) (behindNumber (cC Z a)):=by refine aK (Cs a.block) ?_;rintro x _ rfl;cases x<;>exact aN rfl
omit F in
theorem LI(a b):SR p p' Z (VR Z) (asNumber a b) (asNumber (cC Z a) b):=by refine aK (qj (o:=.number a b) rfl) ?_;rintro r _ rfl;exact aN (by simp[VR])
omit F in
theorem AW(a):SR p p' Z (λ_ _=>True) (noView a) (noView (cC Z a)):=by refine aK (Hx a.block) ?_;rintro x _ rfl;cases x with
 |none=>exact aN trivial
 |some x=>exact aM rfl
theorem xV(d t c):byteOfCell p' d t c=byteOfCell p d t c:=by induction d generalizing t c with
 |zero=>rfl
 |succ d a=>simp[byteOfCell,F.under,F.bytesOf,F.cellsOf,a]
theorem AX(a):SR p p' Z (λx b=>b=x) (byteOf a) (byteOf (cC Z a)):=by simp[byteOf];cases a.spot with
 |some s=>exact aN rfl
 |none=>refine iE ?_;refine aK (AW a) ?_;intro _ _ _;refine aK nV ?_;rintro _ s rfl;cases s with
   |none=>exact aM rfl
   |some s=>
     simp[F.cellsOf,F.bytesOf,F.depth,xV F];split;.exact aN rfl
     .split;.exact aN rfl
      .exact aM rfl
theorem TS(a c b):SR p p' Z (λx d=>d=cC Z x) (partAt a c b) (partAt (cC Z a) c b):=by refine aK (AX F a) ?_;rintro _ n rfl;refine aK (Q:=λx d=>d=x) (AX F {block:=a.block,off:=a.off+c}) ?_;rintro _ m rfl;refine aN ?_;split<;>rfl
theorem se(a f):SR p p' Z (λx b=>b=cC Z x) (fieldPlace a f) (fieldPlace (cC Z a) f):=by
 refine aK (dZ F f.type) ?_;rintro _ n rfl;split;.exact TS F a _ _
 .exact aN (by rw[zD])
theorem OW(s v i):SR p p' Z (VR Z) (Instr.fieldAt s v i) (Instr.fieldAt s (bB Z v) i):=by refine aK (aR F s) ?_;rintro _ d ⟨rfl,_⟩;cases d with
 |struct fields=>simp only;cases fields[i]? with
   |none=>exact aM rfl
   |some f=>refine aK (rO v) ?_;rintro a _ rfl;refine aK (se F a f) ?_;rintro a _ rfl;exact aN (by simp[VR])
 |_=>exact aM rfl
include R
theorem GA(v y c):SR p p' Z (λx a=>a=x/\x<=y) (Instr.sliceBound v y c) (Instr.sliceBound (bB Z v) y c):=by
 refine aK (qC v) ?_;rintro _ ⟨k,i⟩ rfl;simp only;split;.exact aN ⟨rfl,O9⟩
 .exact iC F R _ _ _ _
def nw(Z:Pi):Value->Prop
 |.pointer (some a)=>Z.gh a.block=none
 |.slice (some a) l c=>Z.gh a.block=none\/(l=0/\c=0)
 |_=>True
omit F R in
theorem add_block(a:Addr)(n):(a.add n).block=a.block:=by simp[Addr.add];split<;>rfl
theorem nW(b l c lo hi a):SR p p' Z (λx d=>d=x/\(l=0->c=0->x=(0,0,0))) (Instr.sliceBounds b l c lo hi a) (Instr.sliceBounds b l c (lo.map (bB Z)) (hi.map (bB Z)) (a.map (bB Z))):=by cases a<;>cases hi<;>cases lo<;>simp;all_goals repeat' (first|exact aN ⟨rfl,λe f=>by simp;omega⟩|refine aK (GA F R _ _ _) ?_|refine aK (Q:=λx d=>d=x/\x=_) (aN ⟨rfl,rfl⟩) ?_|exact aM rfl|(rintro _ _ ⟨rfl,_⟩))
theorem XS(t x)(g:nw Z x)(lo hi c):SR p p' Z (VR Z) (Instr.slice t x lo hi c) (Instr.slice t (bB Z x) (lo.map (bB Z)) (hi.map (bB Z)) (c.map (bB Z))):=by refine aK (aR F t) ?_;rintro _ d ⟨rfl,_⟩;cases d with
 |string=>cases x with
   |string s=>
     simp;split;.exact aM rfl
     .refine aK (nW F R false _ _ lo hi none) ?_;rintro _ ⟨l,h,m⟩ ⟨rfl,-⟩;exact aN (by simp[VR])
   |_=>exact aM rfl
 |slice e=>cases x with
   |slice a len cap=>simp;refine aK (nW F R true _ _ lo hi c) ?_;rintro _ ⟨l,h,m⟩ ⟨rfl,i⟩;refine aK (dZ F e) ?_;rintro _ n rfl;refine aN ?_;simp[VR];cases a with
     |none=>split<;>rfl
     |some a=>
       rcases(g:Z.gh a.block=none\/(len=0/\cap=0))with b|⟨rfl,rfl⟩
       .have f:Z.gh (a.add (l*n)).block=none:=by rw[add_block];exact b
        split<;>simp[fE b,fE f]
       .simp_all
   |_=>exact aM rfl
 |pointer arr=>
   refine aK (Q:=λa a'=>a'=cC Z a/\Z.gh a.block=none) ?_ ?_;.cases x with
    |pointer a=>cases a with
      |none=>rw[bF];exact(bK F .nilDeref:SR p p' Z _ (runtimePanic .nilDeref) (runtimePanic .nilDeref))
      |some a=>rw[bF];exact aN ⟨rfl,g⟩
    |_=>exact aM rfl
   rintro a _ ⟨rfl,b⟩;refine aK (aR F arr) ?_;rintro _ d ⟨rfl,_⟩;cases d with
   |array n e=>
     refine aK (nW F R false _ _ lo hi c) ?_;rintro _ ⟨l,h,m⟩ ⟨rfl,-⟩;refine aK (dZ F e) ?_;rintro _ n rfl;refine aN ?_;have f:Z.gh (a.add (l*n)).block=none:=by rw[add_block];exact b
     simp[VR];split<;>simp[fE b,fE f]
   |_=>exact aM rfl
 |_=>exact aM rfl
theorem OX(t x)(f:nw Z x)(lo hi b):SR p p' Z (VR Z) (Instr.sliceAt t x lo hi b) (Instr.sliceAt t (bB Z x) (lo.map (bB Z)) (hi.map (bB Z)) (b.map (bB Z))):=by refine aK (aR F t) ?_;rintro _ d ⟨rfl,_⟩;cases d with
 |array n e=>
   refine aK (Q:=λa a'=>a'=cC Z a/\Z.gh a.block=none) ?_ ?_;.cases x with
    |pointer a=>cases a with
      |none=>exact aM rfl
      |some a=>rw[bF];exact aN ⟨rfl,f⟩
    |_=>exact aM rfl
   rintro a _ ⟨rfl,c⟩;refine aK (nW F R false _ _ lo hi b) ?_;rintro _ ⟨l,h,m⟩ ⟨rfl,-⟩;refine aK (dZ F e) ?_;rintro _ n rfl;refine aN ?_;have g:Z.gh (a.add (l*n)).block=none:=by rw[add_block];exact c
   simp[VR];split<;>simp[fE c,fE g]
 |_=>exact XS F R t x f lo hi b
theorem OY(t x i):SR p p' Z (VR Z) (Instr.indexAt t x i) (Instr.indexAt t (bB Z x) (bB Z i)):=by refine aK (qC i) ?_;rintro _ ⟨k,i⟩ rfl;refine aK (aR F t) ?_;rintro _ d ⟨rfl,_⟩;cases d with
 |array n e=>refine aK (rO x) ?_;rintro a _ rfl;.refine aK (Q:=λ(a b:Option Addr×Nat×TypeId)=>b=(a.1.map (cC Z),a.2.1,a.2.2)) (aN rfl) ?_;rintro⟨base,len,elem⟩ _ rfl;refine aK (aR F t) ?_;rintro _ d ⟨rfl,_⟩;cases base with
    |none=>exact iC F R _ _ _ _
    |some a=>
      simp;split;.refine aK (dZ F elem) ?_;rintro _ n rfl;exact aN (by simp[VR])
      .repeat' split
       all_goals first|exact iC F R _ _ _ _|exact aM rfl
 |slice e=>cases x with
   |slice a l c=>rw[bQ];refine aK (Q:=λ(a b:Option Addr×Nat×TypeId)=>∃c,b=(La Z a.1 a.2.1 c,a.2.1,a.2.2)) (aN ⟨c,rfl⟩) ?_;rintro⟨base,len,elem⟩ _ ⟨c,rfl⟩;refine aK (aR F t) ?_;rintro _ d ⟨rfl,_⟩;cases base with
     |none=>exact iC F R _ _ _ _
     |some a=>
       simp;split;.refine aK (dZ F elem) ?_;rintro _ n rfl;have f:yZ Z len c a=cC Z a:=qi O9;exact aN (by simp[VR,f])
       .repeat' split
        all_goals first|exact iC F R _ _ _ _|exact aM rfl
   |_=>exact aM rfl
 |_=>exact aM rfl
theorem XT(t x i):SR p p' Z (VR Z) (Instr.index t x i) (Instr.index t (bB Z x) (bB Z i)):=by refine aK (qC i) ?_;rintro _ ⟨k,i⟩ rfl;refine aK (aR F t) ?_;rintro _ d ⟨rfl,_⟩;cases d with
 |array n e=>cases x with
   |agg cs=>
     simp;split;.refine aK (dZ F e) ?_;rintro _ n rfl;exact kZ F e cs _
     .exact iC F R _ _ _ _
   |_=>exact aM rfl
 |string=>cases x with
   |string s=>
     simp;split;.exact aN (by simp[VR])
     .exact iC F R _ _ _ _
   |_=>exact aM rfl
 |_=>exact aM rfl
omit R
theorem AY(t x):SR p p' Z (VR Z) (Instr.makeInterface t x) (Instr.makeInterface t (bB Z x)):=by refine aK (aR F t) ?_;rintro _ d ⟨rfl,_⟩;cases d with
 |interface _=>exact aM rfl
 |_=>exact aN (by simp[VR])
omit F in
theorem OZ(x i):SR p p' Z (VR Z) (Instr.extract x i) (Instr.extract (bB Z x) i):=by unfold Instr.extract;cases x with
 |tuple a=>simp;cases a[i]? with
   |none=>exact aM rfl
   |some v=>exact aN rfl
 |_=>exact aM rfl
include R
theorem GC(x b){a:TypeId}(h:a<p.types.size)(ok):SR p p' Z (VR Z) (Instr.typeAssert x b a ok) (Instr.typeAssert (bB Z x) b a ok):=by
 have c:∀(s d:Option TypeId) (m:String),SR p p' Z (VR Z) (if ok=true then do let z<-zeroValue a;pure (.tuple #[z,aF])else runtimePanic (.typeAssertion s d a m)) (if ok=true then do let z<-zeroValue a;pure (.tuple #[z,aF])else runtimePanic (.typeAssertion s d a m)):=λs d m=>by
  split;.refine aK (fW F h) ?_;rintro _ v ⟨rfl,e⟩;exact aN (by simp[VR,e])
  .exact bK F _
 have holds:∀v:Value,SR p p' Z (VR Z) (pure (if ok=true then .tuple #[v,aD]else v)) (pure (if ok=true then .tuple #[bB Z v,aD]else bB Z v)):=λv=>by refine aN ?_;split<;>simp[VR]
 refine aK (aR F a) ?_;rintro _ d ⟨rfl,_⟩;cases x with
 |nilIface=>cases d<;>simp<;>exact c _ _ _
 |iface t v=>cases d with
   |interface want=>
     simp only[cQ];refine aK (fS F t) ?_;rintro _ i ⟨rfl,_⟩;split;.have:=holds (.iface t v);rwa [cQ]at this
     .simp_all
   |_=>
     simp only[cQ];split;.simp_all
     .simp_all
 |_=>cases d<;>exact aM rfl
theorem LJ(x):SR p p' Z (VR Z) (Instr.panic x) (Instr.panic (bB Z x)):=by cases x with
 |iface t v=>simp;exact ng S8
 |nilIface=>
   simp;refine aK (Q:=λa b=>b=a) ?_ ?_;.refine Rv (Q:=λa b=>b=a) (SR.env λr=>SR.pure rfl) ?_;rintro _ r rfl;cases r with
    |strings env=>refine iE ?_;have⟨c,r,h⟩:=F.ex;simp[h];exact aN rfl
    |_=>exact aM rfl
   .rintro _ n rfl;split;.exact ng S8
    .exact bK F _
 |_=>exact aM rfl
end
section
variable{G:Gs}{p p':Program}{Z:Pi}
variable{α β:Type}
inductive iY(Z:Pi){α:Type}(H:α->Prop):Sem α->Prop
 |pure {a:α}:H a->iY Z H (.pure a)
 |choose {q:Question} {k:Nat->Sem α}:(∀n,iY Z H (k n))->iY Z H (.choose q k)
 |lost {h:Halt}:xR h=true->iY Z H (.halt h)
theorem iY.sr{H}{s:Sem α}(h:iY Z H s):SR p p' Z (λa b=>b=a/\H a) s s:=by induction h with
 |pure h=>exact SR.pure ⟨rfl,h⟩
 |choose _ c=>exact SR.choose c
 |lost h=>exact aM h
theorem iY.bind{γ H b s}{f:α->Sem γ}(h:iY Z H s)(c:∀a,H a->iY Z b (f a)):iY Z b (s>>=f):=by induction h with
 |pure h=>exact c _ h
 |choose _ d=>exact .choose d
 |lost h=>exact .lost h
def gJ:=@iY.bind
theorem iY.val{s}(h:iY Z (λv=>bB Z v=v) s):SR p p' Z (VR Z) s s:=h.sr.mono λ_ _ ⟨e,h⟩=>by rw[e,VR,h]
theorem iY.ret{H}{a:α}(h:H a):iY Z H (Pure.pure a):=.pure h
theorem iY.aen{q}:iY Z (λ_=>True) (Go.choose q):=.choose λ_=>.pure trivial
def LL:=@iY.aen
theorem iY.any{H}{s:Sem α}(h:iY Z H s):iY Z (λ_=>True) s:=by induction h with
 |pure _=>exact .pure trivial
 |choose _ a=>exact .choose a
 |lost h=>exact .lost h
theorem vd(op k x y):iY Z (λv=>bB Z v=v) (Op.floatArith op k x y):=by
 cases op<;>first|exact .lost rfl|skip
 all_goals refine gJ (H:=λ_=>True) (.ret trivial) λr _=>?_;cases r with
  |some r=>exact .ret S8
  |none=>exact gJ LL λ_ _=>.ret S8
theorem xW(op k x y):iY Z (λv=>bB Z v=v) (Op.floatCmp op k x y):=by cases op<;>first|exact .ret S8|exact .lost rfl
theorem qD(op k x y):iY Z (λ_=>True) (Op.Complex.arith op k x y):=by refine gJ (vd op k x y).any λv _=>?_;cases v<;>first|exact .ret trivial|exact .lost rfl
theorem EG(op k x y):iY Z (λ_=>True) (Op.Complex.cmp op k x y):=by refine gJ (xW op k x y).any λv _=>?_;cases v<;>first|exact .ret trivial|exact .lost rfl
theorem zG(s x d):iY Z (λv=>bB Z v=v) (Conv.floatToFloat s x d):=by
 unfold Conv.floatToFloat;split;.exact .ret S8
 .split;.exact gJ LL λ_ _=>.ret S8
  .exact .ret S8
  .dsimp only;split;.exact gJ LL λ_ _=>.ret S8
   .exact .ret S8
theorem TT(s x d):iY Z (λ_=>True) (Op.Complex.conv s x d):=by
 unfold Op.Complex.conv;split;.exact .ret trivial
 .refine gJ (zG s x d).any λv _=>?_;cases v<;>first|exact .ret trivial|exact .lost rfl
theorem zH(x y):iY Z (λ_=>True) (Op.Complex.add x y):=qD _ _ _ _
theorem EH(x y):iY Z (λ_=>True) (Op.Complex.sub x y):=qD _ _ _ _
theorem qE(x y):iY Z (λ_=>True) (Op.Complex.mul x y):=qD _ _ _ _
theorem EI(x y):iY Z (λ_=>True) (Op.Complex.quo x y):=qD _ _ _ _
theorem Jm(a b c d):iY Z (λ_=>True) (Op.Complex.product a b c d):=by repeat' first|exact .ret trivial|(refine gJ (qE _ _) λ_ _=>?_)|(refine gJ (EH _ _) λ_ _=>?_)|(refine gJ (zH _ _) λ_ _=>?_)
theorem vT(s a b c d):iY Z (λ_=>True) (Op.Complex.corrected s a b c d):=by repeat' first|exact .ret trivial|(refine gJ (qE _ _) λ_ _=>?_)|(refine gJ (EH _ _) λ_ _=>?_)|(refine gJ (zH _ _) λ_ _=>?_)
theorem tz{α H c}[Decidable c]{s t:Sem α}(h:iY Z H s)(a:iY Z H t):iY Z H (if c then s else t):=by grind
theorem GD(a b c d):iY Z (λ_=>True) (Op.Complex.quotient a b c d):=by refine tz ?_ ?_;all_goals
  refine gJ (EI _ _) λ_ _=>gJ (qE _ _) λ_ _=>gJ (zH _ _) λ_ _=>gJ (qE _ _) λ_ _=>gJ (zH _ _) λ_ _=>gJ (EI _ _) λ_ _=>gJ (qE _ _) λ_ _=>gJ (EH _ _) λ_ _=>gJ (EI _ _) λ_ _=>gJ (H:=λ_=>True) (.ret trivial) λx _=>?_
  exact gJ (EG _ _ _ _) λ_ _=>gJ (EG _ _ _ _) λ_ _=>tz (.ret trivial) (tz (gJ (qE _ _) λ_ _=>gJ (qE _ _) λ_ _=>.ret trivial) (tz (vT _ _ _ _ _) (tz (vT _ _ _ _ _) (.ret trivial))))
theorem EJ(op k a b c d):iY Z (λv=>bB Z v=v) (Op.complexOp op k a b c d):=by cases op;all_goals repeat' first
  |exact .lost rfl
  |exact .ret S8
  |(refine gJ (qD _ _ _ _) λ_ _=>?_)
  |(refine gJ (EG _ _ _ _) λ_ _=>?_)
  |(refine gJ (TT _ _ _) λ_ _=>?_)
  |(refine gJ (Jm _ _ _ _) λ_ _=>?_)
  |(refine gJ (GD _ _ _ _) λ_ _=>?_)
  |split
theorem xX(op k x y):iY Z (λv=>bB Z v=v) (Op.intArith op k x y):=by cases op<;>first|exact .ret S8|exact .lost rfl
theorem zI(op k x y):iY Z (λv=>bB Z v=v) (Op.intBits op k x y):=by cases op<;>first|exact .ret S8|exact .lost rfl
theorem LM(op x y):iY Z (λv=>bB Z v=v) (Op.intCmp op x y):=by cases op<;>first|exact .ret S8|exact .lost rfl
theorem sf(op x y):iY Z (λv=>bB Z v=v) (Op.stringOp op x y):=by unfold Op.stringOp;cases op;all_goals repeat' first|exact .ret S8|exact .lost rfl|split
end
section
variable{G:Gs}{p p':Program}{Z:Pi}(F:Fit G p p')(R:Rn G Z)
include F R
theorem TU(op k x y):SR p p' Z (VR Z) (Op.intDiv op k x y) (Op.intDiv op k x y):=by
 unfold Op.intDiv;split;.exact bK F _
 .cases op<;>first|exact aN (by simp[VR])|exact aM rfl
theorem XU(op k x a y):SR p p' Z (VR Z) (Op.shift op k x a y) (Op.shift op k x a y):=by
 unfold Op.shift;split;.exact bK F _
 .cases op<;>first|exact aN (by simp[VR])|exact aM rfl
omit F R in
theorem XW(op x):SR p p' Z (VR Z) (Op.unary op x) (Op.unary op (bB Z x)):=by cases op<;>cases x<;>(try simp);all_goals first
  |exact aM rfl
  |exact(xX _ _ _ _).val
  |exact(zI _ _ _ _).val
  |exact aN (by simp[VR])
  |(rename_i a;cases a<;>exact aM rfl)
omit F in
theorem XX(a b):((cC Z a).block==(cC Z b).block)=(a.block==b.block):=by
 by_cases h:a.block=b.block;.simp[h]
 .have:Z a.block≠Z b.block:=λe=>h (R.inj _ _ e);rw[Eu,Eu,beq_eq_false_iff_ne.mpr h,beq_eq_false_iff_ne.mpr this]
omit F in
theorem addr_eq(a b):(cC Z a==cC Z b)=(a==b):=by
 by_cases h:a=b;.simp[h]
 .have:cC Z a≠cC Z b:=λe=>h (by have c:=R.inj _ _ (congrArg Addr.block e);have d:=congrArg Addr.off e;have f:=congrArg Addr.spot e;cases a;cases b;simp at c d f;simp[c,d,f])
  rw[beq_eq_false_iff_ne.mpr h,beq_eq_false_iff_ne.mpr this]
omit F R in
theorem zJ(a):SR p p' Z (λx c=>c=x) (stringish a) (stringish (cC Z a)):=by
 refine aK wW ?_;rintro _ b rfl;cases b;.refine aK nV ?_;rintro _ s rfl;cases s with
  |none=>exact aN rfl
  |some s=>exact wW (a:={block:=a.block,off:=s.2})
 .exact aN rfl
omit F R in
theorem LN(a b):SR p p' Z (λx c=>c=x) (mayBeOne a b) (mayBeOne (cC Z a) (cC Z b)):=by
 refine aK (zJ a) ?_;rintro _ e rfl;refine aK (zJ b) ?_;rintro _ sb rfl;have none:∀x:Addr,SR p p' Z (λx c=>c=x) (do let s<-shape x.block;pure (s matches some (_,0))) (do let s<-shape (cC Z x).block;pure (s matches some (_,0))):=λx=>by refine aK nV ?_;rintro _ s rfl;exact aN rfl
 refine aK (none a) ?_;rintro _ d rfl;refine aK (none b) ?_;rintro _ nb rfl;exact aN rfl
omit F in
theorem Ct(a b):SR p p' Z (λx c=>c=x) (sameAddr a b) (sameAddr (cC Z a) (cC Z b)):=by
 unfold sameAddr;rw[XX R,addr_eq R];split;.exact aN rfl
 .refine aK wW ?_;rintro _ d rfl;refine aK wW ?_;rintro _ e rfl;split;.exact aM rfl
  .refine aK (AW a) ?_;intro _ _ _;refine aK (AW b) ?_;intro _ _ _;refine aK (LN a b) ?_;rintro _ m rfl;split;.refine aK iA ?_;rintro _ n rfl;exact aN rfl
   .exact aN rfl
omit F in
theorem EK(a b):SR p p' Z (λx c=>c=x) (samePointer a b) (samePointer (a.map (cC Z)) (b.map (cC Z))):=by
 cases a<;>cases b;.exact aN rfl
 .exact aN rfl
 .exact aN rfl
 .exact Ct R _ _
end
section
variable{G:Gs}{p p':Program}{Z:Pi}
theorem AZ{γ δ:Type}(f f':γ->δ->Sem (ForInStep δ)):∀(l:List γ) (b:δ),(∀a∈l,∀b,SR p p' Z (λx c=>c=x) (f a b) (f' a b))->SR p p' Z (λx c=>c=x) (forIn l b f) (forIn l b f')
 |[],b,_=>by simp;exact aN rfl
 |a::l,b,h=>by simp;refine aK (h a S8 b) ?_;rintro _ s rfl;cases s with
   |done b=>exact aN rfl
   |yield b=>exact AZ f f' l b (λa d=>h a (by simp[d]))
theorem A0{γ δ:Type}{f f'}(l:Array γ)(b:δ)(h:∀a∈l,∀b,SR p p' Z (λx c=>c=x) (f a b) (f' a b)):SR p p' Z (λx c=>c=x) (forIn l b f) (forIn l b f'):=by rw[<-QO,<-QO];exact AZ f f' l.toList b (λa d=>h a (by simpa using d))
theorem A2{δ f f'}(n)(b:δ)(h:∀a b,SR p p' Z (λx c=>c=x) (f a b) (f' a b)):SR p p' Z (λx c=>c=x) (forIn [0:n] b f) (forIn [0:n] b f'):=by rw[ada,ada];exact AZ f f' _ b (λa _=>h a)
end
section
variable{G:Gs}{p p':Program}{Z:Pi}(F:Fit G p p')(R:Rn G Z)
include F
theorem XY(n):∀t u,p'.alikeButTags n t u=p.alikeButTags n t u:=by induction n with
 |zero=>intro t u;rfl
 |succ n a=>intro t u;simp[Program.alikeButTags,F.info,a]
theorem XZ(t):p'.underlyingId t=p.underlyingId t:=by simp[Program.underlyingId,F.info]
theorem Jn(t):p'.stoodInAs t=p.stoodInAs t:=by simp[Program.stoodInAs,F.under,F.cut,XY F,XZ F,F.depth]
theorem nX(t):p'.stoodInHeld t=p.stoodInHeld t:=by simp[Program.stoodInHeld,Jn F,F.info]
theorem vU(d):∀t,p'.eqGuardType d t=p.eqGuardType d t:=by induction d with
 |zero=>intro t;rfl
 |succ d a=>intro t;simp[Program.eqGuardType,F.under,a]
omit F in
theorem X3{α β Q t}{s:Sem α}{s':Sem β}(a:((p.info? t).all fun i=>match i.desc with|.named "sync.copyChecker" _=>false|_=>true)=true):SR p p' Z Q (typeInfo t>>=fun i=>match i.desc with|.named "sync.copyChecker" _=>s|_=>unsupported .addressObserved) s':=by cases hi:p.info? t with
 |none=>refine SR.adx (h:=.stuck "no such type") ?_ rfl;show Sem.bind (match p.info? t with|some i=>Pure.pure i|none=>stuck "no such type") _=_;rw[hi];rfl
 |some i=>
   refine SR.adx (h:=.unsupported .addressObserved) ?_ rfl;show Sem.bind (match p.info? t with|some i=>Pure.pure i|none=>stuck "no such type") _=_;rw[hi];show(match i.desc with|.named "sync.copyChecker" _=>s|_=>unsupported .addressObserved)=_;split;.simp_all
   .rfl
include R
theorem EL:∀d n t x y,u9 p n t=true->SR p p' Z (λx B=>B=x) (Op.equalIn d t x y) (Op.equalIn d t (bB Z x) (bB Z y))
 |0,_,_,_,_,_=>aM rfl
 |_+1,0,_,_,_,h=>by cases h
 |d+1,n+1,t,x,y,g=>by have q:=EL d n;refine aK (aR F t) ?_;rintro _ u ⟨rfl,A⟩;simp only[u9,A,dJ]at g;have⟨w,g⟩:=g;cases u with
   |bool=>cases x<;>first|exact aM rfl|(cases y<;>first|exact aM rfl|(simp only[eG];exact aN rfl))
   |string=>cases x<;>first|exact aM rfl|(cases y<;>first|exact aM rfl|(simp only[cB];exact aN rfl))
   |float k=>
     cases x<;>first|exact aM rfl|skip
     cases y<;>first|exact aM rfl|skip
     simp only[dC];split;.exact aN rfl
     .exact aM rfl
   |complex k=>
     cases x<;>first|exact aM rfl|skip
     cases y<;>first|exact aM rfl|skip
     simp only[cK];split;.exact aN rfl
     .exact aM rfl
   |int k=>cases x with
     |int k n=>cases y with
       |int k' C=>
         simp only[cN];split;.exact aN rfl
         .exact aM rfl
       |pointer b=>cases b with
         |none=>match n with
           |0=>exact aM rfl
           |Int.ofNat (m+1)=>exact aM rfl
           |Int.negSucc m=>exact aM rfl
         |some b=>simp only[cN,bF,dY];match n with
           |0=>exact aN rfl
           |Int.ofNat (m+1)=>exact aM rfl
           |Int.negSucc m=>exact aM rfl
       |_=>exact aM rfl
     |pointer a=>cases a with
       |none=>cases y<;>exact aM rfl
       |some a=>cases y with
         |int k' n=>simp only[cN,bF,dY];match n with
           |0=>exact aN rfl
           |Int.ofNat (m+1)=>exact aM rfl
           |Int.negSucc m=>exact aM rfl
         |pointer b=>cases b with
           |none=>exact aM rfl
           |some b=>simp only[bF,dY];refine aK (gK a) ?_;rintro a _ rfl;refine aK (gK b) ?_;rintro b _ rfl;refine iE ?_;rw[F.none];simp only[oI,decide_false,Kq,vH,ze];exact X3 w
         |_=>exact aM rfl
     |_=>cases y<;>exact aM rfl
   |pointer e=>cases x with
     |pointer a=>cases y with
       |pointer b=>
         simp only[bF];cases a<;>cases b<;>simp only[Kr,dY];.exact aN rfl
         .exact aN rfl
         .exact aN rfl
         .rename_i a b;refine aK (dZ F e) ?_;rintro _ n rfl;split;.exact Ct R a b
          .rw[addr_eq R];split;.exact aN rfl
           .refine aK iA ?_;rintro _ n rfl;exact aN rfl
       |_=>cases a<;>exact aM rfl
     |_=>exact aM rfl
   |unsafePointer=>
     cases x<;>first|exact aM rfl|skip
     cases y<;>first|exact aM rfl|skip
     simp only[bF];exact EK R _ _
   |chan a b=>cases g
   |interface ms=>cases g
   |struct s=>
     cases x<;>first|exact aM rfl|skip
     cases y<;>first|exact aM rfl|skip
     rename_i j o;simp only[dB];refine iE ?_;rw[nX F];split;.exact aM rfl
     .refine aK (A0 s _ λf z b=>?_) ?_
      .split;.refine aK (kZ F f.type j f.offset) ?_;rintro v _ rfl;refine aK (kZ F f.type o f.offset) ?_;rintro i _ rfl;refine aK (q f.type v i (y8.1 g f z)) ?_;rintro _ e rfl;split<;>exact aN rfl
       .exact aN rfl
      .rintro _ r rfl;split<;>exact aN rfl
   |array n e=>
     cases x<;>first|exact aM rfl|skip
     cases y<;>first|exact aM rfl|skip
     rename_i j o;simp only[dB];refine aK (dZ F e) ?_;rintro _ m rfl;refine aK (A2 n _ λf b=>?_) ?_;.refine aK (kZ F e j _) ?_;rintro v _ rfl;refine aK (kZ F e o _) ?_;rintro i _ rfl;refine aK (q e v i g) ?_;rintro _ e rfl;split<;>exact aN rfl
     .rintro _ r rfl;split<;>exact aN rfl
   |slice e=>
     cases x<;>first|exact aM rfl|skip
     rename_i a l c;cases a<;>cases y<;>first|exact aM rfl|skip
     all_goals rename_i b _ _;cases b<;>simp only[bQ,TM,oW]<;>first|exact aN rfl|exact aM rfl
   |map a b=>
     cases x<;>first|exact aM rfl|skip
     rename_i a;cases a<;>cases y<;>first|exact aM rfl|skip
     all_goals rename_i b;cases b<;>simp only[dW,Kr,dY]<;>first|exact aN rfl|exact aM rfl
   |func a b c=>
     cases x<;>first|exact aM rfl|skip
     all_goals cases y<;>first|exact aM rfl|(simp only[cR,dO];exact aN rfl)
   |_=>exact aM rfl
end
section
variable{G:Gs}{p p':Program}{Z:Pi}(F:Fit G p p')(R:Rn G Z)
include F
omit F in
theorem Cu(d t x y)(a:x≠.nilIface)(b:∀c,x≠.agg c):Op.eqGuardIn (d+1) t x y=(underlying t>>=λ_=>Pure.pure false):=by unfold Op.eqGuardIn;congr 1;funext u;cases x<;>first|exact absurd rfl a|exact absurd rfl (b _)|(cases u<;>rfl)
omit F in
theorem Cw(d t x y)(a:y≠.nilIface)(b:∀c,y≠.agg c):Op.eqGuardIn (d+1) t x y=(underlying t>>=λ_=>Pure.pure false):=by unfold Op.eqGuardIn;congr 1;funext u;cases y<;>first|exact absurd rfl a|exact absurd rfl (b _)|(cases u<;>cases x<;>rfl)
theorem tZ:∀d t x y,SR p p' Z (λx l=>l=x) (Op.eqGuardIn d t x y) (Op.eqGuardIn d t (bB Z x) (bB Z y))
 |0,_,_,_=>aM rfl
 |d+1,t,x,y=>by
   have j:=tZ d;by_cases a:∃r,x=.chan r;.obtain⟨r,rfl⟩:=a;rw[cL,Cu d t (.chan r) y S8 S8,Cu d t (oz Z r) _ (xS Z r) (Ev Z r)];exact aK (aR F t) λ_ _ _=>aN rfl
   by_cases c:∃r,y=.chan r;.obtain⟨r,rfl⟩:=c;rw[cL,Cw d t x (.chan r) S8 S8,Cw d t _ (oz Z r) (xS Z r) (Ev Z r)];exact aK (aR F t) λ_ _ _=>aN rfl
   unfold Op.eqGuardIn;refine aK (aR F t) ?_;rintro _ u ⟨rfl,_⟩;cases u with
   |interface ms=>cases x<;>first|exact absurd ⟨_,rfl⟩ a|(cases y<;>first|exact absurd ⟨_,rfl⟩ c|(simp only[cG,cQ,eG,cN,dC,cK,cB,bF,bQ,dW,cL,dO,cR,dB,dL];exact aN rfl))
   |struct k=>cases x with
     |agg h=>cases y with
       |agg i=>
         simp only[dB];refine aK (A0 k _ λf _ b=>?_) ?_
         .split;.refine aK (kZ F f.type h f.offset) ?_;rintro v _ rfl;refine aK (kZ F f.type i f.offset) ?_;rintro g _ rfl;refine aK (j f.type v g) ?_;rintro _ e rfl;split<;>exact aN rfl
          .exact aN rfl
         .rintro _ r rfl;split<;>exact aN rfl
       |_=>first|exact absurd ⟨_,rfl⟩ c|(simp only[cG,cQ,eG,cN,dC,cK,cB,bF,bQ,dW,cL,dO,cR,dB,dL];exact aN rfl)
     |_=>first|exact absurd ⟨_,rfl⟩ a|(simp only[cG,cQ,eG,cN,dC,cK,cB,bF,bQ,dW,cL,dO,cR,dB,dL];exact aN rfl)
   |array n e=>cases x with
     |agg h=>cases y with
       |agg i=>
         simp only[dB];refine aK (dZ F e) ?_;rintro _ m rfl;refine aK (A2 n _ λf b=>?_) ?_;.refine aK (kZ F e h _) ?_;rintro v _ rfl;refine aK (kZ F e i _) ?_;rintro g _ rfl;refine aK (j e v g) ?_;rintro _ e rfl;split<;>exact aN rfl
         .rintro _ r rfl;split<;>exact aN rfl
       |_=>first|exact absurd ⟨_,rfl⟩ c|(simp only[cG,cQ,eG,cN,dC,cK,cB,bF,bQ,dW,cL,dO,cR,dB,dL];exact aN rfl)
     |_=>first|exact absurd ⟨_,rfl⟩ a|(simp only[cG,cQ,eG,cN,dC,cK,cB,bF,bQ,dW,cL,dO,cR,dB,dL];exact aN rfl)
   |_=>exact aN rfl
theorem O0(op t x y a b):SR p p' Z (λ_ _=>True) (eqGuard op t x y a b) (eqGuard op t x y (bB Z a) (bB Z b)):=by
 unfold eqGuard;refine eN (aN trivial) ?_;by_cases c:∃r,a=.chan r;.obtain⟨r,rfl⟩:=c;rw[cL];obtain h|⟨_,h⟩|⟨_,_,_,h⟩|⟨_,h⟩|⟨_,h⟩|⟨_,_,_,h⟩:=fO Z r<;>rw[h]<;>exact aN trivial
 by_cases d:∃r,b=.chan r;.obtain⟨r,rfl⟩:=d;rw[cL];obtain h|⟨_,h⟩|⟨_,_,_,h⟩|⟨_,h⟩|⟨_,h⟩|⟨_,_,_,h⟩:=fO Z r<;>rw[h]<;>cases a<;>first|exact absurd ⟨_,rfl⟩ c|(simp only[cG,cQ,eG,cN,dC,cK,cB,bF,bQ,dW,dO,cR,dB,dL];exact aN trivial)
 .cases a with
  |nilIface=>cases b with
    |nilIface=>
      simp only[cG];refine eN (aN trivial) ?_
      .refine aK (by have:=tZ F (Z:=Z) Op.maxDepth t .nilIface .nilIface;simpa only[cG]using this) ?_;rintro _ e rfl;split;.exact aM rfl
       .exact aN trivial
    |_=>first|exact absurd ⟨_,rfl⟩ d|(simp only[cG,cQ,eG,cN,dC,cK,cB,bF,bQ,dW,cL,dO,cR,dB,dL];exact aN trivial)
  |agg f=>cases b with
    |agg g=>
      simp only[dB];refine iE ?_;refine iE ?_;rw[F.depth,vU F];split;.exact aN trivial
      .refine aK (by have:=tZ F (Z:=Z) Op.maxDepth t (.agg f) (.agg g);simpa only[dB]using this) ?_;rintro _ e rfl;split;.exact aM rfl
       .exact aN trivial
    |_=>first|exact absurd ⟨_,rfl⟩ d|(simp only[cG,cQ,eG,cN,dC,cK,cB,bF,bQ,dW,cL,dO,cR,dB,dL];exact aN trivial)
  |_=>first|exact absurd ⟨_,rfl⟩ c|(simp only[cG,cQ,eG,cN,dC,cK,cB,bF,bQ,dW,cL,dO,cR,dB,dL];exact aN trivial)
theorem GF(d):∀t b,cellOfByte p' d t b=cellOfByte p d t b:=by induction d with
 |zero=>intro t b;rfl
 |succ d a=>intro t b;simp[cellOfByte,F.under,F.bytesOf,F.cellsOf,a]
theorem EM(d e c o b):cellAtBytes p' d e c o b=cellAtBytes p d e c o b:=by simp[cellAtBytes,F.bytesOf,F.cellsOf,xV F,GF F]
theorem xY(c t a y):SR p p' Z (λv d=>d=bB Z v/\∃a,v=.pointer a) (Builtin.unsafeAdd_ c t #[.pointer a,y]) (Builtin.unsafeAdd_ c t #[.pointer (a.map (cC Z)),bB Z y]):=by
 unfold Builtin.unsafeAdd_;dsimp only;refine aK (Q:=λa b=>b=a) (aK (qC y) (by rintro _ n rfl;exact aN rfl)) ?_;rintro _ n rfl;split;.cases a with
  |none=>exact aM rfl
  |some a=>refine aK (Hx a.block) ?_;rintro v _ rfl;cases v with
    |none=>exact aN ⟨S8,_,rfl⟩
    |some v=>exact aM rfl
 .split;.exact aM rfl
  .cases a with
   |none=>exact aM rfl
   |some a=>refine aK nV ?_;rintro _ s rfl;cases s with
     |none=>exact aM rfl
     |some s=>
       refine iE ?_;simp[F.depth,F.cellsOf,EM F];split;.exact aN ⟨by simp[cC],_,rfl⟩
       .exact aM rfl
theorem ua(b t a y):SR p p' Z (VR Z) (Builtin.unsafeAdd_ b t #[.pointer a,y]) (Builtin.unsafeAdd_ b t #[.pointer (a.map (cC Z)),bB Z y]):=(xY F b t a y).mono λ_ _ h=>h.1
theorem Dc(t a y):SR p p' Z (VR Z) (movedPointer t (.pointer a) y) (movedPointer t (.pointer (a.map (cC Z))) (bB Z y)):=by cases a with
 |none=>exact ua F #[] t none y
 |some a=>refine aK (Cs a.block) ?_;rintro v _ rfl;cases v with
   |none=>exact ua F #[] t (some a) y
   |some v=>exact aM rfl
theorem nY(t a y):SR p p' Z (VR Z) (movedNumber t (.pointer a) y) (movedNumber t (.pointer (a.map (cC Z))) (bB Z y)):=by refine aK (aR F t) ?_;rintro _ d ⟨rfl,_⟩;refine eN (aM rfl) ?_;cases a with
 |none=>exact ua F #[] t none y
 |some a=>refine aK (gK a) ?_;rintro⟨b,l⟩ _ rfl;refine aK (xY F #[] t (some b) y) ?_;rintro v _ ⟨rfl,c,rfl⟩;cases c with
   |none=>rw[bF];exact aN (by simp[VR])
   |some c=>rw[bF];exact LI c l
include R
theorem zK(a b):SR p p' Z (λx c=>c=x) (Op.twoPlaces a b) (Op.twoPlaces (cC Z a) (cC Z b)):=by refine iE ?_;rw[F.none];simp;exact aM rfl
theorem O3(k a b):SR p p' Z (VR Z) (Op.addrSub k a b) (Op.addrSub k (cC Z a) (cC Z b)):=by refine aK (zK F R a b) ?_;rintro _ x rfl;exact aN (by simp[VR])
theorem O4(op a b):SR p p' Z (VR Z) (Op.addrCmp op a b) (Op.addrCmp op (cC Z a) (cC Z b)):=by refine aK (zK F R a b) ?_;rintro _ x rfl;cases op<;>first|exact aN (by simp[VR])|exact aM rfl
omit R in
theorem EN(k a n):SR p p' Z (VR Z) (Op.addrMod k a n) (Op.addrMod k (cC Z a) n):=by refine aK nV ?_;rintro _ s rfl;cases s with
 |none=>exact aM rfl
 |some s=>
   refine aK (fS F s.1) ?_;rintro _ i ⟨rfl,_⟩;dsimp only;split;.exact aM rfl
   .refine aK (AX F a) ?_;rintro _ x rfl;exact aN (by simp[VR])
theorem LO{n}(t x y)(h:u9 p n t=true):SR p p' Z (λx a=>a=x) (Op.equal t x y) (Op.equal t (bB Z x) (bB Z y)):=EL F R _ n t x y h
theorem Hy{b}(t x y)(h:TK p t b=true)(d:b=true->y=.nilIface):SR p p' Z (λx g=>g=x) (Op.equal t x y) (Op.equal t (bB Z x) (bB Z y)):=by
 unfold TK at h;rw[QN,dJ]at h;obtain h|⟨c,a⟩:=h;.exact LO F R t x y h
 have f:=d c;subst f;refine aK (aR F t) ?_;rintro _ u ⟨rfl,e⟩;rw[e]at a;cases u<;>first|(cases a;done)|skip
 cases x<;>first|exact aM rfl|(simp;exact aN rfl)
end
section
variable{G:Gs}{p p':Program}{Z:Pi}(F:Fit G p p')(R:Rn G Z)
include F R
omit F R in
theorem RA(r Z t y):binOp .eql t (oz Z r) y=(do let e<-Op.equal t (oz Z r) y;pure (.bool e))/\binOp .neq t (oz Z r) y=(do let e<-Op.equal t (oz Z r) y;pure (.bool !e)):=by obtain h|⟨_,h⟩|⟨_,_,_,h⟩|⟨_,h⟩|⟨_,h⟩|⟨_,_,_,h⟩:=fO Z r<;>rw[h]<;>constructor<;>cases y<;>first|rfl|(rename_i b;cases b<;>rfl)
omit F R in
theorem RD(r Z t x):binOp .eql t x (oz Z r)=(do let e<-Op.equal t x (oz Z r);pure (.bool e))/\binOp .neq t x (oz Z r)=(do let e<-Op.equal t x (oz Z r);pure (.bool !e)):=by obtain h|⟨_,h⟩|⟨_,_,_,h⟩|⟨_,h⟩|⟨_,h⟩|⟨_,_,_,h⟩:=fO Z r<;>rw[h]<;>constructor<;>cases x<;>first|rfl|(rename_i b;cases b<;>rfl)
omit F R in
theorem LP(r t y):binOp .eql t (.chan r) y=(do let e<-Op.equal t (.chan r) y;pure (.bool e))/\binOp .neq t (.chan r) y=(do let e<-Op.equal t (.chan r) y;pure (.bool !e)):=by trivial
omit F R in
theorem LQ(r t x):binOp .eql t x (.chan r)=(do let e<-Op.equal t x (.chan r);pure (.bool e))/\binOp .neq t x (.chan r)=(do let e<-Op.equal t x (.chan r);pure (.bool !e)):=by constructor<;>cases x<;>first|rfl|(rename_i b;cases b<;>rfl)
theorem X4{j}(op t x y)(f:(match op with|.eql|.neq=>TK p t j|_=>true)=true)(o:j=true->y=.nilIface):SR p p' Z (VR Z) (binOp op t x y) (binOp op t (bB Z x) (bB Z y)):=by
 have eql:TK p t j=true->SR p p' Z (VR Z) (do let e<-Op.equal t x y;pure (.bool e)) (do let e<-Op.equal t (bB Z x) (bB Z y);pure (.bool e)):=λf=>by refine aK (Hy F R t x y f o) ?_;rintro _ e rfl;exact aN (by simp[VR])
 have neq:TK p t j=true->SR p p' Z (VR Z) (do let e<-Op.equal t x y;pure (.bool !e)) (do let e<-Op.equal t (bB Z x) (bB Z y);pure (.bool !e)):=λf=>by refine aK (Hy F R t x y f o) ?_;rintro _ e rfl;exact aN (by simp[VR])
 by_cases g:∃r,x=.chan r;.obtain⟨r,rfl⟩:=g;rw[cL]at eql neq|-;cases op with
  |eql=>rw[(LP r t y).1,(RA r Z t _).1];exact eql f
  |neq=>rw[(LP r t y).2,(RA r Z t _).2];exact neq f
  |_=>cases y<;>first|exact aM rfl|(rename_i b;cases b<;>exact aM rfl)
 by_cases h:∃r,y=.chan r;.obtain⟨r,rfl⟩:=h;rw[cL]at eql neq|-;cases op with
  |eql=>rw[(LQ r t x).1,(RD r Z t _).1];exact eql f
  |neq=>rw[(LQ r t x).2,(RD r Z t _).2];exact neq f
  |_=>cases x<;>first|exact aM rfl|(rename_i b;cases b<;>exact aM rfl)
 cases x with
 |int k a=>cases y with
   |int k' b=>simp only[cN];unfold binOp;cases op<;>dsimp only<;>first
      |exact XU F R _ _ _ _ _
      |(refine eN (aM rfl) ?_;first|exact(xX _ _ _ _).val|exact TU F R _ _ _ _|exact(zI _ _ _ _).val|exact(LM _ _ _).val)
   |pointer b=>simp only[cN,bF]at eql neq|-;cases b with
     |none=>cases op<;>first|exact aM rfl|exact eql f|exact neq f|(have:=nY F (Z:=Z) t none (.int k a);rw[cN]at this;exact this)
     |some b=>simp only[dY]at eql neq|-;cases op<;>first
        |exact aM rfl|exact eql f|exact neq f
        |(have:=nY F (Z:=Z) t (some b) (.int k a);rw[cN]at this;exact this)
        |(refine aK (gK b) ?_;rintro x _ rfl;exact EN F _ _ _)
   |_=>first|exact absurd ⟨_,rfl⟩ h|exact absurd ⟨_,rfl⟩ g|(clear g h;simp only[cG,cQ,eG,cN,dC,cK,cB,bQ,dW,cL,dO,cR,dB,dL]at eql neq|-;cases op<;>first|exact aM rfl|exact eql f|exact neq f)
 |float k a=>cases y with
   |float k' b=>simp only[dC];unfold binOp;cases op<;>dsimp only<;>first
      |(refine eN (aM rfl) ?_;first|exact(vd _ _ _ _).val|exact(xW _ _ _ _).val)
   |pointer b=>simp only[dC,bF]at eql neq|-;cases b<;>cases op<;>first|exact aM rfl|exact eql f|exact neq f
   |_=>first|exact absurd ⟨_,rfl⟩ h|exact absurd ⟨_,rfl⟩ g|(clear g h;simp only[cG,cQ,eG,cN,dC,cK,cB,bQ,dW,cL,dO,cR,dB,dL]at eql neq|-;cases op<;>first|exact aM rfl|exact eql f|exact neq f)
 |complex k a b=>cases y with
   |complex k' c d=>simp only[cK];unfold binOp;cases op<;>dsimp only<;>(refine eN (SR.lost rfl) ?_;exact(EJ _ _ _ _ _ _).val)
   |pointer b=>simp only[cK,bF]at eql neq|-;cases b<;>cases op<;>first|exact aM rfl|exact eql f|exact neq f
   |_=>first|exact absurd ⟨_,rfl⟩ h|exact absurd ⟨_,rfl⟩ g|(clear g h;simp only[cG,cQ,eG,cN,dC,cK,cB,bQ,dW,cL,dO,cR,dB,dL]at eql neq|-;cases op<;>first|exact aM rfl|exact eql f|exact neq f)
 |string a=>cases y with
   |string b=>simp only[cB];unfold binOp;cases op<;>exact(sf _ _ _).val
   |pointer b=>simp only[cB,bF]at eql neq|-;cases b<;>cases op<;>first|exact aM rfl|exact eql f|exact neq f
   |_=>first|exact absurd ⟨_,rfl⟩ h|exact absurd ⟨_,rfl⟩ g|(clear g h;simp only[cG,cQ,eG,cN,dC,cK,cB,bQ,dW,cL,dO,cR,dB,dL]at eql neq|-;cases op<;>first|exact aM rfl|exact eql f|exact neq f)
 |pointer a=>simp only[bF]at eql neq|-;cases y with
   |int k n=>
     simp only[cN]at eql neq|-;have m:SR p p' Z (VR Z) (do if(<-underlying t) matches .unsafePointer then movedPointer t (.pointer a) (.int k n)else movedNumber t (.pointer a) (.int k n)) (do if(<-underlying t) matches .unsafePointer then movedPointer t (.pointer (a.map (cC Z))) (.int k n)else movedNumber t (.pointer (a.map (cC Z))) (.int k n)):=by refine aK (aR F t) ?_;rintro _ d ⟨rfl,_⟩;have l:=Dc F (Z:=Z) t a (.int k n);have i:=nY F (Z:=Z) t a (.int k n);rw[cN]at l i;exact eN l i
     have q:SR p p' Z (VR Z) (movedNumber t (.pointer a) (.int k (-n))) (movedNumber t (.pointer (a.map (cC Z))) (.int k (-n))):=by have i:=nY F (Z:=Z) t a (.int k (-n));rwa [cN]at i
     cases a with
     |none=>cases op<;>first|exact aM rfl|exact eql f|exact neq f|exact m|exact q
     |some a=>cases op<;>first
        |exact aM rfl|exact eql f|exact neq f|exact m|exact q
        |(refine aK (gK a) ?_;rintro x _ rfl;exact EN F _ _ _)
   |pointer b=>simp only[bF]at eql neq|-;cases a with
     |none=>cases b<;>cases op<;>first|exact aM rfl|exact eql f|exact neq f
     |some a=>cases b with
       |none=>cases op<;>first|exact aM rfl|exact eql f|exact neq f
       |some b=>cases op<;>first
          |exact aM rfl|exact eql f|exact neq f
          |(refine aK (gK a) ?_;rintro x _ rfl;refine aK (gK b) ?_;rintro y _ rfl;first|exact O3 F R _ _ _|exact O4 F R _ _ _)
   |_=>first|exact absurd ⟨_,rfl⟩ h|exact absurd ⟨_,rfl⟩ g|(clear g h;simp only[cG,cQ,eG,cN,dC,cK,cB,bQ,dW,cL,dO,cR,dB,dL]at eql neq|-;cases a<;>cases op<;>first|exact aM rfl|exact eql f|exact neq f)
 |_=>cases y with
   |pointer b=>first|exact absurd ⟨_,rfl⟩ g|(clear g h;simp only[bF,cG,cQ,eG,cN,dC,cK,cB,bQ,dW,cL,dO,cR,dB,dL]at eql neq|-;cases b<;>cases op<;>first|exact aM rfl|exact eql f|exact neq f)
   |_=>first|exact absurd ⟨_,rfl⟩ h|exact absurd ⟨_,rfl⟩ g|(clear g h;simp only[cG,cQ,eG,cN,dC,cK,cB,bQ,dW,cL,dO,cR,dB,dL]at eql neq|-;cases op<;>first|exact aM rfl|exact eql f|exact neq f)
omit F R in
theorem De(s b k):iY Z (λv=>bB Z v=v) (Conv.floatToInt s b k):=by
 unfold Conv.floatToInt;split;.exact tz (.ret S8) (gJ LL λ_ _=>.ret S8)
 .exact gJ LL λ_ _=>.ret S8
omit F R in
theorem A3(x:Value):SR p p' Z (VR Z) (Conv.bytesToString x) (Conv.bytesToString (bB Z x)):=by unfold Conv.bytesToString;cases x with
 |slice a l c=>cases a with
   |none=>rw[bQ];exact aN (by simp[VR])
   |some a=>
     rw[bQ,oW];refine aK (xU a l l c λh _=>h) ?_;rintro vs _ rfl;refine aK (Q:=λa b=>b=a) ?_ ?_;.rw[<-QO,<-QO,rG];generalize vs.toList=l,ByteArray.empty=acc;induction l generalizing acc with
      |nil=>exact aN rfl
      |cons v l ih=>simp only[kV,List.forIn_cons];cases v with
        |int k n=>rw[cN];cases k<;>first|exact aM rfl|exact ih _
        |_=>exact aM rfl
     .rintro _ s rfl;exact aN (by simp[VR])
 |_=>exact aM rfl
omit F R in
theorem A4(a):SR p p' Z (λ_ _=>True) (markStringish a) (markStringish (cC Z a)):=by refine aK nV ?_;rintro _ s rfl;cases s with
 |none=>exact aN trivial
 |some s=>exact Hv (a:={block:=a.block,off:=s.2})
omit F R in
theorem A5(e s):SR p p' Z (VR Z) (Conv.stringToBytes e s) (Conv.stringToBytes e s):=by
 refine aK iA ?_;rintro _ n rfl;refine aK (Q:=λa b=>b=cC Z a/\Z.gh a.block=none) ?_ ?_;.have:=qB (p:=p) (p':=p') (Z:=Z) e ((s.data.map λb=>.int .u8 b.toNat)++Array.replicate (n -s.size) (.int .u8 0));simpa[QP]using this
 .rintro a _ ⟨rfl,c⟩;refine aK (A4 a) ?_;intro _ _ _;exact aN (by simp[VR,fE c])
omit F R in
theorem RF{d}(h:aej d=true):d=some (.int .u8):=by cases d with
 |none=>cases h
 |some d=>cases d<;>first|(cases h;done)|(rename_i k;cases k<;>first|(cases h;done)|rfl)
omit R in
theorem O5(s d x)(h:OL p s d=true):SR p p' Z (VR Z) (convert s d x) (convert s d (bB Z x)):=by refine aK (aR F s) ?_;rintro _ m ⟨rfl,j⟩;refine aK (aR F d) ?_;rintro _ g ⟨rfl,i⟩;simp[OL,j,i]at h;cases m with
 |int k=>cases g with
   |int k'=>cases x with
     |int a n=>rw[cN];exact aN (by simp[VR])
     |float a n=>rw[dC];exact(De _ _ _).val
     |pointer a=>cases a<;>exact aM rfl
     |_=>exact aM rfl
   |_=>cases h
 |string=>cases g with
   |string=>cases x with
     |int a n=>rw[cN];exact aN (by simp[VR])
     |string a=>rw[cB];exact aN (by simp[VR])
     |_=>exact aM rfl
   |slice e=>have f:=RF h;cases x with
     |string a=>rw[cB];refine aK (aR F e) ?_;rintro _ u ⟨rfl,b⟩;rw[f]at b;cases b;exact A5 _ _
     |slice a _ _=>cases a<;>exact aM rfl
     |_=>exact aM rfl
   |_=>cases h
 |slice e=>cases g with
   |string=>have f:=RF h;cases x with
     |int a n=>rw[cN];exact aN (by simp[VR])
     |string a=>rw[cB];exact aN (by simp[VR])
     |slice a l c=>rw[bQ];refine aK (aR F e) ?_;rintro _ u ⟨rfl,b⟩;rw[f]at b;cases b;have:=A3 (p:=p) (p':=p') (Z:=Z) (.slice a l c);rwa [bQ]at this
     |chan r=>rw[cL];obtain h|⟨_,h⟩|⟨_,_,_,h⟩|⟨_,h⟩|⟨_,h⟩|⟨_,_,_,h⟩:=fO Z r<;>rw[h]<;>(refine aK (aR F e) ?_;rintro _ u ⟨rfl,b⟩;rw[f]at b;cases b;exact aM rfl)
     |_=>simp;refine aK (aR F e) ?_;rintro _ u ⟨rfl,b⟩;rw[f]at b;cases b;exact aM rfl
   |_=>cases h
 |_=>cases h
omit R in
theorem aeo(a t args)(b:(a[0]?).all (okL p)=true):SR p p' Z (VR Z) (Builtin.len_ a t args) (Builtin.len_ a t (args.map (bB Z))):=by unfold Builtin.len_;rw[kW];cases f:a[0]? with
 |none=>exact aM rfl
 |some t=>rw[f,QQ]at b;cases args[0]? with
   |none=>exact aM rfl
   |some x=>refine aK (aR F t) ?_;rintro _ d ⟨rfl,c⟩;cases d with
     |string=>cases x<;>first|exact aM rfl|(rw[cB];exact aN (by simp[VR,goInt]))
     |array n e=>exact aN (by simp[VR,goInt])
     |pointer e=>refine aK (aR F e) ?_;rintro _ d ⟨rfl,_⟩;cases d<;>first|exact aM rfl|exact aN (by simp[VR,goInt])
     |slice e=>cases x<;>first|exact aM rfl|(rw[bQ];exact aN (by simp[VR,goInt]))
     |map k e=>
       cases x<;>first|exact aM rfl|skip
       rename_i r;cases r with
       |none=>rw[dW];exact aN (by simp[VR,goInt])
       |some r=>rw[dW,dY];refine aK gZ ?_;rintro o _ rfl;cases o<;>first|exact aM rfl|exact aN (by simp[VR,goInt])
     |chan k e=>simp[okL,c]at b
     |_=>exact aM rfl
end
section
variable{G:Gs}{p p':Program}{Z:Pi}(F:Fit G p p')(R:Rn G Z)
theorem tA{z:Array Value}(h:z.map (bB Z)=z)(n):((Array.range n).map (λi=>z[i%z.size]!)).map (bB Z)=(Array.range n).map (λi=>z[i%z.size]!):=by
 rw[Array.map_map];refine Array.map_congr_left λi _=>?_;simp;by_cases a:i%z.size<z.size;.grind
 .rw[getElem!_neg z _ a];exact(by simp:bB Z (.bool default)=.bool default)
include F
omit F in
theorem X6(x):SR p p' Z (λa b=>b=a.map (bB Z)) (asAgg x) (asAgg (bB Z x)):=by cases x with
 |agg cs=>rw[dB];exact aN rfl
 |_=>exact aM rfl
theorem X7(t x i):SR p p' Z (VR Z) (Instr.field t x i) (Instr.field t (bB Z x) i):=by refine aK (aR F t) ?_;rintro _ d ⟨rfl,_⟩;cases d with
 |struct a=>dsimp only;cases a[i]? with
   |none=>exact aM rfl
   |some f=>refine aK (X6 x) ?_;rintro cs _ rfl;exact kZ F _ _ _
 |_=>exact aM rfl
omit F in
theorem zL(place:Nat->Option (Nat×Nat)):∀(b:List (Nat×Value)) (cells:Array Value),Instr.fill place (cells.map (bB Z)) (b.map λ(i,v)=>(i,bB Z v))=(Instr.fill place cells b).map (·.map (bB Z))
 |[],cells=>rfl
 |(i,v)::rest,cells=>by simp only[kV,Instr.fill];cases place i with
   |none=>rfl
   |some os=>
     have⟨off,size⟩:=os;simp only[mB,G5];split;.rfl
     .rw[<-zL place rest];congr 1;have:∀(l:List (Value×Nat)) (cs:Array Value),(l.map λx=>(bB Z x.1,x.2)).foldl (λcs (x:Value×Nat)=>cs.setIfInBounds (off+x.2) x.1) (cs.map (bB Z))=(l.foldl (λcs (x:Value×Nat)=>cs.setIfInBounds (off+x.2) x.1) cs).map (bB Z):=by intro l;induction l with
       |nil=>intro cs;rfl
       |cons x l c=>intro cs;simp;rw[<-c,Km]
      have a:=this v.cells.zipIdx.toList cells;simp only[<-V4]at a|-;rw[<-a];congr 1;simp[List.zipIdx_map]
theorem X8{t:TypeId}(h:t<p.types.size)(c):SR p p' Z (VR Z) (Instr.build t c) (Instr.build t (c.map λ(i,x)=>(i,bB Z x))):=by
 refine aK (fW F h) ?_;rintro _ z ⟨rfl,j⟩;have k:z.cells.map (bB Z)=z.cells:=by rw[<-mB,j]
 refine aK (aR F t) ?_;rintro _ d ⟨rfl,_⟩;have key:∀(place:Nat->Option (Nat×Nat)) (msg:String),SR p p' Z (VR Z) (match Instr.fill place z.cells c.toList with|some cells=>pure (.agg cells)|_=>stuck msg) (match Instr.fill place z.cells (c.map λ(i,x)=>(i,bB Z x)).toList with|some cells=>pure (.agg cells)|_=>stuck msg):=λplace msg=>by have:=zL (Z:=Z) place c.toList z.cells;rw[k]at this;rw[rG,this];cases Instr.fill place z.cells c.toList with
  |none=>exact aM rfl
  |some cs=>exact aN (by simp[VR])
 cases d with
 |struct g=>
   refine aK (Q:=λa b=>b=a) ?_ ?_
   .have:∀l:Array Field,SR p p' Z (λa b=>b=a) (l.mapM λf=>do pure (f.offset,<-sizeOf f.type)) (l.mapM λf=>do pure (f.offset,<-sizeOf f.type)):=λl=>by rw[QC];refine Rv (Q:=λa b=>b=a) (f:=λ(l:List (Nat×Nat))=>Sem.pure l.toArray) (f':=λ(l:List (Nat×Nat))=>Sem.pure l.toArray) ?_ (by rintro _ l rfl;exact SR.pure rfl);induction l.toList with
     |nil=>simp;exact aN rfl
     |cons f l m=>rw[List.mapM_cons];refine aK (Q:=λa b=>b=a) (aK (dZ F f.type) (by rintro _ n rfl;exact aN rfl)) ?_;rintro _ x rfl;refine aK m ?_;rintro _ y rfl;exact aN rfl
    exact this g
   .rintro _ places rfl;exact key _ _
 |array n e=>refine aK (dZ F e) ?_;rintro _ n rfl;exact key _ _
 |_=>exact aM rfl
end
end Go.Ren
