import Derived.KernelRfl
import Derived.Below
import Derived.Tactics
import GoSem.Step
import Derived.Laws.Sem
set_option linter.all false
set_option maxHeartbeats 4000000
namespace Go
instance:Coe Int Value:=⟨.int .i64⟩
instance:Coe Nat Value:=⟨λn=>.int .i64 n⟩
instance:Coe Unit Value:=⟨λ_=>.slice none 0 0⟩
instance:Coe Unit (List Value):=⟨λ_=>[.string ⟨#[]⟩,.int .i64 0,.int .i64 0,.string ⟨#[]⟩,.int .i64 0,.bool false]⟩
instance:Coe Unit (Array Value):=⟨λ_=>#[.string ⟨#[]⟩,.int .i64 0,.int .i64 0,.string ⟨#[]⟩,.int .i64 0,.bool false]⟩
instance:Coe ByteArray Value:=⟨.string⟩
instance:Coe World Nat:=⟨λw=>w.heap.size⟩
instance:Coe Nat (Option Addr):=⟨λb=>some ⟨b,0,none⟩⟩
instance{b o:Nat}:CoeDep (Nat×Nat) (b,o) Addr:=⟨⟨b,o,none⟩⟩
instance{b o:Nat}:CoeDep (Nat×Nat) (b,o) (Option Addr):=⟨some ⟨b,o,none⟩⟩
structure Dw(n:Nat)
instance:Coe (Dw 0) Value:=⟨λ_=>.int .i64 0⟩
instance:Coe (Dw 1) Value:=⟨λ_=>.string ⟨#[]⟩⟩
instance:Coe (Dw 2) Value:=⟨λ_=>.int .u64 0⟩
instance:Coe (Dw 3) Value:=⟨λ_=>.bool true⟩
instance:Coe (Dw 4) Value:=⟨λ_=>.bool false⟩
instance:Coe (Dw 5) Value:=⟨λ_=>.int .i64 1⟩
def aA:Dw 0:=⟨⟩
def aB:Dw 1:=⟨⟩
def aC:Dw 2:=⟨⟩
def aD:Dw 3:=⟨⟩
def aF:Dw 4:=⟨⟩
def aG:Dw 5:=⟨⟩
def O9{p:Prop}(h:p:=by omega):p:=h
def D9{p:Prop}(h:p:=by decide):p:=h
def K8{p:Prop}(h:p:=by kernel_rfl):p:=h
def S8{p:Prop}(h:p:=by simp):p:=h
def E9{p:Prop}(h:p:=by simp[Act.eval]):p:=h
def G9{p:Prop}(h:p:=by go_simp):p:=h
def Z9{p:Prop}(h:p:=by rw[World.size_alloc];omega):p:=h
def L9{n:Nat}:n≤n:=Nat.le_refl n
def B0{B:Nat}{w:World}:RowKit.Below B w w:=RowKit.Below.refl B w
def Calls.m1{P f a w v Q}{R:World->Prop}(h:Calls P f a w λe w'=>e=.returned v/\R w')(k:∀w',R w'->Q (.returned v) w'):Calls P f a w Q:=h.mono λ_ w' r=>r.1▸k w' r.2
def Calls.m0{P f a w v Q}(h:Calls P f a w λe w'=>e=.returned v/\w'=w)(k:Q (.returned v) w):Calls P f a w Q:=h.mono λ_ _ r=>r.1▸r.2▸k
def mP:=@List.mem_append
def mQ:=@List.getElem?_append_left
def bW:=@List.getElem?_eq_some_iff
def sV:=@List.prefix_refl
def kY:=@List.map_cons
def Qz:=@Array.sizeOf_lt_of_mem
def zj:=@Array.ext_getElem?
def kZ:=@Array.getElem?_map
def DV:=@Array.mem_of_getElem?
def eQ:=@Nat.lt_of_lt_of_le
def nR:=@Nat.lt_succ_self
def nS:=@Nat.le_of_eq
def oL:=@List.eq_nil_of_length_eq_zero
def bL:=@Nat.le_trans
def pD:=@Option.getD_some
def lA:=@decide_eq_false
def nT:=@decide_eq_true
def ac7:=@Array.eq_empty_iff_forall_not_mem
def zl:=@Array.getElem?_push_lt
def nD:=@Array.getElem?_eq_getElem
def Kb:=@Array.getElem?_push_size
def eG:=@Array.getElem?_eq_some_iff
def lH:=@Array.getElem?_setIfInBounds_ne
def Kc:=@Array.getElem?_setIfInBounds_self_of_lt
def gH:=@Ne.symm
def dP:=@Bool.and_eq_true
def uR:=@beq_iff_eq
def xN:=@List.all_eq_true
def zm:=@List.mem_range
def zn:=@Array.all_eq_true_iff_forall_mem
def vG:=@Go.IntKind.wrap_i64
def qx:=@Nat.lt_or_ge
def QA:=@Nat.lt_trichotomy
def nE:=@Int.le_refl
def xO:=@Go.run_make
def vH:=@Int.toNat_natCast
def VJ:=@Array.getElem?_push
def aS:=@if_neg
def QB:=@Array.size_push
def QC:=@Go.size_madeCells
def VK:=@Nat.lt_of_le_of_lt
def fQ:=@Nat.zero_le
def VL:=@Array.getElem?_append_left
def Ke:=@Nat.mod_eq_of_lt
def rI:=@Nat.sub_self
def GZ:=@List.map_nil
def G0:=@Array.getD_eq_getD_getElem?
def Kf:=@List.getElem?_toArray
def pE:=@List.getElem?_cons_succ
def lI:=@List.getElem?_cons_zero
def oM:=@List.size_toArray
def fR:=@List.length_cons
def kE:=@List.length_nil
def Kg:=@Nat.mod_lt
def Kh:=@Array.getElem?_eq_none
def ac8:=@Go.Input.okWide_of_okWideB
def iQ:=@Option.some.inj
def uS:=@decide_eq_true_eq
def nU:=@Nat.not_lt_zero
def QD:=@List.mem_toArray
def iY:=@List.mem_cons
def nV:=@List.not_mem_nil
def oN:=@or_false
def Ki:=@Prod.ext
def QE:=@Classical.choose_spec
def Kj:=@Go.Addr.mk.injEq
def zo:=@true_and
def sW:=@and_true
def G1:=@Option.map_eq_some_iff
def dM:=@Option.map_some
def qy:=@Nat.eq_zero_or_pos
def gA:=@Option.some.injEq
def ac9:=@Array.getElem_setIfInBounds
def zq:=@List.cons.injEq
def uT:=@if_true
def ada:=@Array.getElem?_append_right
def qz:=@Nat.le_refl
def DW:=@Nat.add_zero
def VM:=@Array.mem_iff_getElem
def Kl:=@Array.getElem?_set_ne
def Km:=@Nat.add_sub_cancel
def DX:=@List.mem_filter
def QF:=@List.filter_sublist
def VN:=@List.length_pos_of_mem
def adb:=@List.getElem?_eq_none_iff
def cS:=@List.mem_of_getElem?
def Ko:=@List.length_filter_le
def VO:=@Go.World.cells?_some
def bR:=@List.getElem?_eq_getElem
def DY:=@Go.DataW.trod_int
def iF:=@List.mem_map
def iZ:=@List.append_assoc
def VP:=@of_decide_eq_true
def B6:=@And.intro
def Kq:=@Go.Sem.runT_fst
def QG:=@Go.Sem.run_bind'
def bF:=@if_pos
def Kr:=@Array.map_setIfInBounds
def QH:=@Bool.or_eq_true
def zr:=@if_false
def G3:=@Array.getElem?_modify
def zt:=@Nat.le_succ
def rJ:=@Classical.em
def VQ:=@Nat.add_assoc
def Ks:=@Array.size_map
def QI:=@Array.forIn_toList
def ade:=@Std.Legacy.Range.forIn_eq_forIn_range'
def Kt:=@Bool.and_false
def vI:=@Bool.false_eq_true
def Ku:=@Option.map_none
def sX:=@Array.toList_map
def QJ:=@Function.comp_def
def QK:=@Option.all_some
def VS:=@Array.foldl_toList
def VT:=@Array.mapM_eq_mapM_toList
def VU:=@Nat.zero_mul
def VV:=@Array.map_append
def jN:=@List.all_cons
def Kv:=@List.foldl_cons
def VW:=@Go.Next.round.injEq
def VX:=@List.all_append
def DZ:=@List.cons_append
def D2:=@Int.lt_of_lt_of_le
def G5:=@Int.ofNat_le
def Kw:=@Prod.mk.injEq
def nG:=@List.map_append
def QL:=@Nat.le_add_right
def vJ:=@List.nil_append
def zu:=@Option.bind_eq_some_iff
def D3:=@Go.World.cell?_setCell_other
def adf:=@Go.World.frozen?_setCell
def bO:=@Go.World.size_alloc
def QM:=@Array.getElem?_eq_none_iff
def Ca:=@List.getD_eq_getElem?_getD
def adg:=@Nat.add_sub_cancel_left
def eA:=@List.getElem?_append_right
def adh:=@List.getElem?_replicate
def vK:=@Option.bind_some
def nH:=@List.mem_iff_getElem?
def VY:=@List.getElem?_drop
def VZ:=@Go.GStep.go.injEq
def oO:=@List.append_nil
def QN:=@Int.emod_nonneg
def QO:=@Int.emod_lt_of_pos
def adi:=@Int.tmod_eq_emod_of_nonneg
def uU:=@List.set_append_right
def adj:=@List.length_replicate
def V2:=@Int.le_of_lt
def xP:=@List.take_succ_eq_append_getElem
def jU:=@List.mem_singleton
def V3:=@List.mem_of_mem_drop
def nI:=@Go.World.ownsRow_nil
def oP:=@Go.World.ownsRow.alloc
def lB:=@Go.World.ownsRow.lt
def bY:=@List.length_append
def sY:=@Go.World.ownsRow.cells
def afh:=@Array.length_toList
def nJ:=@Go.bodyPost_ret
def xQ:=@Array.size_modify
def uV:=@Go.heap_alloc_new
def QP:=@List.nodup_append
def D4:=@Nat.le_of_lt
def Cb:=@Int.eq_ofNat_of_zero_le
def jO:=@List.length_take
def Cc:=@List.length_drop
def V4:=@List.take_take
def xR:=@ne_eq
def Ky:=@not_true_eq_false
def Kz:=@not_false_eq_true
def V5:=@decide_eq_false_iff_not
def pF:=@Go.leaves_cons
def eY:=@List.length_map
def zw:=@List.length_reverse
def s5:=@List.getElem?_set_ne
def V6:=@List.mem_cons_of_mem
def D5:=@List.flatMap_cons
def KB:=@List.nodup_cons
def D6:=@List.filter_cons_of_neg
def V7:=@List.filter_eq_self
def xS:=@List.mem_map_of_mem
def G6:=@List.filter_cons_of_pos
def V8:=@Array.toList_filter
def pG:=@List.map_map
def KC:=@Go.results_tmp
def V9:=@List.mem_cons_self
def Wa:=@UInt8.lt_iff_toNat_lt
def kF:=@List.ext_getElem?
def KF:=@Array.getElem?_toList
def Wb:=@getElem!_pos
def Wc:=@List.getElem!_eq_getElem?_getD
def adk:=@Array.getElem!_eq_getD
def nK:=@List.getElem?_eq_none
def jA:=@Nat.zero_add
def QQ:=@Go.Value.slice.injEq
def Wd:=@Nat.mul_le_mul_right
def QR:=@List.getElem?_take_of_lt
def cL:=@List.getElem?_map
def We:=@List.pairwise_iff_getElem
def KG:=@Go.results_none
def Ce:=@List.take_append_drop
def oQ:=@List.length_singleton
def Wh:=@List.flatMap_map
def KH:=@Int.toNat_of_nonneg
def s6:=@List.getElem_mem
def iR:=@List.take_length
def G7:=@List.flatMap_def
def D7:=@List.take_add_one
def QS:=@List.take_of_length_le
def QT:=@List.take_succ_cons
def Wi:=@List.flatten_cons
def vL:=@Nat.min_eq_left
def D8:=@List.getElem?_inj
def QU:=@List.any_eq_true
def oU:=@List.getElem?_mapIdx
def vM:=@Go.run_underlying
def xU:=@List.drop_eq_getElem_cons
def Wj:=@List.drop_eq_nil_of_le
def KI:=@Nat.pow_le_pow_right
def G8:=@Int.natCast_nonneg
def KJ:=@List.length_set
def Wk:=@List.modify_succ_cons
def KL:=@List.getElem?_modify
def Ha:=@Nat.lt_irrefl
def qA:=@Go.World.size_setCell
def QV:=@beq_eq_false_iff_ne
def Wl:=@List.drop_of_length_le
def Wm:=@List.mem_append_left
def Wn:=@List.any_eq_false
def Wo:=@Option.isSome_iff_exists
def KM:=@List.append_toArray
def Hb:=@Int.lt_or_le
def Hc:=@Int.not_lt
def KN:=@Go.MapKept.run_getObj_map
def Wp:=@Go.MapKept.run_setObj_map
def adl:=@List.eraseIdx_sublist
def QW:=@Go.Value.agg.injEq
def QX:=@Array.mk.injEq
def QY:=@Go.Value.string.injEq
def QZ:=@Go.Value.int.injEq
def Q0:=@Go.Value.bool.injEq
def Wq:=@List.mem_of_mem_take
def Q3:=@List.getElem?_set_self
def afi:=@List.find?_cons_of_neg
def Q4:=@Array.replicate_succ
def Q5:=@Array.replicate_zero
def Q6:=@List.push_toArray
def Wt:=@Nat.ne_of_lt
def Wu:=@Go.World.grownBy_alloc
def Q7:=@Nat.sub_zero
def Wv:=@List.drop_length
def Hd:=@List.getElem?_reverse
def Q8:=@List.map_reverse
def Ww:=@List.length_mapIdx
def adm:=@Option.isNone_iff_eq_none
def adn:=@Array.idxOf?_eq_none_iff
end Go
namespace Go.Ren
def J7:Value->Prop
 |.pointer (some _)|.slice (some _) _ _|.map (some _)|.chan (some _)|.func (.yield _) _ _=>True
 |_=>False
structure Pi where
 f:Nat->Nat
 s:Nat->Value
 leaf:∀k,J7 (s k)
 gh:Nat->Option Addr
instance:CoeFun Pi (λ_=>Nat→Nat):=⟨Pi.f⟩
structure Gs where
 s:Nat->Value
 leaf:∀k,J7 (s k)
 gh:Nat->Option Addr
 strict:Bool
 id:strict=true->(∀k,s k=.chan (some k))/\∀b,gh b=none
def Gs.self:Gs:=⟨λk=>.chan (some k),λ_=>trivial,λ_=>none,true,λ_=>⟨λ_=>rfl,λ_=>rfl⟩⟩
def oI(Z:Pi):Option Nat->Value
 |none=>.chan none
 |some k=>Z.s k
def cE(Z:Pi)(a:Addr):Addr:={a with block:=Z a.block}
def zk(Z:Pi)(l c:Nat)(a:Addr):Addr:=if l=0/\c=0 then(Z.gh a.block).getD (cE Z a)else cE Z a
def KT(Z:Pi)(a:Option Addr)(l c:Nat):Option Addr:=a.map (zk Z l c)
def qj{Z l c a}(h:¬(l=0/\c=0)):zk Z l c a=cE Z a:=aS h
def fV{Z l c a}(h:Z.gh a.block=none):zk Z l c a=cE Z a:=by
 unfold zk;split;.simp_all
 .rfl
def qw(Z:Pi):Fn->Fn
 |.yield l=>.yield (Z l)
 |f=>f
def bC(Z:Pi):Value->Value
 |.bool b=>.bool b
 |.int k n=>.int k n
 |.float k b=>.float k b
 |.complex k a b=>.complex k a b
 |.string s=>.string s
 |.pointer a=>.pointer (a.map (cE Z))
 |.slice a l c=>.slice (KT Z a l c) l c
 |.map r=>.map (r.map Z.f)
 |.chan r=>oI Z r
 |.func fn a b=>.func (qw Z fn) (a.map (bC Z)) (b.map (bC Z))
 |.nilFunc=>.nilFunc
 |.iface t v=>.iface t (bC Z v)
 |.nilIface=>.nilIface
 |.agg cs=>.agg (cs.map (bC Z))
 |.tuple vs=>.tuple (vs.map (bC Z))
def Dc(Z:Pi):Target->Target
 |.fn f c=>.fn (qw Z f) (c.map (bC Z))
 |.collected r=>.collected (Z r)
 |.coroexit c=>.coroexit (Z c)
 |t=>t
def mS(Z:Pi)(d:Deferred):Deferred:={target:=Dc Z d.target,args:=d.args.map (bC Z)}
def mM(Z:Pi)(e:MapEntry):MapEntry:={e with key:=bC Z e.key,val:=bC Z e.val}
def Ty(Z:Pi)(l:Loop):Loop:={l with tmps:=l.tmps.map (bC Z),defers:=Z l.defers}
def dW(Z:Pi):Obj->Obj
 |.cells c e f=>.cells (c.map (bC Z)) e f
 |.pending c e=>.pending (c.map (bC Z)) e
 |.view a t=>.view (cE Z a) t
 |.number a l=>.number (cE Z a) l
 |.map es c=>.map (es.map (mM Z)) c
 |.chan cap buf cl s r t=>.chan cap (buf.map (bC Z)) cl s r t
 |.stringIter s p=>.stringIter s p
 |.mapIter m s seen st=>.mapIter (m.map Z.f) s seen st
 |.loop l=>.loop (Ty Z l)
 |.deferred cs=>.deferred (cs.map (·.map (mS Z)))
 |.coro p=>.coro p
 |.finalizers fs r=>.finalizers (fs.map λ(n,d)=>(n,mS Z d)) r
def Lt(Z:Pi):Mark->Mark
 |.acquire a=>.acquire (cE Z a)
 |.release a=>.release (cE Z a)
 |.releaseMerge a=>.releaseMerge (cE Z a)
 |.read a=>.read (cE Z a)
 |.write a=>.write (cE Z a)
 |m=>m
def Je(Z:Pi):Halt->Halt
 |.panic v=>.panic (bC Z v)
 |h=>h
def yD(Z:Pi):Loc->Loc
 |.cell a=>.cell (cE Z a)
 |.obj r=>.obj (Z r)
 |.mark m=>.mark (Lt Z m)
 |l=>l
def AZ(Z:Pi)(e:Event):Event:={e with loc:=yD Z e.loc}
def o7:Nat->Value->Bool
 |0,_=>false
 |n+1,v=>match v with
   |.pointer a|.slice a _ _=>a.isNone
   |.map r|.chan r=>r.isNone
   |.func f a b=>(match f with|.yield _=>false|_=>true)&&a.all (o7 n)&&b.all (o7 n)
   |.iface _ v=>o7 n v
   |.agg cs|.tuple cs=>cs.all (o7 n)
   |_=>true
def Jf(v:Value):Bool:=o7 5 v
def aej:Option TypeDesc->Bool
 |some (.int .u8)=>true
 |_=>false
def OL(p:Program)(s d:TypeId):Bool:=match p.underlying s,p.underlying d with
 |some (.int _),some (.int _)=>true
 |some .string,some .string=>true
 |some (.slice e),some .string=>aej (p.underlying e)
 |some .string,some (.slice e)=>aej (p.underlying e)
 |_,_=>false
def aek:Operand->Bool
 |.const .nilIface=>true
 |_=>false
section
variable(p:Program)
def OM(t:TypeId):Bool:=decide (t<p.types.size)
def rN(_:Program):Operand->Bool
 |.const v=>Jf v
 |.global _=>false
 |_=>true
def u7:Nat->TypeId->Bool
 |0,_=>false
 |n+1,t=>((p.info? t).all fun i=>match i.desc with|.named "sync.copyChecker" _=>false|_=>true)&&match p.underlying t with
   |some (.interface _)|some (.chan ..)=>false
   |some (.array _ e)=>u7 n e
   |some (.struct fs)=>fs.all fun f=>u7 n f.type
   |_=>true
def Tz(t:TypeId)(nl:Bool):Bool:=u7 p 5 t||(nl&&match p.underlying t with|some (.interface _)=>true|_=>false)
def zO(t:TypeId):Bool:=match p.underlying t with
 |some (.map k _)=>u7 p 5 k
 |_=>true
def okL(t:TypeId):Bool:=match p.underlying t with
 |some (.chan ..)=>false
 |_=>true
def okB(ts:Array TypeId):Builtin->Bool
 |.append|.clear=>(ts[0]?).all (OM p)
 |.delete=>(ts[0]?).all (zO p)
 |.len|.cap=>(ts[0]?).all (okL p)
 |.copy|.max|.min|.panic|.recover|.unsafeString=>true
 |_=>false
def OO(c:Call):Bool:=c.args.all (rN p)&&match c.callee with
  |.value f=>rN p f
  |.invoke f _=>rN p f
  |.builtin b=>okB p c.argTypes b
def okD(d:Deferred):Bool:=match d.target with
 |.builtin b ts _ _=>okB p ts b
 |.coroexit _=>false
 |_=>true
def TB:Op->Bool
 |.move x|.assign x|.box _ x|.load _ x|.nilCheck x|.unOp _ _ x|.makeInterface _ x|.fieldAddr _ x _|.field _ x _|.range _ x|.next x _|.entry x|.extract x _|.panic x=>rN p x
 |.pick a b c=>rN p a&&rN p b&&rN p c
 |.alloc t=>OM p t
 |.build t ps=>OM p t&&ps.all λ(_,x)=>rN p x
 |.buildSlice t _ ps=>OM p t&&ps.all λ(_,x)=>rN p x
 |.store _ a b|.indexAddr _ a b|.index _ a b=>rN p a&&rN p b
 |.binOp op t a b _=>rN p a&&rN p b&&(match op with|.eql|.neq=>Tz p t (aek b)|_=>true)
 |.lookup t a b _=>OM p t&&rN p a&&rN p b&&zO p t
 |.makeSlice t a b=>OM p t&&rN p a&&rN p b
 |.convert s d x=>OL p s d&&rN p x
 |.makeFunc f a b=>(match f with|.yield _=>false|_=>true)&&a.all (rN p)&&b.all (rN p)
 |.makeMap _ r=>r.all (rN p)
 |.slice _ x l h m=>rN p x&&l.all (rN p)&&h.all (rN p)&&m.all (rN p)
 |.mapUpdate t a b c=>rN p a&&rN p b&&rN p c&&zO p t
 |.typeAssert x _ t _=>OM p t&&rN p x
 |.call c|.defer c=>OO p c
 |_=>false
def yA(f:FuncId):Bool:=(p.inits.idxOf? f).isNone
def eX:Code->Bool
 |.region _ ops _=>ops.all λo=>TB p o.op
 |.seq a b=>eX a&&eX b
 |.cond c a b=>rN p c&&eX a&&eX b
 |.block _ b|.loop b|.scope b=>eX b
 |.rangeFunc f _ a b=>rN p f&&eX a&&eX b
 |_=>true
end
def cN(p:Program):Obj->Bool
 |.pending ..|.view ..=>false
 |.loop l=>eX p l.assign&&eX p l.body&&l.pending.all (eX p)&&yA p l.fn
 |.deferred cs=>cs.all (·.all (okD p))
 |_=>true
def x5:Halt->Bool
 |.stuck _=>true
 |.unsupported (.initOrder _)=>false
 |.unsupported _=>true
 |_=>false
def okM:Mark->Bool
 |.disable|.enable=>false
 |_=>true
def OP(e:Event):Bool:=match e.loc with
 |.mark m=>okM m
 |_=>true
def Rk:Halt->Bool
 |.panic _|.throw _=>true
 |_=>false
def afJ{α β:Type}(p:Program)(f:α->Sem β):Result α×Array Event->Result β×Array Event
 |(.ok a w1,XD)=>(f a).runT p w1 XD
 |(.halt h w1,XD)=>(.halt h w1,XD)
def o8{α β:Type}(p:Program)(s:Sem α)(f:α->Sem β):∀(w:World) (es:Array Event),(s>>=f).runT p w es=afJ p f (s.runT p w es):=by change ∀w es,(s.bind f).runT p w es=_;induction s with
 |pure a=>intro w es;rfl
 |halt h=>intro w es;rfl
 |store m a v k ih=>intro w es;cases v<;>simp only[Sem.bind,Sem.runT]<;>(repeat' split)<;>first|rfl|exact ih _ _
 |_=>
   rename_i ih;intro w es;simp only[Sem.bind,Sem.runT];repeat' split
   all_goals first|rfl|exact ih _ _ _|exact ih _ _
def eJ{α:Type}(p:Program)(s:Sem α):Prop:=∀w es,∃h w' es',s.runT p w es=(.halt h w',es')/\x5 h=true
def eJ.bind{α β p s}{f:α->Sem β}(h:eJ p s):eJ p (s.bind f):=λw es=>by have⟨x,w',a,e,b⟩:=h w es;refine⟨x,w',a,?_,b⟩;have:=o8 p s f w es;rw[e]at this;exact this
def eJ.then{α β p s}{f:α->Sem β}(h:∀a,eJ p (f a))(g:∀w es,∃a w' b,s.runT p w es=(.ok a w',b)):eJ p (s>>=f):=λw es=>by have⟨a,w',b,e⟩:=g w es;have⟨x,w2,d,c,i⟩:=h a w' b;exact⟨x,w2,d,by rw[o8,e];exact c,i⟩
section
variable(p p':Program)(Z:Pi)
inductive SR{α β:Type}(Q:α->β->Prop):Sem α->Sem β->Prop
 |pure {a:α} {b:β}:Q a b->SR Q (.pure a) (.pure b)
 |load {m:Mode} {a:Addr} {k:Value->Sem α} {k':Value->Sem β}:(∀v,SR Q (k v) (k' (bC Z v)))->SR Q (.load m a k) (.load m (cE Z a) k')
 |store {m:Mode} {a:Addr} {v:Value} {k:Sem α} {k':Sem β}:SR Q k k'->SR Q (.store m a v k) (.store m (cE Z a) (bC Z v) k')
 |new {o:Obj} {k:Nat->Sem α} {k':Nat->Sem β}:cN p o=true->(∀r,Z.gh r=none->SR Q (k r) (k' (Z r)))->SR Q (.new o k) (.new (dW Z o) k')
 |shape {r:Nat} {k:Option (TypeId×Nat)->Sem α} {k':Option (TypeId×Nat)->Sem β}:(∀s,SR Q (k s) (k' s))->SR Q (.shape r k) (.shape (Z r) k')
 |freeze {a:Addr} {n:Nat} {k:Sem α} {k':Sem β}:SR Q k k'->SR Q (.freeze a n k) (.freeze (cE Z a) n k')
 |frozen {a:Addr} {k:Bool->Sem α} {k':Bool->Sem β}:(∀b,SR Q (k b) (k' b))->SR Q (.frozen a k) (.frozen (cE Z a) k')
 |getObj {r:Nat} {k:Obj->Sem α} {k':Obj->Sem β}:(∀o,cN p o=true->SR Q (k o) (k' (dW Z o)))->SR Q (.getObj r k) (.getObj (Z r) k')
 |setObj {r:Nat} {o:Obj} {k:Sem α} {k':Sem β}:cN p o=true->SR Q k k'->SR Q (.setObj r o k) (.setObj (Z r) (dW Z o) k')
 |choose {q:Question} {k:Nat->Sem α} {k':Nat->Sem β}:(∀n,SR Q (k n) (k' n))->SR Q (.choose q k) (.choose q k')
 |env {k:SysRet->Sem α} {k':SysRet->Sem β}:(∀r,SR Q (k r) (k' r))->SR Q (.sys .env k) (.sys .env k')
 |program {k:Program->Sem α} {k':Program->Sem β}:SR Q (k p) (k' p')->SR Q (.program k) (.program k')
 |mark {m:Mark} {k:Sem α} {k':Sem β}:okM m=true->SR Q k k'->SR Q (.mark m k) (.mark (Lt Z m) k')
 |halt {h:Halt}:Rk h=true->SR Q (.halt h) (.halt (Je Z h))
 |qC {s:Sem α} {s':Sem β}:eJ p s->SR Q s s'
end
def SR.lost{α β p p' Z}{Q:α->β->Prop}{h s}(e:x5 h=true):SR p p' Z Q (.halt h) s:=.qC λw es=>⟨h,w,es,rfl,e⟩
def aL:=@SR.lost
def SR.ady{α β:Type}{p p':Program}{Z:Pi}{Q:α->β->Prop}{k:Program->Sem α}{h:Halt}{s:Sem β}(e:k p=.halt h)(e2:x5 h=true):SR p p' Z Q (.program k) s:=.qC λw es=>⟨h,w,es,by simp only[Sem.runT,e],e2⟩
section
variable{p p':Program}{Z:Pi}{α β γ δ:Type}{Q:α→β→Prop}{Q':γ→δ→Prop}
def SR.bind'{s s' f f'}(h:SR p p' Z Q s s')(e:∀a b,Q a b->SR p p' Z Q' (f a) (f' b)):SR p p' Z Q' (s.bind f) (s'.bind f'):=by induction h with
 |pure h=>exact e _ _ h
 |load _ c=>exact .load c
 |store _ c=>exact .store c
 |new d _ c=>exact .new d c
 |shape _ c=>exact .shape c
 |freeze _ c=>exact .freeze c
 |frozen _ c=>exact .frozen c
 |getObj _ c=>exact .getObj c
 |setObj d _ c=>exact .setObj d c
 |choose _ c=>exact .choose c
 |env _ c=>exact .env c
 |program _ c=>exact .program c
 |mark h _ c=>exact .mark h c
 |halt h=>exact .halt h
 |qC h=>exact .qC h.bind
def Rm:=@SR.bind'
def SR.bind{s s' f f'}(h:SR p p' Z Q s s')(c:∀a b,Q a b->SR p p' Z Q' (f a) (f' b)):SR p p' Z Q' (s>>=f) (s'>>=f'):=Rm h c
def aK:=@SR.bind
def SR.ret{a b}(h:Q a b):SR p p' Z Q (Pure.pure a) (Pure.pure b):=SR.pure h
def aM:=@SR.ret
def SR.mono{s s' e}(h:SR p p' Z Q s s')(f:∀a b,Q a b->e a b):SR p p' Z e s s':=by induction h with
 |pure h=>exact .pure (f _ _ h)
 |load _ c=>exact .load c
 |store _ c=>exact .store c
 |new d _ c=>exact .new d c
 |shape _ c=>exact .shape c
 |freeze _ c=>exact .freeze c
 |frozen _ c=>exact .frozen c
 |getObj _ c=>exact .getObj c
 |setObj d _ c=>exact .setObj d c
 |choose _ c=>exact .choose c
 |env _ c=>exact .env c
 |program _ c=>exact .program c
 |mark h _ c=>exact .mark h c
 |halt h=>exact .halt h
 |qC h=>exact .qC h
end
@[simp] theorem eK(Z b):bC Z (.bool b)=.bool b:=by rw[bC]
@[simp] theorem cU(Z k n):bC Z (.int k n)=.int k n:=by rw[bC]
@[simp] theorem dH(Z k n):bC Z (.float k n)=.float k n:=by rw[bC]
@[simp] theorem cM(Z k n m):bC Z (.complex k n m)=.complex k n m:=by rw[bC]
@[simp] theorem cD(Z s):bC Z (.string s)=s:=by rw[bC]
@[simp] theorem bK(Z a):bC Z (.pointer a)=.pointer (a.map (cE Z)):=by rw[bC]
@[simp] theorem bT(Z a l c):bC Z (.slice a l c)=.slice (KT Z a l c) l c:=by rw[bC]
@[simp] theorem TC(Z l c):KT Z none l c=none:=rfl
@[simp] theorem qi(Z a l c):KT Z (some a) l c=some (zk Z l c a):=rfl
@[simp] theorem dY(Z r):bC Z (.map r)=.map (r.map Z.f):=by rw[bC]
@[simp] theorem cO(Z r):bC Z (.chan r)=oI Z r:=by rw[bC]
@[simp] theorem dR(Z f a b):bC Z (.func f a b)=.func (qw Z f) (a.map (bC Z)) (b.map (bC Z)):=by rw[bC]
@[simp] theorem cW(Z):bC Z .nilFunc=.nilFunc:=by rw[bC]
@[simp] theorem cV(Z t v):bC Z (.iface t v)=.iface t (bC Z v):=by rw[bC]
@[simp] theorem cJ(Z):bC Z .nilIface=.nilIface:=by rw[bC]
@[simp] theorem dK(Z c):bC Z (.agg c)=.agg (c.map (bC Z)):=by rw[bC]
@[simp] theorem dQ(Z c):bC Z (.tuple c)=.tuple (c.map (bC Z)):=by rw[bC]
@[simp] theorem Es(Z a):(cE Z a).block=Z a.block:=rfl
@[simp] theorem afK(Z a):(cE Z a).off=a.off:=rfl
@[simp] theorem aff(Z a):(cE Z a).spot=a.spot:=rfl
@[simp] theorem agu(Z b o s):cE Z ⟨b,o,s⟩=⟨Z b,o,s⟩:=rfl
@[simp] theorem zP(Z a n):cE Z (a.add n)=(cE Z a).add n:=by simp[Addr.add];split<;>rfl
@[simp] theorem afg(Z):oI Z none=.chan none:=rfl
def fT(Z r):oI Z r=.chan none\/(∃a,oI Z r=.pointer (some a))\/(∃a l c,oI Z r=.slice (some a) l c)\/(∃m,oI Z r=.map (some m))\/(∃m,oI Z r=.chan (some m))\/∃l a b,oI Z r=.func (.yield l) a b:=by cases r with
 |none=>exact .inl rfl
 |some k=>have h:=Z.leaf k;simp[oI];revert h;cases Z.s k with
   |pointer a=>cases a with|none=>exact False.elim|some a=>intro _;exact .inr (.inl ⟨a,rfl⟩)
   |slice a l c=>cases a with|none=>exact False.elim|some a=>intro _;exact .inr (.inr (.inl ⟨a,l,c,rfl⟩))
   |map r=>cases r with|none=>exact False.elim|some r=>intro _;exact .inr (.inr (.inr (.inl ⟨r,rfl⟩)))
   |chan r=>cases r with|none=>exact False.elim|some r=>intro _;exact .inr (.inr (.inr (.inr (.inl ⟨r,rfl⟩))))
   |func f a b=>cases f<;>first|exact False.elim|(intro _;exact .inr (.inr (.inr (.inr (.inr ⟨_,_,_,rfl⟩)))))
   |_=>exact False.elim
@[simp] theorem OQ(Z r):(oI Z r).cells=#[oI Z r]:=by obtain h|⟨_,h⟩|⟨_,_,_,h⟩|⟨_,h⟩|⟨_,h⟩|⟨_,_,_,h⟩:=fT Z r<;>rw[h]<;>rfl
def Et(Z r c):oI Z r≠.agg c:=by obtain h|⟨_,h⟩|⟨_,_,_,h⟩|⟨_,h⟩|⟨_,h⟩|⟨_,_,_,h⟩:=fT Z r<;>rw[h]<;>simp
def x6(Z r):oI Z r≠.nilIface:=by obtain h|⟨_,h⟩|⟨_,_,_,h⟩|⟨_,h⟩|⟨_,h⟩|⟨_,_,_,h⟩:=fT Z r<;>rw[h]<;>simp
def OS(Z r c):oI Z r≠.tuple c:=by obtain h|⟨_,h⟩|⟨_,_,_,h⟩|⟨_,h⟩|⟨_,h⟩|⟨_,_,_,h⟩:=fT Z r<;>rw[h]<;>simp
@[simp] theorem mC(Z v):(bC Z v).cells=v.cells.map (bC Z):=by cases v with
  |chan r=>rw[cO,OQ];simp[Value.cells]
  |_=>simp[Value.cells]
@[simp] theorem A0(Z):bC Z undef=undef:=by simp[undef]
structure Rn(G:Gs)(Z:Pi):Prop where
 inj:∀a b,Z a=Z b->a=b
 sub:Z.s=G.s
 gh:Z.gh=G.gh
def Cp(U:Nat->Option Nat)(Z:Pi):Prop:=∀b c,U b=some c->Z b=c
structure fE(G:Gs)(U:Nat->Option Nat)(m M:Nat):Prop where
 inj:∀a b c,U a=some c->U b=some c->a=b
 lt:∀b c,U b=some c->b<m/\c<M
 real:∀b c,U b=some c->G.gh b=none
 low:∀b,m<=b->G.gh b=none
def Ext(U μ':Nat->Option Nat):Prop:=∀b c,U b=some c->μ' b=some c
def Ext.refl(U:Nat->Option Nat):Ext U U:=λ_ _ h=>h
def oY:=@Ext.refl
def Ext.trans{a b c}(h:Ext a b)(d:Ext b c):Ext a c:=λ_ _ x=>d _ _ (h _ _ x)
def Cp.Jg{U μ' Z}(h:Ext U μ')(c:Cp μ' Z):Cp U Z:=λ_ _ x=>c _ _ (h _ _ x)
def eZ(G:Gs)(U:Nat->Option Nat)(F:Pi->Prop):Prop:=∀Z,Rn G Z->Cp U Z->F Z
def eZ.ext{G U μ' F}(h:eZ G U F)(e:Ext U μ'):eZ G μ' F:=λZ r c=>h Z r (c.Jg e)
def Ro(U:Nat->Option Nat)(M K:Nat)(b:Nat):Nat:=(U b).getD (M+K+b)
def Lu(G:Gs)(U:Nat->Option Nat)(M K:Nat):Pi:=⟨Ro U M K,G.s,G.leaf,G.gh⟩
def zQ{G m M U}(h:fE G U m M)(K):Rn G (Lu G U M K):=by
 refine⟨λa b e=>?_,rfl,rfl⟩
 .simp[Lu,Ro]at e;cases c:U a<;>cases d:U b<;>rw[c,d]at e<;>simp at e;.omega
  .have:=(h.lt _ _ d).2;omega
  .have:=(h.lt _ _ c).2;omega
  .subst e;exact h.inj _ _ _ c d
def vT(G)(U:Nat->Option Nat)(M K):Cp U (Lu G U M K):=λb c h=>by simp[Lu,Ro,h]
def fE.one{G m M U}(h:fE G U m M):∃Z,Rn G Z/\Cp U Z:=⟨_,zQ h 0,vT G U M 0⟩
def fE.dom{G m M U}(h:fE G U m M){b x}(e:eZ G U λZ=>x=Z b):U b=some x:=by cases a:U b with
 |some c=>rw[e _ (zQ h 0) (vT G U M 0),vT G U M 0 _ _ a]
 |none=>have d:=e _ (zQ h 0) (vT G U M 0);have f:=e _ (zQ h 1) (vT G U M 1);simp[Lu,Ro,a]at d f;omega
structure N4 where
 lim:Nat
 OT:Int
 tp:Nat->Question->Nat
structure WR(p:Program)(L:N4)(G:Gs)(U:Nat->Option Nat)(w W:World):Prop where
 obj:∀b c,U b=some c->∃o o',w.heap[b]?=some o/\W.heap[c]?=some o'/\cN p o=true/\eZ G U λZ=>o'=dW Z o
 tape:∀i q,w.drawn+i<L.lim->w.tape (w.drawn+i) q=W.tape (W.drawn+i) q
 os:W.os=w.os
 OT:(W.drawn:Int)=w.drawn+L.OT
 tp:w.tape=L.tp
structure WE(p:Program)(L:N4)(G:Gs)(U:Nat->Option Nat)(w W:World):Prop where
 obj:∀b c,U b=some c->∃o o',w.heap[b]?=some o/\W.heap[c]?=some o'/\cN p o=true/\eZ G U λZ=>o'=dW Z o
 os:W.os=w.os
 OT:G.strict=true->(W.drawn:Int)=w.drawn+L.OT
 tp:w.tape=L.tp
def WR.we{p L G U w W}(h:WR p L G U w W):WE p L G U w W:=⟨h.obj,h.os,λ_=>h.OT,h.tp⟩
structure Fr(U μ':Nat->Option Nat)(W W':World):Prop where
 size:W.heap.size<=W'.heap.size
 rest:∀c,c<W.heap.size->(∀b,U b≠some c)->W'.heap[c]?=W.heap[c]?
 new:∀c,W.heap.size<=c->c<W'.heap.size->∃b,μ' b=some c
 old:∀b c,μ' b=some c->c<W.heap.size->U b=some c
 tape:W'.tape=W.tape
 output:W'.output=W.output
 dr:W.drawn<=W'.drawn
 os:W'.os=W.os
def Fr.refl(U:Nat->Option Nat)(W):Fr U U W W:=⟨L9,λ_ _ _=>rfl,λc h a=>by omega,λ_ _ h _=>h,rfl,rfl,L9,rfl⟩
def Lv:=@Fr.refl
def Fr.trans{U μ' ael:Nat->Option Nat}{W W' W'':World}(e:Ext μ' ael)(h:Fr U μ' W W')(h':Fr μ' ael W' W''):Fr U ael W W'' where
 size:=bL h.size h'.size;rest:=λc hc hn=>by have hs:=h.size;rw[h'.rest c (by omega) (λb hb=>hn b (h.old b c hb hc)),h.rest c hc hn]
 new:=λc h1 h2=>by
  by_cases hc:c<W'.heap.size;.obtain⟨b,hb⟩:=h.new c h1 hc;exact⟨b,e _ _ hb⟩
  .exact h'.new c (by omega) h2
 old:=λb c hb hc=>by have hs:=h.size;exact h.old b c (h'.old b c hb (by omega)) hc
 tape:=h'.tape.trans h.tape;output:=h'.output.trans h.output;dr:=bL h.dr h'.dr;os:=h'.os.trans h.os
def cZ{α:Type}:Result α->World
 |.ok _ w|.halt _ w=>w
def vz(L:N4)(w W:World):Prop:=(L.lim:Int)<w.drawn/\L.lim+L.OT<W.drawn
structure se(G:Gs)(U:Nat->Option Nat)(es ES:Array Event):Prop where
 all:eZ G U λZ=>ES=es.map (AZ Z)
 quiet:∀e∈es,OP e=true
def se.push{G U es ES}(h:se G U es ES){e E}(b:eZ G U λZ=>E=AZ Z e)(d:OP e=true):se G U (es.push e) (ES.push E):=⟨λZ r c=>by show ES.push E=(es.push e).map (AZ Z);rw[h.all Z r c,b Z r c,Array.map_push],λx f=>by
  obtain a|rfl:=Array.mem_push.1 f;.exact h.quiet x a
  .exact d⟩
def Out{α β:Type}(p:Program)(L:N4)(G:Gs)(U:Nat->Option Nat)(W:World)(Q:Pi->α->β->Prop)(r:Result α×Array Event)(r':Result β×Array Event):Prop:=match r with
 |(.ok a w1,XD)=>vz L w1 (cZ r'.1)\/∃b W1 XE rE,r'=(.ok b W1,XE)/\Ext U rE/\fE G rE w1.heap.size W1.heap.size/\WR p L G rE w1 W1/\Fr U rE W W1/\se G rE XD XE/\eZ G rE λZ=>Q Z a b
 |(.halt h w1,XD)=>vz L w1 (cZ r'.1)\/x5 h=true\/Rk h=true/\∃h' W1 XE rE,r'=(.halt h' W1,XE)/\Ext U rE/\fE G rE w1.heap.size W1.heap.size/\WR p L G rE w1 W1/\Fr U rE W W1/\se G rE XD XE/\eZ G rE λZ=>h'=Je Z h
def oJ{α β:Type}(p:Program)(L:N4)(G:Gs)(U:Nat->Option Nat)(W:World)(Q:Pi->α->β->Prop)(r:Result α×Array Event)(r':Result β×Array Event):Prop:=match r with
 |(.ok a w1,XD)=>vz L w1 (cZ r'.1)\/∃b W1 XE rE,r'=(.ok b W1,XE)/\Ext U rE/\fE G rE w1.heap.size W1.heap.size/\WE p L G rE w1 W1/\Fr U rE W W1/\se G rE XD XE/\eZ G rE λZ=>Q Z a b
 |(.halt h w1,XD)=>vz L w1 (cZ r'.1)\/x5 h=true\/Rk h=true/\∃h' W1 XE rE,r'=(.halt h' W1,XE)/\Ext U rE/\fE G rE w1.heap.size W1.heap.size/\WE p L G rE w1 W1/\Fr U rE W W1/\se G rE XD XE/\eZ G rE λZ=>h'=Je Z h
def Out.we{p L α β G U W Q}{r:Result α×Array Event}{m:Result β×Array Event}(h:Out p L G U W Q r m):oJ p L G U W Q r m:=by match r with
 |(.ok a w1,n)=>
   obtain k|⟨b,d,c,l,e,f,g,i,j⟩:=h;.exact .inl k
   .exact .inr ⟨b,d,c,l,e,f,g,i.we,j⟩
 |(.halt x w1,n)=>
   obtain k|h|⟨o,b,d,c,l,e,f,g,i,j⟩:=h;.exact .inl k
   .exact .inr (.inl h)
   .exact .inr<|.inr ⟨o,b,d,c,l,e,f,g,i.we,j⟩
def Out.weaken{p L α β G U q W W1 Q}{r:Result α×Array Event}{s:Result β×Array Event}(e:Ext U q)(f:Fr U q W W1)(h:Out p L G q W1 Q r s):Out p L G U W Q r s:=by
 match r with
 |(.ok a w1,t)=>
   obtain n|⟨b,g,d,o,i,c,j,k,l,m⟩:=h;.exact .inl n
   .exact .inr ⟨b,g,d,o,i,e.trans c,j,k,f.trans c l,m⟩
 |(.halt x w1,t)=>
   obtain n|h|⟨u,b,g,d,o,i,c,j,k,l,m⟩:=h;.exact .inl n
   .exact .inr (.inl h)
   .exact .inr<|.inr ⟨u,b,g,d,o,i,e.trans c,j,k,f.trans c l,m⟩
section inv
variable{p p':Program}{Z:Pi}{α β:Type}{Q:α→β→Prop}{s':Sem β}
def SR.Lx{a}(h:SR p p' Z Q (.pure a) s'):∃b,s'=.pure b/\Q a b:=by cases h with|pure h=>exact⟨_,rfl,h⟩|qC d=>obtain⟨_,_,_,e,_⟩:=d default #[];cases e
def SR.Lz{m a k}(b:¬eJ p (.load m a k))(h:SR p p' Z Q (.load m a k) s'):∃k',s'=.load m (cE Z a) k'/\∀v,SR p p' Z Q (k v) (k' (bC Z v)):=by cases h with|load h=>exact⟨_,rfl,h⟩|qC d=>exact absurd d b
def SR.Hr{m a v k}(b:¬eJ p (.store m a v k))(h:SR p p' Z Q (.store m a v k) s'):∃k',s'=.store m (cE Z a) (bC Z v) k'/\SR p p' Z Q k k':=by cases h with|store h=>exact⟨_,rfl,h⟩|qC d=>exact absurd d b
def SR.Rp{o k}(b:¬eJ p (.new o k))(h:SR p p' Z Q (.new o k) s'):∃k',s'=.new (dW Z o) k'/\cN p o=true/\∀r,Z.gh r=none->SR p p' Z Q (k r) (k' (Z r)):=by cases h with|new h a=>exact⟨_,rfl,h,a⟩|qC d=>exact absurd d b
def SR.Hs{r k}(a:¬eJ p (.shape r k))(h:SR p p' Z Q (.shape r k) s'):∃k',s'=.shape (Z r) k'/\∀v,SR p p' Z Q (k v) (k' v):=by cases h with|shape h=>exact⟨_,rfl,h⟩|qC d=>exact absurd d a
def SR.Eu{a n k}(b:¬eJ p (.freeze a n k))(h:SR p p' Z Q (.freeze a n k) s'):∃k',s'=.freeze (cE Z a) n k'/\SR p p' Z Q k k':=by cases h with|freeze h=>exact⟨_,rfl,h⟩|qC d=>exact absurd d b
def SR.Ev{a k}(b:¬eJ p (.frozen a k))(h:SR p p' Z Q (.frozen a k) s'):∃k',s'=.frozen (cE Z a) k'/\∀v,SR p p' Z Q (k v) (k' v):=by cases h with|frozen h=>exact⟨_,rfl,h⟩|qC d=>exact absurd d b
def SR.Ew{r k}(a:¬eJ p (.getObj r k))(h:SR p p' Z Q (.getObj r k) s'):∃k',s'=.getObj (Z r) k'/\∀v,cN p v=true->SR p p' Z Q (k v) (k' (dW Z v)):=by cases h with|getObj h=>exact⟨_,rfl,h⟩|qC d=>exact absurd d a
def SR.Ex{r o k}(b:¬eJ p (.setObj r o k))(h:SR p p' Z Q (.setObj r o k) s'):∃k',s'=.setObj (Z r) (dW Z o) k'/\cN p o=true/\SR p p' Z Q k k':=by cases h with|setObj h a=>exact⟨_,rfl,h,a⟩|qC d=>exact absurd d b
def SR.Ey{q k}(a:¬eJ p (.choose q k))(h:SR p p' Z Q (.choose q k) s'):∃k',s'=.choose q k'/\∀v,SR p p' Z Q (k v) (k' v):=by cases h with|choose h=>exact⟨_,rfl,h⟩|qC d=>exact absurd d a
def SR.Cr{k}(a:¬eJ p (.program k))(h:SR p p' Z Q (.program k) s'):∃k',s'=.program k'/\SR p p' Z Q (k p) (k' p'):=by cases h with|program h=>exact⟨_,rfl,h⟩|qC d=>exact absurd d a
def SR.LA{m k}(a:¬eJ p (.mark m k))(h:SR p p' Z Q (.mark m k) s'):∃k',s'=.mark (Lt Z m) k'/\okM m=true/\SR p p' Z Q k k':=by cases h with|mark b h=>exact⟨_,rfl,b,h⟩|qC d=>exact absurd d a
def SR.LC{a}(h:SR p p' Z Q (.halt a) s'):x5 a=true\/s'=.halt (Je Z a)/\Rk a=true:=by cases h with|halt h=>exact .inr ⟨rfl,h⟩|qC d=>obtain⟨_,_,_,e,b⟩:=d default #[];cases e;exact .inl b
def SR.Rq{c k}(a:¬eJ p (.sys c k))(h:SR p p' Z Q (.sys c k) s'):c=.env/\∃k',s'=.sys c k'/\∀v,SR p p' Z Q (k v) (k' v):=by cases h with|env h=>exact⟨rfl,_,rfl,h⟩|qC d=>exact absurd d a
end inv
def WR.cells{p L G m M U w W}(h:WR p L G U w W)(ok:fE G U m M){b c}(e:U b=some c){cs t f}(k:w.heap[b]?=some (.cells cs t f)):∃a,W.heap[c]?=some (.cells a t f)/\eZ G U λZ=>a=cs.map (bC Z):=by
 have⟨o,o',d,j,_,g⟩:=h.obj b c e;rw[k]at d;cases d;have⟨Z,r,cp⟩:=ok.one;have h0:=g Z r cp;subst h0;exact⟨_,j,λn l i=>by have:=g n l i;simpa only[dW,Obj.cells.injEq,and_self,sW]using this⟩
def yE{w:World}{a cs t f}(h:w.heap[a.block]?=some (.cells cs t f)):w.cell? a=if a.spot.isSome then none else cs[a.off]?:=by simp[World.cell?,h]
def kS{p}{w:World}{a o b}(h:w.heap[a.block]?=some o)(c:cN p o=true):w.farLoad p a b=.error (.stuck "load: no such cell"):=by cases o<;>simp_all[World.farLoad,World.noCell,cN]
def OU{p}{w:World}{a o v b}(h:w.heap[a.block]?=some o)(c:cN p o=true):w.farStore p a v b=.error (.stuck "store: no such cell"):=by cases o<;>simp_all[World.farStore,World.noCell,cN]
def AW{w:World}{a o}(h:w.heap[a.block]?=some o)(b:∀cs t f,o≠.cells cs t f):w.cell? a=none:=by cases o<;>simp_all[World.cell?]
def WR.cell{p L G m M U w W}(h:WR p L G U w W)(ok:fE G U m M){a c}(e:U a.block=some c){v}(b:w.cell? a=some v):∃j,W.cell? {a with block:=c}=some j/\eZ G U λZ=>j=bC Z v:=by
 have⟨o,o',d,y,z,A⟩:=h.obj _ c e;cases o with
 |cells cs t f=>
   have⟨u,n,k2⟩:=h.cells ok e d;rw[yE d]at b;rw[yE (a:={a with block:=c}) n];split at b;.cases b
   .rename_i l;have⟨Z,r,cp⟩:=ok.one;rw[aS l];refine⟨bC Z v,by rw[k2 Z r cp,kZ,b];rfl,λs q k=>?_⟩;have g:=k2 Z r cp;rw[k2 s q k]at g;have i:=congrArg (λx:Array Value=>x[a.off]?) g;simp[b]at i;exact i.symm
 |_=>rw[AW d (by intros;simp)]at b;cases b
def WR.frozen{p L G m M U w W}(h:WR p L G U w W)(ok:fE G U m M){a c}(e:U a.block=some c):W.frozen? {a with block:=c}=w.frozen? a:=by have⟨o,o',b,d,g,f⟩:=h.obj _ c e;have⟨Z,r,cp⟩:=ok.one;have h0:=f Z r cp;subst h0;cases o<;>simp[World.frozen?,b,d,dW]
def WR.shape{p L G m M U w W}(h:WR p L G U w W)(ok:fE G U m M){b c}(e:U b=some c):W.shape? c=w.shape? b:=by have⟨o,o',a,d,g,f⟩:=h.obj _ c e;have⟨Z,r,cp⟩:=ok.one;have h0:=f Z r cp;subst h0;cases o<;>simp[World.shape?,a,d,dW]
def WR.iH{p L G U w W}(h:WR p L G U w W)(ok:fE G U w W){b c}(e:U b=some c)(f m)(A:cN p f=true)(z:eZ G U λZ=>m=dW Z f){w1 W1}(y:w1.heap=w.heap.set b f (ok.lt _ _ e).1)(u:W1.heap=W.heap.set c m (ok.lt _ _ e).2)(a:w1.tape=w.tape/\w1.drawn=w.drawn/\w1.os=w.os)(d:W1.tape=W.tape/\W1.drawn=W.drawn/\W1.os=W.os):WR p L G U w1 W1:=by
 refine⟨λg j k=>?_,λi q hi=>by rw[a.1,a.2.1,d.1,d.2.1];exact h.tape i q (by rw[a.2.1]at hi;exact hi),by rw[a.2.2,d.2.2];exact h.os,by rw[a.2.1,d.2.1];exact h.OT,by rw[a.1];exact h.tp⟩;rw[y,u];by_cases l:g=b;.simp_all
 .have v:j≠c:=λx=>l (ok.inj _ _ _ k (x▸e));have⟨o,o',n,r,s,t⟩:=h.obj g j k;exact⟨o,o',by rw[Kl _ (gH l)];exact n,by rw[Kl _ (gH v)];exact r,s,t⟩
def Fr.iH{G:Gs}{U:Nat->Option Nat}{m:Nat}{W W1:World}(ok:fE G U m W.heap.size){b c:Nat}(e:U b=some c){o:Obj}(hW:W1.heap=W.heap.set c o (ok.lt _ _ e).2)(t:W1.tape=W.tape)(ou:W1.output=W.output)(dr:W1.drawn=W.drawn)(os:W1.os=W.os):Fr U U W W1 where
 dr:=nS dr.symm;os:=os;size:=by rw[hW];simp
 rest:=λc' _ hn=>by rw[hW,Kl _ (λx=>hn b (by rw[e,x]))]
 new:=λc' h1 h2=>by rw[hW]at h2;simp at h2;omega
 old:=λ_ _ h _=>h;tape:=t;output:=ou
def jB{w:World}{a v cs t f}(h:w.heap[a.block]?=some (.cells cs t f))(b:a.block<↑w)(c:a.spot=none):(w.setCell a v).heap=w.heap.set a.block (.cells (cs.setIfInBounds a.off v) t f) b:=by
 apply zj;intro i;simp[World.setCell,G3];by_cases hi:a.block=i;.simp_all
 .simp[hi]
def Cs{w:World}{a n cs t lo hi}(h:w.heap[a.block]?=some (.cells cs t (lo,hi)))(b:a.block<↑w)(c:n≠0):(w.freeze a n).heap=w.heap.set a.block (.cells cs t (if lo==hi then(a.off,a.off+n)else(min lo a.off,max hi (a.off+n)))) b:=by
 apply zj;intro i;simp[World.freeze,aS c,G3];by_cases hi:a.block=i;.simp_all
 .simp[hi]
def Ct{w:World}{a n o}(h:w.heap[a.block]?=some o)(c:∀cs t f,o≠.cells cs t f):(w.freeze a n).heap=w.heap:=by
 by_cases b:n=0;.simp[World.freeze,b]
 .apply zj;intro i;simp[World.freeze,aS b,G3];by_cases hi:a.block=i;.simp_all
  .simp[hi]
def Ez{α p m a v}{k:Sem α}{w es}:(∃h,(Sem.store m a v k).runT p w es=(.halt (.stuck h) w,es))\/(Sem.store m a v k).runT p w es=(match w.cell? a with
     |some _=>if w.frozen? a then(.halt (.unsupported (.unsafePointer "a write to bytes that a string shares")) w,es)else k.runT p (w.setCell a v) (es.push ⟨.cell a,true,m==.atomic⟩)
     |none=>match w.farStore p a v (m==.atomic)with
       |.ok (w,b)=>k.runT p w (es++b.toArray.map (⟨.cell ·,true,m==.atomic⟩))
       |.error h=>(.halt h w,es)):=by
 cases v<;>first|exact .inr rfl|exact .inl ⟨_,rfl⟩
def Cu{α p m a v}{k:Sem α}{w es}(b:∀c,v≠.agg c/\v≠.tuple c):(Sem.store m a v k).runT p w es=(match w.cell? a with
   |some _=>if w.frozen? a then(.halt (.unsupported (.unsafePointer "a write to bytes that a string shares")) w,es)else k.runT p (w.setCell a v) (es.push ⟨.cell a,true,m==.atomic⟩)
   |none=>match w.farStore p a v (m==.atomic)with
     |.ok (w,d)=>k.runT p w (es++d.toArray.map (⟨.cell ·,true,m==.atomic⟩))
     |.error h=>(.halt h w,es)):=by
 cases v<;>first|rfl|exact absurd rfl (b _).1|exact absurd rfl (b _).2
def tu{G m M U}(ok:fE G U m M){a a'}(h:eZ G U λZ=>a'=cE Z a):∃c,U a.block=some c/\a'={a with block:=c}:=by
 have b:eZ G U λZ=>a'.block=Z a.block:=λZ r c=>by rw[h Z r c];rfl
 refine⟨a'.block,ok.dom b,?_⟩;have⟨Z,r,c⟩:=ok.one;rw[h Z r c];rfl
def TD{γ:Type}(A:Ask γ):∀w:World,w.drawn<=(w.ask A).2.drawn:=by induction A with
 |done a=>intro w;exact qz _
 |ask what range k ih=>
   intro w;simp only[World.ask];split;.exact ih 0 w
   .exact bL (zt _) (ih _ {w with drawn:=w.drawn+1})
def TE(c)(w:World):w.drawn<=(w.sys c).2.drawn:=by have h:=TD (Kernel.perform c w.os) w;unfold World.sys;revert h;generalize w.ask (Kernel.perform c w.os)=x;have⟨⟨r,os⟩,w'⟩:=x;intro h;cases r<;>first|exact L9|exact h
def abm(w:World):(w.sys .env).2=w:=rfl
def De{p}{w w':World}{at_ k u v b l}(h:w.viewStore p at_ u k v b=.ok (w',l)):w'.drawn=w.drawn:=by
 simp[World.viewStore,bind,Except.bind]at h;repeat' split at h
 all_goals first|(cases h;done)|(cases h;rfl)
def qD{α p}(s:Sem α):∀w es,w.drawn<=(cZ (s.runT p w es).1).drawn:=by induction s with
 |pure a=>intro w es;exact L9
 |load m a k b=>
   intro w es;simp only[Sem.runT];split;.simp_all
   .split;.simp_all
    .exact L9
 |store m a v k b=>
   intro w es;rcases Ez (p:=p) (m:=m) (a:=a) (v:=v) (k:=k) (w:=w) (es:=es)with⟨h,e⟩|e;.rw[e];exact L9
   .rw[e];split
    .split;.exact L9
     .exact b (w.setCell a v) _
    .split
     .rename_i w' t h;have d:w'.drawn=w.drawn:=by
       unfold World.farStore at h;split at h
       .split at h;.rename_i f;cases h;exact De f
        .cases h
       .cases h
      rw[<-d];exact b w' _
     .exact L9
 |new o k b=>intro w es;exact b _ {w with heap:=w.heap.push o} es
 |shape r k b=>intro w es;exact b _ w es
 |freeze a n k b=>
   intro w es;have:(w.freeze a n).drawn=w.drawn:=by unfold World.freeze;split<;>rfl
   rw[<-this];exact b (w.freeze a n) es
 |frozen a k b=>intro w es;exact b _ w es
 |getObj r k b=>
   intro w es;simp only[Sem.runT];split;.exact L9
   .simp_all
   .exact L9
 |setObj r o k b=>
   intro w es;simp only[Sem.runT];split;.exact L9
   .grind
   .exact L9
 |choose q k b=>
   simp only[Sem.runT];split;.simp_all
   .grind
 |sys c k b=>intro w es;exact bL (TE c w) (b _ (w.sys c).2 _)
 |program k b=>intro w es;exact b _ w es
 |mark m k b=>intro w es;exact b w _
 |halt h=>intro w es;exact L9
def Out.sQ{α β p L G U W Q}{r:Result α×Array Event}{a:Result β×Array Event}(h:vz L (cZ r.1) (cZ a.1)):Out p L G U W Q r a:=by have⟨r,es⟩:=r;cases r<;>exact .inl h
def Out.qC{α β p L G U w W es Q}{s:Sem α}{b:Result β×Array Event}(h:eJ p s):Out p L G U W Q (s.runT p w es) b:=by have⟨x,w',c,e,a⟩:=h w es;rw[e];exact .inr (.inl a)
def rO:=@Out.qC
def rP{α β p p' L G Q}(s:Sem α):∀(s':Sem β) (U:Nat->Option Nat) (w W:World) (es ES:Array Event),fE G U w W->WR p L G U w W->se G U es ES->(eZ G U λZ=>SR p p' Z (Q Z) s s')->Out p L G U W Q (s.runT p w es) (s'.runT p' W ES):=by
 induction s with
 |pure a=>intro s' U w W es ES ok wr ev y;refine(rJ (eJ p _)).elim (λl=>rO l) (λl=>?_);have⟨Z,r,c⟩:=ok.one;obtain⟨b,rfl,_⟩:=(y Z r c).Lx;refine .inr ⟨b,W,ES,U,rfl,oY _,ok,wr,Lv _ _,ev,λZ r c=>?_⟩;have⟨a9,e,q⟩:=(y Z r c).Lx;cases e;exact q
 |load m a k D=>
   intro s' U w W es ES ok wr ev y;refine(rJ (eJ p _)).elim (λl=>rO l) (λl=>?_);have⟨Z,r,c⟩:=ok.one;obtain⟨k',rfl,_⟩:=(y Z r c).Lz l;have u:eZ G U λd=>cE Z a=cE d a/\∀v,SR p p' d (Q d) (k v) (k' (bC d v)):=λd j g=>by have⟨N,e,q⟩:=(y d j g).Lz l;simp only[Sem.load.injEq]at e;have⟨_,J,F⟩:=e;exact⟨J,F▸q⟩
   have⟨x,B,R⟩:=tu ok (λd j g=>(u d j g).1);rw[R];simp only[Sem.runT];cases T:w.cell? a with
   |none=>have⟨o,o',A,H,O,M⟩:=wr.obj _ _ B;rw[kS A O];exact .inr (.inl rfl)
   |some v=>have⟨au,ai,ao⟩:=wr.cell ok B T;rw[ai];refine D v (k' au) U w W _ _ ok wr (ev.push (λd j g=>?_) rfl) (λd j g=>by rw[ao d j g];exact(u d j g).2 v);rw[<-R,(u d j g).1];rfl
 |store m a v k D=>
   intro s' U w W es ES ok wr ev y;refine(rJ (eJ p _)).elim (λl=>rO l) (λl=>?_);have⟨Z,r,c⟩:=ok.one;obtain⟨k',rfl,_⟩:=(y Z r c).Hr l;have u:eZ G U λd=>cE Z a=cE d a/\bC Z v=bC d v/\SR p p' d (Q d) k k':=λd j g=>by have⟨N,e,q⟩:=(y d j g).Hr l;simp only[Sem.store.injEq]at e;have⟨_,J,F,ay⟩:=e;exact⟨J,F,ay▸q⟩
   have⟨x,B,R⟩:=tu ok (λd j g=>(u d j g).1);by_cases ah:∀c,v≠.agg c/\v≠.tuple c
   .have a4:∀c,bC Z v≠.agg c/\bC Z v≠.tuple c:=λc=>by cases v with
     |chan r=>rw[cO];exact⟨Et Z r c,OS Z r c⟩
     |_=>simp_all
    rw[Cu ah,Cu a4,R];cases T:w.cell? a with
    |none=>have⟨o,o',A,H,O,M⟩:=wr.obj _ _ B;simp only[OU A O];exact .inr (.inl rfl)
    |some v0=>
      have⟨au,ai,ao⟩:=wr.cell ok B T;simp only[ai,wr.frozen ok B];split;.exact .inr (.inl rfl)
      .have⟨o,o',A,H,O,M⟩:=wr.obj _ _ B;cases o with
       |cells cs t f=>
         have⟨av,aj,k2⟩:=wr.cells ok B A;have ar:a.spot=none:=by
          rw[yE A]at T;split at T;.cases T
          .simp_all
         have J:=jB (v:=v) A (ok.lt _ _ B).1 ar;have F:=jB (w:=W) (a:={a with block:=x}) (v:=bC Z v) aj (ok.lt _ _ B).2 ar;have X:WR p L G U (w.setCell a v) (W.setCell {a with block:=x} (bC Z v)):=wr.iH ok B _ _ rfl (λd j g=>by simp only[dW];rw[k2 d j g,(u d j g).2.1,Kr]) J F ⟨rfl,rfl,rfl⟩ ⟨rfl,rfl,rfl⟩
         have V:fE G U ↑(w.setCell a v) ↑(W.setCell {a with block:=x} (bC Z v)):=by rw[J,F];simpa using ok
         exact(D k' U _ _ _ _ V X (ev.push (λd j g=>by rw[<-R,(u d j g).1];rfl) rfl) (λd j g=>(u d j g).2.2)).weaken (oY _) (Fr.iH ok B F rfl rfl rfl rfl)
       |_=>rw[AW A (by intros;simp)]at T;cases T
   .cases v<;>first|exact .inr (.inl rfl)|exact absurd (λc=>⟨S8,S8⟩) ah
 |new o k D=>
   intro s' U w W es ES ok wr ev y;refine(rJ (eJ p _)).elim (λl=>rO l) (λl=>?_);have⟨Z,r,c⟩:=ok.one;obtain⟨k',rfl,aa,_⟩:=(y Z r c).Rp l;have u:eZ G U λd=>dW Z o=dW d o/\∀v,d.gh v=none->SR p p' d (Q d) (k v) (k' (d v)):=λd j g=>by have⟨N,e,_,q⟩:=(y d j g).Rp l;simp only[Sem.new.injEq]at e;exact⟨e.1,e.2▸q⟩
   simp only[Sem.runT];let μ:Nat->Option Nat:=λb=>if b=(w:Nat)then some ↑W else U b;have P:μ (w:Nat)=some ↑W:=by simp[μ]
   have K:∀b,b≠(w:Nat)->μ b=U b:=λb h=>by simp[μ,h]
   have ex:Ext U μ:=λb c h=>by rw[K b (λe=>by have:=(ok.lt _ _ h).1;omega)];exact h
   have a7:fE G μ (w.heap.push o).size (W.heap.push (dW Z o)).size:=by
    refine⟨λa b c Y C=>?_,λb c C=>?_,λb c C=>?_,λb C=>ok.low b (by simp at C;omega)⟩
    .by_cases A:a=(w:Nat)<;>by_cases H:b=(w:Nat);.rw[A,H]
     .rw[A,P]at Y;rw[K b H]at C;cases Y;have:=(ok.lt _ _ C).2;omega
     .rw[H,P]at C;rw[K a A]at Y;cases C;have:=(ok.lt _ _ Y).2;omega
     .rw[K a A]at Y;rw[K b H]at C;exact ok.inj _ _ _ Y C
    .by_cases A:b=(w:Nat);.rw[A,P]at C;cases C;simp[A]
     .rw[K b A]at C;have:=ok.lt _ _ C;simp;omega
    .by_cases A:b=(w:Nat);.exact ok.low b (nS A.symm)
     .rw[K b A]at C;exact ok.real _ _ C
   have a8:WR p L G μ {w with heap:=w.heap.push o} {W with heap:=W.heap.push (dW Z o)}:=by
    refine⟨λb c C=>?_,wr.tape,wr.os,wr.OT,wr.tp⟩;by_cases A:b=(w:Nat);.rw[A,P]at C;cases C;exact⟨o,dW Z o,by simp[A],S8,aa,λd j g=>(u d j (g.Jg ex)).1⟩
    .rw[K b A]at C;have⟨a5,a6,H,O,M,az⟩:=wr.obj b c C;have:=ok.lt _ _ C;exact⟨a5,a6,by rw[zl this.1,<-nD this.1];exact H,by rw[zl this.2,<-nD this.2];exact O,M,az.ext ex⟩
   refine(D ↑w (k' ↑W) μ _ _ _ _ a7 a8 ⟨ev.all.ext ex,ev.quiet⟩ (λd j g=>?_)).weaken ex ?_;.have:=(u d j (g.Jg ex)).2 ↑w (by rw[j.gh];exact ok.low _ L9);rwa [g _ _ P]at this
   .refine⟨S8,λc ag ah=>by show(W.heap.push _)[c]?=_;rw[zl ag,<-nD ag],λc A H=>⟨(w:Nat),?_⟩,λb c C ag=>?_,rfl,rfl,L9,rfl⟩
    .have ba:c<(W:Nat)+1:=by simpa using H
     rw[P];congr 1;omega
    .by_cases A:b=(w:Nat);.rw[A,P]at C;cases C;omega
     .rw[K b A]at C;exact C
 |shape E k D=>
   intro s' U w W es ES ok wr ev y;refine(rJ (eJ p _)).elim (λl=>rO l) (λl=>?_);have⟨Z,r,c⟩:=ok.one;obtain⟨k',rfl,_⟩:=(y Z r c).Hs l;have u:eZ G U λd=>Z E=d E/\∀v,SR p p' d (Q d) (k v) (k' v):=λd j g=>by have⟨N,e,q⟩:=(y d j g).Hs l;simp only[Sem.shape.injEq]at e;exact⟨e.1,e.2▸q⟩
   have B:=ok.dom (λd j g=>(u d j g).1);simp only[Sem.runT,wr.shape ok B];exact D _ _ U w W _ _ ok wr ev (λd j g=>(u d j g).2 _)
 |freeze a n k D=>
   intro s' U w W es ES ok wr ev y;refine(rJ (eJ p _)).elim (λl=>rO l) (λl=>?_);have⟨Z,r,c⟩:=ok.one;obtain⟨k',rfl,_⟩:=(y Z r c).Eu l;have u:eZ G U λd=>cE Z a=cE d a/\SR p p' d (Q d) k k':=λd j g=>by have⟨N,e,q⟩:=(y d j g).Eu l;simp only[Sem.freeze.injEq]at e;exact⟨e.1,e.2.2▸q⟩
   have⟨x,B,R⟩:=tu ok (λd j g=>(u d j g).1);rw[R];simp only[Sem.runT];by_cases ab:n=0
   .subst ab;have z:∀(w:World) (a:Addr),w.freeze a 0=w:=λw a=>by simp[World.freeze]
    rw[z,z];exact D _ U w W _ _ ok wr ev (λd j g=>(u d j g).2)
   .have⟨o,o',A,H,O,M⟩:=wr.obj _ _ B;have tp:∀(w:World) (a:Addr),(w.freeze a n).tape=w.tape/\(w.freeze a n).drawn=w.drawn/\(w.freeze a n).os=w.os/\(w.freeze a n).output=w.output:=λw a=>by simp[World.freeze,ab]
    by_cases ak:∃cs t f,o=.cells cs t f
    .obtain⟨cs,t,⟨lo,hi⟩,rfl⟩:=ak;have⟨av,aj,k2⟩:=wr.cells ok B A;have J:=Cs (n:=n) A (ok.lt _ _ B).1 ab;have F:=Cs (w:=W) (a:={a with block:=x}) (n:=n) aj (ok.lt _ _ B).2 ab;have X:WR p L G U (w.freeze a n) (W.freeze {a with block:=x} n):=wr.iH ok B _ _ rfl (λd j g=>by simp only[dW];rw[k2 d j g]) J F ⟨(tp _ _).1,(tp _ _).2.1,(tp _ _).2.2.1⟩ ⟨(tp _ _).1,(tp _ _).2.1,(tp _ _).2.2.1⟩
     have V:fE G U ↑(w.freeze a n) ↑(W.freeze {a with block:=x} n):=by rw[J,F];simpa using ok
     exact(D k' U _ _ _ _ V X ev (λd j g=>(u d j g).2)).weaken (oY _) (Fr.iH ok B F (tp _ _).1 (tp _ _).2.2.2 (tp _ _).2.1 (tp _ _).2.2.1)
    .have a2:∀cs t f,o≠.cells cs t f:=λcs t f e=>ak ⟨cs,t,f,e⟩;have a3:∀cs t f,o'≠.cells cs t f:=λcs t f e=>by have:=M Z r c;rw[e]at this;cases o<;>simp_all[dW]
     have J:=Ct (n:=n) A a2;have F:=Ct (w:=W) (a:={a with block:=x}) (n:=n) H a3;have V:fE G U ↑(w.freeze a n) ↑(W.freeze {a with block:=x} n):=by rw[J,F];exact ok
     have X:WR p L G U (w.freeze a n) (W.freeze {a with block:=x} n):=⟨λb c C=>by rw[J,F];exact wr.obj b c C,λi q hi=>by rw[(tp w a).1,(tp w a).2.1,(tp W _).1,(tp W _).2.1];exact wr.tape i q (by rw[(tp w a).2.1]at hi;exact hi),by rw[(tp w a).2.2.1,(tp W _).2.2.1];exact wr.os,by rw[(tp w a).2.1,(tp W _).2.1];exact wr.OT,by rw[(tp w a).1];exact wr.tp⟩;refine(D k' U _ _ _ _ V X ev (λd j g=>(u d j g).2)).weaken (oY _) ⟨by rw[F];exact L9,λc _ _=>by rw[F],λc A H=>by rw[F]at H;omega,λ_ _ h _=>h,(tp _ _).1,(tp _ _).2.2.2,nS (tp _ _).2.1.symm,(tp _ _).2.2.1⟩
 |frozen a k D=>
   intro s' U w W es ES ok wr ev y;refine(rJ (eJ p _)).elim (λl=>rO l) (λl=>?_);have⟨Z,r,c⟩:=ok.one;obtain⟨k',rfl,_⟩:=(y Z r c).Ev l;have u:eZ G U λd=>cE Z a=cE d a/\∀v,SR p p' d (Q d) (k v) (k' v):=λd j g=>by have⟨N,e,q⟩:=(y d j g).Ev l;simp only[Sem.frozen.injEq]at e;exact⟨e.1,e.2▸q⟩
   have⟨x,B,R⟩:=tu ok (λd j g=>(u d j g).1);rw[R];simp only[Sem.runT,wr.frozen ok B];exact D _ _ U w W _ _ ok wr ev (λd j g=>(u d j g).2 _)
 |getObj E k D=>
   intro s' U w W es ES ok wr ev y;refine(rJ (eJ p _)).elim (λl=>rO l) (λl=>?_);have⟨Z,r,c⟩:=ok.one;obtain⟨k',rfl,_⟩:=(y Z r c).Ew l;have u:eZ G U λd=>Z E=d E/\∀v,cN p v=true->SR p p' d (Q d) (k v) (k' (dW d v)):=λd j g=>by have⟨N,e,q⟩:=(y d j g).Ew l;simp only[Sem.getObj.injEq]at e;exact⟨e.1,e.2▸q⟩
   have B:=ok.dom (λd j g=>(u d j g).1);have⟨o,o',A,H,O,M⟩:=wr.obj _ _ B;have K:=M Z r c;subst K;have hi:(dW Z o).isChan=o.isChan:=by cases o<;>rfl
   have goal:∀(af ae:Array Event),se G U af ae->Out p L G U W Q ((k o).runT p w af) ((k' (dW Z o)).runT p' W ae):=λaf ae π=>D _ _ U w W _ _ ok wr π (λd j g=>by have h:=(u d j g).2 o O;rwa [<-M d j g]at h)
   have π:se G U (es.push ⟨.obj E,false,o.isChan⟩) (ES.push ⟨.obj (Z E),false,o.isChan⟩):=ev.push (λd j g=>by rw[(u d j g).1];rfl) rfl;have:=goal _ _ π;cases o<;>simp only[Sem.runT,A,H,dW]<;>first|exact .inr (.inl rfl)|simpa only[dW,Obj.isChan]using this
 |setObj E I k D=>
   intro s' U w W es ES ok wr ev y;refine(rJ (eJ p _)).elim (λl=>rO l) (λl=>?_);have⟨Z,r,c⟩:=ok.one;obtain⟨k',rfl,aa,_⟩:=(y Z r c).Ex l;have u:eZ G U λd=>Z E=d E/\dW Z I=dW d I/\SR p p' d (Q d) k k':=λd j g=>by have⟨N,e,_,q⟩:=(y d j g).Ex l;simp only[Sem.setObj.injEq]at e;exact⟨e.1,e.2.1,e.2.2▸q⟩
   have B:=ok.dom (λd j g=>(u d j g).1);have⟨o,o',A,H,O,M⟩:=wr.obj _ _ B;have K:=M Z r c;subst K;have hi:(dW Z I).isChan=I.isChan:=by cases I<;>rfl
   have S:=ok.lt _ _ B;have J:w.heap.setIfInBounds E I=w.heap.set E I S.1:=by simp[Array.setIfInBounds,S.1]
   have F:W.heap.setIfInBounds (Z E) (dW Z I)=W.heap.set (Z E) (dW Z I) S.2:=by simp[Array.setIfInBounds,S.2]
   have X:WR p L G U {w with heap:=w.heap.setIfInBounds E I} {W with heap:=W.heap.setIfInBounds (Z E) (dW Z I)}:=wr.iH ok B _ _ aa (λd j g=>(u d j g).2.1) J F ⟨rfl,rfl,rfl⟩ ⟨rfl,rfl,rfl⟩;have V:fE G U (w.heap.setIfInBounds E I).size (W.heap.setIfInBounds (Z E) (dW Z I)).size:=by simpa using ok
   have π:se G U (es.push ⟨.obj E,true,I.isChan⟩) (ES.push ⟨.obj (Z E),true,(dW Z I).isChan⟩):=ev.push (λd j g=>by rw[hi,(u d j g).1];rfl) rfl;have goal:=(D k' U _ _ _ _ V X π (λd j g=>(u d j g).2.2)).weaken (oY _) (Fr.iH (W1:={W with heap:=W.heap.setIfInBounds (Z E) (dW Z I)}) ok B F rfl rfl rfl rfl);cases o<;>simp only[Sem.runT,A,H,dW]<;>first|exact .inr (.inl rfl)|exact goal
 |choose q k D=>
   intro s' U w W es ES ok wr ev y;refine(rJ (eJ p _)).elim (λl=>rO l) (λl=>?_);have⟨Z,r,c⟩:=ok.one;obtain⟨k',rfl,_⟩:=(y Z r c).Ey l;have u:eZ G U λd=>∀v,SR p p' d (Q d) (k v) (k' v):=λd j g=>by have⟨N,e,q⟩:=(y d j g).Ey l;simp only[Sem.choose.injEq]at e;exact e.2▸q
   simp only[Sem.runT];split;.exact D _ _ U w W _ _ ok wr ev (λd j g=>u d j g _)
   .by_cases a0:w.drawn<L.lim;.have h0:=wr.tape 0 q a0;simp only[DW]at h0;rw[h0];have f:Fr U U W {W with drawn:=W.drawn+1}:=⟨L9,λ_ _ _=>rfl,λc (A:(W:Nat)<=c) (H:c<(W:Nat))=>by omega,λ_ _ h _=>h,rfl,rfl,zt _,rfl⟩;refine Out.weaken (oY _) f (D _ _ U {w with drawn:=w.drawn+1} {W with drawn:=W.drawn+1} _ _ ok ⟨wr.obj,λi q hi=>?_,wr.os,by have:=wr.OT;simp only[Int.natCast_add];omega,wr.tp⟩ ev (λd j g=>u d j g _));have:=wr.tape (1+i) q (by simp only at hi;omega);simpa[VQ]using this
    .refine Out.sQ ⟨?_,?_⟩;.have:=qD (p:=p) (k (q.cut (w.tape w.drawn q))) {w with drawn:=w.drawn+1} es;simp only at this;omega
     .have:=qD (p:=p') (k' (q.cut (W.tape W.drawn q))) {W with drawn:=W.drawn+1} ES;have bb:=wr.OT;simp only at this;omega
 |sys cl k D=>
   intro s' U w W es ES ok wr ev y;refine(rJ (eJ p _)).elim (λl=>rO l) (λl=>?_);have⟨Z,r,c⟩:=ok.one;obtain⟨rfl,k',rfl,_⟩:=(y Z r c).Rq l;have u:eZ G U λd=>∀v,SR p p' d (Q d) (k v) (k' v):=λd j g=>by have⟨_,N,e,q⟩:=(y d j g).Rq l;simp only[Sem.sys.injEq]at e;exact e.2▸q
   have A:(W.sys .env).1=(w.sys .env).1:=by have:=wr.os;have⟨aa,tp,dr,os,bc⟩:=W;simp only at this;subst this;rfl
   simp only[Sem.runT,abm,A];exact D _ _ U w W _ _ ok wr (ev.push (λd j g=>rfl) rfl) (λd j g=>u d j g _)
 |program k D=>
   intro s' U w W es ES ok wr ev y;refine(rJ (eJ p _)).elim (λl=>rO l) (λl=>?_);have⟨Z,r,c⟩:=ok.one;obtain⟨k',rfl,_⟩:=(y Z r c).Cr l;have u:eZ G U λd=>SR p p' d (Q d) (k p) (k' p'):=λd j g=>by have⟨N,e,q⟩:=(y d j g).Cr l;simp only[Sem.program.injEq]at e;exact e▸q
   simp only[Sem.runT];exact D _ _ U w W _ _ ok wr ev u
 |mark m k D=>
   intro s' U w W es ES ok wr ev y;refine(rJ (eJ p _)).elim (λl=>rO l) (λl=>?_);have⟨Z,r,c⟩:=ok.one;obtain⟨k',rfl,P,_⟩:=(y Z r c).LA l;have u:eZ G U λd=>Lt Z m=Lt d m/\SR p p' d (Q d) k k':=λd j g=>by have⟨N,e,_,q⟩:=(y d j g).LA l;simp only[Sem.mark.injEq]at e;exact⟨e.1,e.2▸q⟩
   simp only[Sem.runT];exact D _ U w W _ _ ok wr (ev.push (λd j g=>by rw[(u d j g).1];rfl) P) (λd j g=>(u d j g).2)
 |halt h=>
   intro s' U w W es ES ok wr ev y;refine(rJ (eJ p _)).elim (λl=>rO l) (λl=>?_);by_cases S:x5 h=true;.exact .inr (.inl S)
   .have⟨Z,r,c⟩:=ok.one;rcases(y Z r c).LC with x|⟨rfl,u⟩;.exact absurd x S
    .refine .inr<|.inr ⟨u,Je Z h,W,ES,U,rfl,oY _,ok,wr,Lv _ _,ev,λd j g=>?_⟩;rcases(y d j g).LC with x|⟨e,-⟩;.exact absurd x S
     .simpa using e
def iX(L:List Value):Prop:=∀v∈L,J7 v
def iX.push{L}(h:iX L){v}(c:J7 v):iX (L++[v]):=λx b=>by
 obtain a|a:=mP.1 b;.exact h x a
 .simp_all
def Sy1(L:List Value)(Z:Pi):Prop:=∀k x,L[k]?=some x->Z.s k=x
def Qx{α:Type}{L a}(h:L<+:a){k:Nat}{x:α}(e:L[k]?=some x):a[k]?=some x:=by obtain⟨t,rfl⟩:=h;rw[mQ (bW.1 e).1];exact e
def Sy1.mono{L a Z}(h:Sy1 a Z)(e:L<+:a):Sy1 L Z:=λk x b=>h k x (Qx e b)
structure Ab (L : List Value) (v v' : Value) : Prop where
 to : ∀ Z, Sy1 L Z -> bC Z v' = v
 fix : ∀ Z : Pi, Z.s = Gs.self.s -> bC Z v' = v'
def Ab.mono{L a v b}(h:Ab L v b)(e:L<+:a):Ab a v b:=⟨λZ c=>h.to Z (c.mono e),h.fix⟩
def Ab.leaf{L v}:Ab (L++[v]) v (.chan (some L.length)):=by
 refine⟨λZ h=>?_,λZ h=>?_⟩;.rw[cO];exact h L.length v S8
 .rw[cO];show Z.s L.length=_;rw[h];rfl
def VI(v:Value):Prop:=∀L,iX L->∃L' v',L<+:L'/\iX L'/\Ab L' v v'
def J8:∀c,(∀v∈c,VI v)->∀L,iX L->∃(d b:List Value),L<+:d/\iX d/\(∀Z,Sy1 d Z->b.map (bC Z)=c)/\∀Z,Z.s=Gs.self.s->b.map (bC Z)=b
 |[],_,L,e=>⟨L,[],sV _,e,λ_ _=>rfl,λ_ _=>rfl⟩
 |v::c,h,L,e=>by have⟨L1,l,k,l1,f⟩:=h v S8 L e;have⟨i,b,g,l2,t2,f2⟩:=J8 c (λx j=>h x (by simp[j])) L1 l1;exact⟨i,l::b,k.trans g,l2,λZ a=>by rw[kY,t2 Z a,(f.mono g).to Z a],λZ a=>by rw[kY,f2 Z a,f.fix Z a]⟩
def wU(b)(h:∀v∈b,VI v)(L)(d:iX L):∃(a:List Value) (c:Array Value),L<+:a/\iX a/\(∀Z,Sy1 a Z->c.map (bC Z)=b)/\∀Z,Z.s=Gs.self.s->c.map (bC Z)=c:=by
 have⟨a,l,p,e,t,f⟩:=J8 b.toList (λv i=>h v (by simpa using i)) L d;refine⟨a,l.toArray,p,e,λZ g=>?_,λZ g=>?_⟩;.simp_all
 .simp_all
def lG{v}(h:∀Z,bC Z v=v):VI v:=λL a=>⟨L,v,sV _,a,⟨λZ _=>h Z,λZ _=>h Z⟩⟩
def vF{v}(h:J7 v):VI v:=λL a=>⟨L++[v],_,List.prefix_append _ _,a.push h,Ab.leaf⟩
def Qy:∀n v,SizeOf.sizeOf v<n->VI v
 |0,_,h=>by omega
 |n+1,v,h=>by have o:=Qy n;cases v with
   |bool b=>exact lG λZ=>by simp
   |int k i=>exact lG λZ=>by simp
   |float k i=>exact lG λZ=>by simp
   |complex k a b=>exact lG λZ=>by simp
   |string s=>exact lG λZ=>by simp
   |nilFunc=>exact lG λZ=>by simp
   |nilIface=>exact lG λZ=>by simp
   |pointer a=>cases a with
     |none=>exact lG λZ=>by simp
     |some a=>exact vF trivial
   |slice a l c=>cases a with
     |none=>exact lG λZ=>by simp
     |some a=>exact vF trivial
   |map r=>cases r with
     |none=>exact lG λZ=>by simp
     |some a=>exact vF trivial
   |chan r=>cases r with
     |none=>exact lG λZ=>by simp
     |some a=>exact vF trivial
   |iface t x=>intro L e;have⟨m,j,p,l,a⟩:=o x (by simp at h;omega) L e;exact⟨m,.iface t j,p,l,⟨λZ d=>by rw[cV,a.to Z d],λZ d=>by rw[cV,a.fix Z d]⟩⟩
   |agg cs=>intro L e;have⟨m,j,p,l,t,f⟩:=wU cs (λv g=>o v (by have:=Qz g;simp at h;omega)) L e;exact⟨m,.agg j,p,l,⟨λZ d=>by rw[dK,t Z d],λZ d=>by rw[dK,f Z d]⟩⟩
   |tuple cs=>intro L e;have⟨m,j,p,l,t,f⟩:=wU cs (λv g=>o v (by have:=Qz g;simp at h;omega)) L e;exact⟨m,.tuple j,p,l,⟨λZ d=>by rw[dQ,t Z d],λZ d=>by rw[dQ,f Z d]⟩⟩
   |func fn a b=>
     by_cases u:∃k,fn=.yield k;.obtain⟨k,rfl⟩:=u;exact vF trivial
     have q:∀Z,qw Z fn=fn:=λZ=>by cases fn<;>first|rfl|exact absurd ⟨_,rfl⟩ u
     intro L e;have⟨L1,j,p,l,t,f⟩:=wU a (λv g=>o v (by have:=Qz g;simp at h;omega)) L e;have⟨y,z,w,l2,t2,f2⟩:=wU b (λv g=>o v (by have:=Qz g;simp at h;omega)) L1 l;exact⟨y,.func fn j z,p.trans w,l2,⟨λZ d=>by rw[dR,q,t Z (d.mono w),t2 Z d],λZ d=>by rw[dR,q,f Z d,f2 Z d]⟩⟩
structure Sy(n:Nat)(L:List Value)(H:List Addr)(Z:Pi):Prop where
 s:Sy1 L Z
 gh:∀j x,H[j]?=some x->Z.gh (n+j)=some x
 real:∀b,b<n->Z.gh b=none
def Sy.mono{n L b H a Z}(h:Sy n b a Z)(e:L<+:b)(c:H<+:a):Sy n L H Z:=⟨h.s.mono e,λj x d=>h.gh j x (Qx c d),h.real⟩
def kp(N:Nat->Prop):Value->Prop
 |.int ..|.string _|.slice none _ _=>True
 |.slice (some a) _ _=>N a.block
 |.agg cs=>∀v∈cs,∃k n,v=.int k n
 |_=>False
def J9(Z){cs:Array Value}(h:∀v∈cs,∃k n,v=.int k n):cs.map (bC Z)=cs:=by apply zj;intro i;rw[kZ];cases a:cs[i]? with
 |none=>rfl
 |some v=>obtain⟨k,n,rfl⟩:=h v (DV a);simp
structure Rl (n : Nat) (N : Nat -> Prop) (L : List Value) (H : List Addr) (v v' : Value) : Prop where
 to : ∀ Z, Sy n L H Z -> (∀ b, N b -> Z b = b) -> bC Z v' = v
 fix : ∀ Z : Pi, Z.s = Gs.self.s -> (∀ b, Z.gh b = none) -> (∀ b, N b -> Z b = b) -> (∀ j, j < H.length -> Z (n + j) = n + j) -> bC Z v' = v'
 keep : kp N v -> v' = v
 bare : ∀ a, v = .slice (some a) 0 0 -> ∃ a', v' = .slice (some a') 0 0
def Rl.mono{n N L b H a v d}(h:Rl n N L H v d)(e:L<+:b)(c:H<+:a):Rl n N b a v d:=⟨λZ o m=>h.to Z (o.mono e c) m,λZ f g i k=>h.fix Z f g i λj l=>k j (eQ l c.length_le),h.keep,h.bare⟩
def adX{n N}(hN:∀b,N b->b<n)(v L H)(m:iX L):∃f q o,L<+:f/\H<+:q/\iX f/\Rl n N f q v o:=by
 by_cases d:kp N v
 .refine⟨L,H,v,sV _,sV _,m,⟨λZ g w=>?_,λZ j k r t=>?_,λ_=>rfl,λa e=>⟨a,e⟩⟩⟩
  .cases v<;>first|(cases d;done)|(simp;done)|exact(by rw[dK,J9 Z d])|skip
   rename_i a l c;cases a with
   |none=>simp
   |some a=>have i:=d;rw[bT,qi,fV (g.real _ (hN _ i))];simp[cE,w _ i]
  .cases v<;>first|(cases d;done)|(simp;done)|exact(by rw[dK,J9 Z d])|skip
   rename_i a l c;cases a with
   |none=>simp
   |some a=>have i:=d;rw[bT,qi,fV (k _)];simp[cE,r _ i]
 by_cases u:∃a,v=.slice (some a) 0 0
 .obtain⟨a,rfl⟩:=u;refine⟨L,H++[a],.slice (n+H.length,0) 0 0,sV _,List.prefix_append _ _,m,⟨λZ g w=>?_,λZ j k r t=>?_,λh=>absurd h d,λ_ _=>⟨_,rfl⟩⟩⟩;.have:=g.gh H.length a S8;simp[zk,this]
  .rw[bT,qi,fV (k _)];simp[t H.length S8]
 .have⟨f,o,p,l,a⟩:=Qy (SizeOf.sizeOf v+1) v (nR _) L m;exact⟨f,H,o,p,sV _,l,⟨λZ g _=>a.to Z g.s,λZ j _ _ _=>a.fix Z j,λh=>absurd h d,λx e=>absurd ⟨x,e⟩ u⟩⟩
def IY{n N}(hN:∀b,N b->b<n):∀(c:List Value) (L:List Value) (H:List Addr),iX L->∃(e:List Value) (j:List Addr) (d:List Value),L<+:e/\H<+:j/\iX e/\d.length=c.length/\∀(i:Nat) (v:Value),c[i]?=some v->∃a,d[i]?=some a/\Rl n N e j v a
 |[],L,H,f=>⟨L,H,[],sV _,sV _,f,rfl,λi v h=>by simp at h⟩
 |v::c,L,H,f=>by have⟨L1,m,a,r,s,l1,r1⟩:=adX hN v L H f;have⟨p,o,d,k,l,l2,q,r2⟩:=IY hN c L1 m l1;refine⟨p,o,a::d,r.trans k,s.trans l,l2,by simp[q],λi x g=>?_⟩;cases i with
   |zero=>simp at g;subst g;exact⟨a,rfl,r1.mono k l⟩
   |succ i=>exact r2 i x (by simpa using g)
def RlO(n:Nat)(N:Nat->Prop)(L:List Value)(H:List Addr)(o o':Obj):Prop:=(∀cs' t f,o'=.cells cs' t f->∃cs,o=.cells cs t f)/\∀(cs:Array Value) (t:TypeId) (f:Nat×Nat),o=.cells cs t f->∃cs',o'=.cells cs' t f/\cs'.size=cs.size/\∀(i:Nat) (v:Value),cs[i]?=some v->∃v',cs'[i]?=some v'/\Rl n N L H v v'
def RlO.mono{n N L b H a o o'}(h:RlO n N L H o o')(e:L<+:b)(d:H<+:a):RlO n N b a o o':=⟨h.1,λcs t f l=>by have⟨c,g,j,k⟩:=h.2 cs t f l;exact⟨c,g,j,λi v m=>let⟨q,p,k2⟩:=k i v m;⟨q,p,k2.mono e d⟩⟩⟩
def aaW{n N}(hN:∀b,N b->b<n)(o L H)(g:iX L):∃c d o',L<+:c/\H<+:d/\iX c/\RlO n N c d o o':=by
 by_cases h:∃cs t f,o=.cells cs t f
 .obtain⟨cs,t,f,rfl⟩:=h;have⟨c,d,j,p,q,l,e,r⟩:=IY hN cs.toList L H g;refine⟨c,d,.cells j.toArray t f,p,q,l,λk s f' a=>?_,λk s f' a=>?_⟩;.simp_all
  cases a;exact⟨j.toArray,rfl,by simpa using e,λi v m=>by simpa using r i v (by simpa using m)⟩
 .exact⟨L,H,o,sV _,sV _,g,λcs t f a=>⟨cs,a⟩,λcs t f a=>absurd ⟨cs,t,f,a⟩ h⟩
def Ka{n N}(hN:∀b,N b->b<n):∀(os:List Obj) (L:List Value) (H:List Addr),iX L->∃(a:List Value) (e:List Addr) (f:List Obj),L<+:a/\H<+:e/\iX a/\f.length=os.length/\∀(i:Nat) (o:Obj),os[i]?=some o->∃o',f[i]?=some o'/\RlO n N a e o o'
 |[],L,H,c=>⟨L,H,[],sV _,sV _,c,rfl,λi v h=>by simp at h⟩
 |v::t,L,H,c=>by have⟨L1,l,k,r,s,l1,r1⟩:=aaW hN v L H c;have⟨p,m,u,g,j,l2,q,r2⟩:=Ka hN t L1 l l1;refine⟨p,m,k::u,r.trans g,s.trans j,l2,by simp[q],λi x d=>?_⟩;cases i with
   |zero=>simp at d;subst d;exact⟨k,rfl,r1.mono g j⟩
   |succ i=>exact r2 i x (by simpa using d)
theorem xa{Z n}(a:∀v,o7 n v=true->bC Z v=v){cs:Array Value}(h:cs.all (o7 n)=true):cs.map (bC Z)=cs:=by grind
theorem EA(Z):∀n v,o7 n v=true->bC Z v=v
 |0,_,h=>by cases h
 |n+1,v,h=>by have c:=EA Z n;cases v with
   |pointer a=>cases a<;>simp_all[o7]
   |slice a=>cases a<;>simp_all[o7]
   |map a=>cases a<;>simp_all[o7]
   |chan a=>cases a<;>simp_all[o7]
   |iface t v=>rw[cV,c v h]
   |agg cs=>rw[dK,xa c h]
   |tuple cs=>rw[dQ,xa c h]
   |func f a b=>simp only[o7,dP]at h;rw[dR,xa c h.1.2,xa c h.2];cases f<;>first|rfl|(exact absurd h.1.1 S8)
   |_=>simp
theorem EB(Z v)(h:Jf v=true):bC Z v=v:=EA Z 5 v h
def A2(n:Nat):TypeDesc->Bool
 |.pointer e|.slice e|.array _ e|.chan _ e=>decide (e<n)
 |.map k e=>decide (k<n)&&decide (e<n)
 |.struct fs=>fs.all λf=>decide (f.type<n)
 |.func a b _=>a.all (decide<|·<n)&&b.all (decide<|·<n)
 |.tuple ts=>ts.all (decide<|·<n)
 |.named _ u=>decide (u<n)
 |_=>true
structure Fit(G:Gs)(p p':Program):Prop where
 tab:p'.toTables={p.toTables with globals:=p'.globals,rt:=p'.rt}
 rts:{p'.rt with typeAssertionError:=p.rt.typeAssertionError}=p.rt
 ta:∀e,p.underlying p.rt.typeAssertionError≠some (.pointer e)
 zero:∀i∈p.types,∀v,i.zero=some v->Jf v=true
 desc:∀i∈p.types,A2 p.types.size i.desc=true
 none:p.globals.size=0
 fol:p.follows .rangeFuncRecover=true
 afL:p'.globals.size<=1
section
variable{G:Gs}{p p':Program}(F:Fit G p p')
include F
theorem Fit.ex:∃a r,p'.toTables={p.toTables with globals:=a,rt:=r}:=⟨_,_,F.tab⟩
theorem Fit.types:p'.types=p.types:=by obtain⟨a,r,h⟩:=F.ex;rw[h]
theorem Fit.cut:p'.cutTypes=p.cutTypes:=by obtain⟨a,r,h⟩:=F.ex;rw[h]
theorem Fit.inits:p'.inits=p.inits:=by obtain⟨a,r,h⟩:=F.ex;rw[h]
theorem Fit.follow:p'.follow=p.follow:=by obtain⟨a,r,h⟩:=F.ex;rw[h]
theorem Fit.infoAt:∀n t,Made.infoAt p'.toTables n t=Made.infoAt p.toTables n t
 |0,_=>rfl
 |n+1,t=>by have a:=funext (Fit.infoAt n);simp[Made.infoAt,F.types,a]
theorem Fit.info(t):p'.info? t=p.info? t:=by simp[Tables.info?,F.types,F.infoAt]
theorem Fit.under(t):p'.underlying t=p.underlying t:=by simp[Program.underlying,F.info]
theorem Fit.cellsOf(t):p'.cellsOf t=p.cellsOf t:=by simp[Program.cellsOf,F.info]
theorem Fit.bytesOf(t):p'.bytesOf t=p.bytesOf t:=by simp[Program.bytesOf,F.info]
theorem Fit.depth:p'.depth=p.depth:=by simp[Program.depth,F.types]
end
theorem EC{p:Program}{t:TypeId}{i}(a:t<p.types.size)(h:p.info? t=some i):i∈p.types:=by simp only[Tables.info?,a]at h;exact DV h
theorem ED{G p p'}(F:Fit G p p'){t:TypeId}{d}(c:t<p.types.size)(h:p.underlying t=some d):A2 p.types.size d=true:=by simp[Program.underlying]at h;cases hi:p.info? t with
 |none=>rw[hi]at h;cases h
 |some i=>have a:=F.desc i (EC c hi);rw[hi]at h;have⟨desc,_,_,_,_,_,_,_,_,_⟩:=i;cases desc with
   |named n u=>simp[A2]at a;simp only at h;cases b:p.info? u with
     |none=>rw[b]at h;cases h
     |some j=>rw[b]at h;cases h;exact F.desc j (EC a b)
   |_=>cases h;exact a
section
variable{G:Gs}{p p':Program}{Z:Pi}(F:Fit G p p')(R:Rn G Z)
variable{α β:Type}{Q:α→β→Prop}
theorem iO{f f'}(h:SR p p' Z Q (f p) (f' p')):SR p p' Z Q (program>>=f) (program>>=f'):=SR.program h
theorem Dy{s s'}:SR p p' Z Q (stuck s) s':=aL rfl
theorem XF{u s'}(h:x5 (.unsupported u)=true):SR p p' Z Q (unsupported u) s':=aL h
theorem Dz{a m}:SR p p' Z (λv b=>b=bC Z v) (load a m) (load (cE Z a) m):=SR.load λ_=>SR.pure rfl
theorem XG{a v m}:SR p p' Z (λ_ _=>True) (store a v m) (store (cE Z a) (bC Z v) m):=SR.store (SR.pure trivial)
theorem qm{o}(a:cN p o=true):SR p p' Z (λr b=>b=Z r) (newObj o) (newObj (dW Z o)):=SR.new a λ_ _=>SR.pure rfl
theorem OV{o}(a:cN p o=true):SR p p' Z (λr b=>b=Z r/\Z.gh r=none) (newObj o) (newObj (dW Z o)):=SR.new a λ_ h=>SR.pure ⟨rfl,h⟩
theorem od{r}:SR p p' Z (λs s'=>s'=s) (shape r) (shape (Z r)):=SR.shape λ_=>SR.pure rfl
theorem xb{a}:SR p p' Z (λs s'=>s'=s) (frozen a) (frozen (cE Z a)):=SR.frozen λ_=>SR.pure rfl
theorem Ht{a n}:SR p p' Z (λ_ _=>True) (freeze a n) (freeze (cE Z a) n):=SR.freeze (SR.pure trivial)
theorem iI{r}:SR p p' Z (λo o'=>o'=dW Z o) (getObj r) (getObj (Z r)):=SR.getObj λ_ _=>SR.pure rfl
theorem yF{r}:SR p p' Z (λo o'=>o'=dW Z o/\cN p o=true) (getObj r) (getObj (Z r)):=SR.getObj λ_ h=>SR.pure ⟨rfl,h⟩
theorem gT{r o}(a:cN p o=true):SR p p' Z (λ_ _=>True) (setObj r o) (setObj (Z r) (dW Z o)):=SR.setObj a (SR.pure trivial)
theorem iJ{q}:SR p p' Z (λn a=>a=n) (choose q) (choose q):=SR.choose λ_=>SR.pure rfl
theorem Jh{m}(h:okM m=true:=by rfl):SR p p' Z (λ_ _=>True) (mark m) (mark (Lt Z m)):=SR.mark h (SR.pure trivial)
theorem eU{c}[Decidable c]{s t s' a}(h:SR p p' Z Q s s')(b:SR p p' Z Q t a):SR p p' Z Q (if c then s else t) (if c then s' else a):=by grind
theorem abn{c}[Decidable c]{s t s' a}(h:c->SR p p' Z Q s s')(b:¬c->SR p p' Z Q t a):SR p p' Z Q (if c then s else t) (if c then s' else a):=by grind
include F
theorem fX(t):SR p p' Z (λi a=>a=i/\p.info? t=some i) (typeInfo t) (typeInfo t):=by refine iO ?_;rw[F.info];cases h:p.info? t with
 |none=>exact Dy
 |some i=>exact aM ⟨rfl,rfl⟩
theorem aR(t):SR p p' Z (λi a=>a=i/\p.underlying t=some i) (underlying t) (underlying t):=by refine iO ?_;rw[F.under];cases h:p.underlying t with
 |none=>exact Dy
 |some i=>exact aM ⟨rfl,rfl⟩
theorem eB(t):SR p p' Z (λi a=>a=i) (sizeOf t) (sizeOf t):=by refine aK (fX F t) ?_;rintro _ _ ⟨rfl,_⟩;exact aM rfl
theorem gI{t:TypeId}(a:t<p.types.size):SR p p' Z (λv c=>c=v/\bC Z v=v) (zeroValue t) (zeroValue t):=by refine aK (fX F t) ?_;rintro _ i ⟨rfl,hi⟩;cases b:i.zero with
 |none=>exact XF rfl
 |some v=>exact aM ⟨rfl,EB Z v (F.zero i (EC a hi) v b)⟩
theorem LD(t):SR p p' Z (λi a=>a=i) (isAgg t) (isAgg t):=by refine aK (aR F t) ?_;rintro _ d ⟨rfl,_⟩;cases d<;>exact aM rfl
omit F in
theorem tz(a):∀n i acc,SR p p' Z (λv b=>b=v.map (bC Z)) (loadCellsFrom a i n acc) (loadCellsFrom (cE Z a) i n (acc.map (bC Z)))
 |0,_,_=>aM rfl
 |n+1,i,acc=>by
   refine aK (Q:=λv b=>b=bC Z v) ?_ ?_;.rw[<-zP];exact Dz
   .rintro v _ rfl;rw[<-Array.map_push];exact tz a n (i+1) (acc.push v)
omit F in
theorem zR(a n):SR p p' Z (λv b=>b=v.map (bC Z)) (loadCells a n) (loadCells (cE Z a) n):=by have:=tz (p:=p) (p':=p') (Z:=Z) a n 0 #[];simpa[loadCells]using this
omit F in
theorem py(a):∀b i,SR p p' Z (λ_ _=>True) (storeCells a b i) (storeCells (cE Z a) (b.map (bC Z)) i)
 |[],_=>aM trivial
 |v::b,i=>by
   refine aK (Q:=λ_ _=>True) ?_ ?_;.rw[<-zP];exact XG
   .intro _ _ _;exact py a b (i+1)
theorem ug(t a):SR p p' Z (λv c=>c=bC Z v) (loadVar t a) (loadVar t (cE Z a)):=by
 refine aK (LD F t) ?_;rintro _ b rfl;cases b;.exact Dz
 .refine aK (eB F t) ?_;rintro _ n rfl;refine aK (zR a n) ?_;rintro v _ rfl;exact aM S8
theorem LF(t a v):SR p p' Z (λ_ _=>True) (storeVar t a v) (storeVar t (cE Z a) (bC Z v)):=by
 refine aK (eB F t) ?_;rintro _ n rfl;rw[mC,Ks];by_cases h:v.cells.size≠n;.rw[bF h];exact aL rfl
 .rw[aS h,aS h];simp;exact py a _ 0
omit F in
theorem x7(a n l c)(h:l=0->c=0->n=0):SR p p' Z (λv d=>d=v.map (bC Z)) (loadCells a n) (loadCells (zk Z l c a) n):=by
 by_cases b:l=0/\c=0;.have:=h b.1 b.2;subst this;exact aM S8
 .rw[qj b];exact zR a n
omit F in
theorem vU(a b x l c)(h:l=0->c=0->b=[]):SR p p' Z (λ_ _=>True) (storeCells (a.add x) b) (storeCells ((zk Z l c a).add x) (b.map (bC Z))):=by
 by_cases d:l=0/\c=0;.have:=h d.1 d.2;subst this;exact aM trivial
 .rw[qj d,<-zP];exact py _ b 0
omit F in
theorem TF(e cs):SR p p' Z (λa a'=>a'=cE Z a) (newRow e cs) (newRow e (cs.map (bC Z))):=by refine aK (qm (o:=.cells cs e) rfl) ?_;rintro r _ rfl;exact aM rfl
omit F in
theorem qE(e cs):SR p p' Z (λa a'=>a'=cE Z a/\Z.gh a.block=none) (newRow e cs) (newRow e (cs.map (bC Z))):=by refine aK (OV (o:=.cells cs e) rfl) ?_;rintro r _ ⟨rfl,h⟩;exact aM ⟨rfl,h⟩
omit F in
theorem A3(e v):SR p p' Z (λa a'=>a'=cE Z a) (newVar e v) (newVar e (bC Z v)):=by simp[newVar];exact TF e _
theorem Hu(t):SR p p' Z (λa a'=>a'=a) (elemOf t) (elemOf t):=by refine aK (aR F t) ?_;rintro _ d ⟨rfl,_⟩;cases d<;>first|exact aM rfl|exact Dy
theorem lC(t cs off):SR p p' Z (λv a=>a=bC Z v) (part t cs off) (part t (cs.map (bC Z)) off):=by
 refine aK (LD F t) ?_;rintro _ b rfl;cases b;.rw[kZ];cases cs[off]? with
  |none=>exact Dy
  |some v=>exact aM rfl
 .refine aK (eB F t) ?_;rintro _ n rfl;exact aM S8
omit F in
theorem qF(v):SR p p' Z (λx b=>b=x) (asIntOf v) (asIntOf (bC Z v)):=by cases v with
 |int k n=>rw[cU];exact aM rfl
 |pointer a=>cases a<;>exact aL rfl
 |_=>exact aL rfl
omit F in
theorem A4(v):SR p p' Z (λx a=>a=x) (asBool v) (asBool (bC Z v)):=by cases v with
 |bool k=>rw[eK];exact aM rfl
 |_=>exact aL rfl
omit F in
theorem rQ(v):SR p p' Z (λx b=>b=cE Z x) (Instr.sureAddr v) (Instr.sureAddr (bC Z v)):=by cases v with
 |pointer a=>cases a with
   |none=>exact aL rfl
   |some a=>rw[bK];exact aM rfl
 |_=>exact aL rfl
end
section
variable{G:Gs}{p p':Program}{Z:Pi}(F:Fit G p p')(R:Rn G Z)
variable{α β:Type}{Q:α→β→Prop}
abbrev VR(Z:Pi)(v v':Value):Prop:=v'=bC Z v
theorem np{v a}(h:a=bC Z v):SR p p' Z Q (goPanic v) (goPanic a):=by subst h;exact SR.halt rfl
include F R
omit F R in
theorem LG{t Q}{s':Sem TypeId}(h:∀e,p.underlying t≠some (.pointer e))(f:∃k,s'=.program k):SR p p' Z Q (elemOf t) s':=by
 obtain⟨k,rfl⟩:=f;have e:∃k0:Program->Sem TypeId,elemOf t=.program k0/\((∀e,p.underlying t≠some (.pointer e))->∃s,k0 p=.halt (.stuck s)):=by refine⟨_,rfl,λh=>?_⟩;simp[Sem.bind];cases g:p.underlying t with
  |none=>exact⟨_,rfl⟩
  |some d=>rw[g]at h;cases d<;>first|exact absurd rfl (h _)|exact⟨_,rfl⟩
 have⟨k0,a,b⟩:=e;have⟨s,c⟩:=b h;rw[a];exact SR.program (by rw[c];exact aL rfl)
def adz:RuntimeError->Bool
 |.unhashable _=>true
 |_=>false
omit R in
theorem bM(e)(k:adz e=false:=by rfl):SR p p' Z Q (runtimePanic e) (runtimePanic e):=by
 have b:=F.rts;have f:p'.rt.boundsError=p.rt.boundsError:=by rw[<-b]
 have d:p'.rt.errorString=p.rt.errorString:=by rw[<-b]
 have g:p'.rt.plainError=p.rt.plainError:=by rw[<-b]
 have j:p'.rt.panicNilError=p.rt.panicNilError:=by rw[<-b]
 refine iO ?_;cases e with
 |bounds x y s c=>simp[f];exact np S8
 |error m=>simp[d];exact np (by simp[strVal])
 |plain m=>simp[g];exact np (by simp[strVal])
 |nilDeref=>simp[d];exact np (by simp[strVal])
 |typeAssertion i c a m=>exact aK (Q:=λ_ _=>False) (LG F.ta ⟨_,rfl⟩) (λ_ _ h=>h.elim)
 |panicNil=>simp[j];refine aK (Hu F _) ?_;rintro _ e rfl;refine aK (Q:=λa a'=>a'=cE Z a) (by simpa using A3 (p:=p) (p':=p') (Z:=Z) e (.agg #[])) ?_;rintro a _ rfl;exact np S8
 |unhashable t=>cases k
theorem iL(k x y c):SR p p' Z Q (boundsPanic k x y c) (boundsPanic k x y c):=by
 unfold boundsPanic;split;.refine aK (Q:=λa b=>b=a) (Rm (f:=λn=>Sem.pure (n==1)) (f':=λn=>Sem.pure (n==1)) iJ (by rintro _ n rfl;exact SR.pure rfl)) ?_;rintro _ s rfl;exact bM F _
 .refine aK (Q:=λa b=>b=a) (aM rfl) ?_;rintro _ s rfl;exact bM F _
theorem A5(v):SR p p' Z (λx b=>b=cE Z x) (asAddr v) (asAddr (bC Z v)):=by cases v with
 |pointer a=>cases a with
   |none=>rw[bK];exact(bM F .nilDeref:SR p p' Z _ (runtimePanic .nilDeref) (runtimePanic .nilDeref))
   |some a=>rw[bK];exact aM rfl
 |_=>exact aL rfl
omit R
theorem XH{t:TypeId}(b:t<p.types.size):SR p p' Z (VR Z) (Instr.alloc t true (.tuple #[])) (Instr.alloc t true (.tuple #[])):=by refine aK (gI F b) ?_;rintro _ v ⟨rfl,c⟩;refine aK (Q:=λa a'=>a'=cE Z a) (by have:=A3 (p:=p) (p':=p') (Z:=Z) t v;rwa [c]at this) ?_;rintro a _ rfl;exact aM (by simp[VR])
omit F in
theorem aem(t v):SR p p' Z (VR Z) (Instr.box t v) (Instr.box t (bC Z v)):=by refine aK (A3 t v) ?_;rintro a _ rfl;exact aM (by simp[VR])
theorem TG(t v):SR p p' Z (VR Z) (Instr.loadAt t v) (Instr.loadAt t (bC Z v)):=by refine aK (rQ v) ?_;rintro a _ rfl;exact ug F t a
theorem OW(t v x):SR p p' Z (λ_ _=>True) (Instr.storeAt t v x) (Instr.storeAt t (bC Z v) (bC Z x)):=by refine aK (rQ v) ?_;rintro a _ rfl;exact LF F t a x
omit F in
theorem Hv(r):SR p p' Z (λx b=>b=x.map λ(a,t)=>(cE Z a,t)) (viewAt r) (viewAt (Z r)):=by refine aK od ?_;rintro _ s rfl;cases s with
 |some s=>exact aM rfl
 |none=>refine aK iI ?_;rintro o _ rfl;cases o<;>exact aM rfl
omit F in
theorem Cw(r):SR p p' Z (λx b=>b=x.map λ(a,t)=>(cE Z a,t)) (numberAt r) (numberAt (Z r)):=by refine aK od ?_;rintro _ s rfl;cases s with
 |some s=>exact aM rfl
 |none=>refine aK iI ?_;rintro o _ rfl;cases o<;>exact aM rfl
omit F in
theorem gV(a):SR p p' Z (λx b=>b=(cE Z x.1,x.2)) (behindNumber a) (behindNumber (cE Z a)):=by refine aK (Cw a.block) ?_;rintro x _ rfl;cases x<;>exact aM rfl
omit F in
theorem LI(a b):SR p p' Z (VR Z) (asNumber a b) (asNumber (cE Z a) b):=by refine aK (qm (o:=.number a b) rfl) ?_;rintro r _ rfl;exact aM (by simp[VR])
omit F in
theorem A6(a):SR p p' Z (λ_ _=>True) (noView a) (noView (cE Z a)):=by refine aK (Hv a.block) ?_;rintro x _ rfl;cases x with
 |none=>exact aM trivial
 |some x=>exact aL rfl
theorem x8(d t c):byteOfCell p' d t c=byteOfCell p d t c:=by induction d generalizing t c with
 |zero=>rfl
 |succ d a=>simp[byteOfCell,F.under,F.bytesOf,F.cellsOf,a]
theorem A7(a):SR p p' Z (λx b=>b=x) (byteOf a) (byteOf (cE Z a)):=by simp[byteOf];cases a.spot with
 |some s=>exact aM rfl
 |none=>refine iO ?_;refine aK (A6 a) ?_;intro _ _ _;refine aK od ?_;rintro _ s rfl;cases s with
   |none=>exact aL rfl
   |some s=>
     simp[F.cellsOf,F.bytesOf,F.depth,x8 F];split;.exact aM rfl
     .split;.exact aM rfl
      .exact aL rfl
theorem TH(a c b):SR p p' Z (λx d=>d=cE Z x) (partAt a c b) (partAt (cE Z a) c b):=by refine aK (A7 F a) ?_;rintro _ n rfl;refine aK (Q:=λx d=>d=x) (A7 F {block:=a.block,off:=a.off+c}) ?_;rintro _ m rfl;refine aM ?_;split<;>rfl
theorem sf(a f):SR p p' Z (λx b=>b=cE Z x) (fieldPlace a f) (fieldPlace (cE Z a) f):=by
 refine aK (eB F f.type) ?_;rintro _ n rfl;split;.exact TH F a _ _
 .exact aM (by rw[zP])
theorem OX(s v i):SR p p' Z (VR Z) (Instr.fieldAt s v i) (Instr.fieldAt s (bC Z v) i):=by refine aK (aR F s) ?_;rintro _ d ⟨rfl,_⟩;cases d with
 |struct fields=>simp only;cases fields[i]? with
   |none=>exact aL rfl
   |some f=>refine aK (rQ v) ?_;rintro a _ rfl;refine aK (sf F a f) ?_;rintro a _ rfl;exact aM (by simp[VR])
 |_=>exact aL rfl
include R
theorem Gy(v y c):SR p p' Z (λx a=>a=x/\x<=y) (Instr.sliceBound v y c) (Instr.sliceBound (bC Z v) y c):=by
 refine aK (qF v) ?_;rintro _ ⟨k,i⟩ rfl;simp only;split;.exact aM ⟨rfl,O9⟩
 .exact iL F R _ _ _ _
def nw(Z:Pi):Value->Prop
 |.pointer (some a)=>Z.gh a.block=none
 |.slice (some a) l c=>Z.gh a.block=none\/(l=0/\c=0)
 |_=>True
omit F R in
theorem add_block(a:Addr)(n):(a.add n).block=a.block:=by simp[Addr.add];split<;>rfl
theorem og(b l c lo hi a):SR p p' Z (λx d=>d=x/\(l=0->c=0->x=(0,0,0))) (Instr.sliceBounds b l c lo hi a) (Instr.sliceBounds b l c (lo.map (bC Z)) (hi.map (bC Z)) (a.map (bC Z))):=by cases a<;>cases hi<;>cases lo<;>simp;all_goals repeat' (first|exact aM ⟨rfl,λe f=>by simp;omega⟩|refine aK (Gy F R _ _ _) ?_|refine aK (Q:=λx d=>d=x/\x=_) (aM ⟨rfl,rfl⟩) ?_|exact aL rfl|(rintro _ _ ⟨rfl,_⟩))
theorem XI(t x)(g:nw Z x)(lo hi c):SR p p' Z (VR Z) (Instr.slice t x lo hi c) (Instr.slice t (bC Z x) (lo.map (bC Z)) (hi.map (bC Z)) (c.map (bC Z))):=by refine aK (aR F t) ?_;rintro _ d ⟨rfl,_⟩;cases d with
 |string=>cases x with
   |string s=>
     simp;split;.exact aL rfl
     .refine aK (og F R false _ _ lo hi none) ?_;rintro _ ⟨l,h,m⟩ ⟨rfl,-⟩;exact aM (by simp[VR])
   |_=>exact aL rfl
 |slice e=>cases x with
   |slice a len cap=>simp;refine aK (og F R true _ _ lo hi c) ?_;rintro _ ⟨l,h,m⟩ ⟨rfl,i⟩;refine aK (eB F e) ?_;rintro _ n rfl;refine aM ?_;simp[VR];cases a with
     |none=>split<;>rfl
     |some a=>
       rcases(g:Z.gh a.block=none\/(len=0/\cap=0))with b|⟨rfl,rfl⟩
       .have f:Z.gh (a.add (l*n)).block=none:=by rw[add_block];exact b
        split<;>simp[fV b,fV f]
       .simp_all
   |_=>exact aL rfl
 |pointer arr=>
   refine aK (Q:=λa a'=>a'=cE Z a/\Z.gh a.block=none) ?_ ?_;.cases x with
    |pointer a=>cases a with
      |none=>rw[bK];exact(bM F .nilDeref:SR p p' Z _ (runtimePanic .nilDeref) (runtimePanic .nilDeref))
      |some a=>rw[bK];exact aM ⟨rfl,g⟩
    |_=>exact aL rfl
   rintro a _ ⟨rfl,b⟩;refine aK (aR F arr) ?_;rintro _ d ⟨rfl,_⟩;cases d with
   |array n e=>
     refine aK (og F R false _ _ lo hi c) ?_;rintro _ ⟨l,h,m⟩ ⟨rfl,-⟩;refine aK (eB F e) ?_;rintro _ n rfl;refine aM ?_;have f:Z.gh (a.add (l*n)).block=none:=by rw[add_block];exact b
     simp[VR];split<;>simp[fV b,fV f]
   |_=>exact aL rfl
 |_=>exact aL rfl
theorem OY(t x)(f:nw Z x)(lo hi b):SR p p' Z (VR Z) (Instr.sliceAt t x lo hi b) (Instr.sliceAt t (bC Z x) (lo.map (bC Z)) (hi.map (bC Z)) (b.map (bC Z))):=by refine aK (aR F t) ?_;rintro _ d ⟨rfl,_⟩;cases d with
 |array n e=>
   refine aK (Q:=λa a'=>a'=cE Z a/\Z.gh a.block=none) ?_ ?_;.cases x with
    |pointer a=>cases a with
      |none=>exact aL rfl
      |some a=>rw[bK];exact aM ⟨rfl,f⟩
    |_=>exact aL rfl
   rintro a _ ⟨rfl,c⟩;refine aK (og F R false _ _ lo hi b) ?_;rintro _ ⟨l,h,m⟩ ⟨rfl,-⟩;refine aK (eB F e) ?_;rintro _ n rfl;refine aM ?_;have g:Z.gh (a.add (l*n)).block=none:=by rw[add_block];exact c
   simp[VR];split<;>simp[fV c,fV g]
 |_=>exact XI F R t x f lo hi b
theorem OZ(t x i):SR p p' Z (VR Z) (Instr.indexAt t x i) (Instr.indexAt t (bC Z x) (bC Z i)):=by refine aK (qF i) ?_;rintro _ ⟨k,i⟩ rfl;refine aK (aR F t) ?_;rintro _ d ⟨rfl,_⟩;cases d with
 |array n e=>refine aK (rQ x) ?_;rintro a _ rfl;.refine aK (Q:=λ(a b:Option Addr×Nat×TypeId)=>b=(a.1.map (cE Z),a.2.1,a.2.2)) (aM rfl) ?_;rintro⟨base,len,elem⟩ _ rfl;refine aK (aR F t) ?_;rintro _ d ⟨rfl,_⟩;cases base with
    |none=>exact iL F R _ _ _ _
    |some a=>
      simp;split;.refine aK (eB F elem) ?_;rintro _ n rfl;exact aM (by simp[VR])
      .repeat' split
       all_goals first|exact iL F R _ _ _ _|exact aL rfl
 |slice e=>cases x with
   |slice a l c=>rw[bT];refine aK (Q:=λ(a b:Option Addr×Nat×TypeId)=>∃c,b=(KT Z a.1 a.2.1 c,a.2.1,a.2.2)) (aM ⟨c,rfl⟩) ?_;rintro⟨base,len,elem⟩ _ ⟨c,rfl⟩;refine aK (aR F t) ?_;rintro _ d ⟨rfl,_⟩;cases base with
     |none=>exact iL F R _ _ _ _
     |some a=>
       simp;split;.refine aK (eB F elem) ?_;rintro _ n rfl;have f:zk Z len c a=cE Z a:=qj O9;exact aM (by simp[VR,f])
       .repeat' split
        all_goals first|exact iL F R _ _ _ _|exact aL rfl
   |_=>exact aL rfl
 |_=>exact aL rfl
theorem XK(t x i):SR p p' Z (VR Z) (Instr.index t x i) (Instr.index t (bC Z x) (bC Z i)):=by refine aK (qF i) ?_;rintro _ ⟨k,i⟩ rfl;refine aK (aR F t) ?_;rintro _ d ⟨rfl,_⟩;cases d with
 |array n e=>cases x with
   |agg cs=>
     simp;split;.refine aK (eB F e) ?_;rintro _ n rfl;exact lC F e cs _
     .exact iL F R _ _ _ _
   |_=>exact aL rfl
 |string=>cases x with
   |string s=>
     simp;split;.exact aM (by simp[VR])
     .exact iL F R _ _ _ _
   |_=>exact aL rfl
 |_=>exact aL rfl
omit R
theorem A8(t x):SR p p' Z (VR Z) (Instr.makeInterface t x) (Instr.makeInterface t (bC Z x)):=by refine aK (aR F t) ?_;rintro _ d ⟨rfl,_⟩;cases d with
 |interface _=>exact aL rfl
 |_=>exact aM (by simp[VR])
omit F in
theorem O0(x i):SR p p' Z (VR Z) (Instr.extract x i) (Instr.extract (bC Z x) i):=by unfold Instr.extract;cases x with
 |tuple a=>simp;cases a[i]? with
   |none=>exact aL rfl
   |some v=>exact aM rfl
 |_=>exact aL rfl
include R
theorem Gz(x b){a:TypeId}(h:a<p.types.size)(ok):SR p p' Z (VR Z) (Instr.typeAssert x b a ok) (Instr.typeAssert (bC Z x) b a ok):=by
 have c:∀(s d:Option TypeId) (m:String),SR p p' Z (VR Z) (if ok=true then do let z<-zeroValue a;pure (.tuple #[z,aF])else runtimePanic (.typeAssertion s d a m)) (if ok=true then do let z<-zeroValue a;pure (.tuple #[z,aF])else runtimePanic (.typeAssertion s d a m)):=λs d m=>by
  split;.refine aK (gI F h) ?_;rintro _ v ⟨rfl,e⟩;exact aM (by simp[VR,e])
  .exact bM F _
 have holds:∀v:Value,SR p p' Z (VR Z) (pure (if ok=true then .tuple #[v,aD]else v)) (pure (if ok=true then .tuple #[bC Z v,aD]else bC Z v)):=λv=>by refine aM ?_;split<;>simp[VR]
 refine aK (aR F a) ?_;rintro _ d ⟨rfl,_⟩;cases x with
 |nilIface=>cases d<;>simp<;>exact c _ _ _
 |iface t v=>cases d with
   |interface want=>
     simp only[cV];refine aK (fX F t) ?_;rintro _ i ⟨rfl,_⟩;split;.have:=holds (.iface t v);rwa [cV]at this
     .simp_all
   |_=>
     simp only[cV];split;.simp_all
     .simp_all
 |_=>cases d<;>exact aL rfl
theorem LJ(x):SR p p' Z (VR Z) (Instr.panic x) (Instr.panic (bC Z x)):=by cases x with
 |iface t v=>simp;exact np S8
 |nilIface=>
   simp;refine aK (Q:=λa b=>b=a) ?_ ?_;.refine Rm (Q:=λa b=>b=a) (SR.env λr=>SR.pure rfl) ?_;rintro _ r rfl;cases r with
    |strings env=>refine iO ?_;have⟨c,r,h⟩:=F.ex;simp[h];exact aM rfl
    |_=>exact aL rfl
   .rintro _ n rfl;split;.exact np S8
    .exact bM F _
 |_=>exact aL rfl
end
section
variable{G:Gs}{p p':Program}{Z:Pi}
variable{α β:Type}
inductive jH(Z:Pi){α:Type}(H:α->Prop):Sem α->Prop
 |pure {a:α}:H a->jH Z H (.pure a)
 |choose {q:Question} {k:Nat->Sem α}:(∀n,jH Z H (k n))->jH Z H (.choose q k)
 |lost {h:Halt}:x5 h=true->jH Z H (.halt h)
theorem jH.sr{H}{s:Sem α}(h:jH Z H s):SR p p' Z (λa b=>b=a/\H a) s s:=by induction h with
 |pure h=>exact SR.pure ⟨rfl,h⟩
 |choose _ c=>exact SR.choose c
 |lost h=>exact aL h
theorem jH.bind{γ H b s}{f:α->Sem γ}(h:jH Z H s)(c:∀a,H a->jH Z b (f a)):jH Z b (s>>=f):=by induction h with
 |pure h=>exact c _ h
 |choose _ d=>exact .choose d
 |lost h=>exact .lost h
def gU:=@jH.bind
theorem jH.val{s}(h:jH Z (λv=>bC Z v=v) s):SR p p' Z (VR Z) s s:=h.sr.mono λ_ _ ⟨e,h⟩=>by rw[e,VR,h]
theorem jH.ret{H}{a:α}(h:H a):jH Z H (Pure.pure a):=.pure h
theorem jH.aen{q}:jH Z (λ_=>True) (Go.choose q):=.choose λ_=>.pure trivial
def LK:=@jH.aen
theorem jH.any{H}{s:Sem α}(h:jH Z H s):jH Z (λ_=>True) s:=by induction h with
 |pure _=>exact .pure trivial
 |choose _ a=>exact .choose a
 |lost h=>exact .lost h
theorem u9(op k x y):jH Z (λv=>bC Z v=v) (Op.floatArith op k x y):=by
 cases op<;>first|exact .lost rfl|skip
 all_goals refine gU (H:=λ_=>True) (.ret trivial) λr _=>?_;cases r with
  |some r=>exact .ret S8
  |none=>exact gU LK λ_ _=>.ret S8
theorem ya(op k x y):jH Z (λv=>bC Z v=v) (Op.floatCmp op k x y):=by cases op<;>first|exact .ret S8|exact .lost rfl
theorem qG(op k x y):jH Z (λ_=>True) (Op.Complex.arith op k x y):=by refine gU (u9 op k x y).any λv _=>?_;cases v<;>first|exact .ret trivial|exact .lost rfl
theorem EE(op k x y):jH Z (λ_=>True) (Op.Complex.cmp op k x y):=by refine gU (ya op k x y).any λv _=>?_;cases v<;>first|exact .ret trivial|exact .lost rfl
theorem zS(s x d):jH Z (λv=>bC Z v=v) (Conv.floatToFloat s x d):=by
 unfold Conv.floatToFloat;split;.exact .ret S8
 .split;.exact gU LK λ_ _=>.ret S8
  .exact .ret S8
  .dsimp only;split;.exact gU LK λ_ _=>.ret S8
   .exact .ret S8
theorem TJ(s x d):jH Z (λ_=>True) (Op.Complex.conv s x d):=by
 unfold Op.Complex.conv;split;.exact .ret trivial
 .refine gU (zS s x d).any λv _=>?_;cases v<;>first|exact .ret trivial|exact .lost rfl
theorem zT(x y):jH Z (λ_=>True) (Op.Complex.add x y):=qG _ _ _ _
theorem EF(x y):jH Z (λ_=>True) (Op.Complex.sub x y):=qG _ _ _ _
theorem qH(x y):jH Z (λ_=>True) (Op.Complex.mul x y):=qG _ _ _ _
theorem EG(x y):jH Z (λ_=>True) (Op.Complex.quo x y):=qG _ _ _ _
theorem Ji(a b c d):jH Z (λ_=>True) (Op.Complex.product a b c d):=by repeat' first|exact .ret trivial|(refine gU (qH _ _) λ_ _=>?_)|(refine gU (EF _ _) λ_ _=>?_)|(refine gU (zT _ _) λ_ _=>?_)
theorem vV(s a b c d):jH Z (λ_=>True) (Op.Complex.corrected s a b c d):=by repeat' first|exact .ret trivial|(refine gU (qH _ _) λ_ _=>?_)|(refine gU (EF _ _) λ_ _=>?_)|(refine gU (zT _ _) λ_ _=>?_)
theorem tA{α H c}[Decidable c]{s t:Sem α}(h:jH Z H s)(a:jH Z H t):jH Z H (if c then s else t):=by grind
theorem GA(a b c d):jH Z (λ_=>True) (Op.Complex.quotient a b c d):=by refine tA ?_ ?_;all_goals
  refine gU (EG _ _) λ_ _=>gU (qH _ _) λ_ _=>gU (zT _ _) λ_ _=>gU (qH _ _) λ_ _=>gU (zT _ _) λ_ _=>gU (EG _ _) λ_ _=>gU (qH _ _) λ_ _=>gU (EF _ _) λ_ _=>gU (EG _ _) λ_ _=>gU (H:=λ_=>True) (.ret trivial) λx _=>?_
  exact gU (EE _ _ _ _) λ_ _=>gU (EE _ _ _ _) λ_ _=>tA (.ret trivial) (tA (gU (qH _ _) λ_ _=>gU (qH _ _) λ_ _=>.ret trivial) (tA (vV _ _ _ _ _) (tA (vV _ _ _ _ _) (.ret trivial))))
theorem EH(op k a b c d):jH Z (λv=>bC Z v=v) (Op.complexOp op k a b c d):=by cases op;all_goals repeat' first
  |exact .lost rfl
  |exact .ret S8
  |(refine gU (qG _ _ _ _) λ_ _=>?_)
  |(refine gU (EE _ _ _ _) λ_ _=>?_)
  |(refine gU (TJ _ _ _) λ_ _=>?_)
  |(refine gU (Ji _ _ _ _) λ_ _=>?_)
  |(refine gU (GA _ _ _ _) λ_ _=>?_)
  |split
theorem yc(op k x y):jH Z (λv=>bC Z v=v) (Op.intArith op k x y):=by cases op<;>first|exact .ret S8|exact .lost rfl
theorem zU(op k x y):jH Z (λv=>bC Z v=v) (Op.intBits op k x y):=by cases op<;>first|exact .ret S8|exact .lost rfl
theorem LL(op x y):jH Z (λv=>bC Z v=v) (Op.intCmp op x y):=by cases op<;>first|exact .ret S8|exact .lost rfl
theorem sj(op x y):jH Z (λv=>bC Z v=v) (Op.stringOp op x y):=by unfold Op.stringOp;cases op;all_goals repeat' first|exact .ret S8|exact .lost rfl|split
end
section
variable{G:Gs}{p p':Program}{Z:Pi}(F:Fit G p p')(R:Rn G Z)
include F R
theorem TK(op k x y):SR p p' Z (VR Z) (Op.intDiv op k x y) (Op.intDiv op k x y):=by
 unfold Op.intDiv;split;.exact bM F _
 .cases op<;>first|exact aM (by simp[VR])|exact aL rfl
theorem XL(op k x a y):SR p p' Z (VR Z) (Op.shift op k x a y) (Op.shift op k x a y):=by
 unfold Op.shift;split;.exact bM F _
 .cases op<;>first|exact aM (by simp[VR])|exact aL rfl
omit F R in
theorem XM(op x):SR p p' Z (VR Z) (Op.unary op x) (Op.unary op (bC Z x)):=by cases op<;>cases x<;>(try simp);all_goals first
  |exact aL rfl
  |exact(yc _ _ _ _).val
  |exact(zU _ _ _ _).val
  |exact aM (by simp[VR])
  |(rename_i a;cases a<;>exact aL rfl)
omit F in
theorem XN(a b):((cE Z a).block==(cE Z b).block)=(a.block==b.block):=by
 by_cases h:a.block=b.block;.simp[h]
 .have:Z a.block≠Z b.block:=λe=>h (R.inj _ _ e);rw[Es,Es,beq_eq_false_iff_ne.mpr h,beq_eq_false_iff_ne.mpr this]
omit F in
theorem addr_eq(a b):(cE Z a==cE Z b)=(a==b):=by
 by_cases h:a=b;.simp[h]
 .have:cE Z a≠cE Z b:=λe=>h (by have c:=R.inj _ _ (congrArg Addr.block e);have d:=congrArg Addr.off e;have f:=congrArg Addr.spot e;cases a;cases b;simp at c d f;simp[c,d,f])
  rw[beq_eq_false_iff_ne.mpr h,beq_eq_false_iff_ne.mpr this]
omit F R in
theorem zV(a):SR p p' Z (λx c=>c=x) (stringish a) (stringish (cE Z a)):=by
 refine aK xb ?_;rintro _ b rfl;cases b;.refine aK od ?_;rintro _ s rfl;cases s with
  |none=>exact aM rfl
  |some s=>exact xb (a:={block:=a.block,off:=s.2})
 .exact aM rfl
omit F R in
theorem LM(a b):SR p p' Z (λx c=>c=x) (mayBeOne a b) (mayBeOne (cE Z a) (cE Z b)):=by
 refine aK (zV a) ?_;rintro _ e rfl;refine aK (zV b) ?_;rintro _ sb rfl;have none:∀x:Addr,SR p p' Z (λx c=>c=x) (do let s<-shape x.block;pure (s matches some (_,0))) (do let s<-shape (cE Z x).block;pure (s matches some (_,0))):=λx=>by refine aK od ?_;rintro _ s rfl;exact aM rfl
 refine aK (none a) ?_;rintro _ d rfl;refine aK (none b) ?_;rintro _ nb rfl;exact aM rfl
omit F in
theorem Cx(a b):SR p p' Z (λx c=>c=x) (sameAddr a b) (sameAddr (cE Z a) (cE Z b)):=by
 unfold sameAddr;rw[XN R,addr_eq R];split;.exact aM rfl
 .refine aK xb ?_;rintro _ d rfl;refine aK xb ?_;rintro _ e rfl;split;.exact aL rfl
  .refine aK (A6 a) ?_;intro _ _ _;refine aK (A6 b) ?_;intro _ _ _;refine aK (LM a b) ?_;rintro _ m rfl;split;.refine aK iJ ?_;rintro _ n rfl;exact aM rfl
   .exact aM rfl
omit F in
theorem EI(a b):SR p p' Z (λx c=>c=x) (samePointer a b) (samePointer (a.map (cE Z)) (b.map (cE Z))):=by
 cases a<;>cases b;.exact aM rfl
 .exact aM rfl
 .exact aM rfl
 .exact Cx R _ _
end
section
variable{G:Gs}{p p':Program}{Z:Pi}
theorem A9{γ δ:Type}(f f':γ->δ->Sem (ForInStep δ)):∀(l:List γ) (b:δ),(∀a∈l,∀b,SR p p' Z (λx c=>c=x) (f a b) (f' a b))->SR p p' Z (λx c=>c=x) (forIn l b f) (forIn l b f')
 |[],b,_=>by simp;exact aM rfl
 |a::l,b,h=>by simp;refine aK (h a S8 b) ?_;rintro _ s rfl;cases s with
   |done b=>exact aM rfl
   |yield b=>exact A9 f f' l b (λa d=>h a (by simp[d]))
theorem Ba{γ δ:Type}{f f'}(l:Array γ)(b:δ)(h:∀a∈l,∀b,SR p p' Z (λx c=>c=x) (f a b) (f' a b)):SR p p' Z (λx c=>c=x) (forIn l b f) (forIn l b f'):=by rw[<-QI,<-QI];exact A9 f f' l.toList b (λa d=>h a (by simpa using d))
theorem Bb{δ f f'}(n)(b:δ)(h:∀a b,SR p p' Z (λx c=>c=x) (f a b) (f' a b)):SR p p' Z (λx c=>c=x) (forIn [0:n] b f) (forIn [0:n] b f'):=by rw[ade,ade];exact A9 f f' _ b (λa _=>h a)
end
section
variable{G:Gs}{p p':Program}{Z:Pi}(F:Fit G p p')(R:Rn G Z)
include F
theorem XO(n):∀t u,p'.alikeButTags n t u=p.alikeButTags n t u:=by induction n with
 |zero=>intro t u;rfl
 |succ n a=>intro t u;simp[Program.alikeButTags,F.info,a]
theorem XP(t):p'.underlyingId t=p.underlyingId t:=by simp[Program.underlyingId,F.info]
theorem Jj(t):p'.stoodInAs t=p.stoodInAs t:=by simp[Program.stoodInAs,F.under,F.cut,XO F,XP F,F.depth]
theorem oh(t):p'.stoodInHeld t=p.stoodInHeld t:=by simp[Program.stoodInHeld,Jj F,F.info]
theorem vW(d):∀t,p'.eqGuardType d t=p.eqGuardType d t:=by induction d with
 |zero=>intro t;rfl
 |succ d a=>intro t;simp[Program.eqGuardType,F.under,a]
omit F in
theorem XQ{α β Q t}{s:Sem α}{s':Sem β}(a:((p.info? t).all fun i=>match i.desc with|.named "sync.copyChecker" _=>false|_=>true)=true):SR p p' Z Q (typeInfo t>>=fun i=>match i.desc with|.named "sync.copyChecker" _=>s|_=>unsupported .addressObserved) s':=by cases hi:p.info? t with
 |none=>refine SR.ady (h:=.stuck "no such type") ?_ rfl;show Sem.bind (match p.info? t with|some i=>Pure.pure i|none=>stuck "no such type") _=_;rw[hi];rfl
 |some i=>
   refine SR.ady (h:=.unsupported .addressObserved) ?_ rfl;show Sem.bind (match p.info? t with|some i=>Pure.pure i|none=>stuck "no such type") _=_;rw[hi];show(match i.desc with|.named "sync.copyChecker" _=>s|_=>unsupported .addressObserved)=_;split;.simp_all
   .rfl
include R
theorem EJ:∀d n t x y,u7 p n t=true->SR p p' Z (λx B=>B=x) (Op.equalIn d t x y) (Op.equalIn d t (bC Z x) (bC Z y))
 |0,_,_,_,_,_=>aL rfl
 |_+1,0,_,_,_,h=>by cases h
 |d+1,n+1,t,x,y,g=>by have q:=EJ d n;refine aK (aR F t) ?_;rintro _ u ⟨rfl,A⟩;simp only[u7,A,dP]at g;have⟨w,g⟩:=g;cases u with
   |bool=>cases x<;>first|exact aL rfl|(cases y<;>first|exact aL rfl|(simp only[eK];exact aM rfl))
   |string=>cases x<;>first|exact aL rfl|(cases y<;>first|exact aL rfl|(simp only[cD];exact aM rfl))
   |float k=>
     cases x<;>first|exact aL rfl|skip
     cases y<;>first|exact aL rfl|skip
     simp only[dH];split;.exact aM rfl
     .exact aL rfl
   |complex k=>
     cases x<;>first|exact aL rfl|skip
     cases y<;>first|exact aL rfl|skip
     simp only[cM];split;.exact aM rfl
     .exact aL rfl
   |int k=>cases x with
     |int k n=>cases y with
       |int k' C=>
         simp only[cU];split;.exact aM rfl
         .exact aL rfl
       |pointer b=>cases b with
         |none=>match n with
           |0=>exact aL rfl
           |Int.ofNat (m+1)=>exact aL rfl
           |Int.negSucc m=>exact aL rfl
         |some b=>simp only[cU,bK,dM];match n with
           |0=>exact aM rfl
           |Int.ofNat (m+1)=>exact aL rfl
           |Int.negSucc m=>exact aL rfl
       |_=>exact aL rfl
     |pointer a=>cases a with
       |none=>cases y<;>exact aL rfl
       |some a=>cases y with
         |int k' n=>simp only[cU,bK,dM];match n with
           |0=>exact aM rfl
           |Int.ofNat (m+1)=>exact aL rfl
           |Int.negSucc m=>exact aL rfl
         |pointer b=>cases b with
           |none=>exact aL rfl
           |some b=>simp only[bK,dM];refine aK (gV a) ?_;rintro a _ rfl;refine aK (gV b) ?_;rintro b _ rfl;refine iO ?_;rw[F.none];simp only[nU,decide_false,Kt,vI,zr];exact XQ w
         |_=>exact aL rfl
     |_=>cases y<;>exact aL rfl
   |pointer e=>cases x with
     |pointer a=>cases y with
       |pointer b=>
         simp only[bK];cases a<;>cases b<;>simp only[Ku,dM];.exact aM rfl
         .exact aM rfl
         .exact aM rfl
         .rename_i a b;refine aK (eB F e) ?_;rintro _ n rfl;split;.exact Cx R a b
          .rw[addr_eq R];split;.exact aM rfl
           .refine aK iJ ?_;rintro _ n rfl;exact aM rfl
       |_=>cases a<;>exact aL rfl
     |_=>exact aL rfl
   |unsafePointer=>
     cases x<;>first|exact aL rfl|skip
     cases y<;>first|exact aL rfl|skip
     simp only[bK];exact EI R _ _
   |chan a b=>cases g
   |interface ms=>cases g
   |struct s=>
     cases x<;>first|exact aL rfl|skip
     cases y<;>first|exact aL rfl|skip
     rename_i j o;simp only[dK];refine iO ?_;rw[oh F];split;.exact aL rfl
     .refine aK (Ba s _ λf z b=>?_) ?_
      .split;.refine aK (lC F f.type j f.offset) ?_;rintro v _ rfl;refine aK (lC F f.type o f.offset) ?_;rintro i _ rfl;refine aK (q f.type v i (zn.1 g f z)) ?_;rintro _ e rfl;split<;>exact aM rfl
       .exact aM rfl
      .rintro _ r rfl;split<;>exact aM rfl
   |array n e=>
     cases x<;>first|exact aL rfl|skip
     cases y<;>first|exact aL rfl|skip
     rename_i j o;simp only[dK];refine aK (eB F e) ?_;rintro _ m rfl;refine aK (Bb n _ λf b=>?_) ?_;.refine aK (lC F e j _) ?_;rintro v _ rfl;refine aK (lC F e o _) ?_;rintro i _ rfl;refine aK (q e v i g) ?_;rintro _ e rfl;split<;>exact aM rfl
     .rintro _ r rfl;split<;>exact aM rfl
   |slice e=>
     cases x<;>first|exact aL rfl|skip
     rename_i a l c;cases a<;>cases y<;>first|exact aL rfl|skip
     all_goals rename_i b _ _;cases b<;>simp only[bT,TC,qi]<;>first|exact aM rfl|exact aL rfl
   |map a b=>
     cases x<;>first|exact aL rfl|skip
     rename_i a;cases a<;>cases y<;>first|exact aL rfl|skip
     all_goals rename_i b;cases b<;>simp only[dY,Ku,dM]<;>first|exact aM rfl|exact aL rfl
   |func a b c=>
     cases x<;>first|exact aL rfl|skip
     all_goals cases y<;>first|exact aL rfl|(simp only[cW,dR];exact aM rfl)
   |_=>exact aL rfl
end
section
variable{G:Gs}{p p':Program}{Z:Pi}(F:Fit G p p')(R:Rn G Z)
include F
omit F in
theorem Cy(d t x y)(a:x≠.nilIface)(b:∀c,x≠.agg c):Op.eqGuardIn (d+1) t x y=(underlying t>>=λ_=>Pure.pure false):=by unfold Op.eqGuardIn;congr 1;funext u;cases x<;>first|exact absurd rfl a|exact absurd rfl (b _)|(cases u<;>rfl)
omit F in
theorem Cz(d t x y)(a:y≠.nilIface)(b:∀c,y≠.agg c):Op.eqGuardIn (d+1) t x y=(underlying t>>=λ_=>Pure.pure false):=by unfold Op.eqGuardIn;congr 1;funext u;cases y<;>first|exact absurd rfl a|exact absurd rfl (b _)|(cases u<;>cases x<;>rfl)
theorem uh:∀d t x y,SR p p' Z (λx l=>l=x) (Op.eqGuardIn d t x y) (Op.eqGuardIn d t (bC Z x) (bC Z y))
 |0,_,_,_=>aL rfl
 |d+1,t,x,y=>by
   have j:=uh d;by_cases a:∃r,x=.chan r;.obtain⟨r,rfl⟩:=a;rw[cO,Cy d t (.chan r) y S8 S8,Cy d t (oI Z r) _ (x6 Z r) (Et Z r)];exact aK (aR F t) λ_ _ _=>aM rfl
   by_cases c:∃r,y=.chan r;.obtain⟨r,rfl⟩:=c;rw[cO,Cz d t x (.chan r) S8 S8,Cz d t _ (oI Z r) (x6 Z r) (Et Z r)];exact aK (aR F t) λ_ _ _=>aM rfl
   unfold Op.eqGuardIn;refine aK (aR F t) ?_;rintro _ u ⟨rfl,_⟩;cases u with
   |interface ms=>cases x<;>first|exact absurd ⟨_,rfl⟩ a|(cases y<;>first|exact absurd ⟨_,rfl⟩ c|(simp only[cJ,cV,eK,cU,dH,cM,cD,bK,bT,dY,cO,dR,cW,dK,dQ];exact aM rfl))
   |struct k=>cases x with
     |agg h=>cases y with
       |agg i=>
         simp only[dK];refine aK (Ba k _ λf _ b=>?_) ?_
         .split;.refine aK (lC F f.type h f.offset) ?_;rintro v _ rfl;refine aK (lC F f.type i f.offset) ?_;rintro g _ rfl;refine aK (j f.type v g) ?_;rintro _ e rfl;split<;>exact aM rfl
          .exact aM rfl
         .rintro _ r rfl;split<;>exact aM rfl
       |_=>first|exact absurd ⟨_,rfl⟩ c|(simp only[cJ,cV,eK,cU,dH,cM,cD,bK,bT,dY,cO,dR,cW,dK,dQ];exact aM rfl)
     |_=>first|exact absurd ⟨_,rfl⟩ a|(simp only[cJ,cV,eK,cU,dH,cM,cD,bK,bT,dY,cO,dR,cW,dK,dQ];exact aM rfl)
   |array n e=>cases x with
     |agg h=>cases y with
       |agg i=>
         simp only[dK];refine aK (eB F e) ?_;rintro _ m rfl;refine aK (Bb n _ λf b=>?_) ?_;.refine aK (lC F e h _) ?_;rintro v _ rfl;refine aK (lC F e i _) ?_;rintro g _ rfl;refine aK (j e v g) ?_;rintro _ e rfl;split<;>exact aM rfl
         .rintro _ r rfl;split<;>exact aM rfl
       |_=>first|exact absurd ⟨_,rfl⟩ c|(simp only[cJ,cV,eK,cU,dH,cM,cD,bK,bT,dY,cO,dR,cW,dK,dQ];exact aM rfl)
     |_=>first|exact absurd ⟨_,rfl⟩ a|(simp only[cJ,cV,eK,cU,dH,cM,cD,bK,bT,dY,cO,dR,cW,dK,dQ];exact aM rfl)
   |_=>exact aM rfl
theorem O3(op t x y a b):SR p p' Z (λ_ _=>True) (eqGuard op t x y a b) (eqGuard op t x y (bC Z a) (bC Z b)):=by
 unfold eqGuard;refine eU (aM trivial) ?_;by_cases c:∃r,a=.chan r;.obtain⟨r,rfl⟩:=c;rw[cO];obtain h|⟨_,h⟩|⟨_,_,_,h⟩|⟨_,h⟩|⟨_,h⟩|⟨_,_,_,h⟩:=fT Z r<;>rw[h]<;>exact aM trivial
 by_cases d:∃r,b=.chan r;.obtain⟨r,rfl⟩:=d;rw[cO];obtain h|⟨_,h⟩|⟨_,_,_,h⟩|⟨_,h⟩|⟨_,h⟩|⟨_,_,_,h⟩:=fT Z r<;>rw[h]<;>cases a<;>first|exact absurd ⟨_,rfl⟩ c|(simp only[cJ,cV,eK,cU,dH,cM,cD,bK,bT,dY,dR,cW,dK,dQ];exact aM trivial)
 .cases a with
  |nilIface=>cases b with
    |nilIface=>
      simp only[cJ];refine eU (aM trivial) ?_
      .refine aK (by have:=uh F (Z:=Z) Op.maxDepth t .nilIface .nilIface;simpa only[cJ]using this) ?_;rintro _ e rfl;split;.exact aL rfl
       .exact aM trivial
    |_=>first|exact absurd ⟨_,rfl⟩ d|(simp only[cJ,cV,eK,cU,dH,cM,cD,bK,bT,dY,cO,dR,cW,dK,dQ];exact aM trivial)
  |agg f=>cases b with
    |agg g=>
      simp only[dK];refine iO ?_;refine iO ?_;rw[F.depth,vW F];split;.exact aM trivial
      .refine aK (by have:=uh F (Z:=Z) Op.maxDepth t (.agg f) (.agg g);simpa only[dK]using this) ?_;rintro _ e rfl;split;.exact aL rfl
       .exact aM trivial
    |_=>first|exact absurd ⟨_,rfl⟩ d|(simp only[cJ,cV,eK,cU,dH,cM,cD,bK,bT,dY,cO,dR,cW,dK,dQ];exact aM trivial)
  |_=>first|exact absurd ⟨_,rfl⟩ c|(simp only[cJ,cV,eK,cU,dH,cM,cD,bK,bT,dY,cO,dR,cW,dK,dQ];exact aM trivial)
theorem GC(d):∀t b,cellOfByte p' d t b=cellOfByte p d t b:=by induction d with
 |zero=>intro t b;rfl
 |succ d a=>intro t b;simp[cellOfByte,F.under,F.bytesOf,F.cellsOf,a]
theorem EK(d e c o b):cellAtBytes p' d e c o b=cellAtBytes p d e c o b:=by simp[cellAtBytes,F.bytesOf,F.cellsOf,x8 F,GC F]
theorem ye(c t a y):SR p p' Z (λv d=>d=bC Z v/\∃a,v=.pointer a) (Builtin.unsafeAdd_ c t #[.pointer a,y]) (Builtin.unsafeAdd_ c t #[.pointer (a.map (cE Z)),bC Z y]):=by
 unfold Builtin.unsafeAdd_;dsimp only;refine aK (Q:=λa b=>b=a) (aK (qF y) (by rintro _ n rfl;exact aM rfl)) ?_;rintro _ n rfl;split;.cases a with
  |none=>exact aL rfl
  |some a=>refine aK (Hv a.block) ?_;rintro v _ rfl;cases v with
    |none=>exact aM ⟨S8,_,rfl⟩
    |some v=>exact aL rfl
 .split;.exact aL rfl
  .cases a with
   |none=>exact aL rfl
   |some a=>refine aK od ?_;rintro _ s rfl;cases s with
     |none=>exact aL rfl
     |some s=>
       refine iO ?_;simp[F.depth,F.cellsOf,EK F];split;.exact aM ⟨by simp[cE],_,rfl⟩
       .exact aL rfl
theorem ui(b t a y):SR p p' Z (VR Z) (Builtin.unsafeAdd_ b t #[.pointer a,y]) (Builtin.unsafeAdd_ b t #[.pointer (a.map (cE Z)),bC Z y]):=(ye F b t a y).mono λ_ _ h=>h.1
theorem Df(t a y):SR p p' Z (VR Z) (movedPointer t (.pointer a) y) (movedPointer t (.pointer (a.map (cE Z))) (bC Z y)):=by cases a with
 |none=>exact ui F #[] t none y
 |some a=>refine aK (Cw a.block) ?_;rintro v _ rfl;cases v with
   |none=>exact ui F #[] t (some a) y
   |some v=>exact aL rfl
theorem om(t a y):SR p p' Z (VR Z) (movedNumber t (.pointer a) y) (movedNumber t (.pointer (a.map (cE Z))) (bC Z y)):=by refine aK (aR F t) ?_;rintro _ d ⟨rfl,_⟩;refine eU (aL rfl) ?_;cases a with
 |none=>exact ui F #[] t none y
 |some a=>refine aK (gV a) ?_;rintro⟨b,l⟩ _ rfl;refine aK (ye F #[] t (some b) y) ?_;rintro v _ ⟨rfl,c,rfl⟩;cases c with
   |none=>rw[bK];exact aM (by simp[VR])
   |some c=>rw[bK];exact LI c l
include R
theorem zW(a b):SR p p' Z (λx c=>c=x) (Op.twoPlaces a b) (Op.twoPlaces (cE Z a) (cE Z b)):=by refine iO ?_;rw[F.none];simp;exact aL rfl
theorem O4(k a b):SR p p' Z (VR Z) (Op.addrSub k a b) (Op.addrSub k (cE Z a) (cE Z b)):=by refine aK (zW F R a b) ?_;rintro _ x rfl;exact aM (by simp[VR])
theorem O5(op a b):SR p p' Z (VR Z) (Op.addrCmp op a b) (Op.addrCmp op (cE Z a) (cE Z b)):=by refine aK (zW F R a b) ?_;rintro _ x rfl;cases op<;>first|exact aM (by simp[VR])|exact aL rfl
omit R in
theorem EL(k a n):SR p p' Z (VR Z) (Op.addrMod k a n) (Op.addrMod k (cE Z a) n):=by refine aK od ?_;rintro _ s rfl;cases s with
 |none=>exact aL rfl
 |some s=>
   refine aK (fX F s.1) ?_;rintro _ i ⟨rfl,_⟩;dsimp only;split;.exact aL rfl
   .refine aK (A7 F a) ?_;rintro _ x rfl;exact aM (by simp[VR])
theorem LN{n}(t x y)(h:u7 p n t=true):SR p p' Z (λx a=>a=x) (Op.equal t x y) (Op.equal t (bC Z x) (bC Z y)):=EJ F R _ n t x y h
theorem Hw{b}(t x y)(h:Tz p t b=true)(d:b=true->y=.nilIface):SR p p' Z (λx g=>g=x) (Op.equal t x y) (Op.equal t (bC Z x) (bC Z y)):=by
 unfold Tz at h;rw[QH,dP]at h;obtain h|⟨c,a⟩:=h;.exact LN F R t x y h
 have f:=d c;subst f;refine aK (aR F t) ?_;rintro _ u ⟨rfl,e⟩;rw[e]at a;cases u<;>first|(cases a;done)|skip
 cases x<;>first|exact aL rfl|(simp;exact aM rfl)
end
section
variable{G:Gs}{p p':Program}{Z:Pi}(F:Fit G p p')(R:Rn G Z)
include F R
omit F R in
theorem Rs(r Z t y):binOp .eql t (oI Z r) y=(do let e<-Op.equal t (oI Z r) y;pure (.bool e))/\binOp .neq t (oI Z r) y=(do let e<-Op.equal t (oI Z r) y;pure (.bool !e)):=by obtain h|⟨_,h⟩|⟨_,_,_,h⟩|⟨_,h⟩|⟨_,h⟩|⟨_,_,_,h⟩:=fT Z r<;>rw[h]<;>constructor<;>cases y<;>first|rfl|(rename_i b;cases b<;>rfl)
omit F R in
theorem Rt(r Z t x):binOp .eql t x (oI Z r)=(do let e<-Op.equal t x (oI Z r);pure (.bool e))/\binOp .neq t x (oI Z r)=(do let e<-Op.equal t x (oI Z r);pure (.bool !e)):=by obtain h|⟨_,h⟩|⟨_,_,_,h⟩|⟨_,h⟩|⟨_,h⟩|⟨_,_,_,h⟩:=fT Z r<;>rw[h]<;>constructor<;>cases x<;>first|rfl|(rename_i b;cases b<;>rfl)
omit F R in
theorem LO(r t y):binOp .eql t (.chan r) y=(do let e<-Op.equal t (.chan r) y;pure (.bool e))/\binOp .neq t (.chan r) y=(do let e<-Op.equal t (.chan r) y;pure (.bool !e)):=by trivial
omit F R in
theorem LP(r t x):binOp .eql t x (.chan r)=(do let e<-Op.equal t x (.chan r);pure (.bool e))/\binOp .neq t x (.chan r)=(do let e<-Op.equal t x (.chan r);pure (.bool !e)):=by constructor<;>cases x<;>first|rfl|(rename_i b;cases b<;>rfl)
theorem XR{j}(op t x y)(f:(match op with|.eql|.neq=>Tz p t j|_=>true)=true)(o:j=true->y=.nilIface):SR p p' Z (VR Z) (binOp op t x y) (binOp op t (bC Z x) (bC Z y)):=by
 have eql:Tz p t j=true->SR p p' Z (VR Z) (do let e<-Op.equal t x y;pure (.bool e)) (do let e<-Op.equal t (bC Z x) (bC Z y);pure (.bool e)):=λf=>by refine aK (Hw F R t x y f o) ?_;rintro _ e rfl;exact aM (by simp[VR])
 have neq:Tz p t j=true->SR p p' Z (VR Z) (do let e<-Op.equal t x y;pure (.bool !e)) (do let e<-Op.equal t (bC Z x) (bC Z y);pure (.bool !e)):=λf=>by refine aK (Hw F R t x y f o) ?_;rintro _ e rfl;exact aM (by simp[VR])
 by_cases g:∃r,x=.chan r;.obtain⟨r,rfl⟩:=g;rw[cO]at eql neq|-;cases op with
  |eql=>rw[(LO r t y).1,(Rs r Z t _).1];exact eql f
  |neq=>rw[(LO r t y).2,(Rs r Z t _).2];exact neq f
  |_=>cases y<;>first|exact aL rfl|(rename_i b;cases b<;>exact aL rfl)
 by_cases h:∃r,y=.chan r;.obtain⟨r,rfl⟩:=h;rw[cO]at eql neq|-;cases op with
  |eql=>rw[(LP r t x).1,(Rt r Z t _).1];exact eql f
  |neq=>rw[(LP r t x).2,(Rt r Z t _).2];exact neq f
  |_=>cases x<;>first|exact aL rfl|(rename_i b;cases b<;>exact aL rfl)
 cases x with
 |int k a=>cases y with
   |int k' b=>simp only[cU];unfold binOp;cases op<;>dsimp only<;>first
      |exact XL F R _ _ _ _ _
      |(refine eU (aL rfl) ?_;first|exact(yc _ _ _ _).val|exact TK F R _ _ _ _|exact(zU _ _ _ _).val|exact(LL _ _ _).val)
   |pointer b=>simp only[cU,bK]at eql neq|-;cases b with
     |none=>cases op<;>first|exact aL rfl|exact eql f|exact neq f|(have:=om F (Z:=Z) t none (.int k a);rw[cU]at this;exact this)
     |some b=>simp only[dM]at eql neq|-;cases op<;>first
        |exact aL rfl|exact eql f|exact neq f
        |(have:=om F (Z:=Z) t (some b) (.int k a);rw[cU]at this;exact this)
        |(refine aK (gV b) ?_;rintro x _ rfl;exact EL F _ _ _)
   |_=>first|exact absurd ⟨_,rfl⟩ h|exact absurd ⟨_,rfl⟩ g|(clear g h;simp only[cJ,cV,eK,cU,dH,cM,cD,bT,dY,cO,dR,cW,dK,dQ]at eql neq|-;cases op<;>first|exact aL rfl|exact eql f|exact neq f)
 |float k a=>cases y with
   |float k' b=>simp only[dH];unfold binOp;cases op<;>dsimp only<;>first
      |(refine eU (aL rfl) ?_;first|exact(u9 _ _ _ _).val|exact(ya _ _ _ _).val)
   |pointer b=>simp only[dH,bK]at eql neq|-;cases b<;>cases op<;>first|exact aL rfl|exact eql f|exact neq f
   |_=>first|exact absurd ⟨_,rfl⟩ h|exact absurd ⟨_,rfl⟩ g|(clear g h;simp only[cJ,cV,eK,cU,dH,cM,cD,bT,dY,cO,dR,cW,dK,dQ]at eql neq|-;cases op<;>first|exact aL rfl|exact eql f|exact neq f)
 |complex k a b=>cases y with
   |complex k' c d=>simp only[cM];unfold binOp;cases op<;>dsimp only<;>(refine eU (SR.lost rfl) ?_;exact(EH _ _ _ _ _ _).val)
   |pointer b=>simp only[cM,bK]at eql neq|-;cases b<;>cases op<;>first|exact aL rfl|exact eql f|exact neq f
   |_=>first|exact absurd ⟨_,rfl⟩ h|exact absurd ⟨_,rfl⟩ g|(clear g h;simp only[cJ,cV,eK,cU,dH,cM,cD,bT,dY,cO,dR,cW,dK,dQ]at eql neq|-;cases op<;>first|exact aL rfl|exact eql f|exact neq f)
 |string a=>cases y with
   |string b=>simp only[cD];unfold binOp;cases op<;>exact(sj _ _ _).val
   |pointer b=>simp only[cD,bK]at eql neq|-;cases b<;>cases op<;>first|exact aL rfl|exact eql f|exact neq f
   |_=>first|exact absurd ⟨_,rfl⟩ h|exact absurd ⟨_,rfl⟩ g|(clear g h;simp only[cJ,cV,eK,cU,dH,cM,cD,bT,dY,cO,dR,cW,dK,dQ]at eql neq|-;cases op<;>first|exact aL rfl|exact eql f|exact neq f)
 |pointer a=>simp only[bK]at eql neq|-;cases y with
   |int k n=>
     simp only[cU]at eql neq|-;have m:SR p p' Z (VR Z) (do if(<-underlying t) matches .unsafePointer then movedPointer t (.pointer a) (.int k n)else movedNumber t (.pointer a) (.int k n)) (do if(<-underlying t) matches .unsafePointer then movedPointer t (.pointer (a.map (cE Z))) (.int k n)else movedNumber t (.pointer (a.map (cE Z))) (.int k n)):=by refine aK (aR F t) ?_;rintro _ d ⟨rfl,_⟩;have l:=Df F (Z:=Z) t a (.int k n);have i:=om F (Z:=Z) t a (.int k n);rw[cU]at l i;exact eU l i
     have q:SR p p' Z (VR Z) (movedNumber t (.pointer a) (.int k (-n))) (movedNumber t (.pointer (a.map (cE Z))) (.int k (-n))):=by have i:=om F (Z:=Z) t a (.int k (-n));rwa [cU]at i
     cases a with
     |none=>cases op<;>first|exact aL rfl|exact eql f|exact neq f|exact m|exact q
     |some a=>cases op<;>first
        |exact aL rfl|exact eql f|exact neq f|exact m|exact q
        |(refine aK (gV a) ?_;rintro x _ rfl;exact EL F _ _ _)
   |pointer b=>simp only[bK]at eql neq|-;cases a with
     |none=>cases b<;>cases op<;>first|exact aL rfl|exact eql f|exact neq f
     |some a=>cases b with
       |none=>cases op<;>first|exact aL rfl|exact eql f|exact neq f
       |some b=>cases op<;>first
          |exact aL rfl|exact eql f|exact neq f
          |(refine aK (gV a) ?_;rintro x _ rfl;refine aK (gV b) ?_;rintro y _ rfl;first|exact O4 F R _ _ _|exact O5 F R _ _ _)
   |_=>first|exact absurd ⟨_,rfl⟩ h|exact absurd ⟨_,rfl⟩ g|(clear g h;simp only[cJ,cV,eK,cU,dH,cM,cD,bT,dY,cO,dR,cW,dK,dQ]at eql neq|-;cases a<;>cases op<;>first|exact aL rfl|exact eql f|exact neq f)
 |_=>cases y with
   |pointer b=>first|exact absurd ⟨_,rfl⟩ g|(clear g h;simp only[bK,cJ,cV,eK,cU,dH,cM,cD,bT,dY,cO,dR,cW,dK,dQ]at eql neq|-;cases b<;>cases op<;>first|exact aL rfl|exact eql f|exact neq f)
   |_=>first|exact absurd ⟨_,rfl⟩ h|exact absurd ⟨_,rfl⟩ g|(clear g h;simp only[cJ,cV,eK,cU,dH,cM,cD,bT,dY,cO,dR,cW,dK,dQ]at eql neq|-;cases op<;>first|exact aL rfl|exact eql f|exact neq f)
omit F R in
theorem Dg(s b k):jH Z (λv=>bC Z v=v) (Conv.floatToInt s b k):=by
 unfold Conv.floatToInt;split;.exact tA (.ret S8) (gU LK λ_ _=>.ret S8)
 .exact gU LK λ_ _=>.ret S8
omit F R in
theorem Bc(x:Value):SR p p' Z (VR Z) (Conv.bytesToString x) (Conv.bytesToString (bC Z x)):=by unfold Conv.bytesToString;cases x with
 |slice a l c=>cases a with
   |none=>rw[bT];exact aM (by simp[VR])
   |some a=>
     rw[bT,qi];refine aK (x7 a l l c λh _=>h) ?_;rintro vs _ rfl;refine aK (Q:=λa b=>b=a) ?_ ?_;.rw[<-QI,<-QI,sX];generalize vs.toList=l,ByteArray.empty=acc;induction l generalizing acc with
      |nil=>exact aM rfl
      |cons v l ih=>simp only[kY,List.forIn_cons];cases v with
        |int k n=>rw[cU];cases k<;>first|exact aL rfl|exact ih _
        |_=>exact aL rfl
     .rintro _ s rfl;exact aM (by simp[VR])
 |_=>exact aL rfl
omit F R in
theorem Be(a):SR p p' Z (λ_ _=>True) (markStringish a) (markStringish (cE Z a)):=by refine aK od ?_;rintro _ s rfl;cases s with
 |none=>exact aM trivial
 |some s=>exact Ht (a:={block:=a.block,off:=s.2})
omit F R in
theorem Bf(e s):SR p p' Z (VR Z) (Conv.stringToBytes e s) (Conv.stringToBytes e s):=by
 refine aK iJ ?_;rintro _ n rfl;refine aK (Q:=λa b=>b=cE Z a/\Z.gh a.block=none) ?_ ?_;.have:=qE (p:=p) (p':=p') (Z:=Z) e ((s.data.map λb=>.int .u8 b.toNat)++Array.replicate (n -s.size) (.int .u8 0));simpa[QJ]using this
 .rintro a _ ⟨rfl,c⟩;refine aK (Be a) ?_;intro _ _ _;exact aM (by simp[VR,fV c])
omit F R in
theorem Ru{d}(h:aej d=true):d=some (.int .u8):=by cases d with
 |none=>cases h
 |some d=>cases d<;>first|(cases h;done)|(rename_i k;cases k<;>first|(cases h;done)|rfl)
omit R in
theorem O6(s d x)(h:OL p s d=true):SR p p' Z (VR Z) (convert s d x) (convert s d (bC Z x)):=by refine aK (aR F s) ?_;rintro _ m ⟨rfl,j⟩;refine aK (aR F d) ?_;rintro _ g ⟨rfl,i⟩;simp[OL,j,i]at h;cases m with
 |int k=>cases g with
   |int k'=>cases x with
     |int a n=>rw[cU];exact aM (by simp[VR])
     |float a n=>rw[dH];exact(Dg _ _ _).val
     |pointer a=>cases a<;>exact aL rfl
     |_=>exact aL rfl
   |_=>cases h
 |string=>cases g with
   |string=>cases x with
     |int a n=>rw[cU];exact aM (by simp[VR])
     |string a=>rw[cD];exact aM (by simp[VR])
     |_=>exact aL rfl
   |slice e=>have f:=Ru h;cases x with
     |string a=>rw[cD];refine aK (aR F e) ?_;rintro _ u ⟨rfl,b⟩;rw[f]at b;cases b;exact Bf _ _
     |slice a _ _=>cases a<;>exact aL rfl
     |_=>exact aL rfl
   |_=>cases h
 |slice e=>cases g with
   |string=>have f:=Ru h;cases x with
     |int a n=>rw[cU];exact aM (by simp[VR])
     |string a=>rw[cD];exact aM (by simp[VR])
     |slice a l c=>rw[bT];refine aK (aR F e) ?_;rintro _ u ⟨rfl,b⟩;rw[f]at b;cases b;have:=Bc (p:=p) (p':=p') (Z:=Z) (.slice a l c);rwa [bT]at this
     |chan r=>rw[cO];obtain h|⟨_,h⟩|⟨_,_,_,h⟩|⟨_,h⟩|⟨_,h⟩|⟨_,_,_,h⟩:=fT Z r<;>rw[h]<;>(refine aK (aR F e) ?_;rintro _ u ⟨rfl,b⟩;rw[f]at b;cases b;exact aL rfl)
     |_=>simp;refine aK (aR F e) ?_;rintro _ u ⟨rfl,b⟩;rw[f]at b;cases b;exact aL rfl
   |_=>cases h
 |_=>cases h
omit R in
theorem aeo(a t args)(b:(a[0]?).all (okL p)=true):SR p p' Z (VR Z) (Builtin.len_ a t args) (Builtin.len_ a t (args.map (bC Z))):=by unfold Builtin.len_;rw[kZ];cases f:a[0]? with
 |none=>exact aL rfl
 |some t=>rw[f,QK]at b;cases args[0]? with
   |none=>exact aL rfl
   |some x=>refine aK (aR F t) ?_;rintro _ d ⟨rfl,c⟩;cases d with
     |string=>cases x<;>first|exact aL rfl|(rw[cD];exact aM (by simp[VR,goInt]))
     |array n e=>exact aM (by simp[VR,goInt])
     |pointer e=>refine aK (aR F e) ?_;rintro _ d ⟨rfl,_⟩;cases d<;>first|exact aL rfl|exact aM (by simp[VR,goInt])
     |slice e=>cases x<;>first|exact aL rfl|(rw[bT];exact aM (by simp[VR,goInt]))
     |map k e=>
       cases x<;>first|exact aL rfl|skip
       rename_i r;cases r with
       |none=>rw[dY];exact aM (by simp[VR,goInt])
       |some r=>rw[dY,dM];refine aK iI ?_;rintro o _ rfl;cases o<;>first|exact aL rfl|exact aM (by simp[VR,goInt])
     |chan k e=>simp[okL,c]at b
     |_=>exact aL rfl
end
section
variable{G:Gs}{p p':Program}{Z:Pi}(F:Fit G p p')(R:Rn G Z)
theorem tB{z:Array Value}(h:z.map (bC Z)=z)(n):((Array.range n).map (λi=>z[i%z.size]!)).map (bC Z)=(Array.range n).map (λi=>z[i%z.size]!):=by
 rw[Array.map_map];refine Array.map_congr_left λi _=>?_;simp;by_cases a:i%z.size<z.size;.grind
 .rw[getElem!_neg z _ a];exact(by simp:bC Z (.bool default)=.bool default)
include F
omit F in
theorem XS(x):SR p p' Z (λa b=>b=a.map (bC Z)) (asAgg x) (asAgg (bC Z x)):=by cases x with
 |agg cs=>rw[dK];exact aM rfl
 |_=>exact aL rfl
theorem XT(t x i):SR p p' Z (VR Z) (Instr.field t x i) (Instr.field t (bC Z x) i):=by refine aK (aR F t) ?_;rintro _ d ⟨rfl,_⟩;cases d with
 |struct a=>dsimp only;cases a[i]? with
   |none=>exact aL rfl
   |some f=>refine aK (XS x) ?_;rintro cs _ rfl;exact lC F _ _ _
 |_=>exact aL rfl
omit F in
theorem zX(place:Nat->Option (Nat×Nat)):∀(b:List (Nat×Value)) (cells:Array Value),Instr.fill place (cells.map (bC Z)) (b.map λ(i,v)=>(i,bC Z v))=(Instr.fill place cells b).map (·.map (bC Z))
 |[],cells=>rfl
 |(i,v)::rest,cells=>by simp only[kY,Instr.fill];cases place i with
   |none=>rfl
   |some os=>
     have⟨off,size⟩:=os;simp only[mC,Ks];split;.rfl
     .rw[<-zX place rest];congr 1;have:∀(l:List (Value×Nat)) (cs:Array Value),(l.map λx=>(bC Z x.1,x.2)).foldl (λcs (x:Value×Nat)=>cs.setIfInBounds (off+x.2) x.1) (cs.map (bC Z))=(l.foldl (λcs (x:Value×Nat)=>cs.setIfInBounds (off+x.2) x.1) cs).map (bC Z):=by intro l;induction l with
       |nil=>intro cs;rfl
       |cons x l c=>intro cs;simp;rw[<-c,Kr]
      have a:=this v.cells.zipIdx.toList cells;simp only[<-VS]at a|-;rw[<-a];congr 1;simp[List.zipIdx_map]
theorem XU{t:TypeId}(h:t<p.types.size)(c):SR p p' Z (VR Z) (Instr.build t c) (Instr.build t (c.map λ(i,x)=>(i,bC Z x))):=by
 refine aK (gI F h) ?_;rintro _ z ⟨rfl,j⟩;have k:z.cells.map (bC Z)=z.cells:=by rw[<-mC,j]
 refine aK (aR F t) ?_;rintro _ d ⟨rfl,_⟩;have key:∀(place:Nat->Option (Nat×Nat)) (msg:String),SR p p' Z (VR Z) (match Instr.fill place z.cells c.toList with|some cells=>pure (.agg cells)|_=>stuck msg) (match Instr.fill place z.cells (c.map λ(i,x)=>(i,bC Z x)).toList with|some cells=>pure (.agg cells)|_=>stuck msg):=λplace msg=>by have:=zX (Z:=Z) place c.toList z.cells;rw[k]at this;rw[sX,this];cases Instr.fill place z.cells c.toList with
  |none=>exact aL rfl
  |some cs=>exact aM (by simp[VR])
 cases d with
 |struct g=>
   refine aK (Q:=λa b=>b=a) ?_ ?_
   .have:∀l:Array Field,SR p p' Z (λa b=>b=a) (l.mapM λf=>do pure (f.offset,<-sizeOf f.type)) (l.mapM λf=>do pure (f.offset,<-sizeOf f.type)):=λl=>by rw[VT];refine Rm (Q:=λa b=>b=a) (f:=λ(l:List (Nat×Nat))=>Sem.pure l.toArray) (f':=λ(l:List (Nat×Nat))=>Sem.pure l.toArray) ?_ (by rintro _ l rfl;exact SR.pure rfl);induction l.toList with
     |nil=>simp;exact aM rfl
     |cons f l m=>rw[List.mapM_cons];refine aK (Q:=λa b=>b=a) (aK (eB F f.type) (by rintro _ n rfl;exact aM rfl)) ?_;rintro _ x rfl;refine aK m ?_;rintro _ y rfl;exact aM rfl
    exact this g
   .rintro _ places rfl;exact key _ _
 |array n e=>refine aK (eB F e) ?_;rintro _ n rfl;exact key _ _
 |_=>exact aL rfl
end
end Go.Ren
