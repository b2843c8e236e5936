import Derived.KernelRfl
import Derived.Below
import Derived.Tactics
import GoSem.Step
set_option linter.all false
set_option maxHeartbeats 2000000
namespace Go
instance:Coe Int Value:=⟨.int .i64⟩
instance:Coe Nat Value:=⟨λn=>.int .i64 n⟩
instance:Coe Unit Value:=⟨λ_=>.slice none 0 0⟩
instance:Coe Unit (List Value):=⟨λ_=>[.string ⟨#[]⟩,.int .i64 0,.int .i64 0,.string ⟨#[]⟩,.int .i64 0,.bool false]⟩
instance:Coe Unit (Array Value):=⟨λ_=>#[.string ⟨#[]⟩,.int .i64 0,.int .i64 0,.string ⟨#[]⟩,.int .i64 0,.bool false]⟩
instance:Coe ByteArray Value:=⟨.string⟩
instance{α:Type}:CoeOut (List α) Nat:=⟨List.length⟩
instance:Coe World Nat:=⟨λw=>w.heap.size⟩
instance:Coe Nat (Option Addr):=⟨λb=>some ⟨b,0,none⟩⟩
instance{b o:Nat}:CoeDep (Nat×Nat) (b,o) Addr:=⟨⟨b,o,none⟩⟩
instance{b o:Nat}:CoeDep (Nat×Nat) (b,o) (Option Addr):=⟨some ⟨b,o,none⟩⟩
instance:Coe Bool Value:=⟨.bool⟩
instance{b o:Nat}:CoeDep (Nat×Nat) (b,o) Value:=⟨.pointer<|some ⟨b,o,none⟩⟩
instance{a:Option Addr}{n c:Nat}:CoeDep (Option Addr×Nat×Nat) (a,n,c) Value:=⟨.slice a n c⟩
instance{a n c:Nat}:CoeDep (Nat×Nat×Nat) (a,n,c) Value:=⟨.slice (some ⟨a,0,none⟩) n c⟩
instance{α:Type}{a:Option Addr}{n:List α}{c:Nat}:CoeDep (Option Addr×List α×Nat) (a,n,c) Value:=⟨.slice a n.length c⟩
instance{α:Type}{a c:Nat}{n:List α}:CoeDep (Nat×List α×Nat) (a,n,c) Value:=⟨.slice (some ⟨a,0,none⟩) n.length c⟩
structure EJ(n:Nat)
instance:Coe (EJ 0) Value:=⟨λ_=>.int .i64 0⟩
instance:Coe (EJ 1) Value:=⟨λ_=>.string ⟨#[]⟩⟩
instance:Coe (EJ 2) Value:=⟨λ_=>.int .u64 0⟩
instance:Coe (EJ 3) Value:=⟨λ_=>.bool true⟩
instance:Coe (EJ 4) Value:=⟨λ_=>.bool false⟩
instance:Coe (EJ 5) Value:=⟨λ_=>.int .i64 1⟩
def aA:EJ 0:=⟨⟩
def aB:EJ 1:=⟨⟩
def aC:EJ 2:=⟨⟩
def aD:EJ 3:=⟨⟩
def aF:EJ 4:=⟨⟩
def aG:EJ 5:=⟨⟩
def O9{p:Prop}(h:p:=by omega):p:=h
def D9{p:Prop}(h:p:=by decide):p:=h
def K8{p:Prop}(h:p:=by kernel_rfl):p:=h
def S8{p:Prop}(h:p:=by simp):p:=h
def E9{p:Prop}(h:p:=by simp[Act.eval]):p:=h
def G9{p:Prop}(h:p:=by go_simp):p:=h
def Z9{p:Prop}(h:p:=by rw[World.size_alloc];omega):p:=h
def L9{n:Nat}:n≤n:=Nat.le_refl n
def B0{B:Nat}{w:World}:RowKit.Below B w w:=RowKit.Below.refl B w
def Ai{p q:Prop}(a:p)(b:q):p/\q:=⟨a,b⟩
abbrev So{w:World}{S:World->Prop}(_:∀W,RowKit.Below w w W->S W):=S
def Ba(w:World)(o):RowKit.Below w w (w.alloc o):=RowKit.Below.alloc B0 L9 o
def Calls.m1{P f a w v Q}{R:World->Prop}(h:Calls P f a w λe w'=>e=.returned v/\R w')(k:∀w',R w'->Q (.returned v) w'):Calls P f a w Q:=h.mono λ_ w' r=>r.1▸k w' r.2
def Calls.m0{P f a w v Q}(h:Calls P f a w λe w'=>e=.returned v/\w'=w)(k:Q (.returned v) w):Calls P f a w Q:=h.mono λ_ _ r=>r.1▸r.2▸k
def tL:Nat->(Nat->Value)->List Value->List Value
 |0,_,r=>r
 |n+1,t,r=>t 0::tL n (λi=>t<|i+1) r
def abv:∀{n}{l:List Value},n<=l.length->l=tL n (λi=>l[i]?.getD undef) (l.drop n)
 |0,l,_=>rfl
 |n+1,[],h=>by simp at h
 |n+1,a::l,h=>congrArg (a::·) (abv (n:=n)<|by simpa using h)
def ahi{T:Array Value}{n}(h:n+1<=T.size):∃v t r,T=(v::tL n t r).toArray:=⟨_,_,_,congrArg List.toArray<|abv (l:=T.toList) h⟩
def nA:=@List.mem_append
def ko:=@List.getElem?_append_left
def bK:=@List.getElem?_eq_some_iff
def tF:=@List.prefix_refl
def gJ:=@List.map_cons
def Z5:=@List.prefix_append
def zW:=@Array.ext_getElem?
def kW:=@Array.getElem?_map
def E8:=@Array.mem_of_getElem?
def fI:=@Nat.lt_of_lt_of_le
def Dm:=@Nat.lt_succ_self
def Z7:=@Go.World.cells?_some
def aY:=@List.getElem?_eq_getElem
def jO:=@List.mem_cons
def cH:=@Nat.zero_le
def Fa:=@List.mem_cons_of_mem
def cQ:=@List.length_cons
def Fb:=@Nat.mul_one
def zY:=@Go.DataW.trod_int
def gB:=@List.mem_map
def wB:=@List.mem_range
def dS:=@List.length_map
def pJ:=@Nat.eq_zero_or_pos
def qL:=@List.map_nil
def lW:=@List.eq_nil_of_length_eq_zero
def eD:=@Array.getElem?_eq_some_iff
def dP:=@List.append_assoc
def agT:=@of_decide_eq_true
def aJ:=@if_neg
def zZ:=@Option.bind_some
def nB:=@Option.getD_some
def Ud:=@Go.Sem.run_bind
def Ue:=@Array.mapM_eq_mapM_toList
def Fe:=@Go.Sem.runT_fst
def cA:=@Nat.le_trans
def pK:=@Nat.le_of_eq
def lX:=@decide_eq_false
def pM:=@decide_eq_true
def agU:=@Array.eq_empty_iff_forall_not_mem
def Z8:=@Nat.ne_of_gt
def I7:=@Array.getElem?_push_lt
def qs:=@Array.getElem?_eq_getElem
def Nf:=@Array.getElem?_push_size
def mU:=@Array.getElem?_setIfInBounds_ne
def Uf:=@Array.getElem?_setIfInBounds_self_of_lt
def gP:=@Ne.symm
def fx:=@Bool.and_eq_true
def Aa:=@beq_iff_eq
def Dn:=@List.all_eq_true
def Ac:=@Array.all_eq_true_iff_forall_mem
def jP:=@Go.IntKind.wrap_i64
def lB:=@Nat.lt_or_ge
def Ug:=@Nat.lt_trichotomy
def Uh:=@Nat.div_add_mod
def lC:=@Int.le_refl
def oq:=@Int.toNat_natCast
def wC:=@Go.run_make
def aaa:=@Array.getElem?_push
def Ui:=@Array.size_push
def Uj:=@Go.size_madeCells
def aab:=@Nat.lt_of_le_of_lt
def aac:=@Array.getElem?_append_left
def Ng:=@Nat.mod_eq_of_lt
def rK:=@Nat.sub_self
def yz:=@List.map_toArray
def I8:=@Array.getD_eq_getD_getElem?
def Uk:=@List.getElem?_toArray
def Ad:=@List.getElem?_cons_succ
def vG:=@List.getElem?_cons_zero
def I9:=@List.size_toArray
def pN:=@List.length_nil
def Nh:=@Array.getElem?_eq_none
def agV:=@Go.Input.okWide_of_okWideB
def iN:=@Option.some.inj
def vH:=@decide_eq_true_eq
def qu:=@Nat.not_lt_zero
def aad:=@List.mem_toArray
def tH:=@List.not_mem_nil
def tI:=@or_false
def Ul:=@Array.ext'
def Ni:=@Prod.ext
def Um:=@Classical.choose_spec
def Ja:=@Option.map_eq_some_iff
def dK:=@Option.map_some
def gV:=@Option.some.injEq
def agW:=@Array.getElem_setIfInBounds
def Ae:=@List.cons.injEq
def vI:=@and_true
def Un:=@Go.Addr.mk.injEq
def Af:=@true_and
def yA:=@Classical.byContradiction
def yB:=@if_true
def agX:=@Array.getElem?_append_right
def mi:=@Nat.le_refl
def tJ:=@Nat.add_zero
def aae:=@Array.mem_iff_getElem
def Nj:=@Array.getElem?_set_ne
def Nk:=@Nat.add_sub_cancel
def Ff:=@List.mem_filter
def Uo:=@List.filter_sublist
def agY:=@List.length_pos_of_mem
def Dp:=@List.getElem?_eq_none_iff
def eY:=@List.mem_of_getElem?
def Nl:=@List.length_filter_le
def wD:=@And.intro
def Uq:=@Go.Sem.run_bind'
def aN:=@if_pos
def Nn:=@Array.map_setIfInBounds
def Jb:=@Array.getElem?_toList
def Np:=@Bool.or_false
def Jc:=@Bool.or_eq_true
def vJ:=@if_false
def Jd:=@Array.getElem?_modify
def Ur:=@Nat.add_assoc
def Je:=@Array.size_map
def Us:=@Array.forIn_toList
def agZ:=@Std.Legacy.Range.forIn_eq_forIn_range'
def Fg:=@Option.map_none
def aaf:=@Bool.and_false
def tK:=@Bool.false_eq_true
def tM:=@Array.toList_map
def Ut:=@Function.comp_def
def Uu:=@Option.all_some
def aag:=@Array.foldl_toList
def Uv:=@Nat.zero_mul
def aah:=@Array.map_append
def nC:=@List.all_cons
def aai:=@Go.Next.round.injEq
def Ux:=@List.all_append
def vK:=@List.cons_append
def Dq:=@Int.lt_of_lt_of_le
def Fh:=@Int.ofNat_le
def wE:=@Prod.mk.injEq
def kq:=@List.map_append
def Uy:=@Nat.le_add_right
def yC:=@List.nil_append
def Ag:=@Option.bind_eq_some_iff
def Fi:=@Go.World.cell?_setCell_other
def ag0:=@Go.World.frozen?_setCell
def cR:=@Go.World.size_alloc
def Jf:=@List.getD_eq_getElem?_getD
def Ah:=@Nat.add_sub_cancel_left
def jQ:=@List.mem_iff_getElem?
def Dr:=@List.getElem?_drop
def Uz:=@Bool.eq_iff_iff
def pO:=@List.mem_singleton
def Nq:=@List.mem_of_mem_drop
def mV:=@Go.World.ownsRow_nil
def pP:=@Go.World.ownsRow.alloc
def nD:=@Go.World.ownsRow.lt
def cB:=@List.length_append
def Aj:=@Go.World.ownsRow.cells
def aaj:=@Go.wpList_plain
def ag1:=@Array.length_toList
def aak:=@List.nodup_nil
def cY:=@Go.bodyPost_ret
def cZ:=@List.getElem?_append_right
def Fj:=@Array.size_modify
def Ds:=@List.set_append_right
def wF:=@Go.heap_alloc_new
def UA:=@List.nodup_append
def Ak:=@Nat.le_of_lt
def rL:=@Int.eq_ofNat_of_zero_le
def dJ:=@List.length_take
def rM:=@List.length_drop
def rN:=@List.take_succ_eq_append_getElem
def Fl:=@List.take_take
def aal:=@Nat.min_self
def aam:=@not_true_eq_false
def UB:=@decide_eq_false_iff_not
def rO:=@Go.leaves_cons
def UC:=@Nat.add_comm
def Dt:=@List.length_reverse
def ot:=@List.getElem?_set_ne
def yD:=@List.flatMap_cons
def Nr:=@List.nodup_cons
def Fp:=@List.filter_cons_of_neg
def aan:=@List.filter_eq_self
def tN:=@List.mem_map_of_mem
def Jg:=@List.filter_cons_of_pos
def aao:=@Array.toList_filter
def pQ:=@List.map_map
def aap:=@List.any_eq_false
def aaq:=@UInt8.lt_iff_toNat_lt
def kX:=@List.ext_getElem?
def aar:=@getElem!_pos
def aas:=@List.getElem!_eq_getElem?_getD
def ag2:=@Array.getElem!_eq_getD
def kD:=@List.getElem?_eq_none
def mj:=@Nat.zero_add
def UD:=@Go.Value.slice.injEq
def Du:=@List.getElem?_take_of_lt
def UE:=@Nat.mul_le_mul_right
def eG:=@List.getElem?_map
def aat:=@List.pairwise_iff_getElem
def Ns:=@Go.results_none
def UF:=@List.pairwise_map
def ag3:=@List.perm_ext_iff_of_nodup
def UG:=@List.flatMap_append
def kY:=@List.append_nil
theorem gQ:type_of%@List.take_length:=@List.take_length
def Fq:=@Nat.lt_irrefl
def Jh:=@Nat.ne_of_lt
theorem pR:type_of%@List.take_append_drop:=@List.take_append_drop
def Nt:=@List.length_singleton
def ag4:=@List.dropLast_concat_getLast
def ag5:=@List.getLast_eq_getElem
def ag6:=@List.flatMap_singleton
def UH:=@List.flatMap_map
def UI:=@Int.toNat_of_nonneg
def Ji:=@List.flatMap_def
def oz:=@List.take_add_one
def mq:=@Go.results_tmp2
theorem aau:type_of%@List.take_succ_cons:=@List.take_succ_cons
def aav:=@List.take_append
def lD:=@Nat.min_eq_left
def Am:=@List.getElem?_mapIdx
def Nu:=@Int.emod_nonneg
def UJ:=@Int.emod_lt_of_pos
def Dv:=@List.take_of_length_le
def aaw:=@Bool.not_eq_true
def wG:=@Go.run_underlying
def UK:=@Int.le_of_lt
def UL:=@Int.pow_pos
def UM:=@ByteArray.ext
def oD:=@List.getElem_mem
def Dw:=@List.length_set
def ak0:=@Nat.mul_le_mul
def aax:=@Go.Sem.run_pure
def UN:=@Go.Result.andThen_ok
def ag7:=@ByteArray.append_assoc
def Ao:=@bind_congr
def UO:=@Int.not_lt
def Nv:=@List.append_toArray
def Nw:=@Go.MapKept.run_getObj_map
def aay:=@Go.MapKept.run_setObj_map
def ag8:=@List.eraseIdx_sublist
def Jj:=@Go.World.block_lt_of_cell?
def ag9:=@Int.tmod_eq_emod_of_nonneg
def UQ:=@Go.Value.agg.injEq
def UR:=@Array.mk.injEq
def UT:=@Go.Value.string.injEq
def UU:=@Go.Value.int.injEq
def UW:=@Go.Value.bool.injEq
def Jk:=@List.any_eq_true
def UX:=@List.mem_of_mem_take
theorem wH:type_of%@List.drop_eq_getElem_cons:=@List.drop_eq_getElem_cons
def Dx:=@List.drop_eq_nil_of_le
def Jl:=@List.mem_flatMap
def aaz:=@Go.run_storeCells_at
def Aq:=@List.getElem?_set_self
def ajh:=@List.find?_cons_of_neg
def Ny:=@Nat.pow_le_pow_right
def UY:=@Array.replicate_succ
def UZ:=@Array.replicate_zero
def U0:=@List.push_toArray
def U1:=@Int.natCast_nonneg
def aaA:=@List.getElem?_inj
def aaB:=@Go.World.grownBy_alloc
def U2:=@Nat.sub_zero
def U3:=@List.drop_length
def Jm:=@List.getElem?_reverse
def U4:=@List.map_reverse
def aaC:=@List.length_mapIdx
def aaD:=@Option.isSome_iff_exists
def Dy:=@List.findIdx?_eq_some_iff_getElem
def aaE:=@List.map_take
theorem U5:type_of%@List.getElem_cons_drop:=@List.getElem_cons_drop
def U6:=@List.findIdx?_eq_none_iff
def aaF:=@List.drop_append_of_le_length
def aaG:=@List.length_eraseIdx
def aha:=@Option.isNone_iff_eq_none
def ahb:=@Array.idxOf?_eq_none_iff
end Go
namespace Go.Ren
section
def I6:Value->Prop
 |.pointer (some _)|.slice (some _) _ _|.map (some _)|.chan (some _)|.func (.yield _) _ _=>True
 |_=>False
structure Pi where
 f:Nat->Nat
 s:Nat->Value
 leaf:∀k,I6 (s k)
 gh:Nat->Option Addr
instance:CoeFun Pi (λ_=>Nat→Nat):=⟨Pi.f⟩
structure Gs where
 s:Nat->Value
 leaf:∀k,I6 (s k)
 gh:Nat->Option Addr
 strict:Bool
 id:strict=true->(∀k,s k=.chan (some k))/\∀b,gh b=none
def Gs.self:Gs:=⟨λk=>.chan<|some k,λ_=>trivial,λ_=>none,true,λ_=>⟨λ_=>rfl,λ_=>rfl⟩⟩
def oQ(a:Pi):Option Nat->Value
 |none=>.chan none
 |some k=>a.s k
def cL(Z:Pi)(a:Addr):Addr:={a with block:=Z a.block}
def zX(b:Pi)(l c:Nat)(a:Addr):Addr:=if l=0/\c=0 then(b.gh a.block).getD (cL b a)else cL b a
def Rc(b:Pi)(a:Option Addr)(l c:Nat):Option Addr:=a.map<|zX b l c
def qF{Z l c a}(h:¬(l=0/\c=0)):zX Z l c a=cL Z a:=aJ h
def eZ{b l c a}(h:b.gh a.block=none):zX b l c a=cL b a:=by grind [zX]
def tG(a:Pi):Fn->Fn
 |.yield l=>.yield<|a l
 |f=>f
def aV(Z:Pi):Value->Value
 |.bool b=>b
 |.int k n=>.int k n
 |.float k b=>.float k b
 |.complex k a b=>.complex k a b
 |.string s=>.string s
 |.pointer a=>.pointer (a.map<|cL Z)
 |.slice a l c=>.slice (Rc Z a l c) l c
 |.map r=>.map<|r.map Z.f
 |.chan r=>oQ Z r
 |.func f a b=>.func (tG Z f) (a.map<|aV Z) (b.map<|aV Z)
 |.nilFunc=>.nilFunc
 |.iface t v=>.iface t<|aV Z v
 |.nilIface=>.nilIface
 |.agg C=>.agg (C.map<|aV Z)
 |.tuple V=>.tuple (V.map<|aV Z)
def FT(a:Pi):Target->Target
 |.fn f c=>.fn (tG a f) (c.map<|aV a)
 |.collected r=>.collected<|a r
 |.coroexit c=>.coroexit<|a c
 |t=>t
def mI(a:Pi)(d:Deferred):Deferred:={target:=FT a d.target,args:=d.args.map (aV a)}
def mz(a:Pi)(e:MapEntry):MapEntry:={e with key:=aV a e.key,val:=aV a e.val}
def XQ(a:Pi)(l:Loop):Loop:={l with tmps:=l.tmps.map<|aV a,defers:=a l.defers}
def iG(b:Pi):Obj->Obj
 |.cells c e f=>.cells (c.map<|aV b) e f
 |.pending c e=>.pending (c.map<|aV b) e
 |.view a t=>.view (cL b a) t
 |.number a l=>.number (cL b a) l
 |.map E c=>.map (E.map<|mz b) c
 |.chan C B g s r t=>.chan C (B.map<|aV b) g s r t
 |.stringIter s p=>.stringIter s p
 |.mapIter m s S i=>.mapIter (m.map b.f) s S i
 |.loop l=>.loop<|XQ b l
 |.deferred h=>.deferred (h.map (·.map<|mI b))
 |.coro p=>.coro p
 |.finalizers F r=>.finalizers (F.map λ(n,d)=>(n,mI b d)) r
def XR(b:Pi):Mark->Mark
 |.acquire a=>.acquire<|cL b a
 |.release a=>.release<|cL b a
 |.releaseMerge a=>.releaseMerge<|cL b a
 |.read a=>.read<|cL b a
 |.write a=>.write<|cL b a
 |m=>m
def abx(a:Pi):Halt->Halt
 |.panic v=>.panic<|aV a v
 |h=>h
def zh(b:Pi):Loc->Loc
 |.cell a=>.cell<|cL b a
 |.obj r=>.obj<|b r
 |.mark m=>.mark<|XR b m
 |l=>l
def Cm(a:Pi)(e:Event):Event:={e with loc:=zh a e.loc}
def oU:Nat->Value->Bool
 |0,_=>false
 |n+1,v=>match v with
   |.pointer a|.slice a _ _=>a.isNone
   |.map r|.chan r=>r.isNone
   |.func f a b=>(match f with|.yield _=>false|_=>true)&&a.all (oU n)&&b.all (oU n)
   |.iface _ v=>oU n v
   |.agg cs|.tuple cs=>cs.all<|oU n
   |_=>true
def LU(v:Value):Bool:=oU 5 v
def aia:Option TypeDesc->Bool
 |some (.int .u8)=>true
 |_=>false
def Rs(p:Program)(s d:TypeId):Bool:=match p.underlying s,p.underlying d with
 |some (.int _),some (.int _)=>true
 |some (.slice e),some .string=>aia<|p.underlying e
 |some .string,some (.slice e)=>aia<|p.underlying e
 |_,_=>false
def aib:Operand->Bool
 |.const .nilIface=>true
 |_=>false
section
variable(p:Program)
def Rt(t:TypeId):Bool:=decide (t<p.types.size)
def rU(_:Program):Operand->Bool
 |.const v=>LU v
 |.global _=>false
 |_=>true
def vO:Nat->TypeId->Bool
 |0,_=>false
 |n+1,t=>((p.info? t).all fun i=>match i.desc with|.named "sync.copyChecker" _=>false|_=>true)&&match p.underlying t with
   |some (.interface _)|some (.chan ..)=>false
   |some (.array _ e)=>vO n e
   |some (.struct F)=>F.all fun f=>vO n f.type
   |_=>true
def XS(t:TypeId)(n:Bool):Bool:=vO p 5 t||(n&&match p.underlying t with|some (.interface _)=>true|_=>false)
def AP(t:TypeId):Bool:=match p.underlying t with
 |some (.map k _)=>vO p 5 k
 |_=>true
def okL(t:TypeId):Bool:=match p.underlying t with
 |some (.chan ..)=>false
 |_=>true
def okB(t:Array TypeId):Builtin->Bool
 |.append|.clear=>(t[0]?).all<|Rt p
 |.delete=>(t[0]?).all<|AP p
 |.len|.cap=>(t[0]?).all<|okL p
 |.copy|.min|.panic|.recover|.unsafeString=>true
 |_=>false
def Ru(c:Call):Bool:=c.args.all (rU p)&&match c.callee with
  |.value f=>rU p f
  |.invoke ..=>false
  |.builtin b=>okB p c.argTypes b
def okD(d:Deferred):Bool:=match d.target with
 |.builtin b t _ _=>okB p t b
 |.coroexit _=>false
 |_=>true
def Od:Op->Bool
 |.move x|.assign x|.box _ x|.load _ x|.nilCheck x|.unOp _ _ x|.makeInterface _ x|.fieldAddr _ x _|.field _ x _|.range _ x|.entry x|.extract x _|.panic x=>rU p x
 |.pick a b c=>rU p a&&rU p b&&rU p c
 |.alloc t=>Rt p t
 |.build t P=>Rt p t&&P.all λ(_,x)=>rU p x
 |.buildSlice t _ P=>Rt p t&&P.all λ(_,x)=>rU p x
 |.store _ a b|.indexAddr _ a b|.index _ a b=>rU p a&&rU p b
 |.binOp o t a b _=>rU p a&&rU p b&&(match o with|.eql|.neq=>XS p t (aib b)|_=>true)
 |.next x false=>rU p x
 |.lookup t a b false=>Rt p t&&rU p a&&rU p b&&AP p t
 |.makeSlice t a b=>Rt p t&&rU p a&&rU p b
 |.convert s d x=>Rs p s d&&rU p x
 |.makeFunc f a b=>(match f with|.yield _=>false|_=>true)&&a.all (rU p)&&b.all (rU p)
 |.makeMap _ r=>r.all<|rU p
 |.slice _ x l h m=>rU p x&&l.all (rU p)&&h.all (rU p)&&m.all (rU p)
 |.mapUpdate t a b c=>rU p a&&rU p b&&rU p c&&AP p t
 |.typeAssert x _ t _=>Rt p t&&rU p x
 |.call c|.defer c=>Ru p c
 |_=>false
def yt(f:FuncId):Bool:=(p.inits.idxOf? f).isNone
def eA:Code->Bool
 |.region _ O _=>O.all λo=>Od p o.op
 |.seq a b=>eA a&&eA b
 |.cond c a b=>rU p c&&eA a&&eA b
 |.block _ b|.loop b=>eA b
 |.scope _|.goto _|.label _=>false
 |.rangeFunc f _ a b=>rU p f&&eA a&&eA b
 |_=>true
end
def dY(p:Program):Obj->Bool
 |.pending ..|.view ..=>false
 |.loop l=>eA p l.assign&&eA p l.body&&l.pending.all (eA p)&&yt p l.fn
 |.deferred c=>c.all (·.all<|okD p)
 |_=>true
def FU:Halt->Bool
 |.stuck _=>true
 |.unsupported (.initOrder _)=>false
 |.unsupported _=>true
 |_=>false
def okM:Mark->Bool
 |.disable|.enable=>false
 |_=>true
def Rv(e:Event):Bool:=match e.loc with
 |.mark m=>okM m
 |_=>true
def aby:Halt->Bool
 |.panic _|.throw _=>true
 |_=>false
def ajE{b c:Type}(p:Program)(f:b->Sem c):Result b×Array Event->Result c×Array Event
 |(.ok a w,e)=>(f a).runT p w e
 |(.halt h w,e)=>(.halt h w,e)
def oV{b c:Type}(p:Program)(s:Sem b)(f:b->Sem c):∀(w:World)(e:Array Event),(s>>=f).runT p w e=ajE p f (s.runT p w e):=by change ∀w e,(s.bind f).runT p w e=_;induction s with
 |pure a=>intro w e;rfl
 |halt h=>intro w e;rfl
 |store m a v k i=>intro w e;cases v<;>simp only[Sem.bind,Sem.runT]<;>(repeat' split)<;>first|rfl|exact i _ _
 |_=>
   rename_i i;intro w e;simp only[Sem.bind,Sem.runT];repeat' split
   all_goals first|rfl|exact i _ _ _|exact i _ _
def qM{a:Type}(p:Program)(s:Sem a):Prop:=∀w e,∃h W E,s.runT p w e=(.halt h W,E)/\FU h=true
def qM.bind{c d p s}{f:c->Sem d}(h:qM p s):qM p (s.bind f):=λw E=>have⟨x,W,a,e,b⟩:=h w E;⟨x,W,a,(oV p s f w E).trans (by rw[e];rfl),b⟩
def qM.then{k l p s}{f:k->Sem l}(h:∀a,qM p<|f a)(g:∀w E,∃a W b,s.runT p w E=(.ok a W,b)):qM p (s>>=f):=λw E=>have⟨a,W,b,e⟩:=g w E;have⟨x,j,d,c,i⟩:=h a W b;⟨x,j,d,by rw[oV,e];exact c,i⟩
section
variable(p p':Program)(Z:Pi)
inductive SR{α β:Type}(Q:α->β->Prop):Sem α->Sem β->Prop
 |pure {a:α} {b:β}:Q a b->SR Q (.pure a) (.pure b)
 |load {m:Mode} {a:Addr} {k:Value->Sem α} {k':Value->Sem β}:(∀v,SR Q (k v) (k'<|aV Z v))->SR Q (.load m a k) (.load m (cL Z a) k')
 |store {m:Mode} {a:Addr} {v:Value} {k:Sem α} {k':Sem β}:SR Q k k'->SR Q (.store m a v k) (.store m (cL Z a) (aV Z v) k')
 |new {o:Obj} {k:Nat->Sem α} {k':Nat->Sem β}:dY p o=true->(∀r,Z.gh r=none->SR Q (k r) (k'<|Z r))->SR Q (.new o k) (.new (iG Z o) k')
 |shape {r:Nat} {k:Option (TypeId×Nat)->Sem α} {k':Option (TypeId×Nat)->Sem β}:(∀s,SR Q (k s)<|k' s)->SR Q (.shape r k) (.shape (Z r) k')
 |freeze {a:Addr} {n:Nat} {k:Sem α} {k':Sem β}:SR Q k k'->SR Q (.freeze a n k) (.freeze (cL Z a) n k')
 |frozen {a:Addr} {k:Bool->Sem α} {k':Bool->Sem β}:(∀b,SR Q (k b)<|k' b)->SR Q (.frozen a k) (.frozen (cL Z a) k')
 |getObj {r:Nat} {k:Obj->Sem α} {k':Obj->Sem β}:(∀o,dY p o=true->SR Q (k o) (k'<|iG Z o))->SR Q (.getObj r k) (.getObj (Z r) k')
 |setObj {r:Nat} {o:Obj} {k:Sem α} {k':Sem β}:dY p o=true->SR Q k k'->SR Q (.setObj r o k) (.setObj (Z r) (iG Z o) k')
 |choose {q:Question} {k:Nat->Sem α} {k':Nat->Sem β}:(∀n,SR Q (k n)<|k' n)->SR Q (.choose q k) (.choose q k')
 |env {k:SysRet->Sem α} {k':SysRet->Sem β}:(∀r,SR Q (k r)<|k' r)->SR Q (.sys .env k) (.sys .env k')
 |program {k:Program->Sem α} {k':Program->Sem β}:SR Q (k p) (k' p')->SR Q (.program k) (.program k')
 |mark {m:Mark} {k:Sem α} {k':Sem β}:okM m=true->SR Q k k'->SR Q (.mark m k) (.mark (XR Z m) k')
 |halt {h:Halt}:aby h=true->SR Q (.halt h) (.halt<|abx Z h)
 |IE {s:Sem α} {s':Sem β}:qM p s->SR Q s s'
end
def SR.lost{a b p P c}{Q:a->b->Prop}{h s}(e:FU h=true):SR p P c Q (.halt h) s:=.IE λw E=>⟨h,w,E,rfl,e⟩
def aO:=@SR.lost
def SR.ahn{b c p P d}{Q:b->c->Prop}{k h s}(e:k p=.halt h)(a:FU h=true):SR p P d Q (.program k) s:=.IE λw E=>⟨h,w,E,by simp only[Sem.runT,e],a⟩
section
variable{p p':Program}{Z:Pi}{α β a b:Type}{Q:α→β→Prop}{d:a→b→Prop}
def SR.bind'{s S f f'}(h:SR p p' Z Q s S)(e:∀a b,Q a b->SR p p' Z d (f a) (f' b)):SR p p' Z d (s.bind f) (S.bind f'):=by induction h with
 |pure h=>exact e _ _ h
 |IE h=>exact .IE h.bind
 |_=>constructor<;>assumption
def Vo:=@SR.bind'
def SR.bind{s S f f'}(h:SR p p' Z Q s S)(c:∀a b,Q a b->SR p p' Z d (f a) (f' b)):SR p p' Z d (s>>=f) (S>>=f'):=Vo h c
def bH:=@SR.bind
def SR.bf{s S f F}{g:α→β}(h:SR p p' Z (λa b=>b=g a) s S)(k:∀a,SR p p' Z d (f a) (F<|g a)):SR p p' Z d (s>>=f) (S>>=F):=bH h λa _ e=>e▸k a
def aW:=@SR.bf
def SR.b2{s S f F}{g:α→β}{R:α→Prop}(h:SR p p' Z (λa b=>b=g a/\R a) s S)(k:∀a,R a->SR p p' Z d (f a) (F<|g a)):SR p p' Z d (s>>=f) (S>>=F):=bH h λa _⟨e,r⟩=>e▸k a r
def jx:=@SR.b2
def SR.ret{a b}(h:Q a b):SR p p' Z Q (Pure.pure a) (Pure.pure b):=SR.pure h
def aQ:=@SR.ret
def SR.mono{s S e}(h:SR p p' Z Q s S)(f:∀a b,Q a b->e a b):SR p p' Z e s S:=by induction h with
 |pure h=>exact .pure<|f _ _ h
 |IE h=>exact .IE h
 |_=>constructor<;>assumption
end
attribute [simp] aV
@[simp] theorem XT(a l c):Rc a none l c=none:=rfl
@[simp] theorem oK(b a l c):Rc b (some a) l c=some (zX b l c a):=rfl
@[simp] theorem FV(b a):(cL b a).block=b a.block:=rfl
@[simp] theorem ajF(b a):(cL b a).off=a.off:=rfl
@[simp] theorem ajf(b a):(cL b a).spot=a.spot:=rfl
@[simp] theorem AQ(a b o s):cL a ⟨b,o,s⟩=⟨a b,o,s⟩:=rfl
@[simp] theorem AR(b a n):cL b (a.add n)=(cL b a).add n:=by simp[Addr.add];split<;>rfl
@[simp] theorem ajg(a):oQ a none=.chan none:=rfl
theorem fU(d r):oQ d r=.chan none\/(∃a,oQ d r=.pointer (some a))\/(∃a l c,oQ d r=.slice (some a) l c)\/(∃m,oQ d r=.map (some m))\/(∃m,oQ d r=.chan (some m))\/∃l a b,oQ d r=.func (.yield l) a b:=by obtain _|k:=r;exact .inl rfl;have h:=d.leaf k;simp[oQ];revert h;fun_cases I6 (d.s k)<;>simp_all
@[simp] theorem Rw(a r):(oQ a r).cells=#[oQ a r]:=by obtain h|⟨_,h⟩|⟨_,_,_,h⟩|⟨_,h⟩|⟨_,h⟩|⟨_,_,_,h⟩:=fU a r<;>rw[h]<;>rfl
def FW(a r c):oQ a r≠.agg c:=by grind [fU a r]
def yK(a r):oQ a r≠.nilIface:=by grind [fU a r]
def Rx(a r c):oQ a r≠.tuple c:=by grind [fU a r]
@[simp] theorem lQ(Z v):(aV Z v).cells=v.cells.map (aV Z):=by cases v with
  |chan r=>rw[aV,Rw];simp[Value.cells]
  |_=>simp[Value.cells]
@[simp] theorem Cn(a):aV a undef=undef:=by simp[undef]
end
structure Rn(G:Gs)(Z:Pi):Prop where
 inj:∀a b,Z a=Z b->a=b
 sub:Z.s=G.s
 gh:Z.gh=G.gh
def Cp(a:Nat->Option Nat)(d:Pi):Prop:=∀b c,a b=some c->d b=c
structure fT(G:Gs)(μ:Nat->Option Nat)(m M:Nat):Prop where
 inj:∀a b c,μ a=some c->μ b=some c->a=b
 lt:∀b c,μ b=some c->b<m/\c<M
 real:∀b c,μ b=some c->G.gh b=none
 low:∀b,m<=b->G.gh b=none
def Ext(a d:Nat->Option Nat):Prop:=∀b c,a b=some c->d b=some c
def Ext.refl(a:Nat->Option Nat):Ext a a:=λ_ _ h=>h
def oG:=@Ext.refl
def Ext.trans{a b c}(h:Ext a b)(d:Ext b c):Ext a c:=λ_ _ x=>d _ _<|h _ _ x
def Cp.LW{a b d}(h:Ext a b)(c:Cp b d):Cp a d:=λ_ _ x=>c _ _<|h _ _ x
def gN(G:Gs)(b:Nat->Option Nat)(F:Pi->Prop):Prop:=∀a,Rn G a->Cp b a->F a
def gN.ext{G a b F}(h:gN G a F)(e:Ext a b):gN G b F:=λd r c=>h d r<|c.LW e
def Vq(a:Nat->Option Nat)(M K:Nat)(b:Nat):Nat:=(a b).getD<|M+K+b
def Oe(G:Gs)(a:Nat->Option Nat)(M K:Nat):Pi:=⟨Vq a M K,G.s,G.leaf,G.gh⟩
def AU{G m M f}(h:fT G f m M)(K):Rn G (Oe G f M K):=by refine⟨λa b e=>?_,rfl,rfl⟩;simp[Oe,Vq]at e;have:=h.lt;have:=h.inj;cases c:f a<;>cases d:f b<;>grind
def wN(G)(a:Nat->Option Nat)(M K):Cp a (Oe G a M K):=λb c h=>by simp[Oe,Vq,h]
def fT.one{G m M a}(h:fT G a m M):∃b,Rn G b/\Cp a b:=⟨_,AU h 0,wN G a M 0⟩
def fT.dom{G m M g}(h:fT G g m M){b x}(e:gN G g λi=>x=i b):g b=some x:=by cases a:g b with
 |some c=>rw[e _ (AU h 0)<|wN G g M 0,wN G g M 0 _ _ a]
 |none=>have d:=e _ (AU h 0)<|wN G g M 0;have f:=e _ (AU h 1)<|wN G g M 1;simp[Oe,Vq,a]at d f;omega
structure M5 where
 lim:Nat
 NI:Int
 tp:Nat->Question->Nat
abbrev QT(p:Program)(G:Gs)(a:Nat->Option Nat)(w W:World):Prop:=∀b c,a b=some c->∃o O,w.heap[b]?=some o/\W.heap[c]?=some O/\dY p o=true/\gN G a λd=>O=iG d o
structure WR(p:Program)(L:M5)(G:Gs)(μ:Nat->Option Nat)(w W:World):Prop where
 obj:QT p G μ w W
 tape:∀i q,w.drawn+i<L.lim->w.tape (w.drawn+i) q=W.tape (W.drawn+i) q
 os:W.os=w.os
 NI:(W.drawn:Int)=w.drawn+L.NI
 tp:w.tape=L.tp
structure WE(p:Program)(L:M5)(G:Gs)(μ:Nat->Option Nat)(w W:World):Prop where
 obj:QT p G μ w W
 os:W.os=w.os
 NI:G.strict=true->(W.drawn:Int)=w.drawn+L.NI
 tp:w.tape=L.tp
theorem WR.we{p L G a w W}(h:WR p L G a w W):WE p L G a w W:=⟨h.obj,h.os,λ_=>h.NI,h.tp⟩
structure Fr(μ μ':Nat->Option Nat)(W W':World):Prop where
 size:W.heap.size<=W'.heap.size
 rest:∀c,c<W.heap.size->(∀b,μ b≠some c)->W'.heap[c]?=W.heap[c]?
 new:∀c,W.heap.size<=c->c<W'.heap.size->∃b,μ' b=some c
 old:∀b c,μ' b=some c->c<W.heap.size->μ b=some c
 tape:W'.tape=W.tape
 output:W'.output=W.output
 dr:W.drawn<=W'.drawn
 os:W'.os=W.os
def Fr.refl(b:Nat->Option Nat)(W):Fr b b W W:=⟨L9,λ_ _ _=>rfl,λc h a=>by omega,λ_ _ h _=>h,rfl,rfl,L9,rfl⟩
def Jp:=@Fr.refl
def Fr.trans{n k l:Nat->Option Nat}{W w m:World}(e:Ext k l)(h:Fr n k W w)(H:Fr k l w m):Fr n l W m:=have⟨a,b,c,d,f,g,i,j⟩:=h;have⟨A,B,C,D,F,G,I,J⟩:=H;⟨by omega,by grind,λc o p=>by by_cases q:c<w.heap.size<;>grind [Ext],by grind,F.trans f,G.trans g,by omega,J.trans j⟩
def jg{a:Type}:Result a->World
 |.ok _ w|.halt _ w=>w
def Ry(L:M5)(w W:World):Prop:=(L.lim:Int)<w.drawn/\L.lim+L.NI<W.drawn
structure wz(G:Gs)(μ:Nat->Option Nat)(es ES:Array Event):Prop where
 all:gN G μ λZ=>ES=es.map (Cm Z)
 quiet:∀e∈es,Rv e=true
def wz.push{G k j i}(h:wz G k j i){e E}(b:gN G k λg=>E=Cm g e)(d:Rv e=true):wz G k (j.push e) (i.push E):=⟨λg r c=>by show i.push E=(j.push e).map (Cm g);rw[h.all g r c,b g r c,Array.map_push],λx f=>by obtain a|rfl:=Array.mem_push.1 f;exact h.quiet x a;exact d⟩
def aic{α β:Type}(R:(Nat->Option Nat)->World->World->Prop)(L:M5)(G:Gs)(f:Nat->Option Nat)(W:World)(Q:Pi->α->β->Prop)(r:Result α×Array Event)(e:Result β×Array Event):Prop:=match r with
 |(.ok a d,g)=>Ry L d (jg e.1)\/∃b w E c,e=(.ok b w,E)/\Ext f c/\fT G c d.heap.size w.heap.size/\R c d w/\Fr f c W w/\wz G c g E/\gN G c λi=>Q i a b
 |(.halt h d,g)=>Ry L d (jg e.1)\/FU h=true\/aby h=true/\∃H w E c,e=(.halt H w,E)/\Ext f c/\fT G c d.heap.size w.heap.size/\R c d w/\Fr f c W w/\wz G c g E/\gN G c λi=>H=abx i h
abbrev Out{α β:Type}(p:Program)(L:M5)(G:Gs):=aic (α:=α) (β:=β) (WR p L G) L G
abbrev od{α β:Type}(p:Program)(L:M5)(G:Gs):=aic (α:=α) (β:=β) (WE p L G) L G
theorem Out.we{p L b c G a W Q}{r:Result b×Array Event}{m:Result c×Array Event}(h:Out p L G a W Q r m):od p L G a W Q r m:=by have⟨r,n⟩:=r;cases r<;>grind [aic,WR.we]
def Out.weaken{p L y z G v q W W1 Q}{r:Result y×Array Event}{s:Result z×Array Event}(e:Ext v q)(f:Fr v q W W1)(h:Out p L G q W1 Q r s):Out p L G v W Q r s:=by
 match r with
 |(.ok a w,t)=>obtain n|⟨b,g,d,o,i,c,j,k,l,m⟩:=h;exact .inl n;exact .inr ⟨b,g,d,o,i,e.trans c,j,k,f.trans c l,m⟩
 |(.halt x w,t)=>obtain n|h|⟨u,b,g,d,o,i,c,j,k,l,m⟩:=h;exact .inl n;exact .inr<|.inl h;exact .inr<|.inr ⟨u,b,g,d,o,i,e.trans c,j,k,f.trans c l,m⟩
section inv
variable{p p':Program}{Z:Pi}{α β:Type}{Q:α→β→Prop}{s':Sem β}
end inv
def SRi(p P:Program)(d:Pi){e f:Type}(Q:e→f→Prop):Sem e->Sem f->Prop
 |.pure a,.pure b=>Q a b
 |.load m a k,.load n b K=>n=m/\b=cL d a/\∀v,SR p P d Q (k v) (K<|aV d v)
 |.store m a v k,.store n b u K=>n=m/\b=cL d a/\u=aV d v/\SR p P d Q k K
 |.new o k,.new b K=>b=iG d o/\dY p o=true/\∀r,d.gh r=none->SR p P d Q (k r) (K<|d r)
 |.shape r k,.shape b K=>b=d r/\∀v,SR p P d Q (k v) (K v)
 |.freeze a n k,.freeze b m K=>m=n/\b=cL d a/\SR p P d Q k K
 |.frozen a k,.frozen b K=>b=cL d a/\∀v,SR p P d Q (k v) (K v)
 |.getObj r k,.getObj b K=>b=d r/\∀v,dY p v=true->SR p P d Q (k v) (K<|iG d v)
 |.setObj r o k,.setObj b u K=>b=d r/\u=iG d o/\dY p o=true/\SR p P d Q k K
 |.choose q k,.choose b K=>b=q/\∀v,SR p P d Q (k v) (K v)
 |.program k,.program K=>SR p P d Q (k p)<|K P
 |.mark m k,.mark b K=>b=XR d m/\okM m=true/\SR p P d Q k K
 |.halt h,.halt b=>b=abx d h/\aby h=true
 |.sys c k,.sys b K=>c=.env/\b=.env/\∀v,SR p P d Q (k v) (K v)
 |_,_=>False
def SR.inv{p P a b c s S}{Q:b→c→Prop}(h:SR p P a Q s S):qM p s\/SRi p P a Q s S:=by cases h with
 |IE h=>exact .inl h
 |_=>right;simp_all[SRi]
def WR.cells{p L G m M q w W}(h:WR p L G q w W)(O:fT G q m M){b c}(e:q b=some c){cs t f}(k:w.heap[b]?=some (.cells cs t f)):∃a,W.heap[c]?=some (.cells a t f)/\gN G q λs=>a=cs.map (aV s):=by
 have⟨o,u,d,j,_,g⟩:=h.obj b c e;cases k▸d;have⟨s,r,C⟩:=O.one;have H:=g s r C;subst H;exact⟨_,j,λn l i=>by have:=g n l i;simpa only[iG,Obj.cells.injEq,and_self,vI]using this⟩
def zi{w:World}{a c t f}(h:w.heap[a.block]?=some (.cells c t f)):w.cell? a=if a.spot.isSome then none else c[a.off]?:=by simp[World.cell?,h]
def oW{p}{w:World}{a o b}(h:w.heap[a.block]?=some o)(c:dY p o=true):w.farLoad p a b=.error (.stuck "load: no such cell"):=by cases o<;>simp_all[World.farLoad,World.noCell,dY]
def Rz{p}{w:World}{a o v b}(h:w.heap[a.block]?=some o)(c:dY p o=true):w.farStore p a v b=.error (.stuck "store: no such cell"):=by cases o<;>simp_all[World.farStore,World.noCell,dY]
def Ci{w:World}{a o}(h:w.heap[a.block]?=some o)(b:∀c t f,o≠.cells c t f):w.cell? a=none:=by cases o<;>simp_all[World.cell?]
theorem WR.cell{p L G m M C w W}(h:WR p L G C w W)(O:fT G C m M){a c}(e:C a.block=some c){v}(b:w.cell? a=some v):∃j,W.cell? {a with block:=c}=some j/\gN G C λB=>j=aV B v:=by
 have⟨o,F,d,y,z,A⟩:=h.obj _ c e;cases o with
 |cells E t f=>have⟨u,n,K⟩:=h.cells O e d;rw[zi d]at b;rw[zi (a:={a with block:=c}) n];split at b;cases b;rename_i l;have⟨B,r,D⟩:=O.one;rw[aJ l];refine⟨aV B v,by rw[K B r D,kW,b];rfl,λs q k=>?_⟩;have g:=K B r D;rw[K s q k]at g;have i:=congrArg (λx:Array Value=>x[a.off]?) g;simp[b]at i;exact i.symm
 |_=>rw[Ci d<|by intros;simp]at b;cases b
def WR.frozen{p L G m M i w W}(h:WR p L G i w W)(O:fT G i m M){a c}(e:i a.block=some c):W.frozen? {a with block:=c}=w.frozen? a:=by have⟨o,k,b,d,g,f⟩:=h.obj _ c e;have⟨j,r,C⟩:=O.one;have H:=f j r C;subst H;cases o<;>simp[World.frozen?,b,d,iG]
def WR.shape{p L G m M i w W}(h:WR p L G i w W)(O:fT G i m M){b c}(e:i b=some c):W.shape? c=w.shape? b:=by have⟨o,k,a,d,g,f⟩:=h.obj _ c e;have⟨j,r,C⟩:=O.one;have H:=f j r C;subst H;cases o<;>simp[World.shape?,a,d,iG]
def WR.iV{p L G C w W}(h:WR p L G C w W)(O:fT G C w W){b c}(e:C b=some c)(f m)(A:dY p f=true)(z:gN G C λE=>m=iG E f){B W1}(y:B.heap=w.heap.set b f (O.lt _ _ e).1)(u:W1.heap=W.heap.set c m (O.lt _ _ e).2)(a:B.tape=w.tape/\B.drawn=w.drawn/\B.os=w.os)(d:W1.tape=W.tape/\W1.drawn=W.drawn/\W1.os=W.os):WR p L G C B W1:=by
 refine⟨λg j k=>?_,λi q H=>by rw[a.1,a.2.1,d.1,d.2.1];exact h.tape i q (by rw[a.2.1]at H;exact H),by rw[a.2.2,d.2.2];exact h.os,by rw[a.2.1,d.2.1];exact h.NI,a.1▸h.tp⟩;rw[y,u];by_cases l:g=b;simp_all;have v:j≠c:=λx=>l (O.inj _ _ _ k<|x▸e);have⟨o,D,n,r,s,t⟩:=h.obj g j k;exact⟨o,D,by rw[Nj _<|gP l];exact n,by rw[Nj _<|gP v];exact r,s,t⟩
def Fr.iV{G:Gs}{μ:Nat->Option Nat}{m:Nat}{W W1:World}(ok:fT G μ m W.heap.size){b c:Nat}(e:μ b=some c){o:Obj}(hW:W1.heap=W.heap.set c o (ok.lt _ _ e).2)(t:W1.tape=W.tape)(ou:W1.output=W.output)(dr:W1.drawn=W.drawn)(os:W1.os=W.os):Fr μ μ W W1 where
 dr:=pK dr.symm;os:=os;size:=by rw[hW];simp
 rest:=λc' _ hn=>by rw[hW,Nj _ λx=>hn b<|by rw[e,x]]
 new:=λc' h1 h2=>by rw[hW]at h2;simp at h2;omega
 old:=λ_ _ h _=>h;tape:=t;output:=ou
def jF{w:World}{a v C t f}(h:w.heap[a.block]?=some (.cells C t f))(b:a.block<↑w)(c:a.spot=none):(w.setCell a v).heap=w.heap.set a.block (.cells (C.setIfInBounds a.off v) t f) b:=by
 apply zW;simp[World.setCell,Jd];grind
def DL{w:World}{a n C t l H}(h:w.heap[a.block]?=some (.cells C t (l,H)))(b:a.block<↑w)(c:n≠0):(w.freeze a n).heap=w.heap.set a.block (.cells C t<|if l==H then(a.off,a.off+n)else(min l a.off,max H<|a.off+n)) b:=by
 apply zW;simp[World.freeze,aJ c,Jd];grind
def DN{w:World}{a n o}(h:w.heap[a.block]?=some o)(c:∀C t f,o≠.cells C t f):(w.freeze a n).heap=w.heap:=by apply zW;unfold World.freeze;split;simp;simp[Jd];grind
def FX{c p m a v}{k:Sem c}{w es}:(∃h,(Sem.store m a v k).runT p w es=(.halt (.stuck h) w,es))\/(Sem.store m a v k).runT p w es=(match w.cell? a with
     |some _=>if w.frozen? a then(.halt (.unsupported<|.unsafePointer "a write to bytes that a string shares") w,es)else k.runT p (w.setCell a v) (es.push ⟨.cell a,true,m==.atomic⟩)
     |none=>match w.farStore p a v (m==.atomic)with
       |.ok (w,b)=>k.runT p w (es++b.toArray.map (⟨.cell ·,true,m==.atomic⟩))
       |.error h=>(.halt h w,es)):=by
 cases v<;>first|exact .inr rfl|exact .inl ⟨_,rfl⟩
def DR{f p m a v}{k:Sem f}{w e}(b:∀c,v≠.agg c/\v≠.tuple c):(Sem.store m a v k).runT p w e=(match w.cell? a with
   |some _=>if w.frozen? a then(.halt (.unsupported<|.unsafePointer "a write to bytes that a string shares") w,e)else k.runT p (w.setCell a v) (e.push ⟨.cell a,true,m==.atomic⟩)
   |none=>match w.farStore p a v (m==.atomic)with
     |.ok (w,d)=>k.runT p w (e++d.toArray.map (⟨.cell ·,true,m==.atomic⟩))
     |.error h=>(.halt h w,e)):=by
 cases v<;>first|rfl|exact absurd rfl (b _).1|exact absurd rfl (b _).2
def tU{G m M e}(o:fT G e m M){a a'}(h:gN G e λd=>a'=cL d a):∃c,e a.block=some c/\a'={a with block:=c}:=by
 have b:gN G e λd=>a'.block=d a.block:=λd r c=>by rw[h d r c];rfl
 refine⟨a'.block,o.dom b,?_⟩;have⟨d,r,c⟩:=o.one;rw[h d r c];rfl
def XU{b:Type}(A:Ask b):∀w:World,w.drawn<=(w.ask A).2.drawn:=by induction A with
 |done a=>intro w;exact mi _
 |ask W range k i=>intro w;simp[World.ask];split;exact i 0 w;exact cA (Nat.le_succ _)<|i _ {w with drawn:=w.drawn+1}
def XV(c)(w:World):w.drawn<=(w.sys c).2.drawn:=by have h:=XU (Kernel.perform c w.os) w;unfold World.sys;revert h;generalize w.ask (Kernel.perform c w.os)=x;have⟨⟨r,o⟩,W⟩:=x;intro h;cases r<;>first|exact L9|exact h
def ae9(w:World):(w.sys .env).2=w:=rfl
theorem Ex{p}{w W:World}{a k u v b l}(h:w.viewStore p a u k v b=.ok (W,l)):W.drawn=w.drawn:=by
 simp[World.viewStore,bind,Except.bind]at h;repeat' split at h
 all_goals first|(cases h;done)|(cases h;rfl)
def qN{f p}(s:Sem f):∀w E,w.drawn<=(jg (s.runT p w E).1).drawn:=by induction s with
 |store m a v k b=>
   intro w E;rcases FX (p:=p) (m:=m) (a:=a) (v:=v) (k:=k) (w:=w) (es:=E)with⟨h,e⟩|e<;>rw[e];exact L9;repeat' split
   any_goals exact L9
   exact b (w.setCell a v) _;rename_i W t h;have d:W.drawn=w.drawn:=by unfold World.farStore at h;grind [Ex]
   exact d▸b W _
 |freeze a n k b=>
   intro w E;have:(w.freeze a n).drawn=w.drawn:=by unfold World.freeze;split<;>rfl
   exact this▸b (w.freeze a n) E
 |sys c k b=>intro w E;exact cA (XV c w)<|b _ (w.sys c).2 _
 |_=>intro w E;simp only[Sem.runT];(repeat' split)<;>first|exact L9|grind
def Out.EM{b c p L G d W Q}{r:Result b×Array Event}{a:Result c×Array Event}(h:Ry L (jg r.1) (jg a.1)):Out p L G d W Q r a:=by have⟨r,e⟩:=r;cases r<;>exact .inl h
def Out.IE{d f p L G g w W E Q}{s:Sem d}{b:Result f×Array Event}(h:qM p s):Out p L G g W Q (s.runT p w E) b:=by have⟨x,i,c,e,a⟩:=h w E;rw[e];exact .inr<|.inl a
def rV{an ap p X L G ac}(ae:Sem an):∀(s':Sem ap)(s:Nat->Option Nat)(w W:World)(π P:Array Event),fT G s w W->WR p L G s w W->wz G s π P->(gN G s λz=>SR p X z (ac z) ae s')->Out p L G s W ac (ae.runT p w π) (s'.runT X W P):=by
 induction ae<;>intro s' s w W π P l q C y<;>refine(Classical.em<|qM p _).elim Out.IE λam=>?_<;>have⟨z,r,c⟩:=l.one<;>replace y:=λd j g=>(y d j g).inv.resolve_left am<;>cases s'<;>try exact(y z r c).elim
 case pure.pure a b=>exact .inr ⟨b,W,P,s,rfl,oG _,l,q,Jp _ _,C,y⟩
 case load.load m a k D n b K=>obtain⟨x,B,rfl⟩:=tU l λd j g=>(y d j g).2.1;obtain rfl:=(y z r c).1;simp only[Sem.runT];cases T:w.cell? a with
  |none=>have⟨o,o',A,H,O,M⟩:=q.obj _ _ B;rw[oW A O];exact .inr<|.inl rfl
  |some v=>have⟨u,i,h⟩:=q.cell l B T;rw[i];exact D v (K u) s w W _ _ l q (C.push (λd j g=>by rw[(y d j g).2.1];rfl) rfl) λd j g=>h d j g▸(y d j g).2.2 v
 case store.store m a v k D n b u K=>
  obtain⟨x,B,rfl⟩:=tU l λd j g=>(y d j g).2.1;obtain rfl:=(y z r c).1;by_cases ah:∀c,v≠.agg c/\v≠.tuple c;have a4:∀c,u≠.agg c/\u≠.tuple c:=λh=>by rw[(y z r c).2.2.1];cases v with
   |chan r=>rw[aV];exact⟨FW z r h,Rx z r h⟩
   |_=>simp_all
  rw[DR ah,DR a4];have⟨o,o',A,H,O,M⟩:=q.obj _ _ B;cases T:w.cell? a with
  |none=>simp only[Rz A O];exact .inr<|.inl rfl
  |some v0=>have⟨au,ai,ao⟩:=q.cell l B T;simp only[ai,q.frozen l B];split;exact .inr<|.inl rfl;cases o with
    |cells Q t f=>
      have⟨av,aj,k2⟩:=q.cells l B A;have ar:a.spot=none:=by rw[zi A]at T;split at T<;>simp_all
      have J:=jF (v:=v) A (l.lt _ _ B).1 ar;have F:=jF (a:={a with block:=x}) (v:=u) aj (l.lt _ _ B).2 ar;exact(D K s _ _ _ _ (by rw[J,F];simpa using l) (q.iV l B _ _ rfl (λd j g=>by simp only[iG];rw[k2 d j g,(y d j g).2.2.1,Nn]) J F ⟨rfl,rfl,rfl⟩ ⟨rfl,rfl,rfl⟩) (C.push (λd j g=>by rw[(y d j g).2.1];rfl) rfl) λd j g=>(y d j g).2.2.2).weaken (oG _)<|Fr.iV l B F rfl rfl rfl rfl
    |_=>rw[Ci A<|by intros;simp]at T;cases T
  cases v<;>first|exact .inr (.inl rfl)|exact absurd (λc=>⟨S8,S8⟩) ah
 case new.new o k D b K=>
  have⟨U,hU⟩:∃U:Nat->Option Nat,∀b,U b=if b=(w:Nat)then some (W:Nat)else s b:=⟨_,λ_=>rfl⟩;have⟨lt,aw,re,lo⟩:=wD l.lt (wD l.inj<|wD l.real l.low);have al:U (w:Nat)=some ↑W:=by simp[hU]
  have R:Ext s U:=λb c h=>by grind
  simp only[Sem.runT];refine(D ↑w (K ↑W) U _ _ _ _ (?_:fT G U (w.heap.push o).size (W.heap.push b).size) (?_:WR p L G U {w with heap:=w.heap.push o} {W with heap:=W.heap.push b}) ⟨C.all.ext R,C.quiet⟩ λd j g=>?_).weaken R ?_;constructor<;>grind;refine⟨λa e aq=>?_,q.tape,q.os,q.NI,q.tp⟩;by_cases A:a=(w:Nat);exact⟨o,b,by simp[A],by grind,(y z r c).2.1,λd j g=>(y d j<|g.LW R).1⟩;have⟨a5,a6,H,O,M,az⟩:=q.obj a e (by grind);exact⟨a5,a6,by grind,by grind,M,az.ext R⟩;have:=(y d j<|g.LW R).2.2 ↑w<|j.gh▸l.low _ L9;rwa [g _ _ al]at this;exact⟨S8,by grind,λc A H=>⟨(w:Nat),by grind⟩,by grind,rfl,rfl,L9,rfl⟩
 case shape.shape E k D b K=>simp only[Sem.runT,q.shape l<|l.dom λd j g=>(y d j g).1];exact D _ _ s w W _ _ l q C λd j g=>(y d j g).2 _
 case freeze.freeze a n k D b m K=>
  obtain⟨x,B,rfl⟩:=tU l λd j g=>(y d j g).2.1;obtain rfl:=(y z r c).1;simp only[Sem.runT];have ad:gN G s λd=>SR p X d (ac d) k K:=λd j g=>(y d j g).2.2;by_cases Y:m=0;subst Y;have ag:∀(w:World)(a:Addr),w.freeze a 0=w:=λw a=>by simp[World.freeze]
  rw[ag,ag];exact D _ s w W _ _ l q C ad;have⟨o,o',A,H,O,M⟩:=q.obj _ _ B;have N:∀(w:World)(a:Addr),((w.freeze a m).tape=w.tape/\(w.freeze a m).drawn=w.drawn/\(w.freeze a m).os=w.os)/\(w.freeze a m).output=w.output:=λw a=>by simp[World.freeze,Y]
  by_cases ak:∃Q t f,o=.cells Q t f;obtain⟨Q,t,⟨lo,V⟩,rfl⟩:=ak;have⟨av,aj,k2⟩:=q.cells l B A;have J:=DL (n:=m) A (l.lt _ _ B).1 Y;have F:=DL (a:={a with block:=x}) (n:=m) aj (l.lt _ _ B).2 Y;exact(D K s _ _ _ _ (by rw[J,F];simpa using l) (q.iV l B _ _ rfl (λd j g=>by simp only[iG];rw[k2 d j g]) J F (N _ _).1 (N _ _).1) C ad).weaken (oG _)<|Fr.iV l B F (N _ _).1.1 (N _ _).2 (N _ _).1.2.1 (N _ _).1.2.2;have J:=DN (n:=m) A λQ t f e=>ak ⟨Q,t,f,e⟩;have F:=DN (w:=W) (a:={a with block:=x}) (n:=m) H λQ t f e=>by have:=M z r c;rw[e]at this;cases o<;>simp_all[iG]
  have⟨⟨q1,q2,q3⟩,q4⟩:=N w a;have⟨⟨v1,v2,v3⟩,v4⟩:=N W {a with block:=x};exact(D K s _ _ _ _ (by rw[J,F];exact l) ⟨by unfold QT;rw[J,F];exact q.obj,by rw[q1,q2,v1,v2];exact q.tape,by rw[q3,v3];exact q.os,by rw[q2,v2];exact q.NI,q1▸q.tp⟩ C ad).weaken (Ext.refl _) ⟨F▸L9,λc _ _=>by rw[F],λc A H=>by rw[F]at H;omega,λ_ _ h _=>h,v1,v4,Nat.le_of_eq v2.symm,v3⟩
 case frozen.frozen a k D b K=>obtain⟨x,B,rfl⟩:=tU l λd j g=>(y d j g).1;simp only[Sem.runT,q.frozen l B];exact D _ _ s w W _ _ l q C λd j g=>(y d j g).2 _
 case getObj.getObj E k D b K=>
  have⟨o,o',A,H,O,M⟩:=q.obj _ _<|l.dom λd j g=>(y d j g).1;obtain rfl:=M z r c;have V:(iG z o).isChan=o.isChan:=by cases o<;>rfl
  have:=D _ _ s w W _ _ l q (C.push (e:=⟨.obj E,false,o.isChan⟩) (E:=⟨.obj b,false,o.isChan⟩) (λd j g=>by rw[(y d j g).1];rfl) rfl) λd j g=>M d j g▸(y d j g).2 o O;cases o<;>simp only[Sem.runT,A,H,iG]<;>first|exact .inr (.inl rfl)|simpa only[iG,Obj.isChan]using this
 case setObj.setObj E I k D b u K=>
  have B:=l.dom λd j g=>(y d j g).1;have⟨o,o',A,H,O,M⟩:=q.obj _ _ B;obtain rfl:=M z r c;have V:u.isChan=I.isChan:=by rw[(y z r c).2.1];cases I<;>rfl
  have S:=l.lt _ _ B;have J:w.heap.setIfInBounds E I=w.heap.set E I S.1:=by simp[Array.setIfInBounds,S.1]
  have F:W.heap.setIfInBounds b u=W.heap.set b u S.2:=by simp[Array.setIfInBounds,S.2]
  cases o<;>simp only[Sem.runT,A,H,iG]<;>first|exact .inr (.inl rfl)|exact((D K s {w with heap:=w.heap.setIfInBounds E I} {W with heap:=W.heap.setIfInBounds b u} _ _ (by simpa using l) (q.iV l B _ _ (y z r c).2.2.1 (λd j g=>(y d j g).2.1) J F ⟨rfl,rfl,rfl⟩ ⟨rfl,rfl,rfl⟩) (C.push (e:=⟨.obj E,true,I.isChan⟩) (E:=⟨.obj b,true,u.isChan⟩) (λd j g=>by rw[V,(y d j g).1];rfl) rfl) λd j g=>(y d j g).2.2.2).weaken (oG _)<|Fr.iV (W1:={W with heap:=W.heap.setIfInBounds b u}) l B F rfl rfl rfl rfl)
 case choose.choose af k D b K=>obtain rfl:=(y z r c).1;simp only[Sem.runT];split;exact D _ _ s w W _ _ l q C λd j g=>(y d j g).2 _;by_cases a0:w.drawn<L.lim;have h0:=q.tape 0 b a0;simp only[tJ]at h0;rw[h0];refine Out.weaken (oG _) (by constructor<;>grind:Fr s s W {W with drawn:=W.drawn+1})<|D _ _ s {w with drawn:=w.drawn+1} {W with drawn:=W.drawn+1} _ _ l ⟨q.obj,λi af V=>?_,q.os,by have:=q.NI;simp only[Int.natCast_add];omega,q.tp⟩ C λd j g=>(y d j g).2 _;have:=q.tape (1+i) af (by simp only at V;omega);simpa[Ur]using this;have i:=qN (p:=p) (k (b.cut<|w.tape w.drawn b)) {w with drawn:=w.drawn+1} π;have h:=qN (p:=X) (K (b.cut<|W.tape W.drawn b)) {W with drawn:=W.drawn+1} P;have:=q.NI;simp only at i h;exact Out.EM ⟨by omega,by omega⟩
 case sys.sys cl k D b K=>
  obtain⟨rfl,rfl,-⟩:=y z r c;have A:(W.sys .env).1=(w.sys .env).1:=by have:=q.os;have⟨aa,N,dr,os,bc⟩:=W;simp only at this;subst this;rfl
  simp only[Sem.runT,ae9,A];exact D _ _ s w W _ _ l q (C.push (λd j g=>rfl) rfl) λd j g=>(y d j g).2.2 _
 case program.program k D K=>exact D _ (K X) s w W _ _ l q C y
 case mark.mark m k D b K=>simp only[Sem.runT];exact D _ s w W _ _ l q (C.push (λd j g=>by rw[(y d j g).1];rfl) (y z r c).2.1) λd j g=>(y d j g).2.2
 case halt.halt h b=>exact .inr<|.inr ⟨(y z r c).2,b,W,P,s,rfl,oG _,l,q,Jp _ _,C,λd j g=>(y d j g).1⟩
def jD(L:List Value):Prop:=∀v∈L,I6 v
def jD.push{L}(h:jD L){v}(c:I6 v):jD (L++[v]):=λx b=>by obtain a|a:=nA.1 b;exact h x a;simp_all
def Sy1(L:List Value)(a:Pi):Prop:=∀k x,L[k]?=some x->a.s k=x
def Ub{b:Type}{L a}(h:L<+:a){k:Nat}{x:b}(e:L[k]?=some x):a[k]?=some x:=by obtain⟨t,rfl⟩:=h;rw[ko (bK.1 e).1];exact e
def Sy1.mono{L a c}(h:Sy1 a c)(e:L<+:a):Sy1 L c:=λk x b=>h k x<|Ub e b
structure Ab (L : List Value) (v v' : Value) : Prop where
 to : ∀Z, Sy1 L Z -> aV Z v' = v
 fix : ∀ Z : Pi, Z.s = Gs.self.s -> aV Z v' = v'
def Ab.mono{L a v b}(h:Ab L v b)(e:L<+:a):Ab a v b:=⟨λd c=>h.to d<|c.mono e,h.fix⟩
def Ab.leaf{L v}:Ab (L++[v]) v (.chan<|some L.length):=by refine⟨λa h=>?_,λa h=>?_⟩;rw[aV];exact h L v S8;rw[aV];show a.s L=_;rw[h];rfl
def Z3(v:Value):Prop:=∀L,jD L->∃l V,L<+:l/\jD l/\Ab l v V
def Na:∀c,(∀v∈c,Z3 v)->∀L,jD L->∃(d b:List Value),L<+:d/\jD d/\(∀m,Sy1 d m->b.map (aV m)=c)/\∀m,m.s=Gs.self.s->b.map (aV m)=b
 |[],_,L,e=>⟨L,[],tF _,e,λ_ _=>rfl,λ_ _=>rfl⟩
 |v::c,h,L,e=>have⟨n,l,k,o,f⟩:=h v S8 L e;have⟨i,b,g,p,t,f2⟩:=Na c (λx j=>h x<|by simp[j]) n o;⟨i,l::b,k.trans g,p,λm a=>by rw[gJ,t m a,(f.mono g).to m a],λm a=>by rw[gJ,f2 m a,f.fix m a]⟩
def Xl(b)(h:∀v∈b,Z3 v)(L)(d:jD L):∃(a:List Value)(c:Array Value),L<+:a/\jD a/\(∀j,Sy1 a j->c.map (aV j)=b)/\∀j,j.s=Gs.self.s->c.map (aV j)=c:=by have⟨a,l,p,e,t,f⟩:=Na b.toList (λv i=>h v<|by simpa using i) L d;refine⟨a,l.toArray,p,e,λj g=>?_,λj g=>?_⟩;simp_all;simp_all
def Z4{v}(h:∀b,aV b v=v):Z3 v:=λL a=>⟨L,v,tF _,a,⟨λb _=>h b,λb _=>h b⟩⟩
def Nb{v}(h:I6 v):Z3 v:=λL a=>⟨L++[v],_,Z5 _ _,a.push h,Ab.leaf⟩
def Uc:∀n v,SizeOf.sizeOf v<n->Z3 v
 |0,_,h=>by omega
 |n+1,v,h=>by
   have o:=Uc n;have q:=λC(d:SizeOf.sizeOf C<n)=>Xl C λv g=>o v (by have:=Array.sizeOf_lt_of_mem g;omega);cases v<;>simp at h;case iface t x=>intro L e;have⟨m,j,p,l,a⟩:=o x O9 L e;exact⟨m,.iface t j,p,l,⟨λc d=>by rw[aV,a.to c d],λc d=>by rw[aV,a.fix c d]⟩⟩
   case agg C=>intro L e;have⟨m,j,p,l,t,f⟩:=q C O9 L e;exact⟨m,.agg j,p,l,⟨λc d=>by rw[aV,t c d],λc d=>by rw[aV,f c d]⟩⟩
   case tuple C=>intro L e;have⟨m,j,p,l,t,f⟩:=q C O9 L e;exact⟨m,.tuple j,p,l,⟨λc d=>by rw[aV,t c d],λc d=>by rw[aV,f c d]⟩⟩
   case func F a b=>
    by_cases u:∃k,F=.yield k;obtain⟨k,rfl⟩:=u;exact Nb trivial;have r:∀c,tG c F=F:=λc=>by cases F<;>first|rfl|exact absurd ⟨_,rfl⟩ u
    intro L e;have⟨i,j,p,l,t,f⟩:=q a O9 L e;have⟨y,z,w,s,T,f2⟩:=q b O9 i l;exact⟨y,.func F j z,p.trans w,s,⟨λc d=>by rw[aV,r,t c<|d.mono w,T c d],λc d=>by rw[aV,r,f c d,f2 c d]⟩⟩
   all_goals(try cases‹Option Addr›)<;>(try cases‹Option Nat›)<;>first|exact Nb trivial|exact Z4 λc=>by simp
structure Sy(n:Nat)(L:List Value)(H:List Addr)(Z:Pi):Prop where
 s:Sy1 L Z
 gh:∀j x,H[j]?=some x->Z.gh (n+j)=some x
 real:∀b,b<n->Z.gh b=none
def Sy.mono{n L b H a f}(h:Sy n b a f)(e:L<+:b)(c:H<+:a):Sy n L H f:=⟨h.s.mono e,λj x d=>h.gh j x<|Ub c d,h.real⟩
def kp(N:Nat->Prop):Value->Prop
 |.int ..|.string _|.slice none _ _=>True
 |.slice (some a) _ _=>N a.block
 |.agg c=>∀v∈c,∃k n,v=.int k n
 |_=>False
def Z6(b){c:Array Value}(h:∀v∈c,∃k n,v=.int k n):c.map (aV b)=c:=by apply zW;intro i;rw[kW];rcases a:c[i]? with _|v;rfl;obtain⟨k,n,rfl⟩:=h v<|E8 a;simp
structure Rl (n : Nat) (N : Nat -> Prop) (L : List Value) (H : List Addr) (v v' : Value) : Prop where
 to : ∀Z, Sy n L H Z -> (∀b, N b -> Z b = b) -> aV Z v' = v
 fix : ∀ Z : Pi, Z.s = Gs.self.s -> (∀b, Z.gh b = none) -> (∀b, N b -> Z b = b) -> (∀j, j < H.length -> Z (n + j) = n + j) -> aV Z v' = v'
 keep : kp N v -> v' = v
 bare : ∀a, v = .slice (some a) 0 0 -> ∃a', v' = .slice (some a') 0 0
def Rl.mono{n N L b H a v d}(h:Rl n N L H v d)(e:L<+:b)(c:H<+:a):Rl n N b a v d:=⟨λp o m=>h.to p (o.mono e c) m,λp f g i k=>h.fix p f g i λj l=>k j<|fI l c.length_le,h.keep,h.bare⟩
def ahV{n N}(hN:∀b,N b->b<n)(v L H)(m:jD L):∃f q o,L<+:f/\H<+:q/\jD f/\Rl n N f q v o:=by
 by_cases d:kp N v;have K:∀s:Pi,(∀b,N b->s b=b)->(∀b,N b->s.gh b=none)->aV s v=v:=λs w g=>by
  cases v<;>first|(cases d;done)|(simp;done)|exact(by rw[aV,Z6 s d])|skip
  rename_i a l c;obtain _|a:=a;simp;have i:=d;rw[aV,oK,eZ<|g _ i];simp[cL,w _ i]
 exact⟨L,H,v,tF _,tF _,m,⟨λs g w=>K s w λb h=>g.real b<|hN b h,λs j k r t=>K s r λb _=>k b,λ_=>rfl,λa e=>⟨a,e⟩⟩⟩;by_cases u:∃a,v=.slice (some a) 0 0;obtain⟨a,rfl⟩:=u;refine⟨L,H++[a],.slice (n+H,0) 0 0,tF _,Z5 _ _,m,⟨λs g w=>?_,λs j k r t=>?_,λh=>absurd h d,λ_ _=>⟨_,rfl⟩⟩⟩;have:=g.gh H a S8;simp[zX,this];simp_all[eZ];have⟨f,o,p,l,a⟩:=Uc (SizeOf.sizeOf v+1) v (Dm _) L m;exact⟨f,H,o,p,tF _,l,⟨λs g _=>a.to s g.s,λs j _ _ _=>a.fix s j,λh=>absurd h d,λx e=>absurd ⟨x,e⟩ u⟩⟩
def Lv{n N}(hN:∀b,N b->b<n):∀(c:List Value)(L:List Value)(H:List Addr),jD L->∃(e:List Value)(j:List Addr)(d:List Value),L<+:e/\H<+:j/\jD e/\d=c.length/\∀(i:Nat)(v:Value),c[i]?=some v->∃a,d[i]?=some a/\Rl n N e j v a
 |[],L,H,f=>⟨L,H,[],tF _,tF _,f,rfl,λi v h=>by simp at h⟩
 |v::c,L,H,f=>by have⟨t,m,a,r,s,u,R⟩:=ahV hN v L H f;have⟨p,o,d,k,l,w,q,y⟩:=Lv hN c t m u;refine⟨p,o,a::d,r.trans k,s.trans l,w,by simp[q],λi x g=>?_⟩;obtain _|i:=i;simp at g;subst g;exact⟨a,rfl,R.mono k l⟩;exact y i x (by simpa using g)
def RlO(n:Nat)(N:Nat->Prop)(L:List Value)(H:List Addr)(o O:Obj):Prop:=(∀C t f,O=.cells C t f->∃c,o=.cells c t f)/\∀(c:Array Value)(t:TypeId)(f:Nat×Nat),o=.cells c t f->∃C,O=.cells C t f/\C.size=c.size/\∀(i:Nat)(v:Value),c[i]?=some v->∃V,C[i]?=some V/\Rl n N L H v V
def RlO.mono{n N L b H a o O}(h:RlO n N L H o O)(e:L<+:b)(d:H<+:a):RlO n N b a o O:=⟨h.1,λC t f l=>have⟨c,g,j,k⟩:=h.2 C t f l;⟨c,g,j,λi v m=>let⟨q,p,K⟩:=k i v m;⟨q,p,K.mono e d⟩⟩⟩
def aeM{n N}(hN:∀b,N b->b<n)(o L H)(g:jD L):∃c d O,L<+:c/\H<+:d/\jD c/\RlO n N c d o O:=by by_cases h:∃C t f,o=.cells C t f;obtain⟨C,t,f,rfl⟩:=h;have⟨c,d,j,p,q,l,e,r⟩:=Lv hN C.toList L H g;refine⟨c,d,.cells j.toArray t f,p,q,l,λk s F a=>?_,λk s F a=>?_⟩;simp_all;cases a;exact⟨j.toArray,rfl,by simpa using e,λi v m=>by simpa using r i v (by simpa using m)⟩;exact⟨L,H,o,tF _,tF _,g,λC t f a=>⟨C,a⟩,λC t f a=>absurd ⟨C,t,f,a⟩ h⟩
def Nc{n N}(hN:∀b,N b->b<n):∀(w:List Obj)(L:List Value)(H:List Addr),jD L->∃(a:List Value)(e:List Addr)(f:List Obj),L<+:a/\H<+:e/\jD a/\f=w.length/\∀(i:Nat)(o:Obj),w[i]?=some o->∃O,f[i]?=some O/\RlO n N a e o O
 |[],L,H,c=>⟨L,H,[],tF _,tF _,c,rfl,λi v h=>by simp at h⟩
 |v::t,L,H,c=>by have⟨y,l,k,r,s,z,R⟩:=aeM hN v L H c;have⟨p,m,u,g,j,A,q,B⟩:=Nc hN t y l z;refine⟨p,m,k::u,r.trans g,s.trans j,A,by simp[q],λi x d=>?_⟩;obtain _|i:=i;simp at d;subst d;exact⟨k,rfl,R.mono g j⟩;exact B i x (by simpa using d)
theorem xN{b n}(a:∀v,oU n v=true->aV b v=v){c:Array Value}(h:c.all (oU n)=true):c.map (aV b)=c:=by grind
theorem FZ(d):∀n v,oU n v=true->aV d v=v
 |0,_,h=>by cases h
 |n+1,v,h=>by have c:=FZ d n;cases v with
   |pointer a=>cases a<;>simp_all[oU]
   |slice a=>cases a<;>simp_all[oU]
   |map a=>cases a<;>simp_all[oU]
   |chan a=>cases a<;>simp_all[oU]
   |iface t v=>rw[aV,c v h]
   |agg C=>rw[aV,xN c h]
   |tuple C=>rw[aV,xN c h]
   |func f a b=>simp only[oU,fx]at h;rw[aV,xN c h.1.2,xN c h.2];cases f<;>first|rfl|(exact absurd h.1.1 S8)
   |_=>simp
theorem F4(a v)(h:LU v=true):aV a v=v:=FZ a 5 v h
def Co(n:Nat):TypeDesc->Bool
 |.pointer e|.slice e|.array _ e|.chan _ e=>decide (e<n)
 |.map k e=>decide (k<n)&&decide (e<n)
 |.struct F=>F.all λf=>decide (f.type<n)
 |.func a b _=>a.all (decide<|·<n)&&b.all (decide<|·<n)
 |.tuple t=>t.all (decide<|·<n)
 |.named _ u=>decide (u<n)
 |_=>true
structure Fit(G:Gs)(p p':Program):Prop where
 tab:p'.toTables={p.toTables with globals:=p'.globals,rt:=p'.rt}
 rts:{p'.rt with typeAssertionError:=p.rt.typeAssertionError}=p.rt
 ta:∀e,p.underlying p.rt.typeAssertionError≠some (.pointer e)
 zero:∀i∈p.types,∀v,i.zero=some v->LU v=true
 desc:∀i∈p.types,Co p.types.size i.desc=true
 none:p.globals.size=0
 fol:p.follows .rangeFuncRecover=true
 ajG:p'.globals.size<=1
section
variable{G:Gs}{p p':Program}(F:Fit G p p')
include F
theorem Fit.ex:∃a r,p'.toTables={p.toTables with globals:=a,rt:=r}:=⟨_,_,F.tab⟩
theorem Fit.types:p'.types=p.types:=by have⟨a,r,h⟩:=F.ex;rw[h]
theorem Fit.cut:p'.cutTypes=p.cutTypes:=by have⟨a,r,h⟩:=F.ex;rw[h]
theorem Fit.inits:p'.inits=p.inits:=by have⟨a,r,h⟩:=F.ex;rw[h]
theorem Fit.follow:p'.follow=p.follow:=by have⟨a,r,h⟩:=F.ex;rw[h]
theorem Fit.infoAt:∀n t,Made.infoAt p'.toTables n t=Made.infoAt p.toTables n t
 |0,_=>rfl
 |n+1,t=>by simp[Made.infoAt,F.types,(funext (Fit.infoAt n))]
theorem Fit.info(t):p'.info? t=p.info? t:=by simp[Tables.info?,F.types,F.infoAt]
theorem Fit.under(t):p'.underlying t=p.underlying t:=by simp[Program.underlying,F.info]
theorem Fit.cellsOf(t):p'.cellsOf t=p.cellsOf t:=by simp[Program.cellsOf,F.info]
theorem Fit.bytesOf(t):p'.bytesOf t=p.bytesOf t:=by simp[Program.bytesOf,F.info]
theorem Fit.depth:p'.depth=p.depth:=by simp[Program.depth,F.types]
end
theorem F5{p:Program}{t:TypeId}{i}(a:t<p.types.size)(h:p.info? t=some i):i∈p.types:=by simp only[Tables.info?,a]at h;exact E8 h
theorem F6{G p P}(F:Fit G p P){t:TypeId}{d}(c:t<p.types.size)(h:p.underlying t=some d):Co p.types.size d=true:=by simp[Program.underlying]at h;rcases H:p.info? t with _|i;cases H▸h;have a:=F.desc i<|F5 c H;rw[H]at h;have⟨D,_,_,_,_,_,_,_,_,_⟩:=i;cases D with
 |named n u=>simp[Co]at a;simp only at h;rcases b:p.info? u with _|j;cases b▸h;cases b▸h;exact F.desc j<|F5 a b
 |_=>cases h;exact a
section
variable{G:Gs}{p p':Program}{Z:Pi}(F:Fit G p p')(R:Rn G Z)
variable{α β:Type}{Q:α→β→Prop}
theorem ju{f F}(h:SR p p' Z Q (f p) (F p')):SR p p' Z Q (program>>=f) (program>>=F):=SR.program h
theorem EN{s S}:SR p p' Z Q (stuck s) S:=aO rfl
theorem abz{u s}(h:FU (.unsupported u)=true):SR p p' Z Q (unsupported u) s:=aO h
theorem EO{a m}:SR p p' Z (λv b=>b=aV Z v) (load a m) (load (cL Z a) m):=SR.load λ_=>SR.pure rfl
theorem abA{a v m}:SR p p' Z (λ_ _=>True) (store a v m) (store (cL Z a) (aV Z v) m):=SR.store<|SR.pure trivial
theorem qG{o}(a:dY p o=true):SR p p' Z (λr b=>b=Z r) (newObj o) (newObj<|iG Z o):=SR.new a λ_ _=>SR.pure rfl
theorem RA{o}(a:dY p o=true):SR p p' Z (λr b=>b=Z r/\Z.gh r=none) (newObj o) (newObj<|iG Z o):=SR.new a λ_ h=>SR.pure ⟨rfl,h⟩
theorem nI{r}:SR p p' Z (λs S=>S=s) (shape r) (shape<|Z r):=SR.shape λ_=>SR.pure rfl
theorem xO{a}:SR p p' Z (λs S=>S=s) (frozen a) (frozen<|cL Z a):=SR.frozen λ_=>SR.pure rfl
theorem JC{a n}:SR p p' Z (λ_ _=>True) (freeze a n) (freeze (cL Z a) n):=SR.freeze<|SR.pure trivial
theorem iW{r}:SR p p' Z (λo O=>O=iG Z o) (getObj r) (getObj<|Z r):=SR.getObj λ_ _=>SR.pure rfl
theorem zj{r}:SR p p' Z (λo O=>O=iG Z o/\dY p o=true) (getObj r) (getObj<|Z r):=SR.getObj λ_ h=>SR.pure ⟨rfl,h⟩
theorem iX{r o}(a:dY p o=true):SR p p' Z (λ_ _=>True) (setObj r o) (setObj (Z r)<|iG Z o):=SR.setObj a<|SR.pure trivial
theorem jz{q}:SR p p' Z (λn a=>a=n) (choose q) (choose q):=SR.choose λ_=>SR.pure rfl
theorem LX{m}(h:okM m=true:=by rfl):SR p p' Z (λ_ _=>True) (mark m) (mark<|XR Z m):=SR.mark h<|SR.pure trivial
theorem eT{c}[Decidable c]{s t S a}(h:SR p p' Z Q s S)(b:SR p p' Z Q t a):SR p p' Z Q (if c then s else t) (if c then S else a):=by grind
theorem afa{c}[Decidable c]{s t S a}(h:c->SR p p' Z Q s S)(b:¬c->SR p p' Z Q t a):SR p p' Z Q (if c then s else t) (if c then S else a):=by grind
include F
theorem fY(t):SR p p' Z (λi a=>a=i/\p.info? t=some i) (typeInfo t) (typeInfo t):=by refine ju ?_;rw[F.info];rcases h:p.info? t with _|i;exact EN;exact aQ ⟨rfl,rfl⟩
theorem kQ(t):SR p p' Z (λi a=>a=i/\p.underlying t=some i) (underlying t) (underlying t):=by refine ju ?_;rw[F.under];rcases h:p.underlying t with _|i;exact EN;exact aQ ⟨rfl,rfl⟩
theorem cV{t}{b c:Type}{Q:b→c→Prop}{f a}(k:∀d,p.underlying t=some d->SR p p' Z Q (f d) (a d)):SR p p' Z Q (underlying t>>=f) (underlying t>>=a):=bH (kQ F t) λ_ _⟨e,h⟩=>e▸k _ (e▸h)
theorem dW(t):SR p p' Z (λi a=>a=i) (sizeOf t) (sizeOf t):=by refine bH (fY F t) λ_ _⟨rfl,_⟩=>?_;exact aQ rfl
theorem iI{t:TypeId}(a:t<p.types.size):SR p p' Z (λv c=>c=v/\aV Z v=v) (zeroValue t) (zeroValue t):=by refine bH (fY F t) λ_ i⟨rfl,h⟩=>?_;rcases b:i.zero with _|v;exact abz rfl;exact aQ ⟨rfl,F4 Z v<|F.zero i (F5 a h) v b⟩
theorem Og(t):SR p p' Z (λi a=>a=i) (isAgg t) (isAgg t):=by refine cV F λd _=>?_;cases d<;>exact aQ rfl
omit F in
theorem tV(a):∀n i A,SR p p' Z (λv b=>b=v.map (aV Z)) (loadCellsFrom a i n A) (loadCellsFrom (cL Z a) i n (A.map<|aV Z))
 |0,_,_=>aQ rfl
 |n+1,i,A=>by refine bH (Q:=λv b=>b=aV Z v) ?_ ?_;rw[<-AR];exact EO;rintro v _ rfl;rw[<-Array.map_push];exact tV a n (i+1)<|A.push v
omit F in
theorem AV(a n):SR p p' Z (λv b=>b=v.map (aV Z)) (loadCells a n) (loadCells (cL Z a) n):=by have:=tV (p:=p) (p':=p') (Z:=Z) a n 0 #[];simpa[loadCells]using this
omit F in
theorem pA(a):∀b i,SR p p' Z (λ_ _=>True) (storeCells a b i) (storeCells (cL Z a) (b.map<|aV Z) i)
 |[],_=>aQ trivial
 |v::b,i=>by refine bH (Q:=λ_ _=>True) ?_ ?_;rw[<-AR];exact abA;intro _ _ _;exact pA a b<|i+1
theorem uM(t a):SR p p' Z (λv c=>c=aV Z v) (loadVar t a) (loadVar t<|cL Z a):=by refine aW (Og F t) λb=>?_;cases b;exact EO;exact aW (dW F t) λn=>aW (AV a n) λv=>aQ S8
theorem Oh(t a v):SR p p' Z (λ_ _=>True) (storeVar t a v) (storeVar t (cL Z a)<|aV Z v):=by refine aW (dW F t) λn=>?_;rw[lQ,Je];by_cases h:v.cells.size≠n;rw[aN h];exact aO rfl;rw[aJ h,aJ h];simp;exact pA a _ 0
omit F in
theorem yL(a n l c)(h:l=0->c=0->n=0):SR p p' Z (λv d=>d=v.map (aV Z)) (loadCells a n) (loadCells (zX Z l c a) n):=by by_cases b:l=0/\c=0;have:=h b.1 b.2;subst this;exact aQ S8;rw[qF b];exact AV a n
omit F in
theorem wO(a b x l c)(h:l=0->c=0->b=[]):SR p p' Z (λ_ _=>True) (storeCells (a.add x) b) (storeCells ((zX Z l c a).add x) (b.map<|aV Z)):=by by_cases d:l=0/\c=0;have:=h d.1 d.2;subst this;exact aQ trivial;rw[qF d,<-AR];exact pA _ b 0
omit F in
theorem XW(e c):SR p p' Z (λa A=>A=cL Z a) (newRow e c) (newRow e (c.map<|aV Z)):=aW (qG (o:=.cells c e) rfl) λr=>aQ rfl
omit F in
theorem qO(e c):SR p p' Z (λa A=>A=cL Z a/\Z.gh a.block=none) (newRow e c) (newRow e (c.map<|aV Z)):=by refine bH (RA (o:=.cells c e) rfl) ?_;rintro r _⟨rfl,h⟩;exact aQ ⟨rfl,h⟩
omit F in
theorem Cq(e v):SR p p' Z (λa A=>A=cL Z a) (newVar e v) (newVar e<|aV Z v):=by simp[newVar];exact XW e _
theorem JD(t):SR p p' Z (λa A=>A=a) (elemOf t) (elemOf t):=by refine cV F λd _=>?_;cases d<;>first|exact aQ rfl|exact EN
theorem kZ(t c o):SR p p' Z (λv a=>a=aV Z v) (part t c o) (part t (c.map<|aV Z) o):=by refine aW (Og F t) λb=>?_;cases b;rw[kW];rcases c[o]? with _|v;exact EN;exact aQ rfl;exact aW (dW F t) λn=>aQ S8
omit F in
theorem qP(v):SR p p' Z (λx b=>b=x) (asIntOf v) (asIntOf<|aV Z v):=by cases v with
 |int k n=>rw[aV];exact aQ rfl
 |pointer a=>cases a<;>exact aO rfl
 |_=>exact aO rfl
omit F in
theorem JE(v):SR p p' Z (λx a=>a=x) (asBool v) (asBool<|aV Z v):=by cases v with
 |bool k=>rw[aV];exact aQ rfl
 |_=>exact aO rfl
omit F in
theorem rW(v):SR p p' Z (λx b=>b=cL Z x) (Instr.sureAddr v) (Instr.sureAddr<|aV Z v):=by cases v with
 |pointer a=>obtain _|a:=a;exact aO rfl;rw[aV];exact aQ rfl
 |_=>exact aO rfl
end
section
variable{G:Gs}{p p':Program}{Z:Pi}(F:Fit G p p')(R:Rn G Z)
variable{α β:Type}{Q:α→β→Prop}
abbrev VR(a:Pi)(v V:Value):Prop:=V=aV a v
theorem SR.rv{p P a}{v V:Value}(h:V=aV a v:=by simp[goInt]):SR p P a (VR a) (Pure.pure v) (Pure.pure V):=.ret h
def dG:=@SR.rv
theorem mK{v a}(h:a=aV Z v):SR p p' Z Q (goPanic v) (goPanic a):=h▸SR.halt rfl
include F R
omit F R in
theorem Oi{t Q}{S:Sem TypeId}(h:∀e,p.underlying t≠some (.pointer e))(f:∃k,S=.program k):SR p p' Z Q (elemOf t) S:=by
 obtain⟨k,rfl⟩:=f;have e:∃K:Program->Sem TypeId,elemOf t=.program K/\((∀e,p.underlying t≠some (.pointer e))->∃s,K p=.halt (.stuck s)):=by refine⟨_,rfl,λh=>?_⟩;simp[Sem.bind];rcases g:p.underlying t with _|d;exact⟨_,rfl⟩;rw[g]at h;cases d<;>first|exact absurd rfl (h _)|exact⟨_,rfl⟩
 have⟨K,a,b⟩:=e;have⟨s,c⟩:=b h;rw[a];exact SR.program<|c▸aO rfl
def aho:RuntimeError->Bool
 |.unhashable _=>true
 |_=>false
omit R in
theorem bV(e)(k:aho e=false:=by rfl):SR p p' Z Q (runtimePanic e) (runtimePanic e):=by
 have b:=F.rts;have f:p'.rt.boundsError=p.rt.boundsError:=by rw[<-b]
 have d:p'.rt.errorString=p.rt.errorString:=by rw[<-b]
 have g:p'.rt.plainError=p.rt.plainError:=by rw[<-b]
 have j:p'.rt.panicNilError=p.rt.panicNilError:=by rw[<-b]
 refine ju ?_;cases e with
 |bounds x y s c=>simp[f];exact mK S8
 |error m=>simp[d];exact mK (by simp[strVal])
 |plain m=>simp[g];exact mK (by simp[strVal])
 |nilDeref=>simp[d];exact mK (by simp[strVal])
 |typeAssertion i c a m=>exact bH (Q:=λ_ _=>False) (Oi F.ta ⟨_,rfl⟩) λ_ _ h=>h.elim
 |panicNil=>simp[j];refine aW (JD F _) λe=>bH (Q:=λa A=>A=cL Z a) (by simpa using Cq (p:=p) (p':=p') (Z:=Z) e (.agg #[])) ?_;rintro a _ rfl;exact mK S8
 |unhashable t=>cases k
theorem jh(k x y c):SR p p' Z Q (boundsPanic k x y c) (boundsPanic k x y c):=by unfold boundsPanic;split;refine bH (Q:=λa b=>b=a) (Vo (f:=λn=>Sem.pure<|n==1) (f':=λn=>Sem.pure<|n==1) jz<|by rintro _ n rfl;exact SR.pure rfl) ?_;rintro _ s rfl;exact bV F _;refine bH (Q:=λa b=>b=a) (aQ rfl) ?_;rintro _ s rfl;exact bV F _
theorem Cr(v):SR p p' Z (λx b=>b=cL Z x) (asAddr v) (asAddr<|aV Z v):=by
 cases v<;>try exact aO rfl
 rename_i a;obtain _|a:=a;rw[aV];exact(bV F .nilDeref:SR p p' Z _ (runtimePanic .nilDeref) (runtimePanic .nilDeref));rw[aV];exact aQ rfl
omit R
theorem abB{t:TypeId}(b:t<p.types.size):SR p p' Z (VR Z) (Instr.alloc t true<|.tuple #[]) (Instr.alloc t true<|.tuple #[]):=by refine jx (iI F b) λv c=>bH (Q:=λa A=>A=cL Z a) (by have:=Cq (p:=p) (p':=p') (Z:=Z) t v;rwa [c]at this) ?_;rintro a _ rfl;exact dG
omit F in
theorem aid(t v):SR p p' Z (VR Z) (Instr.box t v) (Instr.box t<|aV Z v):=by refine aW (Cq t v) λa=>?_;exact dG
theorem XX(t v):SR p p' Z (VR Z) (Instr.loadAt t v) (Instr.loadAt t<|aV Z v):=by refine aW (rW v) λa=>?_;exact uM F t a
theorem RD(t v x):SR p p' Z (λ_ _=>True) (Instr.storeAt t v x) (Instr.storeAt t (aV Z v)<|aV Z x):=by refine aW (rW v) λa=>?_;exact Oh F t a x
omit F in
theorem JG(r):SR p p' Z (λx b=>b=x.map λ(a,t)=>(cL Z a,t)) (viewAt r) (viewAt<|Z r):=by refine aW nI λs=>?_;cases s with
 |some s=>exact aQ rfl
 |none=>refine aW iW λo=>?_;cases o<;>exact aQ rfl
omit F in
theorem DT(r):SR p p' Z (λx b=>b=x.map λ(a,t)=>(cL Z a,t)) (numberAt r) (numberAt<|Z r):=by refine aW nI λs=>?_;cases s with
 |some s=>exact aQ rfl
 |none=>refine aW iW λo=>?_;cases o<;>exact aQ rfl
omit F in
theorem iA(a):SR p p' Z (λx b=>b=(cL Z x.1,x.2)) (behindNumber a) (behindNumber<|cL Z a):=by refine aW (DT a.block) λx=>?_;cases x<;>exact aQ rfl
omit F in
theorem Oj(a b):SR p p' Z (VR Z) (asNumber a b) (asNumber (cL Z a) b):=by refine aW (qG (o:=.number a b) rfl) λr=>?_;exact dG
omit F in
theorem Cs(a):SR p p' Z (λ_ _=>True) (noView a) (noView<|cL Z a):=by
 refine aW (JG a.block) λx=>?_;cases x<;>try exact aO rfl
 exact aQ trivial
theorem yM(d t c):byteOfCell p' d t c=byteOfCell p d t c:=by induction d generalizing t c with
 |zero=>rfl
 |succ d a=>simp[byteOfCell,F.under,F.bytesOf,F.cellsOf,a]
theorem Ct(a):SR p p' Z (λx b=>b=x) (byteOf a) (byteOf<|cL Z a):=by simp[byteOf];cases a.spot with
 |some s=>exact aQ rfl
 |none=>
   refine ju ?_;refine bH (Cs a) ?_;intro _ _ _;refine aW nI λs=>?_;cases s<;>try exact aO rfl
   rename_i s;simp[F.cellsOf,F.bytesOf,F.depth,yM F];split;exact aQ rfl;split;exact aQ rfl;exact aO rfl
theorem XY(a c b):SR p p' Z (λx d=>d=cL Z x) (partAt a c b) (partAt (cL Z a) c b):=by refine aW (Ct F a) λn=>bH (Q:=λx d=>d=x) (Ct F {block:=a.block,off:=a.off+c}) ?_;rintro _ m rfl;refine aQ ?_;split<;>rfl
theorem sM(a f):SR p p' Z (λx b=>b=cL Z x) (fieldPlace a f) (fieldPlace (cL Z a) f):=by refine aW (dW F f.type) λn=>?_;split;exact XY F a _ _;exact aQ (by rw[AR])
theorem RJ(s v i):SR p p' Z (VR Z) (Instr.fieldAt s v i) (Instr.fieldAt s (aV Z v) i):=by refine cV F λd _=>?_;cases d with
 |struct b=>simp only;rcases b[i]? with _|f;exact aO rfl;refine aW (rW v) λa=>?_;refine aW (sM F a f) λa=>?_;exact dG
 |_=>exact aO rfl
include R
theorem IG(v y c):SR p p' Z (λx a=>a=x/\x<=y) (Instr.sliceBound v y c) (Instr.sliceBound (aV Z v) y c):=by refine bH (qP v) ?_;rintro _⟨k,i⟩rfl;simp only;split;exact aQ ⟨rfl,O9⟩;exact jh F R _ _ _ _
def nw(b:Pi):Value->Prop
 |.pointer (some a)=>b.gh a.block=none
 |.slice (some a) l c=>b.gh a.block=none\/(l=0/\c=0)
 |_=>True
omit F R in
theorem add_block(a:Addr)(n):(a.add n).block=a.block:=by simp[Addr.add];split<;>rfl
theorem nJ(b l c L h a):SR p p' Z (λx d=>d=x/\(l=0->c=0->x=(0,0,0))) (Instr.sliceBounds b l c L h a) (Instr.sliceBounds b l c (L.map<|aV Z) (h.map<|aV Z) (a.map<|aV Z)):=by cases a<;>cases h<;>cases L<;>simp;all_goals repeat' (first|exact aQ ⟨rfl,λe f=>by simp;omega⟩|refine bH (IG F R _ _ _) ?_|refine bH (Q:=λx d=>d=x/\x=_) (aQ ⟨rfl,rfl⟩) ?_|exact aO rfl|(rintro _ _⟨rfl,_⟩))
theorem abC(t x)(g:nw Z x)(L H c):SR p p' Z (VR Z) (Instr.slice t x L H c) (Instr.slice t (aV Z x) (L.map<|aV Z) (H.map<|aV Z) (c.map<|aV Z)):=by refine cV F λd _=>?_;cases d with
 |string=>cases x with
   |string s=>simp;split;exact aO rfl;refine bH (nJ F R false _ _ L H none) ?_;rintro _⟨l,h,m⟩⟨rfl,-⟩;exact dG
   |_=>exact aO rfl
 |slice e=>cases x with
   |slice a j C=>
     simp;refine bH (nJ F R true _ _ L H c) ?_;rintro _⟨l,h,m⟩⟨rfl,i⟩;refine aW (dW F e) λn=>?_;refine aQ ?_;simp[VR];obtain _|a:=a;split<;>rfl;rcases(g:Z.gh a.block=none\/(j=0/\C=0))with b|⟨rfl,rfl⟩;have f:Z.gh (a.add<|l*n).block=none:=by rw[add_block];exact b
     split<;>simp[eZ b,eZ f];simp_all
   |_=>exact aO rfl
 |pointer k=>
   refine bH (Q:=λa A=>A=cL Z a/\Z.gh a.block=none) ?_ ?_;cases x with
   |pointer a=>obtain _|a:=a;rw[aV];exact(bV F .nilDeref:SR p p' Z _ (runtimePanic .nilDeref) (runtimePanic .nilDeref));rw[aV];exact aQ ⟨rfl,g⟩
   |_=>exact aO rfl
   rintro a _⟨rfl,b⟩;refine cV F λd _=>?_;cases d with
   |array n e=>
     refine bH (nJ F R false _ _ L H c) ?_;rintro _⟨l,h,m⟩⟨rfl,-⟩;refine aW (dW F e) λn=>?_;refine aQ ?_;have f:Z.gh (a.add<|l*n).block=none:=by rw[add_block];exact b
     simp[VR];split<;>simp[eZ b,eZ f]
   |_=>exact aO rfl
 |_=>exact aO rfl
theorem RL(t x)(f:nw Z x)(L H b):SR p p' Z (VR Z) (Instr.sliceAt t x L H b) (Instr.sliceAt t (aV Z x) (L.map<|aV Z) (H.map<|aV Z) (b.map<|aV Z)):=by refine cV F λd _=>?_;cases d with
 |array n e=>
   refine bH (Q:=λa A=>A=cL Z a/\Z.gh a.block=none) ?_ ?_;cases x<;>try exact aO rfl
   rename_i a;cases a<;>try exact aO rfl
   rename_i a;rw[aV];exact aQ ⟨rfl,f⟩;rintro a _⟨rfl,c⟩;refine bH (nJ F R false _ _ L H b) ?_;rintro _⟨l,h,m⟩⟨rfl,-⟩;refine aW (dW F e) λn=>?_;refine aQ ?_;have g:Z.gh (a.add<|l*n).block=none:=by rw[add_block];exact c
   simp[VR];split<;>simp[eZ c,eZ g]
 |_=>exact abC F R t x f L H b
theorem RO(t x i):SR p p' Z (VR Z) (Instr.indexAt t x i) (Instr.indexAt t (aV Z x)<|aV Z i):=by refine bH (qP i) ?_;rintro _⟨k,i⟩rfl;refine cV F λd _=>?_;cases d with
 |array n e=>
   refine aW (rW x) λa=>?_;refine bH (Q:=λ(a b:Option Addr×Nat×TypeId)=>b=(a.1.map<|cL Z,a.2.1,a.2.2)) (aQ rfl) ?_;rintro⟨B,L,E⟩ _ rfl;refine cV F λd _=>?_;obtain _|a:=B;exact jh F R _ _ _ _;simp;split;refine aW (dW F E) λn=>?_;exact dG;repeat' split
   all_goals first|exact jh F R _ _ _ _|exact aO rfl
 |slice e=>
   cases x<;>try exact aO rfl
   rename_i a l c;rw[aV];refine bH (Q:=λ(a b:Option Addr×Nat×TypeId)=>∃c,b=(Rc Z a.1 a.2.1 c,a.2.1,a.2.2)) (aQ ⟨c,rfl⟩) ?_;rintro⟨B,L,E⟩ _ ⟨c,rfl⟩;refine cV F λd _=>?_;obtain _|a:=B;exact jh F R _ _ _ _;simp;split;refine aW (dW F E) λn=>?_;have f:zX Z L c a=cL Z a:=qF O9;exact aQ (by simp[VR,f]);repeat' split
   all_goals first|exact jh F R _ _ _ _|exact aO rfl
 |_=>exact aO rfl
theorem abD(t x i):SR p p' Z (VR Z) (Instr.index t x i) (Instr.index t (aV Z x)<|aV Z i):=by refine bH (qP i) ?_;rintro _⟨k,i⟩rfl;refine cV F λd _=>?_;cases d with
 |array n e=>
   cases x<;>try exact aO rfl
   rename_i c;simp;split;refine aW (dW F e) λn=>?_;exact kZ F e c _;exact jh F R _ _ _ _
 |string=>
   cases x<;>try exact aO rfl
   rename_i s;simp;split;exact dG;exact jh F R _ _ _ _
 |_=>exact aO rfl
omit R
theorem Cu(t x):SR p p' Z (VR Z) (Instr.makeInterface t x) (Instr.makeInterface t<|aV Z x):=by refine cV F λd _=>?_;cases d with
 |interface _=>exact aO rfl
 |_=>exact dG
omit F in
theorem RP(x i):SR p p' Z (VR Z) (Instr.extract x i) (Instr.extract (aV Z x) i):=by
 unfold Instr.extract;cases x<;>try exact aO rfl
 rename_i a;simp;cases a[i]?<;>try exact aO rfl
 rename_i v;exact aQ rfl
include R
theorem IH(x b){a:TypeId}(h:a<p.types.size)(o):SR p p' Z (VR Z) (Instr.typeAssert x b a o) (Instr.typeAssert (aV Z x) b a o):=by
 have c:∀(s d:Option TypeId)(m:String),SR p p' Z (VR Z) (if o=true then do let z<-zeroValue a;pure (.tuple #[z,false])else runtimePanic (.typeAssertion s d a m)) (if o=true then do let z<-zeroValue a;pure (.tuple #[z,false])else runtimePanic (.typeAssertion s d a m)):=λs d m=>by split;refine jx (iI F h) λv e=>?_;exact aQ (by simp[VR,e]);exact bV F _
 have H:∀v,SR p p' Z (VR Z) (pure<|if o=true then .tuple #[v,true]else v) (pure<|if o=true then .tuple #[aV Z v,true]else aV Z v):=λv=>by refine aQ ?_;split<;>simp[VR]
 refine cV F λd _=>?_;cases x with
 |nilIface=>cases d<;>simp<;>exact c _ _ _
 |iface t v=>cases d with
   |interface w=>simp[aV];refine jx (fY F t) λi _=>?_;split;have:=H (.iface t v);rwa [aV]at this;simp_all
   |_=>simp[aV];split;simp_all;simp_all
 |_=>cases d<;>exact aO rfl
theorem Ol(x):SR p p' Z (VR Z) (Instr.panic x) (Instr.panic<|aV Z x):=by cases x with
 |iface t v=>simp;exact mK S8
 |nilIface=>
   simp;refine bH (Q:=λa b=>b=a) ?_ ?_;refine Vo (Q:=λa b=>b=a) (SR.env λr=>SR.pure rfl) ?_;rintro _ r rfl;cases r<;>try exact aO rfl
   rename_i e;refine ju ?_;have⟨c,r,h⟩:=F.ex;simp[h];exact aQ rfl;rintro _ n rfl;split;exact mK S8;exact bV F _
 |_=>exact aO rfl
end
section
variable{G:Gs}{p p':Program}{Z:Pi}
variable{α β:Type}
inductive jJ(Z:Pi){α:Type}(H:α->Prop):Sem α->Prop
 |pure {a:α}:H a->jJ Z H (.pure a)
 |choose {q:Question} {k:Nat->Sem α}:(∀n,jJ Z H<|k n)->jJ Z H (.choose q k)
 |lost {h:Halt}:FU h=true->jJ Z H (.halt h)
theorem jJ.sr{H}{s:Sem α}(h:jJ Z H s):SR p p' Z (λa b=>b=a/\H a) s s:=by induction h with
 |pure h=>exact SR.pure ⟨rfl,h⟩
 |choose _ c=>exact SR.choose c
 |lost h=>exact aO h
theorem jJ.bind{e H b s}{f:α->Sem e}(h:jJ Z H s)(c:∀a,H a->jJ Z b (f a)):jJ Z b (s>>=f):=by induction h with
 |pure h=>exact c _ h
 |choose _ d=>exact .choose d
 |lost h=>exact .lost h
def gZ:=@jJ.bind
theorem jJ.val{s}(h:jJ Z (λv=>aV Z v=v) s):SR p p' Z (VR Z) s s:=h.sr.mono λ_ _⟨e,h⟩=>by rw[e,VR,h]
theorem jJ.ret{H}{a:α}(h:H a):jJ Z H (Pure.pure a):=.pure h
theorem jJ.aie{q}:jJ Z (λ_=>True) (Go.choose q):=.choose λ_=>.pure trivial
def Om:=@jJ.aie
theorem jJ.any{H}{s:Sem α}(h:jJ Z H s):jJ Z (λ_=>True) s:=by induction h with
 |pure _=>exact .pure trivial
 |choose _ a=>exact .choose a
 |lost h=>exact .lost h
theorem vP(o k x y):jJ Z (λv=>aV Z v=v) (Op.floatArith o k x y):=by
 cases o<;>first|exact .lost rfl|skip
 all_goals refine gZ (H:=λ_=>True) (.ret trivial) λr _=>?_;cases r with
  |some r=>exact .ret S8
  |none=>exact gZ Om λ_ _=>.ret S8
theorem yN(o k x y):jJ Z (λv=>aV Z v=v) (Op.floatCmp o k x y):=by cases o<;>first|exact .ret S8|exact .lost rfl
theorem qQ(o k x y):jJ Z (λ_=>True) (Op.Complex.arith o k x y):=by refine gZ (vP o k x y).any λv _=>?_;cases v<;>first|exact .ret trivial|exact .lost rfl
theorem F7(o k x y):jJ Z (λ_=>True) (Op.Complex.cmp o k x y):=by refine gZ (yN o k x y).any λv _=>?_;cases v<;>first|exact .ret trivial|exact .lost rfl
theorem AW(s x d):jJ Z (λv=>aV Z v=v) (Conv.floatToFloat s x d):=by unfold Conv.floatToFloat;split;exact .ret S8;split;exact gZ Om λ_ _=>.ret S8;exact .ret S8;dsimp only;split;exact gZ Om λ_ _=>.ret S8;exact .ret S8
theorem XZ(s x d):jJ Z (λ_=>True) (Op.Complex.conv s x d):=by unfold Op.Complex.conv;split;exact .ret trivial;refine gZ (AW s x d).any λv _=>?_;cases v<;>first|exact .ret trivial|exact .lost rfl
theorem AX(x y):jJ Z (λ_=>True) (Op.Complex.add x y):=qQ _ _ _ _
theorem F8(x y):jJ Z (λ_=>True) (Op.Complex.sub x y):=qQ _ _ _ _
theorem qR(x y):jJ Z (λ_=>True) (Op.Complex.mul x y):=qQ _ _ _ _
theorem F9(x y):jJ Z (λ_=>True) (Op.Complex.quo x y):=qQ _ _ _ _
theorem LY(a b c d):jJ Z (λ_=>True) (Op.Complex.product a b c d):=by repeat' first|exact .ret trivial|(refine gZ (qR _ _) λ_ _=>?_)|(refine gZ (F8 _ _) λ_ _=>?_)|(refine gZ (AX _ _) λ_ _=>?_)
theorem wP(s a b c d):jJ Z (λ_=>True) (Op.Complex.corrected s a b c d):=by repeat' first|exact .ret trivial|(refine gZ (qR _ _) λ_ _=>?_)|(refine gZ (F8 _ _) λ_ _=>?_)|(refine gZ (AX _ _) λ_ _=>?_)
theorem tW{b H c}[Decidable c]{s t:Sem b}(h:jJ Z H s)(a:jJ Z H t):jJ Z H (if c then s else t):=by grind
theorem II(a b c d):jJ Z (λ_=>True) (Op.Complex.quotient a b c d):=by refine tW ?_ ?_;all_goals
  refine gZ (F9 _ _) λ_ _=>gZ (qR _ _) λ_ _=>gZ (AX _ _) λ_ _=>gZ (qR _ _) λ_ _=>gZ (AX _ _) λ_ _=>gZ (F9 _ _) λ_ _=>gZ (qR _ _) λ_ _=>gZ (F8 _ _) λ_ _=>gZ (F9 _ _) λ_ _=>gZ (H:=λ_=>True) (.ret trivial) λx _=>?_
  exact gZ (F7 _ _ _ _) λ_ _=>gZ (F7 _ _ _ _) λ_ _=>tW (.ret trivial)<|tW (gZ (qR _ _) λ_ _=>gZ (qR _ _) λ_ _=>.ret trivial) (tW (wP _ _ _ _ _) (tW (wP _ _ _ _ _)<|.ret trivial))
theorem Ga(o k a b c d):jJ Z (λv=>aV Z v=v) (Op.complexOp o k a b c d):=by cases o;all_goals repeat' first
  |exact .lost rfl
  |exact .ret S8
  |(refine gZ (qQ _ _ _ _) λ_ _=>?_)
  |(refine gZ (F7 _ _ _ _) λ_ _=>?_)
  |(refine gZ (XZ _ _ _) λ_ _=>?_)
  |(refine gZ (LY _ _ _ _) λ_ _=>?_)
  |(refine gZ (II _ _ _ _) λ_ _=>?_)
  |split
theorem yO(o k x y):jJ Z (λv=>aV Z v=v) (Op.intArith o k x y):=by cases o<;>first|exact .ret S8|exact .lost rfl
theorem AY(o k x y):jJ Z (λv=>aV Z v=v) (Op.intBits o k x y):=by cases o<;>first|exact .ret S8|exact .lost rfl
theorem Oo(o x y):jJ Z (λv=>aV Z v=v) (Op.intCmp o x y):=by cases o<;>first|exact .ret S8|exact .lost rfl
theorem yP(o x y):jJ Z (λv=>aV Z v=v) (Op.stringOp o x y):=by unfold Op.stringOp;cases o;all_goals repeat' first|exact .ret S8|exact .lost rfl|split
end
section
variable{G:Gs}{p p':Program}{Z:Pi}(F:Fit G p p')(R:Rn G Z)
include F R
theorem X3(o k x y):SR p p' Z (VR Z) (Op.intDiv o k x y) (Op.intDiv o k x y):=by unfold Op.intDiv;split;exact bV F _;cases o<;>first|exact dG|exact aO rfl
theorem abE(o k x a y):SR p p' Z (VR Z) (Op.shift o k x a y) (Op.shift o k x a y):=by unfold Op.shift;split;exact bV F _;cases o<;>first|exact dG|exact aO rfl
omit F R in
theorem abF(o x):SR p p' Z (VR Z) (Op.unary o x) (Op.unary o<|aV Z x):=by cases o<;>cases x<;>(try simp);all_goals first
  |exact aO rfl
  |exact(yO _ _ _ _).val
  |exact(AY _ _ _ _).val
  |exact dG
  |(rename_i a;cases a<;>exact aO rfl)
omit F in
theorem abG(a b):((cL Z a).block==(cL Z b).block)=(a.block==b.block):=by by_cases h:a.block=b.block;simp[h];have:Z a.block≠Z b.block:=λe=>h<|R.inj _ _ e;rw[FV,FV,beq_eq_false_iff_ne.mpr h,beq_eq_false_iff_ne.mpr this]
omit F in
theorem addr_eq(a b):(cL Z a==cL Z b)=(a==b):=by
 by_cases h:a=b;simp[h];have:cL Z a≠cL Z b:=λe=>h (by have c:=R.inj _ _<|congrArg Addr.block e;have d:=congrArg Addr.off e;have f:=congrArg Addr.spot e;cases a;cases b;simp at c d f;simp[c,d,f])
 rw[beq_eq_false_iff_ne.mpr h,beq_eq_false_iff_ne.mpr this]
omit F R in
theorem AZ(a):SR p p' Z (λx c=>c=x) (stringish a) (stringish<|cL Z a):=by refine aW xO λb=>?_;cases b;refine aW nI λs=>?_;obtain _|s:=s;exact aQ rfl;exact xO (a:={block:=a.block,off:=s.2});exact aQ rfl
omit F R in
theorem Oq(a b):SR p p' Z (λx c=>c=x) (mayBeOne a b) (mayBeOne (cL Z a)<|cL Z b):=by
 refine aW (AZ a) λe=>aW (AZ b) λS=>?_;have none:∀x:Addr,SR p p' Z (λx c=>c=x) (do let s<-shape x.block;pure<|s matches some (_,0)) (do let s<-shape (cL Z x).block;pure<|s matches some (_,0)):=λx=>aW nI λs=>aQ rfl
 exact aW (none a) λd=>aW (none b) λn=>aQ rfl
omit F in
theorem DU(a b):SR p p' Z (λx c=>c=x) (sameAddr a b) (sameAddr (cL Z a)<|cL Z b):=by unfold sameAddr;rw[abG R,addr_eq R];split;exact aQ rfl;refine aW xO λd=>aW xO λe=>?_;split;exact aO rfl;refine bH (Cs a) λ_ _ _=>?_;refine bH (Cs b) λ_ _ _=>?_;refine aW (Oq a b) λm=>?_;split;exact aW jz λn=>aQ rfl;exact aQ rfl
omit F in
theorem Gb(a b):SR p p' Z (λx c=>c=x) (samePointer a b) (samePointer (a.map<|cL Z) (b.map<|cL Z)):=by cases a<;>cases b;exact aQ rfl;exact aQ rfl;exact aQ rfl;exact DU R _ _
end
section
variable{G:Gs}{p p':Program}{Z:Pi}
theorem Cw{g e:Type}(f F:g->e->Sem (ForInStep e)):∀(l:List g)(b:e),(∀a∈l,∀b,SR p p' Z (λx c=>c=x) (f a b)<|F a b)->SR p p' Z (λx c=>c=x) (forIn l b f) (forIn l b F)
 |[],b,_=>by simp;exact aQ rfl
 |a::l,b,h=>by simp;refine aW (h a S8 b) λs=>?_;cases s with
   |done b=>exact aQ rfl
   |yield b=>exact Cw f F l b λa d=>h a<|by simp[d]
theorem Cx{e g:Type}{f F}(l:Array e)(b:g)(h:∀a∈l,∀b,SR p p' Z (λx c=>c=x) (f a b)<|F a b):SR p p' Z (λx c=>c=x) (forIn l b f) (forIn l b F):=by rw[<-Us,<-Us];exact Cw f F l.toList b λa d=>h a<|by simpa using d
theorem Cy{d f F}(n)(b:d)(h:∀a b,SR p p' Z (λx c=>c=x) (f a b)<|F a b):SR p p' Z (λx c=>c=x) (forIn [0:n] b f) (forIn [0:n] b F):=by rw[agZ,agZ];exact Cw f F _ b λa _=>h a
end
section
variable{G:Gs}{p p':Program}{Z:Pi}(F:Fit G p p')(R:Rn G Z)
include F
theorem abH(n):∀t u,p'.alikeButTags n t u=p.alikeButTags n t u:=by induction n with
 |zero=>intro t u;rfl
 |succ n a=>intro t u;simp[Program.alikeButTags,F.info,a]
theorem abI(t):p'.underlyingId t=p.underlyingId t:=by simp[Program.underlyingId,F.info]
theorem LZ(t):p'.stoodInAs t=p.stoodInAs t:=by simp[Program.stoodInAs,F.under,F.cut,abH F,abI F,F.depth]
theorem nK(t):p'.stoodInHeld t=p.stoodInHeld t:=by simp[Program.stoodInHeld,LZ F,F.info]
theorem wQ(d):∀t,p'.eqGuardType d t=p.eqGuardType d t:=by induction d with
 |zero=>intro t;rfl
 |succ d a=>intro t;simp[Program.eqGuardType,F.under,a]
omit F in
theorem abJ{b c Q t}{s:Sem b}{S:Sem c}(a:((p.info? t).all fun i=>match i.desc with|.named "sync.copyChecker" _=>false|_=>true)=true):SR p p' Z Q (typeInfo t>>=fun i=>match i.desc with|.named "sync.copyChecker" _=>s|_=>unsupported .addressObserved) S:=by cases H:p.info? t with
 |none=>refine SR.ahn (h:=.stuck "no such type") ?_ rfl;show Sem.bind (match p.info? t with|some i=>Pure.pure i|none=>stuck "no such type") _=_;rw[H];rfl
 |some i=>refine SR.ahn (h:=.unsupported .addressObserved) ?_ rfl;show Sem.bind (match p.info? t with|some i=>Pure.pure i|none=>stuck "no such type") _=_;rw[H];show(match i.desc with|.named "sync.copyChecker" _=>s|_=>unsupported .addressObserved)=_;split;simp_all;rfl
include R
theorem Gc:∀d n t x y,vO p n t=true->SR p p' Z (λx B=>B=x) (Op.equalIn d t x y) (Op.equalIn d t (aV Z x)<|aV Z y)
 |0,_,_,_,_,_=>aO rfl
 |_+1,0,_,_,_,h=>by cases h
 |d+1,n+1,t,x,y,g=>by
   have q:=Gc d n;refine cV F λu A=>?_;simp only[vO,A,fx]at g;obtain⟨w,g⟩:=g;cases u;case int=>
    cases x<;>cases y<;>(try exact aO rfl);case int.int=>simp only[aV];split;exact aQ rfl;exact aO rfl
    case int.pointer _ n b=>cases b<;>simp only[aV,dK,Fg]<;>match n with
     |0=>first|exact aO rfl|exact aQ rfl
     |Int.ofNat (m+1)=>exact aO rfl
     |Int.negSucc m=>exact aO rfl
    case pointer.int a _ n=>cases a<;>simp only[aV,dK,Fg]<;>match n with
     |0=>first|exact aO rfl|exact aQ rfl
     |Int.ofNat (m+1)=>exact aO rfl
     |Int.negSucc m=>exact aO rfl
    case pointer.pointer a b=>
     cases a<;>cases b<;>try exact aO rfl
     simp only[aV,dK];refine aW (iA _) λa=>aW (iA _) λb=>ju ?_;rw[F.none];simp only[qu,decide_false,aaf,tK,vJ];exact abJ w
    all_goals(try cases‹Option Addr›)<;>(try cases‹Option Addr›)<;>exact aO rfl
   case pointer e=>
    cases x<;>cases y<;>(try exact aO rfl);case pointer.pointer a b=>
     cases a<;>cases b<;>simp only[aV,Fg,dK]<;>try exact aQ rfl
     rename_i a b;refine aW (dW F e) λn=>?_;split;exact DU R a b;rw[addr_eq R];split;exact aQ rfl;exact aW jz λn=>aQ rfl
    all_goals(try cases‹Option Addr›)<;>(try cases‹Option Addr›)<;>exact aO rfl
   case unsafePointer=>
    cases x<;>cases y<;>try exact aO rfl
    simp only[aV];exact Gb R _ _
   case struct s=>
    cases x<;>cases y<;>try exact aO rfl
    rename_i j o;simp only[aV];refine ju ?_;rw[nK F];split;exact aO rfl;refine aW (Cx s _ λf z b=>?_) λr=>?_;split;refine aW (kZ F f.type j f.offset) λv=>aW (kZ F f.type o f.offset) λi=>aW (q f.type v i<|Ac.1 g f z) λe=>?_;split<;>exact aQ rfl;exact aQ rfl;split<;>exact aQ rfl
   case array n e=>
    cases x<;>cases y<;>try exact aO rfl
    rename_i j o;simp only[aV];refine aW (dW F e) λm=>aW (Cy n _ λf b=>?_) λr=>?_;refine aW (kZ F e j _) λv=>aW (kZ F e o _) λi=>aW (q e v i g) λe=>?_;split<;>exact aQ rfl;split<;>exact aQ rfl
   all_goals first|cases g|skip
   all_goals cases x<;>cases y<;>(try exact aO rfl)<;>(try cases‹Option Addr›)<;>(try cases‹Option Addr›)<;>(try cases‹Option Nat›)<;>(try cases‹Option Nat›)<;>(try exact aO rfl)<;>simp only[aV,XT,oK,Fg,dK]<;>first|exact aQ rfl|exact aO rfl|(split;exact aQ rfl;exact aO rfl)
end
end Go.Ren
