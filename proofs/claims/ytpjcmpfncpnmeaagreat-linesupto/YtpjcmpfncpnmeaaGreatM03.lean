import Derived.Test.YtpjcmpfncpnmeaaGreatProg
import Derived.WalkKit
import Derived.WalkSpells
import Derived.WalkLawsBesides
import Derived.BigQuiet
import Derived.Maps.AppendAt
import Derived.Lib.AppendStr
import Derived.Maps.Keyed
import Derived.MapViews
import Derived.RangeFuncNested
import Derived.RangeFuncLeaves
import Derived.RangeFuncBound
import Derived.RangeFuncCalls
import Derived.Conc.Own4
import Derived.Test.YtpjcmpfncpnmeaaGreatM02
set_option linter.all false
set_option maxHeartbeats 1000000
set_option maxRecDepth 100000
namespace Go.Proofs
open Go.Ren
section
class VB where
 b:Bool
variable[VB]
def aI.or(c:Code):Code:=bif VB.b then c else .refuse "not here"
def aI.o(d:Nat)(op:Op)(t:TypeId):Oper:={dst:=some d,op:=op,type:=t,pos:= "",after:=#[],guard:=none}
def aI.st(op:Op):Oper:={dst:=none,op:=op,type:=0,pos:= "",after:=#[],guard:=none}
def aI.here(c:Code):Code:=(Code.region 2 #[aI.o 2 (.binOp .eql 170 (.tmp 0) (.const<|.pointer none) 170) 4] false).seq<|(Code.cond (.tmp 2) (.refuse "no lock") .skip).seq c
def aI.count:Array Oper:=#[aI.o 5 (.fieldAddr 120 (.tmp 0) 3) 0,aI.o 6 (.fieldAddr 118 (.tmp 5) 1) 0,aI.o 7 (.load 21<|.tmp 6) 21]
def aI.state:Array Oper:=#[aI.o 8 (.fieldAddr 120 (.tmp 0) 0) 0,aI.o 9 (.fieldAddr 115 (.tmp 8) 1) 0,aI.o 10 (.fieldAddr 113 (.tmp 9) 0) 0,aI.o 11 (.load 21<|.tmp 10) 21]
def aI.YW:Array Oper:=#[aI.o 14 (.fieldAddr 120 (.tmp 0) 1) 0,aI.o 15 (.load 111<|.tmp 14) 111,aI.o 16 (.fieldAddr 120 (.tmp 0) 2) 0,aI.o 17 (.load 111<|.tmp 16) 111]
def aI.only(id t:Nat)(l h:Int)(c:Code):Code:=(Code.region id #[aI.o 12 (.binOp .lss 21 (.tmp t) (.const<|.int .i32 l) 21) 4,aI.o 13 (.binOp .lss 21 (.const<|.int .i32 h) (.tmp t) 21) 4] false).seq
 ((Code.cond (.tmp 12) (.refuse "not so") .skip).seq<|(Code.cond (.tmp 13) (.refuse "not so") .skip).seq c)
def aI.cells(l h:Int)(c:Code):Code:=aI.here<|(Code.region 0 (aI.count++aI.state++aI.YW) false).seq (aI.only 3 7 l h c)
def aI.rlock:Code:=aI.cells 0 2147483646 (Code.region 1 #[aI.o 18 (.binOp .add 21 (.tmp 7) (.const<|.int .i32 1) 21) 21,aI.st (.store 21 (.tmp 6)<|.tmp 18)] false)
def aI.runlock:Code:=aI.cells 1 2147483647 (Code.region 1 #[aI.o 18 (.binOp .sub 21 (.tmp 7) (.const<|.int .i32 1) 21) 21,aI.st (.store 21 (.tmp 6)<|.tmp 18)] false)
def aI.lock:Code:=aI.cells 0 0<|aI.only 4 11 0 0 (Code.region 1 #[aI.st<|.store 21 (.tmp 10) (.const<|.int .i32 1),aI.st (.store 21 (.tmp 6)<|.const (.int .i32<|-1073741824))] false)
def aI.unlock:Code:=aI.cells (-1073741824) (-1073741824)<|aI.only 4 11 1 1 (Code.region 1 #[aI.st<|.store 21 (.tmp 6) (.const<|.int .i32 0),aI.st<|.store 21 (.tmp 10) (.const<|.int .i32 0)] false)
def aI.rF:Code:=(Code.region 0 #[aI.o 5 (.call {callee:=.builtin .len,args:=#[.tmp 0],argTypes:=#[126]}) 3,aI.o 6 (.binOp .lss 3 (.const ↑aA) (.tmp 1) 3) 4,aI.o 16 (.binOp .lss 3 (.const<|.int .i64 2147483646) (.tmp 1) 3) 4,aI.o 17 (.binOp .lss 3 (.const<|.int .i64 2147483646) (.tmp 5) 3) 4] false).seq
 ((Code.cond (.tmp 6) .skip<|.refuse "no workers").seq ((Code.cond (.tmp 16) (.refuse "too many workers") .skip).seq<|(Code.cond (.tmp 17) (.refuse "too many trials") .skip).seq
 ((Code.region 6 #[aI.o 4 (.assign (.const<|.slice none 0 0)) 301,aI.o 3 (.makeSlice 301 (.tmp 5)<|.tmp 5) 301,aI.o 2 (.move<|.const ↑aA) 3] false).seq
 ((Code.block 0<|Code.loop ((Code.region 1 #[aI.o 7 (.binOp .lss 3 (.tmp 2) (.tmp 5) 3) 4] false).seq
   ((Code.cond (.tmp 7) .skip<|.exit 0).seq
   ((Code.region 7 #[aI.o 22 (.binOp .eql 126 (.tmp 0) (.const<|.slice none 0 0) 126) 4] false).seq
   ((Code.cond (.tmp 22) (.refuse "no trials") .skip).seq
   ((Code.region 2 #[aI.o 8 (.indexAddr 126 (.tmp 0)<|.tmp 2) 0,aI.o 9 (.load 298<|.tmp 8) 298,aI.o 10 (.field 298 (.tmp 9) 0) 9,aI.o 11 (.field 298 (.tmp 9) 1) 9,aI.o 12 (.field 298 (.tmp 9) 2) 9,aI.o 13 (.field 298 (.tmp 9) 3) 3,
     aI.o 14 (.call {callee:=.builtin .len,args:=#[.tmp 10],argTypes:=#[9]}) 3,aI.o 14 (.call {callee:=.builtin .len,args:=#[.tmp 11],argTypes:=#[9]}) 3,aI.o 14 (.call {callee:=.builtin .len,args:=#[.tmp 12],argTypes:=#[9]}) 3,
     aI.o 15 (.binOp .lss 3 (.const<|.int .i64 9223372036854775807) (.tmp 13) 3) 4] false).seq
   ((Code.cond (.tmp 15) (.refuse "too high") .skip).seq
   ((Code.region 3 #[aI.o 18 (.call {callee:=.value<|.func 221,args:=#[.tmp 10,.tmp 11,.tmp 12,.tmp 13],argTypes:=#[9,9,9,3]}) 0] false).seq
   (Code.region 4 #[aI.o 19 (.extract (.tmp 18) 0) 38,aI.o 20 (.indexAddr 301 (.tmp 3)<|.tmp 2) 0,aI.st (.store 38 (.tmp 20)<|.tmp 19),aI.o 21 (.binOp .add 3 (.tmp 2) (.const ↑aG) 3) 3,aI.o 2 (.move<|.tmp 21) 3] false))))))))).seq
 ((Code.region 5 #[aI.o 4 (.assign<|.tmp 3) 301] false).seq .ret)))))
def aI.code(k:FuncId):Option Code:=if k=43 then some (aI.or aI.rlock)else if k=44 then some (aI.or aI.runlock)else if k=35 then some (aI.or aI.lock)else if k=36 then some (aI.or aI.unlock)
 else if k=205 then some (aI.or aI.rF)
 else if[2,118,120,160,218,222].contains k then some (.refuse "not here")else none
def aI.iV(k:FuncId)(f:Func):Func:=match aI.code k with
 |some c=>{f with body:=some c}
 |none=>if f.body.isNone&&k !=186 then{f with name:= "none",origin:= "none" }else f
noncomputable def Vp:Program:={Tryz.prog with globals:=#[],rt:={Tryz.prog.rt with typeAssertionError:=0},funcs:=Tryz.prog.funcs.mapIdx aI.iV}
structure CoV
instance:CoeFun CoV (λ_=>FuncId->Array Value->World->(Ending->World->Prop)->Prop):=⟨λ_=>Calls Vp⟩
def Cv:CoV:=⟨⟩
def aI.ZX{b c:Type}(a:Array b)(f:Nat->b->c)(k):(a.mapIdx f)[k]?=(a[k]?).map (f k):=Array.getElem?_mapIdx
def aI.aeD:Vp.funcs=Tryz.prog.funcs.mapIdx aI.iV:=K8
def aI.at(k):Vp.funcs[k]?=(Tryz.prog.funcs[k]?).map (aI.iV k):=by rw[aI.aeD];generalize Tryz.prog.funcs=a;exact aI.ZX a _ k
def yZ:=@aI.at
def aI.aeE:(Tryz.prog.types.all λi=>i.zero.all LU)=true:=K8
def aI.aeF:(Tryz.prog.types.all λi=>Co Tryz.prog.types.size i.desc)=true:=K8
def aI.fit{G:Gs}:Fit G Vp Tryz.prog where
 tab:=rfl;rts:=rfl;ta:=λe h=>by
  have:Vp.underlying 0=some (.tuple #[]):=by kernel_rfl
  have h:Vp.underlying 0=some (.pointer e):=h;rw[this]at h;cases h
 zero:=λi hi v hv=>by have:=Ac.1 aI.aeE i hi;rw[hv]at this;exact this
 desc:=λi hi=>Ac.1 aI.aeF i hi;none:=rfl;fol:=rfl;ajG:=by show Tryz.prog.globals.size<=1;rw[Tryz.globals_size];decide
def pS:=@aI.fit
end
section
variable[VB]
def aI.X(k:FuncId):Prop:=(aI.code k).isSome=true
def aI.agO{k}(h:¬aI.X k)(f):(aI.iV k f).body=f.body/\(aI.iV k f).ntmps=f.ntmps:=by
 have:aI.code k=none:=by
  unfold aI.X at h;rcases a:aI.code k with _|c;.rfl
  rw[a]at h;exact absurd rfl h
 unfold aI.iV;rw[this];dsimp only;split<;>exact⟨rfl,rfl⟩
def aeG:=@aI.agO
def aI.keep(k f):(aI.iV k f).results=f.results/\(aI.iV k f).norace=f.norace:=by
 unfold aI.iV;split;.simp
 .grind
def aI.aeH:Vp.types=Tryz.prog.types:=K8
def aI.inits_eq:Vp.inits=#[2]:=K8
def ahS:=@aI.inits_eq
def aI.ajd:(Tryz.prog.funcs.toList.zipIdx.all λx=>(aI.code x.2).isSome||x.1.body.all (eA Vp))=true:=K8
def aI.aeI:(Tryz.prog.funcs.toList.zipIdx.all λx=>x.2==186||ET (aI.iV x.2 x.1) x.1)=true:=K8
def aI.agP:(Sd Tryz.prog.types λf=>(Tryz.prog.funcs[f]?).all λF=>qT<|aI.iV f F)=true:=K8
def aI.aje{T}(h:(Tryz.prog.funcs.toList.zipIdx.all T)=true){k:FuncId}{f}(a:Tryz.prog.funcs[k]?=some f):T (f,k)=true:=by grind
def QS:=@aI.aje
def aI.agQ(f):(Vp.funcs[f]?).all qT=(Tryz.prog.funcs[f]?).all λF=>qT (aI.iV f F):=by rw[yZ];cases Tryz.prog.funcs[f]?<;>rfl
def aI.dry:Gx Vp=true:=by
 have h:Gx Vp=Sd Tryz.prog.types λf=>(Tryz.prog.funcs[f]?).all λF=>qT (aI.iV f F):=by rw[Gx,aI.aeH];exact congrArg _<|funext aI.agQ
 rw[h];exact aI.agP
def aI.kin:Dz aI.X Vp Tryz.prog where
 sort:=λf=>by
  rw[yZ];rcases Tryz.prog.funcs[f]? with _|fn;.rfl
  simp[dK,(aI.keep f fn).1,(aI.keep f fn).2]
 same:=λf hX args k=>by
  unfold Frame.enter;rw[yZ];rcases Tryz.prog.funcs[f]? with _|fn;.rfl
  simp[dK,zZ,(aeG hX fn).1,(aeG hX fn).2]
 dry:=ab6 aI.dry;ok:=λf hX=>by
  constructor
  .rw[yZ];rcases hf:Tryz.prog.funcs[f]? with _|fn;.rfl
   have:=QS aI.ajd hf;simp[Jc]at this;simp[dK,Uu,(aeG hX fn).1];exact this.resolve_left hX
  .unfold yt;rw[ahS];have:f≠2:=λh=>hX (by subst h;rfl);rw[aha,ahb];simp[this]
def Fw:=@aI.kin
def aI.calls{G}:jU G Vp Tryz.prog:=by intro e R f A;cases a:Tryz.prog.funcs[f]? with
 |none=>refine ju ?_;rw[yZ,a];exact aO rfl
 |some F=>
   have c:Vp.funcs[f]?=some (aI.iV f F):=by rw[yZ,a];rfl
   have:=QS aI.aeI a;simp at this;obtain rfl|h:=this
   .have b:F=Tryz.f186:=by rw[Tryz.func186]at a;exact(iN a).symm
    have d:aI.iV 186 F=F:=by rw[b];kernel_rfl
    rw[d]at c;exact ab9 c a (by rw[b];rfl) (by rw[b];rfl) (by rw[b];rfl) A
   .exact EU c a h A
def Jv:=@aI.calls
end
section
variable[iv:VB]
def aI.ahX{G:Gs}:Fit G Vp Vp where tab:=rfl;rts:=rfl;ta:=(pS (G:=G)).ta;zero:=(pS (G:=G)).zero;desc:=(pS (G:=G)).desc;none:=(pS (G:=G)).none;fol:=(pS (G:=G)).fol;ajG:=by have:Vp.globals.size=0:=(pS (G:=G)).none;omega
def aI.agS:(Tryz.prog.funcs.toList.zipIdx.all λx=>(aI.iV x.2 x.1).body.all<|eA Vp)=true:=by obtain⟨_|_⟩:=iv<;>kernel_rfl
def aI.ZY:(Tryz.prog.funcs.toList.zipIdx.all λx=>x.2==186||ET (aI.iV x.2 x.1) (aI.iV x.2 x.1))=true:=by obtain⟨_|_⟩:=iv<;>kernel_rfl
def aI.X0(k:FuncId):Prop:=k=2
def aI.Xv:Dz aI.X0 Vp Vp where
 sort:=λf=>rfl;same:=λf hX args k=>rfl;dry:=ab6 aI.dry;ok:=λf hX=>by
  constructor
  .rw[yZ];rcases hf:Tryz.prog.funcs[f]? with _|fn;.rfl
   exact QS aI.agS hf
  .unfold yt;rw[ahS];have:f≠2:=hX;rw[aha,ahb];simp[this]
def aI.aa7{G}:jU G Vp Vp:=by intro d R f A;cases a:Tryz.prog.funcs[f]? with
 |none=>refine ju ?_;rw[yZ,a];exact aO rfl
 |some F=>
   have b:Vp.funcs[f]?=some (aI.iV f F):=by rw[yZ,a];rfl
   have:=QS aI.ZY a;simp at this;obtain rfl|h:=this
   .have c:F=Tryz.f186:=by rw[Tryz.func186]at a;exact(iN a).symm
    exact ab9 b b (by rw[c];rfl) (by rw[c];rfl) (by rw[c];rfl) A
   .exact EU b b h A
def ahg:=@aI.aa7
end
instance:VB:=⟨true⟩
def aI.or_eq(c):aI.or c=c:=rfl
def Pq:=@aI.or_eq
section
variable[VB]
def aI.agR(t:TypeId):Vp.info? t=Tryz.prog.info? t:=((pS (G:=Gs.self)).info t).symm
def ahT:=@aI.agR
def aI.Pn(t:TypeId):Vp.underlying t=Tryz.prog.underlying t:=((pS (G:=Gs.self)).under t).symm
def aeJ:=@aI.Pn
def aI.aeK:Vp.depth=Tryz.prog.depth:=(pS (G:=Gs.self)).depth.symm
def aI.YF(t:TypeId)(w:World):Sem.run Vp (underlying t) w=Sem.run Tryz.prog (underlying t) w:=by have h:=aeJ t;generalize Vp=V,Tryz.prog=P at h;show Sem.run V (match V.underlying t with|some i=>pure i|none=>stuck "no such type") w=Sem.run P (match P.underlying t with|some i=>pure i|none=>stuck "no such type") w;rw[h];cases P.underlying t<;>rfl
def aI.SJ(t:TypeId)(w:World):Sem.run Vp (sizeOf t) w=Sem.run Tryz.prog (sizeOf t) w:=by have h:=ahT t;generalize Vp=V,Tryz.prog=P at h;show Sem.run V ((match V.info? t with|some i=>(pure i:Sem TypeInfo)|none=>stuck "no such type")>>=fun i=>pure i.size) w=Sem.run P ((match P.info? t with|some i=>(pure i:Sem TypeInfo)|none=>stuck "no such type")>>=fun i=>pure i.size) w;rw[h];cases P.info? t<;>rfl
def aI.YG(t:TypeId)(w:World):Sem.run Vp (isAgg t) w=Sem.run Tryz.prog (isAgg t) w:=by
 have h:=aeJ t;generalize Vp=V,Tryz.prog=P at h;unfold isAgg underlying;show Sem.run V ((match V.underlying t with|some i=>(pure i:Sem TypeDesc)|none=>stuck "no such type")>>=_) w=Sem.run P ((match P.underlying t with|some i=>(pure i:Sem TypeDesc)|none=>stuck "no such type")>>=_) w;rw[h];obtain _|d:=P.underlying t;.rfl
 cases d<;>rfl
def aI.Pm(t:TypeId)(w:World):Sem.run Vp (zeroValue t) w=Sem.run Tryz.prog (zeroValue t) w:=by
 have h:=ahT t;generalize Vp=V,Tryz.prog=P at h;unfold zeroValue typeInfo;show Sem.run V ((match V.info? t with|some i=>(pure i:Sem TypeInfo)|none=>stuck "no such type")>>=_) w=Sem.run P ((match P.info? t with|some i=>(pure i:Sem TypeInfo)|none=>stuck "no such type")>>=_) w;rw[h];rcases P.info? t with _|i;.rfl
 show Sem.run V (match i.zero with|some v=>pure v|none=>_) w=Sem.run P (match i.zero with|some v=>pure v|none=>_) w;cases i.zero<;>rfl
def aI.acJ(t:TypeId):Vp.eqGuardType Vp.depth t=Tryz.prog.eqGuardType Tryz.prog.depth t:=by rw[aI.aeK];exact(wQ (pS (G:=Gs.self)) _ t).symm
def aI.afw(t:TypeId):Vp.stoodInHeld t=Tryz.prog.stoodInHeld t:=(nK (pS (G:=Gs.self)) t).symm
def aI.mH{k:FuncId}{f F:Func}(h:Tryz.prog.funcs[k]?=some f)(a:aI.iV k f=F):Vp.funcs[k]?=some F:=by rw[yZ,h,<-a];rfl
def ahU:=@aI.mH
def fA{k:FuncId}{f:Func}(h:Tryz.prog.funcs[k]?=some f)(a:aI.iV k f=f:=by kernel_rfl):Vp.funcs[k]?=some f:=ahU h a
def aI.EU{k:FuncId}{f:Func}(h:Vp.funcs[k]?=some f)(a:(f.name != "runtime.NumGoroutine" &&f.body.isSome)=true)(A:Array Value)(w:World):Sem.run Vp (callFunc k A) w=.ok (.enter k A) w:=by
 generalize Vp=V at h;simp only[fx,bne_iff_ne,ne_eq]at a;have b:(f.name== "runtime.NumGoroutine")=false:=by simpa using a.1
 have c:f.body.isNone=false:=by cases d:f.body<;>simp_all
 unfold callFunc;show Sem.run V (match V.funcs[k]? with|none=>_|some fn=>_) w=_;rw[h];simp only[b,c];rfl
def aI.aeL[i:VB]:(Tryz.prog.funcs.toList.zipIdx.all fun x=>948559850354378300919254617374764096198596052598368231327086918751051615110684572>>>x.2%2 !=1||((aI.iV x.2 x.1).name != "runtime.NumGoroutine" &&(aI.iV x.2 x.1).body.isSome))=true:=by obtain⟨_|_⟩:=i<;>kernel_rfl
def aI.acK{k:FuncId}{a w}(h:948559850354378300919254617374764096198596052598368231327086918751051615110684572>>>k%2=1):Sem.run Vp (callFunc k a) w=.ok (.enter k a) w:=by
 have s:Tryz.prog.funcs.size=286:=by kernel_rfl
 by_cases g:k<286;.have b:=qs (xs:=Tryz.prog.funcs) (i:=k) (by rw[s];exact g);have c:=QS aI.aeL b;exact aI.EU (ahU b rfl) (by simpa[h]using c) a w
 .obtain⟨j,rfl⟩:=Nat.exists_eq_add_of_le (Nat.le_of_not_lt g);rw[Nat.shiftRight_add,show _>>>286=0 from rfl,Nat.zero_shiftRight]at h;cases h
def aI.rJ{t:TypeId}{d:Option TypeDesc}(h:Tryz.prog.underlying t=d):Vp.underlying t=d:=(aeJ t).trans h
def BC:=@aI.rJ
end
end Go.Proofs
namespace Go.Proofs.aI
section
variable[VB]
@[simp] def sS:=SJ
@[simp] def sU:=YF
@[simp] def sA:=YG
@[simp] def sZ:=Pm
@[simp] def sE:=Pn
@[simp] def sG:=acJ
@[simp] def sH:=afw
@[simp] def sC{k a w}:=@acK _ k a w
def underlying123:=rJ Tryz.underlying123
def underlying104:=rJ Tryz.underlying104
def underlying329:=rJ Tryz.underlying329
noncomputable def f160:Func:=iV 160 Tryz.f160
@[simp] theorem func160:Vp.funcs[160]?=some f160:=mH Tryz.func160 rfl
def underlying5:=rJ Tryz.underlying5
def underlying9:=rJ Tryz.underlying9
def underlying53:=rJ Tryz.underlying53
def underlying154:=rJ Tryz.underlying154
def underlying170:=rJ Tryz.underlying170
noncomputable def f43:Func:=iV 43 Tryz.f43
@[simp] theorem func43:Vp.funcs[43]?=some f43:=mH Tryz.func43 rfl
def SK:f43.ntmps=Tryz.f43.ntmps:=by kernel_rfl
@[simp] def ntmps43:=SK.trans Tryz.ntmps43
def underlying33:=rJ Tryz.underlying33
def underlying41:=rJ Tryz.underlying41
def underlying48:=rJ Tryz.underlying48
def underlying87:=rJ Tryz.underlying87
def underlying91:=rJ Tryz.underlying91
def underlying121:=rJ Tryz.underlying121
def underlying132:=rJ Tryz.underlying132
noncomputable def f2:Func:=iV 2 Tryz.f2
@[simp] theorem func2:Vp.funcs[2]?=some f2:=mH Tryz.func2 rfl
noncomputable def f44:Func:=iV 44 Tryz.f44
@[simp] theorem func44:Vp.funcs[44]?=some f44:=mH Tryz.func44 rfl
def SL:f44.ntmps=Tryz.f44.ntmps:=by kernel_rfl
@[simp] def ntmps44:=SL.trans Tryz.ntmps44
noncomputable def f35:Func:=iV 35 Tryz.f35
@[simp] theorem func35:Vp.funcs[35]?=some f35:=mH Tryz.func35 rfl
def SM:f35.ntmps=Tryz.f35.ntmps:=by kernel_rfl
@[simp] def ntmps35:=SM.trans Tryz.ntmps35
noncomputable def f118:Func:=iV 118 Tryz.f118
@[simp] theorem func118:Vp.funcs[118]?=some f118:=mH Tryz.func118 rfl
noncomputable def f218:Func:=iV 218 Tryz.f218
@[simp] theorem func218:Vp.funcs[218]?=some f218:=mH Tryz.func218 rfl
noncomputable def f222:Func:=iV 222 Tryz.f222
@[simp] theorem func222:Vp.funcs[222]?=some f222:=mH Tryz.func222 rfl
def underlying3:=rJ Tryz.underlying3
def underlying88:=rJ Tryz.underlying88
def underlying122:=rJ Tryz.underlying122
def underlying126:=rJ Tryz.underlying126
def underlying158:=rJ Tryz.underlying158
def underlying194:=rJ Tryz.underlying194
noncomputable def f36:Func:=iV 36 Tryz.f36
@[simp] theorem func36:Vp.funcs[36]?=some f36:=mH Tryz.func36 rfl
def SN:f36.ntmps=Tryz.f36.ntmps:=by kernel_rfl
@[simp] def ntmps36:=SN.trans Tryz.ntmps36
noncomputable def f120:Func:=iV 120 Tryz.f120
@[simp] theorem func120:Vp.funcs[120]?=some f120:=mH Tryz.func120 rfl
noncomputable def f205:Func:=iV 205 Tryz.f205
@[simp] theorem func205:Vp.funcs[205]?=some f205:=mH Tryz.func205 rfl
def Po:f205.ntmps=Tryz.f205.ntmps:=by kernel_rfl
@[simp] def ntmps205:=Po.trans Tryz.ntmps205
end
end Go.Proofs.aI
namespace Go.Proofs.aH
open Go.RowKit Tryz
section
variable[Go.Proofs.VB]
def pV(n l h:Int):Bool:=decide (l<=n)&&decide (n<=h)
def SV(n l H w):Cv 150 #[.int .i64 n,.int .i64 l,.int .i64 H] w λe W=>e=.returned (pV n l H)/\W=w:=by
 by_cases h:l<=n;.go_enter fA func150,ntmps150;go_wp2;go_ret;simp[pV,h]
 have a:decide (l<=n)=false:=by simpa using h
 go_enter fA func150,ntmps150;go_wp2;go_ret;simp[pV,a]
def SD(b:Bool):Int:=if b then 0 else 1
def M6(b:Bool):Int:=if b then 0 else 8
def IX(b w):Cv 187 #[.bool b] w λe W=>e=.returned (.tuple #[(SD b),(M6 b)])/\W=w:=by
 cases b;all_goals go_enter fA func187,ntmps187;go_wp2;go_ret2;simp[SD,M6]
def Br(t:ByteArray)(i:Int)(k:ByteArray):Bool:=(((t.size:Int)==8)&&pV i 0 255)&&decide ((k.size:Int)<=32)
def xg(v:Int)(l:ByteArray):Bool:=pV v 0 4294967295&&decide ((l.size:Int)<=32)
end
structure jB where
 tx:ByteArray
 idx:Int
 key:ByteArray
structure dD where
 val:Int
 lock:ByteArray
def afL(w:World)(b o:Nat)(x:jB):Prop:=w.cell? ⟨b,o,none⟩=some (.string x.tx)/\w.cell? ⟨b,o+1,none⟩=some (.int .i64 x.idx)/\w.cell? ⟨b,o+2,none⟩=some (.string x.key)
def Wj(w:World)(b o:Nat)(x:dD):Prop:=w.cell? ⟨b,o,none⟩=some (.int .i64 x.val)/\w.cell? ⟨b,o+1,none⟩=some (.string x.lock)
structure uk(w:World)(v:Value)(l:List jB):Prop where
 form:∃a c,v=.slice a l.length c/\(l≠[]->∃b o,a=some ⟨b,o,none⟩/\∀i x,l[i]?=some x->afL w b (o+i*3) x)
 len:l.length<=140737488355328
structure mg(w:World)(v:Value)(l:List dD):Prop where
 form:∃a c,v=.slice a l.length c/\(l≠[]->∃b o,a=some ⟨b,o,none⟩/\∀i x,l[i]?=some x->Wj w b (o+i*2) x)
 len:l.length<=140737488355328
structure ku where
 tag:Int
 iv:Value
 ins:List jB
 ov:Value
 outs:List dD
structure ada(w:World)(b o:Nat)(t:ku):Prop where
 tag:w.cell? ⟨b,o,none⟩=some (.int .i64 t.tag)
 iv:w.cell? ⟨b,o+1,none⟩=some t.iv
 ov:w.cell? ⟨b,o+2,none⟩=some t.ov
 ins:uk w t.iv t.ins
 outs:mg w t.ov t.outs
structure xw(w:World)(v:Value)(l:List ku):Prop where
 form:∃a c,v=.slice a l.length c/\(l≠[]->∃b o,a=some ⟨b,o,none⟩/\∀i t,l[i]?=some t->ada w b (o+i*3) t)
 len:l.length<=140737488355328
def aM{w W}(b:Below w.heap.size w W){a v}(h:w.cell? a=some v):W.cell? a=some v:=by rw[b.cell<|Jj w a h];exact h
def afL.keep{w W b o x}(h:afL w b o x)(a:Below w w W):afL W b o x:=⟨aM a h.1,aM a h.2.1,aM a h.2.2⟩
def Wj.keep{w W b o x}(h:Wj w b o x)(a:Below w w W):Wj W b o x:=⟨aM a h.1,aM a h.2⟩
def uk.keep{w W v l}(h:uk w v l)(e:Below w w W):uk W v l:=by have⟨⟨a,c,m,g⟩,j⟩:=h;refine⟨⟨a,c,m,λk=>?_⟩,j⟩;have⟨b,o,d,f⟩:=g k;exact⟨b,o,d,λi x n=>(f i x n).keep e⟩
def mg.keep{w W v l}(h:mg w v l)(e:Below w w W):mg W v l:=by have⟨⟨a,c,m,g⟩,j⟩:=h;refine⟨⟨a,c,m,λk=>?_⟩,j⟩;have⟨b,o,d,f⟩:=g k;exact⟨b,o,d,λi x n=>(f i x n).keep e⟩
def ada.keep{w W b o t}(h:ada w b o t)(a:Below w w W):ada W b o t:=⟨aM a h.tag,aM a h.iv,aM a h.ov,h.ins.keep a,h.outs.keep a⟩
def xw.keep{w W v l}(h:xw w v l)(e:Below w w W):xw W v l:=by have⟨⟨a,c,m,g⟩,j⟩:=h;refine⟨⟨a,c,m,λk=>?_⟩,j⟩;have⟨b,o,d,f⟩:=g k;exact⟨b,o,d,λi x n=>(f i x n).keep e⟩
def kL{w W:World}{c t}(a:Below (w+1) (w.alloc<|.cells c t) W)(j v)(h:c[j]?=some v):W.cell? ⟨(w:Nat),j,none⟩=some v:=by
 rw[a.cell (p:=((w:Nat),j))<|Dm _];simp;simp[h]
def iZ{w W o}(a:Below (↑w+1) (w.alloc o) W):Below w.heap.size w W:=(B0.alloc L9 _).trans (a.mono<|Nat.le_succ _)
def aj3{B w W d o}(a:Below B w W)(c:B<=w)(b:Below (W.alloc o) (W.alloc o) d):Below B w d:=have h:=a.size;(a.alloc O9 o).trans (b.mono<|by simp;omega)
def mD{B w W d}(a:Below B w W)(c:B<=w)(b:Below W W d):Below B w d:=have h:=a.size;a.trans (b.mono O9)
section
variable[Go.Proofs.VB]
def jB.fits(x:jB):Bool:=Br x.tx x.idx x.key
def dD.fits(x:dD):Bool:=xg x.val x.lock
def gM(t:Int)(i:List jB)(o:List dD)(first:Bool):Bool:=pV t 0 65535&&pV i.length (SD first) (M6 first)&&pV o.length 1 8&&i.all jB.fits&&o.all dD.fits
def ku.fits(t:ku)(first:Bool):Bool:=gM t.tag t.ins t.outs first
def sY{a:Type}(p:a->Bool)(l:List a)(k x)(h:l[k]?=some x):(l.take<|k+1).all p=((l.take k).all p&&p x):=by rw[oz,h];simp
def all_false{b:Type}(p:b->Bool)(l:List b)(k:Nat)(x)(h:l[k]?=some x)(a:p x=false):l.all p=false:=by grind
def dI(P:ByteArray)(b n:Int)(t:List ku):Bool:=((P.size:Int)==8)&&pV b 0 8&&pV n 0 65535&&pV t.length 1 8&&t.zipIdx.all (λp=>p.1.fits<|(p.2:Int)==0)
def aK{p}(h:p):Hid p:=h
def byteOf(x:Int):UInt8:=UInt8.ofNat x.toNat
def fV(x)(h:0<=x)(a:x<256):((byteOf x).toNat:Int)=x:=by unfold byteOf;rw[UInt8.toNat_ofNat'];omega
def be(n:Int):Nat->List UInt8
 |0=>[]
 |k+1=>byteOf (n/2^(8*k)%256)::be n k
def bI(n k):(be n k)=k:=by induction k with
 |zero=>rfl
 |succ k a=>simp[be,a]
def bv(l:List UInt8):List Value:=l.map λb=>Value.int .u8 b.toNat
def J4(a b):bv (a++b)=bv a++bv b:=by simp[bv]
def qH(a):(bv a)=a.length:=by simp[bv]
def GK(l):∀u∈bv l,u.oneCell'=true:=by intro u a;simp[bv]at a;obtain⟨b,_,rfl⟩:=a;rfl
def mN(B:Nat)(w:World)(v:Value)(l:List UInt8):Prop:=w.ownsRow B 5 1 v l.length<|bv l
structure Ca(w w':World)(v v':Value):Prop where
 grown:w.grownBy w' v.ownBlock
 aik:v'.ownBlock=v.ownBlock\/∃g,v'.ownBlock=some g/\w.heap.size<=g
def bT(w:World)(r):w.grownBy w r:=⟨rfl,rfl,rfl,L9,λ_ _ _=>rfl⟩
def Ca.refl(w v):Ca w w v v:=⟨bT _ _,.inl rfl⟩
def Ca.trans{a b c u v x}(h:Ca a b u v)(k:Ca b c v x):Ca a c u x:=by
 refine⟨⟨k.grown.os.trans h.grown.os,k.grown.tape.trans h.grown.tape,k.grown.output.trans h.grown.output,cA h.grown.size k.grown.size,λi H m=>?_⟩,?_⟩;have l:=k.grown.block i (fI H h.grown.size) (by obtain e|⟨g,e,d⟩:=h.aik;simp_all;rw[e];intro f;cases f;omega)
 exact l.trans<|h.grown.block i H m;obtain e|⟨g,e,d⟩:=k.aik;rw[e];exact h.aik;exact .inr ⟨g,e,cA h.grown.size d⟩
def Ca.ack{w W}(v)(a:Below w.heap.size w W):Ca w W v v:=⟨⟨a.os,a.tape,a.output,a.size,λk b _=>a.block k b⟩,.inl rfl⟩
def Ca.alloc(w v o):Ca w (w.alloc o) v v:=.ack v<|B0.alloc L9 o
def VJ:=@Ca.alloc
def Ca.below{w W v}(h:Ca w W () v):Below w w W:=⟨h.grown.os,h.grown.tape,h.grown.output,h.grown.size,λk a=>h.grown.block k a<|by simp[Value.ownBlock]⟩
def mN.nil(B w):mN B w () []:=mV _ _ _ _
def mN.alloc{B w v l}(h:mN B w v l)(o):mN B (w.alloc o) v l:=pP h o
theorem mN.lt{B w v l}(h:mN B w v l):∀k,v.ownBlock=some k->B<=k/\k<w:=nD h
theorem Ca.cell{w W v d}(h:Ca w W v d){a u}(b:w.cell? a=some u)(c:some a.block≠v.ownBlock):W.cell? a=some u:=h.grown.cell b c
def Ca.box{B w W v b l C t}(h:Ca (w.alloc<|.cells C t) W v b)(a:mN B w v l)(j)(u)(c:C[j]?=some u):W.cell? ⟨(w:Nat),j,none⟩=some u:=by
 refine h.cell ?_ ?_;simp_all;intro e;have:=(a.lt _ e.symm).2;simp at this
def Ca.base{B f w W v e l}(h:Ca w W v e)(d:mN B w v l)(a:B<=w)(b:Below B f w):Below B f W:=b.grown h.grown a λk c=>(d.lt k c).1
def aI.ail:(Vp.info? 5).map (λi=>(i.zero,i.size,i.bytes))=some (some<|.int .u8 0,1,1):=K8
def OU:=@aI.ail
def Me{B w O R o a Q}(p:o.guard=none)(s x)(q:o.op=.call {callee:=.builtin .append,args:=#[s,x],argTypes:=#[158,158]})(v)(l)(t:a.eval s=v)(r:mN B w v l)
 (b)(g)(y:a.eval x=.slice g 1 1)(n:w.cell? ⟨g,0,none⟩=some (.int .u8 b.toNat))(E:l.length<=1000000)(m:B<=w)
 (h:∀c W,mN B W c (l++[b])->Ca w W v c->wpList Vp O Q R (a.put o.dst c) W):wpList Vp O Q (o::R) a w:=by
 have⟨D,H,z,A,C⟩:=info_parts OU;refine wpList_append_own_at _ p s x 158 q B 5 D (.int .u8 0) 1 1 aI.underlying158 H z A C rfl D9 v l (bv l) t r (g,0) 1 1 (bv [b]) y rfl ?_ (GK _) (by unfold maxLen;omega) O9 m ?_;intro j u d;match j,d with
 |0,d=>simp[bv]at d;subst d;simpa[Addr.add]using n
 intro c W f i _ k;refine h c W ?_ ⟨i,k.imp id λe=>⟨_,e,L9⟩⟩;unfold mN;rw[J4,cB];exact f
def Sn{B w W v c l T}(e:mN B w v l)(t)(u:l.length<=1000000)(n:t.size<=1000000)(a:(Builtin.append_ #[158,9] T #[v,.string t]).run Vp w=.ok c W)(p:c=()↔v=()/\t.size=0):
 c.ownBlock=v.ownBlock\/∃g,c.ownBlock=some g/\w<=g:=by
 have⟨d,H,f,h,i⟩:=info_parts OU;obtain⟨rfl,_⟩|⟨g,C,r,rfl,_,j,o,_,m,q⟩:=e.2;by_cases s:t.size=0;simp_all;have b:=Go.run_append_nil_string (P:=Vp) w 158 9 T 5 d (.int .u8 0) aI.underlying158 aI.underlying9 H f t O9 O9 (by rw[i];omega);cases b▸a;exact .inr ⟨_,rfl,L9⟩;by_cases k:l+t.size<=C;have b:=Go.Lib.run_append_room_string (P:=Vp) w 158 9 T 5 d aI.underlying158 aI.underlying9 H h g l C r j t k O9;cases b▸a;exact .inl rfl;cases(Go.Lib.run_append_grow_string (P:=Vp) w 158 9 T 5 d (.int .u8 0) aI.underlying158 aI.underlying9 H f (g,0) l C (bv l) (by rw[h,qH,Fb]) (Aj e (g:=g) rfl) t O9 O9<|i▸growslice_fits O9 O9)▸a;exact .inr ⟨_,rfl,L9⟩
def Be{B w O R o a Q}(n:o.guard=none)(s x)(q:o.op=.call {callee:=.builtin .append,args:=#[s,x],argTypes:=#[158,9]})(v)(l)(r:a.eval s=v)(c:mN B w v l)
 (t)(u:a.eval x=.string t)(D:l.length<=1000000)(p:t.size<=1000000)(k:B<=w)
 (h:∀b W,mN B W b (l++t.data.toList)->Ca w W v b->wpList Vp O Q R (a.put o.dst b) W):wpList Vp O Q (o::R) a w:=by
 have⟨C,H,y,z,A⟩:=info_parts OU;refine aaj n λK m=>?_;have⟨b,W,d,f,g,i⟩:=Go.Lib.run_append_own_string (P:=Vp) w B 158 9 o.type 5 C aI.underlying158 aI.underlying9 H y z A v l (bv l) c t (by unfold maxLen;omega) O9 k;unfold Oper.wp execOp;simp[q,resolve,invoke,builtin,r,u,d];refine m _ _<|h b W ?_ ⟨g,(Sn c t D p d i)⟩;have e:(l++t.data.toList).length=l+t.size:=by rw[cB,ag1];rfl
 unfold mN;rw[J4,e];exact f
def Ua(n k):((byteOf<|n/2^(8*k)%256).toNat:Int)=n/2^(8*k)%256:=fV _ O9 O9
def je(B v l n)(W:Nat)(w)(_hn:0<=n)(x:W<=4)(u:l.length<=900000)(r:B<=↑w)(q:mN B w v l):Cv 152 #[v,.int .i64 n,W] w λe y=>∃b,e=.returned b/\mN B y b (l++be n W)/\Ca w y v b:=by
 go_enter fA func152,ntmps152;go_wp2;go_loopw [0,7] (λb i wr=>∃(k:Nat)(a:List UInt8),k<=W/\i=↑((k:Int) -1)/\a++be n k=be n W/\mN B wr b (l++a)/\Ca w wr v b) (λ_ i _=>(1+intOf i).toNat);exact⟨W,[],L9,by go_num,rfl,by simpa using q,Ca.refl _ _⟩;case round=>
  obtain⟨k,a,f,rfl,g,h,d⟩:=hrel;have c:=aK g;have s:a.length<=4:=by have:=congrArg List.length g;simp[bI]at this;omega
  have t:=d.grown.size;match k,f,c with
  |0,f,c=>go_wp2;go_ret;refine⟨_,rfl,?_,d⟩;have:=c.out;simp only[be,kY]at this;rw[<-this];exact h
  |k+1,f,c=>
    have o:(wr.alloc<|.cells #[.int .u8<|n/2^(8*k)%256] 5).cell? ((wr:Nat),0)=some (.int .u8 ((byteOf<|n/2^(8*k)%256).toNat:Int)):=by rw[Ua];simp only[World.cell?,wF];simp
    have m:=aK o;go_wp2_with (at_builtin;refine Me rfl (.tmp 14) (.tmp 20) rfl u0 (l++a) rfl (h.alloc _) (byteOf<|n/2^(8*k)%256) _ rfl (m.out) (by simp;omega) (by simp;omega) ?_;intro V z p j);go_roundw;exact⟨k,a++[byteOf<|n/2^(8*k)%256],O9,rfl,by have:=c.out;simp only[be]at this;rw[dP];exact this,by rw[<-dP];exact p,d.trans<|(VJ wr u0 _).trans j⟩;simp[intOf];omega
def gL(s:ByteArray):List UInt8:=s.data.toList
def dF(s):(gL s)=s.size:=by unfold gL;rw[Array.length_toList];rfl
def xJ(B v l s w)(k:s.size<=1000)(j:l.length<=800000)(c:B<=↑w)(h:mN B w v l):Cv 190 #[v,.string s] w λe W=>∃a,e=.returned a/\mN B W a (l++(be s.size 1++gL s))/\Ca w W v a:=by
 go_enter fA func190,ntmps190;go_wp2;refine(je B v l s.size 1 _ O9 O9 O9 c h).mono ?_;rintro e n⟨V,rfl,f,b⟩;have i:=b.grown.size;go_wp2_with (at_builtin;refine Be rfl (.tmp 9) (.tmp 10) rfl V _ rfl f s rfl (by simp[bI];omega) O9 O9 ?_;intro m o g d);go_ret;exact⟨_,rfl,by rw[<-dP];exact g,b.trans d⟩
def jB.bytes(x:jB):List UInt8:=gL x.tx++be x.idx 1++(be x.key.size 1++gL x.key)
def dD.bytes(x:dD):List UInt8:=be x.val 4++(be x.lock.size 1++gL x.lock)
def fW(t:Int)(i:List jB)(o:List dD):List UInt8:=be t 2++be i.length 1++i.flatMap jB.bytes++be o.length 1++o.flatMap dD.bytes
def jB.Small(x:jB):Prop:=x.tx.size<=8/\0<=x.idx/\x.key.size<=32/\x.idx<=255
def dD.Small(x:dD):Prop:=0<=x.val/\x.lock.size<=32/\x.val<=4294967295
def jB.jX(x:jB)(h:x.Small):x.bytes.length<=42:=by have⟨a,_,b,_⟩:=h;simp[jB.bytes,bI,dF];omega
def dD.jX(x:dD)(h:x.Small):x.bytes.length<=37:=by have⟨_,a,_⟩:=h;simp[dD.bytes,bI,dF];omega
def uh{e:Type}(f:e->List UInt8)(m)(l:List e)(h:∀x∈l,(f x).length<=m):(l.flatMap f)<=l.length*m:=by induction l with
 |nil=>simp
 |cons x l b=>have c:=h x S8;have d:=b λy a=>h y (by simp[a]);simp only[yD,cB,cQ,Nat.add_mul];omega
def lJ{a:Type}(f:a->List UInt8)(l:List a)(k x)(h:l[k]?=some x):(l.take<|k+1).flatMap f=(l.take k).flatMap f++f x:=by rw[oz,h];simp
def mE{c:Type}(f:c->List UInt8)(m)(l:List c)(k)(h:∀x∈l,(f x).length<=m):((l.take k).flatMap f)<=l.length*m:=have:=uh f m (l.take k) λx b=>h x<|UX b;cA this (UE m<|List.length_take_le' _ _)
def IW(W v l T m n b p U o w)(hi:uk W (m,b,n) b)(ad:mg W (p,o,U) o)(z:Below W W w)(j:mN W w v l)
 (ar:0<=T)(aj:b.length<=8)(ao:o.length<=8)(M:∀x∈b,x.Small)(N:∀x∈o,x.Small)(ak:l.length<=100000):
 Cv 153 #[v,.agg #[.int .i64 T,.slice m b n,.slice p o U]] w λe Y=>∃f,e=.returned f/\mN W Y f (l++fW T b o)/\Ca w Y v f:=by
 have J:=z.size;go_enter fA func153,ntmps153;go_wp2;refine(je W v l T 2 _ O9 O9 O9 (by simp;omega)<|j.alloc _).mono ?_;rintro e π⟨X,rfl,D,q⟩;have ag:(w:Nat)+1<=(π:Nat):=by simpa using q.grown.size
 have ab:=q.box j 1 _ rfl;go_wp2;refine(je W X _ b 1 _ O9 O9 (by simp[bI];omega) O9 D).mono ?_;rintro e w2⟨v2,rfl,ah,Q⟩;have t:=q.trans Q;have ab:=t.box j 1 _ rfl;go_wp2;go_loopw [0,21] (λf i wr=>∃k,k<=b.length/\i=k/\mN W wr f (l++(be T 2++be b 1++(b.take k).flatMap jB.bytes))/\Ca (w.alloc<|.cells #[T,.slice m b n,.slice p o U] 90) wr v f) (λ_ i _=>b -(intOf i).toNat);exact⟨0,cH _,rfl,by simpa using ah,t⟩;case round=>
  obtain⟨k,ac,rfl,a,c⟩:=hrel;have g:Below W W (w.alloc<|.cells #[T,.slice m b n,.slice p o U] 90):=z.alloc J _;have g:=c.base (j.alloc _) (by simp;omega) g;have S:(w:Nat)+1<=(wr:Nat):=by simpa using c.grown.size
  have L:=mE jB.bytes 42 b k λx H=>x.jX<|M x H;by_cases d:k<b
  .have⟨⟨a',P,G,A⟩,_⟩:=hi.keep g;cases G;obtain⟨aq,av,rfl,B⟩:=A (by intro h;simp[h]at d);have⟨c1,c2,c3⟩:=B k _<|aY d;have⟨am,an,au,_⟩:=M _<|oD d;go_wp2_with (at_builtin;go_must (refine Be rfl (.tmp 25) (.tmp 28) rfl u0 _ rfl (a.alloc _) b[k].tx rfl (by simp only[cB,bI];omega) O9 (by simp;omega) ?_);intro v3 w3 al s;have y1:=s.box a 1 _ rfl;have O:=s.box a 2 _ rfl);have ai:(wr:Nat)+1<=(w3:Nat):=by simpa using s.grown.size
   refine(je W v3 _ b[k].idx 1 _ O9 O9 (by simp only[cB,bI,<-gL.eq_1,dF];omega) O9 al).mono ?_;rintro e V⟨I,rfl,E,r⟩;have u:=s.trans r;have R:(wr:Nat)+1<=(V:Nat):=by simpa using u.grown.size
   have O:=u.box a 2 _ rfl;go_wp2;refine(xJ W I _ b[k].key _ O9 (by simp only[cB,bI,<-gL.eq_1,dF];omega) O9 E).mono ?_;rintro e aa⟨ap,rfl,F,y⟩;go_wp2;go_roundw;case rel=>refine⟨k+1,O9,by go_num,?_,c.trans ((VJ wr u0 _).trans<|u.trans y)⟩;rw[lJ _ _ k _<|aY d];simpa only[jB.bytes,gL,dP]using F
   case measure=>simp[intOf];omega
  have C:k=b:=O9;subst C;rw[gQ]at a;have ae:=c.box j 2 _ rfl;go_wp2;refine(je W u0 _ o.length 1 _ O9 O9 (by simp only[cB,bI];rw[gQ]at L;omega) O9 a).mono ?_;rintro e π⟨X,rfl,D,q⟩;have K:=c.trans q;have ae:=K.box j 2 _ rfl;go_wp2;go_loopw [0,48] (λf i wr=>∃k,k<=o.length/\i=k/\mN W wr f (l++(be T 2++be b.length 1++b.flatMap jB.bytes)++be o.length 1++(o.take k).flatMap dD.bytes)/\Ca (w.alloc<|.cells #[T,.slice m b.length n,.slice p o.length U] 90) wr v f) (λ_ i _=>o.length -(intOf i).toNat);exact⟨0,cH _,rfl,by simpa using D,K⟩;case round=>
   obtain⟨k,ac,rfl,a,c⟩:=hrel;have g:Below W W (w.alloc<|.cells #[T,.slice m b.length n,.slice p o.length U] 90):=z.alloc J _;have g:=c.base (j.alloc _) (by simp;omega) g;have S:(w:Nat)+1<=(wr:Nat):=by simpa using c.grown.size
   rw[gQ]at L;have af:=mE dD.bytes 37 o k λx H=>x.jX<|N x H;by_cases d:k<o.length
   .have⟨⟨a',P,G,A⟩,_⟩:=ad.keep g;cases G;obtain⟨aq,av,rfl,B⟩:=A (by intro h;simp[h]at d);have⟨c1,c2⟩:=B k _<|aY d;have⟨am,an,_⟩:=N _<|oD d;go_wp2;refine(je W u0 _ o[k].val 4 _ O9 O9 (by simp only[cB,bI];omega) (by simp;omega)<|a.alloc _).mono ?_;rintro e V⟨I,rfl,E,r⟩;have R:(wr:Nat)+1<=(V:Nat):=by simpa using r.grown.size
    have O:=r.box a 1 _ rfl;go_wp2;refine(xJ W I _ o[k].lock _ O9 (by simp only[cB,bI];omega) O9 E).mono ?_;rintro e aa⟨ap,rfl,F,y⟩;go_wp2;go_roundw;case rel=>refine⟨k+1,O9,by go_num,?_,c.trans ((VJ wr u0 _).trans<|r.trans y)⟩;rw[lJ _ _ k _<|aY d];simpa only[dD.bytes,gL,dP]using F
    case measure=>simp[intOf];omega
   have C:k=o.length:=O9;subst C;rw[gQ]at a;go_wp2;go_ret;refine⟨u0,rfl,?_,(VJ w v _).trans c⟩;simpa only[fW,dP]using a
def ku.bytes(t:ku):List UInt8:=fW t.tag t.ins t.outs
structure ku.Small(t:ku):Prop where
 tag:0<=t.tag
 ajW:t.tag<=65535
 ni:t.ins.length<=8
 no:t.outs.length<=8
 ins:∀x∈t.ins,x.Small
 outs:∀x∈t.outs,x.Small
def ku.jX(t:ku)(h:t.Small):t.bytes.length<=636:=by have b:=uh jB.bytes 42 t.ins λx a=>x.jX<|h.ins x a;have c:=uh dD.bytes 37 t.outs λx a=>x.jX<|h.outs x a;have:=h.ni;have:=h.no;simp only[ku.bytes,fW,cB,bI];omega
def fP(p:ByteArray)(b n:Int)(t:List ku):List UInt8:=gL p++be b 1++be n 2++be t.length 1++t.flatMap ku.bytes
def mN.toStr{B w v l}(h:mN B w v l):(convert 158 9 v).run Vp w=.ok (.string ⟨l.toArray⟩) w:=by obtain⟨rfl,H⟩|⟨g,C,f,rfl,_,c,d,_,b,e⟩:=h.2;have:l=[]:=lW H;subst this;exact run_convert_bytes_nil w 158 5 aI.underlying158 aI.underlying5 0 0 9 aI.underlying9;refine run_convert_bytes_back w 158 9 5 ⟨g,0,none⟩ C l aI.underlying158 aI.underlying5 aI.underlying9 ?_;intro j a;exact Aj h (g:=g) rfl j _ (by simp[bv,a])
def SE(t:ku)(first)(h:t.fits first=true):t.Small:=by
 simp only[ku.fits,gM,fx]at h;have⟨⟨⟨⟨a,e⟩,f⟩,c⟩,d⟩:=h;rw[Dn]at c d;simp[pV]at a e f;have g:M6 first<=8:=by cases first<;>simp[M6]
 refine⟨a.1,a.2,O9,O9,λx b=>?_,λx b=>?_⟩;have:=c x b;simp[jB.fits,Br,pV]at this;exact⟨O9,O9,O9,O9⟩;have:=d x b;simp[dD.fits,xg,pV]at this;exact⟨O9,O9,O9⟩
structure SF(parent:ByteArray)(bits fX:Int)(eO:List ku):Prop where
 p:parent.size=8
 b:0<=bits
 b2:bits<=8
 n:0<=fX
 n2:fX<=65535
 l:eO.length<=8
 l1:1<=eO.length
 t:∀t∈eO,t.Small
def xk{p B n T}(h:dI p B n T=true):SF p B n T:=by simp only[dI,fx]at h;have⟨⟨⟨⟨d,a⟩,b⟩,e⟩,c⟩:=h;rw[Dn]at c;simp only[pV,fx,vH,Aa]at d a b e;refine⟨O9,a.1,a.2,b.1,b.2,O9,O9,λt g=>?_⟩;obtain⟨k,f,rfl⟩:=List.mem_iff_getElem.1 g;exact SE _ _ (c (T[k],k)<|jQ.2 ⟨k,by simp[f]⟩)
def SG(p:ByteArray)(b n:Int)(t:List ku):ByteArray:=if dI p b n t then⟨(fP p b n t).toArray⟩else⟨#[]⟩
def SH(p:ByteArray)(b n:Int)(t:List ku):Int:=if dI p b n t then 0 else 1
def V4(w:World)(x)(h:0<=x)(a:x<256):(convert 158 9<|.slice (w:Nat) 1 1).run Vp (w.alloc<|.cells #[.int .u8 x] 5)=.ok (.string ⟨#[byteOf x]⟩) (w.alloc<|.cells #[.int .u8 x] 5):=by
 have:=run_convert_bytes_back (P:=Vp) (w.alloc<|.cells #[.int .u8 x] 5) 158 9 5 ((w:Nat),0) 1 [byteOf x] aI.underlying158 aI.underlying5 aI.underlying9 (by intro j b;match j,b with
  |0,_=>simp[Addr.add,wF];simp[fV x h a])
 simpa using this
def mk(l:List UInt8):ByteArray:=⟨l.toArray⟩
def eH(a b):mk a++mk b=mk (a++b):=ByteArray.mk_append_mk a b
def Bz(s):mk (gL s)=s:=rfl
theorem cD(l):(mk l).size=l:=by show l.toArray.size=_;simp
def Pw(n:Int)(j):n/2^(8*j)/256=n/2^(8*(j+1)):=by rw[Int.ediv_ediv_of_nonneg (UK<|UL D9),show(8*(j+1))=8*j+8 from by omega,Int.pow_add];rfl
end
end Go.Proofs.aH
namespace Go.CM
open Go.ChangeMaps Go.MapKept Go.Maps
section
structure yw(P:Program)(k:TypeId)(I:Value->Prop):Prop where
 check:∀(w:World)(em:Bool){v:Value},I v->(Instr.checkKey em 10000 k v).run P w=.ok () w
 eq:∀(w:World){a b:Value},I a->I b->∃r:Bool,(Op.equal k a b).run P w=.ok r w/\(r=true↔a=b)
 ajZ:∃d,P.underlying k=some d/\∀{a b:Value},I a->I b->Instr.sameNow d a b=none
def yw.find{P k I}(K:yw P k I)(w){x}(n:I x)(E)(a:∀e∈E,I e.key):((Instr.findKey k x E).run P w=.ok none w/\∀e∈E,e.key≠x)\/∃j e,(Instr.findKey k x E).run P w=.ok (some (j,e.val)) w/\E[j]?=some e/\e.key=x:=by
 have A:∀(E:List MapEntry)i,(∀e∈E,I e.key)->((Instr.findAsking k x E i).run P w=.ok none w/\∀e∈E,e.key≠x)\/∃j e,(Instr.findAsking k x E i).run P w=.ok (some (i+j,e.val)) w/\E[j]?=some e/\e.key=x:=by intro E;induction E with
  |nil=>intro i _;exact .inl ⟨by simp[Instr.findAsking],S8⟩
  |cons e E t=>intro i a;have⟨r,m,l⟩:=K.eq w n<|a e S8;cases r with
    |true=>refine .inr ⟨0,e,?_,rfl,(l.1 rfl).symm⟩;simp[Instr.findAsking,m]
    |false=>
      have v:e.key≠x:=λh=>by simpa using l.2 h.symm
      have u:=t (i+1) λb o=>a b<|by simp[o]
      have q:(Instr.findAsking k x (e::E) i).run P w=(Instr.findAsking k x E<|i+1).run P w:=by simp[Instr.findAsking,m]
      rw[q];obtain⟨c,f⟩|⟨j,b,c,f,p⟩:=u;simp_all;exact .inr ⟨j+1,b,by rw[c];congr 3;omega,by simpa using f,p⟩
 have⟨d,g,s⟩:=K.ajZ;obtain _|⟨e,E⟩:=E;exact .inl ⟨by simp[Instr.findKey,wG g,Instr.findNow],S8⟩;have:(Instr.findKey k x (e::E)).run P w=(Instr.findAsking k x (e::E) 0).run P w:=by simp[Instr.findKey,wG g,Instr.findNow,s n<|a e S8]
 rw[this];simpa using A (e::E) 0 a
def jI(I:Value->Prop)(w:World)(b:Nat)(L:List (Value×Value)):Prop:=∃E c,w.heap[b]?=some (.map E c)/\E.toList.map (λe=>(e.key,e.val))=L/\(∀x∈L,I x.1)/\Stamped E c
variable{P:Program}{I:Value→Prop}{k t e:TypeId}{w:World}{b:Nat}{L:List (Value×Value)}
theorem jI.lt(h:jI I w b L):b<w:=by obtain⟨e,c,a,-⟩:=h;exact(eD.1 a).1
def jI.same{W}(h:jI I w b L)(e:W.heap[b]?=w.heap[b]?):jI I W b L:=have⟨E,c,a,d⟩:=h;⟨E,c,e.trans a,d⟩
def jI.keys(h:jI I w b L):(L.map Prod.fst).Nodup:=by obtain⟨e,c,-,rfl,-,h⟩:=h;have:=h.2.2;rw[pQ];exact this
def Tg{E:Array MapEntry}(a:E.toList.map (λe=>(e.key,e.val))=L)(c:∀x∈L,I x.1):∀e∈E.toList,I e.key:=λe b=>c (e.key,e.val)<|a▸gB.2 ⟨e,b,rfl⟩
def jI.look(h:jI I w b L)(K:yw P k I)(m:P.underlying t=some (.map k e)){z}(r:(zeroValue e).run P w=.ok z w){s}(g:I s):((Instr.lookup t (.map<|some b) s false).run P w=.ok z w/\∀x∈L,x.1≠s)\/∃v,(s,v)∈L/\(Instr.lookup t (.map<|some b) s false).run P w=.ok v w:=by
 obtain⟨E,c,l,f,o,-⟩:=h;rcases K.find w g E.toList (Tg f o)with⟨a,d⟩|⟨j,i,a,d,n⟩;refine .inl ⟨by simp[Instr.lookup,wG m,Nw l,K.check w _ g,a,r],λx p=>?_⟩;subst f;obtain⟨y,q,rfl⟩:=gB.1 p;exact d y q;refine .inr ⟨i.val,?_,by simp[Instr.lookup,wG m,Nw l,K.check w _ g,a]⟩;subst f;exact gB.2 ⟨i,eY d,by rw[n]⟩
def Ti{w o}(a:b<w.heap.size):(setBlock w b o).heap[b]?=some o:=by simp[setBlock,a]
theorem jI.put(h:jI I w b L)(K:yw P k I)(u:P.underlying t=some (.map k e)){v val}(m:I v)(s:∀x∈L,x.1≠v):∃o,(Instr.mapUpdate t (.map<|some b) v val).run P w=.ok () (setBlock w b o)/\jI I (setBlock w b o) b (L++[(v,val)]):=by
 have⟨E,c,l,f,q,p⟩:=h;rcases K.find w m E.toList (Tg f q)with⟨i,d⟩|⟨j,a,i,d,n⟩;refine⟨.map (E.push ⟨v,val,c⟩)<|c+1,by simp[Instr.mapUpdate,wG u,Nw l,K.check w false m,i,aay _ l,setBlock],⟨_,_,Ti h.lt,by simp[<-f],?_,stamped_push p d⟩⟩;intro x g;obtain g|g:=nA.1 g;grind;simp_all;exact absurd n (s (a.key,a.val)<|f▸gB.2 ⟨a,eY d,rfl⟩)
def C4{b c:Type}(f:b->c):∀(l:List b)(j:Nat),(l.eraseIdx j).map f=(l.map f).eraseIdx j
 |[],_=>rfl
 |_::_,0=>rfl
 |a::l,j+1=>by simp[C4 f l j]
def jI.drop{ty}(h:jI I w b L)(K:yw P k I)(r:P.underlying t=some (.map k e)){B}(l:I B):∃o f,(Builtin.delete_ #[t,k] ty #[.map<|some b,B]).run P w=.ok (.tuple #[]) (setBlock w b o)/\jI I (setBlock w b o) b f/\((f=L/\∀x∈L,x.1≠B)\/∃j v,L[j]?=some (B,v)/\f=L.eraseIdx j):=by
 have q:=h.lt;have⟨E,c,d,a,i,p⟩:=h;rcases K.find w l E.toList (Tg a i)with⟨g,n⟩|⟨j,s,g,n,A⟩;refine⟨.map E c,L,by simp[Builtin.delete_,wG r,Nw d,K.check w _ l,g,aay _ d,setBlock],⟨_,_,Ti q,a,i,p⟩,.inl ⟨rfl,λx m=>?_⟩⟩;subst a;obtain⟨y,z,rfl⟩:=gB.1 m;exact n y z;have u:(E.eraseIdxIfInBounds j).toList=E.toList.eraseIdx j:=by simp
 refine⟨.map (E.eraseIdxIfInBounds j) c,L.eraseIdx j,by simp[Builtin.delete_,wG r,Nw d,K.check w _ l,g,aay _ d,setBlock],⟨_,_,Ti q,?_,?_,stamped_erase p j⟩,.inr ⟨j,s.val,?_,rfl⟩⟩;rw[u,C4,a];intro x m;exact i x<|(ag8 _ _).subset m;grind
end
end Go.CM
namespace Go.Proofs.aH
open Go.RowKit
open Go.CM (jI yw)
abbrev Pt:=ByteArray×Int
def wA(p:Pt):Value:=.agg #[.string p.1,.int .i64 p.2]
def afp(v:Value):Prop:=∃p:Pt,v=wA p
def E0{p q}(h:wA p=wA q):p=q:=by have⟨a,b⟩:=p;simp[wA]at h;rw[h.1,h.2]
def acP:yw Vp 48 afp where
 check:=by rintro w em v⟨⟨a,b⟩,rfl⟩;have⟨m,hm⟩:∃m,10000=m+2:=⟨9998,rfl⟩;rw[hm];clear hm;unfold wA;simp[Instr.checkKey,wG aI.underlying48,go_sem]
 eq:=by
  rintro w x y⟨⟨a,b⟩,rfl⟩⟨⟨c,d⟩,rfl⟩;refine⟨(a.toList==c.toList)&&(b==d),?_,?_⟩;.unfold wA;have⟨m,hm⟩:∃m,Op.maxDepth=m+2:=⟨9998,rfl⟩;rw[Op.equal,hm];clear hm;by_cases h:a.toList==c.toList<;>by_cases h2:b=d<;>simp[go_sem,h,h2]
  constructor;intro h;simp[fx,Aa]at h;obtain⟨h1,rfl⟩:=h;have:a=c:=by rw[ByteArray.toList_eq,ByteArray.toList_eq]at h1;have⟨⟨x⟩⟩:=a;have⟨⟨y⟩⟩:=c;simp only at h1;rw[h1]
  rw[this];intro h;have:=E0 h;cases this;simp
 ajZ:=⟨_,aI.underlying48,by rintro x y⟨⟨a,b⟩,rfl⟩⟨⟨c,d⟩,rfl⟩;rfl⟩
def KF(n)(H:-2147483648<=n)(a:n<=2147483647):IntKind.i32.wrap n=n:=by have:IntKind.i32.bits=32:=rfl;simp[IntKind.wrap,this];have:IntKind.i32.signed=true:=rfl;simp only[this];split<;>rename_i h<;>simp at h<;>omega
def aiK(b o n a c d w)(C:w.cell? (b,o)=some a)(i:w.cell? (b,o+2)=some c)(j:w.cell? (b,o+3)=some d)(g:w.cell? (b,o+4)=some (.int .i32 n))(h:w.frozen? (b,o+4)=false)(H:0<=n)(f:n<2147483647):Cv 43 #[.pointer (b,o)] w λe W=>e=.returned (.tuple #[])/\W=w.setCell ⟨b,o+4,none⟩ (.int .i32<|n+1):=by
 go_enter aI.func43,aI.ntmps43;simp[Pq,aI.rlock,aI.cells,aI.only,aI.here,aI.count,aI.state,aI.YW,aI.o,aI.st];go_wp2;go_end0;exact⟨rfl,rfl⟩
def aka(b o a c w)(C:w.cell? (b,o+2)=some a)(i:w.cell? (b,o+3)=some c)(h:w.cell? (b,o)=some (.int .i32 0))(d:w.cell? (b,o+4)=some (.int .i32 0))(f:w.frozen? (b,o+4)=false)(g:w.frozen? (b,o)=false):Cv 35 #[.pointer (b,o)] w λe W=>e=.returned (.tuple #[])/\W=(w.setCell (b,o)<|.int .i32 1).setCell ⟨b,o+4,none⟩ (.int .i32<|-1073741824):=by
 go_enter aI.func35,aI.ntmps35;simp[Pq,aI.lock,aI.cells,aI.only,aI.here,aI.count,aI.YW,aI.state,aI.o,aI.st];go_wp2;go_end0;exact⟨rfl,rfl⟩
def YY(b o n c d f u w)(C:w.cell? (b,o)=some c)(j:w.cell? (b,o+2)=some d)(k:w.cell? (b,o+3)=some f)(h:w.cell? (b,o+4)=some (.int .i32 n))(i:w.frozen? (b,o+4)=false)(H:0<n)(g:n<=2147483647):CallsD Vp 44 #[.pointer (b,o)] u w λe a W=>a=u/\(e=.returned (.tuple #[])/\W=w.setCell ⟨b,o+4,none⟩ (.int .i32<|n -1)):=by
 go_enter_d aI.func44,aI.ntmps44;simp[Pq,aI.runlock,aI.cells,aI.only,aI.here,aI.count,aI.state,aI.YW,aI.o,aI.st];go_wp2;go_end0;exact⟨rfl,rfl⟩
def adf(b o c d u w)(C:w.cell? (b,o+2)=some c)(j:w.cell? (b,o+3)=some d)(i:w.cell? (b,o)=some (.int .i32 1))(f:w.cell? (b,o+4)=some (.int .i32<|-1073741824))(g:w.frozen? (b,o+4)=false)(h:w.frozen? (b,o)=false):CallsD Vp 36 #[.pointer (b,o)] u w λe a W=>a=u/\(e=.returned (.tuple #[])/\W=(w.setCell (b,o+4)<|.int .i32 0).setCell ⟨b,o,none⟩ (.int .i32 0)):=by
 go_enter_d aI.func36,aI.ntmps36;simp[Pq,aI.unlock,aI.cells,aI.only,aI.here,aI.count,aI.YW,aI.state,aI.o,aI.st];go_wp2;go_end0;exact⟨rfl,rfl⟩
end Go.Proofs.aH
namespace Go.Seq
open Go.RowKit
section
def aca:=@World.putObj_heap_other
variable{F:Fence}{n:Nat}{P:Program}
def OJ(F:Fence)(n:Nat)(P:Program)(g:Nat)(L:Array Value)(E:Nat->Array Value)(N:Nat)(Rd:World->Prop):Prop:=∀(l:Nat)(J:Nat->World->Prop)(W:World),(∀k W w,J k W->W.grownBy w none->J k w)->(∀k W,J k W->Rd W)->(∀k W,J k W->k<N->YieldAt F (n -1) P l (E k) W λe w=>e=.returned true/\J (k+1) w)->J 0 W->
   CallsIn F n P g (#[.func (.yield l) #[] #[]]++L) W λe w=>(∃v,e=.returned v)/\J N w
def acb(B:Nat)(I:Nat->World->Prop)(k:Nat)(W:World):Exit->Act->World->Prop
 |.normal,_,w=>KeepsFrom B W w/\I k w
 |_,_,_=>False
def Yh{g s O R Q a w}(a3:F.round=none)(ac:1<=n){S:Nat}{Y}(ao:a.eval g=.func (.func S) #[] Y)(ah:F.fn S)(aa:∀args w,(callFunc S args).run P w=.ok (.enter S args) w)
 {U N Rd}(a5:OJ F (n -1) P S Y U N Rd)(a0:∀k,(U k).size=s.size)
 (I:Nat->World->Prop)(d:OwnFrom w.heap.size I)(an:∀k W,I k W->Rd W)(h0:I 0 w)(i:Nat->Act->World->Prop)
 (ab:∀l k W K,k<N->I k W->(∀r p,KeepsFrom w W p->I k p->i k r p->K r p)->O.wpIn (F.inRound l) (n -1 -1) P (Exit.then K λ_ _ _=>False) {tmps:=(s.zip<|U k).foldl (λt(ap,v)=>t.setIfInBounds ap v) a.tmps,defers:=[]} W)
 (ad:∀k r W l o o',i k r W->↑w<=l->W.heap[l]?=some o->o.isCells=false->i k r (W.putObj l o'))
 (af:∀l k r W,k<N->I k W->i k r W->R.wpIn (F.inRound l) (n -1 -1) P (acb w I (k+1) W) r W)
 (aj:∀D W,↑w<=D->I N W->W.heap[D]?=some (.deferred<|some [])->Q .normal {a with defers:={target:=.collected D,args:=#[]}::a.defers} W):
 (Code.rangeFunc g s O R).wpIn F n P Q a w:=by
 refine wpIn_rangeFunc λV ak=>?_;rw[a3];generalize a2:(λ(X:LoopState)=>({state:=X,pending:=none,fn:=V,tmps:=a.tmps,params:=s,assign:=O,body:=R,defers:=(w:Nat)}:Loop))=T;have c:∀X,T X={state:=X,pending:=none,fn:=V,tmps:=a.tmps,params:=s,assign:=O,body:=R,defers:=(w:Nat)}:=λX=>by rw[<-a2]
 generalize u:(w.alloc (.deferred<|some [])).alloc (.loop<|T .ready)=b;have am:b.heap[(w:Nat)+1]?=some (.loop<|T .ready):=by have:=World.alloc_heap_new (w.alloc (.deferred<|some [])) (.loop<|T .ready);rw[cR]at this;rw[<-u];exact this
 have ag:b.heap[(w:Nat)]?=some (.deferred<|some []):=by rw[<-u];exact(Below.heap_alloc _ _ _ S8).trans<|World.alloc_heap_new w _
 let j:Nat->World->Prop:=λk W=>I k W/\W.heap[(w:Nat)+1]?=some (.loop<|T .ready)/\W.heap[(w:Nat)]?=some (.deferred<|some []);have al:∀k W p,j k W->W.grownBy p none->j k p:=λk W p h C=>⟨d k W p none h.1 C (λaq e=>by cases e),(C.block _ (eD.1 h.2.1).1 S8).trans h.2.1,(C.block _ (eD.1 h.2.2).1 S8).trans h.2.2⟩
 have a4:∀k W,j k W->k<N->YieldAt F (n -1 -1) P ((w:Nat)+1) (U k) W λe p=>e=.returned true/\j (k+1) p:=by rintro k W⟨π,q,B⟩H;have M:=run_yield (P:=P) (args:=U k) q (by rw[c];exact a0 k);rw[c]at M;refine⟨V,_,O,R,M,roundIn_of_wpIn ak<|ab _ k W _ H π ?_⟩;intro r A L au ae;have z:=L.same _ _ O9 q rfl;have az:=(eD.1 z).1;refine⟨_,run_beginRound z (by rw[c]),?_⟩;generalize x:A.putObj ((w:Nat)+1) (.loop {T .ready with state:=.busy})=m;have ai:m.heap[(w:Nat)]?=some (.deferred<|some []):=x▸(aca O9).trans (L.same _ _ L9 B rfl);refine wpIn_mono (af _ k r m H (x▸d.putObj _ au O9 z rfl)<|x▸ad k r A _ _ _ ae O9 z rfl) λe a8 a7 f=>?_;cases e with
  |normal=>have⟨J,ar⟩:=f;have E:=J.same _ _ O9 (x▸World.putObj_heap_same az) rfl;refine⟨_,_,(run_endRound (P:=P) none E),rfl,d.putObj _ ar O9 E rfl,?_,(aca O9).trans<|J.same _ _ L9 ai rfl⟩;rw[c];exact World.putObj_heap_same (eD.1 E).1
  |ret=>exact f.elim
  |exit id=>exact f.elim
  |goto t=>exact f.elim
  |panic a9=>exact f.elim
  |outgrown=>exact f.elim
 refine⟨(w:Nat)+1,[{target:=.collected ↑w,args:=#[]}],b,{target:=.fn (.func S) Y,args:=#[.func (.yield<|(w:Nat)+1) #[] #[]]},b,S,#[.func (.yield<|(w:Nat)+1) #[] #[]]++Y,b,?_,?_,?_,?_,λ_=>ac,?_⟩;rw[<-u,c];exact run_enterLoop_outer _ _ _ _ _;.simp[resolve,ao];simp[go_sem]
 intro f' G;simp[Target.leads]at G;subst G;exact ah;.simp[invoke,go_sem,aa]
 refine(a5 ((w:Nat)+1) j b al (λk W h=>an k W h.1) a4 ⟨(u▸d.alloc _ (d.alloc _ h0)),am,ag⟩).mono ?_;rintro e a6⟨⟨v,rfl⟩,π,q,B⟩;have y:=run_endLoop (P:=P) q (by rw[c];simp);rw[c]at y;exact⟨none,_,y,aj _ _ L9 (d.putObj _ π O9 q rfl)<|(aca O9).trans B⟩
end
section
variable{P:Program}
def D5{f d c A w R}(b:P.funcs[f]?=some d)(a:d.body=some c)(h:c.wp P (bodyPostM Fence.wide 3 P d R) {tmps:=A++Array.replicate (d.ntmps -A.size) undef,defers:=[]} w):Calls P f A w R:=
 callsIn_wide.1 (callsIn_of_wp_marks (F:=Fence.wide) (n:=3) b a trivial<|wpIn_wide.2 h)
def wV{n f F c A u w R}(b:P.funcs[f]?=some F)(a:F.body=some c)(h:c.wp P (bodyPost P F R) {tmps:=A++Array.replicate (F.ntmps -A.size) undef,defers:=[]} w):CallsDIn Fence.wide n P f A u w (λe d W=>d=u/\R e W):=
 callsDIn_of_wp b a trivial<|wpIn_wide.2 h
def zo{n f t R w v}(b:(results f t).run P w=.ok v w)(a:R (.returned v) w):LeavesInM Fence.wide n P f t R [] .returning w:=⟨v,b,a⟩
def wW{n D f t R w d a}(b:w.heap[D]?=some (.deferred<|some []))(h:LeavesInM Fence.wide n P f t R d .returning (w.putObj D<|.deferred none)):LeavesInM Fence.wide n P f t R ({target:=.collected D,args:=a}::d) .returning w:=
 ⟨S8,.inl ⟨D,_,rfl,run_takeDeferred b,h⟩⟩
def JW{n F t R w D f C}{R':World->Prop}(c:∀A w,(callFunc f A).run P w=.ok (.enter f A) w)(h:CallsDIn Fence.wide (n -1) P f C .returning w (λe a W=>a=.returning/\(∃v,e=.returned v)/\R' W))(b:∀W,R' W->LeavesInM Fence.wide n P F t R D .returning W):
 LeavesInM Fence.wide n P F t R ({target:=.fn (.func f) C,args:=#[]}::D) .returning w:=by
 refine⟨S8,.inr ⟨λe=>by simp[Fence.wide]at e,.func f,C,f,C,rfl,?_,λ_ _=>trivial,?_⟩⟩;simp[invoke,c];refine h.mono ?_;rintro e a W⟨rfl,⟨v,rfl⟩,d⟩;exact b W d
def OL{g c y B Q a w}{gf:Nat}{lb}(q:a.eval g=.func (.func gf) #[] lb)(d:∀x w,(callFunc gf x).run P w=.ok (.enter gf x) w)
 {E N Rd}(s:OJ Fence.wide 2 P gf lb E N Rd)(r:∀k,(E k).size=c.size)
 (I:Nat->World->Prop)(f:OwnFrom w.heap.size I)(h:∀k W,I k W->Rd W)(H:I 0 w)(b:Nat->Act->World->Prop)
 (i:∀l k W K,k<N->I k W->(∀A u,KeepsFrom w W u->I k u->b k A u->K A u)->y.wpIn (Fence.wide.inRound l) 1 P (Exit.then K λ_ _ _=>False) {tmps:=(c.zip<|E k).foldl (λt(p,v)=>t.setIfInBounds p v) a.tmps,defers:=[]} W)
 (e:∀k A W l o O,b k A W->↑w<=l->W.heap[l]?=some o->o.isCells=false->b k A (W.putObj l O))
 (j:∀l k A W,k<N->I k W->b k A W->B.wpIn (Fence.wide.inRound l) 1 P (acb w I (k+1) W) A W)
 (m:∀D W,↑w<=D->I N W->W.heap[D]?=some (.deferred<|some [])->Q .normal {a with defers:={target:=.collected D,args:=#[]}::a.defers} W):
 (Code.rangeFunc g c y B).wp P Q a w:=
 wpIn_wide.1<|Yh (F:=Fence.wide) (n:=3) rfl O9 q trivial d s r I f h H b i e j m
end
end Go.Seq
namespace Go.Ren
open Go.Conc
open Go.ConcN (sumTo upd sumTo_upd upd_ne upd_same)
inductive fC(P:Program)(T:Loc->Prop)(B:Nat)(Stop:Goroutine->World->Nat->Prop):Goroutine->World->Nat->Prop
 |stop {g:Goroutine} {w:World} {c:Nat} (h:∀d,Stop g (w.at d) c):fC P T B Stop g w c
 |step {g:Goroutine} {w:World} {c:Nat} (hs:g.status=.running)
   (k:∀d,∃g' w' es,stepG P true g (w.at d)=.go g' w' es/\∀e∈es,EvM T B e)
   (h:∀d g' w' es,stepG P true g (w.at d)=.go g' w' es->fC P T B Stop g' w' (deafBehind c es)):fC P T B Stop g w c
section
variable{P:Program}{T:Loc→Prop}{B:Nat}{Stop:Goroutine→World→Nat→Prop}
def J0(P:Program)(S:Loc->Prop)(B:Nat)(s:Goroutine->World->Nat->Prop)(n:Nat)(m:Machine)(t:Trace):Prop:=∃(N:Nat)(g:Array Goroutine)(a:Goroutine)(w:World)(c:Nat)(b:Option (Nat×Nat))(T:Trace)(q:Nat->Nat),runNT P N m t=(.next<|crowd g w b,T)/\g.size=n/\g[0]?=some a/\s a w c/\Leavers P T g q/\kF S B c T
def J0.more{n m a t o}(h:stepT P m=(.next a,o))(k:J0 P T B Stop n a (t++o)):J0 P T B Stop n m t:=have⟨N,c,A,w,b,d,e,q,R,r⟩:=k;⟨N+1,c,A,w,b,d,e,q,by simp[runNT,h];exact R,r⟩
def fC.at{g w c}(h:fC P T B Stop g w c)(a):fC P T B Stop g (w.at a) c:=by cases h with
 |stop h=>exact .stop h
 |step b k h=>exact .step b k h
def Aw{a w c}(y:fC P T B Stop a w c):∀(M b:Nat)(J:Array Goroutine)(S:Option (Nat×Nat))(t:Trace)(q:Nat->Nat),sumTo J.size q=M->J[0]?=some a->Leavers P t J q->kF T B c t->J0 P T B Stop J.size (crowd J (w.at b) S) t:=by
 induction y with
 |@stop g w c h=>intro M b J S t q _ L e f;exact⟨0,J,_,w.at b,_,S,t,q,rfl,rfl,L,h b,e,f⟩
 |@step g w c r k h E=>intro M;induction M using Nat.strongRecOn with
   |ind M F=>
     intro b J S t q G L e f;have⟨i,x,d,l,N,v,u⟩:=crowd_pick (P:=P) (w:=w.at b) (sl:=S) (OO e L r) ⟨0,g,L,r⟩;have m:=(eD.1 N).1;obtain rfl|s:=pJ i;obtain rfl:x=g:=by rw[L]at N;exact(iN N).symm
     have⟨K,W,O,Q,z⟩:=k d;have p:=runT_crowd_go (P:=P) (w:=(w.at b).at d) (sl:=l) (i:=0) N Q;have:=E d K W O Q _ W.drawn ((J.map<|woken P x K W).setIfInBounds 0 K) l (t++MemOp.ofEvents 0 x.frame.fn x.frame.place O) q rfl (by simp[m]) (acg e L _ _)<|f.own z;rw[show((J.map<|woken P x K W).setIfInBounds 0 K).size=J.size by simp]at this;exact J0.more (u.trans p) this;have j:=e.old i x s N;rcases o:q i with _|n;rw[o]at j;rw[j.1]at v;cases v;rw[o]at j;obtain⟨H,_⟩|⟨_,K,O,A,D,C⟩:=j;simp_all;have I:sumTo J.size (upd q i n)+(n+1)=sumTo J.size q+n:=by have:=sumTo_upd q n id m;simpa[o]using this
     have:=F (sumTo J.size<|upd q i n) O9 d ((J.map (woken P x K<|(w.at b).at d)).setIfInBounds i K) l (t++MemOp.ofEvents i x.frame.fn x.frame.place O) (upd q i n) S8 (by rw[mU (by omega:i≠0),kW,L];simp[woken_run r]) (VG e m s _ _ C) (f.mute O9 A)
     rw[show((J.map (woken P x K<|(w.at b).at d)).setIfInBounds i K).size=J.size by simp]at this;exact J0.more (u.trans (runT_crowd_go (P:=P) (w:=(w.at b).at d) (sl:=l) (i:=i) N<|by rw[show(i==0)=false by simp;omega];exact D _)) this
def mJ{D c}(b:∀w W E,D w W E->∀e∈E,EvL T B e):∀n g w,Goes P true AtRel D (λg w=>fC P T B Stop g w c) n g w->fC P T B Stop g w c
 |0,g,w,h=>h w<|atRel_refl w
 |n+1,g,w,h=>by
   obtain h|⟨j,h⟩:=h;exact h w<|atRel_refl w;refine fC.step j (λd=>?_) λd G W E a=>?_;have:=h (w.at d) ⟨d,rfl⟩;cases f:stepG P true g (w.at d)with
   |go G W E=>rw[f]at this;exact⟨G,W,E,rfl,λe a=>⟨(b _ _ _ this.1 e a).1,(b _ _ _ this.1 e a).2.2.2⟩⟩
   |_=>rw[f]at this;exact this.elim
   have:=h (w.at d) ⟨d,rfl⟩;rw[a]at this;rw[(deafBehind_still (λe a=>⟨(b _ _ _ this.1 e a).2.1,(b _ _ _ this.1 e a).2.2.1⟩) c)];exact mJ b n G W this.2
end
def ajM(X:FuncId->Prop)(V P:Program)(G:Gs)(S:Nat->Prop)(l:Nat->Option Nat)(j:World)(g:Goroutine)(w:World)(i:Goroutine)(W:World)(c:Nat):Prop:=c=0/\∃b a d,kx V g w b a/\(uI V P [] G d b a i W\/∃f A e k C h,b=cF V f A k C/\i=cF P f e k h/\Cb X V P G d f A k C a e h W)/\a.tape=W.tape/\Since S l d j W
def OS{X V P G S aU}(F:Fit G V P)(C:jU G V P)(ac:Dz X V P){μ0 W0}(B:∀c,S c->c<↑W0){g w}(am:Tree V aU g w){Q O W}(R:uI V P [] G Q g w O W)(L:w.tape=W.tape)(af:Since S μ0 Q W0 W){A}(J:∀w,stepG P true O w=stepG P true A w)(ag:A.status=.running):JY P (mr S) (ajM X V P G S μ0 W0 g w) (ahr V G S aU μ0 W0) A W 0:=by
 cases am with
 |node ak au k=>
   have U:∀d,ji X V P [] ⟨lF (stepG V true g<|w.at d),0,w.tape⟩ G Q (W.at d) (stepG V true g<|w.at d) (stepG P true O<|W.at d)/\¬Lz ⟨lF (stepG V true g<|w.at d),0,w.tape⟩ (stepG V true g<|w.at d) (stepG P true O<|W.at d):=λd=>by refine⟨wI (tl:=[]) (main:=true) (main':=true) F C ac (λ_=>⟨rfl,λ_=>rfl⟩) R.ok ⟨R.obj,λi q _=>?_,R.os,by simp[World.at],rfl⟩ R.Lx R.g,λaa=>?_⟩;show w.tape (d+i) q=W.tape (d+i) q;rw[L];have:=wJ.1 aa.1;simp only at this;omega
   have E:=λd=>af.at d;have Y:∀d p f o,stepG V true g (w.at d)=.go p f o->∃t b h a,stepG P true O (W.at d)=.go t b h/\Ext Q a/\fT G a (f:Nat) (b:Nat)/\QT V G a f b/\b.os=f.os/\f.tape=b.tape/\Fr Q a (W.at d) b/\Gn X V P [] G a p t/\wz G a o h:=λd p f o e=>by have⟨j,u⟩:=U d;rw[e]at j u;obtain j|j|⟨t,b,h,a,l,K,m,n,r,y,s⟩:=j;simp_all;grind [zr];refine⟨t,b,h,a,l,K,m,n.obj,n.os,?_,r,y,s⟩;have:=r.tape;rw[n.tp];show w.tape=_;rw[L,this];rfl
   refine .step ag (λd=>?_) λd t b h e=>?_;rw[<-J];obtain⟨v,π,o,e,I⟩|⟨p,f,o,e⟩:=k d;have⟨j,u⟩:=U d;rw[e]at j u;obtain j|⟨N,b,h,a,l,K,m,n,r,y,s⟩:=j;simp_all;have x:=(E d).step B K r;exact .inl ⟨N,b,h,l,Mb m s x.EE L9,r.size,v,π,a,I,y,m,n.obj,n.os,x⟩;have⟨t,b,h,a,l,K,m,n,r,y,s,M,H⟩:=Y d p f o e;have x:=(E d).step B K s;exact .inr ⟨t,b,h,l,Mb m H x.EE L9,s.size⟩;rw[<-J]at e;obtain⟨v,π,o,z,I⟩|⟨p,f,o,z⟩:=k d;exfalso;have⟨j,u⟩:=U d;rw[z]at j u;obtain j|⟨N,b,h,a,l,_⟩:=j;exact u j;cases e▸l;have⟨aj,ai,ah,a,l,K,m,n,r,y,s,M,H⟩:=Y d p f o z;rw[e]at l;simp[GStep.go.injEq]at l;obtain⟨rfl,rfl,rfl⟩:=l;rw[zq m H 0];refine .stop λT=>⟨rfl,p,f.at T,a,.one z T,?_,y,((E d).step B K s).at T⟩;obtain⟨ae,D⟩|⟨ar,aq,kd,cs,ad,al,an,ab,ap,ao,rfl,rfl,D⟩:=M;exact .inl ⟨ae,m,n,r,D⟩;exact .inr ⟨ar,aq,ad,kd,cs,al,rfl,rfl,⟨an,ab,ap,ao,m,n,r,D⟩⟩
def VI(f:FuncId)(k:CallKind):Frame:={fn:=f,tmps:=#[],todo:=[],defers:=[],mode:=.returning,kind:=k}
def wX(f:FuncId)(k:CallKind)(c:List Frame):Goroutine:={frame:=VI f k,callers:=c,status:=.running,dying:=none}
def GH{P f k C F l}(h:P.funcs[f]?=some l)(i:l.results=#[])(b:F.fn=f)(d:F.kind=k)(e:F.mode=.returning)(g:F.defers=[])(a:k=.normal\/k=.deferred)(w):stepG P true {frame:=F,callers:=C,status:=.running,dying:=none} w=stepG P true (wX f k C) w:=by
 subst b d;simp[stepG,wX,VI,e,unwind,g];have j:∀t,results l t=pure (.tuple #[]):=λt=>by simp[results,i]
 rw[h];simp[j];cases C with
 |cons c r=>rfl
 |nil=>obtain a|a:=a<;>simp[doReturn,a]<;>rfl
def J1{V aU g G w}(h:∀w,stepG V true g w=stepG V true G w)(c:G.status=.running)(b:Tree V aU g w):Tree V aU G w:=by cases b with
 |node _ t k=>exact .node c (λd a W E e=>t d a W E<|(h _).trans e) (λd=>by rw[<-h];exact k d)
def J2{V g G a w W}(h:∀w,stepG V true g w=stepG V true G w)(b:kx V g w a W):kx V G w a W:=by cases b with
 |one e d=>exact .one ((h _).symm.trans e) d
 |more e k=>exact .more ((h _).symm.trans e) k
structure tP(f:FuncId)(k:CallKind)(fr:Frame):Prop where
 fn:fr.fn=f
 kind:fr.kind=k
 mode:fr.mode=.returning
 defers:fr.defers=[]
def yH(f:Frame)(c:List Frame):Goroutine:={frame:=f,callers:=c,status:=.running,dying:=none}
def xL{X V P G aU}(ad:Fit G V P)(ac:jU G V P)(ag:Dz X V P){U v}{f K p k C e w W g m O t q S}
 (R:Cb X V P G g f K k C w p e W)(af:Tree V aU (cF V f K k C) w)(h0:m[0]?=some (cF P f p k e))(ab:Leavers P t m q)(ae:kF (mr S) W 0 t)(A:∀c,S c->c<W)(a2:∀b c,g b=some c->¬S c)(D:Kp U v S g W)
 {z y}(au:V.funcs[f]?=some z)(az:z.results=#[])(ar:P.funcs[f]?=some y)(ay:y.results=#[])(av:yt V f=true)
 {frV h a}(l:tP f k frV)(B:kx V (cF V f K k C) w (yH frV C) h)
 (aj:∀Y,(∀F,tP f k F->fC P (mr S) W Y (yH F e) a 0)->fC P (mr S) W Y (cF P f p k e) W 0)
 (a4:fT G g h a)(a3:QT V G g h a)(a5:a.os=h.os)(bp:h.tape=a.tape)(Q:a=(W:Nat))(I:∀c,(∀b,g b≠some c)->a.heap[c]?=W.heap[c]?)(H:a.output=W.output)(E:a.os=W.os):
 (∃N L n i o,runNT P N (crowd m W O) t=(.next L,n)/\kx V (cF V f K k C) w i o/\uL X V P G U v i o L n)\/Ends P (DK V G aU U v) (crowd m W O) t:=by
 have J:∀w,stepG V true (yH frV C) w=stepG V true (wX f k C) w:=λw=>GH au az l.fn l.kind l.mode l.defers R.kind w;have ah:=J1 J rfl<|B.tree af;have ax:uI V P [] G g (wX f k C) h (wX f k e) a:=by refine⟨⟨?_,R.okc,rfl,rfl,rfl,OA R.bt rfl⟩,a4,a3,a5,λbi r c=>?_⟩;grind [eN,wX,VI,NP,R.kind];have:=(R.g bi r c).2;simp[wX,oH,this];simp[VI,cU,rQ]
 obtain⟨N,ao,a',T,bs,bm,n,q',π,r2,r3,⟨rfl,F,d,j,rfl,rfl⟩,bd,M⟩:=(Aw (aj (λaq T c=>c=0/\∃F d,tP f k F/\aq=yH F e/\T=a.at d) λF j=>.stop λd=>⟨rfl,F,d,j,rfl,rfl⟩) _ W.drawn m O t q rfl h0 ab ae);rw[<-Q]at M;have ai:=OS (S:=S) (μ0:=g) (W0:=a) ad ac ag (λc u=>Q▸A c u) ah ax bp (ach a2) (λw=>(GH ar ay j.fn j.kind j.mode j.defers R.kind w).symm) rfl;obtain⟨x,ap,ak,W2,bu,bo,bq,bc,bf,bx,bg,⟨rfl,i,o,br,al,am,an,s⟩,bj,bk⟩|aa:=uW ai _ d ao bm n q' rfl r3 bd M;refine .inl ⟨N+x,_,bq,i,o,?_,(λi o(aw:kx V (wX f k C) h i o)=>B.trans<|J2 (λw=>(J w).symm) aw) _ _ al,ap,bo,bc,br,W2,ak,S,rfl,bg,am,an,bj,bk,λc u=>?_,s.EE,(D.own Q I H E).since s⟩;rw[runNT_add];show(match runNT P N (crowd m (W.at W.drawn) O) t with|(.next a0,t)=>runNT P x a0 t|r=>r)=_;rw[π];exact bf;grind [s.size];refine .inr (JZ π<|aa.mono λbz W'⟨a1,T,bh,a6,a7,a8,a9,ba,bb⟩=>⟨a1,T,bh,a6,a7,a8,a9,ba,S,(D.own Q I H E).since bb⟩)
structure On(V:Program)(aU:Value->World->Prop)(g0:Goroutine)(w0:World)(g:Goroutine)(w:World):Prop where
 tree:Tree V aU g w
 desc:abu V g0 w0 g w
section
variable{V:Program}{aU:Value→World→Prop}{g0:Goroutine}{w0:World}{g g':Goroutine}{w w':World}{es:Array Event}
def On.start(h:Tree V aU g w):On V aU g w g w:=⟨h,.inl ⟨rfl,w.drawn,rfl⟩⟩
def JB:=@On.start
def On.next(h:On V aU g0 w0 g w)(e:stepG V true g w=.go g' w' es):kx V g0 w0 g' w':=by obtain⟨rfl,d,rfl⟩|a:=h.desc;exact .one (w:=w0) (d:=d) e w'.drawn;exact a.trans<|.one (w:=w) (d:=w.drawn) e w'.drawn
def On.step(h:On V aU g0 w0 g w)(e:stepG V true g w=.go g' w' es):On V aU g0 w0 g' w':=by refine⟨?_,.inr<|h.next e⟩;cases h.tree with
 |node _ t _=>exact t w.drawn _ _ _ e
def On.not{o}(h:On V aU g0 w0 g w)(e:stepG V true g w=.ended o w' es)(f:∀v,o≠.done v):False:=by cases h.tree with
 |node _ _ k=>obtain⟨v,W,b,c,_⟩|⟨d,W,b,c⟩:=k w.drawn;have a:=c;cases e▸a;exact f v rfl;cases e▸c
variable{b:Frame}{a:Act}{k:List Item}{cs:List Frame}{q:Array Oper}{i:Nat}{rest:List Nat}{o:Oper}
def On.v(h:On V aU g0 w0 (G (b.at a (.inRegion q (i::rest)::k)) cs) w)(v W)(c:b.kind≠.early:=by assumption)(d:q[i]?=some o:=by rfl)(f:Region.wanted o (yielded q a.tmps)=true:=by rfl)(e:(execOp a.eval o).run V w=.ok (.value v) W:=by go_simp):On V aU g0 w0 (G (b.at (a.put o.dst v) (.inRegion q rest::k)) cs) W:=h.step<|stepG_value d f c e
def On.none(h:On V aU g0 w0 (G (b.at a (.inRegion q (i::rest)::k)) cs) w)(w')(c:b.kind≠.early:=by assumption)(d:q[i]?=some o:=by rfl)(f:Region.wanted o (yielded q a.tmps)=true:=by rfl)(e:(execOp a.eval o).run V w=.ok .skip w':=by go_simp):On V aU g0 w0 (G (b.at (a.put o.dst undef) (.inRegion q rest::k)) cs) w':=h.step<|stepG_none d f c e
def On.stuck{s}(h:On V aU g0 w0 (G (b.at a (.inRegion q (i::rest)::k)) cs) w)(f:q[i]?=some o:=by rfl)(m:Region.wanted o (yielded q a.tmps)=true:=by rfl)(j:(execOp a.eval o).run V w=.halt (.stuck s) w':=by go_simp):False:=by
 have d:((execOp a.eval o).runT V w #[]).1=.halt (.stuck s) w':=by rw[Fe];exact j
 have e:∃O c,stepG V true (G (b.at a (.inRegion q (i::rest)::k)) cs) w=.ended O w' c/\∀v,O≠.done v:=by rw[stepG_oper f m];simp only[stepG.apply,↓reduceIte,d];exact⟨_,_,rfl,λv l=>by cases l⟩
 have⟨O,c,e,g⟩:=e;exact h.not e g
def On.AO{u}(h:On V aU g0 w0 (G (b.at a (.inRegion q (i::rest)::k)) cs) w)(f:q[i]?=some o:=by rfl)(p:Region.wanted o (yielded q a.tmps)=true:=by rfl)(l:(execOp a.eval o).run V w=.halt (.unsupported u) w':=by go_simp)(m:∀g,u≠.initOrder g:=by simp):False:=by
 have d:((execOp a.eval o).runT V w #[]).1=.halt (.unsupported u) w':=by rw[Fe];exact l
 have e:∃O c,stepG V true (G (b.at a (.inRegion q (i::rest)::k)) cs) w=.ended O w' c/\∀v,O≠.done v:=by rw[stepG_oper f p];simp only[stepG.apply,↓reduceIte,d];cases u with
  |initOrder g=>exact absurd rfl<|m g
  |_=>exact⟨_,_,rfl,λv n=>by cases n⟩
 have⟨O,c,e,j⟩:=e;exact h.not e j
def On.refuse{s}(h:On V aU g0 w0 (G (b.at a (.code (.refuse s)::k)) cs) w):False:=h.not (o:=.unsupported _<|(b.at a (.code (.refuse s)::k)).pos V) (w':=w) (es:=#[]) rfl (λv c=>by cases c)
end
def XK{V}(o t x y v w):(eqGuard o t x y v<|.pointer none).run V w=.ok () w:=by cases o<;>cases v<;>rfl
def XL{V t e}(b:V.underlying t=some (.pointer e))(v)(g:∀p,v≠.pointer p)(w):∃s,(Op.equal t v<|.pointer none).run V w=.halt (.stuck s) w:=by
 have c:(underlying t).run V w=.ok (.pointer e) w:=by show Sem.run V (match V.underlying t with|some d=>pure d|none=>stuck "no such type") w=_;rw[b];rfl
 refine⟨ "==: the operands do not fit the type, or the type is not comparable",?_⟩;unfold Op.equal;rw[show Op.maxDepth=(Op.maxDepth -1)+1 from rfl];unfold Op.equalIn;rw[show∀(x:Sem TypeDesc)(f:TypeDesc->Sem Bool),(x>>=f).run V w=(x.run V w).andThen fun a W=>(f a).run V W from fun x f=>Uq V x f w,c];cases v<;>first|rfl|exact absurd rfl (g _)
def ae6{V t e}(d:V.underlying t=some (.pointer e))(v)(b:∀p,v≠.pointer p)(w):∃s,(binOp .eql t v<|.pointer none).run V w=.halt (.stuck s) w:=by
 have⟨s,c⟩:=XL d v b w;refine⟨s,?_⟩;have:binOp .eql t v (.pointer none)=(do pure (<-Op.equal t v (.pointer none))):=by cases v<;>first|rfl|exact absurd rfl (b _)
 rw[this,show∀(x:Sem Bool)(f:Bool->Sem Value),(x>>=f).run V w=(x.run V w).andThen λa W=>(f a).run V W fromλx f=>Uq V x f w,c];rfl
def ae7{V w}(t v k c)(a:∀n,v≠.int k n):(∃s,(binOp .lss t v<|.int k c).run V w=.halt (.stuck s) w)\/(binOp .lss t v<|.int k c).run V w=.halt (.unsupported .addressObserved) w:=by cases v with
 |int K n=>refine .inl ⟨ "BinOp: operands of different kinds",?_⟩;have:K≠k:=fun e=>a n (by rw[e]);show Sem.run V (if K≠k then stuck "BinOp: operands of different kinds" else _) w=_;rw[aN this];rfl
 |pointer p=>cases p<;>exact .inr rfl
 |_=>exact .inl ⟨_,rfl⟩
structure Tw(V:Program)(G:Gs)(μ:Nat->Option Nat)(w W:World):Prop where
 ok:fT G μ w.heap.size W.heap.size
 obj:QT V G μ w W
 os:W.os=w.os
 tp:w.tape=W.tape
section
variable{V:Program}{G:Gs}{μ:Nat→Option Nat}{w W:World}
def Tw.wr(h:Tw V G μ w W):WR V ⟨0,(W.drawn:Int) -w.drawn,w.tape⟩ G μ w W:=⟨h.obj,λi q H=>absurd H<|qu _,h.os,by simp only;omega,rfl⟩
theorem Tw.cell(h:Tw V G μ w W){b c o v}(e:μ b=some c)(i:w.cell? (b,o)=some v):∃d,W.cell? ⟨c,o,none⟩=some d/\gN G μ λj=>d=aV j v:=have⟨d,f,g⟩:=h.wr.cell h.ok (a:=(b,o)) e i;⟨d,f,g⟩
def Tw.int(h:Tw V G μ w W){b c o k n}(e:μ b=some c)(f:w.cell? (b,o)=some (.int k n)):W.cell? ⟨c,o,none⟩=some (.int k n):=by have⟨g,a,d⟩:=h.cell e f;have⟨i,r,C⟩:=h.ok.one;rw[a,d i r C];simp[aV]
def Tw.frozen(h:Tw V G μ w W){b c o}(e:μ b=some c):W.frozen? (c,o)=w.frozen? ⟨b,o,none⟩:=h.wr.frozen h.ok (a:=(b,o)) e
def Tw.XM(h:Tw V G μ w W){b c off k n x}(e:μ b=some c)(l:w.cell? (b,off)=some x):Tw V G μ (w.setCell (b,off)<|.int k n) (W.setCell (c,off)<|.int k n)/\(W.setCell ⟨c,off,none⟩<|.int k n)=(W:Nat)/\(∀d,d≠c->(W.setCell (c,off)<|.int k n).heap[d]?=W.heap[d]?)/\(W.setCell (c,off)<|.int k n).output=W.output/\(W.setCell (c,off)<|.int k n).os=W.os:=by
 have⟨o,O,g,u,y,z⟩:=h.obj _ _ e;cases o with
 |cells C t f=>have⟨s,p,K⟩:=h.wr.cells h.ok e g;have i:=jF (a:=(b,off)) (v:=.int k n) g (h.ok.lt _ _ e).1 rfl;have j:=jF (w:=W) (a:=(c,off)) (v:=.int k n) p (h.ok.lt _ _ e).2 rfl;have m:=h.wr.iV h.ok e _ _ (by rfl) (λr q d=>by simp only[iG];rw[K r q d,Nn];simp[aV]) i j ⟨rfl,rfl,rfl⟩ ⟨rfl,rfl,rfl⟩;refine⟨⟨?_,m.obj,m.os,h.tp⟩,?_,λd A=>?_,rfl,rfl⟩;grind [h.ok];simp;grind
 |_=>rw[Ci g<|by intros;simp]at l;cases l
end
def iO(f:FuncId)(k:CallKind):Frame:={(default:Frame)with fn:=f,kind:=k}
def FI{P f F c}(A k C)(b:P.funcs[f]?=some F)(a:F.body=some c):cF P f A k C=G ((iO f k).at ⟨A++Array.replicate (F.ntmps -A.size) undef,[]⟩ [.code c]) C:=by
 simp[cF,Frame.enter,Frame.at,b,a,iO,G]
def room(a n):n<=(a++Array.replicate (n -a.size) undef).size:=by simp;omega
def ah8{n}{l:List Value}(h:n<=l.length):∃t r,l=tL n t r:=⟨_,_,abv h⟩
def aa3{T:Array Value}(h:23<=T.size):∃b c t r,T=(b::c::tL 21 t r).toArray:=⟨_,_,_,_,congrArg List.toArray<|abv (n:=23) (l:=T.toList) h⟩
def Cb.addr{X V P G o f A b k C e w W}(R:Cb X V P G o f A k C w b e W){i:Nat}{a}(h:A[i]?=some (.pointer<|some a)):∃c,o a.block=some c/\b[i]?=some (.pointer<|some {a with block:=c}):=by
 have K:∀g,Rn G g->Cp o g->b[i]?=some (.pointer (some<|cL g a)):=λg r c=>by rw[(R.g g r c).1,kW,h];simp[aV]
 have⟨g,r,c⟩:=R.ok.one;have⟨x,j,l⟩:=tU R.ok (a:=a) (a':=cL g a) (λn m d=>by have:=(K g r c).symm.trans<|K n m d;simpa using this)
 exact⟨x,j,by rw[K g r c,l]⟩
def LO{X V P G p f g b k C e w W x cv y o n m}(R:Cb X V P G p f g k C w b e W)(U:w.tape=W.tape)(v:V.funcs[f]?=some x)(u:x.body=some cv)(D:P.funcs[f]?=some y)(B:y.body=some o)(i:n+1<=x.ntmps)(I:m+1<=y.ntmps):∃j t r Y s q,cF V f g k C=Conc.G ((iO f k).at ⟨(j::tL n t r).toArray,[]⟩ [.code cv]) C/\cF P f b k e=Conc.G ((iO f k).at ⟨(Y::tL m s q).toArray,[]⟩ [.code o]) e/\(∀a,j=.pointer (some a)->∃c,p a.block=some c/\Y=.pointer (some {a with block:=c}))/\(∀a,j=.pointer (some a)->∃z,w.heap[a.block]?=some z/\dY V z=true)/\Tw V G p w W/\(iO f k).kind≠.early:=by
 have A:=λz N n(h:n+1<=N)=>congrArg List.toArray<|abv (l:=(z++Array.replicate (N -z.size) undef).toList) (cA h<|room z N);have H:∀a,(g++Array.replicate (x.ntmps -g.size) undef).toList[0]?.getD undef=.pointer (some a)->g[0]?=some (.pointer<|some a):=λa h=>by by_cases c:0<g.size;grind;rw[Jb,agX O9,Array.getElem?_replicate]at h;split at h<;>cases h
 refine⟨_,_,_,_,_,_,(FI g k C v u).trans (congrArg (λt=>Conc.G ((iO f k).at ⟨t,[]⟩ [.code cv]) C)<|A g _ n i),(FI b k e D B).trans (congrArg (λt=>Conc.G ((iO f k).at ⟨t,[]⟩ [.code o]) e)<|A b _ m I),λa h=>?_,λa h=>?_,⟨R.ok,R.obj,R.os,U⟩,by grind [iO,R.kind]⟩;obtain⟨c,d,M⟩:=R.addr<|H a h;exact⟨c,d,by grind⟩;obtain⟨c,d,M⟩:=R.addr<|H a h;grind [R.obj]
def rT(X:FuncId->Prop)(V P:Program)(G:Gs)(e:Nat->Option Nat)(a:World)(aU:Value->World->Prop)(f:FuncId):Prop:=∀(A h:Array Value)(k:CallKind)(C i:List Frame)(w W:World)(d:Nat->Option Nat)(g:Array Goroutine)(s:Option (Nat×Nat))(t:Trace)(q:Nat->Nat)(S:Nat->Prop),Cb X V P G d f A k C w h i W->Tree V aU (cF V f A k C) w->w.tape=W.tape->g[0]?=some (cF P f h k i)->Leavers P t g q->kF (mr S) W.heap.size 0 t->(∀c,S c->c<W.heap.size)->(∀b c,d b=some c->¬S c)->Kp e a S d W->
   (∃N m T j l,runNT P N (crowd g W s) t=(.next m,T)/\kx V (cF V f A k C) w j l/\uL X V P G e a j l m T)\/Ends P (DK V G aU e a) (crowd g W s) t
def XN{X V P G d c aU}(h:∀f,X f->rT X V P G d c aU f):LP X V P G d c aU:=λf A a k C b w W e g s t q S R=>h f R.x A a k C b w W e g s t q S R
def kP{X V P G h g aU f F s}(c:V.funcs[f]?=some F)(b:F.body=some (.refuse s)):rT X V P G h g aU f:=by intro A d k C e w W l i j t q S R a;exfalso;rw[FI A k C c b]at a;exact(JB a).refuse
def Oc{V w}(t v k c)(a:∀n,v≠.int k n):(∃s,(binOp .lss t (.int k c) v).run V w=.halt (.stuck s) w)\/(binOp .lss t (.int k c) v).run V w=.halt (.unsupported .addressObserved) w:=by cases v with
 |int K n=>refine .inl ⟨ "BinOp: operands of different kinds",?_⟩;have:k≠K:=fun e=>a n (by rw[e]);show Sem.run V (if k≠K then stuck "BinOp: operands of different kinds" else _) w=_;rw[aN this];rfl
 |pointer p=>cases p<;>exact .inr rfl
 |_=>exact .inl ⟨_,rfl⟩
def ae8{V t e ty}(b:V.underlying t=some (.slice e))(v)(h:∀p n c,v≠.slice p n c)(w):∃s,(Builtin.len_ #[t] ty #[v]).run V w=.halt (.stuck s) w:=by
 have g:(underlying t).run V w=.ok (.slice e) w:=by show Sem.run V (match V.underlying t with|some d=>pure d|none=>stuck "no such type") w=_;rw[b];rfl
 refine⟨ "len: string, array, pointer to array, slice, map or channel expected",?_⟩;unfold Builtin.len_;simp only[Uk,vG];rw[show∀(x:Sem TypeDesc)(f:TypeDesc->Sem Value),(x>>=f).run V w=(x.run V w).andThen fun a W=>(f a).run V W from fun x f=>Uq V x f w,g];cases v<;>first|rfl|exact absurd rfl (h _ _ _)
def FQ{V t ty}(b:V.underlying t=some .string)(v)(e:∀s,v≠.string s)(w):∃s,(Builtin.len_ #[t] ty #[v]).run V w=.halt (.stuck s) w:=by
 have c:(underlying t).run V w=.ok .string w:=by show Sem.run V (match V.underlying t with|some d=>pure d|none=>stuck "no such type") w=_;rw[b];rfl
 refine⟨ "len: string, array, pointer to array, slice, map or channel expected",?_⟩;unfold Builtin.len_;simp only[Uk,vG];rw[show∀(x:Sem TypeDesc)(f:TypeDesc->Sem Value),(x>>=f).run V w=(x.run V w).andThen fun a W=>(f a).run V W from fun x f=>Uq V x f w,c];cases v<;>first|rfl|exact absurd rfl (e _)
def xM{V t e}(a:V.underlying t=some (.slice e))(p n c w):(binOp .eql t (.slice p n c) ()).run V w=.ok (.bool p.isNone) w:=by
 have b:(underlying t).run V w=.ok (.slice e) w:=by show Sem.run V (match V.underlying t with|some d=>pure d|none=>stuck "no such type") w=_;rw[a];rfl
 have:binOp .eql t (.slice p n c) ↑()=(do pure (<-Op.equal t (.slice p n c) ↑())):=rfl;rw[this];unfold Op.equal;rw[show Op.maxDepth=(Op.maxDepth -1)+1 from rfl];unfold Op.equalIn;simp[b];cases p<;>rfl
section
variable{V:Program}{aU:Value→World→Prop}
def FR{G d}:∀n g w,Tree V aU g w->runN V (n+1) (oneG g w)=.next (oneG G d)->kx V g w G d
 |n,g,w,.node b h k,a=>by obtain⟨v,W,E,e,_⟩|⟨c,W,E,e⟩:=k w.drawn;rw[runN,kE (w:=w) b e]at a;cases a;have t:=h _ _ _ _ e;rw[runN,jE (w:=w) b (.inl<|by cases t with|node b _ _=>exact b) e]at a;cases n with
   |zero=>simp[runN,oneG]at a;obtain⟨rfl,rfl⟩:=a;exact .one (w:=w) e W.drawn
   |succ n=>exact .more e<|FR n c W t a
end
structure RB(B:Nat->Prop)(W W1:World):Prop where
 keep:∀c,B c->W1.heap[c]?=W.heap[c]?
 size:W.heap.size<=W1.heap.size
 os:W1.os=W.os
 tape:W1.tape=W.tape
def grow(B:Nat->Prop)(W w:World)(c:Nat):Prop:=B c\/(W.heap.size<=c/\c<w.heap.size)
structure GB(B:Nat->Prop)(W W':World)(es:Array Event):Prop where
 rest:∀c,c<W.heap.size->¬B c->W'.heap[c]?=W.heap[c]?
 size:W.heap.size<=W'.heap.size
 os:W'.os=W.os
 tape:W'.tape=W.tape
 output:W'.output=W.output
 ev:∀e∈es,∀c∈bY e.loc,grow B W W' c
 still:∀d,deafBehind d es=d
inductive DD(P:Program)(tP:(Nat->Prop)->Goroutine->World->Prop):(Nat->Prop)->Goroutine->World->Prop
 |node {B:Nat->Prop} {g:Goroutine} {W:World} (hs:g.status=.running)
   (k:∀W1,RB B W W1->tP B g W1\/∃g' W' es,stepG P false g W1=.go g' W' es/\GB B W1 W' es)
   (h:∀W1 g' W' es,RB B W W1->¬tP B g W1->stepG P false g W1=.go g' W' es->DD P tP (grow B W1 W') g' W'):DD P tP B g W
def range(a:Nat->Option Nat)(c:Nat):Prop:=∃b,a b=some c
def GG{G m k d W w}(e:Ext k d)(f:Fr k d W w)(o:fT G d m w):range d=grow (range k) W w:=by funext c;refine propext ⟨λ⟨b,a⟩=>?_,λh=>?_⟩;by_cases j:c<(W:Nat);exact .inl ⟨b,f.old b c a j⟩;exact .inr ⟨O9,(o.lt b c a).2⟩;obtain⟨b,a⟩|⟨g,i⟩:=h;exact⟨b,e b c a⟩;exact f.new c g i
def ahs(V P:Program)(t:List Frame)(G:Gs)(aU:Value->World->Prop)(B:Nat->Prop)(g:Goroutine)(W:World):Prop:=∃v a b w E c,stepG P false g W=DJ t a w E/\GB B W w E/\aU v b/\(gN G c λd=>a=aV d v)/\fT G c b.heap.size w.heap.size
def uI.keep{V P t G j g l w W k}(R:uI V P t G j g w l W)(h:RB (range j) W k):uI V P t G j g w l k:=by refine⟨R.Lx,⟨R.ok.inj,λb c a=>⟨(R.ok.lt b c a).1,fI (R.ok.lt b c a).2 h.size⟩,R.ok.real,R.ok.low⟩,λb c a=>?_,h.os.trans R.os,R.g⟩;have⟨o,O,d,e,f,i⟩:=R.obj b c a;exact⟨o,O,d,by rw[h.keep c ⟨b,a⟩];exact e,f,i⟩
section
variable{V:Program}{aU:Value→World→Prop}{g0 g g':Goroutine}{w0 w w':World}
def On.EM(h:On V aU g0 w0 g w)(d:kx V g w g' w'):On V aU g0 w0 g' w':=by refine⟨d.tree h.tree,.inr ?_⟩;obtain⟨rfl,b,rfl⟩|a:=h.desc;exact d.at w0.drawn;exact a.trans d
def On.call{f args c C}{R:Value->World->Prop}(h:On V aU g0 w0 (cF V f args .normal (c::C)) w)(d:Calls V f args w λe W=>∃v,e=.returned v/\R v W):∃v W,R v W/\On V aU g0 w0 (G (c.finish v) C) W:=by
 obtain⟨e,W,F,⟨v,rfl,b⟩,⟨n,i⟩,j,g⟩:=d (c::C);refine⟨v,W,b,h.EM ?_⟩;refine FR n _ _ h.tree ?_;have a:runN V n (oneG (cF V f args .normal (c::C)) w)=.next (lone F (c::C) W):=i;rw[runN_add,a];simp[runN,step_leave_returned g];rfl
end
section
variable{V:Program}
def NH{G X}(S:G.strict=true)(F:Fit G V V)(C:jU G V V)(K:Dz X V V)(M:∀f,X f->∃A s,V.funcs[f]?=some A/\A.body=some (.refuse s)){x B q v y}(D:runN V 1 (oneG B q)=.ended (.done v) y):∀n{m g i w W},uI V V x G m g w i W->w.tape=W.tape->w.drawn=W.drawn->runN V n (oneG g w)=.next (oneG B q)->
 ∃p c t,runN V n (oneG i W)=.next (oneG p c)/\Ext m t/\Fr m t W c/\uI V V x G t B q p c/\q.tape=c.tape/\q.drawn=c.drawn
 |0,m,g,i,w,W,R,T,H,a=>by simp only[runN,oneG,Stepped.next.injEq,Machine.mk.injEq]at a;obtain⟨rfl,a,_⟩:=a;cases a;exact⟨i,W,m,rfl,oG _,Jp _ _,R,T,H⟩
 |n+1,m,g,i,w,W,R,T,H,a=>by
   have d:runN V (n+1+1) (oneG g w)=.ended (.done v) y:=by rw[runN_add,a];exact D
   let L:M5:=⟨lF<|stepG V true g w,0,w.tape⟩;have an:WR V L G m w W:=⟨R.obj,λaw ay _=>by rw[T,H],R.os,by show(W.drawn:Int)=w.drawn+0;omega,rfl⟩;have l:=wI (tl:=x) (main:=true) (main':=true) F C K (λ_=>⟨rfl,λ_=>rfl⟩) R.ok an R.Lx R.g;have r:¬Lz L (stepG V true g w) (stepG V true i W):=λh=>by have:=wJ.1 h.1;have ap:L.lim=lF (stepG V true g w):=rfl;omega
   cases j:stepG V true g w with
   |go ax u ag=>
     rw[j]at l r;obtain h|h|⟨p,c,ao,t,ar,au,z,k,N,aq,av⟩:=l;exact absurd h r;exfalso;have e:=jE R.Lx.st h.1 j;rw[runN,e]at d;exact never_done_of_dyingOn _ h v y d;obtain⟨E,π⟩|⟨f,b,E,I,_,_,J,_,_,_,rfl,_⟩:=aq;have e:=jE R.Lx.st (.inl E.st) j;rw[runN,e]at a;have ae:u.drawn=c.drawn:=by have h:=k.NI S;have ap:L.NI=0:=rfl;omega
     have⟨ah,ab,ad,ai,Y,aj,ak⟩:=NH S F C K M D n ⟨E,z,k.obj,k.os,π⟩ (by rw[k.tp,N.tape,<-T]) ae a;exact⟨ah,ab,ad,by rw[runN,(jE (g:=i) (by have⟨M,Q,U⟩:=R.ok.one;rw[R.g M Q U];exact R.Lx.st) (.inl<|by have⟨M,Q,U⟩:=z.one;rw[π M Q U];exact E.st) ar)];exact ai,au.trans Y,N.trans Y aj,ak⟩;exfalso;have⟨A,s,P,O⟩:=M f J;rw[runN,(jE R.Lx.st (.inl rfl) j)]at d;have⟨o,X,u,ac⟩:∃o X,stepG V true (cF V f b E I) u=.ended o u X/\∀v,o≠.done v:=by simp only[cF,stepG,Frame.enter,P,zZ,O,nB,stepG.exec];exact⟨_,_,rfl,λv am=>by cases am⟩
     have d:runN V (n+1) (oneG (cF V f b E I) _)=.ended (.done v) y:=d;rw[runN,(kE (g:=cF V f b E I) rfl u)]at d;cases d;exact ac _ rfl
   |ended o u ag=>rw[runN,(kE R.Lx.st j)]at a;cases a
   |_=>rw[j]at l r;exact absurd l r
def Rd{b:Type}(p:Program)(s:Sem b):Prop:=∀w a W,s.run p w=.ok a W->W=w
def Rd.pure{c p}(a):Rd p (Pure.pure a:Sem c):=λw b W h=>by cases h;rfl
def vL:=@Rd.pure
def Rd.bind{g d p s}{f:g->Sem d}(h:Rd p s)(k:∀a,Rd p<|f a):Rd p (s>>=f):=λw b W e=>by rw[Ud]at e;cases c:s.run p w with
 |ok a u=>rw[c]at e;rw[k a _ _ _ e,h _ _ _ c]
 |halt x u=>cases c▸e
def Fy:=@Rd.bind
def U8{p}(a):Rd p (load a):=λw b W e=>by simp[load,Sem.run]at e;split at e;cases e;rfl;split at e;cases e;rfl;cases e
def NJ{p}(a):∀n i A,Rd p (loadCellsFrom a i n A)
 |0,_,_=>vL _
 |n+1,i,_=>(U8 _).bind λ_=>NJ a n (i+1) _
def rd_not{b p}{s:Sem b}(h:∀w,∃x u,s.run p w=.halt x u):Rd p s:=λw a W e=>by have⟨x,u,c⟩:=h w;cases c▸e
def aeP{p}(v):Rd p (asAddr v):=by unfold asAddr;split;exact vL _;exact rd_not λw=>⟨_,_,rfl⟩;exact rd_not λw=>⟨_,_,rfl⟩
def U9{b p}{f:Program->Sem b}(h:Rd p (f p)):Rd p (program>>=f):=λw a W e=>h w a W e
def ahY{p}(t a):Rd p (loadVar t a):=by unfold loadVar isAgg underlying sizeOf typeInfo;refine Fy ?_ λb=>?_;refine Fy (U9 ?_) λd=>?_;split;exact vL _;exact rd_not λw=>⟨_,_,rfl⟩;split<;>exact vL _;split;refine Fy ?_ λ_=>Fy (NJ _ _ _ _) λ_=>vL _;refine Fy (U9 ?_) λd=>vL _;split;exact vL _;exact rd_not λw=>⟨_,_,rfl⟩;exact U8 _
def Va{p}{b c:Type}(f:b->Sem c)(h:∀a,Rd p<|f a):∀l:List b,Rd p (l.mapM f)
 |[]=>vL _
 |a::l=>by rw[List.mapM_cons];exact(h a).bind λ_=>(Va f h l).bind λ_=>vL _
def Q0{p}(b t):Rd p (results b t):=by unfold results;rw[Ue];refine Fy ?_ λ_=>vL _;rw[map_eq_pure_bind];refine Fy (Va _ (λa=>?_) _) λ_=>vL _;cases a with
 |tmp=>exact vL _
 |cell=>exact(aeP _).bind λ_=>ahY _ _
structure Twn(V:Program)(G:Gs)(μ:Nat->Option Nat)(w W:World):Prop where
 ok:fT G μ w.heap.size W.heap.size
 obj:QT V G μ w W
 os:W.os=w.os
 tape:w.tape=W.tape
 drawn:w.drawn=W.drawn
def Q3{G X}(S:G.strict=true)(F:Fit G V V)(C:jU G V V)(K:Dz X V V)(M:∀f,X f->∃k s,V.funcs[f]?=some k/\k.body=some (.refuse s)){f}(N:¬X f){y a w W x R}(h:Calls V f y w R)(aa:∀e g,R e g->∃v,e=.returned v)(T:Twn V G x w W)(b:gN G x λi=>a=y.map (aV i)):Calls V f a W λe E=>∃v j g d,R (.returned v) g/\e=.returned j/\(gN G d λi=>j=aV i v)/\Ext x d/\Twn V G d g E/\Fr x d W E:=λI=>by
 have⟨e,g,m,r,c,q,l⟩:=h [];obtain⟨v,rfl⟩:=aa _ _ r;have⟨n,c⟩:=c;have D:runN V 1 (oneG {frame:=m,callers:=[],status:=.running,dying:=none} g)=.ended (.done v) g:=by rw[runN,show step V (oneG _ g)=_ from step_leave_done l (by rw[q];simpa[yt]using((K.ok f N).2))]
 have Y:uI V V I G x {frame:=Frame.enter V f y .normal,callers:=[],status:=.running,dying:=none} w {frame:=Frame.enter V f a .normal,callers:=I,status:=.running,dying:=none} W:=⟨⟨tO K N y<|.inl rfl,rfl,rfl,rfl,rfl,rfl⟩,T.ok,T.obj,T.os,λi r c=>by rw[b i r c];simp[oH,qE]⟩;have⟨p,u,d,q1,q2,q3,t,P,U⟩:=NH S F C K M D n Y T.tape T.drawn c;have⟨hm,hd,hk,k,hf,hr⟩:=l;have o:=sim (Q:=VR) (s:=results k m.tmps) (s':=results k p.frame.tmps) (L:=⟨g.drawn+1,0,g.tape⟩) (p:=V) (p':=V) t.ok ⟨t.obj,λac q _=>by rw[P,U],t.os,by show(u.drawn:Int)=g.drawn+0;omega,rfl⟩ (λi r c=>by rw[t.g i r c];exact Fz F r rfl m.tmps);have⟨i,p1,p2⟩:=t.ok.one;have B:=t.g i p1 p2;have H:=Fe V (results k p.frame.tmps) u #[];have z:=Fe V (results k m.tmps) g #[];rw[hr]at z;generalize(results k m.tmps).runT V g #[]=A at o z;generalize(results k p.frame.tmps).runT V u #[]=ab at o H;have⟨A,es⟩:=A;simp only at z;subst z;obtain o|⟨j,W2,ES,π,rfl,O,o3,J,o5,_,o6⟩:=o;have:=o.1;simp only at this;omega;simp only at H;cases Q0 _ _ _ _ _ H.symm;refine⟨.returned j,u,p.frame,⟨v,j,g,π,r,rfl,o6,q2.trans O,⟨o3,J.obj,J.os,P,U⟩,q3.trans O o5⟩,⟨n,?_⟩,?_,?_⟩;show runN V n (oneG _ W)=.next (oneG _ u);rw[q1];rw[B];simp[oH];rw[B];exact q;rw[B]at H|-;exact⟨by show rQ i m.mode=_;rw[hm];rfl,by show m.defers.map (mI i)=_;rw[hd];rfl,hk,k,hf,H.symm⟩
end
end Go.Ren
namespace Go.Proofs.aH
open Go.RowKit Tryz
section
variable[Go.Proofs.VB]
def zC(n l H w):Calls Vp 132 #[.int .i64 n,.int .i64 l,.int .i64 H] w λe b=>e=.returned (pV n l H)/\b=w:=by
 by_cases h:l<=n;.go_enter fA func132,ntmps132;go_wp2;go_ret;simp[pV,h]
 have a:decide (l<=n)=false:=by simpa using h
 go_enter fA func132,ntmps132;go_wp2;go_ret;simp[pV,a]
end
def jB.v(x:jB):Value:=.agg #[.string x.tx,.int .i64 x.idx,.string x.key]
def dD.v(x:dD):Value:=.agg #[.int .i64 x.val,.string x.lock]
def ku.v(t:ku):Value:=.agg #[.int .i64 t.tag,t.iv,t.ov]
end Go.Proofs.aH
