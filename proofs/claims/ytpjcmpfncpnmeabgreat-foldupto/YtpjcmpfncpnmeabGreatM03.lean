import Derived.Test.YtpjcmpfncpnmeabGreatProg
import Derived.WalkKit
import Derived.WalkSpells
import Derived.WalkLawsBesides
import Derived.BigQuiet
import Derived.Maps.AppendAt
import Derived.Lib.AppendStr
import Derived.Conc.RwLib
import Derived.Maps.Keyed
import Derived.MapViews
import Derived.Test.YtpjcmpfncpnmeabGreatM02
set_option linter.all false
set_option maxHeartbeats 1000000
set_option maxRecDepth 100000
namespace Go.Ren
def pg{α:Type}(p:Program)(Q:α->Prop):Sem α->Prop
 |.pure a=>Q a
 |.load _ _ k=>∀v,pg p Q (k v)
 |.store _ _ _ k=>pg p Q k
 |.new _ k=>∀r,pg p Q (k r)
 |.shape _ k=>∀r,pg p Q (k r)
 |.freeze _ _ k=>pg p Q k
 |.frozen _ k=>∀b,pg p Q (k b)
 |.getObj _ k=>∀o,pg p Q (k o)
 |.setObj _ _ k=>pg p Q k
 |.choose _ k=>∀n,pg p Q (k n)
 |.sys _ k=>∀r,pg p Q (k r)
 |.program k=>pg p Q (k p)
 |.mark _ k=>pg p Q k
 |.halt _=>True
section
variable{α β:Type}{p:Program}
def E1(s:Sem α):pg p (λ_=>True) s:=by induction s with
 |pure a=>exact trivial
 |load m a k b=>exact b
 |store m a v k b=>exact b
 |new o k b=>exact b
 |shape r k b=>exact b
 |freeze a n k b=>exact b
 |frozen a k b=>exact b
 |getObj r k b=>exact b
 |setObj r o k b=>exact b
 |choose q k b=>exact b
 |sys c k b=>exact b
 |program k b=>exact b p
 |mark m k b=>exact b
 |halt h=>exact trivial
def pg.bind'{Q Q'}{f:α->Sem β}(d:∀a,Q a->pg p Q' (f a))(s):pg p Q s->pg p Q' (s.bind f):=by induction s with
 |pure a=>exact d a
 |load m a k b=>exactλh v=>b v (h v)
 |store m a v k b=>exact b
 |new o k b=>exactλh v=>b v (h v)
 |shape r k b=>exactλh v=>b v (h v)
 |freeze a n k b=>exact b
 |frozen a k b=>exactλh v=>b v (h v)
 |getObj r k b=>exactλh v=>b v (h v)
 |setObj r o k b=>exact b
 |choose q k b=>exactλh v=>b v (h v)
 |sys c k b=>exactλh v=>b v (h v)
 |program k b=>exact b p
 |mark m k b=>exact b
 |halt h=>exactλ_=>trivial
def pg.bind{Q Q' s}{f:α->Sem β}(h:pg p Q s)(b:∀a,Q a->pg p Q' (f a)):pg p Q' (s>>=f):=pg.bind' b s h
def z7:=@pg.bind
def Yh{Q}(s:Sem α):∀w es,pg p Q s->∀a w',(s.runT p w es).1=.ok a w'->Q a:=by induction s with
 |pure a=>intro w es h b w' e;cases e;exact h
 |load m a k d=>
   intro w es h b w' e;simp only[Sem.runT]at e;split at e;.exact d _ w _ (h _) b w' e
   .split at e;.exact d _ w _ (h _) b w' e
    .cases e
 |store m a v k d=>
   intro w es h b w' e;rcases Ez (p:=p) (m:=m) (a:=a) (v:=v) (k:=k) (w:=w) (es:=es)with⟨g,f⟩|f;.simp_all
   .rw[f]at e;split at e
    .split at e;.cases e
     .exact d _ _ h b w' e
    .split at e;.exact d _ _ h b w' e
     .cases e
 |new o k d=>intro w es h b w' e;exact d _ _ _ (h _) b w' e
 |shape r k d=>intro w es h b w' e;exact d _ _ _ (h _) b w' e
 |freeze a n k d=>intro w es h b w' e;exact d _ _ h b w' e
 |frozen a k d=>intro w es h b w' e;exact d _ _ _ (h _) b w' e
 |getObj r k d=>
   intro w es h b w' e;simp only[Sem.runT]at e;split at e;.cases e
   .exact d _ w _ (h _) b w' e
   .cases e
 |setObj r o k d=>
   intro w es h b w' e;simp only[Sem.runT]at e;split at e;.cases e
   .exact d _ _ h b w' e
   .cases e
 |choose q k d=>
   intro w es h b w' e;simp only[Sem.runT]at e;split at e;.exact d _ w _ (h _) b w' e
   .exact d _ _ _ (h _) b w' e
 |sys c k d=>intro w es h b w' e;exact d _ _ _ (h _) b w' e
 |program k d=>intro w es h b w' e;exact d _ _ _ h b w' e
 |mark m k d=>intro w es h b w' e;exact d _ _ h b w' e
 |halt h=>intro w es h b w' e;cases e
end
def E2{info d i}(h:Made.reckon info d=some i):i.methods=#[]:=by cases d with
 |pointer e=>
   simp[Made.reckon,zu]at h;obtain⟨j,-,h⟩:=h;split at h;.cases h
   .split at h;.cases h
    .simp[zu]at h;obtain⟨_,-,rfl⟩:=h;rfl
   .simp[zu]at h;obtain⟨_,-,rfl⟩:=h;rfl
 |slice e=>simp[Made.reckon,zu]at h;obtain⟨_,-,_,-,rfl⟩:=h;rfl
 |map k e=>simp[Made.reckon,bind,zu]at h;obtain⟨_,-,_,-,_,-,_,-,rfl⟩:=h;rfl
 |chan k e=>simp[Made.reckon,bind,zu,pure,gA]at h;obtain⟨_,-,_,-,rfl⟩:=h;rfl
 |func a b c=>simp[Made.reckon,bind,zu,pure,gA]at h;obtain⟨_,-,rfl⟩:=h;rfl
 |array n e=>simp[Made.reckon,bind,zu,pure,gA]at h;obtain⟨_,-,_,-,rfl⟩:=h;rfl
 |struct f=>simp only[Made.reckon,Made.reckonStruct,bind,zu,pure]at h;obtain⟨r,-,h⟩:=h;split at h<;>(cases h;rfl)
 |_=>cases h
def E3{T n t i}(h:Made.infoAt T n t=some i):i∈T.types\/i.methods=#[]:=by cases n with
 |zero=>cases h
 |succ n=>
   unfold Made.infoAt at h;split at h;.grind
   .right;cases a:Made.decode (t -T.types.size)with
    |none=>rw[a]at h;cases h
    |some d=>rw[a]at h;exact E2 h
def Jp{T:Tables}{t i}(h:T.info? t=some i):i∈T.types\/i.methods=#[]:=by
 unfold Tables.info? at h;split at h;.grind
 .exact E3 h
def z8(s:String):Bool:=s== "Error" ||s== "String"
def qJ(fn:Func):Bool:=fn.body.isNone&&fn.name== "none" &&fn.origin== "none"
def Pg(types:Array TypeInfo)(d:FuncId->Bool):Bool:=types.all λi=>i.methods.all λm=>!z8 m.name||m.func.all λx=>d x.1
def E4(p:Program):Bool:=Pg p.types λf=>(p.funcs[f]?).all qJ
def Rx:Next->Prop
 |.enter ..=>False
 |_=>True
def TT:Extern.allNextRows.lookup "none" =none:=K8
def Ph:Extern.allTypedRows.lookup "none" =none:=K8
def TU:Extern.allRows.lookup "none" =none:=K8
def HI{fn}(h:fn.name= "none")(a:fn.origin= "none"):Extern.findNext fn=none:=by simp only[Extern.findNext,h,a,TT];rfl
def HJ{fn}(h:fn.name= "none")(a:fn.origin= "none"):Extern.find fn=none:=by simp only[Extern.find,h,a,Ph,TU];rfl
def Ry{fn}(h:qJ fn=true):fn.body.isNone=true/\fn.name= "none" /\fn.origin= "none" :=by simp only[qJ,dP,uR]at h;exact⟨h.1.1,h.1.2,h.2⟩
def TV{p f fn}(d:p.funcs[f]?=some fn)(h:qJ fn=true)(args):pg p Rx (callFunc f args):=by have⟨c,a,b⟩:=Ry h;refine z7 (Q:=λq=>q=p) (s:=program) rfl ?_;rintro _ rfl;rw[d];simp[c,a,HI a b,HJ a b];exact trivial
def CI{p}(a:E4 p=true){name}(d:z8 name=true):∀n t v,pg p (λx:FuncId×Value=>(p.funcs[x.1]?).all qJ=true) (method n t v name)
 |0,t,v=>trivial
 |n+1,t,v=>by
   have k:=CI a d n;refine z7 (Q:=λi=>p.info? t=some i) ?_ ?_
   .refine z7 (Q:=λq=>q=p) (s:=program) rfl ?_;rintro _ rfl;split;.assumption
    .trivial
   intro i hi;cases c:i.methods.find? (·.name==name)with
   |none=>trivial
   |some m=>
     refine z7 (E1 _) ?_;rintro⟨l,x⟩ -;have h:=Array.mem_of_find?_eq_some c;have j:m.name=name:=by have:=Array.find?_some c;simpa using this
     cases g:m.func with
     |none=>refine z7 (E1 _) ?_;intro y _;cases y<;>first|exact k _ _|trivial
     |some e=>
       have⟨f,b⟩:=e;refine z7 (E1 _) ?_;intro y _;show(p.funcs[f]?).all qJ=true;obtain hi|hi:=Jp hi;.have:=zn.1 a i hi;have:=zn.1 this m h;rw[j,d,g]at this;simpa using this
       .simp_all
def TW{p v recv t name}(h:panicText p false v=.call t recv name):z8 name=true:=by
 unfold panicText at h;split at h
 .split at h;.cases h
  .rename_i info _;dsimp only at h;have key:∀(s:String) (m:Method) (g:Method->Bool),z8 s=true->info.methods.find? (fun m=>m.name==s&&g m)=some m->z8 m.name=true:=fun s m g b a=>by grind
   split at h;.rename_i a;cases h;exact key "Error" _ _ rfl a
   .rename_i a;cases h;exact key "String" _ _ rfl a
   .grind
 all_goals cases h
def Yi{p}(b:E4 p=true)(todo):NoEnter p todo:=by
 intro x _ t recv name i w f args w' c;have d:=TW i;have key:pg p Rx (invoke (.fn (.method name) #[]) #[.iface t recv]):=by refine z7 (Q:=λq=>q=p) (s:=program) rfl ?_;intro q e;subst e;refine z7 (CI b d _ t recv) ?_;rintro⟨f,x⟩ h;cases a:q.funcs[f]? with
  |none=>refine z7 (Q:=λr=>r=q) (s:=program) rfl ?_;intro r g;rw[g,a];trivial
  |some fn=>rw[a]at h;exact TV a h _
 exact Yh _ w #[] key _ _ c
def DG(f f':Func):Bool:=f.name != "runtime.NumGoroutine" &&f'.name != "runtime.NumGoroutine" &&(f.body.isSome&&f'.body.isSome||qJ f&&f'.body.isNone)
def DI{p p' Z k f f'}(q:p.funcs[k]?=some f)(r:p'.funcs[k]?=some f')(h:DG f f'=true)(args):SR p p' Z (NR p Z) (callFunc k args) (callFunc k (args.map (bC Z))):=by
 simp[DG]at h;have⟨⟨g,j⟩,h⟩:=h;have i:(f.name== "runtime.NumGoroutine")=false:=by simpa using g
 have l:(f'.name== "runtime.NumGoroutine")=false:=by simpa using j
 refine iO ?_;rw[q,r];simp only[i,l];obtain⟨c,d⟩|⟨c,d⟩:=h
 .have m:f.body.isNone=false:=by cases o:f.body<;>simp_all
  have n:f'.body.isNone=false:=by cases o:f'.body<;>simp_all
  simp[m,n];exact aM ⟨rfl,rfl⟩
 .have⟨e,a,b⟩:=Ry c;simp[e,d,a,HI a b,HJ a b];exact aK (Q:=fun _ _=>True) (Jh rfl) (fun _ _ _=>aL rfl)
def ve{p p' Z}:∀n a acc,SR p p' Z (λx c=>c=x) (Extern.Bytes.loadBytes a n acc) (Extern.Bytes.loadBytes (cE Z a) n acc)
 |0,a,acc=>aM rfl
 |n+1,a,acc=>by refine aK Dz ?_;rintro v _ rfl;cases v with
   |int k b=>rw[cU];cases k with
     |u8=>have:=ve (p:=p) (p':=p') (Z:=Z) n (a.add 1) (acc.push b.toNat.toUInt8);exact this
     |_=>exact aL rfl
   |_=>exact aL rfl
def E5{p p' Z}(v):SR p p' Z (λx d=>d=x) (Extern.Bytes.bytesOf v) (Extern.Bytes.bytesOf (bC Z v)):=by cases v with
 |string s=>rw[cD];exact aM rfl
 |slice a l c=>rw[bT];cases a with
   |none=>exact aM rfl
   |some a=>
     by_cases b:l=0/\c=0;.obtain⟨rfl,rfl⟩:=b;exact aM rfl
     .rw[qi,qj b];exact ve _ _ _
 |_=>exact aL rfl
def Pj{p p' Z}(args):SR p p' Z (VR Z) (Extern.BytealgCompare.compare args) (Extern.BytealgCompare.compare (args.map (bC Z))):=by have⟨l⟩:=args;match l with
 |[]=>exact aL rfl
 |[x]=>exact aL rfl
 |x::y::z::l=>exact aL rfl
 |[x,y]=>rw[show(#[x,y].map (bC Z))=#[bC Z x,bC Z y]by simp];refine aK (E5 x) ?_;rintro _ a rfl;refine aK (E5 y) ?_;rintro _ b rfl;exact aM (by simp[VR,goInt])
def Yj:Extern.allNextRows.lookup "internal/bytealg.abigen_runtime_cmpstring" =none:=K8
def TX:Extern.allTypedRows.lookup "internal/bytealg.abigen_runtime_cmpstring" =none:=K8
def Yl:Extern.allRows.lookup "internal/bytealg.abigen_runtime_cmpstring" =some Extern.BytealgCompare.compare:=K8
def Pk:Extern.allNextRows.lookup "" =none:=K8
def Ym{p p' Z k f}(g:p.funcs[k]?=some f)(h:p'.funcs[k]?=some f)(a:f.name= "internal/bytealg.abigen_runtime_cmpstring")(i:f.origin= "")(e:f.body.isNone=true)(args):SR p p' Z (NR p Z) (callFunc k args) (callFunc k (args.map (bC Z))):=by
 have b:(f.name== "runtime.NumGoroutine")=false:=by rw[a];decide
 have c:Extern.findNext f=none:=by simp only[Extern.findNext,a,i,Yj,Pk];rfl
 have d:Extern.find f=some Extern.BytealgCompare.compare:=by simp only[Extern.find,a,TX,Yl];rfl
 refine iO ?_;rw[g,h];simp[b,e,c,d];refine aK (Q:=fun _ _=>True) (Jh rfl) (fun _ _ _=>?_);refine aK (Pj args) ?_;rintro v _ rfl;exact aM ⟨rfl,rfl⟩
end Go.Ren
namespace Go.Proofs
open Go.Ren
section
class VB where
 b:Bool
variable[VB]
def aI.or(c:Code):Code:=bif VB.b then c else .refuse "not here"
def aI.o(d:Nat)(op:Op)(t:TypeId):Oper:={dst:=some d,op:=op,type:=t,pos:= "",after:=#[],guard:=none}
def aI.st(op:Op):Oper:={dst:=none,op:=op,type:=0,pos:= "",after:=#[],guard:=none}
def aI.here(c:Code):Code:=(Code.region 2 #[aI.o 2 (.binOp .eql 137 (.tmp 0) (.const (.pointer none)) 137) 4] false).seq ((Code.cond (.tmp 2) (.refuse "no lock") .skip).seq c)
def aI.count:Array Oper:=#[aI.o 5 (.fieldAddr 97 (.tmp 0) 3) 0,aI.o 6 (.fieldAddr 95 (.tmp 5) 1) 0,aI.o 7 (.load 21 (.tmp 6)) 21]
def aI.state:Array Oper:=#[aI.o 8 (.fieldAddr 97 (.tmp 0) 0) 0,aI.o 9 (.fieldAddr 92 (.tmp 8) 1) 0,aI.o 10 (.fieldAddr 90 (.tmp 9) 0) 0,aI.o 11 (.load 21 (.tmp 10)) 21]
def aI.UN:Array Oper:=#[aI.o 14 (.fieldAddr 97 (.tmp 0) 1) 0,aI.o 15 (.load 88 (.tmp 14)) 88,aI.o 16 (.fieldAddr 97 (.tmp 0) 2) 0,aI.o 17 (.load 88 (.tmp 16)) 88]
def aI.only(id t:Nat)(lo hi:Int)(c:Code):Code:=(Code.region id #[aI.o 12 (.binOp .lss 21 (.tmp t) (.const (.int .i32 lo)) 21) 4,aI.o 13 (.binOp .lss 21 (.const (.int .i32 hi)) (.tmp t) 21) 4] false).seq
 ((Code.cond (.tmp 12) (.refuse "not so") .skip).seq ((Code.cond (.tmp 13) (.refuse "not so") .skip).seq c))
def aI.cells(lo hi:Int)(c:Code):Code:=aI.here<|(Code.region 0 (aI.count++aI.state++aI.UN) false).seq (aI.only 3 7 lo hi c)
def aI.rlock:Code:=aI.cells 0 2147483646 (Code.region 1 #[aI.o 18 (.binOp .add 21 (.tmp 7) (.const (.int .i32 1)) 21) 21,aI.st (.store 21 (.tmp 6) (.tmp 18))] false)
def aI.runlock:Code:=aI.cells 1 2147483647 (Code.region 1 #[aI.o 18 (.binOp .sub 21 (.tmp 7) (.const (.int .i32 1)) 21) 21,aI.st (.store 21 (.tmp 6) (.tmp 18))] false)
def aI.lock:Code:=aI.cells 0 0 (aI.only 4 11 0 0 (Code.region 1 #[aI.st (.store 21 (.tmp 10) (.const (.int .i32 1))),aI.st (.store 21 (.tmp 6) (.const (.int .i32 (-1073741824))))] false))
def aI.unlock:Code:=aI.cells (-1073741824) (-1073741824) (aI.only 4 11 1 1 (Code.region 1 #[aI.st (.store 21 (.tmp 6) (.const (.int .i32 0))),aI.st (.store 21 (.tmp 10) (.const (.int .i32 0)))] false))
def aI.rC:Code:=(Code.region 0 #[aI.o 5 (.call {callee:=.builtin .len,args:=#[.tmp 0],argTypes:=#[103]}) 3,aI.o 6 (.binOp .lss 3 (.const ↑aA) (.tmp 1) 3) 4,aI.o 16 (.binOp .lss 3 (.const (.int .i64 2147483646)) (.tmp 1) 3) 4,aI.o 17 (.binOp .lss 3 (.const (.int .i64 2147483646)) (.tmp 5) 3) 4] false).seq
 ((Code.cond (.tmp 6) .skip (.refuse "no workers")).seq ((Code.cond (.tmp 16) (.refuse "too many workers") .skip).seq ((Code.cond (.tmp 17) (.refuse "too many trials") .skip).seq
 ((Code.region 6 #[aI.o 4 (.assign (.const (.slice none 0 0))) 250,aI.o 3 (.makeSlice 250 (.tmp 5) (.tmp 5)) 250,aI.o 2 (.move (.const ↑aA)) 3] false).seq
 ((Code.block 0 (Code.loop ((Code.region 1 #[aI.o 7 (.binOp .lss 3 (.tmp 2) (.tmp 5) 3) 4] false).seq
   ((Code.cond (.tmp 7) .skip (.exit 0)).seq
   ((Code.region 7 #[aI.o 22 (.binOp .eql 103 (.tmp 0) (.const (.slice none 0 0)) 103) 4] false).seq
   ((Code.cond (.tmp 22) (.refuse "no trials") .skip).seq
   ((Code.region 2 #[aI.o 8 (.indexAddr 103 (.tmp 0) (.tmp 2)) 0,aI.o 9 (.load 247 (.tmp 8)) 247,aI.o 10 (.field 247 (.tmp 9) 0) 9,aI.o 11 (.field 247 (.tmp 9) 1) 9,aI.o 12 (.field 247 (.tmp 9) 2) 9,aI.o 13 (.field 247 (.tmp 9) 3) 3,
     aI.o 14 (.call {callee:=.builtin .len,args:=#[.tmp 10],argTypes:=#[9]}) 3,aI.o 14 (.call {callee:=.builtin .len,args:=#[.tmp 11],argTypes:=#[9]}) 3,aI.o 14 (.call {callee:=.builtin .len,args:=#[.tmp 12],argTypes:=#[9]}) 3,
     aI.o 15 (.binOp .lss 3 (.const (.int .i64 9223372036854775807)) (.tmp 13) 3) 4] false).seq
   ((Code.cond (.tmp 15) (.refuse "too high") .skip).seq
   ((Code.region 3 #[aI.o 18 (.call {callee:=.value (.func 165),args:=#[.tmp 10,.tmp 11,.tmp 12,.tmp 13],argTypes:=#[9,9,9,3]}) 0] false).seq
   (Code.region 4 #[aI.o 19 (.extract (.tmp 18) 0) 45,aI.o 20 (.indexAddr 250 (.tmp 3) (.tmp 2)) 0,aI.st (.store 45 (.tmp 20) (.tmp 19)),aI.o 21 (.binOp .add 3 (.tmp 2) (.const ↑aG) 3) 3,aI.o 2 (.move (.tmp 21)) 3] false)))))))))).seq
 ((Code.region 5 #[aI.o 4 (.assign (.tmp 3)) 250] false).seq .ret))))))
def aI.code(k:FuncId):Option Code:=if k=25 then some (aI.or aI.rlock)else if k=26 then some (aI.or aI.runlock)else if k=30 then some (aI.or aI.lock)else if k=31 then some (aI.or aI.unlock)
 else if k=155 then some (aI.or aI.rC)
 else if[2,90,91,124,162,166].contains k then some (.refuse "not here")else none
def aI.iH(k:FuncId)(f:Func):Func:=match aI.code k with
 |some c=>{f with body:=some c}
 |none=>if f.body.isNone&&k !=118 then{f with name:= "none",origin:= "none" }else f
noncomputable def Vp:Program:={Tryz.prog with globals:=#[],rt:={Tryz.prog.rt with typeAssertionError:=0},funcs:=Tryz.prog.funcs.mapIdx aI.iH}
structure CoV
instance:CoeFun CoV (λ_=>FuncId->Array Value->World->(Ending->World->Prop)->Prop):=⟨λ_=>Calls Vp⟩
def Cv:CoV:=⟨⟩
def aI.VD{α β:Type}(a:Array α)(f:Nat->α->β)(k):(a.mapIdx f)[k]?=(a[k]?).map (f k):=Array.getElem?_mapIdx
def aI.aaN:Vp.funcs=Tryz.prog.funcs.mapIdx aI.iH:=K8
def aI.at(k):Vp.funcs[k]?=(Tryz.prog.funcs[k]?).map (aI.iH k):=by rw[aI.aaN];generalize Tryz.prog.funcs=a;exact aI.VD a _ k
def yr:=@aI.at
def aI.aaO:(Tryz.prog.types.all λi=>i.zero.all Jf)=true:=K8
def aI.aaP:(Tryz.prog.types.all λi=>A2 Tryz.prog.types.size i.desc)=true:=K8
def aI.fit{G:Gs}:Fit G Vp Tryz.prog where
 tab:=rfl;rts:=rfl;ta:=λe h=>by
  have:Vp.underlying 0=some (.tuple #[]):=by kernel_rfl
  have h:Vp.underlying 0=some (.pointer e):=h;rw[this]at h;cases h
 zero:=λi hi v hv=>by have:=zn.1 aI.aaO i hi;rw[hv]at this;exact this
 desc:=λi hi=>zn.1 aI.aaP i hi;none:=rfl;fol:=rfl;afL:=by show Tryz.prog.globals.size<=1;rw[Tryz.globals_size];decide
def pH:=@aI.fit
end
section
variable[VB]
def aI.X(k:FuncId):Prop:=(aI.code k).isSome=true
def aI.ac2{k}(h:¬aI.X k)(f):(aI.iH k f).body=f.body/\(aI.iH k f).ntmps=f.ntmps:=by
 have:aI.code k=none:=by unfold aI.X at h;cases a:aI.code k with
  |none=>rfl
  |some c=>rw[a]at h;exact absurd rfl h
 unfold aI.iH;rw[this];dsimp only;split<;>exact⟨rfl,rfl⟩
def aaQ:=@aI.ac2
def aI.keep(k f):(aI.iH k f).results=f.results/\(aI.iH k f).norace=f.norace:=by
 unfold aI.iH;split;.simp
 .grind
def aI.aaR:Vp.types=Tryz.prog.types:=K8
def aI.inits_eq:Vp.inits=#[2]:=K8
def adU:=@aI.inits_eq
def aI.afd:(Tryz.prog.funcs.toList.zipIdx.all λx=>(aI.code x.2).isSome||x.1.body.all (eX Vp))=true:=K8
def aI.aaS:(Tryz.prog.funcs.toList.zipIdx.all λx=>x.2==118||DG (aI.iH x.2 x.1) x.1)=true:=K8
def aI.ac3:(Pg Tryz.prog.types λf=>(Tryz.prog.funcs[f]?).all λfn=>qJ (aI.iH f fn))=true:=K8
def aI.afe{T}(h:(Tryz.prog.funcs.toList.zipIdx.all T)=true){k:FuncId}{f}(a:Tryz.prog.funcs[k]?=some f):T (f,k)=true:=by grind
def N0:=@aI.afe
def aI.ac4(f):(Vp.funcs[f]?).all qJ=(Tryz.prog.funcs[f]?).all λfn=>qJ (aI.iH f fn):=by rw[yr];cases Tryz.prog.funcs[f]?<;>rfl
def aI.dry:E4 Vp=true:=by
 have h:E4 Vp=Pg Tryz.prog.types λf=>(Tryz.prog.funcs[f]?).all λfn=>qJ (aI.iH f fn):=by rw[E4,aI.aaR];exact congrArg _ (funext aI.ac4)
 rw[h];exact aI.ac3
def aI.kin:DF aI.X Vp Tryz.prog where
 sort:=λf=>by rw[yr];cases Tryz.prog.funcs[f]? with
  |none=>rfl
  |some fn=>simp only[dM,(aI.keep f fn).1,(aI.keep f fn).2]
 same:=λf hX args k=>by unfold Frame.enter;rw[yr];cases Tryz.prog.funcs[f]? with
  |none=>rfl
  |some fn=>simp only[dM,vK,(aaQ hX fn).1,(aaQ hX fn).2]
 dry:=Yi aI.dry;ok:=λf hX=>by
  constructor;.rw[yr];cases hf:Tryz.prog.funcs[f]? with
   |none=>rfl
   |some fn=>have:=N0 aI.afd hf;simp only[QH]at this;simp only[dM,QK,(aaQ hX fn).1];exact this.resolve_left hX
  .unfold yA;rw[adU];have:f≠2:=λh=>hX (by subst h;rfl);rw[adm,adn];simp[this]
def Eg:=@aI.kin
def aI.calls{G}:kV G Vp Tryz.prog:=by intro Z R f args;cases a:Tryz.prog.funcs[f]? with
 |none=>refine iO ?_;rw[yr,a];exact aL rfl
 |some fn=>
   have c:Vp.funcs[f]?=some (aI.iH f fn):=by rw[yr,a];rfl
   have:=N0 aI.aaS a;simp at this;obtain rfl|h:=this
   .have b:fn=Tryz.f118:=by rw[Tryz.func118]at a;exact(iQ a).symm
    have d:aI.iH 118 fn=fn:=by rw[b];kernel_rfl
    rw[d]at c;exact Ym c a (by rw[b];rfl) (by rw[b];rfl) (by rw[b];rfl) args
   .exact DI c a h args
def Hj:=@aI.calls
end
section
variable[iv:VB]
def aI.afz{G:Gs}:Fit G Vp Vp where tab:=rfl;rts:=rfl;ta:=(pH (G:=G)).ta;zero:=(pH (G:=G)).zero;desc:=(pH (G:=G)).desc;none:=(pH (G:=G)).none;fol:=(pH (G:=G)).fol;afL:=by have:Vp.globals.size=0:=(pH (G:=G)).none;omega
def aI.ac6:(Tryz.prog.funcs.toList.zipIdx.all λx=>(aI.iH x.2 x.1).body.all (eX Vp))=true:=by obtain⟨_|_⟩:=iv<;>kernel_rfl
def aI.VE:(Tryz.prog.funcs.toList.zipIdx.all λx=>x.2==118||DG (aI.iH x.2 x.1) (aI.iH x.2 x.1))=true:=by obtain⟨_|_⟩:=iv<;>kernel_rfl
def aI.X0(k:FuncId):Prop:=k=2
def aI.WU:DF aI.X0 Vp Vp where
 sort:=λf=>rfl;same:=λf hX args k=>rfl;dry:=Yi aI.dry;ok:=λf hX=>by
  constructor;.rw[yr];cases hf:Tryz.prog.funcs[f]? with
   |none=>rfl
   |some fn=>exact N0 aI.ac6 hf
  .unfold yA;rw[adU];have:f≠2:=hX;rw[adm,adn];simp[this]
def aI.WT{G}:kV G Vp Vp:=by intro Z R f args;cases a:Tryz.prog.funcs[f]? with
 |none=>refine iO ?_;rw[yr,a];exact aL rfl
 |some fn=>
   have b:Vp.funcs[f]?=some (aI.iH f fn):=by rw[yr,a];rfl
   have:=N0 aI.VE a;simp at this;obtain rfl|h:=this
   .have c:fn=Tryz.f118:=by rw[Tryz.func118]at a;exact(iQ a).symm
    exact Ym b b (by rw[c];rfl) (by rw[c];rfl) (by rw[c];rfl) args
   .exact DI b b h args
end
abbrev gS.vb:VB:=⟨false⟩
noncomputable abbrev gS.prog:Program:=@Vp gS.vb
abbrev gS.X(k:FuncId):Prop:=@aI.X gS.vb k
def gS.ref{f c}(h:@aI.code gS.vb f=some c):c=.refuse "not here" :=by
 unfold aI.code at h;repeat' split at h
 all_goals first|(cases h;rfl)|cases h
def gS.there:(List.range 400).all (λf=>(@aI.code gS.vb f).isNone||(Tryz.prog.funcs[f]?).isSome)=true:=K8
def gS.low(f:Nat){c}(a:@aI.code gS.vb f=some c):f<400:=by
 unfold aI.code at a;repeat' split at a
 all_goals first|(cases a;done)|(subst_vars;decide)|(rename_i h;simp at h;obtain rfl|rfl|rfl|rfl|rfl|rfl:=h<;>decide)
def gS.refused(f)(h:gS.X f):∃fn s,gS.prog.funcs[f]?=some fn/\fn.body=some (.refuse s):=by have⟨c,a⟩:=Wo.1 h;have:=xN.1 gS.there f (zm.2 (gS.low f a));cases b:Tryz.prog.funcs[f]? with
 |none=>rw[a,b]at this;cases this
 |some fn=>refine⟨@aI.iH gS.vb f fn, "not here",by rw[@aI.at gS.vb,b];rfl,?_⟩;unfold aI.iH;rw[a,gS.ref a]
def adr:=@gS.refused
instance:VB:=⟨true⟩
def aI.or_eq(c):aI.or c=c:=rfl
def MX:=@aI.or_eq
end Go.Proofs
namespace Go.Proofs.aH
open Go.RowKit
structure kC where
 tx:ByteArray
 idx:Int
 key:ByteArray
structure fM where
 val:Int
 lock:ByteArray
def acj(w:World)(b o:Nat)(x:kC):Prop:=w.cell? ⟨b,o,none⟩=some (.string x.tx)/\w.cell? ⟨b,o+1,none⟩=some (.int .i64 x.idx)/\w.cell? ⟨b,o+2,none⟩=some (.string x.key)
def Sm(w:World)(b o:Nat)(x:fM):Prop:=w.cell? ⟨b,o,none⟩=some (.int .i64 x.val)/\w.cell? ⟨b,o+1,none⟩=some (.string x.lock)
structure wH(w:World)(v:Value)(l:List kC):Prop where
 form:∃a c,v=.slice a l.length c/\(l≠[]->∃b o,a=some ⟨b,o,none⟩/\∀i x,l[i]?=some x->acj w b (o+i*3) x)
 len:l.length<=140737488355328
structure qV(w:World)(v:Value)(l:List fM):Prop where
 form:∃a c,v=.slice a l.length c/\(l≠[]->∃b o,a=some ⟨b,o,none⟩/\∀i x,l[i]?=some x->Sm w b (o+i*2) x)
 len:l.length<=140737488355328
structure eP where
 tag:Int
 iv:Value
 ins:List kC
 ov:Value
 outs:List fM
structure ack(w:World)(b o:Nat)(t:eP):Prop where
 tag:w.cell? ⟨b,o,none⟩=some (.int .i64 t.tag)
 iv:w.cell? ⟨b,o+1,none⟩=some t.iv
 ov:w.cell? ⟨b,o+2,none⟩=some t.ov
 ins:wH w t.iv t.ins
 outs:qV w t.ov t.outs
structure yi(w:World)(v:Value)(l:List eP):Prop where
 form:∃a c,v=.slice a l.length c/\(l≠[]->∃b o,a=some ⟨b,o,none⟩/\∀i t,l[i]?=some t->ack w b (o+i*3) t)
 len:l.length<=140737488355328
def aY{w w'}(b:Below w.heap.size w w'){a v}(h:w.cell? a=some v):w'.cell? a=some v:=by rw[b.cell (World.block_lt_of_cell? w a h)];exact h
def acj.keep{w w' b o x}(h:acj w b o x)(a:Below w w w'):acj w' b o x:=⟨aY a h.1,aY a h.2.1,aY a h.2.2⟩
def Sm.keep{w w' b o x}(h:Sm w b o x)(a:Below w w w'):Sm w' b o x:=⟨aY a h.1,aY a h.2⟩
def wH.keep{w w' v l}(h:wH w v l)(e:Below w w w'):wH w' v l:=by have⟨⟨a,c,m,g⟩,j⟩:=h;refine⟨⟨a,c,m,λk=>?_⟩,j⟩;have⟨b,o,d,f⟩:=g k;exact⟨b,o,d,λi x n=>(f i x n).keep e⟩
def qV.keep{w w' v l}(h:qV w v l)(e:Below w w w'):qV w' v l:=by have⟨⟨a,c,m,g⟩,j⟩:=h;refine⟨⟨a,c,m,λk=>?_⟩,j⟩;have⟨b,o,d,f⟩:=g k;exact⟨b,o,d,λi x n=>(f i x n).keep e⟩
def ack.keep{w w' b o t}(h:ack w b o t)(a:Below w w w'):ack w' b o t:=⟨aY a h.tag,aY a h.iv,aY a h.ov,h.ins.keep a,h.outs.keep a⟩
def yi.keep{w w' v l}(h:yi w v l)(e:Below w w w'):yi w' v l:=by have⟨⟨a,c,m,g⟩,j⟩:=h;refine⟨⟨a,c,m,λk=>?_⟩,j⟩;have⟨b,o,d,f⟩:=g k;exact⟨b,o,d,λi x n=>(f i x n).keep e⟩
def wG{w wr:World}{cs t}(a:Below (w+1) (w.alloc (.cells cs t)) wr)(j v)(h:cs[j]?=some v):wr.cell? ⟨(w:Nat),j,none⟩=some v:=by
 rw[a.cell (p:=((w:Nat),j)) (nR _)];simp;simp[h]
def BC{w wr o}(a:Below (↑w+1) (w.alloc o) wr):Below w.heap.size w wr:=(B0.alloc L9 _).trans (a.mono (zt _))
def CR{B w0 wr w' o}(a:Below B w0 wr)(c:B<=w0)(b:Below (wr.alloc o) (wr.alloc o) w'):Below B w0 w':=by have h:=a.size;exact(a.alloc O9 o).trans (b.mono (by simp;omega))
def p6{B w0 wr w'}(a:Below B w0 wr)(c:B<=w0)(b:Below wr wr w'):Below B w0 w':=by have h:=a.size;exact a.trans (b.mono O9)
end Go.Proofs.aH
namespace Go.Proofs
open Go.Ren
section
variable[VB]
def aI.ac5(t:TypeId):Vp.info? t=Tryz.prog.info? t:=((pH (G:=Gs.self)).info t).symm
def adV:=@aI.ac5
def aI.ML(t:TypeId):Vp.underlying t=Tryz.prog.underlying t:=((pH (G:=Gs.self)).under t).symm
def aaT:=@aI.ML
def aI.aaU:Vp.depth=Tryz.prog.depth:=(pH (G:=Gs.self)).depth.symm
def aI.Ur(t:TypeId)(w:World):Sem.run Vp (underlying t) w=Sem.run Tryz.prog (underlying t) w:=by have h:=aaT t;generalize Vp=V,Tryz.prog=P at h;show Sem.run V (match V.underlying t with|some i=>pure i|none=>stuck "no such type") w=Sem.run P (match P.underlying t with|some i=>pure i|none=>stuck "no such type") w;rw[h];cases P.underlying t<;>rfl
def aI.PM(t:TypeId)(w:World):Sem.run Vp (sizeOf t) w=Sem.run Tryz.prog (sizeOf t) w:=by have h:=adV t;generalize Vp=V,Tryz.prog=P at h;show Sem.run V ((match V.info? t with|some i=>(pure i:Sem TypeInfo)|none=>stuck "no such type")>>=fun i=>pure i.size) w=Sem.run P ((match P.info? t with|some i=>(pure i:Sem TypeInfo)|none=>stuck "no such type")>>=fun i=>pure i.size) w;rw[h];cases P.info? t<;>rfl
def aI.Us(t:TypeId)(w:World):Sem.run Vp (isAgg t) w=Sem.run Tryz.prog (isAgg t) w:=by have h:=aaT t;generalize Vp=V,Tryz.prog=P at h;unfold isAgg underlying;show Sem.run V ((match V.underlying t with|some i=>(pure i:Sem TypeDesc)|none=>stuck "no such type")>>=_) w=Sem.run P ((match P.underlying t with|some i=>(pure i:Sem TypeDesc)|none=>stuck "no such type")>>=_) w;rw[h];cases P.underlying t with
 |none=>rfl
 |some d=>cases d<;>rfl
def aI.MJ(t:TypeId)(w:World):Sem.run Vp (zeroValue t) w=Sem.run Tryz.prog (zeroValue t) w:=by have h:=adV t;generalize Vp=V,Tryz.prog=P at h;unfold zeroValue typeInfo;show Sem.run V ((match V.info? t with|some i=>(pure i:Sem TypeInfo)|none=>stuck "no such type")>>=_) w=Sem.run P ((match P.info? t with|some i=>(pure i:Sem TypeInfo)|none=>stuck "no such type")>>=_) w;rw[h];cases P.info? t with
 |none=>rfl
 |some i=>show Sem.run V (match i.zero with|some v=>pure v|none=>_) w=Sem.run P (match i.zero with|some v=>pure v|none=>_) w;cases i.zero<;>rfl
def aI.YZ(t:TypeId):Vp.eqGuardType Vp.depth t=Tryz.prog.eqGuardType Tryz.prog.depth t:=by rw[aI.aaU];exact(vW (pH (G:=Gs.self)) _ t).symm
def aI.abQ(t:TypeId):Vp.stoodInHeld t=Tryz.prog.stoodInHeld t:=(oh (pH (G:=Gs.self)) t).symm
def aI.nk{k:FuncId}{f f':Func}(h:Tryz.prog.funcs[k]?=some f)(a:aI.iH k f=f'):Vp.funcs[k]?=some f':=by rw[yr,h,<-a];rfl
def adW:=@aI.nk
def fA{k:FuncId}{f:Func}(h:Tryz.prog.funcs[k]?=some f)(a:aI.iH k f=f:=by kernel_rfl):Vp.funcs[k]?=some f:=adW h a
def aI.DI{k:FuncId}{f:Func}(h:Vp.funcs[k]?=some f)(a:(f.name != "runtime.NumGoroutine" &&f.body.isSome)=true)(args:Array Value)(w:World):Sem.run Vp (callFunc k args) w=.ok (.enter k args) w:=by
 generalize Vp=V at h;simp only[dP,bne_iff_ne,xR]at a;have b:(f.name== "runtime.NumGoroutine")=false:=by simpa using a.1
 have c:f.body.isNone=false:=by cases d:f.body<;>simp_all
 unfold callFunc;show Sem.run V (match V.funcs[k]? with|none=>_|some fn=>_) w=_;rw[h];simp only[b,c];rfl
def aI.aaV[iv:VB]:(Tryz.prog.funcs.toList.zipIdx.all fun x=>25703220515669806130104631258898176082284856316401580937052156>>>x.2%2 !=1||((aI.iH x.2 x.1).name != "runtime.NumGoroutine" &&(aI.iH x.2 x.1).body.isSome))=true:=by obtain⟨_|_⟩:=iv<;>kernel_rfl
def aI.Y3{k:FuncId}{args w}(h:25703220515669806130104631258898176082284856316401580937052156>>>k%2=1):Sem.run Vp (callFunc k args) w=.ok (.enter k args) w:=by
 have s:Tryz.prog.funcs.size=221:=by kernel_rfl
 by_cases g:k<221;.have b:=nD (xs:=Tryz.prog.funcs) (i:=k) (by rw[s];exact g);have c:=N0 aI.aaV b;exact aI.DI (adW b rfl) (by simpa[h]using c) args w
 .rw[Nat.shiftRight_eq_div_pow,Nat.div_eq_of_lt (eQ (show _<2^221 by decide) (KI (by decide) (Nat.le_of_not_lt g)))]at h;cases h
def aI.pU{t:TypeId}{d:Option TypeDesc}(h:Tryz.prog.underlying t=d):Vp.underlying t=d:=(aaT t).trans h
end
end Go.Proofs
namespace Go.Proofs.aI
section
variable[VB]
@[simp] def sS:=PM
@[simp] def sU:=Ur
@[simp] def sA:=Us
@[simp] def sZ:=MJ
@[simp] def sE:=ML
@[simp] def sG:=YZ
@[simp] def sH:=abQ
@[simp] def sC{k args w}:=@Y3 _ k args w
def underlying60:=pU Tryz.underlying60
def underlying100:=pU Tryz.underlying100
def underlying108:=pU Tryz.underlying108
def underlying268:=pU Tryz.underlying268
noncomputable def f124:Func:=iH 124 Tryz.f124
@[simp] theorem func124:Vp.funcs[124]?=some f124:=nk Tryz.func124 rfl
def underlying5:=pU Tryz.underlying5
def underlying9:=pU Tryz.underlying9
def underlying41:=pU Tryz.underlying41
def underlying121:=pU Tryz.underlying121
def underlying137:=pU Tryz.underlying137
noncomputable def f25:Func:=iH 25 Tryz.f25
@[simp] theorem func25:Vp.funcs[25]?=some f25:=nk Tryz.func25 rfl
def PN:f25.ntmps=Tryz.f25.ntmps:=by kernel_rfl
@[simp] def ntmps25:=PN.trans Tryz.ntmps25
def underlying30:=pU Tryz.underlying30
def underlying34:=pU Tryz.underlying34
def underlying58:=pU Tryz.underlying58
def underlying70:=pU Tryz.underlying70
def underlying74:=pU Tryz.underlying74
def underlying98:=pU Tryz.underlying98
def underlying114:=pU Tryz.underlying114
noncomputable def f2:Func:=iH 2 Tryz.f2
@[simp] theorem func2:Vp.funcs[2]?=some f2:=nk Tryz.func2 rfl
noncomputable def f26:Func:=iH 26 Tryz.f26
@[simp] theorem func26:Vp.funcs[26]?=some f26:=nk Tryz.func26 rfl
def PO:f26.ntmps=Tryz.f26.ntmps:=by kernel_rfl
@[simp] def ntmps26:=PO.trans Tryz.ntmps26
noncomputable def f30:Func:=iH 30 Tryz.f30
@[simp] theorem func30:Vp.funcs[30]?=some f30:=nk Tryz.func30 rfl
def PQ:f30.ntmps=Tryz.f30.ntmps:=by kernel_rfl
@[simp] def ntmps30:=PQ.trans Tryz.ntmps30
noncomputable def f90:Func:=iH 90 Tryz.f90
@[simp] theorem func90:Vp.funcs[90]?=some f90:=nk Tryz.func90 rfl
noncomputable def f162:Func:=iH 162 Tryz.f162
@[simp] theorem func162:Vp.funcs[162]?=some f162:=nk Tryz.func162 rfl
noncomputable def f166:Func:=iH 166 Tryz.f166
@[simp] theorem func166:Vp.funcs[166]?=some f166:=nk Tryz.func166 rfl
def underlying3:=pU Tryz.underlying3
def underlying35:=pU Tryz.underlying35
def underlying71:=pU Tryz.underlying71
def underlying79:=pU Tryz.underlying79
def underlying99:=pU Tryz.underlying99
def underlying103:=pU Tryz.underlying103
def underlying127:=pU Tryz.underlying127
def underlying171:=pU Tryz.underlying171
def underlying247:=pU Tryz.underlying247
noncomputable def f31:Func:=iH 31 Tryz.f31
@[simp] theorem func31:Vp.funcs[31]?=some f31:=nk Tryz.func31 rfl
def PT:f31.ntmps=Tryz.f31.ntmps:=by kernel_rfl
@[simp] def ntmps31:=PT.trans Tryz.ntmps31
noncomputable def f91:Func:=iH 91 Tryz.f91
@[simp] theorem func91:Vp.funcs[91]?=some f91:=nk Tryz.func91 rfl
noncomputable def f155:Func:=iH 155 Tryz.f155
@[simp] theorem func155:Vp.funcs[155]?=some f155:=nk Tryz.func155 rfl
def MM:f155.ntmps=Tryz.f155.ntmps:=by kernel_rfl
@[simp] def ntmps155:=MM.trans Tryz.ntmps155
end
end Go.Proofs.aI
namespace Go.Proofs.aH
open Go.RowKit Tryz
section
variable[Go.Proofs.VB]
def qa(n low high:Int):Bool:=decide (low<=n)&&decide (n<=high)
def gW(n low high w):Cv 103 #[.int .i64 n,.int .i64 low,.int .i64 high] w λe w'=>e=.returned (.bool (qa n low high))/\w'=w:=by
 by_cases h:low<=n;.go_enter fA func103,ntmps103;go_wp2;go_ret;simp[qa,h]
 .have a:decide (low<=n)=false:=by simpa using h
  go_enter fA func103,ntmps103;go_wp2;go_ret;simp[qa,a]
def Uq(b:Bool):Int:=if b then 0 else 1
def N7(b:Bool):Int:=if b then 0 else 8
def mZ(b w):Cv 132 #[.bool b] w λe w'=>e=.returned (.tuple #[(Uq b),(N7 b)])/\w'=w:=by
 cases b;all_goals go_enter fA func132,ntmps132;go_wp2;go_ret2;simp[Uq,N7]
def qd(tx:ByteArray)(idx:Int)(key:ByteArray):Bool:=(((tx.size:Int)==8)&&qa idx 0 255)&&decide ((key.size:Int)<=32)
def PU(tx idx key w):Cv 133 #[.agg #[.string tx,.int .i64 idx,.string key]] w λe w'=>e=.returned (.bool (qd tx idx key))/\Below w w w':=by
 go_enter fA func133,ntmps133;go_wp2_with (go_at_call 103;refine(gW _ _ _ _).mono ?_;rintro e w' ⟨rfl,rfl⟩);all_goals go_ret;exact⟨by simp[qd, *],B0.alloc L9 _⟩
def mX(v:Int)(lock:ByteArray):Bool:=qa v 0 4294967295&&decide ((lock.size:Int)<=32)
def MO(v lock w):Cv 134 #[.agg #[.int .i64 v,.string lock]] w λe w'=>e=.returned (.bool (mX v lock))/\Below w w w':=by
 go_enter fA func134,ntmps134;go_wp2_with (go_at_call 103;refine(gW _ _ _ _).mono ?_;rintro e w' ⟨rfl,rfl⟩);all_goals go_ret;exact⟨by simp[mX, *],B0.alloc L9 _⟩
def kC.fits(x:kC):Bool:=qd x.tx x.idx x.key
def fM.fits(x:fM):Bool:=mX x.val x.lock
def iD(tag:Int)(ins:List kC)(outs:List fM)(first:Bool):Bool:=qa tag 0 65535&&qa ins.length (Uq first) (N7 first)&&qa outs.length 1 8&&ins.all kC.fits&&outs.all fM.fits
def eP.fits(t:eP)(first:Bool):Bool:=iD t.tag t.ins t.outs first
def sL{α:Type}(p:α->Bool)(l:List α)(k x)(h:l[k]?=some x):(l.take (k+1)).all p=((l.take k).all p&&p x):=by rw[D7,h];simp
def all_false{α:Type}(p:α->Bool)(l:List α)(k:Nat)(x)(h:l[k]?=some x)(a:p x=false):l.all p=false:=by grind
def MN(tag n p ins q oc outs first w)(hi:wH w (.slice n ins.length p) ins)(u:qV w (.slice q outs.length oc) outs):
 Cv 104 #[.agg #[.int .i64 tag,.slice n ins.length p,.slice q outs.length oc],.bool first] w λe w'=>e=.returned (.bool (iD tag ins outs first))/\Below w w w':=by
 have A:=hi.len;have B:=u.len;cases r:qa tag 0 65535;.go_enter fA func104,ntmps104;go_wp2_with (first|(go_at_call 132;refine(mZ _ _).mono ?_;rintro e w' ⟨rfl,rfl⟩)|(go_at_call 103;refine(gW _ _ _ _).mono ?_;rintro e w' ⟨rfl,rfl⟩));go_ret;exact⟨by simp[iD,r],B0.alloc L9 _⟩
 cases s:qa ins.length (Uq first) (N7 first);.go_enter fA func104,ntmps104;go_wp2_with (first|(go_at_call 132;refine(mZ _ _).mono ?_;rintro e w' ⟨rfl,rfl⟩)|(go_at_call 103;refine(gW _ _ _ _).mono ?_;rintro e w' ⟨rfl,rfl⟩));go_ret;exact⟨by simp[iD,s],B0.alloc L9 _⟩
 cases t:qa outs.length 1 8;.go_enter fA func104,ntmps104;go_wp2_with (first|(go_at_call 132;refine(mZ _ _).mono ?_;rintro e w' ⟨rfl,rfl⟩)|(go_at_call 103;refine(gW _ _ _ _).mono ?_;rintro e w' ⟨rfl,rfl⟩));go_ret;exact⟨by simp[iD,t],B0.alloc L9 _⟩
 go_enter fA func104,ntmps104;go_wp2_with (first|(go_at_call 132;refine(mZ _ _).mono ?_;rintro e w' ⟨rfl,rfl⟩)|(go_at_call 103;refine(gW _ _ _ _).mono ?_;rintro e w' ⟨rfl,rfl⟩));have H:Hid (iD tag ins outs first=(ins.all kC.fits&&outs.all fM.fits)):=by unfold Hid;simp[iD,r,s,t]
 go_loopw [39] (λi wr=>∃k,k<=ins.length/\i=k/\(ins.take k).all kC.fits=true/\Below ((w:Nat)+1) (w.alloc (.cells #[tag,.slice n ins.length p,.slice q outs.length oc] 73)) wr) (λi _=>ins.length -(intOf i).toNat);exact⟨0,fQ _,rfl,S8,B0⟩;case round=>
  obtain⟨k,y,rfl,d,a⟩:=hrel;by_cases c:k<ins.length
  .have⟨⟨a',v,m,j⟩,_⟩:=hi.keep (BC a);cases m;obtain⟨b,o,rfl,l⟩:=j (by intro h;simp[h]at c);have⟨c1,c2,c3⟩:=l k _ (bR c);go_wp2_with (go_at_call 133;refine(PU _ _ _ _).mono ?_;rintro e w' ⟨rfl,g⟩)
   .have f:qd ins[k].tx ins[k].idx ins[k].key=false:=by simpa using‹(!qd ins[k].tx ins[k].idx ins[k].key)=true›
    go_ret;refine⟨?_,BC (CR a S8 g)⟩;rw[H.out,all_false kC.fits ins k _ (bR c) f];rfl
   .have f:qd ins[k].tx ins[k].idx ins[k].key=true:=by simpa using‹(!qd ins[k].tx ins[k].idx ins[k].key)=false›
    go_roundw;exact⟨k+1,O9,by go_num,by rw[sL _ _ k _ (bR c),d];simp[kC.fits,f],CR a S8 g⟩;simp[intOf];omega
  .have z:=wG a 2 _ rfl;have x:Hid (ins.all kC.fits=true):=by unfold Hid;rw[List.take_of_length_le O9]at d;exact d
   go_wp2;go_loopw [50] (λi wr=>∃k,k<=outs.length/\i=k/\(outs.take k).all fM.fits=true/\Below w w wr) (λi _=>outs.length -(intOf i).toNat);exact⟨0,fQ _,rfl,S8,BC a⟩;case round=>
    clear a;obtain⟨k,y,rfl,d,a⟩:=hrel;by_cases c:k<outs.length
    .have⟨⟨a',v,m,j⟩,_⟩:=u.keep a;cases m;obtain⟨b,o,rfl,l⟩:=j (by intro h;simp[h]at c);have⟨c1,c2⟩:=l k _ (bR c);go_wp2_with (go_at_call 134;refine(MO _ _ _).mono ?_;rintro e w' ⟨rfl,g⟩)
     .have f:mX outs[k].val outs[k].lock=false:=by simpa using‹(!mX outs[k].val outs[k].lock)=true›
      go_ret;refine⟨?_,CR a L9 g⟩;rw[H.out,all_false fM.fits outs k _ (bR c) f,Kt];rfl
     .have f:mX outs[k].val outs[k].lock=true:=by simpa using‹(!mX outs[k].val outs[k].lock)=false›
      go_roundw;exact⟨k+1,O9,by go_num,by rw[sL _ _ k _ (bR c),d];simp[fM.fits,f],CR a L9 g⟩;simp[intOf];omega
    .go_wp2;go_ret;refine⟨?_,a⟩;rw[QS O9]at d;rw[H.out,x.out,d];rfl
def dN(parent:ByteArray)(bits bZ:Int)(cI:List eP):Bool:=((parent.size:Int)==8)&&qa bits 0 8&&qa bZ 0 65535&&qa cI.length 1 8&&cI.zipIdx.all (λp=>p.1.fits ((p.2:Int)==0))
def wF(parent bits bZ ta r cI w)(x:yi w (.slice ta cI.length r) cI):
 Cv 77 #[.agg #[.string parent,.int .i64 bits,.int .i64 bZ,.slice ta cI.length r]] w λe w'=>e=.returned (.bool (dN parent bits bZ cI))/\Below w w w':=by
 cases h0:((parent.size:Int)==8)
 .have A:¬(parent.size:Int)=8:=by simpa using h0
  go_enter fA func77,ntmps77;go_wp2_with (first|(go_at_call 103;refine(gW _ _ _ _).mono ?_;rintro e w' ⟨rfl,rfl⟩));go_ret;exact⟨by simp[dN,h0],B0.alloc L9 _⟩
 have B:((parent.size:Int) !=8)=false:=by simp[bne,h0]
 cases j:qa bits 0 8;.go_enter fA func77,ntmps77;go_wp2_with (first|(go_at_call 103;refine(gW _ _ _ _).mono ?_;rintro e w' ⟨rfl,rfl⟩));go_ret;exact⟨by simp[dN,j],B0.alloc L9 _⟩
 cases l:qa bZ 0 65535;.go_enter fA func77,ntmps77;go_wp2_with (first|(go_at_call 103;refine(gW _ _ _ _).mono ?_;rintro e w' ⟨rfl,rfl⟩));go_ret;exact⟨by simp[dN,l],B0.alloc L9 _⟩
 cases m:qa cI.length 1 8;.go_enter fA func77,ntmps77;go_wp2_with (first|(go_at_call 103;refine(gW _ _ _ _).mono ?_;rintro e w' ⟨rfl,rfl⟩));go_ret;exact⟨by simp[dN,m],B0.alloc L9 _⟩
 go_enter fA func77,ntmps77;go_wp2_with (first|(go_at_call 103;refine(gW _ _ _ _).mono ?_;rintro e w' ⟨rfl,rfl⟩));have H:Hid (dN parent bits bZ cI=cI.zipIdx.all (λp=>p.1.fits ((p.2:Int)==0))):=by unfold Hid;simp[dN,h0,j,l,m]
 go_loopw [29] (λi wr=>∃k:Nat,k<=cI.length/\i=↑k/\(cI.zipIdx.take k).all (λp=>p.1.fits ((p.2:Int)==0))=true/\Below w w wr) (λi _=>cI.length -(intOf i).toNat);exact⟨0,fQ _,rfl,S8,B0.alloc L9 _⟩;case round=>
  obtain⟨k,C,rfl,c,a⟩:=hrel;by_cases f:k<cI.length
  .have⟨⟨a',z,y,s⟩,_⟩:=x.keep a;cases y;obtain⟨b,o,rfl,t⟩:=s (by intro h;simp[h]at f);have⟨c1,c2,c3,hi,g⟩:=t k _ (bR f);have q:Hid (cI.zipIdx[k]?=some (cI[k],k)):=by unfold Hid;simp[f]
   have⟨D,E,u,_⟩:=hi.form;have⟨F,oc,v,_⟩:=g.form;rw[u]at c2 hi;rw[v]at c3 g;go_wp2_with (go_at_call 104;refine(MN _ _ _ _ _ _ _ _ _ (hi.keep (by exact B0.alloc L9 _)) (g.keep (by exact B0.alloc L9 _))).mono ?_;rintro e w' ⟨rfl,n⟩)
   .have d:iD cI[k].tag cI[k].ins cI[k].outs ((k:Int)==0)=false:=by simpa using‹(!iD cI[k].tag cI[k].ins cI[k].outs ((k:Int)==0))=true›
    go_ret;refine⟨?_,CR a L9 n⟩;rw[H.out,all_false _ cI.zipIdx k _ q.out d];rfl
   .have d:iD cI[k].tag cI[k].ins cI[k].outs ((k:Int)==0)=true:=by simpa using‹(!iD cI[k].tag cI[k].ins cI[k].outs ((k:Int)==0))=false›
    go_roundw;exact⟨k+1,O9,by go_num,by rw[sL _ _ k _ q.out,c,eP.fits,d];rfl,CR a L9 n⟩;simp[intOf];omega
  .go_wp2;go_ret;refine⟨?_,a⟩;rw[QS (by simp;omega)]at c;rw[H.out,c];rfl
def aN{p}(h:p):Hid p:=h
def byteOf(x:Int):UInt8:=UInt8.ofNat x.toNat
def dZ(x)(h0:0<=x)(a:x<256):((byteOf x).toNat:Int)=x:=by unfold byteOf;rw[UInt8.toNat_ofNat'];omega
def be(n:Int):Nat->List UInt8
 |0=>[]
 |k+1=>byteOf (n/2^(8*k)%256)::be n k
def bV(n k):(be n k).length=k:=by induction k with
 |zero=>rfl
 |succ k a=>simp[be,a]
def bv(l:List UInt8):List Value:=l.map λb=>Value.int .u8 b.toNat
def H5(a b):bv (a++b)=bv a++bv b:=by simp[bv]
def qo(a):(bv a).length=a.length:=by simp[bv]
def Fp(l):∀u∈bv l,u.oneCell'=true:=by intro u a;simp[bv]at a;obtain⟨b,_,rfl⟩:=a;rfl
def mV(B:Nat)(w:World)(v:Value)(l:List UInt8):Prop:=w.ownsRow B 5 1 v l.length (bv l)
structure zg(w w':World)(v v':Value):Prop where
 grown:w.grownBy w' v.ownBlock
 aeu:v'.ownBlock=v.ownBlock\/∃g,v'.ownBlock=some g/\w.heap.size<=g
def aZ(w:World)(r):w.grownBy w r:=⟨rfl,rfl,rfl,L9,λ_ _ _=>rfl⟩
def zg.refl(w v):zg w w v v:=⟨aZ _ _,.inl rfl⟩
def zg.trans{a b c u v x}(h:zg a b u v)(k:zg b c v x):zg a c u x:=by
 refine⟨⟨k.grown.os.trans h.grown.os,k.grown.tape.trans h.grown.tape,k.grown.output.trans h.grown.output,bL h.grown.size k.grown.size,λi hi m=>?_⟩,?_⟩
 .have j:=h.grown.block i hi m;have l:=k.grown.block i (eQ hi h.grown.size) (by
   obtain e|⟨g,e,d⟩:=h.aeu;.simp_all
   .rw[e];intro f;cases f;omega)
  exact l.trans j
 .obtain e|⟨g,e,d⟩:=k.aeu;.rw[e];exact h.aeu
  .exact .inr ⟨g,e,bL h.grown.size d⟩
def zg.YD{w w'}(v)(a:Below w.heap.size w w'):zg w w' v v:=⟨⟨a.os,a.tape,a.output,a.size,λk b _=>a.block k b⟩,.inl rfl⟩
def zg.alloc(w v o):zg w (w.alloc o) v v:=.YD v (B0.alloc L9 o)
def H6:=@zg.alloc
def zg.below{w w' v}(h:zg w w' () v):Below w w w':=⟨h.grown.os,h.grown.tape,h.grown.output,h.grown.size,λk a=>h.grown.block k a (by simp[Value.ownBlock])⟩
def mV.nil(B w):mV B w () []:=nI _ _ _ _
def mV.alloc{B w v l}(h:mV B w v l)(o):mV B (w.alloc o) v l:=oP h o
def mV.lt{B w v l}(h:mV B w v l):∀k,v.ownBlock=some k->B<=k/\k<w:=lB h
def zg.cell{w w' v d}(h:zg w w' v d){a u}(b:w.cell? a=some u)(c:some a.block≠v.ownBlock):w'.cell? a=some u:=h.grown.cell b c
def zg.box{B w wr v b l cs t}(h:zg (w.alloc (.cells cs t)) wr v b)(a:mV B w v l)(j)(u)(c:cs[j]?=some u):wr.cell? ⟨(w:Nat),j,none⟩=some u:=by
 refine h.cell ?_ ?_;.simp_all
 .intro e;have:=(a.lt _ e.symm).2;simp at this
def zg.base{B w0 w w' v e l}(h:zg w w' v e)(d:mV B w v l)(a:B<=w)(b:Below B w0 w):Below B w0 w':=b.grown h.grown a λk c=>(d.lt k c).1
def aI.aev:(Vp.info? 5).map (λi=>(i.zero,i.size,i.bytes))=some (some (.int .u8 0),1,1):=K8
def H4:=@aI.aev
def Js{B w ops rest o a Q}(p:o.guard=none)(s x)(q:o.op=.call {callee:=.builtin .append,args:=#[s,x],argTypes:=#[127,127]})(v)(l)(t:a.eval s=v)(r:mV B w v l)
 (b)(g)(y:a.eval x=.slice g 1 1)(n:w.cell? ⟨g,0,none⟩=some (.int .u8 b.toNat))(hlen:l.length<=1000000)(m:B<=w)
 (h:∀c w',mV B w' c (l++[b])->zg w w' v c->wpList Vp ops Q rest (a.put o.dst c) w'):wpList Vp ops Q (o::rest) a w:=by
 have⟨D,hi,z,A,C⟩:=info_parts H4;refine wpList_append_own_at _ p s x 127 q B 5 D (.int .u8 0) 1 1 aI.underlying127 hi z A C rfl D9 v l.length (bv l) t r (g,0) 1 1 (bv [b]) y rfl ?_ (Fp _) (by unfold maxLen;omega) O9 m ?_;.intro j u d;match j,d with
  |0,d=>simp[bv]at d;subst d;simpa[Addr.add]using n
 .intro c w' f i _ k;refine h c w' ?_ ⟨i,k.imp id λe=>⟨_,e,L9⟩⟩;unfold mV;rw[H5,bY];exact f
def Pq{B w w' v c l ty}(e:mV B w v l)(t)(hlen:l.length<=1000000)(n:t.size<=1000000)(a:(Builtin.append_ #[127,9] ty #[v,.string t]).run Vp w=.ok c w')(p:c=()↔v=()/\t.size=0):
 c.ownBlock=v.ownBlock\/∃g,c.ownBlock=some g/\w<=g:=by
 have⟨d,hi,f,h,i⟩:=info_parts H4;obtain⟨rfl,_⟩|⟨g,cap,cur,rfl,_,j,o,_,m,q⟩:=e.2
 .by_cases h0:t.size=0;.simp_all
  .have b:=Go.run_append_nil_string (P:=Vp) w 127 9 ty 5 d (.int .u8 0) aI.underlying127 aI.underlying9 hi f t O9 O9 (by rw[i];omega);rw[b]at a;cases a;exact .inr ⟨_,rfl,L9⟩
 .by_cases k:l.length+t.size<=cap;.have b:=Go.Lib.run_append_room_string (P:=Vp) w 127 9 ty 5 d aI.underlying127 aI.underlying9 hi h g l.length cap cur j t k O9;rw[b]at a;cases a;exact .inl rfl
  .have b:=Go.Lib.run_append_grow_string (P:=Vp) w 127 9 ty 5 d (.int .u8 0) aI.underlying127 aI.underlying9 hi f (g,0) l.length cap (bv l) (by rw[h,qo,Nat.mul_one]) (sY e (g:=g) rfl) t O9 O9 (by rw[i];exact growslice_fits O9 O9);rw[b]at a;cases a;exact .inr ⟨_,rfl,L9⟩
def uA{B w ops rest o a Q}(n:o.guard=none)(s x)(q:o.op=.call {callee:=.builtin .append,args:=#[s,x],argTypes:=#[127,9]})(v)(l)(r:a.eval s=v)(c:mV B w v l)
 (t)(u:a.eval x=.string t)(hlen:l.length<=1000000)(p:t.size<=1000000)(k:B<=w)
 (h:∀b w',mV B w' b (l++t.data.toList)->zg w w' v b->wpList Vp ops Q rest (a.put o.dst b) w'):wpList Vp ops Q (o::rest) a w:=by
 have⟨C,hi,y,z,A⟩:=info_parts H4;refine wpList_plain n λK m=>?_;have⟨b,w',d,f,g,i⟩:=Go.Lib.run_append_own_string (P:=Vp) w B 127 9 o.type 5 C aI.underlying127 aI.underlying9 hi y z A v l.length (bv l) c t (by unfold maxLen;omega) O9 k;have j:=Pq c t hlen p d i;unfold Oper.wp execOp;simp[q,resolve,invoke,builtin,r,u,d];refine m _ _ (h b w' ?_ ⟨g,j⟩);have e:(l++t.data.toList).length=l.length+t.size:=by rw[bY,afh];rfl
 unfold mV;rw[H5,e];exact f
def Qw(n k):((byteOf (n/2^(8*k)%256)).toNat:Int)=n/2^(8*k)%256:=dZ _ O9 O9
def eV(B v l n)(width:Nat)(w)(_hn:0<=n)(x:width<=4)(u:l.length<=900000)(r:B<=↑w)(q:mV B w v l):Cv 105 #[v,.int .i64 n,width] w λe w'=>∃b,e=.returned b/\mV B w' b (l++be n width)/\zg w w' v b:=by
 go_enter fA func105,ntmps105;go_wp2;go_loopw [0,7] (λb i wr=>∃(k:Nat) (a:List UInt8),k<=width/\i=↑((k:Int) -1)/\a++be n k=be n width/\mV B wr b (l++a)/\zg w wr v b) (λ_ i _=>(1+intOf i).toNat);exact⟨width,[],L9,by go_num,rfl,by simpa using q,zg.refl _ _⟩;case round=>
  obtain⟨k,a,f,rfl,g,h,d⟩:=hrel;have c:Hid (a++be n k=be n width):=g;have s:a.length<=4:=by have:=congrArg List.length g;simp[bV]at this;omega
  have t:=d.grown.size;match k,f,c with
  |0,f,c=>go_wp2;go_ret;refine⟨_,rfl,?_,d⟩;have:=c.out;simp only[be,oO]at this;rw[<-this];exact h
  |k+1,f,c=>
    have o:(wr.alloc (.cells #[.int .u8 (n/2^(8*k)%256)] 5)).cell? ((wr:Nat),0)=some (.int .u8 ((byteOf (n/2^(8*k)%256)).toNat:Int)):=by rw[Qw];simp only[World.cell?,uV];simp
    have m:=aN o;go_wp2_with (at_builtin;refine Js rfl (.tmp 14) (.tmp 20) rfl u0 (l++a) rfl (h.alloc _) (byteOf (n/2^(8*k)%256)) _ rfl (by exact m.out) (by simp;omega) (by simp;omega) ?_;intro v2 w2 p j);go_roundw;exact⟨k,a++[byteOf (n/2^(8*k)%256)],O9,rfl,by have:=c.out;simp only[be]at this;rw[iZ];exact this,by rw[<-iZ];exact p,d.trans ((H6 wr u0 _).trans j)⟩;simp[intOf];omega
def fI(s:ByteArray):List UInt8:=s.data.toList
def fZ(s):(fI s).length=s.size:=by unfold fI;rw[Array.length_toList];rfl
def wT(B v l s w)(k:s.size<=1000)(j:l.length<=800000)(c:B<=↑w)(h:mV B w v l):Cv 135 #[v,.string s] w λe w'=>∃a,e=.returned a/\mV B w' a (l++(be s.size 1++fI s))/\zg w w' v a:=by
 go_enter fA func135,ntmps135;go_wp2;refine(eV B v l s.size 1 _ O9 O9 O9 c h).mono ?_;rintro e w1 ⟨v1,rfl,f,b⟩;have i:=b.grown.size;go_wp2_with (at_builtin;refine uA rfl (.tmp 9) (.tmp 10) rfl v1 _ rfl f s rfl (by simp[bV];omega) O9 O9 ?_;intro v2 w2 g d);go_ret;exact⟨_,rfl,by rw[<-iZ];exact g,b.trans d⟩
def kC.bytes(x:kC):List UInt8:=fI x.tx++be x.idx 1++(be x.key.size 1++fI x.key)
def fM.bytes(x:fM):List UInt8:=be x.val 4++(be x.lock.size 1++fI x.lock)
def mY(tag:Int)(ins:List kC)(outs:List fM):List UInt8:=be tag 2++be ins.length 1++ins.flatMap kC.bytes++be outs.length 1++outs.flatMap fM.bytes
def kC.Small(x:kC):Prop:=x.tx.size<=8/\0<=x.idx/\x.key.size<=32/\x.idx<=255
def fM.Small(x:fM):Prop:=0<=x.val/\x.lock.size<=32/\x.val<=4294967295
def kC.mF(x:kC)(h:x.Small):x.bytes.length<=42:=by have⟨a,_,b,_⟩:=h;simp[kC.bytes,bV,fZ];omega
def fM.mF(x:fM)(h:x.Small):x.bytes.length<=37:=by have⟨_,a,_⟩:=h;simp[fM.bytes,bV,fZ];omega
def tH{α:Type}(f:α->List UInt8)(m)(l:List α)(h:∀x∈l,(f x).length<=m):(l.flatMap f).length<=l.length*m:=by induction l with
 |nil=>simp
 |cons x l b=>have c:=h x S8;have d:=b λy a=>h y (by simp[a]);simp only[D5,bY,fR,Nat.add_mul];omega
def qU{α:Type}(f:α->List UInt8)(l:List α)(k x)(h:l[k]?=some x):(l.take (k+1)).flatMap f=(l.take k).flatMap f++f x:=by rw[D7,h];simp
def sK{α:Type}(f:α->List UInt8)(m)(l:List α)(k)(h:∀x∈l,(f x).length<=m):((l.take k).flatMap f).length<=l.length*m:=by have:=tH f m (l.take k) λx b=>h x (Wq b);have a:(l.take k).length<=l.length:=List.length_take_le' _ _;exact bL this (Wd m a)
def yj(w0 v l tag m n ins p oc outs w)(hi:wH w0 (.slice m ins.length n) ins)(μ:qV w0 (.slice p outs.length oc) outs)(z:Below w0 w0 w)(j:mV w0 w v l)
 (ar:0<=tag)(aj:ins.length<=8)(ao:outs.length<=8)(M:∀x∈ins,x.Small)(N:∀x∈outs,x.Small)(ak:l.length<=100000):
 Cv 106 #[v,.agg #[.int .i64 tag,.slice m ins.length n,.slice p outs.length oc]] w λe w'=>∃f,e=.returned f/\mV w0 w' f (l++mY tag ins outs)/\zg w w' v f:=by
 have J:=z.size;go_enter fA Tryz.func106,Tryz.ntmps106;go_wp2;refine(eV w0 v l tag 2 _ O9 O9 O9 (by simp;omega) (j.alloc _)).mono ?_;rintro e w1 ⟨v1,rfl,D,q⟩;have ag:(w:Nat)+1<=(w1:Nat):=by simpa using q.grown.size
 have ab:=q.box j 1 _ rfl;go_wp2;refine(eV w0 v1 _ ins.length 1 _ O9 O9 (by simp[bV];omega) O9 D).mono ?_;rintro e w2 ⟨v2,rfl,V,Q⟩;have t:=q.trans Q;have ah:(w:Nat)+1<=(w2:Nat):=by simpa using t.grown.size
 have ab:=t.box j 1 _ rfl;go_wp2;go_loopw [0,21] (λf i wr=>∃k,k<=ins.length/\i=k/\mV w0 wr f (l++(be tag 2++be ins.length 1++(ins.take k).flatMap kC.bytes))/\zg (w.alloc (.cells #[tag,.slice m ins.length n,.slice p outs.length oc] 73)) wr v f) (λ_ i _=>ins.length -(intOf i).toNat);exact⟨0,fQ _,rfl,by simpa using V,t⟩;case round=>
  obtain⟨k,T,rfl,a,c⟩:=hrel;have g:Below w0 w0 (w.alloc (.cells #[tag,.slice m ins.length n,.slice p outs.length oc] 73)):=z.alloc J _;have g:=c.base (j.alloc _) (by simp;omega) g;have S:(w:Nat)+1<=(wr:Nat):=by simpa using c.grown.size
  have L:=sK kC.bytes 42 ins k λx H=>x.mF (M x H);by_cases d:k<ins.length
  .have⟨⟨a',P,G,A⟩,_⟩:=hi.keep g;cases G;obtain⟨b,o,rfl,B⟩:=A (by intro h;simp[h]at d);have⟨c1,c2,c3⟩:=B k _ (bR d);have⟨X,Y,au,_⟩:=M _ (s6 d);go_wp2_with (at_builtin;go_must (refine uA rfl (.tmp 25) (.tmp 28) rfl u0 _ rfl (a.alloc _) ins[k].tx rfl (by simp only[bY,bV];omega) O9 (by simp;omega) ?_);intro v3 w3 W s;have y1:=s.box a 1 _ rfl;have O:=s.box a 2 _ rfl);have ai:(wr:Nat)+1<=(w3:Nat):=by simpa using s.grown.size
   refine(eV w0 v3 _ ins[k].idx 1 _ O9 O9 (by simp only[bY,bV,<-fI.eq_1,fZ];omega) O9 W).mono ?_;rintro e w4 ⟨I,rfl,E,r⟩;have u:=s.trans r;have R:(wr:Nat)+1<=(w4:Nat):=by simpa using u.grown.size
   have O:=u.box a 2 _ rfl;go_wp2;refine(wT w0 I _ ins[k].key _ O9 (by simp only[bY,bV,<-fI.eq_1,fZ];omega) O9 E).mono ?_;rintro e aa ⟨π,rfl,F,y⟩;go_wp2;go_roundw;case rel=>refine⟨k+1,O9,by go_num,?_,c.trans ((H6 wr u0 _).trans (u.trans y))⟩;rw[qU _ _ k _ (bR d)];simpa only[kC.bytes,fI,iZ]using F
   case measure=>simp[intOf];omega
  .have C:k=ins.length:=O9;subst C;rw[iR]at a;have ae:=c.box j 2 _ rfl;go_wp2;refine(eV w0 u0 _ outs.length 1 _ O9 O9 (by simp only[bY,bV];rw[iR]at L;omega) O9 a).mono ?_;rintro e w1 ⟨v1,rfl,D,q⟩;have K:=c.trans q;have ae:=K.box j 2 _ rfl;go_wp2;go_loopw [0,48] (λf i wr=>∃k,k<=outs.length/\i=k/\mV w0 wr f (l++(be tag 2++be ins.length 1++ins.flatMap kC.bytes)++be outs.length 1++(outs.take k).flatMap fM.bytes)/\zg (w.alloc (.cells #[tag,.slice m ins.length n,.slice p outs.length oc] 73)) wr v f) (λ_ i _=>outs.length -(intOf i).toNat);exact⟨0,fQ _,rfl,by simpa using D,K⟩;case round=>
    obtain⟨k,T,rfl,a,c⟩:=hrel;have g:Below w0 w0 (w.alloc (.cells #[tag,.slice m ins.length n,.slice p outs.length oc] 73)):=z.alloc J _;have g:=c.base (j.alloc _) (by simp;omega) g;have S:(w:Nat)+1<=(wr:Nat):=by simpa using c.grown.size
    rw[iR]at L;have af:=sK fM.bytes 37 outs k λx H=>x.mF (N x H);by_cases d:k<outs.length
    .have⟨⟨a',P,G,A⟩,_⟩:=μ.keep g;cases G;obtain⟨b,o,rfl,B⟩:=A (by intro h;simp[h]at d);have⟨c1,c2⟩:=B k _ (bR d);have⟨X,Y,_⟩:=N _ (s6 d);go_wp2;refine(eV w0 u0 _ outs[k].val 4 _ O9 O9 (by simp only[bY,bV];omega) (by simp;omega) (a.alloc _)).mono ?_;rintro e w4 ⟨I,rfl,E,r⟩;have R:(wr:Nat)+1<=(w4:Nat):=by simpa using r.grown.size
     have O:=r.box a 1 _ rfl;go_wp2;refine(wT w0 I _ outs[k].lock _ O9 (by simp only[bY,bV];omega) O9 E).mono ?_;rintro e aa ⟨π,rfl,F,y⟩;go_wp2;go_roundw;case rel=>refine⟨k+1,O9,by go_num,?_,c.trans ((H6 wr u0 _).trans (r.trans y))⟩;rw[qU _ _ k _ (bR d)];simpa only[fM.bytes,fI,iZ]using F
     case measure=>simp[intOf];omega
    .have C:k=outs.length:=O9;subst C;rw[iR]at a;go_wp2;go_ret;refine⟨u0,rfl,?_,(H6 w v _).trans c⟩;simpa only[mY,iZ]using a
def eP.bytes(t:eP):List UInt8:=mY t.tag t.ins t.outs
structure eP.Small(t:eP):Prop where
 tag:0<=t.tag
 agU:t.tag<=65535
 ni:t.ins.length<=8
 no:t.outs.length<=8
 ins:∀x∈t.ins,x.Small
 outs:∀x∈t.outs,x.Small
def eP.mF(t:eP)(h:t.Small):t.bytes.length<=636:=by have b:=tH kC.bytes 42 t.ins λx a=>x.mF (h.ins x a);have c:=tH fM.bytes 37 t.outs λx a=>x.mF (h.outs x a);have:=h.ni;have:=h.no;simp only[eP.bytes,mY,bY,bV];omega
def fY(parent:ByteArray)(bits bZ:Int)(cI:List eP):List UInt8:=fI parent++be bits 1++be bZ 2++be cI.length 1++cI.flatMap eP.bytes
def BB(w0 v l parent bits bZ ta p cI w)(R:yi w0 (.slice ta cI.length p) cI)(y:Below w0 w0 w)(a:mV w0 w v l)
 (af:parent.size<=8)(W:0<=bits)(ae:0<=bZ)(ab:cI.length<=8)(A:∀t∈cI,t.Small)(aa:l.length<=10000):
 Cv 78 #[v,.agg #[.string parent,.int .i64 bits,.int .i64 bZ,.slice ta cI.length p]] w λe w'=>∃d,e=.returned d/\mV w0 w' d (l++fY parent bits bZ cI)/\zg w w' v d:=by
 have B:=y.size;have ag:=fZ parent;go_enter fA func78,ntmps78;go_wp2_with (at_builtin;go_must (refine uA rfl (.tmp 7) (.tmp 9) rfl v _ rfl (a.alloc _) parent rfl O9 O9 (by simp;omega) ?_);intro v1 w1 L f;have au:=f.box a 1 _ rfl;have μ:=f.box a 2 _ rfl;have u:=f.box a 3 _ rfl);have z:(w:Nat)+1<=(w1:Nat):=by simpa using f.grown.size
 refine(eV w0 v1 _ bits 1 _ O9 O9 (by rw[<-fI.eq_1,bY];omega) O9 L).mono ?_;rintro e w2 ⟨v2,rfl,M,C⟩;have c:=f.trans C;have μ:=c.box a 2 _ rfl;have u:=c.box a 3 _ rfl;have z:(w:Nat)+1<=(w2:Nat):=by simpa using c.grown.size
 go_wp2;refine(eV w0 v2 _ bZ 2 _ O9 O9 (by rw[<-fI.eq_1,bY,bY,bV];omega) O9 M).mono ?_;rintro e w3 ⟨v3,rfl,N,D⟩;have q:=c.trans D;have u:=q.box a 3 _ rfl;have z:(w:Nat)+1<=(w3:Nat):=by simpa using q.grown.size
 go_wp2;refine(eV w0 v3 _ cI.length 1 _ O9 O9 (by rw[<-fI.eq_1,bY,bY,bY,bV,bV];omega) O9 N).mono ?_;rintro e w4 ⟨ak,rfl,O,E⟩;have c:=q.trans E;have u:=c.box a 3 _ rfl;go_wp2;go_loopw [0,27] (λd i wr=>∃k,k<=cI.length/\i=k/\mV w0 wr d (l++(fI parent++be bits 1++be bZ 2++be cI.length 1++(cI.take k).flatMap eP.bytes))/\zg (w.alloc (.cells #[parent,bits,bZ,.slice ta cI.length p] 76)) wr v d) (λ_ i _=>cI.length -(intOf i).toNat);exact⟨0,fQ _,rfl,by simpa[fI]using O,c⟩;case round=>
  obtain⟨k,π,rfl,s,j⟩:=hrel;have G:Below w0 w0 (w.alloc (.cells #[parent,bits,bZ,.slice ta cI.length p] 76)):=y.alloc B _;have m:=j.base (a.alloc _) (by simp;omega) G;have Y:(w:Nat)+1<=(wr:Nat):=by simpa using j.grown.size
  have X:=sK eP.bytes 636 cI k λx T=>x.mF (A x T);by_cases n:k<cI.length
  .have⟨⟨a',V,S,H⟩,_⟩:=R;cases S;obtain⟨b,o,rfl,I⟩:=H (by intro h;simp[h]at n);have⟨c1,c2,c3,hi,r⟩:=I k _ (bR n);have g:=A _ (s6 n);have⟨ah,ai,J,_⟩:=hi.form;have⟨aj,oc,Q,_⟩:=r.form;rw[J]at c2 hi;rw[Q]at c3 r;have c1:=aY m c1;have c2:=aY m c2;have c3:=aY m c3;go_wp2;refine(yj w0 u0 _ _ _ _ _ _ _ _ _ hi r (m.alloc O9 _) (s.alloc _) g.tag g.ni g.no g.ins g.outs (by simp only[bY,bV];omega)).mono ?_;rintro e ar ⟨ao,rfl,P,F⟩;go_wp2;go_roundw;case rel=>refine⟨k+1,O9,by go_num,?_,j.trans ((H6 wr u0 _).trans F)⟩;rw[qU _ _ k _ (bR n)];simpa only[eP.bytes,fI,iZ]using P
   case measure=>simp[intOf];omega
  .have K:k=cI.length:=O9;subst K;rw[iR]at s;go_wp2;go_ret;refine⟨u0,rfl,?_,(H6 w v _).trans j⟩;simpa only[fY,iZ]using s
def mV.toStr{B w v l}(h:mV B w v l):(convert 127 9 v).run Vp w=.ok (.string ⟨l.toArray⟩) w:=by
 obtain⟨rfl,h0⟩|⟨g,cap,cur,rfl,_,c,d,_,b,e⟩:=h.2;.have:l=[]:=oL h0;subst this;exact run_convert_bytes_nil w 127 5 aI.underlying127 aI.underlying5 0 0 9 aI.underlying9
 .refine run_convert_bytes_back w 127 9 5 ⟨g,0,none⟩ cap l aI.underlying127 aI.underlying5 aI.underlying9 ?_;intro j a;exact sY h (g:=g) rfl j _ (by simp[bv,a])
def PI(t:eP)(first)(h:t.fits first=true):t.Small:=by
 simp only[eP.fits,iD,dP]at h;have⟨⟨⟨⟨a,e⟩,f⟩,c⟩,d⟩:=h;rw[xN]at c d;simp[qa]at a e f;have g:N7 first<=8:=by cases first<;>simp[N7]
 refine⟨a.1,a.2,O9,O9,λx b=>?_,λx b=>?_⟩;.have:=c x b;simp[kC.fits,qd,qa]at this;exact⟨O9,O9,O9,O9⟩
 .have:=d x b;simp[fM.fits,mX,qa]at this;exact⟨O9,O9,O9⟩
structure PK(parent:ByteArray)(bits bZ:Int)(cI:List eP):Prop where
 p:parent.size=8
 b:0<=bits
 b2:bits<=8
 n:0<=bZ
 n2:bZ<=65535
 l:cI.length<=8
 l1:1<=cI.length
 t:∀t∈cI,t.Small
def wE{parent bits bZ cI}(h:dN parent bits bZ cI=true):PK parent bits bZ cI:=by simp only[dN,dP]at h;have⟨⟨⟨⟨d,a⟩,b⟩,e⟩,c⟩:=h;rw[xN]at c;simp only[qa,dP,uS,uR]at d a b e;refine⟨O9,a.1,a.2,b.1,b.2,O9,O9,λt g=>?_⟩;obtain⟨k,f,rfl⟩:=List.mem_iff_getElem.1 g;exact PI _ _ (c (cI[k],k) (nH.2 ⟨k,by simp[f]⟩))
def Yz(parent:ByteArray)(bits bZ:Int)(cI:List eP):ByteArray:=if dN parent bits bZ cI then⟨(fY parent bits bZ cI).toArray⟩else⟨#[]⟩
def YA(parent:ByteArray)(bits bZ:Int)(cI:List eP):Int:=if dN parent bits bZ cI then 0 else 1
def CQ(parent bits bZ ta d cI w)(g:yi w (.slice ta cI.length d) cI):Cv 40 #[.agg #[.string parent,.int .i64 bits,.int .i64 bZ,.slice ta cI.length d]] w λe w'=>e=.returned (.tuple #[(Yz parent bits bZ cI),(YA parent bits bZ cI)])/\Below w w w':=by
 cases f:dN parent bits bZ cI;.go_enter fA func40,ntmps40;go_wp2;refine(wF parent bits bZ ta d cI _ (g.keep (B0.alloc L9 _))).m1 λw1 a=>?_;go_wp2;go_ret2;exact⟨by simp[Yz,YA,f],CR B0 L9 a⟩
 .have c:=wE f;go_enter fA func40,ntmps40;go_wp2;refine(wF parent bits bZ ta d cI _ (g.keep (B0.alloc L9 _))).m1 λw1 a=>?_;have h:=CR B0 L9 a;simp at a;have m:=wG a 0 _ rfl;have o:=wG a 1 _ rfl;have q:=wG a 2 _ rfl;have r:=wG a 3 _ rfl;go_wp2;refine(BB w1 ↑() [] parent bits bZ ta d cI _ (g.keep h) B0 (mV.nil _ _) (by have:=c.p;omega) c.b c.n c.l c.t S8).mono ?_;rintro e w2 ⟨v2,rfl,j,i⟩;have k:=j.toStr;go_wp2;go_ret2;exact⟨by simp[Yz,YA,f],p6 h L9 i.below⟩
def abz(w:World)(x)(h0:0<=x)(a:x<256):(convert 127 9 (.slice (w:Nat) 1 1)).run Vp (w.alloc (.cells #[.int .u8 x] 5))=.ok (.string ⟨#[byteOf x]⟩) (w.alloc (.cells #[.int .u8 x] 5)):=by
 have:=run_convert_bytes_back (P:=Vp) (w.alloc (.cells #[.int .u8 x] 5)) 127 9 5 ((w:Nat),0) 1 [byteOf x] aI.underlying127 aI.underlying5 aI.underlying9 (by intro j b;match j,b with
  |0,_=>simp only[Addr.add,uV];simp[dZ x h0 a])
 simpa using this
def mk(l:List UInt8):ByteArray:=⟨l.toArray⟩
def Bq(a b):mk a++mk b=mk (a++b):=ByteArray.mk_append_mk a b
def JJ(s):mk (fI s)=s:=rfl
def dL(l):(mk l).size=l.length:=by show l.toArray.size=_;simp
def YB(n:Int)(j):n/2^(8*j)/256=n/2^(8*(j+1)):=by rw[Int.ediv_ediv_of_nonneg (V2 (Int.pow_pos D9)),show(8*(j+1))=8*j+8 from by omega,Int.pow_add];rfl
end
def IB(n)(h0:-2147483648<=n)(a:n<=2147483647):IntKind.i32.wrap n=n:=by have:IntKind.i32.bits=32:=rfl;simp[IntKind.wrap,this];have:IntKind.i32.signed=true:=rfl;simp only[this];split<;>rename_i h<;>simp at h<;>omega
def aeV(b o n a c d w)(c0:w.cell? (b,o)=some a)(c2:w.cell? (b,o+2)=some c)(c3:w.cell? (b,o+3)=some d)(g:w.cell? (b,o+4)=some (.int .i32 n))(h:w.frozen? (b,o+4)=false)(h0:0<=n)(f:n<2147483647):Cv 25 #[.pointer (b,o)] w λe w'=>e=.returned (.tuple #[])/\w'=w.setCell ⟨b,o+4,none⟩ (.int .i32 (n+1)):=by
 go_enter aI.func25,aI.ntmps25;simp[MX,aI.rlock,aI.cells,aI.only,aI.here,aI.count,aI.state,aI.UN,aI.o,aI.st];go_wp2;go_end0;exact⟨rfl,rfl⟩
def agb(b o a c w)(c2:w.cell? (b,o+2)=some a)(c3:w.cell? (b,o+3)=some c)(h:w.cell? (b,o)=some (.int .i32 0))(d:w.cell? (b,o+4)=some (.int .i32 0))(f:w.frozen? (b,o+4)=false)(g:w.frozen? (b,o)=false):Cv 30 #[.pointer (b,o)] w λe w'=>e=.returned (.tuple #[])/\w'=(w.setCell (b,o) (.int .i32 1)).setCell ⟨b,o+4,none⟩ (.int .i32 (-1073741824)):=by
 go_enter aI.func30,aI.ntmps30;simp[MX,aI.lock,aI.cells,aI.only,aI.here,aI.count,aI.UN,aI.state,aI.o,aI.st];go_wp2;go_end0;exact⟨rfl,rfl⟩
def UQ(b o n c d f u w)(c0:w.cell? (b,o)=some c)(c2:w.cell? (b,o+2)=some d)(c3:w.cell? (b,o+3)=some f)(h:w.cell? (b,o+4)=some (.int .i32 n))(i:w.frozen? (b,o+4)=false)(h0:0<n)(g:n<=2147483647):CallsD Vp 26 #[.pointer (b,o)] u w λe a w'=>a=u/\(e=.returned (.tuple #[])/\w'=w.setCell ⟨b,o+4,none⟩ (.int .i32 (n -1))):=by
 go_enter_d aI.func26,aI.ntmps26;simp[MX,aI.runlock,aI.cells,aI.only,aI.here,aI.count,aI.state,aI.UN,aI.o,aI.st];go_wp2;go_end0;exact⟨rfl,rfl⟩
def ZJ(b o c d u w)(c2:w.cell? (b,o+2)=some c)(c3:w.cell? (b,o+3)=some d)(i:w.cell? (b,o)=some (.int .i32 1))(f:w.cell? (b,o+4)=some (.int .i32 (-1073741824)))(g:w.frozen? (b,o+4)=false)(h:w.frozen? (b,o)=false):CallsD Vp 31 #[.pointer (b,o)] u w λe a w'=>a=u/\(e=.returned (.tuple #[])/\w'=(w.setCell (b,o+4) (.int .i32 0)).setCell ⟨b,o,none⟩ (.int .i32 0)):=by
 go_enter_d aI.func31,aI.ntmps31;simp[MX,aI.unlock,aI.cells,aI.only,aI.here,aI.count,aI.UN,aI.state,aI.o,aI.st];go_wp2;go_end0;exact⟨rfl,rfl⟩
end Go.Proofs.aH
namespace Go.Proofs.YtpjcmpfncpnmeabGreat
open Go.Conc.Locks
abbrev u6:RwLink:={lock:=61,unlock:=66,ilock:=90,iunlock:=91,lockSlow:=124,unlockSlow:=125,disable:=46,enable:=49,acquire:=50,relMerge:=51,cas32:=123,add32:=83,tMutex:=92,tIMutex:=90,tPMutex:=140,tPIMutex:=222,tPI32:=182,tUP:=139,tNoCopy:=87,tU32:=88,rlock:=25,runlock:=26,wlock:=30,wunlock:=31,i32add:=47,raceRead:=45,release:=63,rUnlockSlow:=52,semacqR:=48,semacqW:=62,semrel:=65,sfatal:=64,tRW:=97,tPRW:=137,tAI32:=95,tPAI32:=180,tPU32:=143,tANoCopy:=93}
def HL:RwCore Tryz.prog u6:=⟨Tryz.func47,Tryz.func45,Tryz.func46,Tryz.func49,Tryz.func50,Tryz.func51,Tryz.func83,Tryz.underlying97,Tryz.runUnderlying97,Tryz.sizeOf97,Tryz.isAgg97,Tryz.zeroValue97,Tryz.underlying95,Tryz.runUnderlying95,Tryz.sizeOf95,Tryz.isAgg95,Tryz.zeroValue95,Tryz.underlying137,Tryz.runUnderlying137,Tryz.sizeOf137,Tryz.isAgg137,Tryz.zeroValue137,Tryz.underlying180,Tryz.runUnderlying180,Tryz.sizeOf180,Tryz.isAgg180,Tryz.zeroValue180,Tryz.underlying143,Tryz.runUnderlying143,Tryz.sizeOf143,Tryz.isAgg143,Tryz.zeroValue143,Tryz.underlying93,Tryz.runUnderlying93,Tryz.sizeOf93,Tryz.isAgg93,Tryz.zeroValue93,Tryz.underlying88,Tryz.runUnderlying88,Tryz.sizeOf88,Tryz.isAgg88,Tryz.zeroValue88,Tryz.underlying92,Tryz.runUnderlying92,Tryz.sizeOf92,Tryz.isAgg92,Tryz.zeroValue92,Tryz.underlying140,Tryz.runUnderlying140,Tryz.sizeOf140,Tryz.isAgg140,Tryz.zeroValue140,Tryz.underlying182,Tryz.runUnderlying182,Tryz.sizeOf182,Tryz.isAgg182,Tryz.zeroValue182,Tryz.underlying139,Tryz.runUnderlying139,Tryz.sizeOf139,Tryz.isAgg139,Tryz.zeroValue139,Tryz.underlying21,Tryz.runUnderlying21,Tryz.sizeOf21,Tryz.isAgg21,Tryz.zeroValue21,K8,K8⟩
def abv:MuLib Tryz.prog u6.toMuLink:=⟨Tryz.func61,Tryz.func66,Tryz.func90,Tryz.func91,Tryz.func46,Tryz.func49,Tryz.func50,Tryz.func51,Tryz.func123,Tryz.func83,Tryz.underlying90,Tryz.runUnderlying90,Tryz.sizeOf90,Tryz.isAgg90,Tryz.zeroValue90,Tryz.underlying92,Tryz.runUnderlying92,Tryz.sizeOf92,Tryz.isAgg92,Tryz.zeroValue92,Tryz.underlying140,Tryz.runUnderlying140,Tryz.sizeOf140,Tryz.isAgg140,Tryz.zeroValue140,Tryz.underlying222,Tryz.runUnderlying222,Tryz.sizeOf222,Tryz.isAgg222,Tryz.zeroValue222,Tryz.underlying182,Tryz.runUnderlying182,Tryz.sizeOf182,Tryz.isAgg182,Tryz.zeroValue182,Tryz.underlying139,Tryz.runUnderlying139,Tryz.sizeOf139,Tryz.isAgg139,Tryz.zeroValue139,Tryz.underlying87,Tryz.runUnderlying87,Tryz.sizeOf87,Tryz.isAgg87,Tryz.zeroValue87,Tryz.underlying21,Tryz.runUnderlying21,Tryz.sizeOf21,Tryz.isAgg21,Tryz.zeroValue21,K8⟩
def AX:RwRLib Tryz.prog u6:=⟨HL,Tryz.func25,Tryz.func26⟩
def AY:RwWLib Tryz.prog u6:=⟨HL,abv,Tryz.func30,Tryz.func31,Tryz.func63,Tryz.underlying3,Tryz.runUnderlying3,Tryz.sizeOf3,Tryz.isAgg3,Tryz.zeroValue3⟩
end Go.Proofs.YtpjcmpfncpnmeabGreat
namespace Go.Bx
open Go.ChangeMaps Go.MapKept Go.Maps
section
structure xH(P:Program)(k:TypeId)(I:Value->Prop):Prop where
 check:∀(w:World) (em:Bool) {v:Value},I v->(Instr.checkKey em 10000 k v).run P w=.ok () w
 eq:∀(w:World) {a b:Value},I a->I b->∃r:Bool,(Op.equal k a b).run P w=.ok r w/\(r=true↔a=b)
 af6:∃d,P.underlying k=some d/\∀{a b:Value},I a->I b->Instr.sameNow d a b=none
def xH.find{P k I}(K:xH P k I)(w){x}(n:I x)(es)(a:∀e∈es,I e.key):((Instr.findKey k x es).run P w=.ok none w/\∀e∈es,e.key≠x)\/∃j e,(Instr.findKey k x es).run P w=.ok (some (j,e.val)) w/\es[j]?=some e/\e.key=x:=by
 have ask:∀(es:List MapEntry) (i:Nat),(∀e∈es,I e.key)->((Instr.findAsking k x es i).run P w=.ok none w/\∀e∈es,e.key≠x)\/∃j e,(Instr.findAsking k x es i).run P w=.ok (some (i+j,e.val)) w/\es[j]?=some e/\e.key=x:=by intro es;induction es with
  |nil=>intro i _;exact .inl ⟨by simp[Instr.findAsking],S8⟩
  |cons e es t=>intro i a;have⟨r,m,l⟩:=K.eq w n (a e S8);cases r with
    |true=>refine .inr ⟨0,e,?_,rfl,(l.1 rfl).symm⟩;simp[Instr.findAsking,m]
    |false=>
      have v:e.key≠x:=λh=>by simpa using l.2 h.symm
      have u:=t (i+1) (λb o=>a b (by simp[o]));have q:(Instr.findAsking k x (e::es) i).run P w=(Instr.findAsking k x es (i+1)).run P w:=by simp[Instr.findAsking,m]
      rw[q];obtain⟨c,f⟩|⟨j,b,c,f,p⟩:=u;.simp_all
      .exact .inr ⟨j+1,b,by rw[c];congr 3;omega,by simpa using f,p⟩
 have⟨d,g,s⟩:=K.af6;cases es with
 |nil=>exact .inl ⟨by simp[Instr.findKey,vM g,Instr.findNow],S8⟩
 |cons e es=>
   have:(Instr.findKey k x (e::es)).run P w=(Instr.findAsking k x (e::es) 0).run P w:=by simp[Instr.findKey,vM g,Instr.findNow,s n (a e S8)]
   rw[this];simpa using ask (e::es) 0 a
def jC(I:Value->Prop)(w:World)(b:Nat)(L:List (Value×Value)):Prop:=∃es clock,w.heap[b]?=some (.map es clock)/\es.toList.map (λe=>(e.key,e.val))=L/\(∀x∈L,I x.1)/\Stamped es clock
variable{P:Program}{I:Value→Prop}{k t e:TypeId}{w:World}{b:Nat}{L:List (Value×Value)}
def jC.lt(h:jC I w b L):b<w:=by obtain⟨es,c,a,-⟩:=h;exact(eG.1 a).1
def jC.same{w'}(h:jC I w b L)(e:w'.heap[b]?=w.heap[b]?):jC I w' b L:=by have⟨es,c,a,d⟩:=h;exact⟨es,c,e.trans a,d⟩
def jC.keys(h:jC I w b L):(L.map Prod.fst).Nodup:=by obtain⟨es,c,-,rfl,-,h⟩:=h;have:=h.2.2;rw[pG];exact this
def Qa{es:Array MapEntry}(a:es.toList.map (λe=>(e.key,e.val))=L)(c:∀x∈L,I x.1):∀e∈es.toList,I e.key:=by intro e b;exact c (e.key,e.val) (a▸iF.2 ⟨e,b,rfl⟩)
def jC.look(h:jC I w b L)(K:xH P k I)(m:P.underlying t=some (.map k e)){z}(r:(zeroValue e).run P w=.ok z w){key}(g:I key):((Instr.lookup t (.map (some b)) key false).run P w=.ok z w/\∀x∈L,x.1≠key)\/∃v,(key,v)∈L/\(Instr.lookup t (.map (some b)) key false).run P w=.ok v w:=by
 obtain⟨es,c,l,f,o,-⟩:=h;rcases K.find w g es.toList (Qa f o)with⟨a,d⟩|⟨j,i,a,d,n⟩;.refine .inl ⟨by simp[Instr.lookup,vM m,KN l,K.check w _ g,a,r],λx p=>?_⟩;subst f;obtain⟨y,q,rfl⟩:=iF.1 p;exact d y q
 .refine .inr ⟨i.val,?_,by simp[Instr.lookup,vM m,KN l,K.check w _ g,a]⟩;subst f;exact iF.2 ⟨i,cS d,by rw[n]⟩
def Qb{w o}(a:b<w.heap.size):(setBlock w b o).heap[b]?=some o:=by simp[setBlock,a]
def jC.put(h:jC I w b L)(K:xH P k I)(u:P.underlying t=some (.map k e)){key val}(m:I key)(s:∀x∈L,x.1≠key):∃o,(Instr.mapUpdate t (.map (some b)) key val).run P w=.ok () (setBlock w b o)/\jC I (setBlock w b o) b (L++[(key,val)]):=by
 have r:=h.lt;have⟨es,c,l,f,q,p⟩:=h;rcases K.find w m es.toList (Qa f q)with⟨i,d⟩|⟨j,a,i,d,n⟩
 .refine⟨.map (es.push ⟨key,val,c⟩) (c+1),by simp[Instr.mapUpdate,vM u,KN l,K.check w false m,i,Wp _ l,setBlock],⟨_,_,Qb r,by simp[<-f],?_,stamped_push p d⟩⟩;intro x g;obtain g|g:=mP.1 g;.grind
  .simp_all
 .exact absurd n (s (a.key,a.val) (f▸iF.2 ⟨a,cS d,rfl⟩))
def BO{α β:Type}(f:α->β):∀(l:List α) (j:Nat),(l.eraseIdx j).map f=(l.map f).eraseIdx j
 |[],_=>rfl
 |_::_,0=>rfl
 |a::l,j+1=>by simp[BO f l j]
def jC.drop{ty}(h:jC I w b L)(K:xH P k I)(r:P.underlying t=some (.map k e)){key}(l:I key):∃o f,(Builtin.delete_ #[t,k] ty #[.map (some b),key]).run P w=.ok (.tuple #[]) (setBlock w b o)/\jC I (setBlock w b o) b f/\((f=L/\∀x∈L,x.1≠key)\/∃j v,L[j]?=some (key,v)/\f=L.eraseIdx j):=by
 have q:=h.lt;have⟨es,c,d,a,i,p⟩:=h;rcases K.find w l es.toList (Qa a i)with⟨g,n⟩|⟨j,s,g,n,A⟩;.refine⟨.map es c,L,by simp[Builtin.delete_,vM r,KN d,K.check w _ l,g,Wp _ d,setBlock],⟨_,_,Qb q,a,i,p⟩,.inl ⟨rfl,λx m=>?_⟩⟩;subst a;obtain⟨y,z,rfl⟩:=iF.1 m;exact n y z
 .have u:(es.eraseIdxIfInBounds j).toList=es.toList.eraseIdx j:=by simp
  refine⟨.map (es.eraseIdxIfInBounds j) c,L.eraseIdx j,by simp[Builtin.delete_,vM r,KN d,K.check w _ l,g,Wp _ d,setBlock],⟨_,_,Qb q,?_,?_,stamped_erase p j⟩,.inr ⟨j,s.val,?_,rfl⟩⟩;.rw[u,BO,a]
  .intro x m;exact i x ((adl _ _).subset m)
  .grind
end
end Go.Bx
namespace Go.Proofs.aH
open Go.RowKit
open Go.Bx (jC xH)
abbrev Pt:=ByteArray×Int
def vo(p:Pt):Value:=.agg #[.string p.1,.int .i64 p.2]
def abK(v:Value):Prop:=∃p:Pt,v=vo p
def DR{p q}(h:vo p=vo q):p=q:=by have⟨a,b⟩:=p;simp[vo]at h;rw[h.1,h.2]
def Zj:xH Vp 58 abK where
 check:=by rintro w em v ⟨⟨a,b⟩,rfl⟩;have hu:=aI.underlying58;obtain⟨m,hm⟩:∃m,10000=m+2:=⟨9998,rfl⟩;rw[hm];clear hm;unfold vo;simp[Instr.checkKey,vM hu,go_sem]
 eq:=by
  rintro w x y ⟨⟨a,b⟩,rfl⟩ ⟨⟨c,d⟩,rfl⟩;refine⟨(a.toList==c.toList)&&(b==d),?_,?_⟩;.unfold vo;obtain⟨m,hm⟩:∃m,Op.maxDepth=m+2:=⟨9998,rfl⟩;rw[Op.equal,hm];clear hm;by_cases h:a.toList==c.toList<;>by_cases h2:b=d<;>simp[go_sem,h,h2]
  .constructor
   .intro h;simp only[dP,uR]at h;obtain⟨h1,rfl⟩:=h;have:a=c:=by rw[ByteArray.toList_eq,ByteArray.toList_eq]at h1;obtain⟨⟨x⟩⟩:=a;obtain⟨⟨y⟩⟩:=c;simp only at h1;rw[h1]
    rw[this]
   .intro h;have:=DR h;cases this;simp
 af6:=⟨_,aI.underlying58,by rintro x y ⟨⟨a,b⟩,rfl⟩ ⟨⟨c,d⟩,rfl⟩;rfl⟩
end Go.Proofs.aH
