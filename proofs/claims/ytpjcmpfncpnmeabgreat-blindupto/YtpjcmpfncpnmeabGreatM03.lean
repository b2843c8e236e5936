import Derived.Test.YtpjcmpfncpnmeabGreatProg
import Derived.WalkKit
import Derived.WalkSpells
import Derived.WalkLawsBesides
import Derived.BigQuiet
import Derived.Maps.AppendAt
import Derived.Lib.AppendStr
import Derived.Conc.RwLib
import Derived.Maps.Keyed
import Derived.MapViews
import Derived.Test.YtpjcmpfncpnmeabGreatM02
set_option linter.all false
set_option maxHeartbeats 1000000
set_option maxRecDepth 100000
namespace Go.Ren
def o9{α:Type}(p:Program)(Q:α->Prop):Sem α->Prop
 |.pure a=>Q a
 |.load _ _ k=>∀v,o9 p Q (k v)
 |.store _ _ _ k=>o9 p Q k
 |.new _ k=>∀r,o9 p Q (k r)
 |.shape _ k=>∀r,o9 p Q (k r)
 |.freeze _ _ k=>o9 p Q k
 |.frozen _ k=>∀b,o9 p Q (k b)
 |.getObj _ k=>∀o,o9 p Q (k o)
 |.setObj _ _ k=>o9 p Q k
 |.choose _ k=>∀n,o9 p Q (k n)
 |.sys _ k=>∀r,o9 p Q (k r)
 |.program k=>o9 p Q (k p)
 |.mark _ k=>o9 p Q k
 |.halt _=>True
section
variable{α β:Type}{p:Program}
def E3(s:Sem α):o9 p (λ_=>True) s:=by induction s with
 |pure a=>exact trivial
 |load m a k b=>exact b
 |store m a v k b=>exact b
 |new o k b=>exact b
 |shape r k b=>exact b
 |freeze a n k b=>exact b
 |frozen a k b=>exact b
 |getObj r k b=>exact b
 |setObj r o k b=>exact b
 |choose q k b=>exact b
 |sys c k b=>exact b
 |program k b=>exact b p
 |mark m k b=>exact b
 |halt h=>exact trivial
def o9.bind'{Q Q'}{f:α->Sem β}(d:∀a,Q a->o9 p Q' (f a))(s):o9 p Q s->o9 p Q' (s.bind f):=by induction s with
 |pure a=>exact d a
 |load m a k b=>exactλh v=>b v (h v)
 |store m a v k b=>exact b
 |new o k b=>exactλh v=>b v (h v)
 |shape r k b=>exactλh v=>b v (h v)
 |freeze a n k b=>exact b
 |frozen a k b=>exactλh v=>b v (h v)
 |getObj r k b=>exactλh v=>b v (h v)
 |setObj r o k b=>exact b
 |choose q k b=>exactλh v=>b v (h v)
 |sys c k b=>exactλh v=>b v (h v)
 |program k b=>exact b p
 |mark m k b=>exact b
 |halt h=>exactλ_=>trivial
def o9.bind{Q Q' s}{f:α->Sem β}(h:o9 p Q s)(b:∀a,Q a->o9 p Q' (f a)):o9 p Q' (s>>=f):=o9.bind' b s h
def zO:=@o9.bind
def Yu{Q}(s:Sem α):∀w es,o9 p Q s->∀a w',(s.runT p w es).1=.ok a w'->Q a:=by induction s with
 |pure a=>intro w es h b w' e;cases e;exact h
 |load m a k d=>
   intro w es h b w' e;simp only[Sem.runT]at e;split at e;.exact d _ w _ (h _) b w' e
   .split at e;.exact d _ w _ (h _) b w' e
    .cases e
 |store m a v k d=>
   intro w es h b w' e;rcases EB (p:=p) (m:=m) (a:=a) (v:=v) (k:=k) (w:=w) (es:=es)with⟨g,f⟩|f;.simp_all
   .rw[f]at e;split at e
    .split at e;.cases e
     .exact d _ _ h b w' e
    .split at e;.exact d _ _ h b w' e
     .cases e
 |new o k d=>intro w es h b w' e;exact d _ _ _ (h _) b w' e
 |shape r k d=>intro w es h b w' e;exact d _ _ _ (h _) b w' e
 |freeze a n k d=>intro w es h b w' e;exact d _ _ h b w' e
 |frozen a k d=>intro w es h b w' e;exact d _ _ _ (h _) b w' e
 |getObj r k d=>
   intro w es h b w' e;simp only[Sem.runT]at e;split at e;.cases e
   .exact d _ w _ (h _) b w' e
   .cases e
 |setObj r o k d=>
   intro w es h b w' e;simp only[Sem.runT]at e;split at e;.cases e
   .exact d _ _ h b w' e
   .cases e
 |choose q k d=>
   intro w es h b w' e;simp only[Sem.runT]at e;split at e;.exact d _ w _ (h _) b w' e
   .exact d _ _ _ (h _) b w' e
 |sys c k d=>intro w es h b w' e;exact d _ _ _ (h _) b w' e
 |program k d=>intro w es h b w' e;exact d _ _ _ h b w' e
 |mark m k d=>intro w es h b w' e;exact d _ _ h b w' e
 |halt h=>intro w es h b w' e;cases e
end
def E4{info d i}(h:Made.reckon info d=some i):i.methods=#[]:=by cases d with
 |pointer e=>
   simp[Made.reckon,zg]at h;obtain⟨j,-,h⟩:=h;split at h;.cases h
   .split at h;.cases h
    .simp[zg]at h;obtain⟨_,-,rfl⟩:=h;rfl
   .simp[zg]at h;obtain⟨_,-,rfl⟩:=h;rfl
 |slice e=>simp[Made.reckon,zg]at h;obtain⟨_,-,_,-,rfl⟩:=h;rfl
 |map k e=>simp[Made.reckon,bind,zg]at h;obtain⟨_,-,_,-,_,-,_,-,rfl⟩:=h;rfl
 |chan k e=>simp[Made.reckon,bind,zg,pure,gW]at h;obtain⟨_,-,_,-,rfl⟩:=h;rfl
 |func a b c=>simp[Made.reckon,bind,zg,pure,gW]at h;obtain⟨_,-,rfl⟩:=h;rfl
 |array n e=>simp[Made.reckon,bind,zg,pure,gW]at h;obtain⟨_,-,_,-,rfl⟩:=h;rfl
 |struct f=>simp only[Made.reckon,Made.reckonStruct,bind,zg,pure]at h;obtain⟨r,-,h⟩:=h;split at h<;>(cases h;rfl)
 |_=>cases h
def E5{T n t i}(h:Made.infoAt T n t=some i):i∈T.types\/i.methods=#[]:=by cases n with
 |zero=>cases h
 |succ n=>
   unfold Made.infoAt at h;split at h;.grind
   .right;cases a:Made.decode (t -T.types.size)with
    |none=>rw[a]at h;cases h
    |some d=>rw[a]at h;exact E4 h
def Jt{T:Tables}{t i}(h:T.info? t=some i):i∈T.types\/i.methods=#[]:=by
 unfold Tables.info? at h;split at h;.grind
 .exact E5 h
def zP(s:String):Bool:=s== "Error" ||s== "String"
def qG(fn:Func):Bool:=fn.body.isNone&&fn.name== "none" &&fn.origin== "none"
def Pe(types:Array TypeInfo)(d:FuncId->Bool):Bool:=types.all λi=>i.methods.all λm=>!zP m.name||m.func.all λx=>d x.1
def E6(p:Program):Bool:=Pe p.types λf=>(p.funcs[f]?).all qG
def RL:Next->Prop
 |.enter ..=>False
 |_=>True
def T5:Extern.allNextRows.lookup "none" =none:=K8
def Pf:Extern.allTypedRows.lookup "none" =none:=K8
def T6:Extern.allRows.lookup "none" =none:=K8
def HL{fn}(h:fn.name= "none")(a:fn.origin= "none"):Extern.findNext fn=none:=by simp only[Extern.findNext,h,a,T5];rfl
def HM{fn}(h:fn.name= "none")(a:fn.origin= "none"):Extern.find fn=none:=by simp only[Extern.find,h,a,Pf,T6];rfl
def RN{fn}(h:qG fn=true):fn.body.isNone=true/\fn.name= "none" /\fn.origin= "none" :=by simp only[qG,dJ,uQ]at h;exact⟨h.1.1,h.1.2,h.2⟩
def T7{p f fn}(d:p.funcs[f]?=some fn)(h:qG fn=true)(args):o9 p RL (callFunc f args):=by have⟨c,a,b⟩:=RN h;refine zO (Q:=λq=>q=p) (s:=program) rfl ?_;rintro _ rfl;rw[d];simp[c,a,HL a b,HM a b];exact trivial
def CF{p}(a:E6 p=true){name}(d:zP name=true):∀n t v,o9 p (λx:FuncId×Value=>(p.funcs[x.1]?).all qG=true) (method n t v name)
 |0,t,v=>trivial
 |n+1,t,v=>by
   have k:=CF a d n;refine zO (Q:=λi=>p.info? t=some i) ?_ ?_
   .refine zO (Q:=λq=>q=p) (s:=program) rfl ?_;rintro _ rfl;split;.assumption
    .trivial
   intro i hi;cases c:i.methods.find? (·.name==name)with
   |none=>trivial
   |some m=>
     refine zO (E3 _) ?_;rintro⟨l,x⟩ -;have h:=Array.mem_of_find?_eq_some c;have j:m.name=name:=by have:=Array.find?_some c;simpa using this
     cases g:m.func with
     |none=>refine zO (E3 _) ?_;intro y _;cases y<;>first|exact k _ _|trivial
     |some e=>
       have⟨f,b⟩:=e;refine zO (E3 _) ?_;intro y _;show(p.funcs[f]?).all qG=true;obtain hi|hi:=Jt hi;.have:=y8.1 a i hi;have:=y8.1 this m h;rw[j,d,g]at this;simpa using this
       .simp_all
def T8{p v recv t name}(h:panicText p false v=.call t recv name):zP name=true:=by
 unfold panicText at h;split at h
 .split at h;.cases h
  .rename_i info _;dsimp only at h;have key:∀(s:String) (m:Method) (g:Method->Bool),zP s=true->info.methods.find? (fun m=>m.name==s&&g m)=some m->zP m.name=true:=fun s m g b a=>by grind
   split at h;.rename_i a;cases h;exact key "Error" _ _ rfl a
   .rename_i a;cases h;exact key "String" _ _ rfl a
   .grind
 all_goals cases h
def Yv{p}(b:E6 p=true)(todo):NoEnter p todo:=by
 intro x _ t recv name i w f args w' c;have d:=T8 i;have key:o9 p RL (invoke (.fn (.method name) #[]) #[.iface t recv]):=by refine zO (Q:=λq=>q=p) (s:=program) rfl ?_;intro q e;subst e;refine zO (CF b d _ t recv) ?_;rintro⟨f,x⟩ h;cases a:q.funcs[f]? with
  |none=>refine zO (Q:=λr=>r=q) (s:=program) rfl ?_;intro r g;rw[g,a];trivial
  |some fn=>rw[a]at h;exact T7 a h _
 exact Yu _ w #[] key _ _ c
def DD(f f':Func):Bool:=f.name != "runtime.NumGoroutine" &&f'.name != "runtime.NumGoroutine" &&(f.body.isSome&&f'.body.isSome||qG f&&f'.body.isNone)
def DF{p p' Z k f f'}(q:p.funcs[k]?=some f)(r:p'.funcs[k]?=some f')(h:DD f f'=true)(args):SR p p' Z (NR p Z) (callFunc k args) (callFunc k (args.map (bB Z))):=by
 simp[DD]at h;have⟨⟨g,j⟩,h⟩:=h;have i:(f.name== "runtime.NumGoroutine")=false:=by simpa using g
 have l:(f'.name== "runtime.NumGoroutine")=false:=by simpa using j
 refine iE ?_;rw[q,r];simp only[i,l];obtain⟨c,d⟩|⟨c,d⟩:=h
 .have m:f.body.isNone=false:=by cases o:f.body<;>simp_all
  have n:f'.body.isNone=false:=by cases o:f'.body<;>simp_all
  simp[m,n];exact aN ⟨rfl,rfl⟩
 .have⟨e,a,b⟩:=RN c;simp[e,d,a,HL a b,HM a b];exact aK (Q:=fun _ _=>True) (Jl rfl) (fun _ _ _=>aM rfl)
def vg{p p' Z}:∀n a acc,SR p p' Z (λx c=>c=x) (Extern.Bytes.loadBytes a n acc) (Extern.Bytes.loadBytes (cC Z a) n acc)
 |0,a,acc=>aN rfl
 |n+1,a,acc=>by refine aK Dy ?_;rintro v _ rfl;cases v with
   |int k b=>rw[cN];cases k with
     |u8=>have:=vg (p:=p) (p':=p') (Z:=Z) n (a.add 1) (acc.push b.toNat.toUInt8);exact this
     |_=>exact aM rfl
   |_=>exact aM rfl
def E7{p p' Z}(v):SR p p' Z (λx d=>d=x) (Extern.Bytes.bytesOf v) (Extern.Bytes.bytesOf (bB Z v)):=by cases v with
 |string s=>rw[cB];exact aN rfl
 |slice a l c=>rw[bQ];cases a with
   |none=>exact aN rfl
   |some a=>
     by_cases b:l=0/\c=0;.obtain⟨rfl,rfl⟩:=b;exact aN rfl
     .rw[oW,qi b];exact vg _ _ _
 |_=>exact aM rfl
def Pg{p p' Z}(args):SR p p' Z (VR Z) (Extern.BytealgCompare.compare args) (Extern.BytealgCompare.compare (args.map (bB Z))):=by have⟨l⟩:=args;match l with
 |[]=>exact aM rfl
 |[x]=>exact aM rfl
 |x::y::z::l=>exact aM rfl
 |[x,y]=>rw[show(#[x,y].map (bB Z))=#[bB Z x,bB Z y]by simp];refine aK (E7 x) ?_;rintro _ a rfl;refine aK (E7 y) ?_;rintro _ b rfl;exact aN (by simp[VR,goInt])
def Yw:Extern.allNextRows.lookup "internal/bytealg.abigen_runtime_cmpstring" =none:=K8
def T9:Extern.allTypedRows.lookup "internal/bytealg.abigen_runtime_cmpstring" =none:=K8
def Yx:Extern.allRows.lookup "internal/bytealg.abigen_runtime_cmpstring" =some Extern.BytealgCompare.compare:=K8
def Ph:Extern.allNextRows.lookup "" =none:=K8
def Yy{p p' Z k f}(g:p.funcs[k]?=some f)(h:p'.funcs[k]?=some f)(a:f.name= "internal/bytealg.abigen_runtime_cmpstring")(i:f.origin= "")(e:f.body.isNone=true)(args):SR p p' Z (NR p Z) (callFunc k args) (callFunc k (args.map (bB Z))):=by
 have b:(f.name== "runtime.NumGoroutine")=false:=by rw[a];decide
 have c:Extern.findNext f=none:=by simp only[Extern.findNext,a,i,Yw,Ph];rfl
 have d:Extern.find f=some Extern.BytealgCompare.compare:=by simp only[Extern.find,a,T9,Yx];rfl
 refine iE ?_;rw[g,h];simp[b,e,c,d];refine aK (Q:=fun _ _=>True) (Jl rfl) (fun _ _ _=>?_);refine aK (Pg args) ?_;rintro v _ rfl;exact aN ⟨rfl,rfl⟩
end Go.Ren
namespace Go.Proofs
open Go.Ren
section
class VB where
 b:Bool
variable[VB]
def aI.or(c:Code):Code:=bif VB.b then c else .refuse "not here"
def aI.o(d:Nat)(op:Op)(t:TypeId):Oper:={dst:=some d,op:=op,type:=t,pos:= "",after:=#[],guard:=none}
def aI.st(op:Op):Oper:={dst:=none,op:=op,type:=0,pos:= "",after:=#[],guard:=none}
def aI.here(c:Code):Code:=(Code.region 2 #[aI.o 2 (.binOp .eql 137 (.tmp 0) (.const (.pointer none)) 137) 4] false).seq ((Code.cond (.tmp 2) (.refuse "no lock") .skip).seq c)
def aI.count:Array Oper:=#[aI.o 5 (.fieldAddr 97 (.tmp 0) 3) 0,aI.o 6 (.fieldAddr 95 (.tmp 5) 1) 0,aI.o 7 (.load 21 (.tmp 6)) 21]
def aI.state:Array Oper:=#[aI.o 8 (.fieldAddr 97 (.tmp 0) 0) 0,aI.o 9 (.fieldAddr 92 (.tmp 8) 1) 0,aI.o 10 (.fieldAddr 90 (.tmp 9) 0) 0,aI.o 11 (.load 21 (.tmp 10)) 21]
def aI.UW:Array Oper:=#[aI.o 14 (.fieldAddr 97 (.tmp 0) 1) 0,aI.o 15 (.load 88 (.tmp 14)) 88,aI.o 16 (.fieldAddr 97 (.tmp 0) 2) 0,aI.o 17 (.load 88 (.tmp 16)) 88]
def aI.only(id t:Nat)(lo hi:Int)(c:Code):Code:=(Code.region id #[aI.o 12 (.binOp .lss 21 (.tmp t) (.const (.int .i32 lo)) 21) 4,aI.o 13 (.binOp .lss 21 (.const (.int .i32 hi)) (.tmp t) 21) 4] false).seq
 ((Code.cond (.tmp 12) (.refuse "not so") .skip).seq ((Code.cond (.tmp 13) (.refuse "not so") .skip).seq c))
def aI.cells(lo hi:Int)(c:Code):Code:=aI.here<|(Code.region 0 (aI.count++aI.state++aI.UW) false).seq (aI.only 3 7 lo hi c)
def aI.rlock:Code:=aI.cells 0 2147483646 (Code.region 1 #[aI.o 18 (.binOp .add 21 (.tmp 7) (.const (.int .i32 1)) 21) 21,aI.st (.store 21 (.tmp 6) (.tmp 18))] false)
def aI.runlock:Code:=aI.cells 1 2147483647 (Code.region 1 #[aI.o 18 (.binOp .sub 21 (.tmp 7) (.const (.int .i32 1)) 21) 21,aI.st (.store 21 (.tmp 6) (.tmp 18))] false)
def aI.lock:Code:=aI.cells 0 0 (aI.only 4 11 0 0 (Code.region 1 #[aI.st (.store 21 (.tmp 10) (.const (.int .i32 1))),aI.st (.store 21 (.tmp 6) (.const (.int .i32 (-1073741824))))] false))
def aI.unlock:Code:=aI.cells (-1073741824) (-1073741824) (aI.only 4 11 1 1 (Code.region 1 #[aI.st (.store 21 (.tmp 6) (.const (.int .i32 0))),aI.st (.store 21 (.tmp 10) (.const (.int .i32 0)))] false))
def aI.ry:Code:=(Code.region 0 #[aI.o 5 (.call {callee:=.builtin .len,args:=#[.tmp 0],argTypes:=#[103]}) 3,aI.o 6 (.binOp .lss 3 (.const ↑aA) (.tmp 1) 3) 4,aI.o 16 (.binOp .lss 3 (.const (.int .i64 2147483646)) (.tmp 1) 3) 4,aI.o 17 (.binOp .lss 3 (.const (.int .i64 2147483646)) (.tmp 5) 3) 4] false).seq
 ((Code.cond (.tmp 6) .skip (.refuse "no workers")).seq ((Code.cond (.tmp 16) (.refuse "too many workers") .skip).seq ((Code.cond (.tmp 17) (.refuse "too many trials") .skip).seq
 ((Code.region 6 #[aI.o 4 (.assign (.const (.slice none 0 0))) 250,aI.o 3 (.makeSlice 250 (.tmp 5) (.tmp 5)) 250,aI.o 2 (.move (.const ↑aA)) 3] false).seq
 ((Code.block 0 (Code.loop ((Code.region 1 #[aI.o 7 (.binOp .lss 3 (.tmp 2) (.tmp 5) 3) 4] false).seq
   ((Code.cond (.tmp 7) .skip (.exit 0)).seq
   ((Code.region 7 #[aI.o 22 (.binOp .eql 103 (.tmp 0) (.const (.slice none 0 0)) 103) 4] false).seq
   ((Code.cond (.tmp 22) (.refuse "no trials") .skip).seq
   ((Code.region 2 #[aI.o 8 (.indexAddr 103 (.tmp 0) (.tmp 2)) 0,aI.o 9 (.load 247 (.tmp 8)) 247,aI.o 10 (.field 247 (.tmp 9) 0) 9,aI.o 11 (.field 247 (.tmp 9) 1) 9,aI.o 12 (.field 247 (.tmp 9) 2) 9,aI.o 13 (.field 247 (.tmp 9) 3) 3,
     aI.o 14 (.call {callee:=.builtin .len,args:=#[.tmp 10],argTypes:=#[9]}) 3,aI.o 14 (.call {callee:=.builtin .len,args:=#[.tmp 11],argTypes:=#[9]}) 3,aI.o 14 (.call {callee:=.builtin .len,args:=#[.tmp 12],argTypes:=#[9]}) 3,
     aI.o 15 (.binOp .lss 3 (.const (.int .i64 9223372036854775807)) (.tmp 13) 3) 4] false).seq
   ((Code.cond (.tmp 15) (.refuse "too high") .skip).seq
   ((Code.region 3 #[aI.o 18 (.call {callee:=.value (.func 165),args:=#[.tmp 10,.tmp 11,.tmp 12,.tmp 13],argTypes:=#[9,9,9,3]}) 0] false).seq
   (Code.region 4 #[aI.o 19 (.extract (.tmp 18) 0) 45,aI.o 20 (.indexAddr 250 (.tmp 3) (.tmp 2)) 0,aI.st (.store 45 (.tmp 20) (.tmp 19)),aI.o 21 (.binOp .add 3 (.tmp 2) (.const ↑aG) 3) 3,aI.o 2 (.move (.tmp 21)) 3] false)))))))))).seq
 ((Code.region 5 #[aI.o 4 (.assign (.tmp 3)) 250] false).seq .ret))))))
def aI.code(k:FuncId):Option Code:=if k=25 then some (aI.or aI.rlock)else if k=26 then some (aI.or aI.runlock)else if k=30 then some (aI.or aI.lock)else if k=31 then some (aI.or aI.unlock)
 else if k=155 then some (aI.or aI.ry)
 else if[2,90,91,124,162,166].contains k then some (.refuse "not here")else none
def aI.gY(k:FuncId)(f:Func):Func:=match aI.code k with
 |some c=>{f with body:=some c}
 |none=>if f.body.isNone&&k !=118 then{f with name:= "none",origin:= "none" }else f
noncomputable def Vp:Program:={Tryz.prog with globals:=#[],rt:={Tryz.prog.rt with typeAssertionError:=0},funcs:=Tryz.prog.funcs.mapIdx aI.gY}
structure CoV
instance:CoeFun CoV (λ_=>FuncId->Array Value->World->(Ending->World->Prop)->Prop):=⟨λ_=>Calls Vp⟩
def Cv:CoV:=⟨⟩
def aI.VM{α β:Type}(a:Array α)(f:Nat->α->β)(k):(a.mapIdx f)[k]?=(a[k]?).map (f k):=Array.getElem?_mapIdx
def aI.aaO:Vp.funcs=Tryz.prog.funcs.mapIdx aI.gY:=K8
def aI.at(k):Vp.funcs[k]?=(Tryz.prog.funcs[k]?).map (aI.gY k):=by rw[aI.aaO];generalize Tryz.prog.funcs=a;exact aI.VM a _ k
def yg:=@aI.at
def aI.aaP:(Tryz.prog.types.all λi=>i.zero.all Jj)=true:=K8
def aI.aaQ:(Tryz.prog.types.all λi=>AQ Tryz.prog.types.size i.desc)=true:=K8
def aI.fit{G:Gs}:Fit G Vp Tryz.prog where
 tab:=rfl;rts:=rfl;ta:=λe h=>by
  have:Vp.underlying 0=some (.tuple #[]):=by kernel_rfl
  have h:Vp.underlying 0=some (.pointer e):=h;rw[this]at h;cases h
 zero:=λi hi v hv=>by have:=y8.1 aI.aaP i hi;rw[hv]at this;exact this
 desc:=λi hi=>y8.1 aI.aaQ i hi;none:=rfl;fol:=rfl;afN:=by show Tryz.prog.globals.size<=1;rw[Tryz.globals_size];decide
def pF:=@aI.fit
end
section
variable[VB]
def aI.X(k:FuncId):Prop:=(aI.code k).isSome=true
def aI.ac0{k}(h:¬aI.X k)(f):(aI.gY k f).body=f.body/\(aI.gY k f).ntmps=f.ntmps:=by
 have:aI.code k=none:=by unfold aI.X at h;cases a:aI.code k with
  |none=>rfl
  |some c=>rw[a]at h;exact absurd rfl h
 unfold aI.gY;rw[this];dsimp only;split<;>exact⟨rfl,rfl⟩
def aaR:=@aI.ac0
def aI.keep(k f):(aI.gY k f).results=f.results/\(aI.gY k f).norace=f.norace:=by
 unfold aI.gY;split;.simp
 .grind
def aI.aaS:Vp.types=Tryz.prog.types:=K8
def aI.inits_eq:Vp.inits=#[2]:=K8
def adS:=@aI.inits_eq
def aI.afg:(Tryz.prog.funcs.toList.zipIdx.all λx=>(aI.code x.2).isSome||x.1.body.all (eU Vp))=true:=K8
def aI.aaT:(Tryz.prog.funcs.toList.zipIdx.all λx=>x.2==118||DD (aI.gY x.2 x.1) x.1)=true:=K8
def aI.ac1:(Pe Tryz.prog.types λf=>(Tryz.prog.funcs[f]?).all λfn=>qG (aI.gY f fn))=true:=K8
def aI.afh{T}(h:(Tryz.prog.funcs.toList.zipIdx.all T)=true){k:FuncId}{f}(a:Tryz.prog.funcs[k]?=some f):T (f,k)=true:=by grind
def NZ:=@aI.afh
def aI.ac2(f):(Vp.funcs[f]?).all qG=(Tryz.prog.funcs[f]?).all λfn=>qG (aI.gY f fn):=by rw[yg];cases Tryz.prog.funcs[f]?<;>rfl
def aI.dry:E6 Vp=true:=by
 have h:E6 Vp=Pe Tryz.prog.types λf=>(Tryz.prog.funcs[f]?).all λfn=>qG (aI.gY f fn):=by rw[E6,aI.aaS];exact congrArg _ (funext aI.ac2)
 rw[h];exact aI.ac1
def aI.kin:BZ aI.X Vp Tryz.prog where
 sort:=λf=>by rw[yg];cases Tryz.prog.funcs[f]? with
  |none=>rfl
  |some fn=>simp only[dY,(aI.keep f fn).1,(aI.keep f fn).2]
 same:=λf hX args k=>by unfold Frame.enter;rw[yg];cases Tryz.prog.funcs[f]? with
  |none=>rfl
  |some fn=>simp only[dY,uP,(aaR hX fn).1,(aaR hX fn).2]
 dry:=Yv aI.dry;ok:=λf hX=>by
  constructor;.rw[yg];cases hf:Tryz.prog.funcs[f]? with
   |none=>rfl
   |some fn=>have:=NZ aI.afg hf;simp only[QN]at this;simp only[dY,QQ,(aaR hX fn).1];exact this.resolve_left hX
  .unfold xu;rw[adS];have:f≠2:=λh=>hX (by subst h;rfl);rw[adl,adm];simp[this]
def Ed:=@aI.kin
def aI.calls{G}:jJ G Vp Tryz.prog:=by intro Z R f args;cases a:Tryz.prog.funcs[f]? with
 |none=>refine iE ?_;rw[yg,a];exact aM rfl
 |some fn=>
   have c:Vp.funcs[f]?=some (aI.gY f fn):=by rw[yg,a];rfl
   have:=NZ aI.aaT a;simp at this;obtain rfl|h:=this
   .have b:fn=Tryz.f118:=by rw[Tryz.func118]at a;exact(jV a).symm
    have d:aI.gY 118 fn=fn:=by rw[b];kernel_rfl
    rw[d]at c;exact Yy c a (by rw[b];rfl) (by rw[b];rfl) (by rw[b];rfl) args
   .exact DF c a h args
def Hm:=@aI.calls
end
section
variable[iv:VB]
def aI.adX{G:Gs}:Fit G Vp Vp where tab:=rfl;rts:=rfl;ta:=(pF (G:=G)).ta;zero:=(pF (G:=G)).zero;desc:=(pF (G:=G)).desc;none:=(pF (G:=G)).none;fol:=(pF (G:=G)).fol;afN:=by have:Vp.globals.size=0:=(pF (G:=G)).none;omega
def aI.ac4:(Tryz.prog.funcs.toList.zipIdx.all λx=>(aI.gY x.2 x.1).body.all (eU Vp))=true:=by obtain⟨_|_⟩:=iv<;>kernel_rfl
def aI.VO:(Tryz.prog.funcs.toList.zipIdx.all λx=>x.2==118||DD (aI.gY x.2 x.1) (aI.gY x.2 x.1))=true:=by obtain⟨_|_⟩:=iv<;>kernel_rfl
def aI.X0(k:FuncId):Prop:=k=2
def aI.Tc:BZ aI.X0 Vp Vp where
 sort:=λf=>rfl;same:=λf hX args k=>rfl;dry:=Yv aI.dry;ok:=λf hX=>by
  constructor;.rw[yg];cases hf:Tryz.prog.funcs[f]? with
   |none=>rfl
   |some fn=>exact NZ aI.ac4 hf
  .unfold xu;rw[adS];have:f≠2:=hX;rw[adl,adm];simp[this]
def aI.Xm{G}:jJ G Vp Vp:=by intro Z R f args;cases a:Tryz.prog.funcs[f]? with
 |none=>refine iE ?_;rw[yg,a];exact aM rfl
 |some fn=>
   have b:Vp.funcs[f]?=some (aI.gY f fn):=by rw[yg,a];rfl
   have:=NZ aI.VO a;simp at this;obtain rfl|h:=this
   .have c:fn=Tryz.f118:=by rw[Tryz.func118]at a;exact(jV a).symm
    exact Yy b b (by rw[c];rfl) (by rw[c];rfl) (by rw[c];rfl) args
   .exact DF b b h args
def ado:=@aI.Xm
end
abbrev gH.vb:VB:=⟨false⟩
noncomputable abbrev gH.prog:Program:=@Vp gH.vb
abbrev gH.X(k:FuncId):Prop:=@aI.X gH.vb k
def gH.ref{f c}(h:@aI.code gH.vb f=some c):c=.refuse "not here" :=by
 unfold aI.code at h;repeat' split at h
 all_goals first|(cases h;rfl)|cases h
def gH.there:(List.range 400).all (λf=>(@aI.code gH.vb f).isNone||(Tryz.prog.funcs[f]?).isSome)=true:=K8
def gH.low(f:Nat){c}(a:@aI.code gH.vb f=some c):f<400:=by
 unfold aI.code at a;repeat' split at a
 all_goals first|(cases a;done)|(subst_vars;decide)|(rename_i h;simp at h;obtain rfl|rfl|rfl|rfl|rfl|rfl:=h<;>decide)
def gH.refused(f)(h:gH.X f):∃fn s,gH.prog.funcs[f]?=some fn/\fn.body=some (.refuse s):=by have⟨c,a⟩:=WA.1 h;have:=xE.1 gH.there f (y5.2 (gH.low f a));cases b:Tryz.prog.funcs[f]? with
 |none=>rw[a,b]at this;cases this
 |some fn=>refine⟨@aI.gY gH.vb f fn, "not here",by rw[@aI.at gH.vb,b];rfl,?_⟩;unfold aI.gY;rw[a,gH.ref a]
def ads:=@gH.refused
instance:VB:=⟨true⟩
def aI.or_eq(c):aI.or c=c:=rfl
def MW:=@aI.or_eq
end Go.Proofs
namespace Go.Proofs.aH
open Go.RowKit
structure jS where
 tx:ByteArray
 idx:Int
 key:ByteArray
structure fH where
 val:Int
 lock:ByteArray
def ach(w:World)(b o:Nat)(x:jS):Prop:=w.cell? ⟨b,o,none⟩=some (.string x.tx)/\w.cell? ⟨b,o+1,none⟩=some (.int .i64 x.idx)/\w.cell? ⟨b,o+2,none⟩=some (.string x.key)
def Sv(w:World)(b o:Nat)(x:fH):Prop:=w.cell? ⟨b,o,none⟩=some (.int .i64 x.val)/\w.cell? ⟨b,o+1,none⟩=some (.string x.lock)
structure wD(w:World)(v:Value)(l:List jS):Prop where
 form:∃a c,v=.slice a l.length c/\(l≠[]->∃b o,a=some ⟨b,o,none⟩/\∀i x,l[i]?=some x->ach w b (o+i*3) x)
 len:l.length<=140737488355328
structure qU(w:World)(v:Value)(l:List fH):Prop where
 form:∃a c,v=.slice a l.length c/\(l≠[]->∃b o,a=some ⟨b,o,none⟩/\∀i x,l[i]?=some x->Sv w b (o+i*2) x)
 len:l.length<=140737488355328
structure eT where
 tag:Int
 iv:Value
 ins:List jS
 ov:Value
 outs:List fH
structure aci(w:World)(b o:Nat)(t:eT):Prop where
 tag:w.cell? ⟨b,o,none⟩=some (.int .i64 t.tag)
 iv:w.cell? ⟨b,o+1,none⟩=some t.iv
 ov:w.cell? ⟨b,o+2,none⟩=some t.ov
 ins:wD w t.iv t.ins
 outs:qU w t.ov t.outs
structure x8(w:World)(v:Value)(l:List eT):Prop where
 form:∃a c,v=.slice a l.length c/\(l≠[]->∃b o,a=some ⟨b,o,none⟩/\∀i t,l[i]?=some t->aci w b (o+i*3) t)
 len:l.length<=140737488355328
def aW{w w'}(b:Below w.heap.size w w'){a v}(h:w.cell? a=some v):w'.cell? a=some v:=by rw[b.cell (World.block_lt_of_cell? w a h)];exact h
def ach.keep{w w' b o x}(h:ach w b o x)(a:Below w w w'):ach w' b o x:=⟨aW a h.1,aW a h.2.1,aW a h.2.2⟩
def Sv.keep{w w' b o x}(h:Sv w b o x)(a:Below w w w'):Sv w' b o x:=⟨aW a h.1,aW a h.2⟩
def wD.keep{w w' v l}(h:wD w v l)(e:Below w w w'):wD w' v l:=by have⟨⟨a,c,m,g⟩,j⟩:=h;refine⟨⟨a,c,m,λk=>?_⟩,j⟩;have⟨b,o,d,f⟩:=g k;exact⟨b,o,d,λi x n=>(f i x n).keep e⟩
def qU.keep{w w' v l}(h:qU w v l)(e:Below w w w'):qU w' v l:=by have⟨⟨a,c,m,g⟩,j⟩:=h;refine⟨⟨a,c,m,λk=>?_⟩,j⟩;have⟨b,o,d,f⟩:=g k;exact⟨b,o,d,λi x n=>(f i x n).keep e⟩
def aci.keep{w w' b o t}(h:aci w b o t)(a:Below w w w'):aci w' b o t:=⟨aW a h.tag,aW a h.iv,aW a h.ov,h.ins.keep a,h.outs.keep a⟩
def x8.keep{w w' v l}(h:x8 w v l)(e:Below w w w'):x8 w' v l:=by have⟨⟨a,c,m,g⟩,j⟩:=h;refine⟨⟨a,c,m,λk=>?_⟩,j⟩;have⟨b,o,d,f⟩:=g k;exact⟨b,o,d,λi x n=>(f i x n).keep e⟩
def wC{w wr:World}{cs t}(a:Below (w+1) (w.alloc (.cells cs t)) wr)(j v)(h:cs[j]?=some v):wr.cell? ⟨(w:Nat),j,none⟩=some v:=by
 rw[a.cell (p:=((w:Nat),j)) (nK _)];simp;simp[h]
def Bq{w wr o}(a:Below (↑w+1) (w.alloc o) wr):Below w.heap.size w wr:=(B0.alloc L9 _).trans (a.mono (zf _))
def CO{B w0 wr w' o}(a:Below B w0 wr)(c:B<=w0)(b:Below (wr.alloc o) (wr.alloc o) w'):Below B w0 w':=by have h:=a.size;exact(a.alloc O9 o).trans (b.mono (by simp;omega))
def pZ{B w0 wr w'}(a:Below B w0 wr)(c:B<=w0)(b:Below wr wr w'):Below B w0 w':=by have h:=a.size;exact a.trans (b.mono O9)
end Go.Proofs.aH
namespace Go.Proofs
open Go.Ren
section
variable[VB]
def aI.ac3(t:TypeId):Vp.info? t=Tryz.prog.info? t:=((pF (G:=Gs.self)).info t).symm
def adT:=@aI.ac3
def aI.MQ(t:TypeId):Vp.underlying t=Tryz.prog.underlying t:=((pF (G:=Gs.self)).under t).symm
def aaU:=@aI.MQ
def aI.aaV:Vp.depth=Tryz.prog.depth:=(pF (G:=Gs.self)).depth.symm
def aI.UB(t:TypeId)(w:World):Sem.run Vp (underlying t) w=Sem.run Tryz.prog (underlying t) w:=by have h:=aaU t;generalize Vp=V,Tryz.prog=P at h;show Sem.run V (match V.underlying t with|some i=>pure i|none=>stuck "no such type") w=Sem.run P (match P.underlying t with|some i=>pure i|none=>stuck "no such type") w;rw[h];cases P.underlying t<;>rfl
def aI.PM(t:TypeId)(w:World):Sem.run Vp (sizeOf t) w=Sem.run Tryz.prog (sizeOf t) w:=by have h:=adT t;generalize Vp=V,Tryz.prog=P at h;show Sem.run V ((match V.info? t with|some i=>(pure i:Sem TypeInfo)|none=>stuck "no such type")>>=fun i=>pure i.size) w=Sem.run P ((match P.info? t with|some i=>(pure i:Sem TypeInfo)|none=>stuck "no such type")>>=fun i=>pure i.size) w;rw[h];cases P.info? t<;>rfl
def aI.UC(t:TypeId)(w:World):Sem.run Vp (isAgg t) w=Sem.run Tryz.prog (isAgg t) w:=by have h:=aaU t;generalize Vp=V,Tryz.prog=P at h;unfold isAgg underlying;show Sem.run V ((match V.underlying t with|some i=>(pure i:Sem TypeDesc)|none=>stuck "no such type")>>=_) w=Sem.run P ((match P.underlying t with|some i=>(pure i:Sem TypeDesc)|none=>stuck "no such type")>>=_) w;rw[h];cases P.underlying t with
 |none=>rfl
 |some d=>cases d<;>rfl
def aI.MP(t:TypeId)(w:World):Sem.run Vp (zeroValue t) w=Sem.run Tryz.prog (zeroValue t) w:=by have h:=adT t;generalize Vp=V,Tryz.prog=P at h;unfold zeroValue typeInfo;show Sem.run V ((match V.info? t with|some i=>(pure i:Sem TypeInfo)|none=>stuck "no such type")>>=_) w=Sem.run P ((match P.info? t with|some i=>(pure i:Sem TypeInfo)|none=>stuck "no such type")>>=_) w;rw[h];cases P.info? t with
 |none=>rfl
 |some i=>show Sem.run V (match i.zero with|some v=>pure v|none=>_) w=Sem.run P (match i.zero with|some v=>pure v|none=>_) w;cases i.zero<;>rfl
def aI.Ze(t:TypeId):Vp.eqGuardType Vp.depth t=Tryz.prog.eqGuardType Tryz.prog.depth t:=by rw[aI.aaV];exact(vU (pF (G:=Gs.self)) _ t).symm
def aI.abV(t:TypeId):Vp.stoodInHeld t=Tryz.prog.stoodInHeld t:=(nX (pF (G:=Gs.self)) t).symm
def aI.na{k:FuncId}{f f':Func}(h:Tryz.prog.funcs[k]?=some f)(a:aI.gY k f=f'):Vp.funcs[k]?=some f':=by rw[yg,h,<-a];rfl
def adU:=@aI.na
def fA{k:FuncId}{f:Func}(h:Tryz.prog.funcs[k]?=some f)(a:aI.gY k f=f:=by kernel_rfl):Vp.funcs[k]?=some f:=adU h a
def aI.DF{k:FuncId}{f:Func}(h:Vp.funcs[k]?=some f)(a:(f.name != "runtime.NumGoroutine" &&f.body.isSome)=true)(args:Array Value)(w:World):Sem.run Vp (callFunc k args) w=.ok (.enter k args) w:=by
 generalize Vp=V at h;simp only[dJ,bne_iff_ne,xJ]at a;have b:(f.name== "runtime.NumGoroutine")=false:=by simpa using a.1
 have c:f.body.isNone=false:=by cases d:f.body<;>simp_all
 unfold callFunc;show Sem.run V (match V.funcs[k]? with|none=>_|some fn=>_) w=_;rw[h];simp only[b,c];rfl
def aI.aaW[iv:VB]:(Tryz.prog.funcs.toList.zipIdx.all fun x=>25703220515669806130104631258898176082284856316401580937052156>>>x.2%2 !=1||((aI.gY x.2 x.1).name != "runtime.NumGoroutine" &&(aI.gY x.2 x.1).body.isSome))=true:=by obtain⟨_|_⟩:=iv<;>kernel_rfl
def aI.Zf{k:FuncId}{args w}(h:25703220515669806130104631258898176082284856316401580937052156>>>k%2=1):Sem.run Vp (callFunc k args) w=.ok (.enter k args) w:=by
 have s:Tryz.prog.funcs.size=221:=by kernel_rfl
 by_cases g:k<221;.have b:=nN (xs:=Tryz.prog.funcs) (i:=k) (by rw[s];exact g);have c:=NZ aI.aaW b;exact aI.DF (adU b rfl) (by simpa[h]using c) args w
 .rw[Nat.shiftRight_eq_div_pow,Nat.div_eq_of_lt (dV (show _<2^221 by decide) (KF (by decide) (Nat.le_of_not_lt g)))]at h;cases h
def aI.pT{t:TypeId}{d:Option TypeDesc}(h:Tryz.prog.underlying t=d):Vp.underlying t=d:=(aaU t).trans h
end
end Go.Proofs
namespace Go.Proofs.aI
section
variable[VB]
@[simp] def sS:=PM
@[simp] def sU:=UB
@[simp] def sA:=UC
@[simp] def sZ:=MP
@[simp] def sE:=MQ
@[simp] def sG:=Ze
@[simp] def sH:=abV
@[simp] def sC{k args w}:=@Zf _ k args w
def underlying60:=pT Tryz.underlying60
def underlying100:=pT Tryz.underlying100
def underlying108:=pT Tryz.underlying108
def underlying268:=pT Tryz.underlying268
noncomputable def f124:Func:=gY 124 Tryz.f124
@[simp] theorem func124:Vp.funcs[124]?=some f124:=na Tryz.func124 rfl
def underlying5:=pT Tryz.underlying5
def underlying9:=pT Tryz.underlying9
def underlying41:=pT Tryz.underlying41
def underlying121:=pT Tryz.underlying121
def underlying137:=pT Tryz.underlying137
noncomputable def f25:Func:=gY 25 Tryz.f25
@[simp] theorem func25:Vp.funcs[25]?=some f25:=na Tryz.func25 rfl
def PN:f25.ntmps=Tryz.f25.ntmps:=by kernel_rfl
@[simp] def ntmps25:=PN.trans Tryz.ntmps25
def underlying30:=pT Tryz.underlying30
def underlying34:=pT Tryz.underlying34
def underlying58:=pT Tryz.underlying58
def underlying70:=pT Tryz.underlying70
def underlying74:=pT Tryz.underlying74
def underlying98:=pT Tryz.underlying98
def underlying114:=pT Tryz.underlying114
noncomputable def f2:Func:=gY 2 Tryz.f2
@[simp] theorem func2:Vp.funcs[2]?=some f2:=na Tryz.func2 rfl
noncomputable def f26:Func:=gY 26 Tryz.f26
@[simp] theorem func26:Vp.funcs[26]?=some f26:=na Tryz.func26 rfl
def PO:f26.ntmps=Tryz.f26.ntmps:=by kernel_rfl
@[simp] def ntmps26:=PO.trans Tryz.ntmps26
noncomputable def f30:Func:=gY 30 Tryz.f30
@[simp] theorem func30:Vp.funcs[30]?=some f30:=na Tryz.func30 rfl
def PR:f30.ntmps=Tryz.f30.ntmps:=by kernel_rfl
@[simp] def ntmps30:=PR.trans Tryz.ntmps30
noncomputable def f90:Func:=gY 90 Tryz.f90
@[simp] theorem func90:Vp.funcs[90]?=some f90:=na Tryz.func90 rfl
noncomputable def f162:Func:=gY 162 Tryz.f162
@[simp] theorem func162:Vp.funcs[162]?=some f162:=na Tryz.func162 rfl
noncomputable def f166:Func:=gY 166 Tryz.f166
@[simp] theorem func166:Vp.funcs[166]?=some f166:=na Tryz.func166 rfl
def underlying3:=pT Tryz.underlying3
def underlying35:=pT Tryz.underlying35
def underlying71:=pT Tryz.underlying71
def underlying79:=pT Tryz.underlying79
def underlying99:=pT Tryz.underlying99
def underlying103:=pT Tryz.underlying103
def underlying127:=pT Tryz.underlying127
def underlying171:=pT Tryz.underlying171
def underlying247:=pT Tryz.underlying247
noncomputable def f31:Func:=gY 31 Tryz.f31
@[simp] theorem func31:Vp.funcs[31]?=some f31:=na Tryz.func31 rfl
def PT:f31.ntmps=Tryz.f31.ntmps:=by kernel_rfl
@[simp] def ntmps31:=PT.trans Tryz.ntmps31
noncomputable def f91:Func:=gY 91 Tryz.f91
@[simp] theorem func91:Vp.funcs[91]?=some f91:=na Tryz.func91 rfl
noncomputable def f155:Func:=gY 155 Tryz.f155
@[simp] theorem func155:Vp.funcs[155]?=some f155:=na Tryz.func155 rfl
def MR:f155.ntmps=Tryz.f155.ntmps:=by kernel_rfl
@[simp] def ntmps155:=MR.trans Tryz.ntmps155
end
end Go.Proofs.aI
namespace Go.Proofs.aH
open Go.RowKit Tryz
section
variable[Go.Proofs.VB]
def p5(n low high:Int):Bool:=decide (low<=n)&&decide (n<=high)
def gM(n low high w):Cv 103 #[.int .i64 n,.int .i64 low,.int .i64 high] w λe w'=>e=.returned (.bool (p5 n low high))/\w'=w:=by
 by_cases h:low<=n;.go_enter fA func103,ntmps103;go_wp2;go_ret;simp[p5,h]
 .have a:decide (low<=n)=false:=by simpa using h
  go_enter fA func103,ntmps103;go_wp2;go_ret;simp[p5,a]
def UA(b:Bool):Int:=if b then 0 else 1
def N3(b:Bool):Int:=if b then 0 else 8
def mW(b w):Cv 132 #[.bool b] w λe w'=>e=.returned (.tuple #[(UA b),(N3 b)])/\w'=w:=by
 cases b;all_goals go_enter fA func132,ntmps132;go_wp2;go_ret2;simp[UA,N3]
def qd(tx:ByteArray)(idx:Int)(key:ByteArray):Bool:=(((tx.size:Int)==8)&&p5 idx 0 255)&&decide ((key.size:Int)<=32)
def PU(tx idx key w):Cv 133 #[.agg #[.string tx,.int .i64 idx,.string key]] w λe w'=>e=.returned (.bool (qd tx idx key))/\Below w w w':=by
 go_enter fA func133,ntmps133;go_wp2_with (go_at_call 103;refine(gM _ _ _ _).mono ?_;rintro e w' ⟨rfl,rfl⟩);all_goals go_ret;exact⟨by simp[qd, *],B0.alloc L9 _⟩
def mU(v:Int)(lock:ByteArray):Bool:=p5 v 0 4294967295&&decide ((lock.size:Int)<=32)
def MT(v lock w):Cv 134 #[.agg #[.int .i64 v,.string lock]] w λe w'=>e=.returned (.bool (mU v lock))/\Below w w w':=by
 go_enter fA func134,ntmps134;go_wp2_with (go_at_call 103;refine(gM _ _ _ _).mono ?_;rintro e w' ⟨rfl,rfl⟩);all_goals go_ret;exact⟨by simp[mU, *],B0.alloc L9 _⟩
def jS.fits(x:jS):Bool:=qd x.tx x.idx x.key
def fH.fits(x:fH):Bool:=mU x.val x.lock
def gV(tag:Int)(ins:List jS)(outs:List fH)(first:Bool):Bool:=p5 tag 0 65535&&p5 ins.length (UA first) (N3 first)&&p5 outs.length 1 8&&ins.all jS.fits&&outs.all fH.fits
def eT.fits(t:eT)(first:Bool):Bool:=gV t.tag t.ins t.outs first
def sJ{α:Type}(p:α->Bool)(l:List α)(k x)(h:l[k]?=some x):(l.take (k+1)).all p=((l.take k).all p&&p x):=by rw[D8,h];simp
def all_false{α:Type}(p:α->Bool)(l:List α)(k:Nat)(x)(h:l[k]?=some x)(a:p x=false):l.all p=false:=by grind
def MS(tag n p ins q oc outs first w)(hi:wD w (.slice n ins.length p) ins)(u:qU w (.slice q outs.length oc) outs):
 Cv 104 #[.agg #[.int .i64 tag,.slice n ins.length p,.slice q outs.length oc],.bool first] w λe w'=>e=.returned (.bool (gV tag ins outs first))/\Below w w w':=by
 have A:=hi.len;have B:=u.len;cases r:p5 tag 0 65535;.go_enter fA func104,ntmps104;go_wp2_with (first|(go_at_call 132;refine(mW _ _).mono ?_;rintro e w' ⟨rfl,rfl⟩)|(go_at_call 103;refine(gM _ _ _ _).mono ?_;rintro e w' ⟨rfl,rfl⟩));go_ret;exact⟨by simp[gV,r],B0.alloc L9 _⟩
 cases s:p5 ins.length (UA first) (N3 first);.go_enter fA func104,ntmps104;go_wp2_with (first|(go_at_call 132;refine(mW _ _).mono ?_;rintro e w' ⟨rfl,rfl⟩)|(go_at_call 103;refine(gM _ _ _ _).mono ?_;rintro e w' ⟨rfl,rfl⟩));go_ret;exact⟨by simp[gV,s],B0.alloc L9 _⟩
 cases t:p5 outs.length 1 8;.go_enter fA func104,ntmps104;go_wp2_with (first|(go_at_call 132;refine(mW _ _).mono ?_;rintro e w' ⟨rfl,rfl⟩)|(go_at_call 103;refine(gM _ _ _ _).mono ?_;rintro e w' ⟨rfl,rfl⟩));go_ret;exact⟨by simp[gV,t],B0.alloc L9 _⟩
 go_enter fA func104,ntmps104;go_wp2_with (first|(go_at_call 132;refine(mW _ _).mono ?_;rintro e w' ⟨rfl,rfl⟩)|(go_at_call 103;refine(gM _ _ _ _).mono ?_;rintro e w' ⟨rfl,rfl⟩));have H:Hid (gV tag ins outs first=(ins.all jS.fits&&outs.all fH.fits)):=by unfold Hid;simp[gV,r,s,t]
 go_loopw [39] (λi wr=>∃k,k<=ins.length/\i=k/\(ins.take k).all jS.fits=true/\Below ((w:Nat)+1) (w.alloc (.cells #[tag,.slice n ins.length p,.slice q outs.length oc] 73)) wr) (λi _=>ins.length -(intOf i).toNat);exact⟨0,fJ _,rfl,S8,B0⟩;case round=>
  obtain⟨k,y,rfl,d,a⟩:=hrel;by_cases c:k<ins.length
  .have⟨⟨a',v,m,j⟩,_⟩:=hi.keep (Bq a);cases m;obtain⟨b,o,rfl,l⟩:=j (by intro h;simp[h]at c);have⟨c1,c2,c3⟩:=l k _ (bS c);go_wp2_with (go_at_call 133;refine(PU _ _ _ _).mono ?_;rintro e w' ⟨rfl,g⟩)
   .have f:qd ins[k].tx ins[k].idx ins[k].key=false:=by simpa using‹(!qd ins[k].tx ins[k].idx ins[k].key)=true›
    go_ret;refine⟨?_,Bq (CO a S8 g)⟩;rw[H.out,all_false jS.fits ins k _ (bS c) f];rfl
   .have f:qd ins[k].tx ins[k].idx ins[k].key=true:=by simpa using‹(!qd ins[k].tx ins[k].idx ins[k].key)=false›
    go_roundw;exact⟨k+1,O9,by go_num,by rw[sJ _ _ k _ (bS c),d];simp[jS.fits,f],CO a S8 g⟩;simp[intOf];omega
  .have z:=wC a 2 _ rfl;have x:Hid (ins.all jS.fits=true):=by unfold Hid;rw[List.take_of_length_le O9]at d;exact d
   go_wp2;go_loopw [50] (λi wr=>∃k,k<=outs.length/\i=k/\(outs.take k).all fH.fits=true/\Below w w wr) (λi _=>outs.length -(intOf i).toNat);exact⟨0,fJ _,rfl,S8,Bq a⟩;case round=>
    clear a;obtain⟨k,y,rfl,d,a⟩:=hrel;by_cases c:k<outs.length
    .have⟨⟨a',v,m,j⟩,_⟩:=u.keep a;cases m;obtain⟨b,o,rfl,l⟩:=j (by intro h;simp[h]at c);have⟨c1,c2⟩:=l k _ (bS c);go_wp2_with (go_at_call 134;refine(MT _ _ _).mono ?_;rintro e w' ⟨rfl,g⟩)
     .have f:mU outs[k].val outs[k].lock=false:=by simpa using‹(!mU outs[k].val outs[k].lock)=true›
      go_ret;refine⟨?_,CO a L9 g⟩;rw[H.out,all_false fH.fits outs k _ (bS c) f,Kq];rfl
     .have f:mU outs[k].val outs[k].lock=true:=by simpa using‹(!mU outs[k].val outs[k].lock)=false›
      go_roundw;exact⟨k+1,O9,by go_num,by rw[sJ _ _ k _ (bS c),d];simp[fH.fits,f],CO a L9 g⟩;simp[intOf];omega
    .go_wp2;go_ret;refine⟨?_,a⟩;rw[QW O9]at d;rw[H.out,x.out,d];rfl
def dH(parent:ByteArray)(bits bU:Int)(cO:List eT):Bool:=((parent.size:Int)==8)&&p5 bits 0 8&&p5 bU 0 65535&&p5 cO.length 1 8&&cO.zipIdx.all (λp=>p.1.fits ((p.2:Int)==0))
def wA(parent bits bU ta r cO w)(x:x8 w (.slice ta cO.length r) cO):
 Cv 77 #[.agg #[.string parent,.int .i64 bits,.int .i64 bU,.slice ta cO.length r]] w λe w'=>e=.returned (.bool (dH parent bits bU cO))/\Below w w w':=by
 cases h0:((parent.size:Int)==8)
 .have A:¬(parent.size:Int)=8:=by simpa using h0
  go_enter fA func77,ntmps77;go_wp2_with (first|(go_at_call 103;refine(gM _ _ _ _).mono ?_;rintro e w' ⟨rfl,rfl⟩));go_ret;exact⟨by simp[dH,h0],B0.alloc L9 _⟩
 have B:((parent.size:Int) !=8)=false:=by simp[bne,h0]
 cases j:p5 bits 0 8;.go_enter fA func77,ntmps77;go_wp2_with (first|(go_at_call 103;refine(gM _ _ _ _).mono ?_;rintro e w' ⟨rfl,rfl⟩));go_ret;exact⟨by simp[dH,j],B0.alloc L9 _⟩
 cases l:p5 bU 0 65535;.go_enter fA func77,ntmps77;go_wp2_with (first|(go_at_call 103;refine(gM _ _ _ _).mono ?_;rintro e w' ⟨rfl,rfl⟩));go_ret;exact⟨by simp[dH,l],B0.alloc L9 _⟩
 cases m:p5 cO.length 1 8;.go_enter fA func77,ntmps77;go_wp2_with (first|(go_at_call 103;refine(gM _ _ _ _).mono ?_;rintro e w' ⟨rfl,rfl⟩));go_ret;exact⟨by simp[dH,m],B0.alloc L9 _⟩
 go_enter fA func77,ntmps77;go_wp2_with (first|(go_at_call 103;refine(gM _ _ _ _).mono ?_;rintro e w' ⟨rfl,rfl⟩));have H:Hid (dH parent bits bU cO=cO.zipIdx.all (λp=>p.1.fits ((p.2:Int)==0))):=by unfold Hid;simp[dH,h0,j,l,m]
 go_loopw [29] (λi wr=>∃k:Nat,k<=cO.length/\i=↑k/\(cO.zipIdx.take k).all (λp=>p.1.fits ((p.2:Int)==0))=true/\Below w w wr) (λi _=>cO.length -(intOf i).toNat);exact⟨0,fJ _,rfl,S8,B0.alloc L9 _⟩;case round=>
  obtain⟨k,C,rfl,c,a⟩:=hrel;by_cases f:k<cO.length
  .have⟨⟨a',z,y,s⟩,_⟩:=x.keep a;cases y;obtain⟨b,o,rfl,t⟩:=s (by intro h;simp[h]at f);have⟨c1,c2,c3,hi,g⟩:=t k _ (bS f);have q:Hid (cO.zipIdx[k]?=some (cO[k],k)):=by unfold Hid;simp[f]
   have⟨D,E,u,_⟩:=hi.form;have⟨F,oc,v,_⟩:=g.form;rw[u]at c2 hi;rw[v]at c3 g;go_wp2_with (go_at_call 104;refine(MS _ _ _ _ _ _ _ _ _ (hi.keep (by exact B0.alloc L9 _)) (g.keep (by exact B0.alloc L9 _))).mono ?_;rintro e w' ⟨rfl,n⟩)
   .have d:gV cO[k].tag cO[k].ins cO[k].outs ((k:Int)==0)=false:=by simpa using‹(!gV cO[k].tag cO[k].ins cO[k].outs ((k:Int)==0))=true›
    go_ret;refine⟨?_,CO a L9 n⟩;rw[H.out,all_false _ cO.zipIdx k _ q.out d];rfl
   .have d:gV cO[k].tag cO[k].ins cO[k].outs ((k:Int)==0)=true:=by simpa using‹(!gV cO[k].tag cO[k].ins cO[k].outs ((k:Int)==0))=false›
    go_roundw;exact⟨k+1,O9,by go_num,by rw[sJ _ _ k _ q.out,c,eT.fits,d];rfl,CO a L9 n⟩;simp[intOf];omega
  .go_wp2;go_ret;refine⟨?_,a⟩;rw[QW (by simp;omega)]at c;rw[H.out,c];rfl
def aL{p}(h:p):Hid p:=h
def byteOf(x:Int):UInt8:=UInt8.ofNat x.toNat
def dX(x)(h0:0<=x)(a:x<256):((byteOf x).toNat:Int)=x:=by unfold byteOf;rw[UInt8.toNat_ofNat'];omega
def be(n:Int):Nat->List UInt8
 |0=>[]
 |k+1=>byteOf (n/2^(8*k)%256)::be n k
def bT(n k):(be n k).length=k:=by induction k with
 |zero=>rfl
 |succ k a=>simp[be,a]
def bv(l:List UInt8):List Value:=l.map λb=>Value.int .u8 b.toNat
def Ia(a b):bv (a++b)=bv a++bv b:=by simp[bv]
def qm(a):(bv a).length=a.length:=by simp[bv]
def Fw(l):∀u∈bv l,u.oneCell'=true:=by intro u a;simp[bv]at a;obtain⟨b,_,rfl⟩:=a;rfl
def mR(B:Nat)(w:World)(v:Value)(l:List UInt8):Prop:=w.ownsRow B 5 1 v l.length (bv l)
structure yU(w w':World)(v v':Value):Prop where
 grown:w.grownBy w' v.ownBlock
 aez:v'.ownBlock=v.ownBlock\/∃g,v'.ownBlock=some g/\w.heap.size<=g
def aZ(w:World)(r):w.grownBy w r:=⟨rfl,rfl,rfl,L9,λ_ _ _=>rfl⟩
def yU.refl(w v):yU w w v v:=⟨aZ _ _,.inl rfl⟩
def yU.trans{a b c u v x}(h:yU a b u v)(k:yU b c v x):yU a c u x:=by
 refine⟨⟨k.grown.os.trans h.grown.os,k.grown.tape.trans h.grown.tape,k.grown.output.trans h.grown.output,bI h.grown.size k.grown.size,λi hi m=>?_⟩,?_⟩
 .have j:=h.grown.block i hi m;have l:=k.grown.block i (dV hi h.grown.size) (by
   obtain e|⟨g,e,d⟩:=h.aez;.simp_all
   .rw[e];intro f;cases f;omega)
  exact l.trans j
 .obtain e|⟨g,e,d⟩:=k.aez;.rw[e];exact h.aez
  .exact .inr ⟨g,e,bI h.grown.size d⟩
def yU.YQ{w w'}(v)(a:Below w.heap.size w w'):yU w w' v v:=⟨⟨a.os,a.tape,a.output,a.size,λk b _=>a.block k b⟩,.inl rfl⟩
def yU.alloc(w v o):yU w (w.alloc o) v v:=.YQ v (B0.alloc L9 o)
def Ib:=@yU.alloc
def yU.below{w w' v}(h:yU w w' () v):Below w w w':=⟨h.grown.os,h.grown.tape,h.grown.output,h.grown.size,λk a=>h.grown.block k a (by simp[Value.ownBlock])⟩
def mR.nil(B w):mR B w () []:=nB _ _ _ _
def mR.alloc{B w v l}(h:mR B w v l)(o):mR B (w.alloc o) v l:=pC h o
def mR.lt{B w v l}(h:mR B w v l):∀k,v.ownBlock=some k->B<=k/\k<w:=kY h
def yU.cell{w w' v d}(h:yU w w' v d){a u}(b:w.cell? a=some u)(c:some a.block≠v.ownBlock):w'.cell? a=some u:=h.grown.cell b c
def yU.box{B w wr v b l cs t}(h:yU (w.alloc (.cells cs t)) wr v b)(a:mR B w v l)(j)(u)(c:cs[j]?=some u):wr.cell? ⟨(w:Nat),j,none⟩=some u:=by
 refine h.cell ?_ ?_;.simp_all
 .intro e;have:=(a.lt _ e.symm).2;simp at this
def yU.base{B w0 w w' v e l}(h:yU w w' v e)(d:mR B w v l)(a:B<=w)(b:Below B w0 w):Below B w0 w':=b.grown h.grown a λk c=>(d.lt k c).1
def aI.aeA:(Vp.info? 5).map (λi=>(i.zero,i.size,i.bytes))=some (some (.int .u8 0),1,1):=K8
def H6:=@aI.aeA
def Jy{B w ops rest o a Q}(p:o.guard=none)(s x)(q:o.op=.call {callee:=.builtin .append,args:=#[s,x],argTypes:=#[127,127]})(v)(l)(t:a.eval s=v)(r:mR B w v l)
 (b)(g)(y:a.eval x=.slice g 1 1)(n:w.cell? ⟨g,0,none⟩=some (.int .u8 b.toNat))(hlen:l.length<=1000000)(m:B<=w)
 (h:∀c w',mR B w' c (l++[b])->yU w w' v c->wpList Vp ops Q rest (a.put o.dst c) w'):wpList Vp ops Q (o::rest) a w:=by
 have⟨D,hi,z,A,C⟩:=info_parts H6;refine wpList_append_own_at _ p s x 127 q B 5 D (.int .u8 0) 1 1 aI.underlying127 hi z A C rfl D9 v l.length (bv l) t r (g,0) 1 1 (bv [b]) y rfl ?_ (Fw _) (by unfold maxLen;omega) O9 m ?_;.intro j u d;match j,d with
  |0,d=>simp[bv]at d;subst d;simpa[Addr.add]using n
 .intro c w' f i _ k;refine h c w' ?_ ⟨i,k.imp id λe=>⟨_,e,L9⟩⟩;unfold mR;rw[Ia,bY];exact f
def Pr{B w w' v c l ty}(e:mR B w v l)(t)(hlen:l.length<=1000000)(n:t.size<=1000000)(a:(Builtin.append_ #[127,9] ty #[v,.string t]).run Vp w=.ok c w')(p:c=()↔v=()/\t.size=0):
 c.ownBlock=v.ownBlock\/∃g,c.ownBlock=some g/\w<=g:=by
 have⟨d,hi,f,h,i⟩:=info_parts H6;obtain⟨rfl,_⟩|⟨g,cap,cur,rfl,_,j,o,_,m,q⟩:=e.2
 .by_cases h0:t.size=0;.simp_all
  .have b:=Go.run_append_nil_string (P:=Vp) w 127 9 ty 5 d (.int .u8 0) aI.underlying127 aI.underlying9 hi f t O9 O9 (by rw[i];omega);rw[b]at a;cases a;exact .inr ⟨_,rfl,L9⟩
 .by_cases k:l.length+t.size<=cap;.have b:=Go.Lib.run_append_room_string (P:=Vp) w 127 9 ty 5 d aI.underlying127 aI.underlying9 hi h g l.length cap cur j t k O9;rw[b]at a;cases a;exact .inl rfl
  .have b:=Go.Lib.run_append_grow_string (P:=Vp) w 127 9 ty 5 d (.int .u8 0) aI.underlying127 aI.underlying9 hi f (g,0) l.length cap (bv l) (by rw[h,qm,Nat.mul_one]) (uU e (g:=g) rfl) t O9 O9 (by rw[i];exact growslice_fits O9 O9);rw[b]at a;cases a;exact .inr ⟨_,rfl,L9⟩
def uy{B w ops rest o a Q}(n:o.guard=none)(s x)(q:o.op=.call {callee:=.builtin .append,args:=#[s,x],argTypes:=#[127,9]})(v)(l)(r:a.eval s=v)(c:mR B w v l)
 (t)(u:a.eval x=.string t)(hlen:l.length<=1000000)(p:t.size<=1000000)(k:B<=w)
 (h:∀b w',mR B w' b (l++t.data.toList)->yU w w' v b->wpList Vp ops Q rest (a.put o.dst b) w'):wpList Vp ops Q (o::rest) a w:=by
 have⟨C,hi,y,z,A⟩:=info_parts H6;refine wpList_plain n λK m=>?_;have⟨b,w',d,f,g,i⟩:=Go.Lib.run_append_own_string (P:=Vp) w B 127 9 o.type 5 C aI.underlying127 aI.underlying9 hi y z A v l.length (bv l) c t (by unfold maxLen;omega) O9 k;have j:=Pr c t hlen p d i;unfold Oper.wp execOp;simp[q,resolve,invoke,builtin,r,u,d];refine m _ _ (h b w' ?_ ⟨g,j⟩);have e:(l++t.data.toList).length=l.length+t.size:=by rw[bY,afk];rfl
 unfold mR;rw[Ia,e];exact f
def Qy(n k):((byteOf (n/2^(8*k)%256)).toNat:Int)=n/2^(8*k)%256:=dX _ O9 O9
def eO(B v l n)(width:Nat)(w)(_hn:0<=n)(x:width<=4)(u:l.length<=900000)(r:B<=↑w)(q:mR B w v l):Cv 105 #[v,.int .i64 n,width] w λe w'=>∃b,e=.returned b/\mR B w' b (l++be n width)/\yU w w' v b:=by
 go_enter fA func105,ntmps105;go_wp2;go_loopw [0,7] (λb i wr=>∃(k:Nat) (a:List UInt8),k<=width/\i=↑((k:Int) -1)/\a++be n k=be n width/\mR B wr b (l++a)/\yU w wr v b) (λ_ i _=>(1+intOf i).toNat);exact⟨width,[],L9,by go_num,rfl,by simpa using q,yU.refl _ _⟩;case round=>
  obtain⟨k,a,f,rfl,g,h,d⟩:=hrel;have c:Hid (a++be n k=be n width):=g;have s:a.length<=4:=by have:=congrArg List.length g;simp[bT]at this;omega
  have t:=d.grown.size;match k,f,c with
  |0,f,c=>go_wp2;go_ret;refine⟨_,rfl,?_,d⟩;have:=c.out;simp only[be,oL]at this;rw[<-this];exact h
  |k+1,f,c=>
    have o:(wr.alloc (.cells #[.int .u8 (n/2^(8*k)%256)] 5)).cell? ((wr:Nat),0)=some (.int .u8 ((byteOf (n/2^(8*k)%256)).toNat:Int)):=by rw[Qy];simp only[World.cell?,uV];simp
    have m:=aL o;go_wp2_with (at_builtin;refine Jy rfl (.tmp 14) (.tmp 20) rfl u0 (l++a) rfl (h.alloc _) (byteOf (n/2^(8*k)%256)) _ rfl (by exact m.out) (by simp;omega) (by simp;omega) ?_;intro v2 w2 p j);go_roundw;exact⟨k,a++[byteOf (n/2^(8*k)%256)],O9,rfl,by have:=c.out;simp only[be]at this;rw[iG];exact this,by rw[<-iG];exact p,d.trans ((Ib wr u0 _).trans j)⟩;simp[intOf];omega
def fP(s:ByteArray):List UInt8:=s.data.toList
def gF(s):(fP s).length=s.size:=by unfold fP;rw[Array.length_toList];rfl
def wN(B v l s w)(k:s.size<=1000)(j:l.length<=800000)(c:B<=↑w)(h:mR B w v l):Cv 135 #[v,.string s] w λe w'=>∃a,e=.returned a/\mR B w' a (l++(be s.size 1++fP s))/\yU w w' v a:=by
 go_enter fA func135,ntmps135;go_wp2;refine(eO B v l s.size 1 _ O9 O9 O9 c h).mono ?_;rintro e w1 ⟨v1,rfl,f,b⟩;have i:=b.grown.size;go_wp2_with (at_builtin;refine uy rfl (.tmp 9) (.tmp 10) rfl v1 _ rfl f s rfl (by simp[bT];omega) O9 O9 ?_;intro v2 w2 g d);go_ret;exact⟨_,rfl,by rw[<-iG];exact g,b.trans d⟩
def jS.bytes(x:jS):List UInt8:=fP x.tx++be x.idx 1++(be x.key.size 1++fP x.key)
def fH.bytes(x:fH):List UInt8:=be x.val 4++(be x.lock.size 1++fP x.lock)
def mV(tag:Int)(ins:List jS)(outs:List fH):List UInt8:=be tag 2++be ins.length 1++ins.flatMap jS.bytes++be outs.length 1++outs.flatMap fH.bytes
def jS.Small(x:jS):Prop:=x.tx.size<=8/\0<=x.idx/\x.key.size<=32/\x.idx<=255
def fH.Small(x:fH):Prop:=0<=x.val/\x.lock.size<=32/\x.val<=4294967295
def jS.mD(x:jS)(h:x.Small):x.bytes.length<=42:=by have⟨a,_,b,_⟩:=h;simp[jS.bytes,bT,gF];omega
def fH.mD(x:fH)(h:x.Small):x.bytes.length<=37:=by have⟨_,a,_⟩:=h;simp[fH.bytes,bT,gF];omega
def tF{α:Type}(f:α->List UInt8)(m)(l:List α)(h:∀x∈l,(f x).length<=m):(l.flatMap f).length<=l.length*m:=by induction l with
 |nil=>simp
 |cons x l b=>have c:=h x S8;have d:=b λy a=>h y (by simp[a]);simp only[BS,bY,fL,Nat.add_mul];omega
def qT{α:Type}(f:α->List UInt8)(l:List α)(k x)(h:l[k]?=some x):(l.take (k+1)).flatMap f=(l.take k).flatMap f++f x:=by rw[D8,h];simp
def sI{α:Type}(f:α->List UInt8)(m)(l:List α)(k)(h:∀x∈l,(f x).length<=m):((l.take k).flatMap f).length<=l.length*m:=by have:=tF f m (l.take k) λx b=>h x (WH b);have a:(l.take k).length<=l.length:=List.length_take_le' _ _;exact bI this (Wq m a)
def x9(w0 v l tag m n ins p oc outs w)(hi:wD w0 (.slice m ins.length n) ins)(μ:qU w0 (.slice p outs.length oc) outs)(z:Below w0 w0 w)(j:mR w0 w v l)
 (ar:0<=tag)(aj:ins.length<=8)(ao:outs.length<=8)(M:∀x∈ins,x.Small)(N:∀x∈outs,x.Small)(ak:l.length<=100000):
 Cv 106 #[v,.agg #[.int .i64 tag,.slice m ins.length n,.slice p outs.length oc]] w λe w'=>∃f,e=.returned f/\mR w0 w' f (l++mV tag ins outs)/\yU w w' v f:=by
 have J:=z.size;go_enter fA Tryz.func106,Tryz.ntmps106;go_wp2;refine(eO w0 v l tag 2 _ O9 O9 O9 (by simp;omega) (j.alloc _)).mono ?_;rintro e w1 ⟨v1,rfl,D,q⟩;have ag:(w:Nat)+1<=(w1:Nat):=by simpa using q.grown.size
 have ab:=q.box j 1 _ rfl;go_wp2;refine(eO w0 v1 _ ins.length 1 _ O9 O9 (by simp[bT];omega) O9 D).mono ?_;rintro e w2 ⟨v2,rfl,V,Q⟩;have t:=q.trans Q;have ah:(w:Nat)+1<=(w2:Nat):=by simpa using t.grown.size
 have ab:=t.box j 1 _ rfl;go_wp2;go_loopw [0,21] (λf i wr=>∃k,k<=ins.length/\i=k/\mR w0 wr f (l++(be tag 2++be ins.length 1++(ins.take k).flatMap jS.bytes))/\yU (w.alloc (.cells #[tag,.slice m ins.length n,.slice p outs.length oc] 73)) wr v f) (λ_ i _=>ins.length -(intOf i).toNat);exact⟨0,fJ _,rfl,by simpa using V,t⟩;case round=>
  obtain⟨k,T,rfl,a,c⟩:=hrel;have g:Below w0 w0 (w.alloc (.cells #[tag,.slice m ins.length n,.slice p outs.length oc] 73)):=z.alloc J _;have g:=c.base (j.alloc _) (by simp;omega) g;have S:(w:Nat)+1<=(wr:Nat):=by simpa using c.grown.size
  have L:=sI jS.bytes 42 ins k λx H=>x.mD (M x H);by_cases d:k<ins.length
  .have⟨⟨a',P,G,A⟩,_⟩:=hi.keep g;cases G;obtain⟨b,o,rfl,B⟩:=A (by intro h;simp[h]at d);have⟨c1,c2,c3⟩:=B k _ (bS d);have⟨X,Y,au,_⟩:=M _ (s5 d);go_wp2_with (at_builtin;go_must (refine uy rfl (.tmp 25) (.tmp 28) rfl u0 _ rfl (a.alloc _) ins[k].tx rfl (by simp only[bY,bT];omega) O9 (by simp;omega) ?_);intro v3 w3 W s;have y1:=s.box a 1 _ rfl;have O:=s.box a 2 _ rfl);have ai:(wr:Nat)+1<=(w3:Nat):=by simpa using s.grown.size
   refine(eO w0 v3 _ ins[k].idx 1 _ O9 O9 (by simp only[bY,bT,<-fP.eq_1,gF];omega) O9 W).mono ?_;rintro e w4 ⟨I,rfl,E,r⟩;have u:=s.trans r;have R:(wr:Nat)+1<=(w4:Nat):=by simpa using u.grown.size
   have O:=u.box a 2 _ rfl;go_wp2;refine(wN w0 I _ ins[k].key _ O9 (by simp only[bY,bT,<-fP.eq_1,gF];omega) O9 E).mono ?_;rintro e aa ⟨π,rfl,F,y⟩;go_wp2;go_roundw;case rel=>refine⟨k+1,O9,by go_num,?_,c.trans ((Ib wr u0 _).trans (u.trans y))⟩;rw[qT _ _ k _ (bS d)];simpa only[jS.bytes,fP,iG]using F
   case measure=>simp[intOf];omega
  .have C:k=ins.length:=O9;subst C;rw[jI]at a;have ae:=c.box j 2 _ rfl;go_wp2;refine(eO w0 u0 _ outs.length 1 _ O9 O9 (by simp only[bY,bT];rw[jI]at L;omega) O9 a).mono ?_;rintro e w1 ⟨v1,rfl,D,q⟩;have K:=c.trans q;have ae:=K.box j 2 _ rfl;go_wp2;go_loopw [0,48] (λf i wr=>∃k,k<=outs.length/\i=k/\mR w0 wr f (l++(be tag 2++be ins.length 1++ins.flatMap jS.bytes)++be outs.length 1++(outs.take k).flatMap fH.bytes)/\yU (w.alloc (.cells #[tag,.slice m ins.length n,.slice p outs.length oc] 73)) wr v f) (λ_ i _=>outs.length -(intOf i).toNat);exact⟨0,fJ _,rfl,by simpa using D,K⟩;case round=>
    obtain⟨k,T,rfl,a,c⟩:=hrel;have g:Below w0 w0 (w.alloc (.cells #[tag,.slice m ins.length n,.slice p outs.length oc] 73)):=z.alloc J _;have g:=c.base (j.alloc _) (by simp;omega) g;have S:(w:Nat)+1<=(wr:Nat):=by simpa using c.grown.size
    rw[jI]at L;have af:=sI fH.bytes 37 outs k λx H=>x.mD (N x H);by_cases d:k<outs.length
    .have⟨⟨a',P,G,A⟩,_⟩:=μ.keep g;cases G;obtain⟨b,o,rfl,B⟩:=A (by intro h;simp[h]at d);have⟨c1,c2⟩:=B k _ (bS d);have⟨X,Y,_⟩:=N _ (s5 d);go_wp2;refine(eO w0 u0 _ outs[k].val 4 _ O9 O9 (by simp only[bY,bT];omega) (by simp;omega) (a.alloc _)).mono ?_;rintro e w4 ⟨I,rfl,E,r⟩;have R:(wr:Nat)+1<=(w4:Nat):=by simpa using r.grown.size
     have O:=r.box a 1 _ rfl;go_wp2;refine(wN w0 I _ outs[k].lock _ O9 (by simp only[bY,bT];omega) O9 E).mono ?_;rintro e aa ⟨π,rfl,F,y⟩;go_wp2;go_roundw;case rel=>refine⟨k+1,O9,by go_num,?_,c.trans ((Ib wr u0 _).trans (r.trans y))⟩;rw[qT _ _ k _ (bS d)];simpa only[fH.bytes,fP,iG]using F
     case measure=>simp[intOf];omega
    .have C:k=outs.length:=O9;subst C;rw[jI]at a;go_wp2;go_ret;refine⟨u0,rfl,?_,(Ib w v _).trans c⟩;simpa only[mV,iG]using a
def eT.bytes(t:eT):List UInt8:=mV t.tag t.ins t.outs
structure eT.Small(t:eT):Prop where
 tag:0<=t.tag
 agV:t.tag<=65535
 ni:t.ins.length<=8
 no:t.outs.length<=8
 ins:∀x∈t.ins,x.Small
 outs:∀x∈t.outs,x.Small
def eT.mD(t:eT)(h:t.Small):t.bytes.length<=636:=by have b:=tF jS.bytes 42 t.ins λx a=>x.mD (h.ins x a);have c:=tF fH.bytes 37 t.outs λx a=>x.mD (h.outs x a);have:=h.ni;have:=h.no;simp only[eT.bytes,mV,bY,bT];omega
def fT(parent:ByteArray)(bits bU:Int)(cO:List eT):List UInt8:=fP parent++be bits 1++be bU 2++be cO.length 1++cO.flatMap eT.bytes
def Bp(w0 v l parent bits bU ta p cO w)(R:x8 w0 (.slice ta cO.length p) cO)(y:Below w0 w0 w)(a:mR w0 w v l)
 (af:parent.size<=8)(W:0<=bits)(ae:0<=bU)(ab:cO.length<=8)(A:∀t∈cO,t.Small)(aa:l.length<=10000):
 Cv 78 #[v,.agg #[.string parent,.int .i64 bits,.int .i64 bU,.slice ta cO.length p]] w λe w'=>∃d,e=.returned d/\mR w0 w' d (l++fT parent bits bU cO)/\yU w w' v d:=by
 have B:=y.size;have ag:=gF parent;go_enter fA func78,ntmps78;go_wp2_with (at_builtin;go_must (refine uy rfl (.tmp 7) (.tmp 9) rfl v _ rfl (a.alloc _) parent rfl O9 O9 (by simp;omega) ?_);intro v1 w1 L f;have au:=f.box a 1 _ rfl;have μ:=f.box a 2 _ rfl;have u:=f.box a 3 _ rfl);have z:(w:Nat)+1<=(w1:Nat):=by simpa using f.grown.size
 refine(eO w0 v1 _ bits 1 _ O9 O9 (by rw[<-fP.eq_1,bY];omega) O9 L).mono ?_;rintro e w2 ⟨v2,rfl,M,C⟩;have c:=f.trans C;have μ:=c.box a 2 _ rfl;have u:=c.box a 3 _ rfl;have z:(w:Nat)+1<=(w2:Nat):=by simpa using c.grown.size
 go_wp2;refine(eO w0 v2 _ bU 2 _ O9 O9 (by rw[<-fP.eq_1,bY,bY,bT];omega) O9 M).mono ?_;rintro e w3 ⟨v3,rfl,N,D⟩;have q:=c.trans D;have u:=q.box a 3 _ rfl;have z:(w:Nat)+1<=(w3:Nat):=by simpa using q.grown.size
 go_wp2;refine(eO w0 v3 _ cO.length 1 _ O9 O9 (by rw[<-fP.eq_1,bY,bY,bY,bT,bT];omega) O9 N).mono ?_;rintro e w4 ⟨ak,rfl,O,E⟩;have c:=q.trans E;have u:=c.box a 3 _ rfl;go_wp2;go_loopw [0,27] (λd i wr=>∃k,k<=cO.length/\i=k/\mR w0 wr d (l++(fP parent++be bits 1++be bU 2++be cO.length 1++(cO.take k).flatMap eT.bytes))/\yU (w.alloc (.cells #[parent,bits,bU,.slice ta cO.length p] 76)) wr v d) (λ_ i _=>cO.length -(intOf i).toNat);exact⟨0,fJ _,rfl,by simpa[fP]using O,c⟩;case round=>
  obtain⟨k,π,rfl,s,j⟩:=hrel;have G:Below w0 w0 (w.alloc (.cells #[parent,bits,bU,.slice ta cO.length p] 76)):=y.alloc B _;have m:=j.base (a.alloc _) (by simp;omega) G;have Y:(w:Nat)+1<=(wr:Nat):=by simpa using j.grown.size
  have X:=sI eT.bytes 636 cO k λx T=>x.mD (A x T);by_cases n:k<cO.length
  .have⟨⟨a',V,S,H⟩,_⟩:=R;cases S;obtain⟨b,o,rfl,I⟩:=H (by intro h;simp[h]at n);have⟨c1,c2,c3,hi,r⟩:=I k _ (bS n);have g:=A _ (s5 n);have⟨ah,ai,J,_⟩:=hi.form;have⟨aj,oc,Q,_⟩:=r.form;rw[J]at c2 hi;rw[Q]at c3 r;have c1:=aW m c1;have c2:=aW m c2;have c3:=aW m c3;go_wp2;refine(x9 w0 u0 _ _ _ _ _ _ _ _ _ hi r (m.alloc O9 _) (s.alloc _) g.tag g.ni g.no g.ins g.outs (by simp only[bY,bT];omega)).mono ?_;rintro e ar ⟨ao,rfl,P,F⟩;go_wp2;go_roundw;case rel=>refine⟨k+1,O9,by go_num,?_,j.trans ((Ib wr u0 _).trans F)⟩;rw[qT _ _ k _ (bS n)];simpa only[eT.bytes,fP,iG]using P
   case measure=>simp[intOf];omega
  .have K:k=cO.length:=O9;subst K;rw[jI]at s;go_wp2;go_ret;refine⟨u0,rfl,?_,(Ib w v _).trans j⟩;simpa only[fT,iG]using s
def mR.toStr{B w v l}(h:mR B w v l):(convert 127 9 v).run Vp w=.ok (.string ⟨l.toArray⟩) w:=by
 obtain⟨rfl,h0⟩|⟨g,cap,cur,rfl,_,c,d,_,b,e⟩:=h.2;.have:l=[]:=oG h0;subst this;exact run_convert_bytes_nil w 127 5 aI.underlying127 aI.underlying5 0 0 9 aI.underlying9
 .refine run_convert_bytes_back w 127 9 5 ⟨g,0,none⟩ cap l aI.underlying127 aI.underlying5 aI.underlying9 ?_;intro j a;exact uU h (g:=g) rfl j _ (by simp[bv,a])
def PI(t:eT)(first)(h:t.fits first=true):t.Small:=by
 simp only[eT.fits,gV,dJ]at h;have⟨⟨⟨⟨a,e⟩,f⟩,c⟩,d⟩:=h;rw[xE]at c d;simp[p5]at a e f;have g:N3 first<=8:=by cases first<;>simp[N3]
 refine⟨a.1,a.2,O9,O9,λx b=>?_,λx b=>?_⟩;.have:=c x b;simp[jS.fits,qd,p5]at this;exact⟨O9,O9,O9,O9⟩
 .have:=d x b;simp[fH.fits,mU,p5]at this;exact⟨O9,O9,O9⟩
structure PK(parent:ByteArray)(bits bU:Int)(cO:List eT):Prop where
 p:parent.size=8
 b:0<=bits
 b2:bits<=8
 n:0<=bU
 n2:bU<=65535
 l:cO.length<=8
 l1:1<=cO.length
 t:∀t∈cO,t.Small
def wz{parent bits bU cO}(h:dH parent bits bU cO=true):PK parent bits bU cO:=by simp only[dH,dJ]at h;have⟨⟨⟨⟨d,a⟩,b⟩,e⟩,c⟩:=h;rw[xE]at c;simp only[p5,dJ,uR,uQ]at d a b e;refine⟨O9,a.1,a.2,b.1,b.2,O9,O9,λt g=>?_⟩;obtain⟨k,f,rfl⟩:=List.mem_iff_getElem.1 g;exact PI _ _ (c (cO[k],k) (oK.2 ⟨k,by simp[f]⟩))
def YI(parent:ByteArray)(bits bU:Int)(cO:List eT):ByteArray:=if dH parent bits bU cO then⟨(fT parent bits bU cO).toArray⟩else⟨#[]⟩
def YJ(parent:ByteArray)(bits bU:Int)(cO:List eT):Int:=if dH parent bits bU cO then 0 else 1
def CN(parent bits bU ta d cO w)(g:x8 w (.slice ta cO.length d) cO):Cv 40 #[.agg #[.string parent,.int .i64 bits,.int .i64 bU,.slice ta cO.length d]] w λe w'=>e=.returned (.tuple #[(YI parent bits bU cO),(YJ parent bits bU cO)])/\Below w w w':=by
 cases f:dH parent bits bU cO;.go_enter fA func40,ntmps40;go_wp2;refine(wA parent bits bU ta d cO _ (g.keep (B0.alloc L9 _))).m1 λw1 a=>?_;go_wp2;go_ret2;exact⟨by simp[YI,YJ,f],CO B0 L9 a⟩
 .have c:=wz f;go_enter fA func40,ntmps40;go_wp2;refine(wA parent bits bU ta d cO _ (g.keep (B0.alloc L9 _))).m1 λw1 a=>?_;have h:=CO B0 L9 a;simp at a;have m:=wC a 0 _ rfl;have o:=wC a 1 _ rfl;have q:=wC a 2 _ rfl;have r:=wC a 3 _ rfl;go_wp2;refine(Bp w1 ↑() [] parent bits bU ta d cO _ (g.keep h) B0 (mR.nil _ _) (by have:=c.p;omega) c.b c.n c.l c.t S8).mono ?_;rintro e w2 ⟨v2,rfl,j,i⟩;have k:=j.toStr;go_wp2;go_ret2;exact⟨by simp[YI,YJ,f],pZ h L9 i.below⟩
def abB(w:World)(x)(h0:0<=x)(a:x<256):(convert 127 9 (.slice (w:Nat) 1 1)).run Vp (w.alloc (.cells #[.int .u8 x] 5))=.ok (.string ⟨#[byteOf x]⟩) (w.alloc (.cells #[.int .u8 x] 5)):=by
 have:=run_convert_bytes_back (P:=Vp) (w.alloc (.cells #[.int .u8 x] 5)) 127 9 5 ((w:Nat),0) 1 [byteOf x] aI.underlying127 aI.underlying5 aI.underlying9 (by intro j b;match j,b with
  |0,_=>simp only[Addr.add,uV];simp[dX x h0 a])
 simpa using this
def mk(l:List UInt8):ByteArray:=⟨l.toArray⟩
def Bc(a b):mk a++mk b=mk (a++b):=ByteArray.mk_append_mk a b
def Sp(s):mk (fP s)=s:=rfl
def dG(l):(mk l).size=l.length:=by show l.toArray.size=_;simp
def YK(n:Int)(j):n/2^(8*j)/256=n/2^(8*(j+1)):=by rw[Int.ediv_ediv_of_nonneg (Wb (Int.pow_pos D9)),show(8*(j+1))=8*j+8 from by omega,Int.pow_add];rfl
end
def IB(n)(h0:-2147483648<=n)(a:n<=2147483647):IntKind.i32.wrap n=n:=by have:IntKind.i32.bits=32:=rfl;simp[IntKind.wrap,this];have:IntKind.i32.signed=true:=rfl;simp only[this];split<;>rename_i h<;>simp at h<;>omega
def aeY(b o n a c d w)(c0:w.cell? (b,o)=some a)(c2:w.cell? (b,o+2)=some c)(c3:w.cell? (b,o+3)=some d)(g:w.cell? (b,o+4)=some (.int .i32 n))(h:w.frozen? (b,o+4)=false)(h0:0<=n)(f:n<2147483647):Cv 25 #[.pointer (b,o)] w λe w'=>e=.returned (.tuple #[])/\w'=w.setCell ⟨b,o+4,none⟩ (.int .i32 (n+1)):=by
 go_enter aI.func25,aI.ntmps25;simp[MW,aI.rlock,aI.cells,aI.only,aI.here,aI.count,aI.state,aI.UW,aI.o,aI.st];go_wp2;go_end0;exact⟨rfl,rfl⟩
def agb(b o a c w)(c2:w.cell? (b,o+2)=some a)(c3:w.cell? (b,o+3)=some c)(h:w.cell? (b,o)=some (.int .i32 0))(d:w.cell? (b,o+4)=some (.int .i32 0))(f:w.frozen? (b,o+4)=false)(g:w.frozen? (b,o)=false):Cv 30 #[.pointer (b,o)] w λe w'=>e=.returned (.tuple #[])/\w'=(w.setCell (b,o) (.int .i32 1)).setCell ⟨b,o+4,none⟩ (.int .i32 (-1073741824)):=by
 go_enter aI.func30,aI.ntmps30;simp[MW,aI.lock,aI.cells,aI.only,aI.here,aI.count,aI.UW,aI.state,aI.o,aI.st];go_wp2;go_end0;exact⟨rfl,rfl⟩
def UY(b o n c d f u w)(c0:w.cell? (b,o)=some c)(c2:w.cell? (b,o+2)=some d)(c3:w.cell? (b,o+3)=some f)(h:w.cell? (b,o+4)=some (.int .i32 n))(i:w.frozen? (b,o+4)=false)(h0:0<n)(g:n<=2147483647):CallsD Vp 26 #[.pointer (b,o)] u w λe a w'=>a=u/\(e=.returned (.tuple #[])/\w'=w.setCell ⟨b,o+4,none⟩ (.int .i32 (n -1))):=by
 go_enter_d aI.func26,aI.ntmps26;simp[MW,aI.runlock,aI.cells,aI.only,aI.here,aI.count,aI.state,aI.UW,aI.o,aI.st];go_wp2;go_end0;exact⟨rfl,rfl⟩
def ZH(b o c d u w)(c2:w.cell? (b,o+2)=some c)(c3:w.cell? (b,o+3)=some d)(i:w.cell? (b,o)=some (.int .i32 1))(f:w.cell? (b,o+4)=some (.int .i32 (-1073741824)))(g:w.frozen? (b,o+4)=false)(h:w.frozen? (b,o)=false):CallsD Vp 31 #[.pointer (b,o)] u w λe a w'=>a=u/\(e=.returned (.tuple #[])/\w'=(w.setCell (b,o+4) (.int .i32 0)).setCell ⟨b,o,none⟩ (.int .i32 0)):=by
 go_enter_d aI.func31,aI.ntmps31;simp[MW,aI.unlock,aI.cells,aI.only,aI.here,aI.count,aI.UW,aI.state,aI.o,aI.st];go_wp2;go_end0;exact⟨rfl,rfl⟩
end Go.Proofs.aH
namespace Go.Proofs.YtpjcmpfncpnmeabGreat
open Go.Conc.Locks
abbrev u7:RwLink:={lock:=61,unlock:=66,ilock:=90,iunlock:=91,lockSlow:=124,unlockSlow:=125,disable:=46,enable:=49,acquire:=50,relMerge:=51,cas32:=123,add32:=83,tMutex:=92,tIMutex:=90,tPMutex:=140,tPIMutex:=222,tPI32:=182,tUP:=139,tNoCopy:=87,tU32:=88,rlock:=25,runlock:=26,wlock:=30,wunlock:=31,i32add:=47,raceRead:=45,release:=63,rUnlockSlow:=52,semacqR:=48,semacqW:=62,semrel:=65,sfatal:=64,tRW:=97,tPRW:=137,tAI32:=95,tPAI32:=180,tPU32:=143,tANoCopy:=93}
def HP:RwCore Tryz.prog u7:=⟨Tryz.func47,Tryz.func45,Tryz.func46,Tryz.func49,Tryz.func50,Tryz.func51,Tryz.func83,Tryz.underlying97,Tryz.runUnderlying97,Tryz.sizeOf97,Tryz.isAgg97,Tryz.zeroValue97,Tryz.underlying95,Tryz.runUnderlying95,Tryz.sizeOf95,Tryz.isAgg95,Tryz.zeroValue95,Tryz.underlying137,Tryz.runUnderlying137,Tryz.sizeOf137,Tryz.isAgg137,Tryz.zeroValue137,Tryz.underlying180,Tryz.runUnderlying180,Tryz.sizeOf180,Tryz.isAgg180,Tryz.zeroValue180,Tryz.underlying143,Tryz.runUnderlying143,Tryz.sizeOf143,Tryz.isAgg143,Tryz.zeroValue143,Tryz.underlying93,Tryz.runUnderlying93,Tryz.sizeOf93,Tryz.isAgg93,Tryz.zeroValue93,Tryz.underlying88,Tryz.runUnderlying88,Tryz.sizeOf88,Tryz.isAgg88,Tryz.zeroValue88,Tryz.underlying92,Tryz.runUnderlying92,Tryz.sizeOf92,Tryz.isAgg92,Tryz.zeroValue92,Tryz.underlying140,Tryz.runUnderlying140,Tryz.sizeOf140,Tryz.isAgg140,Tryz.zeroValue140,Tryz.underlying182,Tryz.runUnderlying182,Tryz.sizeOf182,Tryz.isAgg182,Tryz.zeroValue182,Tryz.underlying139,Tryz.runUnderlying139,Tryz.sizeOf139,Tryz.isAgg139,Tryz.zeroValue139,Tryz.underlying21,Tryz.runUnderlying21,Tryz.sizeOf21,Tryz.isAgg21,Tryz.zeroValue21,K8,K8⟩
def abx:MuLib Tryz.prog u7.toMuLink:=⟨Tryz.func61,Tryz.func66,Tryz.func90,Tryz.func91,Tryz.func46,Tryz.func49,Tryz.func50,Tryz.func51,Tryz.func123,Tryz.func83,Tryz.underlying90,Tryz.runUnderlying90,Tryz.sizeOf90,Tryz.isAgg90,Tryz.zeroValue90,Tryz.underlying92,Tryz.runUnderlying92,Tryz.sizeOf92,Tryz.isAgg92,Tryz.zeroValue92,Tryz.underlying140,Tryz.runUnderlying140,Tryz.sizeOf140,Tryz.isAgg140,Tryz.zeroValue140,Tryz.underlying222,Tryz.runUnderlying222,Tryz.sizeOf222,Tryz.isAgg222,Tryz.zeroValue222,Tryz.underlying182,Tryz.runUnderlying182,Tryz.sizeOf182,Tryz.isAgg182,Tryz.zeroValue182,Tryz.underlying139,Tryz.runUnderlying139,Tryz.sizeOf139,Tryz.isAgg139,Tryz.zeroValue139,Tryz.underlying87,Tryz.runUnderlying87,Tryz.sizeOf87,Tryz.isAgg87,Tryz.zeroValue87,Tryz.underlying21,Tryz.runUnderlying21,Tryz.sizeOf21,Tryz.isAgg21,Tryz.zeroValue21,K8⟩
def AK:RwRLib Tryz.prog u7:=⟨HP,Tryz.func25,Tryz.func26⟩
def AL:RwWLib Tryz.prog u7:=⟨HP,abx,Tryz.func30,Tryz.func31,Tryz.func63,Tryz.underlying3,Tryz.runUnderlying3,Tryz.sizeOf3,Tryz.isAgg3,Tryz.zeroValue3⟩
end Go.Proofs.YtpjcmpfncpnmeabGreat
namespace Go.Bj
open Go.ChangeMaps Go.MapKept Go.Maps
section
structure xA(P:Program)(k:TypeId)(I:Value->Prop):Prop where
 check:∀(w:World) (em:Bool) {v:Value},I v->(Instr.checkKey em 10000 k v).run P w=.ok () w
 eq:∀(w:World) {a b:Value},I a->I b->∃r:Bool,(Op.equal k a b).run P w=.ok r w/\(r=true↔a=b)
 af5:∃d,P.underlying k=some d/\∀{a b:Value},I a->I b->Instr.sameNow d a b=none
def xA.find{P k I}(K:xA P k I)(w){x}(n:I x)(es)(a:∀e∈es,I e.key):((Instr.findKey k x es).run P w=.ok none w/\∀e∈es,e.key≠x)\/∃j e,(Instr.findKey k x es).run P w=.ok (some (j,e.val)) w/\es[j]?=some e/\e.key=x:=by
 have ask:∀(es:List MapEntry) (i:Nat),(∀e∈es,I e.key)->((Instr.findAsking k x es i).run P w=.ok none w/\∀e∈es,e.key≠x)\/∃j e,(Instr.findAsking k x es i).run P w=.ok (some (i+j,e.val)) w/\es[j]?=some e/\e.key=x:=by intro es;induction es with
  |nil=>intro i _;exact .inl ⟨by simp[Instr.findAsking],S8⟩
  |cons e es t=>intro i a;have⟨r,m,l⟩:=K.eq w n (a e S8);cases r with
    |true=>refine .inr ⟨0,e,?_,rfl,(l.1 rfl).symm⟩;simp[Instr.findAsking,m]
    |false=>
      have v:e.key≠x:=λh=>by simpa using l.2 h.symm
      have u:=t (i+1) (λb o=>a b (by simp[o]));have q:(Instr.findAsking k x (e::es) i).run P w=(Instr.findAsking k x es (i+1)).run P w:=by simp[Instr.findAsking,m]
      rw[q];obtain⟨c,f⟩|⟨j,b,c,f,p⟩:=u;.simp_all
      .exact .inr ⟨j+1,b,by rw[c];congr 3;omega,by simpa using f,p⟩
 have⟨d,g,s⟩:=K.af5;cases es with
 |nil=>exact .inl ⟨by simp[Instr.findKey,vJ g,Instr.findNow],S8⟩
 |cons e es=>
   have:(Instr.findKey k x (e::es)).run P w=(Instr.findAsking k x (e::es) 0).run P w:=by simp[Instr.findKey,vJ g,Instr.findNow,s n (a e S8)]
   rw[this];simpa using ask (e::es) 0 a
def iR(I:Value->Prop)(w:World)(b:Nat)(L:List (Value×Value)):Prop:=∃es clock,w.heap[b]?=some (.map es clock)/\es.toList.map (λe=>(e.key,e.val))=L/\(∀x∈L,I x.1)/\Stamped es clock
variable{P:Program}{I:Value→Prop}{k t e:TypeId}{w:World}{b:Nat}{L:List (Value×Value)}
def iR.lt(h:iR I w b L):b<w:=by obtain⟨es,c,a,-⟩:=h;exact(eA.1 a).1
def iR.same{w'}(h:iR I w b L)(e:w'.heap[b]?=w.heap[b]?):iR I w' b L:=by have⟨es,c,a,d⟩:=h;exact⟨es,c,e.trans a,d⟩
def iR.keys(h:iR I w b L):(L.map Prod.fst).Nodup:=by obtain⟨es,c,-,rfl,-,h⟩:=h;have:=h.2.2;rw[pD];exact this
def Qc{es:Array MapEntry}(a:es.toList.map (λe=>(e.key,e.val))=L)(c:∀x∈L,I x.1):∀e∈es.toList,I e.key:=by intro e b;exact c (e.key,e.val) (a▸iF.2 ⟨e,b,rfl⟩)
def iR.look(h:iR I w b L)(K:xA P k I)(m:P.underlying t=some (.map k e)){z}(r:(zeroValue e).run P w=.ok z w){key}(g:I key):((Instr.lookup t (.map (some b)) key false).run P w=.ok z w/\∀x∈L,x.1≠key)\/∃v,(key,v)∈L/\(Instr.lookup t (.map (some b)) key false).run P w=.ok v w:=by
 obtain⟨es,c,l,f,o,-⟩:=h;rcases K.find w g es.toList (Qc f o)with⟨a,d⟩|⟨j,i,a,d,n⟩;.refine .inl ⟨by simp[Instr.lookup,vJ m,KJ l,K.check w _ g,a,r],λx p=>?_⟩;subst f;obtain⟨y,q,rfl⟩:=iF.1 p;exact d y q
 .refine .inr ⟨i.val,?_,by simp[Instr.lookup,vJ m,KJ l,K.check w _ g,a]⟩;subst f;exact iF.2 ⟨i,cU d,by rw[n]⟩
def Qd{w o}(a:b<w.heap.size):(setBlock w b o).heap[b]?=some o:=by simp[setBlock,a]
def iR.put(h:iR I w b L)(K:xA P k I)(u:P.underlying t=some (.map k e)){key val}(m:I key)(s:∀x∈L,x.1≠key):∃o,(Instr.mapUpdate t (.map (some b)) key val).run P w=.ok () (setBlock w b o)/\iR I (setBlock w b o) b (L++[(key,val)]):=by
 have r:=h.lt;have⟨es,c,l,f,q,p⟩:=h;rcases K.find w m es.toList (Qc f q)with⟨i,d⟩|⟨j,a,i,d,n⟩
 .refine⟨.map (es.push ⟨key,val,c⟩) (c+1),by simp[Instr.mapUpdate,vJ u,KJ l,K.check w false m,i,WC _ l,setBlock],⟨_,_,Qd r,by simp[<-f],?_,stamped_push p d⟩⟩;intro x g;obtain g|g:=mN.1 g;.grind
  .simp_all
 .exact absurd n (s (a.key,a.val) (f▸iF.2 ⟨a,cU d,rfl⟩))
def BF{α β:Type}(f:α->β):∀(l:List α) (j:Nat),(l.eraseIdx j).map f=(l.map f).eraseIdx j
 |[],_=>rfl
 |_::_,0=>rfl
 |a::l,j+1=>by simp[BF f l j]
def iR.drop{ty}(h:iR I w b L)(K:xA P k I)(r:P.underlying t=some (.map k e)){key}(l:I key):∃o f,(Builtin.delete_ #[t,k] ty #[.map (some b),key]).run P w=.ok (.tuple #[]) (setBlock w b o)/\iR I (setBlock w b o) b f/\((f=L/\∀x∈L,x.1≠key)\/∃j v,L[j]?=some (key,v)/\f=L.eraseIdx j):=by
 have q:=h.lt;have⟨es,c,d,a,i,p⟩:=h;rcases K.find w l es.toList (Qc a i)with⟨g,n⟩|⟨j,s,g,n,A⟩;.refine⟨.map es c,L,by simp[Builtin.delete_,vJ r,KJ d,K.check w _ l,g,WC _ d,setBlock],⟨_,_,Qd q,a,i,p⟩,.inl ⟨rfl,λx m=>?_⟩⟩;subst a;obtain⟨y,z,rfl⟩:=iF.1 m;exact n y z
 .have u:(es.eraseIdxIfInBounds j).toList=es.toList.eraseIdx j:=by simp
  refine⟨.map (es.eraseIdxIfInBounds j) c,L.eraseIdx j,by simp[Builtin.delete_,vJ r,KJ d,K.check w _ l,g,WC _ d,setBlock],⟨_,_,Qd q,?_,?_,stamped_erase p j⟩,.inr ⟨j,s.val,?_,rfl⟩⟩;.rw[u,BF,a]
  .intro x m;exact i x ((adk _ _).subset m)
  .grind
end
end Go.Bj
namespace Go.Proofs.aH
open Go.RowKit
open Go.Bj (iR xA)
abbrev Pt:=ByteArray×Int
def vq(p:Pt):Value:=.agg #[.string p.1,.int .i64 p.2]
def abP(v:Value):Prop:=∃p:Pt,v=vq p
def DN{p q}(h:vq p=vq q):p=q:=by have⟨a,b⟩:=p;simp[vq]at h;rw[h.1,h.2]
def Zh:xA Vp 58 abP where
 check:=by rintro w em v ⟨⟨a,b⟩,rfl⟩;have hu:=aI.underlying58;obtain⟨m,hm⟩:∃m,10000=m+2:=⟨9998,rfl⟩;rw[hm];clear hm;unfold vq;simp[Instr.checkKey,vJ hu,go_sem]
 eq:=by
  rintro w x y ⟨⟨a,b⟩,rfl⟩ ⟨⟨c,d⟩,rfl⟩;refine⟨(a.toList==c.toList)&&(b==d),?_,?_⟩;.unfold vq;obtain⟨m,hm⟩:∃m,Op.maxDepth=m+2:=⟨9998,rfl⟩;rw[Op.equal,hm];clear hm;by_cases h:a.toList==c.toList<;>by_cases h2:b=d<;>simp[go_sem,h,h2]
  .constructor
   .intro h;simp only[dJ,uQ]at h;obtain⟨h1,rfl⟩:=h;have:a=c:=by rw[ByteArray.toList_eq,ByteArray.toList_eq]at h1;obtain⟨⟨x⟩⟩:=a;obtain⟨⟨y⟩⟩:=c;simp only at h1;rw[h1]
    rw[this]
   .intro h;have:=DN h;cases this;simp
 af5:=⟨_,aI.underlying58,by rintro x y ⟨⟨a,b⟩,rfl⟩ ⟨⟨c,d⟩,rfl⟩;rfl⟩
end Go.Proofs.aH
