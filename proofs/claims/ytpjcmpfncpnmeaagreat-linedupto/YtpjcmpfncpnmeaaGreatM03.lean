import Derived.Test.YtpjcmpfncpnmeaaGreatProg
import Derived.WalkKit
import Derived.WalkSpells
import Derived.WalkLawsBesides
import Derived.BigQuiet
import Derived.Maps.AppendAt
import Derived.Lib.AppendStr
import Derived.Conc.RwLib
import Derived.Maps.Keyed
import Derived.MapViews
import Derived.Test.YtpjcmpfncpnmeaaGreatM02
set_option linter.all false
set_option maxHeartbeats 1000000
set_option maxRecDepth 100000
namespace Go.Ren
def oQ{α:Type}(p:Program)(Q:α->Prop):Sem α->Prop
 |.pure a=>Q a
 |.load _ _ k=>∀v,oQ p Q (k v)
 |.store _ _ _ k=>oQ p Q k
 |.new _ k=>∀r,oQ p Q (k r)
 |.shape _ k=>∀r,oQ p Q (k r)
 |.freeze _ _ k=>oQ p Q k
 |.frozen _ k=>∀b,oQ p Q (k b)
 |.getObj _ k=>∀o,oQ p Q (k o)
 |.setObj _ _ k=>oQ p Q k
 |.choose _ k=>∀n,oQ p Q (k n)
 |.sys _ k=>∀r,oQ p Q (k r)
 |.program k=>oQ p Q (k p)
 |.mark _ k=>oQ p Q k
 |.halt _=>True
section
variable{α β:Type}{p:Program}
def DX(s:Sem α):oQ p (λ_=>True) s:=by induction s with
 |pure a=>exact trivial
 |load m a k b=>exact b
 |store m a v k b=>exact b
 |new o k b=>exact b
 |shape r k b=>exact b
 |freeze a n k b=>exact b
 |frozen a k b=>exact b
 |getObj r k b=>exact b
 |setObj r o k b=>exact b
 |choose q k b=>exact b
 |sys c k b=>exact b
 |program k b=>exact b p
 |mark m k b=>exact b
 |halt h=>exact trivial
def oQ.bind'{Q Q'}{f:α->Sem β}(d:∀a,Q a->oQ p Q' (f a))(s):oQ p Q s->oQ p Q' (s.bind f):=by induction s with
 |pure a=>exact d a
 |load m a k b=>exactλh v=>b v (h v)
 |store m a v k b=>exact b
 |new o k b=>exactλh v=>b v (h v)
 |shape r k b=>exactλh v=>b v (h v)
 |freeze a n k b=>exact b
 |frozen a k b=>exactλh v=>b v (h v)
 |getObj r k b=>exactλh v=>b v (h v)
 |setObj r o k b=>exact b
 |choose q k b=>exactλh v=>b v (h v)
 |sys c k b=>exactλh v=>b v (h v)
 |program k b=>exact b p
 |mark m k b=>exact b
 |halt h=>exactλ_=>trivial
def oQ.bind{Q Q' s}{f:α->Sem β}(h:oQ p Q s)(b:∀a,Q a->oQ p Q' (f a)):oQ p Q' (s>>=f):=oQ.bind' b s h
def y9:=@oQ.bind
def VV{Q}(s:Sem α):∀w es,oQ p Q s->∀a w',(s.runT p w es).1=.ok a w'->Q a:=by induction s with
 |pure a=>intro w es h b w' e;cases e;exact h
 |load m a k d=>
   intro w es h b w' e;simp only[Sem.runT]at e;split at e;.exact d _ w _ (h _) b w' e
   .split at e;.exact d _ w _ (h _) b w' e
    .cases e
 |store m a v k d=>
   intro w es h b w' e;rcases Dp (p:=p) (m:=m) (a:=a) (v:=v) (k:=k) (w:=w) (es:=es)with⟨g,f⟩|f;.simp_all
   .rw[f]at e;split at e
    .split at e;.cases e
     .exact d _ _ h b w' e
    .split at e;.exact d _ _ h b w' e
     .cases e
 |new o k d=>intro w es h b w' e;exact d _ _ _ (h _) b w' e
 |shape r k d=>intro w es h b w' e;exact d _ _ _ (h _) b w' e
 |freeze a n k d=>intro w es h b w' e;exact d _ _ h b w' e
 |frozen a k d=>intro w es h b w' e;exact d _ _ _ (h _) b w' e
 |getObj r k d=>
   intro w es h b w' e;simp only[Sem.runT]at e;split at e;.cases e
   .exact d _ w _ (h _) b w' e
   .cases e
 |setObj r o k d=>
   intro w es h b w' e;simp only[Sem.runT]at e;split at e;.cases e
   .exact d _ _ h b w' e
   .cases e
 |choose q k d=>
   intro w es h b w' e;simp only[Sem.runT]at e;split at e;.exact d _ w _ (h _) b w' e
   .exact d _ _ _ (h _) b w' e
 |sys c k d=>intro w es h b w' e;exact d _ _ _ (h _) b w' e
 |program k d=>intro w es h b w' e;exact d _ _ _ h b w' e
 |mark m k d=>intro w es h b w' e;exact d _ _ h b w' e
 |halt h=>intro w es h b w' e;cases e
end
def DY{info d i}(h:Made.reckon info d=some i):i.methods=#[]:=by cases d with
 |pointer e=>
   simp[Made.reckon,yt]at h;obtain⟨j,-,h⟩:=h;split at h;.cases h
   .split at h;.cases h
    .simp[yt]at h;obtain⟨_,-,rfl⟩:=h;rfl
   .simp[yt]at h;obtain⟨_,-,rfl⟩:=h;rfl
 |slice e=>simp[Made.reckon,yt]at h;obtain⟨_,-,_,-,rfl⟩:=h;rfl
 |map k e=>simp[Made.reckon,bind,yt]at h;obtain⟨_,-,_,-,_,-,_,-,rfl⟩:=h;rfl
 |chan k e=>simp[Made.reckon,bind,yt,pure,oC]at h;obtain⟨_,-,_,-,rfl⟩:=h;rfl
 |func a b c=>simp[Made.reckon,bind,yt,pure,oC]at h;obtain⟨_,-,rfl⟩:=h;rfl
 |array n e=>simp[Made.reckon,bind,yt,pure,oC]at h;obtain⟨_,-,_,-,rfl⟩:=h;rfl
 |struct f=>simp only[Made.reckon,Made.reckonStruct,bind,yt,pure]at h;obtain⟨r,-,h⟩:=h;split at h<;>(cases h;rfl)
 |_=>cases h
def DZ{T n t i}(h:Made.infoAt T n t=some i):i∈T.types\/i.methods=#[]:=by cases n with
 |zero=>cases h
 |succ n=>
   unfold Made.infoAt at h;split at h;.grind
   .right;cases a:Made.decode (t -T.types.size)with
    |none=>rw[a]at h;cases h
    |some d=>rw[a]at h;exact DY h
def Ia{T:Tables}{t i}(h:T.info? t=some i):i∈T.types\/i.methods=#[]:=by
 unfold Tables.info? at h;split at h;.grind
 .exact DZ h
def zb(s:String):Bool:=s== "Error" ||s== "String"
def qq(fn:Func):Bool:=fn.body.isNone&&fn.name== "none" &&fn.origin== "none"
def Nj(types:Array TypeInfo)(d:FuncId->Bool):Bool:=types.all λi=>i.methods.all λm=>!zb m.name||m.func.all λx=>d x.1
def D2(p:Program):Bool:=Nj p.types λf=>(p.funcs[f]?).all qq
def PV:Next->Prop
 |.enter ..=>False
 |_=>True
def R7:Extern.allNextRows.lookup "none" =none:=K8
def Zt:Extern.allGenericRows.lookup "none" =none:=K8
def Nk:Extern.allTypedRows.lookup "none" =none:=K8
def R8:Extern.allRows.lookup "none" =none:=K8
def Gp{fn}(h:fn.name= "none")(a:fn.origin= "none"):Extern.findNext fn=none:=by simp only[Extern.findNext,h,a,R7];rfl
def Gq{fn}(h:fn.name= "none")(a:fn.origin= "none"):Extern.find fn=none:=by simp only[Extern.find,h,a,Nk,R8];rfl
def PW{fn}(h:qq fn=true):fn.body.isNone=true/\fn.name= "none" /\fn.origin= "none" :=by simp only[qq,dJ,uM]at h;exact⟨h.1.1,h.1.2,h.2⟩
def R9{p f fn}(d:p.funcs[f]?=some fn)(h:qq fn=true)(args):oQ p PV (callFunc f args):=by obtain⟨c,a,b⟩:=PW h;refine y9 (Q:=λq=>q=p) (s:=program) rfl ?_;rintro _ rfl;rw[d];simp[c,a,Gp a b,Gq a b];exact trivial
def Bw{p}(a:D2 p=true){name}(d:zb name=true):∀n t v,oQ p (λx:FuncId×Value=>(p.funcs[x.1]?).all qq=true) (method n t v name)
 |0,t,v=>trivial
 |n+1,t,v=>by
   have k:=Bw a d n;refine y9 (Q:=λi=>p.info? t=some i) ?_ ?_
   .refine y9 (Q:=λq=>q=p) (s:=program) rfl ?_;rintro _ rfl;split;.assumption
    .trivial
   intro i hi;cases c:i.methods.find? (·.name==name)with
   |none=>trivial
   |some m=>
     refine y9 (DX _) ?_;rintro⟨l,x⟩ -;have h:=Array.mem_of_find?_eq_some c;have j:m.name=name:=by have:=Array.find?_some c;simpa using this
     cases g:m.func with
     |none=>refine y9 (DX _) ?_;intro y _;cases y<;>first|exact k _ _|trivial
     |some e=>
       obtain⟨f,b⟩:=e;refine y9 (DX _) ?_;intro y _;show(p.funcs[f]?).all qq=true;obtain hi|hi:=Ia hi;.have:=AW.1 a i hi;have:=AW.1 this m h;rw[j,d,g]at this;simpa using this
       .simp_all
def Sa{p v recv t name}(h:panicText p false v=.call t recv name):zb name=true:=by
 unfold panicText at h;split at h
 .split at h;.cases h
  .rename_i info _;dsimp only at h;have key:∀(s:String) (m:Method) (g:Method->Bool),zb s=true->info.methods.find? (fun m=>m.name==s&&g m)=some m->zb m.name=true:=fun s m g b a=>by grind
   split at h;.rename_i a;cases h;exact key "Error" _ _ rfl a
   .rename_i a;cases h;exact key "String" _ _ rfl a
   .grind
 all_goals cases h
def VW{p}(b:D2 p=true)(todo):NoEnter p todo:=by
 intro x _ t recv name i w f args w' c;have d:=Sa i;have key:oQ p PV (invoke (.fn (.method name) #[]) #[.iface t recv]):=by refine y9 (Q:=λq=>q=p) (s:=program) rfl ?_;intro q e;subst e;refine y9 (Bw b d _ t recv) ?_;rintro⟨f,x⟩ h;cases a:q.funcs[f]? with
  |none=>refine y9 (Q:=λr=>r=q) (s:=program) rfl ?_;intro r g;rw[g,a];trivial
  |some fn=>rw[a]at h;exact R9 a h _
 exact VV _ w #[] key _ _ c
def Cw(f f':Func):Bool:=f.name != "runtime.NumGoroutine" &&f'.name != "runtime.NumGoroutine" &&(f.body.isSome&&f'.body.isSome||qq f&&f'.body.isNone)
def aR{p p' Z k f f'}(q:p.funcs[k]?=some f)(r:p'.funcs[k]?=some f')(h:Cw f f'=true)(args):SR p p' Z (NR p Z) (callFunc k args) (callFunc k (args.map (bC Z))):=by
 simp[Cw]at h;obtain⟨⟨g,j⟩,h⟩:=h;have i:(f.name== "runtime.NumGoroutine")=false:=by simpa using g
 have l:(f'.name== "runtime.NumGoroutine")=false:=by simpa using j
 refine iG ?_;rw[q,r];simp only[i,l];obtain⟨c,d⟩|⟨c,d⟩:=h
 .have m:f.body.isNone=false:=by cases o:f.body<;>simp_all
  have n:f'.body.isNone=false:=by cases o:f'.body<;>simp_all
  simp[m,n];exact aO ⟨rfl,rfl⟩
 .obtain⟨e,a,b⟩:=PW c;simp[e,d,a,Gp a b,Gq a b];exact aL (Q:=fun _ _=>True) (H2 rfl) (fun _ _ _=>aN rfl)
def uy{p p' Z}:∀n a acc,SR p p' Z (λx c=>c=x) (Extern.Bytes.loadBytes a n acc) (Extern.Bytes.loadBytes (bX Z a) n acc)
 |0,a,acc=>aO rfl
 |n+1,a,acc=>by refine aL Cs ?_;rintro v _ rfl;cases v with
   |int k b=>rw[cQ];cases k with
     |u8=>have:=uy (p:=p) (p':=p') (Z:=Z) n (a.add 1) (acc.push b.toNat.toUInt8);exact this
     |_=>exact aN rfl
   |_=>exact aN rfl
def D3{p p' Z}(v):SR p p' Z (λx d=>d=x) (Extern.Bytes.bytesOf v) (Extern.Bytes.bytesOf (bC Z v)):=by cases v with
 |string s=>rw[bV];exact aO rfl
 |slice a l c=>rw[bN];cases a with
   |none=>exact aO rfl
   |some a=>
     by_cases b:l=0/\c=0;.obtain⟨rfl,rfl⟩:=b;exact aO rfl
     .rw[pY,pZ b];exact uy _ _ _
 |_=>exact aN rfl
def Nl{p p' Z}(args):SR p p' Z (VR Z) (Extern.BytealgCompare.compare args) (Extern.BytealgCompare.compare (args.map (bC Z))):=by obtain⟨l⟩:=args;match l with
 |[]=>exact aN rfl
 |[x]=>exact aN rfl
 |x::y::z::l=>exact aN rfl
 |[x,y]=>rw[show(#[x,y].map (bC Z))=#[bC Z x,bC Z y]by simp];refine aL (D3 x) ?_;rintro _ a rfl;refine aL (D3 y) ?_;rintro _ b rfl;exact aO (by simp[VR,goInt])
def VX:Extern.allNextRows.lookup "internal/bytealg.abigen_runtime_cmpstring" =none:=K8
def abk:Extern.allGenericRows.lookup "internal/bytealg.abigen_runtime_cmpstring" =none:=K8
def Sb:Extern.allTypedRows.lookup "internal/bytealg.abigen_runtime_cmpstring" =none:=K8
def VY:Extern.allRows.lookup "internal/bytealg.abigen_runtime_cmpstring" =some Extern.BytealgCompare.compare:=K8
def Nn:Extern.allNextRows.lookup "" =none:=K8
def VZ{p p' Z k f}(g:p.funcs[k]?=some f)(h:p'.funcs[k]?=some f)(a:f.name= "internal/bytealg.abigen_runtime_cmpstring")(i:f.origin= "")(e:f.body.isNone=true)(args):SR p p' Z (NR p Z) (callFunc k args) (callFunc k (args.map (bC Z))):=by
 have b:(f.name== "runtime.NumGoroutine")=false:=by rw[a];decide
 have c:Extern.findNext f=none:=by simp only[Extern.findNext,a,i,VX,Nn];rfl
 have d:Extern.find f=some Extern.BytealgCompare.compare:=by simp only[Extern.find,a,Sb,VY];rfl
 refine iG ?_;rw[g,h];simp[b,e,c,d];refine aL (Q:=fun _ _=>True) (H2 rfl) (fun _ _ _=>?_);refine aL (Nl args) ?_;rintro v _ rfl;exact aO ⟨rfl,rfl⟩
end Go.Ren
namespace Go.Proofs
open Go.Ren
section
class VB where
 b:Bool
variable[VB]
def aI.or(c:Code):Code:=bif VB.b then c else .refuse "not here"
def aI.o(d:Nat)(op:Op)(t:TypeId):Oper:={dst:=some d,op:=op,type:=t,pos:= "",after:=#[],guard:=none}
def aI.st(op:Op):Oper:={dst:=none,op:=op,type:=0,pos:= "",after:=#[],guard:=none}
def aI.here(c:Code):Code:=(Code.region 2 #[aI.o 2 (.binOp .eql 170 (.tmp 0) (.const (.pointer none)) 170) 4] false).seq ((Code.cond (.tmp 2) (.refuse "no lock") .skip).seq c)
def aI.count:Array Oper:=#[aI.o 5 (.fieldAddr 120 (.tmp 0) 3) 0,aI.o 6 (.fieldAddr 118 (.tmp 5) 1) 0,aI.o 7 (.load 21 (.tmp 6)) 21]
def aI.state:Array Oper:=#[aI.o 8 (.fieldAddr 120 (.tmp 0) 0) 0,aI.o 9 (.fieldAddr 115 (.tmp 8) 1) 0,aI.o 10 (.fieldAddr 113 (.tmp 9) 0) 0,aI.o 11 (.load 21 (.tmp 10)) 21]
def aI.Lm:Array Oper:=#[aI.o 14 (.fieldAddr 120 (.tmp 0) 1) 0,aI.o 15 (.load 111 (.tmp 14)) 111,aI.o 16 (.fieldAddr 120 (.tmp 0) 2) 0,aI.o 17 (.load 111 (.tmp 16)) 111]
def aI.only(id t:Nat)(lo hi:Int)(c:Code):Code:=(Code.region id #[aI.o 12 (.binOp .lss 21 (.tmp t) (.const (.int .i32 lo)) 21) 4,aI.o 13 (.binOp .lss 21 (.const (.int .i32 hi)) (.tmp t) 21) 4] false).seq
 ((Code.cond (.tmp 12) (.refuse "not so") .skip).seq ((Code.cond (.tmp 13) (.refuse "not so") .skip).seq c))
def aI.cells(lo hi:Int)(c:Code):Code:=aI.here<|(Code.region 0 (aI.count++aI.state++aI.Lm) false).seq (aI.only 3 7 lo hi c)
def aI.rlock:Code:=aI.cells 0 2147483646 (Code.region 1 #[aI.o 18 (.binOp .add 21 (.tmp 7) (.const (.int .i32 1)) 21) 21,aI.st (.store 21 (.tmp 6) (.tmp 18))] false)
def aI.runlock:Code:=aI.cells 1 2147483647 (Code.region 1 #[aI.o 18 (.binOp .sub 21 (.tmp 7) (.const (.int .i32 1)) 21) 21,aI.st (.store 21 (.tmp 6) (.tmp 18))] false)
def aI.lock:Code:=aI.cells 0 0 (aI.only 4 11 0 0 (Code.region 1 #[aI.st (.store 21 (.tmp 10) (.const (.int .i32 1))),aI.st (.store 21 (.tmp 6) (.const (.int .i32 (-1073741824))))] false))
def aI.unlock:Code:=aI.cells (-1073741824) (-1073741824) (aI.only 4 11 1 1 (Code.region 1 #[aI.st (.store 21 (.tmp 6) (.const (.int .i32 0))),aI.st (.store 21 (.tmp 10) (.const (.int .i32 0)))] false))
def aI.qH:Code:=(Code.region 0 #[aI.o 5 (.call {callee:=.builtin .len,args:=#[.tmp 0],argTypes:=#[126]}) 3,aI.o 6 (.binOp .lss 3 (.const ↑aA) (.tmp 1) 3) 4,aI.o 16 (.binOp .lss 3 (.const (.int .i64 2147483646)) (.tmp 1) 3) 4,aI.o 17 (.binOp .lss 3 (.const (.int .i64 2147483646)) (.tmp 5) 3) 4] false).seq
 ((Code.cond (.tmp 6) .skip (.refuse "no workers")).seq ((Code.cond (.tmp 16) (.refuse "too many workers") .skip).seq ((Code.cond (.tmp 17) (.refuse "too many trials") .skip).seq
 ((Code.region 6 #[aI.o 4 (.assign (.const (.slice none 0 0))) 301,aI.o 3 (.makeSlice 301 (.tmp 5) (.tmp 5)) 301,aI.o 2 (.move (.const ↑aA)) 3] false).seq
 ((Code.block 0 (Code.loop ((Code.region 1 #[aI.o 7 (.binOp .lss 3 (.tmp 2) (.tmp 5) 3) 4] false).seq
   ((Code.cond (.tmp 7) .skip (.exit 0)).seq
   ((Code.region 7 #[aI.o 22 (.binOp .eql 126 (.tmp 0) (.const (.slice none 0 0)) 126) 4] false).seq
   ((Code.cond (.tmp 22) (.refuse "no trials") .skip).seq
   ((Code.region 2 #[aI.o 8 (.indexAddr 126 (.tmp 0) (.tmp 2)) 0,aI.o 9 (.load 298 (.tmp 8)) 298,aI.o 10 (.field 298 (.tmp 9) 0) 9,aI.o 11 (.field 298 (.tmp 9) 1) 9,aI.o 12 (.field 298 (.tmp 9) 2) 9,aI.o 13 (.field 298 (.tmp 9) 3) 3,
     aI.o 14 (.call {callee:=.builtin .len,args:=#[.tmp 10],argTypes:=#[9]}) 3,aI.o 14 (.call {callee:=.builtin .len,args:=#[.tmp 11],argTypes:=#[9]}) 3,aI.o 14 (.call {callee:=.builtin .len,args:=#[.tmp 12],argTypes:=#[9]}) 3,
     aI.o 15 (.binOp .lss 3 (.const (.int .i64 9223372036854775807)) (.tmp 13) 3) 4] false).seq
   ((Code.cond (.tmp 15) (.refuse "too high") .skip).seq
   ((Code.region 3 #[aI.o 18 (.call {callee:=.value (.func 221),args:=#[.tmp 10,.tmp 11,.tmp 12,.tmp 13],argTypes:=#[9,9,9,3]}) 0] false).seq
   (Code.region 4 #[aI.o 19 (.extract (.tmp 18) 0) 38,aI.o 20 (.indexAddr 301 (.tmp 3) (.tmp 2)) 0,aI.st (.store 38 (.tmp 20) (.tmp 19)),aI.o 21 (.binOp .add 3 (.tmp 2) (.const ↑aG) 3) 3,aI.o 2 (.move (.tmp 21)) 3] false)))))))))).seq
 ((Code.region 5 #[aI.o 4 (.assign (.tmp 3)) 301] false).seq .ret))))))
def aI.code(k:FuncId):Option Code:=if k=43 then some (aI.or aI.rlock)else if k=44 then some (aI.or aI.runlock)else if k=35 then some (aI.or aI.lock)else if k=36 then some (aI.or aI.unlock)
 else if k=205 then some (aI.or aI.qH)
 else if[2,118,120,160,218,222].contains k then some (.refuse "not here")else none
def aI.iH(k:FuncId)(f:Func):Func:=match aI.code k with
 |some c=>{f with body:=some c}
 |none=>if f.body.isNone&&k !=186 then{f with name:= "none",origin:= "none" }else f
noncomputable def aI.prog:Program:={Tryz.prog with globals:=#[],rt:={Tryz.prog.rt with typeAssertionError:=0},funcs:=Tryz.prog.funcs.mapIdx aI.iH}
def aI.TR{α β:Type}(a:Array α)(f:Nat->α->β)(k):(a.mapIdx f)[k]?=(a[k]?).map (f k):=Array.getElem?_mapIdx
def aI.Yx:aI.prog.funcs=Tryz.prog.funcs.mapIdx aI.iH:=K8
def aI.at(k):aI.prog.funcs[k]?=(Tryz.prog.funcs[k]?).map (aI.iH k):=by rw[aI.Yx];generalize Tryz.prog.funcs=a;exact aI.TR a _ k
def xD:=@aI.at
def aI.Yy:(Tryz.prog.types.all λi=>i.zero.all HZ)=true:=K8
def aI.Yz:(Tryz.prog.types.all λi=>zS Tryz.prog.types.size i.desc)=true:=K8
def aI.fit{G:Gs}:Fit G aI.prog Tryz.prog where
 tab:=rfl;rts:=rfl;ta:=λe h=>by
  have:aI.prog.underlying 0=some (.tuple #[]):=by kernel_rfl
  have h:aI.prog.underlying 0=some (.pointer e):=h;rw[this]at h;cases h
 zero:=λi hi v hv=>by have:=AW.1 aI.Yy i hi;rw[hv]at this;exact this
 desc:=λi hi=>AW.1 aI.Yz i hi;none:=rfl;fol:=rfl;adp:=by show Tryz.prog.globals.size<=1;rw[Tryz.globals_size];decide
def pk:=@aI.fit
end
section
variable[VB]
def aI.X(k:FuncId):Prop:=(aI.code k).isSome=true
def aI.aaL{k}(h:¬aI.X k)(f):(aI.iH k f).body=f.body/\(aI.iH k f).ntmps=f.ntmps:=by
 have:aI.code k=none:=by unfold aI.X at h;cases a:aI.code k with
  |none=>rfl
  |some c=>rw[a]at h;exact absurd rfl h
 unfold aI.iH;rw[this];dsimp only;split<;>exact⟨rfl,rfl⟩
def YA:=@aI.aaL
def aI.keep(k f):(aI.iH k f).results=f.results/\(aI.iH k f).norace=f.norace:=by
 unfold aI.iH;split;.simp
 .grind
def aI.YB:aI.prog.types=Tryz.prog.types:=K8
def aI.inits_eq:aI.prog.inits=#[2]:=K8
def abD:=@aI.inits_eq
def aI.acO:(Tryz.prog.funcs.toList.zipIdx.all λx=>(aI.code x.2).isSome||x.1.body.all (eG aI.prog))=true:=K8
def aI.YC:(Tryz.prog.funcs.toList.zipIdx.all λx=>x.2==186||Cw (aI.iH x.2 x.1) x.1)=true:=K8
def aI.aaM:(Nj Tryz.prog.types λf=>(Tryz.prog.funcs[f]?).all λfn=>qq (aI.iH f fn))=true:=K8
def aI.acP{T}(h:(Tryz.prog.funcs.toList.zipIdx.all T)=true){k:FuncId}{f}(a:Tryz.prog.funcs[k]?=some f):T (f,k)=true:=by grind
def Q0:=@aI.acP
def aI.aaN(f):(aI.prog.funcs[f]?).all qq=(Tryz.prog.funcs[f]?).all λfn=>qq (aI.iH f fn):=by rw[xD];cases Tryz.prog.funcs[f]?<;>rfl
def aI.dry:D2 aI.prog=true:=by
 have h:D2 aI.prog=Nj Tryz.prog.types λf=>(Tryz.prog.funcs[f]?).all λfn=>qq (aI.iH f fn):=by rw[D2,aI.YB];exact congrArg _ (funext aI.aaN)
 rw[h];exact aI.aaM
def aI.kin:Cv aI.X aI.prog Tryz.prog where
 sort:=λf=>by rw[xD];cases Tryz.prog.funcs[f]? with
  |none=>rfl
  |some fn=>simp only[iN,(aI.keep f fn).1,(aI.keep f fn).2]
 same:=λf hX args k=>by unfold Frame.enter;rw[xD];cases Tryz.prog.funcs[f]? with
  |none=>rfl
  |some fn=>simp only[iN,O4,(YA hX fn).1,(YA hX fn).2]
 dry:=VW aI.dry;ok:=λf hX=>by
  constructor;.rw[xD];cases hf:Tryz.prog.funcs[f]? with
   |none=>rfl
   |some fn=>have:=Q0 aI.acO hf;simp only[OW]at this;simp only[iN,OZ,(YA hX fn).1];exact this.resolve_left hX
  .unfold xI;rw[abD];have:f≠2:=λh=>hX (by subst h;rfl);rw[aa6,aa7];simp[this]
def CY:=@aI.kin
def aI.calls{G}:kT G aI.prog Tryz.prog:=by intro Z R f args;cases a:Tryz.prog.funcs[f]? with
 |none=>refine iG ?_;rw[xD,a];exact aN rfl
 |some fn=>
   have c:aI.prog.funcs[f]?=some (aI.iH f fn):=by rw[xD,a];rfl
   have:=Q0 aI.YC a;simp at this;obtain rfl|h:=this
   .have b:fn=Tryz.f186:=by rw[Tryz.func186]at a;exact(kX a).symm
    have d:aI.iH 186 fn=fn:=by rw[b];kernel_rfl
    rw[d]at c;exact VZ c a (by rw[b];rfl) (by rw[b];rfl) (by rw[b];rfl) args
   .exact aR c a h args
def F3:=@aI.calls
end
section
variable[iv:VB]
def aI.ade{G:Gs}:Fit G aI.prog aI.prog where tab:=rfl;rts:=rfl;ta:=(pk (G:=G)).ta;zero:=(pk (G:=G)).zero;desc:=(pk (G:=G)).desc;none:=(pk (G:=G)).none;fol:=(pk (G:=G)).fol;adp:=by have:aI.prog.globals.size=0:=(pk (G:=G)).none;omega
def aI.aaQ:(Tryz.prog.funcs.toList.zipIdx.all λx=>(aI.iH x.2 x.1).body.all (eG aI.prog))=true:=by obtain⟨_|_⟩:=iv<;>kernel_rfl
def aI.TU:(Tryz.prog.funcs.toList.zipIdx.all λx=>x.2==186||Cw (aI.iH x.2 x.1) (aI.iH x.2 x.1))=true:=by obtain⟨_|_⟩:=iv<;>kernel_rfl
def aI.X0(k:FuncId):Prop:=k=2
def aI.UX:Cv aI.X0 aI.prog aI.prog where
 sort:=λf=>rfl;same:=λf hX args k=>rfl;dry:=VW aI.dry;ok:=λf hX=>by
  constructor;.rw[xD];cases hf:Tryz.prog.funcs[f]? with
   |none=>rfl
   |some fn=>exact Q0 aI.aaQ hf
  .unfold xI;rw[abD];have:f≠2:=hX;rw[aa6,aa7];simp[this]
def aI.UW{G}:kT G aI.prog aI.prog:=by intro Z R f args;cases a:Tryz.prog.funcs[f]? with
 |none=>refine iG ?_;rw[xD,a];exact aN rfl
 |some fn=>
   have b:aI.prog.funcs[f]?=some (aI.iH f fn):=by rw[xD,a];rfl
   have:=Q0 aI.TU a;simp at this;obtain rfl|h:=this
   .have c:fn=Tryz.f186:=by rw[Tryz.func186]at a;exact(kX a).symm
    exact VZ b b (by rw[c];rfl) (by rw[c];rfl) (by rw[c];rfl) args
   .exact aR b b h args
end
abbrev gH.vb:VB:=⟨false⟩
noncomputable abbrev gH.prog:Program:=@aI.prog gH.vb
abbrev gH.X(k:FuncId):Prop:=@aI.X gH.vb k
def gH.ref{f c}(h:@aI.code gH.vb f=some c):c=.refuse "not here" :=by
 unfold aI.code at h;repeat' split at h
 all_goals first|(cases h;rfl)|cases h
def gH.there:(List.range 400).all (λf=>(@aI.code gH.vb f).isNone||(Tryz.prog.funcs[f]?).isSome)=true:=K8
def gH.low(f:Nat){c}(a:@aI.code gH.vb f=some c):f<400:=by
 unfold aI.code at a;repeat' split at a
 all_goals first|(cases a;done)|(subst_vars;decide)|(rename_i h;simp at h;obtain rfl|rfl|rfl|rfl|rfl|rfl:=h<;>decide)
def gH.refused(f)(h:gH.X f):∃fn s,gH.prog.funcs[f]?=some fn/\fn.body=some (.refuse s):=by obtain⟨c,a⟩:=aa3.1 h;have:=AV.1 gH.there f (yq.2 (gH.low f a));cases b:Tryz.prog.funcs[f]? with
 |none=>rw[a,b]at this;cases this
 |some fn=>refine⟨@aI.iH gH.vb f fn, "not here",by rw[@aI.at gH.vb,b];rfl,?_⟩;unfold aI.iH;rw[a,gH.ref a]
def abb:=@gH.refused
end Go.Proofs
namespace Go.Proofs
instance:VB:=⟨true⟩
def aI.or_eq(c):aI.or c=c:=rfl
def Ep:=@aI.or_eq
end Go.Proofs
namespace Go.Proofs.aH
open Go.RowKit
structure jR where
 tx:ByteArray
 idx:Int
 key:ByteArray
structure eY where
 val:Int
 lock:ByteArray
def aae(w:World)(b o:Nat)(x:jR):Prop:=w.cell? ⟨b,o,none⟩=some (.string x.tx)/\w.cell? ⟨b,o+1,none⟩=some (.int .i64 x.idx)/\w.cell? ⟨b,o+2,none⟩=some (.string x.key)
def QB(w:World)(b o:Nat)(x:eY):Prop:=w.cell? ⟨b,o,none⟩=some (.int .i64 x.val)/\w.cell? ⟨b,o+1,none⟩=some (.string x.lock)
structure vF(w:World)(v:Value)(l:List jR):Prop where
 form:∃a c,v=.slice a l.length c/\(l≠[]->∃b o,a=some ⟨b,o,none⟩/\∀i x,l[i]?=some x->aae w b (o+i*3) x)
 len:l.length<=140737488355328
structure qA(w:World)(v:Value)(l:List eY):Prop where
 form:∃a c,v=.slice a l.length c/\(l≠[]->∃b o,a=some ⟨b,o,none⟩/\∀i x,l[i]?=some x->QB w b (o+i*2) x)
 len:l.length<=140737488355328
structure dA where
 tag:Int
 iv:Value
 ins:List jR
 ov:Value
 outs:List eY
structure aaf(w:World)(b o:Nat)(t:dA):Prop where
 tag:w.cell? ⟨b,o,none⟩=some (.int .i64 t.tag)
 iv:w.cell? ⟨b,o+1,none⟩=some t.iv
 ov:w.cell? ⟨b,o+2,none⟩=some t.ov
 ins:vF w t.iv t.ins
 outs:qA w t.ov t.outs
structure xy(w:World)(v:Value)(l:List dA):Prop where
 form:∃a c,v=.slice a l.length c/\(l≠[]->∃b o,a=some ⟨b,o,none⟩/\∀i t,l[i]?=some t->aaf w b (o+i*3) t)
 len:l.length<=140737488355328
def aW{w w'}(b:Below w.heap.size w w'){a v}(h:w.cell? a=some v):w'.cell? a=some v:=by rw[b.cell (World.block_lt_of_cell? w a h)];exact h
def aae.keep{w w' b o x}(h:aae w b o x)(a:Below w w w'):aae w' b o x:=⟨aW a h.1,aW a h.2.1,aW a h.2.2⟩
def QB.keep{w w' b o x}(h:QB w b o x)(a:Below w w w'):QB w' b o x:=⟨aW a h.1,aW a h.2⟩
def vF.keep{w w' v l}(h:vF w v l)(e:Below w w w'):vF w' v l:=by obtain⟨⟨a,c,m,g⟩,j⟩:=h;refine⟨⟨a,c,m,λk=>?_⟩,j⟩;obtain⟨b,o,d,f⟩:=g k;exact⟨b,o,d,λi x n=>(f i x n).keep e⟩
def qA.keep{w w' v l}(h:qA w v l)(e:Below w w w'):qA w' v l:=by obtain⟨⟨a,c,m,g⟩,j⟩:=h;refine⟨⟨a,c,m,λk=>?_⟩,j⟩;obtain⟨b,o,d,f⟩:=g k;exact⟨b,o,d,λi x n=>(f i x n).keep e⟩
def aaf.keep{w w' b o t}(h:aaf w b o t)(a:Below w w w'):aaf w' b o t:=⟨aW a h.tag,aW a h.iv,aW a h.ov,h.ins.keep a,h.outs.keep a⟩
def xy.keep{w w' v l}(h:xy w v l)(e:Below w w w'):xy w' v l:=by obtain⟨⟨a,c,m,g⟩,j⟩:=h;refine⟨⟨a,c,m,λk=>?_⟩,j⟩;obtain⟨b,o,d,f⟩:=g k;exact⟨b,o,d,λi x n=>(f i x n).keep e⟩
def vE{w wr:World}{cs t}(a:Below (w+1) (w.alloc (.cells cs t)) wr)(j v)(h:cs[j]?=some v):wr.cell? ⟨(w:Nat),j,none⟩=some v:=by
 rw[a.cell (p:=((w:Nat),j)) (o7 _)];simp;simp[h]
def Ar{w wr o}(a:Below (↑w+1) (w.alloc o) wr):Below w.heap.size w wr:=(B0.alloc L9 _).trans (a.mono (qN _))
def BD{B w0 wr w' o}(a:Below B w0 wr)(c:B<=w0)(b:Below (wr.alloc o) (wr.alloc o) w'):Below B w0 w':=by have h:=a.size;exact(a.alloc O9 o).trans (b.mono (by simp;omega))
def nI{B w0 wr w'}(a:Below B w0 wr)(c:B<=w0)(b:Below wr wr w'):Below B w0 w':=by have h:=a.size;exact a.trans (b.mono O9)
end Go.Proofs.aH
namespace Go.Proofs
open Go.Ren
section
variable[VB]
def aI.aaO(t:TypeId):aI.prog.info? t=Tryz.prog.info? t:=((pk (G:=Gs.self)).info t).symm
def YD:=@aI.aaO
def aI.YE(t:TypeId):aI.prog.underlying t=Tryz.prog.underlying t:=((pk (G:=Gs.self)).under t).symm
def YF:=@aI.YE
def aI.YG:aI.prog.depth=Tryz.prog.depth:=(pk (G:=Gs.self)).depth.symm
def aI.aaP(t:TypeId)(w:World):Sem.run aI.prog (typeInfo t) w=Sem.run Tryz.prog (typeInfo t) w:=by have h:=YD t;generalize aI.prog=V at h;generalize Tryz.prog=P at h;show Sem.run V (match V.info? t with|some i=>pure i|none=>stuck "no such type") w=Sem.run P (match P.info? t with|some i=>pure i|none=>stuck "no such type") w;rw[h];cases P.info? t<;>rfl
def aI.TS(t:TypeId)(w:World):Sem.run aI.prog (underlying t) w=Sem.run Tryz.prog (underlying t) w:=by have h:=YF t;generalize aI.prog=V at h;generalize Tryz.prog=P at h;show Sem.run V (match V.underlying t with|some i=>pure i|none=>stuck "no such type") w=Sem.run P (match P.underlying t with|some i=>pure i|none=>stuck "no such type") w;rw[h];cases P.underlying t<;>rfl
def aI.OG(t:TypeId)(w:World):Sem.run aI.prog (sizeOf t) w=Sem.run Tryz.prog (sizeOf t) w:=by have h:=YD t;generalize aI.prog=V at h;generalize Tryz.prog=P at h;show Sem.run V ((match V.info? t with|some i=>(pure i:Sem TypeInfo)|none=>stuck "no such type")>>=fun i=>pure i.size) w=Sem.run P ((match P.info? t with|some i=>(pure i:Sem TypeInfo)|none=>stuck "no such type")>>=fun i=>pure i.size) w;rw[h];cases P.info? t<;>rfl
def aI.TT(t:TypeId)(w:World):Sem.run aI.prog (isAgg t) w=Sem.run Tryz.prog (isAgg t) w:=by have h:=YF t;generalize aI.prog=V at h;generalize Tryz.prog=P at h;unfold isAgg underlying;show Sem.run V ((match V.underlying t with|some i=>(pure i:Sem TypeDesc)|none=>stuck "no such type")>>=_) w=Sem.run P ((match P.underlying t with|some i=>(pure i:Sem TypeDesc)|none=>stuck "no such type")>>=_) w;rw[h];cases P.underlying t with
 |none=>rfl
 |some d=>cases d<;>rfl
def aI.YH(t:TypeId)(w:World):Sem.run aI.prog (zeroValue t) w=Sem.run Tryz.prog (zeroValue t) w:=by have h:=YD t;generalize aI.prog=V at h;generalize Tryz.prog=P at h;unfold zeroValue typeInfo;show Sem.run V ((match V.info? t with|some i=>(pure i:Sem TypeInfo)|none=>stuck "no such type")>>=_) w=Sem.run P ((match P.info? t with|some i=>(pure i:Sem TypeInfo)|none=>stuck "no such type")>>=_) w;rw[h];cases P.info? t with
 |none=>rfl
 |some i=>show Sem.run V (match i.zero with|some v=>pure v|none=>_) w=Sem.run P (match i.zero with|some v=>pure v|none=>_) w;cases i.zero<;>rfl
def aI.zm(t:TypeId):aI.prog.eqGuardType aI.prog.depth t=Tryz.prog.eqGuardType Tryz.prog.depth t:=by rw[aI.YG];exact(u9 (pk (G:=Gs.self)) _ t).symm
def aI.zl(t:TypeId):aI.prog.stoodInHeld t=Tryz.prog.stoodInHeld t:=(nZ (pk (G:=Gs.self)) t).symm
def aI.mS{k:FuncId}{f f':Func}(h:Tryz.prog.funcs[k]?=some f)(a:aI.iH k f=f'):aI.prog.funcs[k]?=some f':=by rw[xD,h,<-a];rfl
def aI.aQ{k:FuncId}{f:Func}(h:Tryz.prog.funcs[k]?=some f)(a:aI.iH k f=f:=by kernel_rfl):aI.prog.funcs[k]?=some f:=aI.mS h a
def aI.aR{k:FuncId}{f:Func}(h:aI.prog.funcs[k]?=some f)(a:(f.name != "runtime.NumGoroutine" &&f.body.isSome)=true)(args:Array Value)(w:World):Sem.run aI.prog (callFunc k args) w=.ok (.enter k args) w:=by
 generalize aI.prog=V at h;simp only[dJ,bne_iff_ne,wV]at a;have b:(f.name== "runtime.NumGoroutine")=false:=by simpa using a.1
 have c:f.body.isNone=false:=by cases d:f.body<;>simp_all
 unfold callFunc;show Sem.run V (match V.funcs[k]? with|none=>_|some fn=>_) w=_;rw[h];simp only[b,c];rfl
def aI.dM{t:TypeId}{r:World->_}(h:∀w,Sem.run Tryz.prog (sizeOf t) w=r w)(w:World):Sem.run aI.prog (sizeOf t) w=r w:=(aI.OG t w).trans (h w)
def aI.dR{t:TypeId}{r:World->_}(h:∀w,Sem.run Tryz.prog (underlying t) w=r w)(w:World):Sem.run aI.prog (underlying t) w=r w:=(aI.TS t w).trans (h w)
def aI.fC{t:TypeId}{r:World->_}(h:∀w,Sem.run Tryz.prog (isAgg t) w=r w)(w:World):Sem.run aI.prog (isAgg t) w=r w:=(aI.TT t w).trans (h w)
def aI.lB{t:TypeId}{r:World->_}(h:∀w,Sem.run Tryz.prog (zeroValue t) w=r w)(w:World):Sem.run aI.prog (zeroValue t) w=r w:=(aI.YH t w).trans (h w)
def aI.jS{t:TypeId}{d:Option TypeDesc}(h:Tryz.prog.underlying t=d):aI.prog.underlying t=d:=(YF t).trans h
end
end Go.Proofs
namespace Go.Proofs.aI
section
variable[VB]
@[simp] def sizeOf4:=dM Tryz.sizeOf4
@[simp] def underlying4:=jS Tryz.underlying4
@[simp] def runUnderlying4:=dR Tryz.runUnderlying4
@[simp] def isAgg4:=fC Tryz.isAgg4
@[simp] def zeroValue4:=lB Tryz.zeroValue4
@[simp] def underlying20:=jS Tryz.underlying20
@[simp] def sizeOf40:=dM Tryz.sizeOf40
@[simp] def underlying40:=jS Tryz.underlying40
@[simp] def isAgg40:=fC Tryz.isAgg40
@[simp] def runUnderlying44:=dR Tryz.runUnderlying44
@[simp] def zeroValue44:=lB Tryz.zeroValue44
@[simp] def sizeOf48:=dM Tryz.sizeOf48
@[simp] def underlying48:=jS Tryz.underlying48
@[simp] def runUnderlying48:=dR Tryz.runUnderlying48
@[simp] def isAgg48:=fC Tryz.isAgg48
@[simp] def zeroValue48:=lB Tryz.zeroValue48
@[simp] def stoodInHeld48:=(zl 48).trans Tryz.stoodInHeld48
@[simp] def sizeOf60:=dM Tryz.sizeOf60
@[simp] def underlying60:=jS Tryz.underlying60
@[simp] def runUnderlying60:=dR Tryz.runUnderlying60
@[simp] def isAgg60:=fC Tryz.isAgg60
@[simp] def zeroValue60:=lB Tryz.zeroValue60
@[simp] def eqGuardType60:=(zm 60).trans Tryz.eqGuardType60
@[simp] def stoodInHeld60:=(zl 60).trans Tryz.stoodInHeld60
@[simp] def sizeOf88:=dM Tryz.sizeOf88
@[simp] def underlying88:=jS Tryz.underlying88
@[simp] def runUnderlying88:=dR Tryz.runUnderlying88
@[simp] def isAgg88:=fC Tryz.isAgg88
@[simp] def underlying96:=jS Tryz.underlying96
@[simp] def runUnderlying96:=dR Tryz.runUnderlying96
@[simp] def sizeOf104:=dM Tryz.sizeOf104
@[simp] def underlying104:=jS Tryz.underlying104
@[simp] def isAgg104:=fC Tryz.isAgg104
@[simp] def sizeOf120:=dM Tryz.sizeOf120
@[simp] def runUnderlying120:=dR Tryz.runUnderlying120
@[simp] def sizeOf128:=dM Tryz.sizeOf128
@[simp] def runUnderlying128:=dR Tryz.runUnderlying128
@[simp] def zeroValue128:=lB Tryz.zeroValue128
@[simp] def sizeOf132:=dM Tryz.sizeOf132
@[simp] def underlying132:=jS Tryz.underlying132
@[simp] def isAgg132:=fC Tryz.isAgg132
@[simp] def zeroValue132:=lB Tryz.zeroValue132
@[simp] def sizeOf156:=dM Tryz.sizeOf156
@[simp] def runUnderlying156:=dR Tryz.runUnderlying156
@[simp] def zeroValue156:=lB Tryz.zeroValue156
@[simp] def sizeOf192:=dM Tryz.sizeOf192
@[simp] def isAgg192:=fC Tryz.isAgg192
@[simp] def runUnderlying196:=dR Tryz.runUnderlying196
@[simp] def zeroValue196:=lB Tryz.zeroValue196
@[simp] def sizeOf224:=dM Tryz.sizeOf224
@[simp] def runUnderlying224:=dR Tryz.runUnderlying224
@[simp] def zeroValue224:=lB Tryz.zeroValue224
@[simp] def func12:=aQ Tryz.func12
@[simp] def call12:=aR func12 (by kernel_rfl)
@[simp] def func28:=aQ Tryz.func28
@[simp] def call28:=aR func28 (by kernel_rfl)
@[simp] def func32:=aQ Tryz.func32
@[simp] def call32:=aR func32 (by kernel_rfl)
noncomputable def f36:Func:=iH 36 Tryz.f36
@[simp] theorem func36:prog.funcs[36]?=some f36:=mS Tryz.func36 rfl
def NH:f36.ntmps=Tryz.f36.ntmps:=K8
@[simp] def ntmps36:=NH.trans Tryz.ntmps36
@[simp] def call36:=aR func36 (by kernel_rfl)
@[simp] def func40:=aQ Tryz.func40
@[simp] def call40:=aR func40 (by kernel_rfl)
noncomputable def f44:Func:=iH 44 Tryz.f44
@[simp] theorem func44:prog.funcs[44]?=some f44:=mS Tryz.func44 rfl
def NI:f44.ntmps=Tryz.f44.ntmps:=K8
@[simp] def ntmps44:=NI.trans Tryz.ntmps44
@[simp] def call44:=aR func44 (by kernel_rfl)
@[simp] def func60:=aQ Tryz.func60
@[simp] def call60:=aR func60 (by kernel_rfl)
@[simp] def func64:=aQ Tryz.func64
@[simp] def call64:=aR func64 (by kernel_rfl)
@[simp] def func80:=aQ Tryz.func80
@[simp] def call80:=aR func80 (by kernel_rfl)
@[simp] def func84:=aQ Tryz.func84
@[simp] def call84:=aR func84 (by kernel_rfl)
@[simp] def func88:=aQ Tryz.func88
@[simp] def call88:=aR func88 (by kernel_rfl)
@[simp] def func112:=aQ Tryz.func112
@[simp] def call112:=aR func112 (by kernel_rfl)
@[simp] def func116:=aQ Tryz.func116
@[simp] def call116:=aR func116 (by kernel_rfl)
noncomputable def f120:Func:=iH 120 Tryz.f120
@[simp] theorem func120:prog.funcs[120]?=some f120:=mS Tryz.func120 rfl
@[simp] def func124:=aQ Tryz.func124
@[simp] def call124:=aR func124 (by kernel_rfl)
@[simp] def func128:=aQ Tryz.func128
@[simp] def call128:=aR func128 (by kernel_rfl)
@[simp] def func152:=aQ Tryz.func152
@[simp] def call152:=aR func152 (by kernel_rfl)
@[simp] def func156:=aQ Tryz.func156
@[simp] def call156:=aR func156 (by kernel_rfl)
noncomputable def f160:Func:=iH 160 Tryz.f160
@[simp] theorem func160:prog.funcs[160]?=some f160:=mS Tryz.func160 rfl
@[simp] def func164:=aQ Tryz.func164
@[simp] def func176:=aQ Tryz.func176
@[simp] def call176:=aR func176 (by kernel_rfl)
@[simp] def func188:=aQ Tryz.func188
@[simp] def call188:=aR func188 (by kernel_rfl)
@[simp] def func192:=aQ Tryz.func192
@[simp] def call192:=aR func192 (by kernel_rfl)
@[simp] def func204:=aQ Tryz.func204
@[simp] def call204:=aR func204 (by kernel_rfl)
@[simp] def func216:=aQ Tryz.func216
@[simp] def call216:=aR func216 (by kernel_rfl)
@[simp] def func236:=aQ Tryz.func236
@[simp] def call236:=aR func236 (by kernel_rfl)
@[simp] def func260:=aQ Tryz.func260
@[simp] def call260:=aR func260 (by kernel_rfl)
@[simp] def func264:=aQ Tryz.func264
@[simp] def call264:=aR func264 (by kernel_rfl)
@[simp] def func268:=aQ Tryz.func268
@[simp] def call268:=aR func268 (by kernel_rfl)
end
section
variable[VB]
@[simp] def sizeOf5:=dM Tryz.sizeOf5
@[simp] def underlying5:=jS Tryz.underlying5
@[simp] def isAgg5:=fC Tryz.isAgg5
@[simp] def zeroValue5:=lB Tryz.zeroValue5
@[simp] def sizeOf9:=dM Tryz.sizeOf9
@[simp] def underlying9:=jS Tryz.underlying9
@[simp] def runUnderlying9:=dR Tryz.runUnderlying9
@[simp] def isAgg9:=fC Tryz.isAgg9
@[simp] def zeroValue9:=lB Tryz.zeroValue9
@[simp] def sizeOf21:=dM Tryz.sizeOf21
@[simp] def isAgg21:=fC Tryz.isAgg21
@[simp] def sizeOf33:=dM Tryz.sizeOf33
@[simp] def underlying33:=jS Tryz.underlying33
@[simp] def runUnderlying33:=dR Tryz.runUnderlying33
@[simp] def isAgg33:=fC Tryz.isAgg33
@[simp] def sizeOf37:=dM Tryz.sizeOf37
@[simp] def underlying37:=jS Tryz.underlying37
@[simp] def runUnderlying37:=dR Tryz.runUnderlying37
@[simp] def isAgg37:=fC Tryz.isAgg37
@[simp] def zeroValue37:=lB Tryz.zeroValue37
@[simp] def eqGuardType37:=(zm 37).trans Tryz.eqGuardType37
@[simp] def stoodInHeld37:=(zl 37).trans Tryz.stoodInHeld37
@[simp] def sizeOf41:=dM Tryz.sizeOf41
@[simp] def underlying41:=jS Tryz.underlying41
@[simp] def runUnderlying41:=dR Tryz.runUnderlying41
@[simp] def isAgg41:=fC Tryz.isAgg41
@[simp] def underlying53:=jS Tryz.underlying53
@[simp] def runUnderlying53:=dR Tryz.runUnderlying53
@[simp] def sizeOf93:=dM Tryz.sizeOf93
@[simp] def runUnderlying93:=dR Tryz.runUnderlying93
@[simp] def isAgg93:=fC Tryz.isAgg93
@[simp] def zeroValue93:=lB Tryz.zeroValue93
@[simp] def sizeOf113:=dM Tryz.sizeOf113
@[simp] def runUnderlying113:=dR Tryz.runUnderlying113
@[simp] def sizeOf121:=dM Tryz.sizeOf121
@[simp] def underlying121:=jS Tryz.underlying121
@[simp] def runUnderlying121:=dR Tryz.runUnderlying121
@[simp] def isAgg121:=fC Tryz.isAgg121
@[simp] def sizeOf125:=dM Tryz.sizeOf125
@[simp] def runUnderlying125:=dR Tryz.runUnderlying125
@[simp] def isAgg125:=fC Tryz.isAgg125
@[simp] def zeroValue125:=lB Tryz.zeroValue125
@[simp] def sizeOf169:=dM Tryz.sizeOf169
@[simp] def runUnderlying169:=dR Tryz.runUnderlying169
@[simp] def isAgg169:=fC Tryz.isAgg169
@[simp] def zeroValue169:=lB Tryz.zeroValue169
@[simp] def runUnderlying181:=dR Tryz.runUnderlying181
@[simp] def zeroValue181:=lB Tryz.zeroValue181
@[simp] def underlying301:=jS Tryz.underlying301
@[simp] def underlying329:=jS Tryz.underlying329
@[simp] def sizeOf337:=dM Tryz.sizeOf337
@[simp] def underlying337:=jS Tryz.underlying337
@[simp] def func9:=aQ Tryz.func9
@[simp] def call9:=aR func9 (by kernel_rfl)
@[simp] def func13:=aQ Tryz.func13
@[simp] def call13:=aR func13 (by kernel_rfl)
@[simp] def func25:=aQ Tryz.func25
@[simp] def call25:=aR func25 (by kernel_rfl)
@[simp] def func29:=aQ Tryz.func29
@[simp] def call29:=aR func29 (by kernel_rfl)
@[simp] def func33:=aQ Tryz.func33
@[simp] def call33:=aR func33 (by kernel_rfl)
@[simp] def func37:=aQ Tryz.func37
@[simp] def call37:=aR func37 (by kernel_rfl)
@[simp] def func41:=aQ Tryz.func41
@[simp] def call41:=aR func41 (by kernel_rfl)
@[simp] def func45:=aQ Tryz.func45
@[simp] def call45:=aR func45 (by kernel_rfl)
@[simp] def func57:=aQ Tryz.func57
@[simp] def call57:=aR func57 (by kernel_rfl)
@[simp] def func61:=aQ Tryz.func61
@[simp] def call61:=aR func61 (by kernel_rfl)
@[simp] def func65:=aQ Tryz.func65
@[simp] def call65:=aR func65 (by kernel_rfl)
@[simp] def func81:=aQ Tryz.func81
@[simp] def func85:=aQ Tryz.func85
@[simp] def call85:=aR func85 (by kernel_rfl)
@[simp] def func113:=aQ Tryz.func113
@[simp] def call113:=aR func113 (by kernel_rfl)
@[simp] def func117:=aQ Tryz.func117
@[simp] def call117:=aR func117 (by kernel_rfl)
@[simp] def func121:=aQ Tryz.func121
@[simp] def call121:=aR func121 (by kernel_rfl)
@[simp] def func125:=aQ Tryz.func125
@[simp] def call125:=aR func125 (by kernel_rfl)
@[simp] def func129:=aQ Tryz.func129
@[simp] def call129:=aR func129 (by kernel_rfl)
@[simp] def func153:=aQ Tryz.func153
@[simp] def call153:=aR func153 (by kernel_rfl)
@[simp] def func157:=aQ Tryz.func157
@[simp] def call157:=aR func157 (by kernel_rfl)
@[simp] def func165:=aQ Tryz.func165
@[simp] def call165:=aR func165 (by kernel_rfl)
@[simp] def func185:=aQ Tryz.func185
@[simp] def call185:=aR func185 (by kernel_rfl)
@[simp] def func189:=aQ Tryz.func189
@[simp] def call189:=aR func189 (by kernel_rfl)
@[simp] def func193:=aQ Tryz.func193
@[simp] def call193:=aR func193 (by kernel_rfl)
noncomputable def f205:Func:=iH 205 Tryz.f205
@[simp] theorem func205:prog.funcs[205]?=some f205:=mS Tryz.func205 rfl
def KS:f205.ntmps=Tryz.f205.ntmps:=K8
@[simp] def ntmps205:=KS.trans Tryz.ntmps205
@[simp] def call205:=aR func205 (by kernel_rfl)
@[simp] def func217:=aQ Tryz.func217
@[simp] def call217:=aR func217 (by kernel_rfl)
@[simp] def func221:=aQ Tryz.func221
@[simp] def call221:=aR func221 (by kernel_rfl)
@[simp] def func237:=aQ Tryz.func237
@[simp] def call237:=aR func237 (by kernel_rfl)
@[simp] def func245:=aQ Tryz.func245
@[simp] def call245:=aR func245 (by kernel_rfl)
@[simp] def func257:=aQ Tryz.func257
@[simp] def call257:=aR func257 (by kernel_rfl)
@[simp] def func261:=aQ Tryz.func261
@[simp] def call261:=aR func261 (by kernel_rfl)
@[simp] def func265:=aQ Tryz.func265
@[simp] def call265:=aR func265 (by kernel_rfl)
end
section
variable[VB]
@[simp] def sizeOf26:=dM Tryz.sizeOf26
@[simp] def runUnderlying26:=dR Tryz.runUnderlying26
@[simp] def isAgg26:=fC Tryz.isAgg26
@[simp] def zeroValue26:=lB Tryz.zeroValue26
@[simp] def underlying30:=jS Tryz.underlying30
@[simp] def sizeOf38:=dM Tryz.sizeOf38
@[simp] def underlying38:=jS Tryz.underlying38
@[simp] def isAgg38:=fC Tryz.isAgg38
@[simp] def zeroValue38:=lB Tryz.zeroValue38
@[simp] def sizeOf42:=dM Tryz.sizeOf42
@[simp] def underlying42:=jS Tryz.underlying42
@[simp] def runUnderlying42:=dR Tryz.runUnderlying42
@[simp] def isAgg42:=fC Tryz.isAgg42
@[simp] def zeroValue42:=lB Tryz.zeroValue42
@[simp] def sizeOf50:=dM Tryz.sizeOf50
@[simp] def runUnderlying50:=dR Tryz.runUnderlying50
@[simp] def isAgg50:=fC Tryz.isAgg50
@[simp] def zeroValue50:=lB Tryz.zeroValue50
@[simp] def underlying58:=jS Tryz.underlying58
@[simp] def runUnderlying58:=dR Tryz.runUnderlying58
@[simp] def sizeOf86:=dM Tryz.sizeOf86
@[simp] def runUnderlying86:=dR Tryz.runUnderlying86
@[simp] def isAgg86:=fC Tryz.isAgg86
@[simp] def zeroValue86:=lB Tryz.zeroValue86
@[simp] def sizeOf90:=dM Tryz.sizeOf90
@[simp] def runUnderlying90:=dR Tryz.runUnderlying90
@[simp] def isAgg90:=fC Tryz.isAgg90
@[simp] def zeroValue90:=lB Tryz.zeroValue90
@[simp] def sizeOf106:=dM Tryz.sizeOf106
@[simp] def runUnderlying106:=dR Tryz.runUnderlying106
@[simp] def isAgg106:=fC Tryz.isAgg106
@[simp] def zeroValue106:=lB Tryz.zeroValue106
@[simp] def sizeOf118:=dM Tryz.sizeOf118
@[simp] def runUnderlying118:=dR Tryz.runUnderlying118
@[simp] def sizeOf122:=dM Tryz.sizeOf122
@[simp] def underlying122:=jS Tryz.underlying122
@[simp] def runUnderlying122:=dR Tryz.runUnderlying122
@[simp] def isAgg122:=fC Tryz.isAgg122
@[simp] def zeroValue122:=lB Tryz.zeroValue122
@[simp] def sizeOf126:=dM Tryz.sizeOf126
@[simp] def underlying126:=jS Tryz.underlying126
@[simp] def runUnderlying126:=dR Tryz.runUnderlying126
@[simp] def isAgg126:=fC Tryz.isAgg126
@[simp] def runUnderlying130:=dR Tryz.runUnderlying130
@[simp] def zeroValue130:=lB Tryz.zeroValue130
@[simp] def sizeOf154:=dM Tryz.sizeOf154
@[simp] def underlying154:=jS Tryz.underlying154
@[simp] def runUnderlying154:=dR Tryz.runUnderlying154
@[simp] def isAgg154:=fC Tryz.isAgg154
@[simp] def underlying158:=jS Tryz.underlying158
@[simp] def runUnderlying158:=dR Tryz.runUnderlying158
@[simp] def underlying170:=jS Tryz.underlying170
@[simp] def sizeOf194:=dM Tryz.sizeOf194
@[simp] def underlying194:=jS Tryz.underlying194
@[simp] def isAgg194:=fC Tryz.isAgg194
@[simp] def sizeOf234:=dM Tryz.sizeOf234
@[simp] def runUnderlying234:=dR Tryz.runUnderlying234
@[simp] def isAgg234:=fC Tryz.isAgg234
@[simp] def zeroValue234:=lB Tryz.zeroValue234
@[simp] def underlying242:=jS Tryz.underlying242
@[simp] def runUnderlying242:=dR Tryz.runUnderlying242
@[simp] def underlying254:=jS Tryz.underlying254
@[simp] def sizeOf266:=dM Tryz.sizeOf266
@[simp] def runUnderlying266:=dR Tryz.runUnderlying266
@[simp] def zeroValue266:=lB Tryz.zeroValue266
@[simp] def underlying294:=jS Tryz.underlying294
@[simp] def zeroValue294:=lB Tryz.zeroValue294
@[simp] def sizeOf298:=dM Tryz.sizeOf298
@[simp] def underlying298:=jS Tryz.underlying298
@[simp] def runUnderlying298:=dR Tryz.runUnderlying298
@[simp] def isAgg298:=fC Tryz.isAgg298
@[simp] def zeroValue298:=lB Tryz.zeroValue298
@[simp] def eqGuardType298:=(zm 298).trans Tryz.eqGuardType298
@[simp] def stoodInHeld298:=(zl 298).trans Tryz.stoodInHeld298
noncomputable def f2:Func:=iH 2 Tryz.f2
@[simp] theorem func2:prog.funcs[2]?=some f2:=mS Tryz.func2 rfl
@[simp] def func6:=aQ Tryz.func6
@[simp] def func10:=aQ Tryz.func10
@[simp] def call10:=aR func10 (by kernel_rfl)
@[simp] def func14:=aQ Tryz.func14
@[simp] def call14:=aR func14 (by kernel_rfl)
@[simp] def func22:=aQ Tryz.func22
@[simp] def call22:=aR func22 (by kernel_rfl)
@[simp] def func26:=aQ Tryz.func26
@[simp] def call26:=aR func26 (by kernel_rfl)
@[simp] def func30:=aQ Tryz.func30
@[simp] def call30:=aR func30 (by kernel_rfl)
@[simp] def func34:=aQ Tryz.func34
@[simp] def call34:=aR func34 (by kernel_rfl)
@[simp] def func38:=aQ Tryz.func38
@[simp] def call38:=aR func38 (by kernel_rfl)
@[simp] def func42:=aQ Tryz.func42
@[simp] def call42:=aR func42 (by kernel_rfl)
@[simp] def func46:=aQ Tryz.func46
@[simp] def call46:=aR func46 (by kernel_rfl)
@[simp] def func58:=aQ Tryz.func58
@[simp] def call58:=aR func58 (by kernel_rfl)
@[simp] def func62:=aQ Tryz.func62
@[simp] def func66:=aQ Tryz.func66
@[simp] def call66:=aR func66 (by kernel_rfl)
@[simp] def func82:=aQ Tryz.func82
@[simp] def func86:=aQ Tryz.func86
@[simp] def call86:=aR func86 (by kernel_rfl)
@[simp] def func106:=aQ Tryz.func106
@[simp] def call106:=aR func106 (by kernel_rfl)
@[simp] def func114:=aQ Tryz.func114
@[simp] def call114:=aR func114 (by kernel_rfl)
noncomputable def f118:Func:=iH 118 Tryz.f118
@[simp] theorem func118:prog.funcs[118]?=some f118:=mS Tryz.func118 rfl
@[simp] def func122:=aQ Tryz.func122
@[simp] def call122:=aR func122 (by kernel_rfl)
@[simp] def func126:=aQ Tryz.func126
@[simp] def func130:=aQ Tryz.func130
@[simp] def call130:=aR func130 (by kernel_rfl)
@[simp] def func146:=aQ Tryz.func146
@[simp] def call146:=aR func146 (by kernel_rfl)
@[simp] def func150:=aQ Tryz.func150
@[simp] def call150:=aR func150 (by kernel_rfl)
@[simp] def func154:=aQ Tryz.func154
@[simp] def call154:=aR func154 (by kernel_rfl)
@[simp] def func158:=aQ Tryz.func158
@[simp] def call158:=aR func158 (by kernel_rfl)
@[simp] def func162:=aQ Tryz.func162
@[simp] def func166:=aQ Tryz.func166
@[simp] def func190:=aQ Tryz.func190
@[simp] def call190:=aR func190 (by kernel_rfl)
@[simp] def func194:=aQ Tryz.func194
@[simp] def call194:=aR func194 (by kernel_rfl)
@[simp] def func202:=aQ Tryz.func202
@[simp] def call202:=aR func202 (by kernel_rfl)
@[simp] def func206:=aQ Tryz.func206
@[simp] def func214:=aQ Tryz.func214
@[simp] def call214:=aR func214 (by kernel_rfl)
noncomputable def f218:Func:=iH 218 Tryz.f218
@[simp] theorem func218:prog.funcs[218]?=some f218:=mS Tryz.func218 rfl
noncomputable def f222:Func:=iH 222 Tryz.f222
@[simp] theorem func222:prog.funcs[222]?=some f222:=mS Tryz.func222 rfl
@[simp] def func226:=aQ Tryz.func226
@[simp] def call226:=aR func226 (by kernel_rfl)
@[simp] def func234:=aQ Tryz.func234
@[simp] def call234:=aR func234 (by kernel_rfl)
@[simp] def func238:=aQ Tryz.func238
@[simp] def call238:=aR func238 (by kernel_rfl)
@[simp] def func250:=aQ Tryz.func250
@[simp] def call250:=aR func250 (by kernel_rfl)
@[simp] def func262:=aQ Tryz.func262
@[simp] def call262:=aR func262 (by kernel_rfl)
@[simp] def func266:=aQ Tryz.func266
@[simp] def call266:=aR func266 (by kernel_rfl)
end
section
variable[VB]
@[simp] def sizeOf3:=dM Tryz.sizeOf3
@[simp] def underlying3:=jS Tryz.underlying3
@[simp] def runUnderlying3:=dR Tryz.runUnderlying3
@[simp] def isAgg3:=fC Tryz.isAgg3
@[simp] def zeroValue3:=lB Tryz.zeroValue3
@[simp] def underlying27:=jS Tryz.underlying27
@[simp] def sizeOf35:=dM Tryz.sizeOf35
@[simp] def runUnderlying35:=dR Tryz.runUnderlying35
@[simp] def isAgg35:=fC Tryz.isAgg35
@[simp] def sizeOf55:=dM Tryz.sizeOf55
@[simp] def underlying55:=jS Tryz.underlying55
@[simp] def runUnderlying55:=dR Tryz.runUnderlying55
@[simp] def isAgg55:=fC Tryz.isAgg55
@[simp] def zeroValue55:=lB Tryz.zeroValue55
@[simp] def eqGuardType55:=(zm 55).trans Tryz.eqGuardType55
@[simp] def stoodInHeld55:=(zl 55).trans Tryz.stoodInHeld55
@[simp] def sizeOf83:=dM Tryz.sizeOf83
@[simp] def underlying83:=jS Tryz.underlying83
@[simp] def isAgg83:=fC Tryz.isAgg83
@[simp] def sizeOf87:=dM Tryz.sizeOf87
@[simp] def underlying87:=jS Tryz.underlying87
@[simp] def runUnderlying87:=dR Tryz.runUnderlying87
@[simp] def isAgg87:=fC Tryz.isAgg87
@[simp] def sizeOf91:=dM Tryz.sizeOf91
@[simp] def underlying91:=jS Tryz.underlying91
@[simp] def runUnderlying91:=dR Tryz.runUnderlying91
@[simp] def isAgg91:=fC Tryz.isAgg91
@[simp] def runUnderlying99:=dR Tryz.runUnderlying99
@[simp] def zeroValue99:=lB Tryz.zeroValue99
@[simp] def sizeOf111:=dM Tryz.sizeOf111
@[simp] def isAgg111:=fC Tryz.isAgg111
@[simp] def sizeOf115:=dM Tryz.sizeOf115
@[simp] def runUnderlying115:=dR Tryz.runUnderlying115
@[simp] def sizeOf123:=dM Tryz.sizeOf123
@[simp] def underlying123:=jS Tryz.underlying123
@[simp] def isAgg123:=fC Tryz.isAgg123
@[simp] def runUnderlying135:=dR Tryz.runUnderlying135
@[simp] def zeroValue135:=lB Tryz.zeroValue135
@[simp] def sizeOf139:=dM Tryz.sizeOf139
@[simp] def runUnderlying139:=dR Tryz.runUnderlying139
@[simp] def isAgg139:=fC Tryz.isAgg139
@[simp] def zeroValue139:=lB Tryz.zeroValue139
@[simp] def sizeOf179:=dM Tryz.sizeOf179
@[simp] def isAgg179:=fC Tryz.isAgg179
@[simp] def zeroValue179:=lB Tryz.zeroValue179
@[simp] def runUnderlying339:=dR Tryz.runUnderlying339
@[simp] def zeroValue339:=lB Tryz.zeroValue339
@[simp] def func11:=aQ Tryz.func11
@[simp] def call11:=aR func11 (by kernel_rfl)
@[simp] def func23:=aQ Tryz.func23
@[simp] def call23:=aR func23 (by kernel_rfl)
@[simp] def func27:=aQ Tryz.func27
@[simp] def call27:=aR func27 (by kernel_rfl)
@[simp] def func31:=aQ Tryz.func31
@[simp] def call31:=aR func31 (by kernel_rfl)
noncomputable def f35:Func:=iH 35 Tryz.f35
@[simp] theorem func35:prog.funcs[35]?=some f35:=mS Tryz.func35 rfl
def NJ:f35.ntmps=Tryz.f35.ntmps:=K8
@[simp] def ntmps35:=NJ.trans Tryz.ntmps35
@[simp] def call35:=aR func35 (by kernel_rfl)
@[simp] def func39:=aQ Tryz.func39
@[simp] def call39:=aR func39 (by kernel_rfl)
noncomputable def f43:Func:=iH 43 Tryz.f43
@[simp] theorem func43:prog.funcs[43]?=some f43:=mS Tryz.func43 rfl
def NK:f43.ntmps=Tryz.f43.ntmps:=K8
@[simp] def ntmps43:=NK.trans Tryz.ntmps43
@[simp] def call43:=aR func43 (by kernel_rfl)
@[simp] def func59:=aQ Tryz.func59
@[simp] def call59:=aR func59 (by kernel_rfl)
@[simp] def func63:=aQ Tryz.func63
@[simp] def call63:=aR func63 (by kernel_rfl)
@[simp] def func79:=aQ Tryz.func79
@[simp] def call79:=aR func79 (by kernel_rfl)
@[simp] def func83:=aQ Tryz.func83
@[simp] def call83:=aR func83 (by kernel_rfl)
@[simp] def func87:=aQ Tryz.func87
@[simp] def call87:=aR func87 (by kernel_rfl)
@[simp] def func91:=aQ Tryz.func91
@[simp] def call91:=aR func91 (by kernel_rfl)
@[simp] def func107:=aQ Tryz.func107
@[simp] def call107:=aR func107 (by kernel_rfl)
@[simp] def func115:=aQ Tryz.func115
@[simp] def call115:=aR func115 (by kernel_rfl)
@[simp] def func123:=aQ Tryz.func123
@[simp] def call123:=aR func123 (by kernel_rfl)
@[simp] def func127:=aQ Tryz.func127
@[simp] def call127:=aR func127 (by kernel_rfl)
@[simp] def func131:=aQ Tryz.func131
@[simp] def call131:=aR func131 (by kernel_rfl)
@[simp] def func147:=aQ Tryz.func147
@[simp] def call147:=aR func147 (by kernel_rfl)
@[simp] def func151:=aQ Tryz.func151
@[simp] def call151:=aR func151 (by kernel_rfl)
@[simp] def func155:=aQ Tryz.func155
@[simp] def call155:=aR func155 (by kernel_rfl)
@[simp] def func163:=aQ Tryz.func163
@[simp] def func167:=aQ Tryz.func167
@[simp] def call167:=aR func167 (by kernel_rfl)
@[simp] def func187:=aQ Tryz.func187
@[simp] def call187:=aR func187 (by kernel_rfl)
@[simp] def func191:=aQ Tryz.func191
@[simp] def call191:=aR func191 (by kernel_rfl)
@[simp] def func203:=aQ Tryz.func203
@[simp] def call203:=aR func203 (by kernel_rfl)
@[simp] def func215:=aQ Tryz.func215
@[simp] def call215:=aR func215 (by kernel_rfl)
@[simp] def func223:=aQ Tryz.func223
@[simp] def call223:=aR func223 (by kernel_rfl)
@[simp] def func235:=aQ Tryz.func235
@[simp] def call235:=aR func235 (by kernel_rfl)
@[simp] def func251:=aQ Tryz.func251
@[simp] def call251:=aR func251 (by kernel_rfl)
@[simp] def func259:=aQ Tryz.func259
@[simp] def call259:=aR func259 (by kernel_rfl)
@[simp] def func263:=aQ Tryz.func263
@[simp] def call263:=aR func263 (by kernel_rfl)
@[simp] def func267:=aQ Tryz.func267
@[simp] def call267:=aR func267 (by kernel_rfl)
end
end Go.Proofs.aI
namespace Go.Proofs.aH
open Go.RowKit
section
variable[Go.Proofs.VB]
def pT(n low high:Int):Bool:=decide (low<=n)&&decide (n<=high)
def gM(n low high w):Calls aI.prog 150 #[.int .i64 n,.int .i64 low,.int .i64 high] w λe w'=>e=.returned (.bool (pT n low high))/\w'=w:=by
 by_cases h:low<=n;.go_enter aI.func150,Tryz.ntmps150;go_wp2;go_ret;simp[pT,h]
 .have a:decide (low<=n)=false:=by simpa using h
  go_enter aI.func150,Tryz.ntmps150;go_wp2;go_ret;simp[pT,a]
def SA(b:Bool):Int:=if b then 0 else 1
def Mi(b:Bool):Int:=if b then 0 else 8
def mM(b w):Calls aI.prog 187 #[.bool b] w λe w'=>e=.returned (.tuple #[(SA b),(Mi b)])/\w'=w:=by
 cases b;all_goals go_enter aI.func187,Tryz.ntmps187;go_wp2;go_ret2;simp[SA,Mi]
def pV(tx:ByteArray)(idx:Int)(key:ByteArray):Bool:=(((tx.size:Int)==8)&&pT idx 0 255)&&decide ((key.size:Int)<=32)
def NL(tx idx key w):Calls aI.prog 188 #[.agg #[.string tx,.int .i64 idx,.string key]] w λe w'=>e=.returned (.bool (pV tx idx key))/\Below w w w':=by
 go_enter aI.func188,Tryz.ntmps188;go_wp2_with (go_at_call 150;refine(gM _ _ _ _).mono ?_;rintro e w' ⟨rfl,rfl⟩);all_goals go_ret;exact⟨by simp[pV, *],B0.alloc L9 _⟩
def mK(v:Int)(lock:ByteArray):Bool:=pT v 0 4294967295&&decide ((lock.size:Int)<=32)
def KU(v lock w):Calls aI.prog 189 #[.agg #[.int .i64 v,.string lock]] w λe w'=>e=.returned (.bool (mK v lock))/\Below w w w':=by
 go_enter aI.func189,Tryz.ntmps189;go_wp2_with (go_at_call 150;refine(gM _ _ _ _).mono ?_;rintro e w' ⟨rfl,rfl⟩);all_goals go_ret;exact⟨by simp[mK, *],B0.alloc L9 _⟩
end
section
variable[Go.Proofs.VB]
def jR.fits(x:jR):Bool:=pV x.tx x.idx x.key
def eY.fits(x:eY):Bool:=mK x.val x.lock
def gW(tag:Int)(ins:List jR)(outs:List eY)(first:Bool):Bool:=pT tag 0 65535&&pT ins.length (SA first) (Mi first)&&pT outs.length 1 8&&ins.all jR.fits&&outs.all eY.fits
def dA.fits(t:dA)(first:Bool):Bool:=gW t.tag t.ins t.outs first
def rV{α:Type}(p:α->Bool)(l:List α)(k x)(h:l[k]?=some x):(l.take (k+1)).all p=((l.take k).all p&&p x):=by rw[Pe,h];simp
def all_false{α:Type}(p:α->Bool)(l:List α)(k:Nat)(x)(h:l[k]?=some x)(a:p x=false):l.all p=false:=by grind
def KT(tag n p ins q oc outs first w)(hi:vF w (.slice n ins.length p) ins)(u:qA w (.slice q outs.length oc) outs):
 Calls aI.prog 151 #[.agg #[.int .i64 tag,.slice n ins.length p,.slice q outs.length oc],.bool first] w λe w'=>e=.returned (.bool (gW tag ins outs first))/\Below w w w':=by
 have A:=hi.len;have B:=u.len;cases r:pT tag 0 65535;.go_enter aI.func151,Tryz.ntmps151;go_wp2_with (first|(go_at_call 187;refine(mM _ _).mono ?_;rintro e w' ⟨rfl,rfl⟩)|(go_at_call 150;refine(gM _ _ _ _).mono ?_;rintro e w' ⟨rfl,rfl⟩));go_ret;exact⟨by simp[gW,r],B0.alloc L9 _⟩
 cases s:pT ins.length (SA first) (Mi first);.go_enter aI.func151,Tryz.ntmps151;go_wp2_with (first|(go_at_call 187;refine(mM _ _).mono ?_;rintro e w' ⟨rfl,rfl⟩)|(go_at_call 150;refine(gM _ _ _ _).mono ?_;rintro e w' ⟨rfl,rfl⟩));go_ret;exact⟨by simp[gW,s],B0.alloc L9 _⟩
 cases t:pT outs.length 1 8;.go_enter aI.func151,Tryz.ntmps151;go_wp2_with (first|(go_at_call 187;refine(mM _ _).mono ?_;rintro e w' ⟨rfl,rfl⟩)|(go_at_call 150;refine(gM _ _ _ _).mono ?_;rintro e w' ⟨rfl,rfl⟩));go_ret;exact⟨by simp[gW,t],B0.alloc L9 _⟩
 go_enter aI.func151,Tryz.ntmps151;go_wp2_with (first|(go_at_call 187;refine(mM _ _).mono ?_;rintro e w' ⟨rfl,rfl⟩)|(go_at_call 150;refine(gM _ _ _ _).mono ?_;rintro e w' ⟨rfl,rfl⟩));have H:Hid (gW tag ins outs first=(ins.all jR.fits&&outs.all eY.fits)):=by unfold Hid;simp[gW,r,s,t]
 go_loopw [39] (λi wr=>∃k,k<=ins.length/\i=k/\(ins.take k).all jR.fits=true/\Below ((w:Nat)+1) (w.alloc (.cells #[tag,.slice n ins.length p,.slice q outs.length oc] 90)) wr) (λi _=>ins.length -(intOf i).toNat);case atStart=>exact⟨0,eX _,rfl,S8,B0⟩
 case round=>
  obtain⟨k,y,rfl,d,a⟩:=hrel;by_cases c:k<ins.length
  .obtain⟨⟨a',v,m,j⟩,_⟩:=hi.keep (Ar a);cases m;obtain⟨b,o,rfl,l⟩:=j (by intro h;simp[h]at c);obtain⟨c1,c2,c3⟩:=l k _ (cN c);go_wp2_with (go_at_call 188;refine(NL _ _ _ _).mono ?_;rintro e w' ⟨rfl,g⟩)
   .have f:pV ins[k].tx ins[k].idx ins[k].key=false:=by simpa using‹(!pV ins[k].tx ins[k].idx ins[k].key)=true›
    go_ret;refine⟨?_,Ar (BD a S8 g)⟩;rw[H.out,all_false jR.fits ins k _ (cN c) f];rfl
   .have f:pV ins[k].tx ins[k].idx ins[k].key=true:=by simpa using‹(!pV ins[k].tx ins[k].idx ins[k].key)=false›
    go_roundw;case rel=>exact⟨k+1,O9,by go_num,by rw[rV _ _ k _ (cN c),d];simp[jR.fits,f],BD a S8 g⟩
    case measure=>simp[intOf];omega
  .have z:=vE a 2 _ rfl;have x:Hid (ins.all jR.fits=true):=by unfold Hid;rw[List.take_of_length_le O9]at d;exact d
   go_wp2;go_loopw [50] (λi wr=>∃k,k<=outs.length/\i=k/\(outs.take k).all eY.fits=true/\Below w w wr) (λi _=>outs.length -(intOf i).toNat);case atStart=>exact⟨0,eX _,rfl,S8,Ar a⟩
   case round=>
    clear a;obtain⟨k,y,rfl,d,a⟩:=hrel;by_cases c:k<outs.length
    .obtain⟨⟨a',v,m,j⟩,_⟩:=u.keep a;cases m;obtain⟨b,o,rfl,l⟩:=j (by intro h;simp[h]at c);obtain⟨c1,c2⟩:=l k _ (cN c);go_wp2_with (go_at_call 189;refine(KU _ _ _).mono ?_;rintro e w' ⟨rfl,g⟩)
     .have f:mK outs[k].val outs[k].lock=false:=by simpa using‹(!mK outs[k].val outs[k].lock)=true›
      go_ret;refine⟨?_,BD a L9 g⟩;rw[H.out,all_false eY.fits outs k _ (cN c) f,Je];rfl
     .have f:mK outs[k].val outs[k].lock=true:=by simpa using‹(!mK outs[k].val outs[k].lock)=false›
      go_roundw;case rel=>exact⟨k+1,O9,by go_num,by rw[rV _ _ k _ (cN c),d];simp[eY.fits,f],BD a L9 g⟩
      case measure=>simp[intOf];omega
    .go_wp2;go_ret;refine⟨?_,a⟩;rw[Pf O9]at d;rw[H.out,x.out,d];rfl
def dF(parent:ByteArray)(bits bP:Int)(dH:List dA):Bool:=((parent.size:Int)==8)&&pT bits 0 8&&pT bP 0 65535&&pT dH.length 1 8&&dH.zipIdx.all (λp=>p.1.fits ((p.2:Int)==0))
def vD(parent bits bP ta r dH w)(x:xy w (.slice ta dH.length r) dH):
 Calls aI.prog 113 #[.agg #[.string parent,.int .i64 bits,.int .i64 bP,.slice ta dH.length r]] w λe w'=>e=.returned (.bool (dF parent bits bP dH))/\Below w w w':=by
 cases h0:((parent.size:Int)==8)
 .have A:¬(parent.size:Int)=8:=by simpa using h0
  go_enter aI.func113,Tryz.ntmps113;go_wp2_with (first|(go_at_call 150;refine(gM _ _ _ _).mono ?_;rintro e w' ⟨rfl,rfl⟩));go_ret;exact⟨by simp[dF,h0],B0.alloc L9 _⟩
 have B:((parent.size:Int) !=8)=false:=by simp[bne,h0]
 cases j:pT bits 0 8;.go_enter aI.func113,Tryz.ntmps113;go_wp2_with (first|(go_at_call 150;refine(gM _ _ _ _).mono ?_;rintro e w' ⟨rfl,rfl⟩));go_ret;exact⟨by simp[dF,j],B0.alloc L9 _⟩
 cases l:pT bP 0 65535;.go_enter aI.func113,Tryz.ntmps113;go_wp2_with (first|(go_at_call 150;refine(gM _ _ _ _).mono ?_;rintro e w' ⟨rfl,rfl⟩));go_ret;exact⟨by simp[dF,l],B0.alloc L9 _⟩
 cases m:pT dH.length 1 8;.go_enter aI.func113,Tryz.ntmps113;go_wp2_with (first|(go_at_call 150;refine(gM _ _ _ _).mono ?_;rintro e w' ⟨rfl,rfl⟩));go_ret;exact⟨by simp[dF,m],B0.alloc L9 _⟩
 go_enter aI.func113,Tryz.ntmps113;go_wp2_with (first|(go_at_call 150;refine(gM _ _ _ _).mono ?_;rintro e w' ⟨rfl,rfl⟩));have H:Hid (dF parent bits bP dH=dH.zipIdx.all (λp=>p.1.fits ((p.2:Int)==0))):=by unfold Hid;simp[dF,h0,j,l,m]
 go_loopw [29] (λi wr=>∃k:Nat,k<=dH.length/\i=↑k/\(dH.zipIdx.take k).all (λp=>p.1.fits ((p.2:Int)==0))=true/\Below w w wr) (λi _=>dH.length -(intOf i).toNat);case atStart=>exact⟨0,eX _,rfl,S8,B0.alloc L9 _⟩
 case round=>
  obtain⟨k,C,rfl,c,a⟩:=hrel;by_cases f:k<dH.length
  .obtain⟨⟨a',z,y,s⟩,_⟩:=x.keep a;cases y;obtain⟨b,o,rfl,t⟩:=s (by intro h;simp[h]at f);obtain⟨c1,c2,c3,hi,g⟩:=t k _ (cN f);have q:Hid (dH.zipIdx[k]?=some (dH[k],k)):=by unfold Hid;simp[f]
   obtain⟨D,E,u,_⟩:=hi.form;obtain⟨F,oc,v,_⟩:=g.form;rw[u]at c2 hi;rw[v]at c3 g;go_wp2_with (go_at_call 151;refine(KT _ _ _ _ _ _ _ _ _ (hi.keep (by exact B0.alloc L9 _)) (g.keep (by exact B0.alloc L9 _))).mono ?_;rintro e w' ⟨rfl,n⟩)
   .have d:gW dH[k].tag dH[k].ins dH[k].outs ((k:Int)==0)=false:=by simpa using‹(!gW dH[k].tag dH[k].ins dH[k].outs ((k:Int)==0))=true›
    go_ret;refine⟨?_,BD a L9 n⟩;rw[H.out,all_false _ dH.zipIdx k _ q.out d];rfl
   .have d:gW dH[k].tag dH[k].ins dH[k].outs ((k:Int)==0)=true:=by simpa using‹(!gW dH[k].tag dH[k].ins dH[k].outs ((k:Int)==0))=false›
    go_roundw;case rel=>exact⟨k+1,O9,by go_num,by rw[rV _ _ k _ q.out,c,dA.fits,d];rfl,BD a L9 n⟩
    case measure=>simp[intOf];omega
  .go_wp2;go_ret;refine⟨?_,a⟩;rw[Pf (by simp;omega)]at c;rw[H.out,c];rfl
end
section
variable[Go.Proofs.VB]
def aJ{p}(h:p):Hid p:=h
def byteOf(x:Int):UInt8:=UInt8.ofNat x.toNat
def dD(x)(h0:0<=x)(a:x<256):((byteOf x).toNat:Int)=x:=by unfold byteOf;rw[UInt8.toNat_ofNat'];omega
def be(n:Int):Nat->List UInt8
 |0=>[]
 |k+1=>byteOf (n/2^(8*k)%256)::be n k
def bI(n k):(be n k).length=k:=by induction k with
 |zero=>rfl
 |succ k a=>simp[be,a]
def bv(l:List UInt8):List Value:=l.map λb=>Value.int .u8 b.toNat
def GI(a b):bv (a++b)=bv a++bv b:=by simp[bv]
def p6(a):(bv a).length=a.length:=by simp[bv]
def aep(s):Go.Lib.strCells s=bv s.data.toList:=rfl
def Eh(l):∀u∈bv l,u.oneCell'=true:=by intro u a;simp[bv]at a;obtain⟨b,_,rfl⟩:=a;rfl
def mI(B:Nat)(w:World)(v:Value)(l:List UInt8):Prop:=w.ownsRow B 5 1 v l.length (bv l)
structure yh(w w':World)(v v':Value):Prop where
 grown:w.grownBy w' v.ownBlock
 acd:v'.ownBlock=v.ownBlock\/∃g,v'.ownBlock=some g/\w.heap.size<=g
def aZ(w:World)(r):w.grownBy w r:=⟨rfl,rfl,rfl,L9,λ_ _ _=>rfl⟩
def yh.refl(w v):yh w w v v:=⟨aZ _ _,.inl rfl⟩
def yh.trans{a b c u v x}(h:yh a b u v)(k:yh b c v x):yh a c u x:=by
 refine⟨⟨k.grown.os.trans h.grown.os,k.grown.tape.trans h.grown.tape,k.grown.output.trans h.grown.output,bT h.grown.size k.grown.size,λi hi m=>?_⟩,?_⟩
 .have j:=h.grown.block i hi m;have l:=k.grown.block i (eQ hi h.grown.size) (by
   obtain e|⟨g,e,d⟩:=h.acd;.simp_all
   .rw[e];intro f;cases f;omega)
  exact l.trans j
 .obtain e|⟨g,e,d⟩:=k.acd;.rw[e];exact h.acd
  .exact .inr ⟨g,e,bT h.grown.size d⟩
def yh.Wh{w w'}(v)(a:Below w.heap.size w w'):yh w w' v v:=⟨⟨a.os,a.tape,a.output,a.size,λk b _=>a.block k b⟩,.inl rfl⟩
def yh.alloc(w v o):yh w (w.alloc o) v v:=.Wh v (B0.alloc L9 o)
def GJ:=@yh.alloc
def yh.below{w w' v}(h:yh w w' () v):Below w w w':=⟨h.grown.os,h.grown.tape,h.grown.output,h.grown.size,λk a=>h.grown.block k a (by simp[Value.ownBlock])⟩
def mI.nil(B w):mI B w () []:=iZ _ _ _ _
def mI.alloc{B w v l}(h:mI B w v l)(o):mI B (w.alloc o) v l:=qc h o
def mI.lt{B w v l}(h:mI B w v l):∀k,v.ownBlock=some k->B<=k/\k<w:=jE h
def yh.cell{w w' v d}(h:yh w w' v d){a u}(b:w.cell? a=some u)(c:some a.block≠v.ownBlock):w'.cell? a=some u:=h.grown.cell b c
def yh.box{B w wr v b l cs t}(h:yh (w.alloc (.cells cs t)) wr v b)(a:mI B w v l)(j)(u)(c:cs[j]?=some u):wr.cell? ⟨(w:Nat),j,none⟩=some u:=by
 refine h.cell ?_ ?_;.simp_all
 .intro e;have:=(a.lt _ e.symm).2;simp at this
def yh.base{B w0 w w' v e l}(h:yh w w' v e)(d:mI B w v l)(a:B<=w)(b:Below B w0 w):Below B w0 w':=b.grown h.grown a λk c=>(d.lt k c).1
def aI.ace:(aI.prog.info? 5).map (λi=>(i.zero,i.size,i.bytes))=some (some (.int .u8 0),1,1):=K8
def GH:=@aI.ace
def Ie{B w ops rest o a Q}(p:o.guard=none)(s x)(q:o.op=.call {callee:=.builtin .append,args:=#[s,x],argTypes:=#[158,158]})(v)(l)(t:a.eval s=v)(r:mI B w v l)
 (b)(g)(y:a.eval x=.slice g 1 1)(n:w.cell? ⟨g,0,none⟩=some (.int .u8 b.toNat))(hlen:l.length<=1000000)(m:B<=w)
 (h:∀c w',mI B w' c (l++[b])->yh w w' v c->wpList aI.prog ops Q rest (a.put o.dst c) w'):wpList aI.prog ops Q (o::rest) a w:=by
 obtain⟨D,hi,z,A,C⟩:=info_parts GH;refine wpList_append_own_at _ p s x 158 q B 5 D (.int .u8 0) 1 1 aI.underlying158 hi z A C rfl D9 v l.length (bv l) t r (g,0) 1 1 (bv [b]) y rfl ?_ (Eh _) (by unfold maxLen;omega) O9 m ?_;.intro j u d;match j,d with
  |0,d=>simp[bv]at d;subst d;simpa[Addr.add]using n
 .intro c w' f i _ k;refine h c w' ?_ ⟨i,k.imp id λe=>⟨_,e,L9⟩⟩;unfold mI;rw[GI,cK];exact f
def Ns{B w w' v c l ty}(e:mI B w v l)(t)(hlen:l.length<=1000000)(n:t.size<=1000000)(a:(Builtin.append_ #[158,9] ty #[v,.string t]).run aI.prog w=.ok c w')(p:c=()↔v=()/\t.size=0):
 c.ownBlock=v.ownBlock\/∃g,c.ownBlock=some g/\w<=g:=by
 obtain⟨d,hi,f,h,i⟩:=info_parts GH;obtain⟨rfl,_⟩|⟨g,cap,cur,rfl,_,j,o,_,m,q⟩:=e.2
 .by_cases h0:t.size=0;.simp_all
  .have b:=Go.run_append_nil_string (P:=aI.prog) w 158 9 ty 5 d (.int .u8 0) aI.underlying158 aI.underlying9 hi f t O9 O9 (by rw[i];omega);rw[b]at a;cases a;exact .inr ⟨_,rfl,L9⟩
 .by_cases k:l.length+t.size<=cap;.have b:=Go.Lib.run_append_room_string (P:=aI.prog) w 158 9 ty 5 d aI.underlying158 aI.underlying9 hi h g l.length cap cur j t k O9;rw[b]at a;cases a;exact .inl rfl
  .have b:=Go.Lib.run_append_grow_string (P:=aI.prog) w 158 9 ty 5 d (.int .u8 0) aI.underlying158 aI.underlying9 hi f (g,0) l.length cap (bv l) (by rw[h,p6,Nat.mul_one]) (sx e (g:=g) rfl) t O9 O9 (by rw[i];exact growslice_fits O9 O9);rw[b]at a;cases a;exact .inr ⟨_,rfl,L9⟩
def tL{B w ops rest o a Q}(n:o.guard=none)(s x)(q:o.op=.call {callee:=.builtin .append,args:=#[s,x],argTypes:=#[158,9]})(v)(l)(r:a.eval s=v)(c:mI B w v l)
 (t)(u:a.eval x=.string t)(hlen:l.length<=1000000)(p:t.size<=1000000)(k:B<=w)
 (h:∀b w',mI B w' b (l++t.data.toList)->yh w w' v b->wpList aI.prog ops Q rest (a.put o.dst b) w'):wpList aI.prog ops Q (o::rest) a w:=by
 obtain⟨C,hi,y,z,A⟩:=info_parts GH;refine wpList_plain n λK m=>?_;obtain⟨b,w',d,f,g,i⟩:=Go.Lib.run_append_own_string (P:=aI.prog) w B 158 9 o.type 5 C aI.underlying158 aI.underlying9 hi y z A v l.length (bv l) c t (by unfold maxLen;omega) O9 k;have j:=Ns c t hlen p d i;unfold Oper.wp execOp;simp[q,resolve,invoke,builtin,r,u,d];refine m _ _ (h b w' ?_ ⟨g,j⟩);have e:(l++t.data.toList).length=l.length+t.size:=by rw[cK,acU];rfl
 unfold mI;rw[GI,e];exact f
end
section
variable[Go.Proofs.VB]
def OE(n k):((byteOf (n/2^(8*k)%256)).toNat:Int)=n/2^(8*k)%256:=dD _ O9 O9
def eD(B v l n)(width:Nat)(w)(_hn:0<=n)(x:width<=4)(u:l.length<=900000)(r:B<=↑w)(q:mI B w v l):Calls aI.prog 152 #[v,.int .i64 n,width] w λe w'=>∃b,e=.returned b/\mI B w' b (l++be n width)/\yh w w' v b:=by
 go_enter aI.func152,Tryz.ntmps152;go_wp2;go_loopw [0,7] (λb i wr=>∃(k:Nat) (a:List UInt8),k<=width/\i=↑((k:Int) -1)/\a++be n k=be n width/\mI B wr b (l++a)/\yh w wr v b) (λ_ i _=>(1+intOf i).toNat);case atStart=>exact⟨width,[],L9,by go_num,rfl,by simpa using q,yh.refl _ _⟩
 case round=>
  obtain⟨k,a,f,rfl,g,h,d⟩:=hrel;have c:Hid (a++be n k=be n width):=g;have s:a.length<=4:=by have:=congrArg List.length g;simp[bI]at this;omega
  have t:=d.grown.size;match k,f,c with
  |0,f,c=>go_wp2;go_ret;refine⟨_,rfl,?_,d⟩;have:=c.out;simp only[be,nS]at this;rw[<-this];exact h
  |k+1,f,c=>
    have o:(wr.alloc (.cells #[.int .u8 (n/2^(8*k)%256)] 5)).cell? ((wr:Nat),0)=some (.int .u8 ((byteOf (n/2^(8*k)%256)).toNat:Int)):=by rw[OE];simp only[World.cell?,uP];simp
    have m:=aJ o;go_wp2_with (at_builtin;refine Ie rfl (.tmp 14) (.tmp 20) rfl u0 (l++a) rfl (h.alloc _) (byteOf (n/2^(8*k)%256)) _ rfl (by exact m.out) (by simp;omega) (by simp;omega) ?_;intro v2 w2 p j);go_roundw;case rel=>exact⟨k,a++[byteOf (n/2^(8*k)%256)],O9,rfl,by have:=c.out;simp only[be]at this;rw[kH];exact this,by rw[<-kH];exact p,d.trans ((GJ wr u0 _).trans j)⟩
    case measure=>simp[intOf];omega
def cR(s:ByteArray):List UInt8:=s.data.toList
def fB(s):(cR s).length=s.size:=by unfold cR;rw[Array.length_toList];rfl
def vU(B v l s w)(k:s.size<=1000)(j:l.length<=800000)(c:B<=↑w)(h:mI B w v l):Calls aI.prog 190 #[v,.string s] w λe w'=>∃a,e=.returned a/\mI B w' a (l++(be s.size 1++cR s))/\yh w w' v a:=by
 go_enter aI.func190,Tryz.ntmps190;go_wp2_with fail;refine(eD B v l s.size 1 _ O9 O9 O9 c h).mono ?_;rintro e w1 ⟨v1,rfl,f,b⟩;have i:=b.grown.size;go_wp2_with (at_builtin;refine tL rfl (.tmp 9) (.tmp 10) rfl v1 _ rfl f s rfl (by simp[bI];omega) O9 O9 ?_;intro v2 w2 g d);go_ret;exact⟨_,rfl,by rw[<-kH];exact g,b.trans d⟩
end
section
variable[Go.Proofs.VB]
def jR.bytes(x:jR):List UInt8:=cR x.tx++be x.idx 1++(be x.key.size 1++cR x.key)
def eY.bytes(x:eY):List UInt8:=be x.val 4++(be x.lock.size 1++cR x.lock)
def mL(tag:Int)(ins:List jR)(outs:List eY):List UInt8:=be tag 2++be ins.length 1++ins.flatMap jR.bytes++be outs.length 1++outs.flatMap eY.bytes
def jR.Small(x:jR):Prop:=x.tx.size<=8/\0<=x.idx/\x.key.size<=32/\x.idx<=255
def eY.Small(x:eY):Prop:=0<=x.val/\x.lock.size<=32/\x.val<=4294967295
def jR.lZ(x:jR)(h:x.Small):x.bytes.length<=42:=by obtain⟨a,_,b,_⟩:=h;simp[jR.bytes,bI,fB];omega
def eY.lZ(x:eY)(h:x.Small):x.bytes.length<=37:=by obtain⟨_,a,_⟩:=h;simp[eY.bytes,bI,fB];omega
def sQ{α:Type}(f:α->List UInt8)(m)(l:List α)(h:∀x∈l,(f x).length<=m):(l.flatMap f).length<=l.length*m:=by induction l with
 |nil=>simp
 |cons x l b=>have c:=h x S8;have d:=b λy a=>h y (by simp[a]);simp only[uR,cK,fH,Nat.add_mul];omega
def qz{α:Type}(f:α->List UInt8)(l:List α)(k x)(h:l[k]?=some x):(l.take (k+1)).flatMap f=(l.take k).flatMap f++f x:=by rw[Pe,h];simp
def rU{α:Type}(f:α->List UInt8)(m)(l:List α)(k)(h:∀x∈l,(f x).length<=m):((l.take k).flatMap f).length<=l.length*m:=by have:=sQ f m (l.take k) λx b=>h x (List.mem_of_mem_take b);have a:(l.take k).length<=l.length:=List.length_take_le' _ _;exact bT this (Nat.mul_le_mul_right m a)
def xz(w0 v l tag m n ins p oc outs w)(hi:vF w0 (.slice m ins.length n) ins)(μ:qA w0 (.slice p outs.length oc) outs)(z:Below w0 w0 w)(j:mI w0 w v l)
 (ar:0<=tag)(aj:ins.length<=8)(ao:outs.length<=8)(M:∀x∈ins,x.Small)(N:∀x∈outs,x.Small)(ak:l.length<=100000):
 Calls aI.prog 153 #[v,.agg #[.int .i64 tag,.slice m ins.length n,.slice p outs.length oc]] w λe w'=>∃f,e=.returned f/\mI w0 w' f (l++mL tag ins outs)/\yh w w' v f:=by
 have J:=z.size;go_enter aI.func153,Tryz.ntmps153;go_wp2_with fail;refine(eD w0 v l tag 2 _ O9 O9 O9 (by simp;omega) (j.alloc _)).mono ?_;rintro e w1 ⟨v1,rfl,D,q⟩;have ag:(w:Nat)+1<=(w1:Nat):=by simpa using q.grown.size
 have ab:=q.box j 1 _ rfl;go_wp2_with fail;refine(eD w0 v1 _ ins.length 1 _ O9 O9 (by simp[bI];omega) O9 D).mono ?_;rintro e w2 ⟨v2,rfl,V,Q⟩;have t:=q.trans Q;have ah:(w:Nat)+1<=(w2:Nat):=by simpa using t.grown.size
 have ab:=t.box j 1 _ rfl;go_wp2_with fail;go_loopw [0,21] (λf i wr=>∃k,k<=ins.length/\i=k/\mI w0 wr f (l++(be tag 2++be ins.length 1++(ins.take k).flatMap jR.bytes))/\yh (w.alloc (.cells #[tag,.slice m ins.length n,.slice p outs.length oc] 90)) wr v f) (λ_ i _=>ins.length -(intOf i).toNat);case atStart=>exact⟨0,eX _,rfl,by simpa using V,t⟩
 case round=>
  obtain⟨k,T,rfl,a,c⟩:=hrel;have g:Below w0 w0 (w.alloc (.cells #[tag,.slice m ins.length n,.slice p outs.length oc] 90)):=z.alloc J _;have g:=c.base (j.alloc _) (by simp;omega) g;have S:(w:Nat)+1<=(wr:Nat):=by simpa using c.grown.size
  have L:=rU jR.bytes 42 ins k λx H=>x.lZ (M x H);by_cases d:k<ins.length
  .obtain⟨⟨a',P,G,A⟩,_⟩:=hi.keep g;cases G;obtain⟨b,o,rfl,B⟩:=A (by intro h;simp[h]at d);obtain⟨c1,c2,c3⟩:=B k _ (cN d);obtain⟨X,Y,au,_⟩:=M _ (wX d);go_wp2_with (at_builtin;go_must (refine tL rfl (.tmp 25) (.tmp 28) rfl u0 _ rfl (a.alloc _) ins[k].tx rfl (by simp only[cK,bI];omega) O9 (by simp;omega) ?_);intro v3 w3 W s;have y1:=s.box a 1 _ rfl;have O:=s.box a 2 _ rfl);have ai:(wr:Nat)+1<=(w3:Nat):=by simpa using s.grown.size
   refine(eD w0 v3 _ ins[k].idx 1 _ O9 O9 (by simp only[cK,bI,<-cR.eq_1,fB];omega) O9 W).mono ?_;rintro e w4 ⟨I,rfl,E,r⟩;have u:=s.trans r;have R:(wr:Nat)+1<=(w4:Nat):=by simpa using u.grown.size
   have O:=u.box a 2 _ rfl;go_wp2_with fail;refine(vU w0 I _ ins[k].key _ O9 (by simp only[cK,bI,<-cR.eq_1,fB];omega) O9 E).mono ?_;rintro e aa ⟨π,rfl,F,y⟩;go_wp2_with fail;go_roundw;case rel=>refine⟨k+1,O9,by go_num,?_,c.trans ((GJ wr u0 _).trans (u.trans y))⟩;rw[qz _ _ k _ (cN d)];simpa only[jR.bytes,cR,kH]using F
   case measure=>simp[intOf];omega
  .have C:k=ins.length:=O9;subst C;rw[pN]at a;have ae:=c.box j 2 _ rfl;go_wp2_with fail;refine(eD w0 u0 _ outs.length 1 _ O9 O9 (by simp only[cK,bI];rw[pN]at L;omega) O9 a).mono ?_;rintro e w1 ⟨v1,rfl,D,q⟩;have K:=c.trans q;have ae:=K.box j 2 _ rfl;go_wp2_with fail;go_loopw [0,48] (λf i wr=>∃k,k<=outs.length/\i=k/\mI w0 wr f (l++(be tag 2++be ins.length 1++ins.flatMap jR.bytes)++be outs.length 1++(outs.take k).flatMap eY.bytes)/\yh (w.alloc (.cells #[tag,.slice m ins.length n,.slice p outs.length oc] 90)) wr v f) (λ_ i _=>outs.length -(intOf i).toNat);case atStart=>exact⟨0,eX _,rfl,by simpa using D,K⟩
   case round=>
    obtain⟨k,T,rfl,a,c⟩:=hrel;have g:Below w0 w0 (w.alloc (.cells #[tag,.slice m ins.length n,.slice p outs.length oc] 90)):=z.alloc J _;have g:=c.base (j.alloc _) (by simp;omega) g;have S:(w:Nat)+1<=(wr:Nat):=by simpa using c.grown.size
    rw[pN]at L;have af:=rU eY.bytes 37 outs k λx H=>x.lZ (N x H);by_cases d:k<outs.length
    .obtain⟨⟨a',P,G,A⟩,_⟩:=μ.keep g;cases G;obtain⟨b,o,rfl,B⟩:=A (by intro h;simp[h]at d);obtain⟨c1,c2⟩:=B k _ (cN d);obtain⟨X,Y,_⟩:=N _ (wX d);go_wp2_with fail;refine(eD w0 u0 _ outs[k].val 4 _ O9 O9 (by simp only[cK,bI];omega) (by simp;omega) (a.alloc _)).mono ?_;rintro e w4 ⟨I,rfl,E,r⟩;have R:(wr:Nat)+1<=(w4:Nat):=by simpa using r.grown.size
     have O:=r.box a 1 _ rfl;go_wp2_with fail;refine(vU w0 I _ outs[k].lock _ O9 (by simp only[cK,bI];omega) O9 E).mono ?_;rintro e aa ⟨π,rfl,F,y⟩;go_wp2_with fail;go_roundw;case rel=>refine⟨k+1,O9,by go_num,?_,c.trans ((GJ wr u0 _).trans (r.trans y))⟩;rw[qz _ _ k _ (cN d)];simpa only[eY.bytes,cR,kH]using F
     case measure=>simp[intOf];omega
    .have C:k=outs.length:=O9;subst C;rw[pN]at a;go_wp2_with fail;go_ret;refine⟨u0,rfl,?_,(GJ w v _).trans c⟩;simpa only[mL,kH]using a
end
section
variable[Go.Proofs.VB]
def dA.bytes(t:dA):List UInt8:=mL t.tag t.ins t.outs
structure dA.Small(t:dA):Prop where
 tag:0<=t.tag
 aeq:t.tag<=65535
 ni:t.ins.length<=8
 no:t.outs.length<=8
 ins:∀x∈t.ins,x.Small
 outs:∀x∈t.outs,x.Small
def dA.lZ(t:dA)(h:t.Small):t.bytes.length<=636:=by have b:=sQ jR.bytes 42 t.ins λx a=>x.lZ (h.ins x a);have c:=sQ eY.bytes 37 t.outs λx a=>x.lZ (h.outs x a);have:=h.ni;have:=h.no;simp only[dA.bytes,mL,cK,bI];omega
def fR(parent:ByteArray)(bits bP:Int)(dH:List dA):List UInt8:=cR parent++be bits 1++be bP 2++be dH.length 1++dH.flatMap dA.bytes
def Aq(w0 v l parent bits bP ta p dH w)(R:xy w0 (.slice ta dH.length p) dH)(y:Below w0 w0 w)(a:mI w0 w v l)
 (af:parent.size<=8)(W:0<=bits)(ae:0<=bP)(ab:dH.length<=8)(A:∀t∈dH,t.Small)(aa:l.length<=10000):
 Calls aI.prog 114 #[v,.agg #[.string parent,.int .i64 bits,.int .i64 bP,.slice ta dH.length p]] w λe w'=>∃d,e=.returned d/\mI w0 w' d (l++fR parent bits bP dH)/\yh w w' v d:=by
 have B:=y.size;have ag:=fB parent;go_enter aI.func114,Tryz.ntmps114;go_wp2_with (at_builtin;go_must (refine tL rfl (.tmp 7) (.tmp 9) rfl v _ rfl (a.alloc _) parent rfl O9 O9 (by simp;omega) ?_);intro v1 w1 L f;have au:=f.box a 1 _ rfl;have μ:=f.box a 2 _ rfl;have u:=f.box a 3 _ rfl);have z:(w:Nat)+1<=(w1:Nat):=by simpa using f.grown.size
 refine(eD w0 v1 _ bits 1 _ O9 O9 (by rw[<-cR.eq_1,cK];omega) O9 L).mono ?_;rintro e w2 ⟨v2,rfl,M,C⟩;have c:=f.trans C;have μ:=c.box a 2 _ rfl;have u:=c.box a 3 _ rfl;have z:(w:Nat)+1<=(w2:Nat):=by simpa using c.grown.size
 go_wp2_with fail;refine(eD w0 v2 _ bP 2 _ O9 O9 (by rw[<-cR.eq_1,cK,cK,bI];omega) O9 M).mono ?_;rintro e w3 ⟨v3,rfl,N,D⟩;have q:=c.trans D;have u:=q.box a 3 _ rfl;have z:(w:Nat)+1<=(w3:Nat):=by simpa using q.grown.size
 go_wp2_with fail;refine(eD w0 v3 _ dH.length 1 _ O9 O9 (by rw[<-cR.eq_1,cK,cK,cK,bI,bI];omega) O9 N).mono ?_;rintro e w4 ⟨ak,rfl,O,E⟩;have c:=q.trans E;have u:=c.box a 3 _ rfl;go_wp2_with fail;go_loopw [0,27] (λd i wr=>∃k,k<=dH.length/\i=k/\mI w0 wr d (l++(cR parent++be bits 1++be bP 2++be dH.length 1++(dH.take k).flatMap dA.bytes))/\yh (w.alloc (.cells #[parent,bits,bP,.slice ta dH.length p] 93)) wr v d) (λ_ i _=>dH.length -(intOf i).toNat);case atStart=>exact⟨0,eX _,rfl,by simpa[cR]using O,c⟩
 case round=>
  obtain⟨k,π,rfl,s,j⟩:=hrel;have G:Below w0 w0 (w.alloc (.cells #[parent,bits,bP,.slice ta dH.length p] 93)):=y.alloc B _;have m:=j.base (a.alloc _) (by simp;omega) G;have Y:(w:Nat)+1<=(wr:Nat):=by simpa using j.grown.size
  have X:=rU dA.bytes 636 dH k λx T=>x.lZ (A x T);by_cases n:k<dH.length
  .obtain⟨⟨a',V,S,H⟩,_⟩:=R;cases S;obtain⟨b,o,rfl,I⟩:=H (by intro h;simp[h]at n);obtain⟨c1,c2,c3,hi,r⟩:=I k _ (cN n);have g:=A _ (wX n);obtain⟨ah,ai,J,_⟩:=hi.form;obtain⟨aj,oc,Q,_⟩:=r.form;rw[J]at c2 hi;rw[Q]at c3 r;have c1:=aW m c1;have c2:=aW m c2;have c3:=aW m c3;go_wp2_with fail;refine(xz w0 u0 _ _ _ _ _ _ _ _ _ hi r (m.alloc O9 _) (s.alloc _) g.tag g.ni g.no g.ins g.outs (by simp only[cK,bI];omega)).mono ?_;rintro e ar ⟨ao,rfl,P,F⟩;go_wp2_with fail;go_roundw;case rel=>refine⟨k+1,O9,by go_num,?_,j.trans ((GJ wr u0 _).trans F)⟩;rw[qz _ _ k _ (cN n)];simpa only[dA.bytes,cR,kH]using P
   case measure=>simp[intOf];omega
  .have K:k=dH.length:=O9;subst K;rw[pN]at s;go_wp2_with fail;go_ret;refine⟨u0,rfl,?_,(GJ w v _).trans j⟩;simpa only[fR,kH]using s
def mI.toStr{B w v l}(h:mI B w v l):(convert 158 9 v).run aI.prog w=.ok (.string ⟨l.toArray⟩) w:=by
 obtain⟨rfl,h0⟩|⟨g,cap,cur,rfl,_,c,d,_,b,e⟩:=h.2;.have:l=[]:=se h0;subst this;exact run_convert_bytes_nil w 158 5 aI.underlying158 aI.underlying5 0 0 9 aI.underlying9
 .refine run_convert_bytes_back w 158 9 5 ⟨g,0,none⟩ cap l aI.underlying158 aI.underlying5 aI.underlying9 ?_;intro j a;exact sx h (g:=g) rfl j _ (by simp[bv,a])
def ND(t:dA)(first)(h:t.fits first=true):t.Small:=by
 simp only[dA.fits,gW,dJ]at h;obtain⟨⟨⟨⟨a,e⟩,f⟩,c⟩,d⟩:=h;rw[AV]at c d;simp[pT]at a e f;have g:Mi first<=8:=by cases first<;>simp[Mi]
 refine⟨a.1,a.2,O9,O9,λx b=>?_,λx b=>?_⟩;.have:=c x b;simp[jR.fits,pV,pT]at this;exact⟨O9,O9,O9,O9⟩
 .have:=d x b;simp[eY.fits,mK,pT]at this;exact⟨O9,O9,O9⟩
structure NF(parent:ByteArray)(bits bP:Int)(dH:List dA):Prop where
 p:parent.size=8
 b:0<=bits
 b2:bits<=8
 n:0<=bP
 n2:bP<=65535
 l:dH.length<=8
 l1:1<=dH.length
 t:∀t∈dH,t.Small
def vC{parent bits bP dH}(h:dF parent bits bP dH=true):NF parent bits bP dH:=by simp only[dF,dJ]at h;obtain⟨⟨⟨⟨d,a⟩,b⟩,e⟩,c⟩:=h;rw[AV]at c;simp only[pT,dJ,wW,uM]at d a b e;refine⟨O9,a.1,a.2,b.1,b.2,O9,O9,λt g=>?_⟩;obtain⟨k,f,rfl⟩:=List.mem_iff_getElem.1 g;exact ND _ _ (c (dH[k],k) (yu.2 ⟨k,by simp[f]⟩))
def Wc(parent:ByteArray)(bits bP:Int)(dH:List dA):ByteArray:=if dF parent bits bP dH then⟨(fR parent bits bP dH).toArray⟩else⟨#[]⟩
def Wd(parent:ByteArray)(bits bP:Int)(dH:List dA):Int:=if dF parent bits bP dH then 0 else 1
def BC(parent bits bP ta d dH w)(g:xy w (.slice ta dH.length d) dH):Calls aI.prog 60 #[.agg #[.string parent,.int .i64 bits,.int .i64 bP,.slice ta dH.length d]] w λe w'=>e=.returned (.tuple #[(Wc parent bits bP dH),(Wd parent bits bP dH)])/\Below w w w':=by
 cases f:dF parent bits bP dH;.go_enter aI.func60,Tryz.ntmps60;go_wp2_with fail;refine(vD parent bits bP ta d dH _ (g.keep (B0.alloc L9 _))).mono ?_;rintro e w1 ⟨rfl,a⟩;go_wp2_with fail;go_ret2;exact⟨by simp[Wc,Wd,f],BD B0 L9 a⟩
 .have c:=vC f;go_enter aI.func60,Tryz.ntmps60;go_wp2_with fail;refine(vD parent bits bP ta d dH _ (g.keep (B0.alloc L9 _))).mono ?_;rintro e w1 ⟨rfl,a⟩;have h:=BD B0 L9 a;simp at a;have m:=vE a 0 _ rfl;have o:=vE a 1 _ rfl;have q:=vE a 2 _ rfl;have r:=vE a 3 _ rfl;go_wp2_with fail;refine(Aq w1 ↑() [] parent bits bP ta d dH _ (g.keep h) B0 (mI.nil _ _) (by have:=c.p;omega) c.b c.n c.l c.t S8).mono ?_;rintro e w2 ⟨v2,rfl,j,i⟩;have k:=j.toStr;go_wp2_with fail;go_ret2;exact⟨by simp[Wc,Wd,f],nI h L9 i.below⟩
end
section
variable[Go.Proofs.VB]
def Zy(w:World)(x)(h0:0<=x)(a:x<256):(convert 158 9 (.slice (w:Nat) 1 1)).run aI.prog (w.alloc (.cells #[.int .u8 x] 5))=.ok (.string ⟨#[byteOf x]⟩) (w.alloc (.cells #[.int .u8 x] 5)):=by
 have:=run_convert_bytes_back (P:=aI.prog) (w.alloc (.cells #[.int .u8 x] 5)) 158 9 5 ((w:Nat),0) 1 [byteOf x] aI.underlying158 aI.underlying5 aI.underlying9 (by intro j b;match j,b with
  |0,_=>simp only[Addr.add,uP];simp[dD x h0 a])
 simpa using this
def mk(l:List UInt8):ByteArray:=⟨l.toArray⟩
def nJ(a b):mk a++mk b=mk (a++b):=ByteArray.mk_append_mk a b
def CC(s):mk (cR s)=s:=rfl
def dC(l):(mk l).size=l.length:=by show l.toArray.size=_;simp
def We(n:Int)(j):n/2^(8*j)/256=n/2^(8*(j+1)):=by rw[Int.ediv_ediv_of_nonneg (Uo (Int.pow_pos D9)),show(8*(j+1))=8*j+8 from by omega,Int.pow_add];rfl
end
def Hh(n)(h0:-2147483648<=n)(a:n<=2147483647):IntKind.i32.wrap n=n:=by have:IntKind.i32.bits=32:=rfl;simp[IntKind.wrap,this];have:IntKind.i32.signed=true:=rfl;simp only[this];split<;>rename_i h<;>simp at h<;>omega
def acz(b o n a c d w)(c0:w.cell? (b,o)=some a)(c2:w.cell? (b,o+2)=some c)(c3:w.cell? (b,o+3)=some d)(g:w.cell? (b,o+4)=some (.int .i32 n))(h:w.frozen? (b,o+4)=false)(h0:0<=n)(f:n<2147483647):Calls aI.prog 43 #[.pointer (b,o)] w λe w'=>e=.returned (.tuple #[])/\w'=w.setCell ⟨b,o+4,none⟩ (.int .i32 (n+1)):=by
 go_enter aI.func43,aI.ntmps43;simp[Ep,aI.rlock,aI.cells,aI.only,aI.here,aI.count,aI.state,aI.Lm,aI.o,aI.st];go_wp2_with fail;go_end0;exact⟨rfl,rfl⟩
def adZ(b o n a c d w)(c0:w.cell? (b,o)=some a)(c2:w.cell? (b,o+2)=some c)(c3:w.cell? (b,o+3)=some d)(g:w.cell? (b,o+4)=some (.int .i32 n))(h:w.frozen? (b,o+4)=false)(h0:0<n)(f:n<=2147483647):Calls aI.prog 44 #[.pointer (b,o)] w λe w'=>e=.returned (.tuple #[])/\w'=w.setCell ⟨b,o+4,none⟩ (.int .i32 (n -1)):=by
 go_enter aI.func44,aI.ntmps44;simp[Ep,aI.runlock,aI.cells,aI.only,aI.here,aI.count,aI.state,aI.Lm,aI.o,aI.st];go_wp2_with fail;go_end0;exact⟨rfl,rfl⟩
def adI(b o a c w)(c2:w.cell? (b,o+2)=some a)(c3:w.cell? (b,o+3)=some c)(h:w.cell? (b,o)=some (.int .i32 0))(d:w.cell? (b,o+4)=some (.int .i32 0))(f:w.frozen? (b,o+4)=false)(g:w.frozen? (b,o)=false):Calls aI.prog 35 #[.pointer (b,o)] w λe w'=>e=.returned (.tuple #[])/\w'=(w.setCell (b,o) (.int .i32 1)).setCell ⟨b,o+4,none⟩ (.int .i32 (-1073741824)):=by
 go_enter aI.func35,aI.ntmps35;simp[Ep,aI.lock,aI.cells,aI.only,aI.here,aI.count,aI.Lm,aI.state,aI.o,aI.st];go_wp2_with fail;go_end0;exact⟨rfl,rfl⟩
def ad1(b o a c w)(c2:w.cell? (b,o+2)=some a)(c3:w.cell? (b,o+3)=some c)(h:w.cell? (b,o)=some (.int .i32 1))(d:w.cell? (b,o+4)=some (.int .i32 (-1073741824)))(f:w.frozen? (b,o+4)=false)(g:w.frozen? (b,o)=false):Calls aI.prog 36 #[.pointer (b,o)] w λe w'=>e=.returned (.tuple #[])/\w'=(w.setCell (b,o+4) (.int .i32 0)).setCell ⟨b,o,none⟩ (.int .i32 0):=by
 go_enter aI.func36,aI.ntmps36;simp[Ep,aI.unlock,aI.cells,aI.only,aI.here,aI.count,aI.Lm,aI.state,aI.o,aI.st];go_wp2_with fail;go_end0;exact⟨rfl,rfl⟩
def S7(b o n c d f u w)(c0:w.cell? (b,o)=some c)(c2:w.cell? (b,o+2)=some d)(c3:w.cell? (b,o+3)=some f)(h:w.cell? (b,o+4)=some (.int .i32 n))(i:w.frozen? (b,o+4)=false)(h0:0<n)(g:n<=2147483647):CallsD aI.prog 44 #[.pointer (b,o)] u w λe a w'=>a=u/\(e=.returned (.tuple #[])/\w'=w.setCell ⟨b,o+4,none⟩ (.int .i32 (n -1))):=by
 go_enter_d aI.func44,aI.ntmps44;simp[Ep,aI.runlock,aI.cells,aI.only,aI.here,aI.count,aI.state,aI.Lm,aI.o,aI.st];go_wp2_with fail;go_end0;exact⟨rfl,rfl⟩
def Xw(b o c d u w)(c2:w.cell? (b,o+2)=some c)(c3:w.cell? (b,o+3)=some d)(i:w.cell? (b,o)=some (.int .i32 1))(f:w.cell? (b,o+4)=some (.int .i32 (-1073741824)))(g:w.frozen? (b,o+4)=false)(h:w.frozen? (b,o)=false):CallsD aI.prog 36 #[.pointer (b,o)] u w λe a w'=>a=u/\(e=.returned (.tuple #[])/\w'=(w.setCell (b,o+4) (.int .i32 0)).setCell ⟨b,o,none⟩ (.int .i32 0)):=by
 go_enter_d aI.func36,aI.ntmps36;simp[Ep,aI.unlock,aI.cells,aI.only,aI.here,aI.count,aI.Lm,aI.state,aI.o,aI.st];go_wp2_with fail;go_end0;exact⟨rfl,rfl⟩
end Go.Proofs.aH
namespace Go.Proofs.YtpjcmpfncpnmeaaGreat
open Go.Conc.Locks
abbrev uq:RwLink:={lock:=69,unlock:=78,ilock:=118,iunlock:=120,lockSlow:=160,unlockSlow:=161,disable:=68,enable:=72,acquire:=73,relMerge:=75,cas32:=159,add32:=119,tMutex:=115,tIMutex:=113,tPMutex:=173,tPIMutex:=262,tPI32:=229,tUP:=172,tNoCopy:=110,tU32:=111,rlock:=43,runlock:=44,wlock:=35,wunlock:=36,i32add:=70,raceRead:=67,release:=74,rUnlockSlow:=90,semacqR:=89,semacqW:=71,semrel:=77,sfatal:=76,tRW:=120,tPRW:=170,tAI32:=118,tPAI32:=227,tPU32:=176,tANoCopy:=116}
def Gr:RwCore Tryz.prog uq:=⟨Tryz.func70,Tryz.func67,Tryz.func68,Tryz.func72,Tryz.func73,Tryz.func75,Tryz.func119,Tryz.underlying120,Tryz.runUnderlying120,Tryz.sizeOf120,Tryz.isAgg120,Tryz.zeroValue120,Tryz.underlying118,Tryz.runUnderlying118,Tryz.sizeOf118,Tryz.isAgg118,Tryz.zeroValue118,Tryz.underlying170,Tryz.runUnderlying170,Tryz.sizeOf170,Tryz.isAgg170,Tryz.zeroValue170,Tryz.underlying227,Tryz.runUnderlying227,Tryz.sizeOf227,Tryz.isAgg227,Tryz.zeroValue227,Tryz.underlying176,Tryz.runUnderlying176,Tryz.sizeOf176,Tryz.isAgg176,Tryz.zeroValue176,Tryz.underlying116,Tryz.runUnderlying116,Tryz.sizeOf116,Tryz.isAgg116,Tryz.zeroValue116,Tryz.underlying111,Tryz.runUnderlying111,Tryz.sizeOf111,Tryz.isAgg111,Tryz.zeroValue111,Tryz.underlying115,Tryz.runUnderlying115,Tryz.sizeOf115,Tryz.isAgg115,Tryz.zeroValue115,Tryz.underlying173,Tryz.runUnderlying173,Tryz.sizeOf173,Tryz.isAgg173,Tryz.zeroValue173,Tryz.underlying229,Tryz.runUnderlying229,Tryz.sizeOf229,Tryz.isAgg229,Tryz.zeroValue229,Tryz.underlying172,Tryz.runUnderlying172,Tryz.sizeOf172,Tryz.isAgg172,Tryz.zeroValue172,Tryz.underlying21,Tryz.runUnderlying21,Tryz.sizeOf21,Tryz.isAgg21,Tryz.zeroValue21,K8,K8⟩
def Zu:MuLib Tryz.prog uq.toMuLink:=⟨Tryz.func69,Tryz.func78,Tryz.func118,Tryz.func120,Tryz.func68,Tryz.func72,Tryz.func73,Tryz.func75,Tryz.func159,Tryz.func119,Tryz.underlying113,Tryz.runUnderlying113,Tryz.sizeOf113,Tryz.isAgg113,Tryz.zeroValue113,Tryz.underlying115,Tryz.runUnderlying115,Tryz.sizeOf115,Tryz.isAgg115,Tryz.zeroValue115,Tryz.underlying173,Tryz.runUnderlying173,Tryz.sizeOf173,Tryz.isAgg173,Tryz.zeroValue173,Tryz.underlying262,Tryz.runUnderlying262,Tryz.sizeOf262,Tryz.isAgg262,Tryz.zeroValue262,Tryz.underlying229,Tryz.runUnderlying229,Tryz.sizeOf229,Tryz.isAgg229,Tryz.zeroValue229,Tryz.underlying172,Tryz.runUnderlying172,Tryz.sizeOf172,Tryz.isAgg172,Tryz.zeroValue172,Tryz.underlying110,Tryz.runUnderlying110,Tryz.sizeOf110,Tryz.isAgg110,Tryz.zeroValue110,Tryz.underlying21,Tryz.runUnderlying21,Tryz.sizeOf21,Tryz.isAgg21,Tryz.zeroValue21,K8⟩
def zO:RwRLib Tryz.prog uq:=⟨Gr,Tryz.func43,Tryz.func44⟩
def zP:RwWLib Tryz.prog uq:=⟨Gr,Zu,Tryz.func35,Tryz.func36,Tryz.func74,Tryz.underlying3,Tryz.runUnderlying3,Tryz.sizeOf3,Tryz.isAgg3,Tryz.zeroValue3⟩
end Go.Proofs.YtpjcmpfncpnmeaaGreat
namespace Go.Il
open Go.ChangeMaps Go.MapKept Go.Maps
section
structure Ci(P:Program)(k:TypeId)(I:Value->Prop):Prop where
 check:∀(w:World) (em:Bool) {v:Value},I v->(Instr.checkKey em 10000 k v).run P w=.ok () w
 eq:∀(w:World) {a b:Value},I a->I b->∃r:Bool,(Op.equal k a b).run P w=.ok r w/\(r=true↔a=b)
 adD:∃d,P.underlying k=some d/\∀{a b:Value},I a->I b->Instr.sameNow d a b=none
def Ci.find{P k I}(K:Ci P k I)(w){x}(n:I x)(es)(a:∀e∈es,I e.key):((Instr.findKey k x es).run P w=.ok none w/\∀e∈es,e.key≠x)\/∃j e,(Instr.findKey k x es).run P w=.ok (some (j,e.val)) w/\es[j]?=some e/\e.key=x:=by
 have ask:∀(es:List MapEntry) (i:Nat),(∀e∈es,I e.key)->((Instr.findAsking k x es i).run P w=.ok none w/\∀e∈es,e.key≠x)\/∃j e,(Instr.findAsking k x es i).run P w=.ok (some (i+j,e.val)) w/\es[j]?=some e/\e.key=x:=by intro es;induction es with
  |nil=>intro i _;exact .inl ⟨by simp[Instr.findAsking],S8⟩
  |cons e es t=>intro i a;obtain⟨r,m,l⟩:=K.eq w n (a e S8);cases r with
    |true=>refine .inr ⟨0,e,?_,rfl,(l.1 rfl).symm⟩;simp[Instr.findAsking,m]
    |false=>
      have v:e.key≠x:=λh=>by simpa using l.2 h.symm
      have u:=t (i+1) (λb o=>a b (by simp[o]));have q:(Instr.findAsking k x (e::es) i).run P w=(Instr.findAsking k x es (i+1)).run P w:=by simp[Instr.findAsking,m]
      rw[q];obtain⟨c,f⟩|⟨j,b,c,f,p⟩:=u;.simp_all
      .exact .inr ⟨j+1,b,by rw[c];congr 3;omega,by simpa using f,p⟩
 obtain⟨d,g,s⟩:=K.adD;cases es with
 |nil=>exact .inl ⟨by simp[Instr.findKey,wY g,Instr.findNow],S8⟩
 |cons e es=>
   have:(Instr.findKey k x (e::es)).run P w=(Instr.findAsking k x (e::es) 0).run P w:=by simp[Instr.findKey,wY g,Instr.findNow,s n (a e S8)]
   rw[this];simpa using ask (e::es) 0 a
def lQ(I:Value->Prop)(w:World)(b:Nat)(L:List (Value×Value)):Prop:=∃es clock,w.heap[b]?=some (.map es clock)/\es.toList.map (λe=>(e.key,e.val))=L/\(∀x∈L,I x.1)/\Stamped es clock
variable{P:Program}{I:Value->Prop}{k t e:TypeId}{w:World}{b:Nat}{L:List (Value×Value)}
def lQ.lt(h:lQ I w b L):b<w:=by obtain⟨es,c,a,-⟩:=h;exact(eK.1 a).1
def lQ.same{w'}(h:lQ I w b L)(e:w'.heap[b]?=w.heap[b]?):lQ I w' b L:=by obtain⟨es,c,a,d⟩:=h;exact⟨es,c,e.trans a,d⟩
def lQ.keys(h:lQ I w b L):(L.map Prod.fst).Nodup:=by obtain⟨es,c,-,rfl,-,h⟩:=h;have:=h.2.2;rw[uS];exact this
def Og{es:Array MapEntry}(a:es.toList.map (λe=>(e.key,e.val))=L)(c:∀x∈L,I x.1):∀e∈es.toList,I e.key:=by intro e b;exact c (e.key,e.val) (a▸jV.2 ⟨e,b,rfl⟩)
def lQ.look(h:lQ I w b L)(K:Ci P k I)(m:P.underlying t=some (.map k e)){z}(r:(zeroValue e).run P w=.ok z w){key}(g:I key):((Instr.lookup t (.map (some b)) key false).run P w=.ok z w/\∀x∈L,x.1≠key)\/∃v,(key,v)∈L/\(Instr.lookup t (.map (some b)) key false).run P w=.ok v w:=by
 obtain⟨es,c,l,f,o,-⟩:=h;rcases K.find w g es.toList (Og f o)with⟨a,d⟩|⟨j,i,a,d,n⟩;.refine .inl ⟨by simp[Instr.lookup,wY m,Jl l,K.check w _ g,a,r],λx p=>?_⟩;subst f;obtain⟨y,q,rfl⟩:=jV.1 p;exact d y q
 .refine .inr ⟨i.val,?_,by simp[Instr.lookup,wY m,Jl l,K.check w _ g,a]⟩;subst f;exact jV.2 ⟨i,eN d,by rw[n]⟩
def Oh{w o}(a:b<w.heap.size):(setBlock w b o).heap[b]?=some o:=by simp[setBlock,a]
def lQ.put(h:lQ I w b L)(K:Ci P k I)(u:P.underlying t=some (.map k e)){key val}(m:I key)(s:∀x∈L,x.1≠key):∃o,(Instr.mapUpdate t (.map (some b)) key val).run P w=.ok () (setBlock w b o)/\lQ I (setBlock w b o) b (L++[(key,val)]):=by
 have r:=h.lt;obtain⟨es,c,l,f,q,p⟩:=h;rcases K.find w m es.toList (Og f q)with⟨i,d⟩|⟨j,a,i,d,n⟩
 .refine⟨.map (es.push ⟨key,val,c⟩) (c+1),by simp[Instr.mapUpdate,wY u,Jl l,K.check w false m,i,UA _ l,setBlock],⟨_,_,Oh r,by simp[<-f],?_,stamped_push p d⟩⟩;intro x g;obtain g|g:=kV.1 g;.grind
  .simp_all
 .exact absurd n (s (a.key,a.val) (f▸jV.2 ⟨a,eN d,rfl⟩))
def AE{α β:Type}(f:α->β):∀(l:List α) (j:Nat),(l.eraseIdx j).map f=(l.map f).eraseIdx j
 |[],_=>rfl
 |_::_,0=>rfl
 |a::l,j+1=>by simp[AE f l j]
def lQ.drop{ty}(h:lQ I w b L)(K:Ci P k I)(r:P.underlying t=some (.map k e)){key}(l:I key):∃o f,(Builtin.delete_ #[t,k] ty #[.map (some b),key]).run P w=.ok (.tuple #[]) (setBlock w b o)/\lQ I (setBlock w b o) b f/\((f=L/\∀x∈L,x.1≠key)\/∃j v,L[j]?=some (key,v)/\f=L.eraseIdx j):=by
 have q:=h.lt;obtain⟨es,c,d,a,i,p⟩:=h;rcases K.find w l es.toList (Og a i)with⟨g,n⟩|⟨j,s,g,n,A⟩;.refine⟨.map es c,L,by simp[Builtin.delete_,wY r,Jl d,K.check w _ l,g,UA _ d,setBlock],⟨_,_,Oh q,a,i,p⟩,.inl ⟨rfl,λx m=>?_⟩⟩;subst a;obtain⟨y,z,rfl⟩:=jV.1 m;exact n y z
 .have u:(es.eraseIdxIfInBounds j).toList=es.toList.eraseIdx j:=by simp
  refine⟨.map (es.eraseIdxIfInBounds j) c,L.eraseIdx j,by simp[Builtin.delete_,wY r,Jl d,K.check w _ l,g,UA _ d,setBlock],⟨_,_,Oh q,?_,?_,stamped_erase p j⟩,.inr ⟨j,s.val,?_,rfl⟩⟩;.rw[u,AE,a]
  .intro x m;exact i x ((aa4 _ _).subset m)
  .grind
end
end Go.Il
namespace Go.Proofs.aH
open Go.RowKit
open Go.Il (lQ Ci)
abbrev Pt:=ByteArray×Int
def uF(p:Pt):Value:=.agg #[.string p.1,.int .i64 p.2]
def adC(v:Value):Prop:=∃p:Pt,v=uF p
def CB{p q}(h:uF p=uF q):p=q:=by obtain⟨a,b⟩:=p;simp[uF]at h;rw[h.1,h.2]
def Wz:Ci aI.prog 48 adC where
 check:=by rintro w em v ⟨⟨a,b⟩,rfl⟩;have hu:=aI.underlying48;obtain⟨m,hm⟩:∃m,10000=m+2:=⟨9998,rfl⟩;rw[hm];clear hm;unfold uF;simp[Instr.checkKey,wY hu,go_sem]
 eq:=by
  rintro w x y ⟨⟨a,b⟩,rfl⟩ ⟨⟨c,d⟩,rfl⟩;refine⟨(a.toList==c.toList)&&(b==d),?_,?_⟩;.unfold uF;obtain⟨m,hm⟩:∃m,Op.maxDepth=m+2:=⟨9998,rfl⟩;rw[Op.equal,hm];clear hm;by_cases h:a.toList==c.toList<;>by_cases h2:b=d<;>simp[go_sem,h,h2]
  .constructor
   .intro h;simp only[dJ,uM]at h;obtain⟨h1,rfl⟩:=h;have:a=c:=by rw[ByteArray.toList_eq,ByteArray.toList_eq]at h1;obtain⟨⟨x⟩⟩:=a;obtain⟨⟨y⟩⟩:=c;simp only at h1;rw[h1]
    rw[this]
   .intro h;have:=CB h;cases this;simp
 adD:=⟨_,aI.underlying48,by rintro x y ⟨⟨a,b⟩,rfl⟩ ⟨⟨c,d⟩,rfl⟩;rfl⟩
end Go.Proofs.aH
