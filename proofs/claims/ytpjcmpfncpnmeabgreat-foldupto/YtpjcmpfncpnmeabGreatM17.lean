import Derived.Test.YtpjcmpfncpnmeabGreatM15
import Derived.Test.YtpjcmpfncpnmeabGreatM16
set_option linter.all false
namespace Go.Proofs.aH
open Go.RowKit
def acd(f:Nat->ByteArray)(k l):(Oa f k l).length=l.length:=by simp[Oa]
def ZC(kind n id wrong):(yX kind n id wrong).length<=32:=by
 unfold yX;simp only;split;.simp
 .split;.rw[fR,bV];decide
  .grind
def FV(sp ids wrong i k):(fI (nQ sp ids wrong i k)).length<=32:=by exact ZC _ _ _ _
def FW{p bits n g F}(h:mJ (wB p bits g n)=true)(A:∀i k,(fI (F i k)).length<=32):mJ (wB p bits (J6 F g) n)=true:=by rw[iN]at h|-;have⟨s,u,v,w,z⟩:=h;refine⟨s,u,v,by simpa[wB,J6]using w,λi t a=>?_⟩;simp only[wB,J6,oU]at a;cases d:g[i]? with
 |none=>rw[d]at a;cases a
 |some t0=>
   rw[d]at a;simp at a;have j:=z i t0 d;by_cases e:i=0;.simp_all
   .rw[aS e]at a;subst a;rw[xk]at j;have⟨l,m,o,q,r⟩:=j;refine(xk ⟨t0.tag,Oa (F i) t0.ins.length t0.ins,t0.outs⟩ _).2 ⟨l,by simpa[acd]using m,o,λk x b=>?_,r⟩;simp only[Oa,oU]at b;cases f:t0.ins[k]? with
    |none=>rw[f]at b;cases b
    |some y=>
      rw[f]at b;simp at b;have c:=q k y f;split at b;.subst b;rw[DK]at c|-;exact⟨c.1,c.2.1,A i k⟩
      .simp_all
structure mH.Good(x:mH):Prop where
 ok:x.Ok
 tx:(fI x.tx).length=8
 ix:0<=x.ix/\x.ix<=255
def wP.fits{cs tg ds sp ms}(h:wP cs tg ds sp ms)(A:ds.length<=3)(u:∀x∈cs,x.Good){p}(v:p.length=8){bits n}(z:bits<=8)(B:n<65536):mJ (wB p bits (ds.map eP.m) n)=true:=by have C:=h.pos;rw[iN];refine⟨v,⟨by show(0:Int)<=(bits:Int);omega,by show(bits:Int)<=8;omega⟩,⟨by show(0:Int)<=(n:Int);omega,by show(n:Int)<=65535;omega⟩,⟨by simp[wB];omega,by simp[wB];omega⟩,λi t c=>?_⟩;simp only[wB,cL]at c;cases a:ds[i]? with
 |none=>rw[a]at c;cases c
 |some d=>
   rw[a]at c;simp at c;subst c;have⟨o,w,q⟩:=h.cI i d a;refine(xk d.m _).2 ⟨o,?_,⟨by show(1:Int)<=(d.outs.length:Int);omega,by show(d.outs.length:Int)<=8;omega⟩,λk x j=>?_,λk x j=>q x (cS j)⟩
   .by_cases e:i=0;.subst e;have:d.m.ins=[]:=(h.base d a).2;rw[this];exact⟨D9,D9⟩
    .have r:((i:Int)==0)=false:=by rw[QV];omega
     obtain⟨s,f⟩:∃s,sp[i]?=some s:=⟨_,bR (by have:=(bW.1 a).1;have:=h.l1;omega)⟩;have⟨b1,b2⟩:=h.ins i d s O9 a f;have:d.m.ins.length=s.2.length:=by show d.ins.length=_;rw[b2,eY]
     rw[r,this];exact⟨by show(1:Int)<=_;omega,by show _<=(8:Int);omega⟩
   .have b:d.ins[k]?=some x:=j;by_cases e:i=0;.subst e;rw[(h.base d a).2]at b;simp at b
    .obtain⟨s,f⟩:∃s,sp[i]?=some s:=⟨_,bR (by have:=(bW.1 a).1;have:=h.l1;omega)⟩;have⟨_,b2⟩:=h.ins i d s O9 a f;rw[b2,cL]at b;cases l:s.2[k]? with
     |none=>rw[l]at b;cases b
     |some y=>rw[l]at b;simp at b;subst b;have g:=u y (h.CS s (cS f) y (cS l));rw[DK];exact⟨g.tx,g.ix,by simp[xL,fI]⟩
def Nb(id):∀k l x,x∈BL id k l->∃j y,l[j]?=some y/\x=⟨id,((k+j:Nat):Int),y.kind,y.n⟩
 |_,[],x,h=>by simp[BL]at h
 |k,y::l,x,h=>by
   simp[BL]at h;obtain rfl|h:=h;.exact⟨0,y,rfl,rfl⟩
   .have⟨j,z,a,b⟩:=Nb id (k+1) l x h;exact⟨j+1,z,a,by rw[b];congr 1;omega⟩
def Ix:∀(ids:List ByteArray) (ms:List (List mH)) (x:mH),x∈jF ids ms->∃(i j:Nat) (id:ByteArray) (m:List mH) (y:mH),ids[i]?=some id/\ms[i]?=some m/\m[j]?=some y/\x=⟨id,(j:Int),y.kind,y.n⟩
 |[],_,x,h=>by simp[jF]at h
 |_::_,[],x,h=>by simp[jF]at h
 |id::ids,m::ms,x,h=>by
   simp[jF]at h;obtain h|h:=h;.have⟨j,y,e,f⟩:=Nb id 0 m x h;exact⟨0,j,id,m,y,rfl,rfl,e,by rw[f];congr 1;omega⟩
   .have⟨i,j,g,k,y,a,b,c,d⟩:=Ix ids ms x h;exact⟨i+1,j,g,k,y,a,b,c,d⟩
def Iy:∀(ids:List ByteArray) (ms:List (List mH)),(∀m∈ms,m.length<=2)->(jF ids ms).length<=2*ids.length
 |[],_,_=>by simp[jF]
 |_::_,[],_=>by simp[jF]
 |a::ids,b::ms,h=>by have:=Iy ids ms (λm c=>h m (V6 _ c));have:=h b (V9 ..);simp[jF,M8];omega
def Iz(P:ByteArray->Prop)(K:jQ):Prop:=∀p c,K p=some c->P p.1
def Iz.put{P K}(h:Iz P K)(c)(b:P c.tx):Iz P (K.put c):=by
 intro p d a;unfold jQ.put at a;split at a;.rename_i e;rw[e];exact b
 .exact h p d a
structure Knows(r:pW)(a:AN):Prop where
 vp:a.vp∈r.ids
 ids:∀i∈a.ids,i∈r.ids
 K:Iz (λt=>∃x∈r.aX,x.tx=t) a.K
 mem:∀t∈a.mem,t.Pp=0
end Go.Proofs.aH
