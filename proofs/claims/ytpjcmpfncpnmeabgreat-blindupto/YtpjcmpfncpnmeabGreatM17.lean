import Derived.Test.YtpjcmpfncpnmeabGreatM15
import Derived.Test.YtpjcmpfncpnmeabGreatM16
set_option linter.all false
namespace Go.Proofs.aH
open Go.RowKit
def aca(f:Nat->ByteArray)(k l):(N4 f k l).length=l.length:=by simp[N4]
def ZA(kind n id wrong):(yJ kind n id wrong).length<=32:=by
 unfold yJ;simp only;split;.simp
 .split;.rw[fL,bT];decide
  .grind
def FW(sp ids wrong i k):(fP (oh sp ids wrong i k)).length<=32:=by exact ZA _ _ _ _
def FX{p bits n g F}(h:mQ (wB p bits g n)=true)(A:∀i k,(fP (F i k)).length<=32):mQ (wB p bits (P8 F g) n)=true:=by rw[pk]at h|-;have⟨s,u,v,w,z⟩:=h;refine⟨s,u,v,by simpa[wB,P8]using w,λi t a=>?_⟩;simp only[wB,P8,qw]at a;cases d:g[i]? with
 |none=>rw[d]at a;cases a
 |some t0=>
   rw[d]at a;simp at a;have j:=z i t0 d;by_cases e:i=0;.simp_all
   .rw[aT e]at a;subst a;rw[z7]at j;have⟨l,m,o,q,r⟩:=j;refine(z7 ⟨t0.tag,N4 (F i) t0.ins.length t0.ins,t0.outs⟩ _).2 ⟨l,by simpa[aca]using m,o,λk x b=>?_,r⟩;simp only[N4,qw]at b;cases f:t0.ins[k]? with
    |none=>rw[f]at b;cases b
    |some y=>
      rw[f]at b;simp at b;have c:=q k y f;split at b;.subst b;rw[DK]at c|-;exact⟨c.1,c.2.1,A i k⟩
      .simp_all
structure mE.Good(x:mE):Prop where
 ok:x.Ok
 tx:(fP x.tx).length=8
 ix:0<=x.ix/\x.ix<=255
def wJ.fits{cs tg ds sp ms}(h:wJ cs tg ds sp ms)(A:ds.length<=3)(u:∀x∈cs,x.Good){p}(v:p.length=8){bits n}(z:bits<=8)(B:n<65536):mQ (wB p bits (ds.map eT.m) n)=true:=by have C:=h.pos;rw[pk];refine⟨v,⟨by show(0:Int)<=(bits:Int);omega,by show(bits:Int)<=8;omega⟩,⟨by show(0:Int)<=(n:Int);omega,by show(n:Int)<=65535;omega⟩,⟨by simp[wB];omega,by simp[wB];omega⟩,λi t c=>?_⟩;simp only[wB,cT]at c;cases a:ds[i]? with
 |none=>rw[a]at c;cases c
 |some d=>
   rw[a]at c;simp at c;subst c;have⟨o,w,q⟩:=h.cO i d a;refine(z7 d.m _).2 ⟨o,?_,⟨by show(1:Int)<=(d.outs.length:Int);omega,by show(d.outs.length:Int)<=8;omega⟩,λk x j=>?_,λk x j=>q x (cU j)⟩
   .by_cases e:i=0;.subst e;have:d.m.ins=[]:=(h.base d a).2;rw[this];exact⟨D9,D9⟩
    .have r:((i:Int)==0)=false:=by rw[QX];omega
     obtain⟨s,f⟩:∃s,sp[i]?=some s:=⟨_,bS (by have:=(cE.1 a).1;have:=h.l1;omega)⟩;have⟨b1,b2⟩:=h.ins i d s O9 a f;have:d.m.ins.length=s.2.length:=by show d.ins.length=_;rw[b2,fM]
     rw[r,this];exact⟨by show(1:Int)<=_;omega,by show _<=(8:Int);omega⟩
   .have b:d.ins[k]?=some x:=j;by_cases e:i=0;.subst e;rw[(h.base d a).2]at b;simp at b
    .obtain⟨s,f⟩:∃s,sp[i]?=some s:=⟨_,bS (by have:=(cE.1 a).1;have:=h.l1;omega)⟩;have⟨_,b2⟩:=h.ins i d s O9 a f;rw[b2,cT]at b;cases l:s.2[k]? with
     |none=>rw[l]at b;cases b
     |some y=>rw[l]at b;simp at b;subst b;have g:=u y (h.CP s (cU f) y (cU l));rw[DK];exact⟨g.tx,g.ix,by simp[xC,fP]⟩
def Na(id):∀k l x,x∈BB id k l->∃j y,l[j]?=some y/\x=⟨id,((k+j:Nat):Int),y.kind,y.n⟩
 |_,[],x,h=>by simp[BB]at h
 |k,y::l,x,h=>by
   simp[BB]at h;obtain rfl|h:=h;.exact⟨0,y,rfl,rfl⟩
   .have⟨j,z,a,b⟩:=Na id (k+1) l x h;exact⟨j+1,z,a,by rw[b];congr 1;omega⟩
def Ix:∀(ids:List ByteArray) (ms:List (List mE)) (x:mE),x∈iV ids ms->∃(i j:Nat) (id:ByteArray) (m:List mE) (y:mE),ids[i]?=some id/\ms[i]?=some m/\m[j]?=some y/\x=⟨id,(j:Int),y.kind,y.n⟩
 |[],_,x,h=>by simp[iV]at h
 |_::_,[],x,h=>by simp[iV]at h
 |id::ids,m::ms,x,h=>by
   simp[iV]at h;obtain h|h:=h;.have⟨j,y,e,f⟩:=Na id 0 m x h;exact⟨0,j,id,m,y,rfl,rfl,e,by rw[f];congr 1;omega⟩
   .have⟨i,j,g,k,y,a,b,c,d⟩:=Ix ids ms x h;exact⟨i+1,j,g,k,y,a,b,c,d⟩
def Iy:∀(ids:List ByteArray) (ms:List (List mE)),(∀m∈ms,m.length<=2)->(iV ids ms).length<=2*ids.length
 |[],_,_=>by simp[iV]
 |_::_,[],_=>by simp[iV]
 |a::ids,b::ms,h=>by have:=Iy ids ms (λm c=>h m (Wi _ c));have:=h b (Wl ..);simp[iV,M7];omega
def Iz(P:ByteArray->Prop)(K:jO):Prop:=∀p c,K p=some c->P p.1
def Iz.put{P K}(h:Iz P K)(c)(b:P c.tx):Iz P (K.put c):=by
 intro p d a;unfold jO.put at a;split at a;.rename_i e;rw[e];exact b
 .exact h p d a
structure Knows(r:p9)(a:AN):Prop where
 rS:a.rS∈r.ids
 ids:∀i∈a.ids,i∈r.ids
 K:Iz (λt=>∃x∈r.aV,x.tx=t) a.K
 mem:∀t∈a.mem,t.Pn=0
end Go.Proofs.aH
