import Derived.Test.YtpjcmpfncpnmeabGreatM15
import Derived.Test.YtpjcmpfncpnmeabGreatM16
set_option linter.all false
namespace Go.Proofs.aH
open Go.RowKit
def abQ(f:Nat->ByteArray)(k l):(NP f k l).length=l.length:=by simp[NP]
def Y9(kind n id wrong):(yM kind n id wrong).length<=32:=by
 unfold yM;simp only;split;.simp
 .split;.rw[fG,bS];decide
  .grind
def FC(sp ids wrong i k):(fQ (oz sp ids wrong i k)).length<=32:=by exact Y9 _ _ _ _
def FD{p bits n g F}(h:mR (wB p bits g n)=true)(A:∀i k,(fQ (F i k)).length<=32):mR (wB p bits (PG F g) n)=true:=by rw[kC]at h|-;have⟨s,u,v,w,z⟩:=h;refine⟨s,u,v,by simpa[wB,PG]using w,λi t a=>?_⟩;simp only[wB,PG,pX]at a;cases d:g[i]? with
 |none=>rw[d]at a;cases a
 |some t0=>
   rw[d]at a;simp at a;have j:=z i t0 d;by_cases e:i=0;.simp_all
   .rw[aS e]at a;subst a;rw[xk]at j;have⟨l,m,o,q,r⟩:=j;refine(xk ⟨t0.tag,NP (F i) t0.ins.length t0.ins,t0.outs⟩ _).2 ⟨l,by simpa[abQ]using m,o,λk x b=>?_,r⟩;simp only[NP,pX]at b;cases f:t0.ins[k]? with
    |none=>rw[f]at b;cases b
    |some y=>
      rw[f]at b;simp at b;have c:=q k y f;split at b;.subst b;rw[DF]at c|-;exact⟨c.1,c.2.1,A i k⟩
      .simp_all
structure mD.Good(x:mD):Prop where
 ok:x.Ok
 tx:(fQ x.tx).length=8
 ix:0<=x.ix/\x.ix<=255
def wP.fits{cs tg ds sp ms}(h:wP cs tg ds sp ms)(A:ds.length<=3)(u:∀x∈cs,x.Good){p}(v:p.length=8){bits n}(z:bits<=8)(B:n<65536):mR (wB p bits (ds.map eU.m) n)=true:=by have C:=h.pos;rw[kC];refine⟨v,⟨by show(0:Int)<=(bits:Int);omega,by show(bits:Int)<=8;omega⟩,⟨by show(0:Int)<=(n:Int);omega,by show(n:Int)<=65535;omega⟩,⟨by simp[wB];omega,by simp[wB];omega⟩,λi t c=>?_⟩;simp only[wB,cW]at c;cases a:ds[i]? with
 |none=>rw[a]at c;cases c
 |some d=>
   rw[a]at c;simp at c;subst c;have⟨o,w,q⟩:=h.cS i d a;refine(xk d.m _).2 ⟨o,?_,⟨by show(1:Int)<=(d.outs.length:Int);omega,by show(d.outs.length:Int)<=8;omega⟩,λk x j=>?_,λk x j=>q x (cQ j)⟩
   .by_cases e:i=0;.subst e;have:d.m.ins=[]:=(h.base d a).2;rw[this];exact⟨D9,D9⟩
    .have r:((i:Int)==0)=false:=by rw[QI];omega
     obtain⟨s,f⟩:∃s,sp[i]?=some s:=⟨_,bO (by have:=(cB.1 a).1;have:=h.l1;omega)⟩;have⟨b1,b2⟩:=h.ins i d s O9 a f;have:d.m.ins.length=s.2.length:=by show d.ins.length=_;rw[b2,fC]
     rw[r,this];exact⟨by show(1:Int)<=_;omega,by show _<=(8:Int);omega⟩
   .have b:d.ins[k]?=some x:=j;by_cases e:i=0;.subst e;rw[(h.base d a).2]at b;simp at b
    .obtain⟨s,f⟩:∃s,sp[i]?=some s:=⟨_,bO (by have:=(cB.1 a).1;have:=h.l1;omega)⟩;have⟨_,b2⟩:=h.ins i d s O9 a f;rw[b2,cW]at b;cases l:s.2[k]? with
     |none=>rw[l]at b;cases b
     |some y=>rw[l]at b;simp at b;subst b;have g:=u y (h.CQ s (cQ f) y (cQ l));rw[DF];exact⟨g.tx,g.ix,by simp[xJ,fQ]⟩
def MV(id):∀k l x,x∈BI id k l->∃j y,l[j]?=some y/\x=⟨id,((k+j:Nat):Int),y.kind,y.n⟩
 |_,[],x,h=>by simp[BI]at h
 |k,y::l,x,h=>by
   simp[BI]at h;obtain rfl|h:=h;.exact⟨0,y,rfl,rfl⟩
   .have⟨j,z,a,b⟩:=MV id (k+1) l x h;exact⟨j+1,z,a,by rw[b];congr 1;omega⟩
def Ie:∀(ids:List ByteArray) (ms:List (List mD)) (x:mD),x∈jB ids ms->∃(i j:Nat) (id:ByteArray) (m:List mD) (y:mD),ids[i]?=some id/\ms[i]?=some m/\m[j]?=some y/\x=⟨id,(j:Int),y.kind,y.n⟩
 |[],_,x,h=>by simp[jB]at h
 |_::_,[],x,h=>by simp[jB]at h
 |id::ids,m::ms,x,h=>by
   simp[jB]at h;obtain h|h:=h;.have⟨j,y,e,f⟩:=MV id 0 m x h;exact⟨0,j,id,m,y,rfl,rfl,e,by rw[f];congr 1;omega⟩
   .have⟨i,j,g,k,y,a,b,c,d⟩:=Ie ids ms x h;exact⟨i+1,j,g,k,y,a,b,c,d⟩
def Ig:∀(ids:List ByteArray) (ms:List (List mD)),(∀m∈ms,m.length<=2)->(jB ids ms).length<=2*ids.length
 |[],_,_=>by simp[jB]
 |_::_,[],_=>by simp[jB]
 |a::ids,b::ms,h=>by have:=Ig ids ms (λm c=>h m (VP _ c));have:=h b (List.mem_cons_self ..);simp[jB,MS];omega
def Ih(P:ByteArray->Prop)(K:iR):Prop:=∀p c,K p=some c->P p.1
def Ih.put{P K}(h:Ih P K)(c)(b:P c.tx):Ih P (K.put c):=by
 intro p d a;unfold iR.put at a;split at a;.rename_i e;rw[e];exact b
 .exact h p d a
structure Knows(r:qd)(a:AN):Prop where
 nM:a.nM∈r.ids
 ids:∀i∈a.ids,i∈r.ids
 K:Ih (λt=>∃x∈r.aY,x.tx=t) a.K
 mem:∀t∈a.mem,t.Us=0
end Go.Proofs.aH
