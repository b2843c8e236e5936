import Derived.Test.YtpjcmpfncpnmeaaGreatM15a
import Derived.Test.YtpjcmpfncpnmeaaGreatM15b
set_option linter.all false
set_option maxHeartbeats 8000000
set_option maxRecDepth 100000
namespace Go.Proofs.aH
open Go.RowKit Tryz
def ac0(p i b a h m x l w)(u:i<p.length)(y:p.length<=1000)(j:RM w b (mk a) h 0 ⟨m,x::l⟩)(E:a.length<=1000)(d:opAt p i=73\/opAt p i=74):Calls Vp 244 #[.pointer b,(mk p),i] w (kV w b (mk a) h (i+1) ⟨m,wm a (opAt p i) x x::l⟩):=by
 have⟨v,q,f⟩:=j.st;have⟨g,n,G,s⟩:=qC f;subst G;have r:=q.cell 0;have A:=j.lZ x S8;have F:=j.len;simp[cQ]at F;have D:=(nD f g rfl).1;have J:=(nD f g rfl).2;have t:Below w w w.drew:=D8 B0;have o:=(Kl w.drew b a h 0 _ (j.keep t) E (opAt p i) O9 x x A A).mono (R':=λe k=>∃v,e=.returned v/\(v=.int .u64 (wm a (opAt p i) x x)/\(k.cell? (b,0)=some (.slice g (l+1) n)/\k.cell? (g,l.length)=some (.int .u64 x)/\k.frozen? (g,l.length)=false/\Hid (kV w b (mk a) h (i+1) ⟨m,wm a (opAt p i) x x::l⟩ (.returned ↑((i:Int)+1))<|k.setCell (g,l.length) (.int .u64<|wm a (opAt p i) x x)))))
  λe k⟨C,I⟩=>have c:=mD t L9 I;have z:=aj4 (j.keep c) D (V7 a (opAt p i) x x) (q.keep c q.lt)<|uo f c;⟨_,C,rfl,aM c r,aM c s,vp (uo f c) l,aK ⟨rfl,z.1,(c.mono O9).trans z.2⟩⟩
 obtain d|d:=d;rw[d]at o|-;exact S6 p i b g n l x _ h a _ w u y O9 d r s o;rw[d]at o|-;exact S9 p i b g n l x _ h a _ w u y O9 d r s o
theorem jr(p i):i<cK p i:=by unfold cK;split<;>omega
def qJ(p):∀f b i a m,p.length<=i+f->p.length<=i+b->eB p f i a m=eB p b i a m
 |0,0,i,a,m,_,_=>rfl
 |0,b+1,i,a,m,h,_=>by rw[eB,eB,aJ O9]
 |f+1,0,i,a,m,_,h=>by rw[eB,eB,aJ O9]
 |f+1,b+1,i,a,m,h,c=>by have d:=jr p i;rw[eB,eB];rw[qJ p f b (i+1) (a+1) m O9 O9,qJ p f b (i+1) (a -1) m O9 O9,qJ p f b (cK p i) a m O9 O9,qJ p f b (cK p i) 0 m O9 O9,qJ p f b (i+1) 0 (some i) O9 O9]
def eM(p:List UInt8)(i d:Nat)(m:Option Nat):Option (Nat×Nat):=eB p p.length i d m
theorem PH(p i a m):eM p i a m=if i<p then if opAt p i=80 then eM p (i+1) (a+1) m
  else if opAt p i=82/\0<a then eM p (i+1) (a -1) m
  else if 0<a then eM p (cK p i) a m
  else if opAt p i=81 then(if m.isSome then none else eM p (i+1) 0 (some i))
  else if opAt p i=82 then some (m.getD i,i)
  else eM p (cK p i) 0 m
 else none:=by
 have b:eM p i a m=eB p (p+1) i a m:=qJ p _ _ i a m O9 O9;rw[b,eB];rfl
def Ks{p i b m r}(h:eM p i b m=some r):i<p.length:=by grind [PH]
def vq(p):∀n i a c f d e b,p.length<=i+n->eM p i a f=some (e,b)->eM p i (a+c+1) d=eM p (b+1) c d
 |0,i,a,c,f,d,e,b,s,h=>by have:=Ks h;omega
 |n+1,i,a,c,f,d,e,b,s,h=>by
   have q:=Ks h;have t:=jr p i;rw[PH,aN q]at h;rw[PH p i<|a+c+1,aN q];by_cases m:opAt p i=80;rw[aN m]at h|-;have:=vq p n (i+1) (a+1) c f d e b O9 h;rw[<-this,show a+1+c+1=a+c+1+1 from by omega];rw[aJ m]at h|-;by_cases g:opAt p i=82;rw[aN (⟨g,O9⟩:opAt p i=82/\0<a+c+1)];by_cases j:0<a;rw[aN ⟨g,j⟩]at h;have:=vq p n (i+1) (a -1) c f d e b O9 h;rw[<-this,show a -1+c+1=a+c+1 -1 from by omega];grind;rw[aJ λl=>g l.1,aN O9];rw[aJ λl=>g l.1]at h;by_cases j:0<a;rw[aN j]at h;exact vq p n (cK p i) a c f d e b O9 h;have k:a=0:=O9;subst k;rw[aJ O9]at h;by_cases o:opAt p i=81;rw[aN o]at h;have r:cK p i=i+1:=by unfold cK;rw[if_neg O9]
   rw[r];split at h;cases h;exact vq p n (i+1) 0 c (some i) d e b O9 h;rw[aJ o,aJ g]at h;exact vq p n (cK p i) 0 c f d e b O9 h
def xx{p i b a m e}(h:eM p i b a=some (m,e))(c:∀x,a=some x->x<i):m<=e/\e<p/\i<=e/\(∀x,a=some x->m=x)/\(a=none->i<=m):=Bj p _ i b a m e h c
def lT(M:Option Nat)(m e:Nat):Nat:=match M with
 |none=>m
 |some _=>e
def ac1{p j a m e}(h:eM p j 0 a=some (m,e))(q:∀x,a=some x->x<j)(i:j<lT a m e):opAt p j≠81/\opAt p j≠82/\(opAt p j≠80->eM p (cK p j) 0 a=some (m,e))/\(opAt p j=80->∀k b,eM p (j+1) 0 none=some (k,b)->eM p (b+1) 0 a=some (m,e)):=by
 have l:=Ks h;rw[PH,aN l]at h;by_cases c:opAt p j=80;rw[aN c]at h;refine⟨O9,O9,λg=>absurd c g,λ_ k b n=>?_⟩;have:=vq p p.length (j+1) 0 0 none a k b O9 n;rw[<-this];exact h;rw[aJ c,aJ O9,aJ O9]at h;by_cases d:opAt p j=81;rw[aN d]at h;cases a with
 |some x=>simp at h
 |none=>simp[Option.isSome_none,tK,vJ]at h;have:=(xx h λx o=>by cases o;omega).2.2.2.1 j rfl;simp[lT]at i;omega
 rw[aJ d]at h;by_cases f:opAt p j=82;rw[aN f]at h;simp[gV,wE]at h;cases a with
 |some x=>simp[lT]at i;omega
 |none=>simp[lT,Option.getD_none]at i h;omega
 grind
end Go.Proofs.aH
