import Derived.Test.YtpjcmpfncpnmeaaGreatM09
set_option linter.all false
set_option maxHeartbeats 8000000
set_option maxRecDepth 100000
namespace Go.Proofs.aH
open Go.RowKit Tryz
section
def acn:=@Calls.regrown_of
variable[Go.Proofs.VB]
def qI.bind{b c:Type}(r:qI b)(f:b->St->qI c):qI c:=match r with
 |.ok a s=>f a s
 |.bad e n=>.bad e n
def jm.keep{w W b id h s}(a:jm w b id h s)(d:Below w w W):jm W b id h s:=have⟨f,c,e⟩:=a.row;⟨⟨f,c.keep d c.lt,e⟩,a.lZ,a.steps,a.kU⟩
def wY{w W}(a:Below w.heap.size w W)(r):w.grownBy W r:=⟨a.os,a.tape,a.output,a.size,λk b _=>a.block k b⟩
def aU.elim{l P w W b id h}{r:qI l}{e}(i:aU P w b id h r e W):w.grownBy W (some b)/\((∃a s,r=.ok a s/\e=.returned (P a)/\jm W b id h s)\/∃k n s,r=.bad k n/\e=.panicked (OW k)/\s.steps=n/\jm W b id h s):=by
 have⟨f,c⟩:=i;refine⟨f,?_⟩;cases r with
 |ok a s=>exact .inl ⟨a,s,rfl,c.1,c.2⟩
 |bad k n=>have⟨d,s,j,g⟩:=c;exact .inr ⟨k,n,s,rfl,d,j,g⟩
def aU.raise{g i P w W b id h k n s}{r:qI g}{f:g->St->qI i}(d:r=.bad k n)(a:w.grownBy W (some b))(e:s.steps=n)(c:jm W b id h s):aU P w b id h (r.bind f) (.panicked<|OW k) W:=by subst d;exact⟨a,rfl,s,e,c⟩
def mB:=@aU.raise
def aU.next{j k P w i W b id h s a}{r:qI j}{f:j->St->qI k}{e}(g:r=.ok a s)(d:w.grownBy i (some b))(c:aU P i b id h (f a s) e W):aU P w b id h (r.bind f) e W:=by subst g;exact⟨d.trans c.1,c.2⟩
def dQ:=@aU.next
def Mg(i:List UInt8)(o:Nat)(x y:Int):Int:=if o=68 then IntKind.u64.wrap (x+y)
 else if o=69 then IntKind.u64.wrap (x -y)
 else if o=70 then IntKind.u64.wrap (x*y)
 else if o=71 then ky (x==y)
 else if o=72 then ky (decide (x<y))
 else ky (x==hN (be y 8++i))
def zw(b):0<=ky b/\ky b<18446744073709551616:=by cases b<;>decide
def VL(x):0<=IntKind.u64.wrap x/\IntKind.u64.wrap x<18446744073709551616:=by rw[IntKind.wrap_u64];omega
def VM(a o x y):0<=Mg a o x y/\Mg a o x y<18446744073709551616:=by
 unfold Mg;repeat' split
 all_goals first|exact VL _|exact zw _
def jm.c0{w b id h s}(c:jm w b id h s):w.cell? (b,0)=some ↑id:=have⟨d,a,_⟩:=c.row;a.cell 0
def jm.c1{w b id h s}(c:jm w b id h s):w.cell? (b,1)=some (.int .u64 h):=have⟨d,a,_⟩:=c.row;a.cell 1
theorem jm.lt{w b id h s}(c:jm w b id h s):b<w:=have⟨d,a,_⟩:=c.row;a.lt
def OX(w b a h s)(u:jm w b (mk a) h s)(r:a.length<=1000)(O:Nat)(v:O=68\/O=69\/O=70\/O=71\/O=72\/O=75)(x y)(_hx:0<=x/\x<18446744073709551616)(m:0<=y/\y<18446744073709551616):Cv 267 #[.pointer b,.int .u8 O,.int .u64 x,.int .u64 y] w λe W=>e=.returned (.int .u64<|Mg a O x y)/\Below w w W:=by
 have n:=u.c0;obtain rfl|rfl|rfl|rfl|rfl|rfl:=v;iterate 3 go_enter fA func267,ntmps267;go_wp2;go_ret;exact⟨rfl,B0⟩
 iterate 2 go_enter fA func267,ntmps267;go_wp2;refine(CK _ _).m0 ?_;go_wp2;go_ret;exact⟨rfl,B0⟩
 have c:Hid (Mg a 75 x y=ky (x==hN (be y 8++a))):=rfl;have o:=λd j=>acn<|qi y (Go.Sort.grow (redrawn w d) j) m.1 m.2;have k:=bI y 8;generalize be y 8=t at c o k;have E:(mk t).size=8:=by rw[cD,k]
 have D:(mk a).size<=1000:=by rw[cD];exact r
 have q:∀d j,Cv 131 #[(mk t++mk a)] (Go.Sort.grow (redrawn w d) j) λe i=>e=.returned (.int .u64 (hN<|t++a))/\∃p:Regrown,i=Go.Sort.grow (redrawn w p.d) p.os:=λd j=>by rw[eH];exact acn<|(sf (t++a) _<|by rw[cB];omega).mono λe W⟨f,g⟩=>⟨f,g▸B0⟩
 generalize hN (t++a)=z at c q;have C:∀d j,Cv 268 #[(x==z)] (Go.Sort.grow (redrawn w d) j) λe i=>e=.returned (.int .u64 (ky<|x==z))/\∃p:Regrown,i=Go.Sort.grow (redrawn w p.d) p.os:=λd j=>acn<|(CK (x==z) _).mono λe W⟨f,g⟩=>⟨f,g▸B0⟩
 have n:=cell_regrown n;go_enter fA func267,ntmps267;go_wp2;refine wp_region_quiet_below nO K8 ?_;repeat(go_big_quiet_step (first|(go_at_call 158;exact o _ _)|(go_at_call 131;exact q _ _)|(go_at_call 268;exact C _ _)))
 refine vZ λA l=>?_;go_wp2;go_ret;rw[c.out];exact⟨rfl,l⟩
def Bi(i:List UInt8)(h:Int)(o:Nat)(s:St):qI Unit:=if o=65 then(jV s).bind λx s=>(ny x s).bind λ_ s=>ny x s
 else if o=66 then(jV s).bind λ_ s=>.ok () s
 else if o=67 then(jV s).bind λy s=>(jV s).bind λx s=>(ny y s).bind λ_ s=>ny x s
 else if o=68\/o=69\/o=70\/o=71\/o=72\/o=75 then(jV s).bind λy s=>(jV s).bind λx s=>ny (Mg i o x y) s
 else if o=73 then(jV s).bind λx s=>ny (ky<|x==0) s
 else if o=74 then(jV s).bind λx s=>ny (hN<|be x 8) s
 else if o=76 then(jV s).bind λx s=>if x=0 then .bad 6 s.steps else .ok () s
 else if o=77 then ny h s
 else .bad 2 s.steps
def pg{s S x}(h:jV s=.ok x S):s.l=x::S.l/\s.steps=S.steps:=by unfold jV at h;split at h;cases h;grind
def aco(w b o h s)(l:jm w b (mk o) h s):Cv 263 #[.pointer b,.int .u8 65] w (aU lj w b (mk o) h<|(jV s).bind λx s=>(ny x s).bind λ_ s=>ny x s):=by
 go_enter fA func263,ntmps263;go_wp2;refine(kR w b _ h s l).mono λe W t=>?_;obtain⟨c,⟨x,p,a,rfl,g⟩|⟨k,n,p,a,rfl,y,g⟩⟩:=t.elim;rotate_left;exact⟨rfl,mB a c y g⟩;have m:=l.lZ x (by rw[(pg a).1];simp);go_wp2;refine(mC W b _ h x p g m).mono λe D u=>?_;obtain⟨f,⟨_,q,d,rfl,i⟩|⟨k,n,q,d,rfl,z,i⟩⟩:=u.elim;rotate_left;exact⟨rfl,dQ a c<|mB d f z i⟩;go_wp2;refine(mC D b _ h x q i m).mono λe E j=>?_;obtain⟨B,⟨_,A,v,rfl,r⟩|⟨k,n,A,v,rfl,C,r⟩⟩:=j.elim;.go_wp2;go_end0;exact dQ a c (dQ d f<|j)
 exact⟨rfl,dQ a c (dQ d f<|j)⟩
def Yn(w b f h s)(g:jm w b (mk f) h s):Cv 263 #[.pointer b,.int .u8 66] w (aU lj w b (mk f) h<|(jV s).bind λ_ s=>.ok () s):=by
 go_enter fA func263,ntmps263;go_wp2;refine(kR w b _ h s g).mono λe W i=>?_;obtain⟨d,⟨x,l,c,rfl,a⟩|⟨k,n,l,c,rfl,j,a⟩⟩:=i.elim;rotate_left;exact⟨rfl,mB c d j a⟩;go_wp2;go_end0;exact dQ c d ⟨bT _ _,rfl,a⟩
def Yo(w b q h s)(p:jm w b (mk q) h s):Cv 263 #[.pointer b,.int .u8 67] w (aU lj w b (mk q) h<|(jV s).bind λy s=>(jV s).bind λx s=>(ny y s).bind λ_ s=>ny x s):=by
 go_enter fA func263,ntmps263;go_wp2;refine(kR w b _ h s p).mono λe W z=>?_;obtain⟨d,⟨y,r,a,rfl,g⟩|⟨k,n,r,a,rfl,D,g⟩⟩:=z.elim;rotate_left;exact⟨rfl,mB a d D g⟩;go_wp2;refine(kR W b _ h r g).mono λe L A=>?_;obtain⟨f,⟨x,t,c,rfl,l⟩|⟨k,n,t,c,rfl,E,l⟩⟩:=A.elim;rotate_left;exact⟨rfl,dQ a d<|mB c f E l⟩;go_wp2;refine(mC L b _ h y t l (p.lZ y<|by rw[(pg a).1];simp)).mono λe M B=>?_;obtain⟨j,⟨_,u,i,rfl,m⟩|⟨k,n,u,i,rfl,F,m⟩⟩:=B.elim;rotate_left;exact⟨rfl,dQ a d (dQ c f<|mB i j F m)⟩;go_wp2;refine(mC M b _ h x u m (g.lZ x<|by rw[(pg c).1];simp)).mono λe N o=>?_;obtain⟨J,⟨_,I,C,rfl,v⟩|⟨k,n,I,C,rfl,K,v⟩⟩:=o.elim;.go_wp2;go_end0;exact dQ a d<|dQ c f (dQ i j<|o)
 exact⟨rfl,dQ a d<|dQ c f (dQ i j<|o)⟩
def acp(w b g h s)(j:jm w b (mk g) h s):Cv 263 #[.pointer b,.int .u8 73] w (aU lj w b (mk g) h<|(jV s).bind λx s=>ny (ky<|x==0) s):=by
 go_enter fA func263,ntmps263;go_wp2;refine(kR w b _ h s j).mono λe u m=>?_;obtain⟨c,⟨x,i,a,rfl,d⟩|⟨k,n,i,a,rfl,p,d⟩⟩:=m.elim;rotate_left;exact⟨rfl,mB a c p d⟩;unfold kj;go_wp2;refine(CK _ _).mono ?_;rintro e W⟨rfl,rfl⟩;go_wp2;refine(mC W b _ h (ky<|x==0) i d<|zw _).mono λe v f=>?_;obtain⟨r,⟨_,q,o,rfl,l⟩|⟨k,n,q,o,rfl,t,l⟩⟩:=f.elim;.go_wp2;go_end0;exact dQ a c<|f
 exact⟨rfl,dQ a c<|f⟩
def OY(w b f h s)(i:jm w b (mk f) h s):Cv 263 #[.pointer b,.int .u8 76] w (aU lj w b (mk f) h<|(jV s).bind λx s=>if x=0 then .bad 6 s.steps else .ok () s):=by
 go_enter fA func263,ntmps263;go_wp2;refine(kR w b _ h s i).mono λe W j=>?_;obtain⟨d,⟨x,g,c,rfl,a⟩|⟨k,n,g,c,rfl,l,a⟩⟩:=j.elim;rotate_left;exact⟨rfl,mB c d l a⟩;unfold kj;by_cases H:x=0;.subst H;go_wp2;exact⟨rfl,dQ c d ⟨bT _ _,rfl,g,rfl,a⟩⟩
 go_wp2;go_end0;refine dQ c d ?_;rw[aJ H];exact⟨bT _ _,rfl,a⟩
def OZ(w b d h s)(a:jm w b (mk d) h s):Cv 263 #[.pointer b,.int .u8 77] w (aU lj w b (mk d) h<|ny h s):=by
 have C:=a.c1;go_enter fA func263,ntmps263;go_wp2;refine(mC w b _ h h s a a.kU).mono λe W c=>?_;obtain⟨j,⟨_,i,g,rfl,f⟩|⟨k,n,i,g,rfl,l,f⟩⟩:=c.elim;.go_wp2;go_end0;exact c
 trivial
def tZ(w b c h s)(t:jm w b (mk c) h s)(A:c.length<=1000)(O:Nat)(D:O=68\/O=69\/O=70\/O=71\/O=72\/O=75):Cv 263 #[.pointer b,.int .u8 O] w (aU lj w b (mk c) h<|(jV s).bind λy s=>(jV s).bind λx s=>ny (Mg c O x y) s):=by
 obtain rfl|rfl|rfl|rfl|rfl|rfl:=D;all_goals
  go_enter fA func263,ntmps263;go_wp2;refine(kR w b _ h s t).mono λe W E=>?_;obtain⟨i,⟨y,u,a,rfl,j⟩|⟨k,n,u,a,rfl,H,j⟩⟩:=E.elim;rotate_left;.go_wp2;exact⟨rfl,mB a i H j⟩
  unfold kj;go_wp2;refine(kR W b _ h u j).mono λe P F=>?_;obtain⟨m,⟨x,p,f,rfl,l⟩|⟨k,n,p,f,rfl,I,l⟩⟩:=F.elim;rotate_left;.go_wp2;exact⟨rfl,dQ a i<|mB f m I l⟩
  unfold kj;go_wp2;refine(OX P b c h p l A _ D9 x y (j.lZ x<|by rw[(pg f).1];simp) (t.lZ y<|by rw[(pg a).1];simp)).m1 λQ q=>?_;have r:=(wY q<|some b);generalize g:Mg c _ x y=z;have g:=aK g;go_wp2;refine(mC Q b _ h z p (l.keep q)<|g▸VM ..).mono λe R d=>?_;obtain⟨M,⟨_,L,G,rfl,C⟩|⟨k,n,L,G,rfl,N,C⟩⟩:=d.elim;.unfold lj;go_wp2;go_end0;have o:=g.out;subst o;exact dQ a i<|dQ f m ⟨r.trans d.1,d.2⟩
  go_wp2;have o:=g.out;subst o;exact⟨rfl,dQ a i<|dQ f m ⟨r.trans d.1,d.2⟩⟩
def Yp(w b v h s)(r:jm w b (mk v) h s):Cv 263 #[.pointer b,.int .u8 74] w (aU lj w b (mk v) h<|(jV s).bind λx s=>ny (hN<|be x 8) s):=by
 go_enter fA func263,ntmps263;go_wp2;refine(kR w b _ h s r).mono λe W C=>?_;obtain⟨i,⟨x,y,c,rfl,j⟩|⟨k,n,y,c,rfl,E,j⟩⟩:=C.elim;rotate_left;exact⟨rfl,mB c i E j⟩;have u:=r.lZ x (by rw[(pg c).1];simp);go_wp2;refine(qi x W u.1 u.2).mono ?_;rintro e I⟨rfl,o⟩;have g:=sf (be x 8) I (by rw[bI];omega);have p:=GP<|be x 8;generalize d:hN (be x 8)=z at g p|-;have d:=aK d;generalize f:be x 8=t at g d|-;have f:=aK f;go_wp2;refine g.mono ?_;rintro e J⟨rfl,rfl⟩;have q:=(wY o<|some b);go_wp2;refine(mC J b _ h z y (j.keep o) p).mono λe K a=>?_;obtain⟨G,⟨_,F,D,rfl,B⟩|⟨k,n,F,D,rfl,H,B⟩⟩:=a.elim;.go_wp2;go_end0;have m:=d.out;have l:=f.out;subst m l;exact dQ c i ⟨q.trans a.1,a.2⟩
 have m:=d.out;have l:=f.out;subst m l;exact⟨rfl,dQ c i ⟨q.trans a.1,a.2⟩⟩
def Yq(w b a h s)(c:jm w b (mk a) h s)(o:Nat)(d:o<65\/77<o)(_hl:o<256):Cv 263 #[.pointer b,.int .u8 o] w (aU lj w b (mk a) h<|.bad 2 s.steps):=by
 go_enter fA func263,ntmps263;go_wp2;exact⟨rfl,bT _ _,rfl,s,rfl,c⟩
def acr(w b a h s)(c:jm w b (mk a) h s)(d:a.length<=1000)(o:Nat)(g:o<256):Cv 263 #[.pointer b,.int .u8 o] w (aU lj w b (mk a) h<|Bi a h o s):=by
 by_cases i:o<65\/77<o;have e:Bi a h o s=.bad 2 s.steps:=by unfold Bi;rw[aJ O9,aJ O9,aJ O9,aJ O9,aJ O9,aJ O9,aJ O9,aJ O9]
 rw[e];exact Yq w b a h s c o i g;have f:o=65\/o=66\/o=67\/o=68\/o=69\/o=70\/o=71\/o=72\/o=73\/o=74\/o=75\/o=76\/o=77:=O9;obtain rfl|rfl|rfl|rfl|rfl|rfl|rfl|rfl|rfl|rfl|rfl|rfl|rfl:=f;exact aco w b a h s c;exact Yn w b a h s c;exact Yo w b a h s c;exact tZ w b a h s c d 68 D9;exact tZ w b a h s c d 69 D9;exact tZ w b a h s c d 70 D9;exact tZ w b a h s c d 71 D9;exact tZ w b a h s c d 72 D9;exact acp w b a h s c;exact Yp w b a h s c;exact tZ w b a h s c d 75 D9;exact OY w b a h s c;exact OZ w b a h s c
end
section
variable[Go.Proofs.VB]
def jf(d:Nat->St->qI Nat)(t:Nat):Nat->Nat->St->qI Unit
 |0,_,s=>.ok () s
 |k+1,i,s=>if i<t then(d i s).bind λj S=>jf d t k j S else .ok () s
def pE(d:Nat->St->qI Nat)(p:List UInt8)(i:Nat)(s:St):qI Nat:=match eB p p.length (i+1) 0 none with
 |none=>.bad 5 s.steps
 |some (m,e)=>(jV s).bind λx s=>if x≠0 then(jf d m (m -(i+1)) (i+1) s).bind λ_ s=>(kr s).bind λ_ s=>.ok (e+1) s
   else if m<e then(jf d e (e -(m+1)) (m+1) s).bind λ_ s=>(kr s).bind λ_ s=>.ok (e+1) s
   else .ok (e+1) s
def VO(I:List UInt8)(h:Int)(p:List UInt8)(d:Nat->St->qI Nat)(i:Nat)(s:St):qI Nat:=(kr s).bind λ_ s=>if opAt p i<64 then(ny (opAt p i) s).bind λ_ s=>.ok (i+1) s
   else if opAt p i=64 then(if i+9<=p.length then(ny (mG p i) s).bind λ_ s=>.ok (i+9) s else .bad 2 s.steps)
   else if opAt p i=80 then pE d p i s
   else if opAt p i=81\/opAt p i=82 then .bad 5 s.steps
   else(Bi I h (opAt p i) s).bind λ_ s=>.ok (i+1) s
def O0(i:List UInt8)(h:Int)(p:List UInt8):Nat->Nat->St->qI Nat
 |0=>λ_ s=>.bad 99 s.steps
 |n+1=>VO i h p<|O0 i h p n
def Bj(p):∀f i d a m e,eB p f i d a=some (m,e)->(∀x,a=some x->x<i)->m<=e/\e<p/\i<=e/\(∀x,a=some x->m=x)/\(a=none->i<=m)
 |0,i,d,a,m,e,h,_=>by simp[eB]at h
 |f+1,i,d,a,m,e,h,c=>by
   have g:i<cK p i:=by unfold cK;split<;>omega
   have S:∀j D,i<j->eB p f j D a=some (m,e)->m<=e/\e<p/\i<=e/\(∀x,a=some x->m=x)/\(a=none->i<=m):=λj D r k=>have:=Bj p f j D a m e k (λx b=>by have:=c x b;omega);⟨this.1,this.2.1,O9,this.2.2.2.1,λH=>by have:=this.2.2.2.2 H;omega⟩
   rw[eB]at h;split at h;rename_i s;split at h;grind;split at h;grind;split at h;grind;split at h;split at h;cases h;rename_i n;have l:a=none:=by cases a with
    |none=>rfl
    |some x=>exact absurd rfl n
   have:=Bj p f _ _ _ _ _ h (λx b=>by cases b;omega);have q:=this.2.2.2.1 i rfl;exact⟨this.1,this.2.1,O9,(λx b=>by cases l▸b),λ_=>by omega⟩;split at h;cases a with
   |none=>simp[Option.getD_none,gV,wE]at h;exact⟨O9,O9,O9,(λx b=>by cases b),λ_=>by omega⟩
   |some x=>simp[nB,gV,wE]at h;have:=c x rfl;exact⟨O9,O9,O9,(λy o=>by cases o;omega),λH=>by cases H⟩
   exact S _ _ g h;cases h
def O3(n:Nat):Value:=.int .i64 n
def GQ(p b f h)(d:Nat->St->qI Nat)(i J s w)(_hp:J<=1000)(z:i<=2000)(y:∀(j:Nat)(s:St)(w:World),i<=j->j<J->jm w b (mk f) h s->Cv 257 #[.pointer b,(mk p),j] w (aU O3 w b (mk f) h<|d j s))
 (I:∀j s c S,i<=j->j<J->d j s=.ok c S->j<c/\c<=2000)(m:jm w b (mk f) h s):
 Cv 251 #[.pointer b,(mk p),i,J] w (aU lj w b (mk f) h<|jf d J (J -i) i s):=by
 generalize a:jf d J (J -i) i s=E;go_enter fA func251,ntmps251;go_wp2;go_loopw [8] (λv wr=>∃(j k:Nat)(S:St),v=↑j/\jm wr b (mk f) h S/\w.grownBy wr (some b)/\i<=j/\j<=2000/\J<=j+k/\Hid (jf d J k j S=E)) (λv _=>2001 -(intOf v).toNat);exact⟨i,J -i,s,rfl,m,bT _ _,O9,z,O9,a⟩;case round=>
  obtain⟨j,k,S,rfl,m,r,x,F,G,a⟩:=hrel;by_cases l:j<J
  .obtain⟨k,rfl⟩:∃K,k=K+1:=⟨k -1,O9⟩;rw[jf,aN l]at a;have a:=aK a;go_wp2;refine(y j S wr x l m).mono λe W A=>?_;obtain⟨u,⟨c,q,o,rfl,t⟩|⟨K,n,q,o,rfl,B,t⟩⟩:=A.elim
   .have⟨C,D⟩:=I j S c q x l o;have g:Hid (jf d J k c q=E):=by unfold Hid;rw[<-a.out,o];rfl
    unfold O3;go_wp2;go_roundw;exact⟨c,k,q,rfl,t,r.trans u,O9,O9,O9,g⟩;simp[intOf];omega
   have g:=a.out;subst g;exact⟨rfl,mB o (r.trans u) B t⟩
  have H:¬(j:Int)<J:=O9;have g:E=.ok () S:=by rw[<-a.out];obtain _|k:=k;rfl;rw[jf,aJ l]
  go_wp2;go_end0;exact⟨r,rfl,m⟩
def Ss(p b y h)(d:Nat->St->qI Nat)(i s w)(ac:p.length<=1000)(hi:i<p.length)(P:∀(j:Nat)(s:St)(w:World),i+1<=j->j<p.length->jm w b (mk y) h s->Cv 257 #[.pointer b,(mk p),j] w (aU O3 w b (mk y) h<|d j s))
 (U:∀j s v N,j<p.length->d j s=.ok v N->j<v/\v<=2000)(Q:jm w b (mk y) h s):
 Cv 262 #[.pointer b,(mk p),i] w (aU O3 w b (mk y) h<|pE d p i s):=by
 have J:=Bj p p (i+1) 0 none;have a:Hid (pE d p i s=match eB p p (i+1) 0 none with
  |none=>.bad 5 s.steps
  |some (m,e)=>(jV s).bind λx s=>if x≠0 then(jf d m (m -(i+1)) (i+1) s).bind λ_ s=>(kr s).bind λ_ s=>.ok (e+1) s
    else if m<e then(jf d e (e -(m+1)) (m+1) s).bind λ_ s=>(kr s).bind λ_ s=>.ok (e+1) s
    else .ok (e+1) s):=rfl
 generalize pE d p i s=R at a|-;have F:=acm p i w hi ac;generalize eB p p.length (i+1) 0 none=E at J F a;cases E with
 |none=>go_enter fA func262,ntmps262;go_wp2;refine F.mono ?_;rintro e W⟨rfl,rfl⟩;go_wp2;refine⟨rfl,?_⟩;rw[a.out];exact⟨bT _ _,rfl,s,rfl,Q⟩
 |some me=>
   have⟨m,n⟩:=me;have a:Hid (R=(jV s).bind λx s=>if x≠0 then(jf d m (m -(i+1)) (i+1) s).bind λ_ s=>(kr s).bind λ_ s=>.ok (n+1) s
    else if m<n then(jf d n (n -(m+1)) (m+1) s).bind λ_ s=>(kr s).bind λ_ s=>.ok (n+1) s
    else .ok (n+1) s):=a
   have⟨b1,b2,b3,_,O⟩:=J m n rfl (λx u=>by cases u);have O:=O rfl;clear J;go_enter fA func262,ntmps262;go_wp2;refine F.mono ?_;rintro e X⟨rfl,rfl⟩;clear F;go_wp2;refine(kR X b _ h s Q).mono λe W S=>?_;obtain⟨g,⟨x,M,c,rfl,A⟩|⟨k,n,M,c,rfl,V,A⟩⟩:=S.elim;rotate_left;.go_wp2;refine⟨rfl,?_⟩;rw[a.out];exact mB c g V A
   clear S;unfold kj;have π:∀k l,(if x≠0 then(jf d m (m -(i+1)) (i+1) M).bind λ_ s=>(kr s).bind λ_ s=>.ok (n+1) s else if m<n then(jf d n (n -(m+1)) (m+1) M).bind λ_ s=>(kr s).bind λ_ s=>.ok (n+1) s
    else .ok (n+1) M)=((jf d l (l -k) k M).bind λ_ s=>(kr s).bind λ_ s=>.ok (n+1) s:qI Nat)->Hid (∀V r T,aU V W b (mk y) h ((jf d l (l -k) k M).bind λ_ s=>(kr s).bind λ_ s=>.ok (n+1) s) r T->aU V X b (mk y) h R r T):=λk l e V r T q=>by
    rw[a.out];refine dQ c g ?_;rw[e];exact q
   obtain u|⟨rfl,G⟩|⟨rfl,G⟩:=(show x≠0\/x=0/\¬m<n\/x=0/\m<n by omega);case inr.inl=>clear π;go_wp2;go_ret;rw[a.out];refine dQ c g ?_;simp[ne_eq,aam,vJ,aJ G];exact⟨bT _ _,rfl,A⟩
   case' inr.inr=>have π:=π (m+1) n (by simp[G]);go_wp2;refine(GQ p b y h d (m+1) n M W O9 O9 (λj s w H I l=>P j s w O9 O9 l) (λj s v N H I l=>U j s v N O9 l) A).mono λe Y B=>?_
   case' inl=>have π:=π (i+1) m (by simp[u]);go_wp2;refine(GQ p b y h d (i+1) m M W O9 O9 (λj s w H I l=>P j s w O9 O9 l) (λj s v N H I l=>U j s v N O9 l) A).mono λe Y B=>?_
   all_goals
    obtain⟨o,⟨_,D,f,rfl,q⟩|⟨k,n,D,f,rfl,K,q⟩⟩:=B.elim;rotate_left;.go_wp2;exact⟨rfl,π.out _ _ _<|mB f o K q⟩
    clear B;unfold lj;go_wp2;refine(J5 Y b _ h D q).mono λe w3 C=>?_;obtain⟨z,⟨_,aa,t,rfl,r⟩|⟨k,n,aa,t,rfl,L,r⟩⟩:=C.elim;rotate_left;.go_wp2;exact⟨rfl,π.out _ _ _ (dQ f o<|mB t z L r)⟩
    clear C;unfold lj;go_wp2;go_ret;exact π.out _ _ _ (dQ f o<|dQ t z ⟨bT _ _,rfl,r⟩)
def cO{c d}{r:qI c}{f}{b:d}{S}(h:r.bind f=.ok b S):∃a s,r=.ok a s/\f a s=.ok b S:=by cases r with
 |ok a s=>exact⟨a,s,rfl,h⟩
 |bad e n=>cases h
def Yr(d:Nat->St->qI Nat)(p i s j S)(h:pE d p i s=.ok j S):i<j/\j<=p:=by
 unfold pE at h;split at h;cases h;rename_i m e a;have g:=Bj p p (i+1) 0 none m e a (λx b=>by cases b);have⟨x,l,_,h⟩:=cO h;have k:j=e+1:=by split at h;have⟨_,c,_,h⟩:=cO h;have⟨_,f,_,h⟩:=cO h;cases h;rfl;split at h;have⟨_,c,_,h⟩:=cO h;have⟨_,f,_,h⟩:=cO h;cases h;rfl;simp_all
 omega
def aio(c h p)(d:Nat->St->qI Nat)(i s j S)(H:i<p.length)(a:VO c h p d i s=.ok j S):i<j/\j<=p:=by have⟨_,e,_,a⟩:=cO a;split at a;have⟨_,b,_,a⟩:=cO a;cases a;omega;split at a;split at a;have⟨_,b,_,a⟩:=cO a;cases a;omega;cases a;split at a;exact Yr d p i e j S a;split at a;cases a;have⟨_,b,_,a⟩:=cO a;cases a;omega
def acs(b h p n i s j S)(H:i<p.length)(a:O0 b h p n i s=.ok j S):i<j/\j<=p:=by obtain _|n:=n;cases a;exact aio b h p _ i s j S H a
def afn(p b o h)(d:Nat->St->qI Nat)(i s w)(D:p.length<=1000)(R:i<p.length)(T:o.length<=1000)(S:∀(j:Nat)(s:St)(w:World),i+1<=j->j<p.length->jm w b (mk o) h s->Cv 257 #[.pointer b,(mk p),j] w (aU O3 w b (mk o) h<|d j s))
 (ag:∀j s J s',j<p.length->d j s=.ok J s'->j<J/\J<=2000)(U:jm w b (mk o) h s):
 Cv 257 #[.pointer b,(mk p),i] w (aU O3 w b (mk o) h<|VO o h p d i s):=by
 have a:Hid (VO o h p d i s=(kr s).bind λ_ s=>if opAt p i<64 then(ny (opAt p i) s).bind λ_ s=>.ok (i+1) s
  else if opAt p i=64 then(if i+9<=p then(ny (mG p i) s).bind λ_ s=>.ok (i+9) s else .bad 2 s.steps)
  else if opAt p i=80 then pE d p i s
  else if opAt p i=81\/opAt p i=82 then .bad 5 s.steps
  else(Bi o h (opAt p i) s).bind λ_ s=>.ok (i+1) s):=rfl
 have f:cK p i=if opAt p i=64 then i+9 else i+1:=rfl;have N:=dH p i (i:Int) rfl R;have W:opAt p i=(p.getD i 0).toNat:=rfl;rw[<-W]at N;have L:=Bg p i;have v:=λw V=>Sr p i w R D V;generalize VO o h p d i s=ai at a|-;generalize opAt p i=c at N a f L v;go_enter fA func257,ntmps257;go_wp2;refine(J5 w b _ h s U).mono λe Y X=>?_;obtain⟨l,⟨_,x,g,rfl,q⟩|⟨k,n,x,g,rfl,ad,q⟩⟩:=X.elim;rotate_left;.go_wp2;refine⟨rfl,?_⟩;rw[a.out];exact mB g l ad q
 unfold lj;by_cases m:c<64
 .have O:(c:Int)<64:=O9;rw[aJ O9]at f;replace f:=aK f;go_wp2;refine(mC Y b _ h c x q O9).mono λe z y=>?_;obtain⟨A,⟨_,E,t,rfl,r⟩|⟨k,n,E,t,rfl,F,r⟩⟩:=y.elim;rotate_left;.go_wp2;refine⟨rfl,?_⟩;rw[a.out];refine dQ g l ?_;rw[aN m];exact mB t A F r
  unfold lj;go_wp2;refine(qW p i z R D).mono ?_;rintro e π⟨rfl,rfl⟩;rw[f.out];go_wp2;go_ret;rw[a.out];refine dQ g l ?_;rw[aN m];exact dQ t A ⟨bT _ _,rfl,r⟩
 by_cases u:c=64
 .subst u;rw[aN rfl]at f;replace f:=aK f;replace v:=λw=>v w rfl;have K:=GN p i;by_cases C:i+9<=p
  .simp[aN C]at v;generalize G:mG p i=ah at v K;replace G:=aK G;go_wp2;refine(v _).mono ?_;rintro e z⟨rfl,rfl⟩;go_wp2;refine(mC z b _ h ah x q K).mono λe π ac=>?_;obtain⟨M,⟨_,ab,I,rfl,H⟩|⟨k,n,ab,I,rfl,aa,H⟩⟩:=ac.elim;rotate_left;.go_wp2;refine⟨rfl,?_⟩;rw[a.out,G.out];refine dQ g l ?_;rw[aJ m,aN (by trivial),aN C];exact mB I M aa H
   go_wp2;refine(qW p i π R D).mono ?_;rintro e w4⟨rfl,rfl⟩;rw[f.out];go_wp2;go_ret;rw[a.out,G.out];refine dQ g l ?_;rw[aJ m,aN (by trivial),aN C];exact dQ I M ⟨bT _ _,rfl,H⟩
  simp[aJ C]at v;go_wp2;refine(v _).mono ?_;rintro e z⟨rfl,rfl⟩;go_wp2;refine⟨rfl,?_⟩;rw[a.out];refine dQ g l ?_;rw[aJ m,aN (by trivial),aJ C];exact⟨bT _ _,rfl,x,rfl,q⟩
 rw[aJ u]at f;replace f:=aK f;by_cases B:c=80
 .subst B;go_wp2;refine(Ss p b o h d i x Y D R S ag q).mono λe z y=>?_;obtain⟨A,⟨j,E,t,rfl,r⟩|⟨k,n,E,t,rfl,F,r⟩⟩:=y.elim;.unfold O3;go_wp2;go_ret;rw[a.out];refine dQ g l ?_;rw[aJ m,aJ u,aN<|by trivial];exact y
  go_wp2;refine⟨rfl,?_⟩;rw[a.out];refine dQ g l ?_;rw[aJ m,aJ u,aN<|by trivial];exact y
 by_cases P:c=81;.subst P;go_wp2;refine⟨rfl,?_⟩;rw[a.out];refine dQ g l ?_;rw[aJ m,aJ u,aJ B,aN D9];exact⟨bT _ _,rfl,x,rfl,q⟩
 by_cases Q:c=82;.subst Q;go_wp2;refine⟨rfl,?_⟩;rw[a.out];refine dQ g l ?_;rw[aJ m,aJ u,aJ B,aN D9];exact⟨bT _ _,rfl,x,rfl,q⟩
 have ae:((c:Int)==81)=false:=by simpa using(by omega:¬(c:Int)=81)
 go_wp2;refine(acr Y b o h x q T c L).mono λe z y=>?_;obtain⟨A,⟨_,E,t,rfl,r⟩|⟨k,n,E,t,rfl,F,r⟩⟩:=y.elim;rotate_left;.go_wp2;refine⟨rfl,?_⟩;rw[a.out];refine dQ g l ?_;rw[aJ m,aJ u,aJ B,aJ O9];exact mB t A F r
 go_wp2;refine(qW p i z R D).mono ?_;rintro e π⟨rfl,rfl⟩;rw[f.out];go_wp2;go_ret;rw[a.out];refine dQ g l ?_;rw[aJ m,aJ u,aJ B,aJ O9];exact dQ t A ⟨bT _ _,rfl,r⟩
def acu(p b a h)(f:p.length<=1000)(e:a.length<=1000):∀(n i:Nat)(s:St)(w:World),i<p.length->p.length<=i+n->jm w b (mk a) h s->Cv 257 #[.pointer b,(mk p),i] w (aU O3 w b (mk a) h<|O0 a h p n i s)
 |0,i,s,w,H,l,_=>by omega
 |n+1,i,s,w,H,l,k=>afn p b a h (O0 a h p n) i s w f H e (λj s w d c g=>acu p b a h f e n j s w c O9 g) (λj s m S d c=>by have:=acs a h p n j s m S d c;omega) k
def runM(i:List UInt8)(h:Int)(p:List UInt8)(s:St):qI Unit:=jf (O0 i h p p.length) p.length p.length 0 s
def VP(p b a h s w)(f:p.length<=1000)(l:a.length<=1000)(m:jm w b (mk a) h s):Cv 237 #[.pointer b,(mk p)] w (aU lj w b (mk a) h<|runM a h p s):=by
 go_enter fA func237,ntmps237;go_wp2;refine(GQ p b a h (O0 a h p p) 0 p s w f O9 (λj s w i c d=>acu p b a h f l p j s w c O9 d) (λj s t S i c d=>by have:=acs a h p p j s t S c d;omega) m).mono λe W g=>?_;obtain⟨v,⟨_,u,r,rfl,o⟩|⟨k,n,u,r,rfl,x,o⟩⟩:=g.elim;.go_wp2;go_end0;exact g
 trivial
def uf(k l i:List UInt8)(h:Int):Bool:=decide (32<k.length\/32<l.length\/i.length≠8\/h<0)
def acv(k l a h w)(b:uf k l a h=true):Cv 236 #[(mk k),(mk l),(mk a),h] w λe W=>e=.panicked (OW 1)/\W=w:=by
 have c:=cD k;have d:=cD l;have f:=cD a;go_enter fA func236,ntmps236;go_wp2;all_goals first|exact⟨rfl,rfl,rfl⟩|(exfalso;unfold uf at b;rw[decide_eq_true_eq]at b;omega)
def Yu(k l a h w)(b:uf k l a h=false):Cv 236 #[(mk k),(mk l),(mk a),h] w λe W=>e=.returned (.tuple #[])/\W=w:=by
 have f:=cD k;have g:=cD l;have i:=cD a;unfold uf at b;rw[UB]at b;have c:decide ((k:Int)>32)=false:=by simp;omega
 have d:decide ((l:Int)>32)=false:=by simp;omega
 go_enter fA func236,ntmps236;go_wp2;go_end0;exact⟨rfl,rfl⟩
def allM(k l i:List UInt8)(h:Int):qI Unit:=(runM i h k ⟨0,[]⟩).bind λ_ s=>(runM i h l s).bind λ_ s=>O4 s
def kG(k l i:List UInt8)(h:Int):qI Unit:=if uf k l i h then .bad 1 0 else allM k l i h
def aht(w:World)(b:Nat)(r:qI Unit)(e:Ending)(W:World):Prop:=w.grownBy W (some b)/\match r with
 |.ok _ s=>e=.returned (.tuple #[])/\W.cell? ⟨b,2,none⟩=some (.int .i64 s.steps)
 |.bad k n=>e=.panicked (OW k)/\W.cell? ⟨b,2,none⟩=some (.int .i64 n)
def jm.c2{w b id h s}(c:jm w b id h s):w.cell? (b,2)=some ↑s.steps:=have⟨d,a,_⟩:=c.row;a.cell 2
def aU.work{w l W b id h r e}(g:w.grownBy l (some b))(d:aU lj l b id h r e W):aht w b r e W:=by refine⟨g.trans d.1,?_⟩;have c:=d.2;cases r with
 |ok a s=>exact⟨c.1,c.2.c2⟩
 |bad k n=>have⟨f,s,j,i⟩:=c;exact⟨f,j▸i.c2⟩
def VQ:=@aU.work
structure Var(w:World)(b g:Nat)(v:Value):Prop where
 ne:g≠b
 row:∃t,Row w g t [v]
theorem Var.cell{w b g v}(h:Var w b g v):w.cell? (g,0)=some v:=have⟨t,a⟩:=h.row;a.cell 0
def Var.EM{w W b g v}(h:Var w b g v)(c:w.grownBy W (some b)):Var W b g v:=have⟨t,a⟩:=h.row;⟨h.ne,t,(c.block g a.lt λe=>h.ne<|by cases e;rfl).trans a⟩
def acw(P Q a h l y U T b w)(ab:h<9223372036854775808)(p:jm w b ⟨#[]⟩ 0 ⟨0,[]⟩)(x:Var w b l (mk P))(c:Var w b y (mk Q))(O:Var w b U (mk a))(N:Var w b T (.int .i64 h)):
 Cv 235 #[.pointer l,.pointer y,.pointer U,.pointer T,.pointer b] w (aht w b<|kG P Q a h):=by
 have o:Hid (kG P Q a h=if uf P Q a h then .bad 1 0 else allM P Q a h):=rfl;generalize kG P Q a h=R at o|-;have π:=x.cell;have S:=c.cell;have Y:=O.cell;have F:=N.cell;cases g:uf P Q a h with
 |true=>go_enter fA func235,ntmps235;go_wp2;refine(acv P Q a h w g).mono ?_;rintro e W⟨rfl,rfl⟩;go_wp2;refine⟨rfl,?_⟩;rw[o.out,aN g];exact⟨bT _ _,rfl,p.c2⟩
 |false=>
   have m:Hid (R=(runM a h P ⟨0,[]⟩).bind λ_ s=>(runM a h Q s).bind λ_ s=>O4 s):=by unfold Hid;rw[o.out,g];rfl
   clear o;have z:=g;unfold uf at z;rw[UB]at z;have⟨L,d,G⟩:=p.row;have V:=d.r 0;have X:=d.r 1;have f0:=d.frozen 0;have f1:=d.frozen 1;have ad:IntKind.u64.wrap h=h:=by rw[IntKind.wrap_u64];omega
   have ae:=x.ne;have af:¬b=l:=λe=>x.ne e.symm;go_enter fA func235,ntmps235;go_wp2;refine(Yu P Q a h w g).mono ?_;rintro e W⟨rfl,rfl⟩;go_wp2;have f:W.grownBy ((W.setCell (b,0)<|mk a).setCell (b,1)<|.int .u64 h) (some b):=(pj _ _ _ _).trans<|pj _ _ _ _;have A:jm ((W.setCell (b,0)<|mk a).setCell (b,1)<|.int .u64 h) b (mk a) h ⟨0,[]⟩:=⟨⟨L,(d.set 0<|mk a).set 1<|.int .u64 h,G⟩,p.lZ,p.steps,O9⟩
   have c:=c.EM f;generalize(W.setCell _ _).setCell _ _=w2 at f A c|-;clear π S Y F V X f0 f1 d;refine(VP P b a h ⟨0,[]⟩ w2 O9 O9 A).mono ?_;intro e w3 B;obtain⟨i,⟨_,D,j,rfl,t⟩|⟨k,n,D,j,rfl,J,t⟩⟩:=B.elim;rotate_left;.go_wp2;refine⟨rfl,?_⟩;rw[m.out];exact VQ f<|mB j i J t
   clear B;have S:=(c.EM i).cell;unfold lj;go_wp2;refine(VP Q b a h D w3 O9 O9 t).mono ?_;intro e w4 C;obtain⟨r,⟨_,E,q,rfl,u⟩|⟨k,n,E,q,rfl,K,u⟩⟩:=C.elim;rotate_left;.go_wp2;refine⟨rfl,?_⟩;rw[m.out];exact VQ f (dQ j i<|mB q r K u)
   clear C;unfold lj;go_wp2;refine(acx w4 b _ h E u).mono ?_;intro e ag v;obtain⟨aa,⟨_,M,I,rfl,H⟩|⟨k,n,M,I,rfl,ac,H⟩⟩:=v.elim;.unfold lj;go_wp2;go_end0;rw[m.out];exact VQ f (dQ j i<|dQ q r v)
   go_wp2;refine⟨rfl,?_⟩;rw[m.out];exact VQ f (dQ j i<|dQ q r v)
def aip(p x k w)(d:w.cell? p=some (.int .i64 x))(g:w.frozen? p=false):CallsD Vp 250 #[.pointer<|some p] (.panicking<|OW k) w λe c W=>e=.returned (.tuple #[])/\c=.panicking [{v:=.iface 38 k,recovered:=true}]/\W=w.setCell p k:=by
 have f:∀w,(Instr.typeAssert (.iface 38 k) 20 38 false).run Vp w=.ok k w:=λ_=>by kernel_rfl
 refine callsD_of_wpS (fA func250) rfl λa C b=>?_;apply wpS_seq;apply wpS_region;simp[wpOpsS,go_sem,recoverD,b];refine wpS_of_wp ?_;go_wp2;cases a;simp_all[bodyPostS,results]
def O5(p w):CallsD Vp 250 #[.pointer<|some p] .returning w λe c W=>e=.returned (.tuple #[])/\c=.returning/\W=w:=by
 refine callsD_of_wpS (fA func250) rfl λa C b=>?_;apply wpS_seq;apply wpS_region;simp[wpOpsS,go_sem,recoverD,b];refine wpS_of_wp ?_;go_wp2;cases a;simp_all[bodyPostS,results]
def uJ(r:qI Unit):Int×Nat:=match r with
 |.ok _ s=>(0,s.steps)
 |.bad k n=>(k,n)
def Su(O P g h l m S R b w)(D:h<9223372036854775808)(t:jm w b ⟨#[]⟩ 0 ⟨0,[]⟩)(J:Var w b l (mk O))(K:Var w b m (mk P))(I:Var w b S (mk g))(H:Var w b R (.int .i64 h)):
 Cv 234 #[.func (.func 235) #[] #[.pointer l,.pointer m,.pointer S,.pointer R,.pointer b]] w λe W=>e=.returned ((uJ<|kG O P g h).1)/\W.cell? (b,2)=some (↑(uJ<|kG O P g h).2)/\w.grownBy W (some b):=by
 have M:∀U first T w,(Instr.makeFunc U first T).run Vp w=.ok (.func U first T) w:=λ_ _ _ _=>rfl;go_enter_defers fA func234,ntmps234;go_wp2;have o:Below w.heap.size w (w.alloc<|.cells #[aA] 38):=B0.alloc L9 _;have a:=aX w [aA] 38;change Row (w.alloc<|.cells #[aA] 38) _ _ _ at a;have p:b≠w.heap.size:=by have:=t.lt;omega
 have c:=wY o<|some b;have v:=t.keep o;have z:=J.EM c;have A:=K.EM c;have y:=I.EM c;have x:=H.EM c;generalize w.alloc _=X at o a v z A y x c|-;have⟨E,d⟩:∃E,E=w.heap.size:=⟨_,rfl⟩;rw[<-d]at a p|-;replace d:=aK d;refine(acw O P g h l m S R b X D v z A y x).mono ?_;intro e V F;have⟨q,i⟩:=F;replace a:=(q.block E a.lt λe=>p<|by cases e;rfl).trans a;replace a:Row V E 38 [aA]:=a;have B:=a.r 0;have C:=a.frozen 0;have r:=c.trans q;cases j:kG O P g h with
 |ok u s=>rw[j]at i;obtain⟨rfl,N⟩:=i;replace N:=aK N;have Q:=(a.set 0 ↑aA).r 0;go_wp2;refine rO (f:=250) (args:=#[(E,0)]) S8 (by simp[go_sem]) ?_;refine(O5 ⟨E,0,none⟩ _).mono ?_;rintro e G L⟨rfl,rfl,rfl⟩;simp[Leaves,settle,results,results234,go_sem,Q];rw[j];exact⟨rfl,N.out,CL r E (.inr<|pK d.out.symm) 0 _⟩
 |bad k n=>rw[j]at i;obtain⟨rfl,N⟩:=i;replace N:=aK N;go_wp2;refine rO (f:=250) (args:=#[(E,0)]) S8 (by simp[go_sem]) ?_;refine(aip ⟨E,0,none⟩ 0 k V B C).mono ?_;rintro e G L⟨rfl,rfl,rfl⟩;have Q:=(a.set 0 k).cell 0;simp[Leaves,settle,results,results234,go_sem,Q];rw[j];exact⟨rfl,N.out,CL r E (.inr<|pK d.out.symm) 0 _⟩
abbrev zM:List Value:=[↑aB,↑aC,↑aA,↑aC,↑aC,↑aC,↑aC,↑aC,↑aC,↑aC,↑aC,↑aC,↑aC,↑aC,↑aC,↑aC,↑aC,↑aC,↑aC,↑aA]
def LC(K L c h w)(q:h<9223372036854775808):Cv 221 #[(mk K),(mk L),(mk c),.int .i64 h] w λe D=>e=.returned (.tuple #[(uJ<|kG K L c h).1,(uJ<|kG K L c h).2])/\Below w w D:=by
 go_enter fA func221,ntmps221;go_wp2;have s:∀W,Row W ((w:Nat)+1+1+1+1) 339 zM->jm W ((w:Nat)+1+1+1+1) ⟨#[]⟩ 0 ⟨0,[]⟩:=λW n=>⟨⟨List.replicate 16 0,n,rfl⟩,(λx t=>by cases t),D9,D9⟩
 have m:=((((aX w [(mk K)] 9).alloc<|.cells #[(mk L)] 9).alloc<|.cells #[(mk c)] 9).alloc<|.cells #[h] 3).alloc<|.cells zM.toArray 339;have y:=(((aX (w.alloc<|.cells #[(mk K)] 9) [(mk L)] 9).alloc<|.cells #[(mk c)] 9).alloc<|.cells #[h] 3).alloc<|.cells zM.toArray 339;have i:=((aX ((w.alloc<|.cells #[(mk K)] 9).alloc<|.cells #[(mk L)] 9) [(mk c)] 9).alloc<|.cells #[h] 3).alloc<|.cells zM.toArray 339;have j:=(aX (((w.alloc<|.cells #[(mk K)] 9).alloc<|.cells #[(mk L)] 9).alloc<|.cells #[(mk c)] 9) [h] 3).alloc<|.cells zM.toArray 339;have l:=aX ((((w.alloc<|.cells #[(mk K)] 9).alloc<|.cells #[(mk L)] 9).alloc<|.cells #[(mk c)] 9).alloc<|.cells #[h] 3) zM 339;simp[cR]at y i j l;have g:Below w w (((((w.alloc<|.cells #[(mk K)] 9).alloc<|.cells #[(mk L)] 9).alloc<|.cells #[(mk c)] 9).alloc<|.cells #[h] 3).alloc<|.cells zM.toArray 339):=((((B0.alloc L9 _).alloc S8 _).alloc (by simp;omega) _).alloc (by simp;omega) _).alloc (by simp;omega) _
 generalize((((w.alloc _).alloc _).alloc _).alloc _).alloc _=X at m y i j l g|-;have o:(w:Nat)<=(w:Nat)+1+1+1+1:=O9;have V:Var X ((w:Nat)+1+1+1+1) w (mk K):=⟨O9,_,m⟩;have A:Var X ((w:Nat)+1+1+1+1) ((w:Nat)+1) (mk L):=⟨O9,_,y⟩;have B:Var X ((w:Nat)+1+1+1+1) ((w:Nat)+1+1) (mk c):=⟨O9,_,i⟩;have u:Var X ((w:Nat)+1+1+1+1) ((w:Nat)+1+1+1) h:=⟨O9,_,j⟩;generalize(w:Nat)+1+1+1+1=b at*;refine(Su K L c h _ _ _ _ b X q (s X l) V A B u).mono ?_;rintro e E⟨rfl,z,p⟩;have d:=g.grown p g.size (λk e=>by cases e;exact o);generalize f:uJ (kG K L c h)=a at z|-;go_wp2;go_quiet (fail);go_wp2;go_ret2;rw[(aK f).out];exact⟨rfl,d.os,d.tape,d.output,d.size,d.block⟩
end
open Go.Conc Go.Ren
def AA(k l d:ByteArray)(h:Int):Int:=(uJ<|kG k.data.toList l.data.toList d.data.toList h).1
def ae2(k l d:ByteArray)(h:Int):Int:=(uJ<|kG k.data.toList l.data.toList d.data.toList h).2
def aez(k l d a w)(g:a<9223372036854775808):Cv 221 #[.string k,.string l,.string d,.int .i64 a] w λx W=>∃v,x=.returned v/\v=.tuple #[(AA k l d a),(ae2 k l d a)]/\agJ w W:=(LC k.data.toList l.data.toList d.data.toList a w g).mono λx W⟨e,c⟩=>⟨_,e,rfl,⟨λb f=>c.block b f,c.size,c.os,c.tape⟩⟩
def aeA{A}{n i:Nat}{v}(h:(A++Array.replicate n undef)[i]?=some v)(a:v≠undef):A[i]?=some v:=by grind
def ajA{aU R k X w}(z:(iO 205 k).kind≠.early)(K:Tree Vp aU (cF Vp 205 R k X) w)(A:∀p n c a,R[0]?=some (.slice p n c)->p=some a->0<n->∃e,w.heap[a.block]?=some e/\dY Vp e=true):
 ∃p N S,∃W:Nat,R[0]?=some (.slice p N S)/\R[1]?=some (.int .i64 W)/\0<W/\W<=2147483646/\N<=2147483646/\∃U V,tP 205 k U/\U.tmps[4]?=some (.slice (w:Nat) N N)/\kx Vp (cF Vp 205 R k X) w (yH U X) V/\Kept w w V/\∃c,V.heap[(w:Nat)]?=some (.cells c 38)/\c.size=N/\∀x,x<N->∃T o k l d g,p=some ⟨T,o,none⟩/\Az w T o x k l d g/\c[x]?=some ↑(AA k l d g):=by
 have v:=FI R k X aI.func205 (c:=aI.rF) rfl;have⟨d,f,t,r,m⟩:=aa3 (cA (by rw[aI.ntmps205];decide)<|room R aI.f205.ntmps);have h:=JB K;rw[v,m]at h;obtain⟨p,N,S,W,rfl,rfl,P,Q,B,h⟩:=agK z h;have r:R[0]?=some (.slice p N S):=aeA (n:=aI.f205.ntmps -R.size) (by rw[m];rfl) (by simp[undef]);have t:∀b,b<w.heap.size->(w.alloc<|.cells (madeCells #[aA] N) 38).heap[b]?=w.heap[b]?:=λb i=>by show(w.heap.push _)[b]?=_;rw[I7 i,qs i]
 have s:=λa e(h:w.heap[a]?=some e)=>(eD.1 h).1;have⟨U,V,D,G,H,I,J,y,j,c,c1,c2,c3⟩:=Xi (w1:=w.alloc<|.cells (madeCells #[aA] N) 38) (E:=AA) (F:=ae2) z B (λa L h0=>let⟨e,Y,f⟩:=A p N S a r L h0;⟨s _ _ Y,e,(t _<|s _ _ Y).trans Y,f⟩) (λk l d g w M=>aez k l d g w M) N 0 _ O9 (λ_ _ _ _=>.inr rfl)
  ⟨λ_ _=>rfl,by show _<(w.heap.push _).size;rw[Ui];omega,rfl,rfl⟩ ⟨_,by show(w.heap.push _)[w.heap.size]?=_;rw[Nf],Uj _ _,λx u=>absurd u<|qu _⟩ h
 rw[<-m,<-v]at y;refine⟨p,N,S,W,r,(aeA (n:=aI.f205.ntmps -R.size) (by rw[m];rfl)<|by simp[undef]),P,Q,B,U,V,⟨D,G,H,I⟩,J,y,⟨λb i=>(j.old b i).trans<|t b i,j.size,j.os,j.tape⟩,c,c1,c2,λx u=>?_⟩;have⟨T,o,k',O,d',g,Y,f,ao⟩:=c3 x u;have⟨e,ar,a2⟩:=A p N S _ r Y O9;have q:∀π,(w.alloc<|.cells (madeCells #[aA] N) 38).cell? ⟨T,π,none⟩=w.cell? ⟨T,π,none⟩:=λπ=>by simp only[World.cell?,t T<|s _ _ ar]
 exact⟨T,o,k',O,d',g,Y,⟨(q _).symm.trans f.k,(q _).symm.trans f.l,(q _).symm.trans f.d,(q _).symm.trans f.h,f.lt⟩,ao⟩
def agI(k l d c w)(g:c<9223372036854775808):Cv 221 #[.string k,.string l,.string d,.int .i64 c] w λx W=>∃v,x=.returned v/\v=.tuple #[(AA k l d c),(ae2 k l d c)]/\agJ w W/\W.output=w.output:=(LC k.data.toList l.data.toList d.data.toList c w g).mono λx W⟨e,a⟩=>⟨_,e,rfl,⟨λb f=>a.block b f,a.size,a.os,a.tape⟩,a.output⟩
def afR(p)(N z T o v:Nat)(d l id:Nat->ByteArray)(h:Nat->Int)(w)(ah:0<v)(ag:v<=2147483646)(hN:N<=2147483646)(P:0<N->p=some ⟨T,o,none⟩/\T<w.heap.size)(U:∀x,x<N->Az w T o x (d x) (l x) (id x) (h x)):Cv 205 #[.slice p N z,v] w λe X=>e=.returned (.slice (w:Nat) N N)/\Below w w X/\∃c,X.heap[(w:Nat)]?=some (.cells c 38)/\c.size=N/\∀x,x<N->c[x]?=some ↑(AA (d x) (l x) (id x)<|h x):=by
 have O:=NL N O9 w;have ad:decide ((0:Int)<v)=true:=pM O9;have ae:decide ((2147483646:Int)<v)=false:=lX O9;have A:decide ((2147483646:Int)<N)=false:=lX O9;go_enter aI.func205,aI.ntmps205;simp only[Pq,aI.rF,aI.o,aI.st];go_wp2;go_loopw [2] (λi wr=>∃k c,k<=N/\i=k/\Below w w wr/\wr.heap[(w:Nat)]?=some (.cells c 38)/\c.size=N/\∀x,x<k->c[x]?=some (AA (d x) (l x) (id x)<|h x)) (λi _=>N -(intOf i).toNat);exact⟨0,_,cH _,rfl,B0.alloc L9 _,by show(w.heap.push _)[(w:Nat)]?=_;rw[Nf],Uj _ _,λx r=>absurd r<|qu _⟩;case round=>
  obtain⟨k,c,af,rfl,f,n,q,r⟩:=hrel;by_cases u:k<N
  .have R:=P O9;obtain⟨rfl,j⟩:=R;have W:Vp.underlying 126=some (.slice 298):=by go_simp
   have S:=xM (V:=Vp) W (T,o) N z wr;have t:=U k u;have Y:wr.cell? (T,o+k*4)=some (d k):=by rw[show wr.cell? (T,o+k*4)=w.cell? (T,o+k*4)by simp only[World.cell?,f.block T j]];exact t.k
   have π:wr.cell? (T,o+k*4+1)=some (l k):=by rw[show wr.cell? (T,o+k*4+1)=w.cell? (T,o+k*4+1)by simp only[World.cell?,f.block T j]];exact t.l
   have c2:wr.cell? (T,o+k*4+2)=some (id k):=by rw[show wr.cell? (T,o+k*4+2)=w.cell? (T,o+k*4+2)by simp only[World.cell?,f.block T j]];exact t.d
   have c3:wr.cell? (T,o+k*4+3)=some (h k):=by rw[show wr.cell? (T,o+k*4+3)=w.cell? (T,o+k*4+3)by simp only[World.cell?,f.block T j]];exact t.h
   have B:decide ((9223372036854775807:Int)<h k)=false:=lX (by have:=t.lt;omega);have s:decide ((k:Int)<N)=true:=pM O9;have⟨D,E,F,G⟩:=Ip wr (d k) (l k) (id k)<|h k;go_wp2;refine(agI (d k) (l k) (id k) (h k) wr t.lt).mono ?_;intro e y Q;obtain⟨ac,rfl,rfl,g,I⟩:=Q;have L:=(eD.1 n).1;have m:=(g.old _ L).trans n;have M:=(eD.1 m).1;have ab:y.cell? ((w:Nat),k)=some (c[k]'O9):=by simp[World.cell?,m,q,u]
   have f0:y.frozen? ((w:Nat),k)=false:=by simp[World.frozen?,m]
   clear D E F G S Y π c2 c3 ad ae A B s O;go_wp2;go_roundw;case rel=>have C:=jF (a:=((w:Nat),k)) (v:=(AA (d k) (l k) (id k)<|h k)) m M rfl;have H:Below w w y:=⟨g.os.trans f.os,g.tape.trans f.tape,I.trans f.output,cA f.size g.size,λb J=>(g.old b O9).trans<|f.block b J⟩;refine⟨k+1,c.setIfInBounds k (AA (d k) (l k) (id k)<|h k),O9,by go_num,H.setCell L9 _,by rw[C];simp,by simpa using q,λx aa=>?_⟩;by_cases e:x=k;simp_all;grind
   case measure=>simp[intOf];omega
  have K:k=N:=O9;subst K;have s:decide ((k:Int)<k)=false:=lX O9;go_wp2;go_ret;exact⟨rfl,f,c,n,q,r⟩
attribute [local go_sem↓] Go.wp_at_zero Go.wp_at_succ
def cC.Md(t:cC):Int:=AA t.key t.lock t.id t.aT
def iB(m:Nat):List cC->List cC->List cC
 |[],l=>l
 |t::r,l=>iB m r<|if t.Md=0 then rZ m t l else l
def jG(T:List cC):Bool:=T.all λt=>decide (t.Md=0)
def Ek(a t):∀r l,iB a (r++[t]) l=if t.Md=0 then rZ a t (iB a r l)else iB a r l
 |[],l=>rfl
 |x::r,l=>by show iB a (r++[t]) _=_;rw[Ek];rfl
def ads(a t l)(h:l.length<=a):(rZ a t l)<=a:=by unfold rZ;split;omega;grind
def C6(a):∀r l,l.length<=a->(iB a r l)<=a
 |[],l,h=>h
 |t::r,l,h=>by apply C6 a r;split;exact ads a t l h;exact h
def Tu(t r):jG (r++[t])=(jG r&&decide (t.Md=0)):=by simp[jG]
structure OpenSt(w W0 wr:World)(nb B:Nat)(cs:List Value)(most:Nat)(mv fv:Value)(F l:List cC)(A k:Nat):Prop where
 mem:∃m,iR wr nb B (cs.set 15 m) most m (iB most (F.take k) l)/\∀j,m.ownBlock=some j->mv.ownBlock=some j\/W0.heap.size<=j
 fresh:wr.ownsRow w.heap.size 298 4 fv F.length (aZ F)
 fold:∀j,fv.ownBlock=some j->j<W0.heap.size
 Md:∃c:Array Value,wr.heap[A]?=some (.cells c 38)/\∀(x:Nat)(t:cC),F[x]?=some t->c[x]?=some (Value.int .i64 t.Md)
 xc:Xc (MF nb mv) w wr
 size:W0.heap.size<=wr.heap.size
 le:w.heap.size<=W0.heap.size
def OpenSt.keep{w r W s N B C e M b F l A k}(h:OpenSt w r W N B C e M b F l A k)(a:Below W W s):OpenSt w r s N B C e M b F l A k:=have⟨⟨m,f,g⟩,i,j,⟨c,d,n⟩,o,p,q⟩:=h;⟨⟨m,f.keep a,g⟩,aP i a,j,⟨c,(a.block A<|bO d).trans d,n⟩,o.then a,cA p a.size,q⟩
def OpenSt.note{w H W I N B G a M i m f F l A k}(h:OpenSt w H W N B G a M i F l A k)(C:∀j,M.ownBlock=some j->j<w)(g:iR W N B (G.set 15 m) a m (iB a (F.take k) l))(z:∀j,m.ownBlock=some j->M.ownBlock=some j\/H<=j)
 (p:iR I N B ((G.set 15 m).set 15 f) a f (iB a (F.take<|k+1) l))(x:Xc (MF N m) W I)(D:∀j,f.ownBlock=some j->m.ownBlock=some j\/W<=j):OpenSt w H I N B G a M i F l A (k+1):=by
 obtain⟨-,r,s,⟨c,d,t⟩,u,v,y⟩:=h;rw[KL]at p;refine⟨⟨f,p,λj o=>?_⟩,?_,s,⟨c,(x.block A (bO d) ?_).trans d,t⟩,?_,cA v x.size,y⟩;grind;refine dA r λj q o E n=>x.block j (bO n) ?_;rintro(e|e);subst e;have:=g.row;unfold Row at this;cases n▸this;grind;rintro(e|e);subst e;have:=g.row;unfold Row at this;cases d▸this;have⟨_,q,b⟩:=bS g.own e;cases d▸b;refine u.trans x λj o e=>?_;obtain e|e:=e;exact .inl e;obtain b|b:=z j e;exact .inr b;omega
def OpenSt.skip{w W p N B C a M b F l A k}(h:OpenSt w W p N B C a M b F l A k)(o:iB a (F.take<|k+1) l=iB a (F.take k) l):OpenSt w W p N B C a M b F l A (k+1):=have⟨⟨m,c,d⟩,e,f,g,i,j,n⟩:=h;⟨⟨m,o▸c,d⟩,e,f,g,i,j,n⟩
def P4{o B B' a z q π l d}(Y:Nat)(w)(h:iR w o B z a q l)(c6:z[6]?=some (.int .i64 Y))(ba:0<Y/\Y<=8)(P:w.ownsRow B' 298 4 π d.length (aZ d))(a3:l<=a)(bp:a<=64)(bq:d.length<=100)(a0:∀t∈d,t.aT<9223372036854775808):Cv 167 #[ptr o,π] w λe V=>e=.returned (jG<|gI l d)/\∃m,iR V o B (z.set 15 m) a m (iB a (gI l d) l)/\Xc (MF o q) w V/\∀k,m.ownBlock=some k->q.ownBlock=some k\/w<=k:=by
 have T:=PX (b:=o) (o:=14) q π l d w (by rw[h.row.cell];exact h.KJ) h.own P O9 O9;have ak:(gI l d).length<=100:=by have:=Nl (λt=>!decide (t∈l)) d;unfold gI;omega
 have N:∀t∈gI l d,t.aT<9223372036854775808:=λt a9=>a0 t (Ff.1 a9).1;have a5:∀j,q.ownBlock=some j->j<w.heap.size:=λj y=>have⟨_,aa,e⟩:=bS h.own y;bO e;generalize gI l d=F at T ak N|-;obtain⟨bu,bx,rfl⟩:=aS P;unfold ptr;go_enter fA func167,ntmps167;go_wp2;refine T.mono ?_;rintro e W⟨bg,rfl,u,E⟩;have s:=h.keep E;obtain⟨C,n,rfl⟩:=aS u;have bs:W.cell? ⟨o,6,none⟩=some ↑Y:=by rw[s.row.cell];exact c6
 have J:=afR C F.length n ((Value.slice C F.length n).ownBlock.getD 0) 0 Y (λx=>(F.getD x ⟨⟨#[]⟩,⟨#[]⟩,⟨#[]⟩,0⟩).key) (λx=>(F.getD x ⟨⟨#[]⟩,⟨#[]⟩,⟨#[]⟩,0⟩).lock) (λx=>(F.getD x ⟨⟨#[]⟩,⟨#[]⟩,⟨#[]⟩,0⟩).id) (λx=>(F.getD x ⟨⟨#[]⟩,⟨#[]⟩,⟨#[]⟩,0⟩).aT) W ba.1 O9 O9 (λhN=>by have⟨g,c,A,H,_⟩:=uy u<|aY hN;cases A;exact⟨rfl,H⟩)
  (λx f=>by
    have⟨g,c,A,H,U,ac,ad,al⟩:=uy u<|aY f;cases A;have e:F.getD x ⟨⟨#[]⟩,⟨#[]⟩,⟨#[]⟩,0⟩=F[x]:=by simp[List.getD,f]
    exact⟨by rw[e,mj];exact U,by rw[e,mj];exact ac,by rw[e,mj];exact ad,by rw[e,mj];exact al,e▸N _ (oD f)⟩)
 have J:=aK J;go_wp2;refine J.out.mono ?_;rintro e X⟨rfl,v,c,D,bj,G⟩;have ay:OpenSt w X X o B z a q (C,F,n) F l W.heap.size 0:=⟨⟨q,by rw[rA h.KJ];exact s.keep v,λj e=>.inl e⟩,aP u v,λj y=>by have⟨_,aa,e⟩:=bS u y;exact fI (bO e) v.size,⟨c,D,λx t f=>by
  have bb:=(bK.1 f).1;rw[G x bb];have e:F.getD x ⟨⟨#[]⟩,⟨#[]⟩,⟨#[]⟩,0⟩=t:=by simp[List.getD,f]
  simp only[e];rfl⟩,(jS E).then v,L9,cA E.size v.size⟩
 go_wp2;go_loopw [7,24] (λan i wr=>∃k,k<=F.length/\i=↑k/\an=(jG<|F.take k)/\OpenSt w X wr o B z a q (C,F,n) F l W.heap.size k) (λ_ i _=>F.length -(intOf i).toNat);exact⟨0,O9,rfl,rfl,ay⟩;case round=>
  obtain⟨k,bk,rfl,rfl,p⟩:=hrel;by_cases Q:k<F.length
  .have f:=aY Q;have K:F.take (k+1)=F.take k++[F[k]]:=by rw[rN Q]
   generalize F[k]=t at f K;have S:Hid (jG (F.take<|k+1)=(jG (F.take k)&&decide (t.Md=0))):=by unfold Hid;rw[K,Tu]
   have R:Hid (iB a (F.take<|k+1) l=if t.Md=0 then rZ a t (iB a (F.take k) l)else iB a (F.take k) l):=by unfold Hid;rw[K,Ek]
   have⟨m,ao,a4⟩:=p.mem;have⟨c,D,G⟩:=p.Md;have⟨g,cc,A,H,U,ac,ad,al⟩:=uy p.fresh f;cases A;have M:wr.cell? ⟨W.heap.size,k,none⟩=some ↑t.Md:=by simp only[World.cell?,D];exact G k t f
   have bm:(0:Int)<=k:=O9;have bo:(k:Int)<F.length:=O9;have a6:(iB a (F.take k) l).length<=500:=cA (C6 a (F.take k) l a3) O9;by_cases r:t.Md=0
   .rw[r]at M;have I:Hid (jG (F.take<|k+1)=jG (F.take k)):=by have:=S.out;rw[pM r,Bool.and_true]at this;exact this
    have a8:iB a (F.take<|k+1) l=rZ a t (iB a (F.take k) l):=by have:=R.out;rw[aN r]at this;exact this
    have av:=p.keep<|cN B0;have O:=ao.keep<|cN B0;have a7:Cv 206 #[.pointer<|some ⟨o,14,none⟩,.agg #[↑t.key,↑t.lock,↑t.id,↑t.aT]] wr.drew λe V=>∃L,e=.returned L/\(L=.tuple #[]/\OpenSt w X V o B z a q (g,F,n) F l W.heap.size (k+1)):=(adr t wr.drew O a6 O9).mono λe V⟨ab,br,ae,af,ag⟩=>⟨_,ab,rfl,av.note a5 O a4 (a8▸ae) af ag⟩;have az:Hid (∀am w,(callFunc 206 am).run Vp w=.ok (.enter 206 am) w):=λ_ _=>by kernel_rfl
    generalize t.key=bc,t.lock=bd,t.id=xc,t.aT=bf at*;go_wp2;go_region_law (refine jA 206 rfl _ _ rfl #[.pointer<|some ⟨o,14,none⟩,.agg #[bc,bd,xc,bf]] (by simp[Act.eval,Act.put]) _ a7 (az.out _ _) ?_;rintro L w3⟨rfl,au⟩);all_goals go_wp2
    all_goals go_roundw
    all_goals first
     |exact⟨k+1,O9,by go_num,by rw[I.out],au⟩
     |(simp[intOf];omega)
   have I:Hid (jG (F.take<|k+1)=false):=by have:=S.out;rw[lX r,aaf]at this;exact this
   have ar:Hid (OpenSt w X wr o B z a q (g,F,n) F l W.heap.size<|k+1):=p.skip (by have:=R.out;rw[aJ r]at this;exact this);generalize t.Md=aq at M r;go_wp2;go_roundw;exact⟨k+1,O9,by go_num,by rw[I.out],ar.out⟩;simp[intOf];omega
  have a2:k=F.length:=O9;subst a2;rw[gQ];have⟨⟨m,s,ah⟩,_,_,_,ai,_,aj⟩:=p;rw[gQ]at s;go_wp2;go_ret;exact⟨rfl,m,s,ai,λj y=>(ah j y).imp id λap=>cA aj ap⟩
structure IA(s:JS)(ns nt:Nat)(fe:Int):Prop where
 ok:Eh s.K
 steps:s.steps.length<=ns
 bX:s.bX.length<=nt
 f0:0<=s.gG
 f1:s.gG<=fe
 aT:∀t∈s.bX,t.aT<9223372036854775808
def IA.mono{s c e d f a b}(h:IA s c e a)(g:c<=d)(i:e<=f)(j:a<=b):IA s d f b:=⟨h.ok,cA h.steps g,cA h.bX i,h.f0,by have:=h.f1;omega,h.aT⟩
def P5(id h):∀(l:List dD)(i:Nat)(s:JS){b d:Nat}{c:Int},(∀o∈l,o.Small)->IA s b d c->IA (kg id h l i s) (b+l) d c
 |[],i,s,b,d,c,_,a=>a
 |o::r,i,s,b,d,c,e,a=>by have f:=e o S8;have g:IA {s with K:=s.K.put ⟨id,i,o.val,o.lock,h⟩,steps:=s.steps++[⟨⟨id,i,o.val,o.lock,h⟩,true⟩]} (b+1) d c:=⟨a.ok.put _ ⟨f.1,f.2.2⟩,by have:=a.steps;simp;omega,a.bX,a.f0,a.f1,a.aT⟩;have:=P5 id h r (i+1) _ (λx j=>e x<|by simp[j]) g;simp;rw[show b+(r.length+1)=b+1+r.length from by omega];exact this
def Hy(x h s){c d a}(e:∀o∈x.outs,o.Small)(b:IA s c d a):IA (eJ x h s).2 (c+x.outs) d a:=by unfold eJ;split;exact b.mono O9 O9 O9;exact P5 x.id h x.outs 0 s e b
def P6(x h S s){c d a}(e:∀o∈x.outs,o.Small)(b:IA s c d a):IA (kM x h S s).2 (c+x.outs) d a:=by unfold kM;split;exact b.mono O9 O9 O9;exact Hy x h s e b
def Wy(id h)(i:h<9223372036854775808):∀(l:List jB)(S:Int)(s:JS){b d:Nat}{e:Int},0<=S->IA s b d e->IA (jZ id h l S s).2.2 (b+l) (d+l) e/\0<=(jZ id h l S s).2.1/\(jZ id h l S s).2.1<=S+l*4294967295
 |[],S,s,b,d,e,H,a=>⟨a,H,by show S<=_;simp⟩
 |x::r,S,s,b,d,e,H,a=>by cases g:s.K (x.tx,x.idx)with
   |none=>rw[uw g];simp;exact⟨a.mono O9 O9 O9,H,O9⟩
   |some c=>
     rw[uv g];have o:=a.ok _ c g;have m:IA (Hw id h x c s) (b+1) (d+1) e:=⟨a.ok.take _,by have:=a.steps;simp[Hw];omega,by have:=a.bX;simp[Hw];omega,a.f0,a.f1,λt f=>by obtain f|f:=nA.1 f;exact a.aT t f;rw[pO.1 f];exact i⟩
     have⟨j,k,n⟩:=Wy id h i r (S+c.val) _ O9 m;simp;refine⟨?_,k,O9⟩;rw[show b+(r.length+1)=b+1+r.length from by omega,show d+(r.length+1)=d+1+r.length from by omega];exact j
def P7(x h s){c d b}(g:h<9223372036854775808)(H:x.ins.length<=8)(l:x.outs.length<=8)(e:∀o∈x.outs,o.Small)(i:IA s c d b):IA (fK x h s).2 (c+16) (d+8) (b+34359738360):=by have⟨a,j,k⟩:=Wy x.id h g x.ins 0 s (lC _) i;have m:=lV x.outs e;unfold fK;simp only;split;exact a.mono O9 O9 O9;split;exact a.mono O9 O9 O9;have f:IA {(jZ x.id h x.ins 0 s).2.2 with gG:=(jZ x.id h x.ins 0 s).2.2.gG+((jZ x.id h x.ins 0 s).2.1 -cW x.outs)} (c+x.ins) (d+x.ins) (b+34359738360):=⟨a.ok,a.steps,a.bX,by have:=a.f0;show 0<=_+(_ -_);omega,by have:=a.f1;show _+(_ -_)<=_;omega,a.aT⟩;exact(Hy x h _ e f).mono O9 O9 O9
structure rH where
 t:Bc
 gi:Nat
 ci:Nat
 go:Nat
 co:Nat
def rH.cells(q:rH):List Value:=[.string q.t.id,(q.gi,q.t.ins,q.ci),(q.go,q.t.outs,q.co)]
def zI(l:List rH):List Value:=l.flatMap rH.cells
structure rH.Ok(q:rH):Prop where
 li:q.t.ins.length<=8
 si:∀i∈q.t.ins,i.Small
 lo:q.t.outs.length<=8
 so:∀o∈q.t.outs,o.Small
 id:q.t.id.size<=1000000
structure nX(w:World)(gt:Nat)(l:List rH):Prop where
 row:Row w gt 169 (zI l)
 ins:∀q∈l,Row w q.gi 139 (og q.t.ins)
 outs:∀q∈l,Row w q.go 86 (kv q.t.outs)
def nX.keep{w W g l}(h:nX w g l)(b:Below w w W):nX W g l:=⟨h.row.keep b h.row.lt,λq a=>(h.ins q a).keep b (h.ins q a).lt,λq a=>(h.outs q a).keep b (h.outs q a).lt⟩
def nX.xj[kA]{w W b t G n g S m h s l}(r:nX w g l)(a:cG w b t G n S m h s)(x:XJ n m t b w W):nX W g l:=⟨r.row.xj a x D9 D9 D9 D9,λq H=>(r.ins q H).xj a x D9 D9 D9 D9,λq H=>(r.outs q H).xj a x D9 D9 D9 D9⟩
def Hz:∀l i q,l[i]?=some q->(zI l)[i*3]?=some q.t.id/\(zI l)[i*3+1]?=some (.slice q.gi q.t.ins q.ci)/\(zI l)[i*3+2]?=some (.slice q.go q.t.outs q.co)
 |[],i,x,h=>by simp at h
 |y::l,0,x,h=>by simp at h;subst h;exact⟨rfl,rfl,rfl⟩
 |y::l,i+1,x,h=>by have:=Hz l i x (by simpa using h);have e:zI (y::l)=y.cells++zI l:=rfl;rw[e];simp[show(i+1)*3=3+i*3 from by omega,show 3+i*3+1=3+(i*3+1)from by omega,show 3+i*3+2=3+(i*3+2)from by omega];have a:y.cells.length=3:=rfl;rw[cZ O9,cZ O9,cZ O9];simpa[a]using this
def bQ(m:Nat)(S h:Int)(t:List Bc)(mem:List cC)(K:jH)(s:List dB):Int×JS×List cC:=let a:=fS h (t.drop 1) ⟨K,s,0,[]⟩;if a.1≠0 then(a.1,a.2,mem)else
 match t with
 |[]=>(0,a.2,mem)
 |x::_=>let b:=kM x h S a.2;if b.1≠0 then(b.1,b.2,mem)else
   (if jG (gI mem b.2.bX)then 0 else 17,b.2,iB m (gI mem b.2.bX) mem)
def iR.xj[kA]{w W a t G n N B d S M h s q C p l}(m:iR w N B C d p l)(b:cG w a t G n S M h s)(e:cG W a t G n S M h q)(x:XJ n M t a w W)(g:∀k,p.ownBlock=some k->∃C f,kA.w0.heap[k]?=some (.cells C 298 f)):iR W N B C d p l:=by refine⟨m.row.xj b x D9 D9 D9 D9,m.Ze,m.KJ,dA m.own λk u i _ o=>?_,cA m.base x.size⟩;have⟨c,f,H⟩:=g k i;have⟨_,_,_,r⟩:=b.jy;have⟨_,_,_,j⟩:=e.jy;exact(j.2 k c f H).trans (r.2 k c f H).symm
def aR.xm{w W G n N B f s M K k j l}(a:aR w G n s M K)(m:iR w N B k f j l)(x:Xc (MF N j) w W):aR W G n s M K:=by refine a.xc x ?_ (λi h=>?_) λi h=>?_;rintro(e|e);exact a.arr.ne m.row D9 e;exact bR m.own a.arr D9 e;rintro(e|e);exact(a.sh i h).ne m.row D9 e;exact bR m.own (a.sh i h) D9 e;rintro(e|e);exact a.Ht h m.row e.symm;have⟨_,g,b⟩:=bS m.own e;obtain⟨C,c,-⟩:=a.mp i h;obtain⟨E,o,d,-⟩:=c;cases d▸b
def bW.xm{w W t g n N B f v s C M l}(a:bW w t g n v s)(m:iR w N B C f M l)(x:Xc (MF N M) w W):bW W t g n v s:=by
 refine⟨a.row.xc x ?_,dA a.own λk d _ _ b=>x.block k (bO b) ?_⟩;rintro(e|e);exact a.row.ne m.row D9 e;exact bR m.own a.row D9 e;have c:Row w k 234 d.toList:=by unfold Row;rw[b]
 rintro(e|e);exact c.ne m.row D9 e;exact bR m.own c D9 e
def afS{w W n B c C M l}(v)(m:iR w n B C c M l)(x:Xc (MF n M) w W):tE w v W v:=Hs v (Wo x λk C f a e=>by obtain e|e:=e;have h:=m.row;unfold Row at h;rw[<-e,a]at h;cases h;have⟨_,d,b⟩:=bS m.own e;cases b▸a) x.size
def JoF(n:Nat)(m:Nat->Nat)(t N:Nat)(M:Value)(k:Nat):Prop:=BI n m t k\/MF N M k
def qa{h x r s}(H:(fK x h s).1=0):fS h (x::r) s=fS h r (fK x h s).2:=by show(if(fK x h s).1≠0 then fK x h s else fS h r (fK x h s).2)=_;rw[aJ<|by rw[H];simp]
def qb{h x r s}(H:(fK x h s).1≠0):fS h (x::r) s=fK x h s:=by show(if(fK x h s).1≠0 then fK x h s else fS h r (fK x h s).2)=_;rw[aN H]
def KN{w X W n T nb m mv}(a:Below w.heap.size w X)(x:XJ n m T w X W):Xo (JoF n m T nb mv) (T+1) JT w W:=by refine(jS (S:=Own (JoF n m T nb mv) (T+1) JT w) a).trans x λk g e=>?_;obtain(e|e)|⟨b,t,C,f,c,d⟩:=e;exact .inl<|.inl e;omega;exact .inr ⟨b,t,C,f,c,(a.block k g).symm.trans d⟩
def zV(K:jH)(s:dB):jH:=if s.EG then K.put s.km else K.take s.km.pt
def ok1(K:jH)(s:dB):Prop:=sJ s.km.pt/\K s.km.pt=if s.EG then none else some s.km
def goes(K:jH)(l:List dB):jH:=l.foldl zV K
def fE:jH->List dB->Prop
 |_,[]=>True
 |K,s::l=>ok1 K s/\fE (zV K s) l
def ahC{K s}(h:ok1 K s):BH (zV K s) s=K:=by have⟨c,b⟩:=s;have⟨_,h⟩:=h;funext p;cases b;simp[BH,zV,jH.take,jH.put]at h|-;split;simp_all;rfl;simp[BH,zV,jH.take,jH.put]at h|-;split;simp_all;rfl
def akd{K s}(h:s.EG=false):zV K s s.km.pt=none:=by simp[zV,h,jH.take]
def uz(K l s):goes K (l++[s])=zV (goes K l) s:=by simp[goes]
def fE.append{K l m}(h:fE K l)(a:fE (goes K l) m):fE K (l++m):=by induction l generalizing K with
 |nil=>exact a
 |cons s l b=>exact⟨h.1,b h.2 a⟩
def fE.snoc{K l s}(h:fE K l)(a:ok1 (goes K l) s):fE K (l++[s]):=h.append ⟨a,trivial⟩
theorem fE.at_{K l}(h:fE K l){i s}(H:l[i]?=some s):ok1 (goes K<|l.take i) s:=by induction l generalizing K i with
 |nil=>simp at H
 |cons a l b=>obtain _|i:=i;simp at H;subst H;exact h.1;exact b h.2 (by simpa using H)
def C8{l:List dB}{i s}(h:l[i]?=some s):l.take (i+1)=l.take i++[s]:=by rw[oz,h];rfl
structure Way(K:jH)(s:JS):Prop where
 at_:s.K=goes K s.steps
 ok:fE K s.steps
 pt:∀p c,s.K p=some c->c.pt=p
def Way.step{K s}(h:Way K s)(t)(b:ok1 s.K t)(f T)(a:∀p c,zV s.K t p=some c->c.pt=p):Way K ⟨zV s.K t,s.steps++[t],f,T⟩:=⟨by rw[uz,<-h.at_],h.ok.snoc<|h.at_▸b,a⟩
def Way.of{K s}(h:Way K s)(f t):Way K ⟨s.K,s.steps,f,t⟩:=⟨h.at_,h.ok,h.pt⟩
def Qb{K}(id a):∀l S s,(∀x∈l,x.Small)->Way K s->Way K (jZ id a l S s).2.2
 |[],S,s,_,h=>h
 |x::r,S,s,g,h=>by
   rcases b:s.K (x.tx,x.idx)with _|c;rw[uw b];exact h;rw[uv b];have d:=h.pt _ _ b;have f:=g x S8;have e:zV s.K ⟨c,false⟩=s.K.take (x.tx,x.idx):=by simp[zV,d]
   have i:Way K (Hw id a x c s):=by have:=h.step ⟨c,false⟩ ⟨d▸⟨by have:=f.1;show x.tx.size<=_;omega,by have:=f.2.1;show _<=x.idx;omega,by have:=f.2.2.2;show x.idx<_;omega⟩,d▸b⟩ s.gG (s.bX++[⟨x.key,c.lock,id,a⟩])<|e▸Wn h.pt;rw[e]at this;exact this
   exact Qb id a r _ _ (λy j=>g y<|by simp[j]) i
def KQ{K}(id a)(b:id.size<=1000000):∀l i s,i+l.length<=8->(∀j,i<=j->j<8->s.K (id,(j:Int))=none)->Way K s->Way K (kg id a l i s)
 |[],i,s,_,_,h=>h
 |o::r,i,s,H,d,h=>by simp at H;refine KQ id a b r (i+1) _ O9 (λj f g=>?_) (h.step ⟨⟨id,i,o.val,o.lock,a⟩,true⟩ ⟨⟨cA b (by decide),by show _<=(i:Int);omega,by show(i:Int)<_;omega⟩,d i L9 O9⟩ s.gG s.bX<|by simp only[zV];exact ade h.pt);show(s.K.put _) (id,(j:Int))=none;unfold jH.put;rw[aJ];grind;intro e;have:(j:Int)=i:=congrArg Prod.snd e;omega
def adB{K id}(h:¬anyM K id=true):∀j:Nat,j<8->K (id,(j:Int))=none:=by intro j a;rcases b:K (id,(j:Int))with _|c;rfl;refine absurd ?_ h;unfold anyM;rw[Jk];exact⟨j,wB.2 a,by rw[b];rfl⟩
def El{K}(x a s)(b:x.id.size<=1000000)(e:x.outs.length<=8)(h:Way K s):Way K (eJ x a s).2:=by unfold eJ;split;exact h;rename_i d;exact KQ x.id a b x.outs 0 s O9 (λj _ c=>adB d j c) h
def Zi{K}(x a S s)(b:x.id.size<=1000000)(c:x.outs.length<=8)(h:Way K s):Way K (kM x a S s).2:=by unfold kM;split;exact h;exact El x a s b c h
def Zj{K}(x b s)(c:x.id.size<=1000000)(H:∀i∈x.ins,i.Small)(d:x.outs.length<=8)(h:Way K s):Way K (fK x b s).2:=by have a:=Qb x.id b x.ins 0 s H h;unfold fK;simp only;split;exact a;split;exact a;exact El x b _ c d<|a.of _ _
def HA{K}(a):∀l s,(∀x∈l,x.id.size<=1000000/\(∀i∈x.ins,i.Small)/\x.outs.length<=8)->Way K s->Way K (fS a l s).2
 |[],s,_,h=>h
 |x::r,s,d,h=>by have b:=d x S8;have c:=Zj x a s b.1 b.2.1 b.2.2 h;by_cases H:(fK x a s).1=0;rw[qa H];exact HA a r _ (λy e=>d y<|by simp[e]) c;rw[qb H];exact c
def xV{K}(g s h t m)(f:∀p c,K p=some c->c.pt=p)(e:∀x∈t,x.id.size<=1000000/\(∀i∈x.ins,i.Small)/\x.outs.length<=8):Way K (bQ g s h t m K []).2.1:=by have H:Way K ⟨K,[],0,[]⟩:=⟨rfl,trivial,f⟩;have b:=HA h (t.drop 1) _ (λx a=>e x<|Nq a) H;unfold bQ;simp only;split;exact b;obtain _|⟨x,r⟩:=t;exact b;have a:=e x S8;have d:=Zi x h s _ a.1 a.2.2 b;simp only;split;exact d;exact d
def KR(h)(g:h<9223372036854775808):∀(l:List Bc)(s:JS){b c:Nat}{a:Int},(∀x∈l,x.ins.length<=8/\x.outs.length<=8/\∀o∈x.outs,o.Small)->IA s b c a->IA (fS h l s).2 (b+16*l) (c+8*l) (a+34359738360*l)
 |[],s,b,c,a,_,d=>d.mono S8 S8 S8
 |x::r,s,b,c,a,i,d=>by have e:=i x S8;have f:=P7 x h s g e.1 e.2.1 e.2.2 d;simp;by_cases H:(fK x h s).1=0;rw[qa H];exact(KR h g r _ (λy j=>i y<|by simp[j]) f).mono O9 O9 O9;rw[qb H];exact f.mono O9 O9 O9
def HB{K}(e S h T m)(g:h<9223372036854775808)(f:Eh K)(k:T.length<=8)(a:∀x∈T,x.ins.length<=8/\x.outs.length<=8/\∀o∈x.outs,o.Small):Eh (bQ e S h T m K []).2.1.K/\(bQ e S h T m K []).2.1.steps.length<=200:=by
 have H:IA ⟨K,[],0,[]⟩ 0 0 0:=⟨f,L9,L9,lC _,lC _,λt a=>by cases a⟩;have b:=KR h g (T.drop 1) _ (λx c=>a x<|Nq c) H;have j:(T.drop 1).length<=8:=by rw[rM];omega
 have F:=λ(s:JS)(d:IA s (0+16*(T.drop 1)+8) (0+8*(T.drop 1)) (0+34359738360*(T.drop 1)))=>Ai d.ok (show s.steps.length<=200 from by have:=d.steps;omega);unfold bQ;simp only;split;exact F _ (b.mono O9 L9<|lC _);obtain _|⟨x,r⟩:=T;exact F _ (b.mono O9 L9<|lC _);have c:=a x S8;have i:=(P6 x h S _ c.2.2 b).mono (show _<=0+16*((x::r).drop 1).length+8 by omega) L9<|lC _;simp only;split;simp_all;simp_all
open Go.Shelf Go.Seq
section
attribute [local go_sem] Oper.semAt_some
def BK{w:World}{cs t k}(h:k=↑w):Row (w.alloc<|.cells cs.toArray t) k t cs:=h▸aX w cs t
def HE:∀l i s j,l[i]?=some s->j<7->(eV l)[i*7+j]?=s.cells[j]?
 |[],i,s,j,h,_=>by simp at h
 |y::l,0,s,j,h,a=>by simp at h;subst h;have e:eV (y::l)=y.cells++eV l:=rfl;have b:y.cells.length=7:=rfl;rw[e,mj,ko O9]
 |y::l,i+1,s,j,h,a=>by have:=HE l i s j (by simpa using h) a;have e:eV (y::l)=y.cells++eV l:=rfl;have b:y.cells.length=7:=rfl;rw[e,cZ O9,<-this];congr 1;omega
def HF{w B g c N l}(h:w.ownsRow B 234 7 (.slice g N c) N (eV l)){i s}(H:l[i]?=some s):C7 w g i s:=have q:∀j v,j<7->s.cells[j]?=some v->w.cell? (g,i*7+j)=some v:=λj v b d=>by have:=(h.cells (g:=g) rfl) (i*7+j) v (by rw[HE l i s j H b];exact d);rwa [add0]at this
 ⟨q 0 _ O9 rfl,q 1 _ O9 rfl,q 2 _ O9 rfl,q 3 _ O9 rfl,q 4 _ O9 rfl,q 5 _ O9 rfl,q 6 _ O9 rfl⟩
def py{w W:World}{g}(h:W.heap[g]?=w.heap[g]?)(j):W.cell? (g,j)=w.cell? ⟨g,j,none⟩:=by simp[World.cell?,h]
def C7.same{w W g i s}(h:C7 w g i s)(e:W.heap[g]?=w.heap[g]?):C7 W g i s:=⟨(py e _).trans h.c0,(py e _).trans h.c1,(py e _).trans h.c2,(py e _).trans h.c3,(py e _).trans h.c4,(py e _).trans h.c5,(py e _).trans h.c6⟩
structure wM(w:World)(g:Nat)(l:List dB):Prop where
 ty:∃cs f,w.heap[g]?=some (.cells cs 234 f)
 at_:∀i s,l[i]?=some s->C7 w g i s
def lL{W w:World}{R}(c:W.grownBy w R)(d:∀r,R=some r->∃o,W.heap[r]?=some o/\o.isCells=false)(k:Nat)(C)(t)(f)(h:W.heap[k]?=some (.cells C t f)):w.heap[k]?=some (.cells C t f):=by refine(c.block k (bO h) λe=>?_).trans h;have⟨o,a,b⟩:=d k e.symm;cases h▸a;simp[Obj.isCells]at b
structure adC(w:World)(tb gs n:Nat)(sb mb:Nat->Nat)(K0:jH)(v:Value)(l:List dB)(k:Nat)(W:World):Prop where
 bt:Row W w.heap.size 179 [ptr tb]
 bn:Row W (w.heap.size+1) 154 [v]
 dL:aR W gs n sb mb (goes K0 (l.take<|l.length -k))
 jy:∃v' m,bW W tb gs n v' (l++m)/\m.length<=k
 lie:∀g,v.ownBlock=some g->wM W g l
 x:Xo (BI n mb tb) (tb+1) xB w W
theorem adC.mem{W w}{T gs n B:Nat}{sb m:Nat->Nat}{K:jH}(g:∀i,i<n->m i<B)(x:Xo (BI n m T) (T+1) xB W w)(c:∃C,Row W T 181 C):KeepsFrom B W w:=by refine⟨x.size,λk o d a b=>(x.block k (bO a) ?_).trans a⟩;rintro((⟨i,h,e⟩|e)|⟨_,t,C,f,_,e⟩);grind;have⟨C,r⟩:=c;subst e;unfold Row at r;cases a▸r;simp[Obj.isCells]at b;cases a▸e;simp[Obj.isCells]at b
def adD(l:List dB)(i:Nat):dB:=(l[i]?).getD ⟨⟨⟨#[]⟩,0,0,⟨#[]⟩,0⟩,false⟩
def Wz{l i s}(h:l[i]?=some s):adD l i=s:=by unfold adD;rw[h];rfl
end
def dB.flip(s:dB):dB:=⟨s.km,!s.EG⟩
def lM(l:List dB):List dB:=l.reverse.map dB.flip
theorem HI(s l):lM (s::l)=lM l++[s.flip]:=by simp[lM]
def MN(l m):lM (l++m)=lM m++lM l:=by simp[lM]
def yj(l):(lM l)=l.length:=by simp[lM]
theorem gS(K l m):goes K (l++m)=goes (goes K l) m:=by simp[goes]
def af2(K s):zV K s.flip=BH K s:=by unfold zV BH dB.flip;cases s.EG<;>simp
def fE.left:∀{l m:List dB}{K:jH},fE K (l++m)->fE K l/\fE (goes K l) m
 |[],_,_,h=>⟨trivial,h⟩
 |_::_,_,_,h=>have q:=fE.left h.2;⟨⟨h.1,q.1⟩,q.2⟩
def af3{K s}(h:ok1 K s):ok1 (zV K s) s.flip:=by refine⟨h.1,?_⟩;unfold zV dB.flip;cases s.EG<;>simp[jH.put,jH.take]
def Zm{K l}(h:fE K l):fE (goes K l) (lM l)/\goes (goes K l) (lM l)=K:=by induction l generalizing K with
 |nil=>exact⟨trivial,rfl⟩
 |cons s m b=>have⟨c,a⟩:=b h.2;rw[HI];show fE (goes (zV K s) m) _/\goes (goes (zV K s) m) _=K;refine⟨c.snoc ?_,?_⟩;rw[a];exact af3 h.1;rw[uz,a,af2,ahC h.1]
def JS.pre(p:List dB)(s:JS):JS:={s with steps:=p++s.steps}
def Qg(id h p):∀l S s,jZ id h l S (s.pre p)=((jZ id h l S s).1,(jZ id h l S s).2.1,(jZ id h l S s).2.2.pre p)
 |[],S,s=>rfl
 |x::r,S,s=>by rcases a:s.K (x.tx,x.idx)with _|c;rw[uw a,uw (s:=s.pre p) a];rw[uv a,uv (s:=s.pre p) a,<-Qg id h p r _ _];simp[Hw,JS.pre]
def KV(id h p):∀l i s,kg id h l i (s.pre p)=(kg id h l i s).pre p
 |[],i,s=>rfl
 |o::r,i,s=>by unfold kg;rw[<-KV id h p r _ _];simp[JS.pre]
def Em(x h p s):eJ x h (s.pre p)=((eJ x h s).1,(eJ x h s).2.pre p):=by unfold eJ;rw[KV];show(if anyM s.K x.id then _ else _)=_;split<;>rfl
def Zn(x h S p s):kM x h S (s.pre p)=((kM x h S s).1,(kM x h S s).2.pre p):=by unfold kM;rw[Em];show(if cW x.outs>S+s.gG then _ else _)=_;split<;>rfl
def Zo(x h p s):fK x h (s.pre p)=((fK x h s).1,(fK x h s).2.pre p):=by unfold fK;simp only;rw[Qg];split;rfl;split;rfl;exact Em x h p {(jZ x.id h x.ins 0 s).2.2 with gG:=(jZ x.id h x.ins 0 s).2.2.gG+((jZ x.id h x.ins 0 s).2.1 -cW x.outs)}
def HJ(h p):∀l s,fS h l (s.pre p)=((fS h l s).1,(fS h l s).2.pre p)
 |[],s=>rfl
 |x::r,s=>by have e:=Zo x h p s;by_cases H:(fK x h s).1=0;rw[qa H,qa (s:=s.pre p)<|e▸H,e,HJ h p r];rw[qb H,qb (s:=s.pre p)<|e▸H,e]
def Zp(a s h t m K p):bQ a s h t m K p=((bQ a s h t m K []).1,(bQ a s h t m K []).2.1.pre p,(bQ a s h t m K []).2.2):=by
 have e:fS h (t.drop 1) ⟨K,p,0,[]⟩=((fS h (t.drop 1) ⟨K,[],0,[]⟩).1,(fS h (t.drop 1) ⟨K,[],0,[]⟩).2.pre p):=by rw[<-HJ];simp[JS.pre]
 unfold bQ;simp only;rw[e];split;rfl;obtain _|⟨x,r⟩:=t;rfl;simp only;rw[Zn];split;rfl;rfl
section
attribute [local go_sem] Oper.semAt_some
def wM.akf{w W g T G n b l t m}(h:wM w g l)(q:g<=T\/l<+:t)(c:bW W T G n b (t++m))(o:Old b w W):wM W g l:=by have⟨C,f,d⟩:=h.ty;by_cases e:b.ownBlock=some g;obtain⟨a,_⟩|⟨x,u,v,a,p,k,_⟩:=c.own.2;cases a▸e;cases a▸e;obtain q|⟨r,rfl⟩:=q;grind;refine⟨⟨_,_,k⟩,λi s H=>?_⟩;have j:=c.own;rw[a]at j;exact HF j (by rw[dP,ko (bK.1 H).1];exact H);have:=o g C f d e;exact⟨⟨C,f,this⟩,λi s H=>(h.at_ i s H).same<|this.trans d.symm⟩
structure rD(w:World)(tb gs n:Nat)(sb mb:Nat->Nat)(K0:jH)(va:Option Addr)(vc:Nat)(t l:List dB)(k:Nat)(W:World):Prop where
 bt:Row W w.heap.size 179 [ptr tb]
 bn:Row W (w.heap.size+1) 154 [(va,l,vc)]
 dL:aR W gs n sb mb (goes K0 (l.take<|l.length -k))
 jy:∃v',bW W tb gs n v' (t++lM (l.drop<|l.length -k))
 lie:l=[]\/∃g,va=some ⟨g,0,none⟩/\(g<=tb\/l<+:t)/\wM W g l
 x:Xo (BI n mb tb) (tb+1) xB w W
theorem rD.own{w tb gs n sb M K0 va vc t l}(z:∀i,i<n->M i<↑w):OwnFrom (↑w+2) (rD w tb gs n sb M K0 va vc t l):=by
 intro k W B R h a D;have c:∀r,R=some r->∃o:Obj,W.heap[r]?=some o/\o.isCells=false:=λr e=>(D r e).2;have d:=λg t C(r:Row W g t C)=>lL a c _ _ _ _ r;have x:Xc (λk=>R=some k) W B:=⟨a.os,a.tape,a.output,a.size,λk m v=>a.block k m λe=>v e.symm⟩;have p:∀g t C,Row W g t C->¬R=some g:=λg t C r e=>by have⟨o,u,b⟩:=c g e;cases r▸u;simp[Obj.isCells]at b
 refine⟨d _ _ _ h.bt,d _ _ _ h.bn,h.dL.xc x (p _ _ _ h.dL.arr) (λi H=>p _ _ _<|h.dL.sh i H) λi H e=>?_,?_,?_,?_⟩;grind;have⟨y,j⟩:=h.jy;exact⟨y,⟨d _ _ _ j.row,dA j.own λk C _ _ b=>(lL a c _ _ _ _ b).trans b.symm⟩⟩;obtain e|⟨g,e,q,A⟩:=h.lie;simp_all;have⟨C,f,b⟩:=A.ty;have:=lL a c _ _ _ _ b;exact .inr ⟨g,e,q,⟨C,f,this⟩,λi s H=>(A.at_ i s H).same<|this.trans b.symm⟩;grind [Wk,h.x]
def adU:=@rD.own
def rD.grown{w T g n s m K v V t l}(a:∀i,i<n->m i<↑w){k W}(h:rD w T g n s m K v V t l k W)(o):rD w T g n s m K v V t l k (W.alloc o):=adU a k W _ none h (aaB W o none) (λr e=>by cases e)
def rD.next{w W x T G n S M K d V B c t l k i s}(h:rD w T G n S M K V B t l k W)(b:l[i]?=some s)(F:i+k+1=l)(z:fE K l)(y:aR x G n S M d)(j:d=BH (goes K (l.take<|i+1)) s)(a:bW x T G n c (t++lM (l.drop<|i+1)++[s.flip]))(C:Old c W x)(o:Xo (BI n M T) (T+1) xB W x):rD w T G n S M K V B t l (k+1) x:=by
 have⟨I,p⟩:=h.jy;have f:l -(k+1)=i:=O9;have v:l.drop i=s::l.drop (i+1):=by grind [wH]
 have u:t++lM (l.drop<|i+1)++[s.flip]=t++lM (l.drop<|l -(k+1)):=by grind [HI]
 rw[u]at a;have m:∀g t A,Row W g t A->t≠234->t≠181->Row x g t A:=λg t A r H D=>r.xo o (λe=>by obtain e|e:=e;grind [h.dL.lU];exact r.ne p.row D e)<|.inr H
 refine⟨m _ _ _ h.bt D9 D9,m _ _ _ h.bn D9 D9,?_,⟨c,a⟩,h.lie.imp id λ⟨g,e,q,E⟩=>⟨g,e,q,E.akf q a C⟩,rz h.x o⟩;rw[f];rw[C8 b,uz,ahC<|z.at_ b]at j;rw[<-j];exact y
def ahG{gs n T sb q f aq t l}(v V w)(an:aR w gs n sb q (goes f l))(ad:bW w T gs n aq t)(π:fE f l)(hl:t+l.length<=100000)(ab:l=[]\/∃g,v=some ⟨g,0,none⟩/\(g<=T\/l<+:t)/\wM w g l):Cv 82 #[ptr T,.slice v l V] w λe N=>e=.returned (.tuple #[])/\aR N gs n sb q f/\(∃af,bW N T gs n af<|t++lM l)/\Xo (BI n q T) (T+1) xB w N:=by
 have G:=λi(o:i<n)=>(an.mp i o).lt;unfold ptr;refine D5 (fA func82) rfl ?_;simp[ntmps82,I9,cQ,pN,Nat.reduceAdd,Nat.reduceSub,UY,UZ,U0,Nv,yC,vK];go_wp2;refine(ML (v,l,V) ⟨v,_,V,rfl⟩ _).mono ?_;rintro e w1⟨rfl,rfl⟩;go_wp2;have am:∃Rd,OJ Fence.wide 2 Vp 162 #[.pointer<|some ⟨w.heap.size+1,0,none⟩] (Qa l<|adD l) l Rd/\∀k W,rD w T gs n sb q f v V t l k W->Rd W:=by obtain rfl|⟨g,rfl,_,_⟩:=ab;exact⟨_,Zh _ V v _,λk W h=>h.bn.cell 0⟩;refine⟨_,adA _ g l V (adD l) O9,λk W h=>⟨h.bn.cell 0,λi o=>?_⟩⟩;have c:=aY o;rw[Wz c];obtain rfl|⟨g',e,_,aj⟩:=h.lie;simp at o;cases e;exact aj.at_ i _ c
 have⟨Rd,am,ak⟩:=am;have y:Below w.heap.size w ((w.alloc<|.cells #[.pointer<|some ⟨T,0,none⟩] 179).alloc<|.cells #[.slice v l V] 154):=(B0.alloc L9 _).alloc S8 _;have I:((w.alloc<|.cells #[.pointer<|some ⟨T,0,none⟩] 179).alloc<|.cells #[.slice v l V] 154).heap.size=w.heap.size+2:=by simp
 have h0:rD w T gs n sb q f v V t l 0 ((w.alloc<|.cells #[.pointer<|some ⟨T,0,none⟩] 179).alloc<|.cells #[.slice v l V] 154):=by refine⟨(aX w [ptr T] 179).alloc _,BK S8,?_,⟨aq,?_⟩,?_,jS y⟩;rw[U2,gQ];exact an.keep y;rw[U2,U3];show bW _ _ _ _ _ (t++[]);rw[kY];exact⟨ad.row.keep y ad.row.lt,aP ad.own y⟩;obtain e|⟨g,e,a1,hl⟩:=ab;exact .inl e;have⟨cs,aw,aa⟩:=hl.ty;have:=(y.block g<|bO aa);exact .inr ⟨g,e,a1,⟨cs,aw,this.trans aa⟩,λi s o=>(hl.at_ i s o).same this⟩
 generalize(w.alloc _).alloc _=a6 at y I h0|-;refine OL (gf:=162) (lb:=#[.pointer<|some ⟨w.heap.size+1,0,none⟩]) rfl (enters_of (fA func162) K8 rfl) am (λk=>rfl) (rD w T gs n sb q f v V t l) (by rw[I];exact adU G) ak h0 (λk O W=>∃a i s,l[i]?=some s/\i+k+1=l/\Row W a 234 s.cells/\O={tmps:=#[.pointer<|some ⟨T,0,none⟩,.slice v l V,.pointer<|some ⟨w.heap.size,0,none⟩,undef,undef,.pointer<|some ⟨a,0,none⟩,.slice v l V,.func (.func 162) #[] #[.pointer<|some ⟨w.heap.size+1,0,none⟩],↑(i:Int),s.v,undef,undef,undef,undef,undef,undef,undef,undef,undef,undef,undef],defers:=[]}) ?assign ?ax ?body ?done
 case ax=>rintro k O W C a0 o'⟨a,i,s,r,x,j,z⟩a2 ar au;exact⟨a,i,s,r,x,lL (grownBy_putObj' W C o') (λa4 e=>by cases e;exact⟨a0,ar,au⟩) _ _ _ _ j,z⟩
 case assign=>
  intro C k W av ao b B;have⟨i,o⟩:∃i,i+k+1=l:=⟨l -k -1,O9⟩;have c:=aY<|show i<l by omega
  generalize l[i]=s at c;have p:Qa l (adD l) k=#[↑(i:Int),s.v]:=by unfold Qa;rw[show l.length -1 -k=i from by omega,Wz c]
  rw[p];have ai:=λO W' r x j=>B O W' r x j;clear B;unfold dB.v;gi_wp2;exact ai _ _ ((KeepsOthers.alloc _ _).from _) (b.grown G _) ⟨W.heap.size,i,s,c,o,aX W s.cells _,rfl⟩
 case body=>
  rintro C k O W ao b⟨a,i,s,c,o,R,rfl⟩;rw[I];have p:l -k=i+1:=O9;have A:=b.dL;rw[p,C8 c,uz]at A;have H:=π.at_ c;have⟨af,u⟩:=b.jy;rw[p]at u;have F:(t++lM (l.drop<|i+1)).length<=100000:=by rw[cB,yj,rM];omega
  have Q:∀i,i<n->q i<w.heap.size+2:=λi o=>by have:=G i o;omega
  have ae:=R.r 6;have ay:=b.bt.cell 0;have⟨c0,c1,c2,c3,c4,c5⟩:=R.p6;have S:=u.row;have Y:Hid (∀(J:jH)P m,aR m gs n sb q J->J=BH (goes f (l.take<|i+1)) s->bW m T gs n P (t++lM (l.drop<|i+1)++[s.flip])->Old P W m->Xo (BI n q T) (T+1) xB W m->KeepsFrom (w.heap.size+2) W m/\rD w T gs n sb q f v V t l (k+1) m):=λJ P m ag ah a3 a5 U=>⟨adC.mem (gs:=gs) (sb:=sb) (K:=f) Q U ⟨_,S⟩,b.next c o π ag ah a3 a5 U⟩
  have X:goes f (l.take<|i+1)=zV (goes f<|l.take i) s:=by rw[C8 c,uz]
  cases d:s.EG with
  |true=>
    have al:Hid (Cv 122 #[.pointer<|some ⟨T,0,none⟩,.agg #[↑s.km.tx,↑s.km.idx]] W λe N=>∃E,e=.returned E/\KeepsFrom (w.heap.size+2) W N/\rD w T gs n sb q f v V t l (k+1) N):=by
     refine(Hu s.km.pt W A u H.1 F).mono ?_;rintro e N⟨r,x,⟨P,j,z,-⟩,M⟩;refine⟨_,r,?_⟩;have e3:zV (goes f<|l.take i) s s.km.pt=some s.km:=by unfold zV;rw[d];simp[jH.put]
     have L:s.flip=⟨s.km,false⟩:=by unfold dB.flip;rw[d];rfl
     rw[e3]at j;exact Y.out _ _ _ x (by rw[X];simp[BH,d]) (L▸j) z M
    rw[d]at ae;clear A H u S Y X b F Q p d R;gi_wp2;refine⟨trivial,(CallsIn.inRound C<|callsIn_wide.2 al.out).mono ?_⟩;rintro e w2⟨E,rfl,r,x⟩;gi_wp2;exact⟨r,x⟩
  |false=>
    have al:Hid (Cv 123 #[.pointer<|some ⟨T,0,none⟩,.agg #[↑s.km.tx,↑s.km.idx,↑s.km.val,↑s.km.lock,↑s.km.aT,aD]] W λe N=>∃E,e=.returned E/\KeepsFrom (w.heap.size+2) W N/\rD w T gs n sb q f v V t l (k+1) N):=by
     refine(KG s.km W A u H.1 (akd d) F).mono ?_;rintro e N⟨r,x,⟨P,j,z,-⟩,M⟩;refine⟨_,r,?_⟩;have L:s.flip=⟨s.km,true⟩:=by unfold dB.flip;rw[d];rfl
     exact Y.out _ _ _ x (by rw[X];simp[BH,d]) (L▸j) z M
    rw[d]at ae;clear A H u S Y X b F Q p d R;gi_wp2;refine⟨trivial,(CallsIn.inRound C<|callsIn_wide.2 al.out).mono ?_⟩;rintro e w2⟨E,rfl,r,x⟩;gi_wp2;exact⟨r,x⟩
 case done=>rintro D W ap b B;rw[I]at ap;have ac:=adU (tb:=T) (gs:=gs) (sb:=sb) (K0:=f) (va:=v) (vc:=V) (t:=t) (l:=l) G l.length W (W.putObj D<|.deferred none) (some D) b (grownBy_putObj' W D _) (λa4 e=>by cases e;exact⟨ap,_,B,rfl⟩);simp[Exit.inBlock];refine wW B<|zo (Ns rfl _ _ _) ⟨rfl,?_,?_,ac.x⟩;have:=ac.dL;rw[rK]at this;exact this;have:=ac.jy;rw[rK]at this;exact this
structure dX where
 a:Nat
 st:List dB
 sa:Option Addr
 sc:Nat
def dX.cells(x:dX):List Value:=[(x.a,0),(x.sa,x.st,x.sc)]
def dX.v(x:dX):Value:=.agg #[(x.a,0),(x.sa,x.st,x.sc)]
def eW(l:List dX):List Value:=l.flatMap dX.cells
def dX.At(w:World)(x:dX):Prop:=x.st=[]\/∃g,x.sa=some ⟨g,0,none⟩/\wM w g x.st
def dO(l:List dX):List dB:=l.flatMap dX.st
def HL(l):(eW l)=l.length*2:=by induction l with
 |nil=>rfl
 |cons x l a=>have e:eW (x::l)=x.cells++eW l:=rfl;rw[e,cB,cQ];show 2+_=_;omega
def tD(l m):eW (l++m)=eW l++eW m:=by simp[eW]
def qD(l m):dO (l++m)=dO l++dO m:=by simp[dO]
def rp:∀l i x,l[i]?=some x->(eW l)[i*2]?=some (.pointer x.a)/\(eW l)[i*2+1]?=some (.slice x.sa x.st x.sc)
 |[],i,x,h=>by simp at h
 |y::l,0,x,h=>by simp at h;subst h;exact⟨rfl,rfl⟩
 |y::l,i+1,x,h=>by have:=rp l i x (by simpa using h);have e:eW (y::l)=[.pointer<|some ⟨y.a,0,none⟩,.slice y.sa y.st y.sc]++eW l:=rfl;rw[e];simp only[show(i+1)*2=2+i*2 from by omega,show 2+i*2+1=2+(i*2+1)from by omega];rw[cZ S8,cZ S8];simpa using this
def zL(l):∀u∈eW l,u.oneCell'=true:=by intro u a;have⟨s,_,h⟩:=Jl.1 a;simp[dX.cells]at h;obtain rfl|rfl:=h<;>rfl
structure aiQ(W:World)(g o:Nat)(x:dX):Prop where
 c0:W.cell? ⟨g,o,none⟩=some (.pointer<|some ⟨x.a,0,none⟩)
 c1:W.cell? ⟨g,o+1,none⟩=some (.slice x.sa x.st.length x.sc)
def HM(N:Nat)(s:Nat->dX)(k:Nat):Array Value:=#[.int .i64 ((N -1 -k:Nat):Int),(s<|N -1 -k).v]
def aiR(B g o N c:Nat)(s:Nat->dX)(W:World):Prop:=W.cell? ⟨B,0,none⟩=some (.slice (some ⟨g,o,none⟩) N c)/\∀i,i<N->aiQ W g (o+i*2) (s i)
def Zq(d g o N c)(S:Nat->dX)(hN:N<=100000):OJ Fence.wide 2 Vp 126 #[(d,0)] (HM N S) N (aiR d g o N c S):=by
 intro l m W y f r H;refine callsIn_of_wp (fA func126) rfl trivial ?_ rfl;simp[ntmps126,I9,cQ,pN,Nat.reduceAdd,Nat.reduceSub,UY,UZ,U0,Nv,yC,vK];have w:=(f 0 W H).1;gi_wp2;gi_loopw [3] (λp wr=>∃k,k<=N/\p=↑((N:Int) -1 -(k:Int))/\m k wr) (λp _=>(intOf p+1).toNat);case atStart=>exact⟨0,O9,S8,H⟩
 case round=>
  obtain⟨k,z,rfl,b⟩:=hrel;by_cases t:k<N
  .have⟨i,B⟩:∃i,N=i+k+1:=⟨N -k -1,O9⟩;have a:(N:Int) -1 -(k:Int)=i:=O9;have E:N -1 -k=i:=O9;have⟨x,h⟩:=f k wr b;have⟨F,G⟩:=h i O9;have⟨I,T,C,D,j,q⟩:=r k wr b t;unfold HM dX.v at j;rw[E]at j;rw[a];have A:(i:Int)<N:=O9;have v:=aK<|show(i:Int) -1=(N:Int) -1 -((k+1:Nat):Int)from by omega
   clear a E B h;gi_wp2;refine q.mono ?_;rintro e u⟨rfl,n⟩;gi_wp2;go_roundw;exact⟨k+1,O9,by rw[<-v.out],n⟩;simp[intOf]
  have s:k=N:=O9;subst s;have a:(k:Int) -1 -(k:Int)=-1:=O9;rw[a];gi_wp2;go_end0;exact⟨⟨_,rfl⟩,b⟩
end
end Go.Proofs.aH
