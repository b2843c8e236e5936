import Derived.Test.YtpjcmpfncpnmeabGreatM07
set_option linter.all false
set_option maxHeartbeats 4000000
set_option maxRecDepth 100000
namespace Go.Proofs.aH
open Go.RowKit Tryz
section
variable[Go.Proofs.VB]
def opAt(p:List UInt8)(i:Nat):Nat:=(p.getD i 0).toNat
def jH(p:List UInt8)(i:Nat):Nat:=if opAt p i=64 then i+9 else i+1
def Sa(p i):opAt p i<256:=(p.getD i 0).toNat_lt
def qN(p)(i:Nat)(w)(hi:i<p.length)(f:p.length<=1000):Cv 199 #[(mk p),i] w λe w'=>e=.returned (jH p i)/\w'=w:=by
 have d:=pJ p i (i:Int) rfl hi;have a:jH p i=if(p.getD i 0).toNat=64 then i+9 else i+1:=rfl;generalize(p.getD i 0).toNat=c at d a;by_cases b:c=64;.subst b;replace a:=aL a;go_enter fA func199,ntmps199;go_wp2;go_ret;rw[a.out];exact⟨rfl,rfl⟩
 .rw[aT b]at a;replace a:=aL a;go_enter fA func199,ntmps199;go_wp2;go_ret;rw[a.out];exact⟨rfl,rfl⟩
def wZ(p:List UInt8)(i:Nat):Int:=gD ((p.drop (i+1)).take 8)
def pN(p:List UInt8):Nat->Nat->Nat->Option Nat->Option (Nat×Nat)
 |0,_,_,_=>none
 |f+1,i,d,m=>if i<p.length then if opAt p i=80 then pN p f (i+1) (d+1) m
    else if opAt p i=82/\0<d then pN p f (i+1) (d -1) m
    else if 0<d then pN p f (jH p i) d m
    else if opAt p i=81 then(if m.isSome then none else pN p f (i+1) 0 (some i))
    else if opAt p i=82 then some (m.getD i,i)
    else pN p f (jH p i) 0 m
   else none
def YR(m:Option Nat):Int:=match m with|some k=>k|none=>-1
def aeC(a)(b:Nat)(h0:0<=a)(e:a<72057594037927936)(c:b<256):bits .or .u64 (a*256) (b:Int)=a*256+(b:Int):=by obtain⟨n,rfl⟩:=BU h0;have d:n*256<18446744073709551616:=O9;have f:=nat_join8 (n*256) b O9 c;show IntKind.u64.wrap ((BitVec.ofInt 64 ((n:Int)*256)|||BitVec.ofInt 64 (b:Int)).toNat:Int)=_;rw[BitVec.toNat_or,show((n:Int)*256)=((n*256:Nat):Int)from by simp,ofInt_u64 (n*256) d,ofInt_u64 b O9,IntKind.wrap_u64];omega
def Sb(t)(h:t.length<=7):0<=gD t/\gD t<72057594037927936:=by have⟨a,b⟩:=Fz t;refine⟨a,D4 b ?_⟩;have c:t.length=0\/t.length=1\/t.length=2\/t.length=3\/t.length=4\/t.length=5\/t.length=6\/t.length=7:=O9;obtain e|e|e|e|e|e|e|e:=c<;>rw[e]<;>decide
def abI(t)(h:t.length<=8):0<=gD t/\gD t<18446744073709551616:=by
 by_cases c:t.length<=7;.have:=Sb t c;omega
 .have⟨b,a⟩:=Fz t;rw[show t.length=8 from by omega]at a;exact⟨b,a⟩
def Pw(p i):0<=wZ p i/\wZ p i<18446744073709551616:=abI _ (by rw[kI];omega)
def Px(p i w)(hi:i<p.length)(s:p.length<=1000)(r:opAt p i=64):Cv 196 #[(mk p),i] w λe w'=>(if i+9<=p.length then e=.returned (.int .u64 (wZ p i))else e=.panicked (Mt 2))/\w'=w:=by
 have B:=dG p;have l:jH p i=i+9:=by unfold jH;rw[if_pos r]
 go_enter fA func196,ntmps196;go_wp2;refine(qN p i w hi s).mono ?_;rintro e w1 ⟨rfl,rfl⟩;rw[l];by_cases y:i+9<=p.length;.have o:¬((i+9:Nat):Int)>(p.length:Int):=O9;go_wp2;go_loopw [5,14] (λn j wr=>∃k:Nat,k<=8/\j=↑k/\n=.int .u64 (gD (((p.drop (i+1)).take 8).take k))/\wr=w1) (λ_ j _=>8 -(intOf j).toNat);exact⟨0,O9,rfl,rfl,rfl⟩;case round=>
   obtain⟨k,x,rfl,rfl,rfl⟩:=hrel;have g:((p.drop (i+1)).take 8).length=8:=by rw[kI,BW];omega
   have f:∀j,j<8->((p.drop (i+1)).take 8).getD j 0=p.getD (i+1+j) 0:=λj v=>by grind
   by_cases q:k<8
   .have b:=pJ p (i+1+k) ((i:Int)+1+(k:Int)) O9 O9;rw[<-f k q]at b;generalize(p.drop (i+1)).take 8=t at g b;have a:=Sb (t.take k) (by rw[kI];omega);have d:Hid (gD (t.take (k+1))=gD (t.take k)*256+((t.getD k 0).toNat:Int)):=by unfold Hid;rw[xH (by omega:k<t.length),FA];simp[List.getD,show k<t.length from by omega]
    have u:=(t.getD k 0).toNat_lt;generalize(t.getD k 0).toNat=c at b d u;generalize z:gD (t.take k)=h at d a;have A:IntKind.u64.wrap (h*256)=h*256:=by rw[IntKind.wrap_u64];omega
    clear g f;go_wp2;go_roundw;exact⟨k+1,O9,by go_num,by rw[d.out,aeC _ _ a.1 a.2 O9],trivial⟩;simp[intOf];omega
   .have m:k=8:=O9;subst m;rw[List.take_take,Nat.min_self];go_wp2;go_ret;exact⟨rfl,rfl⟩
 .have o:((i+9:Nat):Int)>(p.length:Int):=O9;go_wp2;exact⟨rfl,rfl,rfl⟩
def YS(p)(i:Nat)(w)(hi:i<p.length)(H:p.length<=1000):Cv 200 #[(mk p),i] w λe w'=>(match pN p p.length (i+1) 0 none with|some (m,n)=>e=.returned (.tuple #[m,n])|none=>e=.panicked (Mt 5))/\w'=w:=by
 have P:=dG p;generalize a:pN p p.length (i+1) 0 none=E;go_enter fA func200,ntmps200;go_wp2;go_loopw [4,6,7] (λmv A iv wr=>∃(j d f:Nat) (m:Option Nat),iv=↑j/\A=↑d/\mv=↑(YR m)/\wr=w/\p.length<=j+f/\j<=p.length+9/\d<=j/\(∀x,m=some x->x<p.length)/\Hid (pN p f j d m=E)) (λ_ _ iv _=>p.length+9 -(intOf iv).toNat);exact⟨i+1,0,p.length,none,rfl,rfl,rfl,rfl,O9,O9,O9,(λ_ h=>by cases h),a⟩;case round=>
  clear a;obtain⟨j,d,f,m,rfl,rfl,rfl,rfl,N,O,L,r,a⟩:=hrel;by_cases o:j<p.length
  .obtain⟨f,rfl⟩:∃f',f=f'+1:=⟨f -1,O9⟩;have y:=pJ p j (j:Int) rfl o;have g:=qN p j wr o H;have b:jH p j=if opAt p j=64 then j+9 else j+1:=rfl;replace a:=a.out;rw[pN,bD o]at a;have z:opAt p j=(p.getD j 0).toNat:=rfl;rw[<-z]at y;have C:=Sa p j;generalize opAt p j=c at y a b C;clear z;have G:(j:Int)<(p.length:Int):=O9;by_cases u:c=80;.subst u;rw[bD rfl]at a;rw[aT D9]at b;change Hid _ at a b;go_wp2;refine g.m0 ?_;rw[b.out];go_wp2;go_roundw;exact⟨j+1,d+1,f,m,by go_num,by go_num,rfl,trivial,O9,O9,O9,r,a⟩;simp[intOf];omega
   .rw[aT u]at a;have J:¬(c:Int)=80:=O9;by_cases q:0<d
    .have M:(d:Int)>0:=O9;by_cases l:c=82;.subst l;rw[bD ⟨rfl,q⟩]at a;rw[aT D9]at b;change Hid _ at a b;go_wp2;refine g.m0 ?_;rw[b.out];go_wp2;go_roundw;exact⟨j+1,d -1,f,m,by go_num,by rw[Int.ofNat_sub O9];rfl,rfl,trivial,O9,O9,O9,r,a⟩;simp[intOf];omega
     .have D:¬(c:Int)=82:=O9;rw[aT (λh=>l h.1),bD q]at a;have t:j<jH p j/\jH p j<=j+9:=by rw[b];split<;>omega
      clear b;generalize jH p j=s at g a t;replace a:=aL a;go_wp2;refine g.m0 ?_;go_wp2;go_roundw;exact⟨s,d,f,m,rfl,rfl,rfl,trivial,O9,O9,O9,r,a⟩;simp[intOf];omega
    .have F:d=0:=O9;subst F;rw[aT (λh=>q h.2),aT q]at a;by_cases v:c=81;.subst v;rw[bD rfl]at a;rw[aT D9]at b;cases m with
      |none=>replace a:=a;replace b:=aL b;simp only[YR];go_wp2;refine g.m0 ?_;rw[b.out];go_wp2;go_roundw;exact⟨j+1,0,f,some j,by go_num,rfl,rfl,trivial,O9,O9,O9,(λx I=>by cases I;exact o),a⟩;simp[intOf];omega
      |some k=>replace a:=a;subst a;simp only[YR];go_wp2;exact⟨rfl,rfl,rfl⟩
     .have K:¬(c:Int)=81:=O9;rw[aT v]at a;by_cases l:c=82;.subst l;rw[bD rfl]at a;subst a;cases m with
       |none=>simp only[YR];go_wp2;go_ret2;exact⟨rfl,rfl⟩
       |some k=>simp only[YR];go_wp2;go_ret2;exact⟨rfl,rfl⟩
      .have D:¬(c:Int)=82:=O9;rw[aT l]at a;have t:j<jH p j/\jH p j<=j+9:=by rw[b];split<;>omega
       clear b;generalize jH p j=s at g a t;replace a:=aL a;go_wp2;refine g.m0 ?_;go_wp2;go_roundw;exact⟨s,0,f,m,rfl,rfl,rfl,trivial,O9,O9,O9,r,a⟩;simp[intOf];omega
  .have B:E=none:=by rw[<-a.out];cases f with
    |zero=>rfl
    |succ f=>rw[pN,aT o]
   subst B;have G:¬(j:Int)<(p.length:Int):=O9;go_wp2;exact⟨rfl,rfl,rfl⟩
end
section
def YT:=@Calls.regrown_of
variable[Go.Proofs.VB]
def xz.bind{α β:Type}(r:xz α)(f:α->St->xz β):xz β:=match r with
 |.ok a s=>f a s
 |.bad e n=>.bad e n
def iD.keep{w w' b id h s}(a:iD w b id h s)(d:Below w w w'):iD w' b id h s:=by have⟨f,c,e⟩:=a.row;exact⟨⟨f,c.keep d c.lt,e⟩,a.yh,a.steps,a.Be⟩
def wm{w w'}(a:Below w.heap.size w w')(r):w.grownBy w' r:=⟨a.os,a.tape,a.output,a.size,λk b _=>a.block k b⟩
def aS.elim{α P w w' b id h}{r:xz α}{e}(i:aS P w b id h r e w'):w.grownBy w' (some b)/\((∃a s,r=.ok a s/\e=.returned (P a)/\iD w' b id h s)\/∃k n s,r=.bad k n/\e=.panicked (Mt k)/\s.steps=n/\iD w' b id h s):=by
 have⟨f,c⟩:=i;refine⟨f,?_⟩;cases r with
 |ok a s=>exact .inl ⟨a,s,rfl,c.1,c.2⟩
 |bad k n=>obtain⟨d,s,j,g⟩:=c;exact .inr ⟨k,n,s,rfl,d,j,g⟩
def aS.raise{α β P w w' b id h k n s}{r:xz α}{f:α->St->xz β}(d:r=.bad k n)(a:w.grownBy w' (some b))(e:s.steps=n)(c:iD w' b id h s):aS P w b id h (r.bind f) (.panicked (Mt k)) w':=by subst d;exact⟨a,rfl,s,e,c⟩
def lL:=@aS.raise
def aS.next{α β P w w1 w' b id h s a}{r:xz α}{f:α->St->xz β}{e}(g:r=.ok a s)(d:w.grownBy w1 (some b))(c:aS P w1 b id h (f a s) e w'):aS P w b id h (r.bind f) e w':=by subst g;exact⟨d.trans c.1,c.2⟩
def cZ:=@aS.next
def Mu(J5:List UInt8)(op:Nat)(x y:Int):Int:=if op=68 then IntKind.u64.wrap (x+y)
 else if op=69 then IntKind.u64.wrap (x -y)
 else if op=70 then IntKind.u64.wrap (x*y)
 else if op=71 then oa (x==y)
 else if op=72 then oa (decide (x<y))
 else oa (x==hN (be y 8++J5))
def FC(b):0<=oa b/\oa b<18446744073709551616:=by cases b<;>decide
def abJ(x):0<=IntKind.u64.wrap x/\IntKind.u64.wrap x<18446744073709551616:=by rw[IntKind.wrap_u64];omega
def abK(a op x y):0<=Mu a op x y/\Mu a op x y<18446744073709551616:=by
 unfold Mu;repeat' split
 all_goals first|exact abJ _|exact FC _
def iD.c0{w b id h s}(c:iD w b id h s):w.cell? (b,0)=some ↑id:=by have⟨d,a,_⟩:=c.row;exact a.cell 0
def iD.c1{w b id h s}(c:iD w b id h s):w.cell? (b,1)=some (.int .u64 h):=by have⟨d,a,_⟩:=c.row;exact a.cell 1
def iD.lt{w b id h s}(c:iD w b id h s):b<w:=by have⟨d,a,_⟩:=c.row;exact a.lt
def Mv(w b a h s)(u:iD w b (mk a) h s)(r:a.length<=1000)(op:Nat)(v:op=68\/op=69\/op=70\/op=71\/op=72\/op=75)(x y)(_hx:0<=x/\x<18446744073709551616)(m:0<=y/\y<18446744073709551616):Cv 202 #[.pointer b,.int .u8 op,.int .u64 x,.int .u64 y] w λe w'=>e=.returned (.int .u64 (Mu a op x y))/\Below w w w':=by
 have c0:=u.c0;obtain rfl|rfl|rfl|rfl|rfl|rfl:=v;iterate 3 .go_enter fA func202,ntmps202;go_wp2;go_ret;exact⟨rfl,B0⟩
 iterate 2 .go_enter fA func202,ntmps202;go_wp2;refine(Bf _ _).m0 ?_;go_wp2;go_ret;exact⟨rfl,B0⟩
 .have c:Hid (Mu a 75 x y=oa (x==hN (be y 8++a))):=rfl;have o:=λd os=>YT (pS y (Go.Sort.grow (redrawn w d) os) m.1 m.2);have k:=bT y 8;generalize be y 8=t at c o k;have E:(mk t).size=8:=by rw[dG,k]
  have D:(mk a).size<=1000:=by rw[dG];exact r
  have q:∀d os,Cv 102 #[(mk t++mk a)] (Go.Sort.grow (redrawn w d) os) λe i=>e=.returned (.int .u64 (hN (t++a)))/\∃p:Regrown,i=Go.Sort.grow (redrawn w p.d) p.os:=λd os=>by rw[Bc];exact YT ((rT (t++a) _ (by rw[bY];omega)).mono λe w' ⟨f,g⟩=>⟨f,by rw[g];exact B0⟩)
  generalize hN (t++a)=z at c q;have C:∀d os,Cv 203 #[.bool (x==z)] (Go.Sort.grow (redrawn w d) os) λe i=>e=.returned (.int .u64 (oa (x==z)))/\∃p:Regrown,i=Go.Sort.grow (redrawn w p.d) p.os:=λd os=>YT ((Bf (x==z) _).mono λe w' ⟨f,g⟩=>⟨f,by rw[g];exact B0⟩)
  replace c0:=cell_regrown c0;go_enter fA func202,ntmps202;go_wp2;refine wp_region_quiet_below FD K8 ?_;repeat(go_big_quiet_step (first|(go_at_call 122;exact o _ _)|(go_at_call 102;exact q _ _)|(go_at_call 203;exact C _ _)))
  refine wpQuiet_nil ?_;intro _ A;have⟨⟨j,n⟩,B⟩:=A;subst B;have l:=below_regrown w j n;generalize Go.Sort.grow (redrawn w j) n=w1 at l|-;go_wp2;go_ret;rw[c.out];exact⟨rfl,l⟩
def Mw(J5:List UInt8)(h:Int)(op:Nat)(s:St):xz Unit:=if op=65 then(lB s).bind λx s=>(qO x s).bind λ_ s=>qO x s
 else if op=66 then(lB s).bind λ_ s=>.ok () s
 else if op=67 then(lB s).bind λy s=>(lB s).bind λx s=>(qO y s).bind λ_ s=>qO x s
 else if op=68\/op=69\/op=70\/op=71\/op=72\/op=75 then(lB s).bind λy s=>(lB s).bind λx s=>qO (Mu J5 op x y) s
 else if op=73 then(lB s).bind λx s=>qO (oa (x==0)) s
 else if op=74 then(lB s).bind λx s=>qO (hN (be x 8)) s
 else if op=76 then(lB s).bind λx s=>if x=0 then .bad 6 s.steps else .ok () s
 else if op=77 then qO h s
 else .bad 2 s.steps
def qo{s s' x}(h:lB s=.ok x s'):s.l=x::s'.l/\s.steps=s'.steps:=by
 unfold lB at h;split at h;.cases h
 .grind
def YU(w b o h s)(l:iD w b (mk o) h s):Cv 198 #[.pointer b,.int .u8 65] w (aS jY w b (mk o) h ((lB s).bind λx s=>(qO x s).bind λ_ s=>qO x s)):=by
 go_enter fA func198,ntmps198;go_wp2;refine(kS w b _ h s l).mono ?_;intro e w1 t;obtain⟨c,⟨x,p,a,rfl,g⟩|⟨k,n,p,a,rfl,y,g⟩⟩:=t.elim;rotate_left;.exact⟨rfl,lL a c y g⟩
 have m:=l.yh x (by rw[(qo a).1];simp);go_wp2;refine(mS w1 b _ h x p g m).mono ?_;intro e w2 u;obtain⟨f,⟨_,q,d,rfl,i⟩|⟨k,n,q,d,rfl,z,i⟩⟩:=u.elim;rotate_left;.exact⟨rfl,cZ a c (lL d f z i)⟩
 go_wp2;refine(mS w2 b _ h x q i m).mono ?_;intro e w3 j;obtain⟨B,⟨_,A,v,rfl,r⟩|⟨k,n,A,v,rfl,C,r⟩⟩:=j.elim;.go_wp2;go_end0;exact cZ a c (cZ d f (j))
 .exact⟨rfl,cZ a c (cZ d f (j))⟩
def Uk(w b f h s)(g:iD w b (mk f) h s):Cv 198 #[.pointer b,.int .u8 66] w (aS jY w b (mk f) h ((lB s).bind λ_ s=>.ok () s)):=by
 go_enter fA func198,ntmps198;go_wp2;refine(kS w b _ h s g).mono ?_;intro e w1 i;obtain⟨d,⟨x,l,c,rfl,a⟩|⟨k,n,l,c,rfl,j,a⟩⟩:=i.elim;rotate_left;.exact⟨rfl,lL c d j a⟩
 go_wp2;go_end0;exact cZ c d ⟨aZ _ _,rfl,a⟩
def Ul(w b q h s)(p:iD w b (mk q) h s):Cv 198 #[.pointer b,.int .u8 67] w (aS jY w b (mk q) h ((lB s).bind λy s=>(lB s).bind λx s=>(qO y s).bind λ_ s=>qO x s)):=by
 go_enter fA func198,ntmps198;go_wp2;refine(kS w b _ h s p).mono ?_;intro e w1 z;obtain⟨d,⟨y,r,a,rfl,g⟩|⟨k,n,r,a,rfl,D,g⟩⟩:=z.elim;rotate_left;.exact⟨rfl,lL a d D g⟩
 have H:=p.yh y (by rw[(qo a).1];simp);go_wp2;refine(kS w1 b _ h r g).mono ?_;intro e w2 A;obtain⟨f,⟨x,t,c,rfl,l⟩|⟨k,n,t,c,rfl,E,l⟩⟩:=A.elim;rotate_left;.exact⟨rfl,cZ a d (lL c f E l)⟩
 have G:=g.yh x (by rw[(qo c).1];simp);go_wp2;refine(mS w2 b _ h y t l H).mono ?_;intro e w3 B;obtain⟨j,⟨_,u,i,rfl,m⟩|⟨k,n,u,i,rfl,F,m⟩⟩:=B.elim;rotate_left;.exact⟨rfl,cZ a d (cZ c f (lL i j F m))⟩
 go_wp2;refine(mS w3 b _ h x u m G).mono ?_;intro e w4 o;obtain⟨J,⟨_,I,C,rfl,v⟩|⟨k,n,I,C,rfl,K,v⟩⟩:=o.elim;.go_wp2;go_end0;exact cZ a d (cZ c f (cZ i j (o)))
 .exact⟨rfl,cZ a d (cZ c f (cZ i j (o)))⟩
def YV(w b g h s)(j:iD w b (mk g) h s):Cv 198 #[.pointer b,.int .u8 73] w (aS jY w b (mk g) h ((lB s).bind λx s=>qO (oa (x==0)) s)):=by
 go_enter fA func198,ntmps198;go_wp2;refine(kS w b _ h s j).mono ?_;intro e w1 m;obtain⟨c,⟨x,i,a,rfl,d⟩|⟨k,n,i,a,rfl,p,d⟩⟩:=m.elim;rotate_left;.exact⟨rfl,lL a c p d⟩
 unfold Dm;go_wp2;refine(Bf _ _).mono ?_;rintro e w2 ⟨rfl,rfl⟩;go_wp2;refine(mS w2 b _ h (oa (x==0)) i d (FC _)).mono ?_;intro e w3 f;obtain⟨r,⟨_,q,o,rfl,l⟩|⟨k,n,q,o,rfl,t,l⟩⟩:=f.elim;.go_wp2;go_end0;exact cZ a c (f)
 .exact⟨rfl,cZ a c (f)⟩
def Mx(w b f h s)(i:iD w b (mk f) h s):Cv 198 #[.pointer b,.int .u8 76] w (aS jY w b (mk f) h ((lB s).bind λx s=>if x=0 then .bad 6 s.steps else .ok () s)):=by
 go_enter fA func198,ntmps198;go_wp2;refine(kS w b _ h s i).mono ?_;intro e w1 j;obtain⟨d,⟨x,g,c,rfl,a⟩|⟨k,n,g,c,rfl,l,a⟩⟩:=j.elim;rotate_left;.exact⟨rfl,lL c d l a⟩
 unfold Dm;by_cases h0:x=0;.subst h0;go_wp2;exact⟨rfl,cZ c d ⟨aZ _ _,rfl,g,rfl,a⟩⟩
 .go_wp2;go_end0;refine cZ c d ?_;rw[aT h0];exact⟨aZ _ _,rfl,a⟩
def My(w b d h s)(a:iD w b (mk d) h s):Cv 198 #[.pointer b,.int .u8 77] w (aS jY w b (mk d) h (qO h s)):=by
 have c1:=a.c1;go_enter fA func198,ntmps198;go_wp2;refine(mS w b _ h h s a a.Be).mono ?_;intro e w1 c;obtain⟨j,⟨_,i,g,rfl,f⟩|⟨k,n,i,g,rfl,l,f⟩⟩:=c.elim;.go_wp2;go_end0;exact c
 .trivial
def tD(w b c h s)(t:iD w b (mk c) h s)(A:c.length<=1000)(op:Nat)(D:op=68\/op=69\/op=70\/op=71\/op=72\/op=75):Cv 198 #[.pointer b,.int .u8 op] w (aS jY w b (mk c) h ((lB s).bind λy s=>(lB s).bind λx s=>qO (Mu c op x y) s)):=by
 obtain rfl|rfl|rfl|rfl|rfl|rfl:=D;all_goals
  go_enter fA func198,ntmps198;go_wp2;refine(kS w b _ h s t).mono ?_;intro e w1 E;obtain⟨i,⟨y,u,a,rfl,j⟩|⟨k,n,u,a,rfl,H,j⟩⟩:=E.elim;rotate_left;.go_wp2;exact⟨rfl,lL a i H j⟩
  have K:=t.yh y (by rw[(qo a).1];simp);unfold Dm;go_wp2;refine(kS w1 b _ h u j).mono ?_;intro e w2 F;obtain⟨m,⟨x,p,f,rfl,l⟩|⟨k,n,p,f,rfl,I,l⟩⟩:=F.elim;rotate_left;.go_wp2;exact⟨rfl,cZ a i (lL f m I l)⟩
  have J:=j.yh x (by rw[(qo f).1];simp);unfold Dm;go_wp2;refine(Mv w2 b c h p l A _ D9 x y J K).m1 λw3 q=>?_;have B:=l.keep q;have r:=(wm q (some b));generalize g:Mu c _ x y=z;have v:0<=z/\z<18446744073709551616:=by rw[<-g];exact abK ..
  replace g:=aL g;go_wp2;refine(mS w3 b _ h z p B v).mono ?_;intro e w4 d;obtain⟨M,⟨_,L,G,rfl,C⟩|⟨k,n,L,G,rfl,N,C⟩⟩:=d.elim;.unfold jY;go_wp2;go_end0;have o:=g.out;subst o;exact cZ a i (cZ f m ⟨r.trans d.1,d.2⟩)
  .go_wp2;have o:=g.out;subst o;exact⟨rfl,cZ a i (cZ f m ⟨r.trans d.1,d.2⟩)⟩
def Um(w b v h s)(r:iD w b (mk v) h s):Cv 198 #[.pointer b,.int .u8 74] w (aS jY w b (mk v) h ((lB s).bind λx s=>qO (hN (be x 8)) s)):=by
 go_enter fA func198,ntmps198;go_wp2;refine(kS w b _ h s r).mono ?_;intro e w1 C;obtain⟨i,⟨x,y,c,rfl,j⟩|⟨k,n,y,c,rfl,E,j⟩⟩:=C.elim;rotate_left;.exact⟨rfl,lL c i E j⟩
 have u:=r.yh x (by rw[(qo c).1];simp);go_wp2;refine(pS x w1 u.1 u.2).mono ?_;rintro e w2 ⟨rfl,o⟩;have g:=rT (be x 8) w2 (by rw[bT];omega);have p:=Fi (be x 8);generalize d:hN (be x 8)=z at g p|-;replace d:=aL d;generalize f:be x 8=t at g d|-;replace f:=aL f;go_wp2;refine g.mono ?_;rintro e w3 ⟨rfl,rfl⟩;have A:=j.keep o;have q:=(wm o (some b));go_wp2;refine(mS w3 b _ h z y A p).mono ?_;intro e w4 a;obtain⟨G,⟨_,F,D,rfl,B⟩|⟨k,n,F,D,rfl,H,B⟩⟩:=a.elim;.go_wp2;go_end0;have m:=d.out;have l:=f.out;subst m l;exact cZ c i ⟨q.trans a.1,a.2⟩
 .have m:=d.out;have l:=f.out;subst m l;exact⟨rfl,cZ c i ⟨q.trans a.1,a.2⟩⟩
def Un(w b a h s)(c:iD w b (mk a) h s)(op:Nat)(d:op<65\/77<op)(_hl:op<256):Cv 198 #[.pointer b,.int .u8 op] w (aS jY w b (mk a) h (.bad 2 s.steps)):=by
 go_enter fA func198,ntmps198;go_wp2;exact⟨rfl,aZ _ _,rfl,s,rfl,c⟩
def YW(w b a h s)(c:iD w b (mk a) h s)(d:a.length<=1000)(op:Nat)(g:op<256):Cv 198 #[.pointer b,.int .u8 op] w (aS jY w b (mk a) h (Mw a h op s)):=by
 by_cases i:op<65\/77<op
 .have e:Mw a h op s=.bad 2 s.steps:=by unfold Mw;rw[aT O9,aT O9,aT O9,aT O9,aT O9,aT O9,aT O9,aT O9]
  rw[e];exact Un w b a h s c op i g
 .have f:op=65\/op=66\/op=67\/op=68\/op=69\/op=70\/op=71\/op=72\/op=73\/op=74\/op=75\/op=76\/op=77:=O9;obtain rfl|rfl|rfl|rfl|rfl|rfl|rfl|rfl|rfl|rfl|rfl|rfl|rfl:=f;.exact YU w b a h s c
  .exact Uk w b a h s c
  .exact Ul w b a h s c
  .exact tD w b a h s c d 68 D9
  .exact tD w b a h s c d 69 D9
  .exact tD w b a h s c d 70 D9
  .exact tD w b a h s c d 71 D9
  .exact tD w b a h s c d 72 D9
  .exact YV w b a h s c
  .exact Um w b a h s c
  .exact tD w b a h s c d 75 D9
  .exact Mx w b a h s c
  .exact My w b a h s c
end
section
variable[Go.Proofs.VB]
def nR (d : Nat -> St -> xz Nat) (to : Nat) : Nat -> Nat -> St -> xz Unit
 | 0, _, s => .ok () s
 | k + 1, i, s => if i < to then (d i s).bind λ j s' => nR d to k j s' else .ok () s
def uA(d:Nat->St->xz Nat)(p:List UInt8)(i:Nat)(s:St):xz Nat:=match pN p p.length (i+1) 0 none with
 |none=>.bad 5 s.steps
 |some (m,e)=>(lB s).bind λx s=>if x≠0 then(nR d m (m -(i+1)) (i+1) s).bind λ_ s=>(wq s).bind λ_ s=>.ok (e+1) s
   else if m<e then(nR d e (e -(m+1)) (m+1) s).bind λ_ s=>(wq s).bind λ_ s=>.ok (e+1) s
   else .ok (e+1) s
def doB(J5:List UInt8)(h:Int)(p:List UInt8)(d:Nat->St->xz Nat)(i:Nat)(s:St):xz Nat:=(wq s).bind λ_ s=>if opAt p i<64 then(qO (opAt p i) s).bind λ_ s=>.ok (i+1) s
   else if opAt p i=64 then(if i+9<=p.length then(qO (wZ p i) s).bind λ_ s=>.ok (i+9) s else .bad 2 s.steps)
   else if opAt p i=80 then uA d p i s
   else if opAt p i=81\/opAt p i=82 then .bad 5 s.steps
   else(Mw J5 h (opAt p i) s).bind λ_ s=>.ok (i+1) s
def doM(J5:List UInt8)(h:Int)(p:List UInt8):Nat->Nat->St->xz Nat
 |0=>λ_ s=>.bad 99 s.steps
 |n+1=>doB J5 h p (doM J5 h p n)
def DJ(p):∀f i d a m e,pN p f i d a=some (m,e)->(∀x,a=some x->x<i)->m<=e/\e<p.length/\i<=e/\(∀x,a=some x->m=x)/\(a=none->i<=m)
 |0,i,d,a,m,e,h,_=>by simp[pN]at h
 |f+1,i,d,a,m,e,h,c=>by
   have g:i<jH p i:=by unfold jH;split<;>omega
   have step:∀j d',i<j->pN p f j d' a=some (m,e)->m<=e/\e<p.length/\i<=e/\(∀x,a=some x->m=x)/\(a=none->i<=m):=λj d' r k=>by have:=DJ p f j d' a m e k (λx b=>by have:=c x b;omega);exact⟨this.1,this.2.1,O9,this.2.2.2.1,λh0=>by have:=this.2.2.2.2 h0;omega⟩
   rw[pN]at h;split at h
   .rename_i s;split at h;.grind
    .split at h;.grind
     .split at h;.grind
      .split at h
       .split at h;.cases h
        .rename_i n;have l:a=none:=by cases a with
          |none=>rfl
          |some x=>exact absurd rfl n
         have:=DJ p f _ _ _ _ _ h (λx b=>by cases b;omega);have q:=this.2.2.2.1 i rfl;exact⟨this.1,this.2.1,O9,(λx b=>by rw[l]at b;cases b),λ_=>by omega⟩
       .split at h;.cases a with
         |none=>simp only[Option.getD_none,gW,Kt]at h;exact⟨O9,O9,O9,(λx b=>by cases b),λ_=>by omega⟩
         |some x=>simp only[oF,gW,Kt]at h;have:=c x rfl;exact⟨O9,O9,O9,(λy o=>by cases o;omega),λh0=>by cases h0⟩
        .exact step _ _ g h
   .cases h
def Mz(n:Nat):Value:=.int .i64 n
def FE (p b f h) (d : Nat -> St -> xz Nat) (i to s w) (_hp : to <= 1000) (z : i <= 2000)
 (y : ∀ (j : Nat) (s : St) (w : World), i <= j -> j < to -> iD w b (mk f) h s -> Cv 193 #[.pointer b, (mk p), j] w (aS Mz w b (mk f) h (d j s)))
 (aY : ∀ j s c s', i <= j -> j < to -> d j s = .ok c s' -> j < c /\ c <= 2000) (m : iD w b (mk f) h s) :
 Cv 191 #[.pointer b, (mk p), i, to] w (aS jY w b (mk f) h (nR d to (to - i) i s)) := by
 generalize a : nR d to (to - i) i s = E
 go_enter fA func191, ntmps191
 go_wp2
 go_loopw [8] (λ v wr => ∃ (j k : Nat) (s' : St), v = ↑j /\ iD wr b (mk f) h s' /\ w.grownBy wr (some b) /\ i <= j /\ j <= 2000 /\ to <= j + k /\ Hid (nR d to k j s' = E)) (λ v _ => 2001 - (intOf v).toNat)
 exact ⟨i, to - i, s, rfl, m, aZ _ _, O9, z, O9, a⟩
 case round =>
  obtain ⟨j, k, s', rfl, m, r, x, F, G, a⟩ := hrel
  by_cases l : j < to
  ·obtain ⟨k, rfl⟩ : ∃ k', k = k' + 1 := ⟨k - 1, O9⟩
   rw [nR, bD l] at a
   replace a := aL a
   go_wp2
   refine (y j s' wr x l m).mono ?_
   intro e w1 A
   obtain ⟨u, ⟨c, q, o, rfl, t⟩ | ⟨k', n, q, o, rfl, B, t⟩⟩ := A.elim
   ·have ⟨C, D⟩ := aY j s' c q x l o
    have g : Hid (nR d to k c q = E) := by unfold Hid; rw [<- a.out, o]; rfl
    unfold Mz
    go_wp2
    go_roundw
    exact ⟨c, k, q, rfl, t, r.trans u, O9, O9, O9, g⟩
    simp [intOf]; omega
   ·have g := a.out
    subst g
    exact ⟨rfl, lL o (r.trans u) B t⟩
  ·have H : ¬ (j : Int) < (to : Int) := O9
   have g : E = .ok () s' := by
    rw [<- a.out]
    cases k with
    | zero => rfl
    | succ k => rw [nR, aT l]
   go_wp2
   go_end0
   exact ⟨r, rfl, m⟩
def Py(p b y h)(d:Nat->St->xz Nat)(i s w)(μ:p.length<=1000)(hi:i<p.length)(P:∀(j:Nat) (s:St) (w:World),i+1<=j->j<p.length->iD w b (mk y) h s->Cv 193 #[.pointer b,(mk p),j] w (aS Mz w b (mk y) h (d j s)))
 (aY:∀j s v s',j<p.length->d j s=.ok v s'->j<v/\v<=2000)(Q:iD w b (mk y) h s):
 Cv 197 #[.pointer b,(mk p),i] w (aS Mz w b (mk y) h (uA d p i s)):=by
 have J:=DJ p p.length (i+1) 0 none;have a:Hid (uA d p i s=match pN p p.length (i+1) 0 none with
  |none=>.bad 5 s.steps
  |some (m,e)=>(lB s).bind λx s=>if x≠0 then(nR d m (m -(i+1)) (i+1) s).bind λ_ s=>(wq s).bind λ_ s=>.ok (e+1) s
    else if m<e then(nR d e (e -(m+1)) (m+1) s).bind λ_ s=>(wq s).bind λ_ s=>.ok (e+1) s
    else .ok (e+1) s):=rfl
 generalize uA d p i s=R at a|-;have F:=YS p i w hi μ;generalize pN p p.length (i+1) 0 none=E at J F a;cases E with
 |none=>go_enter fA func197,ntmps197;go_wp2;refine F.mono ?_;rintro e w1 ⟨rfl,rfl⟩;go_wp2;refine⟨rfl,?_⟩;rw[a.out];exact⟨aZ _ _,rfl,s,rfl,Q⟩
 |some me=>
   have⟨m,n⟩:=me;replace a:Hid (R=(lB s).bind λx s=>if x≠0 then(nR d m (m -(i+1)) (i+1) s).bind λ_ s=>(wq s).bind λ_ s=>.ok (n+1) s
    else if m<n then(nR d n (n -(m+1)) (m+1) s).bind λ_ s=>(wq s).bind λ_ s=>.ok (n+1) s
    else .ok (n+1) s):=a
   have⟨b1,b2,b3,_,O⟩:=J m n rfl (λx u=>by cases u);replace O:=O rfl;clear J;go_enter fA func197,ntmps197;go_wp2;refine F.mono ?_;rintro e w0 ⟨rfl,rfl⟩;clear F;go_wp2;refine(kS w0 b _ h s Q).mono ?_;intro e w1 S;obtain⟨g,⟨x,M,c,rfl,A⟩|⟨k,n,M,c,rfl,V,A⟩⟩:=S.elim;rotate_left;.go_wp2;refine⟨rfl,?_⟩;rw[a.out];exact lL c g V A
   clear S;unfold Dm;by_cases u:x=0
   .subst u;by_cases G:m<n
    .have T:(m:Int)<(n:Int):=O9;go_wp2;refine(FE p b y h d (m+1) n M w1 O9 O9 (λj s w H I l=>P j s w O9 O9 l) (λj s v s' H I l=>aY j s v s' O9 l) A).mono ?_;intro e w2 B;obtain⟨o,⟨_,D,f,rfl,q⟩|⟨k,n,D,f,rfl,K,q⟩⟩:=B.elim;rotate_left;.go_wp2;refine⟨rfl,?_⟩;rw[a.out];refine cZ c g ?_;simp only[xJ,Ku,ze,bD G];exact lL f o K q
     clear B;unfold jY;go_wp2;refine(Bh w2 b _ h D q).mono ?_;intro e w3 C;obtain⟨z,⟨_,N,t,rfl,r⟩|⟨k,n,N,t,rfl,L,r⟩⟩:=C.elim;rotate_left;.go_wp2;refine⟨rfl,?_⟩;rw[a.out];refine cZ c g ?_;simp only[xJ,Ku,ze,bD G];exact cZ f o (lL t z L r)
     clear C;unfold jY;go_wp2;go_ret;rw[a.out];refine cZ c g ?_;simp only[xJ,Ku,ze,bD G];exact cZ f o (cZ t z ⟨aZ _ _,rfl,r⟩)
    .have T:¬(m:Int)<(n:Int):=O9;go_wp2;go_ret;rw[a.out];refine cZ c g ?_;simp only[xJ,Ku,ze,aT G];exact⟨aZ _ _,rfl,A⟩
   .have W:(x !=0)=true:=by simpa using u
    go_wp2;refine(FE p b y h d (i+1) m M w1 O9 O9 (λj s w H I l=>P j s w O9 O9 l) (λj s v s' H I l=>aY j s v s' O9 l) A).mono ?_;intro e w2 B;obtain⟨o,⟨_,D,f,rfl,q⟩|⟨k,n,D,f,rfl,K,q⟩⟩:=B.elim;rotate_left;.go_wp2;refine⟨rfl,?_⟩;rw[a.out];refine cZ c g ?_;simp only[xJ,u,Kv,vG];exact lL f o K q
    clear B;unfold jY;go_wp2;refine(Bh w2 b _ h D q).mono ?_;intro e w3 C;obtain⟨z,⟨_,N,t,rfl,r⟩|⟨k,n,N,t,rfl,L,r⟩⟩:=C.elim;rotate_left;.go_wp2;refine⟨rfl,?_⟩;rw[a.out];refine cZ c g ?_;simp only[xJ,u,Kv,vG];exact cZ f o (lL t z L r)
    clear C;unfold jY;go_wp2;go_ret;rw[a.out];refine cZ c g ?_;simp only[xJ,u,Kv,vG];exact cZ f o (cZ t z ⟨aZ _ _,rfl,r⟩)
def qa{α β}{r:xz α}{f}{b:β}{s'}(h:r.bind f=.ok b s'):∃a s,r=.ok a s/\f a s=.ok b s':=by cases r with
 |ok a s=>exact⟨a,s,rfl,h⟩
 |bad e n=>cases h
def Uo(d:Nat->St->xz Nat)(p i s j s')(h:uA d p i s=.ok j s'):i<j/\j<=p.length:=by
 unfold uA at h;split at h;.cases h
 .rename_i m e a;have g:=DJ p p.length (i+1) 0 none m e a (λx b=>by cases b);have⟨x,l,_,h⟩:=qa h;have k:j=e+1:=by
   split at h;.have⟨_,c,_,h⟩:=qa h;have⟨_,f,_,h⟩:=qa h;cases h;rfl
   .split at h;.have⟨_,c,_,h⟩:=qa h;have⟨_,f,_,h⟩:=qa h;cases h;rfl
    .simp_all
  omega
def aeD(c h p)(d:Nat->St->xz Nat)(i s j s')(hi:i<p.length)(a:doB c h p d i s=.ok j s'):i<j/\j<=p.length:=by
 have⟨_,e,_,a⟩:=qa a;split at a;.have⟨_,b,_,a⟩:=qa a;cases a;omega
 .split at a
  .split at a;.have⟨_,b,_,a⟩:=qa a;cases a;omega
   .cases a
  .split at a;.exact Uo d p i e j s' a
   .split at a;.cases a
    .have⟨_,b,_,a⟩:=qa a;cases a;omega
def YX(b h p n i s j s')(hi:i<p.length)(a:doM b h p n i s=.ok j s'):i<j/\j<=p.length:=by cases n with
 |zero=>cases a
 |succ n=>exact aeD b h p _ i s j s' hi a
def abL(p b o h)(d:Nat->St->xz Nat)(i s w)(D:p.length<=1000)(hi:i<p.length)(T:o.length<=1000)(S:∀(j:Nat) (s:St) (w:World),i+1<=j->j<p.length->iD w b (mk o) h s->Cv 193 #[.pointer b,(mk p),j] w (aS Mz w b (mk o) h (d j s)))
 (aY:∀j s J s',j<p.length->d j s=.ok J s'->j<J/\J<=2000)(μ:iD w b (mk o) h s):
 Cv 193 #[.pointer b,(mk p),i] w (aS Mz w b (mk o) h (doB o h p d i s)):=by
 have a:Hid (doB o h p d i s=(wq s).bind λ_ s=>if opAt p i<64 then(qO (opAt p i) s).bind λ_ s=>.ok (i+1) s
  else if opAt p i=64 then(if i+9<=p.length then(qO (wZ p i) s).bind λ_ s=>.ok (i+9) s else .bad 2 s.steps)
  else if opAt p i=80 then uA d p i s
  else if opAt p i=81\/opAt p i=82 then .bad 5 s.steps
  else(Mw o h (opAt p i) s).bind λ_ s=>.ok (i+1) s):=rfl
 have af:=dG p;have f:jH p i=if opAt p i=64 then i+9 else i+1:=rfl;have N:=pJ p i (i:Int) rfl hi;have W:opAt p i=(p.getD i 0).toNat:=rfl;rw[<-W]at N;have L:=Sa p i;have v:=λw V=>Px p i w hi D V;generalize doB o h p d i s=R at a|-;generalize opAt p i=c at N a f L v;go_enter fA func193,ntmps193;go_wp2;refine(Bh w b _ h s μ).mono ?_;intro e w1 X;obtain⟨l,⟨_,x,g,rfl,q⟩|⟨k,n,x,g,rfl,π,q⟩⟩:=X.elim;rotate_left;.go_wp2;refine⟨rfl,?_⟩;rw[a.out];exact lL g l π q
 unfold jY;by_cases m:c<64
 .have O:(c:Int)<64:=O9;rw[aT O9]at f;replace f:=aL f;go_wp2;refine(mS w1 b _ h c x q O9).mono ?_;intro e w2 y;obtain⟨A,⟨_,E,t,rfl,r⟩|⟨k,n,E,t,rfl,F,r⟩⟩:=y.elim;rotate_left;.go_wp2;refine⟨rfl,?_⟩;rw[a.out];refine cZ g l ?_;rw[bD m];exact lL t A F r
  unfold jY;go_wp2;refine(qN p i w2 hi D).mono ?_;rintro e w3 ⟨rfl,rfl⟩;rw[f.out];go_wp2;go_ret;rw[a.out];refine cZ g l ?_;rw[bD m];exact cZ t A ⟨aZ _ _,rfl,r⟩
 have O:¬(c:Int)<64:=O9;by_cases u:c=64
 .subst u;rw[bD rfl]at f;replace f:=aL f;replace v:=λw=>v w rfl;have K:=Pw p i;by_cases C:i+9<=p.length
  .simp only[bD C]at v;generalize G:wZ p i=z at v K;replace G:=aL G;go_wp2;refine(v _).mono ?_;rintro e w2 ⟨rfl,rfl⟩;go_wp2;refine(mS w2 b _ h z x q K).mono ?_;intro e w3 Y;obtain⟨M,⟨_,ab,I,rfl,H⟩|⟨k,n,ab,I,rfl,aa,H⟩⟩:=Y.elim;rotate_left;.go_wp2;refine⟨rfl,?_⟩;rw[a.out,G.out];refine cZ g l ?_;rw[aT m,bD (by trivial),bD C];exact lL I M aa H
   go_wp2;refine(qN p i w3 hi D).mono ?_;rintro e w4 ⟨rfl,rfl⟩;rw[f.out];go_wp2;go_ret;rw[a.out,G.out];refine cZ g l ?_;rw[aT m,bD (by trivial),bD C];exact cZ I M ⟨aZ _ _,rfl,H⟩
  .simp only[aT C]at v;go_wp2;refine(v _).mono ?_;rintro e w2 ⟨rfl,rfl⟩;go_wp2;refine⟨rfl,?_⟩;rw[a.out];refine cZ g l ?_;rw[aT m,bD (by trivial),aT C];exact⟨aZ _ _,rfl,x,rfl,q⟩
 rw[aT u]at f;replace f:=aL f;by_cases B:c=80
 .subst B;go_wp2;refine(Py p b o h d i x w1 D hi S aY q).mono ?_;intro e w2 y;obtain⟨A,⟨j,E,t,rfl,r⟩|⟨k,n,E,t,rfl,F,r⟩⟩:=y.elim;.unfold Mz;go_wp2;go_ret;rw[a.out];refine cZ g l ?_;rw[aT m,aT u,bD (by trivial)];exact y
  .go_wp2;refine⟨rfl,?_⟩;rw[a.out];refine cZ g l ?_;rw[aT m,aT u,bD (by trivial)];exact y
 by_cases P:c=81;.subst P;go_wp2;refine⟨rfl,?_⟩;rw[a.out];refine cZ g l ?_;rw[aT m,aT u,aT B,bD D9];exact⟨aZ _ _,rfl,x,rfl,q⟩
 by_cases Q:c=82;.subst Q;go_wp2;refine⟨rfl,?_⟩;rw[a.out];refine cZ g l ?_;rw[aT m,aT u,aT B,bD D9];exact⟨aZ _ _,rfl,x,rfl,q⟩
 have ae:((c:Int)==81)=false:=by simpa using(by omega:¬(c:Int)=81)
 go_wp2;refine(YW w1 b o h x q T c L).mono ?_;intro e w2 y;obtain⟨A,⟨_,E,t,rfl,r⟩|⟨k,n,E,t,rfl,F,r⟩⟩:=y.elim;rotate_left;.go_wp2;refine⟨rfl,?_⟩;rw[a.out];refine cZ g l ?_;rw[aT m,aT u,aT B,aT O9];exact lL t A F r
 go_wp2;refine(qN p i w2 hi D).mono ?_;rintro e w3 ⟨rfl,rfl⟩;rw[f.out];go_wp2;go_ret;rw[a.out];refine cZ g l ?_;rw[aT m,aT u,aT B,aT O9];exact cZ t A ⟨aZ _ _,rfl,r⟩
def YY(p b a h)(f:p.length<=1000)(e:a.length<=1000):∀(n i:Nat) (s:St) (w:World),i<p.length->p.length<=i+n->iD w b (mk a) h s->Cv 193 #[.pointer b,(mk p),i] w (aS Mz w b (mk a) h (doM a h p n i s))
 |0,i,s,w,hi,l,_=>by omega
 |n+1,i,s,w,hi,l,k=>abL p b a h (doM a h p n) i s w f hi e (λj s w d c g=>YY p b a h f e n j s w c O9 g) (λj s m s' d c=>by have:=YX a h p n j s m s' d c;omega) k
def runM(J5:List UInt8)(h:Int)(p:List UInt8)(s:St):xz Unit:=nR (doM J5 h p p.length) p.length p.length 0 s
def Sc(p b a h s w)(f:p.length<=1000)(l:a.length<=1000)(m:iD w b (mk a) h s):Cv 179 #[.pointer b,(mk p)] w (aS jY w b (mk a) h (runM a h p s)):=by
 go_enter fA func179,ntmps179;go_wp2;have q:=FE p b a h (doM a h p p.length) 0 p.length s w f O9 (λj s w i c d=>YY p b a h f l p.length j s w c O9 d) (λj s t s' i c d=>by have:=YX a h p p.length j s t s' c d;omega) m;refine q.mono ?_;intro e w1 g;obtain⟨v,⟨_,u,r,rfl,o⟩|⟨k,n,u,r,rfl,x,o⟩⟩:=g.elim;.go_wp2;go_end0;exact g
 .trivial
def CM(key lock J5:List UInt8)(h:Int):Bool:=decide (32<key.length\/32<lock.length\/J5.length≠8\/h<0)
def YZ(key lock a h w)(b:CM key lock a h=true):Cv 178 #[(mk key),(mk lock),(mk a),h] w λe w'=>e=.panicked (Mt 1)/\w'=w:=by
 have c:=dG key;have d:=dG lock;have f:=dG a;go_enter fA func178,ntmps178;go_wp2;all_goals first|exact⟨rfl,rfl,rfl⟩|(exfalso;unfold CM at b;rw[decide_eq_true_eq]at b;omega)
def Uq(key lock a h w)(b:CM key lock a h=false):Cv 178 #[(mk key),(mk lock),(mk a),h] w λe w'=>e=.returned (.tuple #[])/\w'=w:=by
 have f:=dG key;have g:=dG lock;have i:=dG a;unfold CM at b;rw[Wh]at b;have c:decide ((key.length:Int)>32)=false:=by simp;omega
 have d:decide ((lock.length:Int)>32)=false:=by simp;omega
 go_enter fA func178,ntmps178;go_wp2;go_end0;exact⟨rfl,rfl⟩
def allM(key lock J5:List UInt8)(h:Int):xz Unit:=(runM J5 h key ⟨0,[]⟩).bind λ_ s=>(runM J5 h lock s).bind λ_ s=>abM s
def nS(key lock J5:List UInt8)(h:Int):xz Unit:=if CM key lock J5 h then .bad 1 0 else allM key lock J5 h
def adD(w:World)(b:Nat)(r:xz Unit)(e:Ending)(w':World):Prop:=w.grownBy w' (some b)/\match r with
 |.ok _ s=>e=.returned (.tuple #[])/\w'.cell? ⟨b,2,none⟩=some (.int .i64 s.steps)
 |.bad k n=>e=.panicked (Mt k)/\w'.cell? ⟨b,2,none⟩=some (.int .i64 n)
def iD.c2{w b id h s}(c:iD w b id h s):w.cell? (b,2)=some ↑s.steps:=by have⟨d,a,_⟩:=c.row;exact a.cell 2
def aS.work{w w1 w' b id h r e}(g:w.grownBy w1 (some b))(d:aS jY w1 b id h r e w'):adD w b r e w':=by refine⟨g.trans d.1,?_⟩;have c:=d.2;cases r with
 |ok a s=>exact⟨c.1,c.2.c2⟩
 |bad k n=>obtain⟨f,s,j,i⟩:=c;exact⟨f,by rw[<-j];exact i.c2⟩
def Sd:=@aS.work
structure Var(w:World)(b g:Nat)(v:Value):Prop where
 ne:g≠b
 row:∃t,Row w g t [v]
def Var.cell{w b g v}(h:Var w b g v):w.cell? (g,0)=some v:=by have⟨t,a⟩:=h.row;exact a.cell 0
def Var.sP{w w' b g v}(h:Var w b g v)(c:w.grownBy w' (some b)):Var w' b g v:=by have⟨t,a⟩:=h.row;exact⟨h.ne,t,(c.block g a.lt (λe=>h.ne (by cases e;rfl))).trans a⟩
def Y3(key lock a h l y gi gh b w)(Q:h<9223372036854775808)(p:iD w b ⟨#[]⟩ 0 ⟨0,[]⟩)(x:Var w b l (mk key))(c:Var w b y (mk lock))(O:Var w b gi (mk a))(N:Var w b gh (.int .i64 h)):
 Cv 177 #[.pointer l,.pointer y,.pointer gi,.pointer gh,.pointer b] w (adD w b (nS key lock a h)):=by
 have o:Hid (nS key lock a h=if CM key lock a h then .bad 1 0 else allM key lock a h):=rfl;generalize nS key lock a h=R at o|-;have ck:=x.cell;have cl:=c.cell;have ci:=O.cell;have F:=N.cell;cases g:CM key lock a h with
 |true=>go_enter fA func177,ntmps177;go_wp2;refine(YZ key lock a h w g).mono ?_;rintro e w1 ⟨rfl,rfl⟩;go_wp2;refine⟨rfl,?_⟩;rw[o.out,bD g];exact⟨aZ _ _,rfl,p.c2⟩
 |false=>
   have m:Hid (R=(runM a h key ⟨0,[]⟩).bind λ_ s=>(runM a h lock s).bind λ_ s=>abM s):=by unfold Hid;rw[o.out,g];rfl
   clear o;have z:=g;unfold CM at z;rw[Wh]at z;have⟨L,d,G⟩:=p.row;have c0:=d.r 0;have c1:=d.r 1;have f0:=d.frozen 0;have f1:=d.frozen 1;have T:IntKind.u64.wrap h=h:=by rw[IntKind.wrap_u64];omega
   have μ:¬l=b:=x.ne;have V:¬b=l:=λe=>x.ne e.symm;go_enter fA func177,ntmps177;go_wp2;refine(Uq key lock a h w g).mono ?_;rintro e w1 ⟨rfl,rfl⟩;go_wp2;have f:w1.grownBy ((w1.setCell (b,0) (mk a)).setCell (b,1) (.int .u64 h)) (some b):=(qp _ _ _ _).trans (qp _ _ _ _);have A:iD ((w1.setCell (b,0) (mk a)).setCell (b,1) (.int .u64 h)) b (mk a) h ⟨0,[]⟩:=⟨⟨L,(d.set 0 (mk a)).set 1 (.int .u64 h),G⟩,p.yh,p.steps,O9⟩
   replace c:=c.sP f;generalize(w1.setCell ⟨b,0,none⟩ (mk a)).setCell ⟨b,1,none⟩ (.int .u64 h)=w2 at f A c|-;clear ck cl ci F c0 c1 f0 f1 d;refine(Sc key b a h ⟨0,[]⟩ w2 O9 O9 A).mono ?_;intro e w3 B;obtain⟨i,⟨_,D,j,rfl,t⟩|⟨k,n,D,j,rfl,J,t⟩⟩:=B.elim;rotate_left;.go_wp2;refine⟨rfl,?_⟩;rw[m.out];exact Sd f (lL j i J t)
   clear B;replace c:=c.sP i;have cl:=c.cell;unfold jY;go_wp2;refine(Sc lock b a h D w3 O9 O9 t).mono ?_;intro e w4 C;obtain⟨r,⟨_,E,q,rfl,u⟩|⟨k,n,E,q,rfl,K,u⟩⟩:=C.elim;rotate_left;.go_wp2;refine⟨rfl,?_⟩;rw[m.out];exact Sd f (cZ j i (lL q r K u))
   clear C;unfold jY;go_wp2;refine(Y4 w4 b _ h E u).mono ?_;intro e W v;obtain⟨P,⟨_,M,I,rfl,H⟩|⟨k,n,M,I,rfl,S,H⟩⟩:=v.elim;.unfold jY;go_wp2;go_end0;rw[m.out];exact Sd f (cZ j i (cZ q r v))
   .go_wp2;refine⟨rfl,?_⟩;rw[m.out];exact Sd f (cZ j i (cZ q r v))
def aeE(p x k w)(d:w.cell? p=some (.int .i64 x))(g:w.frozen? p=false):CallsD Vp 190 #[.pointer (some p)] (.panicking (Mt k)) w λe c w'=>e=.returned (.tuple #[])/\c=.panicking [{v:=.iface 45 k,recovered:=true}]/\w'=w.setCell p k:=by
 have f:∀w,(Instr.typeAssert (.iface 45 k) 20 45 false).run Vp w=.ok k w:=λ_=>by kernel_rfl
 refine callsD_of_wpS (fA func190) rfl λa cs b=>?_;apply wpS_seq;apply wpS_region;simp[wpOpsS,go_sem,recoverD,b];refine wpS_of_wp ?_;go_wp2;cases a;simp_all[bodyPostS,results]
def MA(p w):CallsD Vp 190 #[.pointer (some p)] .returning w λe c w'=>e=.returned (.tuple #[])/\c=.returning/\w'=w:=by
 refine callsD_of_wpS (fA func190) rfl λa cs b=>?_;apply wpS_seq;apply wpS_region;simp[wpOpsS,go_sem,recoverD,b];refine wpS_of_wp ?_;go_wp2;cases a;simp_all[bodyPostS,results]
def yn(r:xz Unit):Int×Nat:=match r with
 |.ok _ s=>(0,s.steps)
 |.bad k n=>(k,n)
def Pz(key lock g h l m gi gh b w)(D:h<9223372036854775808)(t:iD w b ⟨#[]⟩ 0 ⟨0,[]⟩)(J:Var w b l (mk key))(K:Var w b m (mk lock))(I:Var w b gi (mk g))(H:Var w b gh (.int .i64 h)):
 Cv 176 #[.func (.func 177) #[] #[.pointer l,.pointer m,.pointer gi,.pointer gh,.pointer b]] w λe w'=>e=.returned ((yn (nS key lock g h)).1)/\w'.cell? (b,2)=some (↑(yn (nS key lock g h)).2)/\w.grownBy w' (some b):=by
 have M:∀fn first cap w,(Instr.makeFunc fn first cap).run Vp w=.ok (.func fn first cap) w:=λ_ _ _ _=>rfl;go_enter_defers fA func176,ntmps176;go_wp2;have o:Below w.heap.size w (w.alloc (.cells #[aA] 45)):=B0.alloc L9 _;have a:=aU w [aA] 45;change Row (w.alloc (.cells #[aA] 45)) _ _ _ at a;have p:b≠w.heap.size:=by have:=t.lt;omega
 have c:=wm o (some b);have v:=t.keep o;have z:=J.sP c;have A:=K.sP c;have y:=I.sP c;have x:=H.sP c;generalize w.alloc (.cells #[aA] 45)=X at o a v z A y x c|-;obtain⟨E,d⟩:∃E,E=w.heap.size:=⟨_,rfl⟩;rw[<-d]at a p|-;replace d:=aL d;refine(Y3 key lock g h l m gi gh b X D v z A y x).mono ?_;intro e w1 F;have⟨q,i⟩:=F;replace a:=(q.block E a.lt (λe=>p (by cases e;rfl))).trans a;replace a:Row w1 E 45 [aA]:=a;have B:=a.r 0;have C:=a.frozen 0;have r:=c.trans q;cases j:nS key lock g h with
 |ok u s=>rw[j]at i;obtain⟨rfl,c2⟩:=i;replace c2:=aL c2;have c3:=(a.set 0 ↑aA).r 0;go_wp2;refine qu (f:=190) (args:=#[.pointer (some ⟨E,0,none⟩)]) S8 (by simp[go_sem]) ?_;refine(MA ⟨E,0,none⟩ _).mono ?_;rintro e G L ⟨rfl,rfl,rfl⟩;simp[Leaves,settle,results,results176,go_sem,c3];rw[j];exact⟨rfl,c2.out,Bi r E (.inr (nL d.out.symm)) 0 _⟩
 |bad k n=>rw[j]at i;obtain⟨rfl,c2⟩:=i;replace c2:=aL c2;go_wp2;refine qu (f:=190) (args:=#[.pointer (some ⟨E,0,none⟩)]) S8 (by simp[go_sem]) ?_;refine(aeE ⟨E,0,none⟩ 0 k w1 B C).mono ?_;rintro e G L ⟨rfl,rfl,rfl⟩;have c3:(w1.setCell ⟨E,0,none⟩ k).cell? ⟨E,0,none⟩=some k:=(a.set 0 k).cell 0;simp[Leaves,settle,results,results176,go_sem,c3];rw[j];exact⟨rfl,c2.out,Bi r E (.inr (nL d.out.symm)) 0 _⟩
def I4(key lock c h w)(q:h<9223372036854775808):Cv 165 #[(mk key),(mk lock),(mk c),.int .i64 h] w λe w'=>e=.returned (.tuple #[(yn (nS key lock c h)).1,(yn (nS key lock c h)).2])/\Below w w w':=by
 have v:∀fn first cap w,(Instr.makeFunc fn first cap).run Vp w=.ok (.func fn first cap) w:=λ_ _ _ _=>rfl;go_enter fA func165,ntmps165;go_wp2;have s:∀W,Row W ((w:Nat)+1+1+1+1) 279 [aB,aC,aA,aC,aC,aC,aC,aC,aC,aC,aC,aC,aC,aC,aC,aC,aC,aC,aC,aA]->iD W ((w:Nat)+1+1+1+1) ⟨#[]⟩ 0 ⟨0,[]⟩:=λW n=>⟨⟨List.replicate 16 0,n,rfl⟩,(λx t=>by cases t),D9,D9⟩
 have m:=((((aU w [(mk key)] 9).alloc (.cells #[(mk lock)] 9)).alloc (.cells #[(mk c)] 9)).alloc (.cells #[h] 3)).alloc (.cells #[aB,aC,aA,aC,aC,aC,aC,aC,aC,aC,aC,aC,aC,aC,aC,aC,aC,aC,aC,aA] 279);have k2:=(((aU (w.alloc (.cells #[(mk key)] 9)) [(mk lock)] 9).alloc (.cells #[(mk c)] 9)).alloc (.cells #[h] 3)).alloc (.cells #[aB,aC,aA,aC,aC,aC,aC,aC,aC,aC,aC,aC,aC,aC,aC,aC,aC,aC,aC,aA] 279);have i:=((aU ((w.alloc (.cells #[(mk key)] 9)).alloc (.cells #[(mk lock)] 9)) [(mk c)] 9).alloc (.cells #[h] 3)).alloc (.cells #[aB,aC,aA,aC,aC,aC,aC,aC,aC,aC,aC,aC,aC,aC,aC,aC,aC,aC,aC,aA] 279);have j:=(aU (((w.alloc (.cells #[(mk key)] 9)).alloc (.cells #[(mk lock)] 9)).alloc (.cells #[(mk c)] 9)) [h] 3).alloc (.cells #[aB,aC,aA,aC,aC,aC,aC,aC,aC,aC,aC,aC,aC,aC,aC,aC,aC,aC,aC,aA] 279);have l:=aU ((((w.alloc (.cells #[(mk key)] 9)).alloc (.cells #[(mk lock)] 9)).alloc (.cells #[(mk c)] 9)).alloc (.cells #[h] 3)) [aB,aC,aA,aC,aC,aC,aC,aC,aC,aC,aC,aC,aC,aC,aC,aC,aC,aC,aC,aA] 279;simp only[bL]at k2 i j l;have g:Below w w (((((w.alloc (.cells #[(mk key)] 9)).alloc (.cells #[(mk lock)] 9)).alloc (.cells #[(mk c)] 9)).alloc (.cells #[h] 3)).alloc (.cells #[aB,aC,aA,aC,aC,aC,aC,aC,aC,aC,aC,aC,aC,aC,aC,aC,aC,aC,aC,aA] 279)):=((((B0.alloc L9 _).alloc S8 _).alloc (by simp;omega) _).alloc (by simp;omega) _).alloc (by simp;omega) _
 generalize((((w.alloc (.cells #[(mk key)] 9)).alloc (.cells #[(mk lock)] 9)).alloc (.cells #[(mk c)] 9)).alloc (.cells #[h] 3)).alloc (.cells #[aB,aC,aA,aC,aC,aC,aC,aC,aC,aC,aC,aC,aC,aC,aC,aC,aC,aC,aC,aA] 279)=X at m k2 i j l g|-;have o:(w:Nat)<=(w:Nat)+1+1+1+1:=O9;have v1:Var X ((w:Nat)+1+1+1+1) w (mk key):=⟨O9,_,m⟩;have v2:Var X ((w:Nat)+1+1+1+1) ((w:Nat)+1) (mk lock):=⟨O9,_,k2⟩;have v3:Var X ((w:Nat)+1+1+1+1) ((w:Nat)+1+1) (mk c):=⟨O9,_,i⟩;have u:Var X ((w:Nat)+1+1+1+1) ((w:Nat)+1+1+1) h:=⟨O9,_,j⟩;have r:=s X l;generalize(w:Nat)+1+1+1+1=b at*;refine(Pz key lock c h _ _ _ _ b X q r v1 v2 v3 u).mono ?_;rintro e w1 ⟨rfl,c2,p⟩;have d:=g.grown p g.size (λk e=>by cases e;exact o);generalize f:yn (nS key lock c h)=a at c2|-;replace f:=aL f;go_wp2;go_quiet (fail);go_wp2;go_ret2;rw[f.out];exact⟨rfl,d.os,d.tape,d.output,d.size,d.block⟩
end
end Go.Proofs.aH
