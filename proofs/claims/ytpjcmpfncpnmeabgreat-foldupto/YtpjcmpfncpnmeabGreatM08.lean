import Derived.Test.YtpjcmpfncpnmeabGreatM07
set_option linter.all false
set_option maxHeartbeats 4000000
set_option maxRecDepth 100000
namespace Go.Proofs.aH
open Go.RowKit Tryz
section
variable[Go.Proofs.VB]
def opAt(p:List UInt8)(i:Nat):Nat:=(p.getD i 0).toNat
def jT(p:List UInt8)(i:Nat):Nat:=if opAt p i=64 then i+9 else i+1
def RR(p i):opAt p i<256:=(p.getD i 0).toNat_lt
def qP(p)(i:Nat)(w)(hi:i<p.length)(f:p.length<=1000):Cv 199 #[(mk p),i] w λe w'=>e=.returned (jT p i)/\w'=w:=by
 have d:=pK p i (i:Int) rfl hi;have a:jT p i=if(p.getD i 0).toNat=64 then i+9 else i+1:=rfl;generalize(p.getD i 0).toNat=c at d a;by_cases b:c=64;.subst b;replace a:=aN a;go_enter fA func199,ntmps199;go_wp2;go_ret;rw[a.out];exact⟨rfl,rfl⟩
 .rw[aS b]at a;replace a:=aN a;go_enter fA func199,ntmps199;go_wp2;go_ret;rw[a.out];exact⟨rfl,rfl⟩
def xf(p:List UInt8)(i:Nat):Int:=gL ((p.drop (i+1)).take 8)
def pM(p:List UInt8):Nat->Nat->Nat->Option Nat->Option (Nat×Nat)
 |0,_,_,_=>none
 |f+1,i,d,m=>if i<p.length then if opAt p i=80 then pM p f (i+1) (d+1) m
    else if opAt p i=82/\0<d then pM p f (i+1) (d -1) m
    else if 0<d then pM p f (jT p i) d m
    else if opAt p i=81 then(if m.isSome then none else pM p f (i+1) 0 (some i))
    else if opAt p i=82 then some (m.getD i,i)
    else pM p f (jT p i) 0 m
   else none
def YE(m:Option Nat):Int:=match m with|some k=>k|none=>-1
def aex(a)(b:Nat)(h0:0<=a)(e:a<72057594037927936)(c:b<256):bits .or .u64 (a*256) (b:Int)=a*256+(b:Int):=by obtain⟨n,rfl⟩:=Cb h0;have d:n*256<18446744073709551616:=O9;have f:=nat_join8 (n*256) b O9 c;show IntKind.u64.wrap ((BitVec.ofInt 64 ((n:Int)*256)|||BitVec.ofInt 64 (b:Int)).toNat:Int)=_;rw[BitVec.toNat_or,show((n:Int)*256)=((n*256:Nat):Int)from by simp,ofInt_u64 (n*256) d,ofInt_u64 b O9,IntKind.wrap_u64];omega
def RU(t)(h:t.length<=7):0<=gL t/\gL t<72057594037927936:=by have⟨a,b⟩:=Fs t;refine⟨a,D2 b ?_⟩;have c:t.length=0\/t.length=1\/t.length=2\/t.length=3\/t.length=4\/t.length=5\/t.length=6\/t.length=7:=O9;obtain e|e|e|e|e|e|e|e:=c<;>rw[e]<;>decide
def abD(t)(h:t.length<=8):0<=gL t/\gL t<18446744073709551616:=by
 by_cases c:t.length<=7;.have:=RU t c;omega
 .have⟨b,a⟩:=Fs t;rw[show t.length=8 from by omega]at a;exact⟨b,a⟩
def Pv(p i):0<=xf p i/\xf p i<18446744073709551616:=abD _ (by rw[jO];omega)
def Pw(p i w)(hi:i<p.length)(s:p.length<=1000)(r:opAt p i=64):Cv 196 #[(mk p),i] w λe w'=>(if i+9<=p.length then e=.returned (.int .u64 (xf p i))else e=.panicked (Mo 2))/\w'=w:=by
 have B:=dL p;have l:jT p i=i+9:=by unfold jT;rw[if_pos r]
 go_enter fA func196,ntmps196;go_wp2;refine(qP p i w hi s).mono ?_;rintro e w1 ⟨rfl,rfl⟩;rw[l];by_cases y:i+9<=p.length;.have o:¬((i+9:Nat):Int)>(p.length:Int):=O9;go_wp2;go_loopw [5,14] (λn j wr=>∃k:Nat,k<=8/\j=↑k/\n=.int .u64 (gL (((p.drop (i+1)).take 8).take k))/\wr=w1) (λ_ j _=>8 -(intOf j).toNat);exact⟨0,O9,rfl,rfl,rfl⟩;case round=>
   obtain⟨k,x,rfl,rfl,rfl⟩:=hrel;have g:((p.drop (i+1)).take 8).length=8:=by rw[jO,Cc];omega
   have f:∀j,j<8->((p.drop (i+1)).take 8).getD j 0=p.getD (i+1+j) 0:=λj v=>by grind
   by_cases q:k<8
   .have b:=pK p (i+1+k) ((i:Int)+1+(k:Int)) O9 O9;rw[<-f k q]at b;generalize(p.drop (i+1)).take 8=t at g b;have a:=RU (t.take k) (by rw[jO];omega);have d:Hid (gL (t.take (k+1))=gL (t.take k)*256+((t.getD k 0).toNat:Int)):=by unfold Hid;rw[xP (by omega:k<t.length),Fu];simp[List.getD,show k<t.length from by omega]
    have u:=(t.getD k 0).toNat_lt;generalize(t.getD k 0).toNat=c at b d u;generalize z:gL (t.take k)=h at d a;have A:IntKind.u64.wrap (h*256)=h*256:=by rw[IntKind.wrap_u64];omega
    clear g f;go_wp2;go_roundw;exact⟨k+1,O9,by go_num,by rw[d.out,aex _ _ a.1 a.2 O9],trivial⟩;simp[intOf];omega
   .have m:k=8:=O9;subst m;rw[V4,Nat.min_self];go_wp2;go_ret;exact⟨rfl,rfl⟩
 .have o:((i+9:Nat):Int)>(p.length:Int):=O9;go_wp2;exact⟨rfl,rfl,rfl⟩
def YF(p)(i:Nat)(w)(hi:i<p.length)(H:p.length<=1000):Cv 200 #[(mk p),i] w λe w'=>(match pM p p.length (i+1) 0 none with|some (m,n)=>e=.returned (.tuple #[m,n])|none=>e=.panicked (Mo 5))/\w'=w:=by
 have P:=dL p;generalize a:pM p p.length (i+1) 0 none=E;go_enter fA func200,ntmps200;go_wp2;go_loopw [4,6,7] (λmv A iv wr=>∃(j d f:Nat) (m:Option Nat),iv=↑j/\A=↑d/\mv=↑(YE m)/\wr=w/\p.length<=j+f/\j<=p.length+9/\d<=j/\(∀x,m=some x->x<p.length)/\Hid (pM p f j d m=E)) (λ_ _ iv _=>p.length+9 -(intOf iv).toNat);exact⟨i+1,0,p.length,none,rfl,rfl,rfl,rfl,O9,O9,O9,(λ_ h=>by cases h),a⟩;case round=>
  clear a;obtain⟨j,d,f,m,rfl,rfl,rfl,rfl,N,O,L,r,a⟩:=hrel;by_cases o:j<p.length
  .obtain⟨f,rfl⟩:∃f',f=f'+1:=⟨f -1,O9⟩;have y:=pK p j (j:Int) rfl o;have g:=qP p j wr o H;have b:jT p j=if opAt p j=64 then j+9 else j+1:=rfl;replace a:=a.out;rw[pM,bF o]at a;have z:opAt p j=(p.getD j 0).toNat:=rfl;rw[<-z]at y;have C:=RR p j;generalize opAt p j=c at y a b C;clear z;have G:(j:Int)<(p.length:Int):=O9;by_cases u:c=80;.subst u;rw[bF rfl]at a;rw[aS D9]at b;change Hid _ at a b;go_wp2;refine g.m0 ?_;rw[b.out];go_wp2;go_roundw;exact⟨j+1,d+1,f,m,by go_num,by go_num,rfl,trivial,O9,O9,O9,r,a⟩;simp[intOf];omega
   .rw[aS u]at a;have J:¬(c:Int)=80:=O9;by_cases q:0<d
    .have M:(d:Int)>0:=O9;by_cases l:c=82;.subst l;rw[bF ⟨rfl,q⟩]at a;rw[aS D9]at b;change Hid _ at a b;go_wp2;refine g.m0 ?_;rw[b.out];go_wp2;go_roundw;exact⟨j+1,d -1,f,m,by go_num,by rw[Int.ofNat_sub O9];rfl,rfl,trivial,O9,O9,O9,r,a⟩;simp[intOf];omega
     .have D:¬(c:Int)=82:=O9;rw[aS (λh=>l h.1),bF q]at a;have t:j<jT p j/\jT p j<=j+9:=by rw[b];split<;>omega
      clear b;generalize jT p j=s at g a t;replace a:=aN a;go_wp2;refine g.m0 ?_;go_wp2;go_roundw;exact⟨s,d,f,m,rfl,rfl,rfl,trivial,O9,O9,O9,r,a⟩;simp[intOf];omega
    .have F:d=0:=O9;subst F;rw[aS (λh=>q h.2),aS q]at a;by_cases v:c=81;.subst v;rw[bF rfl]at a;rw[aS D9]at b;cases m with
      |none=>replace a:=a;replace b:=aN b;simp only[YE];go_wp2;refine g.m0 ?_;rw[b.out];go_wp2;go_roundw;exact⟨j+1,0,f,some j,by go_num,rfl,rfl,trivial,O9,O9,O9,(λx I=>by cases I;exact o),a⟩;simp[intOf];omega
      |some k=>replace a:=a;subst a;simp only[YE];go_wp2;exact⟨rfl,rfl,rfl⟩
     .have K:¬(c:Int)=81:=O9;rw[aS v]at a;by_cases l:c=82;.subst l;rw[bF rfl]at a;subst a;cases m with
       |none=>simp only[YE];go_wp2;go_ret2;exact⟨rfl,rfl⟩
       |some k=>simp only[YE];go_wp2;go_ret2;exact⟨rfl,rfl⟩
      .have D:¬(c:Int)=82:=O9;rw[aS l]at a;have t:j<jT p j/\jT p j<=j+9:=by rw[b];split<;>omega
       clear b;generalize jT p j=s at g a t;replace a:=aN a;go_wp2;refine g.m0 ?_;go_wp2;go_roundw;exact⟨s,0,f,m,rfl,rfl,rfl,trivial,O9,O9,O9,r,a⟩;simp[intOf];omega
  .have B:E=none:=by rw[<-a.out];cases f with
    |zero=>rfl
    |succ f=>rw[pM,aS o]
   subst B;have G:¬(j:Int)<(p.length:Int):=O9;go_wp2;exact⟨rfl,rfl,rfl⟩
end
section
def YG:=@Calls.regrown_of
variable[Go.Proofs.VB]
def xG.bind{α β:Type}(r:xG α)(f:α->St->xG β):xG β:=match r with
 |.ok a s=>f a s
 |.bad e n=>.bad e n
def iM.keep{w w' b id h s}(a:iM w b id h s)(d:Below w w w'):iM w' b id h s:=by have⟨f,c,e⟩:=a.row;exact⟨⟨f,c.keep d c.lt,e⟩,a.yB,a.steps,a.Br⟩
def wy{w w'}(a:Below w.heap.size w w')(r):w.grownBy w' r:=⟨a.os,a.tape,a.output,a.size,λk b _=>a.block k b⟩
def aT.elim{α P w w' b id h}{r:xG α}{e}(i:aT P w b id h r e w'):w.grownBy w' (some b)/\((∃a s,r=.ok a s/\e=.returned (P a)/\iM w' b id h s)\/∃k n s,r=.bad k n/\e=.panicked (Mo k)/\s.steps=n/\iM w' b id h s):=by
 have⟨f,c⟩:=i;refine⟨f,?_⟩;cases r with
 |ok a s=>exact .inl ⟨a,s,rfl,c.1,c.2⟩
 |bad k n=>obtain⟨d,s,j,g⟩:=c;exact .inr ⟨k,n,s,rfl,d,j,g⟩
def aT.raise{α β P w w' b id h k n s}{r:xG α}{f:α->St->xG β}(d:r=.bad k n)(a:w.grownBy w' (some b))(e:s.steps=n)(c:iM w' b id h s):aT P w b id h (r.bind f) (.panicked (Mo k)) w':=by subst d;exact⟨a,rfl,s,e,c⟩
def lN:=@aT.raise
def aT.next{α β P w w1 w' b id h s a}{r:xG α}{f:α->St->xG β}{e}(g:r=.ok a s)(d:w.grownBy w1 (some b))(c:aT P w1 b id h (f a s) e w'):aT P w b id h (r.bind f) e w':=by subst g;exact⟨d.trans c.1,c.2⟩
def dF:=@aT.next
def Mp(J5:List UInt8)(op:Nat)(x y:Int):Int:=if op=68 then IntKind.u64.wrap (x+y)
 else if op=69 then IntKind.u64.wrap (x -y)
 else if op=70 then IntKind.u64.wrap (x*y)
 else if op=71 then ow (x==y)
 else if op=72 then ow (decide (x<y))
 else ow (x==hN (be y 8++J5))
def Fv(b):0<=ow b/\ow b<18446744073709551616:=by cases b<;>decide
def abE(x):0<=IntKind.u64.wrap x/\IntKind.u64.wrap x<18446744073709551616:=by rw[IntKind.wrap_u64];omega
def abF(a op x y):0<=Mp a op x y/\Mp a op x y<18446744073709551616:=by
 unfold Mp;repeat' split
 all_goals first|exact abE _|exact Fv _
def iM.c0{w b id h s}(c:iM w b id h s):w.cell? (b,0)=some ↑id:=by have⟨d,a,_⟩:=c.row;exact a.cell 0
def iM.c1{w b id h s}(c:iM w b id h s):w.cell? (b,1)=some (.int .u64 h):=by have⟨d,a,_⟩:=c.row;exact a.cell 1
def iM.lt{w b id h s}(c:iM w b id h s):b<w:=by have⟨d,a,_⟩:=c.row;exact a.lt
def Mq(w b a h s)(u:iM w b (mk a) h s)(r:a.length<=1000)(op:Nat)(v:op=68\/op=69\/op=70\/op=71\/op=72\/op=75)(x y)(_hx:0<=x/\x<18446744073709551616)(m:0<=y/\y<18446744073709551616):Cv 202 #[.pointer b,.int .u8 op,.int .u64 x,.int .u64 y] w λe w'=>e=.returned (.int .u64 (Mp a op x y))/\Below w w w':=by
 have c0:=u.c0;obtain rfl|rfl|rfl|rfl|rfl|rfl:=v;iterate 3 .go_enter fA func202,ntmps202;go_wp2;go_ret;exact⟨rfl,B0⟩
 iterate 2 .go_enter fA func202,ntmps202;go_wp2;refine(Bu _ _).m0 ?_;go_wp2;go_ret;exact⟨rfl,B0⟩
 .have c:Hid (Mp a 75 x y=ow (x==hN (be y 8++a))):=rfl;have o:=λd os=>YG (pT y (Go.Sort.grow (redrawn w d) os) m.1 m.2);have k:=bV y 8;generalize be y 8=t at c o k;have E:(mk t).size=8:=by rw[dL,k]
  have D:(mk a).size<=1000:=by rw[dL];exact r
  have q:∀d os,Cv 102 #[(mk t++mk a)] (Go.Sort.grow (redrawn w d) os) λe i=>e=.returned (.int .u64 (hN (t++a)))/\∃p:Regrown,i=Go.Sort.grow (redrawn w p.d) p.os:=λd os=>by rw[Bq];exact YG ((rU (t++a) _ (by rw[bY];omega)).mono λe w' ⟨f,g⟩=>⟨f,by rw[g];exact B0⟩)
  generalize hN (t++a)=z at c q;have C:∀d os,Cv 203 #[.bool (x==z)] (Go.Sort.grow (redrawn w d) os) λe i=>e=.returned (.int .u64 (ow (x==z)))/\∃p:Regrown,i=Go.Sort.grow (redrawn w p.d) p.os:=λd os=>YG ((Bu (x==z) _).mono λe w' ⟨f,g⟩=>⟨f,by rw[g];exact B0⟩)
  replace c0:=cell_regrown c0;go_enter fA func202,ntmps202;go_wp2;refine wp_region_quiet_below Fw K8 ?_;repeat(go_big_quiet_step (first|(go_at_call 122;exact o _ _)|(go_at_call 102;exact q _ _)|(go_at_call 203;exact C _ _)))
  refine wpQuiet_nil ?_;intro _ A;have⟨⟨j,n⟩,B⟩:=A;subst B;have l:=below_regrown w j n;generalize Go.Sort.grow (redrawn w j) n=w1 at l|-;go_wp2;go_ret;rw[c.out];exact⟨rfl,l⟩
def Mr(J5:List UInt8)(h:Int)(op:Nat)(s:St):xG Unit:=if op=65 then(lD s).bind λx s=>(qQ x s).bind λ_ s=>qQ x s
 else if op=66 then(lD s).bind λ_ s=>.ok () s
 else if op=67 then(lD s).bind λy s=>(lD s).bind λx s=>(qQ y s).bind λ_ s=>qQ x s
 else if op=68\/op=69\/op=70\/op=71\/op=72\/op=75 then(lD s).bind λy s=>(lD s).bind λx s=>qQ (Mp J5 op x y) s
 else if op=73 then(lD s).bind λx s=>qQ (ow (x==0)) s
 else if op=74 then(lD s).bind λx s=>qQ (hN (be x 8)) s
 else if op=76 then(lD s).bind λx s=>if x=0 then .bad 6 s.steps else .ok () s
 else if op=77 then qQ h s
 else .bad 2 s.steps
def qp{s s' x}(h:lD s=.ok x s'):s.l=x::s'.l/\s.steps=s'.steps:=by
 unfold lD at h;split at h;.cases h
 .grind
def YH(w b o h s)(l:iM w b (mk o) h s):Cv 198 #[.pointer b,.int .u8 65] w (aT kG w b (mk o) h ((lD s).bind λx s=>(qQ x s).bind λ_ s=>qQ x s)):=by
 go_enter fA func198,ntmps198;go_wp2;refine(kU w b _ h s l).mono ?_;intro e w1 t;obtain⟨c,⟨x,p,a,rfl,g⟩|⟨k,n,p,a,rfl,y,g⟩⟩:=t.elim;rotate_left;.exact⟨rfl,lN a c y g⟩
 have m:=l.yB x (by rw[(qp a).1];simp);go_wp2;refine(mW w1 b _ h x p g m).mono ?_;intro e w2 u;obtain⟨f,⟨_,q,d,rfl,i⟩|⟨k,n,q,d,rfl,z,i⟩⟩:=u.elim;rotate_left;.exact⟨rfl,dF a c (lN d f z i)⟩
 go_wp2;refine(mW w2 b _ h x q i m).mono ?_;intro e w3 j;obtain⟨B,⟨_,A,v,rfl,r⟩|⟨k,n,A,v,rfl,C,r⟩⟩:=j.elim;.go_wp2;go_end0;exact dF a c (dF d f (j))
 .exact⟨rfl,dF a c (dF d f (j))⟩
def Ua(w b f h s)(g:iM w b (mk f) h s):Cv 198 #[.pointer b,.int .u8 66] w (aT kG w b (mk f) h ((lD s).bind λ_ s=>.ok () s)):=by
 go_enter fA func198,ntmps198;go_wp2;refine(kU w b _ h s g).mono ?_;intro e w1 i;obtain⟨d,⟨x,l,c,rfl,a⟩|⟨k,n,l,c,rfl,j,a⟩⟩:=i.elim;rotate_left;.exact⟨rfl,lN c d j a⟩
 go_wp2;go_end0;exact dF c d ⟨aZ _ _,rfl,a⟩
def Ub(w b q h s)(p:iM w b (mk q) h s):Cv 198 #[.pointer b,.int .u8 67] w (aT kG w b (mk q) h ((lD s).bind λy s=>(lD s).bind λx s=>(qQ y s).bind λ_ s=>qQ x s)):=by
 go_enter fA func198,ntmps198;go_wp2;refine(kU w b _ h s p).mono ?_;intro e w1 z;obtain⟨d,⟨y,r,a,rfl,g⟩|⟨k,n,r,a,rfl,D,g⟩⟩:=z.elim;rotate_left;.exact⟨rfl,lN a d D g⟩
 have H:=p.yB y (by rw[(qp a).1];simp);go_wp2;refine(kU w1 b _ h r g).mono ?_;intro e w2 A;obtain⟨f,⟨x,t,c,rfl,l⟩|⟨k,n,t,c,rfl,E,l⟩⟩:=A.elim;rotate_left;.exact⟨rfl,dF a d (lN c f E l)⟩
 have G:=g.yB x (by rw[(qp c).1];simp);go_wp2;refine(mW w2 b _ h y t l H).mono ?_;intro e w3 B;obtain⟨j,⟨_,u,i,rfl,m⟩|⟨k,n,u,i,rfl,F,m⟩⟩:=B.elim;rotate_left;.exact⟨rfl,dF a d (dF c f (lN i j F m))⟩
 go_wp2;refine(mW w3 b _ h x u m G).mono ?_;intro e w4 o;obtain⟨J,⟨_,I,C,rfl,v⟩|⟨k,n,I,C,rfl,K,v⟩⟩:=o.elim;.go_wp2;go_end0;exact dF a d (dF c f (dF i j (o)))
 .exact⟨rfl,dF a d (dF c f (dF i j (o)))⟩
def YI(w b g h s)(j:iM w b (mk g) h s):Cv 198 #[.pointer b,.int .u8 73] w (aT kG w b (mk g) h ((lD s).bind λx s=>qQ (ow (x==0)) s)):=by
 go_enter fA func198,ntmps198;go_wp2;refine(kU w b _ h s j).mono ?_;intro e w1 m;obtain⟨c,⟨x,i,a,rfl,d⟩|⟨k,n,i,a,rfl,p,d⟩⟩:=m.elim;rotate_left;.exact⟨rfl,lN a c p d⟩
 unfold Dn;go_wp2;refine(Bu _ _).mono ?_;rintro e w2 ⟨rfl,rfl⟩;go_wp2;refine(mW w2 b _ h (ow (x==0)) i d (Fv _)).mono ?_;intro e w3 f;obtain⟨r,⟨_,q,o,rfl,l⟩|⟨k,n,q,o,rfl,t,l⟩⟩:=f.elim;.go_wp2;go_end0;exact dF a c (f)
 .exact⟨rfl,dF a c (f)⟩
def Ms(w b f h s)(i:iM w b (mk f) h s):Cv 198 #[.pointer b,.int .u8 76] w (aT kG w b (mk f) h ((lD s).bind λx s=>if x=0 then .bad 6 s.steps else .ok () s)):=by
 go_enter fA func198,ntmps198;go_wp2;refine(kU w b _ h s i).mono ?_;intro e w1 j;obtain⟨d,⟨x,g,c,rfl,a⟩|⟨k,n,g,c,rfl,l,a⟩⟩:=j.elim;rotate_left;.exact⟨rfl,lN c d l a⟩
 unfold Dn;by_cases h0:x=0;.subst h0;go_wp2;exact⟨rfl,dF c d ⟨aZ _ _,rfl,g,rfl,a⟩⟩
 .go_wp2;go_end0;refine dF c d ?_;rw[aS h0];exact⟨aZ _ _,rfl,a⟩
def Mt(w b d h s)(a:iM w b (mk d) h s):Cv 198 #[.pointer b,.int .u8 77] w (aT kG w b (mk d) h (qQ h s)):=by
 have c1:=a.c1;go_enter fA func198,ntmps198;go_wp2;refine(mW w b _ h h s a a.Br).mono ?_;intro e w1 c;obtain⟨j,⟨_,i,g,rfl,f⟩|⟨k,n,i,g,rfl,l,f⟩⟩:=c.elim;.go_wp2;go_end0;exact c
 .trivial
def tF(w b c h s)(t:iM w b (mk c) h s)(A:c.length<=1000)(op:Nat)(D:op=68\/op=69\/op=70\/op=71\/op=72\/op=75):Cv 198 #[.pointer b,.int .u8 op] w (aT kG w b (mk c) h ((lD s).bind λy s=>(lD s).bind λx s=>qQ (Mp c op x y) s)):=by
 obtain rfl|rfl|rfl|rfl|rfl|rfl:=D;all_goals
  go_enter fA func198,ntmps198;go_wp2;refine(kU w b _ h s t).mono ?_;intro e w1 E;obtain⟨i,⟨y,u,a,rfl,j⟩|⟨k,n,u,a,rfl,H,j⟩⟩:=E.elim;rotate_left;.go_wp2;exact⟨rfl,lN a i H j⟩
  have K:=t.yB y (by rw[(qp a).1];simp);unfold Dn;go_wp2;refine(kU w1 b _ h u j).mono ?_;intro e w2 F;obtain⟨m,⟨x,p,f,rfl,l⟩|⟨k,n,p,f,rfl,I,l⟩⟩:=F.elim;rotate_left;.go_wp2;exact⟨rfl,dF a i (lN f m I l)⟩
  have J:=j.yB x (by rw[(qp f).1];simp);unfold Dn;go_wp2;refine(Mq w2 b c h p l A _ D9 x y J K).m1 λw3 q=>?_;have B:=l.keep q;have r:=(wy q (some b));generalize g:Mp c _ x y=z;have v:0<=z/\z<18446744073709551616:=by rw[<-g];exact abF ..
  replace g:=aN g;go_wp2;refine(mW w3 b _ h z p B v).mono ?_;intro e w4 d;obtain⟨M,⟨_,L,G,rfl,C⟩|⟨k,n,L,G,rfl,N,C⟩⟩:=d.elim;.unfold kG;go_wp2;go_end0;have o:=g.out;subst o;exact dF a i (dF f m ⟨r.trans d.1,d.2⟩)
  .go_wp2;have o:=g.out;subst o;exact⟨rfl,dF a i (dF f m ⟨r.trans d.1,d.2⟩)⟩
def Uc(w b v h s)(r:iM w b (mk v) h s):Cv 198 #[.pointer b,.int .u8 74] w (aT kG w b (mk v) h ((lD s).bind λx s=>qQ (hN (be x 8)) s)):=by
 go_enter fA func198,ntmps198;go_wp2;refine(kU w b _ h s r).mono ?_;intro e w1 C;obtain⟨i,⟨x,y,c,rfl,j⟩|⟨k,n,y,c,rfl,E,j⟩⟩:=C.elim;rotate_left;.exact⟨rfl,lN c i E j⟩
 have u:=r.yB x (by rw[(qp c).1];simp);go_wp2;refine(pT x w1 u.1 u.2).mono ?_;rintro e w2 ⟨rfl,o⟩;have g:=rU (be x 8) w2 (by rw[bV];omega);have p:=Fg (be x 8);generalize d:hN (be x 8)=z at g p|-;replace d:=aN d;generalize f:be x 8=t at g d|-;replace f:=aN f;go_wp2;refine g.mono ?_;rintro e w3 ⟨rfl,rfl⟩;have A:=j.keep o;have q:=(wy o (some b));go_wp2;refine(mW w3 b _ h z y A p).mono ?_;intro e w4 a;obtain⟨G,⟨_,F,D,rfl,B⟩|⟨k,n,F,D,rfl,H,B⟩⟩:=a.elim;.go_wp2;go_end0;have m:=d.out;have l:=f.out;subst m l;exact dF c i ⟨q.trans a.1,a.2⟩
 .have m:=d.out;have l:=f.out;subst m l;exact⟨rfl,dF c i ⟨q.trans a.1,a.2⟩⟩
def Ud(w b a h s)(c:iM w b (mk a) h s)(op:Nat)(d:op<65\/77<op)(_hl:op<256):Cv 198 #[.pointer b,.int .u8 op] w (aT kG w b (mk a) h (.bad 2 s.steps)):=by
 go_enter fA func198,ntmps198;go_wp2;exact⟨rfl,aZ _ _,rfl,s,rfl,c⟩
def YJ(w b a h s)(c:iM w b (mk a) h s)(d:a.length<=1000)(op:Nat)(g:op<256):Cv 198 #[.pointer b,.int .u8 op] w (aT kG w b (mk a) h (Mr a h op s)):=by
 by_cases i:op<65\/77<op
 .have e:Mr a h op s=.bad 2 s.steps:=by unfold Mr;rw[aS O9,aS O9,aS O9,aS O9,aS O9,aS O9,aS O9,aS O9]
  rw[e];exact Ud w b a h s c op i g
 .have f:op=65\/op=66\/op=67\/op=68\/op=69\/op=70\/op=71\/op=72\/op=73\/op=74\/op=75\/op=76\/op=77:=O9;obtain rfl|rfl|rfl|rfl|rfl|rfl|rfl|rfl|rfl|rfl|rfl|rfl|rfl:=f;.exact YH w b a h s c
  .exact Ua w b a h s c
  .exact Ub w b a h s c
  .exact tF w b a h s c d 68 D9
  .exact tF w b a h s c d 69 D9
  .exact tF w b a h s c d 70 D9
  .exact tF w b a h s c d 71 D9
  .exact tF w b a h s c d 72 D9
  .exact YI w b a h s c
  .exact Uc w b a h s c
  .exact tF w b a h s c d 75 D9
  .exact Ms w b a h s c
  .exact Mt w b a h s c
end
section
variable[Go.Proofs.VB]
def nX (d : Nat -> St -> xG Nat) (to : Nat) : Nat -> Nat -> St -> xG Unit
 | 0, _, s => .ok () s
 | k + 1, i, s => if i < to then (d i s).bind λ j s' => nX d to k j s' else .ok () s
def uC(d:Nat->St->xG Nat)(p:List UInt8)(i:Nat)(s:St):xG Nat:=match pM p p.length (i+1) 0 none with
 |none=>.bad 5 s.steps
 |some (m,e)=>(lD s).bind λx s=>if x≠0 then(nX d m (m -(i+1)) (i+1) s).bind λ_ s=>(wz s).bind λ_ s=>.ok (e+1) s
   else if m<e then(nX d e (e -(m+1)) (m+1) s).bind λ_ s=>(wz s).bind λ_ s=>.ok (e+1) s
   else .ok (e+1) s
def doB(J5:List UInt8)(h:Int)(p:List UInt8)(d:Nat->St->xG Nat)(i:Nat)(s:St):xG Nat:=(wz s).bind λ_ s=>if opAt p i<64 then(qQ (opAt p i) s).bind λ_ s=>.ok (i+1) s
   else if opAt p i=64 then(if i+9<=p.length then(qQ (xf p i) s).bind λ_ s=>.ok (i+9) s else .bad 2 s.steps)
   else if opAt p i=80 then uC d p i s
   else if opAt p i=81\/opAt p i=82 then .bad 5 s.steps
   else(Mr J5 h (opAt p i) s).bind λ_ s=>.ok (i+1) s
def doM(J5:List UInt8)(h:Int)(p:List UInt8):Nat->Nat->St->xG Nat
 |0=>λ_ s=>.bad 99 s.steps
 |n+1=>doB J5 h p (doM J5 h p n)
def DJ(p):∀f i d a m e,pM p f i d a=some (m,e)->(∀x,a=some x->x<i)->m<=e/\e<p.length/\i<=e/\(∀x,a=some x->m=x)/\(a=none->i<=m)
 |0,i,d,a,m,e,h,_=>by simp[pM]at h
 |f+1,i,d,a,m,e,h,c=>by
   have g:i<jT p i:=by unfold jT;split<;>omega
   have step:∀j d',i<j->pM p f j d' a=some (m,e)->m<=e/\e<p.length/\i<=e/\(∀x,a=some x->m=x)/\(a=none->i<=m):=λj d' r k=>by have:=DJ p f j d' a m e k (λx b=>by have:=c x b;omega);exact⟨this.1,this.2.1,O9,this.2.2.2.1,λh0=>by have:=this.2.2.2.2 h0;omega⟩
   rw[pM]at h;split at h
   .rename_i s;split at h;.grind
    .split at h;.grind
     .split at h;.grind
      .split at h
       .split at h;.cases h
        .rename_i n;have l:a=none:=by cases a with
          |none=>rfl
          |some x=>exact absurd rfl n
         have:=DJ p f _ _ _ _ _ h (λx b=>by cases b;omega);have q:=this.2.2.2.1 i rfl;exact⟨this.1,this.2.1,O9,(λx b=>by rw[l]at b;cases b),λ_=>by omega⟩
       .split at h;.cases a with
         |none=>simp only[Option.getD_none,gA,Kw]at h;exact⟨O9,O9,O9,(λx b=>by cases b),λ_=>by omega⟩
         |some x=>simp only[pD,gA,Kw]at h;have:=c x rfl;exact⟨O9,O9,O9,(λy o=>by cases o;omega),λh0=>by cases h0⟩
        .exact step _ _ g h
   .cases h
def Mu(n:Nat):Value:=.int .i64 n
def Fx (p b f h) (d : Nat -> St -> xG Nat) (i to s w) (_hp : to <= 1000) (z : i <= 2000)
 (y : ∀ (j : Nat) (s : St) (w : World), i <= j -> j < to -> iM w b (mk f) h s -> Cv 193 #[.pointer b, (mk p), j] w (aT Mu w b (mk f) h (d j s)))
 (aU : ∀ j s c s', i <= j -> j < to -> d j s = .ok c s' -> j < c /\ c <= 2000) (m : iM w b (mk f) h s) :
 Cv 191 #[.pointer b, (mk p), i, to] w (aT kG w b (mk f) h (nX d to (to - i) i s)) := by
 generalize a : nX d to (to - i) i s = E
 go_enter fA func191, ntmps191
 go_wp2
 go_loopw [8] (λ v wr => ∃ (j k : Nat) (s' : St), v = ↑j /\ iM wr b (mk f) h s' /\ w.grownBy wr (some b) /\ i <= j /\ j <= 2000 /\ to <= j + k /\ Hid (nX d to k j s' = E)) (λ v _ => 2001 - (intOf v).toNat)
 exact ⟨i, to - i, s, rfl, m, aZ _ _, O9, z, O9, a⟩
 case round =>
  obtain ⟨j, k, s', rfl, m, r, x, F, G, a⟩ := hrel
  by_cases l : j < to
  ·obtain ⟨k, rfl⟩ : ∃ k', k = k' + 1 := ⟨k - 1, O9⟩
   rw [nX, bF l] at a
   replace a := aN a
   go_wp2
   refine (y j s' wr x l m).mono ?_
   intro e w1 A
   obtain ⟨u, ⟨c, q, o, rfl, t⟩ | ⟨k', n, q, o, rfl, B, t⟩⟩ := A.elim
   ·have ⟨C, D⟩ := aU j s' c q x l o
    have g : Hid (nX d to k c q = E) := by unfold Hid; rw [<- a.out, o]; rfl
    unfold Mu
    go_wp2
    go_roundw
    exact ⟨c, k, q, rfl, t, r.trans u, O9, O9, O9, g⟩
    simp [intOf]; omega
   ·have g := a.out
    subst g
    exact ⟨rfl, lN o (r.trans u) B t⟩
  ·have H : ¬ (j : Int) < (to : Int) := O9
   have g : E = .ok () s' := by
    rw [<- a.out]
    cases k with
    | zero => rfl
    | succ k => rw [nX, aS l]
   go_wp2
   go_end0
   exact ⟨r, rfl, m⟩
def Px(p b y h)(d:Nat->St->xG Nat)(i s w)(μ:p.length<=1000)(hi:i<p.length)(P:∀(j:Nat) (s:St) (w:World),i+1<=j->j<p.length->iM w b (mk y) h s->Cv 193 #[.pointer b,(mk p),j] w (aT Mu w b (mk y) h (d j s)))
 (aU:∀j s v s',j<p.length->d j s=.ok v s'->j<v/\v<=2000)(Q:iM w b (mk y) h s):
 Cv 197 #[.pointer b,(mk p),i] w (aT Mu w b (mk y) h (uC d p i s)):=by
 have J:=DJ p p.length (i+1) 0 none;have a:Hid (uC d p i s=match pM p p.length (i+1) 0 none with
  |none=>.bad 5 s.steps
  |some (m,e)=>(lD s).bind λx s=>if x≠0 then(nX d m (m -(i+1)) (i+1) s).bind λ_ s=>(wz s).bind λ_ s=>.ok (e+1) s
    else if m<e then(nX d e (e -(m+1)) (m+1) s).bind λ_ s=>(wz s).bind λ_ s=>.ok (e+1) s
    else .ok (e+1) s):=rfl
 generalize uC d p i s=R at a|-;have F:=YF p i w hi μ;generalize pM p p.length (i+1) 0 none=E at J F a;cases E with
 |none=>go_enter fA func197,ntmps197;go_wp2;refine F.mono ?_;rintro e w1 ⟨rfl,rfl⟩;go_wp2;refine⟨rfl,?_⟩;rw[a.out];exact⟨aZ _ _,rfl,s,rfl,Q⟩
 |some me=>
   have⟨m,n⟩:=me;replace a:Hid (R=(lD s).bind λx s=>if x≠0 then(nX d m (m -(i+1)) (i+1) s).bind λ_ s=>(wz s).bind λ_ s=>.ok (n+1) s
    else if m<n then(nX d n (n -(m+1)) (m+1) s).bind λ_ s=>(wz s).bind λ_ s=>.ok (n+1) s
    else .ok (n+1) s):=a
   have⟨b1,b2,b3,_,O⟩:=J m n rfl (λx u=>by cases u);replace O:=O rfl;clear J;go_enter fA func197,ntmps197;go_wp2;refine F.mono ?_;rintro e w0 ⟨rfl,rfl⟩;clear F;go_wp2;refine(kU w0 b _ h s Q).mono ?_;intro e w1 S;obtain⟨g,⟨x,M,c,rfl,A⟩|⟨k,n,M,c,rfl,V,A⟩⟩:=S.elim;rotate_left;.go_wp2;refine⟨rfl,?_⟩;rw[a.out];exact lN c g V A
   clear S;unfold Dn;by_cases u:x=0
   .subst u;by_cases G:m<n
    .have T:(m:Int)<(n:Int):=O9;go_wp2;refine(Fx p b y h d (m+1) n M w1 O9 O9 (λj s w H I l=>P j s w O9 O9 l) (λj s v s' H I l=>aU j s v s' O9 l) A).mono ?_;intro e w2 B;obtain⟨o,⟨_,D,f,rfl,q⟩|⟨k,n,D,f,rfl,K,q⟩⟩:=B.elim;rotate_left;.go_wp2;refine⟨rfl,?_⟩;rw[a.out];refine dF c g ?_;simp only[xR,Ky,zr,bF G];exact lN f o K q
     clear B;unfold kG;go_wp2;refine(Bv w2 b _ h D q).mono ?_;intro e w3 C;obtain⟨z,⟨_,N,t,rfl,r⟩|⟨k,n,N,t,rfl,L,r⟩⟩:=C.elim;rotate_left;.go_wp2;refine⟨rfl,?_⟩;rw[a.out];refine dF c g ?_;simp only[xR,Ky,zr,bF G];exact dF f o (lN t z L r)
     clear C;unfold kG;go_wp2;go_ret;rw[a.out];refine dF c g ?_;simp only[xR,Ky,zr,bF G];exact dF f o (dF t z ⟨aZ _ _,rfl,r⟩)
    .have T:¬(m:Int)<(n:Int):=O9;go_wp2;go_ret;rw[a.out];refine dF c g ?_;simp only[xR,Ky,zr,aS G];exact⟨aZ _ _,rfl,A⟩
   .have W:(x !=0)=true:=by simpa using u
    go_wp2;refine(Fx p b y h d (i+1) m M w1 O9 O9 (λj s w H I l=>P j s w O9 O9 l) (λj s v s' H I l=>aU j s v s' O9 l) A).mono ?_;intro e w2 B;obtain⟨o,⟨_,D,f,rfl,q⟩|⟨k,n,D,f,rfl,K,q⟩⟩:=B.elim;rotate_left;.go_wp2;refine⟨rfl,?_⟩;rw[a.out];refine dF c g ?_;simp only[xR,u,Kz,uT];exact lN f o K q
    clear B;unfold kG;go_wp2;refine(Bv w2 b _ h D q).mono ?_;intro e w3 C;obtain⟨z,⟨_,N,t,rfl,r⟩|⟨k,n,N,t,rfl,L,r⟩⟩:=C.elim;rotate_left;.go_wp2;refine⟨rfl,?_⟩;rw[a.out];refine dF c g ?_;simp only[xR,u,Kz,uT];exact dF f o (lN t z L r)
    clear C;unfold kG;go_wp2;go_ret;rw[a.out];refine dF c g ?_;simp only[xR,u,Kz,uT];exact dF f o (dF t z ⟨aZ _ _,rfl,r⟩)
def qb{α β}{r:xG α}{f}{b:β}{s'}(h:r.bind f=.ok b s'):∃a s,r=.ok a s/\f a s=.ok b s':=by cases r with
 |ok a s=>exact⟨a,s,rfl,h⟩
 |bad e n=>cases h
def Ue(d:Nat->St->xG Nat)(p i s j s')(h:uC d p i s=.ok j s'):i<j/\j<=p.length:=by
 unfold uC at h;split at h;.cases h
 .rename_i m e a;have g:=DJ p p.length (i+1) 0 none m e a (λx b=>by cases b);have⟨x,l,_,h⟩:=qb h;have k:j=e+1:=by
   split at h;.have⟨_,c,_,h⟩:=qb h;have⟨_,f,_,h⟩:=qb h;cases h;rfl
   .split at h;.have⟨_,c,_,h⟩:=qb h;have⟨_,f,_,h⟩:=qb h;cases h;rfl
    .simp_all
  omega
def aey(c h p)(d:Nat->St->xG Nat)(i s j s')(hi:i<p.length)(a:doB c h p d i s=.ok j s'):i<j/\j<=p.length:=by
 have⟨_,e,_,a⟩:=qb a;split at a;.have⟨_,b,_,a⟩:=qb a;cases a;omega
 .split at a
  .split at a;.have⟨_,b,_,a⟩:=qb a;cases a;omega
   .cases a
  .split at a;.exact Ue d p i e j s' a
   .split at a;.cases a
    .have⟨_,b,_,a⟩:=qb a;cases a;omega
def YK(b h p n i s j s')(hi:i<p.length)(a:doM b h p n i s=.ok j s'):i<j/\j<=p.length:=by cases n with
 |zero=>cases a
 |succ n=>exact aey b h p _ i s j s' hi a
def abG(p b o h)(d:Nat->St->xG Nat)(i s w)(D:p.length<=1000)(hi:i<p.length)(T:o.length<=1000)(S:∀(j:Nat) (s:St) (w:World),i+1<=j->j<p.length->iM w b (mk o) h s->Cv 193 #[.pointer b,(mk p),j] w (aT Mu w b (mk o) h (d j s)))
 (aU:∀j s J s',j<p.length->d j s=.ok J s'->j<J/\J<=2000)(μ:iM w b (mk o) h s):
 Cv 193 #[.pointer b,(mk p),i] w (aT Mu w b (mk o) h (doB o h p d i s)):=by
 have a:Hid (doB o h p d i s=(wz s).bind λ_ s=>if opAt p i<64 then(qQ (opAt p i) s).bind λ_ s=>.ok (i+1) s
  else if opAt p i=64 then(if i+9<=p.length then(qQ (xf p i) s).bind λ_ s=>.ok (i+9) s else .bad 2 s.steps)
  else if opAt p i=80 then uC d p i s
  else if opAt p i=81\/opAt p i=82 then .bad 5 s.steps
  else(Mr o h (opAt p i) s).bind λ_ s=>.ok (i+1) s):=rfl
 have af:=dL p;have f:jT p i=if opAt p i=64 then i+9 else i+1:=rfl;have N:=pK p i (i:Int) rfl hi;have W:opAt p i=(p.getD i 0).toNat:=rfl;rw[<-W]at N;have L:=RR p i;have v:=λw V=>Pw p i w hi D V;generalize doB o h p d i s=R at a|-;generalize opAt p i=c at N a f L v;go_enter fA func193,ntmps193;go_wp2;refine(Bv w b _ h s μ).mono ?_;intro e w1 X;obtain⟨l,⟨_,x,g,rfl,q⟩|⟨k,n,x,g,rfl,π,q⟩⟩:=X.elim;rotate_left;.go_wp2;refine⟨rfl,?_⟩;rw[a.out];exact lN g l π q
 unfold kG;by_cases m:c<64
 .have O:(c:Int)<64:=O9;rw[aS O9]at f;replace f:=aN f;go_wp2;refine(mW w1 b _ h c x q O9).mono ?_;intro e w2 y;obtain⟨A,⟨_,E,t,rfl,r⟩|⟨k,n,E,t,rfl,F,r⟩⟩:=y.elim;rotate_left;.go_wp2;refine⟨rfl,?_⟩;rw[a.out];refine dF g l ?_;rw[bF m];exact lN t A F r
  unfold kG;go_wp2;refine(qP p i w2 hi D).mono ?_;rintro e w3 ⟨rfl,rfl⟩;rw[f.out];go_wp2;go_ret;rw[a.out];refine dF g l ?_;rw[bF m];exact dF t A ⟨aZ _ _,rfl,r⟩
 have O:¬(c:Int)<64:=O9;by_cases u:c=64
 .subst u;rw[bF rfl]at f;replace f:=aN f;replace v:=λw=>v w rfl;have K:=Pv p i;by_cases C:i+9<=p.length
  .simp only[bF C]at v;generalize G:xf p i=z at v K;replace G:=aN G;go_wp2;refine(v _).mono ?_;rintro e w2 ⟨rfl,rfl⟩;go_wp2;refine(mW w2 b _ h z x q K).mono ?_;intro e w3 Y;obtain⟨M,⟨_,ab,I,rfl,H⟩|⟨k,n,ab,I,rfl,aa,H⟩⟩:=Y.elim;rotate_left;.go_wp2;refine⟨rfl,?_⟩;rw[a.out,G.out];refine dF g l ?_;rw[aS m,bF (by trivial),bF C];exact lN I M aa H
   go_wp2;refine(qP p i w3 hi D).mono ?_;rintro e w4 ⟨rfl,rfl⟩;rw[f.out];go_wp2;go_ret;rw[a.out,G.out];refine dF g l ?_;rw[aS m,bF (by trivial),bF C];exact dF I M ⟨aZ _ _,rfl,H⟩
  .simp only[aS C]at v;go_wp2;refine(v _).mono ?_;rintro e w2 ⟨rfl,rfl⟩;go_wp2;refine⟨rfl,?_⟩;rw[a.out];refine dF g l ?_;rw[aS m,bF (by trivial),aS C];exact⟨aZ _ _,rfl,x,rfl,q⟩
 rw[aS u]at f;replace f:=aN f;by_cases B:c=80
 .subst B;go_wp2;refine(Px p b o h d i x w1 D hi S aU q).mono ?_;intro e w2 y;obtain⟨A,⟨j,E,t,rfl,r⟩|⟨k,n,E,t,rfl,F,r⟩⟩:=y.elim;.unfold Mu;go_wp2;go_ret;rw[a.out];refine dF g l ?_;rw[aS m,aS u,bF (by trivial)];exact y
  .go_wp2;refine⟨rfl,?_⟩;rw[a.out];refine dF g l ?_;rw[aS m,aS u,bF (by trivial)];exact y
 by_cases P:c=81;.subst P;go_wp2;refine⟨rfl,?_⟩;rw[a.out];refine dF g l ?_;rw[aS m,aS u,aS B,bF D9];exact⟨aZ _ _,rfl,x,rfl,q⟩
 by_cases Q:c=82;.subst Q;go_wp2;refine⟨rfl,?_⟩;rw[a.out];refine dF g l ?_;rw[aS m,aS u,aS B,bF D9];exact⟨aZ _ _,rfl,x,rfl,q⟩
 have ae:((c:Int)==81)=false:=by simpa using(by omega:¬(c:Int)=81)
 go_wp2;refine(YJ w1 b o h x q T c L).mono ?_;intro e w2 y;obtain⟨A,⟨_,E,t,rfl,r⟩|⟨k,n,E,t,rfl,F,r⟩⟩:=y.elim;rotate_left;.go_wp2;refine⟨rfl,?_⟩;rw[a.out];refine dF g l ?_;rw[aS m,aS u,aS B,aS O9];exact lN t A F r
 go_wp2;refine(qP p i w2 hi D).mono ?_;rintro e w3 ⟨rfl,rfl⟩;rw[f.out];go_wp2;go_ret;rw[a.out];refine dF g l ?_;rw[aS m,aS u,aS B,aS O9];exact dF t A ⟨aZ _ _,rfl,r⟩
def YL(p b a h)(f:p.length<=1000)(e:a.length<=1000):∀(n i:Nat) (s:St) (w:World),i<p.length->p.length<=i+n->iM w b (mk a) h s->Cv 193 #[.pointer b,(mk p),i] w (aT Mu w b (mk a) h (doM a h p n i s))
 |0,i,s,w,hi,l,_=>by omega
 |n+1,i,s,w,hi,l,k=>abG p b a h (doM a h p n) i s w f hi e (λj s w d c g=>YL p b a h f e n j s w c O9 g) (λj s m s' d c=>by have:=YK a h p n j s m s' d c;omega) k
def runM(J5:List UInt8)(h:Int)(p:List UInt8)(s:St):xG Unit:=nX (doM J5 h p p.length) p.length p.length 0 s
def RV(p b a h s w)(f:p.length<=1000)(l:a.length<=1000)(m:iM w b (mk a) h s):Cv 179 #[.pointer b,(mk p)] w (aT kG w b (mk a) h (runM a h p s)):=by
 go_enter fA func179,ntmps179;go_wp2;have q:=Fx p b a h (doM a h p p.length) 0 p.length s w f O9 (λj s w i c d=>YL p b a h f l p.length j s w c O9 d) (λj s t s' i c d=>by have:=YK a h p p.length j s t s' c d;omega) m;refine q.mono ?_;intro e w1 g;obtain⟨v,⟨_,u,r,rfl,o⟩|⟨k,n,u,r,rfl,x,o⟩⟩:=g.elim;.go_wp2;go_end0;exact g
 .trivial
def CO(key lock J5:List UInt8)(h:Int):Bool:=decide (32<key.length\/32<lock.length\/J5.length≠8\/h<0)
def YN(key lock a h w)(b:CO key lock a h=true):Cv 178 #[(mk key),(mk lock),(mk a),h] w λe w'=>e=.panicked (Mo 1)/\w'=w:=by
 have c:=dL key;have d:=dL lock;have f:=dL a;go_enter fA func178,ntmps178;go_wp2;all_goals first|exact⟨rfl,rfl,rfl⟩|(exfalso;unfold CO at b;rw[decide_eq_true_eq]at b;omega)
def Uf(key lock a h w)(b:CO key lock a h=false):Cv 178 #[(mk key),(mk lock),(mk a),h] w λe w'=>e=.returned (.tuple #[])/\w'=w:=by
 have f:=dL key;have g:=dL lock;have i:=dL a;unfold CO at b;rw[V5]at b;have c:decide ((key.length:Int)>32)=false:=by simp;omega
 have d:decide ((lock.length:Int)>32)=false:=by simp;omega
 go_enter fA func178,ntmps178;go_wp2;go_end0;exact⟨rfl,rfl⟩
def allM(key lock J5:List UInt8)(h:Int):xG Unit:=(runM J5 h key ⟨0,[]⟩).bind λ_ s=>(runM J5 h lock s).bind λ_ s=>abH s
def nY(key lock J5:List UInt8)(h:Int):xG Unit:=if CO key lock J5 h then .bad 1 0 else allM key lock J5 h
def adE(w:World)(b:Nat)(r:xG Unit)(e:Ending)(w':World):Prop:=w.grownBy w' (some b)/\match r with
 |.ok _ s=>e=.returned (.tuple #[])/\w'.cell? ⟨b,2,none⟩=some (.int .i64 s.steps)
 |.bad k n=>e=.panicked (Mo k)/\w'.cell? ⟨b,2,none⟩=some (.int .i64 n)
def iM.c2{w b id h s}(c:iM w b id h s):w.cell? (b,2)=some ↑s.steps:=by have⟨d,a,_⟩:=c.row;exact a.cell 2
def aT.work{w w1 w' b id h r e}(g:w.grownBy w1 (some b))(d:aT kG w1 b id h r e w'):adE w b r e w':=by refine⟨g.trans d.1,?_⟩;have c:=d.2;cases r with
 |ok a s=>exact⟨c.1,c.2.c2⟩
 |bad k n=>obtain⟨f,s,j,i⟩:=c;exact⟨f,by rw[<-j];exact i.c2⟩
def RX:=@aT.work
structure Var(w:World)(b g:Nat)(v:Value):Prop where
 ne:g≠b
 row:∃t,Row w g t [v]
def Var.cell{w b g v}(h:Var w b g v):w.cell? (g,0)=some v:=by have⟨t,a⟩:=h.row;exact a.cell 0
def Var.sQ{w w' b g v}(h:Var w b g v)(c:w.grownBy w' (some b)):Var w' b g v:=by have⟨t,a⟩:=h.row;exact⟨h.ne,t,(c.block g a.lt (λe=>h.ne (by cases e;rfl))).trans a⟩
def YO(key lock a h l y gi gh b w)(Q:h<9223372036854775808)(p:iM w b ⟨#[]⟩ 0 ⟨0,[]⟩)(x:Var w b l (mk key))(c:Var w b y (mk lock))(O:Var w b gi (mk a))(N:Var w b gh (.int .i64 h)):
 Cv 177 #[.pointer l,.pointer y,.pointer gi,.pointer gh,.pointer b] w (adE w b (nY key lock a h)):=by
 have o:Hid (nY key lock a h=if CO key lock a h then .bad 1 0 else allM key lock a h):=rfl;generalize nY key lock a h=R at o|-;have ck:=x.cell;have cl:=c.cell;have ci:=O.cell;have F:=N.cell;cases g:CO key lock a h with
 |true=>go_enter fA func177,ntmps177;go_wp2;refine(YN key lock a h w g).mono ?_;rintro e w1 ⟨rfl,rfl⟩;go_wp2;refine⟨rfl,?_⟩;rw[o.out,bF g];exact⟨aZ _ _,rfl,p.c2⟩
 |false=>
   have m:Hid (R=(runM a h key ⟨0,[]⟩).bind λ_ s=>(runM a h lock s).bind λ_ s=>abH s):=by unfold Hid;rw[o.out,g];rfl
   clear o;have z:=g;unfold CO at z;rw[V5]at z;have⟨L,d,G⟩:=p.row;have c0:=d.r 0;have c1:=d.r 1;have f0:=d.frozen 0;have f1:=d.frozen 1;have T:IntKind.u64.wrap h=h:=by rw[IntKind.wrap_u64];omega
   have μ:¬l=b:=x.ne;have V:¬b=l:=λe=>x.ne e.symm;go_enter fA func177,ntmps177;go_wp2;refine(Uf key lock a h w g).mono ?_;rintro e w1 ⟨rfl,rfl⟩;go_wp2;have f:w1.grownBy ((w1.setCell (b,0) (mk a)).setCell (b,1) (.int .u64 h)) (some b):=(qq _ _ _ _).trans (qq _ _ _ _);have A:iM ((w1.setCell (b,0) (mk a)).setCell (b,1) (.int .u64 h)) b (mk a) h ⟨0,[]⟩:=⟨⟨L,(d.set 0 (mk a)).set 1 (.int .u64 h),G⟩,p.yB,p.steps,O9⟩
   replace c:=c.sQ f;generalize(w1.setCell ⟨b,0,none⟩ (mk a)).setCell ⟨b,1,none⟩ (.int .u64 h)=w2 at f A c|-;clear ck cl ci F c0 c1 f0 f1 d;refine(RV key b a h ⟨0,[]⟩ w2 O9 O9 A).mono ?_;intro e w3 B;obtain⟨i,⟨_,D,j,rfl,t⟩|⟨k,n,D,j,rfl,J,t⟩⟩:=B.elim;rotate_left;.go_wp2;refine⟨rfl,?_⟩;rw[m.out];exact RX f (lN j i J t)
   clear B;replace c:=c.sQ i;have cl:=c.cell;unfold kG;go_wp2;refine(RV lock b a h D w3 O9 O9 t).mono ?_;intro e w4 C;obtain⟨r,⟨_,E,q,rfl,u⟩|⟨k,n,E,q,rfl,K,u⟩⟩:=C.elim;rotate_left;.go_wp2;refine⟨rfl,?_⟩;rw[m.out];exact RX f (dF j i (lN q r K u))
   clear C;unfold kG;go_wp2;refine(YP w4 b _ h E u).mono ?_;intro e W v;obtain⟨P,⟨_,M,I,rfl,H⟩|⟨k,n,M,I,rfl,S,H⟩⟩:=v.elim;.unfold kG;go_wp2;go_end0;rw[m.out];exact RX f (dF j i (dF q r v))
   .go_wp2;refine⟨rfl,?_⟩;rw[m.out];exact RX f (dF j i (dF q r v))
def aez(p x k w)(d:w.cell? p=some (.int .i64 x))(g:w.frozen? p=false):CallsD Vp 190 #[.pointer (some p)] (.panicking (Mo k)) w λe c w'=>e=.returned (.tuple #[])/\c=.panicking [{v:=.iface 45 k,recovered:=true}]/\w'=w.setCell p k:=by
 have f:∀w,(Instr.typeAssert (.iface 45 k) 20 45 false).run Vp w=.ok k w:=λ_=>by kernel_rfl
 refine callsD_of_wpS (fA func190) rfl λa cs b=>?_;apply wpS_seq;apply wpS_region;simp[wpOpsS,go_sem,recoverD,b];refine wpS_of_wp ?_;go_wp2;cases a;simp_all[bodyPostS,results]
def Mv(p w):CallsD Vp 190 #[.pointer (some p)] .returning w λe c w'=>e=.returned (.tuple #[])/\c=.returning/\w'=w:=by
 refine callsD_of_wpS (fA func190) rfl λa cs b=>?_;apply wpS_seq;apply wpS_region;simp[wpOpsS,go_sem,recoverD,b];refine wpS_of_wp ?_;go_wp2;cases a;simp_all[bodyPostS,results]
def yz(r:xG Unit):Int×Nat:=match r with
 |.ok _ s=>(0,s.steps)
 |.bad k n=>(k,n)
def Py(key lock g h l m gi gh b w)(D:h<9223372036854775808)(t:iM w b ⟨#[]⟩ 0 ⟨0,[]⟩)(J:Var w b l (mk key))(K:Var w b m (mk lock))(I:Var w b gi (mk g))(H:Var w b gh (.int .i64 h)):
 Cv 176 #[.func (.func 177) #[] #[.pointer l,.pointer m,.pointer gi,.pointer gh,.pointer b]] w λe w'=>e=.returned ((yz (nY key lock g h)).1)/\w'.cell? (b,2)=some (↑(yz (nY key lock g h)).2)/\w.grownBy w' (some b):=by
 have M:∀fn first cap w,(Instr.makeFunc fn first cap).run Vp w=.ok (.func fn first cap) w:=λ_ _ _ _=>rfl;go_enter_defers fA func176,ntmps176;go_wp2;have o:Below w.heap.size w (w.alloc (.cells #[aA] 45)):=B0.alloc L9 _;have a:=aW w [aA] 45;change Row (w.alloc (.cells #[aA] 45)) _ _ _ at a;have p:b≠w.heap.size:=by have:=t.lt;omega
 have c:=wy o (some b);have v:=t.keep o;have z:=J.sQ c;have A:=K.sQ c;have y:=I.sQ c;have x:=H.sQ c;generalize w.alloc (.cells #[aA] 45)=X at o a v z A y x c|-;obtain⟨E,d⟩:∃E,E=w.heap.size:=⟨_,rfl⟩;rw[<-d]at a p|-;replace d:=aN d;refine(YO key lock g h l m gi gh b X D v z A y x).mono ?_;intro e w1 F;have⟨q,i⟩:=F;replace a:=(q.block E a.lt (λe=>p (by cases e;rfl))).trans a;replace a:Row w1 E 45 [aA]:=a;have B:=a.r 0;have C:=a.frozen 0;have r:=c.trans q;cases j:nY key lock g h with
 |ok u s=>rw[j]at i;obtain⟨rfl,c2⟩:=i;replace c2:=aN c2;have c3:=(a.set 0 ↑aA).r 0;go_wp2;refine pF (f:=190) (args:=#[.pointer (some ⟨E,0,none⟩)]) S8 (by simp[go_sem]) ?_;refine(Mv ⟨E,0,none⟩ _).mono ?_;rintro e G L ⟨rfl,rfl,rfl⟩;simp[Leaves,settle,results,results176,go_sem,c3];rw[j];exact⟨rfl,c2.out,Bw r E (.inr (nS d.out.symm)) 0 _⟩
 |bad k n=>rw[j]at i;obtain⟨rfl,c2⟩:=i;replace c2:=aN c2;go_wp2;refine pF (f:=190) (args:=#[.pointer (some ⟨E,0,none⟩)]) S8 (by simp[go_sem]) ?_;refine(aez ⟨E,0,none⟩ 0 k w1 B C).mono ?_;rintro e G L ⟨rfl,rfl,rfl⟩;have c3:(w1.setCell ⟨E,0,none⟩ k).cell? ⟨E,0,none⟩=some k:=(a.set 0 k).cell 0;simp[Leaves,settle,results,results176,go_sem,c3];rw[j];exact⟨rfl,c2.out,Bw r E (.inr (nS d.out.symm)) 0 _⟩
def I0(key lock c h w)(q:h<9223372036854775808):Cv 165 #[(mk key),(mk lock),(mk c),.int .i64 h] w λe w'=>e=.returned (.tuple #[(yz (nY key lock c h)).1,(yz (nY key lock c h)).2])/\Below w w w':=by
 have v:∀fn first cap w,(Instr.makeFunc fn first cap).run Vp w=.ok (.func fn first cap) w:=λ_ _ _ _=>rfl;go_enter fA func165,ntmps165;go_wp2;have s:∀W,Row W ((w:Nat)+1+1+1+1) 279 [aB,aC,aA,aC,aC,aC,aC,aC,aC,aC,aC,aC,aC,aC,aC,aC,aC,aC,aC,aA]->iM W ((w:Nat)+1+1+1+1) ⟨#[]⟩ 0 ⟨0,[]⟩:=λW n=>⟨⟨List.replicate 16 0,n,rfl⟩,(λx t=>by cases t),D9,D9⟩
 have m:=((((aW w [(mk key)] 9).alloc (.cells #[(mk lock)] 9)).alloc (.cells #[(mk c)] 9)).alloc (.cells #[h] 3)).alloc (.cells #[aB,aC,aA,aC,aC,aC,aC,aC,aC,aC,aC,aC,aC,aC,aC,aC,aC,aC,aC,aA] 279);have k2:=(((aW (w.alloc (.cells #[(mk key)] 9)) [(mk lock)] 9).alloc (.cells #[(mk c)] 9)).alloc (.cells #[h] 3)).alloc (.cells #[aB,aC,aA,aC,aC,aC,aC,aC,aC,aC,aC,aC,aC,aC,aC,aC,aC,aC,aC,aA] 279);have i:=((aW ((w.alloc (.cells #[(mk key)] 9)).alloc (.cells #[(mk lock)] 9)) [(mk c)] 9).alloc (.cells #[h] 3)).alloc (.cells #[aB,aC,aA,aC,aC,aC,aC,aC,aC,aC,aC,aC,aC,aC,aC,aC,aC,aC,aC,aA] 279);have j:=(aW (((w.alloc (.cells #[(mk key)] 9)).alloc (.cells #[(mk lock)] 9)).alloc (.cells #[(mk c)] 9)) [h] 3).alloc (.cells #[aB,aC,aA,aC,aC,aC,aC,aC,aC,aC,aC,aC,aC,aC,aC,aC,aC,aC,aC,aA] 279);have l:=aW ((((w.alloc (.cells #[(mk key)] 9)).alloc (.cells #[(mk lock)] 9)).alloc (.cells #[(mk c)] 9)).alloc (.cells #[h] 3)) [aB,aC,aA,aC,aC,aC,aC,aC,aC,aC,aC,aC,aC,aC,aC,aC,aC,aC,aC,aA] 279;simp only[bO]at k2 i j l;have g:Below w w (((((w.alloc (.cells #[(mk key)] 9)).alloc (.cells #[(mk lock)] 9)).alloc (.cells #[(mk c)] 9)).alloc (.cells #[h] 3)).alloc (.cells #[aB,aC,aA,aC,aC,aC,aC,aC,aC,aC,aC,aC,aC,aC,aC,aC,aC,aC,aC,aA] 279)):=((((B0.alloc L9 _).alloc S8 _).alloc (by simp;omega) _).alloc (by simp;omega) _).alloc (by simp;omega) _
 generalize((((w.alloc (.cells #[(mk key)] 9)).alloc (.cells #[(mk lock)] 9)).alloc (.cells #[(mk c)] 9)).alloc (.cells #[h] 3)).alloc (.cells #[aB,aC,aA,aC,aC,aC,aC,aC,aC,aC,aC,aC,aC,aC,aC,aC,aC,aC,aC,aA] 279)=X at m k2 i j l g|-;have o:(w:Nat)<=(w:Nat)+1+1+1+1:=O9;have v1:Var X ((w:Nat)+1+1+1+1) w (mk key):=⟨O9,_,m⟩;have v2:Var X ((w:Nat)+1+1+1+1) ((w:Nat)+1) (mk lock):=⟨O9,_,k2⟩;have v3:Var X ((w:Nat)+1+1+1+1) ((w:Nat)+1+1) (mk c):=⟨O9,_,i⟩;have u:Var X ((w:Nat)+1+1+1+1) ((w:Nat)+1+1+1) h:=⟨O9,_,j⟩;have r:=s X l;generalize(w:Nat)+1+1+1+1=b at*;refine(Py key lock c h _ _ _ _ b X q r v1 v2 v3 u).mono ?_;rintro e w1 ⟨rfl,c2,p⟩;have d:=g.grown p g.size (λk e=>by cases e;exact o);generalize f:yz (nY key lock c h)=a at c2|-;replace f:=aN f;go_wp2;go_quiet (fail);go_wp2;go_ret2;rw[f.out];exact⟨rfl,d.os,d.tape,d.output,d.size,d.block⟩
end
end Go.Proofs.aH
