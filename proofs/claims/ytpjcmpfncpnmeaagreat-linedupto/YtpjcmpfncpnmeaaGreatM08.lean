import Derived.Test.YtpjcmpfncpnmeaaGreatM07
set_option linter.all false
set_option maxHeartbeats 4000000
set_option maxRecDepth 100000
namespace Go.Proofs.aH
open Go.RowKit
section
variable[Go.Proofs.VB]
def opAt(p:List UInt8)(i:Nat):Nat:=(p.getD i 0).toNat
def jD(p:List UInt8)(i:Nat):Nat:=if opAt p i=64 then i+9 else i+1
def Qc(p i):opAt p i<256:=(p.getD i 0).toNat_lt
def qx(p)(i:Nat)(w)(hi:i<p.length)(f:p.length<=1000):Calls aI.prog 264 #[(mk p),i] w λe w'=>e=.returned (jD p i)/\w'=w:=by
 have d:=py p i (i:Int) rfl hi;have a:jD p i=if(p.getD i 0).toNat=64 then i+9 else i+1:=rfl;generalize(p.getD i 0).toNat=c at d a;by_cases b:c=64;.subst b;replace a:=aJ a;go_enter aI.func264,Tryz.ntmps264;go_wp2_with fail;go_ret;rw[a.out];exact⟨rfl,rfl⟩
 .rw[aX b]at a;replace a:=aJ a;go_enter aI.func264,Tryz.ntmps264;go_wp2_with fail;go_ret;rw[a.out];exact⟨rfl,rfl⟩
def wu(p:List UInt8)(i:Nat):Int:=fI ((p.drop (i+1)).take 8)
def oK(p:List UInt8):Nat->Nat->Nat->Option Nat->Option (Nat×Nat)
 |0,_,_,_=>none
 |f+1,i,d,m=>if i<p.length then if opAt p i=80 then oK p f (i+1) (d+1) m
    else if opAt p i=82/\0<d then oK p f (i+1) (d -1) m
    else if 0<d then oK p f (jD p i) d m
    else if opAt p i=81 then(if m.isSome then none else oK p f (i+1) 0 (some i))
    else if opAt p i=82 then some (m.getD i,i)
    else oK p f (jD p i) 0 m
   else none
def Wi(m:Option Nat):Int:=match m with|some k=>k|none=>-1
def acg(a)(b:Nat)(h0:0<=a)(e:a<72057594037927936)(c:b<256):bits .or .u64 (a*256) (b:Int)=a*256+(b:Int):=by obtain⟨n,rfl⟩:=wU h0;have d:n*256<18446744073709551616:=O9;have f:=nat_join8 (n*256) b O9 c;show IntKind.u64.wrap ((BitVec.ofInt 64 ((n:Int)*256)|||BitVec.ofInt 64 (b:Int)).toNat:Int)=_;rw[BitVec.toNat_or,show((n:Int)*256)=((n*256:Nat):Int)from by simp,ofInt_u64 (n*256) d,ofInt_u64 b O9,IntKind.wrap_u64];omega
def Qd(t)(h:t.length<=7):0<=fI t/\fI t<72057594037927936:=by obtain⟨a,b⟩:=Ej t;refine⟨a,CL b ?_⟩;have c:t.length=0\/t.length=1\/t.length=2\/t.length=3\/t.length=4\/t.length=5\/t.length=6\/t.length=7:=O9;obtain e|e|e|e|e|e|e|e:=c<;>rw[e]<;>decide
def ZC(t)(h:t.length<=8):0<=fI t/\fI t<18446744073709551616:=by
 by_cases c:t.length<=7;.have:=Qd t c;omega
 .obtain⟨b,a⟩:=Ej t;rw[show t.length=8 from by omega]at a;exact⟨b,a⟩
def Nv(p i):0<=wu p i/\wu p i<18446744073709551616:=ZC _ (by rw[qd];omega)
def Nw(p i w)(hi:i<p.length)(s:p.length<=1000)(r:opAt p i=64):Calls aI.prog 261 #[(mk p),i] w λe w'=>(if i+9<=p.length then e=.returned (.int .u64 (wu p i))else e=.panicked (KJ 2))/\w'=w:=by
 have B:=dC p;have l:jD p i=i+9:=by unfold jD;rw[if_pos r]
 go_enter aI.func261,Tryz.ntmps261;go_wp2_with fail;refine(qx p i w hi s).mono ?_;rintro e w1 ⟨rfl,rfl⟩;rw[l];by_cases y:i+9<=p.length
 .have o:¬((i+9:Nat):Int)>(p.length:Int):=O9;go_wp2_with fail;go_loopw [5,14] (λn j wr=>∃k:Nat,k<=8/\j=↑k/\n=.int .u64 (fI (((p.drop (i+1)).take 8).take k))/\wr=w1) (λ_ j _=>8 -(intOf j).toNat);case atStart=>exact⟨0,O9,rfl,rfl,rfl⟩
  case round=>
   obtain⟨k,x,rfl,rfl,rfl⟩:=hrel;have g:((p.drop (i+1)).take 8).length=8:=by rw[qd,CQ];omega
   have f:∀j,j<8->((p.drop (i+1)).take 8).getD j 0=p.getD (i+1+j) 0:=λj v=>by grind
   by_cases q:k<8
   .have b:=py p (i+1+k) ((i:Int)+1+(k:Int)) O9 O9;rw[<-f k q]at b;generalize(p.drop (i+1)).take 8=t at g b;have a:=Qd (t.take k) (by rw[qd];omega);have d:Hid (fI (t.take (k+1))=fI (t.take k)*256+((t.getD k 0).toNat:Int)):=by unfold Hid;rw[uO (by omega:k<t.length),Ek];simp[List.getD,show k<t.length from by omega]
    have u:=(t.getD k 0).toNat_lt;generalize(t.getD k 0).toNat=c at b d u;generalize z:fI (t.take k)=h at d a;have A:IntKind.u64.wrap (h*256)=h*256:=by rw[IntKind.wrap_u64];omega
    clear g f;go_wp2_with fail;go_roundw;case rel=>exact⟨k+1,O9,by go_num,by rw[d.out,acg _ _ a.1 a.2 O9],trivial⟩
    case measure=>simp[intOf];omega
   .have m:k=8:=O9;subst m;rw[List.take_take,Nat.min_self];go_wp2_with fail;go_ret;exact⟨rfl,rfl⟩
 .have o:((i+9:Nat):Int)>(p.length:Int):=O9;go_wp2_with fail;exact⟨rfl,rfl,rfl⟩
def Wj(p)(i:Nat)(w)(hi:i<p.length)(H:p.length<=1000):Calls aI.prog 265 #[(mk p),i] w λe w'=>(match oK p p.length (i+1) 0 none with|some (m,n)=>e=.returned (.tuple #[m,n])|none=>e=.panicked (KJ 5))/\w'=w:=by
 have P:=dC p;generalize a:oK p p.length (i+1) 0 none=E;go_enter aI.func265,Tryz.ntmps265;go_wp2_with fail;go_loopw [4,6,7] (λmv A iv wr=>∃(j d f:Nat) (m:Option Nat),iv=↑j/\A=↑d/\mv=↑(Wi m)/\wr=w/\p.length<=j+f/\j<=p.length+9/\d<=j/\(∀x,m=some x->x<p.length)/\Hid (oK p f j d m=E)) (λ_ _ iv _=>p.length+9 -(intOf iv).toNat);case atStart=>exact⟨i+1,0,p.length,none,rfl,rfl,rfl,rfl,O9,O9,O9,(λ_ h=>by cases h),a⟩
 case round=>
  clear a;obtain⟨j,d,f,m,rfl,rfl,rfl,rfl,N,O,L,r,a⟩:=hrel;by_cases o:j<p.length
  .obtain⟨f,rfl⟩:∃f',f=f'+1:=⟨f -1,O9⟩;have y:=py p j (j:Int) rfl o;have g:=qx p j wr o H;have b:jD p j=if opAt p j=64 then j+9 else j+1:=rfl;replace a:=a.out;rw[oK,bM o]at a;have z:opAt p j=(p.getD j 0).toNat:=rfl;rw[<-z]at y;have C:=Qc p j;generalize opAt p j=c at y a b C;clear z;have G:(j:Int)<(p.length:Int):=O9;by_cases u:c=80
   .subst u;rw[bM rfl]at a;rw[aX D9]at b;replace a:=aJ a;replace b:=aJ b;go_wp2_with fail;refine g.mono ?_;rintro e w2 ⟨rfl,rfl⟩;rw[b.out];go_wp2_with fail;go_roundw;case rel=>exact⟨j+1,d+1,f,m,by go_num,by go_num,rfl,trivial,O9,O9,O9,r,a⟩
    case measure=>simp[intOf];omega
   .rw[aX u]at a;have J:¬(c:Int)=80:=O9;by_cases q:0<d
    .have M:(d:Int)>0:=O9;by_cases l:c=82
     .subst l;rw[bM ⟨rfl,q⟩]at a;rw[aX D9]at b;replace a:=aJ a;replace b:=aJ b;go_wp2_with fail;refine g.mono ?_;rintro e w2 ⟨rfl,rfl⟩;rw[b.out];go_wp2_with fail;go_roundw;case rel=>exact⟨j+1,d -1,f,m,by go_num,by rw[Int.ofNat_sub O9];rfl,rfl,trivial,O9,O9,O9,r,a⟩
      case measure=>simp[intOf];omega
     .have D:¬(c:Int)=82:=O9;rw[aX (λh=>l h.1),bM q]at a;have t:j<jD p j/\jD p j<=j+9:=by rw[b];split<;>omega
      clear b;generalize jD p j=s at g a t;replace a:=aJ a;go_wp2_with fail;refine g.mono ?_;rintro e w2 ⟨rfl,rfl⟩;go_wp2_with fail;go_roundw;case rel=>exact⟨s,d,f,m,rfl,rfl,rfl,trivial,O9,O9,O9,r,a⟩
      case measure=>simp[intOf];omega
    .have F:d=0:=O9;subst F;rw[aX (λh=>q h.2),aX q]at a;by_cases v:c=81;.subst v;rw[bM rfl]at a;rw[aX D9]at b;cases m with
      |none=>
        replace a:Hid (oK p f (j+1) 0 (some j)=E):=a;replace b:=aJ b;simp only[Wi];go_wp2_with fail;refine g.mono ?_;rintro e w2 ⟨rfl,rfl⟩;rw[b.out];go_wp2_with fail;go_roundw;case rel=>exact⟨j+1,0,f,some j,by go_num,rfl,rfl,trivial,O9,O9,O9,(λx I=>by cases I;exact o),a⟩
        case measure=>simp[intOf];omega
      |some k=>replace a:none=E:=a;subst a;simp only[Wi];go_wp2_with fail;exact⟨rfl,rfl,rfl⟩
     .have K:¬(c:Int)=81:=O9;rw[aX v]at a;by_cases l:c=82;.subst l;rw[bM rfl]at a;subst a;cases m with
       |none=>simp only[Wi];go_wp2_with fail;go_ret2;exact⟨rfl,rfl⟩
       |some k=>simp only[Wi];go_wp2_with fail;go_ret2;exact⟨rfl,rfl⟩
      .have D:¬(c:Int)=82:=O9;rw[aX l]at a;have t:j<jD p j/\jD p j<=j+9:=by rw[b];split<;>omega
       clear b;generalize jD p j=s at g a t;replace a:=aJ a;go_wp2_with fail;refine g.mono ?_;rintro e w2 ⟨rfl,rfl⟩;go_wp2_with fail;go_roundw;case rel=>exact⟨s,0,f,m,rfl,rfl,rfl,trivial,O9,O9,O9,r,a⟩
       case measure=>simp[intOf];omega
  .have B:E=none:=by rw[<-a.out];cases f with
    |zero=>rfl
    |succ f=>rw[oK,aX o]
   subst B;have G:¬(j:Int)<(p.length:Int):=O9;go_wp2_with fail;exact⟨rfl,rfl,rfl⟩
end
section
def Wk:=@Calls.regrown_of
variable[Go.Proofs.VB]
def vz.bind{α β:Type}(r:vz α)(f:α->St->vz β):vz β:=match r with
 |.ok a s=>f a s
 |.bad e n=>.bad e n
def iE.keep{w w' b id h s}(a:iE w b id h s)(d:Below w w w'):iE w' b id h s:=by obtain⟨f,c,e⟩:=a.row;exact⟨⟨f,c.keep d c.lt,e⟩,a.xJ,a.steps,a.Aj⟩
def vA{w w'}(a:Below w.heap.size w w')(r):w.grownBy w' r:=⟨a.os,a.tape,a.output,a.size,λk b _=>a.block k b⟩
def Post.elim{α P w w' b id h}{r:vz α}{e}(i:Post P w b id h r e w'):w.grownBy w' (some b)/\((∃a s,r=.ok a s/\e=.returned (P a)/\iE w' b id h s)\/∃k n s,r=.bad k n/\e=.panicked (KJ k)/\s.steps=n/\iE w' b id h s):=by
 obtain⟨f,c⟩:=i;refine⟨f,?_⟩;cases r with
 |ok a s=>exact .inl ⟨a,s,rfl,c.1,c.2⟩
 |bad k n=>obtain⟨d,s,j,g⟩:=c;exact .inr ⟨k,n,s,rfl,d,j,g⟩
def Post.raise{α β P w w' b id h k n s}{r:vz α}{f:α->St->vz β}(d:r=.bad k n)(a:w.grownBy w' (some b))(e:s.steps=n)(c:iE w' b id h s):Post P w b id h (r.bind f) (.panicked (KJ k)) w':=by subst d;exact⟨a,rfl,s,e,c⟩
def lN:=@Post.raise
def Post.next{α β P w w1 w' b id h s a}{r:vz α}{f:α->St->vz β}{e}(g:r=.ok a s)(d:w.grownBy w1 (some b))(c:Post P w1 b id h (f a s) e w'):Post P w b id h (r.bind f) e w':=by subst g;exact⟨d.trans c.1,c.2⟩
def cW:=@Post.next
def KL(GK:List UInt8)(op:Nat)(x y:Int):Int:=if op=68 then IntKind.u64.wrap (x+y)
 else if op=69 then IntKind.u64.wrap (x -y)
 else if op=70 then IntKind.u64.wrap (x*y)
 else if op=71 then iP (x==y)
 else if op=72 then iP (decide (x<y))
 else iP (x==hN (be y 8++GK))
def El(b):0<=iP b/\iP b<18446744073709551616:=by cases b<;>decide
def ZE(x):0<=IntKind.u64.wrap x/\IntKind.u64.wrap x<18446744073709551616:=by rw[IntKind.wrap_u64];omega
def ZF(a op x y):0<=KL a op x y/\KL a op x y<18446744073709551616:=by
 unfold KL;repeat' split
 all_goals first|exact ZE _|exact El _
def iE.c0{w b id h s}(c:iE w b id h s):w.cell? (b,0)=some ↑id:=by obtain⟨d,a,_⟩:=c.row;exact a.cell 0
def iE.c1{w b id h s}(c:iE w b id h s):w.cell? (b,1)=some (.int .u64 h):=by obtain⟨d,a,_⟩:=c.row;exact a.cell 1
def iE.lt{w b id h s}(c:iE w b id h s):b<w:=by obtain⟨d,a,_⟩:=c.row;exact a.lt
def KM(w b a h s)(u:iE w b (mk a) h s)(r:a.length<=1000)(op:Nat)(v:op=68\/op=69\/op=70\/op=71\/op=72\/op=75)(x y)(_hx:0<=x/\x<18446744073709551616)(m:0<=y/\y<18446744073709551616):Calls aI.prog 267 #[.pointer b,.int .u8 op,.int .u64 x,.int .u64 y] w λe w'=>e=.returned (.int .u64 (KL a op x y))/\Below w w w':=by
 have c0:=u.c0;obtain rfl|rfl|rfl|rfl|rfl|rfl:=v;iterate 3 .go_enter aI.func267,Tryz.ntmps267;go_wp2_with fail;go_ret;exact⟨rfl,B0⟩
 iterate 2 .go_enter aI.func267,Tryz.ntmps267;go_wp2_with fail;refine(Ak _ _).mono ?_;rintro e w1 ⟨rfl,rfl⟩;go_wp2_with fail;go_ret;exact⟨rfl,B0⟩
 .have c:Hid (KL a 75 x y=iP (x==hN (be y 8++a))):=rfl;have o:=λd os=>Wk (pG y (Go.Sort.grow (redrawn w d) os) m.1 m.2);have k:=bI y 8;generalize be y 8=t at c o k;have E:(mk t).size=8:=by rw[dC,k]
  have D:(mk a).size<=1000:=by rw[dC];exact r
  have q:∀d os,Calls aI.prog 131 #[(mk t++mk a)] (Go.Sort.grow (redrawn w d) os) λe i=>e=.returned (.int .u64 (hN (t++a)))/\∃p:Regrown,i=Go.Sort.grow (redrawn w p.d) p.os:=λd os=>by rw[nJ];exact Wk ((q9 (t++a) _ (by rw[cK];omega)).mono λe w' ⟨f,g⟩=>⟨f,by rw[g];exact B0⟩)
  generalize hN (t++a)=z at c q;have C:∀d os,Calls aI.prog 268 #[.bool (x==z)] (Go.Sort.grow (redrawn w d) os) λe i=>e=.returned (.int .u64 (iP (x==z)))/\∃p:Regrown,i=Go.Sort.grow (redrawn w p.d) p.os:=λd os=>Wk ((Ak (x==z) _).mono λe w' ⟨f,g⟩=>⟨f,by rw[g];exact B0⟩)
  replace c0:=cell_regrown c0;go_enter aI.func267,Tryz.ntmps267;go_wp2_with fail;refine wp_region_quiet_below Em K8 ?_;repeat(go_big_quiet_step (first|(go_at_call 158;exact o _ _)|(go_at_call 131;exact q _ _)|(go_at_call 268;exact C _ _)))
  refine wpQuiet_nil ?_;intro _ A;obtain⟨⟨j,n⟩,B⟩:=A;subst B;have l:=below_regrown w j n;generalize Go.Sort.grow (redrawn w j) n=w1 at l|-;go_wp2_with fail;go_ret;rw[c.out];exact⟨rfl,l⟩
def GL(GK:List UInt8)(h:Int)(op:Nat)(s:St):vz Unit:=if op=65 then(kL s).bind λx s=>(pH x s).bind λ_ s=>pH x s
 else if op=66 then(kL s).bind λ_ s=>.ok () s
 else if op=67 then(kL s).bind λy s=>(kL s).bind λx s=>(pH y s).bind λ_ s=>pH x s
 else if op=68\/op=69\/op=70\/op=71\/op=72\/op=75 then(kL s).bind λy s=>(kL s).bind λx s=>pH (KL GK op x y) s
 else if op=73 then(kL s).bind λx s=>pH (iP (x==0)) s
 else if op=74 then(kL s).bind λx s=>pH (hN (be x 8)) s
 else if op=76 then(kL s).bind λx s=>if x=0 then .bad 6 s.steps else .ok () s
 else if op=77 then pH h s
 else .bad 2 s.steps
def p7{s s' x}(h:kL s=.ok x s'):s.l=x::s'.l/\s.steps=s'.steps:=by
 unfold kL at h;split at h;.cases h
 .grind
def Wl(w b o h s)(l:iE w b (mk o) h s):Calls aI.prog 263 #[.pointer b,.int .u8 65] w (Post jW w b (mk o) h ((kL s).bind λx s=>(pH x s).bind λ_ s=>pH x s)):=by
 go_enter aI.func263,Tryz.ntmps263;go_wp2_with fail;refine(kR w b _ h s l).mono ?_;intro e w1 t;obtain⟨c,⟨x,p,a,rfl,g⟩|⟨k,n,p,a,rfl,y,g⟩⟩:=t.elim;rotate_left;.exact⟨rfl,lN a c y g⟩
 have m:=l.xJ x (by rw[(p7 a).1];simp);go_wp2_with fail;refine(mJ w1 b _ h x p g m).mono ?_;intro e w2 u;obtain⟨f,⟨_,q,d,rfl,i⟩|⟨k,n,q,d,rfl,z,i⟩⟩:=u.elim;rotate_left;.exact⟨rfl,cW a c (lN d f z i)⟩
 go_wp2_with fail;refine(mJ w2 b _ h x q i m).mono ?_;intro e w3 j;obtain⟨B,⟨_,A,v,rfl,r⟩|⟨k,n,A,v,rfl,C,r⟩⟩:=j.elim;.go_wp2_with fail;go_end0;exact cW a c (cW d f (j))
 .exact⟨rfl,cW a c (cW d f (j))⟩
def Sq(w b f h s)(g:iE w b (mk f) h s):Calls aI.prog 263 #[.pointer b,.int .u8 66] w (Post jW w b (mk f) h ((kL s).bind λ_ s=>.ok () s)):=by
 go_enter aI.func263,Tryz.ntmps263;go_wp2_with fail;refine(kR w b _ h s g).mono ?_;intro e w1 i;obtain⟨d,⟨x,l,c,rfl,a⟩|⟨k,n,l,c,rfl,j,a⟩⟩:=i.elim;rotate_left;.exact⟨rfl,lN c d j a⟩
 go_wp2_with fail;go_end0;exact cW c d ⟨aZ _ _,rfl,a⟩
def Sr(w b q h s)(p:iE w b (mk q) h s):Calls aI.prog 263 #[.pointer b,.int .u8 67] w (Post jW w b (mk q) h ((kL s).bind λy s=>(kL s).bind λx s=>(pH y s).bind λ_ s=>pH x s)):=by
 go_enter aI.func263,Tryz.ntmps263;go_wp2_with fail;refine(kR w b _ h s p).mono ?_;intro e w1 z;obtain⟨d,⟨y,r,a,rfl,g⟩|⟨k,n,r,a,rfl,D,g⟩⟩:=z.elim;rotate_left;.exact⟨rfl,lN a d D g⟩
 have H:=p.xJ y (by rw[(p7 a).1];simp);go_wp2_with fail;refine(kR w1 b _ h r g).mono ?_;intro e w2 A;obtain⟨f,⟨x,t,c,rfl,l⟩|⟨k,n,t,c,rfl,E,l⟩⟩:=A.elim;rotate_left;.exact⟨rfl,cW a d (lN c f E l)⟩
 have G:=g.xJ x (by rw[(p7 c).1];simp);go_wp2_with fail;refine(mJ w2 b _ h y t l H).mono ?_;intro e w3 B;obtain⟨j,⟨_,u,i,rfl,m⟩|⟨k,n,u,i,rfl,F,m⟩⟩:=B.elim;rotate_left;.exact⟨rfl,cW a d (cW c f (lN i j F m))⟩
 go_wp2_with fail;refine(mJ w3 b _ h x u m G).mono ?_;intro e w4 o;obtain⟨J,⟨_,I,C,rfl,v⟩|⟨k,n,I,C,rfl,K,v⟩⟩:=o.elim;.go_wp2_with fail;go_end0;exact cW a d (cW c f (cW i j (o)))
 .exact⟨rfl,cW a d (cW c f (cW i j (o)))⟩
def Wm(w b g h s)(j:iE w b (mk g) h s):Calls aI.prog 263 #[.pointer b,.int .u8 73] w (Post jW w b (mk g) h ((kL s).bind λx s=>pH (iP (x==0)) s)):=by
 go_enter aI.func263,Tryz.ntmps263;go_wp2_with fail;refine(kR w b _ h s j).mono ?_;intro e w1 m;obtain⟨c,⟨x,i,a,rfl,d⟩|⟨k,n,i,a,rfl,p,d⟩⟩:=m.elim;rotate_left;.exact⟨rfl,lN a c p d⟩
 unfold Cg;go_wp2_with fail;refine(Ak _ _).mono ?_;rintro e w2 ⟨rfl,rfl⟩;go_wp2_with fail;refine(mJ w2 b _ h (iP (x==0)) i d (El _)).mono ?_;intro e w3 f;obtain⟨r,⟨_,q,o,rfl,l⟩|⟨k,n,q,o,rfl,t,l⟩⟩:=f.elim;.go_wp2_with fail;go_end0;exact cW a c (f)
 .exact⟨rfl,cW a c (f)⟩
def KN(w b f h s)(i:iE w b (mk f) h s):Calls aI.prog 263 #[.pointer b,.int .u8 76] w (Post jW w b (mk f) h ((kL s).bind λx s=>if x=0 then .bad 6 s.steps else .ok () s)):=by
 go_enter aI.func263,Tryz.ntmps263;go_wp2_with fail;refine(kR w b _ h s i).mono ?_;intro e w1 j;obtain⟨d,⟨x,g,c,rfl,a⟩|⟨k,n,g,c,rfl,l,a⟩⟩:=j.elim;rotate_left;.exact⟨rfl,lN c d l a⟩
 unfold Cg;by_cases h0:x=0;.subst h0;go_wp2_with fail;exact⟨rfl,cW c d ⟨aZ _ _,rfl,g,rfl,a⟩⟩
 .go_wp2_with fail;go_end0;refine cW c d ?_;rw[aX h0];exact⟨aZ _ _,rfl,a⟩
def KO(w b d h s)(a:iE w b (mk d) h s):Calls aI.prog 263 #[.pointer b,.int .u8 77] w (Post jW w b (mk d) h (pH h s)):=by
 have c1:=a.c1;go_enter aI.func263,Tryz.ntmps263;go_wp2_with fail;refine(mJ w b _ h h s a a.Aj).mono ?_;intro e w1 c;obtain⟨j,⟨_,i,g,rfl,f⟩|⟨k,n,i,g,rfl,l,f⟩⟩:=c.elim;.go_wp2_with fail;go_end0;exact c
 .trivial
def sN(w b c h s)(t:iE w b (mk c) h s)(A:c.length<=1000)(op:Nat)(D:op=68\/op=69\/op=70\/op=71\/op=72\/op=75):Calls aI.prog 263 #[.pointer b,.int .u8 op] w (Post jW w b (mk c) h ((kL s).bind λy s=>(kL s).bind λx s=>pH (KL c op x y) s)):=by
 obtain rfl|rfl|rfl|rfl|rfl|rfl:=D;all_goals
  go_enter aI.func263,Tryz.ntmps263;go_wp2_with fail;refine(kR w b _ h s t).mono ?_;intro e w1 E;obtain⟨i,⟨y,u,a,rfl,j⟩|⟨k,n,u,a,rfl,H,j⟩⟩:=E.elim;rotate_left;.go_wp2_with fail;exact⟨rfl,lN a i H j⟩
  have K:=t.xJ y (by rw[(p7 a).1];simp);unfold Cg;go_wp2_with fail;refine(kR w1 b _ h u j).mono ?_;intro e w2 F;obtain⟨m,⟨x,p,f,rfl,l⟩|⟨k,n,p,f,rfl,I,l⟩⟩:=F.elim;rotate_left;.go_wp2_with fail;exact⟨rfl,cW a i (lN f m I l)⟩
  have J:=j.xJ x (by rw[(p7 f).1];simp);unfold Cg;go_wp2_with fail;refine(KM w2 b c h p l A _ D9 x y J K).mono ?_;rintro e w3 ⟨rfl,q⟩;have B:=l.keep q;have r:=(vA q (some b));generalize g:KL c _ x y=z;have v:0<=z/\z<18446744073709551616:=by rw[<-g];exact ZF ..
  replace g:=aJ g;go_wp2_with fail;refine(mJ w3 b _ h z p B v).mono ?_;intro e w4 d;obtain⟨M,⟨_,L,G,rfl,C⟩|⟨k,n,L,G,rfl,N,C⟩⟩:=d.elim;.unfold jW;go_wp2_with fail;go_end0;have o:=g.out;subst o;exact cW a i (cW f m ⟨r.trans d.1,d.2⟩)
  .go_wp2_with fail;have o:=g.out;subst o;exact⟨rfl,cW a i (cW f m ⟨r.trans d.1,d.2⟩)⟩
def Ss(w b v h s)(r:iE w b (mk v) h s):Calls aI.prog 263 #[.pointer b,.int .u8 74] w (Post jW w b (mk v) h ((kL s).bind λx s=>pH (hN (be x 8)) s)):=by
 go_enter aI.func263,Tryz.ntmps263;go_wp2_with fail;refine(kR w b _ h s r).mono ?_;intro e w1 C;obtain⟨i,⟨x,y,c,rfl,j⟩|⟨k,n,y,c,rfl,E,j⟩⟩:=C.elim;rotate_left;.exact⟨rfl,lN c i E j⟩
 have u:=r.xJ x (by rw[(p7 c).1];simp);go_wp2_with fail;refine(pG x w1 u.1 u.2).mono ?_;rintro e w2 ⟨rfl,o⟩;have g:=q9 (be x 8) w2 (by rw[bI];omega);have p:=uA (be x 8);generalize d:hN (be x 8)=z at g p|-;replace d:=aJ d;generalize f:be x 8=t at g d|-;replace f:=aJ f;go_wp2_with fail;refine g.mono ?_;rintro e w3 ⟨rfl,rfl⟩;have A:=j.keep o;have q:=(vA o (some b));go_wp2_with fail;refine(mJ w3 b _ h z y A p).mono ?_;intro e w4 a;obtain⟨G,⟨_,F,D,rfl,B⟩|⟨k,n,F,D,rfl,H,B⟩⟩:=a.elim;.go_wp2_with fail;go_end0;have m:=d.out;have l:=f.out;subst m l;exact cW c i ⟨q.trans a.1,a.2⟩
 .have m:=d.out;have l:=f.out;subst m l;exact⟨rfl,cW c i ⟨q.trans a.1,a.2⟩⟩
def Su(w b a h s)(c:iE w b (mk a) h s)(op:Nat)(d:op<65\/77<op)(_hl:op<256):Calls aI.prog 263 #[.pointer b,.int .u8 op] w (Post jW w b (mk a) h (.bad 2 s.steps)):=by
 go_enter aI.func263,Tryz.ntmps263;go_wp2_with fail;exact⟨rfl,aZ _ _,rfl,s,rfl,c⟩
def Wn(w b a h s)(c:iE w b (mk a) h s)(d:a.length<=1000)(op:Nat)(g:op<256):Calls aI.prog 263 #[.pointer b,.int .u8 op] w (Post jW w b (mk a) h (GL a h op s)):=by
 by_cases i:op<65\/77<op
 .have e:GL a h op s=.bad 2 s.steps:=by unfold GL;rw[aX O9,aX O9,aX O9,aX O9,aX O9,aX O9,aX O9,aX O9]
  rw[e];exact Su w b a h s c op i g
 .have f:op=65\/op=66\/op=67\/op=68\/op=69\/op=70\/op=71\/op=72\/op=73\/op=74\/op=75\/op=76\/op=77:=O9;obtain rfl|rfl|rfl|rfl|rfl|rfl|rfl|rfl|rfl|rfl|rfl|rfl|rfl:=f;.exact Wl w b a h s c
  .exact Sq w b a h s c
  .exact Sr w b a h s c
  .exact sN w b a h s c d 68 D9
  .exact sN w b a h s c d 69 D9
  .exact sN w b a h s c d 70 D9
  .exact sN w b a h s c d 71 D9
  .exact sN w b a h s c d 72 D9
  .exact Wm w b a h s c
  .exact Ss w b a h s c
  .exact sN w b a h s c d 75 D9
  .exact KN w b a h s c
  .exact KO w b a h s c
end
section
variable[Go.Proofs.VB]
def jG (d : Nat -> St -> vz Nat) (to : Nat) : Nat -> Nat -> St -> vz Unit
 | 0, _, s => .ok () s
 | k + 1, i, s => if i < to then (d i s).bind λ j s' => jG d to k j s' else .ok () s
def tM(d:Nat->St->vz Nat)(p:List UInt8)(i:Nat)(s:St):vz Nat:=match oK p p.length (i+1) 0 none with
 |none=>.bad 5 s.steps
 |some (m,e)=>(kL s).bind λx s=>if x≠0 then(jG d m (m -(i+1)) (i+1) s).bind λ_ s=>(sO s).bind λ_ s=>.ok (e+1) s
   else if m<e then(jG d e (e -(m+1)) (m+1) s).bind λ_ s=>(sO s).bind λ_ s=>.ok (e+1) s
   else .ok (e+1) s
def ZG(GK:List UInt8)(h:Int)(p:List UInt8)(d:Nat->St->vz Nat)(i:Nat)(s:St):vz Nat:=(sO s).bind λ_ s=>if opAt p i<64 then(pH (opAt p i) s).bind λ_ s=>.ok (i+1) s
   else if opAt p i=64 then(if i+9<=p.length then(pH (wu p i) s).bind λ_ s=>.ok (i+9) s else .bad 2 s.steps)
   else if opAt p i=80 then tM d p i s
   else if opAt p i=81\/opAt p i=82 then .bad 5 s.steps
   else(GL GK h (opAt p i) s).bind λ_ s=>.ok (i+1) s
def Qe(GK:List UInt8)(h:Int)(p:List UInt8):Nat->Nat->St->vz Nat
 |0=>λ_ s=>.bad 99 s.steps
 |n+1=>ZG GK h p (Qe GK h p n)
def Cx(p):∀f i d a m e,oK p f i d a=some (m,e)->(∀x,a=some x->x<i)->m<=e/\e<p.length/\i<=e/\(∀x,a=some x->m=x)/\(a=none->i<=m)
 |0,i,d,a,m,e,h,_=>by simp[oK]at h
 |f+1,i,d,a,m,e,h,c=>by
   have g:i<jD p i:=by unfold jD;split<;>omega
   have step:∀j d',i<j->oK p f j d' a=some (m,e)->m<=e/\e<p.length/\i<=e/\(∀x,a=some x->m=x)/\(a=none->i<=m):=λj d' r k=>by have:=Cx p f j d' a m e k (λx b=>by have:=c x b;omega);exact⟨this.1,this.2.1,O9,this.2.2.2.1,λh0=>by have:=this.2.2.2.2 h0;omega⟩
   rw[oK]at h;split at h
   .rename_i s;split at h;.grind
    .split at h;.grind
     .split at h;.grind
      .split at h
       .split at h;.cases h
        .rename_i n;have l:a=none:=by cases a with
          |none=>rfl
          |some x=>exact absurd rfl n
         have:=Cx p f _ _ _ _ _ h (λx b=>by cases b;omega);have q:=this.2.2.2.1 i rfl;exact⟨this.1,this.2.1,O9,(λx b=>by rw[l]at b;cases b),λ_=>by omega⟩
       .split at h;.cases a with
         |none=>simp only[Option.getD_none,oC,FO]at h;exact⟨O9,O9,O9,(λx b=>by cases b),λ_=>by omega⟩
         |some x=>simp only[o8,oC,FO]at h;have:=c x rfl;exact⟨O9,O9,O9,(λy o=>by cases o;omega),λh0=>by cases h0⟩
        .exact step _ _ g h
   .cases h
def KP(n:Nat):Value:=.int .i64 n
def En (p b f h) (d : Nat -> St -> vz Nat) (i to s w) (_hp : to <= 1000) (z : i <= 2000)
 (y : ∀ (j : Nat) (s : St) (w : World), i <= j -> j < to -> iE w b (mk f) h s -> Calls aI.prog 257 #[.pointer b, (mk p), j] w (Post KP w b (mk f) h (d j s)))
 (cB : ∀ j s c s', i <= j -> j < to -> d j s = .ok c s' -> j < c /\ c <= 2000) (m : iE w b (mk f) h s) :
 Calls aI.prog 251 #[.pointer b, (mk p), i, to] w (Post jW w b (mk f) h (jG d to (to - i) i s)) := by
 generalize a : jG d to (to - i) i s = E
 go_enter aI.func251, Tryz.ntmps251
 go_wp2_with fail
 go_loopw [8] (λ v wr => ∃ (j k : Nat) (s' : St), v = ↑j /\ iE wr b (mk f) h s' /\ w.grownBy wr (some b) /\ i <= j /\ j <= 2000 /\ to <= j + k /\ Hid (jG d to k j s' = E)) (λ v _ => 2001 - (intOf v).toNat)
 case atStart => exact ⟨i, to - i, s, rfl, m, aZ _ _, O9, z, O9, a⟩
 case round =>
  obtain ⟨j, k, s', rfl, m, r, x, F, G, a⟩ := hrel
  by_cases l : j < to
  ·obtain ⟨k, rfl⟩ : ∃ k', k = k' + 1 := ⟨k - 1, O9⟩
   rw [jG, bM l] at a
   replace a := aJ a
   go_wp2_with fail
   refine (y j s' wr x l m).mono ?_
   intro e w1 A
   obtain ⟨u, ⟨c, q, o, rfl, t⟩ | ⟨k', n, q, o, rfl, B, t⟩⟩ := A.elim
   ·obtain ⟨C, D⟩ := cB j s' c q x l o
    have g : Hid (jG d to k c q = E) := by unfold Hid; rw [<- a.out, o]; rfl
    unfold KP
    go_wp2_with fail
    go_roundw
    case rel => exact ⟨c, k, q, rfl, t, r.trans u, O9, O9, O9, g⟩
    case measure => simp [intOf]; omega
   ·have g := a.out
    subst g
    exact ⟨rfl, lN o (r.trans u) B t⟩
  ·have H : ¬ (j : Int) < (to : Int) := O9
   have g : E = .ok () s' := by
    rw [<- a.out]
    cases k with
    | zero => rfl
    | succ k => rw [jG, aX l]
   go_wp2_with fail
   go_end0
   exact ⟨r, rfl, m⟩
def Ny(p b y h)(d:Nat->St->vz Nat)(i s w)(μ:p.length<=1000)(hi:i<p.length)(P:∀(j:Nat) (s:St) (w:World),i+1<=j->j<p.length->iE w b (mk y) h s->Calls aI.prog 257 #[.pointer b,(mk p),j] w (Post KP w b (mk y) h (d j s)))
 (cB:∀j s v s',j<p.length->d j s=.ok v s'->j<v/\v<=2000)(Q:iE w b (mk y) h s):
 Calls aI.prog 262 #[.pointer b,(mk p),i] w (Post KP w b (mk y) h (tM d p i s)):=by
 have J:=Cx p p.length (i+1) 0 none;have a:Hid (tM d p i s=match oK p p.length (i+1) 0 none with
  |none=>.bad 5 s.steps
  |some (m,e)=>(kL s).bind λx s=>if x≠0 then(jG d m (m -(i+1)) (i+1) s).bind λ_ s=>(sO s).bind λ_ s=>.ok (e+1) s
    else if m<e then(jG d e (e -(m+1)) (m+1) s).bind λ_ s=>(sO s).bind λ_ s=>.ok (e+1) s
    else .ok (e+1) s):=rfl
 generalize tM d p i s=R at a|-;have F:=Wj p i w hi μ;generalize oK p p.length (i+1) 0 none=E at J F a;cases E with
 |none=>go_enter aI.func262,Tryz.ntmps262;go_wp2_with fail;refine F.mono ?_;rintro e w1 ⟨rfl,rfl⟩;go_wp2_with fail;refine⟨rfl,?_⟩;rw[a.out];exact⟨aZ _ _,rfl,s,rfl,Q⟩
 |some me=>
   obtain⟨m,n⟩:=me;replace a:Hid (R=(kL s).bind λx s=>if x≠0 then(jG d m (m -(i+1)) (i+1) s).bind λ_ s=>(sO s).bind λ_ s=>.ok (n+1) s
    else if m<n then(jG d n (n -(m+1)) (m+1) s).bind λ_ s=>(sO s).bind λ_ s=>.ok (n+1) s
    else .ok (n+1) s):=a
   obtain⟨b1,b2,b3,_,O⟩:=J m n rfl (λx u=>by cases u);replace O:=O rfl;clear J;go_enter aI.func262,Tryz.ntmps262;go_wp2_with fail;refine F.mono ?_;rintro e w0 ⟨rfl,rfl⟩;clear F;go_wp2_with fail;refine(kR w0 b _ h s Q).mono ?_;intro e w1 S;obtain⟨g,⟨x,M,c,rfl,A⟩|⟨k,n,M,c,rfl,V,A⟩⟩:=S.elim;rotate_left;.go_wp2_with fail;refine⟨rfl,?_⟩;rw[a.out];exact lN c g V A
   clear S;unfold Cg;by_cases u:x=0
   .subst u;by_cases G:m<n
    .have T:(m:Int)<(n:Int):=O9;go_wp2_with fail;refine(En p b y h d (m+1) n M w1 O9 O9 (λj s w H I l=>P j s w O9 O9 l) (λj s v s' H I l=>cB j s v s' O9 l) A).mono ?_;intro e w2 B;obtain⟨o,⟨_,D,f,rfl,q⟩|⟨k,n,D,f,rfl,K,q⟩⟩:=B.elim;rotate_left;.go_wp2_with fail;refine⟨rfl,?_⟩;rw[a.out];refine cW c g ?_;simp only[wV,Jg,wT,bM G];exact lN f o K q
     clear B;unfold jW;go_wp2_with fail;refine(Al w2 b _ h D q).mono ?_;intro e w3 C;obtain⟨z,⟨_,N,t,rfl,r⟩|⟨k,n,N,t,rfl,L,r⟩⟩:=C.elim;rotate_left;.go_wp2_with fail;refine⟨rfl,?_⟩;rw[a.out];refine cW c g ?_;simp only[wV,Jg,wT,bM G];exact cW f o (lN t z L r)
     clear C;unfold jW;go_wp2_with fail;go_ret;rw[a.out];refine cW c g ?_;simp only[wV,Jg,wT,bM G];exact cW f o (cW t z ⟨aZ _ _,rfl,r⟩)
    .have T:¬(m:Int)<(n:Int):=O9;go_wp2_with fail;go_ret;rw[a.out];refine cW c g ?_;simp only[wV,Jg,wT,aX G];exact⟨aZ _ _,rfl,A⟩
   .have W:(x !=0)=true:=by simpa using u
    go_wp2_with fail;refine(En p b y h d (i+1) m M w1 O9 O9 (λj s w H I l=>P j s w O9 O9 l) (λj s v s' H I l=>cB j s v s' O9 l) A).mono ?_;intro e w2 B;obtain⟨o,⟨_,D,f,rfl,q⟩|⟨k,n,D,f,rfl,K,q⟩⟩:=B.elim;rotate_left;.go_wp2_with fail;refine⟨rfl,?_⟩;rw[a.out];refine cW c g ?_;simp only[wV,u,O7,wR];exact lN f o K q
    clear B;unfold jW;go_wp2_with fail;refine(Al w2 b _ h D q).mono ?_;intro e w3 C;obtain⟨z,⟨_,N,t,rfl,r⟩|⟨k,n,N,t,rfl,L,r⟩⟩:=C.elim;rotate_left;.go_wp2_with fail;refine⟨rfl,?_⟩;rw[a.out];refine cW c g ?_;simp only[wV,u,O7,wR];exact cW f o (lN t z L r)
    clear C;unfold jW;go_wp2_with fail;go_ret;rw[a.out];refine cW c g ?_;simp only[wV,u,O7,wR];exact cW f o (cW t z ⟨aZ _ _,rfl,r⟩)
end
section
variable[Go.Proofs.VB]
def pU{α β}{r:vz α}{f}{b:β}{s'}(h:r.bind f=.ok b s'):∃a s,r=.ok a s/\f a s=.ok b s':=by cases r with
 |ok a s=>exact⟨a,s,rfl,h⟩
 |bad e n=>cases h
def Sv(d:Nat->St->vz Nat)(p i s j s')(h:tM d p i s=.ok j s'):i<j/\j<=p.length:=by
 unfold tM at h;split at h;.cases h
 .rename_i m e a;have g:=Cx p p.length (i+1) 0 none m e a (λx b=>by cases b);obtain⟨x,l,_,h⟩:=pU h;have k:j=e+1:=by
   split at h;.obtain⟨_,c,_,h⟩:=pU h;obtain⟨_,f,_,h⟩:=pU h;cases h;rfl
   .split at h;.obtain⟨_,c,_,h⟩:=pU h;obtain⟨_,f,_,h⟩:=pU h;cases h;rfl
    .simp_all
  omega
def ach(c h p)(d:Nat->St->vz Nat)(i s j s')(hi:i<p.length)(a:ZG c h p d i s=.ok j s'):i<j/\j<=p.length:=by
 obtain⟨_,e,_,a⟩:=pU a;split at a;.obtain⟨_,b,_,a⟩:=pU a;cases a;omega
 .split at a
  .split at a;.obtain⟨_,b,_,a⟩:=pU a;cases a;omega
   .cases a
  .split at a;.exact Sv d p i e j s' a
   .split at a;.cases a
    .obtain⟨_,b,_,a⟩:=pU a;cases a;omega
def Wo(b h p n i s j s')(hi:i<p.length)(a:Qe b h p n i s=.ok j s'):i<j/\j<=p.length:=by cases n with
 |zero=>cases a
 |succ n=>exact ach b h p _ i s j s' hi a
def ZH(p b o h)(d:Nat->St->vz Nat)(i s w)(D:p.length<=1000)(hi:i<p.length)(T:o.length<=1000)(S:∀(j:Nat) (s:St) (w:World),i+1<=j->j<p.length->iE w b (mk o) h s->Calls aI.prog 257 #[.pointer b,(mk p),j] w (Post KP w b (mk o) h (d j s)))
 (cB:∀j s J s',j<p.length->d j s=.ok J s'->j<J/\J<=2000)(μ:iE w b (mk o) h s):
 Calls aI.prog 257 #[.pointer b,(mk p),i] w (Post KP w b (mk o) h (ZG o h p d i s)):=by
 have a:Hid (ZG o h p d i s=(sO s).bind λ_ s=>if opAt p i<64 then(pH (opAt p i) s).bind λ_ s=>.ok (i+1) s
  else if opAt p i=64 then(if i+9<=p.length then(pH (wu p i) s).bind λ_ s=>.ok (i+9) s else .bad 2 s.steps)
  else if opAt p i=80 then tM d p i s
  else if opAt p i=81\/opAt p i=82 then .bad 5 s.steps
  else(GL o h (opAt p i) s).bind λ_ s=>.ok (i+1) s):=rfl
 have af:=dC p;have f:jD p i=if opAt p i=64 then i+9 else i+1:=rfl;have N:=py p i (i:Int) rfl hi;have W:opAt p i=(p.getD i 0).toNat:=rfl;rw[<-W]at N;have L:=Qc p i;have v:=λw V=>Nw p i w hi D V;generalize ZG o h p d i s=R at a|-;generalize opAt p i=c at N a f L v;go_enter aI.func257,Tryz.ntmps257;go_wp2_with fail;refine(Al w b _ h s μ).mono ?_;intro e w1 X;obtain⟨l,⟨_,x,g,rfl,q⟩|⟨k,n,x,g,rfl,π,q⟩⟩:=X.elim;rotate_left;.go_wp2_with fail;refine⟨rfl,?_⟩;rw[a.out];exact lN g l π q
 unfold jW;by_cases m:c<64
 .have O:(c:Int)<64:=O9;rw[aX O9]at f;replace f:=aJ f;go_wp2_with fail;refine(mJ w1 b _ h c x q O9).mono ?_;intro e w2 y;obtain⟨A,⟨_,E,t,rfl,r⟩|⟨k,n,E,t,rfl,F,r⟩⟩:=y.elim;rotate_left;.go_wp2_with fail;refine⟨rfl,?_⟩;rw[a.out];refine cW g l ?_;rw[bM m];exact lN t A F r
  unfold jW;go_wp2_with fail;refine(qx p i w2 hi D).mono ?_;rintro e w3 ⟨rfl,rfl⟩;rw[f.out];go_wp2_with fail;go_ret;rw[a.out];refine cW g l ?_;rw[bM m];exact cW t A ⟨aZ _ _,rfl,r⟩
 have O:¬(c:Int)<64:=O9;by_cases u:c=64
 .subst u;rw[bM rfl]at f;replace f:=aJ f;replace v:=λw=>v w rfl;have K:=Nv p i;by_cases C:i+9<=p.length
  .simp only[bM C]at v;generalize G:wu p i=z at v K;replace G:=aJ G;go_wp2_with fail;refine(v _).mono ?_;rintro e w2 ⟨rfl,rfl⟩;go_wp2_with fail;refine(mJ w2 b _ h z x q K).mono ?_;intro e w3 Y;obtain⟨M,⟨_,ab,I,rfl,H⟩|⟨k,n,ab,I,rfl,aa,H⟩⟩:=Y.elim;rotate_left;.go_wp2_with fail;refine⟨rfl,?_⟩;rw[a.out,G.out];refine cW g l ?_;rw[aX m,bM (by trivial),bM C];exact lN I M aa H
   go_wp2_with fail;refine(qx p i w3 hi D).mono ?_;rintro e w4 ⟨rfl,rfl⟩;rw[f.out];go_wp2_with fail;go_ret;rw[a.out,G.out];refine cW g l ?_;rw[aX m,bM (by trivial),bM C];exact cW I M ⟨aZ _ _,rfl,H⟩
  .simp only[aX C]at v;go_wp2_with fail;refine(v _).mono ?_;rintro e w2 ⟨rfl,rfl⟩;go_wp2_with fail;refine⟨rfl,?_⟩;rw[a.out];refine cW g l ?_;rw[aX m,bM (by trivial),aX C];exact⟨aZ _ _,rfl,x,rfl,q⟩
 rw[aX u]at f;replace f:=aJ f;by_cases B:c=80
 .subst B;go_wp2_with fail;refine(Ny p b o h d i x w1 D hi S cB q).mono ?_;intro e w2 y;obtain⟨A,⟨j,E,t,rfl,r⟩|⟨k,n,E,t,rfl,F,r⟩⟩:=y.elim;.unfold KP;go_wp2_with fail;go_ret;rw[a.out];refine cW g l ?_;rw[aX m,aX u,bM (by trivial)];exact y
  .go_wp2_with fail;refine⟨rfl,?_⟩;rw[a.out];refine cW g l ?_;rw[aX m,aX u,bM (by trivial)];exact y
 by_cases P:c=81;.subst P;go_wp2_with fail;refine⟨rfl,?_⟩;rw[a.out];refine cW g l ?_;rw[aX m,aX u,aX B,bM D9];exact⟨aZ _ _,rfl,x,rfl,q⟩
 by_cases Q:c=82;.subst Q;go_wp2_with fail;refine⟨rfl,?_⟩;rw[a.out];refine cW g l ?_;rw[aX m,aX u,aX B,bM D9];exact⟨aZ _ _,rfl,x,rfl,q⟩
 have ae:((c:Int)==81)=false:=by simpa using(by omega:¬(c:Int)=81)
 go_wp2_with fail;refine(Wn w1 b o h x q T c L).mono ?_;intro e w2 y;obtain⟨A,⟨_,E,t,rfl,r⟩|⟨k,n,E,t,rfl,F,r⟩⟩:=y.elim;rotate_left;.go_wp2_with fail;refine⟨rfl,?_⟩;rw[a.out];refine cW g l ?_;rw[aX m,aX u,aX B,aX O9];exact lN t A F r
 go_wp2_with fail;refine(qx p i w2 hi D).mono ?_;rintro e w3 ⟨rfl,rfl⟩;rw[f.out];go_wp2_with fail;go_ret;rw[a.out];refine cW g l ?_;rw[aX m,aX u,aX B,aX O9];exact cW t A ⟨aZ _ _,rfl,r⟩
def Wp(p b a h)(f:p.length<=1000)(e:a.length<=1000):∀(n i:Nat) (s:St) (w:World),i<p.length->p.length<=i+n->iE w b (mk a) h s->Calls aI.prog 257 #[.pointer b,(mk p),i] w (Post KP w b (mk a) h (Qe a h p n i s))
 |0,i,s,w,hi,l,_=>by omega
 |n+1,i,s,w,hi,l,k=>ZH p b a h (Qe a h p n) i s w f hi e (λj s w d c g=>Wp p b a h f e n j s w c O9 g) (λj s m s' d c=>by have:=Wo a h p n j s m s' d c;omega) k
def runM(GK:List UInt8)(h:Int)(p:List UInt8)(s:St):vz Unit:=jG (Qe GK h p p.length) p.length p.length 0 s
def Qf(p b a h s w)(f:p.length<=1000)(l:a.length<=1000)(m:iE w b (mk a) h s):Calls aI.prog 237 #[.pointer b,(mk p)] w (Post jW w b (mk a) h (runM a h p s)):=by
 go_enter aI.func237,Tryz.ntmps237;go_wp2_with fail;have q:=En p b a h (Qe a h p p.length) 0 p.length s w f O9 (λj s w i c d=>Wp p b a h f l p.length j s w c O9 d) (λj s t s' i c d=>by have:=Wo a h p p.length j s t s' c d;omega) m;refine q.mono ?_;intro e w1 g;obtain⟨v,⟨_,u,r,rfl,o⟩|⟨k,n,u,r,rfl,x,o⟩⟩:=g.elim;.go_wp2_with fail;go_end0;exact g
 .trivial
end
section
variable[Go.Proofs.VB]
def xx(key lock GK:List UInt8)(h:Int):Bool:=decide (32<key.length\/32<lock.length\/GK.length≠8\/h<0)
def Wq(key lock a h w)(b:xx key lock a h=true):Calls aI.prog 236 #[(mk key),(mk lock),(mk a),h] w λe w'=>e=.panicked (KJ 1)/\w'=w:=by
 have c:=dC key;have d:=dC lock;have f:=dC a;go_enter aI.func236,Tryz.ntmps236;go_wp2_with fail;all_goals first|exact⟨rfl,rfl,rfl⟩|(exfalso;unfold xx at b;rw[decide_eq_true_eq]at b;omega)
def Sw(key lock a h w)(b:xx key lock a h=false):Calls aI.prog 236 #[(mk key),(mk lock),(mk a),h] w λe w'=>e=.returned (.tuple #[])/\w'=w:=by
 have f:=dC key;have g:=dC lock;have i:=dC a;unfold xx at b;rw[O8]at b;have c:decide ((key.length:Int)>32)=false:=by simp;omega
 have d:decide ((lock.length:Int)>32)=false:=by simp;omega
 go_enter aI.func236,Tryz.ntmps236;go_wp2_with fail;go_end0;exact⟨rfl,rfl⟩
def allM(key lock GK:List UInt8)(h:Int):vz Unit:=(runM GK h key ⟨0,[]⟩).bind λ_ s=>(runM GK h lock s).bind λ_ s=>Nz s
def mF(key lock GK:List UInt8)(h:Int):vz Unit:=if xx key lock GK h then .bad 1 0 else allM key lock GK h
def abo(w:World)(b:Nat)(r:vz Unit)(e:Ending)(w':World):Prop:=w.grownBy w' (some b)/\match r with
 |.ok _ s=>e=.returned (.tuple #[])/\w'.cell? ⟨b,2,none⟩=some (.int .i64 s.steps)
 |.bad k n=>e=.panicked (KJ k)/\w'.cell? ⟨b,2,none⟩=some (.int .i64 n)
def iE.c2{w b id h s}(c:iE w b id h s):w.cell? (b,2)=some ↑s.steps:=by obtain⟨d,a,_⟩:=c.row;exact a.cell 2
def Post.work{w w1 w' b id h r e}(g:w.grownBy w1 (some b))(d:Post jW w1 b id h r e w'):abo w b r e w':=by refine⟨g.trans d.1,?_⟩;have c:=d.2;cases r with
 |ok a s=>exact⟨c.1,c.2.c2⟩
 |bad k n=>obtain⟨f,s,j,i⟩:=c;exact⟨f,by rw[<-j];exact i.c2⟩
def Qg:=@Post.work
structure Var(w:World)(b g:Nat)(v:Value):Prop where
 ne:g≠b
 row:∃t,Row w g t [v]
def Var.cell{w b g v}(h:Var w b g v):w.cell? (g,0)=some v:=by obtain⟨t,a⟩:=h.row;exact a.cell 0
def Var.r9{w w' b g v}(h:Var w b g v)(c:w.grownBy w' (some b)):Var w' b g v:=by obtain⟨t,a⟩:=h.row;exact⟨h.ne,t,(c.block g a.lt (λe=>h.ne (by cases e;rfl))).trans a⟩
def Ws(key lock a h l y gi gh b w)(Q:h<9223372036854775808)(p:iE w b ⟨#[]⟩ 0 ⟨0,[]⟩)(x:Var w b l (mk key))(c:Var w b y (mk lock))(O:Var w b gi (mk a))(N:Var w b gh (.int .i64 h)):
 Calls aI.prog 235 #[.pointer l,.pointer y,.pointer gi,.pointer gh,.pointer b] w (abo w b (mF key lock a h)):=by
 have o:Hid (mF key lock a h=if xx key lock a h then .bad 1 0 else allM key lock a h):=rfl;generalize mF key lock a h=R at o|-;have ck:=x.cell;have cl:=c.cell;have ci:=O.cell;have F:=N.cell;cases g:xx key lock a h with
 |true=>go_enter aI.func235,Tryz.ntmps235;go_wp2_with fail;refine(Wq key lock a h w g).mono ?_;rintro e w1 ⟨rfl,rfl⟩;go_wp2_with fail;refine⟨rfl,?_⟩;rw[o.out,bM g];exact⟨aZ _ _,rfl,p.c2⟩
 |false=>
   have m:Hid (R=(runM a h key ⟨0,[]⟩).bind λ_ s=>(runM a h lock s).bind λ_ s=>Nz s):=by unfold Hid;rw[o.out,g];rfl
   clear o;have z:=g;unfold xx at z;rw[O8]at z;obtain⟨L,d,G⟩:=p.row;have c0:w.cell? (b,0)=some ↑aB:=d.cell 0;have c1:w.cell? (b,1)=some ↑aC:=d.cell 1;have f0:=d.frozen 0;have f1:=d.frozen 1;have T:IntKind.u64.wrap h=h:=by rw[IntKind.wrap_u64];omega
   have μ:¬l=b:=x.ne;have V:¬b=l:=λe=>x.ne e.symm;go_enter aI.func235,Tryz.ntmps235;go_wp2_with fail;refine(Sw key lock a h w g).mono ?_;rintro e w1 ⟨rfl,rfl⟩;go_wp2_with fail;have f:w1.grownBy ((w1.setCell (b,0) (mk a)).setCell (b,1) (.int .u64 h)) (some b):=(p8 _ _ _ _).trans (p8 _ _ _ _);have A:iE ((w1.setCell (b,0) (mk a)).setCell (b,1) (.int .u64 h)) b (mk a) h ⟨0,[]⟩:=⟨⟨L,(d.set 0 (mk a)).set 1 (.int .u64 h),G⟩,p.xJ,p.steps,O9⟩
   replace c:=c.r9 f;generalize(w1.setCell ⟨b,0,none⟩ (mk a)).setCell ⟨b,1,none⟩ (.int .u64 h)=w2 at f A c|-;clear ck cl ci F c0 c1 f0 f1 d;refine(Qf key b a h ⟨0,[]⟩ w2 O9 O9 A).mono ?_;intro e w3 B;obtain⟨i,⟨_,D,j,rfl,t⟩|⟨k,n,D,j,rfl,J,t⟩⟩:=B.elim;rotate_left;.go_wp2_with fail;refine⟨rfl,?_⟩;rw[m.out];exact Qg f (lN j i J t)
   clear B;replace c:=c.r9 i;have cl:=c.cell;unfold jW;go_wp2_with fail;refine(Qf lock b a h D w3 O9 O9 t).mono ?_;intro e w4 C;obtain⟨r,⟨_,E,q,rfl,u⟩|⟨k,n,E,q,rfl,K,u⟩⟩:=C.elim;rotate_left;.go_wp2_with fail;refine⟨rfl,?_⟩;rw[m.out];exact Qg f (cW j i (lN q r K u))
   clear C;unfold jW;go_wp2_with fail;refine(Wt w4 b _ h E u).mono ?_;intro e W v;obtain⟨P,⟨_,M,I,rfl,H⟩|⟨k,n,M,I,rfl,S,H⟩⟩:=v.elim;.unfold jW;go_wp2_with fail;go_end0;rw[m.out];exact Qg f (cW j i (cW q r v))
   .go_wp2_with fail;refine⟨rfl,?_⟩;rw[m.out];exact Qg f (cW j i (cW q r v))
def aci(p x k w)(d:w.cell? p=some (.int .i64 x))(g:w.frozen? p=false):CallsD aI.prog 250 #[.pointer (some p)] (.panicking (KJ k)) w λe c w'=>e=.returned (.tuple #[])/\c=.panicking [{v:=.iface 38 k,recovered:=true}]/\w'=w.setCell p k:=by
 have f:∀w,(Instr.typeAssert (.iface 38 k) 20 38 false).run aI.prog w=.ok k w:=λ_=>by kernel_rfl
 refine callsD_of_wpS aI.func250 rfl λa cs b=>?_;apply wpS_seq;apply wpS_region;simp[wpOpsS,go_sem,recoverD,b];refine wpS_of_wp ?_;go_wp2;cases a;simp_all[bodyPostS,results]
def KQ(p w):CallsD aI.prog 250 #[.pointer (some p)] .returning w λe c w'=>e=.returned (.tuple #[])/\c=.returning/\w'=w:=by
 refine callsD_of_wpS aI.func250 rfl λa cs b=>?_;apply wpS_seq;apply wpS_region;simp[wpOpsS,go_sem,recoverD,b];refine wpS_of_wp ?_;go_wp2;cases a;simp_all[bodyPostS,results]
end
section
variable[Go.Proofs.VB]
def s7(r:vz Unit):Int×Nat:=match r with
 |.ok _ s=>(0,s.steps)
 |.bad k n=>(k,n)
def NA(key lock g h l m gi gh b w)(D:h<9223372036854775808)(t:iE w b ⟨#[]⟩ 0 ⟨0,[]⟩)(J:Var w b l (mk key))(K:Var w b m (mk lock))(I:Var w b gi (mk g))(H:Var w b gh (.int .i64 h)):
 Calls aI.prog 234 #[.func (.func 235) #[] #[.pointer l,.pointer m,.pointer gi,.pointer gh,.pointer b]] w λe w'=>e=.returned ((s7 (mF key lock g h)).1)/\w'.cell? (b,2)=some (↑(s7 (mF key lock g h)).2)/\w.grownBy w' (some b):=by
 have M:∀fn first cap w,(Instr.makeFunc fn first cap).run aI.prog w=.ok (.func fn first cap) w:=λ_ _ _ _=>rfl;go_enter_defers aI.func234,Tryz.ntmps234;go_wp2_with fail;have o:Below w.heap.size w (w.alloc (.cells #[aA] 38)):=B0.alloc L9 _;have a:=aV w [aA] 38;change Row (w.alloc (.cells #[aA] 38)) _ _ _ at a;have p:b≠w.heap.size:=by have:=t.lt;omega
 have c:=vA o (some b);have v:=t.keep o;have z:=J.r9 c;have A:=K.r9 c;have y:=I.r9 c;have x:=H.r9 c;generalize w.alloc (.cells #[aA] 38)=X at o a v z A y x c|-;obtain⟨E,d⟩:∃E,E=w.heap.size:=⟨_,rfl⟩;rw[<-d]at a p|-;replace d:=aJ d;refine(Ws key lock g h l m gi gh b X D v z A y x).mono ?_;intro e w1 F;obtain⟨q,i⟩:=F;replace a:=(q.block E a.lt (λe=>p (by cases e;rfl))).trans a;replace a:Row w1 E 38 [aA]:=a;have B:w1.cell? ⟨E,0,none⟩=some ↑aA:=a.cell 0;have C:w1.frozen? ⟨E,0,none⟩=false:=a.frozen 0;have r:=c.trans q;cases j:mF key lock g h with
 |ok u s=>rw[j]at i;obtain⟨rfl,c2⟩:=i;replace c2:=aJ c2;have c3:(w1.setCell ⟨E,0,none⟩ ↑aA).cell? ⟨E,0,none⟩=some ↑aA:=(a.set 0 ↑aA).cell 0;go_wp2_with fail;refine sy (f:=250) (args:=#[.pointer (some ⟨E,0,none⟩)]) S8 (by simp[go_sem]) ?_;refine(KQ ⟨E,0,none⟩ _).mono ?_;rintro e G L ⟨rfl,rfl,rfl⟩;simp[Leaves,settle,results,Tryz.results234,go_sem,c3];rw[j];exact⟨rfl,c2.out,Am r E (.inr (oz d.out.symm)) 0 _⟩
 |bad k n=>rw[j]at i;obtain⟨rfl,c2⟩:=i;replace c2:=aJ c2;go_wp2_with fail;refine sy (f:=250) (args:=#[.pointer (some ⟨E,0,none⟩)]) S8 (by simp[go_sem]) ?_;refine(aci ⟨E,0,none⟩ 0 k w1 B C).mono ?_;rintro e G L ⟨rfl,rfl,rfl⟩;have c3:(w1.setCell ⟨E,0,none⟩ k).cell? ⟨E,0,none⟩=some k:=(a.set 0 k).cell 0;simp[Leaves,settle,results,Tryz.results234,go_sem,c3];rw[j];exact⟨rfl,c2.out,Am r E (.inr (oz d.out.symm)) 0 _⟩
def HA(key lock c h w)(q:h<9223372036854775808):Calls aI.prog 221 #[(mk key),(mk lock),(mk c),.int .i64 h] w λe w'=>e=.returned (.tuple #[(s7 (mF key lock c h)).1,(s7 (mF key lock c h)).2])/\Below w w w':=by
 have v:∀fn first cap w,(Instr.makeFunc fn first cap).run aI.prog w=.ok (.func fn first cap) w:=λ_ _ _ _=>rfl;go_enter aI.func221,Tryz.ntmps221;go_wp2_with fail;have s:∀W,Row W ((w:Nat)+1+1+1+1) 339 [aB,aC,aA,aC,aC,aC,aC,aC,aC,aC,aC,aC,aC,aC,aC,aC,aC,aC,aC,aA]->iE W ((w:Nat)+1+1+1+1) ⟨#[]⟩ 0 ⟨0,[]⟩:=λW n=>⟨⟨List.replicate 16 0,n,rfl⟩,(λx t=>by cases t),D9,D9⟩
 have m:=((((aV w [(mk key)] 9).alloc (.cells #[(mk lock)] 9)).alloc (.cells #[(mk c)] 9)).alloc (.cells #[h] 3)).alloc (.cells #[aB,aC,aA,aC,aC,aC,aC,aC,aC,aC,aC,aC,aC,aC,aC,aC,aC,aC,aC,aA] 339);have k2:=(((aV (w.alloc (.cells #[(mk key)] 9)) [(mk lock)] 9).alloc (.cells #[(mk c)] 9)).alloc (.cells #[h] 3)).alloc (.cells #[aB,aC,aA,aC,aC,aC,aC,aC,aC,aC,aC,aC,aC,aC,aC,aC,aC,aC,aC,aA] 339);have i:=((aV ((w.alloc (.cells #[(mk key)] 9)).alloc (.cells #[(mk lock)] 9)) [(mk c)] 9).alloc (.cells #[h] 3)).alloc (.cells #[aB,aC,aA,aC,aC,aC,aC,aC,aC,aC,aC,aC,aC,aC,aC,aC,aC,aC,aC,aA] 339);have j:=(aV (((w.alloc (.cells #[(mk key)] 9)).alloc (.cells #[(mk lock)] 9)).alloc (.cells #[(mk c)] 9)) [h] 3).alloc (.cells #[aB,aC,aA,aC,aC,aC,aC,aC,aC,aC,aC,aC,aC,aC,aC,aC,aC,aC,aC,aA] 339);have l:=aV ((((w.alloc (.cells #[(mk key)] 9)).alloc (.cells #[(mk lock)] 9)).alloc (.cells #[(mk c)] 9)).alloc (.cells #[h] 3)) [aB,aC,aA,aC,aC,aC,aC,aC,aC,aC,aC,aC,aC,aC,aC,aC,aC,aC,aC,aA] 339;simp only[bB]at k2 i j l;have g:Below w w (((((w.alloc (.cells #[(mk key)] 9)).alloc (.cells #[(mk lock)] 9)).alloc (.cells #[(mk c)] 9)).alloc (.cells #[h] 3)).alloc (.cells #[aB,aC,aA,aC,aC,aC,aC,aC,aC,aC,aC,aC,aC,aC,aC,aC,aC,aC,aC,aA] 339)):=((((B0.alloc L9 _).alloc S8 _).alloc (by simp;omega) _).alloc (by simp;omega) _).alloc (by simp;omega) _
 generalize((((w.alloc (.cells #[(mk key)] 9)).alloc (.cells #[(mk lock)] 9)).alloc (.cells #[(mk c)] 9)).alloc (.cells #[h] 3)).alloc (.cells #[aB,aC,aA,aC,aC,aC,aC,aC,aC,aC,aC,aC,aC,aC,aC,aC,aC,aC,aC,aA] 339)=X at m k2 i j l g|-;have o:(w:Nat)<=(w:Nat)+1+1+1+1:=O9;have v1:Var X ((w:Nat)+1+1+1+1) w (mk key):=⟨O9,_,m⟩;have v2:Var X ((w:Nat)+1+1+1+1) ((w:Nat)+1) (mk lock):=⟨O9,_,k2⟩;have v3:Var X ((w:Nat)+1+1+1+1) ((w:Nat)+1+1) (mk c):=⟨O9,_,i⟩;have u:Var X ((w:Nat)+1+1+1+1) ((w:Nat)+1+1+1) h:=⟨O9,_,j⟩;have r:=s X l;generalize(w:Nat)+1+1+1+1=b at*;refine(NA key lock c h _ _ _ _ b X q r v1 v2 v3 u).mono ?_;rintro e w1 ⟨rfl,c2,p⟩;have d:Below w w w1:=g.grown p g.size (λk e=>by cases e;exact o);generalize f:s7 (mF key lock c h)=a at c2|-;replace f:=aJ f;go_wp2_with fail;go_quiet (fail);go_wp2_with fail;go_ret2;rw[f.out];exact⟨rfl,d.os,d.tape,d.output,d.size,d.block⟩
end
end Go.Proofs.aH
