import Derived.Test.YtpjcmpfncpnmeabGreatM07
set_option linter.all false
set_option maxHeartbeats 4000000
set_option maxRecDepth 100000
namespace Go.Proofs.aH
open Go.RowKit
section
variable[Go.Proofs.VB]
def opAt(p:List UInt8)(i:Nat):Nat:=(p.getD i 0).toNat
def jL(p:List UInt8)(i:Nat):Nat:=if opAt p i=64 then i+9 else i+1
def Re(p i):opAt p i<256:=(p.getD i 0).toNat_lt
def qJ(p)(i:Nat)(w)(hi:i<p.length)(f:p.length<=1000):Calls Vp 199 #[(mk p),i] w λe w'=>e=.returned (jL p i)/\w'=w:=by
 have d:=pF p i (i:Int) rfl hi;have a:jL p i=if(p.getD i 0).toNat=64 then i+9 else i+1:=rfl;generalize(p.getD i 0).toNat=c at d a;by_cases b:c=64;.subst b;replace a:=aL a;go_enter fA Tryz.func199,Tryz.ntmps199;go_wp2;go_ret;rw[a.out];exact⟨rfl,rfl⟩
 .rw[aU b]at a;replace a:=aL a;go_enter fA Tryz.func199,Tryz.ntmps199;go_wp2;go_ret;rw[a.out];exact⟨rfl,rfl⟩
def xd(p:List UInt8)(i:Nat):Int:=gD ((p.drop (i+1)).take 8)
def pG(p:List UInt8):Nat->Nat->Nat->Option Nat->Option (Nat×Nat)
 |0,_,_,_=>none
 |f+1,i,d,m=>if i<p.length then if opAt p i=80 then pG p f (i+1) (d+1) m
    else if opAt p i=82/\0<d then pG p f (i+1) (d -1) m
    else if 0<d then pG p f (jL p i) d m
    else if opAt p i=81 then(if m.isSome then none else pG p f (i+1) 0 (some i))
    else if opAt p i=82 then some (m.getD i,i)
    else pG p f (jL p i) 0 m
   else none
def XM(m:Option Nat):Int:=match m with|some k=>k|none=>-1
def adG(a)(b:Nat)(h0:0<=a)(e:a<72057594037927936)(c:b<256):bits .or .u64 (a*256) (b:Int)=a*256+(b:Int):=by obtain⟨n,rfl⟩:=BK h0;have d:n*256<18446744073709551616:=O9;have f:=nat_join8 (n*256) b O9 c;show IntKind.u64.wrap ((BitVec.ofInt 64 ((n:Int)*256)|||BitVec.ofInt 64 (b:Int)).toNat:Int)=_;rw[BitVec.toNat_or,show((n:Int)*256)=((n*256:Nat):Int)from by simp,ofInt_u64 (n*256) d,ofInt_u64 b O9,IntKind.wrap_u64];omega
def Rf(t)(h:t.length<=7):0<=gD t/\gD t<72057594037927936:=by have⟨a,b⟩:=EY t;refine⟨a,Dz b ?_⟩;have c:t.length=0\/t.length=1\/t.length=2\/t.length=3\/t.length=4\/t.length=5\/t.length=6\/t.length=7:=O9;obtain e|e|e|e|e|e|e|e:=c<;>rw[e]<;>decide
def aaO(t)(h:t.length<=8):0<=gD t/\gD t<18446744073709551616:=by
 by_cases c:t.length<=7;.have:=Rf t c;omega
 .have⟨b,a⟩:=EY t;rw[show t.length=8 from by omega]at a;exact⟨b,a⟩
def OT(p i):0<=xd p i/\xd p i<18446744073709551616:=aaO _ (by rw[jH];omega)
def OU(p i w)(hi:i<p.length)(s:p.length<=1000)(r:opAt p i=64):Calls Vp 196 #[(mk p),i] w λe w'=>(if i+9<=p.length then e=.returned (.int .u64 (xd p i))else e=.panicked (LW 2))/\w'=w:=by
 have B:=dK p;have l:jL p i=i+9:=by unfold jL;rw[if_pos r]
 go_enter fA Tryz.func196,Tryz.ntmps196;go_wp2;refine(qJ p i w hi s).mono ?_;rintro e w1 ⟨rfl,rfl⟩;rw[l];by_cases y:i+9<=p.length
 .have o:¬((i+9:Nat):Int)>(p.length:Int):=O9;go_wp2;go_loopw [5,14] (λn j wr=>∃k:Nat,k<=8/\j=↑k/\n=.int .u64 (gD (((p.drop (i+1)).take 8).take k))/\wr=w1) (λ_ j _=>8 -(intOf j).toNat);case atStart=>exact⟨0,O9,rfl,rfl,rfl⟩
  case round=>
   obtain⟨k,x,rfl,rfl,rfl⟩:=hrel;have g:((p.drop (i+1)).take 8).length=8:=by rw[jH,BL];omega
   have f:∀j,j<8->((p.drop (i+1)).take 8).getD j 0=p.getD (i+1+j) 0:=λj v=>by grind
   by_cases q:k<8
   .have b:=pF p (i+1+k) ((i:Int)+1+(k:Int)) O9 O9;rw[<-f k q]at b;generalize(p.drop (i+1)).take 8=t at g b;have a:=Rf (t.take k) (by rw[jH];omega);have d:Hid (gD (t.take (k+1))=gD (t.take k)*256+((t.getD k 0).toNat:Int)):=by unfold Hid;rw[xN (by omega:k<t.length),EZ];simp[List.getD,show k<t.length from by omega]
    have u:=(t.getD k 0).toNat_lt;generalize(t.getD k 0).toNat=c at b d u;generalize z:gD (t.take k)=h at d a;have A:IntKind.u64.wrap (h*256)=h*256:=by rw[IntKind.wrap_u64];omega
    clear g f;go_wp2;go_roundw;case rel=>exact⟨k+1,O9,by go_num,by rw[d.out,adG _ _ a.1 a.2 O9],trivial⟩
    case measure=>simp[intOf];omega
   .have m:k=8:=O9;subst m;rw[List.take_take,Nat.min_self];go_wp2;go_ret;exact⟨rfl,rfl⟩
 .have o:((i+9:Nat):Int)>(p.length:Int):=O9;go_wp2;exact⟨rfl,rfl,rfl⟩
def XN(p)(i:Nat)(w)(hi:i<p.length)(H:p.length<=1000):Calls Vp 200 #[(mk p),i] w λe w'=>(match pG p p.length (i+1) 0 none with|some (m,n)=>e=.returned (.tuple #[m,n])|none=>e=.panicked (LW 5))/\w'=w:=by
 have P:=dK p;generalize a:pG p p.length (i+1) 0 none=E;go_enter fA Tryz.func200,Tryz.ntmps200;go_wp2;go_loopw [4,6,7] (λmv A iv wr=>∃(j d f:Nat) (m:Option Nat),iv=↑j/\A=↑d/\mv=↑(XM m)/\wr=w/\p.length<=j+f/\j<=p.length+9/\d<=j/\(∀x,m=some x->x<p.length)/\Hid (pG p f j d m=E)) (λ_ _ iv _=>p.length+9 -(intOf iv).toNat);case atStart=>exact⟨i+1,0,p.length,none,rfl,rfl,rfl,rfl,O9,O9,O9,(λ_ h=>by cases h),a⟩
 case round=>
  clear a;obtain⟨j,d,f,m,rfl,rfl,rfl,rfl,N,O,L,r,a⟩:=hrel;by_cases o:j<p.length
  .obtain⟨f,rfl⟩:∃f',f=f'+1:=⟨f -1,O9⟩;have y:=pF p j (j:Int) rfl o;have g:=qJ p j wr o H;have b:jL p j=if opAt p j=64 then j+9 else j+1:=rfl;replace a:=a.out;rw[pG,bE o]at a;have z:opAt p j=(p.getD j 0).toNat:=rfl;rw[<-z]at y;have C:=Re p j;generalize opAt p j=c at y a b C;clear z;have G:(j:Int)<(p.length:Int):=O9;by_cases u:c=80
   .subst u;rw[bE rfl]at a;rw[aU D9]at b;change Hid _ at a b;go_wp2;refine g.m0 ?_;rw[b.out];go_wp2;go_roundw;case rel=>exact⟨j+1,d+1,f,m,by go_num,by go_num,rfl,trivial,O9,O9,O9,r,a⟩
    case measure=>simp[intOf];omega
   .rw[aU u]at a;have J:¬(c:Int)=80:=O9;by_cases q:0<d
    .have M:(d:Int)>0:=O9;by_cases l:c=82
     .subst l;rw[bE ⟨rfl,q⟩]at a;rw[aU D9]at b;change Hid _ at a b;go_wp2;refine g.m0 ?_;rw[b.out];go_wp2;go_roundw;case rel=>exact⟨j+1,d -1,f,m,by go_num,by rw[Int.ofNat_sub O9];rfl,rfl,trivial,O9,O9,O9,r,a⟩
      case measure=>simp[intOf];omega
     .have D:¬(c:Int)=82:=O9;rw[aU (λh=>l h.1),bE q]at a;have t:j<jL p j/\jL p j<=j+9:=by rw[b];split<;>omega
      clear b;generalize jL p j=s at g a t;replace a:=aL a;go_wp2;refine g.m0 ?_;go_wp2;go_roundw;case rel=>exact⟨s,d,f,m,rfl,rfl,rfl,trivial,O9,O9,O9,r,a⟩
      case measure=>simp[intOf];omega
    .have F:d=0:=O9;subst F;rw[aU (λh=>q h.2),aU q]at a;by_cases v:c=81;.subst v;rw[bE rfl]at a;rw[aU D9]at b;cases m with
      |none=>
        replace a:=a;replace b:=aL b;simp only[XM];go_wp2;refine g.m0 ?_;rw[b.out];go_wp2;go_roundw;case rel=>exact⟨j+1,0,f,some j,by go_num,rfl,rfl,trivial,O9,O9,O9,(λx I=>by cases I;exact o),a⟩
        case measure=>simp[intOf];omega
      |some k=>replace a:=a;subst a;simp only[XM];go_wp2;exact⟨rfl,rfl,rfl⟩
     .have K:¬(c:Int)=81:=O9;rw[aU v]at a;by_cases l:c=82;.subst l;rw[bE rfl]at a;subst a;cases m with
       |none=>simp only[XM];go_wp2;go_ret2;exact⟨rfl,rfl⟩
       |some k=>simp only[XM];go_wp2;go_ret2;exact⟨rfl,rfl⟩
      .have D:¬(c:Int)=82:=O9;rw[aU l]at a;have t:j<jL p j/\jL p j<=j+9:=by rw[b];split<;>omega
       clear b;generalize jL p j=s at g a t;replace a:=aL a;go_wp2;refine g.m0 ?_;go_wp2;go_roundw;case rel=>exact⟨s,0,f,m,rfl,rfl,rfl,trivial,O9,O9,O9,r,a⟩
       case measure=>simp[intOf];omega
  .have B:E=none:=by rw[<-a.out];cases f with
    |zero=>rfl
    |succ f=>rw[pG,aU o]
   subst B;have G:¬(j:Int)<(p.length:Int):=O9;go_wp2;exact⟨rfl,rfl,rfl⟩
end
section
def XO:=@Calls.regrown_of
variable[Go.Proofs.VB]
def xE.bind{α β:Type}(r:xE α)(f:α->St->xE β):xE β:=match r with
 |.ok a s=>f a s
 |.bad e n=>.bad e n
def iH.keep{w w' b id h s}(a:iH w b id h s)(d:Below w w w'):iH w' b id h s:=by have⟨f,c,e⟩:=a.row;exact⟨⟨f,c.keep d c.lt,e⟩,a.yr,a.steps,a.Ba⟩
def wz{w w'}(a:Below w.heap.size w w')(r):w.grownBy w' r:=⟨a.os,a.tape,a.output,a.size,λk b _=>a.block k b⟩
def aT.elim{α P w w' b id h}{r:xE α}{e}(i:aT P w b id h r e w'):w.grownBy w' (some b)/\((∃a s,r=.ok a s/\e=.returned (P a)/\iH w' b id h s)\/∃k n s,r=.bad k n/\e=.panicked (LW k)/\s.steps=n/\iH w' b id h s):=by
 have⟨f,c⟩:=i;refine⟨f,?_⟩;cases r with
 |ok a s=>exact .inl ⟨a,s,rfl,c.1,c.2⟩
 |bad k n=>obtain⟨d,s,j,g⟩:=c;exact .inr ⟨k,n,s,rfl,d,j,g⟩
def aT.raise{α β P w w' b id h k n s}{r:xE α}{f:α->St->xE β}(d:r=.bad k n)(a:w.grownBy w' (some b))(e:s.steps=n)(c:iH w' b id h s):aT P w b id h (r.bind f) (.panicked (LW k)) w':=by subst d;exact⟨a,rfl,s,e,c⟩
def lL:=@aT.raise
def aT.next{α β P w w1 w' b id h s a}{r:xE α}{f:α->St->xE β}{e}(g:r=.ok a s)(d:w.grownBy w1 (some b))(c:aT P w1 b id h (f a s) e w'):aT P w b id h (r.bind f) e w':=by subst g;exact⟨d.trans c.1,c.2⟩
def dB:=@aT.next
def LX(JA:List UInt8)(op:Nat)(x y:Int):Int:=if op=68 then IntKind.u64.wrap (x+y)
 else if op=69 then IntKind.u64.wrap (x -y)
 else if op=70 then IntKind.u64.wrap (x*y)
 else if op=71 then oa (x==y)
 else if op=72 then oa (decide (x<y))
 else oa (x==hN (be y 8++JA))
def E0(b):0<=oa b/\oa b<18446744073709551616:=by cases b<;>decide
def aaP(x):0<=IntKind.u64.wrap x/\IntKind.u64.wrap x<18446744073709551616:=by rw[IntKind.wrap_u64];omega
def aaQ(a op x y):0<=LX a op x y/\LX a op x y<18446744073709551616:=by
 unfold LX;repeat' split
 all_goals first|exact aaP _|exact E0 _
def iH.c0{w b id h s}(c:iH w b id h s):w.cell? (b,0)=some ↑id:=by have⟨d,a,_⟩:=c.row;exact a.cell 0
def iH.c1{w b id h s}(c:iH w b id h s):w.cell? (b,1)=some (.int .u64 h):=by have⟨d,a,_⟩:=c.row;exact a.cell 1
def iH.lt{w b id h s}(c:iH w b id h s):b<w:=by have⟨d,a,_⟩:=c.row;exact a.lt
def LY(w b a h s)(u:iH w b (mk a) h s)(r:a.length<=1000)(op:Nat)(v:op=68\/op=69\/op=70\/op=71\/op=72\/op=75)(x y)(_hx:0<=x/\x<18446744073709551616)(m:0<=y/\y<18446744073709551616):Calls Vp 202 #[.pointer b,.int .u8 op,.int .u64 x,.int .u64 y] w λe w'=>e=.returned (.int .u64 (LX a op x y))/\Below w w w':=by
 have c0:=u.c0;obtain rfl|rfl|rfl|rfl|rfl|rfl:=v;iterate 3 .go_enter fA Tryz.func202,Tryz.ntmps202;go_wp2;go_ret;exact⟨rfl,B0⟩
 iterate 2 .go_enter fA Tryz.func202,Tryz.ntmps202;go_wp2;refine(Bb _ _).m0 ?_;go_wp2;go_ret;exact⟨rfl,B0⟩
 .have c:Hid (LX a 75 x y=oa (x==hN (be y 8++a))):=rfl;have o:=λd os=>XO (pO y (Go.Sort.grow (redrawn w d) os) m.1 m.2);have k:=bS y 8;generalize be y 8=t at c o k;have E:(mk t).size=8:=by rw[dK,k]
  have D:(mk a).size<=1000:=by rw[dK];exact r
  have q:∀d os,Calls Vp 102 #[(mk t++mk a)] (Go.Sort.grow (redrawn w d) os) λe i=>e=.returned (.int .u64 (hN (t++a)))/\∃p:Regrown,i=Go.Sort.grow (redrawn w p.d) p.os:=λd os=>by rw[A9];exact XO ((rQ (t++a) _ (by rw[bW];omega)).mono λe w' ⟨f,g⟩=>⟨f,by rw[g];exact B0⟩)
  generalize hN (t++a)=z at c q;have C:∀d os,Calls Vp 203 #[.bool (x==z)] (Go.Sort.grow (redrawn w d) os) λe i=>e=.returned (.int .u64 (oa (x==z)))/\∃p:Regrown,i=Go.Sort.grow (redrawn w p.d) p.os:=λd os=>XO ((Bb (x==z) _).mono λe w' ⟨f,g⟩=>⟨f,by rw[g];exact B0⟩)
  replace c0:=cell_regrown c0;go_enter fA Tryz.func202,Tryz.ntmps202;go_wp2;refine wp_region_quiet_below E1 K8 ?_;repeat(go_big_quiet_step (first|(go_at_call 122;exact o _ _)|(go_at_call 102;exact q _ _)|(go_at_call 203;exact C _ _)))
  refine wpQuiet_nil ?_;intro _ A;have⟨⟨j,n⟩,B⟩:=A;subst B;have l:=below_regrown w j n;generalize Go.Sort.grow (redrawn w j) n=w1 at l|-;go_wp2;go_ret;rw[c.out];exact⟨rfl,l⟩
def LZ(JA:List UInt8)(h:Int)(op:Nat)(s:St):xE Unit:=if op=65 then(kY s).bind λx s=>(qK x s).bind λ_ s=>qK x s
 else if op=66 then(kY s).bind λ_ s=>.ok () s
 else if op=67 then(kY s).bind λy s=>(kY s).bind λx s=>(qK y s).bind λ_ s=>qK x s
 else if op=68\/op=69\/op=70\/op=71\/op=72\/op=75 then(kY s).bind λy s=>(kY s).bind λx s=>qK (LX JA op x y) s
 else if op=73 then(kY s).bind λx s=>qK (oa (x==0)) s
 else if op=74 then(kY s).bind λx s=>qK (hN (be x 8)) s
 else if op=76 then(kY s).bind λx s=>if x=0 then .bad 6 s.steps else .ok () s
 else if op=77 then qK h s
 else .bad 2 s.steps
def qh{s s' x}(h:kY s=.ok x s'):s.l=x::s'.l/\s.steps=s'.steps:=by
 unfold kY at h;split at h;.cases h
 .grind
def XP(w b o h s)(l:iH w b (mk o) h s):Calls Vp 198 #[.pointer b,.int .u8 65] w (aT kA w b (mk o) h ((kY s).bind λx s=>(qK x s).bind λ_ s=>qK x s)):=by
 go_enter fA Tryz.func198,Tryz.ntmps198;go_wp2;refine(kR w b _ h s l).mono ?_;intro e w1 t;obtain⟨c,⟨x,p,a,rfl,g⟩|⟨k,n,p,a,rfl,y,g⟩⟩:=t.elim;rotate_left;.exact⟨rfl,lL a c y g⟩
 have m:=l.yr x (by rw[(qh a).1];simp);go_wp2;refine(mR w1 b _ h x p g m).mono ?_;intro e w2 u;obtain⟨f,⟨_,q,d,rfl,i⟩|⟨k,n,q,d,rfl,z,i⟩⟩:=u.elim;rotate_left;.exact⟨rfl,dB a c (lL d f z i)⟩
 go_wp2;refine(mR w2 b _ h x q i m).mono ?_;intro e w3 j;obtain⟨B,⟨_,A,v,rfl,r⟩|⟨k,n,A,v,rfl,C,r⟩⟩:=j.elim;.go_wp2;go_end0;exact dB a c (dB d f (j))
 .exact⟨rfl,dB a c (dB d f (j))⟩
def Tu(w b f h s)(g:iH w b (mk f) h s):Calls Vp 198 #[.pointer b,.int .u8 66] w (aT kA w b (mk f) h ((kY s).bind λ_ s=>.ok () s)):=by
 go_enter fA Tryz.func198,Tryz.ntmps198;go_wp2;refine(kR w b _ h s g).mono ?_;intro e w1 i;obtain⟨d,⟨x,l,c,rfl,a⟩|⟨k,n,l,c,rfl,j,a⟩⟩:=i.elim;rotate_left;.exact⟨rfl,lL c d j a⟩
 go_wp2;go_end0;exact dB c d ⟨aZ _ _,rfl,a⟩
def Tv(w b q h s)(p:iH w b (mk q) h s):Calls Vp 198 #[.pointer b,.int .u8 67] w (aT kA w b (mk q) h ((kY s).bind λy s=>(kY s).bind λx s=>(qK y s).bind λ_ s=>qK x s)):=by
 go_enter fA Tryz.func198,Tryz.ntmps198;go_wp2;refine(kR w b _ h s p).mono ?_;intro e w1 z;obtain⟨d,⟨y,r,a,rfl,g⟩|⟨k,n,r,a,rfl,D,g⟩⟩:=z.elim;rotate_left;.exact⟨rfl,lL a d D g⟩
 have H:=p.yr y (by rw[(qh a).1];simp);go_wp2;refine(kR w1 b _ h r g).mono ?_;intro e w2 A;obtain⟨f,⟨x,t,c,rfl,l⟩|⟨k,n,t,c,rfl,E,l⟩⟩:=A.elim;rotate_left;.exact⟨rfl,dB a d (lL c f E l)⟩
 have G:=g.yr x (by rw[(qh c).1];simp);go_wp2;refine(mR w2 b _ h y t l H).mono ?_;intro e w3 B;obtain⟨j,⟨_,u,i,rfl,m⟩|⟨k,n,u,i,rfl,F,m⟩⟩:=B.elim;rotate_left;.exact⟨rfl,dB a d (dB c f (lL i j F m))⟩
 go_wp2;refine(mR w3 b _ h x u m G).mono ?_;intro e w4 o;obtain⟨J,⟨_,I,C,rfl,v⟩|⟨k,n,I,C,rfl,K,v⟩⟩:=o.elim;.go_wp2;go_end0;exact dB a d (dB c f (dB i j (o)))
 .exact⟨rfl,dB a d (dB c f (dB i j (o)))⟩
def XQ(w b g h s)(j:iH w b (mk g) h s):Calls Vp 198 #[.pointer b,.int .u8 73] w (aT kA w b (mk g) h ((kY s).bind λx s=>qK (oa (x==0)) s)):=by
 go_enter fA Tryz.func198,Tryz.ntmps198;go_wp2;refine(kR w b _ h s j).mono ?_;intro e w1 m;obtain⟨c,⟨x,i,a,rfl,d⟩|⟨k,n,i,a,rfl,p,d⟩⟩:=m.elim;rotate_left;.exact⟨rfl,lL a c p d⟩
 unfold C5;go_wp2;refine(Bb _ _).mono ?_;rintro e w2 ⟨rfl,rfl⟩;go_wp2;refine(mR w2 b _ h (oa (x==0)) i d (E0 _)).mono ?_;intro e w3 f;obtain⟨r,⟨_,q,o,rfl,l⟩|⟨k,n,q,o,rfl,t,l⟩⟩:=f.elim;.go_wp2;go_end0;exact dB a c (f)
 .exact⟨rfl,dB a c (f)⟩
def L3(w b f h s)(i:iH w b (mk f) h s):Calls Vp 198 #[.pointer b,.int .u8 76] w (aT kA w b (mk f) h ((kY s).bind λx s=>if x=0 then .bad 6 s.steps else .ok () s)):=by
 go_enter fA Tryz.func198,Tryz.ntmps198;go_wp2;refine(kR w b _ h s i).mono ?_;intro e w1 j;obtain⟨d,⟨x,g,c,rfl,a⟩|⟨k,n,g,c,rfl,l,a⟩⟩:=j.elim;rotate_left;.exact⟨rfl,lL c d l a⟩
 unfold C5;by_cases h0:x=0;.subst h0;go_wp2;exact⟨rfl,dB c d ⟨aZ _ _,rfl,g,rfl,a⟩⟩
 .go_wp2;go_end0;refine dB c d ?_;rw[aU h0];exact⟨aZ _ _,rfl,a⟩
def L4(w b d h s)(a:iH w b (mk d) h s):Calls Vp 198 #[.pointer b,.int .u8 77] w (aT kA w b (mk d) h (qK h s)):=by
 have c1:=a.c1;go_enter fA Tryz.func198,Tryz.ntmps198;go_wp2;refine(mR w b _ h h s a a.Ba).mono ?_;intro e w1 c;obtain⟨j,⟨_,i,g,rfl,f⟩|⟨k,n,i,g,rfl,l,f⟩⟩:=c.elim;.go_wp2;go_end0;exact c
 .trivial
def tE(w b c h s)(t:iH w b (mk c) h s)(A:c.length<=1000)(op:Nat)(D:op=68\/op=69\/op=70\/op=71\/op=72\/op=75):Calls Vp 198 #[.pointer b,.int .u8 op] w (aT kA w b (mk c) h ((kY s).bind λy s=>(kY s).bind λx s=>qK (LX c op x y) s)):=by
 obtain rfl|rfl|rfl|rfl|rfl|rfl:=D;all_goals
  go_enter fA Tryz.func198,Tryz.ntmps198;go_wp2;refine(kR w b _ h s t).mono ?_;intro e w1 E;obtain⟨i,⟨y,u,a,rfl,j⟩|⟨k,n,u,a,rfl,H,j⟩⟩:=E.elim;rotate_left;.go_wp2;exact⟨rfl,lL a i H j⟩
  have K:=t.yr y (by rw[(qh a).1];simp);unfold C5;go_wp2;refine(kR w1 b _ h u j).mono ?_;intro e w2 F;obtain⟨m,⟨x,p,f,rfl,l⟩|⟨k,n,p,f,rfl,I,l⟩⟩:=F.elim;rotate_left;.go_wp2;exact⟨rfl,dB a i (lL f m I l)⟩
  have J:=j.yr x (by rw[(qh f).1];simp);unfold C5;go_wp2;refine(LY w2 b c h p l A _ D9 x y J K).m1 λw3 q=>?_;have B:=l.keep q;have r:=(wz q (some b));generalize g:LX c _ x y=z;have v:0<=z/\z<18446744073709551616:=by rw[<-g];exact aaQ ..
  replace g:=aL g;go_wp2;refine(mR w3 b _ h z p B v).mono ?_;intro e w4 d;obtain⟨M,⟨_,L,G,rfl,C⟩|⟨k,n,L,G,rfl,N,C⟩⟩:=d.elim;.unfold kA;go_wp2;go_end0;have o:=g.out;subst o;exact dB a i (dB f m ⟨r.trans d.1,d.2⟩)
  .go_wp2;have o:=g.out;subst o;exact⟨rfl,dB a i (dB f m ⟨r.trans d.1,d.2⟩)⟩
def Tx(w b v h s)(r:iH w b (mk v) h s):Calls Vp 198 #[.pointer b,.int .u8 74] w (aT kA w b (mk v) h ((kY s).bind λx s=>qK (hN (be x 8)) s)):=by
 go_enter fA Tryz.func198,Tryz.ntmps198;go_wp2;refine(kR w b _ h s r).mono ?_;intro e w1 C;obtain⟨i,⟨x,y,c,rfl,j⟩|⟨k,n,y,c,rfl,E,j⟩⟩:=C.elim;rotate_left;.exact⟨rfl,lL c i E j⟩
 have u:=r.yr x (by rw[(qh c).1];simp);go_wp2;refine(pO x w1 u.1 u.2).mono ?_;rintro e w2 ⟨rfl,o⟩;have g:=rQ (be x 8) w2 (by rw[bS];omega);have p:=ET (be x 8);generalize d:hN (be x 8)=z at g p|-;replace d:=aL d;generalize f:be x 8=t at g d|-;replace f:=aL f;go_wp2;refine g.mono ?_;rintro e w3 ⟨rfl,rfl⟩;have A:=j.keep o;have q:=(wz o (some b));go_wp2;refine(mR w3 b _ h z y A p).mono ?_;intro e w4 a;obtain⟨G,⟨_,F,D,rfl,B⟩|⟨k,n,F,D,rfl,H,B⟩⟩:=a.elim;.go_wp2;go_end0;have m:=d.out;have l:=f.out;subst m l;exact dB c i ⟨q.trans a.1,a.2⟩
 .have m:=d.out;have l:=f.out;subst m l;exact⟨rfl,dB c i ⟨q.trans a.1,a.2⟩⟩
def Ty(w b a h s)(c:iH w b (mk a) h s)(op:Nat)(d:op<65\/77<op)(_hl:op<256):Calls Vp 198 #[.pointer b,.int .u8 op] w (aT kA w b (mk a) h (.bad 2 s.steps)):=by
 go_enter fA Tryz.func198,Tryz.ntmps198;go_wp2;exact⟨rfl,aZ _ _,rfl,s,rfl,c⟩
def XR(w b a h s)(c:iH w b (mk a) h s)(d:a.length<=1000)(op:Nat)(g:op<256):Calls Vp 198 #[.pointer b,.int .u8 op] w (aT kA w b (mk a) h (LZ a h op s)):=by
 by_cases i:op<65\/77<op
 .have e:LZ a h op s=.bad 2 s.steps:=by unfold LZ;rw[aU O9,aU O9,aU O9,aU O9,aU O9,aU O9,aU O9,aU O9]
  rw[e];exact Ty w b a h s c op i g
 .have f:op=65\/op=66\/op=67\/op=68\/op=69\/op=70\/op=71\/op=72\/op=73\/op=74\/op=75\/op=76\/op=77:=O9;obtain rfl|rfl|rfl|rfl|rfl|rfl|rfl|rfl|rfl|rfl|rfl|rfl|rfl:=f;.exact XP w b a h s c
  .exact Tu w b a h s c
  .exact Tv w b a h s c
  .exact tE w b a h s c d 68 D9
  .exact tE w b a h s c d 69 D9
  .exact tE w b a h s c d 70 D9
  .exact tE w b a h s c d 71 D9
  .exact tE w b a h s c d 72 D9
  .exact XQ w b a h s c
  .exact Tx w b a h s c
  .exact tE w b a h s c d 75 D9
  .exact L3 w b a h s c
  .exact L4 w b a h s c
end
section
variable[Go.Proofs.VB]
def nQ (d : Nat -> St -> xE Nat) (to : Nat) : Nat -> Nat -> St -> xE Unit
 | 0, _, s => .ok () s
 | k + 1, i, s => if i < to then (d i s).bind λ j s' => nQ d to k j s' else .ok () s
def uA(d:Nat->St->xE Nat)(p:List UInt8)(i:Nat)(s:St):xE Nat:=match pG p p.length (i+1) 0 none with
 |none=>.bad 5 s.steps
 |some (m,e)=>(kY s).bind λx s=>if x≠0 then(nQ d m (m -(i+1)) (i+1) s).bind λ_ s=>(wA s).bind λ_ s=>.ok (e+1) s
   else if m<e then(nQ d e (e -(m+1)) (m+1) s).bind λ_ s=>(wA s).bind λ_ s=>.ok (e+1) s
   else .ok (e+1) s
def doB(JA:List UInt8)(h:Int)(p:List UInt8)(d:Nat->St->xE Nat)(i:Nat)(s:St):xE Nat:=(wA s).bind λ_ s=>if opAt p i<64 then(qK (opAt p i) s).bind λ_ s=>.ok (i+1) s
   else if opAt p i=64 then(if i+9<=p.length then(qK (xd p i) s).bind λ_ s=>.ok (i+9) s else .bad 2 s.steps)
   else if opAt p i=80 then uA d p i s
   else if opAt p i=81\/opAt p i=82 then .bad 5 s.steps
   else(LZ JA h (opAt p i) s).bind λ_ s=>.ok (i+1) s
def doM(JA:List UInt8)(h:Int)(p:List UInt8):Nat->Nat->St->xE Nat
 |0=>λ_ s=>.bad 99 s.steps
 |n+1=>doB JA h p (doM JA h p n)
def Dm(p):∀f i d a m e,pG p f i d a=some (m,e)->(∀x,a=some x->x<i)->m<=e/\e<p.length/\i<=e/\(∀x,a=some x->m=x)/\(a=none->i<=m)
 |0,i,d,a,m,e,h,_=>by simp[pG]at h
 |f+1,i,d,a,m,e,h,c=>by
   have g:i<jL p i:=by unfold jL;split<;>omega
   have step:∀j d',i<j->pG p f j d' a=some (m,e)->m<=e/\e<p.length/\i<=e/\(∀x,a=some x->m=x)/\(a=none->i<=m):=λj d' r k=>by have:=Dm p f j d' a m e k (λx b=>by have:=c x b;omega);exact⟨this.1,this.2.1,O9,this.2.2.2.1,λh0=>by have:=this.2.2.2.2 h0;omega⟩
   rw[pG]at h;split at h
   .rename_i s;split at h;.grind
    .split at h;.grind
     .split at h;.grind
      .split at h
       .split at h;.cases h
        .rename_i n;have l:a=none:=by cases a with
          |none=>rfl
          |some x=>exact absurd rfl n
         have:=Dm p f _ _ _ _ _ h (λx b=>by cases b;omega);have q:=this.2.2.2.1 i rfl;exact⟨this.1,this.2.1,O9,(λx b=>by rw[l]at b;cases b),λ_=>by omega⟩
       .split at h;.cases a with
         |none=>simp only[Option.getD_none,gT,J2]at h;exact⟨O9,O9,O9,(λx b=>by cases b),λ_=>by omega⟩
         |some x=>simp only[pq,gT,J2]at h;have:=c x rfl;exact⟨O9,O9,O9,(λy o=>by cases o;omega),λh0=>by cases h0⟩
        .exact step _ _ g h
   .cases h
def L5(n:Nat):Value:=.int .i64 n
def E2 (p b f h) (d : Nat -> St -> xE Nat) (i to s w) (_hp : to <= 1000) (z : i <= 2000)
 (y : ∀ (j : Nat) (s : St) (w : World), i <= j -> j < to -> iH w b (mk f) h s -> Calls Vp 193 #[.pointer b, (mk p), j] w (aT L5 w b (mk f) h (d j s)))
 (aX : ∀ j s c s', i <= j -> j < to -> d j s = .ok c s' -> j < c /\ c <= 2000) (m : iH w b (mk f) h s) :
 Calls Vp 191 #[.pointer b, (mk p), i, to] w (aT kA w b (mk f) h (nQ d to (to - i) i s)) := by
 generalize a : nQ d to (to - i) i s = E
 go_enter fA Tryz.func191, Tryz.ntmps191
 go_wp2
 go_loopw [8] (λ v wr => ∃ (j k : Nat) (s' : St), v = ↑j /\ iH wr b (mk f) h s' /\ w.grownBy wr (some b) /\ i <= j /\ j <= 2000 /\ to <= j + k /\ Hid (nQ d to k j s' = E)) (λ v _ => 2001 - (intOf v).toNat)
 case atStart => exact ⟨i, to - i, s, rfl, m, aZ _ _, O9, z, O9, a⟩
 case round =>
  obtain ⟨j, k, s', rfl, m, r, x, F, G, a⟩ := hrel
  by_cases l : j < to
  ·obtain ⟨k, rfl⟩ : ∃ k', k = k' + 1 := ⟨k - 1, O9⟩
   rw [nQ, bE l] at a
   replace a := aL a
   go_wp2
   refine (y j s' wr x l m).mono ?_
   intro e w1 A
   obtain ⟨u, ⟨c, q, o, rfl, t⟩ | ⟨k', n, q, o, rfl, B, t⟩⟩ := A.elim
   ·have ⟨C, D⟩ := aX j s' c q x l o
    have g : Hid (nQ d to k c q = E) := by unfold Hid; rw [<- a.out, o]; rfl
    unfold L5
    go_wp2
    go_roundw
    case rel => exact ⟨c, k, q, rfl, t, r.trans u, O9, O9, O9, g⟩
    case measure => simp [intOf]; omega
   ·have g := a.out
    subst g
    exact ⟨rfl, lL o (r.trans u) B t⟩
  ·have H : ¬ (j : Int) < (to : Int) := O9
   have g : E = .ok () s' := by
    rw [<- a.out]
    cases k with
    | zero => rfl
    | succ k => rw [nQ, aU l]
   go_wp2
   go_end0
   exact ⟨r, rfl, m⟩
def OV(p b y h)(d:Nat->St->xE Nat)(i s w)(μ:p.length<=1000)(hi:i<p.length)(P:∀(j:Nat) (s:St) (w:World),i+1<=j->j<p.length->iH w b (mk y) h s->Calls Vp 193 #[.pointer b,(mk p),j] w (aT L5 w b (mk y) h (d j s)))
 (aX:∀j s v s',j<p.length->d j s=.ok v s'->j<v/\v<=2000)(Q:iH w b (mk y) h s):
 Calls Vp 197 #[.pointer b,(mk p),i] w (aT L5 w b (mk y) h (uA d p i s)):=by
 have J:=Dm p p.length (i+1) 0 none;have a:Hid (uA d p i s=match pG p p.length (i+1) 0 none with
  |none=>.bad 5 s.steps
  |some (m,e)=>(kY s).bind λx s=>if x≠0 then(nQ d m (m -(i+1)) (i+1) s).bind λ_ s=>(wA s).bind λ_ s=>.ok (e+1) s
    else if m<e then(nQ d e (e -(m+1)) (m+1) s).bind λ_ s=>(wA s).bind λ_ s=>.ok (e+1) s
    else .ok (e+1) s):=rfl
 generalize uA d p i s=R at a|-;have F:=XN p i w hi μ;generalize pG p p.length (i+1) 0 none=E at J F a;cases E with
 |none=>go_enter fA Tryz.func197,Tryz.ntmps197;go_wp2;refine F.mono ?_;rintro e w1 ⟨rfl,rfl⟩;go_wp2;refine⟨rfl,?_⟩;rw[a.out];exact⟨aZ _ _,rfl,s,rfl,Q⟩
 |some me=>
   have⟨m,n⟩:=me;replace a:Hid (R=(kY s).bind λx s=>if x≠0 then(nQ d m (m -(i+1)) (i+1) s).bind λ_ s=>(wA s).bind λ_ s=>.ok (n+1) s
    else if m<n then(nQ d n (n -(m+1)) (m+1) s).bind λ_ s=>(wA s).bind λ_ s=>.ok (n+1) s
    else .ok (n+1) s):=a
   have⟨b1,b2,b3,_,O⟩:=J m n rfl (λx u=>by cases u);replace O:=O rfl;clear J;go_enter fA Tryz.func197,Tryz.ntmps197;go_wp2;refine F.mono ?_;rintro e w0 ⟨rfl,rfl⟩;clear F;go_wp2;refine(kR w0 b _ h s Q).mono ?_;intro e w1 S;obtain⟨g,⟨x,M,c,rfl,A⟩|⟨k,n,M,c,rfl,V,A⟩⟩:=S.elim;rotate_left;.go_wp2;refine⟨rfl,?_⟩;rw[a.out];exact lL c g V A
   clear S;unfold C5;by_cases u:x=0
   .subst u;by_cases G:m<n
    .have T:(m:Int)<(n:Int):=O9;go_wp2;refine(E2 p b y h d (m+1) n M w1 O9 O9 (λj s w H I l=>P j s w O9 O9 l) (λj s v s' H I l=>aX j s v s' O9 l) A).mono ?_;intro e w2 B;obtain⟨o,⟨_,D,f,rfl,q⟩|⟨k,n,D,f,rfl,K,q⟩⟩:=B.elim;rotate_left;.go_wp2;refine⟨rfl,?_⟩;rw[a.out];refine dB c g ?_;simp only[xP,J3,zg,bE G];exact lL f o K q
     clear B;unfold kA;go_wp2;refine(Bc w2 b _ h D q).mono ?_;intro e w3 C;obtain⟨z,⟨_,N,t,rfl,r⟩|⟨k,n,N,t,rfl,L,r⟩⟩:=C.elim;rotate_left;.go_wp2;refine⟨rfl,?_⟩;rw[a.out];refine dB c g ?_;simp only[xP,J3,zg,bE G];exact dB f o (lL t z L r)
     clear C;unfold kA;go_wp2;go_ret;rw[a.out];refine dB c g ?_;simp only[xP,J3,zg,bE G];exact dB f o (dB t z ⟨aZ _ _,rfl,r⟩)
    .have T:¬(m:Int)<(n:Int):=O9;go_wp2;go_ret;rw[a.out];refine dB c g ?_;simp only[xP,J3,zg,aU G];exact⟨aZ _ _,rfl,A⟩
   .have W:(x !=0)=true:=by simpa using u
    go_wp2;refine(E2 p b y h d (i+1) m M w1 O9 O9 (λj s w H I l=>P j s w O9 O9 l) (λj s v s' H I l=>aX j s v s' O9 l) A).mono ?_;intro e w2 B;obtain⟨o,⟨_,D,f,rfl,q⟩|⟨k,n,D,f,rfl,K,q⟩⟩:=B.elim;rotate_left;.go_wp2;refine⟨rfl,?_⟩;rw[a.out];refine dB c g ?_;simp only[xP,u,J4,vH];exact lL f o K q
    clear B;unfold kA;go_wp2;refine(Bc w2 b _ h D q).mono ?_;intro e w3 C;obtain⟨z,⟨_,N,t,rfl,r⟩|⟨k,n,N,t,rfl,L,r⟩⟩:=C.elim;rotate_left;.go_wp2;refine⟨rfl,?_⟩;rw[a.out];refine dB c g ?_;simp only[xP,u,J4,vH];exact dB f o (lL t z L r)
    clear C;unfold kA;go_wp2;go_ret;rw[a.out];refine dB c g ?_;simp only[xP,u,J4,vH];exact dB f o (dB t z ⟨aZ _ _,rfl,r⟩)
def p6{α β}{r:xE α}{f}{b:β}{s'}(h:r.bind f=.ok b s'):∃a s,r=.ok a s/\f a s=.ok b s':=by cases r with
 |ok a s=>exact⟨a,s,rfl,h⟩
 |bad e n=>cases h
def Tz(d:Nat->St->xE Nat)(p i s j s')(h:uA d p i s=.ok j s'):i<j/\j<=p.length:=by
 unfold uA at h;split at h;.cases h
 .rename_i m e a;have g:=Dm p p.length (i+1) 0 none m e a (λx b=>by cases b);have⟨x,l,_,h⟩:=p6 h;have k:j=e+1:=by
   split at h;.have⟨_,c,_,h⟩:=p6 h;have⟨_,f,_,h⟩:=p6 h;cases h;rfl
   .split at h;.have⟨_,c,_,h⟩:=p6 h;have⟨_,f,_,h⟩:=p6 h;cases h;rfl
    .simp_all
  omega
def adH(c h p)(d:Nat->St->xE Nat)(i s j s')(hi:i<p.length)(a:doB c h p d i s=.ok j s'):i<j/\j<=p.length:=by
 have⟨_,e,_,a⟩:=p6 a;split at a;.have⟨_,b,_,a⟩:=p6 a;cases a;omega
 .split at a
  .split at a;.have⟨_,b,_,a⟩:=p6 a;cases a;omega
   .cases a
  .split at a;.exact Tz d p i e j s' a
   .split at a;.cases a
    .have⟨_,b,_,a⟩:=p6 a;cases a;omega
def XS(b h p n i s j s')(hi:i<p.length)(a:doM b h p n i s=.ok j s'):i<j/\j<=p.length:=by cases n with
 |zero=>cases a
 |succ n=>exact adH b h p _ i s j s' hi a
def aaR(p b o h)(d:Nat->St->xE Nat)(i s w)(D:p.length<=1000)(hi:i<p.length)(T:o.length<=1000)(S:∀(j:Nat) (s:St) (w:World),i+1<=j->j<p.length->iH w b (mk o) h s->Calls Vp 193 #[.pointer b,(mk p),j] w (aT L5 w b (mk o) h (d j s)))
 (aX:∀j s J s',j<p.length->d j s=.ok J s'->j<J/\J<=2000)(μ:iH w b (mk o) h s):
 Calls Vp 193 #[.pointer b,(mk p),i] w (aT L5 w b (mk o) h (doB o h p d i s)):=by
 have a:Hid (doB o h p d i s=(wA s).bind λ_ s=>if opAt p i<64 then(qK (opAt p i) s).bind λ_ s=>.ok (i+1) s
  else if opAt p i=64 then(if i+9<=p.length then(qK (xd p i) s).bind λ_ s=>.ok (i+9) s else .bad 2 s.steps)
  else if opAt p i=80 then uA d p i s
  else if opAt p i=81\/opAt p i=82 then .bad 5 s.steps
  else(LZ o h (opAt p i) s).bind λ_ s=>.ok (i+1) s):=rfl
 have af:=dK p;have f:jL p i=if opAt p i=64 then i+9 else i+1:=rfl;have N:=pF p i (i:Int) rfl hi;have W:opAt p i=(p.getD i 0).toNat:=rfl;rw[<-W]at N;have L:=Re p i;have v:=λw V=>OU p i w hi D V;generalize doB o h p d i s=R at a|-;generalize opAt p i=c at N a f L v;go_enter fA Tryz.func193,Tryz.ntmps193;go_wp2;refine(Bc w b _ h s μ).mono ?_;intro e w1 X;obtain⟨l,⟨_,x,g,rfl,q⟩|⟨k,n,x,g,rfl,π,q⟩⟩:=X.elim;rotate_left;.go_wp2;refine⟨rfl,?_⟩;rw[a.out];exact lL g l π q
 unfold kA;by_cases m:c<64
 .have O:(c:Int)<64:=O9;rw[aU O9]at f;replace f:=aL f;go_wp2;refine(mR w1 b _ h c x q O9).mono ?_;intro e w2 y;obtain⟨A,⟨_,E,t,rfl,r⟩|⟨k,n,E,t,rfl,F,r⟩⟩:=y.elim;rotate_left;.go_wp2;refine⟨rfl,?_⟩;rw[a.out];refine dB g l ?_;rw[bE m];exact lL t A F r
  unfold kA;go_wp2;refine(qJ p i w2 hi D).mono ?_;rintro e w3 ⟨rfl,rfl⟩;rw[f.out];go_wp2;go_ret;rw[a.out];refine dB g l ?_;rw[bE m];exact dB t A ⟨aZ _ _,rfl,r⟩
 have O:¬(c:Int)<64:=O9;by_cases u:c=64
 .subst u;rw[bE rfl]at f;replace f:=aL f;replace v:=λw=>v w rfl;have K:=OT p i;by_cases C:i+9<=p.length
  .simp only[bE C]at v;generalize G:xd p i=z at v K;replace G:=aL G;go_wp2;refine(v _).mono ?_;rintro e w2 ⟨rfl,rfl⟩;go_wp2;refine(mR w2 b _ h z x q K).mono ?_;intro e w3 Y;obtain⟨M,⟨_,ab,I,rfl,H⟩|⟨k,n,ab,I,rfl,aa,H⟩⟩:=Y.elim;rotate_left;.go_wp2;refine⟨rfl,?_⟩;rw[a.out,G.out];refine dB g l ?_;rw[aU m,bE (by trivial),bE C];exact lL I M aa H
   go_wp2;refine(qJ p i w3 hi D).mono ?_;rintro e w4 ⟨rfl,rfl⟩;rw[f.out];go_wp2;go_ret;rw[a.out,G.out];refine dB g l ?_;rw[aU m,bE (by trivial),bE C];exact dB I M ⟨aZ _ _,rfl,H⟩
  .simp only[aU C]at v;go_wp2;refine(v _).mono ?_;rintro e w2 ⟨rfl,rfl⟩;go_wp2;refine⟨rfl,?_⟩;rw[a.out];refine dB g l ?_;rw[aU m,bE (by trivial),aU C];exact⟨aZ _ _,rfl,x,rfl,q⟩
 rw[aU u]at f;replace f:=aL f;by_cases B:c=80
 .subst B;go_wp2;refine(OV p b o h d i x w1 D hi S aX q).mono ?_;intro e w2 y;obtain⟨A,⟨j,E,t,rfl,r⟩|⟨k,n,E,t,rfl,F,r⟩⟩:=y.elim;.unfold L5;go_wp2;go_ret;rw[a.out];refine dB g l ?_;rw[aU m,aU u,bE (by trivial)];exact y
  .go_wp2;refine⟨rfl,?_⟩;rw[a.out];refine dB g l ?_;rw[aU m,aU u,bE (by trivial)];exact y
 by_cases P:c=81;.subst P;go_wp2;refine⟨rfl,?_⟩;rw[a.out];refine dB g l ?_;rw[aU m,aU u,aU B,bE D9];exact⟨aZ _ _,rfl,x,rfl,q⟩
 by_cases Q:c=82;.subst Q;go_wp2;refine⟨rfl,?_⟩;rw[a.out];refine dB g l ?_;rw[aU m,aU u,aU B,bE D9];exact⟨aZ _ _,rfl,x,rfl,q⟩
 have ae:((c:Int)==81)=false:=by simpa using(by omega:¬(c:Int)=81)
 go_wp2;refine(XR w1 b o h x q T c L).mono ?_;intro e w2 y;obtain⟨A,⟨_,E,t,rfl,r⟩|⟨k,n,E,t,rfl,F,r⟩⟩:=y.elim;rotate_left;.go_wp2;refine⟨rfl,?_⟩;rw[a.out];refine dB g l ?_;rw[aU m,aU u,aU B,aU O9];exact lL t A F r
 go_wp2;refine(qJ p i w2 hi D).mono ?_;rintro e w3 ⟨rfl,rfl⟩;rw[f.out];go_wp2;go_ret;rw[a.out];refine dB g l ?_;rw[aU m,aU u,aU B,aU O9];exact dB t A ⟨aZ _ _,rfl,r⟩
def XT(p b a h)(f:p.length<=1000)(e:a.length<=1000):∀(n i:Nat) (s:St) (w:World),i<p.length->p.length<=i+n->iH w b (mk a) h s->Calls Vp 193 #[.pointer b,(mk p),i] w (aT L5 w b (mk a) h (doM a h p n i s))
 |0,i,s,w,hi,l,_=>by omega
 |n+1,i,s,w,hi,l,k=>aaR p b a h (doM a h p n) i s w f hi e (λj s w d c g=>XT p b a h f e n j s w c O9 g) (λj s m s' d c=>by have:=XS a h p n j s m s' d c;omega) k
def runM(JA:List UInt8)(h:Int)(p:List UInt8)(s:St):xE Unit:=nQ (doM JA h p p.length) p.length p.length 0 s
def Rg(p b a h s w)(f:p.length<=1000)(l:a.length<=1000)(m:iH w b (mk a) h s):Calls Vp 179 #[.pointer b,(mk p)] w (aT kA w b (mk a) h (runM a h p s)):=by
 go_enter fA Tryz.func179,Tryz.ntmps179;go_wp2;have q:=E2 p b a h (doM a h p p.length) 0 p.length s w f O9 (λj s w i c d=>XT p b a h f l p.length j s w c O9 d) (λj s t s' i c d=>by have:=XS a h p p.length j s t s' c d;omega) m;refine q.mono ?_;intro e w1 g;obtain⟨v,⟨_,u,r,rfl,o⟩|⟨k,n,u,r,rfl,x,o⟩⟩:=g.elim;.go_wp2;go_end0;exact g
 .trivial
def Cv(key lock JA:List UInt8)(h:Int):Bool:=decide (32<key.length\/32<lock.length\/JA.length≠8\/h<0)
def XU(key lock a h w)(b:Cv key lock a h=true):Calls Vp 178 #[(mk key),(mk lock),(mk a),h] w λe w'=>e=.panicked (LW 1)/\w'=w:=by
 have c:=dK key;have d:=dK lock;have f:=dK a;go_enter fA Tryz.func178,Tryz.ntmps178;go_wp2;all_goals first|exact⟨rfl,rfl,rfl⟩|(exfalso;unfold Cv at b;rw[decide_eq_true_eq]at b;omega)
def TB(key lock a h w)(b:Cv key lock a h=false):Calls Vp 178 #[(mk key),(mk lock),(mk a),h] w λe w'=>e=.returned (.tuple #[])/\w'=w:=by
 have f:=dK key;have g:=dK lock;have i:=dK a;unfold Cv at b;rw[Vl]at b;have c:decide ((key.length:Int)>32)=false:=by simp;omega
 have d:decide ((lock.length:Int)>32)=false:=by simp;omega
 go_enter fA Tryz.func178,Tryz.ntmps178;go_wp2;go_end0;exact⟨rfl,rfl⟩
def allM(key lock JA:List UInt8)(h:Int):xE Unit:=(runM JA h key ⟨0,[]⟩).bind λ_ s=>(runM JA h lock s).bind λ_ s=>aaS s
def nR(key lock JA:List UInt8)(h:Int):xE Unit:=if Cv key lock JA h then .bad 1 0 else allM key lock JA h
def acO(w:World)(b:Nat)(r:xE Unit)(e:Ending)(w':World):Prop:=w.grownBy w' (some b)/\match r with
 |.ok _ s=>e=.returned (.tuple #[])/\w'.cell? ⟨b,2,none⟩=some (.int .i64 s.steps)
 |.bad k n=>e=.panicked (LW k)/\w'.cell? ⟨b,2,none⟩=some (.int .i64 n)
def iH.c2{w b id h s}(c:iH w b id h s):w.cell? (b,2)=some ↑s.steps:=by have⟨d,a,_⟩:=c.row;exact a.cell 2
def aT.work{w w1 w' b id h r e}(g:w.grownBy w1 (some b))(d:aT kA w1 b id h r e w'):acO w b r e w':=by refine⟨g.trans d.1,?_⟩;have c:=d.2;cases r with
 |ok a s=>exact⟨c.1,c.2.c2⟩
 |bad k n=>obtain⟨f,s,j,i⟩:=c;exact⟨f,by rw[<-j];exact i.c2⟩
def Rh:=@aT.work
structure Var(w:World)(b g:Nat)(v:Value):Prop where
 ne:g≠b
 row:∃t,Row w g t [v]
def Var.cell{w b g v}(h:Var w b g v):w.cell? (g,0)=some v:=by have⟨t,a⟩:=h.row;exact a.cell 0
def Var.sN{w w' b g v}(h:Var w b g v)(c:w.grownBy w' (some b)):Var w' b g v:=by have⟨t,a⟩:=h.row;exact⟨h.ne,t,(c.block g a.lt (λe=>h.ne (by cases e;rfl))).trans a⟩
def XV(key lock a h l y gi gh b w)(Q:h<9223372036854775808)(p:iH w b ⟨#[]⟩ 0 ⟨0,[]⟩)(x:Var w b l (mk key))(c:Var w b y (mk lock))(O:Var w b gi (mk a))(N:Var w b gh (.int .i64 h)):
 Calls Vp 177 #[.pointer l,.pointer y,.pointer gi,.pointer gh,.pointer b] w (acO w b (nR key lock a h)):=by
 have o:Hid (nR key lock a h=if Cv key lock a h then .bad 1 0 else allM key lock a h):=rfl;generalize nR key lock a h=R at o|-;have ck:=x.cell;have cl:=c.cell;have ci:=O.cell;have F:=N.cell;cases g:Cv key lock a h with
 |true=>go_enter fA Tryz.func177,Tryz.ntmps177;go_wp2;refine(XU key lock a h w g).mono ?_;rintro e w1 ⟨rfl,rfl⟩;go_wp2;refine⟨rfl,?_⟩;rw[o.out,bE g];exact⟨aZ _ _,rfl,p.c2⟩
 |false=>
   have m:Hid (R=(runM a h key ⟨0,[]⟩).bind λ_ s=>(runM a h lock s).bind λ_ s=>aaS s):=by unfold Hid;rw[o.out,g];rfl
   clear o;have z:=g;unfold Cv at z;rw[Vl]at z;have⟨L,d,G⟩:=p.row;have c0:=d.r 0;have c1:=d.r 1;have f0:=d.frozen 0;have f1:=d.frozen 1;have T:IntKind.u64.wrap h=h:=by rw[IntKind.wrap_u64];omega
   have μ:¬l=b:=x.ne;have V:¬b=l:=λe=>x.ne e.symm;go_enter fA Tryz.func177,Tryz.ntmps177;go_wp2;refine(TB key lock a h w g).mono ?_;rintro e w1 ⟨rfl,rfl⟩;go_wp2;have f:w1.grownBy ((w1.setCell (b,0) (mk a)).setCell (b,1) (.int .u64 h)) (some b):=(qi _ _ _ _).trans (qi _ _ _ _);have A:iH ((w1.setCell (b,0) (mk a)).setCell (b,1) (.int .u64 h)) b (mk a) h ⟨0,[]⟩:=⟨⟨L,(d.set 0 (mk a)).set 1 (.int .u64 h),G⟩,p.yr,p.steps,O9⟩
   replace c:=c.sN f;generalize(w1.setCell ⟨b,0,none⟩ (mk a)).setCell ⟨b,1,none⟩ (.int .u64 h)=w2 at f A c|-;clear ck cl ci F c0 c1 f0 f1 d;refine(Rg key b a h ⟨0,[]⟩ w2 O9 O9 A).mono ?_;intro e w3 B;obtain⟨i,⟨_,D,j,rfl,t⟩|⟨k,n,D,j,rfl,J,t⟩⟩:=B.elim;rotate_left;.go_wp2;refine⟨rfl,?_⟩;rw[m.out];exact Rh f (lL j i J t)
   clear B;replace c:=c.sN i;have cl:=c.cell;unfold kA;go_wp2;refine(Rg lock b a h D w3 O9 O9 t).mono ?_;intro e w4 C;obtain⟨r,⟨_,E,q,rfl,u⟩|⟨k,n,E,q,rfl,K,u⟩⟩:=C.elim;rotate_left;.go_wp2;refine⟨rfl,?_⟩;rw[m.out];exact Rh f (dB j i (lL q r K u))
   clear C;unfold kA;go_wp2;refine(XW w4 b _ h E u).mono ?_;intro e W v;obtain⟨P,⟨_,M,I,rfl,H⟩|⟨k,n,M,I,rfl,S,H⟩⟩:=v.elim;.unfold kA;go_wp2;go_end0;rw[m.out];exact Rh f (dB j i (dB q r v))
   .go_wp2;refine⟨rfl,?_⟩;rw[m.out];exact Rh f (dB j i (dB q r v))
def adI(p x k w)(d:w.cell? p=some (.int .i64 x))(g:w.frozen? p=false):CallsD Vp 190 #[.pointer (some p)] (.panicking (LW k)) w λe c w'=>e=.returned (.tuple #[])/\c=.panicking [{v:=.iface 45 k,recovered:=true}]/\w'=w.setCell p k:=by
 have f:∀w,(Instr.typeAssert (.iface 45 k) 20 45 false).run Vp w=.ok k w:=λ_=>by kernel_rfl
 refine callsD_of_wpS (fA Tryz.func190) rfl λa cs b=>?_;apply wpS_seq;apply wpS_region;simp[wpOpsS,go_sem,recoverD,b];refine wpS_of_wp ?_;go_wp2;cases a;simp_all[bodyPostS,results]
def L6(p w):CallsD Vp 190 #[.pointer (some p)] .returning w λe c w'=>e=.returned (.tuple #[])/\c=.returning/\w'=w:=by
 refine callsD_of_wpS (fA Tryz.func190) rfl λa cs b=>?_;apply wpS_seq;apply wpS_region;simp[wpOpsS,go_sem,recoverD,b];refine wpS_of_wp ?_;go_wp2;cases a;simp_all[bodyPostS,results]
def yo(r:xE Unit):Int×Nat:=match r with
 |.ok _ s=>(0,s.steps)
 |.bad k n=>(k,n)
def OW(key lock g h l m gi gh b w)(D:h<9223372036854775808)(t:iH w b ⟨#[]⟩ 0 ⟨0,[]⟩)(J:Var w b l (mk key))(K:Var w b m (mk lock))(I:Var w b gi (mk g))(H:Var w b gh (.int .i64 h)):
 Calls Vp 176 #[.func (.func 177) #[] #[.pointer l,.pointer m,.pointer gi,.pointer gh,.pointer b]] w λe w'=>e=.returned ((yo (nR key lock g h)).1)/\w'.cell? (b,2)=some (↑(yo (nR key lock g h)).2)/\w.grownBy w' (some b):=by
 have M:∀fn first cap w,(Instr.makeFunc fn first cap).run Vp w=.ok (.func fn first cap) w:=λ_ _ _ _=>rfl;go_enter_defers fA Tryz.func176,Tryz.ntmps176;go_wp2;have o:Below w.heap.size w (w.alloc (.cells #[aA] 45)):=B0.alloc L9 _;have a:=aW w [aA] 45;change Row (w.alloc (.cells #[aA] 45)) _ _ _ at a;have p:b≠w.heap.size:=by have:=t.lt;omega
 have c:=wz o (some b);have v:=t.keep o;have z:=J.sN c;have A:=K.sN c;have y:=I.sN c;have x:=H.sN c;generalize w.alloc (.cells #[aA] 45)=X at o a v z A y x c|-;obtain⟨E,d⟩:∃E,E=w.heap.size:=⟨_,rfl⟩;rw[<-d]at a p|-;replace d:=aL d;refine(XV key lock g h l m gi gh b X D v z A y x).mono ?_;intro e w1 F;have⟨q,i⟩:=F;replace a:=(q.block E a.lt (λe=>p (by cases e;rfl))).trans a;replace a:Row w1 E 45 [aA]:=a;have B:=a.r 0;have C:=a.frozen 0;have r:=c.trans q;cases j:nR key lock g h with
 |ok u s=>rw[j]at i;obtain⟨rfl,c2⟩:=i;replace c2:=aL c2;have c3:=(a.set 0 ↑aA).r 0;go_wp2;refine qp (f:=190) (args:=#[.pointer (some ⟨E,0,none⟩)]) S8 (by simp[go_sem]) ?_;refine(L6 ⟨E,0,none⟩ _).mono ?_;rintro e G L ⟨rfl,rfl,rfl⟩;simp[Leaves,settle,results,Tryz.results176,go_sem,c3];rw[j];exact⟨rfl,c2.out,Be r E (.inr (nL d.out.symm)) 0 _⟩
 |bad k n=>rw[j]at i;obtain⟨rfl,c2⟩:=i;replace c2:=aL c2;go_wp2;refine qp (f:=190) (args:=#[.pointer (some ⟨E,0,none⟩)]) S8 (by simp[go_sem]) ?_;refine(adI ⟨E,0,none⟩ 0 k w1 B C).mono ?_;rintro e G L ⟨rfl,rfl,rfl⟩;have c3:(w1.setCell ⟨E,0,none⟩ k).cell? ⟨E,0,none⟩=some k:=(a.set 0 k).cell 0;simp[Leaves,settle,results,Tryz.results176,go_sem,c3];rw[j];exact⟨rfl,c2.out,Be r E (.inr (nL d.out.symm)) 0 _⟩
def Ir(key lock c h w)(q:h<9223372036854775808):Calls Vp 165 #[(mk key),(mk lock),(mk c),.int .i64 h] w λe w'=>e=.returned (.tuple #[(yo (nR key lock c h)).1,(yo (nR key lock c h)).2])/\Below w w w':=by
 have v:∀fn first cap w,(Instr.makeFunc fn first cap).run Vp w=.ok (.func fn first cap) w:=λ_ _ _ _=>rfl;go_enter fA Tryz.func165,Tryz.ntmps165;go_wp2;have s:∀W,Row W ((w:Nat)+1+1+1+1) 279 [aB,aC,aA,aC,aC,aC,aC,aC,aC,aC,aC,aC,aC,aC,aC,aC,aC,aC,aC,aA]->iH W ((w:Nat)+1+1+1+1) ⟨#[]⟩ 0 ⟨0,[]⟩:=λW n=>⟨⟨List.replicate 16 0,n,rfl⟩,(λx t=>by cases t),D9,D9⟩
 have m:=((((aW w [(mk key)] 9).alloc (.cells #[(mk lock)] 9)).alloc (.cells #[(mk c)] 9)).alloc (.cells #[h] 3)).alloc (.cells #[aB,aC,aA,aC,aC,aC,aC,aC,aC,aC,aC,aC,aC,aC,aC,aC,aC,aC,aC,aA] 279);have k2:=(((aW (w.alloc (.cells #[(mk key)] 9)) [(mk lock)] 9).alloc (.cells #[(mk c)] 9)).alloc (.cells #[h] 3)).alloc (.cells #[aB,aC,aA,aC,aC,aC,aC,aC,aC,aC,aC,aC,aC,aC,aC,aC,aC,aC,aC,aA] 279);have i:=((aW ((w.alloc (.cells #[(mk key)] 9)).alloc (.cells #[(mk lock)] 9)) [(mk c)] 9).alloc (.cells #[h] 3)).alloc (.cells #[aB,aC,aA,aC,aC,aC,aC,aC,aC,aC,aC,aC,aC,aC,aC,aC,aC,aC,aC,aA] 279);have j:=(aW (((w.alloc (.cells #[(mk key)] 9)).alloc (.cells #[(mk lock)] 9)).alloc (.cells #[(mk c)] 9)) [h] 3).alloc (.cells #[aB,aC,aA,aC,aC,aC,aC,aC,aC,aC,aC,aC,aC,aC,aC,aC,aC,aC,aC,aA] 279);have l:=aW ((((w.alloc (.cells #[(mk key)] 9)).alloc (.cells #[(mk lock)] 9)).alloc (.cells #[(mk c)] 9)).alloc (.cells #[h] 3)) [aB,aC,aA,aC,aC,aC,aC,aC,aC,aC,aC,aC,aC,aC,aC,aC,aC,aC,aC,aA] 279;simp only[bL]at k2 i j l;have g:Below w w (((((w.alloc (.cells #[(mk key)] 9)).alloc (.cells #[(mk lock)] 9)).alloc (.cells #[(mk c)] 9)).alloc (.cells #[h] 3)).alloc (.cells #[aB,aC,aA,aC,aC,aC,aC,aC,aC,aC,aC,aC,aC,aC,aC,aC,aC,aC,aC,aA] 279)):=((((B0.alloc L9 _).alloc S8 _).alloc (by simp;omega) _).alloc (by simp;omega) _).alloc (by simp;omega) _
 generalize((((w.alloc (.cells #[(mk key)] 9)).alloc (.cells #[(mk lock)] 9)).alloc (.cells #[(mk c)] 9)).alloc (.cells #[h] 3)).alloc (.cells #[aB,aC,aA,aC,aC,aC,aC,aC,aC,aC,aC,aC,aC,aC,aC,aC,aC,aC,aC,aA] 279)=X at m k2 i j l g|-;have o:(w:Nat)<=(w:Nat)+1+1+1+1:=O9;have v1:Var X ((w:Nat)+1+1+1+1) w (mk key):=⟨O9,_,m⟩;have v2:Var X ((w:Nat)+1+1+1+1) ((w:Nat)+1) (mk lock):=⟨O9,_,k2⟩;have v3:Var X ((w:Nat)+1+1+1+1) ((w:Nat)+1+1) (mk c):=⟨O9,_,i⟩;have u:Var X ((w:Nat)+1+1+1+1) ((w:Nat)+1+1+1) h:=⟨O9,_,j⟩;have r:=s X l;generalize(w:Nat)+1+1+1+1=b at*;refine(OW key lock c h _ _ _ _ b X q r v1 v2 v3 u).mono ?_;rintro e w1 ⟨rfl,c2,p⟩;have d:=g.grown p g.size (λk e=>by cases e;exact o);generalize f:yo (nR key lock c h)=a at c2|-;replace f:=aL f;go_wp2;go_quiet (fail);go_wp2;go_ret2;rw[f.out];exact⟨rfl,d.os,d.tape,d.output,d.size,d.block⟩
end
end Go.Proofs.aH
