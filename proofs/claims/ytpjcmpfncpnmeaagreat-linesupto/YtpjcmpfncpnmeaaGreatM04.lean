import Derived.Conc.CrowdTrace
import Derived.Conc.CrowdStepW
import Derived.Test.YtpjcmpfncpnmeaaGreatM03
set_option linter.all false
set_option maxHeartbeats 1600000
namespace Go.Proofs.aH
open Go.RowKit
section
variable[Go.Proofs.VB]
def mN.below{b w c v l}(h:mN b w v l)(a:Below w w c):mN b c v l:=World.ownsRow.kept (row:=none) h ⟨a.os,a.tape,a.output,a.size,λk d _=>a.block k d⟩ (by cases v.ownBlock<;>simp)
end
open Tryz
section
variable[Go.Proofs.VB]
def He(first)(n:Nat):pV n (SD first) (M6 first)=(decide ((n:Int)<=8)&&(first==((n:Int)==0))):=by rw[Uz];cases first<;>simp[pV,SD,M6]<;>omega
def YP(T m n r p q G first w)(t:uk w (m,r,n) r)(D:mg w (p,G,q) G):
 Calls Vp 168 #[.agg #[.int .i64 T,.slice m r n,.slice p G q],.bool first] w λe d=>e=.returned (.bool<|gM T r G first)/\Below w w d:=by
 have N:=t.len;have O:=D.len;by_cases s:pV T 0 65535=true/\¬(8:Int)<r/\first=((r:Int)==0)/\¬(G:Int)<1/\¬(8:Int)<G;case neg=>
  have h:gM T r G first=false:=by rw[Bool.eq_false_iff];intro h;simp[gM,He]at h;simp[pV]at h s;grind
  rw[h];go_enter fA func168,ntmps168;go_wp2_with (go_at_call 132;refine(zC _ _ _ _).m0 ?_);all_goals first|(go_ret;exact⟨rfl,B0.alloc L9 _⟩)|(exfalso;simp_all)
 obtain⟨s,x,rfl,y,I⟩:=s;have z:pV r (SD<|(r:Int)==0) (M6<|(r:Int)==0)=true:=by rw[He];simp;omega
 have A:pV G 1 8=true:=by simp[pV];omega
 have H:Hid (gM T r G ((r:Int)==0)=(r.all jB.fits&&G.all dD.fits)):=by unfold Hid;simp[gM,s,z,A]
 clear z A;go_enter fA func168,ntmps168;go_wp2_with (go_at_call 132;refine(zC _ _ _ _).m0 ?_);clear s x y I;go_loopw [6] (λi v=>∃k:Nat,k<=r/\i=↑k/\(r.take k).all jB.fits=true/\Below ((w:Nat)+1) (w.alloc<|.cells #[T,.slice m r n,.slice p G q] 90) v) (λi _=>r -(intOf i).toNat);case atStart=>exact⟨0,cH _,rfl,S8,B0⟩
 case round=>
  obtain⟨k,L,rfl,f,a⟩:=hrel;have J:=kL a 1 _ rfl;by_cases c:k<r
  .have⟨⟨E,F,u,j⟩,_⟩:=t.keep (iZ a);cases u;obtain⟨b,o,rfl,l⟩:=j (by intro h;simp[h]at c);have⟨M,P,Q⟩:=l k _<|aY c;clear j l;have B:=a.alloc (by simpa using a.size)<|.cells #[↑r[k].tx,↑r[k].idx,↑r[k].key] 139;go_wp2_with (go_at_call 132;refine(zC _ _ _ _).m0 ?_);case' roundEnd=>
    have g:jB.fits r[k]=true:=by simp[jB.fits,Br, *]
    go_roundw;case rel=>exact⟨k+1,O9,by go_num,by rw[sY _ _ k _<|aY c,f,g];rfl,B⟩
    case measure=>simp[intOf];omega
   all_goals
    have g:jB.fits r[k]=false:=by simp[jB.fits,Br, *]
    go_ret;refine⟨?_,iZ B⟩;rw[H.out,all_false jB.fits r k _ (aY c) g];rfl
  have C:=kL a 2 _ rfl;have K:Hid (r.all jB.fits=true):=by unfold Hid;rw[List.take_of_length_le O9]at f;exact f
  clear f t;go_wp2;go_loopw [9] (λi v=>∃k:Nat,k<=G/\i=↑k/\(G.take k).all dD.fits=true/\Below ((w:Nat)+1) (w.alloc<|.cells #[T,.slice m r n,.slice p G q] 90) v) (λi _=>G -(intOf i).toNat);case atStart=>exact⟨0,cH _,rfl,S8,a⟩
  case round=>
   clear a J C;obtain⟨k,L,rfl,f,a⟩:=hrel;have C:=kL a 2 _ rfl;by_cases c:k<G
   .have⟨⟨E,F,u,j⟩,_⟩:=D.keep (iZ a);cases u;obtain⟨b,o,rfl,l⟩:=j (by intro h;simp[h]at c);have⟨M,P⟩:=l k _<|aY c;clear j l;go_wp2_with (go_at_call 132;refine(zC _ _ _ _).m0 ?_);case' roundEnd=>
     have g:dD.fits G[k]=true:=by simp[dD.fits,xg, *]
     go_roundw;case rel=>exact⟨k+1,O9,by go_num,by rw[sY _ _ k _<|aY c,f,g];rfl,a⟩
     case measure=>simp[intOf];omega
    all_goals
     have g:dD.fits G[k]=false:=by simp[dD.fits,xg, *]
     go_ret;refine⟨?_,iZ a⟩;rw[H.out,all_false dD.fits G k _ (aY c) g,aaf];rfl
   go_wp2;go_ret;refine⟨?_,iZ a⟩;rw[Dv O9]at f;rw[H.out,K.out,f];rfl
def BD(M G g t u a w)(D:xw w (t,a,u) a):
 Calls Vp 135 #[.agg #[.string M,.int .i64 G,.int .i64 g,.slice t a u]] w λe c=>e=.returned (dI M G g a)/\Below w w c:=by
 have Q:=D.len;by_cases d:(M.size:Int)=8/\pV G 0 8=true/\pV g 0 65535=true/\¬(a:Int)<1/\¬(8:Int)<a;case neg=>
  have h:dI M G g a=false:=by rw[Bool.eq_false_iff];intro h;simp[dI,pV]at h d;grind
  rw[h];go_enter fA func135,ntmps135;go_wp2_with (go_at_call 132;refine(zC _ _ _ _).m0 ?_);all_goals first|(go_ret;exact⟨rfl,B0.alloc L9 _⟩)|(exfalso;simp_all)
 obtain⟨d,j,l,v,F⟩:=d;have x:pV a 1 8=true:=by simp[pV];omega
 have H:Hid (dI M G g a=a.zipIdx.all (λp=>p.1.fits<|(p.2:Int)==0)):=by unfold Hid;simp[dI,d,j,l,x]
 clear x;go_enter fA func135,ntmps135;go_wp2_with (go_at_call 132;refine(zC _ _ _ _).m0 ?_);clear j l d v F;go_loopw [5] (λi J=>∃k:Nat,k<=a/\i=↑k/\(a.zipIdx.take k).all (λp=>p.1.fits<|(p.2:Int)==0)=true/\Below ((w:Nat)+1) (w.alloc<|.cells #[M,G,g,.slice t a u] 93) J) (λi _=>a -(intOf i).toNat);case atStart=>exact⟨0,cH _,rfl,S8,B0⟩
 case round=>
  obtain⟨k,P,rfl,m,f⟩:=hrel;have O:=kL f 3 _ rfl;by_cases r:k<a
  .have⟨⟨K,L,I,z⟩,_⟩:=D.keep (iZ f);cases I;obtain⟨b,o,rfl,A⟩:=z (by intro h;simp[h]at r);have⟨W,N,R,q,s⟩:=A k _<|aY r;clear z A;have E:Hid (a.zipIdx[k]?=some (a[k],k)):=by unfold Hid;simp[r]
   have⟨S,T,B,_⟩:=q.form;have⟨U,V,C,_⟩:=s.form;rw[B]at N q;rw[C]at R s;clear B C;go_wp2_with (go_at_call 168;refine(YP _ _ _ _ _ _ _ _ _ q s).m1 λc y=>?_)
   .have n:gM a[k].tag a[k].ins a[k].outs ((k:Int)==0)=false:=by simpa using‹(!gM a[k].tag a[k].ins a[k].outs ((k:Int)==0))=true›
    go_ret;refine⟨?_,iZ<|mD f S8 y⟩;rw[H.out,all_false _ a.zipIdx k _ E.out n];rfl
   have n:gM a[k].tag a[k].ins a[k].outs ((k:Int)==0)=true:=by simpa using‹(!gM a[k].tag a[k].ins a[k].outs ((k:Int)==0))=false›
   go_roundw;case rel=>exact⟨k+1,O9,by go_num,by rw[sY _ _ k _ E.out,m,ku.fits,n];rfl,mD f S8 y⟩
   case measure=>simp[intOf];omega
  go_wp2;go_ret;refine⟨?_,iZ f⟩;rw[Dv<|by simp;omega]at m;rw[H.out,m];rfl
def Kj(n)(S:Nat)(w)(b:0<=n)(c:n<=1000000000000)(o:S<=4):Calls Vp 136 #[.int .i64 n,S] w λe W=>e=.returned (mk<|be n S)/\Below w w W:=by
 go_enter fA func136,ntmps136;go_wp2;go_loopw [0,5,6] (λN s i wr=>∃(j:Nat)(m:Int),j<=S/\i=↑j/\N=↑m/\m=n/2^(8*j)/\s=↑(mk<|be n j)/\Below w w wr) (λ_ _ i _=>S -(intOf i).toNat);case atStart=>exact⟨0,n,cH _,rfl,rfl,S8,rfl,B0⟩
 case round=>
  obtain⟨j,m,f,rfl,rfl,h,rfl,H⟩:=hrel;have k:0<=m:=h▸Int.ediv_nonneg b (UK<|UL D9);have l:m<=1000000000000:=h▸Int.le_trans (Int.ediv_le_self _ b) c;have a:=aK h;clear h;by_cases g:j<S
  .have d:=V4 wr (m%256) O9 O9;have p:((mk<|be n j).size:Int)<=4:=by rw[cD,bI];omega
   go_wp2;go_roundw;case rel=>refine⟨j+1,m/256,O9,by go_num,by go_num,by rw[a.out,Pw],?_,H.alloc H.size _⟩;have e:(ByteArray.mk #[byteOf<|m%256])=mk [byteOf<|m%256]:=rfl;rw[e,eH,be,a.out];rfl
   case measure=>simp[intOf];omega
  go_wp2;go_ret;have:j=S:=O9;subst this;exact⟨rfl,H⟩
end
end Go.Proofs.aH
namespace Go.Ren
open Go.Conc
inductive dC:Type 1
 |mk (ι:Type) (f:ι->dC)
def dC.under:dC->dC->Prop
 |r,.mk _ f=>∃i,r=f i
def dC.wf:WellFounded dC.under:=⟨λr=>by induction r with
 |mk b f a=>exact⟨_,λy⟨i,e⟩=>e▸a i⟩⟩
def dC.of:Nat->dC
 |0=>.mk Empty λe=>e.elim
 |n+1=>.mk Unit λ_=>dC.of n
def dC.aa8(n):dC.under (dC.of n) (dC.of<|n+1):=⟨(),rfl⟩
theorem ahm:type_of%@dC.aa8:=@dC.aa8
def dC.less(K:Nat)(b a:Nat->dC):Prop:=∃i,i<K/\dC.under (b i) (a i)/\∀k,k<K->k≠i->b k=a k
def dC.many:∀(K:Nat)(M:(Nat->dC)->Prop),(∀m,(∀n,dC.less K n m->M n)->M m)->∀m,M m
 |0,_,h,m=>h m λ_⟨_,o,_⟩=>absurd o<|qu _
 |K+1,M,h,m=>by suffices H:∀s m,m K=s->M m from H _ m rfl;intro s;induction s using dC.wf.induction with
   |_ s l=>refine dC.many K (λm=>m K=s->M m) λm g e=>h m λn c=>?_;have⟨i,o,f,a⟩:=c;by_cases b:i=K;grind;exact g n ⟨i,O9,f,λk j d=>a k O9 d⟩<|(a K O9 λx=>b x.symm).trans e
open Go.ConcN
def NQ:=@noRace_append
structure wM(D Sh:Loc->Prop)(Own Rd:Nat->Loc->Prop):Prop where
 own:∀k k' l,Own k l->Own k' l->k=k'
 ownRd:∀k k' l,Own k l->¬Rd k' l
 ownSh:∀k l,Own k l->¬Sh l
 rdSh:∀k l,Rd k l->¬Sh l
 akF:∀k l,Own k l->¬D l
 rdD:∀k l,Rd k l->¬D l
 shD:∀l,Sh l->¬D l
 mem:∀k l,Own k l\/Rd k l\/Sh l->l.isMemory=true
structure TI(D Sh:Loc->Prop)(Own Rd:Nat->Loc->Prop)(t:Trace):Prop where
 quiet:Quiet Sh t
 own:∀k l,Own k l->Perm t k l
 rd:∀k l,Rd k l->PermW t k l
 mine:∀l,¬D l->¬Sh l->(∀k,¬Own k l)->PermW t 0 l
 free:∀l,¬D l->¬Sh l->(∀k,¬Own k l/\¬Rd k l)->Perm t 0 l
 nr:∀said,¬Race said t
def ajB(D S:Loc->Prop)(Own Rd:Nat->Loc->Prop)(x:Touch):Prop:=x.loc.isMemory=false\/(S x.loc/\x.kind≠.plain)\/(¬D x.loc/\¬S x.loc/\(∀k,¬Own k x.loc)/\(x.write=true->∀k,¬Rd k x.loc))
def ajC(S:Loc->Prop)(Own Rd:Nat->Loc->Prop)(k:Nat)(x:Touch):Prop:=x.loc.isMemory=false\/(S x.loc/\x.kind=.atomic)\/Own k x.loc\/(Rd k x.loc/\x.write=false)
section
variable{D Sh:Loc→Prop}{Own Rd:Nat→Loc→Prop}{t u:Trace}
def TI.app0(A:wM D Sh Own Rd)(h:TI D Sh Own Rd t)(r:∀O∈u,O.g=0)(p:∀O∈u,∀x,O.act.touch?=some x->ajB D Sh Own Rd x):TI D Sh Own Rd (t++u):=by
 refine⟨h.quiet.app λO f x B c=>?_,λk l d=>(h.own k l d).app λO f b o e=>?_,λk l d=>(h.rd k l d).app λO f b o e C=>?_,λl n c d=>(h.mine l n c d).app λO f _ _ _ _=>r O f,λl n c d=>(h.free l n c d).app λO f _ _ _=>r O f,λS=>?_⟩
 obtain j|⟨_,v⟩|⟨_,w,_⟩:=p O f x B;rw[A.mem 0 _ (.inr<|.inr c)]at j;cases j;simp_all;simp_all;obtain j|⟨c,_⟩|⟨_,_,w,_⟩:=p O f b o;grind [A.mem];grind [A.ownSh];simp_all;obtain j|⟨c,_⟩|⟨_,_,_,w⟩:=p O f b o;rw[e,A.mem k _ (.inr<|.inl d)]at j;cases j;grind [A.rdSh];simp_all;refine NQ (h.nr S) r λi a q O f b o m=>?_;obtain j|⟨c,v⟩|⟨n,c,y,z⟩:=p O f b o;have:=m.2.1;rw[m.1,j]at this;cases this;grind [h.quiet.known];cases s:b.write with
 |true=>exact h.free b.loc n c (λk=>⟨y k,z s k⟩) i a q m.1
 |false=>exact h.mine b.loc n c y i a q m.1 (m.2.2.1.resolve_right<|by simp[s])
def TI.appW(A:wM D Sh Own Rd)(N:∀l,l.isMemory=false->D l)(h:TI D Sh Own Rd t){k}(w:∀O∈u,O.g=k)(q:∀O∈u,∀x,O.act.touch?=some x->ajC Sh Own Rd k x):TI D Sh Own Rd (t++u):=by
 refine⟨h.quiet.app λO j x C d=>?_,λK l c=>(h.own K l c).app λO j b m e=>?_,λK l c=>(h.rd K l c).app λO j b m e B=>?_,λl s d c=>(h.mine l s d c).app λO j b m e B=>?_,λl s d c=>(h.free l s d c).app λO j b m e=>?_,λS=>?_⟩
 obtain f|⟨_,v⟩|n|⟨o,_⟩:=q O j x C;rw[A.mem 0 _ (.inr<|.inr d)]at f;cases f;simp_all;grind [A.ownSh];grind [A.rdSh];obtain f|⟨d,_⟩|n|⟨o,_⟩:=q O j b m;grind [A.mem];grind [A.ownSh];grind [A.own];grind [A.ownRd];obtain f|⟨d,_⟩|n|⟨_,o⟩:=q O j b m;rw[e,A.mem K _ (.inr<|.inl c)]at f;cases f;grind [A.rdSh];grind [A.ownRd];simp_all;obtain f|⟨z,_⟩|n|⟨_,o⟩:=q O j b m;simp_all;simp_all;simp_all;simp_all;obtain f|⟨z,_⟩|n|⟨o,_⟩:=q O j b m;simp_all;simp_all;simp_all;simp_all;refine NQ (h.nr S) w λi a r O j b m p=>?_;obtain f|⟨d,v⟩|n|⟨o,y⟩:=q O j b m;have:=p.2.1;rw[p.1,f]at this;cases this;grind [h.quiet.known];exact h.own k b.loc n i a r p.1;exact h.rd k b.loc o i a r p.1 (p.2.2.1.resolve_right<|by simp[y])
def TI.mute(h:TI D Sh Own Rd t){k}(m:∀O∈u,O.g=k)(n:∀O∈u,O.act.touch?=none):TI D Sh Own Rd (t++u):=by
 have N:∀O∈u,∀b,O.act.touch?=some b->False:=λO c b d=>by rw[n O c]at d;cases d
 exact⟨h.quiet.app λO c x o _=>(N O c x o).elim,λk l e=>(h.own k l e).app λO c b d _=>(N O c b d).elim,λk l e=>(h.rd k l e).app λO c b d _ _=>(N O c b d).elim,λl f j e=>(h.mine l f j e).app λO c b d _ _=>(N O c b d).elim,λl f j e=>(h.free l f j e).app λO c b d _=>(N O c b d).elim,
  λs=>NQ (h.nr s) m λi a _ O c b d _=>(N O c b d).elim⟩
def TI.grow{d}(h:TI D Sh Own Rd t)(j:∀k l,Own k l->d k l)(m:∀k l,d k l->Own k l\/∀i a,touchAt t i=some a->a.loc≠l):TI D Sh d Rd t:=by refine⟨h.quiet,λk l b=>?_,h.rd,λl f g b=>h.mine l f g λk c=>b k<|j k l c,λl f g b=>h.free l f g λk=>⟨λc=>(b k).1<|j k l c,(b k).2⟩,h.nr⟩;obtain c|o:=m k l b;grind [h.own];exactλi a n e=>absurd e<|o i a n
def TI.fork{q r n x y}(h:TI D Sh Own Rd t)(p:wM D Sh q r)(s:x.g=0/\x.act=.go n)(u:y.g=n/\y.act=.start)(B:Deaf t 0=0)(C:Deaf t n=0)(E:∀k l,Own k l->q k l)(F:∀k l,q k l->Own k l\/(k=n/\∀P,¬Own P l/\¬Rd P l))(G:∀k l,Rd k l->r k l)(H:∀k l,r k l->Rd k l\/(k=n/\∀P,¬Own P l)):TI D Sh q r (t++#[x,y]):=by
 have j:∀O∈#[x,y],∀b,O.act.touch?=some b->False:=by intro O c b d;simp[aad,jO,tH,tI]at c;obtain rfl|rfl:=c;rw[s.2]at d;cases d;rw[u.2]at d;cases d
 have Q:∀{i:Nat}{a:Touch},touchAt (t++#[x,y]) i=some a->touchAt t i=some a:=by intro i a o;have⟨z,K,M⟩:=touch_of o;rcases getElem?_append_cases K with⟨_,L⟩|⟨_,N⟩;rw[touchAt_of L];exact M;grind
 refine⟨h.quiet.app λO c b d _=>(j O c b d).elim,λk l f=>?_,λk l f=>?_,λl v A f=>(h.mine l v A λk m=>f k<|E k l m).app λO c b d _ _=>(j O c b d).elim,
  λl v A f=>(h.free l v A λk=>⟨λm=>(f k).1<|E k l m,λI=>(f k).2<|G k l I⟩).app λO c b d _=>(j O c b d).elim,λS=>?_⟩
 obtain m|⟨rfl,w⟩:=F k l f;exact(h.own k l m).app λO c b d _=>(j O c b d).elim;exactλi a o e=>fork_knows s u B C<|h.free l (p.akF _ l f) (p.ownSh _ l f) w i a (Q o) e;obtain m|⟨rfl,w⟩:=H k l f;exact(h.rd k l m).app λO c b d _ _=>(j O c b d).elim;exactλi a o e J=>fork_knows s u B C<|h.mine l (p.rdD _ l f) (p.rdSh _ l f) w i a (Q o) e J;have e:t++#[x,y]=(t++#[x])++#[y]:=by apply Ul;simp
 rw[e];exact NQ (g:=n) (NQ (g:=0) (h.nr S) (λO c=>by simp at c;rw[c];exact s.1) λi a _ O c b d _=>(j O (by simp at c|-;exact .inl c) b d).elim) (λO c=>by simp at c;rw[c];exact u.1) (λi a _ O c b d _=>(j O (by simp at c|-;exact .inr c) b d).elim)
def TI.start(h:∀i a,touchAt t i=some a->a.loc.isMemory=true->Knows t 0 i\/D a.loc)(k:∀l,D l\/Sh l\/l.isMemory=true)(d:∀i a,touchAt t i=some a->¬Sh a.loc)(n:∀s,¬Race s t):TI D Sh (λ_ _=>False) (λ_ _=>False) t:=have K:∀l,¬D l->¬Sh l->Perm t 0 l:=λl b c i a j e=>by grind
 ⟨λi o x H g f=>absurd f (d i x<|by rw[touchAt_of H];exact g),λ_ _ x=>x.elim,λ_ _ x=>x.elim,λl b c _=>PermW.of<|K l b c,λl b c _=>K l b c,n⟩
end
open Go.ConcR (wgBlock WgAt stA smA rd wr mk Payload DC0)
section
abbrev _root_.Go.World.oo(W:World):=(W.os,W.output)
structure Site where
 ty:TypeId
 Wg:Nat
 C:Nat
 N:Nat
 L:Nat
 dead:Nat->Prop
def Site.low(s:Site)(b:Nat):Prop:=b<s.L/\b≠s.C/\b≠s.Wg/\¬s.dead b
variable[Payload]
structure lG(s:Site)(ro oc B:Nat->Prop)(W W1:World):Prop where
 keep:∀b,(B b\/ro b\/s.low b)->W1.heap[b]?=W.heap[b]?
 cell:∀i,oc i->W1.cell? ⟨s.C,i,none⟩=W.cell? ⟨s.C,i,none⟩
 pay:PayAt s.C s.N W->PayAt s.C s.N W1
 live:WgLive s.ty s.Wg W->WgLive s.ty s.Wg W1
 size:W.heap.size<=W1.heap.size
 os:W1.oo=W.oo
 tape:W1.tape=W.tape
def akG(s:Site)(r o B:Nat->Prop)(x:Touch):Prop:=(∀b∈bY x.loc,B b)\/(∃i,o i/\x.loc=.cell ⟨s.C,i,none⟩)\/(x.write=false/\∀b∈bY x.loc,r b\/s.low b)
structure EvC(s:Site)(md:Bool)(ro oc B:Nat->Prop)(K:Nat)(e:Event):Prop where
 touch:∀x,(MemAct.ofEvent e).touch?=some x->x.loc.isMemory=false\/akG s ro oc B x\/(md=true/\x.kind=.said/\∃a,x.loc=.cell a/\a.block=s.Wg)
 low:(MemAct.ofEvent e).low K
 rel:e.loc≠.mark (.release<|stA s.Wg)
structure wy(s:Site)(md:Bool)(ro oc B:Nat->Prop)(W W':World)(es:Array Event):Prop where
 rest:∀b,b<W.heap.size->¬B b->b≠s.C->W'.heap[b]?=W.heap[b]?
 cells:∀i,¬oc i->W'.cell? ⟨s.C,i,none⟩=W.cell? ⟨s.C,i,none⟩
 pay:PayAt s.C s.N W->PayAt s.C s.N W'
 size:W.heap.size<=W'.heap.size
 os:W'.oo=W.oo
 tape:W'.tape=W.tape
 ev:∀e∈es,EvC s md ro oc (grow B W W') W'.heap.size e
 still:∀d,deafBehind d es=d
section
variable{s:Site}{ro oc B:Nat→Prop}{W W1 W2:World}
def lG.refl(W):lG s ro oc B W W:=⟨λ_ _=>rfl,λ_ _=>rfl,id,id,L9,rfl,rfl⟩
def lG.trans(h:lG s ro oc B W W1)(a:lG s ro oc B W1 W2):lG s ro oc B W W2:=⟨λb c=>(a.keep b c).trans<|h.keep b c,λi H=>(a.cell i H).trans<|h.cell i H,a.pay∘h.pay,a.live∘h.live,cA h.size a.size,a.os.trans h.os,a.tape.trans h.tape⟩
def lG.at(W d):lG s ro oc B W (W.at d):=⟨λ_ _=>rfl,λ_ _=>rfl,id,id,L9,rfl,rfl⟩
def wy.none{m}(W):wy s m ro oc B W W #[]:=⟨λ_ _ _ _=>rfl,λ_ _=>rfl,id,L9,rfl,rfl,λe a=>by simp at a,λ_=>rfl⟩
def wy.Ix{M k e n E}(h:wy s M k e n W W1 E)(c:∀b,n b->¬B b/\¬ro b/\s.L<=b)(j:∀i,oc i->¬e i)(d:∀b,(B b\/ro b)->b<W/\b≠s.C)(l:s.L<=W)(m:s.Wg<s.L)(f:s.Wg≠s.C):lG s ro oc B W W1:=by refine⟨λb a=>?_,λi H=>h.cells i<|j i H,h.pay,λ⟨o,S,g⟩=>⟨o,S,g.of_block<|h.rest s.Wg O9 (λx=>by have:=(c _ x).2.2;omega) f⟩,h.size,h.os,h.tape⟩;obtain a|a|a:=a;grind [h.rest];grind [h.rest];exact h.rest b (by have:=a.1;omega) (λx=>by have:=(c b x).2.2;have:=a.1;omega) a.2.1
def lG.of_wg(h:Aside s.Wg W W1)(e:WgLive s.ty s.Wg W1)(g:∀b,(B b\/ro b)->b≠s.Wg)(c:s.C≠s.Wg):lG s ro oc B W W1:=by refine⟨λb a=>h.block b ?_,λi _=>cell_of_block (h.block s.C c) i,λ⟨C,d,f⟩=>⟨C,(h.block s.C c).trans d,f⟩,λ_=>e,pK h.size.symm,Ni h.os h.output,h.tape⟩;obtain a|a|a:=a;simp_all;simp_all;exact a.2.2.1
end
section
variable(P:Program)(s:Site)(main:Bool)(ro oc:Nat→Prop)(Stop:(Nat→Prop)→Goroutine→World→Prop)
inductive gH:(Nat->Prop)->Goroutine->World->Prop
 |stop {B:Nat->Prop} {g:Goroutine} {W:World} (h:∀W1,lG s ro oc B W W1->Stop B g W1):gH B g W
 |step {B:Nat->Prop} {g:Goroutine} {W:World} (hs:g.status=.running)
   (k:∀W1,lG s ro oc B W W1->∃g' W' es,stepG P main g W1=.go g' W' es/\wy s main ro oc B W1 W' es)
   (h:∀W1 g' W' es,lG s ro oc B W W1->stepG P main g W1=.go g' W' es->gH (grow B W1 W') g' W'):gH B g W
inductive lH:dC->(Nat->Prop)->Goroutine->World->Prop
 |stop {r:dC} {B:Nat->Prop} {g:Goroutine} {W:World} (h:∀W1,lG s ro oc B W W1->Stop B g W1):lH r B g W
 |step {ι:Type} {f:ι->dC} {B:Nat->Prop} {g:Goroutine} {W:World} (c:World->Goroutine->World->Array Event->ι) (hs:g.status=.running)
   (k:∀W1,lG s ro oc B W W1->∃g' W' es,stepG P main g W1=.go g' W' es/\wy s main ro oc B W1 W' es)
   (h:∀W1 g' W' es,lG s ro oc B W W1->stepG P main g W1=.go g' W' es->lH (f<|c W1 g' W' es) (grow B W1 W') g' W'):lH (.mk ι f) B g W
end
section
variable{P:Program}{s:Site}{main:Bool}{ro oc:Nat→Prop}{Stop:(Nat→Prop)→Goroutine→World→Prop}{B:Nat→Prop}{g:Goroutine}{W W1:World}
def gH.Re(h:gH P s main ro oc Stop B g W):∃r,lH P s main ro oc Stop r B g W:=by induction h with
 |stop h=>exact⟨.of 0,.stop h⟩
 |@step B g W e k h d=>
   refine⟨.mk (World×Goroutine×World×Array Event) λx=>open Classical in if c:lG s ro oc B W x.1/\stepG P main g x.1=.go x.2.1 x.2.2.1 x.2.2.2 then Classical.choose (d x.1 x.2.1 x.2.2.1 x.2.2.2 c.1 c.2)else .of 0,.step (λf G w E=>(f,G,w,E)) e k λf G w E a b=>?_⟩
   rw[dif_pos ⟨a,b⟩];exact Um<|d f G w E a b
def Vi:=@gH.Re
def lH.Ix{r}(h:lH P s main ro oc Stop r B g W)(d:lG s ro oc B W W1):lH P s main ro oc Stop r B g W1:=by cases h with
 |stop h=>exact .stop λw b=>h w<|d.trans b
 |step c a k h=>exact .step c a (λw b=>k w<|d.trans b) λw G e E b=>h w G e E<|d.trans b
def lH.cases{r}(h:lH P s main ro oc Stop r B g W):Stop B g W\/(g.status=.running/\∃G w E a,stepG P main g W=.go G w E/\wy s main ro oc B W w E/\dC.under a r/\lH P s main ro oc Stop a (grow B W w) G w):=by
 cases h with
 |stop h=>exact .inl (h W<|.refl W)
 |@step i f _ _ _ c d k h=>have⟨G,w,E,e,b⟩:=k W<|.refl W;exact .inr ⟨d,G,w,E,f<|c W G w E,e,b,⟨_,rfl⟩,h W G w E (.refl W) e⟩
def lH.stops{r}(h:lH P s main ro oc Stop r B g W):(∀j,lG s ro oc B W j->Stop B g j)\/(g.status=.running/\∃G w E a,stepG P main g W=.go G w E/\wy s main ro oc B W w E/\dC.under a r/\lH P s main ro oc Stop a (grow B W w) G w):=by
 cases h with
 |stop h=>exact .inl h
 |@step i f _ _ _ c d k h=>have⟨G,w,E,e,b⟩:=k W<|.refl W;exact .inr ⟨d,G,w,E,f<|c W G w E,e,b,⟨_,rfl⟩,h W G w E (.refl W) e⟩
def lH.running{r}(h:lH P s main ro oc Stop r B g W)(a:∀B g W,Stop B g W->g.status=.running):g.status=.running:=by obtain x|x:=h.cases;grind;exact x.1
end
section
variable(P:Program)(s:Site)
abbrev fB:=(Nat->Prop)->Goroutine->World->Prop
def jR(m:Mark)(K:fB):fB:=λB g W=>g.status=.running/\∃G,stepG P true g W=.go G W #[mk m]/\K B G W
def ah3(K:fB):fB:=λB g W=>g.status=.running/\∀v:Nat,v<2147483647->WgAt s.ty s.Wg W (v*Go.ConcR.KK) 0->∃G,stepG P true g W=.go G (W.setCell (stA s.Wg) (.int .u64<|(v+1)*Go.ConcR.KK)) #[rd<|stA s.Wg,wr<|stA s.Wg]/\K B G (W.setCell (stA s.Wg) (.int .u64<|(v+1)*Go.ConcR.KK))
def SGo(C:fB)(K:fB):fB:=λB g W=>g.status=.running/\∃G c,stepG P true g W=.spawn G c W #[]/\c.status=.running/\(PayAt s.C s.N W->C B c W)/\K (λ_=>False) G W
def tQ(K:fB)(k:Nat->fB):fB:=λB g W=>g.status=.running/\∀v:Nat,v<2147483648->WgAt s.ty s.Wg W (v*Go.ConcR.KK) 0->∃G,stepG P true g W=.go G W #[rd<|stA s.Wg]/\(v=0->K B G W)/\(v≠0->k v B G W)
def Rf(V:Nat)(K:fB)(M:fB):fB:=λB g W=>g.status=.running/\∀v:Nat,v<2147483648->WgAt s.ty s.Wg W (v*Go.ConcR.KK) 0->(v=V->∃G,stepG P true g W=.go G (W.setCell (stA s.Wg) (.int .u64<|v*Go.ConcR.KK+1)) #[rd<|stA s.Wg,wr<|stA s.Wg]/\K B G (W.setCell (stA s.Wg) (.int .u64<|v*Go.ConcR.KK+1)))/\
 (v≠V->∃G,stepG P true g W=.go G W #[rd<|stA s.Wg]/\M B G W)
def ae3(K:fB):fB:=λB g W=>g.status=.running/\g.offers=none/\((∃S,WgAt s.ty s.Wg W S 0)->stepG P true g W=.go {g with status:=.blocked} W #[])/\
 (WgAt s.ty s.Wg W 0 1->∃G,stepG P true g W=.go G (W.setCell (smA s.Wg)<|.int .u32 0) (semEvents<|smA s.Wg)/\K B G (W.setCell (smA s.Wg)<|.int .u32 0))
def aa9(K:fB):fB:=λB g W=>g.status=.running/\(WgAt s.ty s.Wg W 0 0->∃G,stepG P true g W=.go G W #[rd<|stA s.Wg]/\K B G W)
def XE(F:Goroutine->World->Prop):fB:=λ_ g W=>g.status=.running/\F g W
end
end
open Go.ConcR (wgBlock WgAt stA smA rd wr mk Payload DC0 Bk)
section
variable[Payload]
abbrev aL:Nat->Prop:=λ_=>False
section
variable(P:Program)(s:Site)(n:Nat)(Ch:Nat→fB)(Anch:fB)(Fin:Goroutine→World→Prop)
def aba:fB:=gH P s true aL aL<|XE Fin
def ae4:fB:=gH P s true aL aL (jR P (.acquire<|stA s.Wg)<|aba P s Fin)
def ZZ:fB:=gH P s true aL aL (jR P .enable<|ae4 P s Fin)
def K4:fB:=gH P s true aL aL (aa9 P s<|ZZ P s Fin)
def K3:fB:=gH P s true aL aL (ae3 P s<|K4 P s Fin)
def Kan:fB:=gH P s true aL aL Anch
def K2(v:Nat):fB:=gH P s true aL aL (Rf P s v (K3 P s Fin)<|Kan P s Anch)
def KE(j:Nat)(K:fB):fB:=gH P s true aL aL<|SGo P s (Ch j) K
def KA(j:Nat)(K:fB):fB:=gH P s true aL aL (jR P .enable<|KE P s Ch j K)
def KD(j:Nat)(K:fB):fB:=gH P s true aL aL (ah3 P s<|KA P s Ch j K)
def KSp:Nat->fB
 |0=>gH P s true aL aL (jR P .disable<|Kan P s Anch)
 |r+1=>gH P s true aL aL<|jR P .disable (KD P s Ch (n -(r+1))<|KSp r)
inductive lN:CTag->Nat->dC->Nat->(Nat->Prop)->Goroutine->World->Prop
 |skd {r:Nat} {j:dC} {B:Nat->Prop} {g:Goroutine} {W:World}:r<n->lH P s true aL aL (jR P .disable (KD P s Ch (n -(r+1))<|KSp P s n Ch Anch r)) j B g W->lN (.sp r 5) (n -(r+1)) j 0 B g W
 |sa1 {r:Nat} {j:dC} {B:Nat->Prop} {g:Goroutine} {W:World}:r<n->lH P s true aL aL (ah3 P s (KA P s Ch (n -(r+1))<|KSp P s n Ch Anch r)) j B g W->lN (.sp r 4) (n -(r+1)) j 1 B g W
 |ske {r:Nat} {j:dC} {B:Nat->Prop} {g:Goroutine} {W:World}:r<n->lH P s true aL aL (jR P .enable (KE P s Ch (n -(r+1))<|KSp P s n Ch Anch r)) j B g W->lN (.sp r 3) (n -(r+1)) j 1 B g W
 |sgo {r:Nat} {j:dC} {B:Nat->Prop} {g:Goroutine} {W:World}:r<n->lH P s true aL aL (SGo P s (Ch<|n -(r+1))<|KSp P s n Ch Anch r) j B g W->lN (.sp r 2) (n -(r+1)) j 0 B g W
 |kd {j:dC} {B:Nat->Prop} {g:Goroutine} {W:World}:lH P s true aL aL (jR P .disable<|Kan P s Anch) j B g W->lN .kd n j 0 B g W
 |anch {j:dC} {B:Nat->Prop} {g:Goroutine} {W:World}:lH P s true aL aL Anch j B g W->lN .anch n j 1 B g W
 |w1 {j:dC} {B:Nat->Prop} {g:Goroutine} {W:World}:lH P s true aL aL (tQ P s (ZZ P s Fin)<|K2 P s Anch Fin) j B g W->lN .w1 n j 1 B g W
 |w2 {vs:Nat} {j:dC} {B:Nat->Prop} {g:Goroutine} {W:World}:lH P s true aL aL (Rf P s vs (K3 P s Fin)<|Kan P s Anch) j B g W->lN (.w2 vs) n j 1 B g W
 |w3 {j:dC} {B:Nat->Prop} {g:Goroutine} {W:World}:lH P s true aL aL (ae3 P s<|K4 P s Fin) j B g W->lN .w3 n j 1 B g W
 |blk {j:dC} {B:Nat->Prop} {g:Goroutine} {W:World}:(∀W1,lG s aL aL B W W1->ae3 P s (K4 P s Fin) B g W1)->lN .blk n j 1 B {g with status:=.blocked} W
 |w4 {j:dC} {B:Nat->Prop} {g:Goroutine} {W:World}:lH P s true aL aL (aa9 P s<|ZZ P s Fin) j B g W->lN .w4 n j 1 B g W
 |ke {j:dC} {B:Nat->Prop} {g:Goroutine} {W:World}:lH P s true aL aL (jR P .enable<|ae4 P s Fin) j B g W->lN .ke n j 1 B g W
 |acq {j:dC} {B:Nat->Prop} {g:Goroutine} {W:World}:lH P s true aL aL (jR P (.acquire<|stA s.Wg)<|aba P s Fin) j B g W->lN .acq n j 0 B g W
 |ret {j:dC} {B:Nat->Prop} {g:Goroutine} {W:World}:lH P s true aL aL (XE Fin) j B g W->lN .ret n j 0 B g W
end
section
variable(P:Program)(s:Site)(oc:Nat→Nat→Prop)(fin:Nat→Value)
def FC(i:Nat):fB:=λ_ g W=>AtR0 P s.ty s.Wg s.C s.N 0 (i+1) (fin i) g W/\∀c,oc i c->W.cell? ⟨s.C,c,none⟩=some (fin c)
def Child(i:Nat):fB:=λB g W=>gH P s false B (oc i) (FC P s oc fin i) aL g W
inductive AB(i:Nat):Nat->dC->Nat->(Nat->Prop)->(Nat->Prop)->Goroutine->World->Prop
 |work {j:dC} {ro B:Nat->Prop} {g:Goroutine} {W:World}:lH P s false ro (oc i) (FC P s oc fin i) j B g W->AB i 7 j 0 ro B g W
 |late {st m d:Nat} {ro B:Nat->Prop} {g:Goroutine} {W:World}:st<=6->WSit P s.ty s.Wg s.C s.N (λ_ _=>False) (λ_ _=>False) 0 (i+1) (fin i) st m d g W->AB i st (dC.of m) d ro B g W
end
section
variable{P:Program}{s:Site}{oc:Nat→Nat→Prop}{fin:Nat→Value}{i st d:Nat}{j:dC}{ro B:Nat→Prop}{g:Goroutine}{W k:World}
def AB.Ix(h:AB P s oc fin i st j d ro B g W)(f:oc i i)(a:lG s ro (oc i) B W k):AB P s oc fin i st j d ro B g k:=by cases h with
 |work h=>exact .work<|h.Ix a
 |late h c=>exact .late h<|c.rely ⟨λb e=>absurd e<|qu _,a.live,a.pay,by simpa using a.cell i f⟩
def AB.status(h:AB P s oc fin i st j d ro B g W):g.status=.running\/g.status=.finished:=by cases h with
 |work h=>exact .inl<|h.running λ_ _ _ x=>x.1.1
 |late _ a=>exact a.status
def AB.woken(h:AB P s oc fin i st j d ro B g W)(a A w):Go.Conc.woken P a A w g=g:=by unfold Go.Conc.woken;split;exact again_running _ h.status;rfl
end
end
section
variable[Payload]{P:Program}{s:Site}{n:Nat}{Ch:Nat→fB}{Anch:fB}{Fin:Goroutine→World→Prop}{tag:CTag}{j d:Nat}{o:dC}{B:Nat→Prop}{a:Goroutine}{W m:World}
def lN.Ix(h:lN P s n Ch Anch Fin tag j o d B a W)(b:lG s aL aL B W m):lN P s n Ch Anch Fin tag j o d B a m:=by cases h with
 |skd c e=>exact .skd c<|e.Ix b
 |sa1 c e=>exact .sa1 c<|e.Ix b
 |ske c e=>exact .ske c<|e.Ix b
 |sgo c e=>exact .sgo c<|e.Ix b
 |kd h=>exact .kd<|h.Ix b
 |anch h=>exact .anch<|h.Ix b
 |w1 h=>exact .w1<|h.Ix b
 |w2 h=>exact .w2<|h.Ix b
 |w3 h=>exact .w3<|h.Ix b
 |blk h=>exact .blk λw f=>h w<|b.trans f
 |w4 h=>exact .w4<|h.Ix b
 |ke h=>exact .ke<|h.Ix b
 |acq h=>exact .acq<|h.Ix b
 |ret h=>exact .ret<|h.Ix b
def lN.status(b:∀B g W,Anch B g W->g.status=.running)(h:lN P s n Ch Anch Fin tag j o d B a W):(a.status=.running/\tag≠.blk)\/(a.status=.blocked/\tag=.blk):=by cases h with
 |blk h=>exact .inr ⟨rfl,rfl⟩
 |skd _ h=>exact .inl ⟨h.running λ_ _ _ x=>x.1,S8⟩
 |sa1 _ h=>exact .inl ⟨h.running λ_ _ _ x=>x.1,S8⟩
 |ske _ h=>exact .inl ⟨h.running λ_ _ _ x=>x.1,S8⟩
 |sgo _ h=>exact .inl ⟨h.running λ_ _ _ x=>x.1,S8⟩
 |kd h=>exact .inl ⟨h.running λ_ _ _ x=>x.1,S8⟩
 |anch h=>exact .inl ⟨h.running b,S8⟩
 |w1 h=>exact .inl ⟨h.running λ_ _ _ x=>x.1,S8⟩
 |w2 h=>exact .inl ⟨h.running λ_ _ _ x=>x.1,S8⟩
 |w3 h=>exact .inl ⟨h.running λ_ _ _ x=>x.1,S8⟩
 |w4 h=>exact .inl ⟨h.running λ_ _ _ x=>x.1,S8⟩
 |ke h=>exact .inl ⟨h.running λ_ _ _ x=>x.1,S8⟩
 |acq h=>exact .inl ⟨h.running λ_ _ _ x=>x.1,S8⟩
 |ret h=>exact .inl ⟨h.running λ_ _ _ x=>x.1,S8⟩
def lN.wokenBy(k:∀B g W,Anch B g W->g.status=.running)(h:lN P s n Ch Anch Fin tag j o d B a W)(l:lG s aL aL B W m)(g G):∃t,lN P s n Ch Anch Fin t j o d B (woken P g G m a) m/\(t=tag\/(tag=.blk/\t=.w3))/\(mayWake P g=true->G.status=.running->t≠.blk):=by
 have b:=h.Ix l;unfold Go.Conc.woken;split;obtain⟨f,i⟩|⟨_,rfl⟩:=b.status k;exact⟨tag,by rw[again_running _<|.inl f];exact b,.inl rfl,λ_ _=>i⟩;cases b with
 |blk e=>have c:=e m<|.refl m;exact⟨.w3,by rw[Go.ConcR.again_blocked c.1 c.2.1];exact .w3<|.stop e,.inr ⟨rfl,rfl⟩,λ_ _=>by simp⟩
 grind
end
def Lin(X:Nat->Prop)(l:Loc):Prop:=l.isMemory=true/\∀b∈bY l,X b
section
variable(s:Site)(base:Nat)(oc:Nat→Nat→Prop)(j:Nat)(B ro:Nat→Nat→Prop)
def Dd:Loc->Prop:=λl=>mr s.dead l\/l.isMemory=false
def LI:Nat->Loc->Prop:=λk l=>∃i,i<j/\k=base+i/\(Lin (B<|i+1) l\/∃c,oc i c/\l=.cell ⟨s.C,c,none⟩)
def RdF:Nat->Loc->Prop:=λk l=>∃i,i<j/\k=base+i/\Lin (λb=>ro (i+1) b\/s.low b) l
structure Ap(K:Nat):Prop where
 ap:∀x y b,B x b->B y b->x=y
 abb:∀x y b,B x b->¬ro y b
 hi:∀x b,(B x b\/ro x b)->s.L<=b/\b<K
structure Fix:Prop where
 wg:s.Wg<s.L
 c:s.C<s.L
 ne:s.Wg≠s.C
 dead:∀b,s.dead b->b<s.L/\b≠s.Wg/\b≠s.C
 oc:∀i k c,oc i c->oc k c->i=k
end
def mW{l}(h:l.isMemory=true):∃b,bY l=[b]:=by cases l with
 |cell a=>exact⟨_,rfl⟩
 |obj r=>exact⟨_,rfl⟩
 |_=>cases h
theorem lO{X l b}(h:Lin X l)(a:bY l=[b]):X b:=h.2 b (by rw[a];simp)
def tR{W l}(h:ShN W l):bY l=[W]:=by obtain⟨a,rfl,rfl⟩:=h;rfl
def AE{s l b}(h:Dd s l)(d:l.isMemory=true)(c:bY l=[b]):s.dead b:=by
 obtain h|h:=h;cases l with
 |cell a=>simp[bY]at c;exact c▸h
 |obj r=>simp[bY]at c;exact c▸h
 |_=>cases d
 simp_all
section
variable{s:Site}{base:Nat}{oc:Nat→Nat→Prop}{j K:Nat}{B ro:Nat→Nat→Prop}
def mX{k l b}(h:LI s base oc j B k l)(a:bY l=[b]):∃i,i<j/\k=base+i/\(B (i+1) b\/(b=s.C/\∃c,oc i c/\l=.cell (s.C,c))):=by obtain⟨i,H,d,h|⟨c,e,rfl⟩⟩:=h;grind [lO];refine⟨i,H,d,.inr ⟨?_,c,e,rfl⟩⟩;simp[bY]at a;exact a.symm
def uK{k l}(h:LI s base oc j B k l):l.isMemory=true:=by obtain⟨i,H,b,h|⟨c,a,rfl⟩⟩:=h;exact h.1;rfl
def lie(F:Fix s oc)(A:Ap s B ro K):wM (Dd s) (ShN s.Wg) (LI s base oc j B) (RdF s base j ro):=by
 refine⟨λk r l h d=>?_,λk r l h d=>?_,λk l h d=>?_,λk l h d=>?_,λk l h d=>?_,λk l h d=>?_,λl h d=>?_,λk l h=>?_⟩;have⟨b,f⟩:=mW<|uK h;obtain⟨i,_,rfl,x⟩:=mX h f;obtain⟨m,_,rfl,y⟩:=mX d f;obtain x|⟨rfl,c,n,rfl⟩:=x;obtain y|⟨rfl,_⟩:=y;grind [A.ap];have:=(A.hi _ _<|.inl x).1;have:=F.c;omega;obtain y|⟨_,q,o,e⟩:=y;have:=(A.hi _ _<|.inl y).1;have:=F.c;omega;grind [F.oc];have⟨b,f⟩:=mW<|uK h;obtain⟨i,_,rfl,x⟩:=mX h f;obtain⟨m,_,rfl,y⟩:=d;have y:=lO y f;obtain x|⟨rfl,_⟩:=x;obtain y|y:=y;grind [A.abb];have:=(A.hi _ _<|.inl x).1;have:=y.1;omega;obtain y|y:=y;have:=(A.hi _ _<|.inr y).1;have:=F.c;omega;exact y.2.1 rfl;obtain⟨i,_,rfl,x⟩:=mX h<|tR d;obtain x|⟨x,_⟩:=x;have:=(A.hi _ _<|.inl x).1;have:=F.wg;omega;exact F.ne x;obtain⟨m,_,rfl,y⟩:=h;have y:=lO y<|tR d;obtain y|y:=y;have:=(A.hi _ _<|.inr y).1;have:=F.wg;omega;exact y.2.2.1 rfl;have⟨b,f⟩:=mW<|uK h;have g:=AE d (uK h) f;obtain⟨i,_,rfl,x⟩:=mX h f;obtain x|⟨rfl,_⟩:=x;have:=(A.hi _ _<|.inl x).1;have:=(F.dead _ g).1;omega;exact(F.dead _ g).2.2 rfl;obtain⟨m,_,rfl,y⟩:=h;have⟨b,f⟩:=mW y.1;have g:=AE d y.1 f;obtain y|y:=lO y f;have:=(A.hi _ _<|.inr y).1;have:=(F.dead _ g).1;omega;exact y.2.2.2 g;have p:l.isMemory=true:=by obtain⟨a,rfl,_⟩:=h;rfl
 exact(F.dead _ (AE d p<|tR h)).2.1 rfl;obtain h|h|h:=h;exact uK h;obtain⟨m,_,rfl,y⟩:=h;exact y.1;obtain⟨a,rfl,_⟩:=h;rfl
def EvC.akH(F:Fix s oc)(A:Ap s B ro K){e x}(h:EvC s true aL aL (B 0) K e)(t:(MemAct.ofEvent e).touch?=some x):ajB (Dd s) (ShN s.Wg) (LI s base oc j B) (RdF s base j ro) x:=by
 obtain d|d|⟨_,o,a,n,m⟩:=h.touch x t;exact .inl d;.cases l:x.loc.isMemory with
  |false=>exact .inl l
  |true=>
  have⟨b,f⟩:=mW l;have c:(B 0 b\/s.low b/\x.write=false):=by obtain d|⟨_,d,_⟩|⟨m,d⟩:=d;simp_all;grind;simp_all
  refine .inr<|.inr ⟨λg=>?_,λr=>?_,λk p=>?_,λm k q=>?_⟩;have g:=AE g l f;obtain y|y:=c;have:=(A.hi _ _<|.inl y).1;have:=(F.dead _ g).1;omega;exact y.1.2.2.2 g;have:b=s.Wg:=by have:=tR r;rw[f]at this;simpa using this
  subst this;obtain y|y:=c;have:=(A.hi _ _<|.inl y).1;have:=F.wg;omega;exact y.1.2.2.1 rfl;obtain⟨i,_,rfl,z⟩:=mX p f;obtain y|y:=c;obtain z|⟨rfl,_⟩:=z;grind [A.ap];have:=(A.hi _ _<|.inl y).1;have:=F.c;omega;obtain z|⟨rfl,_⟩:=z;have:=(A.hi _ _<|.inl z).1;have:=y.1.1;omega;exact y.1.2.1 rfl;obtain⟨i,_,rfl,z⟩:=q;have z:=lO z f;obtain y|y:=c;obtain z|z:=z;grind [A.abb];have:=(A.hi _ _<|.inl y).1;have:=z.1;omega;simp_all
 exact .inr<|.inl ⟨⟨a,n,m⟩,by rw[o];simp⟩
def EvC.akI{i}(H:i<j){e x}(h:EvC s false (ro<|i+1) (oc i) (B<|i+1) K e)(k:(MemAct.ofEvent e).touch?=some x):ajC (ShN s.Wg) (LI s base oc j B) (RdF s base j ro) (base+i) x:=by
 obtain a|a|⟨f,_⟩:=h.touch x k;exact .inl a;.cases b:x.loc.isMemory with
  |false=>exact .inl b
  |true=>
  obtain a|⟨c,d,e⟩|⟨g,a⟩:=a;exact .inr (.inr<|.inl ⟨i,H,rfl,.inl ⟨b,a⟩⟩);exact .inr (.inr<|.inl ⟨i,H,rfl,.inr ⟨c,d,e⟩⟩);exact .inr (.inr<|.inr ⟨⟨i,H,rfl,b,a⟩,g⟩)
 cases f
end
section
def abc:=@getElem?_append_cases
def abd:=@Go.Conc.mem_ofEvents
def Cc(s:Site)(t:Trace)(k:Nat):Prop:=∃r,RelBy (stA s.Wg) t k r/\∀i a,r<i->t.g? i=some k->touchAt t i=some a->ShN s.Wg a.loc/\a.kind=.atomic
def Cc.other{s t u k g}(h:Cc s t k)(m:∀O∈u,O.g=g)(j:g≠k):Cc s (t++u) k:=by
 have⟨r,d,e⟩:=h;refine⟨r,d.appOther m j,λi a H l f=>?_⟩;have⟨x,b,n⟩:=touch_of f;have o:x.g=k:=by grind [Trace.g?]
 obtain⟨_,c⟩|⟨_,p⟩:=abc b;exact e i a H (by simp[Trace.g?,c,o]) (by rw[touchAt_of c];exact n);simp_all
variable[Payload]
section
variable(P:Program)(s:Site)(base n:Nat)(oc:Nat→Nat→Prop)(fin:Nat→Value)(W0:World)
structure Com(j:Nat)(D:Nat->WD)(B ro:Nat->Nat->Prop)(ρ:Nat->dC)(gs:Array Goroutine)(W:World)(t:Trace)(q:Nat->Nat):Prop where
 b1:1<=base
 jn:j<=n
 size:gs.size=base+j
 old:∀i g,0<i->i<base->gs[i]?=some g->QuitsD P (q i) (Deaf t i) g
 rq:∀i,0<i->i<base->ρ i=dC.of (q i)
 wk:∀i,i<j->∃g,gs[base+i]?=some g/\AB P s oc fin i (D i).stage (ρ<|base+i) (D i).deaf (ro<|i+1) (B<|i+1) g W
 deaf:∀i,i<j->Deaf t (base+i)=(D i).deaf
 above:∀k,base+j<=k->Deaf t k=0
 pay:PayAt s.C s.N W
 L:s.L<=W.heap.size
 ap:Ap s B ro W.heap.size
 has:∀i,i<j->(D i).stage<=6->∀c,oc i c->W.cell? ⟨s.C,c,none⟩=some (fin c)
 keep:∀b,s.low b->W.heap[b]?=W0.heap[b]?
 os:W.oo=W0.oo
 tape:W.tape=W0.tape
 ti:TI (Dd s) (ShN s.Wg) (LI s base oc j B) (RdF s base j ro) t
 rel:∀i,i<j->(D i).stage<=6->Cc s t (base+i)
 LG:∀k a,touchAt t k=some a->a.loc.isMemory=true->(Knows t 0 k\/(mr s.dead a.loc/\a.kind=.atomic))\/∃i,i<j/\t.g? k=some (base+i)
 over:∀k g,t.g? k=some g->g≠0->t.counts k->(∃p,t.g? p=some 0/\HappensBefore t k p)\/∃i,i<j/\g=base+i
 seen:∀op∈t,op.act.low W.heap.size
 norel:NoRelease (stA s.Wg) t
end
section
variable{P:Program}{s:Site}{base n:Nat}{oc:Nat→Nat→Prop}{fin:Nat→Value}{W0:World}
  {j:Nat}{D D':Nat→WD}{B B' ro:Nat→Nat→Prop}{ρ ρ':Nat→dC}{gs:Array Goroutine}{W W':World}{t:Trace}{q q':Nat→Nat}{i0:Nat}{g g':Goroutine}{es:Array Event}{fn:FuncId}{pos:String}
def Com.core(h:Com P s base n oc fin W0 j D B ro ρ gs W t q)(ak:∀i,i<n->oc i i)(ab:gs[i0]?=some g)(R:W<=(W':Nat))(ar:PayAt s.C s.N W')(ag:∀b,s.low b->W'.heap[b]?=W.heap[b]?)(ao:W'.oo=W.oo)(av:W'.tape=W.tape)
 (π:Ap s B' ro W')
 (A:∀i,i<j->base+i≠i0->D' i=D i/\ρ' (base+i)=ρ (base+i)/\B' (i+1)=B (i+1)/\lG s (ro<|i+1) (oc i) (B<|i+1) W W')
 (I:∀i,i<j->base+i=i0->AB P s oc fin i (D' i).stage (ρ'<|base+i) (D' i).deaf (ro<|i+1) (B'<|i+1) g' W'/\deafBehind (D i).deaf es=(D' i).deaf/\((D' i).stage<=6->∀c,oc i c->W'.cell? (s.C,c)=some (fin c))/\((D' i).stage<=6->Cc s (t++MemOp.ofEvents i0 fn pos es) (base+i)))
 (C:∀i,0<i->i<base->(i≠i0->q' i=q i/\ρ' i=ρ i)/\(i=i0->QuitsD P (q' i) (deafBehind (Deaf t i) es) g'/\ρ' i=dC.of (q' i)))
 (au:TI (Dd s) (ShN s.Wg) (LI s base oc j B') (RdF s base j ro) (t++MemOp.ofEvents i0 fn pos es))
 (ah:∀e∈es,(MemAct.ofEvent e).low W')(aj:∀e∈es,e.loc≠.mark (.release<|stA s.Wg))(O:0<i0->i0<base->∀e∈es,(MemAct.ofEvent e).touch?=none):
 Com P s base n oc fin W0 j D' B' ro ρ' ((gs.map<|woken P g g' W').setIfInBounds i0 g') W' (t++MemOp.ofEvents i0 fn pos es) q':=by
 have K:=(eD.1 ab).1;have y:∀L∈MemOp.ofEvents i0 fn pos es,L.g=i0:=oI;have az:i0<base+j:=h.size▸K;refine⟨h.b1,h.jn,by simp[h.size],λi x l r d=>?_,λi l r=>?_,λi a=>?_,λi a=>?_,λk f=>?_,ar,cA h.L R,π,λi a u=>?_,λb o=>(ag b o).trans<|h.keep b o,ao.trans h.os,av.trans h.tape,au,λi a u=>?_,λk ac aa M=>?_,λk x d ai v=>?_,seen_app (λL J=>MemAct.low_mono R<|h.seen L J) λL J=>by obtain⟨e,w,rfl⟩:=abd (h:=J);exact ah e w,h.norel.app<|norel_of aj⟩
 by_cases e:i=i0;subst e;rw[get_map_set_same _ _ _ K]at d;obtain rfl:=iN d;rw[Deaf_own];exact((C i l r).2 rfl).1;rw[get_map_set _ _ _ _<|gP e]at d;obtain⟨z,m,rfl⟩:=Ja.1 d;have Q:=h.old i z l r m;rw[woken_quitsD Q,Deaf_other t (gP e) _ y,((C i l r).1 e).1];exact Q;by_cases e:i=i0;grind;rw[((C i l r).1 e).2,((C i l r).1 e).1];exact h.rq i l r;by_cases e:base+i=i0;simp_all;have⟨x,d,f⟩:=h.wk i a;have⟨G,X,Y,H⟩:=A i a e;refine⟨x,by rw[get_map_set _ _ _ _<|gP e,d,dK,f.woken],?_⟩;rw[G,X,Y];exact f.Ix (ak i<|fI a h.jn) H;by_cases e:base+i=i0;rw[e,Deaf_own,<-e,h.deaf i a];exact(I i a e).2.1;rw[Deaf_other t (gP e) _ y,h.deaf i a,(A i a e).1];rw[Deaf_other t O9 _ y];exact h.above k f;by_cases e:base+i=i0;exact(I i a e).2.2.1 u;intro c v;have⟨G,_,_,H⟩:=A i a e;rw[H.cell c v];exact h.has i a (G▸u) c v;by_cases e:base+i=i0;exact(I i a e).2.2.2 u;exact(h.rel i a<|by rw[<-(A i a e).1];exact u).other y<|gP e;have⟨x,d,S⟩:=touch_of aa;obtain⟨f,F⟩|⟨_,U⟩:=abc d;rcases h.LG k ac (by rw[touchAt_of F];exact S) M with l|⟨i,a,ae⟩;exact .inl (l.imp (·.app _) id);exact .inr ⟨i,a,by rw[g?_old f];exact ae⟩;have ay:=y x U;obtain N|N:=pJ i0;subst N;have:=knows_own d;rw[ay]at this;exact .inl<|.inl this;obtain o|o:=lB i0 base;obtain⟨e,w,rfl⟩:=abd (h:=U);have T:=S;rw[O N o e w]at T;cases T;exact .inr ⟨i0 -base,O9,by simp only[Trace.g?,d,dK,gV];omega⟩;obtain f|f:=lB k t.size;rw[g?_old f]at d;rcases h.over k x d ai ((counts_old f).1 v)with⟨p,E,af⟩|ad;refine .inl ⟨p,?_,hb_app _ af⟩;have:p<t.size:=by simp only[Trace.g?]at E;rcases m:t[p]? with _|z;cases m▸E;exact(eD.1 m).1
 rw[g?_old this];exact E;exact .inr ad;simp only[Trace.g?]at d;rcases m:(t++MemOp.ofEvents i0 fn pos es)[k]? with _|z;cases m▸d;rw[m]at d;simp only[dK,gV]at d;obtain⟨a0,_⟩|⟨_,V⟩:=abc m;omega;have a2:=y z V;obtain o|o:=lB i0 base;have⟨a3,F,M,_⟩:=v;obtain⟨e,w,rfl⟩:=abd (h:=V);rw[show((t++MemOp.ofEvents i0 fn pos es).act? k).bind (·.touch?)=(MemAct.ofEvent e).touch? by simp[Trace.act?,m],O (by simp only at d;omega) o e w]at F;cases F;exact .inr ⟨i0 -base,O9,O9⟩
end
end
section
def NS:=@Go.Conc.mem_ofEvents
universe u
def put{a:Sort _}(f:Nat->a)(i:Nat)(x:a):Nat->a:=λk=>if k=i then x else f k
theorem dZ{a:Sort _}(f:Nat->a)(i x):put f i x i=x:=by simp[put]
def iH{a:Sort _}(f:Nat->a){i k}(x)(h:k≠i):put f i x k=f k:=by simp[put,h]
structure EvG(s:Site)(K:Nat)(e:Event):Prop where
 touch:∀x,(MemAct.ofEvent e).touch?=some x->ShN s.Wg x.loc/\x.kind=.atomic
 low:(MemAct.ofEvent e).low K
 rel:e.loc≠.mark (.release<|stA s.Wg)
def XF{a:MemAct}{x K b}(h:a.low K)(d:a.touch?=some x)(g:x.loc.isMemory=true)(c:bY x.loc=[b]):b<K:=by cases a with
 |access e=>simp[MemAct.touch?]at d;subst d;have h:e.loc.low K:=h;cases f:e.loc with
   |cell a=>rw[f]at c h;simp[bY]at c;exact c▸h
   |obj r=>rw[f]at c h;simp[bY]at c;exact c▸h
   |_=>cases f▸g
 |mark m=>cases m<;>simp[MemAct.touch?]at d<;>subst d<;>simp[bY]at c<;>exact c▸h
 |_=>cases d
def FK{t K b i a}(h:∀o∈t,o.act.low K)(c:touchAt t i=some a)(e:a.loc.isMemory=true)(d:bY a.loc=[b]):b<K:=have⟨x,f,g⟩:=touch_of c;XF (h x<|E8 f) g e d
section
variable{s:Site}{base:Nat}{oc:Nat→Nat→Prop}{j:Nat}{B ro:Nat→Nat→Prop}{W Q:World}
def Ap.grow(A:Ap s B ro W)(f:s.L<=W)(g:W<=(Q:Nat))(x):Ap s (put B x<|grow (B x) W Q) ro Q:=by
 have k:∀y b,put B x (Go.Ren.grow (B x) W Q) y b->B y b\/(y=x/\(W:Nat)<=b/\b<(Q:Nat)):=λy b h=>by by_cases e:y=x;subst e;rw[dZ]at h;obtain h|h:=h;simp_all;omega;simp_all[iH]
 refine⟨λy z b h d=>?_,λy z b h d=>?_,λy b h=>?_⟩;obtain a|⟨rfl,a,_⟩:=k y b h;obtain c|⟨rfl,c,_⟩:=k z b d;grind [A.ap];have:=(A.hi _ _<|.inl a).2;omega;obtain c|⟨rfl,c,_⟩:=k z b d;have:=(A.hi _ _<|.inl c).2;omega;rfl;obtain a|⟨rfl,a,_⟩:=k y b h;grind [A.abb];have:=(A.hi _ _<|.inr d).2;omega;obtain h|h:=h;obtain a|⟨rfl,a,c⟩:=k y b h;have:=A.hi _ _ (.inl a);omega;omega;have:=A.hi _ _ (.inr h);omega
def TI.fresh{t}(h:TI (Dd s) (ShN s.Wg) (LI s base oc j B) (RdF s base j ro) t)(q:∀O∈t,O.act.low W)(x):TI (Dd s) (ShN s.Wg) (LI s base oc j (put B x<|Go.Ren.grow (B x) W Q)) (RdF s base j ro) t:=by
 refine h.grow (λk l m=>?_) λk l m=>?_;obtain⟨i,H,f,c|c⟩:=m;refine⟨i,H,f,.inl ⟨c.1,λb d=>?_⟩⟩;by_cases e:i+1=x;subst e;rw[dZ];exact .inl<|c.2 b d;rw[iH B _ e];exact c.2 b d;exact⟨i,H,f,.inr c⟩;have⟨b,d⟩:=mW<|uK m;obtain⟨i,H,f,c|c⟩:=m;by_cases e:i+1=x;subst e;have:=lO c d;rw[dZ]at this;obtain o|⟨o,_⟩:=this;exact .inl ⟨i,H,f,.inl ⟨c.1,λn g=>by rw[d]at g;simp at g;exact g▸o⟩⟩;exact .inr λr a p e=>by have:=FK q p (e▸c.1)<|e▸d;omega
 exact .inl ⟨i,H,f,.inl ⟨c.1,λn g=>by have:=c.2 n g;rwa [iH B _ e]at this⟩⟩;exact .inl ⟨i,H,f,.inr c⟩
end
variable[Payload]
section
variable{P:Program}{s:Site}{base n:Nat}{oc:Nat→Nat→Prop}{fin:Nat→Value}{W0:World}
  {j:Nat}{D:Nat→WD}{B ro:Nat→Nat→Prop}{R:Nat→dC}{gs:Array Goroutine}{W Q:World}{t:Trace}{q:Nat→Nat}{g g':Goroutine}{es:Array Event}{fn:FuncId}{pos:String}
def Com.ah4(F:Fix s oc)(h:Com P s base n oc fin W0 j D B ro R gs W t q){m x k d}(f:wy s m k d (B x) W Q es)(y)(i:y≠x)(e:Nat->Prop)(g:∀c,e c->¬d c):lG s (ro y) e (B y) W Q:=f.Ix (λb a=>⟨λx=>i<|h.ap.ap _ _ _ x a,h.ap.abb _ _ _ a,(h.ap.hi _ _<|.inl a).1⟩) g (λb a=>have:=h.ap.hi _ _ a;have:=F.c;⟨O9,O9⟩) h.L F.wg F.ne
def Com.NT(h:Com P s base n oc fin W0 j D B ro R gs W t q){m x e d}(c:wy s m e d (B x) W Q es)(b)(a:s.low b):Q.heap[b]?=W.heap[b]?:=c.rest b (by have:=h.L;have:=a.1;omega) (λy=>by have:=(h.ap.hi _ _<|.inl y).1;have:=a.1;omega) a.2.1
def Com.EL(F:Fix s oc)(h:Com P s base n oc fin W0 j D B ro R gs W t q){m x c b}(a:wy s m c b (B x) W Q es):Q.heap[s.Wg]?=W.heap[s.Wg]?:=a.rest s.Wg (by have:=h.L;have:=F.wg;omega) (λy=>by have:=(h.ap.hi _ _<|.inl y).1;have:=F.wg;omega) F.ne
def Com.ajD(F:Fix s oc)(C:∀i,i<n->oc i i)(h:Com P s base n oc fin W0 j D B ro R gs W t q){i}(J:i<j)(p:(D i).stage=7)(z:(D i).deaf=0)(v:gs[base+i]?=some g){f}(a:wy s false (ro<|i+1) (oc i) (B<|i+1) W Q es)(G:lH P s false (ro<|i+1) (oc i) (FC P s oc fin i) f (grow (B<|i+1) W Q) g' Q):
 Com P s base n oc fin W0 j D (put B (i+1)<|grow (B<|i+1) W Q) ro (put R (base+i) f) ((gs.map<|woken P g g' Q).setIfInBounds (base+i) g') Q (t++MemOp.ofEvents (base+i) fn pos es) q:=by
 have A:=h.ap.grow h.L a.size<|i+1;refine h.core C v a.size (a.pay h.pay) (h.NT a) a.os a.tape A (λk w d=>?_) (λk w e=>?_) (λk I m=>⟨λ_=>⟨rfl,iH R _ O9⟩,λe=>by omega⟩) ?_ (λe b=>(a.ev e b).low) (λe b=>(a.ev e b).rel) (λ_ m=>by omega);exact⟨rfl,iH R _ d,iH B _ O9,h.ah4 F a (k+1) O9 (oc k) λc r u=>(λe=>d<|by rw[e])<|F.oc _ _ _ r u⟩;obtain rfl:k=i:=O9;rw[dZ,dZ,p,z];exact⟨.work G,a.still 0,λo=>by omega,λo=>by omega⟩;refine TI.appW (lie F A) (λl y=>.inr y) (h.ti.fresh h.seen<|i+1) oI λO E x H=>?_;obtain⟨e,b,rfl⟩:=NS (h:=E);have:=a.ev e b;rw[<-dZ B (i+1) (Go.Ren.grow (B<|i+1) W Q)]at this;exact this.akI J H
def Com.idle0(F:Fix s oc)(o:∀i,i<n->oc i i)(h:Com P s base n oc fin W0 j D B ro R gs W t q)(l:gs[0]?=some g)(a:wy s true aL aL (B 0) W Q es):Com P s base n oc fin W0 j D (put B 0<|grow (B 0) W Q) ro R ((gs.map<|woken P g g' Q).setIfInBounds 0 g') Q (t++MemOp.ofEvents 0 fn pos es) q:=by
 have A:=h.ap.grow h.L a.size 0;refine h.core o l a.size (a.pay h.pay) (h.NT a) a.os a.tape A (λk m v=>?_) (λk m e=>by have:=h.b1;omega) (λk d u=>⟨λ_=>⟨rfl,rfl⟩,λe=>by omega⟩) ?_ (λe b=>(a.ev e b).low) (λe b=>(a.ev e b).rel) (λd _=>by omega);exact⟨rfl,rfl,iH B _ O9,h.ah4 F a (k+1) O9 (oc k) λc _ f=>f⟩;refine TI.app0 (lie F A) (h.ti.fresh h.seen 0) oI λO p x r=>?_;obtain⟨e,b,rfl⟩:=NS (h:=p);have:=a.ev e b;exact this.akH F A r
def Com.AH(F:Fix s oc)(h:Com P s base n oc fin W0 j D B ro R gs W t q)(a:Aside s.Wg W Q)(d:WgLive s.ty s.Wg Q)(y)(e:Nat->Prop):lG s (ro y) e (B y) W Q:=lG.of_wg a d (λb c=>by have:=h.ap.hi _ _ c;have:=F.wg;omega)<|gP F.ne
def Com.abe(F:Fix s oc)(u:∀i,i<n->oc i i)(h:Com P s base n oc fin W0 j D B ro R gs W t q)(p:gs[0]?=some g)(a:Aside s.Wg W Q)(l:WgLive s.ty s.Wg Q)(d:∀e∈es,EvG s W e):Com P s base n oc fin W0 j D B ro R ((gs.map<|woken P g g' Q).setIfInBounds 0 g') Q (t++MemOp.ofEvents 0 fn pos es) q:=by
 have f:=a.size;refine h.core u p (pK f.symm) ((h.AH F a l 0 aL).pay h.pay) (λb o=>a.block b o.2.2.1) (Ni a.os a.output) a.tape (f▸h.ap) (λk r z=>⟨rfl,rfl,rfl,h.AH F a l (k+1)<|oc k⟩) (λk r e=>by have:=h.b1;omega) (λk m y=>⟨λ_=>⟨rfl,rfl⟩,λe=>by omega⟩) ?_ (λe c=>f▸(d e c).low) (λe c=>(d e c).rel) (λm _=>by omega);refine TI.app0 (lie F h.ap) h.ti oI λO v x w=>?_;obtain⟨e,c,rfl⟩:=NS (h:=v);have:=(d e c).touch x w;exact .inr<|.inl ⟨this.1,by rw[this.2];simp⟩
def Com.abf(F:Fix s oc)(I:∀i,i<n->oc i i)(h:Com P s base n oc fin W0 j D B ro R gs W t q){i}(N:i<j)(E:gs[base+i]?=some g){u S m}(a:Aside s.Wg W Q)(f:WgLive s.ty s.Wg Q)(o:∀e∈es,EvG s W e)(r:AB P s oc fin i S u m (ro<|i+1) (B<|i+1) g' Q)(A:deafBehind (D i).deaf es=m)(G:S<=6->∀c,oc i c->W.cell? (s.C,c)=some (fin c))(C:S<=6->Cc s (t++MemOp.ofEvents (base+i) fn pos es) (base+i)):
 Com P s base n oc fin W0 j (upd D i ⟨S,0,m⟩) B ro (put R (base+i) u) ((gs.map<|woken P g g' Q).setIfInBounds (base+i) g') Q (t++MemOp.ofEvents (base+i) fn pos es) q:=by
 have p:=a.size;refine h.core I E (pK p.symm) ((h.AH F a f 0 aL).pay h.pay) (λb y=>a.block b y.2.2.1) (Ni a.os a.output) a.tape (p▸h.ap) (λk r H=>⟨upd_ne D _ O9,iH R _ H,rfl,h.AH F a f (k+1)<|oc k⟩) (λk M e=>?_) (λk L v=>⟨λ_=>⟨rfl,iH R _ O9⟩,λe=>by omega⟩) ?_ (λe d=>p▸(o e d).low) (λe d=>(o e d).rel) (λ_ v=>by omega);obtain rfl:k=i:=O9;rw[dZ,upd_same];exact⟨r,A,λw c z=>(cell_of_block (a.block s.C<|gP F.ne) c).trans<|G w c z,C⟩;refine TI.appW (lie F h.ap) (λl f=>.inr f) h.ti oI λO J x K=>?_;obtain⟨e,d,rfl⟩:=NS (h:=J);exact .inr (.inl<|(o e d).touch x K)
def Com.quit(p:∀i,i<n->oc i i)(h:Com P s base n oc fin W0 j D B ro R gs W t q){i Q}(v:0<i)(w:i<base)(f:gs[i]?=some g)(d:∀e∈es,Event.mute e=true)(u:QuitsD P Q (deafBehind (Deaf t i) es) g'):Com P s base n oc fin W0 j D B ro (put R i<|dC.of Q) ((gs.map<|woken P g g' W).setIfInBounds i g') W (t++MemOp.ofEvents i fn pos es) (upd q i Q):=by
 refine h.core p f L9 h.pay (λ_ _=>rfl) rfl rfl h.ap (λk m o=>⟨rfl,iH R _ o,rfl,.refl W⟩) (λk m e=>by omega) (λk _ _=>⟨λe=>⟨upd_ne q _ e,iH R _ e⟩,λe=>by subst e;rw[upd_same,dZ];exact⟨u,rfl⟩⟩) ?_ (λe c=>low_mute (d e c) _) (λe c x=>by have⟨l,a,b⟩:=e;simp only at x;subst x;have:=d _ c;simp[Event.mute]at this) λ_ _ e c=>touch_mute<|d e c;refine h.ti.mute oI λO r=>?_;obtain⟨e,c,rfl⟩:=NS (h:=r);exact touch_mute<|d e c
end
end
section
def tS{t x y m}(a:x.act=.go m)(b:y.act=.start)(g):Deaf (t++#[x,y]) g=Deaf t g:=by rw[Deaf_append t g [x,y]];simp[deafStep,a,b]
def NU{t x y m i a}(e:x.act=.go m)(f:y.act=.start)(d:touchAt (t++#[x,y]) i=some a):i<t.size/\touchAt t i=some a:=by have⟨z,g,b⟩:=touch_of d;rcases getElem?_append_cases g with⟨h,j⟩|⟨_,c⟩;exact⟨h,by rw[touchAt_of j];exact b⟩;simp at c;obtain rfl|rfl:=c;cases e▸b;cases f▸b
variable[Payload]
section
variable{P:Program}{s:Site}{base n:Nat}{oc:Nat→Nat→Prop}{fin:Nat→Value}{W0:World}
  {j:Nat}{D:Nat→WD}{B ro:Nat→Nat→Prop}{ρ:Nat→dC}{gs:Array Goroutine}{W:World}{t:Trace}{q:Nat→Nat}{g' child:Goroutine}{x y:MemOp}
def Com.fork(F:Fix s oc)(h:Com P s base n oc fin W0 j D B ro ρ gs W t q)(ao:j<n)(ae:Deaf t 0=0)(E:x.g=0/\x.act=.go (base+j))(G:y.g=base+j/\y.act=.start){ac}(X:lH P s false (B 0) (oc j) (FC P s oc fin j) ac aL child W):
 Com P s base n oc fin W0 (j+1) (upd D j ⟨7,0,0⟩) (put (put B 0 aL) (j+1) aL) (put ro (j+1)<|B 0) (put ρ (base+j) ac) ((gs.setIfInBounds 0 g').push child) W (t++#[x,y]) q:=by
 have ay:=h.b1;have S:∀i,i<j->put (put B 0 aL) (j+1) aL (i+1)=B (i+1):=λi c=>by rw[iH _ _ O9,iH _ _ O9]
 have T:∀i,i<j->put ro (j+1) (B 0) (i+1)=ro (i+1):=λi c=>iH _ _ O9;have K:∀k b,put (put B 0 aL) (j+1) aL k b->B k b/\k≠0/\k≠j+1:=λk b d=>by by_cases e:k=j+1;subst e;rw[dZ]at d;exact d.elim;rw[iH _ _ e]at d;by_cases R:k=0;subst R;rw[dZ]at d;exact d.elim;rw[iH _ _ R]at d;exact⟨d,R,e⟩
 have π:∀k b,put ro (j+1) (B 0) k b->ro k b\/B 0 b:=λk b d=>by by_cases e:k=j+1;subst e;rw[dZ]at d;exact .inr d;rw[iH _ _ e]at d;exact .inl d
 have A:Ap s (put (put B 0 aL) (j+1) aL) (put ro (j+1)<|B 0) ↑W:=by refine⟨λk r b f m=>h.ap.ap _ _ _ (K k b f).1 (K r b m).1,λk r b f m=>?_,λk b f=>?_⟩;obtain H|H:=π r b m;exact h.ap.abb _ _ _ (K k b f).1 H;exact(K k b f).2.1<|h.ap.ap _ _ _ (K k b f).1 H;obtain f|f:=f;exact h.ap.hi _ _<|.inl (K k b f).1;obtain f|f:=π k b f;exact h.ap.hi _ _<|.inr f;exact h.ap.hi _ _<|.inl f
 have af:t++#[x,y]=(t++#[x])++#[y]:=by apply Ul;simp
 have av:∀i,t.size<=i->∀k,(t++#[x,y]).g? i=some k->k=0\/k=base+j:=λi c k d=>by grind [Trace.g?]
 have ag:∀i k,i<base+j->((gs.setIfInBounds 0 g').push child)[i]?=some k->i≠0->gs[i]?=some k:=λi k c d h0=>by rw[I7 (by simp[h.size];omega),agW (by simp[h.size];omega),aJ<|gP h0]at d;rw[<-d,qs]
 refine⟨h.b1,ao,by simp[h.size];omega,λi z f m v=>?_,λi f m=>?_,λi c=>?_,λi c=>?_,λk d=>?_,h.pay,h.L,A,λi c I=>?_,h.keep,h.os,h.tape,?_,λi c I=>?_,λk a O V=>?_,λk z v ar U=>?_,?_,?_⟩;rw[tS E.2 G.2];exact h.old i z f m<|ag i z O9 v O9;rw[iH _ _ O9];exact h.rq i f m;obtain o|o:=lB i j;have⟨z,v,d⟩:=h.wk i o;refine⟨z,?_,by rw[S i o,T i o,iH _ _ O9,upd_ne D _ O9];exact d⟩;rw[I7 (by simp[h.size];omega),agW (by simp[h.size];omega),aJ O9,<-v,qs];obtain rfl:i=j:=O9;refine⟨child,?_,by rw[dZ,dZ,dZ,upd_same];exact .work X⟩;have:base+i=(gs.setIfInBounds 0 g').size:=by simp[h.size]
 rw[this,Nf];rw[tS E.2 G.2];obtain o|o:=lB i j;rw[upd_ne D _ O9];exact h.deaf i o;obtain rfl:i=j:=O9;rw[upd_same];exact h.above _ O9;rw[tS E.2 G.2];exact h.above k O9;obtain o|o:=lB i j;rw[upd_ne D _ O9]at I;exact h.has i o I;obtain rfl:i=j:=O9;rw[upd_same]at I;simp at I;refine h.ti.fork (lie F A) E G ae (h.above _ L9) (λk l J=>?_) (λk l J=>?_) (λk l J=>?_) λk l J=>?_;have⟨i,c,d,f⟩:=J;exact⟨i,O9,d,by rw[S i c];exact f⟩;have⟨b,M⟩:=mW<|uK J;have⟨i,c,d,f⟩:=J;obtain o|o:=lB i j;exact .inl ⟨i,o,d,by rw[S i o]at f;exact f⟩;obtain rfl:i=j:=O9;rw[dZ]at f;refine .inr ⟨d,λr=>?_⟩;obtain f|⟨ad,U,rfl⟩:=f;exact(lO f M).elim;simp only[bY,Ae,vI]at M;refine⟨λN=>?_,λ⟨L,_,_,N⟩=>?_⟩;have⟨L,ak,_,m⟩:=mX (b:=s.C) N rfl;obtain m|⟨_,au,ah,e⟩:=m;have:=(h.ap.hi _ _<|.inl m).1;have:=F.c;omega;simp only[Loc.cell.injEq,Un,Af,vI]at e;subst e;have:=F.oc _ _ _ U ah;omega;rcases lO (b:=s.C) N rfl with m|m;have:=(h.ap.hi _ _<|.inr m).1;have:=F.c;omega;exact m.2.1 rfl;have⟨i,c,d,f⟩:=J;exact⟨i,O9,d,by rw[T i c];exact f⟩;have⟨i,c,d,f⟩:=J;have⟨b,M⟩:=mW f.1;obtain o|o:=lB i j;exact .inl ⟨i,o,d,by rw[T i o]at f;exact f⟩;obtain rfl:i=j:=O9;rw[dZ]at f;refine .inr ⟨d,λr N=>?_⟩;have⟨L,ak,_,m⟩:=mX N M;obtain H|H:=lO f M;obtain m|⟨rfl,_⟩:=m;have:=h.ap.ap _ _ _ m H;omega;have:=(h.ap.hi _ _<|.inl H).1;have:=F.c;omega;obtain m|⟨rfl,_⟩:=m;have:=(h.ap.hi _ _<|.inl m).1;have:=H.1;omega;exact H.2.1 rfl;obtain o|o:=lB i j;rw[upd_ne D _ O9]at I;rw[af];exact((h.rel i o I).other (u:=#[x]) (g:=0) (λC w=>by simp at w;rw[w];exact E.1) O9).other (u:=#[y]) (g:=base+j) (λC w=>by simp at w;rw[w];exact G.1) O9;obtain rfl:i=j:=O9;rw[upd_same]at I;simp at I;have⟨d,Y⟩:=NU E.2 G.2 O;obtain f|⟨i,c,ai⟩:=h.LG k a Y V;exact .inl (f.imp (·.app _) id);exact .inr ⟨i,O9,by rw[g?_old d];exact ai⟩;have⟨a,O,V,X⟩:=U;have⟨d,Y⟩:=NU E.2 G.2 O;rw[g?_old d]at v;rcases h.over k z v ar ((counts_old d).1 ⟨a,O,V,X⟩)with⟨p,Q,aj⟩|⟨i,c,e⟩;refine .inl ⟨p,?_,hb_app _ aj⟩;have:p<t.size:=by simp only[Trace.g?]at Q;rcases v:t[p]? with _|z;cases v▸Q;exact(eD.1 v).1
 rw[g?_old this];exact Q;exact .inr ⟨i,O9,e⟩;refine seen_app h.seen λC w=>?_;simp only[aad,jO,tH,tI]at w;obtain rfl|rfl:=w;rw[E.2];trivial;rw[G.2];trivial;refine h.norel.app λC w=>?_;simp only[aad,jO,tH,tI]at w;obtain rfl|rfl:=w;rw[E.2];simp;rw[G.2];simp
end
end
open Go.ConcR (wgBlock WgAt stA smA rd wr mk Payload DC0 Bk bk_of_mute ofEvent_loc_mark)
section
def Vj:=@ofEvent_loc_mark
def zg(s:Site)(b j:Nat)(t:Trace):Prop:=∃p,t.act? p=some (.mark (.acquire<|stA s.Wg))/\t.g? p=some 0/\t.heard p/\∀i,i<j->∃r,r<p/\RelBy (stA s.Wg) t (b+i) r/\∀k a,r<k->t.g? k=some (b+i)->touchAt t k=some a->ShN s.Wg a.loc/\a.kind=.atomic
def zg.app{s G j t u}(h:zg s G j t)(B:∀i r,i<j->RelBy (stA s.Wg) t (G+i) r->RelBy (stA s.Wg) (t++u) (G+i) r)(z:∀O∈u,O.g≠0->O.act.touch?=none)(E:1<=G):zg s G j (t++u):=by
 have⟨p,d,l,m,n⟩:=h;have b:=lt_of_act? d;refine⟨p,by rw[act?_old b];exact d,by rw[g?_old b];exact l,(heard_old b).2 m,λi H=>?_⟩;have⟨r,A,o,q⟩:=n i H;refine⟨r,A,B i r H o,λk a w e v=>?_⟩;have⟨x,f,c⟩:=touch_of v;rcases getElem?_append_cases f with⟨y,C⟩|⟨_,D⟩;exact q k a w (by rw[<-g?_old (u:=u) y];exact e) (by rw[touchAt_of C];exact c);have F:x.g=G+i:=by simpa[Trace.g?,f]using e
 rw[z x D O9]at c;cases c
def NV{W e}(h:Bk W e):∀x,(MemAct.ofEvent e).touch?=some x->ShN W x.loc/\x.kind=.atomic:=by
 intro x b;obtain h|h|⟨a,w,rfl,h⟩:=h;rw[Vj h]at b;cases b;rw[Vj h]at b;cases b;have:MemAct.ofEvent ⟨.cell a,w,true⟩=.access ⟨.cell a,w,true⟩:=by cases w<;>rfl
 rw[this]at b;simp[MemAct.touch?]at b;subst b;exact⟨⟨a,rfl,h⟩,rfl⟩
def oL{s K e}(h:Bk s.Wg e)(b:s.Wg<K):EvG s K e:=by refine⟨NV h,?_,?_⟩;obtain h|h|⟨a,w,rfl,h⟩:=h;rw[Vj h];trivial;rw[Vj h];trivial;show a.block<K;omega;obtain h|h|⟨a,w,rfl,h⟩:=h;simp_all;simp_all;simp
def Cc.book{s t k d}(h:Cc s t k)(o:Deaf t k=d)(F P){E}(b:∀e∈E,Bk s.Wg e)(n:∀f e,E[f]?=some e->(MemAct.ofEvent e).touch?=none\/0<deafBehind d (E.extract 0 f)):Cc s (t++MemOp.ofEvents k F P E) k:=by
 have⟨r,j,l⟩:=h;refine⟨r,j.book o F P b n,λi a H q m=>?_⟩;have⟨x,w,c⟩:=touch_of m;rcases getElem?_append_cases w with⟨v,y⟩|⟨_,z⟩;exact l i a H (by rw[<-g?_old (u:=MemOp.ofEvents k F P E) v];exact q) (by rw[touchAt_of y];exact c);obtain⟨e,p,rfl⟩:=Go.Conc.mem_ofEvents (h:=z);exact NV (b e p) a c
def Cc.new{s t k}(c:Deaf t k=0)(f p):Cc s (t++MemOp.ofEvents k f p #[mk (.releaseMerge<|stA s.Wg)]) k:=by refine⟨t.size,RelBy.new c f p,λi a h e b=>?_⟩;have⟨x,d,_⟩:=touch_of b;have:=(eD.1 d).1;simp[MemOp.ofEvents]at this;omega
def flag:CTag->Nat
 |.blk=>0
 |_=>1
inductive AJ(K:Nat):Nat->(Nat->dC)->dC->Nat->Nat->(Nat->dC)->dC->Nat->Prop
 |stage {S' S:Nat} {J L:Nat->dC} {r' r:dC} {f' f:Nat}:S'<S->AJ K S' J r' f' S L r f
 |Re {S:Nat} {J L:Nat->dC} {r' r:dC} {f' f:Nat}:dC.less K J L->AJ K S J r' f' S L r f
 |main {S:Nat} {L:Nat->dC} {r' r:dC} {f' f:Nat}:dC.under r' r->AJ K S L r' f' S L r f
 |wait {S:Nat} {L:Nat->dC} {r:dC} {f' f:Nat}:f'<f->AJ K S L r f' S L r f
def AJ.ind(K)(M:Nat->(Nat->dC)->dC->Nat->Prop)(h:∀S m r f,(∀s n a F,AJ K s n a F S m r f->M s n a F)->M S m r f):∀S m r f,M S m r f:=by intro S;induction S using Nat.strongRecOn with
 |ind S i=>refine dC.many K (λm=>∀r f,M S m r f) λm l r=>?_;induction r using dC.wf.induction with
   |_ r k=>intro f;induction f using Nat.strongRecOn with
     |ind f j=>refine h S m r f λs n a F d=>?_;cases d with
       |stage b=>exact i _ b n a F
       |Re g=>exact l n g a F
       |main e=>exact k _ e F
       |wait c=>exact j _ c
variable[Payload]
section
variable(P:Program)(s:Site)(base n:Nat)(oc:Nat→Nat→Prop)(fin:Nat→Value)(W0:World)(Anch:fB)(Fin:Goroutine→World→Prop)
def LJ(S:Nat)(h:Nat->dC)(r:dC)(f:Nat)(m:Machine)(t:Trace):Prop:=∃(g:Array Goroutine)(W:World)(e:Option (Nat×Nat))(j:Nat)(D:Nat->WD)(T:CTag)(B R:Nat->Nat->Prop)(q:Nat->Nat)(d:Nat)(a:Goroutine)(c b:Int),m=crowd g W e/\g[0]?=some a/\lN P s n (Child P s oc fin) Anch Fin T j r d (B 0) a W/\Deaf t 0=d/\Com P s base n oc fin W0 j D B R h g W t q/\WgAt s.ty s.Wg W c b/\ConcN.Mode j D T c b/\(T=.ret->zg s base j t)/\S=phi n (Vc j D) T+Ssum j D/\f=flag T
end
section
variable{P:Program}{s:Site}{base n:Nat}{oc:Nat→Nat→Prop}{fin:Nat→Value}{W0:World}{Anch:fB}{Fin:Goroutine→World→Prop}
  {gs:Array Goroutine}{W M:World}{sl:Option (Nat×Nat)}{j:Nat}{D K:Nat→WD}{tag:CTag}{B N ro:Nat→Nat→Prop}{q U:Nat→Nat}{Q:Nat}{a:Goroutine}{st b st' sm':Int}{t:Trace}{L J:Nat→dC}{R:dC}
def xK(p:∀B g W,Anch B g W->g.status=.running)(r:gs[0]?=some a)(v:lN P s n (Child P s oc fin) Anch Fin tag j R Q (B 0) a W)(x:Deaf t 0=Q){k}(c:k≠0){g g' C}(y:gs[k]?=some g)(I:stepG P false g W=.go g' M C)(E:lG s aL aL (B 0) W M)(q:N 0=B 0)
 (u:Com P s base n oc fin W0 j K N ro J ((gs.map<|woken P g g' M).setIfInBounds k g') M (t++MemOp.ofEvents k g.frame.fn g.frame.place C) U)(F:WgAt s.ty s.Wg M st' sm')
 (A:∀T,(T=tag\/(tag=.blk/\T=.w3))->(mayWake P g=true->g'.status=.running->T≠.blk)->ConcN.Mode j K T st' sm')
 (H:tag=.ret->zg s base j (t++MemOp.ofEvents k g.frame.fn g.frame.place C))
 (z:(Vc j K<=Vc j D/\Ssum j K<Ssum j D)\/(Vc j K=Vc j D/\Ssum j K=Ssum j D/\dC.less (base+n) J L)):
 ∃h O S m l d,runT P (crowd gs W sl) k=(.next h,O)/\AJ (base+n) S m l d (phi n (Vc j D) tag+Ssum j D) L R (flag tag)/\LJ P s base n oc fin W0 Anch Fin S m l d h (t++O):=by
 have⟨T,w,f,G⟩:=v.wokenBy p E g g';refine⟨_,_,phi n (Vc j K) T+Ssum j K,J,R,flag T,(runT_crowd_go (P:=P) (sl:=sl) (i:=k) y<|by rw[show(k==0)=false by simp[c]];exact I),?_,_,M,sl,j,K,T,N,ro,U,Q,woken P g g' M a,st',sm',rfl,by rw[get_map_set _ _ _ _ c,r];rfl,q▸w,by rw[Deaf_other t c _ oI];exact x,u,F,A T f G,?_,rfl,rfl⟩;rw[phi_retag n _ f];obtain⟨b,e⟩|⟨b,e,o⟩:=z;have:=phi_mono n b tag;exact .stage O9;rw[b,e];exact .Re o;grind
end
end
section
def NW:=@Goes.cases
def yI:=@RW.refl
def DI:=@upd_same
def NY:=@aside_setCell
def abg:=@ConcN.Mode.last
variable[Payload]
def lG.bare{s r o B W w}(h:lG s r o B W w):lG s aL o B W w:=⟨λb a=>h.keep b (a.imp id<|.imp False.elim id),h.cell,h.pay,h.live,h.size,h.os,h.tape⟩
section
variable{P:Program}{s:Site}{base n:Nat}{oc:Nat→Nat→Prop}{fin:Nat→Value}{W0:World}{Anch:fB}{Fin:Goroutine→World→Prop}
  {gs:Array Goroutine}{W:World}{sl:Option (Nat×Nat)}{j:Nat}{D:Nat→WD}{tag:CTag}{B ro:Nat→Nat→Prop}{q:Nat→Nat}{d0:Nat}{a:Goroutine}{st sm:Int}{t:Trace}{ρ:Nat→dC}{r0:dC}
def Rg(F:Fix s oc)(a7:∀i,i<n->oc i i)(cx:n<2147483648)(av:∀B g W,Anch B g W->g.status=.running)(ay:gs[0]?=some a)(ah:lN P s n (Child P s oc fin) Anch Fin tag j r0 d0 (B 0) a W)(a0:Deaf t 0=d0)(p:Com P s base n oc fin W0 j D B ro ρ gs W t q)(l:WgAt s.ty s.Wg W st sm)(J:ConcN.Mode j D tag st sm)(bx:tag=.ret->zg s base j t){i}(N:i<j){g}(U:gs[base+i]?=some g)(ao:g.status=.running):
 ∃ap ax S' aw aq a1,runT P (crowd gs W sl) (base+i)=(.next ap,ax)/\AJ (base+n) S' aw aq a1 (phi n (Vc j D) tag+Ssum j D) ρ r0 (flag tag)/\LJ P s base n oc fin W0 Anch Fin S' aw aq a1 ap (t++ax):=by
 refine yA λno=>?_;have⟨br,bj,c⟩:=p.wk i N;obtain rfl:g=br:=by rw[U]at bj;exact iN bj
 have bz:=p.b1;have cw:=p.jn;have aj:=p.deaf i N;have bf:=fI F.wg p.L;have cu:=Vc_le j D;have cy:j+pend tag<=n:=by cases ah<;>simp only[pend]<;>(try simp)<;>omega
 generalize z:(D i).stage=Q,ai:(D i).deaf=M,bm:ρ (base+i)=c9 at c;rw[ai]at aj;have bc:∀m o r,Vc j (upd D i ⟨m,o,r⟩)+cnt (D i)=Vc j D+cnt ⟨m,o,r⟩/\Ssum j (upd D i ⟨m,o,r⟩)+Q=Ssum j D+m:=λm o r=>by refine⟨Vc_upd D _ N,?_⟩;have:=sumTo_upd D (⟨m,o,r⟩:WD) WD.stage N;rw[z]at this;exact this
 have G:=λ(h:Q≠1)=>J.not_ret N O9;cases c with
 |work h=>
   obtain E|⟨_,C,y,es,c8,H,T,cj,ak⟩:=h.cases;have⟨⟨_,cv,C,H,O,b7⟩,b4⟩:=E;have aa:=p.abf (g':=C) (es:=#[mk (.releaseMerge<|stA s.Wg)]) (fn:=g.frame.fn) (pos:=g.frame.place) F a7 N U (.refl s.Wg W) ⟨_,_,l⟩ (λe b=>by simp at b;subst b;exact⟨λx Y=>(by cases Y),bf,by simp[mk]⟩) (.late O9<|.k1 b7) (by rw[ai];rfl) (λ_=>b4) λ_=>Cc.new aj _ _
   refine no<|xK av ay ah a0 O9 U H (.refl W) rfl aa l (λ_ X _=>(J.counted N O9 (.inl rfl) _ _).retag X) (λe=>absurd e<|G O9) (.inl ?_);have:=bc 6 0 0;have c1:cnt (D i)=1:=by simp[cnt,z]
   have c2:cnt (⟨6,0,0⟩:WD)=1:=rfl;omega;refine no<|xK av ay ah a0 O9 U H (p.ah4 F T 0 O9 aL λ_ x=>x.elim).bare (iH B _ O9) (p.ajD (fn:=g.frame.fn) (pos:=g.frame.place) F a7 N z ai U T ak) (l.of_block<|p.EL F T) (λ_ X _=>J.retag X) (λe=>absurd e<|G O9) (.inr ⟨rfl,rfl,base+i,O9,?_,λk _ a6=>iH ρ _ a6⟩);rw[dZ,bm];exact cj
 |@late _ am _ _ _ _ _ bu ba=>
   have bd:∀{C:Goroutine}{y:World}{es:Array Event}{m o r:Nat}{al ad:Int},stepG P false g W=.go C y es->Aside s.Wg W y->WgAt s.ty s.Wg y al ad->(∀e∈es,Bk s.Wg e)->(∀d e,es[d]?=some e->(MemAct.ofEvent e).touch?=none\/0<deafBehind M (es.extract 0 d))->m<=6->WSit P s.ty s.Wg s.C s.N (λ_ _=>False) (λ_ _=>False) 0 (i+1) (fin i) m o r C y->deafBehind M es=r->
    (∀L,(L=tag\/(tag=.blk/\L=.w3))->(mayWake P g=true->C.status=.running->L≠.blk)->ConcN.Mode j (upd D i ⟨m,0,r⟩) L al ad)->(tag=.ret->zg s base j (t++MemOp.ofEvents (base+i) g.frame.fn g.frame.place es))->
    ((m<Q/\cnt ⟨m,0,r⟩<=cnt (D i))\/(m=Q/\am=o+1))->False:=by
    intro C y es m o r al ad H ag af S T a8 ae a2 a4 az a3;refine no<|xK av ay ah a0 O9 U H (p.AH F ag ⟨_,_,af⟩ 0 aL).bare rfl (p.abf (g':=C) (fn:=g.frame.fn) (pos:=g.frame.place) F a7 N U ag ⟨_,_,af⟩ (λe b=>oL (S e b) bf) (.late a8 ae) (ai▸a2) (λ_=>p.has i N O9) λ_=>(p.rel i N O9).book aj _ _ S T) af a4 az ?_;have R:=bc m 0 r;obtain⟨w,π⟩|⟨w,π⟩:=a3;omega;have:cnt (⟨m,0,r⟩:WD)=cnt (D i):=by simp only[cnt,w,z]
    refine .inr ⟨O9,O9,base+i,O9,?_,λk _ a6=>iH ρ _ a6⟩;rw[dZ,bm,π];exact ahm o
   have I:=fun{C y es m o r al ad} H ag af S T a8 ae a2 a4=>@bd C y es m o r al ad H ag af S T a8 ae a2 λ_ X _=>ConcN.Mode.retag a4 X;have ac:∀{C:Goroutine}{o:Nat},stepG P false g W=.go C W #[]->WSit P s.ty s.Wg s.C s.N (λ_ _=>False) (λ_ _=>False) 0 (i+1) (fin i) Q o M C W->am=o+1->Q≠1->False:=λH ae b9 R=>I H (.refl s.Wg W) l S8 S8 bu ae rfl (by have:=J.same (i:=i) 0 M;rwa [z]at this) (λe=>absurd e<|G R)<|.inr ⟨rfl,b9⟩;cases ba with
   |r0 _=>omega
   |k1 h=>
     obtain E|⟨o,rfl,A⟩:=NW h;have⟨_,C,H,O,c⟩:=E W<|yI W;exact I H (.refl s.Wg W) l (by intro e b;simp at b;subst b;exact .inl rfl) (λd e b=>.inl<|by have:=E8 b;simp at this;subst this;rfl) O9 (.d1 c) rfl (J.counted N O9 (.inr rfl) _ _) (λe=>absurd e<|G O9) (.inl ⟨O9,by simp[cnt,z]⟩)
     obtain⟨C,y,es,H,⟨rfl,rfl⟩,K⟩:=A W<|yI W;exact ac H (.k1 K) rfl O9
   |d1 h=>
     obtain E|⟨o,rfl,A⟩:=NW h;have⟨_,bg⟩:=E W<|yI W;have b0:cnt (D i)=1:=by simp[cnt,z]
     have cr:1<=Vc j D:=by have:=le_sumTo (f:=λx=>cnt<|D x) N;simp only[Vc];omega
     have an:∀e∈#[rd<|stA s.Wg,wr<|stA s.Wg],Bk s.Wg e:=by intro e b;simp at b;obtain rfl|rfl:=b<;>exact bk_cell _ _ rfl
     have au:∀d e,(#[rd<|stA s.Wg,wr<|stA s.Wg]:Array Event)[d]?=some e->(MemAct.ofEvent e).touch?=none\/0<deafBehind 1 ((#[rd<|stA s.Wg,wr<|stA s.Wg]:Array Event).extract 0 d):=by intro d e b;match d,b with
      |0,_=>exact .inr (by simp[deafBehind])
      |1,_=>exact .inr (by simp[deafBehind,rd])
      |d+2,b=>simp at b
     have cz:cnt (⟨1,0,1⟩:WD)=0:=rfl;have c7:=bc 1 0 1;have bo:OpenSt j D->OpenSt j (upd D i ⟨1,0,1⟩):=λh k c=>by by_cases e:k=i;subst e;rw[DI];simp;rw[upd_ne D _ e];exact h k c
     cases J with
     |opn R w π=>
       have⟨v,ar⟩:∃v,Vc j D+pend tag=v+1:=⟨Vc j D+pend tag -1,O9⟩;rw[ar]at l;have bb:WgAt s.ty s.Wg W (((v:Nat)+1)*Go.ConcR.KK+((0:Nat):Int)) 0:=by simpa using l
       have⟨C,H,_,u⟩:=bg v 0 O9 O9 bb;have⟨O,u⟩:=u O9;have a9:Vc j (upd D i ⟨1,0,1⟩)+pend tag=v:=O9;refine I H (NY W (stA s.Wg) _) (l.setSt _) an au O9 (.quit u) rfl ?_ (λe=>absurd e<|G O9)<|.inl ⟨O9,by simp[cnt]⟩;have e:((v:Nat):Int)*Go.ConcR.KK+((0:Nat):Int)=((Vc j (upd D i ⟨1,0,1⟩)+pend tag:Nat):Int)*Go.ConcR.KK:=by rw[a9];simp
       rw[e];exact .opn R (bo w) (λcq ev=>by have:=π cq ev;omega)
     |reg R w π=>
       have⟨v,ar⟩:∃v,Vc j D=v+1:=⟨Vc j D -1,O9⟩;rw[ar]at l;have⟨C,H,b8,u⟩:=bg v 1 O9 O9 (by simpa using l);by_cases cm:v=0;subst cm;have⟨O,c⟩:=b8 ⟨rfl,rfl⟩;refine I H (NY W (stA s.Wg) _) (l.setSt _) an au O9 (.d2 c) rfl ?_ (λe=>absurd e<|G O9)<|.inl ⟨O9,by simp[cnt]⟩;have V:∀k,k<j->k≠i->(D k).stage=1:=λk c e=>by have c0:=others_uncounted N ar b0 k c e;have:=w k c;simp only[cnt]at c0;split at c0<;>omega
       have:=abg (j:=j) (D:=upd D i ⟨4,0,1⟩) (tag:=tag) i R N (by rw[DI];simp) (λk c e=>by rw[upd_ne D _ e];exact V k c e);rw[DI]at this;simpa using this;have⟨O,u⟩:=u O9;have a9:Vc j (upd D i ⟨1,0,1⟩)=v:=O9;refine I H (NY W (stA s.Wg) _) (l.setSt _) an au O9 (.quit u) rfl ?_ (λe=>absurd e<|G O9)<|.inl ⟨O9,by simp[cnt]⟩;have e:((v:Nat):Int)*Go.ConcR.KK+((1:Nat):Int)=((Vc j (upd D i ⟨1,0,1⟩):Nat):Int)*Go.ConcR.KK+1:=by rw[a9];simp
       rw[e];exact .reg R (bo w) O9
     |last bh _ w π bs=>by_cases e:i=bh;subst e;omega;have:=bs i N e;omega
     |sema w=>have:=w i N;omega
     |fin _ w=>have:=w i N;omega
     obtain⟨C,y,es,H,⟨rfl,rfl⟩,K⟩:=A W<|yI W;exact ac H (.d1 K) rfl O9
   |d2 h=>obtain E|⟨o,rfl,A⟩:=NW h;have⟨_,Y⟩:=E W<|yI W;obtain⟨ab,V,rfl,rfl⟩:=J.isLast N O9;simp only[z]at l;have⟨C,H,O,c⟩:=Y (by simpa using l);refine I H (.refl s.Wg W) l (by intro e b;simp at b;subst b;exact bk_cell _ _ rfl) (by intro d e b;match d,b with|0,_=>exact .inr (by simp[deafBehind])|d+1,b=>simp at b) O9 (.d3 c) rfl ?_ (λe=>absurd e<|G O9)<|.inl ⟨O9,by simp[cnt]⟩;have:=abg (j:=j) (D:=upd D i ⟨3,0,1⟩) (tag:=tag) i ab N (by rw[DI];simp) (λk c e=>by rw[upd_ne D _ e];exact V k c e);rw[DI]at this;simpa using this;obtain⟨C,y,es,H,⟨rfl,rfl⟩,K⟩:=A W<|yI W;exact ac H (.d2 K) rfl O9
   |d3 h=>obtain E|⟨o,rfl,A⟩:=NW h;have⟨_,Y⟩:=E W<|yI W;obtain⟨ab,V,rfl,rfl⟩:=J.isLast N O9;simp only[z]at l;have⟨C,H,O,c⟩:=Y (by simpa using l);refine I H (NY W (stA s.Wg) _) (l.setSt 0) (by intro e b;simp at b;subst b;exact bk_cell _ _ rfl) (by intro d e b;match d,b with|0,_=>exact .inr (by simp[deafBehind])|d+1,b=>simp at b) O9 (.d4 c) rfl ?_ (λe=>absurd e<|G O9)<|.inl ⟨O9,by simp[cnt]⟩;have:=abg (j:=j) (D:=upd D i ⟨2,0,1⟩) (tag:=tag) i ab N (by rw[DI];simp) (λk c e=>by rw[upd_ne D _ e];exact V k c e);rw[DI]at this;simpa using this;obtain⟨C,y,es,H,⟨rfl,rfl⟩,K⟩:=A W<|yI W;exact ac H (.d3 K) rfl O9
   |d4 h=>
     obtain E|⟨o,rfl,A⟩:=NW h;have⟨_,ca,Y⟩:=E W<|yI W;obtain⟨ab,V,rfl,rfl⟩:=J.isLast N O9;simp only[z]at l;have⟨C,H,O,u⟩:=Y (by simpa using l);have cf:C.status=.running:=by obtain _|_:=O;exact absurd u.2 D9;exact u.elim (λx=>absurd x.2 D9) λx=>x.1
     refine bd H (NY W (smA s.Wg) _) (l.setSm 1) (es:=semEvents<|smA s.Wg) ?_ ?_ O9 (.quit u) (by simp[deafBehind,semEvents]) ?_ (λe=>absurd e<|G O9)<|.inl ⟨O9,by simp[cnt]⟩;intro e b;simp[semEvents]at b;obtain rfl|rfl|rfl|rfl:=b;exact .inl rfl;exact bk_cell _ _ rfl;exact bk_cell _ _ rfl;exact .inr<|.inl rfl;intro d e b;match d,b with
     |0,b=>simp[semEvents]at b;subst b;exact .inl rfl
     |1,_=>exact .inr (by simp[deafBehind,semEvents])
     |2,_=>exact .inr (by simp[deafBehind,semEvents])
     |3,b=>simp[semEvents]at b;subst b;exact .inl rfl
     |d+4,b=>simp[semEvents]at b
     intro L X ba;have bq:L=.w3:=by
      obtain rfl|⟨_,rfl⟩:=X;cases L<;>first|rfl|exact ab.elim|exact absurd rfl (ba ca cf)
      rfl
     subst bq;simp only[yB];exact .sema λk c=>by by_cases e:k=i;subst e;rw[DI];rw[upd_ne D _ e];exact V k c e
     obtain⟨C,y,es,H,⟨rfl,rfl⟩,K⟩:=A W<|yI W;exact ac H (.d4 K) rfl O9
   |quit h=>obtain _|am:=am;rw[h.1]at ao;cases ao;obtain⟨b6,_⟩|⟨_,C,es,a5,A,u⟩:=h;rw[b6]at ao;cases ao;have S:∀e∈es,Bk s.Wg e:=λe b=>bk_of_mute<|a5 e b;have bk:∀d e,es[d]?=some e->(MemAct.ofEvent e).touch?=none\/0<deafBehind M (es.extract 0 d):=λd e b=>.inl<|touch_mute (a5 e<|E8 b);refine I (A W) (.refl s.Wg W) l S bk O9 (.quit u) rfl (by have:=J.same (i:=i) 0 (deafBehind M es);rwa [z]at this) (λe=>(bx e).app (λk bi c ak=>?_) (λop cd _=>?_) bz)<|.inr ⟨rfl,rfl⟩;by_cases bp:k=i;subst bp;exact ak.book aj _ _ S bk;exact ak.appOther oI O9;obtain⟨e,b,rfl⟩:=Go.Conc.mem_ofEvents (h:=cd);exact touch_mute<|a5 e b
end
end
section
def abh:=@aside_setCell
def zg.new{s base j t}(y:1<=base)(l:Deaf t 0=0)(fn pos)(p:∀i,i<j->Cc s t (base+i)):zg s base j (t++MemOp.ofEvents 0 fn pos #[mk (.acquire<|stA s.Wg)]):=by
 have b:(t++MemOp.ofEvents 0 fn pos #[mk (.acquire<|stA s.Wg)])[t.size]?=some {g:=0,fn,pos,act:=.mark (.acquire<|stA s.Wg)}:=by rw[agX L9];simp[MemOp.ofEvents,mk,MemAct.ofEvent]
 refine⟨t.size,by simp only[Trace.act?,b];rfl,by simp only[Trace.g?,b];rfl,⟨0,by simp only[Trace.g?,b];rfl,by rw[deaf_old L9];exact l⟩,λi H=>?_⟩;have⟨r,c,f⟩:=p i H;refine⟨r,lt_of_act? c.act,c.appOther oI O9,λk a m d h=>?_⟩;have⟨x,e,v⟩:=touch_of h;rcases getElem?_append_cases e with⟨n,q⟩|⟨_,w⟩;exact f k a m (by rw[<-g?_old (u:=MemOp.ofEvents 0 fn pos #[mk (.acquire<|stA s.Wg)]) n];exact d) (by rw[touchAt_of q];exact v);have z:x.g=base+i:=by simpa[Trace.g?,e]using d
 have:=oI x w;omega
def FL{s K m}(h:(MemAct.ofEvent<|mk m).touch?=none)(c:(MemAct.ofEvent<|mk m).low K)(d:m≠.release (stA s.Wg)):∀e∈#[mk m],EvG s K e:=by intro e a;simp at a;subst a;exact⟨λx b=>(by cases h▸b),c,(by simpa[mk]using d)⟩
variable[Payload]
section
variable{P:Program}{s:Site}{base n:Nat}{oc:Nat→Nat→Prop}{fin:Nat→Value}{W0:World}{Anch:fB}{Fin:Goroutine→World→Prop}
  {gs:Array Goroutine}{W:World}{sl:Option (Nat×Nat)}{j:Nat}{D:Nat→WD}{tag:CTag}{B ro:Nat→Nat→Prop}{q:Nat→Nat}{d0:Nat}{a:Goroutine}{st sm:Int}{t:Trace}{ρ:Nat→dC}{r0:dC}
def pT{w B A es T b u y S}(d:gs[0]?=some a)(p:Deaf t 0=d0)(H:stepG P true a W=.go A w es)(l:Com P s base n oc fin W0 j D B ro ρ ((gs.map<|woken P a A w).setIfInBounds 0 A) w (t++MemOp.ofEvents 0 a.frame.fn a.frame.place es) q)(m:lN P s n (Child P s oc fin) Anch Fin T j b u (B 0) A w)(o:deafBehind d0 es=u)
 (x:WgAt s.ty s.Wg w y S)(v:ConcN.Mode j D T y S)(k:T=.ret->zg s base j (t++MemOp.ofEvents 0 a.frame.fn a.frame.place es))
 (r:phi n (Vc j D) T<phi n (Vc j D) tag\/(T=tag/\dC.under b r0)\/(tag=.w3/\T=.blk/\b=r0)):
 ∃e O z g f c,runT P (crowd gs W sl) 0=(.next e,O)/\AJ (base+n) z g f c (phi n (Vc j D) tag+Ssum j D) ρ r0 (flag tag)/\LJ P s base n oc fin W0 Anch Fin z g f c e (t++O):=by
 refine⟨_,_,phi n (Vc j D) T+Ssum j D,ρ,b,flag T,(runT_crowd_go (P:=P) (sl:=sl) (i:=0) d<|by simpa using H),?_,_,w,sl,j,D,T,B,ro,q,u,A,y,S,rfl,get_map_set_same _ _ _<|(eD.1 d).1,m,by rw[Deaf_own,p];exact o,l,x,v,k,rfl,rfl⟩;obtain h|⟨rfl,h⟩|⟨rfl,rfl,rfl⟩:=r;exact .stage O9;exact .main h;exact .wait D9
def LK(F:Fix s oc)(w:gs[0]?=some a)(f:Deaf t 0=0)(d:Com P s base n oc fin W0 j D B ro ρ gs W t q)(C:WgAt s.ty s.Wg W st sm){r}(N:ConcN.Mode j D (.sp r 2) st sm)(ae:j=n -(r+1))(aa:r<n)(π:SGo P s (Child P s oc fin j) (KSp P s n (Child P s oc fin) Anch r) (B 0) a W):
 ∃E Y X H G m,runT P (crowd gs W sl) 0=(.next E,Y)/\AJ (base+n) X H G m (phi n (Vc j D) (.sp r 2)+Ssum j D) ρ r0 (flag<|.sp r 2)/\LJ P s base n oc fin W0 Anch Fin X H G m E (t++Y):=by
 have⟨_,L,U,S,_,M,u⟩:=π;have⟨ab,R⟩:=(M d.pay).Re;have l:=runT_crowd_spawn (P:=P) (sl:=sl) (i:=0) w (by simpa using S);have p:=d.fork (g':=L) (x:={g:=0,fn:=a.frame.fn,pos:=a.frame.place,act:=.go (base+j)}) (y:={g:=base+j,fn:=U.frame.fn,pos:=a.frame.place,act:=.start}) F O9 f ⟨rfl,rfl⟩ ⟨rfl,rfl⟩ R;have c:Vc (j+1) (upd D j ⟨7,0,0⟩)=Vc j D+1:=by simp[Vc,sumTo,upd_same];rw[sumTo_upd_out D _ cnt<|mi j];rfl
 have v:Ssum (j+1) (upd D j ⟨7,0,0⟩)=Ssum j D+7:=by simp[Ssum,sumTo,upd_same];rw[sumTo_upd_out D _ WD.stage<|mi j]
 have⟨O,I⟩:OpenSt j D/\st=((Vc j D+1:Nat):Int)*Go.ConcR.KK/\sm=0:=by cases N with
  |opn b K ad=>exact⟨K,rfl,rfl⟩
  |reg b _ _=>exact b.elim
  |last ac b _ _ _=>exact b.elim
  |fin b _=>exact b.elim
 obtain⟨rfl,rfl⟩:=I;have A:OpenSt (j+1) (upd D j ⟨7,0,0⟩):=λk af=>by by_cases e:k=j;subst e;rw[upd_same];simp;rw[upd_ne D _ e];exact O k O9
 have Q:(((MemOp.ofEvents 0 a.frame.fn a.frame.place #[]).push {g:=0,fn:=a.frame.fn,pos:=a.frame.place,act:=.go gs.size}).push {g:=gs.size,fn:=U.frame.fn,pos:=a.frame.place,act:=.start}:Array MemOp)=#[{g:=0,fn:=a.frame.fn,pos:=a.frame.place,act:=.go (base+j)},{g:=base+j,fn:=U.frame.fn,pos:=a.frame.place,act:=.start}]:=by rw[d.size];rfl
 have z:((gs.setIfInBounds 0 L).push U)[0]?=some L:=by grind
 have o:put (put B 0 aL) (j+1) aL 0=aL:=by rw[iH _ _ O9,dZ]
 rw[Q]at l;cases r with
 |zero=>have⟨V,h⟩:=Vi u;refine⟨_,_,phi n (Vc (j+1)<|upd D j ⟨7,0,0⟩) .kd+Ssum (j+1) (upd D j ⟨7,0,0⟩),_,V,flag .kd,l,?_,_,W,sl,j+1,_,.kd,_,_,q,0,L,_,_,rfl,z,?_,by rw[tS rfl rfl];exact f,p,C,?_,(λe=>by cases e),rfl,rfl⟩;refine .stage ?_;rw[c,v];simp[phi];omega;rw[o,show j+1=n by omega];exact .kd h;have:=ConcN.Mode.opn (j:=j+1) (D:=upd D j ⟨7,0,0⟩) (tag:=.kd) trivial A (λT e=>by cases e);rw[c]at this;exact this
 |succ r=>have⟨V,h⟩:=Vi u;have J:j+1=n -(r+1):=O9;refine⟨_,_,phi n (Vc (j+1)<|upd D j ⟨7,0,0⟩) (.sp r 5)+Ssum (j+1) (upd D j ⟨7,0,0⟩),_,V,flag<|.sp r 5,l,?_,_,W,sl,j+1,_,.sp r 5,_,_,q,0,L,_,_,rfl,z,?_,by rw[tS rfl rfl];exact f,p,C,?_,(λe=>by cases e),rfl,rfl⟩;refine .stage ?_;rw[c,v];simp[phi];omega;rw[o,J];exact .skd O9 h;have:=ConcN.Mode.opn (j:=j+1) (D:=upd D j ⟨7,0,0⟩) (tag:=.sp r 5) trivial A (λT e=>by cases e);rw[c]at this;exact this
def NZ(F:Fix s oc)(Q:∀i,i<n->oc i i)(hn:n<2147483648)(bb:∀B g W,Anch B g W->g.status=.running)(av:∀B g W,Anch B g W->gH P s true aL aL (tQ P s (ZZ P s Fin)<|K2 P s Anch Fin) B g W)(u:gs[0]?=some a)(az:lN P s n (Child P s oc fin) Anch Fin tag j r0 d0 (B 0) a W)(C:Deaf t 0=d0)
 (p:Com P s base n oc fin W0 j D B ro ρ gs W t q)(b:WgAt s.ty s.Wg W st sm)(L:ConcN.Mode j D tag st sm)(ax:tag=.ret->zg s base j t)(ba:a.status=.running):
 (tag=.ret/\XE Fin (B 0) a W)\/∃ag ap ae ar aq af,runT P (crowd gs W sl) 0=(.next ag,ap)/\AJ (base+n) ae ar aq af (phi n (Vc j D) tag+Ssum j D) ρ r0 (flag tag)/\LJ P s base n oc fin W0 Anch Fin ae ar aq af ag (t++ap):=by
 refine Classical.or_iff_not_imp_right.2 λN=>?_;have al:=p.b1;have z:=fI F.wg p.L;have bc:=Vc_le j D;have I:∀{S:fB},lH P s true aL aL S r0 (B 0) a W->(∀R K A w,lH P s true aL aL S R K A w->lN P s n (Child P s oc fin) Anch Fin tag j R d0 K A w)->S (B 0) a W:=λh ab=>by obtain ad|⟨_,A,w,E,R,H,m,T,k⟩:=h.cases;exact ad;exact absurd (pT u C H (p.idle0 (g':=A) (fn:=a.frame.fn) (pos:=a.frame.place) F Q u m) (by rw[dZ];exact ab R _ A w k) (m.still d0) (b.of_block<|p.EL F m) L (λe=>(ax e).app (λi r J k=>k.appOther oI O9) (λop ac a6=>absurd (oI op ac) a6) al) (.inr<|.inl ⟨rfl,T⟩)) N
 have o:∀{A:Goroutine}{w:World}{E:Array Event}{tag':CTag}{S:fB}{st' sm':Int},stepG P true a W=.go A w E->Aside s.Wg W w->WgAt s.ty s.Wg w st' sm'->(∀e∈E,EvG s W e)->gH P s true aL aL S (B 0) A w->(∀R K A w,lH P s true aL aL S R K A w->lN P s n (Child P s oc fin) Anch Fin tag' j R (deafBehind d0 E) K A w)->ConcN.Mode j D tag' st' sm'->∀(_:tag'=.ret->zg s base j (t++MemOp.ofEvents 0 a.frame.fn a.frame.place E):=by intro e;cases e)(_:phi n (Vc j D) tag'<phi n (Vc j D) tag:=by simp only[phi];omega),False:=by
  intro A w E tag' S st' sm' H aw an a0 c ab l hq a3;have⟨R,a8⟩:=c.Re;exact N (pT u C H (p.abe (g':=A) (fn:=a.frame.fn) (pos:=a.frame.place) F Q u aw ⟨_,_,an⟩ a0) (ab _ _ _ _ a8) rfl an l hq<|.inl a3)
 have ai:∀e∈#[rd<|stA s.Wg,wr<|stA s.Wg],EvG s W e:=by intro e v;simp at v;obtain rfl|rfl:=v<;>exact oL (bk_cell _ _ rfl) z
 have X:∀e∈#[rd<|stA s.Wg],EvG s W e:=by intro e v;simp at v;subst v;exact oL (bk_cell _ _ rfl) z
 have aj:∀e∈#[mk .disable],EvG s W e:=FL rfl trivial S8;have ak:∀e∈#[mk .enable],EvG s W e:=FL rfl trivial S8;have U:∀{tag':CTag}{x:Int},isOpen tag'->ConcN.Mode j D tag x sm->isOpen tag->∀(_:∀V,tag'=.w2 V->Vc j D<=V/\1<=V:=by intro _ e;cases e),sm=0/\x=((Vc j D+pend tag:Nat):Int)*Go.ConcR.KK/\ConcN.Mode j D tag' (((Vc j D+pend tag':Nat):Int)*Go.ConcR.KK) 0/\OpenSt j D:=by intro tag' x y l d M;cases l with
  |opn _ Y _=>exact⟨rfl,rfl,.opn y Y M,Y⟩
  |sema _=>exact d.elim
  |_=>cases tag<;>first|exact False.elim ‹_›|exact d.elim
 have ao:tag=.w1\/tag=.anch->tQ P s (ZZ P s Fin) (K2 P s Anch Fin) (B 0) a W->d0=1->j=n->False:=by
  intro aa hs m hj;subst m hj;have ac:isOpen tag:=by obtain rfl|rfl:=aa<;>trivial
  have a7:pend tag=0:=by obtain rfl|rfl:=aa<;>rfl
  obtain⟨rfl,rfl,_,π⟩:=U (tag':=.w1) trivial L ac;rw[a7,tJ]at b;have⟨_,O⟩:=hs;have⟨A,H,h0,y⟩:=O (Vc j D) O9 b;by_cases G:Vc j D=0;have hz:AllQuit j D:=λi J=>by have:=π i J;have d:cnt (D i)<=Vc j D:=le_sumTo (f:=λx=>cnt<|D x) J;rw[G]at d;unfold cnt at d;split at d<;>omega
  rw[G]at b;exact o (tag':=.ke) H (.refl s.Wg W) (st':=0) (sm':=0) (by simpa using b) X (h0 G) (λ_ _ _ _=>.ke) (.fin trivial hz) nofun (by obtain rfl|rfl:=aa<;>simp only[phi]<;>omega);exact o (tag':=.w2<|Vc j D) H (.refl s.Wg W) b X (y G) (λ_ _ _ _=>.w2) (.opn trivial π λV e=>by cases e;omega) nofun (by obtain rfl|rfl:=aa<;>simp only[phi]<;>omega)
 cases az with
 |skd k h=>have⟨_,A,H,c⟩:=I h λ_ _ _ _=>.skd k;obtain⟨rfl,rfl,l,_⟩:=U (tag':=.sp _ 4) trivial L trivial;exact(o H (.refl s.Wg W) b aj c (λ_ _ _ _=>.sa1 k) l).elim
 |@sa1 r _ _ _ _ k h=>have⟨_,O⟩:=I h λ_ _ _ _=>.sa1 k;obtain⟨rfl,rfl,l,_⟩:=U (tag':=.sp r 3) trivial L trivial;have⟨A,H,c⟩:=O (Vc (n -(r+1)) D) O9 b;exact(o H (abh W (stA s.Wg) _) (b.setSt _) ai c (λ_ _ _ _=>.ske k)<|by simpa[pend]using l).elim
 |@ske r _ _ _ _ k h=>have⟨_,A,H,c⟩:=I h λ_ _ _ _=>.ske k;obtain⟨rfl,rfl,l,_⟩:=U (tag':=.sp r 2) trivial L trivial;exact(o H (.refl s.Wg W) b ak c (λ_ _ _ _=>.sgo k) l).elim
 |sgo k h=>exact absurd (LK F u C p b L rfl k<|I h λ_ _ _ _=>.sgo k) N
 |kd h=>have⟨_,A,H,c⟩:=I h λ_ _ _ _=>.kd;obtain⟨rfl,rfl,l,_⟩:=U (tag':=.anch) trivial L trivial;exact(o H (.refl s.Wg W) b aj c (λ_ _ _ _=>.anch) l).elim
 |anch h=>have⟨r1,a9⟩:=(av _ _ _<|I h λ_ _ _ _=>.anch).Re;obtain ad|⟨_,A,w,E,R,H,m,T,k⟩:=a9.cases;exact(ao (.inr rfl) ad rfl rfl).elim;obtain⟨rfl,rfl,l,_⟩:=U (tag':=.w1) trivial L trivial;exact absurd (pT u C H (p.idle0 (g':=A) (fn:=a.frame.fn) (pos:=a.frame.place) F Q u m) (by rw[dZ];exact .w1 k) (m.still 1) (b.of_block<|p.EL F m) l nofun (.inl<|by simp only[phi];omega)) N
 |w1 h=>exact(ao (.inl rfl) (I h λ_ _ _ _=>.w1) rfl rfl).elim
 |@w2 V _ _ _ _ h=>
   have⟨_,O⟩:=I h λ_ _ _ _=>.w2;have⟨π,bf⟩:OpenSt n D/\Vc n D<=V/\1<=V:=by cases L with|opn _ g h=>exact⟨g,h V rfl⟩|_=>exact False.elim ‹_›
   obtain⟨rfl,rfl,l,_⟩:=U (tag':=.anch) trivial L trivial;simp only[pend,tJ]at b l;have⟨a2,a5⟩:=O (Vc n D) O9 b;by_cases G:Vc n D=V;have⟨A,H,c⟩:=a2 G;exact(o H (abh W (stA s.Wg) _) (b.setSt _) ai c (λ_ _ _ _=>.w3)<|.reg trivial π O9).elim;have⟨A,H,c⟩:=a5 G;exact(o H (.refl s.Wg W) b X c (λ_ _ _ _=>.anch) l).elim
 |w3 h=>
   obtain am|⟨_,A,w,E,R,H,m,T,k⟩:=h.stops;have⟨_,bd,ay,a1⟩:=am W<|.refl W;have ah:sm=0->ConcN.Mode n D .blk st 0->False:=λe0 a4=>by subst e0;exact N<|pT u C (ay ⟨st,b⟩) (p.abe (g':={a with status:=.blocked}) (es:=#[]) (fn:=a.frame.fn) (pos:=a.frame.place) F Q u (.refl s.Wg W) ⟨_,_,b⟩ λe v=>by simp at v) (.blk am) rfl b a4 nofun (.inr<|.inr ⟨rfl,rfl,rfl⟩)
   cases L with
   |reg y d M=>exact(ah rfl<|.reg trivial d M).elim
   |last au y d M Y=>exact(ah rfl<|.last au trivial d M Y).elim
   |sema d=>have⟨A,H,c⟩:=a1 b;refine(o H (abh W (smA s.Wg) _) (b.setSm 0) (λe v=>?_) c (λ_ _ _ _=>.w4)<|.fin trivial d).elim;simp[semEvents]at v;obtain rfl|rfl|rfl|rfl:=v;exact oL (.inl rfl) z;exact oL (bk_cell _ _ rfl) z;exact oL (bk_cell _ _ rfl) z;exact oL (.inr<|.inl rfl) z
   |_=>exact False.elim ‹_›
   exact absurd (pT u C H (p.idle0 (g':=A) (fn:=a.frame.fn) (pos:=a.frame.place) F Q u m) (by rw[dZ];exact .w3 k) (m.still 1) (b.of_block<|p.EL F m) L nofun (.inr<|.inl ⟨rfl,T⟩)) N
 |blk h=>cases ba
 |w4 h=>cases L with
   |fin y d=>have⟨A,H,c⟩:=(I h λ_ _ _ _=>.w4).2 b;exact(o H (.refl s.Wg W) b X c (λ_ _ _ _=>.ke)<|.fin trivial d).elim
   |_=>exact False.elim ‹_›
 |ke h=>have⟨_,A,H,c⟩:=I h λ_ _ _ _=>.ke;cases L with
   |fin y d=>exact(o H (.refl s.Wg W) b ak c (λ_ _ _ _=>.acq)<|.fin trivial d).elim
   |_=>exact False.elim ‹_›
 |acq h=>have⟨_,A,H,c⟩:=I h λ_ _ _ _=>.acq;cases L with
   |fin y d=>exact(o H (.refl s.Wg W) b (FL rfl z S8) c (λ_ _ _ _=>.ret) (.fin trivial d) λ_=>zg.new al C _ _ λi J=>p.rel i J<|by have:=d i J;omega).elim
   |_=>exact False.elim ‹_›
 |ret h=>exact⟨rfl,I h λ_ _ _ _=>.ret⟩
end
end
end Go.Ren
