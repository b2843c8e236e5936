import Derived.ProofKit
import Derived.SizedLaws
import Derived.Carry
import Derived.Deep.Slices
import Derived.Deep.Strs
import Derived.Lib.SmallJoins
import Derived.Conc.HoldsTime
import Derived.JoinedCond
import Derived.Test.YtpjcmpfncpnmeaaGreatM06
import Derived.Test.YtpjcmpfncpnmeaaGreatM19
set_option linter.all false
set_option maxRecDepth 100000
namespace Go.Proofs.YtpjcmpfncpnmeaaGreat
open Go.Conc Go.Ren
def CX(Z k l d h):(#[.string k,.string l,.string d,.int .i64 h]:Array Value).map (bC Z)=#[↑k,↑l,↑d,↑h]:=by simp
def adb(h:gH.X 221):False:=by revert h;unfold gH.X aI.X aI.code;decide
def aba(h:aI.X0 221):False:=by revert h;unfold aI.X0;decide
def UU(k l d h)(j:h<9223372036854775808)(w):Tree gH.prog (λv _=>v=.tuple #[(Go.Proofs.aH.s7 (Go.Proofs.aH.mF k l d h)).1,(Go.Proofs.aH.s7 (Go.Proofs.aH.mF k l d h)).2]) (bZ gH.prog 221 #[(Go.Proofs.aH.mk k),(Go.Proofs.aH.mk l),(Go.Proofs.aH.mk d),h] .normal []) w:=by
 refine yC (G:=Gs.self) (U:=λ_=>none) (Post:=λv _=>v=.tuple #[(Go.Proofs.aH.s7 (Go.Proofs.aH.mF k l d h)).1,(Go.Proofs.aH.s7 (Go.Proofs.aH.mF k l d h)).2]) rfl (@aI.ade gH.vb _) (@aI.UW gH.vb _) (@aI.UX gH.vb) (λf h=>abb f (by obtain rfl:=h;rfl)) ⟨⟨uU (@aI.UX gH.vb) aba _ (.inl rfl),rfl,rfl,rfl,rfl,rfl⟩,⟨λ_ _ _ h=>(by cases h),λ_ _ h=>(by cases h),λ_ _ h=>(by cases h),λ_ _=>rfl⟩,λ_ _ h=>(by cases h),rfl,λZ _ _=>?_⟩ (λt=>?_) (λv w' o W' p m _ ok _ n=>?_);.simp[pO,bZ];rw[sD,CX]
 .have g:=letI:=gH.vb;Go.Proofs.aH.HA k l d h {w with tape:=t,drawn:=0} j;obtain⟨N,v,w',a,b⟩:=Calls.done (R:=λv _=>v=.tuple #[(Go.Proofs.aH.s7 (Go.Proofs.aH.mF k l d h)).1,(Go.Proofs.aH.s7 (Go.Proofs.aH.mF k l d h)).2]) (g.mono λe w' i=>by obtain⟨rfl,_⟩:=i;rfl) (by have:=((@aI.UX gH.vb).ok 221 aba).2;simpa[xI]using this)
  exact⟨N,v,w',a,b⟩
 .obtain⟨Z,r,c⟩:=ok.one;rw[n Z r c,m];simp[bC]
def Y9{u x}(k l d)(p:u.key x=Go.Proofs.aH.mk k)(q:u.lock x=Go.Proofs.aH.mk l)(n:u.id x=Go.Proofs.aH.mk d)(o:u.cB x<9223372036854775808):xH u x (Go.Proofs.aH.s7 (Go.Proofs.aH.mF k l d (u.cB x))).1 (Go.Proofs.aH.s7 (Go.Proofs.aH.mF k l d (u.cB x))).2:=by
 intro tl W t w;rw[p,q,n];have j:=UU k l d (u.cB x) o {W with heap:=#[]};have a:=Fh (P:=Tryz.prog) (tl:=tl) (G:=Gs.self) (@aI.fit gH.vb _) (@aI.calls gH.vb _) (@aI.kin gH.vb) abb t j (λ_=>none) (bZ Tryz.prog 221 #[(Go.Proofs.aH.mk k),(Go.Proofs.aH.mk l),(Go.Proofs.aH.mk d),(u.cB x)] .normal tl) W ⟨⟨uU (@aI.kin gH.vb) adb _ (.inl rfl),rfl,rfl,rfl,rfl,rfl⟩,⟨λ_ _ _ h=>(by cases h),λ_ _ h=>(by cases h),λ_ _ h=>(by cases h),λ_ _=>rfl⟩,λ_ _ h=>(by cases h),rfl,λZ _ _=>?_⟩ rfl
 .have s:range (λ_=>none)=λ_=>False:=by funext c;exact propext ⟨λ⟨_,h⟩=>(by cases h),False.elim⟩
  rw[s]at a;refine a.mono λB g W m=>?_;obtain⟨v,y,w',W',ES,μ',b,e,rfl,f,i⟩:=m;obtain⟨Z,r,c⟩:=i.one;refine⟨W',ES,?_,e⟩;rw[b,f Z r c];simp[bC]
 .simp[pO,bZ];rw[sD,CX,(@aI.kin gH.vb).same 221 adb]
end Go.Proofs.YtpjcmpfncpnmeaaGreat
namespace Go.Proofs.YtpjcmpfncpnmeaaGreat
open Go.Conc Go.ConcN Go.Ren
structure TrP(W:World)(T o x:Nat)(r:ByteArray×ByteArray×ByteArray×Int):Prop where
 k:W.cell? ⟨T,o+x*4,none⟩=some (.string r.1)
 l:W.cell? ⟨T,o+x*4+1,none⟩=some (.string r.2.1)
 d:W.cell? ⟨T,o+x*4+2,none⟩=some (.string r.2.2.1)
 h:W.cell? ⟨T,o+x*4+3,none⟩=some (.int .i64 r.2.2.2)
 lt:r.2.2.2<9223372036854775808
def Ms{V G U w W}(h:Tw V G U w W){b c off s}(e:U b=some c)(f:w.cell? (b,off)=some (.string s)):W.cell? ⟨c,off,none⟩=some ↑s:=by obtain⟨g,a,d⟩:=h.cell e f;obtain⟨Z,r,cp⟩:=h.ok.one;rw[a,d Z r cp];simp[bC]
def given{G U args s k cs y w W p}{N cp wk:Nat}{c:Array Value}{S:Nat->Prop}(R:BS aI.X aI.prog Tryz.prog G U 205 args k cs w s y W)(D:w.tape=W.tape)(C:∀b c,U b=some c->¬S c)(t:args[0]?=some (.slice p N cp))(z:args[1]?=some (.int .i64 wk))
 (v:∀x,x<N->∃T o k l d n,p=some ⟨T,o,none⟩/\Go.Proofs.aH.yD w T o x k l d n/\c[x]?=some ↑(Go.Proofs.aH.yE k l d n)):
 s[1]?=some (.int .i64 wk)/\∃(p':Option Addr) (T o:Nat) (f:Nat->ByteArray×ByteArray×ByteArray×Int),s[0]?=some (.slice p' N cp)/\(0<N->p'=some ⟨T,o,none⟩/\T<W/\¬S T)/\∀x,x<N->TrP W T o x (f x)/\c[x]?=some ↑(Go.Proofs.aH.yE (f x).1 (f x).2.1 (f x).2.2.1 (f x).2.2.2):=by
 have q:Tw aI.prog G U w W:=⟨R.ok,R.obj,R.os,D⟩;refine⟨?_,?_⟩;.obtain⟨Z,r,i⟩:=R.ok.one;rw[(R.g Z r i).1,kW,z];simp[bC]
 cases p with
 |none=>
   have hN:¬0<N:=λh=>by obtain⟨T,o,_,_,_,_,j,_⟩:=v 0 h;cases j
   refine⟨none,0,0,λ_=>(⟨#[]⟩,⟨#[]⟩,⟨#[]⟩,0),?_,λh=>absurd h hN,λx h=>absurd (T8 (eX _) h) hN⟩;obtain⟨Z,r,i⟩:=R.ok.one;rw[(R.g Z r i).1,kW,t];simp[bC]
 |some a=>
   by_cases hN:N=0;.subst hN;obtain⟨Z,r,i⟩:=R.ok.one;refine⟨Jr Z (some a) 0 cp,0,0,λ_=>(⟨#[]⟩,⟨#[]⟩,⟨#[]⟩,0),?_,λh=>absurd h O9,λx h=>absurd h O9⟩;rw[(R.g Z r i).1,kW,t];simp[bC]
   obtain⟨b,e,u⟩:=R.slice t hN;have:∀x,∃r:ByteArray×ByteArray×ByteArray×Int,x<N->TrP W b a.off x r/\c[x]?=some ↑(Go.Proofs.aH.yE r.1 r.2.1 r.2.2.1 r.2.2.2):=λx=>by
    by_cases h:x<N;.obtain⟨T,o,k,l,d,n,j,m,A⟩:=v x h;cases j;exact⟨(k,l,d,n),λ_=>⟨⟨Ms q e m.k,Ms q e m.l,Ms q e m.d,q.int e m.h,m.lt⟩,A⟩⟩
    .exact⟨(⟨#[]⟩,⟨#[]⟩,⟨#[]⟩,0),λu=>absurd u h⟩
   obtain⟨f,B⟩:=Classical.axiomOfChoice this;refine⟨some {a with block:=b},b,a.off,f,u,λh=>⟨?_,(R.ok.lt _ _ e).2,C _ _ e⟩,B⟩;obtain⟨T,o,_,_,_,_,j,_⟩:=v 0 h;cases j;rfl
def HB{G}(μ₀:Nat->Option Nat)(W₀)(Post:Value->World->Prop):qR aI.X aI.prog Tryz.prog G μ₀ W₀ Post 205:=by
 intro args ba k cs bd w W U gs sl t q S R O μ h0 D au B J s;have P:(gP 205 k).kind≠.early:=by obtain rfl|rfl:=R.kind<;>simp[gP]
 have a3:∀p n c a,args[0]?=some (.slice p n c)->p=some a->0<n->∃Y,w.heap[a.block]?=some Y/\cI aI.prog Y=true:=λp n c a h0 a0 E=>by subst a0;obtain⟨b,B,_⟩:=R.slice h0 O9;obtain⟨o,o',m,_,H,_⟩:=R.obj _ _ B;exact⟨o,m,H⟩
 obtain⟨p,N,cp,wk,aj,ak,aa,bq,br,frV,wv,ag,a9,ai,F,c,ay,bo,i⟩:=Go.Proofs.aH.adf P O a3;obtain⟨ae,p',T,o,f,ab,a2,y⟩:=given R μ J aj ak i;obtain⟨M,bu,bj,W',bs,a',q',W₁,r1,A,j⟩:=ac9 (T:=T) (o:=o) (key:=λx=>(f x).1) (lock:=λx=>(f x).2.1) (id:=λx=>(f x).2.2.1) (cB:=λx=>(f x).2.2.2) (er:=λx=>Go.Proofs.aH.yE (f x).1 (f x).2.1 (f x).2.2.1 (f x).2.2.2) (nr:=λx=>Go.Proofs.aH.Za (f x).1 (f x).2.1 (f x).2.2.1 (f x).2.2.2) (sl:=sl) P h0 D au B ab ae O9 aa O9 a2 (λx i=>⟨(y x i).1.k,(y x i).1.l,(y x i).1.d,(y x i).1.h⟩) (λx i=>by have:=Y9 (u:=yA W T o cp wk (λx=>(f x).1) (λx=>(f x).2.1) (λx=>(f x).2.2.1) (λx=>(f x).2.2.2)) (x:=x) (f x).1.data.toList (f x).2.1.data.toList (f x).2.2.1.data.toList rfl rfl rfl (y x i).1.lt;exact this)
 obtain⟨bg,af,a8,rfl⟩:=j.here;have bk:(w:Nat)<(wv:Nat):=F.size;refine HE (μ':=λb=>if b=(w:Nat)then some ((W:Nat)+2)else U b) (S':=λc=>S c\/c=(W:Nat)+4) pk F3 CY R O (λb g h=>?_) aI.func205 ?_ Tryz.func205 ?_ ?_ ag a9 ai af a8 ?_ ?_ r1 j.h0 j.lv j.HF ?_ ?_ ?_ ?_ ?_ ?_ ?_;.have:=(R.ok.lt _ _ h).1;simp only;rw[aX O9];exact h
 .rfl
 .rfl
 .decide+kernel
 .rw[dU];refine⟨rfl,rfl,(by show xI aI.prog 205=true;decide+kernel),?_⟩;obtain rfl|rfl:=R.kind<;>simp[held,Js]
 .intro Z r ah;have:=ah w ((W:Nat)+2) S8;have V:ym Z N N ((w:Nat),0)=bX Z ((w:Nat),0):=fP (by rw[r.gh];exact R.ok.low _ L9);simp[bC,Jr,V,bX,this,nU]
 .intro g C;have D:(W:Nat)+5<=(W':Nat):=j.L;obtain h|rfl:=C;.have:=B _ h;omega
  .omega
 .intro b g h z;split at h
  .cases h;obtain z|z:=z;.have:=B _ z;omega
   .omega
  .obtain z|rfl:=z;.exact J _ _ h z
   .have:=(R.ok.lt _ _ h).2;omega
 .have D:(W:Nat)+5<=(W':Nat):=j.L;refine⟨λa b g m v=>?_,λb g h=>?_,λb g h=>?_,λb bm=>R.ok.low b O9⟩
  .split at m<;>split at v;.omega
   .cases m;have:=(R.ok.lt _ _ v).2;omega
   .cases v;have:=(R.ok.lt _ _ m).2;omega
   .exact R.ok.inj _ _ _ m v
  .split at h;.cases h;omega
   .have:=R.ok.lt _ _ h;omega
  .split at h;.rename_i e;exact R.ok.low b O9
   .exact R.ok.real _ _ h
 .intro b g h;split at h
  .rename_i av;subst av;cases h;obtain⟨c2,a6,a7⟩:=j.pay;have π:W'.heap[(W:Nat)+2]?=some (.cells c2 38):=a6;have bp:c2.size=N:=a7;have hint:∀x,x<N->c2[x]?=c[x]?/\∃n,c[x]?=some (.int .i64 n):=λx i=>by
    have m:=j.has (x%wk) (by have:=I6 x aa;have:=Nat.mod_le x wk;omega) x ⟨i,rfl⟩;have v:W'.cell? ((W:Nat)+2,x)=c2[x]?:=by simp[World.cell?,π]
    have ao:W'.cell? ((W:Nat)+2,x)=some (Go.Proofs.aH.yE (f x).1 (f x).2.1 (f x).2.2.1 (f x).2.2.2):=m;exact⟨v.symm.trans (ao.trans (y x i).2.symm),_,(y x i).2⟩
   have az:c2=c:=by
    apply yl;intro x;by_cases i:x<N;.exact(hint x i).1
    .rw[I7 O9,I7 O9]
   refine⟨_,_,ay,π,rfl,λZ r bf=>?_⟩;simp only[dO];rw[az];congr 1;apply yl;intro x;rw[kW];by_cases i:x<N;.obtain⟨_,n,E⟩:=hint x i;rw[E];simp[bC]
   .rw[I7 O9];rfl
  .obtain⟨a4,a5,m,v,H,ar⟩:=R.obj _ _ h;have Q:=R.ok.lt _ _ h;have I:=j.low g ⟨by show g<(W:Nat)+5;omega,by show g≠(W:Nat)+2;omega,by show g≠(W:Nat)+4;omega,J _ _ h⟩;exact⟨a4,a5,(F.old b Q.1).trans m,(I.trans (CW A Q.2)).trans v,H,ar.ext λbb bc K=>by have:=(R.ok.lt _ _ K).1;rw[aX O9];exact K⟩
 .exact(congrArg Prod.fst (j.os.trans A.os)).trans (R.os.trans F.os.symm)
 .exact(F.tape.trans μ).trans (j.tape.trans A.tape).symm
 .have D:(W:Nat)+5<=(W':Nat):=j.L;have V:=s.size;refine⟨λb g h=>?_,O9,λg C E=>?_,λb g h C=>?_,(congrArg Prod.snd (j.os.trans A.os)).trans s.out,(congrArg Prod.fst (j.os.trans A.os)).trans s.os,λg h=>?_⟩;.have:=s.ext _ _ h;have:=(R.ok.lt _ _ this).1;rw[aX O9];exact s.ext _ _ h
  .have I:=j.low g ⟨by show g<(W:Nat)+5;omega,by show g≠(W:Nat)+2;omega,by show g≠(W:Nat)+4;omega,λe=>by have:=s.new _ e;omega⟩;exact(I.trans (CW A O9)).trans (s.rest g C E)
  .split at h;.cases h;omega
   .exact s.old _ _ h C
  .obtain h|rfl:=h;.exact s.new _ h
   .omega
end Go.Proofs.YtpjcmpfncpnmeaaGreat
namespace Go.Proofs.YtpjcmpfncpnmeaaGreat
open Go.Conc Go.Ren
def ab0{G}(μ₀:Nat->Option Nat)(W₀)(Post:Value->World->Prop):HR aI.X aI.prog Tryz.prog G μ₀ W₀ Post:=MP (HB μ₀ W₀ Post)
def meet{G μ₀ W₀ Post g w}(a:Tree aI.prog Post g w)(m t)(h:tu aI.X aI.prog Tryz.prog G μ₀ W₀ g w m t):Go.Ren.Ends Tryz.prog (Ba aI.prog G Post μ₀ W₀) m t:=Rv pk F3 CY (ab0 μ₀ W₀ Post) a m t h
end Go.Proofs.YtpjcmpfncpnmeaaGreat
namespace Go.Proofs.YtpjcmpfncpnmeaaGreat
open Go.ChangeShapes Go.WideShapes Go.ChangeAt Go.RowKit Go.Ren
def Tryz.Mz:Tryz.prog.cellsOf 3=1:=K8
def Ve:=@Tryz.Mz
def Tryz.JG:Tryz.prog.cellsOf 35=2:=K8
def Tryz.MA:Tryz.prog.bytesOf 3=8:=K8
def Tryz.JH:Tryz.prog.bytesOf 35=32:=K8
def qV{a}(h:(Lit.int .i64 a).wf=true):-9223372036854775808<=a/\a<9223372036854775808:=by have c:IntKind.i64.min=-9223372036854775808:=rfl;have b:IntKind.i64.max=9223372036854775807:=rfl;simp[Lit.wf]at h;omega
def JI{w:World}{a:Addr}{n cs}(h:w.cells? 0 (a.add 0) n=some cs)(d:0<n):∃b o,a=⟨b,o,none⟩:=by obtain⟨_,e,c⟩:=Ud h;have h0:=c 0 d;rw[cN O9]at h0;have:=World.cell?_spot h0;simp[Addr.add]at this;obtain⟨b,o,sp⟩:=a;exact⟨b,o,by simpa using this⟩
def F9{w:World}{b o n i cs}(h:w.cells? 0 (((b,o):Addr).add i) n=some cs):∀j,j<n->w.cell? ⟨b,o+i+j,none⟩=cs[j]?:=by obtain⟨_,e,a⟩:=Ud h;intro j c;rw[<-a j c];unfold Addr.add;by_cases hi:i=0<;>by_cases d:j=0<;>simp[hi,d]
def De{α:Type}(f:Nat->α)(n i x)(h:((List.range n).map f)[i]?=some x):i<n/\x=f i:=by grind
def tj{w a v}(h:w.cell? a=some v):dP w a.block:=by
 unfold World.cell? at h;split at h;.rename_i c t f e;exact⟨_,_,_,e⟩
 .cases h
def xe{w}{a:Addr}{n cs}(h:w.cells? 0 (a.add 0) n=some cs)(c:0<n):dP w a.block:=by obtain⟨_,d,b⟩:=Ud h;have h0:=b 0 c;rw[cN O9]at h0;have:=tj h0;simpa[Addr.add]using this
structure PE(W:World)(va:Option Addr)(vc:Nat)(xs:List Int):Prop where
 at_:xs.length≠0->∃b o,va=some ⟨b,o,none⟩/\∀(i:Nat) (y:Int),xs[i]?=some y->W.cell? ⟨b,o+i,none⟩=some (.int .i64 y)
 real:∀a,va=some a->dP W a.block\/(xs.length=0/\vc=0)
 xJ:∀x∈xs,-9223372036854775808<=x/\x<9223372036854775808
 len:xs.length<=140737488355328
structure MB(W:World)(sa:Option Addr)(sc:Nat)(l:List (Int×List Int)):Prop where
 at_:l≠[]->∃g o,sa=some ⟨g,o,none⟩/\∀(i:Nat) (x:Int×List Int),l[i]?=some x->∃va vc,W.cell? ⟨g,o+i*2,none⟩=some (.int .i64 x.1)/\W.cell? ⟨g,o+i*2+1,none⟩=some (.slice va x.2.length vc)/\PE W va vc x.2
 real:∀a,sa=some a->dP W a.block\/(l.length=0/\sc=0)
 len:l.length<=140737488355328
section
variable{H:Type}{enc:TypeId×Value->H}{w:World}{held:Bool}
def MC{fuel v x}(h:DataW.trod enc Tryz.prog w 0 (λ_=>true) held fuel 33 [v]=some x)(E:∀n∈x.1.weights Tryz.prog 33,n<=reachBytes):∃l t u,v=.slice t l.length u/\PE w t u l:=by
 obtain⟨c,_⟩|⟨a,len,cap,m,n,D,F,c,_,I,_,A,s,q⟩:=Go.Deep.open_slice Tryz.underlying33 h;.simp at c;exact⟨[],none,0,c,⟨λh=>absurd rfl h,λa e=>(by cases e),S8,S8⟩⟩
 .simp at c;subst A;have H:len*8<=140737488351232:=by have:=E ((((List.range len).map D).length+((List.range (m -len)).map λj=>D (len+j)).length)*Tryz.prog.bytesOf 3) (by rw[s];simp[DataW.weights]);rw[Tryz.MA]at this;simp[reachBytes]at this;omega
  rw[Ve]at q;have B:dP w a.block\/(len=0/\m=0):=by
   by_cases h0:0<m;.obtain⟨cs,c0,_⟩:=q 0 h0;exact .inl (xe (by simpa using c0) D9)
   .omega
  obtain⟨f,r⟩:=Go.Deep.choose_lt (α:=Int) (n:=len) (p:=λi d=>∃cs,w.cells? 0 (a.add (i*1)) 1=some cs/\cs=[.int .i64 d]/\(Lit.int .i64 d).wf=true) (λi hi=>by obtain⟨cs,y,g⟩:=q i O9;obtain⟨d,k,z⟩:=CK Tryz.underlying3 g;exact⟨d,cs,y,k,z.2⟩)
  refine⟨(List.range len).map f,some a,m,by simp[c],⟨λJ=>?_,λa' e=>by cases e;simpa using B,λx s=>?_,by simp;omega⟩⟩
  .have h0:0<len:=by
    obtain e|e:=wQ len;.simp_all
    .exact e
   obtain⟨G,c0,_⟩:=r 0 h0;obtain⟨b,o,rfl⟩:=JI (by simpa using c0) D9;refine⟨b,o,rfl,λi d k=>?_⟩;obtain⟨hi,rfl⟩:=De f len i d k;obtain⟨cs,c1,rfl,_⟩:=r i hi;have g:=F9 c1 0 D9;simpa using g
  .obtain⟨i,hi,rfl⟩:=jV.1 s;obtain⟨cs,_,_,C⟩:=r i (yq.1 hi);exact qV C
def uo{P e}:∀{l:List (DataW H)} {d:DataW H},d∈l->∀n∈d.weights P e,n∈DataW.weightsAll P e l
 |x::l,d,a,n,b=>by
   simp[DataW.weightsAll];obtain rfl|h:=gA.1 a;.simp_all
   .exact .inr (uo h n b)
def MD{fuel cs x}(h:DataW.trod enc Tryz.prog w 0 (λ_=>true) held fuel 35 cs=some x)(p:∀n∈x.1.weights Tryz.prog 35,n<=reachBytes):∃k l a b,cs=[.int .i64 k,.slice a l.length b]/\PE w a b l:=by
 obtain⟨q,y1,n,o,f,h0,d⟩:=trod_struct2 Tryz.underlying35 h;match cs,f with
 |[c0,c1],_=>simp[Ve]at h0 d;obtain⟨i,c,_⟩:=CK Tryz.underlying3 h0;simp at c;obtain⟨l,a,b,j,e⟩:=MC d (λm g=>p m (by rw[o];simp[DataW.weights,DataW.weightsEach,g]));exact⟨i,l,a,b,by rw[c,j],e⟩
def JJ{fuel v x}(h:DataW.trod enc Tryz.prog w 0 (λ_=>true) held fuel 27 [v]=some x)(y:∀n∈x.1.weights Tryz.prog 27,n<=reachBytes):∃(l:List (Int×List Int)) (z:Option Addr) (A:Nat),v=.slice z l.length A/\MB w z A l:=by
 obtain⟨q,_⟩|⟨a,len,cap,m,n,D,J,q,_,L,_,F,u,s⟩:=Go.Deep.open_slice Tryz.underlying27 h;.simp at q;exact⟨[],none,0,q,⟨λh=>absurd rfl h,λa e=>(by cases e),S8⟩⟩
 .simp at q;subst F;have K:len*32<=140737488351232:=by have:=y ((((List.range len).map D).length+((List.range (m -len)).map λj=>D (len+j)).length)*Tryz.prog.bytesOf 35) (by rw[u];simp[DataW.weights]);rw[Tryz.JH]at this;simp[reachBytes]at this;omega
  have I:∀i,i<len->∀n∈(D i).weights Tryz.prog 35,n<=reachBytes:=λi hi n G=>y n (by rw[u];simp[DataW.weights];exact .inr (.inl (uo (jV.2 ⟨i,yq.2 hi,rfl⟩) n G)))
  rw[Tryz.JG]at s;have H:dP w a.block\/(len=0/\m=0):=by
   by_cases h0:0<m;.obtain⟨cs,c0,_⟩:=s 0 h0;exact .inl (xe (by simpa using c0) D9)
   .omega
  obtain⟨f,t⟩:=Go.Deep.choose_lt (α:=Int×List Int) (n:=len) (p:=λi d=>∃c g,w.cells? 0 (a.add (i*2)) 2=some [↑d.1,.slice c d.2.length g]/\PE w c g d.2) (λi hi=>by obtain⟨cs,B,C⟩:=s i O9;obtain⟨k,l,c,g,rfl,r⟩:=MD C (I i hi);exact⟨(k,l),c,g,B,r⟩)
  refine⟨(List.range len).map f,some a,m,by simp[q],⟨λM=>?_,λa' e=>by cases e;simpa using H,by simp;omega⟩⟩;have h0:0<len:=by grind
  obtain⟨N,O,c0,_⟩:=t 0 h0;obtain⟨b,o,rfl⟩:=JI (by simpa using c0) D9;refine⟨b,o,rfl,λi d E=>?_⟩;obtain⟨hi,rfl⟩:=De f len i d E;obtain⟨c,g,c1,r⟩:=t i hi;have:=F9 c1;exact⟨c,g,this 0 D9,this 1 D9,r⟩
end
section
variable{G:Gs}{W w:World}{args lJ:Array Value}
def xK(S:Go.Ren.Start G W w args lJ){b o v}(h:W.cell? (b,o)=some v)(d:kp (dP W) v):w.cell? ⟨b,o,none⟩=some v:=by
 obtain⟨cs,t,f,a⟩:=tj h;obtain⟨i,e,_,g,_⟩:=S.cells b cs t f a;have c:cs[o]?=some v:=by simpa[World.cell?,a]using h
 simpa[World.cell?,e]using g o v c d
def JK(S:Go.Ren.Start G W w args lJ){b o a}(h:W.cell? (b,o)=some (.slice (some a) 0 0)):∃a',w.cell? ⟨b,o,none⟩=some (.slice (some a') 0 0):=by
 obtain⟨cs,t,f,c⟩:=tj h;obtain⟨j,g,_,_,i⟩:=S.cells b cs t f c;have d:cs[o]?=some (.slice (some a) 0 0):=by simpa[World.cell?,c]using h
 obtain⟨a',e⟩:=i o a d;exact⟨a',by simpa[World.cell?,g]using e⟩
def JL(S:Go.Ren.Start G W w args lJ){i:Nat}{l m C}(h:args[i]?=some (.slice m l.length C))(D:MB W m C l):∃F,lJ[i]?=some (.slice F l.length C)/\Go.Proofs.aH.uV w w F l:=by
 have P:=S.size;by_cases r:∀a,m=some a->dP W a.block
 .refine⟨m,S.PF i _ h ?_,⟨λv=>?_⟩⟩;.cases m with
   |none=>trivial
   |some a=>exact r a rfl
  .obtain⟨g,o,rfl,N⟩:=D.at_ v;have L:=(r _ rfl).lt;simp only at L;refine⟨g,o,O9,rfl,λj x M=>?_⟩;obtain⟨c,n,I,s,q⟩:=N j x M;have fin:∀p,w.cell? (g,o+j*2+1)=some (.slice p x.2.length n)->(x.2.length≠0->p=c)->∃c n,w.cell? (g,o+j*2)=some ↑x.1/\w.cell? (g,o+j*2+1)=some (.slice c x.2.length n)/\Go.Proofs.aH.nW ↑w w (.slice c x.2.length n) x.2:=λp u K=>by
    refine⟨p,n,xK S I trivial,u,⟨⟨p,n,rfl,λf=>?_⟩,q.xJ,q.len⟩⟩;obtain⟨b,o',J,E⟩:=q.at_ f;refine⟨b,o',?_,(K f).trans J,λk y B=>xK S (E k y B) trivial⟩;have:∃y,x.2[0]?=some y:=by cases O:x.2 with
     |nil=>rw[O]at f;exact absurd rfl f
     |cons y t=>exact⟨y,rfl⟩
    obtain⟨y,B⟩:=this;have:=(tj (E 0 y B)).lt;simp only at this;omega
   by_cases A:∀a,c=some a->dP W a.block
   .refine fin c (xK S s ?_) λ_=>rfl;cases c with
    |none=>trivial
    |some a=>exact A a rfl
   .cases c with
    |none=>exact absurd (λa e=>by cases e) A
    |some a=>
      have z:¬dP W a.block:=λh=>A λa' e=>by cases e;exact h
      obtain⟨d,rfl⟩:=(q.real a rfl).resolve_left z;rw[d]at s;obtain⟨a',u⟩:=JK S s;exact fin (some a') (by rw[d];exact u) λf=>absurd d f
 .cases m with
  |none=>exact absurd (λa e=>by cases e) r
  |some a=>
    have z:¬dP W a.block:=λh=>r λa' e=>by cases e;exact h
    obtain⟨d,rfl⟩:=(D.real a rfl).resolve_left z;rw[d]at h;obtain⟨a',H⟩:=S.adl i a h;refine⟨some a',by rw[d];exact H,⟨λv=>absurd ?_ v⟩⟩;exact se d
end
end Go.Proofs.YtpjcmpfncpnmeaaGreat
namespace Go
open Go.Conc Go.ConcM
def af1:=@Input.okWide_of_okWideB
section
variable{H:Type}{enc:TypeId×Value->H}
def OpenSpec.afB{C:Checked}{os:Os}{f:FuncId}{fn:Func}{s:OpenSpec}{k:(H:Type)->List (DataW H)->Bool}(hk:s.cond=some k){conds:List PathCond}{apart:Bool}(i:Input)(fuel:Nat)(hv:(World.plainHolding C.prog os i).variablesB C.prog=true)
    (hr:((World.plainHolding C.prog os i).heap.toList.drop C.prog.globals.size).take ((begin C.prog (λ_ _=>0) default).world.heap.size -C.prog.globals.size)=(begin C.prog (λ_ _=>0) default).world.heap.toList.drop C.prog.globals.size)
    (hok:Input.okWideB C.prog (World.plainHolding C.prog os i) f ⟨#[],i.args,[]⟩=true)
    {x:List (DataW H)×List (DataW H)×List MemPlace}(hx:DataW.whole enc C.prog (World.plainHolding C.prog os i).memory fn.params.toList s.vars apart i.args.toList fuel=some x)
    (hconds:conds.all (PathCond.test C.prog ⟨fn.params.toList,x.1,s.bare.plain.varTypes C.prog,x.2.1⟩)=true)(hkk:k H (x.1++x.2.1)=true)
    (hsz:s.bare.sizedB enc C.prog fn apart (World.plainHolding C.prog os i).memory i.args fuel=true:=by kernel_rfl):
    ∃(w:World) (tape:Tape) (i:Input),w.os=os/\(w.forCall tape i).Shaped C.prog/\i.vars=[]/\Input.okWide C.prog (w.forCall tape i) .any w.heap.size f i/\s.pre6 enc C.prog fn conds apart (w.forCall tape i).memory i.args/\({calm:=true}:Assume).holds C.prog (lone (Frame.enter C.prog f i.args .normal) [] (w.forCall tape i)):=by
  have hw:=(af1 (base:=0) hok).1;refine⟨World.holding C.prog os i,λ_ _=>0,⟨#[],i.args,[]⟩,rfl,World.shaped_of_B hv hr,hw,(af1 hok).2,⟨(OpenSpec.pre_some hk conds apart _ _).2 ⟨x.1,x.2.1,x.2.2,DataW.Whole_of_whole hx,hconds,hkk⟩,sizedMet_of_sizedB hsz⟩,?_⟩;simp only[Assume.holds];exact⟨by simp,λ_ _ _ _=>rfl,by simp,by simp,by simp⟩
def aeL{a:Assume}{C:Checked}{os:Os}{f:FuncId}{fn:Func}{cs:ChangeSpec}{s:OpenSpec}{k:(H:Type)->List (DataW H)->Bool}(hk:s.cond=some k)(hv:s.vars=cs.vars)(hb:s.bare.plain.varTypes C.prog=cs.plain.varTypes C.prog){F:Stop.Interp}{conds:List PathCond}{apart fresh handsOn:Bool}(hpw:s.postWith enc C.prog fn F (outsideKept [.timePasses]) apart fresh handsOn=(OpenSpec.ofChange cs).postWith enc C.prog fn F (outsideKept [.timePasses]) apart fresh handsOn)
    (own:ownKnob C.prog.godebug=none)(started:os.Started)(hfn:C.prog.funcs[f]?=some fn)
    (witness:∃(w:World) (tape:Tape) (i:Input),w.os=os/\(w.forCall tape i).Shaped C.prog/\i.vars=[]/\Input.okWide C.prog (w.forCall tape i) .any w.heap.size f i/\s.pre6 enc C.prog fn conds apart (w.forCall tape i).memory i.args/\a.holds C.prog (lone (Frame.enter C.prog f i.args .normal) [] (w.forCall tape i)))
    (runs:∀(W:World) (base:Nat) (args:Array Value) (ds gs:List (DataW H)) (before:List MemPlace),(∀(j:Nat) t v,fn.params[j]?=some t->args[j]?=some v->Value.okWide C.prog W .any base t v)->
      DataW.Whole enc C.prog fn.params.toList cs.vars apart W args.toList ds gs before->
      k H (ds++gs)=true->
      (DataW.weightsEach C.prog (fn.params.toList++cs.plain.varTypes C.prog) (ds++gs)).all (·<=reachBytes)=true->
      ∃M last o w' t',runNT C.prog (M+1) (solo (G (Frame.enter C.prog f args .normal) []) W) #[]=(.ended o w',t')/\runN C.prog M (solo (G (Frame.enter C.prog f args .normal) []) W)=.next last/\step C.prog last=.ended o w'/\Conc.Good C.prog (λv W'=>cs.post enc C.prog fn apart fresh handsOn false W args v {W' with os:=W.os}/\OsLater W.os W'.os) last o w' t'):
    ReturnsInLeavingWide a C os f .any (s.pre6 enc C.prog fn conds apart) (s.postWith enc C.prog fn F (outsideKept [.timePasses]) apart fresh handsOn):=by
  refine returnsInLeavingWide_of_good own started witness ?_;intro w tape i _ _ _ hok hpre hholds;obtain⟨_,_,_,fn',hfn',_,_,_,_,hval⟩:=hok;have e:fn'=fn:=kX (hfn'.symm.trans hfn);subst e;obtain⟨ds,gs,before,hw,_,hkk⟩:=(OpenSpec.pre_some hk conds apart _ _).1 hpre.1;have hz:=hpre.2.weights hw;rw[hb]at hz;rw[hv]at hw;have hw':=DataW.Whole.of_heap (w':=w.forCall tape i) (by rfl) hw;obtain⟨M,last,o,w',t',h1,h2,h3,h4⟩:=runs (w.forCall tape i) w.heap.size i.args ds gs before hval hw' hkk hz;obtain⟨v,e,hp,r1,r2,r3,r4⟩:=h4;rw[hpw];exact⟨M,last,o,w',t',h1,h2,h3,v,e,postWith_blind (postWith_of_post hp.1 hp.2),r1,r2,r3,r4⟩
end
def OpenClaim.Ro{p:Pinned}{s:OpenSpec}{c:OpenClaim}(f:FuncId)(fn:Func)(hn:c.program=p.name)(hs:c.sum=p.sum)(hsp:c.spec=s.name)
    (hstart:c.start=.entering)(hout:c.outside=[.timePasses])(hin:c.inits=[])(hun:c.under=none)(hi4:c.initsInPlace=[]/\c.initsUnfollowed=false/\c.initsRecurse=false/\c.initsNamed=[]/\c.initsPassed=[])(hnb:c.noBlocks=false)(hlv:c.leaving=true)(hfo:c.followed=none)(hnar:c.narrowed=s.cond.isSome)(hstill:c.still=false)
    (hfn:p.checked.prog.funcNamed c.func=some f)(hf:p.checked.prog.funcs[f]?=some fn)
    (closed:joinedFacts p.checked.prog f fn s.bare c=true)
    (hinst:fn.isInstance p.checked.prog c.origin c.targs)(hwrap:fn.isWrapper p.checked.prog c.wrapper c.mainSum)
    (h:∀os:Os,os.Started->∀(H:Type) (enc:TypeId×Value->H),(∀a b,enc a=enc b->a=b)->∀F:Stop.Interp,ReturnsInLeavingWide c.assume p.checked os f .any (c.pre enc p.checked.prog fn s) (s.postWith enc p.checked.prog fn F (outsideKept [.timePasses]) c.apart c.fresh c.handsOn)):c.holds p s:=by
  simp only[joinedFacts,dJ,uM,AW,AV,wW]at closed;obtain⟨⟨⟨⟨⟨⟨⟨⟨⟨⟨⟨⟨⟨⟨⟨⟨⟨⟨⟨⟨⟨⟨⟨⟨⟨⟨⟨⟨⟨⟨⟨k1,k2⟩,k3⟩,k4⟩,k5⟩,k6⟩,k7⟩,k8⟩,k9⟩,k10⟩,k11⟩,k12⟩,k13⟩,k14⟩,k15⟩,k16⟩,k17⟩,k17b⟩,k18⟩,k19⟩,k20⟩,k21⟩,k22⟩,k23⟩,k23b⟩,k24⟩,k24b⟩,k24c⟩,k25⟩,k26⟩,k27⟩,k28⟩:=closed;have hq:∀os:Os,Stop.quiet p.checked.prog os:=λos k hk=>by rw[k9]at hk;cases hk
  refine⟨k1,hn,hs,hsp,k2,k3,by unfold OpenClaim.startFits;rw[hstart];exact k24,by unfold OpenClaim.startTold;rw[hstart];exact⟨hin,hun,hi4⟩,f,fn,hfn,hf,⟨k4,k19⟩,(λhb=>by rw[hnb]at hb;cases hb),by unfold OpenClaim.namedList;rw[hfo];exact k5,hinst,hwrap,k6.trans k7.symm,⟨k8.trans k9.symm,by unfold Program.envWorded;rw[k9];rfl,k23b⟩,k10,k11,k12,k13,k14,⟨k15,k27,k28⟩,⟨k16,k20⟩,⟨k17,k21,k25,k26⟩,⟨k22,k24b,k24c,k17b⟩,(by rw[hout,hnar];cases hsh:c.shortTexts with|none=>(cases s.cond<;>rfl)|some _=>rw[hsh]at k23;cases k23),λn hn'=>varReadable_some (k18 n hn'),
    ⟨_,by unfold OpenClaim.world;rw[hout,hstart];exact⟨WideRow.started_initial,λo ho=>by simp at ho;subst ho;trivial⟩,hq _⟩,[],by unfold OpenClaim.lists;rw[hfo],λos st _ H enc inj=>?_⟩
  have st':os.Started:=by unfold OpenClaim.world at st;rw[hout,hstart]at st;exact st.1
  rw[OpenClaim.post_not_still hstill];unfold OpenClaim.form;rw[hstart,k6];intro F;have e1:c.okInput=Input.okWide:=by unfold OpenClaim.okInput;rw[hnb]
  have e2:c.atReturn p.checked.prog=leavingAtReturn p.checked.prog:=by unfold OpenClaim.atReturn;rw[hlv]
  have e3:c.always p.checked.prog []=nothingAlways:=by unfold OpenClaim.always;rw[hfo]
  have e4:s.post enc p.checked.prog fn F c.outside c.apart c.fresh c.handsOn c.again=s.postWith enc p.checked.prog fn F (outsideKept [.timePasses]) c.apart c.fresh c.handsOn:=by rw[hout];rfl
  rw[e1,e2,e3];show ReturnsInOpen _ _ _ _ _ _ _ _ (s.post enc p.checked.prog fn F c.outside c.apart c.fresh c.handsOn c.again) _ _;rw[e4];exact h os st' H enc inj F k24
end Go
