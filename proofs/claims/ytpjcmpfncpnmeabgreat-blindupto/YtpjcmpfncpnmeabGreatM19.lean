import Derived.Conc.HoldsTime
import Derived.JoinedCond
import Derived.Test.YtpjcmpfncpnmeabGreatM06
import Derived.Test.YtpjcmpfncpnmeabGreatM12
set_option linter.all false
namespace Go.Proofs.YtpjcmpfncpnmeabGreat
open Go.Conc Go.Ren
def Ek(Z k l d h):(#[.string k,.string l,.string d,.int .i64 h]:Array Value).map (bB Z)=#[↑k,↑l,↑d,↑h]:=by simp
def afE(h:gH.X 165):False:=by revert h;unfold gH.X aI.X aI.code;decide
def adr(h:aI.X0 165):False:=by revert h;unfold aI.X0;decide
def Xl(k l d h)(j:h<9223372036854775808)(w):Tree gH.prog (λv _=>v=.tuple #[(Go.Proofs.aH.yn (Go.Proofs.aH.nS k l d h)).1,(Go.Proofs.aH.yn (Go.Proofs.aH.nS k l d h)).2]) (cA gH.prog 165 #[(Go.Proofs.aH.mk k),(Go.Proofs.aH.mk l),(Go.Proofs.aH.mk d),h] .normal []) w:=by
 refine zo (G:=Gs.self) (U:=λ_=>none) (aS:=λv _=>v=.tuple #[(Go.Proofs.aH.yn (Go.Proofs.aH.nS k l d h)).1,(Go.Proofs.aH.yn (Go.Proofs.aH.nS k l d h)).2]) rfl (@aI.adX gH.vb _) (@aI.Xm gH.vb _) (@aI.Tc gH.vb) (λf h=>ads f (by obtain rfl:=h;rfl)) ⟨⟨s6 (@aI.Tc gH.vb) adr _ (.inl rfl),rfl,rfl,rfl,rfl,rfl⟩,⟨λ_ _ _ h=>(by cases h),λ_ _ h=>(by cases h),λ_ _ h=>(by cases h),λ_ _=>rfl⟩,λ_ _ h=>(by cases h),rfl,λZ _ _=>?_⟩ (λt=>?_) (λv w' o W' p m _ ok _ n=>?_);.simp[oN,cA];rw[qh,Ek]
 .have g:=letI:=gH.vb;Go.Proofs.aH.I4 k l d h {w with tape:=t,drawn:=0} j;have⟨N,v,w',a,b⟩:=Calls.done (R:=λv _=>v=.tuple #[(Go.Proofs.aH.yn (Go.Proofs.aH.nS k l d h)).1,(Go.Proofs.aH.yn (Go.Proofs.aH.nS k l d h)).2]) (g.mono λe w' i=>by obtain⟨rfl,_⟩:=i;rfl) (by have:=((@aI.Tc gH.vb).ok 165 adr).2;simpa[xu]using this)
  exact⟨N,v,w',a,b⟩
 .have⟨Z,r,c⟩:=ok.one;rw[n Z r c,m];simp[bB]
def abf{u x}(k l d)(p:u.key x=Go.Proofs.aH.mk k)(q:u.lock x=Go.Proofs.aH.mk l)(n:u.id x=Go.Proofs.aH.mk d)(o:u.aY x<9223372036854775808):ym u x (Go.Proofs.aH.yn (Go.Proofs.aH.nS k l d (u.aY x))).1 (Go.Proofs.aH.yn (Go.Proofs.aH.nS k l d (u.aY x))).2:=by
 intro tl W t w;rw[p,q,n];have j:=Xl k l d (u.aY x) o {W with heap:=#[]};have a:=Gy (P:=Tryz.prog) (tl:=tl) (G:=Gs.self) (@aI.fit gH.vb _) (@aI.calls gH.vb _) (@aI.kin gH.vb) ads t j (λ_=>none) (cA Tryz.prog 165 #[(Go.Proofs.aH.mk k),(Go.Proofs.aH.mk l),(Go.Proofs.aH.mk d),(u.aY x)] .normal tl) W ⟨⟨s6 (@aI.kin gH.vb) afE _ (.inl rfl),rfl,rfl,rfl,rfl,rfl⟩,⟨λ_ _ _ h=>(by cases h),λ_ _ h=>(by cases h),λ_ _ h=>(by cases h),λ_ _=>rfl⟩,λ_ _ h=>(by cases h),rfl,λZ _ _=>?_⟩ rfl
 .have s:range (λ_=>none)=λ_=>False:=by funext c;exact propext ⟨λ⟨_,h⟩=>(by cases h),False.elim⟩
  rw[s]at a;refine a.mono λB g W m=>?_;obtain⟨v,y,w',W',ES,μ',b,e,rfl,f,i⟩:=m;have⟨Z,r,c⟩:=i.one;refine⟨W',ES,?_,e⟩;rw[b,f Z r c];simp[bB]
 .simp[oN,cA];rw[qh,Ek,(@aI.kin gH.vb).same 165 afE]
open Go.ConcN
structure TrP(W:World)(T o x:Nat)(r:ByteArray×ByteArray×ByteArray×Int):Prop where
 k:W.cell? ⟨T,o+x*4,none⟩=some (.string r.1)
 l:W.cell? ⟨T,o+x*4+1,none⟩=some (.string r.2.1)
 d:W.cell? ⟨T,o+x*4+2,none⟩=some (.string r.2.2.1)
 h:W.cell? ⟨T,o+x*4+3,none⟩=some (.int .i64 r.2.2.2)
 lt:r.2.2.2<9223372036854775808
def Ou{V G U w W}(h:Tw V G U w W){b c off s}(e:U b=some c)(f:w.cell? (b,off)=some (.string s)):W.cell? ⟨c,off,none⟩=some ↑s:=by have⟨g,a,d⟩:=h.cell e f;have⟨Z,r,cp⟩:=h.ok.one;rw[a,d Z r cp];simp[bB]
def given{G U args s k cs y w W p}{N cp wk:Nat}{c:Array Value}{S:Nat->Prop}(R:C9 aI.X Vp Tryz.prog G U 155 args k cs w s y W)(D:w.tape=W.tape)(C:∀b c,U b=some c->¬S c)(t:args[0]?=some (.slice p N cp))(z:args[1]?=some (.int .i64 wk))
 (v:∀x,x<N->∃T o k l d n,p=some ⟨T,o,none⟩/\Go.Proofs.aH.zq w T o x k l d n/\c[x]?=some ↑(Go.Proofs.aH.zr k l d n)):
 s[1]?=some (.int .i64 wk)/\∃(p':Option Addr) (T o:Nat) (f:Nat->ByteArray×ByteArray×ByteArray×Int),s[0]?=some (.slice p' N cp)/\(0<N->p'=some ⟨T,o,none⟩/\T<W/\¬S T)/\∀x,x<N->TrP W T o x (f x)/\c[x]?=some ↑(Go.Proofs.aH.zr (f x).1 (f x).2.1 (f x).2.2.1 (f x).2.2.2):=by
 have q:Tw Vp G U w W:=⟨R.ok,R.obj,R.os,D⟩;refine⟨?_,?_⟩;.have⟨Z,r,i⟩:=R.ok.one;rw[(R.g Z r i).1,kW,z];simp[bB]
 cases p with
 |none=>
   have hN:¬0<N:=λh=>by obtain⟨T,o,_,_,_,_,j,_⟩:=v 0 h;cases j
   refine⟨none,0,0,λ_=>(⟨#[]⟩,⟨#[]⟩,⟨#[]⟩,0),?_,λh=>absurd h hN,λx h=>absurd (VX (fJ _) h) hN⟩;have⟨Z,r,i⟩:=R.ok.one;rw[(R.g Z r i).1,kW,t];simp[bB]
 |some a=>
   by_cases hN:N=0;.subst hN;have⟨Z,r,i⟩:=R.ok.one;refine⟨La Z (some a) 0 cp,0,0,λ_=>(⟨#[]⟩,⟨#[]⟩,⟨#[]⟩,0),?_,λh=>absurd h O9,λx h=>absurd h O9⟩;rw[(R.g Z r i).1,kW,t];simp[bB]
   have⟨b,e,u⟩:=R.slice t hN;have:∀x,∃r:ByteArray×ByteArray×ByteArray×Int,x<N->TrP W b a.off x r/\c[x]?=some ↑(Go.Proofs.aH.zr r.1 r.2.1 r.2.2.1 r.2.2.2):=λx=>by
    by_cases h:x<N;.have⟨T,o,k,l,d,n,j,m,A⟩:=v x h;cases j;exact⟨(k,l,d,n),λ_=>⟨⟨Ou q e m.k,Ou q e m.l,Ou q e m.d,q.int e m.h,m.lt⟩,A⟩⟩
    .exact⟨(⟨#[]⟩,⟨#[]⟩,⟨#[]⟩,0),λu=>absurd u h⟩
   have⟨f,B⟩:=Classical.axiomOfChoice this;refine⟨some {a with block:=b},b,a.off,f,u,λh=>⟨?_,(R.ok.lt _ _ e).2,C _ _ e⟩,B⟩;have⟨T,o,_,_,_,_,j,_⟩:=v 0 h;cases j;rfl
def I5{G}(μ0:Nat->Option Nat)(W0)(aS:Value->World->Prop):rK aI.X Vp Tryz.prog G μ0 W0 aS 155:=by
 intro args ba k cs bd w W U gs sl t q S R O μ h0 D au B J s;have P:(gN 155 k).kind≠.early:=by obtain rfl|rfl:=R.kind<;>simp[gN]
 have a3:∀p n c a,args[0]?=some (.slice p n c)->p=some a->0<n->∃Y,w.heap[a.block]?=some Y/\cJ Vp Y=true:=λp n c a h0 a0 E=>by subst a0;have⟨b,B,_⟩:=R.slice h0 O9;have⟨o,o',m,_,H,_⟩:=R.obj _ _ B;exact⟨o,m,H⟩
 have⟨p,N,cp,wk,aj,ak,aa,bq,br,frV,wv,ag,a9,ai,F,c,ay,bo,i⟩:=Go.Proofs.aH.afF P O a3;have⟨ae,p',T,o,f,ab,a2,y⟩:=given R μ J aj ak i;have⟨M,bu,bj,W',bs,a',q',W1,r1,A,j⟩:=afC (T:=T) (o:=o) (key:=λx=>(f x).1) (lock:=λx=>(f x).2.1) (id:=λx=>(f x).2.2.1) (aY:=λx=>(f x).2.2.2) (er:=λx=>Go.Proofs.aH.zr (f x).1 (f x).2.1 (f x).2.2.1 (f x).2.2.2) (nr:=λx=>Go.Proofs.aH.abg (f x).1 (f x).2.1 (f x).2.2.1 (f x).2.2.2) (sl:=sl) P h0 D au B ab ae O9 aa O9 a2 (λx i=>⟨(y x i).1.k,(y x i).1.l,(y x i).1.d,(y x i).1.h⟩) (λx i=>by have:=abf (u:=zm W T o cp wk (λx=>(f x).1) (λx=>(f x).2.1) (λx=>(f x).2.2.1) (λx=>(f x).2.2.2)) (x:=x) (f x).1.data.toList (f x).2.1.data.toList (f x).2.2.1.data.toList rfl rfl rfl (y x i).1.lt;exact this)
 obtain⟨bg,af,a8,rfl⟩:=j.here;have bk:=F.size;refine I6 (μ':=λb=>if b=(w:Nat)then some ((W:Nat)+2)else U b) (S':=λc=>S c\/c=(W:Nat)+4) pF Hm Ed R O (λb g h=>?_) aI.func155 ?_ Tryz.func155 ?_ ?_ ag a9 ai af a8 ?_ ?_ r1 j.h0 j.lv j.I7 ?_ ?_ ?_ ?_ ?_ ?_ ?_;.have:=(R.ok.lt _ _ h).1;simp only;rw[aT O9];exact h
 .rfl
 .rfl
 .decide+kernel
 .rw[eB];refine⟨rfl,rfl,(by show xu Vp 155=true;decide+kernel),?_⟩;obtain rfl|rfl:=R.kind<;>simp[held,Lb]
 .intro Z r ah;have:=ah w ((W:Nat)+2) S8;have V:yZ Z N N ((w:Nat),0)=cC Z ((w:Nat),0):=fE (by rw[r.gh];exact R.ok.low _ L9);simp[bB,La,V,cC,this,nQ]
 .intro g C;have D:(W:Nat)+5<=(W':Nat):=j.L;obtain h|rfl:=C;.have:=B _ h;omega
  .omega
 .intro b g h z;split at h
  .cases h;obtain z|z:=z;.have:=B _ z;omega
   .omega
  .obtain z|rfl:=z;.exact J _ _ h z
   .have:=(R.ok.lt _ _ h).2;omega
 .have D:(W:Nat)+5<=(W':Nat):=j.L;refine⟨λa b g m v=>?_,λb g h=>?_,λb g h=>?_,λb bm=>R.ok.low b O9⟩
  .split at m<;>split at v;.omega
   .cases m;have:=(R.ok.lt _ _ v).2;omega
   .cases v;have:=(R.ok.lt _ _ m).2;omega
   .exact R.ok.inj _ _ _ m v
  .split at h;.cases h;omega
   .have:=R.ok.lt _ _ h;omega
  .split at h;.rename_i e;exact R.ok.low b O9
   .exact R.ok.real _ _ h
 .intro b g h;split at h
  .rename_i av;subst av;cases h;have⟨c2,a6,a7⟩:=j.pay;have π:W'.heap[(W:Nat)+2]?=some (.cells c2 45):=a6;have bp:c2.size=N:=a7;have hint:∀x,x<N->c2[x]?=c[x]?/\∃n,c[x]?=some (.int .i64 n):=λx i=>by
    have m:=j.has (x%wk) (by have:=Kg x aa;have:=Nat.mod_le x wk;omega) x ⟨i,rfl⟩;have v:W'.cell? ((W:Nat)+2,x)=c2[x]?:=by simp[World.cell?,π]
    have ao:W'.cell? ((W:Nat)+2,x)=some (Go.Proofs.aH.zr (f x).1 (f x).2.1 (f x).2.2.1 (f x).2.2.2):=m;exact⟨v.symm.trans (ao.trans (y x i).2.symm),_,(y x i).2⟩
   have az:c2=c:=by
    apply yY;intro x;by_cases i:x<N;.exact(hint x i).1
    .rw[Kh O9,Kh O9]
   refine⟨_,_,ay,π,rfl,λZ r bf=>?_⟩;simp only[dK];rw[az];congr 1;apply yY;intro x;rw[kW];by_cases i:x<N;.have⟨_,n,E⟩:=hint x i;rw[E];simp[bB]
   .rw[Kh O9];rfl
  .have⟨a4,a5,m,v,H,ar⟩:=R.obj _ _ h;have Q:=R.ok.lt _ _ h;have I:=j.low g ⟨by show g<(W:Nat)+5;omega,by show g≠(W:Nat)+2;omega,by show g≠(W:Nat)+4;omega,J _ _ h⟩;exact⟨a4,a5,(F.old b Q.1).trans m,(I.trans (Ej A Q.2)).trans v,H,ar.ext λbb bc K=>by have:=(R.ok.lt _ _ K).1;rw[aT O9];exact K⟩
 .exact(congrArg Prod.fst (j.os.trans A.os)).trans (R.os.trans F.os.symm)
 .exact(F.tape.trans μ).trans (j.tape.trans A.tape).symm
 .have D:(W:Nat)+5<=(W':Nat):=j.L;have V:=s.size;refine⟨λb g h=>?_,O9,λg C E=>?_,λb g h C=>?_,(congrArg Prod.snd (j.os.trans A.os)).trans s.out,(congrArg Prod.fst (j.os.trans A.os)).trans s.os,λg h=>?_⟩;.have:=s.ext _ _ h;have:=(R.ok.lt _ _ this).1;rw[aT O9];exact s.ext _ _ h
  .have I:=j.low g ⟨by show g<(W:Nat)+5;omega,by show g≠(W:Nat)+2;omega,by show g≠(W:Nat)+4;omega,λe=>by have:=s.new _ e;omega⟩;exact(I.trans (Ej A O9)).trans (s.rest g C E)
  .split at h;.cases h;omega
   .exact s.old _ _ h C
  .obtain h|rfl:=h;.exact s.new _ h
   .omega
def aei{G}(μ0:Nat->Option Nat)(W0)(aS:Value->World->Prop):Je aI.X Vp Tryz.prog G μ0 W0 aS:=OJ (I5 μ0 W0 aS)
def meet{G μ0 W0 aS g w}(a:Tree Vp aS g w)(m t)(h:tX aI.X Vp Tryz.prog G μ0 W0 g w m t):Go.Ren.Ends Tryz.prog (Cj Vp G aS μ0 W0) m t:=TH pF Hm Ed (aei μ0 W0 aS) a m t h
end Go.Proofs.YtpjcmpfncpnmeabGreat
namespace Go
open Go.Conc Go.ConcM
section
variable{H:Type}{enc:TypeId×Value->H}
def OpenSpec.WV{C:Checked}{os f fn}{s:OpenSpec}{k}(c:s.cond=some k){conds apart}(i fuel)(g:(World.plainHolding C.prog os i).variablesB C.prog=true)
 (hr:((World.plainHolding C.prog os i).heap.toList.drop C.prog.globals.size).take ((begin C.prog (λ_ _=>0) default).world.heap.size -C.prog.globals.size)=(begin C.prog (λ_ _=>0) default).world.heap.toList.drop C.prog.globals.size)
 (a:Input.okWideB C.prog (World.plainHolding C.prog os i) f ⟨#[],i.args,[]⟩=true)
 {x}(j:DataW.whole enc C.prog (World.plainHolding C.prog os i).memory fn.params.toList s.vars apart i.args.toList fuel=some x)
 (b:conds.all (PathCond.test C.prog ⟨fn.params.toList,x.1,s.bare.plain.varTypes C.prog,x.2.1⟩)=true)(d:k H (x.1++x.2.1)=true)
 (e:s.bare.sizedB enc C.prog fn apart (World.plainHolding C.prog os i).memory i.args fuel=true:=by kernel_rfl):
 ∃(w:World) (tape:Tape) (i:Input),w.os=os/\(w.forCall tape i).Shaped C.prog/\i.vars=[]/\Input.okWide C.prog (w.forCall tape i) .any w f i/\s.pre6 enc C.prog fn conds apart (w.forCall tape i).memory i.args/\({calm:=true}:Assume).holds C.prog (lone (Frame.enter C.prog f i.args .normal) [] (w.forCall tape i)):=by
 have h:=(ac6 (base:=0) a).1;refine⟨World.holding C.prog os i,λ_ _=>0,⟨#[],i.args,[]⟩,rfl,World.shaped_of_B g hr,h,(ac6 a).2,⟨(OpenSpec.pre_some c conds apart _ _).2 ⟨x.1,x.2.1,x.2.2,DataW.Whole_of_whole j,b,d⟩,sizedMet_of_sizedB e⟩,?_⟩;simp only[Assume.holds];exact⟨S8,λ_ _ _ _=>rfl,S8,S8,S8⟩
def C7{a C os f fn cs}{s:OpenSpec}{k}(x:s.cond=some k)(B:s.vars=cs.vars)(q:s.bare.plain.varTypes C.prog=cs.plain.varTypes C.prog){F conds apart fresh handsOn}(A:s.postWith enc C.prog fn F (outsideKept [.timePasses]) apart fresh handsOn=(OpenSpec.ofChange cs).postWith enc C.prog fn F (outsideKept [.timePasses]) apart fresh handsOn)
 (own:ownKnob C.prog.godebug=none)(started:os.Started)(r:C.prog.funcs[f]?=some fn)
 (witness:∃(w:World) (tape:Tape) (i:Input),w.os=os/\(w.forCall tape i).Shaped C.prog/\i.vars=[]/\Input.okWide C.prog (w.forCall tape i) .any w f i/\s.pre6 enc C.prog fn conds apart (w.forCall tape i).memory i.args/\a.holds C.prog (lone (Frame.enter C.prog f i.args .normal) [] (w.forCall tape i)))
 (runs:∀(W:World) (base:Nat) (args:Array Value) (ds gs:List (DataW H)) (before:List MemPlace),(∀(j:Nat) t v,fn.params[j]?=some t->args[j]?=some v->Value.okWide C.prog W .any base t v)->
   DataW.Whole enc C.prog fn.params.toList cs.vars apart W args.toList ds gs before->
   k H (ds++gs)=true->
   (DataW.weightsEach C.prog (fn.params.toList++cs.plain.varTypes C.prog) (ds++gs)).all (·<=reachBytes)=true->
   ∃M last o w' b,runNT C.prog (M+1) (solo (G (Frame.enter C.prog f args .normal) []) W) #[]=(.ended o w',b)/\runN C.prog M (solo (G (Frame.enter C.prog f args .normal) []) W)=.next last/\step C.prog last=.ended o w'/\Conc.Good C.prog (λv W'=>cs.post enc C.prog fn apart fresh handsOn false W args v {W' with os:=W.os}/\OsLater W.os W'.os) last o w' b):
 ReturnsInLeavingWide a C os f .any (s.pre6 enc C.prog fn conds apart) (s.postWith enc C.prog fn F (outsideKept [.timePasses]) apart fresh handsOn):=by
 refine returnsInLeavingWide_of_good own started witness ?_;intro w tape i _ _ _ z g J;have⟨_,_,_,l,u,_,_,_,_,D⟩:=z;have e:=jV (u.symm.trans r);subst e;have⟨ds,gs,before,c,_,y⟩:=(OpenSpec.pre_some x conds apart _ _).1 g.1;have h:=g.2.weights c;rw[q]at h;rw[B]at c;have E:=DataW.Whole.of_heap (w':=w.forCall tape i) (by rfl) c;have⟨M,last,o,w',b,m,h2,n,p⟩:=runs (w.forCall tape i) ↑w i.args ds gs before D E y h;have⟨v,e,d,r1,r2,r3,I⟩:=p;rw[A];exact⟨M,last,o,w',b,m,h2,n,v,e,postWith_blind (postWith_of_post d.1 d.2),r1,r2,r3,I⟩
end
def OpenClaim.vz{p s c}(f fn)(C:c.program=p.name)(G:c.sum=p.sum)(J:c.spec=s.name)
 (hstart:c.start=.entering)(d:c.outside=[.timePasses])(z:c.inits=[])(L:c.under=none)(y:c.initsInPlace=[]/\c.initsUnfollowed=false/\c.initsRecurse=false/\c.initsNamed=[]/\c.initsPassed=[])(l:c.noBlocks=false)(B:c.leaving=true)(e:c.followed=none)(E:c.narrowed=s.cond.isSome)(K:c.still=false)
 (x:p.checked.prog.funcNamed c.func=some f)(w:p.checked.prog.funcs[f]?=some fn)
 (closed:joinedFacts p.checked.prog f fn s.bare c=true)
 (A:fn.isInstance p.checked.prog c.origin c.targs)(M:fn.isWrapper p.checked.prog c.wrapper c.mainSum)
 (h:∀os,os.Started->∀(H:Type) (enc:TypeId×Value->H),(∀a b,enc a=enc b->a=b)->∀F,ReturnsInLeavingWide c.assume p.checked os f .any (c.pre enc p.checked.prog fn s) (s.postWith enc p.checked.prog fn F (outsideKept [.timePasses]) c.apart c.fresh c.handsOn)):c.holds p s:=by
 simp only[joinedFacts,dJ,uQ,y8,xE,uR]at closed;have⟨⟨⟨⟨⟨⟨⟨⟨⟨⟨⟨⟨⟨⟨⟨⟨⟨⟨⟨⟨⟨⟨⟨⟨⟨⟨⟨⟨⟨⟨⟨k1,k2⟩,ak⟩,ao⟩,ar⟩,t⟩,au⟩,av⟩,g⟩,N⟩,O⟩,P⟩,Q⟩,R⟩,S⟩,T⟩,μ⟩,V⟩,W⟩,X⟩,Y⟩,π⟩,aa⟩,q⟩,ab⟩,r⟩,ae⟩,af⟩,ag⟩,ah⟩,ai⟩,aj⟩:=closed;have hq:∀os:Os,Stop.quiet p.checked.prog os:=λos k j=>by rw[g]at j;cases j
 refine⟨k1,C,G,J,k2,ak,by unfold OpenClaim.startFits;rw[hstart];exact r,by unfold OpenClaim.startTold;rw[hstart];exact⟨z,L,y⟩,f,fn,x,w,⟨ao,X⟩,(λi=>by rw[l]at i;cases i),by unfold OpenClaim.namedList;rw[e];exact ar,A,M,t.trans au.symm,⟨av.trans g.symm,by unfold Program.envWorded;rw[g];rfl,ab⟩,N,O,P,Q,R,⟨S,ai,aj⟩,⟨T,Y⟩,⟨μ,π,ag,ah⟩,⟨aa,ae,af,V⟩,(by rw[d,E];cases I:c.shortTexts with|none=>(cases s.cond<;>rfl)|some _=>rw[I]at q;cases q),λn D=>varReadable_some (W n D),
  ⟨_,by unfold OpenClaim.world;rw[d,hstart];exact⟨WideRow.started_initial,λo m=>by simp at m;subst m;trivial⟩,hq _⟩,[],by unfold OpenClaim.lists;rw[e],λos st _ H enc inj=>?_⟩
 have st':os.Started:=by unfold OpenClaim.world at st;rw[d,hstart]at st;exact st.1
 rw[OpenClaim.post_not_still K];unfold OpenClaim.form;rw[hstart,t];intro F;have u:c.okInput=Input.okWide:=by unfold OpenClaim.okInput;rw[l]
 have e2:c.atReturn p.checked.prog=leavingAtReturn p.checked.prog:=by unfold OpenClaim.atReturn;rw[B]
 have e3:c.always p.checked.prog []=nothingAlways:=by unfold OpenClaim.always;rw[e]
 have v:s.post enc p.checked.prog fn F c.outside c.apart c.fresh c.handsOn c.again=s.postWith enc p.checked.prog fn F (outsideKept [.timePasses]) c.apart c.fresh c.handsOn:=by rw[d];rfl
 rw[u,e2,e3];show ReturnsInOpen _ _ _ _ _ _ _ _ (s.post enc p.checked.prog fn F c.outside c.apart c.fresh c.handsOn c.again) _ _;rw[v];exact h os st' H enc inj F r
def afo:=@OpenClaim.vz
end Go
