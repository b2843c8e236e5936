/- Node.At, whatever the node holds. -/
import Derived.ProofKit
import Derived.SizedLaws
import Derived.Carry
import Derived.Deep.Slices
import Derived.Deep.Strs
import Derived.Lib.SmallJoins
import Derived.Test.YtpjcmpfncpnmeabGreatRows
import Derived.Test.YtpjcmpfncpnmeabGreatM19
import Derived.Test.YtpjcmpfncpnmeabGreatM23
set_option linter.all false
set_option maxHeartbeats 16000000
set_option maxRecDepth 100000
section
namespace Go.Proofs.aH
open Go.RowKit
attribute [local go_sem↓] Go.wp_at_zero Go.wp_at_succ
def gM.abR{w:World}{nb h:Nat}{lk:List Value}{c:fP}{s:Lay}{L:List eD}{a:AG}{y:xJ}{x:BN}(hL:gM w nb lk c s L a)(hy:a.ch[h]?=some y)(hx:a.bl[y.ix]?=some x):∃b∈s.l,b.id=x.id∧w.cell? ⟨s.gc,h*2,none⟩=some (.pointer (some ⟨b.a,0,none⟩)):=by
  have hlt:=(bW.1 hy).1;have hlL:h<L.length:=by rw[hL.cl];exact hlt
  have e:=bR hlL;generalize L[h]=z at e;obtain⟨_,_,b,hb,hba⟩:=hL.Y4 h z y e hy;refine⟨b,cS hb,(hL.tie y.ix b x hb hx).id,?_⟩;have hg:=(qW L h z e).1;have:=sY (g:=s.gc) hL.base.nd.chain rfl (h*2) (.pointer (some ⟨b.a,0,none⟩)) (by rw[hL.sl,hba];exact hg);rwa [add0]at this
def af2{nb:Nat}{c:fP}{a:AG}{y:xJ}{x:BN}(h:Nat)(w:World)(hG:gY w nb c a)(hy:a.ch[h]?=some y)(hx:a.bl[y.ix]?=some x):Cv 15 #[ptr nb,.int .i64 (h:Int)] w λe w'=>e=.returned (.tuple #[.string x.id,aA])∧Below w.heap.size w w':=by
  obtain⟨s,L,hL⟩:=hG;have hlt:=(bW.1 hy).1;have hkc:s.kc+1=a.ch.length:=by have h1:=hL.base.kc;change s.kc=a.ch.length -1 at h1;omega
  have ahb:=hL.wf.MP;have hll:=hL.wf.ll;obtain⟨b,hb,hid,hc⟩:=hL.abR hy hx;have hrow:=hL.base.row;have h0:¬(h:Int)<0:=by omega
  have h1:¬((s.kc+1:Nat):Int)≤(h:Int):=by omega
  have h2:(h:Int)<((s.kc+1:Nat):Int):=by omega
  have h3:(0:Int)≤(h:Int):=by omega
  unfold ptr;go_enter_defers fA Tryz.func15,Tryz.ntmps15;go_wp2;refine(uE w hrow).mono ?_;rintro e w2 ⟨rfl,hr2,hw2⟩;obtain⟨hL2,x2⟩:=hL.base.rlock hr2 hw2;have Ig:=hL2.Ig;have hgn:s.gc≠nb:=λe=>by
    subst e;have:=hL.base.nd.chain;obtain⟨hv,_⟩|⟨g',cap',cur,hv,_,hg,_⟩:=this.2;.cases hv
    . simp only[QQ,gA,Kj]at hv
      obtain⟨⟨rfl,_⟩,_,rfl⟩:=hv;have h9:w.heap[s.gc]?=_:=hrow;rw[h9]at hg;cases hg
  have hc2:w2.cell? ⟨s.gc,h*2,none⟩=some (.pointer (some ⟨b.a,0,none⟩)):=by rw[hw2];have:=hc;simp only[World.cell?,World.setCell]at this|-;rw[G3,aS (gH hgn)];exact this
  have ahc:w2.cell? ⟨b.a,0,none⟩=some (.string x.id):=by rw[←hid];exact(hL2.nd.qf.row b hb).cell 0
  clear hL hc hid hw2;go_wp2;refine pF (f:=26) (args:=#[.pointer (some ⟨nb,0,none⟩)]) (by simp) (by simp[go_sem]) ?_;refine(oz .returning w2 hr2).mono ?_;rintro e u' w4 ⟨rfl,rfl,hr4,hw4⟩;have x3:Xc (λk=>k=nb∨False) w w2:=x2.mono (λ_ e=>.inl e);have x4:Xc (λk=>k=nb∨False) w w4:=by rw[hw4];exact x3.setCell _ _ (λ_=>.inl rfl)
  exact⟨_,results_tmp2 rfl _ _ _,rfl,(CP x4 hrow hr4).low⟩
def af3{nb:Nat}{c:fP}{a:AG}(h:Nat)(w:World)(hG:gY w nb c a)(hh:a.ch.length≤h)(hb:h≤1000000):Cv 15 #[ptr nb,.int .i64 (h:Int)] w λe w'=>e=.returned (.tuple #[aB,.int .i64 18])∧Below w.heap.size w w':=by
  obtain⟨s,L,hL⟩:=hG;have hkc:s.kc+1≤h:=by have h1:=hL.base.kc;change s.kc=a.ch.length -1 at h1;obtain⟨z,hz,_⟩:=hL.wf.ch0;have:=(bW.1 hz).1;omega
  have hrow:=hL.base.row;have h0:¬(h:Int)<0:=by omega
  have h1:((s.kc+1:Nat):Int)≤(h:Int):=by omega
  unfold ptr;go_enter_defers fA Tryz.func15,Tryz.ntmps15;go_wp2;refine(uE w hrow).mono ?_;rintro e w2 ⟨rfl,hr2,hw2⟩;obtain⟨hL2,x2⟩:=hL.base.rlock hr2 hw2;have Ig:=hL2.Ig;clear hL hw2;go_wp2;refine pF (f:=26) (args:=#[.pointer (some ⟨nb,0,none⟩)]) (by simp) (by simp[go_sem]) ?_;refine(oz .returning w2 hr2).mono ?_;rintro e u' w4 ⟨rfl,rfl,hr4,hw4⟩;have x3:Xc (λk=>k=nb∨False) w w2:=x2.mono (λ_ e=>.inl e);have x4:Xc (λk=>k=nb∨False) w w4:=by rw[hw4];exact x3.setCell _ _ (λ_=>.inl rfl)
  exact⟨_,results_tmp2 rfl _ _ _,rfl,(CP x4 hrow hr4).low⟩
end Go.Proofs.aH
end
section
/- How each block of the chain joined: for wI.Fold. -/
namespace Go.Proofs.aH
open Go.RowKit
def FC(most:Nat)(su:Int):∀(l:List (Int×List Gu)) (mem:List bX) (K:jQ),vE mem→(∀p c,K p=some c→c.pt=p)→(∀x∈l,aeF x.2)→(bH most su l mem K).e=0→∀(k:Nat) (x:Int×List Gu),l[k]?=some x→∃m,vE m∧(bD most su x.1 x.2 m (goes K ((bH most su l mem K).ls.take k).flatten) []).1=0∧(bH most su l mem K).ls[k]?=some (bD most su x.1 x.2 m (goes K ((bH most su l mem K).ls.take k).flatten) []).2.1.steps
  |[],_,_,_,_,_,_,k,x,hk=>by simp at hk
  |y::r,mem,K,hm,hp,hl,he,k,x,hk=>by
    have hx:=hl y (by simp);have Ut:=xn most su y.1 y.2 mem hp (λt ht=>have q:=hx.2 t ht;⟨q.2.1,q.2.2,q.1.2⟩);have hmm:=(yO most most su y.1 y.2 K [] hm hm).2.2.1;by_cases h0:(bD most su y.1 y.2 mem K []).1=0
    . rw[bH,aS (by rw[h0];simp)]at he|-
      simp only at he|-;cases k with
      |zero=>simp only[lI,gA]at hk;subst hk;exact⟨mem,hm,by simpa[goes]using h0,by simp[goes]⟩
      |succ k=>have ih:=FC most su r (bD most su y.1 y.2 mem K []).2.2 (bD most su y.1 y.2 mem K []).2.1.K hmm Ut.pt (λz hz=>hl z (by simp[hz])) he k x (by simpa using hk);rw[QT,Wi,gN,←Ut.at_];simpa using ih
    . rw[bH,bF h0]at he
      simp only at he;split at he;.exact absurd he h0
      .exact absurd he (by decide)
structure FD(c:fP)(a:AG):Prop where
  mo:vE a.mem
  tx:∀(i:Nat) (x:BN),a.bl[i]?=some x→0<i→x.bad=false→aeF x.cI
  jn:∀(h:Nat) (y:xJ) (x:BN),a.ch[h+1]?=some y→a.bl[y.ix]?=some x→∃m,vE m∧(bD c.me.toNat c.su ((h+1:Nat):Int) x.cI m (goes qg (eT (a.ch.take (h+1)))) []).1=0∧(bD c.me.toNat c.su ((h+1:Nat):Int) x.cI m (goes qg (eT (a.ch.take (h+1)))) []).2.1.steps=y.st
def FE{most:Nat}{su:Int}{l:List (Int×List Gu)}{mem:List bX}{K:jQ}(h:vE mem):vE (bH most su l mem K).mem:=by obtain⟨e,at_,ls,K',st,m,m',q1,q2,q3,q4⟩:=CN most most su l mem mem K h h;rw[q1];exact q3
def FD.tI{c:fP}{a:AG}{j:Nat}{y:BN}(h:FD c a)(W:Y8 a j y)(hl:(cR c a j y.aU).ls.length=(gF a j y.aU).length)(he:(cR c a j y.aU).e=0):FD c (a.tI j y (cR c a j y.aU)):=by
  have hfl:=W.fork;have J:=FC c.me.toNat c.su ((gF a j y.aU).map (mA a.bl)) a.mem (goes qg (eT (a.ch.take (cC a j y.aU)))) h.mo (Ih _) (λx hx=>by obtain⟨i,hi,rfl⟩:=iF.1 hx;obtain⟨k,hk⟩:=nH.1 hi;obtain⟨z,z1,z2,_,_,z5⟩:=W.at_ k i hk;unfold mA;rw[z1];exact h.tx i z z1 z2 z5) he
  change ∀k x,_→∃m,vE m∧(bD _ _ _ _ m (goes _ ((cR c a j y.aU).ls.take k).flatten) []).1=0∧(cR c a j y.aU).ls[k]?=some (bD _ _ _ _ m (goes _ ((cR c a j y.aU).ls.take k).flatten) []).2.1.steps at J;have hmo:vE (cR c a j y.aU).mem:=FE h.mo;generalize cR c a j y.aU=R at*;refine⟨hmo,h.tx,λk z x hz hx=>?_⟩;change (a.ch.take (cC a j y.aU)++po (gF a j y.aU) R.ls)[k+1]?=some z at hz;change a.bl[z.ix]?=some x at hx;show∃m,vE m∧(bD _ _ _ _ m (goes qg (eT ((a.ch.take (cC a j y.aU)++po (gF a j y.aU) R.ls).take (k+1)))) []).1=0∧(bD _ _ _ _ m (goes qg (eT ((a.ch.take (cC a j y.aU)++po (gF a j y.aU) R.ls).take (k+1)))) []).2.1.steps=z.st;rw[List.take_append,mG,gN,V4,jO,vL hfl,tJ _ _ _ hl];obtain⟨q1,q2⟩|⟨q1,q2⟩:=qX hfl hz
  . rw[show k+1 -cC a j y.aU=0 from by omega,vL (by omega)]
    exact h.jn k z x q2 hx
  . obtain⟨q3,q4⟩:=qY _ _ _ _ q2
    obtain⟨z0,z1,z2,_,z4,z5⟩:=W.at_ _ _ q3;rw[hx]at z1;cases z1;have e1:((gF a j y.aU).map (mA a.bl))[k+1 -cC a j y.aU]?=some ((x.aU:Int),x.cI):=by rw[cL,q3];unfold mA;simp only[dM];rw[hx]
    obtain⟨m,m1,m2,m3⟩:=J _ _ e1;rw[q4]at m3;have e2:x.aU=k+1:=by omega
    rw[e2]at m2 m3;rw[Nat.min_eq_right (by omega)];exact⟨m,m1,m2,(iQ m3).symm⟩
def FD.sub{c:fP}{a:AG}(s:List UInt8)(h:FD c a)(hw:vA a)(hw':vA (kW c a s).2.2.2):FD c (kW c a s).2.2.2:=by revert hw';unfold kW;cases hd:kB s with
  |none=>exactλ_=>h
  |some b=>
    simp only;split;.exactλ_=>h
    . rename_i hr
      have hr:pV a c.bi s b=0:=by simpa using hr
      have hbb:=(iN b).1 (oC hd).1;have hwf:=hw.keep hr (by have:=hbb.2.1;omega);have h1:FD c {a with bl:=a.bl++[cP a s b]}:=⟨h.mo,λi x hx h0 hb=>by
        obtain hx|⟨_,rfl⟩:=tK hx;.exact h.tx i x hx h0 hb
        .exact Y9 hd,λk z x hz hx=>by
        obtain⟨x0,q1,_⟩:=hw.ch _ z hz;have:x0=x:=by have q2:(a.bl++[cP a s b])[z.ix]?=some x0:=fC q1;have q3:(a.bl++[cP a s b])[z.ix]?=some x:=hx;exact iQ (q2.symm.trans q3)
        subst this;exact h.jn k z x0 hz q1⟩
      split;.exactλ_=>h1
      . obtain⟨a1,ha1⟩:∃a1,a1=({a with bl:=a.bl++[cP a s b]}:AG):=⟨_,rfl⟩
        have hny:a1.bl[a.bl.length]?=some (cP a s b):=by rw[ha1];simp
        have hc1:a1.ch=a.ch:=by rw[ha1]
        rw[←ha1]at hwf h1|-;have aeG:¬yl a1.ch (cP a s b).aU a.bl.length:=λe=>by unfold yl at e;rw[hc1]at e;cases hz:a.ch[(cP a s b).aU]? with
          |none=>rw[hz]at e;cases e
          |some z=>rw[hz]at e;simp only[dM,gA]at e;obtain⟨x,x1,_⟩:=hw.ch _ z hz;have:=(bW.1 x1).1;omega
        have hw9:=Jz hwf hny rfl aeG;have jl1:=Ii c.me.toNat c.su ((gF a1 a.bl.length (cP a s b).aU).map (mA a1.bl)) a1.mem (goes qg (eT (a1.ch.take (cC a1 a.bl.length (cP a s b).aU))));change (cR c a1 a.bl.length (cP a s b).aU).e=0→(cR c a1 a.bl.length (cP a s b).aU).ls.length=_ at jl1;rw[eY]at jl1;unfold wJ;split
        . rename_i he
          exactλ_=>h1.tI hw9 (jl1 he) he
        . intro hw'
          refine⟨FE h1.mo,λi x hx h0 hb=>?_,λk z x hz hx=>?_⟩
          . obtain⟨z,z1,z2,z3⟩:=FH hwf hx hb
            rw[z3];exact h1.tx i z z1 h0 z2
          . obtain⟨x0,q1,_,q3⟩:=hw'.ch _ z hz
            have hx':=hx;rw[q1]at hx';cases hx';obtain⟨z0,z1,z2,z3⟩:=FH hwf hx q3;rw[z3];exact h1.jn k z z0 hz z1
end Go.Proofs.aH
end
section
/- The abS blocks, handed in one behind the other to a new node: for wI.Fold. -/
namespace Go.Proofs.aH
open Go.RowKit
/-- a block behind the abS last one, that joins: the node then -/
def abT{c:fP}{a:AG}{s:List UInt8}{b:jK}(h:vA a)(hd:kB s=some b)(hr:pV a c.bi s b=0)(hp:mk b.parent=(cY a).id)(hj:(bD c.me.toNat c.su (a.ch.length:Int) (b.cI.map xK) a.mem a.K []).1=0):qZ a b=cY a∧kW c a s=(0,1,0,{a with bl:=a.bl++[cP a s b],ch:=a.ch++[⟨a.bl.length,(bD c.me.toNat c.su (a.ch.length:Int) (b.cI.map xK) a.mem a.K []).2.1.steps⟩],mem:=(bD c.me.toNat c.su (a.ch.length:Int) (b.cI.map xK) a.mem a.K []).2.2}):=by
  unfold kW;rw[hd];simp only;obtain⟨yt,t1,t2,t3,t4,t5⟩:=h.vp;obtain⟨r1,hP,r3,r4⟩:=tL hr;obtain⟨p1,p2⟩:=oD hP;have hpi:yT a b=yt.ix:=by
    have e1:(a.bl.map BN.id)[yT a b]?=some (cY a).id:=by rw[cL,p1,dM,p2,hp]
    have e2:(a.bl.map BN.id)[yt.ix]?=some (cY a).id:=by rw[cL,t2];rfl
    exact(D8 (bW.1 e1).1 h.ids).1 (e1.trans e2.symm)
  have hpg:qZ a b=cY a:=by rw[hpi,t2]at p1;exact(iQ p1).symm
  refine⟨hpg,?_⟩;rw[aS (by simpa using hr)];have hbb:=(iN b).1 (oC hd).1;have hN8:b.bits.toNat≤8:=by have:=hbb.2.1;omega
  have hw:=PV hN8;have hnw:(cP a s b).wo=(cY a).wo+2^b.bits.toNat:=by show(qZ a b).wo+_=_;rw[hpg]
  have hnh:(cP a s b).aU=a.ch.length:=by show(qZ a b).aU+1=_;rw[hpg,t3];omega
  have hnp:(cP a s b).par=yt.ix:=hpi;rw[aS (by rw[hnw];omega)];obtain⟨a1,ha1⟩:∃a1,a1=({a with bl:=a.bl++[cP a s b]}:AG):=⟨_,rfl⟩;rw[←ha1];have hb1:a1.bl[a.bl.length]?=some (cP a s b):=by rw[ha1];simp
  have hb2:a1.bl[yt.ix]?=some (cY a):=by rw[ha1];exact fC t2
  have hc1:a1.ch=a.ch:=by rw[ha1]
  have hm1:a1.mem=a.mem:=by rw[ha1]
  have hni:¬yl a1.ch (cP a s b).aU a.bl.length:=by unfold yl;rw[hc1,hnh,nK (qz _)];simp
  have hup:Uu a1.bl a1.ch ((cP a s b).aU+1) a.bl.length=[a.bl.length]:=by unfold Uu;rw[hb1];simp only;rw[aS hni];obtain⟨k,hk⟩:∃k,(cP a s b).aU=k+1:=⟨_,rfl⟩;rw[hk,hnp];unfold Uu;rw[hb2];simp only;rw[if_pos (by unfold yl;rw[hc1,t3,t1];rfl)]
  have Ut:gF a1 a.bl.length (cP a s b).aU=[a.bl.length]:=by unfold gF;rw[hup];rfl
  have hfk:cC a1 a.bl.length (cP a s b).aU=a.ch.length:=by unfold cC;rw[Ut,hnh];rfl
  have hjs:cR c a1 a.bl.length (cP a s b).aU=bH c.me.toNat c.su [((a.ch.length:Int),b.cI.map xK)] a.mem a.K:=by
    unfold cR;rw[Ut,hfk,hc1,iR,hm1];have e:mA a1.bl a.bl.length=((a.ch.length:Int),b.cI.map xK):=by unfold mA;rw[hb1];show((((cP a s b).aU:Nat):Int),_)=_;rw[hnh];rfl
    rw[kY,e];rfl
  have e0:cR c a1 a.bl.length (cP a s b).aU=⟨0,1,[(bD c.me.toNat c.su (a.ch.length:Int) (b.cI.map xK) a.mem a.K []).2.1.steps],(bD c.me.toNat c.su (a.ch.length:Int) (b.cI.map xK) a.mem a.K []).2.1.K,(bD c.me.toNat c.su (a.ch.length:Int) (b.cI.map xK) a.mem a.K []).2.2,(bD c.me.toNat c.su (a.ch.length:Int) (b.cI.map xK) a.mem a.K []).2.1.steps++[]⟩:=by rw[hjs,bH,aS (λe=>e hj)];rfl
  clear hjs;generalize bD c.me.toNat c.su (a.ch.length:Int) (b.cI.map xK) a.mem a.K []=R at e0 hj|-;unfold wJ;rw[e0];simp only[uT];rw[Ut,hfk,hc1,rI,iR,ha1];rfl
/-- the first h blocks of a chain, in a node of their own -/
structure q7(a y:AG)(h:Nat):Prop where
  bl:y.bl.length=h+1
  MP:y.ch.length=h+1
  blk:∀(k:Nat) (v:xJ) (x:BN),k≤h→a.ch[k]?=some v→a.bl[v.ix]?=some x→∃z,y.bl[k]?=some z∧z.id=x.id∧z.aU=k∧z.wo=x.wo∧z.bad=false
  lk:∀(k:Nat) (v:xJ),k≤h→a.ch[k]?=some v→y.ch[k]?=some ⟨k,v.st⟩
  mo:vE y.mem
def q7.flat{a y:AG}{h:Nat}(F:q7 a y h)(hh:h<a.ch.length):eT y.ch=eT (a.ch.take (h+1)):=by
  have e:y.ch.map xJ.st=(a.ch.take (h+1)).map xJ.st:=by
    apply kF;intro k;rw[cL,cL];by_cases hk:k≤h
    . have q:=bR (show k<a.ch.length by omega)
      rw[F.lk k _ hk q,QR (by omega),q];rfl
    .rw[nK (by rw[F.MP];omega),nK (by rw[jO];omega)]
  unfold eT;rw[G7,G7,e]
def q7.vp{a y:AG}{h:Nat}{v:xJ}{x:BN}(F:q7 a y h)(hv:a.ch[h]?=some v)(hx:a.bl[v.ix]?=some x):(cY y).id=x.id∧(cY y).aU=h∧(cY y).wo=x.wo∧(cY y).bad=false:=by
  obtain⟨z,z1,z2,z3,z4,z5⟩:=F.blk h v x (qz _) hv hx;have e:cY y=z:=by unfold cY;rw[F.MP,Km,F.lk h v (qz _) hv];show(y.bl[h]?).getD _=z;rw[z1];rfl
  rw[e];exact⟨z2,z3,z4,z5⟩
/-- what is known of the bytes of a block that is kept -/
structure MQ(c:fP)(p x:BN)(s:List UInt8)(b:jK):Prop where
  dec:kB s=some b
  id:kA s=x.id
  par:mk b.parent=p.id
  cI:b.cI.map xK=x.cI
  wo:x.wo=p.wo+2^b.bits.toNat
  bits:¬b.bits<c.bi
  zero:(iE s).toNat%2^b.bits.toNat=0
def Uv{c c':fP}{a y:AG}{h:Nat}{u v:xJ}{p x:BN}{s:List UInt8}{b:jK}(F:q7 a y h)(hw:vA a)(hy:vA y)(H:FD c a)(hs:c.su=c'.su)(hb:c.bi=c'.bi)(hu:a.ch[h]?=some u)(hp:a.bl[u.ix]?=some p)(hv:a.ch[h+1]?=some v)(hx:a.bl[v.ix]?=some x)(S:MQ c p x s b):∃y',kW c' y s=(0,1,0,y')∧q7 a y' (h+1)∧y'.lo=y.lo:=by
  have hlt:=(bW.1 hv).1;obtain⟨t1,t2,t3,t4⟩:=F.vp hu hp;have hll:=hw.MP;have ahd:=hw.ll;--its id is new
  have hnew:x.id∉y.bl.map BN.id:=λhm=>by obtain⟨k,hk⟩:=nH.1 hm;rw[cL]at hk;cases hz:y.bl[k]? with
    |none=>rw[hz]at hk;cases hk
    |some z=>
      rw[hz]at hk;have hkl:k<y.bl.length:=(bW.1 hz).1;rw[F.bl]at hkl;have q:=bR (show k<a.ch.length by omega);obtain⟨x',x1,x2,_⟩:=hw.ch k _ q;obtain⟨z',z1,z2,_⟩:=F.blk k _ x' (by omega) q x1;rw[hz]at z1;cases z1;have e1:(a.bl.map BN.id)[(a.ch[k]).ix]?=some x.id:=by rw[cL,x1,dM,←z2];exact hk
      have e2:(a.bl.map BN.id)[v.ix]?=some x.id:=by rw[cL,hx];rfl
      have e3:=(D8 (bW.1 e1).1 hw.ids).1 (e1.trans e2.symm);rw[e3,hx]at x1;cases x1;obtain⟨x9,y1,y2,_⟩:=hw.ch (h+1) v hv;rw[hx]at y1;cases y1;omega
  have hP:Dp y b=true:=by unfold Dp;rw[QU];obtain⟨yt,_,q2,_⟩:=hy.vp;exact⟨_,cS q2,by simp[S.par,t1]⟩
  have af4:mk b.parent=(cY y).id:=by rw[S.par,t1]
  have hpg:qZ y b=cY y:=by
    obtain⟨yt,q1,q2,q3,q4,q5⟩:=hy.vp;obtain⟨p1,p2⟩:=oD hP;have e1:(y.bl.map BN.id)[yT y b]?=some (cY y).id:=by rw[cL,p1,dM,p2,af4]
    have e2:(y.bl.map BN.id)[yt.ix]?=some (cY y).id:=by rw[cL,q2];rfl
    have e3:=(D8 (bW.1 e1).1 hy.ids).1 (e1.trans e2.symm);rw[e3,q2]at p1;exact(iQ p1).symm
  have hr:pV y c'.bi s b=0:=by unfold pV;rw[aS (λe=>hnew (by rw[←S.id];exact tM.1 e)),←hb,aS S.bits,aS (by rw[S.zero];simp),hP,aS (by simp),hpg,t4,aS (by simp),F.bl,aS (by omega)]
  have hK:y.K=goes qg (eT (a.ch.take (h+1))):=by show goes qg (eT y.ch)=_;rw[F.flat (by omega)]
  obtain⟨m,m1,m2,m3⟩:=H.jn h v x hv hx;obtain⟨j1,j2,_,j4⟩:=yO c.me.toNat c'.me.toNat c.su ((h+1:Nat):Int) x.cI (goes qg (eT (a.ch.take (h+1)))) [] m1 F.mo;have hj:(bD c'.me.toNat c'.su (y.ch.length:Int) (b.cI.map xK) y.mem y.K []).1=0:=by rw[F.MP,S.cI,hK,←hs,←j1];exact m2
  have hst:(bD c'.me.toNat c'.su (y.ch.length:Int) (b.cI.map xK) y.mem y.K []).2.1.steps=v.st:=by rw[F.MP,S.cI,hK,←hs,←j2];exact m3
  have hmo:vE (bD c'.me.toNat c'.su (y.ch.length:Int) (b.cI.map xK) y.mem y.K []).2.2:=by rw[F.MP,S.cI,hK,←hs];exact j4
  obtain⟨_,hsub⟩:=abT hy S.dec hr af4 hj;refine⟨_,hsub,⟨?_,?_,λk w z hk hw' hz=>?_,λk w hk hw'=>?_,hmo⟩,rfl⟩
  . show(y.bl++[_]).length=_
    rw[bY,F.bl];rfl
  . show(y.ch++[_]).length=_
    rw[bY,F.MP];rfl
  . show∃z',(y.bl++[cP y s b])[k]?=some z'∧_
    by_cases e:k≤h
    . obtain⟨z',q1,q2⟩:=F.blk k w z e hw' hz
      exact⟨z',fC q1,q2⟩
    . have e2:k=h+1:=by omega
      subst e2;rw[hv]at hw';cases hw';rw[hx]at hz;cases hz;refine⟨cP y s b,by rw[eA (by rw[F.bl];omega),F.bl];simp,S.id,?_,?_,rfl⟩
      . show(qZ y b).aU+1=h+1
        rw[hpg,t2]
      . show(qZ y b).wo+2^b.bits.toNat=x.wo
        rw[hpg,t3,S.wo]
  . show(y.ch++[_])[k]?=_
    by_cases e:k≤h;.exact fC (F.lk k w e hw')
    . have e2:k=h+1:=by omega
      subst e2;rw[hv]at hw';cases hw';rw[eA (by rw[F.MP];omega),hst,F.MP,F.bl];simp
end Go.Proofs.aH
end
section
/- The bytes of each block that is kept: for wI.Fold. -/
namespace Go.Proofs.aH
open Go.RowKit
structure Src(c:fP)(ids:List ByteArray)(bs:List (List UInt8))(a:AG):Prop where
  z0:∃x,a.bl[0]?=some x∧x.id=jI
  c0:∃v,a.ch[0]?=some v∧v.st=[]
  src:∀(i:Nat) (x:BN),a.bl[i]?=some x→0<i→x.bad=false→∃(j:Nat) (s:List UInt8) (b:jK) (p:BN),ids[j]?=some x.id∧bs[j]?=some s∧a.bl[x.par]?=some p∧MQ c p x s b
def Src.grow{c:fP}{ids agW:List ByteArray}{bs bs':List (List UInt8)}{a:AG}(h:Src c ids bs a):Src c (ids++agW) (bs++bs') a:=⟨h.z0,h.c0,λi x hx h0 hb=>by obtain⟨j,s,b,p,q1,q2,q3⟩:=h.src i x hx h0 hb;exact⟨j,s,b,p,fC q1,fC q2,q3⟩⟩
def Uw{a:AG}{cb:Int}{s:List UInt8}{b:jK}(h:pV a cb s b=0):¬b.bits<cb∧(iE s).toNat%2^b.bits.toNat=0:=by
  unfold pV at h;split at h;.cases h
  . split at h
    .cases h
    . rename_i h1
      split at h;.cases h
      . rename_i h2
        exact⟨h1,by simpa using h2⟩
/-- a block that is kept, its bytes at place j -/
def Src.keep{c:fP}{ids:List ByteArray}{bs:List (List UInt8)}{a:AG}{s:List UInt8}{b:jK}{j:Nat}(h:Src c ids bs a)(hd:kB s=some b)(hr:pV a c.bi s b=0)(hi:ids[j]?=some (kA s))(hs:bs[j]?=some s):Src c ids bs {a with bl:=a.bl++[cP a s b]}:=by
  obtain⟨x0,z1,z2⟩:=h.z0;refine⟨⟨x0,fC z1,z2⟩,h.c0,λi x hx h0 hb=>?_⟩;obtain hx|⟨_,rfl⟩:=tK hx
  . obtain⟨j,s,b,p,q1,q2,q3,q4⟩:=h.src i x hx h0 hb
    exact⟨j,s,b,p,q1,q2,fC q3,q4⟩
  . obtain⟨_,hP,_,_⟩:=tL hr
    obtain⟨p1,p2⟩:=oD hP;obtain⟨r1,r2⟩:=Uw hr;exact⟨j,s,b,qZ a b,hi,hs,fC p1,hd,rfl,p2.symm,rfl,rfl,r1,r2⟩
def Zc{a:AG}{k i:Nat}{x:BN}(h:(gG a.bl k)[i]?=some x):∃z,a.bl[i]?=some z∧x.id=z.id∧x.par=z.par∧x.wo=z.wo∧x.aU=z.aU:=by unfold gG at h;rw[oU]at h;cases hz:a.bl[i]? with
  |none=>rw[hz]at h;cases h
  |some z=>rw[hz]at h;simp only[dM,gA]at h;subst h;exact⟨z,rfl,rfl,rfl,rfl,rfl⟩
def Ij{a:AG}{k i:Nat}{z:BN}(h:a.bl[i]?=some z):∃x,(gG a.bl k)[i]?=some x∧x.id=z.id∧x.wo=z.wo:=by unfold gG;rw[oU,h];exact⟨_,rfl,rfl,rfl⟩
def MQ.of{c:fP}{p p' x x':BN}{s:List UInt8}{b:jK}(h:MQ c p x s b)(h1:p'.id=p.id)(h2:p'.wo=p.wo)(h3:x'.id=x.id)(h4:x'.wo=x.wo)(h5:x'.cI=x.cI):MQ c p' x' s b:=⟨h.dec,by rw[h3];exact h.id,by rw[h1];exact h.par,by rw[h5];exact h.cI,by rw[h4,h2];exact h.wo,h.bits,h.zero⟩
def Src.sub{c:fP}{ids:List ByteArray}{bs:List (List UInt8)}{a:AG}{s:List UInt8}{j:Nat}(h:Src c ids bs a)(hw:vA a)(hi:ids[j]?=some (kA s))(hs:bs[j]?=some s):Src c ids bs (kW c a s).2.2.2:=by unfold kW;cases hd:kB s with
  |none=>exact h
  |some b=>
    simp only;split;.exact h
    . rename_i hr
      have hr:pV a c.bi s b=0:=by simpa using hr
      have hbb:=(iN b).1 (oC hd).1;have hwf:=hw.keep hr (by have:=hbb.2.1;omega);have h1:=h.keep hd hr hi hs;split;.exact h1
      . obtain⟨a1,ha1⟩:∃a1,a1=({a with bl:=a.bl++[cP a s b]}:AG):=⟨_,rfl⟩
        have hny:a1.bl[a.bl.length]?=some (cP a s b):=by rw[ha1];simp
        have hc1:a1.ch=a.ch:=by rw[ha1]
        rw[←ha1]at hwf h1|-;have aeG:¬yl a1.ch (cP a s b).aU a.bl.length:=λe=>by unfold yl at e;rw[hc1]at e;cases hz:a.ch[(cP a s b).aU]? with
          |none=>rw[hz]at e;cases e
          |some z=>rw[hz]at e;simp only[dM,gA]at e;obtain⟨x,x1,_⟩:=hw.ch _ z hz;have:=(bW.1 x1).1;omega
        have hw9:=Jz hwf hny rfl aeG;have hf1:1≤cC a1 a.bl.length (cP a s b).aU:=by unfold cC;have:=hw9.len;omega
        unfold wJ;split
        . refine⟨h1.z0,?_,h1.src⟩
          obtain⟨v,v1,v2⟩:=h1.c0;refine⟨v,?_,v2⟩;show(a1.ch.take _++_)[0]?=some v;have hl0:=(bW.1 v1).1;rw[mQ (by rw[jO];omega),QR (by omega)];exact v1
        . obtain⟨x0,y1,y2⟩:=h1.z0
          obtain⟨x0',w1,w2,_⟩:=Ij (k:=(gF a1 a.bl.length (cP a s b).aU).getD (cR c a1 a.bl.length (cP a s b).aU).at_ 0) y1;refine⟨⟨x0',w1,w2.trans y2⟩,h1.c0,λi x hx h0 hb=>?_⟩;obtain⟨z,z1,z2,z3⟩:=FH hwf hx hb;obtain⟨z',u1,u2,u3,u4,_⟩:=Zc hx;rw[z1]at u1;cases u1;obtain⟨j,s',b',p,q1,q2,q3,q4⟩:=h1.src i z z1 h0 z2;obtain⟨p',r1,r2,r3⟩:=Ij (k:=(gF a1 a.bl.length (cP a s b).aU).getD (cR c a1 a.bl.length (cP a s b).aU).at_ 0) q3;exact⟨j,s',b',p',by rw[u2];exact q1,q2,by rw[u3];exact r1,q4.of r2 r3 u2 u4 z3⟩
def fold_zero{c:fP}{ids:List ByteArray}{bs:List (List UInt8)}{a:AG}(D:Nat)(h:Src c ids bs a)(hw:vA a):q7 a (JB D) 0:=by
  obtain⟨y,y1,y2⟩:=hw.ch0;obtain⟨x0,f1,f2,f3,f4⟩:=hw.first;obtain⟨x1,g1,g2⟩:=h.z0;obtain⟨v0,c1,c2⟩:=h.c0;rw[f1]at g1;cases g1;refine⟨rfl,rfl,λk v x hk hv hx=>?_,λk v hk hv=>?_,λt ht=>by cases ht⟩
  . have:k=0:=Nat.le_zero.1 hk
    subst this;rw[y1]at hv;cases hv;rw[y2,f1]at hx;cases hx;exact⟨_,rfl,g2.symm,rfl,f3.symm,rfl⟩
  . have:k=0:=Nat.le_zero.1 hk
    subst this;rw[c1]at hv;cases hv;rw[c2];rfl
def Zd{a y:AG}(F:q7 a y (a.ch.length -1))(hw:vA a):(cY y).id=(cY a).id∧y.ch.length=a.ch.length∧(cY y).wo=(cY a).wo∧y.K=a.K:=by obtain⟨yt,t1,t2,t3,t4,t5⟩:=hw.vp;obtain⟨q1,_,q3,_⟩:=F.vp t1 t2;refine⟨q1,by rw[F.MP];omega,q3,?_⟩;show goes qg (eT y.ch)=goes qg (eT a.ch);rw[F.flat (by omega),show a.ch.length -1+1=a.ch.length from by omega,iR]
end Go.Proofs.aH
end
section
/- A new node: for wI.Fold. -/
namespace Go.Proofs.aH
open Go.RowKit
def af5(c:fP)(D:Nat):FD c (JB D):=⟨λt ht=>(by cases ht),λi x hx h0 _=>(by cases i with
    |zero=>omega
    |succ i=>cases hx),λh y x hy=>(by cases hy)⟩
def agV(c:fP)(D:Nat)(ids:List ByteArray)(bs:List (List UInt8)):Src c ids bs (JB D):=⟨⟨_,rfl,rfl⟩,⟨_,rfl,rfl⟩,λi x hx h0 _=>(by cases i with
    |zero=>omega
    |succ i=>cases hx)⟩
end Go.Proofs.aH
end
namespace Go.Proofs.aH
open Go.RowKit
def abU:kB []=none:=by kernel_rfl
structure vR(C:Nat)(w:World)(sa:Option Addr)(l:List (Int×List Int)):Prop where
 at_:l≠[]->∃g o,g<C/\sa=some ⟨g,o,none⟩/\∀(i:Nat) (x:Int×List Int),l[i]?=some x->(-9223372036854775808<=x.1/\x.1<9223372036854775808)/\∃va vc,w.cell? ⟨g,o+i*2,none⟩=some (.int .i64 x.1)/\w.cell? ⟨g,o+i*2+1,none⟩=some (.slice va x.2.length vc)/\n9 C w (.slice va x.2.length vc) x.2
def vR.lw{C w w' sa l}(h:vR C w sa l)(x:Lw C w w'):vR C w' sa l:=by refine⟨λhl=>?_⟩;have⟨g,o,a,b,c⟩:=h.at_ hl;refine⟨g,o,a,b,λi y d=>?_⟩;have⟨e,va,vc,h1,h2,h3⟩:=c i y d;exact⟨e,va,vc,JA x a h1,JA x a h2,h3.lw x L9⟩
structure PR(w wr:World)(rb B m:Nat)(c:fP)(r:pW)(a:AG):Prop where
 lw:Lw w.heap.size w wr
 run:gP wr rb B r
 node:gY wr r.nb r.c a
 jZ:wK r m
 c:r.c=Dq c
 lo:w.heap.size<=rb/\w.heap.size<=B/\w.heap.size<=a.lo
 N8:r.ids.Nodup
 i0:0<r.ids.length
 Za:FD r.c a
def PR.keep{w wr w' rb B m c r a}(h:PR w wr rb B m c r a)(b:Below wr wr w'):PR w w' rb B m c r a:=⟨h.lw.trans (MR b),h.run.keep b,h.node.keep b,h.jZ,h.c,h.lo,h.N8,h.i0,h.Za⟩
def PR.make{w wr w' rb B m c r r' a}(h:PR w wr rb B m c r a)(p:wL wr w' rb B m r r'):PR w w' rb B (m+1) c r' a:=by
 have f:=h.run.mf (LB:=w.heap.size) p.fx ⟨h.lo.1,h.lo.2.1⟩;have n:=h.node.mf f;rw[<-p.nb,<-p.c]at n;have q:=h.Za;rw[<-p.c]at q;obtain⟨_,e,_⟩|⟨s,b,pi,x,M⟩:=p.made;.exact⟨h.lw.trans f.lw,p.run,n,p.jZ,p.c.trans h.c,h.lo,by rw[e];exact h.N8,by rw[e];exact h.i0,q⟩
 .refine⟨h.lw.trans f.lw,p.run,n,p.jZ,p.c.trans h.c,h.lo,?_,by rw[M.ids];simp,q⟩;rw[M.ids,QP];exact⟨h.N8,by simp,λu d v b e=>M.new (by rw[<-jU.1 b,<-e];exact d)⟩
def PR.sub{w wr w' rb B m c r a}(s)(h:PR w wr rb B m c r a)(n:gY w' r.nb r.c (kW r.c a s).2.2.2)(y:Ck a.lo Y2 wr w'):PR w w' rb B m c r (kW r.c a s).2.2.2:=have k:∀t:TypeId,t≠107->t≠161->t≠195->t≠247->t≠117->t≠114->¬Y2 t:=λ_ a b c d e f=>Aj a b c d e f;⟨h.lw.trans (y.lw.mono h.lo.2.2),h.run.ck y (k _ D9 D9 D9 D9 D9 D9) (k _ D9 D9 D9 D9 D9 D9) (k _ D9 D9 D9 D9 D9 D9) (k _ D9 D9 D9 D9 D9 D9),n,h.jZ,h.c,by rw[abV];exact h.lo,h.N8,h.i0,h.Za.sub s h.node.wf n.wf⟩
structure PF(w wr:World)(rb B m:Nat)(c:fP)(r:pW)(a:AG)(v:Value)(bs:List (List UInt8)):Prop where
 p:PR w wr rb B m c r a
 own:yU w.heap.size wr v (bs.map mk)
 b0:bs[0]?=some []
 bn:bs.length=r.ids.length
 src:Src r.c r.ids bs a
def PF.keep{w wr w' rb B m c r a v bs}(h:PF w wr rb B m c r a v bs)(b:Below wr wr w'):PF w w' rb B m c r a v bs:=⟨h.p.keep b,aV h.own b,h.b0,h.bn,h.src⟩
def MS{w wr rb B m c r a C v}{bs:List (List UInt8)}(h:PR w wr rb B m c r a)(o:yU C wr v (bs.map mk))(z:bs[0]?=some []):∀k,r.iv.ownBlock=some k->v.ownBlock≠some k:=by intro k e f;obtain⟨g,c,rfl,d⟩:=DN o (k:=0) (u:=.string (mk [])) (by simp[z]);have⟨x,y⟩:∃x,r.ids[0]?=some x:=⟨_,bR h.i0⟩;have q:=h.jZ.i8 _ (cS y);have⟨g',c',i,j⟩:=DN h.run.ids (k:=0) (u:=.string x) (by simp[y]);rw[i]at e;cases e;cases f;rw[d]at j;cases j;cases q
def R7{w wr w' rb B m c r r' a v bs}(h:PF w wr rb B m c r a v bs)(p:wL wr w' rb B m r r'):yU w.heap.size w' v (bs.map mk):=dI h.own (λk _ e _ b=>p.fx.block k (bG b) (by
  rintro(f|f|f|f);.subst f;have:=h.p.run.row;unfold Row at this;rw[b]at this;cases this
  .have⟨_,_,g⟩:=bS h.p.run.aX f;rw[b]at g;cases g
  .exact MS h.p h.own h.b0 k f e
  .have⟨_,_,g⟩:=bS h.p.run.dC f;rw[b]at g;cases g))
def PF.none{w wr w' rb B m c r r' a v bs}(h:PF w wr rb B m c r a v bs)(p:wL wr w' rb B m r r')(e:r'.ids=r.ids):PF w w' rb B (m+1) c r' a v bs:=⟨h.p.make p,R7 h p,h.b0,by rw[e];exact h.bn,by rw[e,p.c];exact h.src⟩
def abW{w wr w2 w3 rb B m n c r r' a v bs s b pi x v'}(h:PF w wr rb B n c r a v bs)(M:Made r r' s b pi x)(q:PR w w2 rb B m c r' a)(y:yU w.heap.size w2 v (bs.map mk))(ec:r'.c=r.c)(g:w2.grownBy w3 v.ownBlock)(o:w3.ownsRow w.heap.size 9 1 v' (bs.length+1) ((bs.map mk).map Value.string++[.string (mk s)])):PF w w3 rb B m c r' a v' (bs++[s]):=by
 have f:Mf w.heap.size w2 w3:=adF ((iT (λk=>v.ownBlock=some k) w2).grown g (λ_ e _=>e)) (λk _ e=>by have⟨cs,d⟩:=jE y e;exact⟨(bS y e).1,_,_,.inr (.inr (.inl rfl)),d⟩)
 refine⟨⟨q.lw.trans f.lw,⟨qs q.run.row y g D9,pq q.run.ids g (MS q y h.b0),eF q.run.dC y g D9,eF q.run.aX y g D9,bL q.run.base g.size⟩,q.node.mf f,q.jZ,q.c,q.lo,q.N8,q.i0,q.Za⟩,?_,fC h.b0,by rw[M.ids,bY,bY,h.bn];rfl,by rw[M.ids,ec];exact h.src.grow⟩;show World.ownsRow _ _ _ _ _ ((bs++[s]).map mk).length _;rw[nG,nG,bY,eY];exact o
def PF.sub{w wr w' rb B m c r a v bs s}{j:Nat}(h:PF w wr rb B m c r a v bs)(hi:r.ids[j]?=some (kA s))(hs:bs[j]?=some s)(n:gY w' r.nb r.c (kW r.c a s).2.2.2)(y:Ck a.lo Y2 wr w'):PF w w' rb B m c r (kW r.c a s).2.2.2 v bs:=⟨h.p.sub s n y,q9 h.own y (Aj D9 D9 D9 D9 D9 D9),h.b0,h.bn,h.src.sub h.p.node.wf hi hs⟩
def PF.fold{w wr rb B m c r a v bs y h}(H:PF w wr rb B m c r a v bs)(F:q7 a y h)(Y:vA y)(e:h+1<a.ch.length):∃u x j s y',a.ch[h+1]?=some u/\a.bl[u.ix]?=some x/\nA r.ids x.id 0=((j:Nat):Int)/\1<=j/\bs[j]?=some s/\kW r.c y s=(0,1,0,y')/\q7 a y' (h+1)/\y'.lo=y.lo:=by
 have W:=H.p.node.wf;have u1:=bR e;generalize a.ch[h+1]=u at u1;have⟨x,x1,x2,x3⟩:=W.ch _ u u1;have⟨z,z1,z2⟩:=W.link h u x u1 x1;have i0:0<u.ix:=by
  obtain e|e:=qy u.ix;.obtain⟨f,f1,f2,_⟩:=W.first;rw[e,f1]at x1;cases x1;omega
  .exact e
 have⟨j,s,b,p,q1,q2,q3,q4⟩:=H.src.src u.ix x x1 i0 x3;have⟨y',s1,s2,s3⟩:=Uv F W Y H.p.Za rfl rfl z1 (by rw[z2];exact q3) u1 x1 q4;have⟨i,p1,p2⟩:=BD r.ids x.id 0 (cS q1);have ij:i=j:=(D8 (bW.1 p2).1 H.p.N8).1 (p2.trans q1.symm);subst ij;refine⟨u,x,i,s,y',u1,x1,by rw[p1];simp,?_,q2,s1,s2,s3⟩;obtain e|e:=qy i;.rw[e,H.b0]at q2;cases q2;have:=q4.dec;rw[abU]at this;cases this
 .exact e
def Zb{w0 w w' rb B c r a}(b:Below w0.heap.size w0 w)(h:adG w w' rb B c r a):∃s,w'.cell? (rb,10)=some (.string (mk s))/\PF w0 (w'.alloc (.cells #[aB,.string (mk s)] 9)) rb B 2 c r a (.slice (some ⟨w'.heap.size,0,none⟩) 2 2) [[],s]:=by
 obtain⟨s,D,h1,h2,h3⟩:=h.first;have i2:=h.i2;have H:FD r.c a:=by have:=(af5 r.c D).sub s (wf0 D) (by rw[h3];exact h.node.wf);rwa [h3]at this
 have K:Src r.c r.ids [[],s] a:=by have:=(agV r.c D r.ids [[],s]).sub (wf0 D) (j:=1) (s:=s) h2 rfl;rwa [h3]at this
 have p:PR w0 w' rb B 2 c r a:=⟨(MR b).trans (h.lw.mono b.size),h.run,h.node,h.jZ,h.c,⟨bL b.size h.lo.1,bL b.size h.lo.2.1,bL b.size h.lo.2.2⟩,h.N8,by omega,H⟩;exact⟨s,(h.run.row.cell 10).trans (by show some (Value.string r.made)=_;rw[h1]),p.keep (B0.alloc L9 _),lO (aW w' [.string (mk []),.string (mk s)] 9) rfl p.lw.size D9,rfl,i2.symm,K⟩
end Go.Proofs.aH
namespace Go.Proofs.YtpjcmpfncpnmeabGreat
open Go.ChangeShapes Go.WideShapes Go.ChangeAt Go.RowKit Go.Ren
def Tryz.Ou:Tryz.prog.cellsOf 3=1:=K8
def Xq:=@Tryz.Ou
def Tryz.Ld:Tryz.prog.cellsOf 32=2:=K8
def Tryz.Ov:Tryz.prog.bytesOf 3=8:=K8
def Tryz.Le:Tryz.prog.bytesOf 32=32:=K8
def tZ{a}(h:(Lit.int .i64 a).wf=true):-9223372036854775808<=a/\a<9223372036854775808:=by have c:IntKind.i64.min=-9223372036854775808:=rfl;have b:IntKind.i64.max=9223372036854775807:=rfl;simp[Lit.wf]at h;omega
def Lf{w:World}{a:Addr}{n cs}(h:w.cells? 0 (a.add 0) n=some cs)(d:0<n):∃b o,a=⟨b,o,none⟩:=by have⟨_,hl,c⟩:=VO h;have h0:=c 0 d;rw[bR O9]at h0;have:=World.cell?_spot h0;simp[Addr.add]at this;have⟨b,o,sp⟩:=a;exact⟨b,o,by simpa using this⟩
def Hp{w:World}{b o n i cs}(h:w.cells? 0 (((b,o):Addr).add i) n=some cs):∀j,j<n->w.cell? ⟨b,o+i+j,none⟩=cs[j]?:=by have⟨_,hl,a⟩:=VO h;intro j c;rw[<-a j c];unfold Addr.add;by_cases hi:i=0<;>by_cases d:j=0<;>simp[hi,d]
def Em{α:Type}(f:Nat->α)(n i x)(h:((List.range n).map f)[i]?=some x):i<n/\x=f i:=by grind
def ua{w a v}(h:w.cell? a=some v):dX w a.block:=by
 unfold World.cell? at h;split at h;.rename_i c t f e;exact⟨_,_,_,e⟩
 .cases h
def xZ{w}{a:Addr}{n cs}(h:w.cells? 0 (a.add 0) n=some cs)(c:0<n):dX w a.block:=by have⟨_,hl,b⟩:=VO h;have h0:=b 0 c;rw[bR O9]at h0;have:=ua h0;simpa[Addr.add]using this
structure Rj(W:World)(va:Option Addr)(vc:Nat)(xs:List Int):Prop where
 at_:xs.length≠0->∃b o,va=some ⟨b,o,none⟩/\∀(i:Nat) (y:Int),xs[i]?=some y->W.cell? ⟨b,o+i,none⟩=some (.int .i64 y)
 real:∀a,va=some a->dX W a.block\/(xs.length=0/\vc=0)
 yB:∀x∈xs,-9223372036854775808<=x/\x<9223372036854775808
 len:xs.length<=140737488355328
structure Ow(W:World)(sa:Option Addr)(sc:Nat)(l:List (Int×List Int)):Prop where
 at_:l≠[]->∃g o,sa=some ⟨g,o,none⟩/\∀(i:Nat) (x:Int×List Int),l[i]?=some x->(-9223372036854775808<=x.1/\x.1<9223372036854775808)/\∃va vc,W.cell? ⟨g,o+i*2,none⟩=some (.int .i64 x.1)/\W.cell? ⟨g,o+i*2+1,none⟩=some (.slice va x.2.length vc)/\Rj W va vc x.2
 real:∀a,sa=some a->dX W a.block\/(l.length=0/\sc=0)
 len:l.length<=140737488355328
section
variable{H:Type}{enc:TypeId×Value->H}{w:World}{held:Bool}
def Ox{fuel v x}(h:DataW.trod enc Tryz.prog w 0 (λ_=>true) held fuel 30 [v]=some x)(z:∀n∈x.1.weights Tryz.prog 30,n<=reachBytes):∃l va vc,v=.slice va l.length vc/\Rj w va vc l:=by
 obtain⟨c,_⟩|⟨a,len,cap,m,n,D,A,c,_,E,_,t,r,k⟩:=Go.Deep.open_slice Tryz.underlying30 h;.simp at c;exact⟨[],none,0,c,⟨λh=>absurd rfl h,λa e=>(by cases e),S8,S8⟩⟩
 .simp at c;subst t;have C:len*8<=140737488351232:=by have:=z ((((List.range len).map D).length+((List.range (m -len)).map λj=>D (len+j)).length)*Tryz.prog.bytesOf 3) (by rw[r];simp[DataW.weights]);rw[Tryz.Ov]at this;simp[reachBytes]at this;omega
  rw[Xq]at k;have u:dX w a.block\/(len=0/\m=0):=by
   by_cases h0:0<m;.have⟨cs,c0,_⟩:=k 0 h0;exact .inl (xZ (by simpa using c0) D9)
   .omega
  have⟨f,q⟩:=Go.Deep.choose_lt (α:=Int) (n:=len) (p:=λi d=>∃cs,w.cells? 0 (a.add (i*1)) 1=some cs/\cs=[.int .i64 d]/\(Lit.int .i64 d).wf=true) (λi hi=>by have⟨cs,h1,h2⟩:=k i O9;have⟨d,g,s⟩:=DY Tryz.underlying3 h2;exact⟨d,cs,h1,g,s.2⟩)
  refine⟨(List.range len).map f,some a,m,by simp[c],⟨λF=>?_,λa' e=>by cases e;simpa using u,λx r=>?_,by simp;omega⟩⟩
  .have h0:0<len:=by
    obtain e|e:=qy len;.simp_all
    .exact e
   have⟨B,c0,_⟩:=q 0 h0;obtain⟨b,o,rfl⟩:=Lf (by simpa using c0) D9;refine⟨b,o,rfl,λi d g=>?_⟩;obtain⟨hi,rfl⟩:=Em f len i d g;obtain⟨cs,c1,rfl,_⟩:=q i hi;have h2:=Hp c1 0 D9;simpa using h2
  .obtain⟨i,hi,rfl⟩:=iF.1 r;have⟨cs,_,_,y⟩:=q i (zm.1 hi);exact tZ y
def uZ{P e}:∀{l:List (DataW H)} {d:DataW H},d∈l->∀n∈d.weights P e,n∈DataW.weightsAll P e l
 |x::l,d,a,n,b=>by
   simp[DataW.weightsAll];obtain rfl|h:=iY.1 a;.simp_all
   .exact .inr (uZ h n b)
def Oy{fuel cs x}(h:DataW.trod enc Tryz.prog w 0 (λ_=>true) held fuel 32 cs=some x)(f:∀n∈x.1.weights Tryz.prog 32,n<=reachBytes):∃k l va vc,(-9223372036854775808<=k/\k<9223372036854775808)/\cs=[.int .i64 k,.slice va l.length vc]/\Rj w va vc l:=by
 have⟨g,y1,n,e,hl,h0,h1⟩:=trod_struct2 Tryz.underlying32 h;match cs,hl with
 |[c0,c1],_=>simp[Xq]at h0 h1;have⟨i,e2,b⟩:=DY Tryz.underlying3 h0;simp at e2;have⟨l,va,vc,d,a⟩:=Ox h1 (λm c=>f m (by rw[e];simp[DataW.weights,DataW.weightsEach,c]));exact⟨i,l,va,vc,tZ b.2,by rw[e2,d],a⟩
def Lg{fuel v x}(h:DataW.trod enc Tryz.prog w 0 (λ_=>true) held fuel 24 [v]=some x)(u:∀n∈x.1.weights Tryz.prog 24,n<=reachBytes):∃(l:List (Int×List Int)) (sa:Option Addr) (sc:Nat),v=.slice sa l.length sc/\Ow w sa sc l:=by
 obtain⟨c,_⟩|⟨a,len,cap,m,n,D,E,c,_,G,_,z,t,q⟩:=Go.Deep.open_slice Tryz.underlying24 h;.simp at c;exact⟨[],none,0,c,⟨λh=>absurd rfl h,λa e=>(by cases e),S8⟩⟩
 .simp at c;subst z;have F:len*32<=140737488351232:=by have:=u ((((List.range len).map D).length+((List.range (m -len)).map λj=>D (len+j)).length)*Tryz.prog.bytesOf 32) (by rw[t];simp[DataW.weights]);rw[Tryz.Le]at this;simp[reachBytes]at this;omega
  have C:∀i,i<len->∀n∈(D i).weights Tryz.prog 32,n<=reachBytes:=λi hi n A=>u n (by rw[t];simp[DataW.weights];exact .inr (.inl (uZ (iF.2 ⟨i,zm.2 hi,rfl⟩) n A)))
  rw[Tryz.Ld]at q;have B:dX w a.block\/(len=0/\m=0):=by
   by_cases h0:0<m;.have⟨cs,c0,_⟩:=q 0 h0;exact .inl (xZ (by simpa using c0) D9)
   .omega
  have⟨f,s⟩:=Go.Deep.choose_lt (α:=Int×List Int) (n:=len) (p:=λi d=>(-9223372036854775808<=d.1/\d.1<9223372036854775808)/\∃va vc,w.cells? 0 (a.add (i*2)) 2=some [↑d.1,.slice va d.2.length vc]/\Rj w va vc d.2) (λi hi=>by have⟨cs,h1,h2⟩:=q i O9;obtain⟨k,l,va,vc,r,rfl,g⟩:=Oy h2 (C i hi);exact⟨(k,l),r,va,vc,h1,g⟩)
  refine⟨(List.range len).map f,some a,m,by simp[c],⟨λH=>?_,λa' e=>by cases e;simpa using B,by simp;omega⟩⟩;have h0:0<len:=by grind
  have⟨_,I,J,c0,_⟩:=s 0 h0;obtain⟨b,o,rfl⟩:=Lf (by simpa using c0) D9;refine⟨b,o,rfl,λi d y=>?_⟩;obtain⟨hi,rfl⟩:=Em f len i d y;have⟨r,va,vc,c1,g⟩:=s i hi;have:=Hp c1;exact⟨r,va,vc,this 0 D9,this 1 D9,g⟩
end
section
variable{G:Gs}{W w:World}{args lK:Array Value}
def yC(S:Go.Ren.Start G W w args lK){b o v}(h:W.cell? (b,o)=some v)(d:kp (dX W) v):w.cell? ⟨b,o,none⟩=some v:=by
 have⟨cs,t,f,a⟩:=ua h;have⟨cs',k1,_,e,_⟩:=S.cells b cs t f a;have c:cs[o]?=some v:=by simpa[World.cell?,a]using h
 simpa[World.cell?,k1]using e o v c d
def Lh(S:Go.Ren.Start G W w args lK){b o a}(h:W.cell? (b,o)=some (.slice (some a) 0 0)):∃a',w.cell? ⟨b,o,none⟩=some (.slice (some a') 0 0):=by
 have⟨cs,t,f,c⟩:=ua h;have⟨cs',k1,_,_,g⟩:=S.cells b cs t f c;have d:cs[o]?=some (.slice (some a) 0 0):=by simpa[World.cell?,c]using h
 have⟨a',e⟩:=g o a d;exact⟨a',by simpa[World.cell?,k1]using e⟩
def Li(S:Go.Ren.Start G W w args lK){i:Nat}{l sa sc}(h:args[i]?=some (.slice sa l.length sc))(s:Ow W sa sc l):∃v,lK[i]?=some (.slice v l.length sc)/\Go.Proofs.aH.vR w w v l:=by
 have I:=S.size;by_cases hr:∀a,sa=some a->dX W a.block
 .refine⟨sa,S.adw i _ h ?_,⟨λhl=>?_⟩⟩;.cases sa with
   |none=>trivial
   |some a=>exact hr a rfl
  .obtain⟨g,o,rfl,F⟩:=s.at_ hl;have C:=(hr _ rfl).lt;simp only at C;refine⟨g,o,O9,rfl,λj x D=>?_⟩;have⟨E,va,vc,h1,h2,m⟩:=F j x D;refine⟨E,?_⟩;have fin:∀f,w.cell? (g,o+j*2+1)=some (.slice f x.2.length vc)->(x.2.length≠0->f=va)->∃va vc,w.cell? (g,o+j*2)=some ↑x.1/\w.cell? (g,o+j*2+1)=some (.slice va x.2.length vc)/\Go.Proofs.aH.n9 ↑w w (.slice va x.2.length vc) x.2:=λf n B=>by
    refine⟨f,vc,yC S h1 trivial,n,⟨⟨f,vc,rfl,λd=>?_⟩,m.yB,m.len⟩⟩;have⟨b,o',A,u⟩:=m.at_ d;refine⟨b,o',?_,(B d).trans A,λk y r=>yC S (u k y r) trivial⟩;have:∃y,x.2[0]?=some y:=by cases H:x.2 with
     |nil=>rw[H]at d;exact absurd rfl d
     |cons y t=>exact⟨y,rfl⟩
    have⟨y,r⟩:=this;have:=(ua (u 0 y r)).lt;simp only at this;omega
   by_cases q:∀a,va=some a->dX W a.block
   .refine fin va (yC S h2 ?_) λ_=>rfl;cases va with
    |none=>trivial
    |some a=>exact q a rfl
   .cases va with
    |none=>exact absurd (λa e=>by cases e) q
    |some a=>
      have p:¬dX W a.block:=λh=>q λa' e=>by cases e;exact h
      obtain⟨c,rfl⟩:=(m.real a rfl).resolve_left p;rw[c]at h2;have⟨a',n⟩:=Lh S h2;exact fin (some a') (by rw[c];exact n) λd=>absurd c d
 .cases sa with
  |none=>exact absurd (λa e=>by cases e) hr
  |some a=>
    have p:¬dX W a.block:=λh=>hr λa' e=>by cases e;exact h
    obtain⟨c,rfl⟩:=(s.real a rfl).resolve_left p;rw[c]at h;have⟨a',z⟩:=S.afH i a h;refine⟨some a',by rw[c];exact z,⟨λhl=>absurd ?_ hl⟩⟩;exact oL c
end
end Go.Proofs.YtpjcmpfncpnmeabGreat
namespace Go.Proofs.aH
open Go.RowKit
attribute [local go_sem↓] Go.wp_at_zero Go.wp_at_succ
def aI.Ze:(Vp.info? 9).map (λi=>(i.zero,i.size,i.bytes))=some (some ↑aB,1,16):=by kernel_rfl
def JC{B:Nat}{w:World}{ops:Array Oper}{rest:List Oper}{o:Oper}{a:Act}{Q:Exit->Act->World->Prop}(hgd:o.guard=none)(s x:Operand)(ho:o.op=.call {callee:=.builtin .append,args:=#[s,x],argTypes:=#[34,34]})(v:Value)(n:Nat)(l:List Value)(hs:a.eval s=v)(hown:w.ownsRow B 9 1 v n l)
 (g:Nat)(u:Value)(h1:u.oneCell'=true)(hx:a.eval x=.slice (some ⟨g,0,none⟩) 1 1)(hg:Row w g 9 [u])(hlen:n<=20000000)(hB:B<=w.heap.size)
 (h:∀v' w',w'.ownsRow B 9 1 v' (n+1) (l++[u])->w.grownBy w' v.ownBlock->wpList Vp ops Q rest (a.put o.dst v') w'):wpList Vp ops Q (o::rest) a w:=by
 have⟨i0,hi,hz0,hz1,hz2⟩:=info_parts aI.Ze;refine wpList_append_own_at _ hgd s x 34 ho B 9 i0 _ 1 16 aI.underlying34 hi hz0 hz1 hz2 rfl (by decide) v n l hs hown ⟨g,0,none⟩ 1 1 [u] hx rfl (λj u hj=>by rw[add0,hg.cell];exact hj) (λy hy=>by rw[List.mem_singleton.1 hy];exact h1) (by unfold maxLen;omega) (by omega) hB ?_;exactλv' w' h1 h2 _ _=>h v' w' h1 h2
def Xv(c:fP)(l sa sc w)(e1:c.Ints)(az:vR w.heap.size w sa l)(hl:l.length<=1048576):Cv 5 #[.agg #[c.wk,c.sh,c.me,c.su,c.bi],.slice sa l.length sc] w λe w'=>e=.returned ↑aD/\Lw w w w':=by
 have c8:Below w w (w.alloc (.cells #[↑c.wk,↑c.sh,↑c.me,↑c.su,↑c.bi] 23)):=B0.alloc L9 _;have di:=Ux c (w.alloc (.cells #[↑c.wk,↑c.sh,↑c.me,↑c.su,↑c.bi] 23)) e1;obtain⟨gl,gm,e7,e8⟩:=R8 c;go_enter fA Tryz.func5,Tryz.ntmps5;go_wp2;refine di.mono ?_;rintro e w1 ⟨rb,B,r0,a0,rfl,db⟩;obtain⟨s0,h0⟩:=Zb c8 db;clear db di c8;have ao:w1.cell? (rb,10)=some ↑(mk s0):=h0.1;go_wp2;replace h0:=h0.2;clear ao;generalize w1.alloc (.cells #[aB,.string (mk s0)] 9)=w2 at h0|-;generalize w1.heap.size=bk at h0|-;go_loopw [6,7] (λv i wr=>∃(k:Nat) (r:pW) (a:AG) (bs:List (List UInt8)),k<=l.length/\i=↑(k:Int)/\PF w wr rb B (2+k) c r a v bs) (λ_ i _=>l.length -(intOf i).toNat);exact⟨0,r0,a0,_,fQ _,rfl,h0⟩;case round=>
  clear h0;obtain⟨k,r,a,bs,gq,rfl,N⟩:=hrel;by_cases cf:k<l.length;.as_aux_lemma=>
   have cv:=bR cf;generalize l[k]=x at cv;obtain⟨gd,ee⟩:=x;obtain⟨g,o,gn,fg,dj⟩:=(az.lw N.p.lw).at_ (by intro e;rw[e]at cf;simp at cf);subst fg;obtain⟨dz,va,vc,ea,eb,av⟩:=dj k _ cv;simp only at ea eb av dz;have br:=Zf gd ee va vc wr N.p.run dz N.p.i0 N.p.jZ av ⟨N.p.lo.1,N.p.lo.2.1⟩ O9 (by rw[N.p.c];exact⟨e7,e8⟩);have gp:(0:Int)<=(k:Int):=O9;have e9:(k:Int)<(l.length:Int):=O9;replace br:=aN br;replace av:=aN av;replace az:=aN az;clear dj cv;go_wp2;refine br.out.mono ?_;rintro e w2 ⟨rfl,m,cj⟩;have ff:=cj.made;clear br av ea eb;obtain⟨fe,fi,-⟩|⟨s,b,g2,x,M⟩:=ff
   .have z:=N.none cj fi;have ao:w2.cell? (rb,10)=some ↑(mk []):=(z.p.run.row.cell 10).trans (by show some (Value.string m.made)=_;rw[fe]);have dp:(mk []).toList.isEmpty=true:=by rw[ByteArray.toList_eq];rfl
    go_wp2;exact⟨⟨k+1,m,a,bs,O9,rfl,z⟩,by simp[intOf];omega⟩
   .have q:=N.p.make cj;have ao:w2.cell? (rb,10)=some ↑(mk s):=(q.run.row.cell 10).trans (by show some (Value.string m.made)=_;rw[M.made]);have dp:=FI M.ne;have y:=R7 N cj;have nl:bs.length<=20000000:=by have h1:=N.bn;have h2:=N.p.jZ.il;omega
    have bl:(bs.map mk).length=bs.length:=eY ..;have bA:Below w2 w2 (w2.alloc (.cells #[↑(mk s)] 9)):=B0.alloc L9 _;have NP:=aW w2 [↑(mk s)] 9;have O1:=oP y (.cells #[↑(mk s)] 9);have B1:w.heap.size<=(w2.alloc (.cells #[↑(mk s)] 9)).heap.size:=bL q.lw.size bA.size;rw[bl]at O1;obtain⟨pa,pc,rfl⟩:=bI O1;go_wp2_with (at_builtin;refine JC rfl _ _ rfl (.slice pa bs.length pc) bs.length _ (by simp[Act.eval]) O1 w2.heap.size ↑(mk s) rfl (by simp[Act.eval]) NP nl B1 ?_;intro v1 w3 o1 g1;obtain⟨ig,ic,hv1⟩:=cT o1 bs.length rfl;subst hv1);have F:=abW N M (q.keep bA) (aV y bA) cj.c g1 o1;have c0:=F.p.run.row.r 0;have c10:w3.cell? (rb,10)=some ↑(mk s):=(F.p.run.row.cell 10).trans (by show some (Value.string m.made)=_;rw[M.made]);have hj:m.ids[bs.length]?=some (kA s):=by rw[M.ids,N.bn];simp
    have hb:(bs++[s])[bs.length]?=some s:=by simp
    have gD:Hid (Below w3 w3 w3.drew):=dB B0;have hsub:Hid (Cv 12 #[.pointer m.nb,↑(mk s)] w3.drew λe w'=>∃v,e=.returned v/\(gY w' m.nb m.c (kW m.c a s).2.2.2/\Ck a.lo Y2 w3.drew w')):=(JD s w3.drew (F.p.node.keep gD.out)).mono λe w' ⟨he,h1,h2⟩=>⟨_,he,h1,h2.1⟩;have hfin:Hid (∀W:World,gY W m.nb m.c (kW m.c a s).2.2.2->Ck a.lo Y2 w3.drew W->PF w W rb B (2+k+1) c m (kW m.c a s).2.2.2 (.slice ig (bs.length+1) ic) (bs++[s])):=λW h1 h2=>(F.keep gD.out).sub hj hb h1 h2;have hSk:Hid (∀W:World,gY W m.nb m.c (kW m.c a s).2.2.2->Ck a.lo Y2 w3.drew W->W.cell? (rb,0)=some (.pointer m.nb)/\W.cell? (rb,10)=some ↑(mk s)):=λW h1 h2=>by have h:=(hfin.out W h1 h2).p.run;exact⟨h.row.cell 0,(h.row.cell 10).trans (by show some (Value.string m.made)=_;rw[M.made])⟩
    clear F y NP O1 B1 o1 g1 bA q N cj M ao dp hj hb;go_wp2;go_region_held3 (λW=>W.cell? (rb,0)=some (.pointer m.nb)/\W.cell? (rb,10)=some ↑(mk s)) (first|with_reducible exact hSk.out _ hN gX|go_keep) ((go_at_call 12;refine hsub.out.mono ?_;rintro e w4 ⟨v4,rfl,hN,gX⟩))
    go_wp2;exact⟨⟨k+1,m,_,_,O9,rfl,hfin.out _ hN gX⟩,by simp[intOf];omega⟩
  .have e9:¬(k:Int)<(l.length:Int):=O9;obtain⟨X,ig⟩:∃X,X=wr:=⟨_,rfl⟩;subst ig;have ok:r.c.ok=true:=by rw[N.p.c];exact gl
   have dp:=RQ r.c X;unfold fP.v ptr at dp;have u1:=N.p.run.row.r 1;have u2:=N.p.run.row.r 2;have u3:=N.p.run.row.r 3;have u4:=N.p.run.row.r 4;have u5:=N.p.run.row.r 5;go_wp2;refine dp.mono ?_;rintro e w2 ⟨b2,⟨ko,_⟩|⟨yb,_,rfl,_,n0⟩⟩;.rw[ok]at ko;cases ko
   have Y:=Sa n0 ok;have F0:=fold_zero X.heap.size N.src N.p.node.wf;clear dp u1 u2 u3 u4 u5 n0;have N2:=N.keep b2;have c0:=N2.p.run.row.r 0;have hti:Cv 10 #[.pointer r.nb] w2 λe w'=>e=.returned (.agg #[↑(cY a).id,↑((a.ch.length -1:Nat):Int),↑(cY a).wo])/\Below w2 w2 w':=PW w2 N2.p.node.is;go_wp2;refine hti.mono ?_;rintro e w3 ⟨rfl,b3⟩;have bc:Below w3 w3 (w3.alloc (.cells #[↑(cY a).id,↑((a.ch.length -1:Nat):Int),↑(cY a).wo] 39)):=B0.alloc L9 _;have R:=aW w3 [↑(cY a).id,↑((a.ch.length -1:Nat):Int),↑(cY a).wo] 39;have b4:=b3.trans (bc.mono b3.size);have bw:=b2.trans (b4.mono b2.size);replace Y:=Y.keep b4;go_wp2;generalize w3.alloc (.cells #[↑(cY a).id,↑((a.ch.length -1:Nat):Int),↑(cY a).wo] 39)=w4 at R Y bw|-;generalize w3.heap.size=tb at R|-;clear hti c0 b3 bc b4 N2 b2;have hz:=N.p.node.wf;have hc1:1<=a.ch.length:=by obtain⟨z,z1,_⟩:=hz.ch0;have:=(bW.1 z1).1;omega
   have hc2:a.ch.length<=49:=by have h1:=hz.MP;have h2:=hz.ll;omega
   go_loopw [12] (λi wq=>∃(h:Nat) (y:AG),h+1<=a.ch.length/\i=↑((h+1:Nat):Int)/\Below X X wq/\gY wq yb r.c y/\y.lo=X.heap.size/\q7 a y h/\Row wq tb 39 [↑(cY a).id,↑((a.ch.length -1:Nat):Int),↑(cY a).wo]) (λi _=>a.ch.length -(intOf i).toNat);exact⟨0,_,hc1,rfl,bw,Y,rfl,F0,R⟩;case round=>
    clear R Y bw F0;obtain⟨h,y,h1,rfl,bw,Y,lo,F,R⟩:=hrel;have Nq:=N.keep bw;have c0:=Nq.p.run.row.r 0;have t1:=R.r 1;by_cases hlt:h+1<a.ch.length;.as_aux_lemma=>
     obtain⟨u,x,j,s,y',f1,f2,f3,f4,f5,f6,f7,f8⟩:=N.fold F Y.wf hlt;have e2:((h+1:Nat):Int)<=((a.ch.length -1:Nat):Int):=O9;have ha:=af2 (h+1) _ Nq.p.node f1 f2;unfold ptr at ha;go_wp2;refine ha.mono ?_;rintro e w5 ⟨rfl,b5⟩;have N5:=Nq.keep b5;have Y5:=Y.keep b5;have R5:=R.keep b5 R.lt;obtain⟨va,vc,hv⟩:=bI N5.p.run.ids;have c6:w5.cell? (rb,6)=some (.slice va r.ids.length vc):=by rw[<-hv];exact N5.p.run.row.cell 6
     have hp:=Ik x.id w5 N5.p.run.ids (by have:=N.p.jZ.il;omega);rw[f3,hv]at hp;have j1:¬(j:Int)<1:=O9;have j0:(0:Int)<=(j:Int):=O9;have jl:(j:Int)<(bs.length:Int):=by have:=(bW.1 f5).1;omega
     obtain⟨g,gc,hg,q5⟩:=DN N5.own (k:=j) (u:=↑(mk s)) (by simp[f5]);rw[eY]at hg;subst hg;have hs:=JD s w5 Y5;rw[f6,lo]at hs;unfold ptr at hs;clear ha c0 t1 f3 f6 Nq Y;go_wp2;refine hp.m0 ?_;go_wp2;refine hs.mono ?_;rintro e w6 ⟨rfl,Y6,k6,b6⟩;have ba:Below w6 w6 (w6.alloc (.cells #[aA,aG] 44)):=B0.alloc L9 _;have Q:=aW w6 [aA,aG] 44;have q0:=Q.r 0;have q1:=Q.r 1;have g1:=MT 0 1;have R6:=(R5.ck k6 (Aj D9 D9 D9 D9 D9 D9)).keep ba (R5.ck k6 (Aj D9 D9 D9 D9 D9 D9)).lt;have b7:Below X X (w6.alloc (.cells #[aA,aG] 44)):=(bw.trans (b5.mono bw.size)).trans (b6.trans (ba.mono (bL (bL bw.size b5.size) b6.size)));go_wp2;exact⟨⟨h+1,y',O9,rfl,b7,Y6.keep ba,by rw[f8];exact lo,f7,R6⟩,by simp[intOf];omega⟩
    .have hh:h=a.ch.length -1:=O9;subst hh;obtain⟨z1,z2,z3,z4⟩:=Zd F hz;have e2:¬((a.ch.length -1+1:Nat):Int)<=((a.ch.length -1:Nat):Int):=O9;have hti:Cv 10 #[.pointer yb] wr λe w'=>e=.returned (.agg #[↑(cY a).id,↑((a.ch.length -1:Nat):Int),↑(cY a).wo])/\Below wr wr w':=by have:=PW wr Y.is;unfold AN.Zg AG.an at this;simp only[z1,z2,z3]at this;exact this
     have hca:=Zh hz;obtain⟨C,hC,hCl⟩:=hca;have hCy:rV y.an.K C:=by show rV y.K C;rw[z4];exact hC
     clear e2 t1 c0;have e2:¬((a.ch.length -1+1:Nat):Int)<=((a.ch.length -1:Nat):Int):=O9;have t1:=R.r 1;go_wp2;refine hti.mono ?_;rintro e w5 ⟨rfl,b5⟩;have ba:Below w5 w5 (w5.alloc (.cells #[↑(cY a).id,↑((a.ch.length -1:Nat):Int),↑(cY a).wo] 39)):=B0.alloc L9 _;have μ:=aW w5 [↑(cY a).id,↑((a.ch.length -1:Nat):Int),↑(cY a).wo] 39;have b6:=b5.trans (ba.mono b5.size);have N6:=Nq.keep b6;have Y6:=Y.keep b6;have R6:=R.keep b6 R.lt;have c0:=N6.p.run.row.r 0;have hcx:=Ib C _ N6.p.node.is hC hCl;unfold ptr at hcx;clear hti t1 Nq Y R b5 ba b6;go_wp2;generalize w5.alloc (.cells #[↑(cY a).id,↑((a.ch.length -1:Nat):Int),↑(cY a).wo] 39)=w6 at μ N6 Y6 R6 c0 hcx|-;generalize w5.heap.size=ub at μ|-;refine hcx.mono ?_;rintro e w7 ⟨v,D,p1,p2,rfl,o1,b7⟩;have Y7:=Y6.keep b7;have hcy:=Ib C _ Y7.is hCy hCl;unfold ptr at hcy;clear hcx c0;go_wp2;refine hcy.mono ?_;rintro e w8 ⟨v',D',p3,p4,rfl,o2,b8⟩;have hDD:D'=D:=Il D' D (p3.trans p1.symm) p4 p2 ((p3.map dJ.pt).symm.nodup hC.nd);subst hDD;replace o1:=aV o1 b8;have b9:=b7.trans (b8.mono b7.size);have N9:=N6.keep b9;have R9:=R6.keep b9 R6.lt;have U9:=μ.keep b9 μ.lt;have c0:=N9.p.run.row.r 0;have t1:=R9.r 1;have gD:Hid (Below w8 w8 w8.drew):=dB B0;have hno:Hid (Cv 15 #[.pointer r.nb,↑((a.ch.length:Nat):Int)] w8.drew λe w'=>e=.returned (.tuple #[aB,.int .i64 18])/\Below w8 w8 w'):=(af3 a.ch.length w8.drew (N9.p.node.keep gD.out) L9 O9).mono λe w' ⟨h1,h2⟩=>⟨h1,gD.out.trans (h2.mono gD.out.size)⟩;have hk:Hid (∀W,Below w8 w8 W->W.cell? (rb,0)=some (.pointer r.nb)/\W.cell? (tb,1)=some ↑((a.ch.length -1:Nat):Int)):=λW h=>⟨aY h c0,aY h t1⟩;have hw:IntKind.i64.wrap (((a.ch.length -1:Nat):Int)+1)=((a.ch.length:Nat):Int):=by rw[vG];omega
     have d3:D'.length<=100000:=by rw[p3.length_eq];exact hCl
     have hlw:=N9.p.lw;clear e2 hcy b9 Y6 Y7 N6 R6 μ;go_wp2;go_region_held3 (λW=>W.cell? (rb,0)=some (.pointer r.nb)/\W.cell? (tb,1)=some ↑((a.ch.length -1:Nat):Int)) (first|with_reducible exact hk.out _ gX|go_keep) ((go_at_call 15;refine hno.out.mono ?_;rintro e w9 ⟨rfl,gX⟩))
     have RT:=R9.keep gX R9.lt;have UT:=U9.keep gX U9.lt;have x0:=RT.r 0;have x1:=RT.r 1;have x2:=RT.r 2;have y0:=UT.r 0;have y1:=UT.r 1;have y2:=UT.r 2;have ts:=MU (cY a).id ((a.ch.length -1:Nat):Int) (cY a).wo;have sm:=GM D' w9 (aV o1 gX) (aV o2 gX) d3;go_wp2;refine sm.mono ?_;rintro e w10 ⟨rfl,b10⟩;go_wp2;go_ret;exact⟨rfl,hlw.trans ((MR gX).trans (MR b10))⟩
end Go.Proofs.aH
namespace Go.Proofs.YtpjcmpfncpnmeabGreat
open Go.ChangeShapes Go.WideShapes Go.ChangeAt Go.RowKit Go.Conc Go.Ren
open Go.ConcM (OsLater)
def aI.Xr(f)(h:aI.X0 f):∃fn s,Vp.funcs[f]?=some fn/\fn.body=some (.refuse s):=by obtain rfl:=h;exact⟨_,_,aI.func2,rfl⟩
def Ti(h:aI.X 5):False:=by revert h;unfold aI.X aI.code;decide
def En(h:aI.X0 5):False:=by revert h;unfold aI.X0;decide
def Xt{a b}{v:Array Value}(h:v.size=2)(h0:v[0]?=some a)(h1:v[1]?=some b):v=#[a,b]:=by grind
def Tj(c:Go.Proofs.aH.fP)(q:c.Ints)(l sa sc W)(n:Ow W sa sc l)(hl:l.length<=1048576):Go.Ren.Ends Tryz.prog (λv W'=>v=↑aD/\Xu W W') (solo (cG Tryz.prog 5 #[.agg #[c.wk,c.sh,c.me,c.su,c.bi],.slice sa l.length sc] .normal []) W) #[]:=by
 have⟨G,w,lK,S⟩:=Tm W #[.agg #[↑c.wk,↑c.sh,↑c.me,↑c.su,↑c.bi],.slice sa l.length sc];have⟨u,g,o⟩:=Li S (i:=1) rfl n;have d:=S.adw 0 (.agg #[↑c.wk,↑c.sh,↑c.me,↑c.su,↑c.bi]) rfl (by intro v a;simp at a;obtain rfl|rfl|rfl|rfl|rfl:=a<;>exact⟨_,_,rfl⟩)
 have j:=Xt S.afI d g;subst j;refine Tn aI.afz aI.WT aI.WU aI.Xr Eg En Ti S (λp m t h=>meet p m t h) (λt=>?_);have k:=Go.Proofs.aH.Xv c l u sc {w with tape:=t,drawn:=0} q (o.lw ⟨L9,λ_ _ _ _ _ h=>h⟩) hl;have⟨N,v,w',h1,h2⟩:=Calls.done (R:=λv w'=>v=↑aD/\Whole w w') (k.mono λe w' r=>by obtain⟨rfl,s⟩:=r;exact⟨rfl,λb cs t f h=>s.cells b cs t f (eG.1 h).1 h⟩) (by have:=(aI.WU.ok 5 En).2;simpa[yA]using this)
 exact⟨N,v,w',h1,h2⟩
def Tryz.agQ:ownKnob Tryz.prog.godebug=none:=K8
def Tryz.Xw:laidOutB Tryz.prog=true:=K8
def adx:=@Tryz.Xw
def Tryz.Oz:Tryz.prog.cellsOf 23=5:=K8
def agR{α:Type}{cs:Array α}(h:cs.size=5):∃c0 c1 c2 c3 c4,cs=#[c0,c1,c2,c3,c4]:=by have⟨l⟩:=cs;match l,h with
 |[c0,c1,c2,c3,c4],_=>exact⟨c0,c1,c2,c3,c4,rfl⟩
def OB{H enc w base spare held r m v}{d:DataW H}{p}(s:Value.okWide Tryz.prog w r m 23 v)(h:DataW.Trod enc Tryz.prog w base spare held 23 v d p):∃c:Go.Proofs.aH.fP,c.Ints/\v=.agg #[c.wk,c.sh,c.me,c.su,c.bi]:=by
 obtain⟨cs,rfl,q⟩:=okWide_struct Tryz.underlying23 s;obtain⟨c0,c1,c2,c3,c4,rfl⟩:=agR (q.trans Tryz.Oz);have⟨fuel,o⟩:=h;have⟨z,n,_,_,_,hlen,a⟩:=DataW.trod_struct Tryz.underlying23 o;match z,hlen with
 |[F,y1,G,I,J],_=>have g:=a 0 _ rfl;have i:=a 1 _ rfl;have j:=a 2 _ rfl;have k:=a 3 _ rfl;have l:=a 4 _ rfl;simp[Xq,Value.cells]at g i j k l;have⟨i0,b,w0⟩:=DY Tryz.underlying3 g;have⟨t,e,w1⟩:=DY Tryz.underlying3 i;have⟨u,e2,w2⟩:=DY Tryz.underlying3 j;have⟨x,e3,w3⟩:=DY Tryz.underlying3 k;have⟨y,f,w4⟩:=DY Tryz.underlying3 l;simp at b e e2 e3 f;refine⟨⟨i0,t,u,x,y⟩,?_,by rw[b,e,e2,e3,f]⟩;have A:=tZ w0.2;have B:=tZ w1.2;have C:=tZ w2.2;have D:=tZ w3.2;have E:=tZ w4.2;constructor<;>simp_all
def Lj{W W'}(h:Xu W W'):Below W W {W' with os:=W.os,tape:=W.tape}:=⟨rfl,rfl,h.out,h.size,h.block⟩
def Xx{H}(d:DataW H):1<=Rows.uptoBulk d:=by cases d with
 |lit l=>cases l<;>simp[Rows.uptoBulk]
 |_=>simp[Rows.uptoBulk]
def Lm{H}:∀l:List (DataW H),l.length<=Rows.uptoBulkAll l
 |[]=>fQ _
 |d::l=>by have h1:=Xx d;have h2:=Lm l;simp[Rows.uptoBulkAll];omega
def OC{H enc w held fuel a n c}{x:DataW H×List MemPlace}(h:DataW.trod enc Tryz.prog w 0 (λ_=>true) held fuel 24 [.slice a n c]=some x):n<=Rows.uptoBulk x.1:=by
 obtain⟨b,_⟩|⟨a',len,cap,m,j,D,e,b,_,g,_,i,d,f⟩:=Go.Deep.open_slice Tryz.underlying24 h;.simp_all
 .simp at b;rw[b.2.1,d];have:=Lm ((List.range len).map D);simp at this;simp[Rows.uptoBulk];omega
end Go.Proofs.YtpjcmpfncpnmeabGreat
