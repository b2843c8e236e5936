/- What is Fi shows in nothing: two nodes that have the same blocks and the same chain answer the same. -/
import Derived.Test.YtpjcmpfncpnmeabGreatM17
import Derived.Test.YtpjcmpfncpnmeabGreatM18
import Derived.Test.YtpjcmpfncpnmeabGreatM21
set_option linter.all false
set_option maxHeartbeats 16000000
set_option maxRecDepth 100000
namespace Go.Proofs.aH
open Go.RowKit Tryz
attribute [local go_sem↓] Go.wp_at_zero Go.wp_at_succ
section
def SP:=@cell_regrown
variable{LB:Nat}
def Tk.low{LB Y n mb w w'}(h:Tk LB Y n mb w w')(c:LB<=w.heap.size/\∀i,i<n->LB<=mb i):Below LB w w':=⟨h.os,h.tape,h.output,h.size,λk d=>by
  have e:=nD (xs:=w.heap) (i:=k) (by omega);generalize w.heap[k]=o at e;rw[e];have g:¬kP n mb k:=by rintro⟨i,hi,q⟩;have:=c.2 i hi;omega
  cases o with
  |cells cs t f=>exact h.cells k cs t f e (.inl d)
  |_=>exact h.rest k _ e rfl g⟩
def JD{nb c a}(s w)(h:gY w nb c a):Cv 12 #[ptr nb,(mk s)] w λe w'=>e=.returned (.tuple #[.agg #[(kW c a s).1,(kW c a s).2.1],(kW c a s).2.2.1])/\gY w' nb c (kW c a s).2.2.2/\Ck a.lo Y2 w w'/\Below a.lo w w':=by
 have⟨y,L,D⟩:=h;have k:=aW w [aA,aA] 44;have G:Below w w (w.alloc (.cells #[aA,aA] 44)):=B0.alloc L9 _;have fh:=D.base.nd.mem.row.lt;have bc:a.lo<=(w:Nat):=by have h1:a.lo<=nb:=D.base.low.1.1;omega
 have zM:Hid (a.lo<=w.heap.size/\∀i,i<y.n->a.lo<=y.mb i):=⟨bc,D.base.low.1.2⟩;unfold ptr;go_enter_defers fA func12,ntmps12;go_wp2;replace D:=D.keep G;generalize w.alloc (.cells #[aA,aA] 44)=X at k G D|-;refine(aan s X).mono ?_;rintro e w1 ⟨O,⟨ai,rfl⟩|⟨b,gt,Q,ai,rfl,M,bq,ey⟩⟩
 .have E:kW c a s=(0,0,1,a):=by unfold kW;rw[ai]
  replace E:=aN E;have μ:Below w1 w1 (w1.alloc (.cells #[aB,aB,aA,()] 110)):=B0.alloc L9 _;replace k:=(k.keep O k.lt).keep μ (eQ k.lt O.size);replace D:=(D.keep O).keep μ;replace G:=(G.trans (O.mono G.size)).trans (μ.mono (bL G.size O.size));have c0:=k.r 0;have c1:=k.r 1;have f0:=k.frozen 0;have f1:=k.frozen 1;have cd:=k.lt;unfold SI;go_wp2;generalize w1.alloc (.cells #[aB,aB,aA,()] 110)=Y at k D G|-;have⟨v,K,T⟩:=AH (LB:=a.lo) (mb:=y.mb) k 0 0 bc;have u:Tk a.lo Y2 0 y.mb w _:=T (AE G);replace D:=D.tk K D9 D9 D9 D9 D9 D9 D9 D9 D9 D9 D9;generalize(Y.setCell ⟨(w:Nat),0,none⟩ ↑aA).setCell ⟨(w:Nat),1,none⟩ ↑aA=F at v K u D|-;have k0:=v.r 0;have k1:=v.r 1;exact⟨.tuple #[.agg #[aA,aA],aG],by simp[results,results12,go_sem,k0,k1],by rw[E.out],⟨y,L,by rw[E.out];exact D⟩,u.ck,u.low ⟨zM.out.1,λi hi=>absurd hi (nU i)⟩⟩
 .have⟨bu,_⟩:=oC ai;have br:=(iN b).1 bu;have et:∃N:Nat,b.bits=(N:Int)/\N<=8:=⟨b.bits.toNat,O9,O9⟩;have⟨N,hN,cr⟩:=et;have ao:b.bits.toNat=N:=O9;have hlen:Q.length=b.cI.length:=by have:=congrArg List.length bq;simpa using this
  have ep:1<=Q.length/\Q.length<=8:=by have h1:=(BP bu).1;have h2:=br.2.2.2.1;omega
  have a6:=BH ai;rw[a6,hN];generalize a8:mk ((idB s).take 7++[iE s])=I;have μ:Below w1 w1 (w1.alloc (.cells #[I,↑(mk b.parent),↑(N:Int),.slice gt Q.length Q.length] 110)):=B0.alloc L9 _;have RH:=aW w1 [I,↑(mk b.parent),↑(N:Int),.slice gt Q.length Q.length] 110;replace k:=(k.keep O k.lt).keep μ (eQ k.lt O.size);replace D:=(D.keep O).keep μ;replace G:=(G.trans (O.mono G.size)).trans (μ.mono (bL G.size O.size));replace M:=M.keep μ;have b6:Hid (kW c a s=if pV a c.bi s b≠0 then(0,0,pV a c.bi s b,a)else if(cP a s b).wo<=(cY a).wo then(0,0,0,{a with bl:=a.bl++[cP a s b]})else wJ c {a with bl:=a.bl++[cP a s b]} a.bl.length (cP a s b).aU):=by show _=_;unfold kW;rw[ai]
  have dt:Hid (∀W,gM W nb oG c y L a->Cv 32 #[.pointer nb,.agg #[I,↑(mk b.parent),↑(N:Int),.slice gt Q.length Q.length]] W λe w'=>e=.returned ↑(pV a c.bi s b)/\Below (W:Nat) W w'):=by
   intro W aa;have fg:y.l.length<=49:=by rw[aa.ll];exact aa.wf.ll
   have h1:=ND (nb:=nb) (gt:=gt) (q:=Q.length) (c:=Q.length) ((idB s).take 7) (iE s) (mk b.parent) N c.bi W aa.base.nd.qf (by rw[aa.base.nd.mem.row.cell];exact aa.base.nd.Nc) (by rw[aa.base.nd.mem.row.cell];rfl) O9 (VN aa.base.vp) cr (by rw[jO,JI];decide);rw[a8,<-ao,ae4 aa (t:=s) br.2.1.1 I (by rw[a6,a8]),ao]at h1;exact h1
  change Hid _ at a8 a6 hN ao hlen bq ai br bu;go_wp2;generalize w1.alloc (.cells #[I,↑(mk b.parent),↑(N:Int),.slice gt Q.length Q.length] 110)=V at k RH D G M|-;clear μ O;generalize(w1:Nat)=bh at RH|-;refine(Qc V D.base.row).mono ?_;rintro e w2 ⟨rfl,dq,de⟩;have⟨B,ae⟩:=D.shut rfl (lk':=oG) rfl de dq;have u:Tk a.lo Y2 y.n y.mb w w2:=(AE G).trans (ae.zero.mono (λt e=>.inl (.inl (.inl e))));replace k:=k.tk ae D9;replace RH:=RH.tk ae D9;replace M:=M.tk ae D9 D9 D9;clear D dq de ae G;have k0:=RH.r 0;have k1:=RH.r 1;have k2:=RH.r 2;have cz:=RH.r 3;have du:=aN (dt.out w2 B);go_wp2;refine du.out.m1 λw3 au=>?_;replace k:=k.keep au k.lt;replace RH:=RH.keep au RH.lt;replace M:=M.keep au;replace B:=B.keep au;replace u:Tk a.lo Y2 y.n y.mb w w3:=u.trans (AE au);clear du dt k0 k1 k2 cz au;by_cases hr:pV a c.bi s b=0
  .have bj:Hid (kW c a s=if(cP a s b).wo<=(cY a).wo then(0,0,0,{a with bl:=a.bl++[cP a s b]})else wJ c {a with bl:=a.bl++[cP a s b]} a.bl.length (cP a s b).aU):=by have:=b6.out;rw[aS (by simpa using hr)]at this;exact this
   have cv:=a6.out.trans a8.out;have⟨r1,r2,r3,fj⟩:=tL hr;obtain⟨p,di,bz⟩:∃p,jR y.l (mk b.parent)=some p/\y.l[yT a b]?=some p:=by
    obtain⟨db,_⟩|⟨_,p,e2,e3⟩:=aaA B b;.rw[r2]at db;cases db
    .exact⟨p,e2,e3⟩
   have b7:=B.tie _ _ _ bz (oD r2).1;have ff:y.l.length<=49:=by rw[B.ll];exact B.wf.ll
   have dp:(0<=p.aU/\p.aU<=100000)/\(0<=p.wo/\p.wo<=100000000):=by have h1:=B.wf.hle _ _ (oD r2).1;have h2:=(bW.1 (oD r2).1).1;have ek:=B.wf.ll;rw[b7.aU,b7.wo];omega
   have ba:=aaa (gt:=gt) (q:=Q.length) (c:=Q.length) I (mk b.parent) N p w3 B.base.nd.mem.row B.base.nd.Nc B.base.nd.qf di B.base.nd.mem.base O9 cr dp.1 dp.2;unfold ptr at ba;replace ba:=aN ba;have k0:=RH.r 0;have k1:=RH.r 1;have k2:=RH.r 2;have cz:=RH.r 3;have ez:=aN hr;rw[hr];change Hid _ at cv bz r1;clear b6 hr di;go_wp2;refine ba.out.mono ?_;rintro e w4 ⟨A,eh,rfl,en,bo,cx,da⟩;have ca:Tk a.lo Yk 0 y.mb w3 w4:=(SK B.base bo cx da).2.2;replace M:=M.tk ca (by unfold Yk;decide) (by unfold Yk;decide) (by unfold Yk;decide);rw[<-cv.out]at bo;have⟨H,_⟩:=ae5 B ez.out ao.out cr bq.out ey ep M bz.out en bo cx da;have bx:(y.l++[GU A (kA s) p N (.slice (some ⟨gt,0,none⟩) Q.length Q.length)])[a.bl.length]?=some (GU A (kA s) p N (.slice gt Q.length Q.length)):=by rw[<-B.ll];simp
   have b0:p.wo+2^N=(cP a s b).wo:=by show _=(qZ a b).wo+2^b.bits.toNat;rw[b7.wo,ao.out]
   replace k:=k.tk ca (by unfold Yk;decide);replace u:Tk a.lo Y2 y.n y.mb w w4:=u.trans (ca.zero.mono (λt e=>by obtain e|e:=e;exact .inl (.inl (.inl e));exact .inr e));have dk:¬yl a.ch (cP a s b).aU a.bl.length:=λe=>by unfold yl at e;cases cy:a.ch[(cP a s b).aU]? with
    |none=>rw[cy]at e;cases e
    |some z=>rw[cy]at e;simp only[dM,gA]at e;have⟨x,bk,_⟩:=B.wf.ch _ z cy;have:=(bW.1 bk).1;omega
   have b8:y.p.wo=(cY a).wo:=B.base.wo;obtain⟨o,b4⟩:∃o,o=({y with bv:=eh,l:=y.l++[GU A (kA s) p N (.slice (some ⟨gt,0,none⟩) Q.length Q.length)]}:Lay):=⟨_,rfl⟩;rw[<-b4]at H;have ei:o.n=y.n/\o.mb=y.mb/\o.p=y.p/\o.l=y.l++[GU A (kA s) p N (.slice (some ⟨gt,0,none⟩) Q.length Q.length)]:=by rw[b4];exact⟨rfl,rfl,rfl,rfl⟩
   have⟨dc,av,dd,cj⟩:=ei;rw[<-cj]at bx;obtain⟨m,ah⟩:∃m,m=({a with bl:=a.bl++[cP a s b]}:AG):=⟨_,rfl⟩;rw[<-ah]at H;have bb:m.lo=a.lo:=by rw[ah]
   have bf:m.bl[a.bl.length]?=some (cP a s b):=by rw[ah];simp
   have cw:¬yl m.ch (cP a s b).aU a.bl.length:=by rw[ah];exact dk
   rw[<-ah]at bj;have ew:∃nw:kL,o.l[a.bl.length]?=some nw/\nw.a=A/\nw.wo=p.wo+2^N:=⟨_,bx,rfl,rfl⟩;have⟨nw,bd,dm,dn⟩:=ew;have b3:w4.cell? (A,3)=some ↑(p.wo+2^N):=by rw[<-dm,<-dn];exact(H.base.nd.qf.row nw (cS bd)).cell 3
   have ed:w4.cell? (y.p.a,3)=some ↑y.p.wo:=by rw[<-dd];exact(H.base.nd.qf.row o.p H.base.vp).cell 3
   have Ig:w4.cell? (nb,12)=some (.slice o.gc (o.kc+1) o.cc):=by rw[H.base.nd.mem.row.cell];exact H.base.nd.Ig
   have cl:w4.cell? (o.gc,o.kc*2)=some (.pointer y.p.a):=by rw[<-dd];have:=H.base.nd.chain.cells (g:=o.gc) rfl (o.kc*2) _ H.base.link;rwa [add0]at this
   have fe:o.kc<=49:=by have h1:o.kc=m.ch.length -1:=H.base.kc;have h2:=H.wf.MP;have ek:=H.wf.ll;omega
   change Hid _ at b0 b8 bx bd bf cj b4 ah;clear ba k0 k1 k2 cz RH bo cx da ca b7 dk B dn;go_wp2;have e6:=SP b3;have e7:=SP ed;have ee:∀d os,Cv 34 #[.pointer nb] (Go.Sort.grow (redrawn w4 d) os) λe e8=>e=.returned (.pointer y.p.a)/\∃p:Regrown,e8=Go.Sort.grow (redrawn w4 p.d) p.os:=λd os=>Calls.regrown_of (IJ nb o.gc o.kc o.cc y.p.a _ (SP Ig d os) (SP cl d os) O9)
   refine wp_region_quiet_below Fw K8 ?_;repeat(go_big_quiet_step (first|(go_at_call 34;exact ee _ _)))
   refine wpQuiet_nil ?_;intro _ e4;have⟨⟨cf,c7⟩,e5⟩:=e4;subst e5;have hq:=below_regrown w4 cf c7;clear e6 e7 ee b3 ed Ig cl;have af:=H.keep hq;replace k:=k.keep hq k.lt;replace u:Tk a.lo Y2 y.n y.mb w (Go.Sort.grow (redrawn w4 cf) c7):=u.trans (AE hq);clear H;generalize Go.Sort.grow (redrawn w4 cf) c7=π at af k u hq|-;clear hq;by_cases b9:p.wo+2^N<=y.p.wo
   .have a7:decide (p.wo+2^N<=y.p.wo)=true:=by simpa using b9
    rw[a7];have E:Hid (kW c a s=(0,0,0,m)):=by have:=bj.out;rw[bF (by rw[<-b0.out,<-b8.out];exact b9)]at this;exact this
    have c0:=k.r 0;have c1:=k.r 1;have f0:=k.frozen 0;have f1:=k.frozen 1;have cd:=k.lt;clear a7 bj;go_wp2;have⟨v,K,T⟩:=AH (LB:=a.lo) (mb:=o.mb) k 0 0 bc;replace u:=T u;have C:=af.tk K D9 D9 D9 D9 D9 D9 D9 D9 D9 D9 D9;generalize(π.setCell ⟨(w:Nat),0,none⟩ ↑aA).setCell ⟨(w:Nat),1,none⟩ ↑aA=F at v K u C|-;refine pF (f:=31) (args:=#[.pointer nb]) S8 (by simp[go_sem]) ?_;refine(tO .returning F C.base.row).mono ?_;rintro e c8 R ⟨rfl,rfl,bg,ay⟩;have⟨az,J⟩:=C.shut rfl (lk':=qO) rfl ay bg;rw[bb]at J;replace v:=v.tk J D9;have bm:=u.trans (Tk.mono (Tk.zero (by rw[av]at J;exact J)) (λt e=>.inl (.inl (.inl e))));have k0:=v.r 0;have k1:=v.r 1;exact⟨.tuple #[.agg #[aA,aA],aA],by simp[results,results12,go_sem,k0,k1],by rw[E.out],⟨_,_,by rw[E.out];exact az⟩,bm.ck,bm.low zM.out⟩
   .have a7:decide (p.wo+2^N<=y.p.wo)=false:=by simpa using b9
    rw[a7];clear a7;have dv:Hid (kW c a s=wJ c m a.bl.length (cP a s b).aU):=by have:=bj.out;rw[aS (by rw[<-b0.out,<-b8.out];exact b9)]at this;exact this
    have⟨W,fi,bp,ag,ar,a2⟩:=af.over (y:=cP a s b) bf.out rfl cw bd.out;have hgo:=acO π bp;rw[ag]at hgo;unfold ptr at hgo;rw[dm]at hgo;change Calls _ _ _ _ (λe w'=>Tk m.lo Y1 o.n o.mb π w'/\dO π w'/\∃ec,(((bH c.me.toNat c.su _ m.mem (goes qg (dS (L.take (cC m a.bl.length (cP a s b).aU))))).e=0/\_)\/_))at hgo;rw[af.flat]at hgo;change Calls _ _ _ _ (λe w'=>Tk m.lo Y1 o.n o.mb π w'/\dO π w'/\∃ec,(((cR c m a.bl.length (cP a s b).aU).e=0/\_)\/_))at hgo;replace hgo:=aN hgo;have cm:=aN (IU (y:=cP a s b) af bp.ok ag);have cu:=aN bp.ok;clear bj bp;change Hid _ at ag ar a2;have P:=aN af;clear af;go_wp2;refine hgo.out.mono ?_;rintro e ab ⟨S,cb,ec,⟨π,rfl,aj,fc,fb,fa,ak,l1,l2,eb⟩|⟨π,rfl,aj,x,j,bk,ae,ak⟩⟩
    .have C:=ae6 P.out bf.out rfl cw bd.out cu.out ag.out ar.out a2.out π aj ak l1 l2 eb S cb;have E:Hid (kW c a s=(((m.ch.length -cC m a.bl.length (cP a s b).aU:Nat):Int),((gF m a.bl.length (cP a s b).aU).length:Int),0,m.tI a.bl.length (cP a s b) (cR c m a.bl.length (cP a s b).aU))):=by have:=dv.out;unfold wJ at this;change (cR c m a.bl.length (cP a s b).aU).e=0 at π;rw[bF π]at this;exact this
     have eu:Hid (o.kc+1=m.ch.length):=by have h1:o.kc=m.ch.length -1:=P.out.base.kc;have⟨_,_,_,_,_,h2⟩:=P.out.wf.vp;show _=_;omega
     clear l1 l2 eb π;replace k:=k.tk S (o5 D9 D9 D9 D9 D9);rw[bb,dc,av]at S;replace u:Tk a.lo Y2 y.n y.mb w ab:=u.trans (S.mono (λt e=>.inl e));have c0:=k.r 0;have c1:=k.r 1;have f0:=k.frozen 0;have f1:=k.frozen 1;have cd:=k.lt;replace C:=aN C;clear hgo ak aj S cb M cm cu ag ar;go_wp2;replace C:=C.out;have⟨v,K,T⟩:=AH (LB:=a.lo) (mb:=o.mb) k ((o.kc+1 -cC m a.bl.length (cP a s b).aU:Nat):Int) (W.length:Int) bc;replace u:=T u;replace C:=C.tk K D9 D9 D9 D9 D9 D9 D9 D9 D9 D9 D9;generalize(ab.setCell ⟨(w:Nat),0,none⟩ (.int .i64 ((o.kc+1 -cC m a.bl.length (cP a s b).aU:Nat):Int))).setCell ((w:Nat),1) ↑(W.length:Int)=F at v K u C|-;refine pF (f:=31) (args:=#[.pointer nb]) S8 (by simp[go_sem]) ?_;refine(tO .returning F C.base.row).mono ?_;rintro e c8 R ⟨rfl,rfl,bg,ay⟩;have⟨az,J⟩:=C.shut rfl (lk':=qO) rfl ay bg;change Tk m.lo _ 0 o.mb F R at J;rw[bb,av]at J;replace v:=v.tk J D9;have bm:=u.trans (Tk.mono (Tk.zero J) (λt e=>.inl (.inl (.inl e))));have k0:=v.r 0;have k1:=v.r 1;refine⟨.tuple #[.agg #[.int .i64 ((o.kc+1 -cC m a.bl.length (cP a s b).aU:Nat):Int),↑(W.length:Int)],aA],by simp[results,results12,go_sem,k0,k1],by rw[E.out,<-eu.out,<-a2.out],⟨_,_,by rw[E.out];exact az⟩,bm.ck,bm.low zM.out⟩
    .have dw:=Jz P.out.wf bf.out rfl cw;have dh:Hid (∃i z,(gF m a.bl.length (cP a s b).aU)[(cR c m a.bl.length (cP a s b).aU).at_]?=some i/\m.bl[i]?=some z/\¬yl m.ch z.aU i/\i=j):=by have dj:=(bW.1 bk).1;rw[a2.out]at dj;have e:=bR dj;have⟨z,e9,_,z3,_⟩:=dw.at_ _ _ e;exact⟨_,z,e,e9,z3,AJ P.out.nda (ar.out _ _ x e bk) ae rfl⟩
     obtain⟨i,z,dx,dz,ea,rfl⟩:=dh.out;have dg:=(ze c.me.toNat c.su _ m.mem _ (Ih _) (P.out.wf.Du (cC m a.bl.length (cP a s b).aU)) P.out.base.mem cm.out).2.2;rw[P.out.flatAll]at aj;rw[<-P.out.sl]at ak;have C:=agq P.out dz ea dg aj ak S cb;have E:Hid (kW c a s=(0,0,(cR c m a.bl.length (cP a s b).aU).e,m.spoilt i (cR c m a.bl.length (cP a s b).aU).mem)):=by have:=dv.out;unfold wJ at this;change (cR c m a.bl.length (cP a s b).aU).e≠0 at π;rw[aS π,Ca,dx]at this;exact this
     clear dh dw bk ae dx dz ea dg π;replace k:=k.tk S (o5 D9 D9 D9 D9 D9);rw[bb,dc,av]at S;replace u:Tk a.lo Y2 y.n y.mb w ab:=u.trans (S.mono (λt e=>.inl e));have c0:=k.r 0;have c1:=k.r 1;have f0:=k.frozen 0;have f1:=k.frozen 1;have cd:=k.lt;replace C:=aN C;clear hgo ak aj S cb M cm cu ag ar;go_wp2;replace C:=C.out;have⟨v,K,T⟩:=AH (LB:=a.lo) (mb:=o.mb) k 0 0 bc;replace u:=T u;replace C:=C.tk K D9 D9 D9 D9 D9 D9 D9 D9 D9 D9 D9;generalize(ab.setCell ⟨(w:Nat),0,none⟩ ↑aA).setCell ⟨(w:Nat),1,none⟩ ↑aA=F at v K u C|-;refine pF (f:=31) (args:=#[.pointer nb]) S8 (by simp[go_sem]) ?_;refine(tO .returning F C.base.row).mono ?_;rintro e c8 R ⟨rfl,rfl,bg,ay⟩;have⟨az,J⟩:=C.shut rfl (lk':=qO) rfl ay bg;change Tk m.lo _ 0 o.mb F R at J;rw[bb,av]at J;replace v:=v.tk J D9;have bm:=u.trans (Tk.mono (Tk.zero J) (λt e=>.inl (.inl (.inl e))));have k0:=v.r 0;have k1:=v.r 1;refine⟨.tuple #[.agg #[aA,aA],   ↑(cR c m a.bl.length (cP a s b).aU).e],by simp[results,results12,go_sem,k0,k1];rfl,by rw[E.out],⟨_,_,by rw[E.out];exact az⟩,bm.ck,bm.low zM.out⟩
  .have E:Hid (kW c a s=(0,0,pV a c.bi s b,a)):=by have:=b6.out;rw[bF hr]at this;exact this
   have e1:(pV a c.bi s b==0)=false:=by simpa using hr
   have c0:=k.r 0;have c1:=k.r 1;have f0:=k.frozen 0;have f1:=k.frozen 1;have cd:=k.lt;generalize pV a c.bi s b=r at hr e1 E|-;clear b6;go_wp2;have⟨v,K,T⟩:=AH (LB:=a.lo) (mb:=y.mb) k 0 0 bc;replace u:=T u;replace B:=B.tk K D9 D9 D9 D9 D9 D9 D9 D9 D9 D9 D9;generalize(w3.setCell ⟨(w:Nat),0,none⟩ ↑aA).setCell ⟨(w:Nat),1,none⟩ ↑aA=F at v K u B|-;refine pF (f:=31) (args:=#[.pointer nb]) S8 (by simp[go_sem]) ?_;refine(tO .returning F B.base.row).mono ?_;rintro e c8 ef ⟨rfl,rfl,e0,ej⟩;have⟨eo,eg⟩:=B.shut rfl (lk':=qO) rfl ej e0;replace v:=v.tk eg D9;replace u:=u.trans (eg.zero.mono (λt e=>.inl (.inl (.inl e))));have k0:=v.r 0;have k1:=v.r 1;exact⟨.tuple #[.agg #[aA,aA],r],by simp[results,results12,go_sem,k0,k1],by rw[E.out],⟨y,L,by rw[E.out];exact eo⟩,u.ck,u.low zM.out⟩
end
def JB(D:Nat):AG:=⟨[⟨jI,0,0,0,[],false⟩],[⟨0,[]⟩],[],D⟩
def wf0(D):vA (JB D):=by
 refine⟨⟨_,rfl,rfl,rfl,rfl⟩,λi x b h0=>?_,⟨_,rfl,rfl⟩,λh y a=>?_,λh y x a=>?_,trivial,λy a=>?_,λf=>?_,?_,show(1:Nat)<=49 by decide⟩;.have:i<1:=(bW.1 b).1;omega
 .have:h<1:=(bW.1 a).1;obtain rfl:h=0:=O9;cases a;exact⟨_,rfl,rfl,rfl⟩
 .trivial
 .rw[jU.1 a];exact fQ _
 .have e:eT ((JB D).ch.take f)=[]:=by cases f with
   |zero=>rfl
   |succ f=>cases f<;>rfl
  rw[e];exactλp c h=>by cases h
 .show[jI].Nodup;simp
def Sa{D w b c}(h:Mn D w b c)(g:c.ok=true):gY w b c (JB D):=by
 have⟨s,f,h,d,e2⟩:=acD h g;refine⟨s,[⟨f,[],none,0⟩],h,e2,wf0 D,by rw[d];rfl,λi x y a e=>?_,by rw[d];simp,rfl,λi x y a e=>?_⟩;.have hi:i<1:=(bW.1 e).1;obtain rfl:i=0:=O9;rw[d]at a|-;cases a;cases e;exact⟨rfl,rfl,rfl,rfl,λ_=>rfl,λh0=>by omega,λ_ h0=>by omega⟩
 .have hi:i<1:=(bW.1 a).1;obtain rfl:i=0:=O9;cases a;cases e;exact⟨rfl,.inl rfl,_,by rw[d];rfl,rfl⟩
def gY.keep{w w' nb c a}(h:gY w nb c a)(b:Below w w w'):gY w' nb c a:=by have⟨s,L,h⟩:=h;exact⟨s,L,h.keep b⟩
def gY.is{w nb c a}(h:gY w nb c a):wC w nb c a.an:=by have⟨s,L,h⟩:=h;exact h.is
def gY.wf{w nb c a}(h:gY w nb c a):vA a:=by have⟨s,L,h⟩:=h;exact h.wf
def Vs{a}(h:vA a){i z}(hi:a.bl[i]?=some z)(c:¬yl a.ch z.aU i)(M):cY (a.spoilt i M)=cY a:=by
 have⟨b,t1,t2,t3,t4,t5⟩:=h.vp;have e:cY (a.spoilt i M)=(cY a).mark ((GY a.bl i).getD b.ix false):=by unfold cY;show((a.ch[a.ch.length -1]?).bind λy=>(gG a.bl i)[y.ix]?).getD _=_;rw[t1,vK];unfold gG;rw[lW t2,vK,t2];rfl
 rw[e,h.clean hi c _ b t1,aaB t4]
def aaC{c a s}(h:vA a)(V:∀b,kB s=some b->mk b.parent=(cY a).id):∃a',kW c a s=(0,(Dv c a.an s).1,(Dv c a.an s).2.1,a')/\a'.an=(Dv c a.an s).2.2:=by unfold kW Dv;cases C:kB s with
 |none=>exact⟨_,rfl,rfl⟩
 |some b=>
   simp only;have I:=V b C;have⟨r,t1,t2,t3,t4,t5⟩:=h.vp;have B:Dp a b=true:=by unfold Dp;rw[QU];exact⟨_,cS t2,by simp[I]⟩
   have⟨aa,ab⟩:=oD B;have W:yT a b=r.ix:=by
    have z:(a.bl.map BN.id)[yT a b]?=some (cY a).id:=by rw[cL,aa,dM,ab,I]
    have e2:(a.bl.map BN.id)[r.ix]?=some (cY a).id:=by rw[cL,t2];rfl
    exact(D8 (bW.1 z).1 h.ids).1 (z.trans e2.symm)
   have v:qZ a b=cY a:=by simp_all
   have L:pV a c.bi s b=Ng a.an c.bi s b:=by unfold pV Ng;rw[B,v,t4];show _=if NK (a.bl.map BN.id) (kA s)=true then 10 else if b.bits<c.bi then 11 else if(iE s).toNat%2^b.bits.toNat≠0 then 11 else if(a.bl.map BN.id).length=49 then 9 else 0;rw[eY];simp
   rw[L];by_cases hr:Ng a.an c.bi s b=0;rotate_left;.simp_all
   .have M:¬Ng a.an c.bi s b≠0:=by simpa using hr
    rw[aS M,aS M];have J:=hr;rw[<-L]at J;have⟨D,_⟩:=oC C;have Q:=(iN b).1 D;have A:b.bits.toNat<=8:=by have:=Q.2.1;omega
    have ae:=PV A;have H:(cP a s b).wo=(cY a).wo+2^b.bits.toNat:=by show(qZ a b).wo+_=_;rw[v]
    have u:(cP a s b).aU=a.ch.length:=by show(qZ a b).aU+1=_;rw[v,t3];omega
    have μ:(cP a s b).par=r.ix:=W;rw[aS (by rw[H];omega)];have N:=h.keep J A;obtain⟨d,f⟩:∃d,d=({a with bl:=a.bl++[cP a s b]}:AG):=⟨_,rfl⟩;rw[<-f]at N|-;have o:d.bl[a.bl.length]?=some (cP a s b):=by rw[f];simp
    have P:d.bl[r.ix]?=some (cY a):=by rw[f];exact fC t2
    have j:d.ch=a.ch:=by rw[f]
    have T:d.mem=a.mem:=by rw[f]
    have F:d.lo=a.lo:=by rw[f]
    have G:¬yl d.ch (cP a s b).aU a.bl.length:=by unfold yl;rw[j,u,nK L9];simp
    have π:Uu d.bl d.ch ((cP a s b).aU+1) a.bl.length=[a.bl.length]:=by unfold Uu;rw[o];simp only;rw[aS G];obtain⟨k,S⟩:∃k,(cP a s b).aU=k+1:=⟨_,rfl⟩;rw[S,μ];unfold Uu;rw[P];simp only;rw[if_pos (by unfold yl;rw[j,t3,t1];rfl)]
    have q:gF d a.bl.length (cP a s b).aU=[a.bl.length]:=by unfold gF;rw[π];rfl
    have E:cC d a.bl.length (cP a s b).aU=a.ch.length:=by unfold cC;rw[q,u];rfl
    have p:cR c d a.bl.length (cP a s b).aU=bH c.me.toNat c.su [((a.an.aU+1:Nat),b.cI.map xK)] a.mem a.an.K:=by
     unfold cR;rw[q,E,j,iR,T];have e:mA d.bl a.bl.length=(((a.an.aU+1:Nat):Int),b.cI.map xK):=by unfold mA;rw[o];show((((cP a s b).aU:Nat):Int),_)=_;rw[u];show(((a.ch.length:Nat):Int),b.cI.map xK)=(((a.ch.length -1+1:Nat):Int),b.cI.map xK);rw[show a.ch.length -1+1=a.ch.length from by omega]
     rw[kY,e];rfl
    have Y:∀x∈b.cI.map xK,x.id.size<=1000000/\(∀i∈x.ins,i.Small)/\x.outs.length<=8:=λx w=>by obtain⟨t,m,rfl⟩:=iF.1 w;have h1:=(BP D).2 t m;exact⟨by show(mk _).size<=_;rw[dL];simp[be],h1.2.2.2.2.1,h1.2.2.2.1⟩
    have n:=xn c.me.toNat c.su ((a.an.aU+1:Nat):Int) (b.cI.map xK) a.mem (Ih (eT a.ch)) Y;change Way a.an.K (lS c a.an b).2.1 at n;unfold wJ;by_cases g:(lS c a.an b).1=0
    .have l:cR c d a.bl.length (cP a s b).aU=⟨0,1,[(lS c a.an b).2.1.steps],(lS c a.an b).2.1.K,(lS c a.an b).2.2,(lS c a.an b).2.1.steps++[]⟩:=by rw[p,bH,aS (λe=>e g)];rfl
     rw[bF g,l];simp only[uT];clear l p;generalize lS c a.an b=R at n g|-;refine⟨_,by rw[q,E,j,rI];rfl,?_⟩;rw[iR];have m:cY {d with ch:=a.ch++po [a.bl.length] [R.2.1.steps],mem:=R.2.2}=cP a s b:=by unfold cY;show(((a.ch++[(⟨a.bl.length,R.2.1.steps⟩:xJ)])[(a.ch++[(⟨a.bl.length,R.2.1.steps⟩:xJ)]).length -1]?).bind λy=>d.bl[y.ix]?).getD _=_;rw[bY,oQ,Km,eA L9,rI];show(d.bl[a.bl.length]?).getD _=_;rw[o];rfl
     unfold AG.an;rw[m];show(⟨d.bl.map BN.id,kA s,(a.ch++[(⟨a.bl.length,_⟩:xJ)]).length -1,(cP a s b).wo,goes qg (eT (a.ch++[(⟨a.bl.length,R.2.1.steps⟩:xJ)])),_,d.lo⟩:AN)=_;have O:goes qg (eT (a.ch++[(⟨a.bl.length,R.2.1.steps⟩:xJ)]))=R.2.1.K:=by
      rw[mG,gN];have e:eT [(⟨a.bl.length,R.2.1.steps⟩:xJ)]=R.2.1.steps:=by simp[eT]
      rw[e];exact n.at_.symm
     rw[O,F,H,bY,oQ];have hi:d.bl.map BN.id=a.bl.map BN.id++[kA s]:=by rw[f];show(a.bl++[cP a s b]).map BN.id=_;rw[nG];rfl
     rw[hi];have hh:a.ch.length+1 -1=a.ch.length -1+1:=O9;rw[hh]
    .have l:cR c d a.bl.length (cP a s b).aU=⟨(lS c a.an b).1,0,[],(lS c a.an b).2.1.K,(lS c a.an b).2.2,(lS c a.an b).2.1.steps⟩:=by rw[p,bH,bF (by exact g),bF rfl];rfl
     rw[aS g,l];simp only;rw[aS g];clear l p;generalize lS c a.an b=R at n g|-;refine⟨_,rfl,?_⟩;rw[q];have m:=Vs N o G R.2.2;have X:=SN h j (λi x w=>by rw[f];exact fC w);show(d.spoilt a.bl.length R.2.2).an=_;unfold AG.an;rw[m,X];show(⟨(gG d.bl a.bl.length).map BN.id,_,d.ch.length -1,_,goes qg (eT d.ch),_,d.lo⟩:AN)=_;have hi:d.bl.map BN.id=a.bl.map BN.id++[kA s]:=by rw[f];show(a.bl++[cP a s b]).map BN.id=_;rw[nG];rfl
     rw[rB,hi,j,F];rfl
section
variable{LB:Nat}
def YM(t:TypeId):Prop:=t=37\/t=64\/t=9\/t=3
abbrev Mf(LB:Nat)(w w':World):Prop:=Tk LB YM 0 (λ_=>0) w w'
def af9{t}(a:t≠64)(b:t≠37)(c:t≠9)(d:t≠3):¬YM t:=by
 rintro(e|e|e|e);.exact b e
 .exact a e
 .exact c e
 .exact d e
def JM(rb:Nat)(r:pW)(k:Nat):Prop:=k=rb\/r.kv.ownBlock=some k\/r.iv.ownBlock=some k\/r.wv.ownBlock=some k
def adF{S w w'}(x:Xc S w w')(h:∀k,k<↑w->S k->LB<=k/\∃t cs,YM t/\Row w k t cs):Mf LB w w':=IA x (by rintro k ⟨i,hi,_⟩;omega) (λk d e=>by have⟨a,t,cs,b,c⟩:=h k d e;exact .inr ⟨a,_,_,_,b,c⟩)
def gP.mf{w w' rb B r}(h:gP w rb B r)(x:Xc (JM rb r) w w')(b:LB<=rb/\LB<=B):Mf LB w w':=by
 refine adF x (λk _ e=>?_);obtain e|e|e|e:=e;.subst e;exact⟨b.1,_,_,.inl rfl,h.row⟩
 .have⟨cs,a⟩:=jE h.aX e;exact⟨bL b.2 (bS h.aX e).1,_,_,.inr (.inl rfl),a⟩
 .have⟨cs,a⟩:=jE h.ids e;exact⟨bL b.2 (bS h.ids e).1,_,_,.inr (.inr (.inl rfl)),a⟩
 .have⟨cs,a⟩:=jE h.dC e;exact⟨bL b.2 (bS h.dC e).1,_,_,.inr (.inr (.inr rfl)),a⟩
def gY.mf{w w' nb c a}(h:gY w nb c a)(x:Mf LB w w'):gY w' nb c a:=by have⟨s,L,h⟩:=h;have g:Tk LB YM 0 s.mb w w':=⟨x.os,x.tape,x.output,x.size,x.cells,λk o e f _=>x.rest k o e f (by rintro⟨j,i,_⟩;omega)⟩;have n:∀t:TypeId,t≠64->t≠37->t≠9->t≠3->¬YM t:=λ_ a b c d=>af9 a b c d;exact⟨s,L,h.tk g (n _ D9 D9 D9 D9) (n _ D9 D9 D9 D9) (n _ D9 D9 D9 D9) (n _ D9 D9 D9 D9) (n _ D9 D9 D9 D9) (n _ D9 D9 D9 D9) (n _ D9 D9 D9 D9) (n _ D9 D9 D9 D9) (n _ D9 D9 D9 D9) (n _ D9 D9 D9 D9) (n _ D9 D9 D9 D9)⟩
structure Lw(C:Nat)(w w':World):Prop where
 size:w.heap.size<=w'.heap.size
 cells:∀(k:Nat) (cs:Array Value) (t:TypeId) (f:Nat×Nat),k<C->w.heap[k]?=some (.cells cs t f)->w'.heap[k]?=some (.cells cs t f)
def Lw.trans{C w w1 w2}(h:Lw C w w1)(a:Lw C w1 w2):Lw C w w2:=⟨bL h.size a.size,λk cs t f b e=>a.cells k cs t f b (h.cells k cs t f b e)⟩
def Tk.lw{a n mb w w'}(h:Tk LB a n mb w w'):Lw LB w w':=⟨h.size,λk cs t f b e=>h.cells k cs t f e (.inl b)⟩
def Ck.lw{a w w'}(h:Ck LB a w w'):Lw LB w w':=⟨h.size,λk cs t f b e=>h.cells k cs t f e (.inl b)⟩
def Lw.below{C w w'}(h:Below w.heap.size w w'):Lw C w w':=⟨h.size,λk cs t f _ e=>(h.block k (bG e)).trans e⟩
def MR:=@Lw.below
def Lw.mono{C D w w'}(h:Lw D w w')(a:C<=D):Lw C w w':=⟨h.size,λk cs t f b e=>h.cells k cs t f O9 e⟩
def JA{C w w'}(x:Lw C w w'){a v}(c:a.block<C)(h:w.cell? a=some v):w'.cell? a=some v:=by unfold World.cell? at h|-;cases b:w.heap[a.block]? with
 |none=>rw[b]at h;simp at h
 |some o=>cases o with
   |cells cs t f=>rw[x.cells _ cs t f c b];rw[b]at h;exact h
   |_=>rw[b]at h;simp at h
def n9.lw{B C w w' v l}(h:n9 B w v l)(x:Lw C w w')(n:B<=C):n9 B w' v l:=by have⟨⟨a,c,m,d⟩,j,g⟩:=h;refine⟨⟨a,c,m,λk=>?_⟩,j,g⟩;have⟨b,o,e,f,d⟩:=d k;exact⟨b,o,e,f,λi y hi=>JA x (by show b<C;omega) (d i y hi)⟩
def gP.made{w rb B r}(h:gP w rb B r)(s):gP (w.setCell (rb,10) (.string s)) rb B {r with made:=s}:=⟨h.row.set 10 _,bQ h.ids h.row D9,bQ h.dC h.row D9,bQ h.aX h.row D9,by rw[qA];exact h.base⟩
def gP.behind{w rb B r}(h:gP w rb B r)(n):gP (w.setCell (rb,11) (.int .i64 n)) rb B {r with behind:=n}:=⟨h.row.set 11 _,bQ h.ids h.row D9,bQ h.dC h.row D9,bQ h.aX h.row D9,by rw[qA];exact h.base⟩
def qs{B' j i g w w' t a cs k u}(h:Row w g t cs)(f:w.ownsRow B' a j u i k)(d:w.grownBy w' u.ownBlock)(e:t≠a):Row w' g t cs:=rh h d (λc=>by have⟨_,l,b⟩:=bS f c;rw[h]at b;cases b;exact e rfl)
def gP.idp{w w1 rb B r v1 x}(h:gP w rb B r)(g:w.grownBy w1 r.iv.ownBlock)(o:w1.ownsRow B 9 1 v1 (r.ids.length+1) (r.ids.map Value.string++[.string x])):Row w1 rb 37 r.cells/\gP (w1.setCell (rb,6) v1) rb B {r with iv:=v1,ids:=r.ids++[x]}/\Xc (λk=>k=rb\/r.iv.ownBlock=some k) w (w1.setCell (rb,6) v1):=by
 have a:=qs h.row h.ids g D9;refine⟨a,⟨a.set 6 v1,?_,bQ (eF h.dC h.ids g D9) a D9,bQ (eF h.aX h.ids g D9) a D9,by rw[qA];exact bL h.base g.size⟩,((iT _ w).grown g (λ_ e _=>.inr e)).setCell (rb,6) v1 (λ_=>.inl rfl)⟩;show World.ownsRow _ _ _ _ _ (r.ids++[x]).length ((r.ids++[x]).map Value.string);rw[nG,bY];exact bQ o a D9
def gP.wkp{w w1 rb B r v1 x}(h:gP w rb B r)(g:w.grownBy w1 r.wv.ownBlock)(o:w1.ownsRow B 3 1 v1 (r.dC.length+1) (r.dC.map (Value.int .i64)++[.int .i64 x])):Row w1 rb 37 r.cells/\gP (w1.setCell (rb,7) v1) rb B {r with wv:=v1,dC:=r.dC++[x]}/\Xc (λk=>k=rb\/r.wv.ownBlock=some k) w (w1.setCell (rb,7) v1):=by
 have a:=qs h.row h.dC g D9;refine⟨a,⟨a.set 7 v1,bQ (eF h.ids h.dC g D9) a D9,?_,bQ (eF h.aX h.dC g D9) a D9,by rw[qA];exact bL h.base g.size⟩,((iT _ w).grown g (λ_ e _=>.inr e)).setCell (rb,7) v1 (λ_=>.inl rfl)⟩;rw[nG,bY];exact bQ o a D9
structure wK(r:pW)(m:Nat):Prop where
 il:r.ids.length<=m
 wl:r.dC.length=r.ids.length
 wb:∀x∈r.dC,0<=x/\x<=8*(r.ids.length:Int)
 cl:r.aX.length<=6*m
 i8:∀i∈r.ids,(fI i).length=8
 cg:∀x∈r.aX,x.Good
 tg:0<=r.tag/\r.tag<=65535
def wK.aX{r m kv b ms tg md}(h:wK r m)(o:b.length<=3)(g:∀k∈ms,k.length<=2/\∀x∈k,x.Ok)(l:0<=tg/\tg<=65535):wK {r with tag:=tg,kv:=kv,aX:=r.aX++jF (pN b) ms,made:=md} (m+1):=by
 refine⟨Nat.le_succ_of_le h.il,h.wl,h.wb,?_,h.i8,λx a=>?_,l⟩
 .have d:=Iy (pN b) ms (λk c=>(g k c).1);have e:(pN b).length=b.length:=by simp[pN]
  have:=h.cl;rw[bY];omega
 .obtain a|a:=mP.1 a;.exact h.cg x a
  .obtain⟨i,j,id,k,y,d,e,f,rfl⟩:=Ix _ _ _ a;have c:=g k (cS e);have n:=(bW.1 f).1;refine⟨c.2 y (cS f),?_,⟨G8 _,by show(j:Int)<=255;omega⟩⟩;obtain⟨t,_,rfl⟩:=iF.1 (cS d);unfold uH;rw[nj,bV]
def wK.idp{r m iv wv x y md bh}(h:wK r (m+1))(hi:r.ids.length<=m)(f:(fI x).length=8)(b:∃z∈r.dC,0<=y/\y<=z+8):wK {r with iv:=iv,ids:=r.ids++[x],wv:=wv,dC:=r.dC++[y],made:=md,behind:=bh} (m+1):=by
 have⟨z,c,d,e⟩:=b;have g:=h.wb z c;refine⟨by show(r.ids++[x]).length<=_;simp;exact hi,by show(r.dC++[y]).length=(r.ids++[x]).length;simp[h.wl],λu a=>?_,h.cl,λi hi=>?_,h.cg,h.tg⟩
 .rw[bY,oQ];obtain a|a:=mP.1 a;.have:=h.wb u a;omega
  .grind
 .obtain hi|hi:=mP.1 hi;.exact h.i8 i hi
  .simp_all
end
def aI.ace:(Vp.info? 3).map (λi=>(i.zero,i.size,i.bytes))=some (some ↑aA,1,8):=K8
def adJ:=@aI.ace
def DN{B n k}{w:World}{e v u d}(h:w.ownsRow B e 1 v n d)(b:d[k]?=some u):∃g c,v=.slice (some ⟨g,0,none⟩) n c/\w.cell? ⟨g,k,none⟩=some u:=by
 have m:=(bW.1 b).1;have f:=λg (a:v.ownBlock=some g)=>sY (g:=g) h a;have j:=h.1;obtain⟨_,h0⟩|⟨g,cap,cur,i,l,a,_⟩:=h.2;.omega
 .subst i;refine⟨g,cap,rfl,?_⟩;have:=f g rfl k u b;rwa [add0]at this
def acf{P F bits n}{ds:List eP}(c:mJ (wB (fI P) bits (J6 F (ds.map eP.m)) n)=true):∃b,kB (wS (fI P) bits (J6 F (ds.map eP.m)) n)=some b/\mk b.parent=P/\b.bits=(bits:Int):=⟨_,yY c,JJ _,rfl⟩
def adK{p bits n a}:wS p bits a n≠[]:=by
 intro e;have h:(wS p bits a n).length=0:=by rw[e];rfl
 unfold wS at h;rw[wD]at h;simp only[bY,bV]at h;omega
def xu(N)(h:N<=3):IntKind.i64.wrap (2^N)=((2^N:Nat):Int)/\0<=((2^N:Nat):Int)/\((2^N:Nat):Int)<=8:=by have:N=0\/N=1\/N=2\/N=3:=O9;obtain rfl|rfl|rfl|rfl:=this<;>decide
def FI{s}(h:s≠[]):(mk s).toList.isEmpty=false:=by
 have b:(⟨#[]⟩:ByteArray).toList=[]:=by rw[ByteArray.toList_eq]
 have c:mk s≠⟨#[]⟩:=λe=>h (by have:=congrArg fI e;rwa [nj]at this);have a:=qu c;rw[b]at a;cases d:(mk s).toList.isEmpty with
 |false=>rfl
 |true=>exact absurd (List.isEmpty_iff.1 d) a
def Sl{s b}(h:kB s=some b):(fI (kA s)).length=8:=by rw[BH h,nj,<-UJ,JI]
def wP.small{cs tg ds sp ms}(h:wP cs tg ds sp ms):∀d∈ds,d.ins.length<=9/\d.outs.length<=9:=by
 intro d a;have⟨i,hi⟩:=nH.1 a;refine⟨?_,by have:=(h.cI i d hi).2.1;omega⟩;by_cases e:i=0;.subst e;rw[(h.base d hi).2];exact fQ _
 .obtain⟨s,b⟩:∃s,sp[i]?=some s:=⟨_,bR (by have:=(bW.1 hi).1;have:=h.l1;omega)⟩;have⟨b1,b2⟩:=h.ins i d s O9 hi b;rw[b2,eY];omega
structure Made(r r':pW)(s:List UInt8)(b:jK)(pi:Nat)(x:Int):Prop where
 ne:s≠[]
 made:r'.made=mk s
 dec:kB s=some b
 par:r.ids[pi]?=some (mk b.parent)
 new:kA s∉r.ids
 ids:r'.ids=r.ids++[kA s]
 wx:r.dC[pi]?=some x
 dC:r'.dC=r.dC++[x+2^b.bits.toNat]
 bits:b.bits.toNat<=3
structure wL(w w':World)(rb B m:Nat)(r:pW)(r':pW):Prop where
 fx:Xc (JM rb r) w w'
 run:gP w' rb B r'
 jZ:wK r' (m+1)
 nb:r'.nb=r.nb
 c:r'.c=r.c
 aX:∀x∈r.aX,x∈r'.aX
 made:(r'.made=mk []/\r'.ids=r.ids/\r'.dC=r.dC)\/∃s b pi x,Made r r' s b pi x
def Zf{C rb B m r}(v l va vc w)(h:gP w rb B r)(fh:-9223372036854775808<=v/\v<9223372036854775808)(M:0<r.ids.length)(E:wK r m)(ez:n9 C w (.slice va l.length vc) l)(ey:C<=rb/\C<=B)(dq:m<=2000000)(gk:0<=r.c.bi/\r.c.bi<=2):Cv 9 #[.pointer rb,.agg #[.int .i64 v,.slice va l.length vc]] w λe w'=>e=.returned ↑aD/\∃cz,wL w w' rb B m r cz:=by
 have e5:=E.il;have gm:=E.cl;have fc:=E.tg;have gz:=h.row.lt;have e7:Hid (∀q,r.kv.ownBlock=some q->q<(w:Nat)):=λq hq=>(lB h.aX q hq).2;have H:Below w w ((w.alloc (.cells #[v,.slice va l.length vc] 32)).alloc (.cells #[.slice va l.length vc,aA] 82)):=(B0.alloc L9 _).alloc Z9 _;have RS:=(aW w [v,.slice va l.length vc] 32).keep (B0.alloc L9 (.cells #[.slice va l.length vc,aA] 82)) (aW w [v,.slice va l.length vc] 32).lt;have V:=aW (w.alloc (.cells #[v,.slice va l.length vc] 32)) [.slice va l.length vc,aA] 82;rw[bO]at V;have du:=kO v (r.ids.length:Int) O9;obtain⟨f,dv⟩:∃f:Nat,jX v (r.ids.length:Int)=(f:Int):=⟨_,(KH du.1).symm⟩;have dw:f<r.ids.length:=O9;have ae:=bR dw;generalize r.ids[f]=P at ae;clear du dw;go_enter fA Tryz.func9,Tryz.ntmps9;go_wp2;have L:mN C ((w.alloc (.cells #[v,.slice va l.length vc] 32)).alloc (.cells #[.slice va l.length vc,aA] 82)) ((w:Nat)+1) l 0:=⟨⟨_,V,ez.keep H O9⟩,O9,fQ _⟩;have S:=h.keep H;have cd:=H.size;generalize(w.alloc (.cells #[v,.slice va l.length vc] 32)).alloc (.cells #[.slice va l.length vc,aA] 82)=X at H RS V L S cd|-;have cj:=aeJ v X S M O9 fh;rw[dv]at cj;have dt:=V.lt;clear V;refine cj.mono ?_;rintro e w1 ⟨rfl,au⟩;replace S:=S.keep au;replace L:=L.keep au dt;replace H:=H.trans (au.mono cd);clear cj RS au dv;go_wp2;refine(jY w1 ((w:Nat)+1) l 0 8 L O9 O9).mono ?_;rintro e w2 ⟨rfl,ao,bu⟩;generalize GL l 0 8=bf;generalize Mj l 0=k2 at ao;have dx:=S.kX L bu;have ed:Xc (JM rb r) w w2:=(jG H).grown bu (λk e ay=>by cases e;omega);have g1:=ao.lt;clear L S bu H dt cd;go_wp2;refine(UH w2 dx ao ae O9 O9 ey.1 O9 fc).mono ?_;rintro e w3 ⟨D,bits,ta,bj,sv,mv,ds,sp,ms,rfl,gl,gg,dk,dh,dm,dj,di,dn,o,b9,c8⟩;have ee:Xc (JM rb r) w w3:=ed.trans c8 (λk ay e=>by
  obtain e|e:=e;.omega
  .exact .inl e)
 obtain⟨N,e1⟩:∃N:Nat,bits=(N:Int):=⟨bits.toNat,O9⟩;subst e1;have b0:N<=3:=O9;have dz:0<=(r.tag+1)%65535/\(r.tag+1)%65535<=65535:=O9;generalize(r.tag+1)%65535=tg at o b9 dz;have g2:=c8.size;clear ao dx ed c8;have K:Below w3 w3 (w3.alloc (.cells #[P,↑(N:Int),aA,.slice ta ds.length bj] 76)):=B0.alloc L9 _;have RB:=aW w3 [P,↑(N:Int),aA,.slice ta ds.length bj] 76;have i8:=E.i8 P (cS ae);have av:Hid (∀n:Nat,n<65536->mJ (wB (fI P) N (ds.map eP.m) n)=true):=λn ab=>o.fits dn E.cg i8 O9 ab;have aa:∀wrong:Bool,_:=λwrong=>Aq (fI P) N ta bj ds sv mv sp ms wrong _ (b9.keep K) (dk.keep K) dh (dm.keep K) (dj.keep K) o.pos O9 o.small o.l1 o.l2 (λi d s hi e4 cb=>by rw[(o.ins i d s hi e4 cb).2,eY]) (λs cb x g=>(E.cg x (o.CS s cb x g)).ok) di (λm dq=>by have:=(o.vq m dq).1;omega) (by show r.aX.length<=20000000;omega) (λn ab=>FW (av.out n ab) (FV _ _ _)) O9 (av.out 0 O9);rw[JJ]at aa;have ef:=ee.then K;have gp:=RB.lt;replace aa:=aN aa;replace o:=aN o;clear ee K dk dh dm dj di b9;go_wp2;refine(aa.out _).mono ?_;rintro e w4 ⟨bz,⟨kv,ag⟩,n,ab,rfl,cf⟩;have b4:=FW (F:=nQ sp (pN (ds.map eP.m)) (bf==7)) (av.out n ab) (FV _ _ _);have dp:=Sl (yY b4);have b7:Hid (∃b,kB (wS (fI P) N (J6 (nQ sp (pN (ds.map eP.m)) (bf==7)) (ds.map eP.m)) n)=some b/\mk b.parent=P/\b.bits=(N:Int)):=acf b4;have ar:wS (fI P) N (J6 (nQ sp (pN (ds.map eP.m)) (bf==7)) (ds.map eP.m)) n≠[]:=adK;generalize wS (fI P) N (J6 (nQ sp (pN (ds.map eP.m)) (bf==7)) (ds.map eP.m)) n=a at dp b7 ar cf|-;have gq:=FI ar;have e0:=aN ar;have b6:Hid (∀md,wK {r with tag:=tg,kv:=kv,aX:=r.aX++jF (pN (ds.map eP.m)) (ms.map Prod.snd),made:=md} (m+1)):=λmd=>E.aX (by rw[eY];exact dn) (λk ay=>by obtain⟨x,g,rfl⟩:=iF.1 ay;have:=o.out.vq x g;exact⟨this.1.2,this.2⟩) dz
 have eg:Xc (JM rb r) w w4:=ef.trans bz (λk ay e=>by
  obtain e|e|⟨e,_⟩|⟨e,_⟩:=e;.exact .inl e
  .exact .inr (.inl e)
  .omega
  .omega)
 have db:=RB.xc bz (by
  rintro(e|e|⟨_,cs,e⟩|⟨_,cs,e⟩);.omega
  .have:=e7.out _ e;omega
  .exact RB.ne e D9 rfl
  .exact RB.ne e D9 rfl)
 have bq:w4.cell? (rb,10)=some ↑r.made:=ag.row.cell 10;have f10:=ag.row.frozen 10;have e9:=ag.row.lt;have p:=ag.made ⟨#[]⟩;have bd:Xc (JM rb r) w (w4.setCell (rb,10) ↑aB):=eg.setCell (rb,10) _ (λ_=>.inl rfl);have bo:=db.aP (rb,10) ↑aB (by show(w3:Nat)≠rb;omega);have af:=Ik (kA a) _ p.ids (by show r.ids.length<=20000000;omega);have c6:(w4.setCell (rb,10) ↑aB).cell? (rb,6)=some r.iv:=p.row.cell 6;replace af:=aN af;replace cf:=aN cf;clear aa av b4 bz ef eg RB db ag ar;generalize ga:jF (pN (ds.map eP.m)) (ms.map Prod.snd)=J at p b7 b6;go_wp2;refine af.out.mono ?_;rintro e A ⟨rfl,ea⟩;rw[<-ea]at bd bo p c6;clear af ea bq f10 e9;have gd:Hid (∀x∈J,x∈r.aX++J):=λx g=>List.mem_append_right _ g;by_cases b8:kA a∈r.ids;.obtain⟨fs,az,_⟩:=BD r.ids (kA a) 0 b8;rw[jA]at az;rw[az];have gu:(0:Int)<=(fs:Int):=O9;replace az:=aN az;go_wp2;go_ret;exact⟨rfl,_,⟨bd,p,b6.out _,rfl,rfl,λx g=>Wm _ g,.inl ⟨rfl,rfl,rfl⟩⟩⟩
 .rw[FK r.ids (kA a) 0 b8];have gv:¬(0:Int)<=-1:=O9;obtain⟨bb,bc,O⟩:=bI p.ids;obtain⟨g6,wc,fi⟩:=bI p.dC;have bq:A.cell? (rb,10)=some ↑aB:=p.row.cell 10;have f10:=p.row.frozen 10;have fa:=p.row.lt;have a6:=p.made (mk a);have Nc:(A.setCell (rb,10) ↑(mk a)).cell? (rb,11)=some ↑r.behind:=a6.row.cell 11;have f11:=a6.row.frozen 11;have ca:=a6.behind (f:Int);have eh:Xc (JM rb r) w ((A.setCell (rb,10) ↑(mk a)).setCell (rb,11) ↑(f:Int)):=(bd.setCell (rb,10) _ (λ_=>.inl rfl)).setCell (rb,11) _ (λ_=>.inl rfl);have bp:=(bo.aP (rb,10) ↑(mk a) (by show(w3:Nat)≠rb;omega)).aP (rb,11) ↑(f:Int) (by show(w3:Nat)≠rb;omega);have c6:((A.setCell (rb,10) ↑(mk a)).setCell (rb,11) ↑(f:Int)).cell? (rb,6)=some (.slice bb r.ids.length bc):=(ca.row.cell 6).trans (congrArg some O);have bk:=aW ((A.setCell (rb,10) ↑(mk a)).setCell (rb,11) ↑(f:Int)) [↑(kA a)] 9;rw[qA,qA]at bk;have G:Below ((A.setCell (rb,10) ↑(mk a)).setCell (rb,11) ↑(f:Int)).heap.size ((A.setCell (rb,10) ↑(mk a)).setCell (rb,11) ↑(f:Int)) (((A.setCell (rb,10) ↑(mk a)).setCell (rb,11) ↑(f:Int)).alloc (.cells [.string (kA a)].toArray 9)):=B0.alloc L9 _;have Q:=ca.keep G;have bm:(((A.setCell (rb,10) ↑(mk a)).setCell (rb,11) ↑(f:Int)).alloc (.cells [.string (kA a)].toArray 9)).ownsRow B 9 1 (.slice bb r.ids.length bc) r.ids.length (r.ids.map Value.string):=by rw[<-O];exact Q.ids
  have da:=Q.base;have gn:r.ids.length<=100000000:=O9;have ei:=eh.then G;have dc:=bp.keep G bp.lt;replace Q:=aN Q;replace O:=aN O;clear p a6 ca bd eh bo bp G;obtain⟨i0,M,a7,a8,ba⟩:=info_parts ZE;go_wp2_with (at_builtin;refine wpList_append_own_at _ rfl _ _ 34 rfl B 9 i0 _ 1 16 aI.underlying34 M a7 a8 ba rfl D9 (.slice bb r.ids.length bc) r.ids.length (r.ids.map Value.string) rfl bm ⟨_,0,none⟩ 1 1 [↑(kA a)] rfl rfl (λj u e6=>by rw[add0,bk.cell];exact e6) (λu ah=>by simp at ah;subst ah;rfl) (by unfold maxLen;omega) O9 da ?_;intro v9 c7 cu bx _ ec;refine Iw.out ?_);have dg:(((A.setCell (rb,10) ↑(mk a)).setCell (rb,11) ↑(f:Int)).alloc (.cells [.string (kA a)].toArray 9)).grownBy c7 (({r with tag:=tg,kv:=kv,aX:=r.aX++J,made:=mk a,behind:=(f:Int)}:pW)).iv.ownBlock:=by rw[show(({r with tag:=tg,kv:=kv,aX:=r.aX++J,made:=mk a,behind:=(f:Int)}:pW)).iv=_ from O.out];exact bx
  obtain⟨ai,R,ej⟩:=Q.out.idp dg cu;have dd:=qs dc bm bx D9;obtain⟨Y,π,ff⟩:=cT cu r.ids.length rfl;subst ff;have c9:=(ai.cell 6).trans (congrArg some O.out);have eu:=ai.frozen 6;have ec:=ai.lt;have cr:=ei.trans ej (λk _ e=>by obtain e|e:=e;exact .inl e;exact .inr (.inr (.inl e)));have aj:=dd.aP (rb,6) (.slice Y (r.ids.length+1) π) (by show(w3:Nat)≠rb;omega);clear Q bm bk da bx dg cu ai ei ej dd dc M a7 a8 ba c6 bq Nc f10 f11 fa;refine⟨?_⟩;go_wp2;generalize c7.setCell ⟨rb,6,none⟩ (.slice Y (r.ids.length+1) π)=W at R aj cr|-;obtain⟨x,g⟩:∃x,r.dC[f]?=some x:=⟨_,bR (by rw[E.wl];exact(bW.1 ae).1)⟩;have cm:=E.wb x (cS g);obtain⟨wg,I,eb,fy⟩:=DN R.dC (k:=f) (u:=↑x) (by show(r.dC.map _)[f]?=_;rw[cL,g];rfl);have T:r.wv=.slice wg r.dC.length I:=eb;have fw:=(R.row.cell 7).trans (congrArg some T);have b1:=aj.r 1;have af:=(bW.1 g).1;have gy:(f:Int)<(r.dC.length:Int):=O9;have gx:(0:Int)<=(f:Int):=O9;have gj:(0:Int)<=(N:Int):=O9;obtain⟨y,μ⟩:∃y,IntKind.i64.wrap (x+IntKind.i64.wrap (2^N))=y:=⟨_,rfl⟩;have fo:Hid (∃z∈r.dC,0<=y/\y<=z+8):=by
   refine⟨x,cS g,?_⟩;obtain⟨cv,cw,cx⟩:=xu N b0;have fj:x<=8*100000000:=by have:=cm.2;omega
   rw[cv]at μ;generalize((2^N:Nat):Int)=P at μ cw cx;rw[vG]at μ;omega
  have fp:Hid (y=x+2^N):=by
   obtain⟨cv,cw,cx⟩:=xu N b0;have fj:x<=8*100000000:=by have:=cm.2;omega
   have e2:(2:Int)^N=((2^N:Nat):Int):=by simp
   rw[cv]at μ;show y=_;rw[e2];generalize((2^N:Nat):Int)=fv at μ cw cx;rw[vG]at μ;omega
  have en:=aW W.drew [y] 3;have G:Below W W (W.drew.alloc (.cells [.int .i64 y].toArray 3)):=(dB B0).alloc L9 _;have a2:=R.keep G;have eo:(W.drew.alloc (.cells [.int .i64 y].toArray 3)).ownsRow B 3 1 (.slice wg r.dC.length I) r.dC.length (r.dC.map (Value.int .i64)):=by rw[<-T];exact a2.dC
  have ek:=a2.base;have fg:r.dC.length<=100000000:=by rw[E.wl];omega
  have g7:=R.row.lt;have blt:=aj.lt;have fin:Hid (∀(v1:Value) (w1:World),w1.ownsRow B 3 1 v1 (r.dC.length+1) (r.dC.map (Value.int .i64)++[.int .i64 y])->(W.drew.alloc (.cells [.int .i64 y].toArray 3)).grownBy w1 (Value.slice wg r.dC.length I).ownBlock->(∃l,Row w1 rb 37 l/\l[7]?=some (.slice wg r.dC.length I))/\∃cz,wL w (w1.setCell (rb,7) v1) rb B m r cz):=λv1 w1 bg br=>by
   have ew:(W.drew.alloc (.cells [.int .i64 y].toArray 3)).grownBy w1 (({r with tag:=tg,kv:=kv,aX:=r.aX++J,made:=mk a,behind:=(f:Int),iv:=.slice Y (r.ids.length+1) π,ids:=r.ids++[kA a]}:pW)).wv.ownBlock:=by rw[show(({r with tag:=tg,kv:=kv,aX:=r.aX++J,made:=mk a,behind:=(f:Int),iv:=.slice Y (r.ids.length+1) π,ids:=r.ids++[kA a]}:pW)).wv=_ from T];exact br
   obtain⟨ep,e8,fq⟩:=a2.wkp ew bg;refine⟨⟨_,ep,congrArg some T⟩,_,(cr.then G).trans fq (λk _ e=>by obtain e|e:=e;exact .inl e;exact .inr (.inr (.inr e))),e8,(b6.out ⟨#[]⟩).idp (iv:=.slice Y (r.ids.length+1) π) (wv:=v1) (x:=kA a) (y:=y) (md:=mk a) (bh:=(f:Int)) e5 dp fo.out,rfl,rfl,λx g=>Wm _ g,.inr ?_⟩;obtain⟨b,b1,b2,b3⟩:=b7.out;refine⟨a,b,f,x,e0.out,rfl,b1,by rw[b2];exact ae,b8,rfl,g,?_,by rw[b3];exact b0⟩;show r.dC++[y]=_;rw[fp.out,b3];rfl
  obtain⟨i0,M,a7,a8,ba⟩:=info_parts adJ;replace T:=aN T;clear R a2 cr G aj eb cm c9 eu ec fi;replace g:=aN g;go_region_law (refine M7 aI.underlying30 M a7 a8 ba rfl D9 D9 B rfl _ _ rfl (.slice wg r.dC.length I) r.dC.length (r.dC.map (Value.int .i64)) E9 eo 1 [y] rfl (W:Nat) 1 E9 en (λu ah=>by simp at ah;subst ah;rfl) O9 fg ek ?_;intro v1 w1 bg br l1;obtain⟨fz,gc,fe⟩:=cT bg r.dC.length rfl;subst fe;obtain⟨⟨fl,ak,de⟩,cy⟩:=fin.out _ _ bg br;have g3:w1.cell? (rb,7)=some (.slice wg r.dC.length I):=(ak.cell 7).trans de;have g4:=ak.frozen 7;have g5:=ak.lt;replace cy:=aN cy;clear ak de);all_goals go_wp2
  all_goals go_ret
  all_goals exact⟨rfl,cy.out⟩
def acg:mH:=⟨⟨#[]⟩,0,0,0⟩
def Nf{B g w v l}(h:Row w g 35 [v])(c:p7 B w v l)(b:B<=g):lR B w (.slice g 1 1) [(v,l)]:=⟨lO h rfl b D9,λx a=>by(simp at a;subst a;exact c)⟩
def Ck.then{LB a w w1 w2}(h:Ck LB a w w1)(b:Below w1 w1 w2):Ck LB a w w2:=⟨bL h.size b.size,λk cs t f c d=>(b.block k (bG (h.cells k cs t f c d))).trans (h.cells k cs t f c d)⟩
def gP.ck{LB a w w' rb B r}(h:gP w rb B r)(x:Ck LB a w w')(b:¬a 37)(c:¬a 9)(d:¬a 3)(e:¬a 64):gP w' rb B r:=⟨h.row.ck x b,q9 h.ids x c,q9 h.dC x d,q9 h.aX x e,bL h.base x.size⟩
def Aj{t}(a:t≠107)(b:t≠161)(c:t≠195)(d:t≠247)(f:t≠117)(g:t≠114):¬Y2 t:=by
 rintro(e|e);.exact o5 a b c d f e
 .exact g e
def ach{K id}(h:Iz (λt=>t≠id) K):anyM K id=false:=by unfold anyM;rw[Wn];intro i _ hi;have⟨c,a⟩:=Wo.1 hi;exact h _ c a rfl
def UK(a su h x o mem K)(e:x.outs=[o])(f:o.val<=su)(d:Iz (λt=>t≠x.id) K):(bD a su h [x] mem K []).1=0/\(bD a su h [x] mem K []).2.1.K=K.put ⟨x.id,0,o.val,o.lock,h⟩/\(bD a su h [x] mem K []).2.2=mem:=by
 have c:kI x h su ⟨K,[],0,[]⟩=(0,⟨K.put ⟨x.id,0,o.val,o.lock,h⟩,[⟨⟨x.id,0,o.val,o.lock,h⟩,true⟩],0,[]⟩):=by unfold kI fF;rw[e,aS (by show¬o.val+0>su+0;omega),ach d];rfl
 have b:bD a su h [x] mem K []=(if oZ (fG mem [])then 0 else 17,⟨K.put ⟨x.id,0,o.val,o.lock,h⟩,[⟨⟨x.id,0,o.val,o.lock,h⟩,true⟩],0,[]⟩,gK a (fG mem []) mem):=by unfold bD;simp[iW];rw[c];simp
 rw[b];refine⟨?_,rfl,?_⟩;.trivial
 .trivial
def aci{a cb p bits n b}(g:mJ (wB p bits b n)=true)(f:(bits:Int)=cb)(d:Shown p bits b n)(hi:kA (wS p bits b n)∉a.ids)(c:a.ids.length≠49):Ng a cb (wS p bits b n) (wB p bits b n)=0:=by unfold Ng;rw[aS (λe=>hi (tM.1 e)),aS (by show¬(bits:Int)<cb;omega),aS (by show¬(iE (wS p bits b n)).toNat%2^((bits:Int).toNat)≠0;rw[vH];exactλe=>e d),aS c]
def aeQ{c a p bits n b}(d:mJ (wB p bits b n)=true)(e:(bits:Int)=c.bi)(g:Shown p bits b n)(hi:kA (wS p bits b n)∉a.ids)(f:a.ids.length≠49):Dv c a (wS p bits b n)=if(lS c a (wB p bits b n)).1=0 then(1,0,⟨a.ids++[kA (wS p bits b n)],kA (wS p bits b n),a.aU+1,a.wo+2^bits,(lS c a (wB p bits b n)).2.1.K,(lS c a (wB p bits b n)).2.2,a.lo⟩)else(0,(lS c a (wB p bits b n)).1,{a with ids:=a.ids++[kA (wS p bits b n)],mem:=(lS c a (wB p bits b n)).2.2}):=by
 unfold Dv;rw[yY d];simp only;rw[aci d e g hi f,aS S8];rfl
def zi:List yh:=[⟨65535,[],[⟨50,mk [byteOf 1]⟩]⟩]
def sh0:Shown (be 0 8) 0 zi 0:=by unfold Shown;decide+kernel
def sh1:Shown (be 0 8) 1 zi 0:=by unfold Shown;decide+kernel
def sh2:Shown (be 0 8) 2 zi 1:=by unfold Shown;decide+kernel
def no2:¬Shown (be 0 8) 2 zi 0:=by unfold Shown;decide+kernel
def id0:kA (wS (be 0 8) 0 zi 0)≠jI:=by decide+kernel
def id1:kA (wS (be 0 8) 1 zi 0)≠jI:=by decide+kernel
def id2:kA (wS (be 0 8) 2 zi 1)≠jI:=by decide+kernel
def ZF{bits n}(f:bits<=2)(h:Shown (be 0 8) bits zi n)(g:∀j,j<n->¬Shown (be 0 8) bits zi j):kA (wS (be 0 8) bits zi n)≠jI:=by
 have key:∀k,Shown (be 0 8) bits zi k->(∀j,j<k->¬Shown (be 0 8) bits zi j)->n=k:=λk c d=>by grind
 have b:bits=0\/bits=1\/bits=2:=O9;obtain rfl|rfl|rfl:=b;.have e:=key 0 sh0 (λj a=>absurd a (nU j));subst e;exact id0
 .have e:=key 0 sh1 (λj a=>absurd a (nU j));subst e;exact id1
 .have e:=key 1 sh2 (λj a=>by have h0:j=0:=O9;subst h0;exact no2)
  subst e;exact id2
def UL{c N n D}(f:mJ (wB (be 0 8) N zi n)=true)(e:(N:Int)=c.bi)(i:Shown (be 0 8) N zi n)(hi:kA (wS (be 0 8) N zi n)≠jI)(j:50<=c.su):Dv c (an0 D) (wS (be 0 8) N zi n)=(1,0,⟨[jI,kA (wS (be 0 8) N zi n)],kA (wS (be 0 8) N zi n),1,0+2^N,jQ.put (λ_=>none) ⟨uH 65535 [] [⟨50,mk [byteOf 1]⟩],0,50,mk [byteOf 1],1⟩,[],D⟩):=by
 rw[aeQ f e i (by show _∉[jI];simpa using hi) (by show 1≠49;decide)];have g:lS c (an0 D) (wB (be 0 8) N zi n)=bD c.me.toNat c.su 1 [⟨uH 65535 [] [⟨50,mk [byteOf 1]⟩],[],[⟨50,mk [byteOf 1]⟩]⟩] [] (λ_=>none) []:=by rfl
 have⟨a,b,d⟩:=UK c.me.toNat c.su 1 ⟨uH 65535 [] [⟨50,mk [byteOf 1]⟩],[],[⟨50,mk [byteOf 1]⟩]⟩ ⟨50,mk [byteOf 1]⟩ [] (λ_=>none) rfl j (λp c h=>by cases h);rw[g,a,b,d,bF rfl];rfl
def aeR:jF (pN zi) [[(⟨⟨#[]⟩,0,0,0⟩:mH)]]=[⟨uH 65535 [] [⟨50,mk [byteOf 1]⟩],0,0,0⟩]:=by rfl
def MT(a b w):(Op.equalIn 10000 44 (.agg #[.int .i64 a,.int .i64 b]) (.agg #[a,b])).run Vp w=.ok true w:=by simp[go_sem]
def MU(s a b w):(Op.equalIn 10000 39 (.agg #[.string s,.int .i64 a,.int .i64 b]) (.agg #[s,a,b])).run Vp w=.ok true w:=by simp[go_sem]
def Ic(s l a b c d w):(Op.equalIn 10000 60 (.agg #[.string s,.int .i64 a,.int .i64 b,.string l,.int .i64 c,.bool d]) (.agg #[s,a,b,l,c,.bool d])).run Vp w=.ok true w:=by simp[go_sem]
def JO{e c a}(b w)(h:gY w e c a)(n:∀i,kB b=some i->mk i.parent=a.an.vp):Cv 12 #[ptr e,(mk b)] w λj g=>j=.returned (.tuple #[.agg #[aA,(Dv c a.an b).1],(Dv c a.an b).2.1])/\(∃d,gY g e c d/\d.an=(Dv c a.an b).2.2/\kW c a b=(0,(Dv c a.an b).1,(Dv c a.an b).2.1,d))/\Ck a.lo Y2 w g:=by
 have⟨d,l,m⟩:=aaC (c:=c) h.wf n;have:=JD b w h;rw[l]at this;exact this.mono λj g ⟨p,q,f⟩=>⟨p,⟨d,q,m,l⟩,f.1⟩
open Go.Sort
def MD{B}{w:World}{v D k x}(h:w.ownsRow B 60 6 v D.length (fK D))(e:D[k]?=some x):∃g c,v=.slice (some ⟨g,0,none⟩) D.length c/\g<w/\w.cell? (g,k*6)=some x.tx/\w.cell? (g,k*6+1)=some x.idx/\w.cell? (g,k*6+2)=some x.val/\w.cell? (g,k*6+3)=some x.lock/\w.cell? (g,k*6+4)=some x.aU/\w.cell? (g,k*6+5)=some ↑aD:=by
 have m:=(bW.1 e).1;have a:=λg (b:v.ownBlock=some g)=>h.cells (g:=g) b;obtain⟨_,h0⟩|⟨g,cap,cur,rfl,i,b,_⟩:=h.2;.omega
 .have a:=a g rfl;have q:∀j,j<6->w.cell? (g,k*6+j)=some ((sJ x)[j]!):=λj l=>by
   have d:=uF D (k*6+j) O9;have f:(k*6+j)/6=k:=O9;have e2:(k*6+j)%6=j:=O9;have e3:D[k]! =x:=by rw[Wc,e];rfl
   rw[f,e2,e3]at d;have:=a _ _ d;rwa [add0]at this
  exact⟨g,cap,rfl,bG b,q 0 O9,q 1 O9,q 2 O9,q 3 O9,q 4 O9,q 5 O9⟩
def GM{B B' v f}(D w)(c:w.ownsRow B 60 6 v D.length (fK D))(d:w.ownsRow B' 60 6 f D.length (fK D))(hl:D.length<=100000):Cv 13 #[v,f] w λe w'=>e=.returned ↑aD/\Below w w w':=by
 obtain⟨va,vc,rfl⟩:=bI c;obtain⟨P,uc,rfl⟩:=bI d;go_enter fA Tryz.func13,Tryz.ntmps13;go_wp2;go_loopw [5] (λi wr=>∃k:Nat,k<=D.length/\i=↑k/\Below w w wr) (λi _=>D.length -(intOf i).toNat);exact⟨0,O9,rfl,B0⟩;case round=>
  obtain⟨k,L,rfl,a⟩:=hrel;by_cases j:k<D.length
  .have b:=bR j;generalize D[k]=x at b;have⟨g,cc,l,J,q0,t,u,y,z,A⟩:=MD (aV c a) b;have⟨g',I,m,K,n,o,p,q,r,s⟩:=MD (aV d a) b;cases l;cases m;have M:(0:Int)<=(k:Int):=O9;have N:(k:Int)<(D.length:Int):=O9;have⟨G,E,H,F,C⟩:=x;simp only at q0 t u y z A n o p q r s;have O:=Ic G F E H C true;go_wp2;go_region;all_goals go_wp2
   all_goals go_roundw
   all_goals first
    |exact⟨k+1,O9,by go_num,dB a⟩
    |(simp[intOf];omega)
  .have h:k=D.length:=O9;subst h;go_wp2;go_ret;exact⟨rfl,a⟩
def yV:∀l K C,fD K l->rV K C->∃D,rV (goes K l) D/\D.length<=C.length+l.length
 |[],K,C,_,h=>⟨C,h,L9⟩
 |s::l,K,C,g,h=>by have⟨h1,h2⟩:=g;cases b:s.Dr with
   |true=>
     have a:=h1.2;rw[b,bF rfl]at a;have e:zh K s=K.put s.kD:=by unfold zh;rw[b];rfl
     have⟨D,c,d⟩:=yV l (zh K s) (s.kD::C) h2 (by rw[e];exact h.put a);exact⟨D,c,by simp at d|-;omega⟩
   |false=>
     have a:=h1.2;rw[b,aS S8]at a;have e:zh K s=K.take s.kD.pt:=by unfold zh;rw[b];rfl
     have⟨f,c1,_,c3⟩:=h.take a;have⟨D,c,d⟩:=yV l (zh K s) f h2 (by rw[e];exact c1);exact⟨D,c,by simp at d|-;omega⟩
def Zh{a}(h:vA a):∃C,rV a.an.K C/\C.length<=100000:=by have⟨D,b,d⟩:=yV (eT a.ch) qg [] h.path ⟨S8,λc e=>by simp at e,λp c f=>by cases f⟩;refine⟨D,b,?_⟩;have h1:=Im h.len;have h2:=h.MP;have g:=h.ll;simp at d;omega
def pA.tail{x D}(h:pA (x::D)):pA D:=λi j u v c a b=>h (i+1) (j+1) u v O9 (by simpa using a) (by simpa using b)
def Il:∀D D',D.Perm D'->pA D->pA D'->(D.map dJ.pt).Nodup->D=D'
 |[],D',a,_,_,_=>a.nil_eq
 |x::t,[],a,_,_,_=>absurd a.length_eq S8
 |x::t,y::c,a,h1,h2,b=>by
   have g:=(a.map dJ.pt).nodup_iff.1 b;by_cases e:x=y
   .subst e;have h:(t.map dJ.pt).Nodup:=by rw[kY,KB]at b;exact b.2
    rw[Il t c a.cons_inv h1.tail h2.tail h]
   .have k:x∈c:=by
     rcases iY.1 (a.mem_iff.1 (V9 ..))with q|q;.simp_all
     .exact q
    have l:y∈t:=by grind
    have⟨i,hi⟩:=nH.1 k;have⟨j,f⟩:=nH.1 l;have d:=h2.lt g (i:=0) (j:=i+1) (x:=y) (y:=x) O9 rfl (by simpa using hi);have m:=h1.lt b (i:=0) (j:=j+1) (x:=x) (y:=y) O9 rfl (by simpa using f);rw[Fz]at d;omega
def aeF(l:List Gu):Prop:=(1<=l.length/\l.length<=8)/\∀t∈l,(1<=t.outs.length/\t.outs.length<=8)/\t.id.size<=1000000/\∀i∈t.ins,i.Small
def Y9{s b}(h:kB s=some b):aeF (b.cI.map xK):=by
 have a:=(oC h).1;have h0:=((iN b).1 a).2.2.2.1;refine⟨by rw[eY];omega,λx f=>?_⟩;obtain⟨t,c,rfl⟩:=iF.1 f;have⟨i,hi⟩:=List.getElem?_of_mem c;have d:=((iN b).1 a).2.2.2.2 i t hi;have h2:=((xk t _).1 d).2.2.1;have e:=(BP a).2 t c;refine⟨?_,?_,e.2.2.2.2.1⟩;.show 1<=t.outs.length/\t.outs.length<=8;omega
 .show(uH t.tag t.ins t.outs).size<=1000000;rw[<-fZ];unfold uH;rw[nj,bV];decide
def Ii(most su):∀(l:List (Int×List Gu)) (mem:List bX) (K:jQ),(bH most su l mem K).e=0->(bH most su l mem K).ls.length=l.length
 |[],_,_,_=>rfl
 |x::r,mem,K,e=>by
   by_cases h0:(bD most su x.1 x.2 mem K []).1=0;.rw[bH,aS (by rw[h0];simp)]at e|-;simp at e|-;rw[Ii most su r _ _ e]
   .rw[bH,bF h0]at e;simp only at e;split at e;.omega
    .omega
def FH{a k}(h:vA a){i:Nat}{x}(b:(gG a.bl k)[i]?=some x)(e:x.bad=false):∃z,a.bl[i]?=some z/\z.bad=false/\x.cI=z.cI:=by unfold gG at b;rw[oU]at b;cases d:a.bl[i]? with
 |none=>rw[d]at b;cases b
 |some z=>rw[d]at b;simp only[dM,gA]at b;subst b;have c:(GY a.bl k).getD i false=false:=e;refine⟨z,rfl,?_,by unfold BN.mark;rw[c];rfl⟩;rw[BZ d (λh0=>(h.par i z d h0).1)]at c;cases f:z.bad with
   |false=>rfl
   |true=>rw[f]at c;simp at c
def abV(c a s):(kW c a s).2.2.2.lo=a.lo:=by unfold kW wJ;cases kB s with
 |none=>rfl
 |some b=>
   repeat' split
   all_goals rfl
end Go.Proofs.aH
section
namespace Go.Proofs.aH
open Go.RowKit
/-- all that is Fi opened -/
def vE(l:List bX):Prop:=∀t∈l,t.Pp=0
def Fj{mem:List bX}(h:vE mem)(l:List bX):oZ (fG mem l)=oZ l:=by
  rw[Bool.eq_iff_iff];unfold oZ fG;simp only[xN,uS];refine⟨λg t ht=>?_,λg t ht=>g t (DX.1 ht).1⟩;by_cases e:t∈mem;.exact h t e
  .exact g t (DX.2 ⟨ht,by simpa using e⟩)
def abA{most:Nat}{t:bX}{l:List bX}(h:vE l)(ht:t.Pp=0):vE (rT most t l):=by
  have h1:vE (l++[t]):=λx hx=>by
    obtain hx|hx:=mP.1 hx;.exact h x hx
    .rw[jU.1 hx];exact ht
  unfold rT;split;.exact h
  . split
    .exactλx hx=>h1 x (V3 hx)
    .exact h1
def Fl{most:Nat}:∀(r l:List bX),vE l→vE (gK most r l)
  |[],_,h=>h
  |t::r,l,h=>by
    unfold gK;refine Fl r _ ?_;split;.rename_i e;exact abA h e
    .exact h
def yO(most tE:Nat)(su h:Int)(cI:List Gu){mem yP:List bX}(K:jQ)(st:List dA)(hm:vE mem)(hm':vE yP):(bD most su h cI mem K st).1=(bD tE su h cI yP K st).1∧(bD most su h cI mem K st).2.1=(bD tE su h cI yP K st).2.1∧vE (bD most su h cI mem K st).2.2∧vE (bD tE su h cI yP K st).2.2:=by
  unfold bD;simp only;split;.exact⟨rfl,rfl,hm,hm'⟩
  .cases cI with
    |nil=>exact⟨rfl,rfl,hm,hm'⟩
    |cons x r=>
      simp only;split;.exact⟨rfl,rfl,hm,hm'⟩
      . simp only[Fj hm,Fj hm']
        exact⟨trivial,trivial,Fl _ _ hm,Fl _ _ hm'⟩
def CN(most tE:Nat)(su:Int):∀(l:List (Int×List Gu)) (mem yP:List bX) (K:jQ),vE mem→vE yP→∃e at_ ls K' st m m',bH most su l mem K=⟨e,at_,ls,K',m,st⟩∧bH tE su l yP K=⟨e,at_,ls,K',m',st⟩∧vE m∧vE m'
  |[],mem,yP,K,hm,hm'=>⟨_,_,_,_,_,_,_,rfl,rfl,hm,hm'⟩
  |x::r,mem,yP,K,hm,hm'=>by
    obtain⟨e1,e2,e3,e4⟩:=yO most tE su x.1 x.2 K [] hm hm';obtain⟨e,at_,ls,K',st,m,m',q1,q2,q3,q4⟩:=CN most tE su r _ _ (bD most su x.1 x.2 mem K []).2.1.K e3 e4;by_cases h0:(bD most su x.1 x.2 mem K []).1=0
    . rw[bH,bH,aS (by rw[h0];simp),aS (by rw[←e1,h0];simp),←e2,q1,q2]
      exact⟨_,_,_,_,_,_,_,rfl,rfl,q3,q4⟩
    . have p1:(bD tE su x.1 x.2 yP K []).1≠0:=by rw[←e1];exact h0
      have A:bH most su (x::r) mem K=⟨if r=[]then(bD most su x.1 x.2 mem K []).1 else 13,0,[],(bD most su x.1 x.2 mem K []).2.1.K,(bD most su x.1 x.2 mem K []).2.2,(bD most su x.1 x.2 mem K []).2.1.steps⟩:=by rw[bH,bF h0]
      have B:bH tE su (x::r) yP K=⟨if r=[]then(bD tE su x.1 x.2 yP K []).1 else 13,0,[],(bD tE su x.1 x.2 yP K []).2.1.K,(bD tE su x.1 x.2 yP K []).2.2,(bD tE su x.1 x.2 yP K []).2.1.steps⟩:=by rw[bH,bF p1]
      rw[A,B,←e1,←e2];exact⟨_,_,_,_,_,_,_,rfl,rfl,e3,e4⟩
/-- the same blocks, the same chain; all that is Fi opened -/
structure YC(a b:AG):Prop where
  bl:a.bl=b.bl
  ch:a.ch=b.ch
  ma:vE a.mem
  mb:vE b.mem
end Go.Proofs.aH
end
