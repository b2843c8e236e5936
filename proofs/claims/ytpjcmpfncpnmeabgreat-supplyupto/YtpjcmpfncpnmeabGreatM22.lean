import Derived.Test.YtpjcmpfncpnmeabGreatM17
import Derived.Test.YtpjcmpfncpnmeabGreatM21
set_option linter.all false
set_option maxHeartbeats 16000000
set_option maxRecDepth 100000
namespace Go.Proofs.aH
open Go.RowKit Tryz
attribute [local go_sem↓] Go.wp_at_zero Go.wp_at_succ
section
def Sw:=@cell_regrown
variable{LB:Nat}
def Sz{nb c a}(s w)(h:jE w nb c a):Cv 12 #[ptr nb,(mk s)] w λe w'=>e=.returned (.tuple #[.agg #[(pP c a s).1,(pP c a s).2.1],(pP c a s).2.2.1])/\jE w' nb c (pP c a s).2.2.2/\Ck a.lo Y2 w w':=by
 have⟨y,L,D⟩:=h;have k:=aX w [aA,aA] 44;have G:Below w w (w.alloc (.cells #[aA,aA] 44)):=B0.alloc L9 _;have fh:=D.base.nd.mem.row.lt;have bc:a.lo<=(w:Nat):=by have h1:a.lo<=nb:=D.base.low.1;omega
 unfold ptr;go_enter_defers fA func12,ntmps12;go_wp2;replace D:=D.keep G;generalize w.alloc (.cells #[aA,aA] 44)=X at k G D|-;refine(ZZ s X).mono ?_;rintro e w1 ⟨O,⟨ai,rfl⟩|⟨b,gt,Q,ai,rfl,M,bq,ey⟩⟩
 .have E:pP c a s=(0,0,1,a):=by unfold pP;rw[ai]
  replace E:=aL E;have μ:Below w1 w1 (w1.alloc (.cells #[aB,aB,aA,()] 110)):=B0.alloc L9 _;replace k:=(k.keep O k.lt).keep μ (eO k.lt O.size);replace D:=(D.keep O).keep μ;replace G:=(G.trans (O.mono G.size)).trans (μ.mono (bI G.size O.size));have c0:=k.r 0;have c1:=k.r 1;have f0:=k.frozen 0;have f1:=k.frozen 1;have cd:=k.lt;unfold Sq;go_wp2;generalize w1.alloc (.cells #[aB,aB,aA,()] 110)=Y at k D G|-;have⟨v,K,T⟩:=Aw (LB:=a.lo) (mb:=y.mb) k 0 0 bc;have u:Tk a.lo Y2 0 y.mb w _:=T (Av G);replace D:=D.tk K D9 D9 D9 D9 D9 D9 D9 D9 D9 D9 D9;generalize(Y.setCell ⟨(w:Nat),0,none⟩ ↑aA).setCell ⟨(w:Nat),1,none⟩ ↑aA=F at v K u D|-;have k0:=v.r 0;have k1:=v.r 1;exact⟨.tuple #[.agg #[aA,aA],aG],by simp[results,results12,go_sem,k0,k1],by rw[E.out],⟨y,L,by rw[E.out];exact D⟩,u.ck⟩
 .have⟨bu,_⟩:=qR ai;have br:=(kC b).1 bu;have et:∃N:Nat,b.bits=(N:Int)/\N<=8:=⟨b.bits.toNat,O9,O9⟩;have⟨N,hN,cr⟩:=et;have ao:b.bits.toNat=N:=O9;have hlen:Q.length=b.cS.length:=by have:=congrArg List.length bq;simpa using this
  have ep:1<=Q.length/\Q.length<=8:=by have h1:=(BM bu).1;have h2:=br.2.2.2.1;omega
  have a6:=BD ai;rw[a6,hN];generalize a8:mk ((idB s).take 7++[iQ s])=I;have μ:Below w1 w1 (w1.alloc (.cells #[I,↑(mk b.parent),↑(N:Int),.slice gt Q.length Q.length] 110)):=B0.alloc L9 _;have RH:=aX w1 [I,↑(mk b.parent),↑(N:Int),.slice gt Q.length Q.length] 110;replace k:=(k.keep O k.lt).keep μ (eO k.lt O.size);replace D:=(D.keep O).keep μ;replace G:=(G.trans (O.mono G.size)).trans (μ.mono (bI G.size O.size));replace M:=M.keep μ;have b6:Hid (pP c a s=if vD a c.bi s b≠0 then(0,0,vD a c.bi s b,a)else if(eN a s b).wo<=(gU a).wo then(0,0,0,{a with bl:=a.bl++[eN a s b]})else Ay c {a with bl:=a.bl++[eN a s b]} a.bl.length (eN a s b).aW):=by show _=_;unfold pP;rw[ai]
  have dt:Hid (∀W,gV W nb oD c y L a->Cv 32 #[.pointer nb,.agg #[I,↑(mk b.parent),↑(N:Int),.slice gt Q.length Q.length]] W λe w'=>e=.returned ↑(vD a c.bi s b)/\Below (W:Nat) W w'):=by
   intro W aa;have fg:y.l.length<=49:=by rw[aa.ll];exact aa.wf.ll
   have h1:=Nq (nb:=nb) (gt:=gt) (q:=Q.length) (c:=Q.length) ((idB s).take 7) (iQ s) (mk b.parent) N c.bi W aa.base.nd.q7 (by rw[aa.base.nd.mem.row.cell];exact aa.base.nd.MX) (by rw[aa.base.nd.mem.row.cell];rfl) O9 (Vy aa.base.nM) cr (by rw[iU,Jt];decide);rw[a8,<-ao,aeK aa (t:=s) br.2.1.1 I (by rw[a6,a8]),ao]at h1;exact h1
  change Hid _ at a8 a6 hN ao hlen bq ai br bu;go_wp2;generalize w1.alloc (.cells #[I,↑(mk b.parent),↑(N:Int),.slice gt Q.length Q.length] 110)=V at k RH D G M|-;clear μ O;generalize(w1:Nat)=bh at RH|-;refine(PN V D.base.row).mono ?_;rintro e w2 ⟨rfl,dq,de⟩;have⟨B,ae⟩:=D.shut rfl (lk':=oD) rfl de dq;have u:Tk a.lo Y2 y.n y.mb w w2:=(Av G).trans (ae.zero.mono (λt e=>.inl (.inl (.inl e))));replace k:=k.tk ae D9;replace RH:=RH.tk ae D9;replace M:=M.tk ae D9 D9 D9;clear D dq de ae G;have k0:=RH.r 0;have k1:=RH.r 1;have k2:=RH.r 2;have cz:=RH.r 3;have du:=aL (dt.out w2 B);go_wp2;refine du.out.m1 λw3 au=>?_;replace k:=k.keep au k.lt;replace RH:=RH.keep au RH.lt;replace M:=M.keep au;replace B:=B.keep au;replace u:Tk a.lo Y2 y.n y.mb w w3:=u.trans (Av au);clear du dt k0 k1 k2 cz au;by_cases hr:vD a c.bi s b=0
  .have bj:Hid (pP c a s=if(eN a s b).wo<=(gU a).wo then(0,0,0,{a with bl:=a.bl++[eN a s b]})else Ay c {a with bl:=a.bl++[eN a s b]} a.bl.length (eN a s b).aW):=by have:=b6.out;rw[aS (by simpa using hr)]at this;exact this
   have cv:=a6.out.trans a8.out;have⟨r1,r2,r3,fj⟩:=BX hr;obtain⟨p,di,bz⟩:∃p,jJ y.l (mk b.parent)=some p/\y.l[Dr a b]?=some p:=by
    obtain⟨db,_⟩|⟨_,p,e2,e3⟩:=aad B b;.rw[r2]at db;cases db
    .exact⟨p,e2,e3⟩
   have b7:=B.tie _ _ _ bz (rT r2).1;have ff:y.l.length<=49:=by rw[B.ll];exact B.wf.ll
   have dp:(0<=p.aW/\p.aW<=100000)/\(0<=p.wo/\p.wo<=100000000):=by have h1:=B.wf.hle _ _ (rT r2).1;have h2:=(cB.1 (rT r2).1).1;have ek:=B.wf.ll;rw[b7.aW,b7.wo];omega
   have ba:=ZK (gt:=gt) (q:=Q.length) (c:=Q.length) I (mk b.parent) N p w3 B.base.nd.mem.row B.base.nd.MX B.base.nd.q7 di B.base.nd.mem.base O9 cr dp.1 dp.2;unfold ptr at ba;replace ba:=aL ba;have k0:=RH.r 0;have k1:=RH.r 1;have k2:=RH.r 2;have cz:=RH.r 3;have ez:=aL hr;rw[hr];change Hid _ at cv bz r1;clear b6 hr di;go_wp2;refine ba.out.mono ?_;rintro e w4 ⟨A,eh,rfl,en,bo,cx,da⟩;have ca:Tk a.lo Yk 0 y.mb w3 w4:=(Sr B.base bo cx da).2.2;replace M:=M.tk ca (by unfold Yk;decide) (by unfold Yk;decide) (by unfold Yk;decide);rw[<-cv.out]at bo;have⟨H,_⟩:=aeL B ez.out ao.out cr bq.out ey ep M bz.out en bo cx da;have bx:(y.l++[GD A (kZ s) p N (.slice (some ⟨gt,0,none⟩) Q.length Q.length)])[a.bl.length]?=some (GD A (kZ s) p N (.slice gt Q.length Q.length)):=by rw[<-B.ll];simp
   have b0:p.wo+2^N=(eN a s b).wo:=by show _=(yV a b).wo+2^b.bits.toNat;rw[b7.wo,ao.out]
   replace k:=k.tk ca (by unfold Yk;decide);replace u:Tk a.lo Y2 y.n y.mb w w4:=u.trans (ca.zero.mono (λt e=>by obtain e|e:=e;exact .inl (.inl (.inl e));exact .inr e));have dk:¬BV a.ch (eN a s b).aW a.bl.length:=λe=>by unfold BV at e;cases cy:a.ch[(eN a s b).aW]? with
    |none=>rw[cy]at e;cases e
    |some z=>rw[cy]at e;simp only[dY,gQ]at e;have⟨x,bk,_⟩:=B.wf.ch _ z cy;have:=(cB.1 bk).1;omega
   have b8:y.p.wo=(gU a).wo:=B.base.wo;obtain⟨o,b4⟩:∃o,o=({y with bv:=eh,l:=y.l++[GD A (kZ s) p N (.slice (some ⟨gt,0,none⟩) Q.length Q.length)]}:Lay):=⟨_,rfl⟩;rw[<-b4]at H;have ei:o.n=y.n/\o.mb=y.mb/\o.p=y.p/\o.l=y.l++[GD A (kZ s) p N (.slice (some ⟨gt,0,none⟩) Q.length Q.length)]:=by rw[b4];exact⟨rfl,rfl,rfl,rfl⟩
   have⟨dc,av,dd,cj⟩:=ei;rw[<-cj]at bx;obtain⟨m,ah⟩:∃m,m=({a with bl:=a.bl++[eN a s b]}:AG):=⟨_,rfl⟩;rw[<-ah]at H;have bb:m.lo=a.lo:=by rw[ah]
   have bf:m.bl[a.bl.length]?=some (eN a s b):=by rw[ah];simp
   have cw:¬BV m.ch (eN a s b).aW a.bl.length:=by rw[ah];exact dk
   rw[<-ah]at bj;have ew:∃nw:kF,o.l[a.bl.length]?=some nw/\nw.a=A/\nw.wo=p.wo+2^N:=⟨_,bx,rfl,rfl⟩;have⟨nw,bd,dm,dn⟩:=ew;have b3:w4.cell? (A,3)=some ↑(p.wo+2^N):=by rw[<-dm,<-dn];exact(H.base.nd.q7.row nw (cQ bd)).cell 3
   have ed:w4.cell? (y.p.a,3)=some ↑y.p.wo:=by rw[<-dd];exact(H.base.nd.q7.row o.p H.base.nM).cell 3
   have NS:w4.cell? (nb,12)=some (.slice o.gc (o.kc+1) o.cc):=by rw[H.base.nd.mem.row.cell];exact H.base.nd.NS
   have cl:w4.cell? (o.gc,o.kc*2)=some (.pointer y.p.a):=by rw[<-dd];have:=H.base.nd.chain.cells (g:=o.gc) rfl (o.kc*2) _ H.base.link;rwa [add0]at this
   have fe:o.kc<=49:=by have h1:o.kc=m.ch.length -1:=H.base.kc;have h2:=H.wf.chl;have ek:=H.wf.ll;omega
   change Hid _ at b0 b8 bx bd bf cj b4 ah;clear ba k0 k1 k2 cz RH bo cx da ca b7 dk B dn;go_wp2;have e6:=Sw b3;have e7:=Sw ed;have ee:∀d os,Cv 34 #[.pointer nb] (Go.Sort.grow (redrawn w4 d) os) λe e8=>e=.returned (.pointer y.p.a)/\∃p:Regrown,e8=Go.Sort.grow (redrawn w4 p.d) p.os:=λd os=>Calls.regrown_of (Iu nb o.gc o.kc o.cc y.p.a _ (Sw NS d os) (Sw cl d os) O9)
   refine wp_region_quiet_below Fg K8 ?_;repeat(go_big_quiet_step (first|(go_at_call 34;exact ee _ _)))
   refine wpQuiet_nil ?_;intro _ e4;have⟨⟨cf,c7⟩,e5⟩:=e4;subst e5;have hq:=below_regrown w4 cf c7;clear e6 e7 ee b3 ed NS cl;have af:=H.keep hq;replace k:=k.keep hq k.lt;replace u:Tk a.lo Y2 y.n y.mb w (Go.Sort.grow (redrawn w4 cf) c7):=u.trans (Av hq);clear H;generalize Go.Sort.grow (redrawn w4 cf) c7=π at af k u hq|-;clear hq;by_cases b9:p.wo+2^N<=y.p.wo
   .have a7:decide (p.wo+2^N<=y.p.wo)=true:=by simpa using b9
    rw[a7];have E:Hid (pP c a s=(0,0,0,m)):=by have:=bj.out;rw[bE (by rw[<-b0.out,<-b8.out];exact b9)]at this;exact this
    have c0:=k.r 0;have c1:=k.r 1;have f0:=k.frozen 0;have f1:=k.frozen 1;have cd:=k.lt;clear a7 bj;go_wp2;have⟨v,K,T⟩:=Aw (LB:=a.lo) (mb:=o.mb) k 0 0 bc;replace u:=T u;have C:=af.tk K D9 D9 D9 D9 D9 D9 D9 D9 D9 D9 D9;generalize(π.setCell ⟨(w:Nat),0,none⟩ ↑aA).setCell ⟨(w:Nat),1,none⟩ ↑aA=F at v K u C|-;refine pW (f:=31) (args:=#[.pointer nb]) S8 (by simp[go_sem]) ?_;refine(tK .returning F C.base.row).mono ?_;rintro e c8 R ⟨rfl,rfl,bg,ay⟩;have⟨az,J⟩:=C.shut rfl (lk':=qK) rfl ay bg;rw[bb]at J;replace v:=v.tk J D9;have bm:=u.trans (Tk.mono (Tk.zero (by rw[av]at J;exact J)) (λt e=>.inl (.inl (.inl e))));have k0:=v.r 0;have k1:=v.r 1;exact⟨.tuple #[.agg #[aA,aA],aA],by simp[results,results12,go_sem,k0,k1],by rw[E.out],⟨_,_,by rw[E.out];exact az⟩,bm.ck⟩
   .have a7:decide (p.wo+2^N<=y.p.wo)=false:=by simpa using b9
    rw[a7];clear a7;have dv:Hid (pP c a s=Ay c m a.bl.length (eN a s b).aW):=by have:=bj.out;rw[aS (by rw[<-b0.out,<-b8.out];exact b9)]at this;exact this
    have⟨W,fi,bp,ag,ar,a2⟩:=af.over (y:=eN a s b) bf.out rfl cw bd.out;have hgo:=acs π bp;rw[ag]at hgo;unfold ptr at hgo;rw[dm]at hgo;change Calls _ _ _ _ (λe w'=>Tk m.lo Y1 o.n o.mb π w'/\dI π w'/\∃ec,(((bP c.me.toNat c.su _ m.mem (goes sL (dN (L.take (bZ m a.bl.length (eN a s b).aW))))).e=0/\_)\/_))at hgo;rw[af.flat]at hgo;change Calls _ _ _ _ (λe w'=>Tk m.lo Y1 o.n o.mb π w'/\dI π w'/\∃ec,(((dJ c m a.bl.length (eN a s b).aW).e=0/\_)\/_))at hgo;replace hgo:=aL hgo;have cm:=aL (IC (y:=eN a s b) af bp.ok ag);have cu:=aL bp.ok;clear bj bp;change Hid _ at ag ar a2;have P:=aL af;clear af;go_wp2;refine hgo.out.mono ?_;rintro e ab ⟨S,cb,ec,⟨π,rfl,aj,fc,fb,fa,ak,l1,l2,eb⟩|⟨π,rfl,aj,x,j,bk,ae,ak⟩⟩
    .have C:=aeM P.out bf.out rfl cw bd.out cu.out ag.out ar.out a2.out π aj ak l1 l2 eb S cb;have E:Hid (pP c a s=(((m.ch.length -bZ m a.bl.length (eN a s b).aW:Nat):Int),((gP m a.bl.length (eN a s b).aW).length:Int),0,m.tU a.bl.length (eN a s b) (dJ c m a.bl.length (eN a s b).aW))):=by have:=dv.out;unfold Ay at this;change (dJ c m a.bl.length (eN a s b).aW).e=0 at π;rw[bE π]at this;exact this
     have eu:Hid (o.kc+1=m.ch.length):=by have h1:o.kc=m.ch.length -1:=P.out.base.kc;have⟨_,_,_,_,_,h2⟩:=P.out.wf.nM;show _=_;omega
     clear l1 l2 eb π;replace k:=k.tk S (oU D9 D9 D9 D9 D9);rw[bb,dc,av]at S;replace u:Tk a.lo Y2 y.n y.mb w ab:=u.trans (S.mono (λt e=>.inl e));have c0:=k.r 0;have c1:=k.r 1;have f0:=k.frozen 0;have f1:=k.frozen 1;have cd:=k.lt;replace C:=aL C;clear hgo ak aj S cb M cm cu ag ar;go_wp2;replace C:=C.out;have⟨v,K,T⟩:=Aw (LB:=a.lo) (mb:=o.mb) k ((o.kc+1 -bZ m a.bl.length (eN a s b).aW:Nat):Int) (W.length:Int) bc;replace u:=T u;replace C:=C.tk K D9 D9 D9 D9 D9 D9 D9 D9 D9 D9 D9;generalize(ab.setCell ⟨(w:Nat),0,none⟩ (.int .i64 ((o.kc+1 -bZ m a.bl.length (eN a s b).aW:Nat):Int))).setCell ((w:Nat),1) ↑(W.length:Int)=F at v K u C|-;refine pW (f:=31) (args:=#[.pointer nb]) S8 (by simp[go_sem]) ?_;refine(tK .returning F C.base.row).mono ?_;rintro e c8 R ⟨rfl,rfl,bg,ay⟩;have⟨az,J⟩:=C.shut rfl (lk':=qK) rfl ay bg;change Tk m.lo _ 0 o.mb F R at J;rw[bb,av]at J;replace v:=v.tk J D9;have bm:=u.trans (Tk.mono (Tk.zero J) (λt e=>.inl (.inl (.inl e))));have k0:=v.r 0;have k1:=v.r 1;refine⟨.tuple #[.agg #[.int .i64 ((o.kc+1 -bZ m a.bl.length (eN a s b).aW:Nat):Int),↑(W.length:Int)],aA],by simp[results,results12,go_sem,k0,k1],by rw[E.out,<-eu.out,<-a2.out],⟨_,_,by rw[E.out];exact az⟩,bm.ck⟩
    .have dw:=Qc P.out.wf bf.out rfl cw;have dh:Hid (∃i z,(gP m a.bl.length (eN a s b).aW)[(dJ c m a.bl.length (eN a s b).aW).at_]?=some i/\m.bl[i]?=some z/\¬BV m.ch z.aW i/\i=j):=by have dj:=(cB.1 bk).1;rw[a2.out]at dj;have e:=bO dj;have⟨z,e9,_,z3,_⟩:=dw.at_ _ _ e;exact⟨_,z,e,e9,z3,Ax P.out.nda (ar.out _ _ x e bk) ae rfl⟩
     obtain⟨i,z,dx,dz,ea,rfl⟩:=dh.out;have dg:=(yX c.me.toNat c.su _ m.mem _ (IB _) (P.out.wf.CS (bZ m a.bl.length (eN a s b).aW)) P.out.base.mem cm.out).2.2;rw[P.out.flatAll]at aj;rw[<-P.out.sl]at ak;have C:=af4 P.out dz ea dg aj ak S cb;have E:Hid (pP c a s=(0,0,(dJ c m a.bl.length (eN a s b).aW).e,m.spoilt i (dJ c m a.bl.length (eN a s b).aW).mem)):=by have:=dv.out;unfold Ay at this;change (dJ c m a.bl.length (eN a s b).aW).e≠0 at π;rw[aS π,Ca,dx]at this;exact this
     clear dh dw bk ae dx dz ea dg π;replace k:=k.tk S (oU D9 D9 D9 D9 D9);rw[bb,dc,av]at S;replace u:Tk a.lo Y2 y.n y.mb w ab:=u.trans (S.mono (λt e=>.inl e));have c0:=k.r 0;have c1:=k.r 1;have f0:=k.frozen 0;have f1:=k.frozen 1;have cd:=k.lt;replace C:=aL C;clear hgo ak aj S cb M cm cu ag ar;go_wp2;replace C:=C.out;have⟨v,K,T⟩:=Aw (LB:=a.lo) (mb:=o.mb) k 0 0 bc;replace u:=T u;replace C:=C.tk K D9 D9 D9 D9 D9 D9 D9 D9 D9 D9 D9;generalize(ab.setCell ⟨(w:Nat),0,none⟩ ↑aA).setCell ⟨(w:Nat),1,none⟩ ↑aA=F at v K u C|-;refine pW (f:=31) (args:=#[.pointer nb]) S8 (by simp[go_sem]) ?_;refine(tK .returning F C.base.row).mono ?_;rintro e c8 R ⟨rfl,rfl,bg,ay⟩;have⟨az,J⟩:=C.shut rfl (lk':=qK) rfl ay bg;change Tk m.lo _ 0 o.mb F R at J;rw[bb,av]at J;replace v:=v.tk J D9;have bm:=u.trans (Tk.mono (Tk.zero J) (λt e=>.inl (.inl (.inl e))));have k0:=v.r 0;have k1:=v.r 1;refine⟨.tuple #[.agg #[aA,aA],   ↑(dJ c m a.bl.length (eN a s b).aW).e],by simp[results,results12,go_sem,k0,k1];rfl,by rw[E.out],⟨_,_,by rw[E.out];exact az⟩,bm.ck⟩
  .have E:Hid (pP c a s=(0,0,vD a c.bi s b,a)):=by have:=b6.out;rw[bE hr]at this;exact this
   have e1:(vD a c.bi s b==0)=false:=by simpa using hr
   have c0:=k.r 0;have c1:=k.r 1;have f0:=k.frozen 0;have f1:=k.frozen 1;have cd:=k.lt;generalize vD a c.bi s b=r at hr e1 E|-;clear b6;go_wp2;have⟨v,K,T⟩:=Aw (LB:=a.lo) (mb:=y.mb) k 0 0 bc;replace u:=T u;replace B:=B.tk K D9 D9 D9 D9 D9 D9 D9 D9 D9 D9 D9;generalize(w3.setCell ⟨(w:Nat),0,none⟩ ↑aA).setCell ⟨(w:Nat),1,none⟩ ↑aA=F at v K u B|-;refine pW (f:=31) (args:=#[.pointer nb]) S8 (by simp[go_sem]) ?_;refine(tK .returning F B.base.row).mono ?_;rintro e c8 ef ⟨rfl,rfl,e0,ej⟩;have⟨eo,eg⟩:=B.shut rfl (lk':=qK) rfl ej e0;replace v:=v.tk eg D9;replace u:=u.trans (eg.zero.mono (λt e=>.inl (.inl (.inl e))));have k0:=v.r 0;have k1:=v.r 1;exact⟨.tuple #[.agg #[aA,aA],r],by simp[results,results12,go_sem,k0,k1],by rw[E.out],⟨y,L,by rw[E.out];exact eo⟩,u.ck⟩
end
def Ux(D:Nat):AG:=⟨[⟨jS,0,0,0,[],false⟩],[⟨0,[]⟩],[],D⟩
def wf0(D):AB (Ux D):=by
 refine⟨⟨_,rfl,rfl,rfl,rfl⟩,λi x b h0=>?_,⟨_,rfl,rfl⟩,λh y a=>?_,λh y x a=>?_,trivial,λy a=>?_,λf=>?_,?_,show(1:Nat)<=49 by decide⟩;.have:i<1:=(cB.1 b).1;omega
 .have:h<1:=(cB.1 a).1;obtain rfl:h=0:=O9;cases a;exact⟨_,rfl,rfl,rfl⟩
 .trivial
 .rw[kH.1 a];exact eX _
 .have e:gH ((Ux D).ch.take f)=[]:=by cases f with
   |zero=>rfl
   |succ f=>cases f<;>rfl
  rw[e];exactλp c h=>by cases h
 .show[jS].Nodup;simp
def abW{D w b c}(h:Mb D w b c)(g:c.ok=true):jE w b c (Ux D):=by
 have⟨s,f,h,d,e2⟩:=acf h g;refine⟨s,[⟨f,[],none,0⟩],h,e2,wf0 D,by rw[d];rfl,λi x y a e=>?_,by rw[d];simp,rfl,λi x y a e=>?_⟩;.have hi:i<1:=(cB.1 e).1;obtain rfl:i=0:=O9;rw[d]at a|-;cases a;cases e;exact⟨rfl,rfl,rfl,rfl,λ_=>rfl,λh0=>by omega,λ_ h0=>by omega⟩
 .have hi:i<1:=(cB.1 a).1;obtain rfl:i=0:=O9;cases a;cases e;exact⟨rfl,.inl rfl,_,by rw[d];rfl,rfl⟩
def jE.keep{w w' nb c a}(h:jE w nb c a)(b:Below w w w'):jE w' nb c a:=by have⟨s,L,h⟩:=h;exact⟨s,L,h.keep b⟩
def jE.is{w nb c a}(h:jE w nb c a):sx w nb c a.an:=by have⟨s,L,h⟩:=h;exact h.is
def jE.wf{w nb c a}(h:jE w nb c a):AB a:=by have⟨s,L,h⟩:=h;exact h.wf
def Va{a}(h:AB a){i z}(hi:a.bl[i]?=some z)(c:¬BV a.ch z.aW i)(M):gU (a.spoilt i M)=gU a:=by
 have⟨b,t1,t2,t3,t4,t5⟩:=h.nM;have e:gU (a.spoilt i M)=(gU a).mark ((GI a.bl i).getD b.ix false):=by unfold gU;show((a.ch[a.ch.length -1]?).bind λy=>(iJ a.bl i)[y.ix]?).getD _=_;rw[t1,vQ];unfold iJ;rw[lT t2,vQ,t2];rfl
 rw[e,h.clean hi c _ b t1,aag t4]
def aah{c a s}(h:AB a)(V:∀b,mS s=some b->mk b.parent=(gU a).id):∃a',pP c a s=(0,(Gy c a.an s).1,(Gy c a.an s).2.1,a')/\a'.an=(Gy c a.an s).2.2:=by unfold pP Gy;cases C:mS s with
 |none=>exact⟨_,rfl,rfl⟩
 |some b=>
   simp only;have I:=V b C;have⟨r,t1,t2,t3,t4,t5⟩:=h.nM;have B:GJ a b=true:=by unfold GJ;rw[QL];exact⟨_,cQ t2,by simp[I]⟩
   have⟨aa,ab⟩:=rT B;have W:Dr a b=r.ix:=by
    have z:(a.bl.map BN.id)[Dr a b]?=some (gU a).id:=by rw[cW,aa,dY,ab,I]
    have e2:(a.bl.map BN.id)[r.ix]?=some (gU a).id:=by rw[cW,t2];rfl
    exact(V9 (cB.1 z).1 h.ids).1 (z.trans e2.symm)
   have v:yV a b=gU a:=by simp_all
   have L:vD a c.bi s b=M0 a.an c.bi s b:=by unfold vD M0;rw[B,v,t4];show _=if Nw (a.bl.map BN.id) (kZ s)=true then 10 else if b.bits<c.bi then 11 else if(iQ s).toNat%2^b.bits.toNat≠0 then 11 else if(a.bl.map BN.id).length=49 then 9 else 0;rw[fC];simp
   rw[L];by_cases hr:M0 a.an c.bi s b=0;rotate_left;.simp_all
   .have M:¬M0 a.an c.bi s b≠0:=by simpa using hr
    rw[aS M,aS M];have J:=hr;rw[<-L]at J;have⟨D,_⟩:=qR C;have Q:=(kC b).1 D;have A:b.bits.toNat<=8:=by have:=Q.2.1;omega
    have ae:=aae A;have H:(eN a s b).wo=(gU a).wo+2^b.bits.toNat:=by show(yV a b).wo+_=_;rw[v]
    have u:(eN a s b).aW=a.ch.length:=by show(yV a b).aW+1=_;rw[v,t3];omega
    have μ:(eN a s b).par=r.ix:=W;rw[aS (by rw[H];omega)];have N:=h.keep J A;obtain⟨d,f⟩:∃d,d=({a with bl:=a.bl++[eN a s b]}:AG):=⟨_,rfl⟩;rw[<-f]at N|-;have o:d.bl[a.bl.length]?=some (eN a s b):=by rw[f];simp
    have P:d.bl[r.ix]?=some (gU a):=by rw[f];exact lS t2
    have j:d.ch=a.ch:=by rw[f]
    have T:d.mem=a.mem:=by rw[f]
    have F:d.lo=a.lo:=by rw[f]
    have G:¬BV d.ch (eN a s b).aW a.bl.length:=by unfold BV;rw[j,u,pC L9];simp
    have π:upA d.bl d.ch ((eN a s b).aW+1) a.bl.length=[a.bl.length]:=by unfold upA;rw[o];simp only;rw[aS G];obtain⟨k,S⟩:∃k,(eN a s b).aW=k+1:=⟨_,rfl⟩;rw[S,μ];unfold upA;rw[P];simp only;rw[if_pos (by unfold BV;rw[j,t3,t1];rfl)]
    have q:gP d a.bl.length (eN a s b).aW=[a.bl.length]:=by unfold gP;rw[π];rfl
    have E:bZ d a.bl.length (eN a s b).aW=a.ch.length:=by unfold bZ;rw[q,u];rfl
    have p:dJ c d a.bl.length (eN a s b).aW=bP c.me.toNat c.su [((a.an.aW+1:Nat),b.cS.map JD)] a.mem a.an.K:=by
     unfold dJ;rw[q,E,j,iB,T];have e:mA d.bl a.bl.length=(((a.an.aW+1:Nat):Int),b.cS.map JD):=by unfold mA;rw[o];show((((eN a s b).aW:Nat):Int),_)=_;rw[u];show(((a.ch.length:Nat):Int),b.cS.map JD)=(((a.ch.length -1+1:Nat):Int),b.cS.map JD);rw[show a.ch.length -1+1=a.ch.length from by omega]
     rw[lC,e];rfl
    have Y:∀x∈b.cS.map JD,x.id.size<=1000000/\(∀i∈x.ins,i.Small)/\x.outs.length<=8:=λx w=>by obtain⟨t,m,rfl⟩:=gS.1 w;have h1:=(BM D).2 t m;exact⟨by show(mk _).size<=_;rw[dF];simp[be],h1.2.2.2.2.1,h1.2.2.2.1⟩
    have n:=xy c.me.toNat c.su ((a.an.aW+1:Nat):Int) (b.cS.map JD) a.mem (IB (gH a.ch)) Y;change Way a.an.K (lN c a.an b).2.1 at n;unfold Ay;by_cases g:(lN c a.an b).1=0
    .have l:dJ c d a.bl.length (eN a s b).aW=⟨0,1,[(lN c a.an b).2.1.steps],(lN c a.an b).2.1.K,(lN c a.an b).2.2,(lN c a.an b).2.1.steps++[]⟩:=by rw[p,bP,aS (λe=>e g)];rfl
     rw[bE g,l];simp only[vN];clear l p;generalize lN c a.an b=R at n g|-;refine⟨_,by rw[q,E,j,sO];rfl,?_⟩;rw[iB];have m:gU {d with ch:=a.ch++pj [a.bl.length] [R.2.1.steps],mem:=R.2.2}=eN a s b:=by unfold gU;show(((a.ch++[(⟨a.bl.length,R.2.1.steps⟩:DL)])[(a.ch++[(⟨a.bl.length,R.2.1.steps⟩:DL)]).length -1]?).bind λy=>d.bl[y.ix]?).getD _=_;rw[bW,oM,Qr,dU L9,sO];show(d.bl[a.bl.length]?).getD _=_;rw[o];rfl
     unfold AG.an;rw[m];show(⟨d.bl.map BN.id,kZ s,(a.ch++[(⟨a.bl.length,_⟩:DL)]).length -1,(eN a s b).wo,goes sL (gH (a.ch++[(⟨a.bl.length,R.2.1.steps⟩:DL)])),_,d.lo⟩:AN)=_;have O:goes sL (gH (a.ch++[(⟨a.bl.length,R.2.1.steps⟩:DL)]))=R.2.1.K:=by
      rw[mF,gG];have e:gH [(⟨a.bl.length,R.2.1.steps⟩:DL)]=R.2.1.steps:=by simp[gH]
      rw[e];exact n.at_.symm
     rw[O,F,H,bW,oM];have hi:d.bl.map BN.id=a.bl.map BN.id++[kZ s]:=by rw[f];show(a.bl++[eN a s b]).map BN.id=_;rw[nT];rfl
     rw[hi];have hh:a.ch.length+1 -1=a.ch.length -1+1:=O9;rw[hh]
    .have l:dJ c d a.bl.length (eN a s b).aW=⟨(lN c a.an b).1,0,[],(lN c a.an b).2.1.K,(lN c a.an b).2.2,(lN c a.an b).2.1.steps⟩:=by rw[p,bP,bE (by exact g),bE rfl];rfl
     rw[aS g,l];simp only;rw[aS g];clear l p;generalize lN c a.an b=R at n g|-;refine⟨_,rfl,?_⟩;rw[q];have m:=Va N o G R.2.2;have X:=Sv h j (λi x w=>by rw[f];exact lS w);show(d.spoilt a.bl.length R.2.2).an=_;unfold AG.an;rw[m,X];show(⟨(iJ d.bl a.bl.length).map BN.id,_,d.ch.length -1,_,goes sL (gH d.ch),_,d.lo⟩:AN)=_;have hi:d.bl.map BN.id=a.bl.map BN.id++[kZ s]:=by rw[f];show(a.bl++[eN a s b]).map BN.id=_;rw[nT];rfl
     rw[rh,hi,j,F];rfl
section
variable{LB:Nat}
def YM(t:TypeId):Prop:=t=37\/t=64\/t=9\/t=3
abbrev Mf(LB:Nat)(w w':World):Prop:=Tk LB YM 0 (λ_=>0) w w'
def afN{t}(a:t≠64)(b:t≠37)(c:t≠9)(d:t≠3):¬YM t:=by
 rintro(e|e|e|e);.exact b e
 .exact a e
 .exact c e
 .exact d e
def Jw(rb:Nat)(r:qd)(k:Nat):Prop:=k=rb\/r.kv.ownBlock=some k\/r.iv.ownBlock=some k\/r.wv.ownBlock=some k
def afO{S w w'}(x:Xc S w w')(h:∀k,k<↑w->S k->LB<=k/\∃t cs,YM t/\Row w k t cs):Mf LB w w':=Ii x (by rintro k ⟨i,hi,_⟩;omega) (λk d e=>by have⟨a,t,cs,b,c⟩:=h k d e;exact .inr ⟨a,_,_,_,b,c⟩)
def gF.mf{w w' rb B r}(h:gF w rb B r)(x:Xc (Jw rb r) w w')(b:LB<=rb/\LB<=B):Mf LB w w':=by
 refine afO x (λk _ e=>?_);obtain e|e|e|e:=e;.subst e;exact⟨b.1,_,_,.inl rfl,h.row⟩
 .have⟨cs,a⟩:=jU h.aY e;exact⟨bI b.2 (bU h.aY e).1,_,_,.inr (.inl rfl),a⟩
 .have⟨cs,a⟩:=jU h.ids e;exact⟨bI b.2 (bU h.ids e).1,_,_,.inr (.inr (.inl rfl)),a⟩
 .have⟨cs,a⟩:=jU h.dP e;exact⟨bI b.2 (bU h.dP e).1,_,_,.inr (.inr (.inr rfl)),a⟩
def jE.mf{w w' nb c a}(h:jE w nb c a)(x:Mf LB w w'):jE w' nb c a:=by have⟨s,L,h⟩:=h;have g:Tk LB YM 0 s.mb w w':=⟨x.os,x.tape,x.output,x.size,x.cells,λk o e f _=>x.rest k o e f (by rintro⟨j,i,_⟩;omega)⟩;have n:∀t:TypeId,t≠64->t≠37->t≠9->t≠3->¬YM t:=λ_ a b c d=>afN a b c d;exact⟨s,L,h.tk g (n _ D9 D9 D9 D9) (n _ D9 D9 D9 D9) (n _ D9 D9 D9 D9) (n _ D9 D9 D9 D9) (n _ D9 D9 D9 D9) (n _ D9 D9 D9 D9) (n _ D9 D9 D9 D9) (n _ D9 D9 D9 D9) (n _ D9 D9 D9 D9) (n _ D9 D9 D9 D9) (n _ D9 D9 D9 D9)⟩
structure Lw(C:Nat)(w w':World):Prop where
 size:w.heap.size<=w'.heap.size
 cells:∀(k:Nat) (cs:Array Value) (t:TypeId) (f:Nat×Nat),k<C->w.heap[k]?=some (.cells cs t f)->w'.heap[k]?=some (.cells cs t f)
def Lw.trans{C w w1 w2}(h:Lw C w w1)(a:Lw C w1 w2):Lw C w w2:=⟨bI h.size a.size,λk cs t f b e=>a.cells k cs t f b (h.cells k cs t f b e)⟩
def Tk.lw{a n mb w w'}(h:Tk LB a n mb w w'):Lw LB w w':=⟨h.size,λk cs t f b e=>h.cells k cs t f e (.inl b)⟩
def Ck.lw{a w w'}(h:Ck LB a w w'):Lw LB w w':=⟨h.size,λk cs t f b e=>h.cells k cs t f e (.inl b)⟩
def Lw.below{C w w'}(h:Below w.heap.size w w'):Lw C w w':=⟨h.size,λk cs t f _ e=>(h.block k (bF e)).trans e⟩
def Ij:=@Lw.below
def Lw.mono{C D w w'}(h:Lw D w w')(a:C<=D):Lw C w w':=⟨h.size,λk cs t f b e=>h.cells k cs t f O9 e⟩
def Jx{C w w'}(x:Lw C w w'){a v}(c:a.block<C)(h:w.cell? a=some v):w'.cell? a=some v:=by unfold World.cell? at h|-;cases b:w.heap[a.block]? with
 |none=>rw[b]at h;simp at h
 |some o=>cases o with
   |cells cs t f=>rw[x.cells _ cs t f c b];rw[b]at h;exact h
   |_=>rw[b]at h;simp at h
def oq.lw{B C w w' v l}(h:oq B w v l)(x:Lw C w w')(n:B<=C):oq B w' v l:=by have⟨⟨a,c,m,d⟩,j,g⟩:=h;refine⟨⟨a,c,m,λk=>?_⟩,j,g⟩;have⟨b,o,e,f,d⟩:=d k;exact⟨b,o,e,f,λi y hi=>Jx x (by show b<C;omega) (d i y hi)⟩
def gF.made{w rb B r}(h:gF w rb B r)(s):gF (w.setCell (rb,10) (.string s)) rb B {r with made:=s}:=⟨h.row.set 10 _,bN h.ids h.row D9,bN h.dP h.row D9,bN h.aY h.row D9,by rw[qw];exact h.base⟩
def gF.behind{w rb B r}(h:gF w rb B r)(n):gF (w.setCell (rb,11) (.int .i64 n)) rb B {r with behind:=n}:=⟨h.row.set 11 _,bN h.ids h.row D9,bN h.dP h.row D9,bN h.aY h.row D9,by rw[qw];exact h.base⟩
def tH{B' j i g w w' t a cs k u}(h:Row w g t cs)(f:w.ownsRow B' a j u i k)(d:w.grownBy w' u.ownBlock)(e:t≠a):Row w' g t cs:=qU h d (λc=>by have⟨_,l,b⟩:=bU f c;rw[h]at b;cases b;exact e rfl)
def gF.idp{w w1 rb B r v1 x}(h:gF w rb B r)(g:w.grownBy w1 r.iv.ownBlock)(o:w1.ownsRow B 9 1 v1 (r.ids.length+1) (r.ids.map Value.string++[.string x])):Row w1 rb 37 r.cells/\gF (w1.setCell (rb,6) v1) rb B {r with iv:=v1,ids:=r.ids++[x]}/\Xc (λk=>k=rb\/r.iv.ownBlock=some k) w (w1.setCell (rb,6) v1):=by
 have a:=tH h.row h.ids g D9;refine⟨a,⟨a.set 6 v1,?_,bN (fB h.dP h.ids g D9) a D9,bN (fB h.aY h.ids g D9) a D9,by rw[qw];exact bI h.base g.size⟩,((iZ _ w).grown g (λ_ e _=>.inr e)).setCell (rb,6) v1 (λ_=>.inl rfl)⟩;show World.ownsRow _ _ _ _ _ (r.ids++[x]).length ((r.ids++[x]).map Value.string);rw[nT,bW];exact bN o a D9
def gF.wkp{w w1 rb B r v1 x}(h:gF w rb B r)(g:w.grownBy w1 r.wv.ownBlock)(o:w1.ownsRow B 3 1 v1 (r.dP.length+1) (r.dP.map (Value.int .i64)++[.int .i64 x])):Row w1 rb 37 r.cells/\gF (w1.setCell (rb,7) v1) rb B {r with wv:=v1,dP:=r.dP++[x]}/\Xc (λk=>k=rb\/r.wv.ownBlock=some k) w (w1.setCell (rb,7) v1):=by
 have a:=tH h.row h.dP g D9;refine⟨a,⟨a.set 7 v1,bN (fB h.ids h.dP g D9) a D9,?_,bN (fB h.aY h.dP g D9) a D9,by rw[qw];exact bI h.base g.size⟩,((iZ _ w).grown g (λ_ e _=>.inr e)).setCell (rb,7) v1 (λ_=>.inl rfl)⟩;rw[nT,bW];exact bN o a D9
structure vq(r:qd)(m:Nat):Prop where
 il:r.ids.length<=m
 wl:r.dP.length=r.ids.length
 wb:∀x∈r.dP,0<=x/\x<=8*(r.ids.length:Int)
 cl:r.aY.length<=6*m
 i8:∀i∈r.ids,(fQ i).length=8
 cg:∀x∈r.aY,x.Good
 tg:0<=r.tag/\r.tag<=65535
def vq.aY{r m kv b ms tg md}(h:vq r m)(o:b.length<=3)(g:∀k∈ms,k.length<=2/\∀x∈k,x.Ok)(l:0<=tg/\tg<=65535):vq {r with tag:=tg,kv:=kv,aY:=r.aY++jB (pT b) ms,made:=md} (m+1):=by
 refine⟨Nat.le_succ_of_le h.il,h.wl,h.wb,?_,h.i8,λx a=>?_,l⟩
 .have d:=Ig (pT b) ms (λk c=>(g k c).1);have e:(pT b).length=b.length:=by simp[pT]
  have:=h.cl;rw[bW];omega
 .obtain a|a:=nC.1 a;.exact h.cg x a
  .obtain⟨i,j,id,k,y,d,e,f,rfl⟩:=Ie _ _ _ a;have c:=g k (cQ e);have n:=(cB.1 f).1;refine⟨c.2 y (cQ f),?_,⟨D2 _,by show(j:Int)<=255;omega⟩⟩;obtain⟨t,_,rfl⟩:=gS.1 (cQ d);unfold uF;rw[ng,bS]
def vq.idp{r m iv wv x y md bh}(h:vq r (m+1))(hi:r.ids.length<=m)(f:(fQ x).length=8)(b:∃z∈r.dP,0<=y/\y<=z+8):vq {r with iv:=iv,ids:=r.ids++[x],wv:=wv,dP:=r.dP++[y],made:=md,behind:=bh} (m+1):=by
 have⟨z,c,d,e⟩:=b;have g:=h.wb z c;refine⟨by show(r.ids++[x]).length<=_;simp;exact hi,by show(r.dP++[y]).length=(r.ids++[x]).length;simp[h.wl],λu a=>?_,h.cl,λi hi=>?_,h.cg,h.tg⟩
 .rw[bW,oM];obtain a|a:=nC.1 a;.have:=h.wb u a;omega
  .grind
 .obtain hi|hi:=nC.1 hi;.exact h.i8 i hi
  .simp_all
end
def aI.abR:(Vp.info? 3).map (λi=>(i.zero,i.size,i.bytes))=some (some ↑aA,1,8):=K8
def adr:=@aI.abR
def abS{B n k}{w:World}{e v u d}(h:w.ownsRow B e 1 v n d)(b:d[k]?=some u):∃g c,v=.slice (some ⟨g,0,none⟩) n c/\w.cell? ⟨g,k,none⟩=some u:=by
 have m:=(cB.1 b).1;have f:=λg (a:v.ownBlock=some g)=>uS (g:=g) h a;have j:=h.1;obtain⟨_,h0⟩|⟨g,cap,cur,i,l,a,_⟩:=h.2;.omega
 .subst i;refine⟨g,cap,rfl,?_⟩;have:=f g rfl k u b;rwa [add0]at this
def ads{p bits n a}:wS p bits a n≠[]:=by
 intro e;have h:(wS p bits a n).length=0:=by rw[e];rfl
 unfold wS at h;rw[wH]at h;simp only[bW,bS]at h;omega
def BK(N)(h:N<=3):IntKind.i64.wrap (2^N)=((2^N:Nat):Int)/\0<=((2^N:Nat):Int)/\((2^N:Nat):Int)<=8:=by have:N=0\/N=1\/N=2\/N=3:=O9;obtain rfl|rfl|rfl|rfl:=this<;>decide
def MW{s}(h:s≠[]):(mk s).toList.isEmpty=false:=by
 have b:(⟨#[]⟩:ByteArray).toList=[]:=by rw[ByteArray.toList_eq]
 have c:mk s≠⟨#[]⟩:=λe=>h (by have:=congrArg fQ e;rwa [ng]at this);have a:=qp c;rw[b]at a;cases d:(mk s).toList.isEmpty with
 |false=>rfl
 |true=>exact absurd (List.isEmpty_iff.1 d) a
def R4{s b}(h:mS s=some b):(fQ (kZ s)).length=8:=by rw[BD h,ng,<-Ut,Jt]
def wP.small{cs tg ds sp ms}(h:wP cs tg ds sp ms):∀d∈ds,d.ins.length<=9/\d.outs.length<=9:=by
 intro d a;have⟨i,hi⟩:=pz.1 a;refine⟨?_,by have:=(h.cS i d hi).2.1;omega⟩;by_cases e:i=0;.subst e;rw[(h.base d hi).2];exact eX _
 .obtain⟨s,b⟩:∃s,sp[i]?=some s:=⟨_,bO (by have:=(cB.1 hi).1;have:=h.l1;omega)⟩;have⟨b1,b2⟩:=h.ins i d s O9 hi b;rw[b2,fC];omega
structure FE(w w':World)(rb B m:Nat)(r:qd)(r':qd):Prop where
 fx:Xc (Jw rb r) w w'
 run:gF w' rb B r'
 jL:vq r' (m+1)
 nb:r'.nb=r.nb
 c:r'.c=r.c
 made:(∃s,r'.made=mk s)/\0<r'.ids.length
def Za{C rb B m r}(v l va vc w)(h:gF w rb B r)(fh:-9223372036854775808<=v/\v<9223372036854775808)(M:0<r.ids.length)(E:vq r m)(ez:oq C w (.slice va l.length vc) l)(ey:C<=rb/\C<=B)(dq:m<=2000000)(gk:0<=r.c.bi/\r.c.bi<=2):Cv 9 #[.pointer rb,.agg #[.int .i64 v,.slice va l.length vc]] w λe w'=>e=.returned ↑aD/\∃cz,FE w w' rb B m r cz:=by
 have e5:=E.il;have gm:=E.cl;have fc:=E.tg;have gz:=h.row.lt;have e7:Hid (∀q,r.kv.ownBlock=some q->q<(w:Nat)):=λq hq=>(kG h.aY q hq).2;have H:Below w w ((w.alloc (.cells #[v,.slice va l.length vc] 32)).alloc (.cells #[.slice va l.length vc,aA] 82)):=(B0.alloc L9 _).alloc Z9 _;have RS:=(aX w [v,.slice va l.length vc] 32).keep (B0.alloc L9 (.cells #[.slice va l.length vc,aA] 82)) (aX w [v,.slice va l.length vc] 32).lt;have V:=aX (w.alloc (.cells #[v,.slice va l.length vc] 32)) [.slice va l.length vc,aA] 82;rw[bJ]at V;have du:=kL v (r.ids.length:Int) O9;obtain⟨f,dv⟩:∃f:Nat,jP v (r.ids.length:Int)=(f:Int):=⟨_,(Kr du.1).symm⟩;have dw:f<r.ids.length:=O9;have ae:=bO dw;generalize r.ids[f]=P at ae;clear du dw;go_enter fA Tryz.func9,Tryz.ntmps9;go_wp2;have L:mL C ((w.alloc (.cells #[v,.slice va l.length vc] 32)).alloc (.cells #[.slice va l.length vc,aA] 82)) ((w:Nat)+1) l 0:=⟨⟨_,V,ez.keep H O9⟩,O9,eX _⟩;have S:=h.keep H;have cd:=H.size;generalize(w.alloc (.cells #[v,.slice va l.length vc] 32)).alloc (.cells #[.slice va l.length vc,aA] 82)=X at H RS V L S cd|-;have cj:=aep v X S M O9 fh;rw[dv]at cj;have dt:=V.lt;clear V;refine cj.mono ?_;rintro e w1 ⟨rfl,au⟩;replace S:=S.keep au;replace L:=L.keep au dt;replace H:=H.trans (au.mono cd);clear cj RS au dv;go_wp2;refine(jQ w1 ((w:Nat)+1) l 0 8 L O9 O9).mono ?_;rintro e w2 ⟨rfl,ao,bu⟩;generalize Gv l 0 8=bf;generalize L5 l 0=k2 at ao;have dx:=S.kR L bu;have ed:Xc (Jw rb r) w w2:=(iN H).grown bu (λk e ay=>by cases e;omega);have g1:=ao.lt;clear L S bu H dt cd;go_wp2;refine(Uq w2 dx ao ae O9 O9 ey.1 O9 fc).mono ?_;rintro e w3 ⟨D,bits,ta,bj,sv,mv,ds,sp,ms,rfl,gl,gg,dk,dh,dm,dj,di,dn,o,b9,c8⟩;have ee:Xc (Jw rb r) w w3:=ed.trans c8 (λk ay e=>by
  obtain e|e:=e;.omega
  .exact .inl e)
 obtain⟨N,e1⟩:∃N:Nat,bits=(N:Int):=⟨bits.toNat,O9⟩;subst e1;have b0:N<=3:=O9;have dz:0<=(r.tag+1)%65535/\(r.tag+1)%65535<=65535:=O9;generalize(r.tag+1)%65535=tg at o b9 dz;have g2:=c8.size;clear ao dx ed c8;have K:Below w3 w3 (w3.alloc (.cells #[P,↑(N:Int),aA,.slice ta ds.length bj] 76)):=B0.alloc L9 _;have RB:=aX w3 [P,↑(N:Int),aA,.slice ta ds.length bj] 76;have i8:=E.i8 P (cQ ae);have av:Hid (∀n:Nat,n<65536->mR (wB (fQ P) N (ds.map eU.m) n)=true):=λn ab=>o.fits dn E.cg i8 O9 ab;have aa:∀wrong:Bool,_:=λwrong=>Ag (fQ P) N ta bj ds sv mv sp ms wrong _ (b9.keep K) (dk.keep K) dh (dm.keep K) (dj.keep K) o.pos O9 o.small o.l1 o.l2 (λi d s hi e4 cb=>by rw[(o.ins i d s hi e4 cb).2,fC]) (λs cb x g=>(E.cg x (o.CQ s cb x g)).ok) di (λm dq=>by have:=(o.vo m dq).1;omega) (by show r.aY.length<=20000000;omega) (λn ab=>FD (av.out n ab) (FC _ _ _)) O9 (av.out 0 O9);rw[RU]at aa;have ef:=ee.then K;have gp:=RB.lt;replace aa:=aL aa;replace o:=aL o;clear ee K dk dh dm dj di b9;go_wp2;refine(aa.out _).mono ?_;rintro e w4 ⟨bz,⟨kv,ag⟩,n,ab,rfl,cf⟩;have b4:=FD (F:=oz sp (pT (ds.map eU.m)) (bf==7)) (av.out n ab) (FC _ _ _);have dp:=R4 (BG b4);have ar:wS (fQ P) N (PG (oz sp (pT (ds.map eU.m)) (bf==7)) (ds.map eU.m)) n≠[]:=ads;generalize wS (fQ P) N (PG (oz sp (pT (ds.map eU.m)) (bf==7)) (ds.map eU.m)) n=a at dp ar cf|-;have gq:=MW ar;have b6:Hid (∀md,vq {r with tag:=tg,kv:=kv,aY:=r.aY++jB (pT (ds.map eU.m)) (ms.map Prod.snd),made:=md} (m+1)):=λmd=>E.aY (by rw[fC];exact dn) (λk ay=>by obtain⟨x,g,rfl⟩:=gS.1 ay;have:=o.out.vo x g;exact⟨this.1.2,this.2⟩) dz
 have eg:Xc (Jw rb r) w w4:=ef.trans bz (λk ay e=>by
  obtain e|e|⟨e,_⟩|⟨e,_⟩:=e;.exact .inl e
  .exact .inr (.inl e)
  .omega
  .omega)
 have db:=RB.xc bz (by
  rintro(e|e|⟨_,cs,e⟩|⟨_,cs,e⟩);.omega
  .have:=e7.out _ e;omega
  .exact RB.ne e D9 rfl
  .exact RB.ne e D9 rfl)
 have bq:w4.cell? (rb,10)=some ↑r.made:=ag.row.cell 10;have f10:=ag.row.frozen 10;have e9:=ag.row.lt;have p:=ag.made ⟨#[]⟩;have bd:Xc (Jw rb r) w (w4.setCell (rb,10) ↑aB):=eg.setCell (rb,10) _ (λ_=>.inl rfl);have bo:=db.aO (rb,10) ↑aB (by show(w3:Nat)≠rb;omega);have af:=Ug (kZ a) _ p.ids (by show r.ids.length<=20000000;omega);have c6:(w4.setCell (rb,10) ↑aB).cell? (rb,6)=some r.iv:=p.row.cell 6;replace af:=aL af;replace cf:=aL cf;clear aa av b4 bz ef eg RB db ag ar;generalize ga:jB (pT (ds.map eU.m)) (ms.map Prod.snd)=J at p b6;go_wp2;refine af.out.mono ?_;rintro e A ⟨rfl,ea⟩;rw[<-ea]at bd bo p c6;clear af ea bq f10 e9;have gd:Hid (∀x∈J,x∈r.aY++J):=λx g=>List.mem_append_right _ g;by_cases b8:kZ a∈r.ids;.obtain⟨fs,az,_⟩:=H8 r.ids (kZ a) 0 b8;rw[iV]at az;rw[az];have gu:(0:Int)<=(fs:Int):=O9;replace az:=aL az;go_wp2;go_ret;exact⟨rfl,_,⟨bd,p,b6.out _,rfl,rfl,⟨[],rfl⟩,M⟩⟩
 .rw[Fq r.ids (kZ a) 0 b8];have gv:¬(0:Int)<=-1:=O9;obtain⟨bb,bc,O⟩:=bD p.ids;obtain⟨g6,wc,fi⟩:=bD p.dP;have bq:A.cell? (rb,10)=some ↑aB:=p.row.cell 10;have f10:=p.row.frozen 10;have fa:=p.row.lt;have a6:=p.made (mk a);have MX:(A.setCell (rb,10) ↑(mk a)).cell? (rb,11)=some ↑r.behind:=a6.row.cell 11;have f11:=a6.row.frozen 11;have ca:=a6.behind (f:Int);have eh:Xc (Jw rb r) w ((A.setCell (rb,10) ↑(mk a)).setCell (rb,11) ↑(f:Int)):=(bd.setCell (rb,10) _ (λ_=>.inl rfl)).setCell (rb,11) _ (λ_=>.inl rfl);have bp:=(bo.aO (rb,10) ↑(mk a) (by show(w3:Nat)≠rb;omega)).aO (rb,11) ↑(f:Int) (by show(w3:Nat)≠rb;omega);have c6:((A.setCell (rb,10) ↑(mk a)).setCell (rb,11) ↑(f:Int)).cell? (rb,6)=some (.slice bb r.ids.length bc):=(ca.row.cell 6).trans (congrArg some O);have bk:=aX ((A.setCell (rb,10) ↑(mk a)).setCell (rb,11) ↑(f:Int)) [↑(kZ a)] 9;rw[qw,qw]at bk;have G:Below ((A.setCell (rb,10) ↑(mk a)).setCell (rb,11) ↑(f:Int)).heap.size ((A.setCell (rb,10) ↑(mk a)).setCell (rb,11) ↑(f:Int)) (((A.setCell (rb,10) ↑(mk a)).setCell (rb,11) ↑(f:Int)).alloc (.cells [.string (kZ a)].toArray 9)):=B0.alloc L9 _;have Q:=ca.keep G;have bm:(((A.setCell (rb,10) ↑(mk a)).setCell (rb,11) ↑(f:Int)).alloc (.cells [.string (kZ a)].toArray 9)).ownsRow B 9 1 (.slice bb r.ids.length bc) r.ids.length (r.ids.map Value.string):=by rw[<-O];exact Q.ids
  have da:=Q.base;have gn:r.ids.length<=100000000:=O9;have ei:=eh.then G;have dc:=bp.keep G bp.lt;replace Q:=aL Q;replace O:=aL O;clear p a6 ca bd eh bo bp G;obtain⟨i0,M,a7,a8,ba⟩:=info_parts Zb;go_wp2_with (at_builtin;refine wpList_append_own_at _ rfl _ _ 34 rfl B 9 i0 _ 1 16 aI.underlying34 M a7 a8 ba rfl D9 (.slice bb r.ids.length bc) r.ids.length (r.ids.map Value.string) rfl bm ⟨_,0,none⟩ 1 1 [↑(kZ a)] rfl rfl (λj u e6=>by rw[add0,bk.cell];exact e6) (λu ah=>by simp at ah;subst ah;rfl) (by unfold maxLen;omega) O9 da ?_;intro v9 c7 cu bx _ ec;refine Ic.out ?_);have dg:(((A.setCell (rb,10) ↑(mk a)).setCell (rb,11) ↑(f:Int)).alloc (.cells [.string (kZ a)].toArray 9)).grownBy c7 (({r with tag:=tg,kv:=kv,aY:=r.aY++J,made:=mk a,behind:=(f:Int)}:qd)).iv.ownBlock:=by rw[show(({r with tag:=tg,kv:=kv,aY:=r.aY++J,made:=mk a,behind:=(f:Int)}:qd)).iv=_ from O.out];exact bx
  obtain⟨ai,R,ej⟩:=Q.out.idp dg cu;have dd:=tH dc bm bx D9;obtain⟨Y,π,ff⟩:=cO cu r.ids.length rfl;subst ff;have c9:=(ai.cell 6).trans (congrArg some O.out);have eu:=ai.frozen 6;have ec:=ai.lt;have cr:=ei.trans ej (λk _ e=>by obtain e|e:=e;exact .inl e;exact .inr (.inr (.inl e)));have aj:=dd.aO (rb,6) (.slice Y (r.ids.length+1) π) (by show(w3:Nat)≠rb;omega);clear Q bm bk da bx dg cu ai ei ej dd dc M a7 a8 ba c6 bq MX f10 f11 fa;refine⟨?_⟩;go_wp2;generalize c7.setCell ⟨rb,6,none⟩ (.slice Y (r.ids.length+1) π)=W at R aj cr|-;obtain⟨x,g⟩:∃x,r.dP[f]?=some x:=⟨_,bO (by rw[E.wl];exact(cB.1 ae).1)⟩;have cm:=E.wb x (cQ g);obtain⟨wg,I,eb,fy⟩:=abS R.dP (k:=f) (u:=↑x) (by show(r.dP.map _)[f]?=_;rw[cW,g];rfl);have T:r.wv=.slice wg r.dP.length I:=eb;have fw:=(R.row.cell 7).trans (congrArg some T);have b1:=aj.r 1;have af:=(cB.1 g).1;have gy:(f:Int)<(r.dP.length:Int):=O9;have gx:(0:Int)<=(f:Int):=O9;have gj:(0:Int)<=(N:Int):=O9;obtain⟨y,μ⟩:∃y,IntKind.i64.wrap (x+IntKind.i64.wrap (2^N))=y:=⟨_,rfl⟩;have fo:Hid (∃z∈r.dP,0<=y/\y<=z+8):=by
   refine⟨x,cQ g,?_⟩;obtain⟨cv,cw,cx⟩:=BK N b0;have fj:x<=8*100000000:=by have:=cm.2;omega
   rw[cv]at μ;generalize((2^N:Nat):Int)=P at μ cw cx;rw[vH]at μ;omega
  have en:=aX W.drew [y] 3;have G:Below W W (W.drew.alloc (.cells [.int .i64 y].toArray 3)):=(cM B0).alloc L9 _;have a2:=R.keep G;have eo:(W.drew.alloc (.cells [.int .i64 y].toArray 3)).ownsRow B 3 1 (.slice wg r.dP.length I) r.dP.length (r.dP.map (Value.int .i64)):=by rw[<-T];exact a2.dP
  have ek:=a2.base;have fg:r.dP.length<=100000000:=by rw[E.wl];omega
  have g7:=R.row.lt;have blt:=aj.lt;have fin:Hid (∀(v1:Value) (w1:World),w1.ownsRow B 3 1 v1 (r.dP.length+1) (r.dP.map (Value.int .i64)++[.int .i64 y])->(W.drew.alloc (.cells [.int .i64 y].toArray 3)).grownBy w1 (Value.slice wg r.dP.length I).ownBlock->(∃l,Row w1 rb 37 l/\l[7]?=some (.slice wg r.dP.length I))/\∃cz,FE w (w1.setCell (rb,7) v1) rb B m r cz):=λv1 w1 bg br=>by
   have ew:(W.drew.alloc (.cells [.int .i64 y].toArray 3)).grownBy w1 (({r with tag:=tg,kv:=kv,aY:=r.aY++J,made:=mk a,behind:=(f:Int),iv:=.slice Y (r.ids.length+1) π,ids:=r.ids++[kZ a]}:qd)).wv.ownBlock:=by rw[show(({r with tag:=tg,kv:=kv,aY:=r.aY++J,made:=mk a,behind:=(f:Int),iv:=.slice Y (r.ids.length+1) π,ids:=r.ids++[kZ a]}:qd)).wv=_ from T];exact br
   obtain⟨ep,e8,fq⟩:=a2.wkp ew bg;refine⟨⟨_,ep,congrArg some T⟩,_,(cr.then G).trans fq (λk _ e=>by obtain e|e:=e;exact .inl e;exact .inr (.inr (.inr e))),e8,(b6.out ⟨#[]⟩).idp (iv:=.slice Y (r.ids.length+1) π) (wv:=v1) (x:=kZ a) (y:=y) (md:=mk a) (bh:=(f:Int)) e5 dp fo.out,rfl,rfl,⟨a,rfl⟩,by simp⟩
  obtain⟨i0,M,a7,a8,ba⟩:=info_parts adr;replace T:=aL T;clear R a2 cr G aj eb cm c9 eu ec fi;replace g:=aL g;go_region_law (refine MR aI.underlying30 M a7 a8 ba rfl D9 D9 B rfl _ _ rfl (.slice wg r.dP.length I) r.dP.length (r.dP.map (Value.int .i64)) E9 eo 1 [y] rfl (W:Nat) 1 E9 en (λu ah=>by simp at ah;subst ah;rfl) O9 fg ek ?_;intro v1 w1 bg br l1;obtain⟨fz,gc,fe⟩:=cO bg r.dP.length rfl;subst fe;obtain⟨⟨fl,ak,de⟩,cy⟩:=fin.out _ _ bg br;have g3:w1.cell? (rb,7)=some (.slice wg r.dP.length I):=(ak.cell 7).trans de;have g4:=ak.frozen 7;have g5:=ak.lt;replace cy:=aL cy;clear ak de);all_goals go_wp2
  all_goals go_ret
  all_goals exact⟨rfl,cy.out⟩
def abT:mD:=⟨⟨#[]⟩,0,0,0⟩
def MZ{B g w v l}(h:Row w g 35 [v])(c:p6 B w v l)(b:B<=g):lM B w (.slice g 1 1) [(v,l)]:=⟨na h rfl b D9,λx a=>by(simp at a;subst a;exact c)⟩
def Ck.then{LB a w w1 w2}(h:Ck LB a w w1)(b:Below w1 w1 w2):Ck LB a w w2:=⟨bI h.size b.size,λk cs t f c d=>(b.block k (bF (h.cells k cs t f c d))).trans (h.cells k cs t f c d)⟩
def gF.ck{LB a w w' rb B r}(h:gF w rb B r)(x:Ck LB a w w')(b:¬a 37)(c:¬a 9)(d:¬a 3)(e:¬a 64):gF w' rb B r:=⟨h.row.ck x b,sI h.ids x c,sI h.dP x d,sI h.aY x e,bI h.base x.size⟩
def tI{t}(a:t≠107)(b:t≠161)(c:t≠195)(d:t≠247)(f:t≠117)(g:t≠114):¬Y2 t:=by
 rintro(e|e);.exact oU a b c d f e
 .exact g e
def abU{K id}(h:Ih (λt=>t≠id) K):anyM K id=false:=by unfold anyM;rw[Km];intro i _ hi;have⟨c,a⟩:=V6.1 hi;exact h _ c a rfl
def Uu(a su h x o mem K)(e:x.outs=[o])(f:o.val<=su)(d:Ih (λt=>t≠x.id) K):(bY a su h [x] mem K []).1=0/\(bY a su h [x] mem K []).2.1.K=K.put ⟨x.id,0,o.val,o.lock,h⟩/\(bY a su h [x] mem K []).2.2=mem:=by
 have c:jI x h su ⟨K,[],0,[]⟩=(0,⟨K.put ⟨x.id,0,o.val,o.lock,h⟩,[⟨⟨x.id,0,o.val,o.lock,h⟩,true⟩],0,[]⟩):=by unfold jI dO;rw[e,aS (by show¬o.val+0>su+0;omega),abU d];rfl
 have b:bY a su h [x] mem K []=(if qX (fS mem [])then 0 else 17,⟨K.put ⟨x.id,0,o.val,o.lock,h⟩,[⟨⟨x.id,0,o.val,o.lock,h⟩,true⟩],0,[]⟩,iA a (fS mem []) mem):=by unfold bY;simp[fP];rw[c];simp
 rw[b];refine⟨?_,rfl,?_⟩;.trivial
 .trivial
def abV{a cb p bits n b}(g:mR (wB p bits b n)=true)(f:(bits:Int)=cb)(d:Shown p bits b n)(hi:kZ (wS p bits b n)∉a.ids)(c:a.ids.length≠49):M0 a cb (wS p bits b n) (wB p bits b n)=0:=by unfold M0;rw[aS (λe=>hi (xt.1 e)),aS (by show¬(bits:Int)<cb;omega),aS (by show¬(iQ (wS p bits b n)).toNat%2^((bits:Int).toNat)≠0;rw[vJ];exactλe=>e d),aS c]
def aew{c a p bits n b}(d:mR (wB p bits b n)=true)(e:(bits:Int)=c.bi)(g:Shown p bits b n)(hi:kZ (wS p bits b n)∉a.ids)(f:a.ids.length≠49):Gy c a (wS p bits b n)=if(lN c a (wB p bits b n)).1=0 then(1,0,⟨a.ids++[kZ (wS p bits b n)],kZ (wS p bits b n),a.aW+1,a.wo+2^bits,(lN c a (wB p bits b n)).2.1.K,(lN c a (wB p bits b n)).2.2,a.lo⟩)else(0,(lN c a (wB p bits b n)).1,{a with ids:=a.ids++[kZ (wS p bits b n)],mem:=(lN c a (wB p bits b n)).2.2}):=by
 unfold Gy;rw[BG d];simp only;rw[abV d e g hi f,aS S8];rfl
def y7:List yc:=[⟨65535,[],[⟨50,mk [byteOf 1]⟩]⟩]
def sh0:Shown (be 0 8) 0 y7 0:=by unfold Shown;decide+kernel
def sh1:Shown (be 0 8) 1 y7 0:=by unfold Shown;decide+kernel
def sh2:Shown (be 0 8) 2 y7 1:=by unfold Shown;decide+kernel
def no2:¬Shown (be 0 8) 2 y7 0:=by unfold Shown;decide+kernel
def id0:kZ (wS (be 0 8) 0 y7 0)≠jS:=by decide+kernel
def id1:kZ (wS (be 0 8) 1 y7 0)≠jS:=by decide+kernel
def id2:kZ (wS (be 0 8) 2 y7 1)≠jS:=by decide+kernel
def Zc{bits n}(f:bits<=2)(h:Shown (be 0 8) bits y7 n)(g:∀j,j<n->¬Shown (be 0 8) bits y7 j):kZ (wS (be 0 8) bits y7 n)≠jS:=by
 have key:∀k,Shown (be 0 8) bits y7 k->(∀j,j<k->¬Shown (be 0 8) bits y7 j)->n=k:=λk c d=>by grind
 have b:bits=0\/bits=1\/bits=2:=O9;obtain rfl|rfl|rfl:=b;.have e:=key 0 sh0 (λj a=>absurd a (oK j));subst e;exact id0
 .have e:=key 0 sh1 (λj a=>absurd a (oK j));subst e;exact id1
 .have e:=key 1 sh2 (λj a=>by have h0:j=0:=O9;subst h0;exact no2)
  subst e;exact id2
def Uv{c N n D}(f:mR (wB (be 0 8) N y7 n)=true)(e:(N:Int)=c.bi)(i:Shown (be 0 8) N y7 n)(hi:kZ (wS (be 0 8) N y7 n)≠jS)(j:50<=c.su):Gy c (an0 D) (wS (be 0 8) N y7 n)=(1,0,⟨[jS,kZ (wS (be 0 8) N y7 n)],kZ (wS (be 0 8) N y7 n),1,0+2^N,iR.put (λ_=>none) ⟨uF 65535 [] [⟨50,mk [byteOf 1]⟩],0,50,mk [byteOf 1],1⟩,[],D⟩):=by
 rw[aew f e i (by show _∉[jS];simpa using hi) (by show 1≠49;decide)];have g:lN c (an0 D) (wB (be 0 8) N y7 n)=bY c.me.toNat c.su 1 [⟨uF 65535 [] [⟨50,mk [byteOf 1]⟩],[],[⟨50,mk [byteOf 1]⟩]⟩] [] (λ_=>none) []:=by rfl
 have⟨a,b,d⟩:=Uu c.me.toNat c.su 1 ⟨uF 65535 [] [⟨50,mk [byteOf 1]⟩],[],[⟨50,mk [byteOf 1]⟩]⟩ ⟨50,mk [byteOf 1]⟩ [] (λ_=>none) rfl j (λp c h=>by cases h);rw[g,a,b,d,bE rfl];rfl
def aex:jB (pT y7) [[(⟨⟨#[]⟩,0,0,0⟩:mD)]]=[⟨uF 65535 [] [⟨50,mk [byteOf 1]⟩],0,0,0⟩]:=by rfl
def Zd(a b w):(Op.equalIn 10000 44 (.agg #[.int .i64 a,.int .i64 b]) (.agg #[a,b])).run Vp w=.ok true w:=by simp[go_sem]
def M3(s a b w):(Op.equalIn 10000 39 (.agg #[.string s,.int .i64 a,.int .i64 b]) (.agg #[s,a,b])).run Vp w=.ok true w:=by simp[go_sem]
def Bu(s l a b c d w):(Op.equalIn 10000 60 (.agg #[.string s,.int .i64 a,.int .i64 b,.string l,.int .i64 c,.bool d]) (.agg #[s,a,b,l,c,.bool d])).run Vp w=.ok true w:=by simp[go_sem]
end Go.Proofs.aH
