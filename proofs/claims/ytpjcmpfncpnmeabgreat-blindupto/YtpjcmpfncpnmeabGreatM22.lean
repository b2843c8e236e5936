/- What is Fl shows in nothing: two nodes that have the same blocks and the same chain answer the same. -/
import Derived.Test.YtpjcmpfncpnmeabGreatM17
import Derived.Test.YtpjcmpfncpnmeabGreatM18
import Derived.Test.YtpjcmpfncpnmeabGreatM21
set_option linter.all false
set_option maxHeartbeats 16000000
set_option maxRecDepth 100000
namespace Go.Proofs.aH
open Go.RowKit Tryz
attribute [local go_sem↓] Go.wp_at_zero Go.wp_at_succ
section
def SY:=@cell_regrown
variable{LB:Nat}
def Jw{nb c a}(s w)(h:jP w nb c a):Cv 12 #[ptr nb,(mk s)] w λe w'=>e=.returned (.tuple #[.agg #[(gL c a s).1,(gL c a s).2.1],(gL c a s).2.2.1])/\jP w' nb c (gL c a s).2.2.2/\Ck a.lo Y2 w w':=by
 have⟨y,L,D⟩:=h;have k:=aU w [aA,aA] 44;have G:Below w w (w.alloc (.cells #[aA,aA] 44)):=B0.alloc L9 _;have fh:=D.base.nd.mem.row.lt;have bc:a.lo<=(w:Nat):=by have h1:a.lo<=nb:=D.base.low.1;omega
 unfold ptr;go_enter_defers fA func12,ntmps12;go_wp2;replace D:=D.keep G;generalize w.alloc (.cells #[aA,aA] 44)=X at k G D|-;refine(aam s X).mono ?_;rintro e w1 ⟨O,⟨ai,rfl⟩|⟨b,gt,Q,ai,rfl,M,bq,ey⟩⟩
 .have E:gL c a s=(0,0,1,a):=by unfold gL;rw[ai]
  replace E:=aL E;have μ:Below w1 w1 (w1.alloc (.cells #[aB,aB,aA,()] 110)):=B0.alloc L9 _;replace k:=(k.keep O k.lt).keep μ (dV k.lt O.size);replace D:=(D.keep O).keep μ;replace G:=(G.trans (O.mono G.size)).trans (μ.mono (bI G.size O.size));have c0:=k.r 0;have c1:=k.r 1;have f0:=k.frozen 0;have f1:=k.frozen 1;have cd:=k.lt;unfold SQ;go_wp2;generalize w1.alloc (.cells #[aB,aB,aA,()] 110)=Y at k D G|-;have⟨v,K,T⟩:=Ar (LB:=a.lo) (mb:=y.mb) k 0 0 bc;have u:Tk a.lo Y2 0 y.mb w _:=T (Aq G);replace D:=D.tk K D9 D9 D9 D9 D9 D9 D9 D9 D9 D9 D9;generalize(Y.setCell ⟨(w:Nat),0,none⟩ ↑aA).setCell ⟨(w:Nat),1,none⟩ ↑aA=F at v K u D|-;have k0:=v.r 0;have k1:=v.r 1;exact⟨.tuple #[.agg #[aA,aA],aG],by simp[results,results12,go_sem,k0,k1],by rw[E.out],⟨y,L,by rw[E.out];exact D⟩,u.ck⟩
 .have⟨bu,_⟩:=wE ai;have br:=(pk b).1 bu;have et:∃N:Nat,b.bits=(N:Int)/\N<=8:=⟨b.bits.toNat,O9,O9⟩;have⟨N,hN,cr⟩:=et;have ao:b.bits.toNat=N:=O9;have hlen:Q.length=b.cO.length:=by have:=congrArg List.length bq;simpa using this
  have ep:1<=Q.length/\Q.length<=8:=by have h1:=(F3 bu).1;have h2:=br.2.2.2.1;omega
  have a6:=Bv ai;rw[a6,hN];generalize a8:mk ((idB s).take 7++[iK s])=I;have μ:Below w1 w1 (w1.alloc (.cells #[I,↑(mk b.parent),↑(N:Int),.slice gt Q.length Q.length] 110)):=B0.alloc L9 _;have RH:=aU w1 [I,↑(mk b.parent),↑(N:Int),.slice gt Q.length Q.length] 110;replace k:=(k.keep O k.lt).keep μ (dV k.lt O.size);replace D:=(D.keep O).keep μ;replace G:=(G.trans (O.mono G.size)).trans (μ.mono (bI G.size O.size));replace M:=M.keep μ;have b6:Hid (gL c a s=if uv a c.bi s b≠0 then(0,0,uv a c.bi s b,a)else if(eV a s b).wo<=(gA a).wo then(0,0,0,{a with bl:=a.bl++[eV a s b]})else pK c {a with bl:=a.bl++[eV a s b]} a.bl.length (eV a s b).aY):=by show _=_;unfold gL;rw[ai]
  have dt:Hid (∀W,gQ W nb oq c y L a->Cv 32 #[.pointer nb,.agg #[I,↑(mk b.parent),↑(N:Int),.slice gt Q.length Q.length]] W λe w'=>e=.returned ↑(uv a c.bi s b)/\Below (W:Nat) W w'):=by
   intro W aa;have fg:y.l.length<=49:=by rw[aa.ll];exact aa.wf.ll
   have h1:=NC (nb:=nb) (gt:=gt) (q:=Q.length) (c:=Q.length) ((idB s).take 7) (iK s) (mk b.parent) N c.bi W aa.base.nd.rf (by rw[aa.base.nd.mem.row.cell];exact aa.base.nd.Nc) (by rw[aa.base.nd.mem.row.cell];rfl) O9 (V2 aa.base.rS) cr (by rw[kI,JJ];decide);rw[a8,<-ao,ae7 aa (t:=s) br.2.1.1 I (by rw[a6,a8]),ao]at h1;exact h1
  change Hid _ at a8 a6 hN ao hlen bq ai br bu;go_wp2;generalize w1.alloc (.cells #[I,↑(mk b.parent),↑(N:Int),.slice gt Q.length Q.length] 110)=V at k RH D G M|-;clear μ O;generalize(w1:Nat)=bh at RH|-;refine(Qe V D.base.row).mono ?_;rintro e w2 ⟨rfl,dq,de⟩;have⟨B,ae⟩:=D.shut rfl (lk':=oq) rfl de dq;have u:Tk a.lo Y2 y.n y.mb w w2:=(Aq G).trans (ae.zero.mono (λt e=>.inl (.inl (.inl e))));replace k:=k.tk ae D9;replace RH:=RH.tk ae D9;replace M:=M.tk ae D9 D9 D9;clear D dq de ae G;have k0:=RH.r 0;have k1:=RH.r 1;have k2:=RH.r 2;have cz:=RH.r 3;have du:=aL (dt.out w2 B);go_wp2;refine du.out.m1 λw3 au=>?_;replace k:=k.keep au k.lt;replace RH:=RH.keep au RH.lt;replace M:=M.keep au;replace B:=B.keep au;replace u:Tk a.lo Y2 y.n y.mb w w3:=u.trans (Aq au);clear du dt k0 k1 k2 cz au;by_cases hr:uv a c.bi s b=0
  .have bj:Hid (gL c a s=if(eV a s b).wo<=(gA a).wo then(0,0,0,{a with bl:=a.bl++[eV a s b]})else pK c {a with bl:=a.bl++[eV a s b]} a.bl.length (eV a s b).aY):=by have:=b6.out;rw[aT (by simpa using hr)]at this;exact this
   have cv:=a6.out.trans a8.out;have⟨r1,r2,r3,fj⟩:=BP hr;obtain⟨p,di,bz⟩:∃p,jF y.l (mk b.parent)=some p/\y.l[Du a b]?=some p:=by
    obtain⟨db,_⟩|⟨_,p,e2,e3⟩:=aaz B b;.rw[r2]at db;cases db
    .exact⟨p,e2,e3⟩
   have b7:=B.tie _ _ _ bz (rZ r2).1;have ff:y.l.length<=49:=by rw[B.ll];exact B.wf.ll
   have dp:(0<=p.aY/\p.aY<=100000)/\(0<=p.wo/\p.wo<=100000000):=by have h1:=B.wf.hle _ _ (rZ r2).1;have h2:=(cE.1 (rZ r2).1).1;have ek:=B.wf.ll;rw[b7.aY,b7.wo];omega
   have ba:=Z7 (gt:=gt) (q:=Q.length) (c:=Q.length) I (mk b.parent) N p w3 B.base.nd.mem.row B.base.nd.Nc B.base.nd.rf di B.base.nd.mem.base O9 cr dp.1 dp.2;unfold ptr at ba;replace ba:=aL ba;have k0:=RH.r 0;have k1:=RH.r 1;have k2:=RH.r 2;have cz:=RH.r 3;have ez:=aL hr;rw[hr];change Hid _ at cv bz r1;clear b6 hr di;go_wp2;refine ba.out.mono ?_;rintro e w4 ⟨A,eh,rfl,en,bo,cx,da⟩;have ca:Tk a.lo Yk 0 y.mb w3 w4:=(SS B.base bo cx da).2.2;replace M:=M.tk ca (by unfold Yk;decide) (by unfold Yk;decide) (by unfold Yk;decide);rw[<-cv.out]at bo;have⟨H,_⟩:=ae8 B ez.out ao.out cr bq.out ey ep M bz.out en bo cx da;have bx:(y.l++[GW A (kT s) p N (.slice (some ⟨gt,0,none⟩) Q.length Q.length)])[a.bl.length]?=some (GW A (kT s) p N (.slice gt Q.length Q.length)):=by rw[<-B.ll];simp
   have b0:p.wo+2^N=(eV a s b).wo:=by show _=(yR a b).wo+2^b.bits.toNat;rw[b7.wo,ao.out]
   replace k:=k.tk ca (by unfold Yk;decide);replace u:Tk a.lo Y2 y.n y.mb w w4:=u.trans (ca.zero.mono (λt e=>by obtain e|e:=e;exact .inl (.inl (.inl e));exact .inr e));have dk:¬Dt a.ch (eV a s b).aY a.bl.length:=λe=>by unfold Dt at e;cases cy:a.ch[(eV a s b).aY]? with
    |none=>rw[cy]at e;cases e
    |some z=>rw[cy]at e;simp only[dY,gW]at e;have⟨x,bk,_⟩:=B.wf.ch _ z cy;have:=(cE.1 bk).1;omega
   have b8:y.p.wo=(gA a).wo:=B.base.wo;obtain⟨o,b4⟩:∃o,o=({y with bv:=eh,l:=y.l++[GW A (kT s) p N (.slice (some ⟨gt,0,none⟩) Q.length Q.length)]}:Lay):=⟨_,rfl⟩;rw[<-b4]at H;have ei:o.n=y.n/\o.mb=y.mb/\o.p=y.p/\o.l=y.l++[GW A (kT s) p N (.slice (some ⟨gt,0,none⟩) Q.length Q.length)]:=by rw[b4];exact⟨rfl,rfl,rfl,rfl⟩
   have⟨dc,av,dd,cj⟩:=ei;rw[<-cj]at bx;obtain⟨m,ah⟩:∃m,m=({a with bl:=a.bl++[eV a s b]}:AG):=⟨_,rfl⟩;rw[<-ah]at H;have bb:m.lo=a.lo:=by rw[ah]
   have bf:m.bl[a.bl.length]?=some (eV a s b):=by rw[ah];simp
   have cw:¬Dt m.ch (eV a s b).aY a.bl.length:=by rw[ah];exact dk
   rw[<-ah]at bj;have ew:∃nw:kH,o.l[a.bl.length]?=some nw/\nw.a=A/\nw.wo=p.wo+2^N:=⟨_,bx,rfl,rfl⟩;have⟨nw,bd,dm,dn⟩:=ew;have b3:w4.cell? (A,3)=some ↑(p.wo+2^N):=by rw[<-dm,<-dn];exact(H.base.nd.rf.row nw (cU bd)).cell 3
   have ed:w4.cell? (y.p.a,3)=some ↑y.p.wo:=by rw[<-dd];exact(H.base.nd.rf.row o.p H.base.rS).cell 3
   have N6:w4.cell? (nb,12)=some (.slice o.gc (o.kc+1) o.cc):=by rw[H.base.nd.mem.row.cell];exact H.base.nd.N6
   have cl:w4.cell? (o.gc,o.kc*2)=some (.pointer y.p.a):=by rw[<-dd];have:=H.base.nd.chain.cells (g:=o.gc) rfl (o.kc*2) _ H.base.link;rwa [add0]at this
   have fe:o.kc<=49:=by have h1:o.kc=m.ch.length -1:=H.base.kc;have h2:=H.wf.chl;have ek:=H.wf.ll;omega
   change Hid _ at b0 b8 bx bd bf cj b4 ah;clear ba k0 k1 k2 cz RH bo cx da ca b7 dk B dn;go_wp2;have e6:=SY b3;have e7:=SY ed;have ee:∀d os,Cv 34 #[.pointer nb] (Go.Sort.grow (redrawn w4 d) os) λe e8=>e=.returned (.pointer y.p.a)/\∃p:Regrown,e8=Go.Sort.grow (redrawn w4 p.d) p.os:=λd os=>Calls.regrown_of (IJ nb o.gc o.kc o.cc y.p.a _ (SY N6 d os) (SY cl d os) O9)
   refine wp_region_quiet_below FD K8 ?_;repeat(go_big_quiet_step (first|(go_at_call 34;exact ee _ _)))
   refine wpQuiet_nil ?_;intro _ e4;have⟨⟨cf,c7⟩,e5⟩:=e4;subst e5;have hq:=below_regrown w4 cf c7;clear e6 e7 ee b3 ed N6 cl;have af:=H.keep hq;replace k:=k.keep hq k.lt;replace u:Tk a.lo Y2 y.n y.mb w (Go.Sort.grow (redrawn w4 cf) c7):=u.trans (Aq hq);clear H;generalize Go.Sort.grow (redrawn w4 cf) c7=π at af k u hq|-;clear hq;by_cases b9:p.wo+2^N<=y.p.wo
   .have a7:decide (p.wo+2^N<=y.p.wo)=true:=by simpa using b9
    rw[a7];have E:Hid (gL c a s=(0,0,0,m)):=by have:=bj.out;rw[bD (by rw[<-b0.out,<-b8.out];exact b9)]at this;exact this
    have c0:=k.r 0;have c1:=k.r 1;have f0:=k.frozen 0;have f1:=k.frozen 1;have cd:=k.lt;clear a7 bj;go_wp2;have⟨v,K,T⟩:=Ar (LB:=a.lo) (mb:=o.mb) k 0 0 bc;replace u:=T u;have C:=af.tk K D9 D9 D9 D9 D9 D9 D9 D9 D9 D9 D9;generalize(π.setCell ⟨(w:Nat),0,none⟩ ↑aA).setCell ⟨(w:Nat),1,none⟩ ↑aA=F at v K u C|-;refine qu (f:=31) (args:=#[.pointer nb]) S8 (by simp[go_sem]) ?_;refine(tI .returning F C.base.row).mono ?_;rintro e c8 R ⟨rfl,rfl,bg,ay⟩;have⟨az,J⟩:=C.shut rfl (lk':=qM) rfl ay bg;rw[bb]at J;replace v:=v.tk J D9;have bm:=u.trans (Tk.mono (Tk.zero (by rw[av]at J;exact J)) (λt e=>.inl (.inl (.inl e))));have k0:=v.r 0;have k1:=v.r 1;exact⟨.tuple #[.agg #[aA,aA],aA],by simp[results,results12,go_sem,k0,k1],by rw[E.out],⟨_,_,by rw[E.out];exact az⟩,bm.ck⟩
   .have a7:decide (p.wo+2^N<=y.p.wo)=false:=by simpa using b9
    rw[a7];clear a7;have dv:Hid (gL c a s=pK c m a.bl.length (eV a s b).aY):=by have:=bj.out;rw[aT (by rw[<-b0.out,<-b8.out];exact b9)]at this;exact this
    have⟨W,fi,bp,ag,ar,a2⟩:=af.over (y:=eV a s b) bf.out rfl cw bd.out;have hgo:=acM π bp;rw[ag]at hgo;unfold ptr at hgo;rw[dm]at hgo;change Calls _ _ _ _ (λe w'=>Tk m.lo Y1 o.n o.mb π w'/\dI π w'/\∃ec,(((bR c.me.toNat c.su _ m.mem (goes uu (dP (L.take (cH m a.bl.length (eV a s b).aY))))).e=0/\_)\/_))at hgo;rw[af.flat]at hgo;change Calls _ _ _ _ (λe w'=>Tk m.lo Y1 o.n o.mb π w'/\dI π w'/\∃ec,(((dU c m a.bl.length (eV a s b).aY).e=0/\_)\/_))at hgo;replace hgo:=aL hgo;have cm:=aL (IV (y:=eV a s b) af bp.ok ag);have cu:=aL bp.ok;clear bj bp;change Hid _ at ag ar a2;have P:=aL af;clear af;go_wp2;refine hgo.out.mono ?_;rintro e ab ⟨S,cb,ec,⟨π,rfl,aj,fc,fb,fa,ak,l1,l2,eb⟩|⟨π,rfl,aj,x,j,bk,ae,ak⟩⟩
    .have C:=ae9 P.out bf.out rfl cw bd.out cu.out ag.out ar.out a2.out π aj ak l1 l2 eb S cb;have E:Hid (gL c a s=(((m.ch.length -cH m a.bl.length (eV a s b).aY:Nat):Int),((iJ m a.bl.length (eV a s b).aY).length:Int),0,m.wM a.bl.length (eV a s b) (dU c m a.bl.length (eV a s b).aY))):=by have:=dv.out;unfold pK at this;change (dU c m a.bl.length (eV a s b).aY).e=0 at π;rw[bD π]at this;exact this
     have eu:Hid (o.kc+1=m.ch.length):=by have h1:o.kc=m.ch.length -1:=P.out.base.kc;have⟨_,_,_,_,_,h2⟩:=P.out.wf.rS;show _=_;omega
     clear l1 l2 eb π;replace k:=k.tk S (oV D9 D9 D9 D9 D9);rw[bb,dc,av]at S;replace u:Tk a.lo Y2 y.n y.mb w ab:=u.trans (S.mono (λt e=>.inl e));have c0:=k.r 0;have c1:=k.r 1;have f0:=k.frozen 0;have f1:=k.frozen 1;have cd:=k.lt;replace C:=aL C;clear hgo ak aj S cb M cm cu ag ar;go_wp2;replace C:=C.out;have⟨v,K,T⟩:=Ar (LB:=a.lo) (mb:=o.mb) k ((o.kc+1 -cH m a.bl.length (eV a s b).aY:Nat):Int) (W.length:Int) bc;replace u:=T u;replace C:=C.tk K D9 D9 D9 D9 D9 D9 D9 D9 D9 D9 D9;generalize(ab.setCell ⟨(w:Nat),0,none⟩ (.int .i64 ((o.kc+1 -cH m a.bl.length (eV a s b).aY:Nat):Int))).setCell ((w:Nat),1) ↑(W.length:Int)=F at v K u C|-;refine qu (f:=31) (args:=#[.pointer nb]) S8 (by simp[go_sem]) ?_;refine(tI .returning F C.base.row).mono ?_;rintro e c8 R ⟨rfl,rfl,bg,ay⟩;have⟨az,J⟩:=C.shut rfl (lk':=qM) rfl ay bg;change Tk m.lo _ 0 o.mb F R at J;rw[bb,av]at J;replace v:=v.tk J D9;have bm:=u.trans (Tk.mono (Tk.zero J) (λt e=>.inl (.inl (.inl e))));have k0:=v.r 0;have k1:=v.r 1;refine⟨.tuple #[.agg #[.int .i64 ((o.kc+1 -cH m a.bl.length (eV a s b).aY:Nat):Int),↑(W.length:Int)],aA],by simp[results,results12,go_sem,k0,k1],by rw[E.out,<-eu.out,<-a2.out],⟨_,_,by rw[E.out];exact az⟩,bm.ck⟩
    .have dw:=aaB P.out.wf bf.out rfl cw;have dh:Hid (∃i z,(iJ m a.bl.length (eV a s b).aY)[(dU c m a.bl.length (eV a s b).aY).at_]?=some i/\m.bl[i]?=some z/\¬Dt m.ch z.aY i/\i=j):=by have dj:=(cE.1 bk).1;rw[a2.out]at dj;have e:=bS dj;have⟨z,e9,_,z3,_⟩:=dw.at_ _ _ e;exact⟨_,z,e,e9,z3,Au P.out.nda (ar.out _ _ x e bk) ae rfl⟩
     obtain⟨i,z,dx,dz,ea,rfl⟩:=dh.out;have dg:=(yS c.me.toNat c.su _ m.mem _ (NQ _) (P.out.wf.Dr (cH m a.bl.length (eV a s b).aY)) P.out.base.mem cm.out).2.2;rw[P.out.flatAll]at aj;rw[<-P.out.sl]at ak;have C:=agq P.out dz ea dg aj ak S cb;have E:Hid (gL c a s=(0,0,(dU c m a.bl.length (eV a s b).aY).e,m.spoilt i (dU c m a.bl.length (eV a s b).aY).mem)):=by have:=dv.out;unfold pK at this;change (dU c m a.bl.length (eV a s b).aY).e≠0 at π;rw[aT π,BR,dx]at this;exact this
     clear dh dw bk ae dx dz ea dg π;replace k:=k.tk S (oV D9 D9 D9 D9 D9);rw[bb,dc,av]at S;replace u:Tk a.lo Y2 y.n y.mb w ab:=u.trans (S.mono (λt e=>.inl e));have c0:=k.r 0;have c1:=k.r 1;have f0:=k.frozen 0;have f1:=k.frozen 1;have cd:=k.lt;replace C:=aL C;clear hgo ak aj S cb M cm cu ag ar;go_wp2;replace C:=C.out;have⟨v,K,T⟩:=Ar (LB:=a.lo) (mb:=o.mb) k 0 0 bc;replace u:=T u;replace C:=C.tk K D9 D9 D9 D9 D9 D9 D9 D9 D9 D9 D9;generalize(ab.setCell ⟨(w:Nat),0,none⟩ ↑aA).setCell ⟨(w:Nat),1,none⟩ ↑aA=F at v K u C|-;refine qu (f:=31) (args:=#[.pointer nb]) S8 (by simp[go_sem]) ?_;refine(tI .returning F C.base.row).mono ?_;rintro e c8 R ⟨rfl,rfl,bg,ay⟩;have⟨az,J⟩:=C.shut rfl (lk':=qM) rfl ay bg;change Tk m.lo _ 0 o.mb F R at J;rw[bb,av]at J;replace v:=v.tk J D9;have bm:=u.trans (Tk.mono (Tk.zero J) (λt e=>.inl (.inl (.inl e))));have k0:=v.r 0;have k1:=v.r 1;refine⟨.tuple #[.agg #[aA,aA],   ↑(dU c m a.bl.length (eV a s b).aY).e],by simp[results,results12,go_sem,k0,k1];rfl,by rw[E.out],⟨_,_,by rw[E.out];exact az⟩,bm.ck⟩
  .have E:Hid (gL c a s=(0,0,uv a c.bi s b,a)):=by have:=b6.out;rw[bD hr]at this;exact this
   have e1:(uv a c.bi s b==0)=false:=by simpa using hr
   have c0:=k.r 0;have c1:=k.r 1;have f0:=k.frozen 0;have f1:=k.frozen 1;have cd:=k.lt;generalize uv a c.bi s b=r at hr e1 E|-;clear b6;go_wp2;have⟨v,K,T⟩:=Ar (LB:=a.lo) (mb:=y.mb) k 0 0 bc;replace u:=T u;replace B:=B.tk K D9 D9 D9 D9 D9 D9 D9 D9 D9 D9 D9;generalize(w3.setCell ⟨(w:Nat),0,none⟩ ↑aA).setCell ⟨(w:Nat),1,none⟩ ↑aA=F at v K u B|-;refine qu (f:=31) (args:=#[.pointer nb]) S8 (by simp[go_sem]) ?_;refine(tI .returning F B.base.row).mono ?_;rintro e c8 ef ⟨rfl,rfl,e0,ej⟩;have⟨eo,eg⟩:=B.shut rfl (lk':=qM) rfl ej e0;replace v:=v.tk eg D9;replace u:=u.trans (eg.zero.mono (λt e=>.inl (.inl (.inl e))));have k0:=v.r 0;have k1:=v.r 1;exact⟨.tuple #[.agg #[aA,aA],r],by simp[results,results12,go_sem,k0,k1],by rw[E.out],⟨y,L,by rw[E.out];exact eo⟩,u.ck⟩
end
def Dl(D:Nat):AG:=⟨[⟨jQ,0,0,0,[],false⟩],[⟨0,[]⟩],[],D⟩
def wf0(D):zU (Dl D):=by
 refine⟨⟨_,rfl,rfl,rfl,rfl⟩,λi x b h0=>?_,⟨_,rfl,rfl⟩,λh y a=>?_,λh y x a=>?_,trivial,λy a=>?_,λf=>?_,?_,show(1:Nat)<=49 by decide⟩;.have:i<1:=(cE.1 b).1;omega
 .have:h<1:=(cE.1 a).1;obtain rfl:h=0:=O9;cases a;exact⟨_,rfl,rfl,rfl⟩
 .trivial
 .rw[jW.1 a];exact fJ _
 .have e:gP ((Dl D).ch.take f)=[]:=by cases f with
   |zero=>rfl
   |succ f=>cases f<;>rfl
  rw[e];exactλp c h=>by cases h
 .show[jQ].Nodup;simp
def R6{D w b c}(h:Ms D w b c)(g:c.ok=true):jP w b c (Dl D):=by
 have⟨s,f,h,d,e2⟩:=acB h g;refine⟨s,[⟨f,[],none,0⟩],h,e2,wf0 D,by rw[d];rfl,λi x y a e=>?_,by rw[d];simp,rfl,λi x y a e=>?_⟩;.have hi:i<1:=(cE.1 e).1;obtain rfl:i=0:=O9;rw[d]at a|-;cases a;cases e;exact⟨rfl,rfl,rfl,rfl,λ_=>rfl,λh0=>by omega,λ_ h0=>by omega⟩
 .have hi:i<1:=(cE.1 a).1;obtain rfl:i=0:=O9;cases a;cases e;exact⟨rfl,.inl rfl,_,by rw[d];rfl,rfl⟩
def jP.keep{w w' nb c a}(h:jP w nb c a)(b:Below w w w'):jP w' nb c a:=by have⟨s,L,h⟩:=h;exact⟨s,L,h.keep b⟩
def jP.is{w nb c a}(h:jP w nb c a):uw w nb c a.an:=by have⟨s,L,h⟩:=h;exact h.is
def jP.wf{w nb c a}(h:jP w nb c a):zU a:=by have⟨s,L,h⟩:=h;exact h.wf
def VC{a}(h:zU a){i z}(hi:a.bl[i]?=some z)(c:¬Dt a.ch z.aY i)(M):gA (a.spoilt i M)=gA a:=by
 have⟨b,t1,t2,t3,t4,t5⟩:=h.rS;have e:gA (a.spoilt i M)=(gA a).mark ((IU a.bl i).getD b.ix false):=by unfold gA;show((a.ch[a.ch.length -1]?).bind λy=>(jC a.bl i)[y.ix]?).getD _=_;rw[t1,uP];unfold jC;rw[lU t2,uP,t2];rfl
 rw[e,h.clean hi c _ b t1,aaC t4]
def aaD{c a s}(h:zU a)(V:∀b,np s=some b->mk b.parent=(gA a).id):∃a',gL c a s=(0,(Ds c a.an s).1,(Ds c a.an s).2.1,a')/\a'.an=(Ds c a.an s).2.2:=by unfold gL Ds;cases C:np s with
 |none=>exact⟨_,rfl,rfl⟩
 |some b=>
   simp only;have I:=V b C;have⟨r,t1,t2,t3,t4,t5⟩:=h.rS;have B:G0 a b=true:=by unfold G0;rw[WG];exact⟨_,cU t2,by simp[I]⟩
   have⟨aa,ab⟩:=rZ B;have W:Du a b=r.ix:=by
    have z:(a.bl.map BN.id)[Du a b]?=some (gA a).id:=by rw[cT,aa,dY,ab,I]
    have e2:(a.bl.map BN.id)[r.ix]?=some (gA a).id:=by rw[cT,t2];rfl
    exact(WI (cE.1 z).1 h.ids).1 (z.trans e2.symm)
   have v:yR a b=gA a:=by simp_all
   have L:uv a c.bi s b=Ng a.an c.bi s b:=by unfold uv Ng;rw[B,v,t4];show _=if NJ (a.bl.map BN.id) (kT s)=true then 10 else if b.bits<c.bi then 11 else if(iK s).toNat%2^b.bits.toNat≠0 then 11 else if(a.bl.map BN.id).length=49 then 9 else 0;rw[fM];simp
   rw[L];by_cases hr:Ng a.an c.bi s b=0;rotate_left;.simp_all
   .have M:¬Ng a.an c.bi s b≠0:=by simpa using hr
    rw[aT M,aT M];have J:=hr;rw[<-L]at J;have⟨D,_⟩:=wE C;have Q:=(pk b).1 D;have A:b.bits.toNat<=8:=by have:=Q.2.1;omega
    have ae:=aaA A;have H:(eV a s b).wo=(gA a).wo+2^b.bits.toNat:=by show(yR a b).wo+_=_;rw[v]
    have u:(eV a s b).aY=a.ch.length:=by show(yR a b).aY+1=_;rw[v,t3];omega
    have μ:(eV a s b).par=r.ix:=W;rw[aT (by rw[H];omega)];have N:=h.keep J A;obtain⟨d,f⟩:∃d,d=({a with bl:=a.bl++[eV a s b]}:AG):=⟨_,rfl⟩;rw[<-f]at N|-;have o:d.bl[a.bl.length]?=some (eV a s b):=by rw[f];simp
    have P:d.bl[r.ix]?=some (gA a):=by rw[f];exact lT t2
    have j:d.ch=a.ch:=by rw[f]
    have T:d.mem=a.mem:=by rw[f]
    have F:d.lo=a.lo:=by rw[f]
    have G:¬Dt d.ch (eV a s b).aY a.bl.length:=by unfold Dt;rw[j,u,pE L9];simp
    have π:upA d.bl d.ch ((eV a s b).aY+1) a.bl.length=[a.bl.length]:=by unfold upA;rw[o];simp only;rw[aT G];obtain⟨k,S⟩:∃k,(eV a s b).aY=k+1:=⟨_,rfl⟩;rw[S,μ];unfold upA;rw[P];simp only;rw[if_pos (by unfold Dt;rw[j,t3,t1];rfl)]
    have q:iJ d a.bl.length (eV a s b).aY=[a.bl.length]:=by unfold iJ;rw[π];rfl
    have E:cH d a.bl.length (eV a s b).aY=a.ch.length:=by unfold cH;rw[q,u];rfl
    have p:dU c d a.bl.length (eV a s b).aY=bR c.me.toNat c.su [((a.an.aY+1:Nat),b.cO.map J6)] a.mem a.an.K:=by
     unfold dU;rw[q,E,j,jI,T];have e:mA d.bl a.bl.length=(((a.an.aY+1:Nat):Int),b.cO.map J6):=by unfold mA;rw[o];show((((eV a s b).aY:Nat):Int),_)=_;rw[u];show(((a.ch.length:Nat):Int),b.cO.map J6)=(((a.ch.length -1+1:Nat):Int),b.cO.map J6);rw[show a.ch.length -1+1=a.ch.length from by omega]
     rw[kV,e];rfl
    have Y:∀x∈b.cO.map J6,x.id.size<=1000000/\(∀i∈x.ins,i.Small)/\x.outs.length<=8:=λx w=>by obtain⟨t,m,rfl⟩:=iF.1 w;have h1:=(F3 D).2 t m;exact⟨by show(mk _).size<=_;rw[dG];simp[be],h1.2.2.2.2.1,h1.2.2.2.1⟩
    have n:=BM c.me.toNat c.su ((a.an.aY+1:Nat):Int) (b.cO.map J6) a.mem (NQ (gP a.ch)) Y;change Way a.an.K (lO c a.an b).2.1 at n;unfold pK;by_cases g:(lO c a.an b).1=0
    .have l:dU c d a.bl.length (eV a s b).aY=⟨0,1,[(lO c a.an b).2.1.steps],(lO c a.an b).2.1.K,(lO c a.an b).2.2,(lO c a.an b).2.1.steps++[]⟩:=by rw[p,bR,aT (λe=>e g)];rfl
     rw[bD g,l];simp only[vG];clear l p;generalize lO c a.an b=R at n g|-;refine⟨_,by rw[q,E,j,sW];rfl,?_⟩;rw[jI];have m:gA {d with ch:=a.ch++qg [a.bl.length] [R.2.1.steps],mem:=R.2.2}=eV a s b:=by unfold gA;show(((a.ch++[(⟨a.bl.length,R.2.1.steps⟩:DT)])[(a.ch++[(⟨a.bl.length,R.2.1.steps⟩:DT)]).length -1]?).bind λy=>d.bl[y.ix]?).getD _=_;rw[bY,oM,QK,eK L9,sW];show(d.bl[a.bl.length]?).getD _=_;rw[o];rfl
     unfold AG.an;rw[m];show(⟨d.bl.map BN.id,kT s,(a.ch++[(⟨a.bl.length,_⟩:DT)]).length -1,(eV a s b).wo,goes uu (gP (a.ch++[(⟨a.bl.length,R.2.1.steps⟩:DT)])),_,d.lo⟩:AN)=_;have O:goes uu (gP (a.ch++[(⟨a.bl.length,R.2.1.steps⟩:DT)]))=R.2.1.K:=by
      rw[ow,iX];have e:gP [(⟨a.bl.length,R.2.1.steps⟩:DT)]=R.2.1.steps:=by simp[gP]
      rw[e];exact n.at_.symm
     rw[O,F,H,bY,oM];have hi:d.bl.map BN.id=a.bl.map BN.id++[kT s]:=by rw[f];show(a.bl++[eV a s b]).map BN.id=_;rw[nP];rfl
     rw[hi];have hh:a.ch.length+1 -1=a.ch.length -1+1:=O9;rw[hh]
    .have l:dU c d a.bl.length (eV a s b).aY=⟨(lO c a.an b).1,0,[],(lO c a.an b).2.1.K,(lO c a.an b).2.2,(lO c a.an b).2.1.steps⟩:=by rw[p,bR,bD (by exact g),bD rfl];rfl
     rw[aT g,l];simp only;rw[aT g];clear l p;generalize lO c a.an b=R at n g|-;refine⟨_,rfl,?_⟩;rw[q];have m:=VC N o G R.2.2;have X:=SX h j (λi x w=>by rw[f];exact lT w);show(d.spoilt a.bl.length R.2.2).an=_;unfold AG.an;rw[m,X];show(⟨(jC d.bl a.bl.length).map BN.id,_,d.ch.length -1,_,goes uu (gP d.ch),_,d.lo⟩:AN)=_;have hi:d.bl.map BN.id=a.bl.map BN.id++[kT s]:=by rw[f];show(a.bl++[eV a s b]).map BN.id=_;rw[nP];rfl
     rw[ru,hi,j,F];rfl
section
variable{LB:Nat}
def YM(t:TypeId):Prop:=t=37\/t=64\/t=9\/t=3
abbrev Mf(LB:Nat)(w w':World):Prop:=Tk LB YM 0 (λ_=>0) w w'
def af8{t}(a:t≠64)(b:t≠37)(c:t≠9)(d:t≠3):¬YM t:=by
 rintro(e|e|e|e);.exact b e
 .exact a e
 .exact c e
 .exact d e
def JM(rb:Nat)(r:p9)(k:Nat):Prop:=k=rb\/r.kv.ownBlock=some k\/r.iv.ownBlock=some k\/r.wv.ownBlock=some k
def af9{S w w'}(x:Xc S w w')(h:∀k,k<↑w->S k->LB<=k/\∃t cs,YM t/\Row w k t cs):Mf LB w w':=IA x (by rintro k ⟨i,hi,_⟩;omega) (λk d e=>by have⟨a,t,cs,b,c⟩:=h k d e;exact .inr ⟨a,_,_,_,b,c⟩)
def gB.mf{w w' rb B r}(h:gB w rb B r)(x:Xc (JM rb r) w w')(b:LB<=rb/\LB<=B):Mf LB w w':=by
 refine af9 x (λk _ e=>?_);obtain e|e|e|e:=e;.subst e;exact⟨b.1,_,_,.inl rfl,h.row⟩
 .have⟨cs,a⟩:=jR h.aV e;exact⟨bI b.2 (bV h.aV e).1,_,_,.inr (.inl rfl),a⟩
 .have⟨cs,a⟩:=jR h.ids e;exact⟨bI b.2 (bV h.ids e).1,_,_,.inr (.inr (.inl rfl)),a⟩
 .have⟨cs,a⟩:=jR h.dQ e;exact⟨bI b.2 (bV h.dQ e).1,_,_,.inr (.inr (.inr rfl)),a⟩
def jP.mf{w w' nb c a}(h:jP w nb c a)(x:Mf LB w w'):jP w' nb c a:=by have⟨s,L,h⟩:=h;have g:Tk LB YM 0 s.mb w w':=⟨x.os,x.tape,x.output,x.size,x.cells,λk o e f _=>x.rest k o e f (by rintro⟨j,i,_⟩;omega)⟩;have n:∀t:TypeId,t≠64->t≠37->t≠9->t≠3->¬YM t:=λ_ a b c d=>af8 a b c d;exact⟨s,L,h.tk g (n _ D9 D9 D9 D9) (n _ D9 D9 D9 D9) (n _ D9 D9 D9 D9) (n _ D9 D9 D9 D9) (n _ D9 D9 D9 D9) (n _ D9 D9 D9 D9) (n _ D9 D9 D9 D9) (n _ D9 D9 D9 D9) (n _ D9 D9 D9 D9) (n _ D9 D9 D9 D9) (n _ D9 D9 D9 D9)⟩
structure Lw(C:Nat)(w w':World):Prop where
 size:w.heap.size<=w'.heap.size
 cells:∀(k:Nat) (cs:Array Value) (t:TypeId) (f:Nat×Nat),k<C->w.heap[k]?=some (.cells cs t f)->w'.heap[k]?=some (.cells cs t f)
def Lw.trans{C w w1 w2}(h:Lw C w w1)(a:Lw C w1 w2):Lw C w w2:=⟨bI h.size a.size,λk cs t f b e=>a.cells k cs t f b (h.cells k cs t f b e)⟩
def Tk.lw{a n mb w w'}(h:Tk LB a n mb w w'):Lw LB w w':=⟨h.size,λk cs t f b e=>h.cells k cs t f e (.inl b)⟩
def Ck.lw{a w w'}(h:Ck LB a w w'):Lw LB w w':=⟨h.size,λk cs t f b e=>h.cells k cs t f e (.inl b)⟩
def Lw.below{C w w'}(h:Below w.heap.size w w'):Lw C w w':=⟨h.size,λk cs t f _ e=>(h.block k (bE e)).trans e⟩
def Mp:=@Lw.below
def Lw.mono{C D w w'}(h:Lw D w w')(a:C<=D):Lw C w w':=⟨h.size,λk cs t f b e=>h.cells k cs t f O9 e⟩
def zV{C w w'}(x:Lw C w w'){a v}(c:a.block<C)(h:w.cell? a=some v):w'.cell? a=some v:=by unfold World.cell? at h|-;cases b:w.heap[a.block]? with
 |none=>rw[b]at h;simp at h
 |some o=>cases o with
   |cells cs t f=>rw[x.cells _ cs t f c b];rw[b]at h;exact h
   |_=>rw[b]at h;simp at h
def lW.lw{B C w w' v l}(h:lW B w v l)(x:Lw C w w')(n:B<=C):lW B w' v l:=by have⟨⟨a,c,m,d⟩,j,g⟩:=h;refine⟨⟨a,c,m,λk=>?_⟩,j,g⟩;have⟨b,o,e,f,d⟩:=d k;exact⟨b,o,e,f,λi y hi=>zV x (by show b<C;omega) (d i y hi)⟩
def gB.made{w rb B r}(h:gB w rb B r)(s):gB (w.setCell (rb,10) (.string s)) rb B {r with made:=s}:=⟨h.row.set 10 _,bO h.ids h.row D9,bO h.dQ h.row D9,bO h.aV h.row D9,by rw[qx];exact h.base⟩
def gB.behind{w rb B r}(h:gB w rb B r)(n):gB (w.setCell (rb,11) (.int .i64 n)) rb B {r with behind:=n}:=⟨h.row.set 11 _,bO h.ids h.row D9,bO h.dQ h.row D9,bO h.aV h.row D9,by rw[qx];exact h.base⟩
def tG{B' j i g w w' t a cs k u}(h:Row w g t cs)(f:w.ownsRow B' a j u i k)(d:w.grownBy w' u.ownBlock)(e:t≠a):Row w' g t cs:=qW h d (λc=>by have⟨_,l,b⟩:=bV f c;rw[h]at b;cases b;exact e rfl)
def gB.idp{w w1 rb B r v1 x}(h:gB w rb B r)(g:w.grownBy w1 r.iv.ownBlock)(o:w1.ownsRow B 9 1 v1 (r.ids.length+1) (r.ids.map Value.string++[.string x])):Row w1 rb 37 r.cells/\gB (w1.setCell (rb,6) v1) rb B {r with iv:=v1,ids:=r.ids++[x]}/\Xc (λk=>k=rb\/r.iv.ownBlock=some k) w (w1.setCell (rb,6) v1):=by
 have a:=tG h.row h.ids g D9;refine⟨a,⟨a.set 6 v1,?_,bO (eW h.dQ h.ids g D9) a D9,bO (eW h.aV h.ids g D9) a D9,by rw[qx];exact bI h.base g.size⟩,((iT _ w).grown g (λ_ e _=>.inr e)).setCell (rb,6) v1 (λ_=>.inl rfl)⟩;show World.ownsRow _ _ _ _ _ (r.ids++[x]).length ((r.ids++[x]).map Value.string);rw[nP,bY];exact bO o a D9
def gB.wkp{w w1 rb B r v1 x}(h:gB w rb B r)(g:w.grownBy w1 r.wv.ownBlock)(o:w1.ownsRow B 3 1 v1 (r.dQ.length+1) (r.dQ.map (Value.int .i64)++[.int .i64 x])):Row w1 rb 37 r.cells/\gB (w1.setCell (rb,7) v1) rb B {r with wv:=v1,dQ:=r.dQ++[x]}/\Xc (λk=>k=rb\/r.wv.ownBlock=some k) w (w1.setCell (rb,7) v1):=by
 have a:=tG h.row h.dQ g D9;refine⟨a,⟨a.set 7 v1,bO (eW h.ids h.dQ g D9) a D9,?_,bO (eW h.aV h.dQ g D9) a D9,by rw[qx];exact bI h.base g.size⟩,((iT _ w).grown g (λ_ e _=>.inr e)).setCell (rb,7) v1 (λ_=>.inl rfl)⟩;rw[nP,bY];exact bO o a D9
structure vp(r:p9)(m:Nat):Prop where
 il:r.ids.length<=m
 wl:r.dQ.length=r.ids.length
 wb:∀x∈r.dQ,0<=x/\x<=8*(r.ids.length:Int)
 cl:r.aV.length<=6*m
 i8:∀i∈r.ids,(fP i).length=8
 cg:∀x∈r.aV,x.Good
 tg:0<=r.tag/\r.tag<=65535
def vp.aV{r m kv b ms tg md}(h:vp r m)(o:b.length<=3)(g:∀k∈ms,k.length<=2/\∀x∈k,x.Ok)(l:0<=tg/\tg<=65535):vp {r with tag:=tg,kv:=kv,aV:=r.aV++iV (pU b) ms,made:=md} (m+1):=by
 refine⟨Nat.le_succ_of_le h.il,h.wl,h.wb,?_,h.i8,λx a=>?_,l⟩
 .have d:=Iy (pU b) ms (λk c=>(g k c).1);have e:(pU b).length=b.length:=by simp[pU]
  have:=h.cl;rw[bY];omega
 .obtain a|a:=mN.1 a;.exact h.cg x a
  .obtain⟨i,j,id,k,y,d,e,f,rfl⟩:=Ix _ _ _ a;have c:=g k (cU e);have n:=(cE.1 f).1;refine⟨c.2 y (cU f),?_,⟨G8 _,by show(j:Int)<=255;omega⟩⟩;obtain⟨t,_,rfl⟩:=iF.1 (cU d);unfold wG;rw[od,bT]
def vp.idp{r m iv wv x y md bh}(h:vp r (m+1))(hi:r.ids.length<=m)(f:(fP x).length=8)(b:∃z∈r.dQ,0<=y/\y<=z+8):vp {r with iv:=iv,ids:=r.ids++[x],wv:=wv,dQ:=r.dQ++[y],made:=md,behind:=bh} (m+1):=by
 have⟨z,c,d,e⟩:=b;have g:=h.wb z c;refine⟨by show(r.ids++[x]).length<=_;simp;exact hi,by show(r.dQ++[y]).length=(r.ids++[x]).length;simp[h.wl],λu a=>?_,h.cl,λi hi=>?_,h.cg,h.tg⟩
 .rw[bY,oM];obtain a|a:=mN.1 a;.have:=h.wb u a;omega
  .grind
 .obtain hi|hi:=mN.1 hi;.exact h.i8 i hi
  .simp_all
end
def aI.acb:(Vp.info? 3).map (λi=>(i.zero,i.size,i.bytes))=some (some ↑aA,1,8):=K8
def adG:=@aI.acb
def acd{B n k}{w:World}{e v u d}(h:w.ownsRow B e 1 v n d)(b:d[k]?=some u):∃g c,v=.slice (some ⟨g,0,none⟩) n c/\w.cell? ⟨g,k,none⟩=some u:=by
 have m:=(cE.1 b).1;have f:=λg (a:v.ownBlock=some g)=>uU (g:=g) h a;have j:=h.1;obtain⟨_,h0⟩|⟨g,cap,cur,i,l,a,_⟩:=h.2;.omega
 .subst i;refine⟨g,cap,rfl,?_⟩;have:=f g rfl k u b;rwa [add0]at this
def adH{p bits n a}:wS p bits a n≠[]:=by
 intro e;have h:(wS p bits a n).length=0:=by rw[e];rfl
 unfold wS at h;rw[wy]at h;simp only[bY,bT]at h;omega
def BD(N)(h:N<=3):IntKind.i64.wrap (2^N)=((2^N:Nat):Int)/\0<=((2^N:Nat):Int)/\((2^N:Nat):Int)<=8:=by have:N=0\/N=1\/N=2\/N=3:=O9;obtain rfl|rfl|rfl|rfl:=this<;>decide
def Nb{s}(h:s≠[]):(mk s).toList.isEmpty=false:=by
 have b:(⟨#[]⟩:ByteArray).toList=[]:=by rw[ByteArray.toList_eq]
 have c:mk s≠⟨#[]⟩:=λe=>h (by have:=congrArg fP e;rwa [od]at this);have a:=qq c;rw[b]at a;cases d:(mk s).toList.isEmpty with
 |false=>rfl
 |true=>exact absurd (List.isEmpty_iff.1 d) a
def Su{s b}(h:np s=some b):(fP (kT s)).length=8:=by rw[Bv h,od,<-UQ,JJ]
def wJ.small{cs tg ds sp ms}(h:wJ cs tg ds sp ms):∀d∈ds,d.ins.length<=9/\d.outs.length<=9:=by
 intro d a;have⟨i,hi⟩:=oK.1 a;refine⟨?_,by have:=(h.cO i d hi).2.1;omega⟩;by_cases e:i=0;.subst e;rw[(h.base d hi).2];exact fJ _
 .obtain⟨s,b⟩:∃s,sp[i]?=some s:=⟨_,bS (by have:=(cE.1 hi).1;have:=h.l1;omega)⟩;have⟨b1,b2⟩:=h.ins i d s O9 hi b;rw[b2,fM];omega
structure Fv(w w':World)(rb B m:Nat)(r:p9)(r':p9):Prop where
 fx:Xc (JM rb r) w w'
 run:gB w' rb B r'
 kD:vp r' (m+1)
 nb:r'.nb=r.nb
 c:r'.c=r.c
 made:(∃s,r'.made=mk s)/\0<r'.ids.length
def YN{C rb B m r}(v l va vc w)(h:gB w rb B r)(fh:-9223372036854775808<=v/\v<9223372036854775808)(M:0<r.ids.length)(E:vp r m)(ez:lW C w (.slice va l.length vc) l)(ey:C<=rb/\C<=B)(dq:m<=2000000)(gk:0<=r.c.bi/\r.c.bi<=2):Cv 9 #[.pointer rb,.agg #[.int .i64 v,.slice va l.length vc]] w λe w'=>e=.returned ↑aD/\∃cz,Fv w w' rb B m r cz:=by
 have e5:=E.il;have gm:=E.cl;have fc:=E.tg;have gz:=h.row.lt;have e7:Hid (∀q,r.kv.ownBlock=some q->q<(w:Nat)):=λq hq=>(kY h.aV q hq).2;have H:Below w w ((w.alloc (.cells #[v,.slice va l.length vc] 32)).alloc (.cells #[.slice va l.length vc,aA] 82)):=(B0.alloc L9 _).alloc Z9 _;have RS:=(aU w [v,.slice va l.length vc] 32).keep (B0.alloc L9 (.cells #[.slice va l.length vc,aA] 82)) (aU w [v,.slice va l.length vc] 32).lt;have V:=aU (w.alloc (.cells #[v,.slice va l.length vc] 32)) [.slice va l.length vc,aA] 82;rw[bL]at V;have du:=kN v (r.ids.length:Int) O9;obtain⟨f,dv⟩:∃f:Nat,jM v (r.ids.length:Int)=(f:Int):=⟨_,(KC du.1).symm⟩;have dw:f<r.ids.length:=O9;have ae:=bS dw;generalize r.ids[f]=P at ae;clear du dw;go_enter fA Tryz.func9,Tryz.ntmps9;go_wp2;have L:mL C ((w.alloc (.cells #[v,.slice va l.length vc] 32)).alloc (.cells #[.slice va l.length vc,aA] 82)) ((w:Nat)+1) l 0:=⟨⟨_,V,ez.keep H O9⟩,O9,fJ _⟩;have S:=h.keep H;have cd:=H.size;generalize(w.alloc (.cells #[v,.slice va l.length vc] 32)).alloc (.cells #[.slice va l.length vc,aA] 82)=X at H RS V L S cd|-;have cj:=aeM v X S M O9 fh;rw[dv]at cj;have dt:=V.lt;clear V;refine cj.mono ?_;rintro e w1 ⟨rfl,au⟩;replace S:=S.keep au;replace L:=L.keep au dt;replace H:=H.trans (au.mono cd);clear cj RS au dv;go_wp2;refine(jN w1 ((w:Nat)+1) l 0 8 L O9 O9).mono ?_;rintro e w2 ⟨rfl,ao,bu⟩;generalize GN l 0 8=bf;generalize Mj l 0=k2 at ao;have dx:=S.kU L bu;have ed:Xc (JM rb r) w w2:=(iW H).grown bu (λk e ay=>by cases e;omega);have g1:=ao.lt;clear L S bu H dt cd;go_wp2;refine(UN w2 dx ao ae O9 O9 ey.1 O9 fc).mono ?_;rintro e w3 ⟨D,bits,ta,bj,sv,mv,ds,sp,ms,rfl,gl,gg,dk,dh,dm,dj,di,dn,o,b9,c8⟩;have ee:Xc (JM rb r) w w3:=ed.trans c8 (λk ay e=>by
  obtain e|e:=e;.omega
  .exact .inl e)
 obtain⟨N,e1⟩:∃N:Nat,bits=(N:Int):=⟨bits.toNat,O9⟩;subst e1;have b0:N<=3:=O9;have dz:0<=(r.tag+1)%65535/\(r.tag+1)%65535<=65535:=O9;generalize(r.tag+1)%65535=tg at o b9 dz;have g2:=c8.size;clear ao dx ed c8;have K:Below w3 w3 (w3.alloc (.cells #[P,↑(N:Int),aA,.slice ta ds.length bj] 76)):=B0.alloc L9 _;have RB:=aU w3 [P,↑(N:Int),aA,.slice ta ds.length bj] 76;have i8:=E.i8 P (cU ae);have av:Hid (∀n:Nat,n<65536->mQ (wB (fP P) N (ds.map eT.m) n)=true):=λn ab=>o.fits dn E.cg i8 O9 ab;have aa:∀wrong:Bool,_:=λwrong=>Ae (fP P) N ta bj ds sv mv sp ms wrong _ (b9.keep K) (dk.keep K) dh (dm.keep K) (dj.keep K) o.pos O9 o.small o.l1 o.l2 (λi d s hi e4 cb=>by rw[(o.ins i d s hi e4 cb).2,fM]) (λs cb x g=>(E.cg x (o.CP s cb x g)).ok) di (λm dq=>by have:=(o.vr m dq).1;omega) (by show r.aV.length<=20000000;omega) (λn ab=>FX (av.out n ab) (FW _ _ _)) O9 (av.out 0 O9);rw[Sp]at aa;have ef:=ee.then K;have gp:=RB.lt;replace aa:=aL aa;replace o:=aL o;clear ee K dk dh dm dj di b9;go_wp2;refine(aa.out _).mono ?_;rintro e w4 ⟨bz,⟨kv,ag⟩,n,ab,rfl,cf⟩;have b4:=FX (F:=oh sp (pU (ds.map eT.m)) (bf==7)) (av.out n ab) (FW _ _ _);have dp:=Su (Bz b4);have ar:wS (fP P) N (P8 (oh sp (pU (ds.map eT.m)) (bf==7)) (ds.map eT.m)) n≠[]:=adH;generalize wS (fP P) N (P8 (oh sp (pU (ds.map eT.m)) (bf==7)) (ds.map eT.m)) n=a at dp ar cf|-;have gq:=Nb ar;have b6:Hid (∀md,vp {r with tag:=tg,kv:=kv,aV:=r.aV++iV (pU (ds.map eT.m)) (ms.map Prod.snd),made:=md} (m+1)):=λmd=>E.aV (by rw[fM];exact dn) (λk ay=>by obtain⟨x,g,rfl⟩:=iF.1 ay;have:=o.out.vr x g;exact⟨this.1.2,this.2⟩) dz
 have eg:Xc (JM rb r) w w4:=ef.trans bz (λk ay e=>by
  obtain e|e|⟨e,_⟩|⟨e,_⟩:=e;.exact .inl e
  .exact .inr (.inl e)
  .omega
  .omega)
 have db:=RB.xc bz (by
  rintro(e|e|⟨_,cs,e⟩|⟨_,cs,e⟩);.omega
  .have:=e7.out _ e;omega
  .exact RB.ne e D9 rfl
  .exact RB.ne e D9 rfl)
 have bq:w4.cell? (rb,10)=some ↑r.made:=ag.row.cell 10;have f10:=ag.row.frozen 10;have e9:=ag.row.lt;have p:=ag.made ⟨#[]⟩;have bd:Xc (JM rb r) w (w4.setCell (rb,10) ↑aB):=eg.setCell (rb,10) _ (λ_=>.inl rfl);have bo:=db.aP (rb,10) ↑aB (by show(w3:Nat)≠rb;omega);have af:=UE (kT a) _ p.ids (by show r.ids.length<=20000000;omega);have c6:(w4.setCell (rb,10) ↑aB).cell? (rb,6)=some r.iv:=p.row.cell 6;replace af:=aL af;replace cf:=aL cf;clear aa av b4 bz ef eg RB db ag ar;generalize ga:iV (pU (ds.map eT.m)) (ms.map Prod.snd)=J at p b6;go_wp2;refine af.out.mono ?_;rintro e A ⟨rfl,ea⟩;rw[<-ea]at bd bo p c6;clear af ea bq f10 e9;have gd:Hid (∀x∈J,x∈r.aV++J):=λx g=>List.mem_append_right _ g;by_cases b8:kT a∈r.ids;.obtain⟨fs,az,_⟩:=Ip r.ids (kT a) 0 b8;rw[iO]at az;rw[az];have gu:(0:Int)<=(fs:Int):=O9;replace az:=aL az;go_wp2;go_ret;exact⟨rfl,_,⟨bd,p,b6.out _,rfl,rfl,⟨[],rfl⟩,M⟩⟩
 .rw[FL r.ids (kT a) 0 b8];have gv:¬(0:Int)<=-1:=O9;obtain⟨bb,bc,O⟩:=bG p.ids;obtain⟨g6,wc,fi⟩:=bG p.dQ;have bq:A.cell? (rb,10)=some ↑aB:=p.row.cell 10;have f10:=p.row.frozen 10;have fa:=p.row.lt;have a6:=p.made (mk a);have Nc:(A.setCell (rb,10) ↑(mk a)).cell? (rb,11)=some ↑r.behind:=a6.row.cell 11;have f11:=a6.row.frozen 11;have ca:=a6.behind (f:Int);have eh:Xc (JM rb r) w ((A.setCell (rb,10) ↑(mk a)).setCell (rb,11) ↑(f:Int)):=(bd.setCell (rb,10) _ (λ_=>.inl rfl)).setCell (rb,11) _ (λ_=>.inl rfl);have bp:=(bo.aP (rb,10) ↑(mk a) (by show(w3:Nat)≠rb;omega)).aP (rb,11) ↑(f:Int) (by show(w3:Nat)≠rb;omega);have c6:((A.setCell (rb,10) ↑(mk a)).setCell (rb,11) ↑(f:Int)).cell? (rb,6)=some (.slice bb r.ids.length bc):=(ca.row.cell 6).trans (congrArg some O);have bk:=aU ((A.setCell (rb,10) ↑(mk a)).setCell (rb,11) ↑(f:Int)) [↑(kT a)] 9;rw[qx,qx]at bk;have G:Below ((A.setCell (rb,10) ↑(mk a)).setCell (rb,11) ↑(f:Int)).heap.size ((A.setCell (rb,10) ↑(mk a)).setCell (rb,11) ↑(f:Int)) (((A.setCell (rb,10) ↑(mk a)).setCell (rb,11) ↑(f:Int)).alloc (.cells [.string (kT a)].toArray 9)):=B0.alloc L9 _;have Q:=ca.keep G;have bm:(((A.setCell (rb,10) ↑(mk a)).setCell (rb,11) ↑(f:Int)).alloc (.cells [.string (kT a)].toArray 9)).ownsRow B 9 1 (.slice bb r.ids.length bc) r.ids.length (r.ids.map Value.string):=by rw[<-O];exact Q.ids
  have da:=Q.base;have gn:r.ids.length<=100000000:=O9;have ei:=eh.then G;have dc:=bp.keep G bp.lt;replace Q:=aL Q;replace O:=aL O;clear p a6 ca bd eh bo bp G;obtain⟨i0,M,a7,a8,ba⟩:=info_parts ZB;go_wp2_with (at_builtin;refine wpList_append_own_at _ rfl _ _ 34 rfl B 9 i0 _ 1 16 aI.underlying34 M a7 a8 ba rfl D9 (.slice bb r.ids.length bc) r.ids.length (r.ids.map Value.string) rfl bm ⟨_,0,none⟩ 1 1 [↑(kT a)] rfl rfl (λj u e6=>by rw[add0,bk.cell];exact e6) (λu ah=>by simp at ah;subst ah;rfl) (by unfold maxLen;omega) O9 da ?_;intro v9 c7 cu bx _ ec;refine Iw.out ?_);have dg:(((A.setCell (rb,10) ↑(mk a)).setCell (rb,11) ↑(f:Int)).alloc (.cells [.string (kT a)].toArray 9)).grownBy c7 (({r with tag:=tg,kv:=kv,aV:=r.aV++J,made:=mk a,behind:=(f:Int)}:p9)).iv.ownBlock:=by rw[show(({r with tag:=tg,kv:=kv,aV:=r.aV++J,made:=mk a,behind:=(f:Int)}:p9)).iv=_ from O.out];exact bx
  obtain⟨ai,R,ej⟩:=Q.out.idp dg cu;have dd:=tG dc bm bx D9;obtain⟨Y,π,ff⟩:=cP cu r.ids.length rfl;subst ff;have c9:=(ai.cell 6).trans (congrArg some O.out);have eu:=ai.frozen 6;have ec:=ai.lt;have cr:=ei.trans ej (λk _ e=>by obtain e|e:=e;exact .inl e;exact .inr (.inr (.inl e)));have aj:=dd.aP (rb,6) (.slice Y (r.ids.length+1) π) (by show(w3:Nat)≠rb;omega);clear Q bm bk da bx dg cu ai ei ej dd dc M a7 a8 ba c6 bq Nc f10 f11 fa;refine⟨?_⟩;go_wp2;generalize c7.setCell ⟨rb,6,none⟩ (.slice Y (r.ids.length+1) π)=W at R aj cr|-;obtain⟨x,g⟩:∃x,r.dQ[f]?=some x:=⟨_,bS (by rw[E.wl];exact(cE.1 ae).1)⟩;have cm:=E.wb x (cU g);obtain⟨wg,I,eb,fy⟩:=acd R.dQ (k:=f) (u:=↑x) (by show(r.dQ.map _)[f]?=_;rw[cT,g];rfl);have T:r.wv=.slice wg r.dQ.length I:=eb;have fw:=(R.row.cell 7).trans (congrArg some T);have b1:=aj.r 1;have af:=(cE.1 g).1;have gy:(f:Int)<(r.dQ.length:Int):=O9;have gx:(0:Int)<=(f:Int):=O9;have gj:(0:Int)<=(N:Int):=O9;obtain⟨y,μ⟩:∃y,IntKind.i64.wrap (x+IntKind.i64.wrap (2^N))=y:=⟨_,rfl⟩;have fo:Hid (∃z∈r.dQ,0<=y/\y<=z+8):=by
   refine⟨x,cU g,?_⟩;obtain⟨cv,cw,cx⟩:=BD N b0;have fj:x<=8*100000000:=by have:=cm.2;omega
   rw[cv]at μ;generalize((2^N:Nat):Int)=P at μ cw cx;rw[y9]at μ;omega
  have en:=aU W.drew [y] 3;have G:Below W W (W.drew.alloc (.cells [.int .i64 y].toArray 3)):=(cX B0).alloc L9 _;have a2:=R.keep G;have eo:(W.drew.alloc (.cells [.int .i64 y].toArray 3)).ownsRow B 3 1 (.slice wg r.dQ.length I) r.dQ.length (r.dQ.map (Value.int .i64)):=by rw[<-T];exact a2.dQ
  have ek:=a2.base;have fg:r.dQ.length<=100000000:=by rw[E.wl];omega
  have g7:=R.row.lt;have blt:=aj.lt;have fin:Hid (∀(v1:Value) (w1:World),w1.ownsRow B 3 1 v1 (r.dQ.length+1) (r.dQ.map (Value.int .i64)++[.int .i64 y])->(W.drew.alloc (.cells [.int .i64 y].toArray 3)).grownBy w1 (Value.slice wg r.dQ.length I).ownBlock->(∃l,Row w1 rb 37 l/\l[7]?=some (.slice wg r.dQ.length I))/\∃cz,Fv w (w1.setCell (rb,7) v1) rb B m r cz):=λv1 w1 bg br=>by
   have ew:(W.drew.alloc (.cells [.int .i64 y].toArray 3)).grownBy w1 (({r with tag:=tg,kv:=kv,aV:=r.aV++J,made:=mk a,behind:=(f:Int),iv:=.slice Y (r.ids.length+1) π,ids:=r.ids++[kT a]}:p9)).wv.ownBlock:=by rw[show(({r with tag:=tg,kv:=kv,aV:=r.aV++J,made:=mk a,behind:=(f:Int),iv:=.slice Y (r.ids.length+1) π,ids:=r.ids++[kT a]}:p9)).wv=_ from T];exact br
   obtain⟨ep,e8,fq⟩:=a2.wkp ew bg;refine⟨⟨_,ep,congrArg some T⟩,_,(cr.then G).trans fq (λk _ e=>by obtain e|e:=e;exact .inl e;exact .inr (.inr (.inr e))),e8,(b6.out ⟨#[]⟩).idp (iv:=.slice Y (r.ids.length+1) π) (wv:=v1) (x:=kT a) (y:=y) (md:=mk a) (bh:=(f:Int)) e5 dp fo.out,rfl,rfl,⟨a,rfl⟩,by simp⟩
  obtain⟨i0,M,a7,a8,ba⟩:=info_parts adG;replace T:=aL T;clear R a2 cr G aj eb cm c9 eu ec fi;replace g:=aL g;go_region_law (refine M6 aI.underlying30 M a7 a8 ba rfl D9 D9 B rfl _ _ rfl (.slice wg r.dQ.length I) r.dQ.length (r.dQ.map (Value.int .i64)) E9 eo 1 [y] rfl (W:Nat) 1 E9 en (λu ah=>by simp at ah;subst ah;rfl) O9 fg ek ?_;intro v1 w1 bg br l1;obtain⟨fz,gc,fe⟩:=cP bg r.dQ.length rfl;subst fe;obtain⟨⟨fl,ak,de⟩,cy⟩:=fin.out _ _ bg br;have g3:w1.cell? (rb,7)=some (.slice wg r.dQ.length I):=(ak.cell 7).trans de;have g4:=ak.frozen 7;have g5:=ak.lt;replace cy:=aL cy;clear ak de);all_goals go_wp2
  all_goals go_ret
  all_goals exact⟨rfl,cy.out⟩
def ace:mE:=⟨⟨#[]⟩,0,0,0⟩
def Nf{B g w v l}(h:Row w g 35 [v])(c:p6 B w v l)(b:B<=g):lN B w (.slice g 1 1) [(v,l)]:=⟨mZ h rfl b D9,λx a=>by(simp at a;subst a;exact c)⟩
def Ck.then{LB a w w1 w2}(h:Ck LB a w w1)(b:Below w1 w1 w2):Ck LB a w w2:=⟨bI h.size b.size,λk cs t f c d=>(b.block k (bE (h.cells k cs t f c d))).trans (h.cells k cs t f c d)⟩
def gB.ck{LB a w w' rb B r}(h:gB w rb B r)(x:Ck LB a w w')(b:¬a 37)(c:¬a 9)(d:¬a 3)(e:¬a 64):gB w' rb B r:=⟨h.row.ck x b,sM h.ids x c,sM h.dQ x d,sM h.aV x e,bI h.base x.size⟩
def zW{t}(a:t≠107)(b:t≠161)(c:t≠195)(d:t≠247)(f:t≠117)(g:t≠114):¬Y2 t:=by
 rintro(e|e);.exact oV a b c d f e
 .exact g e
def acf{K id}(h:Iz (λt=>t≠id) K):anyM K id=false:=by unfold anyM;rw[Wz];intro i _ hi;have⟨c,a⟩:=WA.1 hi;exact h _ c a rfl
def UR(a su h x o mem K)(e:x.outs=[o])(f:o.val<=su)(d:Iz (λt=>t≠x.id) K):(bP a su h [x] mem K []).1=0/\(bP a su h [x] mem K []).2.1.K=K.put ⟨x.id,0,o.val,o.lock,h⟩/\(bP a su h [x] mem K []).2.2=mem:=by
 have c:kA x h su ⟨K,[],0,[]⟩=(0,⟨K.put ⟨x.id,0,o.val,o.lock,h⟩,[⟨⟨x.id,0,o.val,o.lock,h⟩,true⟩],0,[]⟩):=by unfold kA fC;rw[e,aT (by show¬o.val+0>su+0;omega),acf d];rfl
 have b:bP a su h [x] mem K []=(if oU (fD mem [])then 0 else 17,⟨K.put ⟨x.id,0,o.val,o.lock,h⟩,[⟨⟨x.id,0,o.val,o.lock,h⟩,true⟩],0,[]⟩,fZ a (fD mem []) mem):=by unfold bP;simp[iL];rw[c];simp
 rw[b];refine⟨?_,rfl,?_⟩;.trivial
 .trivial
def acg{a cb p bits n b}(g:mQ (wB p bits b n)=true)(f:(bits:Int)=cb)(d:Shown p bits b n)(hi:kT (wS p bits b n)∉a.ids)(c:a.ids.length≠49):Ng a cb (wS p bits b n) (wB p bits b n)=0:=by unfold Ng;rw[aT (λe=>hi (xg.1 e)),aT (by show¬(bits:Int)<cb;omega),aT (by show¬(iK (wS p bits b n)).toNat%2^((bits:Int).toNat)≠0;rw[vF];exactλe=>e d),aT c]
def aeT{c a p bits n b}(d:mQ (wB p bits b n)=true)(e:(bits:Int)=c.bi)(g:Shown p bits b n)(hi:kT (wS p bits b n)∉a.ids)(f:a.ids.length≠49):Ds c a (wS p bits b n)=if(lO c a (wB p bits b n)).1=0 then(1,0,⟨a.ids++[kT (wS p bits b n)],kT (wS p bits b n),a.aY+1,a.wo+2^bits,(lO c a (wB p bits b n)).2.1.K,(lO c a (wB p bits b n)).2.2,a.lo⟩)else(0,(lO c a (wB p bits b n)).1,{a with ids:=a.ids++[kT (wS p bits b n)],mem:=(lO c a (wB p bits b n)).2.2}):=by
 unfold Ds;rw[Bz d];simp only;rw[acg d e g hi f,aT S8];rfl
def yX:List x7:=[⟨65535,[],[⟨50,mk [byteOf 1]⟩]⟩]
def sh0:Shown (be 0 8) 0 yX 0:=by unfold Shown;decide+kernel
def sh1:Shown (be 0 8) 1 yX 0:=by unfold Shown;decide+kernel
def sh2:Shown (be 0 8) 2 yX 1:=by unfold Shown;decide+kernel
def no2:¬Shown (be 0 8) 2 yX 0:=by unfold Shown;decide+kernel
def id0:kT (wS (be 0 8) 0 yX 0)≠jQ:=by decide+kernel
def id1:kT (wS (be 0 8) 1 yX 0)≠jQ:=by decide+kernel
def id2:kT (wS (be 0 8) 2 yX 1)≠jQ:=by decide+kernel
def ZC{bits n}(f:bits<=2)(h:Shown (be 0 8) bits yX n)(g:∀j,j<n->¬Shown (be 0 8) bits yX j):kT (wS (be 0 8) bits yX n)≠jQ:=by
 have key:∀k,Shown (be 0 8) bits yX k->(∀j,j<k->¬Shown (be 0 8) bits yX j)->n=k:=λk c d=>by grind
 have b:bits=0\/bits=1\/bits=2:=O9;obtain rfl|rfl|rfl:=b;.have e:=key 0 sh0 (λj a=>absurd a (oI j));subst e;exact id0
 .have e:=key 0 sh1 (λj a=>absurd a (oI j));subst e;exact id1
 .have e:=key 1 sh2 (λj a=>by have h0:j=0:=O9;subst h0;exact no2)
  subst e;exact id2
def UT{c N n D}(f:mQ (wB (be 0 8) N yX n)=true)(e:(N:Int)=c.bi)(i:Shown (be 0 8) N yX n)(hi:kT (wS (be 0 8) N yX n)≠jQ)(j:50<=c.su):Ds c (an0 D) (wS (be 0 8) N yX n)=(1,0,⟨[jQ,kT (wS (be 0 8) N yX n)],kT (wS (be 0 8) N yX n),1,0+2^N,jO.put (λ_=>none) ⟨wG 65535 [] [⟨50,mk [byteOf 1]⟩],0,50,mk [byteOf 1],1⟩,[],D⟩):=by
 rw[aeT f e i (by show _∉[jQ];simpa using hi) (by show 1≠49;decide)];have g:lO c (an0 D) (wB (be 0 8) N yX n)=bP c.me.toNat c.su 1 [⟨wG 65535 [] [⟨50,mk [byteOf 1]⟩],[],[⟨50,mk [byteOf 1]⟩]⟩] [] (λ_=>none) []:=by rfl
 have⟨a,b,d⟩:=UR c.me.toNat c.su 1 ⟨wG 65535 [] [⟨50,mk [byteOf 1]⟩],[],[⟨50,mk [byteOf 1]⟩]⟩ ⟨50,mk [byteOf 1]⟩ [] (λ_=>none) rfl j (λp c h=>by cases h);rw[g,a,b,d,bD rfl];rfl
def aeU:iV (pU yX) [[(⟨⟨#[]⟩,0,0,0⟩:mE)]]=[⟨wG 65535 [] [⟨50,mk [byteOf 1]⟩],0,0,0⟩]:=by rfl
def Mq(a b w):(Op.equalIn 10000 44 (.agg #[.int .i64 a,.int .i64 b]) (.agg #[a,b])).run Vp w=.ok true w:=by simp[go_sem]
def Mr(s a b w):(Op.equalIn 10000 39 (.agg #[.string s,.int .i64 a,.int .i64 b]) (.agg #[s,a,b])).run Vp w=.ok true w:=by simp[go_sem]
def Ij(s l a b c d w):(Op.equalIn 10000 60 (.agg #[.string s,.int .i64 a,.int .i64 b,.string l,.int .i64 c,.bool d]) (.agg #[s,a,b,l,c,.bool d])).run Vp w=.ok true w:=by simp[go_sem]
def JO{e c a}(b w)(h:jP w e c a)(n:∀i,np b=some i->mk i.parent=a.an.rS):Cv 12 #[ptr e,(mk b)] w λj g=>j=.returned (.tuple #[.agg #[aA,(Ds c a.an b).1],(Ds c a.an b).2.1])/\(∃d,jP g e c d/\d.an=(Ds c a.an b).2.2/\gL c a b=(0,(Ds c a.an b).1,(Ds c a.an b).2.1,d))/\Ck a.lo Y2 w g:=by
 have⟨d,l,m⟩:=aaD (c:=c) h.wf n;have:=Jw b w h;rw[l]at this;exact this.mono λj g ⟨p,q,f⟩=>⟨p,⟨d,q,m,l⟩,f⟩
open Go.Sort
def MM{B}{w:World}{v D k x}(h:w.ownsRow B 60 6 v D.length (dN D))(e:D[k]?=some x):∃g c,v=.slice (some ⟨g,0,none⟩) D.length c/\g<w/\w.cell? (g,k*6)=some x.tx/\w.cell? (g,k*6+1)=some x.idx/\w.cell? (g,k*6+2)=some x.val/\w.cell? (g,k*6+3)=some x.lock/\w.cell? (g,k*6+4)=some x.aY/\w.cell? (g,k*6+5)=some ↑aD:=by
 have m:=(cE.1 e).1;have a:=λg (b:v.ownBlock=some g)=>h.cells (g:=g) b;obtain⟨_,h0⟩|⟨g,cap,cur,rfl,i,b,_⟩:=h.2;.omega
 .have a:=a g rfl;have q:∀j,j<6->w.cell? (g,k*6+j)=some ((sF x)[j]!):=λj l=>by
   have d:=uC D (k*6+j) O9;have f:(k*6+j)/6=k:=O9;have e2:(k*6+j)%6=j:=O9;have e3:D[k]! =x:=by rw[Wo,e];rfl
   rw[f,e2,e3]at d;have:=a _ _ d;rwa [add0]at this
  exact⟨g,cap,rfl,bE b,q 0 O9,q 1 O9,q 2 O9,q 3 O9,q 4 O9,q 5 O9⟩
def GP{B B' v f}(D w)(c:w.ownsRow B 60 6 v D.length (dN D))(d:w.ownsRow B' 60 6 f D.length (dN D))(hl:D.length<=100000):Cv 13 #[v,f] w λe w'=>e=.returned ↑aD/\Below w w w':=by
 obtain⟨va,vc,rfl⟩:=bG c;obtain⟨P,uc,rfl⟩:=bG d;go_enter fA Tryz.func13,Tryz.ntmps13;go_wp2;go_loopw [5] (λi wr=>∃k:Nat,k<=D.length/\i=↑k/\Below w w wr) (λi _=>D.length -(intOf i).toNat);exact⟨0,O9,rfl,B0⟩;case round=>
  obtain⟨k,L,rfl,a⟩:=hrel;by_cases j:k<D.length
  .have b:=bS j;generalize D[k]=x at b;have⟨g,cc,l,J,q0,t,u,y,z,A⟩:=MM (aX c a) b;have⟨g',I,m,K,n,o,p,q,r,s⟩:=MM (aX d a) b;cases l;cases m;have M:(0:Int)<=(k:Int):=O9;have N:(k:Int)<(D.length:Int):=O9;have⟨G,E,H,F,C⟩:=x;simp only at q0 t u y z A n o p q r s;have O:=Ij G F E H C true;go_wp2;go_region;all_goals go_wp2
   all_goals go_roundw
   all_goals first
    |exact⟨k+1,O9,by go_num,cX a⟩
    |(simp[intOf];omega)
  .have h:k=D.length:=O9;subst h;go_wp2;go_ret;exact⟨rfl,a⟩
def yI:∀l K C,eZ K l->pM K C->∃D,pM (goes K l) D/\D.length<=C.length+l.length
 |[],K,C,_,h=>⟨C,h,L9⟩
 |s::l,K,C,g,h=>by have⟨h1,h2⟩:=g;cases b:s.Dn with
   |true=>
     have a:=h1.2;rw[b,bD rfl]at a;have e:yV K s=K.put s.jT:=by unfold yV;rw[b];rfl
     have⟨D,c,d⟩:=yI l (yV K s) (s.jT::C) h2 (by rw[e];exact h.put a);exact⟨D,c,by simp at d|-;omega⟩
   |false=>
     have a:=h1.2;rw[b,aT S8]at a;have e:yV K s=K.take s.jT.pt:=by unfold yV;rw[b];rfl
     have⟨f,c1,_,c3⟩:=h.take a;have⟨D,c,d⟩:=yI l (yV K s) f h2 (by rw[e];exact c1);exact⟨D,c,by simp at d|-;omega⟩
def YP{a}(h:zU a):∃C,pM a.an.K C/\C.length<=100000:=by have⟨D,b,d⟩:=yI (gP a.ch) uu [] h.path ⟨S8,λc e=>by simp at e,λp c f=>by cases f⟩;refine⟨D,b,?_⟩;have h1:=Il h.len;have h2:=h.chl;have g:=h.ll;simp at d;omega
def lA.tail{x D}(h:lA (x::D)):lA D:=λi j u v c a b=>h (i+1) (j+1) u v O9 (by simpa using a) (by simpa using b)
def H9:∀D D',D.Perm D'->lA D->lA D'->(D.map dD.pt).Nodup->D=D'
 |[],D',a,_,_,_=>a.nil_eq
 |x::t,[],a,_,_,_=>absurd a.length_eq S8
 |x::t,y::c,a,h1,h2,b=>by
   have g:=(a.map dD.pt).nodup_iff.1 b;by_cases e:x=y
   .subst e;have h:(t.map dD.pt).Nodup:=by rw[kV,Kw]at b;exact b.2
    rw[H9 t c a.cons_inv h1.tail h2.tail h]
   .have k:x∈c:=by
     rcases iN.1 (a.mem_iff.1 (Wl ..))with q|q;.simp_all
     .exact q
    have l:y∈t:=by grind
    have⟨i,hi⟩:=oK.1 k;have⟨j,f⟩:=oK.1 l;have d:=h2.lt g (i:=0) (j:=i+1) (x:=y) (y:=x) O9 rfl (by simpa using hi);have m:=h1.lt b (i:=0) (j:=j+1) (x:=x) (y:=y) O9 rfl (by simpa using f);rw[FI]at d;omega
def abD(c a s):(gL c a s).2.2.2.lo=a.lo:=by unfold gL pK;cases np s with
 |none=>rfl
 |some b=>
   repeat' split
   all_goals rfl
end Go.Proofs.aH
section
namespace Go.Proofs.aH
open Go.RowKit
/-- all that is Fl opened -/
def C8(l:List bX):Prop:=∀t∈l,t.Pn=0
def Fp{mem:List bX}(h:C8 mem)(l:List bX):oU (fD mem l)=oU l:=by
  rw[Bool.eq_iff_iff];unfold oU fD;simp only[xE,uR];refine⟨λg t ht=>?_,λg t ht=>g t (D2.1 ht).1⟩;by_cases e:t∈mem;.exact h t e
  .exact g t (D2.2 ⟨ht,by simpa using e⟩)
def abC{most:Nat}{t:bX}{l:List bX}(h:C8 l)(ht:t.Pn=0):C8 (rR most t l):=by
  have h1:C8 (l++[t]):=λx hx=>by
    obtain hx|hx:=mN.1 hx;.exact h x hx
    .rw[jW.1 hx];exact ht
  unfold rR;split;.exact h
  . split
    .exactλx hx=>h1 x (Wc hx)
    .exact h1
def Fq{most:Nat}:∀(r l:List bX),C8 l→C8 (fZ most r l)
  |[],_,h=>h
  |t::r,l,h=>by
    unfold fZ;refine Fq r _ ?_;split;.rename_i e;exact abC h e
    .exact h
def Po(most tC:Nat)(su h:Int)(cO:List Mn){mem rB:List bX}(K:jO)(st:List cW)(hm:C8 mem)(hm':C8 rB):(bP most su h cO mem K st).1=(bP tC su h cO rB K st).1∧(bP most su h cO mem K st).2.1=(bP tC su h cO rB K st).2.1∧C8 (bP most su h cO mem K st).2.2∧C8 (bP tC su h cO rB K st).2.2:=by
  unfold bP;simp only;split;.exact⟨rfl,rfl,hm,hm'⟩
  .cases cO with
    |nil=>exact⟨rfl,rfl,hm,hm'⟩
    |cons x r=>
      simp only;split;.exact⟨rfl,rfl,hm,hm'⟩
      . simp only[Fp hm,Fp hm']
        exact⟨trivial,trivial,Fq _ _ hm,Fq _ _ hm'⟩
def CK(most tC:Nat)(su:Int):∀(l:List (Int×List Mn)) (mem rB:List bX) (K:jO),C8 mem→C8 rB→∃e at_ ls K' st m m',bR most su l mem K=⟨e,at_,ls,K',m,st⟩∧bR tC su l rB K=⟨e,at_,ls,K',m',st⟩∧C8 m∧C8 m'
  |[],mem,rB,K,hm,hm'=>⟨_,_,_,_,_,_,_,rfl,rfl,hm,hm'⟩
  |x::r,mem,rB,K,hm,hm'=>by
    obtain⟨e1,e2,e3,e4⟩:=Po most tC su x.1 x.2 K [] hm hm';obtain⟨e,at_,ls,K',st,m,m',q1,q2,q3,q4⟩:=CK most tC su r _ _ (bP most su x.1 x.2 mem K []).2.1.K e3 e4;by_cases h0:(bP most su x.1 x.2 mem K []).1=0
    . rw[bR,bR,aT (by rw[h0];simp),aT (by rw[←e1,h0];simp),←e2,q1,q2]
      exact⟨_,_,_,_,_,_,_,rfl,rfl,q3,q4⟩
    . have p1:(bP tC su x.1 x.2 rB K []).1≠0:=by rw[←e1];exact h0
      have A:bR most su (x::r) mem K=⟨if r=[]then(bP most su x.1 x.2 mem K []).1 else 13,0,[],(bP most su x.1 x.2 mem K []).2.1.K,(bP most su x.1 x.2 mem K []).2.2,(bP most su x.1 x.2 mem K []).2.1.steps⟩:=by rw[bR,bD h0]
      have B:bR tC su (x::r) rB K=⟨if r=[]then(bP tC su x.1 x.2 rB K []).1 else 13,0,[],(bP tC su x.1 x.2 rB K []).2.1.K,(bP tC su x.1 x.2 rB K []).2.2,(bP tC su x.1 x.2 rB K []).2.1.steps⟩:=by rw[bR,bD p1]
      rw[A,B,←e1,←e2];exact⟨_,_,_,_,_,_,_,rfl,rfl,e3,e4⟩
/-- the same blocks, the same chain; all that is Fl opened -/
structure Fs(a b:AG):Prop where
  bl:a.bl=b.bl
  ch:a.ch=b.ch
  ma:C8 a.mem
  mb:C8 b.mem
def Ug{c c':fV}{a b:AG}(i h:Nat)(hs:c.su=c'.su)(L:Fs a b):(pK c a i h).1=(pK c' b i h).1∧(pK c a i h).2.1=(pK c' b i h).2.1∧(pK c a i h).2.2.1=(pK c' b i h).2.2.1∧Fs (pK c a i h).2.2.2 (pK c' b i h).2.2.2:=by
  obtain⟨bl,ch,mem,lo⟩:=a;obtain⟨bl',ch',rB,lo'⟩:=b;obtain⟨e1,e2,m1,m2⟩:=L;simp only at e1 e2 m1 m2;subst e1 e2;obtain⟨e,at_,ls,K',st,m,m',q1,q2,q3,q4⟩:=CK c.me.toNat c'.me.toNat c.su ((iJ ⟨bl,ch,mem,lo⟩ i h).map (mA bl)) mem rB (goes uu (gP (ch.take (cH ⟨bl,ch,mem,lo⟩ i h)))) m1 m2;have j1:dU c ⟨bl,ch,mem,lo⟩ i h=⟨e,at_,ls,K',m,st⟩:=q1;have j2:dU c' ⟨bl,ch,rB,lo'⟩ i h=⟨e,at_,ls,K',m',st⟩:=by unfold dU;rw[←hs];exact q2
  unfold pK;rw[j1,j2];simp only;split;.exact⟨rfl,rfl,rfl,rfl,rfl,q3,q4⟩
  .exact⟨rfl,rfl,rfl,rfl,rfl,q3,q4⟩
def Mo{c c':fV}{a b:AG}(s:List UInt8)(hs:c.su=c'.su)(hb:c.bi=c'.bi)(L:Fs a b):(gL c a s).1=(gL c' b s).1∧(gL c a s).2.1=(gL c' b s).2.1∧(gL c a s).2.2.1=(gL c' b s).2.2.1∧Fs (gL c a s).2.2.2 (gL c' b s).2.2.2:=by have hL:=L;obtain⟨bl,ch,mem,lo⟩:=a;obtain⟨bl',ch',rB,lo'⟩:=b;obtain⟨e1,e2,m1,m2⟩:=L;simp only at e1 e2 m1 m2;subst e1 e2;unfold gL;cases np s with
  |none=>exact⟨rfl,rfl,rfl,hL⟩
  |some b=>
    have r1:uv ⟨bl,ch,rB,lo'⟩ c'.bi s b=uv ⟨bl,ch,mem,lo⟩ c.bi s b:=by rw[←hb];rfl
    have r2:eV ⟨bl,ch,rB,lo'⟩ s b=eV ⟨bl,ch,mem,lo⟩ s b:=rfl;have r3:gA ⟨bl,ch,rB,lo'⟩=gA ⟨bl,ch,mem,lo⟩:=rfl;simp only[r1,r2,r3];split;.exact⟨rfl,rfl,rfl,hL⟩
    . split
      .exact⟨rfl,rfl,rfl,rfl,rfl,m1,m2⟩
      .exact Ug _ _ hs ⟨rfl,rfl,m1,m2⟩
end Go.Proofs.aH
end
