import Derived.Test.YtpjcmpfncpnmeabGreatM17
import Derived.Test.YtpjcmpfncpnmeabGreatM21
set_option linter.all false
set_option maxHeartbeats 16000000
set_option maxRecDepth 100000
namespace Go.Proofs.aH
open Go.RowKit
attribute [local go_sem↓] Go.wp_at_zero Go.wp_at_succ
section
def R9:=@cell_regrown
variable{LB:Nat}
def Rp{nb c a}(s w)(h:gI w nb c a):Calls Vp 12 #[ptr nb,(mk s)] w λe w'=>e=.returned (.tuple #[.agg #[(p8 c a s).1,(p8 c a s).2.1],(p8 c a s).2.2.1])/\gI w' nb c (p8 c a s).2.2.2/\Ck a.lo Y2 w w':=by
 have⟨y,L,D⟩:=h;have k:=aW w [aA,aA] 44;have G:Below w w (w.alloc (.cells #[aA,aA] 44)):=B0.alloc L9 _;have fh:=D.base.nd.mem.row.lt;have bc:a.lo<=(w:Nat):=by have h1:a.lo<=nb:=D.base.low.1;omega
 unfold ptr;go_enter_defers fA Tryz.func12,Tryz.ntmps12;go_wp2;replace D:=D.keep G;generalize w.alloc (.cells #[aA,aA] 44)=X at k G D|-;refine(Zq s X).mono ?_;rintro e w1 ⟨O,⟨ai,rfl⟩|⟨b,gt,Q,ai,rfl,M,bq,ey⟩⟩
 .have E:p8 c a s=(0,0,1,a):=by unfold p8;rw[ai]
  replace E:=aL E;have μ:Below w1 w1 (w1.alloc (.cells #[aB,aB,aA,()] 110)):=B0.alloc L9 _;replace k:=(k.keep O k.lt).keep μ (eP k.lt O.size);replace D:=(D.keep O).keep μ;replace G:=(G.trans (O.mono G.size)).trans (μ.mono (bJ G.size O.size));have c0:=k.r 0;have c1:=k.r 1;have f0:=k.frozen 0;have f1:=k.frozen 1;have cd:=k.lt;unfold R4;go_wp2;generalize w1.alloc (.cells #[aB,aB,aA,()] 110)=Y at k D G|-;have⟨v,K,T⟩:=Aq (LB:=a.lo) (mb:=y.mb) k 0 0 bc;have u:Tk a.lo Y2 0 y.mb w _:=T (Ao G);replace D:=D.tk K D9 D9 D9 D9 D9 D9 D9 D9 D9 D9 D9;generalize(Y.setCell ⟨(w:Nat),0,none⟩ ↑aA).setCell ⟨(w:Nat),1,none⟩ ↑aA=F at v K u D|-;have k0:=v.r 0;have k1:=v.r 1;exact⟨.tuple #[.agg #[aA,aA],aG],by simp[results,Tryz.results12,go_sem,k0,k1],by rw[E.out],⟨y,L,by rw[E.out];exact D⟩,u.ck⟩
 .have⟨bu,_⟩:=tH ai;have br:=(nk b).1 bu;have et:∃N:Nat,b.bits=(N:Int)/\N<=8:=⟨b.bits.toNat,O9,O9⟩;have⟨N,hN,cr⟩:=et;have ao:b.bits.toNat=N:=O9;have hlen:Q.length=b.cX.length:=by have:=congrArg List.length bq;simpa using this
  have ep:1<=Q.length/\Q.length<=8:=by have h1:=(Fu bu).1;have h2:=br.2.2.2.1;omega
  have a6:=Bq ai;rw[a6,hN];generalize a8:mk ((idB s).take 7++[iM s])=I;have μ:Below w1 w1 (w1.alloc (.cells #[I,↑(mk b.parent),↑(N:Int),.slice gt Q.length Q.length] 110)):=B0.alloc L9 _;have RH:=aW w1 [I,↑(mk b.parent),↑(N:Int),.slice gt Q.length Q.length] 110;replace k:=(k.keep O k.lt).keep μ (eP k.lt O.size);replace D:=(D.keep O).keep μ;replace G:=(G.trans (O.mono G.size)).trans (μ.mono (bJ G.size O.size));replace M:=M.keep μ;have b6:Hid (p8 c a s=if uE a c.bi s b≠0 then(0,0,uE a c.bi s b,a)else if(cR a s b).wo<=(dG a).wo then(0,0,0,{a with bl:=a.bl++[cR a s b]})else Cy c {a with bl:=a.bl++[cR a s b]} a.bl.length (cR a s b).aX):=by show _=_;unfold p8;rw[ai]
  have dt:Hid (∀W,gV W nb oq c y L a->Calls Vp 32 #[.pointer nb,.agg #[I,↑(mk b.parent),↑(N:Int),.slice gt Q.length Q.length]] W λe w'=>e=.returned ↑(uE a c.bi s b)/\Below (W:Nat) W w'):=by
   intro W aa;have fg:y.l.length<=49:=by rw[aa.ll];exact aa.wf.ll
   have h1:=M9 (nb:=nb) (gt:=gt) (q:=Q.length) (c:=Q.length) ((idB s).take 7) (iM s) (mk b.parent) N c.bi W aa.base.nd.rh (by rw[aa.base.nd.mem.row.cell];exact aa.base.nd.MJ) (by rw[aa.base.nd.mem.row.cell];rfl) O9 (U6 aa.base.vA) cr (by rw[jH,Jh];decide);rw[a8,<-ao,aea aa (t:=s) br.2.1.1 I (by rw[a6,a8]),ao]at h1;exact h1
  change Hid _ at a8 a6 hN ao hlen bq ai br bu;go_wp2;generalize w1.alloc (.cells #[I,↑(mk b.parent),↑(N:Int),.slice gt Q.length Q.length] 110)=V at k RH D G M|-;clear μ O;generalize(w1:Nat)=bh at RH|-;refine(Pz V D.base.row).mono ?_;rintro e w2 ⟨rfl,dq,de⟩;have⟨B,ae⟩:=D.shut rfl (lk':=oq) rfl de dq;have u:Tk a.lo Y2 y.n y.mb w w2:=(Ao G).trans (ae.zero.mono (λt e=>.inl (.inl (.inl e))));replace k:=k.tk ae D9;replace RH:=RH.tk ae D9;replace M:=M.tk ae D9 D9 D9;clear D dq de ae G;have k0:=RH.r 0;have k1:=RH.r 1;have k2:=RH.r 2;have cz:=RH.r 3;have du:=aL (dt.out w2 B);go_wp2;refine du.out.m1 λw3 au=>?_;replace k:=k.keep au k.lt;replace RH:=RH.keep au RH.lt;replace M:=M.keep au;replace B:=B.keep au;replace u:Tk a.lo Y2 y.n y.mb w w3:=u.trans (Ao au);clear du dt k0 k1 k2 cz au;by_cases hr:uE a c.bi s b=0
  .have bj:Hid (p8 c a s=if(cR a s b).wo<=(dG a).wo then(0,0,0,{a with bl:=a.bl++[cR a s b]})else Cy c {a with bl:=a.bl++[cR a s b]} a.bl.length (cR a s b).aX):=by have:=b6.out;rw[aU (by simpa using hr)]at this;exact this
   have cv:=a6.out.trans a8.out;have⟨r1,r2,r3,fj⟩:=xg hr;obtain⟨p,di,bz⟩:∃p,jJ y.l (mk b.parent)=some p/\y.l[Db a b]?=some p:=by
    obtain⟨db,_⟩|⟨_,p,e2,e3⟩:=ZG B b;.rw[r2]at db;cases db
    .exact⟨p,e2,e3⟩
   have b7:=B.tie _ _ _ bz (p9 r2).1;have ff:y.l.length<=49:=by rw[B.ll];exact B.wf.ll
   have dp:(0<=p.aX/\p.aX<=100000)/\(0<=p.wo/\p.wo<=100000000):=by have h1:=B.wf.hle _ _ (p9 r2).1;have h2:=(bY.1 (p9 r2).1).1;have ek:=B.wf.ll;rw[b7.aX,b7.wo];omega
   have ba:=Zc (gt:=gt) (q:=Q.length) (c:=Q.length) I (mk b.parent) N p w3 B.base.nd.mem.row B.base.nd.MJ B.base.nd.rh di B.base.nd.mem.base O9 cr dp.1 dp.2;unfold ptr at ba;replace ba:=aL ba;have k0:=RH.r 0;have k1:=RH.r 1;have k2:=RH.r 2;have cz:=RH.r 3;have ez:=aL hr;rw[hr];change Hid _ at cv bz r1;clear b6 hr di;go_wp2;refine ba.out.mono ?_;rintro e w4 ⟨A,eh,rfl,en,bo,cx,da⟩;have ca:Tk a.lo Yk 0 y.mb w3 w4:=(R6 B.base bo cx da).2.2;replace M:=M.tk ca (by unfold Yk;decide) (by unfold Yk;decide) (by unfold Yk;decide);rw[<-cv.out]at bo;have⟨H,_⟩:=aeb B ez.out ao.out cr bq.out ey ep M bz.out en bo cx da;have bx:(y.l++[Gq A (jC s) p N (.slice (some ⟨gt,0,none⟩) Q.length Q.length)])[a.bl.length]?=some (Gq A (jC s) p N (.slice gt Q.length Q.length)):=by rw[<-B.ll];simp
   have b0:p.wo+2^N=(cR a s b).wo:=by show _=(xJ a b).wo+2^b.bits.toNat;rw[b7.wo,ao.out]
   replace k:=k.tk ca (by unfold Yk;decide);replace u:Tk a.lo Y2 y.n y.mb w w4:=u.trans (ca.zero.mono (λt e=>by obtain e|e:=e;exact .inl (.inl (.inl e));exact .inr e));have dk:¬Bl a.ch (cR a s b).aX a.bl.length:=λe=>by unfold Bl at e;cases cy:a.ch[(cR a s b).aX]? with
    |none=>rw[cy]at e;cases e
    |some z=>rw[cy]at e;simp only[dW,gT]at e;have⟨x,bk,_⟩:=B.wf.ch _ z cy;have:=(bY.1 bk).1;omega
   have b8:y.p.wo=(dG a).wo:=B.base.wo;obtain⟨o,b4⟩:∃o,o=({y with bv:=eh,l:=y.l++[Gq A (jC s) p N (.slice (some ⟨gt,0,none⟩) Q.length Q.length)]}:Lay):=⟨_,rfl⟩;rw[<-b4]at H;have ei:o.n=y.n/\o.mb=y.mb/\o.p=y.p/\o.l=y.l++[Gq A (jC s) p N (.slice (some ⟨gt,0,none⟩) Q.length Q.length)]:=by rw[b4];exact⟨rfl,rfl,rfl,rfl⟩
   have⟨dc,av,dd,cj⟩:=ei;rw[<-cj]at bx;obtain⟨m,ah⟩:∃m,m=({a with bl:=a.bl++[cR a s b]}:AG):=⟨_,rfl⟩;rw[<-ah]at H;have bb:m.lo=a.lo:=by rw[ah]
   have bf:m.bl[a.bl.length]?=some (cR a s b):=by rw[ah];simp
   have cw:¬Bl m.ch (cR a s b).aX a.bl.length:=by rw[ah];exact dk
   rw[<-ah]at bj;have ew:∃nw:kG,o.l[a.bl.length]?=some nw/\nw.a=A/\nw.wo=p.wo+2^N:=⟨_,bx,rfl,rfl⟩;have⟨nw,bd,dm,dn⟩:=ew;have b3:w4.cell? (A,3)=some ↑(p.wo+2^N):=by rw[<-dm,<-dn];exact(H.base.nd.rh.row nw (cW bd)).cell 3
   have ed:w4.cell? (y.p.a,3)=some ↑y.p.wo:=by rw[<-dd];exact(H.base.nd.rh.row o.p H.base.vA).cell 3
   have NG:w4.cell? (nb,12)=some (.slice o.gc (o.kc+1) o.cc):=by rw[H.base.nd.mem.row.cell];exact H.base.nd.NG
   have cl:w4.cell? (o.gc,o.kc*2)=some (.pointer y.p.a):=by rw[<-dd];have:=H.base.nd.chain.cells (g:=o.gc) rfl (o.kc*2) _ H.base.link;rwa [add0]at this
   have fe:o.kc<=49:=by have h1:o.kc=m.ch.length -1:=H.base.kc;have h2:=H.wf.chl;have ek:=H.wf.ll;omega
   change Hid _ at b0 b8 bx bd bf cj b4 ah;clear ba k0 k1 k2 cz RH bo cx da ca b7 dk B dn;go_wp2;have e6:=R9 b3;have e7:=R9 ed;have ee:∀d os,Calls Vp 34 #[.pointer nb] (Go.Sort.grow (redrawn w4 d) os) λe e8=>e=.returned (.pointer y.p.a)/\∃p:Regrown,e8=Go.Sort.grow (redrawn w4 p.d) p.os:=λd os=>Calls.regrown_of (Ib nb o.gc o.kc o.cc y.p.a _ (R9 NG d os) (R9 cl d os) O9)
   refine wp_region_quiet_below E1 K8 ?_;repeat(go_big_quiet_step (first|(go_at_call 34;exact ee _ _)))
   refine wpQuiet_nil ?_;intro _ e4;have⟨⟨cf,c7⟩,e5⟩:=e4;subst e5;have hq:=below_regrown w4 cf c7;clear e6 e7 ee b3 ed NG cl;have af:=H.keep hq;replace k:=k.keep hq k.lt;replace u:Tk a.lo Y2 y.n y.mb w (Go.Sort.grow (redrawn w4 cf) c7):=u.trans (Ao hq);clear H;generalize Go.Sort.grow (redrawn w4 cf) c7=π at af k u hq|-;clear hq;by_cases b9:p.wo+2^N<=y.p.wo
   .have a7:decide (p.wo+2^N<=y.p.wo)=true:=by simpa using b9
    rw[a7];have E:Hid (p8 c a s=(0,0,0,m)):=by have:=bj.out;rw[bE (by rw[<-b0.out,<-b8.out];exact b9)]at this;exact this
    have c0:=k.r 0;have c1:=k.r 1;have f0:=k.frozen 0;have f1:=k.frozen 1;have cd:=k.lt;clear a7 bj;go_wp2;have⟨v,K,T⟩:=Aq (LB:=a.lo) (mb:=o.mb) k 0 0 bc;replace u:=T u;have C:=af.tk K D9 D9 D9 D9 D9 D9 D9 D9 D9 D9 D9;generalize(π.setCell ⟨(w:Nat),0,none⟩ ↑aA).setCell ⟨(w:Nat),1,none⟩ ↑aA=F at v K u C|-;refine qp (f:=31) (args:=#[.pointer nb]) S8 (by simp[go_sem]) ?_;refine(tN .returning F C.base.row).mono ?_;rintro e c8 R ⟨rfl,rfl,bg,ay⟩;have⟨az,J⟩:=C.shut rfl (lk':=qI) rfl ay bg;rw[bb]at J;replace v:=v.tk J D9;have bm:=u.trans (Tk.mono (Tk.zero (by rw[av]at J;exact J)) (λt e=>.inl (.inl (.inl e))));have k0:=v.r 0;have k1:=v.r 1;exact⟨.tuple #[.agg #[aA,aA],aA],by simp[results,Tryz.results12,go_sem,k0,k1],by rw[E.out],⟨_,_,by rw[E.out];exact az⟩,bm.ck⟩
   .have a7:decide (p.wo+2^N<=y.p.wo)=false:=by simpa using b9
    rw[a7];clear a7;have dv:Hid (p8 c a s=Cy c m a.bl.length (cR a s b).aX):=by have:=bj.out;rw[aU (by rw[<-b0.out,<-b8.out];exact b9)]at this;exact this
    have⟨W,fi,bp,ag,ar,a2⟩:=af.over (y:=cR a s b) bf.out rfl cw bd.out;have hgo:=abV π bp;rw[ag]at hgo;unfold ptr at hgo;rw[dm]at hgo;change Calls _ _ _ _ (λe w'=>Tk m.lo Y1 o.n o.mb π w'/\dN π w'/\∃ec,(((bR c.me.toNat c.su _ m.mem (goes tJ (dR (L.take (cG m a.bl.length (cR a s b).aX))))).e=0/\_)\/_))at hgo;rw[af.flat]at hgo;change Calls _ _ _ _ (λe w'=>Tk m.lo Y1 o.n o.mb π w'/\dN π w'/\∃ec,(((dI c m a.bl.length (cR a s b).aX).e=0/\_)\/_))at hgo;replace hgo:=aL hgo;have cm:=aL (Ik (y:=cR a s b) af bp.ok ag);have cu:=aL bp.ok;clear bj bp;change Hid _ at ag ar a2;have P:=aL af;clear af;go_wp2;refine hgo.out.mono ?_;rintro e ab ⟨S,cb,ec,⟨π,rfl,aj,fc,fb,fa,ak,l1,l2,eb⟩|⟨π,rfl,aj,x,j,bk,ae,ak⟩⟩
    .have C:=aec P.out bf.out rfl cw bd.out cu.out ag.out ar.out a2.out π aj ak l1 l2 eb S cb;have E:Hid (p8 c a s=(((m.ch.length -cG m a.bl.length (cR a s b).aX:Nat):Int),((fX m a.bl.length (cR a s b).aX).length:Int),0,m.rC a.bl.length (cR a s b) (dI c m a.bl.length (cR a s b).aX))):=by have:=dv.out;unfold Cy at this;change (dI c m a.bl.length (cR a s b).aX).e=0 at π;rw[bE π]at this;exact this
     have eu:Hid (o.kc+1=m.ch.length):=by have h1:o.kc=m.ch.length -1:=P.out.base.kc;have⟨_,_,_,_,_,h2⟩:=P.out.wf.vA;show _=_;omega
     clear l1 l2 eb π;replace k:=k.tk S (oV D9 D9 D9 D9 D9);rw[bb,dc,av]at S;replace u:Tk a.lo Y2 y.n y.mb w ab:=u.trans (S.mono (λt e=>.inl e));have c0:=k.r 0;have c1:=k.r 1;have f0:=k.frozen 0;have f1:=k.frozen 1;have cd:=k.lt;replace C:=aL C;clear hgo ak aj S cb M cm cu ag ar;go_wp2;replace C:=C.out;have⟨v,K,T⟩:=Aq (LB:=a.lo) (mb:=o.mb) k ((o.kc+1 -cG m a.bl.length (cR a s b).aX:Nat):Int) (W.length:Int) bc;replace u:=T u;replace C:=C.tk K D9 D9 D9 D9 D9 D9 D9 D9 D9 D9 D9;generalize(ab.setCell ⟨(w:Nat),0,none⟩ (.int .i64 ((o.kc+1 -cG m a.bl.length (cR a s b).aX:Nat):Int))).setCell ((w:Nat),1) ↑(W.length:Int)=F at v K u C|-;refine qp (f:=31) (args:=#[.pointer nb]) S8 (by simp[go_sem]) ?_;refine(tN .returning F C.base.row).mono ?_;rintro e c8 R ⟨rfl,rfl,bg,ay⟩;have⟨az,J⟩:=C.shut rfl (lk':=qI) rfl ay bg;change Tk m.lo _ 0 o.mb F R at J;rw[bb,av]at J;replace v:=v.tk J D9;have bm:=u.trans (Tk.mono (Tk.zero J) (λt e=>.inl (.inl (.inl e))));have k0:=v.r 0;have k1:=v.r 1;refine⟨.tuple #[.agg #[.int .i64 ((o.kc+1 -cG m a.bl.length (cR a s b).aX:Nat):Int),↑(W.length:Int)],aA],by simp[results,Tryz.results12,go_sem,k0,k1],by rw[E.out,<-eu.out,<-a2.out],⟨_,_,by rw[E.out];exact az⟩,bm.ck⟩
    .have dw:=Pk P.out.wf bf.out rfl cw;have dh:Hid (∃i z,(fX m a.bl.length (cR a s b).aX)[(dI c m a.bl.length (cR a s b).aX).at_]?=some i/\m.bl[i]?=some z/\¬Bl m.ch z.aX i/\i=j):=by have dj:=(bY.1 bk).1;rw[a2.out]at dj;have e:=bP dj;have⟨z,e9,_,z3,_⟩:=dw.at_ _ _ e;exact⟨_,z,e,e9,z3,Ar P.out.nda (ar.out _ _ x e bk) ae rfl⟩
     obtain⟨i,z,dx,dz,ea,rfl⟩:=dh.out;have dg:=(yU c.me.toNat c.su _ m.mem _ (Np _) (P.out.wf.Da (cG m a.bl.length (cR a s b).aX)) P.out.base.mem cm.out).2.2;rw[P.out.flatAll]at aj;rw[<-P.out.sl]at ak;have C:=aft P.out dz ea dg aj ak S cb;have E:Hid (p8 c a s=(0,0,(dI c m a.bl.length (cR a s b).aX).e,m.spoilt i (dI c m a.bl.length (cR a s b).aX).mem)):=by have:=dv.out;unfold Cy at this;change (dI c m a.bl.length (cR a s b).aX).e≠0 at π;rw[aU π,zj,dx]at this;exact this
     clear dh dw bk ae dx dz ea dg π;replace k:=k.tk S (oV D9 D9 D9 D9 D9);rw[bb,dc,av]at S;replace u:Tk a.lo Y2 y.n y.mb w ab:=u.trans (S.mono (λt e=>.inl e));have c0:=k.r 0;have c1:=k.r 1;have f0:=k.frozen 0;have f1:=k.frozen 1;have cd:=k.lt;replace C:=aL C;clear hgo ak aj S cb M cm cu ag ar;go_wp2;replace C:=C.out;have⟨v,K,T⟩:=Aq (LB:=a.lo) (mb:=o.mb) k 0 0 bc;replace u:=T u;replace C:=C.tk K D9 D9 D9 D9 D9 D9 D9 D9 D9 D9 D9;generalize(ab.setCell ⟨(w:Nat),0,none⟩ ↑aA).setCell ⟨(w:Nat),1,none⟩ ↑aA=F at v K u C|-;refine qp (f:=31) (args:=#[.pointer nb]) S8 (by simp[go_sem]) ?_;refine(tN .returning F C.base.row).mono ?_;rintro e c8 R ⟨rfl,rfl,bg,ay⟩;have⟨az,J⟩:=C.shut rfl (lk':=qI) rfl ay bg;change Tk m.lo _ 0 o.mb F R at J;rw[bb,av]at J;replace v:=v.tk J D9;have bm:=u.trans (Tk.mono (Tk.zero J) (λt e=>.inl (.inl (.inl e))));have k0:=v.r 0;have k1:=v.r 1;refine⟨.tuple #[.agg #[aA,aA],   ↑(dI c m a.bl.length (cR a s b).aX).e],by simp[results,Tryz.results12,go_sem,k0,k1];rfl,by rw[E.out],⟨_,_,by rw[E.out];exact az⟩,bm.ck⟩
  .have E:Hid (p8 c a s=(0,0,uE a c.bi s b,a)):=by have:=b6.out;rw[bE hr]at this;exact this
   have e1:(uE a c.bi s b==0)=false:=by simpa using hr
   have c0:=k.r 0;have c1:=k.r 1;have f0:=k.frozen 0;have f1:=k.frozen 1;have cd:=k.lt;generalize uE a c.bi s b=r at hr e1 E|-;clear b6;go_wp2;have⟨v,K,T⟩:=Aq (LB:=a.lo) (mb:=y.mb) k 0 0 bc;replace u:=T u;replace B:=B.tk K D9 D9 D9 D9 D9 D9 D9 D9 D9 D9 D9;generalize(w3.setCell ⟨(w:Nat),0,none⟩ ↑aA).setCell ⟨(w:Nat),1,none⟩ ↑aA=F at v K u B|-;refine qp (f:=31) (args:=#[.pointer nb]) S8 (by simp[go_sem]) ?_;refine(tN .returning F B.base.row).mono ?_;rintro e c8 ef ⟨rfl,rfl,e0,ej⟩;have⟨eo,eg⟩:=B.shut rfl (lk':=qI) rfl ej e0;replace v:=v.tk eg D9;replace u:=u.trans (eg.zero.mono (λt e=>.inl (.inl (.inl e))));have k0:=v.r 0;have k1:=v.r 1;exact⟨.tuple #[.agg #[aA,aA],r],by simp[results,Tryz.results12,go_sem,k0,k1],by rw[E.out],⟨y,L,by rw[E.out];exact eo⟩,u.ck⟩
end
def YF(D:Nat):AG:=⟨[⟨jS,0,0,0,[],false⟩],[⟨0,[]⟩],[],D⟩
def wf0(D):Aw (YF D):=by
 refine⟨⟨_,rfl,rfl,rfl,rfl⟩,λi x b h0=>?_,⟨_,rfl,rfl⟩,λh y a=>?_,λh y x a=>?_,trivial,λy a=>?_,λf=>?_,?_,show(1:Nat)<=49 by decide⟩;.have:i<1:=(bY.1 b).1;omega
 .have:h<1:=(bY.1 a).1;obtain rfl:h=0:=O9;cases a;exact⟨_,rfl,rfl,rfl⟩
 .trivial
 .rw[kH.1 a];exact fE _
 .have e:gG ((YF D).ch.take f)=[]:=by cases f with
   |zero=>rfl
   |succ f=>cases f<;>rfl
  rw[e];exactλp c h=>by cases h
 .show[jS].Nodup;simp
def abq{D w b c}(h:LV D w b c)(g:c.ok=true):gI w b c (YF D):=by
 have⟨s,f,h,d,e2⟩:=abK h g;refine⟨s,[⟨f,[],none,0⟩],h,e2,wf0 D,by rw[d];rfl,λi x y a e=>?_,by rw[d];simp,rfl,λi x y a e=>?_⟩;.have hi:i<1:=(bY.1 e).1;obtain rfl:i=0:=O9;rw[d]at a|-;cases a;cases e;exact⟨rfl,rfl,rfl,rfl,λ_=>rfl,λh0=>by omega,λ_ h0=>by omega⟩
 .have hi:i<1:=(bY.1 a).1;obtain rfl:i=0:=O9;cases a;cases e;exact⟨rfl,.inl rfl,_,by rw[d];rfl,rfl⟩
def gI.keep{w w' nb c a}(h:gI w nb c a)(b:Below w w w'):gI w' nb c a:=by have⟨s,L,h⟩:=h;exact⟨s,L,h.keep b⟩
def gI.is{w nb c a}(h:gI w nb c a):wD w nb c a.an:=by have⟨s,L,h⟩:=h;exact h.is
def gI.wf{w nb c a}(h:gI w nb c a):Aw a:=by have⟨s,L,h⟩:=h;exact h.wf
def HJ{a}(h:Aw a){i z}(hi:a.bl[i]?=some z)(c:¬Bl a.ch z.aX i)(M):dG (a.spoilt i M)=dG a:=by
 have⟨b,t1,t2,t3,t4,t5⟩:=h.vA;have e:dG (a.spoilt i M)=(dG a).mark ((Ij a.bl i).getD b.ix false):=by unfold dG;show((a.ch[a.ch.length -1]?).bind λy=>(jF a.bl i)[y.ix]?).getD _=_;rw[t1,uR];unfold jF;rw[lT t2,uR,t2];rfl
 rw[e,h.clean hi c _ b t1,ZI t4]
def ZJ{c a s}(h:Aw a)(V:∀b,lC s=some b->mk b.parent=(dG a).id):∃a',p8 c a s=(0,(Gk c a.an s).1,(Gk c a.an s).2.1,a')/\a'.an=(Gk c a.an s).2.2:=by unfold p8 Gk;cases C:lC s with
 |none=>exact⟨_,rfl,rfl⟩
 |some b=>
   simp only;have I:=V b C;have⟨r,t1,t2,t3,t4,t5⟩:=h.vA;have B:xI a b=true:=by unfold xI;rw[VH];exact⟨_,cW t2,by simp[I]⟩
   have⟨aa,ab⟩:=p9 B;have W:Db a b=r.ix:=by
    have z:(a.bl.map BN.id)[Db a b]?=some (dG a).id:=by rw[cP,aa,dW,ab,I]
    have e2:(a.bl.map BN.id)[r.ix]?=some (dG a).id:=by rw[cP,t2];rfl
    exact(Qs (bY.1 z).1 h.ids).1 (z.trans e2.symm)
   have v:xJ a b=dG a:=by simp_all
   have L:uE a c.bi s b=MM a.an c.bi s b:=by unfold uE MM;rw[B,v,t4];show _=if Nh (a.bl.map BN.id) (jC s)=true then 10 else if b.bits<c.bi then 11 else if(iM s).toNat%2^b.bits.toNat≠0 then 11 else if(a.bl.map BN.id).length=49 then 9 else 0;rw[fN];simp
   rw[L];by_cases hr:MM a.an c.bi s b=0;rotate_left;.simp_all
   .have M:¬MM a.an c.bi s b≠0:=by simpa using hr
    rw[aU M,aU M];have J:=hr;rw[<-L]at J;have⟨D,_⟩:=tH C;have Q:=(nk b).1 D;have A:b.bits.toNat<=8:=by have:=Q.2.1;omega
    have ae:=ZH A;have H:(cR a s b).wo=(dG a).wo+2^b.bits.toNat:=by show(xJ a b).wo+_=_;rw[v]
    have u:(cR a s b).aX=a.ch.length:=by show(xJ a b).aX+1=_;rw[v,t3];omega
    have μ:(cR a s b).par=r.ix:=W;rw[aU (by rw[H];omega)];have N:=h.keep J A;obtain⟨d,f⟩:∃d,d=({a with bl:=a.bl++[cR a s b]}:AG):=⟨_,rfl⟩;rw[<-f]at N|-;have o:d.bl[a.bl.length]?=some (cR a s b):=by rw[f];simp
    have P:d.bl[r.ix]?=some (dG a):=by rw[f];exact kM t2
    have j:d.ch=a.ch:=by rw[f]
    have T:d.mem=a.mem:=by rw[f]
    have F:d.lo=a.lo:=by rw[f]
    have G:¬Bl d.ch (cR a s b).aX a.bl.length:=by unfold Bl;rw[j,u,pA L9];simp
    have π:upA d.bl d.ch ((cR a s b).aX+1) a.bl.length=[a.bl.length]:=by unfold upA;rw[o];simp only;rw[aU G];obtain⟨k,S⟩:∃k,(cR a s b).aX=k+1:=⟨_,rfl⟩;rw[S,μ];unfold upA;rw[P];simp only;rw[if_pos (by unfold Bl;rw[j,t3,t1];rfl)]
    have q:fX d a.bl.length (cR a s b).aX=[a.bl.length]:=by unfold fX;rw[π];rfl
    have E:cG d a.bl.length (cR a s b).aX=a.ch.length:=by unfold cG;rw[q,u];rfl
    have p:dI c d a.bl.length (cR a s b).aX=bR c.me.toNat c.su [((a.an.aX+1:Nat),b.cX.map JC)] a.mem a.an.K:=by
     unfold dI;rw[q,E,j,jM,T];have e:mA d.bl a.bl.length=(((a.an.aX+1:Nat):Int),b.cX.map JC):=by unfold mA;rw[o];show((((cR a s b).aX:Nat):Int),_)=_;rw[u];show(((a.ch.length:Nat):Int),b.cX.map JC)=(((a.ch.length -1+1:Nat):Int),b.cX.map JC);rw[show a.ch.length -1+1=a.ch.length from by omega]
     rw[lD,e];rfl
    have Y:∀x∈b.cX.map JC,x.id.size<=1000000/\(∀i∈x.ins,i.Small)/\x.outs.length<=8:=λx w=>by obtain⟨t,m,rfl⟩:=iJ.1 w;have h1:=(Fu D).2 t m;exact⟨by show(mk _).size<=_;rw[dK];simp[be],h1.2.2.2.2.1,h1.2.2.2.1⟩
    have n:=BH c.me.toNat c.su ((a.an.aX+1:Nat):Int) (b.cX.map JC) a.mem (Np (gG a.ch)) Y;change Way a.an.K (lO c a.an b).2.1 at n;unfold Cy;by_cases g:(lO c a.an b).1=0
    .have l:dI c d a.bl.length (cR a s b).aX=⟨0,1,[(lO c a.an b).2.1.steps],(lO c a.an b).2.1.K,(lO c a.an b).2.2,(lO c a.an b).2.1.steps++[]⟩:=by rw[p,bR,aU (λe=>e g)];rfl
     rw[bE g,l];simp only[vH];clear l p;generalize lO c a.an b=R at n g|-;refine⟨_,by rw[q,E,j,sP];rfl,?_⟩;rw[jM];have m:dG {d with ch:=a.ch++oD [a.bl.length] [R.2.1.steps],mem:=R.2.2}=cR a s b:=by unfold dG;show(((a.ch++[(⟨a.bl.length,R.2.1.steps⟩:Dt)])[(a.ch++[(⟨a.bl.length,R.2.1.steps⟩:Dt)]).length -1]?).bind λy=>d.bl[y.ix]?).getD _=_;rw[bW,oN,Qd,eD L9,sP];show(d.bl[a.bl.length]?).getD _=_;rw[o];rfl
     unfold AG.an;rw[m];show(⟨d.bl.map BN.id,jC s,(a.ch++[(⟨a.bl.length,_⟩:Dt)]).length -1,(cR a s b).wo,goes tJ (gG (a.ch++[(⟨a.bl.length,R.2.1.steps⟩:Dt)])),_,d.lo⟩:AN)=_;have O:goes tJ (gG (a.ch++[(⟨a.bl.length,R.2.1.steps⟩:Dt)]))=R.2.1.K:=by
      rw[ow,iZ];have e:gG [(⟨a.bl.length,R.2.1.steps⟩:Dt)]=R.2.1.steps:=by simp[gG]
      rw[e];exact n.at_.symm
     rw[O,F,H,bW,oN];have hi:d.bl.map BN.id=a.bl.map BN.id++[jC s]:=by rw[f];show(a.bl++[cR a s b]).map BN.id=_;rw[oK];rfl
     rw[hi];have hh:a.ch.length+1 -1=a.ch.length -1+1:=O9;rw[hh]
    .have l:dI c d a.bl.length (cR a s b).aX=⟨(lO c a.an b).1,0,[],(lO c a.an b).2.1.K,(lO c a.an b).2.2,(lO c a.an b).2.1.steps⟩:=by rw[p,bR,bE (by exact g),bE rfl];rfl
     rw[aU g,l];simp only;rw[aU g];clear l p;generalize lO c a.an b=R at n g|-;refine⟨_,rfl,?_⟩;rw[q];have m:=HJ N o G R.2.2;have X:=Jb h j (λi x w=>by rw[f];exact kM w);show(d.spoilt a.bl.length R.2.2).an=_;unfold AG.an;rw[m,X];show(⟨(jF d.bl a.bl.length).map BN.id,_,d.ch.length -1,_,goes tJ (gG d.ch),_,d.lo⟩:AN)=_;have hi:d.bl.map BN.id=a.bl.map BN.id++[jC s]:=by rw[f];show(a.bl++[cR a s b]).map BN.id=_;rw[oK];rfl
     rw[ry,hi,j,F];rfl
def MN{nb c a}(s w)(h:gI w nb c a)(g:∀b,lC s=some b->mk b.parent=a.an.vA):Calls Vp 12 #[ptr nb,(mk s)] w λe w'=>e=.returned (.tuple #[.agg #[aA,(Gk c a.an s).1],(Gk c a.an s).2.1])/\(∃a',gI w' nb c a'/\a'.an=(Gk c a.an s).2.2)/\Ck a.lo Y2 w w':=by
 have⟨a',d,e2⟩:=ZJ (c:=c) h.wf g;have:=Rp s w h;rw[d]at this;exact this.mono λe w' ⟨h1,h2,f⟩=>⟨h1,⟨a',h2,e2⟩,f⟩
section
variable{LB:Nat}
def YM(t:TypeId):Prop:=t=37\/t=64\/t=9\/t=3
abbrev Mf(LB:Nat)(w w':World):Prop:=Tk LB YM 0 (λ_=>0) w w'
def afc{t}(a:t≠64)(b:t≠37)(c:t≠9)(d:t≠3):¬YM t:=by
 rintro(e|e|e|e);.exact b e
 .exact a e
 .exact c e
 .exact d e
def Jl(rb:Nat)(r:pQ)(k:Nat):Prop:=k=rb\/r.kv.ownBlock=some k\/r.iv.ownBlock=some k\/r.wv.ownBlock=some k
def afd{S w w'}(x:Xc S w w')(h:∀k,k<↑w->S k->LB<=k/\∃t cs,YM t/\Row w k t cs):Mf LB w w':=H3 x (by rintro k ⟨i,hi,_⟩;omega) (λk d e=>by have⟨a,t,cs,b,c⟩:=h k d e;exact .inr ⟨a,_,_,_,b,c⟩)
def gH.mf{w w' rb B r}(h:gH w rb B r)(x:Xc (Jl rb r) w w')(b:LB<=rb/\LB<=B):Mf LB w w':=by
 refine afd x (λk _ e=>?_);obtain e|e|e|e:=e;.subst e;exact⟨b.1,_,_,.inl rfl,h.row⟩
 .have⟨cs,a⟩:=jV h.aY e;exact⟨bJ b.2 (bU h.aY e).1,_,_,.inr (.inl rfl),a⟩
 .have⟨cs,a⟩:=jV h.ids e;exact⟨bJ b.2 (bU h.ids e).1,_,_,.inr (.inr (.inl rfl)),a⟩
 .have⟨cs,a⟩:=jV h.cN e;exact⟨bJ b.2 (bU h.cN e).1,_,_,.inr (.inr (.inr rfl)),a⟩
def gI.mf{w w' nb c a}(h:gI w nb c a)(x:Mf LB w w'):gI w' nb c a:=by have⟨s,L,h⟩:=h;have g:Tk LB YM 0 s.mb w w':=⟨x.os,x.tape,x.output,x.size,x.cells,λk o e f _=>x.rest k o e f (by rintro⟨j,i,_⟩;omega)⟩;have n:∀t:TypeId,t≠64->t≠37->t≠9->t≠3->¬YM t:=λ_ a b c d=>afc a b c d;exact⟨s,L,h.tk g (n _ D9 D9 D9 D9) (n _ D9 D9 D9 D9) (n _ D9 D9 D9 D9) (n _ D9 D9 D9 D9) (n _ D9 D9 D9 D9) (n _ D9 D9 D9 D9) (n _ D9 D9 D9 D9) (n _ D9 D9 D9 D9) (n _ D9 D9 D9 D9) (n _ D9 D9 D9 D9) (n _ D9 D9 D9 D9)⟩
def aa4(r:pQ)(a:AG):Prop:=∀(i j:Nat) (x:BN) (v:Int),a.bl[j]?=some x->r.ids[i]?=some x.id->r.cN[i]?=some v->v=x.wo
structure Lw(C:Nat)(w w':World):Prop where
 size:w.heap.size<=w'.heap.size
 cells:∀(k:Nat) (cs:Array Value) (t:TypeId) (f:Nat×Nat),k<C->w.heap[k]?=some (.cells cs t f)->w'.heap[k]?=some (.cells cs t f)
def Lw.trans{C w w1 w2}(h:Lw C w w1)(a:Lw C w1 w2):Lw C w w2:=⟨bJ h.size a.size,λk cs t f b e=>a.cells k cs t f b (h.cells k cs t f b e)⟩
def Tk.lw{a n mb w w'}(h:Tk LB a n mb w w'):Lw LB w w':=⟨h.size,λk cs t f b e=>h.cells k cs t f e (.inl b)⟩
def Ck.lw{a w w'}(h:Ck LB a w w'):Lw LB w w':=⟨h.size,λk cs t f b e=>h.cells k cs t f e (.inl b)⟩
def Lw.below{C w w'}(h:Below w.heap.size w w'):Lw C w w':=⟨h.size,λk cs t f _ e=>(h.block k (bD e)).trans e⟩
def Lw.mono{C D w w'}(h:Lw D w w')(a:C<=D):Lw C w w':=⟨h.size,λk cs t f b e=>h.cells k cs t f O9 e⟩
def Jc{C w w'}(x:Lw C w w'){a v}(c:a.block<C)(h:w.cell? a=some v):w'.cell? a=some v:=by unfold World.cell? at h|-;cases b:w.heap[a.block]? with
 |none=>rw[b]at h;simp at h
 |some o=>cases o with
   |cells cs t f=>rw[x.cells _ cs t f c b];rw[b]at h;exact h
   |_=>rw[b]at h;simp at h
def nU.lw{B C w w' v l}(h:nU B w v l)(x:Lw C w w')(n:B<=C):nU B w' v l:=by have⟨⟨a,c,m,d⟩,j,g⟩:=h;refine⟨⟨a,c,m,λk=>?_⟩,j,g⟩;have⟨b,o,e,f,d⟩:=d k;exact⟨b,o,e,f,λi y hi=>Jc x (by show b<C;omega) (d i y hi)⟩
def gH.made{w rb B r}(h:gH w rb B r)(s):gH (w.setCell (rb,10) (.string s)) rb B {r with made:=s}:=⟨h.row.set 10 _,bN h.ids h.row D9,bN h.cN h.row D9,bN h.aY h.row D9,by rw[qs];exact h.base⟩
def gH.behind{w rb B r}(h:gH w rb B r)(n):gH (w.setCell (rb,11) (.int .i64 n)) rb B {r with behind:=n}:=⟨h.row.set 11 _,bN h.ids h.row D9,bN h.cN h.row D9,bN h.aY h.row D9,by rw[qs];exact h.base⟩
def tK{B' j i g w w' t a cs k u}(h:Row w g t cs)(f:w.ownsRow B' a j u i k)(d:w.grownBy w' u.ownBlock)(e:t≠a):Row w' g t cs:=qX h d (λc=>by have⟨_,l,b⟩:=bU f c;rw[h]at b;cases b;exact e rfl)
def gH.idp{w w1 rb B r v1 x}(h:gH w rb B r)(g:w.grownBy w1 r.iv.ownBlock)(o:w1.ownsRow B 9 1 v1 (r.ids.length+1) (r.ids.map Value.string++[.string x])):Row w1 rb 37 r.cells/\gH (w1.setCell (rb,6) v1) rb B {r with iv:=v1,ids:=r.ids++[x]}/\Xc (λk=>k=rb\/r.iv.ownBlock=some k) w (w1.setCell (rb,6) v1):=by
 have a:=tK h.row h.ids g D9;refine⟨a,⟨a.set 6 v1,?_,bN (eY h.cN h.ids g D9) a D9,bN (eY h.aY h.ids g D9) a D9,by rw[qs];exact bJ h.base g.size⟩,((iV _ w).grown g (λ_ e _=>.inr e)).setCell (rb,6) v1 (λ_=>.inl rfl)⟩;show World.ownsRow _ _ _ _ _ (r.ids++[x]).length ((r.ids++[x]).map Value.string);rw[oK,bW];exact bN o a D9
def gH.wkp{w w1 rb B r v1 x}(h:gH w rb B r)(g:w.grownBy w1 r.wv.ownBlock)(o:w1.ownsRow B 3 1 v1 (r.cN.length+1) (r.cN.map (Value.int .i64)++[.int .i64 x])):Row w1 rb 37 r.cells/\gH (w1.setCell (rb,7) v1) rb B {r with wv:=v1,cN:=r.cN++[x]}/\Xc (λk=>k=rb\/r.wv.ownBlock=some k) w (w1.setCell (rb,7) v1):=by
 have a:=tK h.row h.cN g D9;refine⟨a,⟨a.set 7 v1,bN (eY h.ids h.cN g D9) a D9,?_,bN (eY h.aY h.cN g D9) a D9,by rw[qs];exact bJ h.base g.size⟩,((iV _ w).grown g (λ_ e _=>.inr e)).setCell (rb,7) v1 (λ_=>.inl rfl)⟩;rw[oK,bW];exact bN o a D9
structure wK(r:pQ)(m:Nat):Prop where
 il:r.ids.length<=m
 wl:r.cN.length=r.ids.length
 wb:∀x∈r.cN,0<=x/\x<=8*(r.ids.length:Int)
 cl:r.aY.length<=6*m
 i8:∀i∈r.ids,(fH i).length=8
 cg:∀x∈r.aY,x.Good
 tg:0<=r.tag/\r.tag<=65535
def wK.aY{r m kv b ms tg md}(h:wK r m)(o:b.length<=3)(g:∀k∈ms,k.length<=2/\∀x∈k,x.Ok)(l:0<=tg/\tg<=65535):wK {r with tag:=tg,kv:=kv,aY:=r.aY++iX (pH b) ms,made:=md} (m+1):=by
 refine⟨Nat.le_succ_of_le h.il,h.wl,h.wb,?_,h.i8,λx a=>?_,l⟩
 .have d:=H0 (pH b) ms (λk c=>(g k c).1);have e:(pH b).length=b.length:=by simp[pH]
  have:=h.cl;rw[bW];omega
 .obtain a|a:=nz.1 a;.exact h.cg x a
  .obtain⟨i,j,id,k,y,d,e,f,rfl⟩:=HZ _ _ _ a;have c:=g k (cW e);have n:=(bY.1 f).1;refine⟨c.2 y (cW f),?_,⟨GA _,by show(j:Int)<=255;omega⟩⟩;obtain⟨t,_,rfl⟩:=iJ.1 (cW d);unfold wM;rw[od,bS]
def wK.idp{r m iv wv x y md bh}(h:wK r (m+1))(hi:r.ids.length<=m)(f:(fH x).length=8)(b:∃z∈r.cN,0<=y/\y<=z+8):wK {r with iv:=iv,ids:=r.ids++[x],wv:=wv,cN:=r.cN++[y],made:=md,behind:=bh} (m+1):=by
 have⟨z,c,d,e⟩:=b;have g:=h.wb z c;refine⟨by show(r.ids++[x]).length<=_;simp;exact hi,by show(r.cN++[y]).length=(r.ids++[x]).length;simp[h.wl],λu a=>?_,h.cl,λi hi=>?_,h.cg,h.tg⟩
 .rw[bW,oN];obtain a|a:=nz.1 a;.have:=h.wb u a;omega
  .grind
 .obtain hi|hi:=nz.1 hi;.exact h.i8 i hi
  .simp_all
end
def aI.abl:(Vp.info? 3).map (λi=>(i.zero,i.size,i.bytes))=some (some ↑aA,1,8):=K8
def acR:=@aI.abl
def Jd{B n k}{w:World}{e v u d}(h:w.ownsRow B e 1 v n d)(b:d[k]?=some u):∃g c,v=.slice (some ⟨g,0,none⟩) n c/\w.cell? ⟨g,k,none⟩=some u:=by
 have m:=(bY.1 b).1;have f:=λg (a:v.ownBlock=some g)=>uT (g:=g) h a;have j:=h.1;obtain⟨_,h0⟩|⟨g,cap,cur,i,l,a,_⟩:=h.2;.omega
 .subst i;refine⟨g,cap,rfl,?_⟩;have:=f g rfl k u b;rwa [add0]at this
def abm{P F bits n}{ds:List eO}(c:mG (wB (fH P) bits (JB F (ds.map eO.m)) n)=true):∃b,lC (wS (fH P) bits (JB F (ds.map eO.m)) n)=some b/\mk b.parent=P/\b.bits=(bits:Int):=⟨_,yN c,Ji _,rfl⟩
def acS{p bits n a}:wS p bits a n≠[]:=by
 intro e;have h:(wS p bits a n).length=0:=by rw[e];rfl
 unfold wS at h;rw[wE]at h;simp only[bW,bS]at h;omega
def tL(N)(h:N<=3):IntKind.i64.wrap (2^N)=((2^N:Nat):Int)/\0<=((2^N:Nat):Int)/\((2^N:Nat):Int)<=8:=by have:N=0\/N=1\/N=2\/N=3:=O9;obtain rfl|rfl|rfl|rfl:=this<;>decide
def E7{s}(h:s≠[]):(mk s).toList.isEmpty=false:=by
 have b:(⟨#[]⟩:ByteArray).toList=[]:=by rw[ByteArray.toList_eq]
 have c:mk s≠⟨#[]⟩:=λe=>h (by have:=congrArg fH e;rwa [od]at this);have a:=qj c;rw[b]at a;cases d:(mk s).toList.isEmpty with
 |false=>rfl
 |true=>exact absurd (List.isEmpty_iff.1 d) a
def Ry{s b}(h:lC s=some b):(fH (jC s)).length=8:=by rw[Bq h,od,<-T7,Jh]
def wP.small{cs tg ds sp ms}(h:wP cs tg ds sp ms):∀d∈ds,d.ins.length<=9/\d.outs.length<=9:=by
 intro d a;have⟨i,hi⟩:=oL.1 a;refine⟨?_,by have:=(h.cX i d hi).2.1;omega⟩;by_cases e:i=0;.subst e;rw[(h.base d hi).2];exact fE _
 .obtain⟨s,b⟩:∃s,sp[i]?=some s:=⟨_,bP (by have:=(bY.1 hi).1;have:=h.l1;omega)⟩;have⟨b1,b2⟩:=h.ins i d s O9 hi b;rw[b2,fN];omega
structure Made(r r':pQ)(s:List UInt8)(b:np)(pi:Nat)(x:Int):Prop where
 ne:s≠[]
 made:r'.made=mk s
 dec:lC s=some b
 par:r.ids[pi]?=some (mk b.parent)
 new:jC s∉r.ids
 ids:r'.ids=r.ids++[jC s]
 wx:r.cN[pi]?=some x
 cN:r'.cN=r.cN++[x+2^b.bits.toNat]
 bits:b.bits.toNat<=3
structure E6(w w':World)(rb B m:Nat)(r:pQ)(r':pQ):Prop where
 fx:Xc (Jl rb r) w w'
 run:gH w' rb B r'
 jT:wK r' (m+1)
 nb:r'.nb=r.nb
 c:r'.c=r.c
 aY:∀x∈r.aY,x∈r'.aY
 made:(r'.made=mk []/\r'.ids=r.ids/\r'.cN=r.cN)\/∃s b pi x,Made r r' s b pi x
def Yg{C rb B m r}(v l va vc w)(h:gH w rb B r)(fh:-9223372036854775808<=v/\v<9223372036854775808)(M:0<r.ids.length)(E:wK r m)(ez:nU C w (.slice va l.length vc) l)(ey:C<=rb/\C<=B)(dq:m<=2000000)(gk:0<=r.c.bi/\r.c.bi<=2):Calls Vp 9 #[.pointer rb,.agg #[.int .i64 v,.slice va l.length vc]] w λe w'=>e=.returned ↑aD/\∃cz,E6 w w' rb B m r cz:=by
 have e5:=E.il;have gm:=E.cl;have fc:=E.tg;have gz:=h.row.lt;have e7:Hid (∀q,r.kv.ownBlock=some q->q<(w:Nat)):=λq hq=>(kW h.aY q hq).2;have H:Below w w ((w.alloc (.cells #[v,.slice va l.length vc] 32)).alloc (.cells #[.slice va l.length vc,aA] 82)):=(B0.alloc L9 _).alloc Z9 _;have RS:=(aW w [v,.slice va l.length vc] 32).keep (B0.alloc L9 (.cells #[.slice va l.length vc,aA] 82)) (aW w [v,.slice va l.length vc] 32).lt;have V:=aW (w.alloc (.cells #[v,.slice va l.length vc] 32)) [.slice va l.length vc,aA] 82;rw[bL]at V;have du:=kL v (r.ids.length:Int) O9;obtain⟨f,dv⟩:∃f:Nat,jQ v (r.ids.length:Int)=(f:Int):=⟨_,(J9 du.1).symm⟩;have dw:f<r.ids.length:=O9;have ae:=bP dw;generalize r.ids[f]=P at ae;clear du dw;go_enter fA Tryz.func9,Tryz.ntmps9;go_wp2;have L:mK C ((w.alloc (.cells #[v,.slice va l.length vc] 32)).alloc (.cells #[.slice va l.length vc,aA] 82)) ((w:Nat)+1) l 0:=⟨⟨_,V,ez.keep H O9⟩,O9,fE _⟩;have S:=h.keep H;have cd:=H.size;generalize(w.alloc (.cells #[v,.slice va l.length vc] 32)).alloc (.cells #[.slice va l.length vc,aA] 82)=X at H RS V L S cd|-;have cj:=adQ v X S M O9 fh;rw[dv]at cj;have dt:=V.lt;clear V;refine cj.mono ?_;rintro e w1 ⟨rfl,au⟩;replace S:=S.keep au;replace L:=L.keep au dt;replace H:=H.trans (au.mono cd);clear cj RS au dv;go_wp2;refine(jR w1 ((w:Nat)+1) l 0 8 L O9 O9).mono ?_;rintro e w2 ⟨rfl,ao,bu⟩;generalize Gi l 0 8=bf;generalize LQ l 0=k2 at ao;have dx:=S.kT L bu;have ed:Xc (Jl rb r) w w2:=(iY H).grown bu (λk e ay=>by cases e;omega);have g1:=ao.lt;clear L S bu H dt cd;go_wp2;refine(T4 w2 dx ao ae O9 O9 ey.1 O9 fc).mono ?_;rintro e w3 ⟨D,bits,ta,bj,sv,mv,ds,sp,ms,rfl,gl,gg,dk,dh,dm,dj,di,dn,o,b9,c8⟩;have ee:Xc (Jl rb r) w w3:=ed.trans c8 (λk ay e=>by
  obtain e|e:=e;.omega
  .exact .inl e)
 obtain⟨N,e1⟩:∃N:Nat,bits=(N:Int):=⟨bits.toNat,O9⟩;subst e1;have b0:N<=3:=O9;have dz:0<=(r.tag+1)%65535/\(r.tag+1)%65535<=65535:=O9;generalize(r.tag+1)%65535=tg at o b9 dz;have g2:=c8.size;clear ao dx ed c8;have K:Below w3 w3 (w3.alloc (.cells #[P,↑(N:Int),aA,.slice ta ds.length bj] 76)):=B0.alloc L9 _;have RB:=aW w3 [P,↑(N:Int),aA,.slice ta ds.length bj] 76;have i8:=E.i8 P (cW ae);have av:Hid (∀n:Nat,n<65536->mG (wB (fH P) N (ds.map eO.m) n)=true):=λn ab=>o.fits dn E.cg i8 O9 ab;have aa:∀wrong:Bool,_:=λwrong=>Ad (fH P) N ta bj ds sv mv sp ms wrong _ (b9.keep K) (dk.keep K) dh (dm.keep K) (dj.keep K) o.pos O9 o.small o.l1 o.l2 (λi d s hi e4 cb=>by rw[(o.ins i d s hi e4 cb).2,fN]) (λs cb x g=>(E.cg x (o.Cz s cb x g)).ok) di (λm dq=>by have:=(o.vp m dq).1;omega) (by show r.aY.length<=20000000;omega) (λn ab=>Fp (av.out n ab) (Fl _ _ _)) O9 (av.out 0 O9);rw[Ji]at aa;have ef:=ee.then K;have gp:=RB.lt;replace aa:=aL aa;replace o:=aL o;clear ee K dk dh dm dj di b9;go_wp2;refine(aa.out _).mono ?_;rintro e w4 ⟨bz,⟨kv,ag⟩,n,ab,rfl,cf⟩;have b4:=Fp (F:=nJ sp (pH (ds.map eO.m)) (bf==7)) (av.out n ab) (Fl _ _ _);have dp:=Ry (yN b4);have b7:Hid (∃b,lC (wS (fH P) N (JB (nJ sp (pH (ds.map eO.m)) (bf==7)) (ds.map eO.m)) n)=some b/\mk b.parent=P/\b.bits=(N:Int)):=abm b4;have ar:wS (fH P) N (JB (nJ sp (pH (ds.map eO.m)) (bf==7)) (ds.map eO.m)) n≠[]:=acS;generalize wS (fH P) N (JB (nJ sp (pH (ds.map eO.m)) (bf==7)) (ds.map eO.m)) n=a at dp b7 ar cf|-;have gq:=E7 ar;have e0:=aL ar;have b6:Hid (∀md,wK {r with tag:=tg,kv:=kv,aY:=r.aY++iX (pH (ds.map eO.m)) (ms.map Prod.snd),made:=md} (m+1)):=λmd=>E.aY (by rw[fN];exact dn) (λk ay=>by obtain⟨x,g,rfl⟩:=iJ.1 ay;have:=o.out.vp x g;exact⟨this.1.2,this.2⟩) dz
 have eg:Xc (Jl rb r) w w4:=ef.trans bz (λk ay e=>by
  obtain e|e|⟨e,_⟩|⟨e,_⟩:=e;.exact .inl e
  .exact .inr (.inl e)
  .omega
  .omega)
 have db:=RB.xc bz (by
  rintro(e|e|⟨_,cs,e⟩|⟨_,cs,e⟩);.omega
  .have:=e7.out _ e;omega
  .exact RB.ne e D9 rfl
  .exact RB.ne e D9 rfl)
 have bq:w4.cell? (rb,10)=some ↑r.made:=ag.row.cell 10;have f10:=ag.row.frozen 10;have e9:=ag.row.lt;have p:=ag.made ⟨#[]⟩;have bd:Xc (Jl rb r) w (w4.setCell (rb,10) ↑aB):=eg.setCell (rb,10) _ (λ_=>.inl rfl);have bo:=db.aP (rb,10) ↑aB (by show(w3:Nat)≠rb;omega);have af:=TS (jC a) _ p.ids (by show r.ids.length<=20000000;omega);have c6:(w4.setCell (rb,10) ↑aB).cell? (rb,6)=some r.iv:=p.row.cell 6;replace af:=aL af;replace cf:=aL cf;clear aa av b4 bz ef eg RB db ag ar;generalize ga:iX (pH (ds.map eO.m)) (ms.map Prod.snd)=J at p b7 b6;go_wp2;refine af.out.mono ?_;rintro e A ⟨rfl,ea⟩;rw[<-ea]at bd bo p c6;clear af ea bq f10 e9;have gd:Hid (∀x∈J,x∈r.aY++J):=λx g=>List.mem_append_right _ g;by_cases b8:jC a∈r.ids;.obtain⟨fs,az,_⟩:=HR r.ids (jC a) 0 b8;rw[iR]at az;rw[az];have gu:(0:Int)<=(fs:Int):=O9;replace az:=aL az;go_wp2;go_ret;exact⟨rfl,_,⟨bd,p,b6.out _,rfl,rfl,λx g=>Qr _ g,.inl ⟨rfl,rfl,rfl⟩⟩⟩
 .rw[Fa r.ids (jC a) 0 b8];have gv:¬(0:Int)<=-1:=O9;obtain⟨bb,bc,O⟩:=bF p.ids;obtain⟨g6,wc,fi⟩:=bF p.cN;have bq:A.cell? (rb,10)=some ↑aB:=p.row.cell 10;have f10:=p.row.frozen 10;have fa:=p.row.lt;have a6:=p.made (mk a);have MJ:(A.setCell (rb,10) ↑(mk a)).cell? (rb,11)=some ↑r.behind:=a6.row.cell 11;have f11:=a6.row.frozen 11;have ca:=a6.behind (f:Int);have eh:Xc (Jl rb r) w ((A.setCell (rb,10) ↑(mk a)).setCell (rb,11) ↑(f:Int)):=(bd.setCell (rb,10) _ (λ_=>.inl rfl)).setCell (rb,11) _ (λ_=>.inl rfl);have bp:=(bo.aP (rb,10) ↑(mk a) (by show(w3:Nat)≠rb;omega)).aP (rb,11) ↑(f:Int) (by show(w3:Nat)≠rb;omega);have c6:((A.setCell (rb,10) ↑(mk a)).setCell (rb,11) ↑(f:Int)).cell? (rb,6)=some (.slice bb r.ids.length bc):=(ca.row.cell 6).trans (congrArg some O);have bk:=aW ((A.setCell (rb,10) ↑(mk a)).setCell (rb,11) ↑(f:Int)) [↑(jC a)] 9;rw[qs,qs]at bk;have G:Below ((A.setCell (rb,10) ↑(mk a)).setCell (rb,11) ↑(f:Int)).heap.size ((A.setCell (rb,10) ↑(mk a)).setCell (rb,11) ↑(f:Int)) (((A.setCell (rb,10) ↑(mk a)).setCell (rb,11) ↑(f:Int)).alloc (.cells [.string (jC a)].toArray 9)):=B0.alloc L9 _;have Q:=ca.keep G;have bm:(((A.setCell (rb,10) ↑(mk a)).setCell (rb,11) ↑(f:Int)).alloc (.cells [.string (jC a)].toArray 9)).ownsRow B 9 1 (.slice bb r.ids.length bc) r.ids.length (r.ids.map Value.string):=by rw[<-O];exact Q.ids
  have da:=Q.base;have gn:r.ids.length<=100000000:=O9;have ei:=eh.then G;have dc:=bp.keep G bp.lt;replace Q:=aL Q;replace O:=aL O;clear p a6 ca bd eh bo bp G;obtain⟨i0,M,a7,a8,ba⟩:=info_parts YD;go_wp2_with (at_builtin;refine wpList_append_own_at _ rfl _ _ 34 rfl B 9 i0 _ 1 16 aI.underlying34 M a7 a8 ba rfl D9 (.slice bb r.ids.length bc) r.ids.length (r.ids.map Value.string) rfl bm ⟨_,0,none⟩ 1 1 [↑(jC a)] rfl rfl (λj u e6=>by rw[add0,bk.cell];exact e6) (λu ah=>by simp at ah;subst ah;rfl) (by unfold maxLen;omega) O9 da ?_;intro v9 c7 cu bx _ ec;refine HY.out ?_);have dg:(((A.setCell (rb,10) ↑(mk a)).setCell (rb,11) ↑(f:Int)).alloc (.cells [.string (jC a)].toArray 9)).grownBy c7 (({r with tag:=tg,kv:=kv,aY:=r.aY++J,made:=mk a,behind:=(f:Int)}:pQ)).iv.ownBlock:=by rw[show(({r with tag:=tg,kv:=kv,aY:=r.aY++J,made:=mk a,behind:=(f:Int)}:pQ)).iv=_ from O.out];exact bx
  obtain⟨ai,R,ej⟩:=Q.out.idp dg cu;have dd:=tK dc bm bx D9;obtain⟨Y,π,ff⟩:=cQ cu r.ids.length rfl;subst ff;have c9:=(ai.cell 6).trans (congrArg some O.out);have eu:=ai.frozen 6;have ec:=ai.lt;have cr:=ei.trans ej (λk _ e=>by obtain e|e:=e;exact .inl e;exact .inr (.inr (.inl e)));have aj:=dd.aP (rb,6) (.slice Y (r.ids.length+1) π) (by show(w3:Nat)≠rb;omega);clear Q bm bk da bx dg cu ai ei ej dd dc M a7 a8 ba c6 bq MJ f10 f11 fa;refine⟨?_⟩;go_wp2;generalize c7.setCell ⟨rb,6,none⟩ (.slice Y (r.ids.length+1) π)=W at R aj cr|-;obtain⟨x,g⟩:∃x,r.cN[f]?=some x:=⟨_,bP (by rw[E.wl];exact(bY.1 ae).1)⟩;have cm:=E.wb x (cW g);obtain⟨wg,I,eb,fy⟩:=Jd R.cN (k:=f) (u:=↑x) (by show(r.cN.map _)[f]?=_;rw[cP,g];rfl);have T:r.wv=.slice wg r.cN.length I:=eb;have fw:=(R.row.cell 7).trans (congrArg some T);have b1:=aj.r 1;have af:=(bY.1 g).1;have gy:(f:Int)<(r.cN.length:Int):=O9;have gx:(0:Int)<=(f:Int):=O9;have gj:(0:Int)<=(N:Int):=O9;obtain⟨y,μ⟩:∃y,IntKind.i64.wrap (x+IntKind.i64.wrap (2^N))=y:=⟨_,rfl⟩;have fo:Hid (∃z∈r.cN,0<=y/\y<=z+8):=by
   refine⟨x,cW g,?_⟩;obtain⟨cv,cw,cx⟩:=tL N b0;have fj:x<=8*100000000:=by have:=cm.2;omega
   rw[cv]at μ;generalize((2^N:Nat):Int)=P at μ cw cx;rw[uQ]at μ;omega
  have fp:Hid (y=x+2^N):=by
   obtain⟨cv,cw,cx⟩:=tL N b0;have fj:x<=8*100000000:=by have:=cm.2;omega
   have e2:(2:Int)^N=((2^N:Nat):Int):=by simp
   rw[cv]at μ;show y=_;rw[e2];generalize((2^N:Nat):Int)=fv at μ cw cx;rw[uQ]at μ;omega
  have en:=aW W.drew [y] 3;have G:Below W W (W.drew.alloc (.cells [.int .i64 y].toArray 3)):=(cZ B0).alloc L9 _;have a2:=R.keep G;have eo:(W.drew.alloc (.cells [.int .i64 y].toArray 3)).ownsRow B 3 1 (.slice wg r.cN.length I) r.cN.length (r.cN.map (Value.int .i64)):=by rw[<-T];exact a2.cN
  have ek:=a2.base;have fg:r.cN.length<=100000000:=by rw[E.wl];omega
  have g7:=R.row.lt;have blt:=aj.lt;have fin:Hid (∀(v1:Value) (w1:World),w1.ownsRow B 3 1 v1 (r.cN.length+1) (r.cN.map (Value.int .i64)++[.int .i64 y])->(W.drew.alloc (.cells [.int .i64 y].toArray 3)).grownBy w1 (Value.slice wg r.cN.length I).ownBlock->(∃l,Row w1 rb 37 l/\l[7]?=some (.slice wg r.cN.length I))/\∃cz,E6 w (w1.setCell (rb,7) v1) rb B m r cz):=λv1 w1 bg br=>by
   have ew:(W.drew.alloc (.cells [.int .i64 y].toArray 3)).grownBy w1 (({r with tag:=tg,kv:=kv,aY:=r.aY++J,made:=mk a,behind:=(f:Int),iv:=.slice Y (r.ids.length+1) π,ids:=r.ids++[jC a]}:pQ)).wv.ownBlock:=by rw[show(({r with tag:=tg,kv:=kv,aY:=r.aY++J,made:=mk a,behind:=(f:Int),iv:=.slice Y (r.ids.length+1) π,ids:=r.ids++[jC a]}:pQ)).wv=_ from T];exact br
   obtain⟨ep,e8,fq⟩:=a2.wkp ew bg;refine⟨⟨_,ep,congrArg some T⟩,_,(cr.then G).trans fq (λk _ e=>by obtain e|e:=e;exact .inl e;exact .inr (.inr (.inr e))),e8,(b6.out ⟨#[]⟩).idp (iv:=.slice Y (r.ids.length+1) π) (wv:=v1) (x:=jC a) (y:=y) (md:=mk a) (bh:=(f:Int)) e5 dp fo.out,rfl,rfl,λx g=>Qr _ g,.inr ?_⟩;obtain⟨b,b1,b2,b3⟩:=b7.out;refine⟨a,b,f,x,e0.out,rfl,b1,by rw[b2];exact ae,b8,rfl,g,?_,by rw[b3];exact b0⟩;show r.cN++[y]=_;rw[fp.out,b3];rfl
  obtain⟨i0,M,a7,a8,ba⟩:=info_parts acR;replace T:=aL T;clear R a2 cr G aj eb cm c9 eu ec fi;replace g:=aL g;go_region_law (refine MB aI.underlying30 M a7 a8 ba rfl D9 D9 B rfl _ _ rfl (.slice wg r.cN.length I) r.cN.length (r.cN.map (Value.int .i64)) E9 eo 1 [y] rfl (W:Nat) 1 E9 en (λu ah=>by simp at ah;subst ah;rfl) O9 fg ek ?_;intro v1 w1 bg br l1;obtain⟨fz,gc,fe⟩:=cQ bg r.cN.length rfl;subst fe;obtain⟨⟨fl,ak,de⟩,cy⟩:=fin.out _ _ bg br;have g3:w1.cell? (rb,7)=some (.slice wg r.cN.length I):=(ak.cell 7).trans de;have g4:=ak.frozen 7;have g5:=ak.lt;replace cy:=aL cy;clear ak de);all_goals go_wp2
  all_goals go_ret
  all_goals exact⟨rfl,cy.out⟩
def abn:mD:=⟨⟨#[]⟩,0,0,0⟩
def ML{B g w v l}(h:Row w g 35 [v])(c:pX B w v l)(b:B<=g):lN B w (.slice g 1 1) [(v,l)]:=⟨mX h rfl b D9,λx a=>by(simp at a;subst a;exact c)⟩
def Ck.then{LB a w w1 w2}(h:Ck LB a w w1)(b:Below w1 w1 w2):Ck LB a w w2:=⟨bJ h.size b.size,λk cs t f c d=>(b.block k (bD (h.cells k cs t f c d))).trans (h.cells k cs t f c d)⟩
def gH.ck{LB a w w' rb B r}(h:gH w rb B r)(x:Ck LB a w w')(b:¬a 37)(c:¬a 9)(d:¬a 3)(e:¬a 64):gH w' rb B r:=⟨h.row.ck x b,qV h.ids x c,qV h.cN x d,qV h.aY x e,bJ h.base x.size⟩
def qT{t}(a:t≠107)(b:t≠161)(c:t≠195)(d:t≠247)(f:t≠117)(g:t≠114):¬Y2 t:=by
 rintro(e|e);.exact oV a b c d f e
 .exact g e
def abo{K id}(h:H2 (λt=>t≠id) K):anyM K id=false:=by unfold anyM;rw[VE];intro i _ hi;have⟨c,a⟩:=VF.1 hi;exact h _ c a rfl
def T8(a su h x o mem K)(e:x.outs=[o])(f:o.val<=su)(d:H2 (λt=>t≠x.id) K):(cB a su h [x] mem K []).1=0/\(cB a su h [x] mem K []).2.1.K=K.put ⟨x.id,0,o.val,o.lock,h⟩/\(cB a su h [x] mem K []).2.2=mem:=by
 have c:kC x h su ⟨K,[],0,[]⟩=(0,⟨K.put ⟨x.id,0,o.val,o.lock,h⟩,[⟨⟨x.id,0,o.val,o.lock,h⟩,true⟩],0,[]⟩):=by unfold kC fD;rw[e,aU (by show¬o.val+0>su+0;omega),abo d];rfl
 have b:cB a su h [x] mem K []=(if q7 (fT mem [])then 0 else 17,⟨K.put ⟨x.id,0,o.val,o.lock,h⟩,[⟨⟨x.id,0,o.val,o.lock,h⟩,true⟩],0,[]⟩,iA a (fT mem []) mem):=by unfold cB;simp[iN];rw[c];simp
 rw[b];refine⟨?_,rfl,?_⟩;.trivial
 .trivial
def abp{a cb p bits n b}(g:mG (wB p bits b n)=true)(f:(bits:Int)=cb)(d:Shown p bits b n)(hi:jC (wS p bits b n)∉a.ids)(c:a.ids.length≠49):MM a cb (wS p bits b n) (wB p bits b n)=0:=by unfold MM;rw[aU (λe=>hi (xp.1 e)),aU (by show¬(bits:Int)<cb;omega),aU (by show¬(iM (wS p bits b n)).toNat%2^((bits:Int).toNat)≠0;rw[vF];exactλe=>e d),aU c]
def adW{c a p bits n b}(d:mG (wB p bits b n)=true)(e:(bits:Int)=c.bi)(g:Shown p bits b n)(hi:jC (wS p bits b n)∉a.ids)(f:a.ids.length≠49):Gk c a (wS p bits b n)=if(lO c a (wB p bits b n)).1=0 then(1,0,⟨a.ids++[jC (wS p bits b n)],jC (wS p bits b n),a.aX+1,a.wo+2^bits,(lO c a (wB p bits b n)).2.1.K,(lO c a (wB p bits b n)).2.2,a.lo⟩)else(0,(lO c a (wB p bits b n)).1,{a with ids:=a.ids++[jC (wS p bits b n)],mem:=(lO c a (wB p bits b n)).2.2}):=by
 unfold Gk;rw[yN d];simp only;rw[abp d e g hi f,aU S8];rfl
def yZ:List yb:=[⟨65535,[],[⟨50,mk [byteOf 1]⟩]⟩]
def sh0:Shown (be 0 8) 0 yZ 0:=by unfold Shown;decide+kernel
def sh1:Shown (be 0 8) 1 yZ 0:=by unfold Shown;decide+kernel
def sh2:Shown (be 0 8) 2 yZ 1:=by unfold Shown;decide+kernel
def no2:¬Shown (be 0 8) 2 yZ 0:=by unfold Shown;decide+kernel
def id0:jC (wS (be 0 8) 0 yZ 0)≠jS:=by decide+kernel
def id1:jC (wS (be 0 8) 1 yZ 0)≠jS:=by decide+kernel
def id2:jC (wS (be 0 8) 2 yZ 1)≠jS:=by decide+kernel
def YE{bits n}(f:bits<=2)(h:Shown (be 0 8) bits yZ n)(g:∀j,j<n->¬Shown (be 0 8) bits yZ j):jC (wS (be 0 8) bits yZ n)≠jS:=by
 have key:∀k,Shown (be 0 8) bits yZ k->(∀j,j<k->¬Shown (be 0 8) bits yZ j)->n=k:=λk c d=>by grind
 have b:bits=0\/bits=1\/bits=2:=O9;obtain rfl|rfl|rfl:=b;.have e:=key 0 sh0 (λj a=>absurd a (oI j));subst e;exact id0
 .have e:=key 0 sh1 (λj a=>absurd a (oI j));subst e;exact id1
 .have e:=key 1 sh2 (λj a=>by have h0:j=0:=O9;subst h0;exact no2)
  subst e;exact id2
def T9{c N n D}(f:mG (wB (be 0 8) N yZ n)=true)(e:(N:Int)=c.bi)(i:Shown (be 0 8) N yZ n)(hi:jC (wS (be 0 8) N yZ n)≠jS)(j:50<=c.su):Gk c (an0 D) (wS (be 0 8) N yZ n)=(1,0,⟨[jS,jC (wS (be 0 8) N yZ n)],jC (wS (be 0 8) N yZ n),1,0+2^N,jW.put (λ_=>none) ⟨wM 65535 [] [⟨50,mk [byteOf 1]⟩],0,50,mk [byteOf 1],1⟩,[],D⟩):=by
 rw[adW f e i (by show _∉[jS];simpa using hi) (by show 1≠49;decide)];have g:lO c (an0 D) (wB (be 0 8) N yZ n)=cB c.me.toNat c.su 1 [⟨wM 65535 [] [⟨50,mk [byteOf 1]⟩],[],[⟨50,mk [byteOf 1]⟩]⟩] [] (λ_=>none) []:=by rfl
 have⟨a,b,d⟩:=T8 c.me.toNat c.su 1 ⟨wM 65535 [] [⟨50,mk [byteOf 1]⟩],[],[⟨50,mk [byteOf 1]⟩]⟩ ⟨50,mk [byteOf 1]⟩ [] (λ_=>none) rfl j (λp c h=>by cases h);rw[g,a,b,d,bE rfl];rfl
def adX:iX (pH yZ) [[(⟨⟨#[]⟩,0,0,0⟩:mD)]]=[⟨wM 65535 [] [⟨50,mk [byteOf 1]⟩],0,0,0⟩]:=by rfl
def Mr(a b w):(Op.equalIn 10000 44 (.agg #[.int .i64 a,.int .i64 b]) (.agg #[a,b])).run Vp w=.ok true w:=by simp[go_sem]
def Mq(s a b w):(Op.equalIn 10000 39 (.agg #[.string s,.int .i64 a,.int .i64 b]) (.agg #[s,a,b])).run Vp w=.ok true w:=by simp[go_sem]
def HB(s l a b c d w):(Op.equalIn 10000 60 (.agg #[.string s,.int .i64 a,.int .i64 b,.string l,.int .i64 c,.bool d]) (.agg #[s,a,b,l,c,.bool d])).run Vp w=.ok true w:=by simp[go_sem]
end Go.Proofs.aH
