import Derived.Deep.QuietTactic
import Derived.LaidEql
import Derived.Lib.AppendZeros
import Derived.LaidEqlPtr
import Derived.Laws.OwnMore
import Derived.Test.YtpjcmpfncpnmeaaGreatM10
set_option linter.all false
set_option maxHeartbeats 16000000
set_option maxRecDepth 100000
namespace Go.Proofs.aH
open Go.RowKit Tryz
attribute [local go_sem↓] Go.wp_at_zero Go.wp_at_succ
def adt[kA]{B G t T n r cq aq j V i K ax v a9 S Q U m id h wo s a1}(wk:Nat)(w)(g:Row w G 135 [.string id,a9,.int .i64 h,.int .i64 wo,.slice (some ⟨r,0,none⟩) Q.length cq,.bool a1])(d:nX w r Q)(hq:∀q∈Q,q.Ok)(cw:1<=Q.length)(di:Q.length<=8)(dj:Q<=cq)
 (br:aR w T n V i K)(ae:bW w t T n ax S)(b:iR w B aq U j v m)(c6:U[6]?=some (.int .i64 wk))(c9:U[9]?=some (.int .i64 s))(dd:0<wk/\wk<=8)(da:0<=s/\s<=1000000)(cz:m<=j)(c7:j<=64)
 (cv:Eh K)(c8:S.length<=40000)(hh:h<9223372036854775808)(b4:tE kA.w0 kA.v0 w ax/\Eg t w)(b9:∀k,v.ownBlock=some k->∃U bn,kA.w0.heap[k]?=some (.cells U 298 bn)):
 Cv 127 #[ptr B,ptr G,ptr t] w λe W=>e=.returned ((bQ j s h (Q.map rH.t) m K S).1)/\aR W T n V i (bQ j s h (Q.map rH.t) m K S).2.1.K/\(∃cj,bW W t T n cj (bQ j s h (Q.map rH.t) m K S).2.1.steps/\tE kA.w0 kA.v0 W cj)/\(∃ap,iR W B aq (U.set 15 ap) j ap (bQ j s h (Q.map rH.t) m K S).2.2)/\Xo (JoF n i t B v) (t+1) JT w W:=by
 have az:Hid (∀X,Below w w X->Row X ↑w 266 [ptr t,h,aA,()]->cG X ↑w t T n V i h ⟨K,S,0,[]⟩):=λX ac bs=>⟨⟨_,bs,mV _ _ _ _⟩,⟨ax,⟨ae.row.keep ac ae.row.lt,aP ae.own ac⟩,b4.1.trans<|adk _ ac,b4.2.keep ac⟩,br.keep ac⟩;have b0:Hid (IA ⟨K,S,0,[]⟩ 40000 0 0):=⟨cv,c8,L9,lC _,lC _,λb1 db=>by cases db⟩;have b2:=g.r 2;have bi:=g.lt;have H:=Ba w<|.cells #[.pointer t,h,aA,()] 266;have ak:=aX w [.pointer t,h,aA,()] 266;have ab:(w.alloc<|.cells #[.pointer t,h,aA,()] 266).cell? (G,4)=some (.slice r Q cq):=(g.alloc _).cell 4;have cu:=g.r 4;have dv:(1:Int)<=Q:=O9;unfold ptr at az|-;go_enter fA func127,ntmps127;have⟨cc,ad⟩:∃bl,bl=cq:=⟨_,rfl⟩;have ad:=aK ad;by_cases cx:cq=1;case' pos=>subst cx
 all_goals
  go_wp2;have d:=d.keep H;have b:=b.keep H;have g:=g.keep H g.lt;have x:=az.out _ H ak;generalize w.alloc _=X at ak H d b g x ab|-;clear az ak b2 ab cu br ae bi;generalize A:Q.map rH.t=z;have af:z.length=Q.length:=by rw[<-A,dS]
  go_loopw [24] (λaw wr=>∃(k:Nat)(a:JS),k+1<=Q.length/\aw=↑k/\fS h (z.drop 1) ⟨K,S,0,[]⟩=fS h (z.drop<|k+1) a/\IA a (40000+16*k) (8*k) (34359738360*k)/\cG wr ↑w t T n V i h a/\nX wr r Q/\iR wr B aq U j v m/\Row wr G 135 [id,a9,h,wo,.slice r Q.length cc,.bool a1]/\XJ n i t ↑w X wr) (λaw _=>Q.length -(intOf aw).toNat);exact⟨0,_,O9,rfl,rfl,b0.out,x,d,b,by rw[ad.out];exact g,lY _ X⟩;case round=>
   clear x d b g b0;obtain⟨k,a,cy,rfl,am,y,x,d,b,g,xj⟩:=hrel;rw[ad.out]at g;by_cases a8:k+1<Q.length;rotate_left
   .have a7:k+1=Q.length:=O9;obtain⟨q,c,rfl⟩:∃q c,Q=q::c:=by obtain _|⟨q,c⟩:=Q;simp at cw;exact⟨q,c,rfl⟩
    have b7:fS h (z.drop 1) ⟨K,S,0,[]⟩=(0,a):=by rw[am,Dx O9];rfl
    have l:=hq q S8;have⟨N,O,P⟩:=Hz (q::c) 0 q rfl;have bk:wr.cell? (r,0)=some ↑q.t.id:=by rw[d.row.cell];exact N
    have bm:wr.cell? (r,1)=some (.slice q.gi q.t.ins.length q.ci):=by rw[d.row.cell];exact O
    have bo:wr.cell? (r,2)=some (.slice q.go q.t.outs.length q.co):=by rw[d.row.cell];exact P
    have ab:wr.cell? (G,4)=some (.slice r (q::c).length _):=g.cell 4;have de:wr.cell? (B,9)=some ↑s:=by rw[b.row.cell];exact c9
    have M:=d.outs q S8;have bx:=x.keep<|cN B0;have ah:Cv 166 #[.pointer w.heap.size,.agg #[↑q.t.id,.slice q.gi q.t.ins.length q.ci,.slice q.go q.t.outs.length q.co],s] wr.drew λe W=>∃bj,e=.returned bj/\(bj=↑(kM q.t h s a).1/\cG W ↑w t T n V i h (kM q.t h s a).2/\XJ n i t ↑w wr W):=(ado q.t q.gi _ q.ci _ s wr.drew bx ⟨q.go,q.co,rfl,M⟩ l.lo l.so l.id (by have:=y.steps;omega) ⟨y.f0,by have:=y.f1;omega⟩ da).mono λe W⟨ay,e2,e3⟩=>⟨_,ay,rfl,e2,rz (xz<|lY _ wr) e3⟩;have b8:Hid (∀(cm:Array Value)(w:World),(callFunc 166 cm).run Vp w=.ok (.enter 166 cm) w):=λ_ _=>by kernel_rfl
    have L:=P6 q.t h s a l.so y;have p:Hid (bQ j s h ((q::c).map rH.t) m K S=if(kM q.t h s a).1≠0 then((kM q.t h s a).1,(kM q.t h s a).2,m)else(if jG (gI m (kM q.t h s a).2.bX)then 0 else 17,(kM q.t h s a).2,iB j (gI m (kM q.t h s a).2.bX) m)):=by show bQ j s h ((q::c).map rH.t) m K S=_;have dh:(q::c).map rH.t=q.t::c.map rH.t:=rfl;unfold bQ;simp only;rw[A,b7];subst A;rfl
    clear am b7 N O P M bx;have dq:=l.lo;generalize(kM q.t h s a).2=f at L ah p;generalize(kM q.t h s a).1=E at ah p;generalize q.t.id=ao,q.t.ins.length=ar,q.t.outs.length=a3,q.gi=a4,q.ci=a5,q.go=au,q.co=av at*;change Hid _ at A af;have dt:¬k<c.length:=by simp[cQ]at a7;omega
    have a7:=aK a7;have du:(0:Int)<(((q::c).length:Nat):Int):=O9;go_wp2;go_cut [11] (λbt wx=>bt=↑E/\cG wx ↑w t T n V i h f/\XJ n i t ↑w wr wx);case first=>
     go_region_law (refine jA 166 rfl _ _ rfl #[.pointer w.heap.size,.agg #[ao,.slice a4 ar a5,.slice au a3 av],s] E9 _ ah (b8.out _ _) ?_;rintro bj w3⟨rfl,o,u⟩);all_goals go_wp2
     all_goals go_meet
     all_goals exact⟨rfl,o,u⟩
    case rest=>
     obtain⟨rfl,o,u⟩:=hcut;have b:=b.xj x o u b9;have aa:XJ n i t ↑w X wc:=rz xj u;have bq:=KN (nb:=B) (mv:=v) H aa;have dp:k<=8:=O9;clear xj u aa x ah b8 bk bm bo ab de g d hq l;by_cases F:E=0
     .subst F;have C:Hid (bQ j s h ((q::c).map rH.t) m K S=(if jG (gI m f.bX)then 0 else 17,f,iB j (gI m f.bX) m)):=by have:=p.out;rw[aJ S8]at this;exact this
      have⟨tv,cd,bg⟩:=o.row;obtain⟨ta,dg,rfl⟩:=aS bg;have cb:=cd.r 3;have J:=P4 wk wc b c6 dd bg cz c7 (by have:=L.bX;omega) L.aT;unfold ptr at J;have J:=aK J;clear p cd bg;generalize dc:f.bX.length=tl at cb J;clear dc;go_wp2;refine J.out.mono ?_;rintro e w4⟨rfl,ap,bz,an,_⟩;have⟨π,Y,s3,_⟩:=o.jy;have bu:=o.dL.xm b an;have b6:=Y.xm b an;have cf:=s3.trans<|afS _ b an;have cr:Xo (JoF n i t B v) (t+1) JT w w4:=Wk bq an λk cy e=>.inl<|.inr e;clear J cb o Y bq an;cases aj:jG (gI m f.bX)with
      |true=>
        have D:Hid (bQ j s h ((q::c).map rH.t) m K S=(0,f,iB j (gI m f.bX) m)):=by have:=C.out;rw[aj]at this;exact this
        clear aj C;go_wp2;go_ret;exact⟨by rw[D.out];rfl,by rw[D.out];exact bu,⟨π,by rw[D.out];exact b6,cf⟩,⟨ap,by rw[D.out];exact bz⟩,cr⟩
      |false=>
        have D:Hid (bQ j s h ((q::c).map rH.t) m K S=(17,f,iB j (gI m f.bX) m)):=by have:=C.out;rw[aj]at this;exact this
        clear aj C;go_wp2;go_ret;exact⟨by rw[D.out];rfl,by rw[D.out];exact bu,⟨π,by rw[D.out];exact b6,cf⟩,⟨ap,by rw[D.out];exact bz⟩,cr⟩
     have C:Hid (bQ j s h ((q::c).map rH.t) m K S=(E,f,m)):=by have:=p.out;rw[aN F]at this;exact this
     clear p;go_wp2;go_ret;have⟨π,Y,s3,_⟩:=o.jy;exact⟨by rw[C.out];rfl,by rw[C.out];exact o.dL,⟨π,by rw[C.out];exact Y,s3⟩,⟨v,by rw[C.out,rA b.KJ];exact b⟩,bq⟩
   try exact absurd a8 O9
   all_goals
    have bf:=aY a8;have al:=oD a8;have ag:z.drop (k+1)=(Q[k+1]).t::z.drop (k+1+1):=by rw[wH O9];congr 1;subst A;simp
    generalize Q[k+1]=q at bf al ag;have⟨N,O,P⟩:=Hz Q (k+1) q bf;have bk:wr.cell? (r,3+k*3)=some ↑q.t.id:=by rw[d.row.cell,show 3+k*3=(k+1)*3 from by omega];exact N
    have bm:wr.cell? (r,3+k*3+1)=some (.slice q.gi q.t.ins.length q.ci):=by rw[d.row.cell,show 3+k*3+1=(k+1)*3+1 from by omega];exact O
    have bo:wr.cell? (r,3+k*3+2)=some (.slice q.go q.t.outs.length q.co):=by rw[d.row.cell,show 3+k*3+2=(k+1)*3+2 from by omega];exact P
    have l:=hq q al;have dm:(0:Int)<=k:=O9;have dn:(k:Int)<((Q.length -1:Nat):Int):=O9;have bh:=d.ins q al;have M:=d.outs q al;have ai:=aK λa0(a2:Below wr wr a0)=>adp q.t _ _ a0 (x.keep a2) ⟨q.gi,q.ci,rfl,bh.keep a2 bh.lt⟩ ⟨q.go,q.co,rfl,M.keep a2 M.lt⟩ l.li l.si l.lo l.so l.id (by have:=y.steps;omega) (by have:=y.bX;omega) ⟨y.f0,by have:=y.f1;omega⟩ y.ok;have L:=P7 q.t h a hh l.li l.lo l.so y;have bd:Hid ((fK q.t h a).1=0->fS h (z.drop 1) ⟨K,S,0,[]⟩=fS h (z.drop<|k+1+1) (fK q.t h a).2):=λe=>by rw[am,ag,qa e]
    have ca:Hid ((fK q.t h a).1≠0->fS h (z.drop 1) ⟨K,S,0,[]⟩=fK q.t h a):=λe=>by rw[am,ag,qb e]
    have I:=Ba wr<|.cells #[↑q.t.id,.slice q.gi q.t.ins.length q.ci,.slice q.go q.t.outs.length q.co] 169;clear am ag bf N O P bh M l al;generalize bc:(fK q.t h a).2=f at L ai bd;generalize a6:(fK q.t h a).1=E at ai bd ca;change Hid _ at bc a6;generalize q.t.id=ao,q.t.ins.length=ar,q.t.outs.length=a3,q.gi=a4,q.ci=a5,q.go=au,q.co=av at*;change Hid _ at A af;go_wp2;have R:=x.keep I;have d:=d.keep I;have b:=b.keep I;have g:=g.keep I g.lt;have bp:XJ n i t ↑w X _:=Wl xj I;have ba:=ai.out _ I;generalize wr.alloc _=bw at R d b g bp ba|-;clear ai I xj x bk bm bo;refine ba.mono ?_;rintro e w3⟨rfl,o,u⟩;have d:=d.xj R u;have b:=b.xj R o u b9;have g:=g.xj R u D9 D9 D9 D9;have aa:XJ n i t ↑w X w3:=rz bp u;clear ba bp u R;by_cases F:E=0;.have bb:=bd.out F;subst F;have bb:=aK bb;go_wp2;go_roundw;exact⟨k+1,f,O9,by go_num,bb.out,L.mono O9 O9 O9,o,d,b,by rw[ad.out];exact g,aa⟩;simp[intOf];omega
    have p:Hid (bQ j s h (Q.map rH.t) m K S=(E,f,m)):=by
     have h2:=ca.out F;have ay:fK q.t h a=(E,f):=by rw[<-a6.out,<-bc.out]
     rw[ay]at h2;show bQ j s h (Q.map rH.t) m K S=_;unfold bQ;simp only;rw[A.out,h2];simp[ne_eq,F,not_false_eq_true,yB]
    have dk:(E==0)=false:=by simpa using F
    go_wp2;go_ret;have⟨π,Y,s3,_⟩:=o.jy;exact⟨by rw[p.out];rfl,by rw[p.out];exact o.dL,⟨π,by rw[p.out];exact Y,s3⟩,⟨v,by rw[p.out,rA b.KJ];exact b⟩,KN H aa⟩
def adu{N b T G n F E B a I D K v H U t Q C M id h V S J}(A:Nat)(w)(g:Row w b 135 [.string id,U,.int .i64 h,.int .i64 V,.slice (some ⟨F,0,none⟩) Q.length E,.bool J])(p:nX w F Q)(R:∀q∈Q,q.Ok)(l:1<=Q.length)(o:Q.length<=8)(r:Q<=E)
 (i:aR w G n I D K)(d:bW w T G n v t)(c:iR w N B C a H M)(L:C[6]?=some (.int .i64 A))(O:C[9]?=some (.int .i64 S))(z:0<A/\A<=8)(y:0<=S/\S<=1000000)(s:M<=a)(u:a<=64)
 (j:Eh K)(x:t.length<=40000)(P:h<9223372036854775808):
 Cv 127 #[ptr N,ptr b,ptr T] w λe W=>e=.returned ((bQ a S h (Q.map rH.t) M K t).1)/\aR W G n I D (bQ a S h (Q.map rH.t) M K t).2.1.K/\(∃f,bW W T G n f (bQ a S h (Q.map rH.t) M K t).2.1.steps/\tE w v W f)/\(∃m,iR W N B (C.set 15 m) a m (bQ a S h (Q.map rH.t) M K t).2.2)/\Xo (JoF n D T N H) (T+1) JT w W:=
 let _:kA:=⟨w,v⟩;adt A w g p R l o r i d c L O z y s u j x P ⟨tE.refl _ _,d.row.lt,λ_ _ _ h=>h⟩ (λk e=>(bS c.own e).2.imp λ_ h=>⟨_,h⟩)
structure kT where
 a:Nat
 id:ByteArray
 par:Option Nat
 aT:Int
 wo:Int
 tv:Value
 bad:Bool
def kT.cells(b:kT):List Value:=[.string b.id,.pointer<|b.par.map λp=>⟨p,0,none⟩,.int .i64 b.aT,.int .i64 b.wo,b.tv,b.bad]
structure jM(w:World)(B:Nat)(bv:Value)(l:List kT):Prop where
 own:w.ownsRow B 132 1 bv l.length (l.map λb=>ptr b.a)
 row:∀b∈l,Row w b.a 135 b.cells
def jT(l:List kT)(id:ByteArray):Option kT:=l.find? λb=>decide (b.id=id)
def adv:Option kT->Value
 |none=>.pointer none
 |some b=>ptr b.a
theorem jM.at_{w B bv l k b}(h:jM w B bv l)(e:l[k]?=some b):∃g c,bv=.slice (some ⟨g,0,none⟩) l c/\w.cell? ⟨g,k,none⟩=some (ptr b.a):=by have m:=(bK.1 e).1;have f:=λg(d:bv.ownBlock=some g)=>h.own.cells (g:=g) d;obtain⟨_,H⟩|⟨g,C,a,i,j,d,_⟩:=h.own.2;omega;subst i;refine⟨g,C,rfl,?_⟩;have:=f g rfl k (ptr b.a) (by rw[eG,e];rfl);rwa [add0]at this
def P8{N B bv l}(id w)(h:jM w B bv l)(t:w.cell? (N,11)=some bv)(y:l.length<=1000):Cv 79 #[ptr N,.string id] w λe W=>e=.returned (adv<|jT l id)/\W=w:=by
 obtain⟨A,C,rfl⟩:=aS h.own;unfold ptr;go_enter fA func79,ntmps79;go_wp2;go_loopw [12] (λi wr=>∃k,k<=l.length/\i=k/\jT l id=jT (l.drop k) id/\wr=w) (λi _=>l -(intOf i).toNat);exact⟨0,O9,rfl,rfl,rfl⟩;case round=>
  obtain⟨k,u,rfl,m,rfl⟩:=hrel;by_cases n:k<l
  .have p:=aY n;have j:=wH n;have o:=oD n;generalize l[k]=b at p j o;have⟨g,c,r,s⟩:=h.at_ p;cases r;have R:wr.cell? (b.a,0)=some b.id:=(h.row b o).cell 0;unfold ptr at s;by_cases f:b.id=id
   .have d:Hid (jT l id=some b):=by unfold Hid;rw[m,j];unfold jT;rw[List.find?_cons_of_pos<|by simpa using f]
    rw[f]at R;go_wp2;go_ret;exact⟨by rw[d.out];rfl,rfl⟩
   have d:Hid (jT l id=jT (l.drop<|k+1) id):=by unfold Hid;rw[m,j];unfold jT;rw[List.find?_cons_of_neg<|by simpa using f]
   have z:(b.id.toList==id.toList)=false:=by simpa using yh f
   go_wp2;go_roundw;exact⟨k+1,O9,by go_num,d.out,by trivial⟩;simp[intOf];omega
  have q:k=l:=O9;have d:Hid (jT l id=none):=by unfold Hid;rw[m,List.drop_eq_nil_of_le O9];rfl
  subst q;go_wp2;go_ret;exact⟨by rw[d.out];rfl,rfl⟩
def afT(a b:Nat)(c:a<9223372036854775808)(d:b<9223372036854775808):bits .and .i64 (a:Int) (b:Int)=((a&&&b:Nat):Int):=by have e:a&&&b<9223372036854775808:=aab Nat.and_le_left c;show IntKind.i64.wrap ((BitVec.ofInt 64 (a:Int)&&&BitVec.ofInt 64 (b:Int)).toNat:Int)=_;rw[BitVec.toNat_and,ofInt_u64 a O9,ofInt_u64 b O9,jP];omega
def adw(a b:Nat)(e:a<256)(c:b<=8):bits .and .i64 (a:Int) ((2^b -1:Nat):Int)=((a%2^b:Nat):Int):=by have d:2^b<=2^8:=Ny D9 c;rw[afT a _ O9 O9,Nat.and_two_pow_sub_one_eq_mod]
def shown{X m z}(h:z=((X%m:Nat):Int)):(z==0)=decide (X%m=0):=by grind
def Zf(l x)(b:Nat)(c:b<=8)(g:l.length<=1000)(w):Cv 80 #[(mk<|l++[x]),b] w λe W=>e=.returned (decide (x.toNat%2^b=0))/\W=w:=by
 have h:=cD<|l++[x];have f:=dH (l++[x]) l (l:Int) rfl S8;have d:=x.toNat_lt;have a:=adw x.toNat b d c;obtain rfl|rfl|rfl|rfl|rfl|rfl|rfl|rfl|rfl:=(by omega:b=0\/b=1\/b=2\/b=3\/b=4\/b=5\/b=6\/b=7\/b=8);all_goals have a:=aK a
 all_goals go_enter fA func80,ntmps80
 all_goals go_wp2
 all_goals go_ret
 all_goals exact⟨congrArg (λt=>Ending.returned<|Value.bool t)<|shown a.out,rfl⟩
def KO(n g k c a w)(b:w.cell? (n,12)=some (.slice (some ⟨g,0,none⟩) (k+1) c))(d:w.cell? (g,k*2)=some (.pointer a))(f:k<=1000):Cv 39 #[.pointer<|some ⟨n,0,none⟩] w λe W=>e=.returned (.pointer<|some ⟨a,0,none⟩)/\Below w w W:=by
 go_enter fA func39,ntmps39;go_wp2;go_region;all_goals go_wp2
 all_goals go_ret
 all_goals exact⟨rfl,cN B0⟩
def adx(N G k c)(b:kT)(w)(j:w.cell? (N,12)=some (.slice (some ⟨G,0,none⟩) (k+1) c))(h:w.cell? (G,k*2)=some (.pointer b.a))(l:k<=1000)(R:Row w b.a 135 b.cells):Cv 46 #[.pointer<|some ⟨N,0,none⟩] w λe W=>e=.returned (.agg #[b.id,b.aT,b.wo])/\Below w w W:=by
 have d:=aX w [aB,aA,aA] 55;have f:Below w.heap.size w (w.alloc<|.cells [.string ⟨#[]⟩,.int .i64 0,.int .i64 0].toArray 55):=B0.alloc L9 _;have⟨a,id,P,i,s,T,B⟩:=b;simp[kT.cells]at R h|-;go_enter fA func46,ntmps46;go_wp2;refine(KO N G k c a _ (aM f j) (aM f h) l).m1 λu g=>?_;have R:=(R.keep f R.lt).keep g<|fI R.lt f.size;have d:=d.keep g d.lt;have K:=R.cell 0;have t:=R.cell 2;have o:=R.cell 3;have⟨C,q,r⟩:=d.p3;have F:=d.frozen;go_wp2;go_region;all_goals go_wp2
 all_goals exact cY (v:=.agg #[id,i,s]) (by simp[results,results46,go_sem,C,q,r]) rfl ⟨rfl,((cN (f.trans<|g.mono f.size)).setCell (p:=⟨w.heap.size,0,none⟩) L9 _).setCell (p:=⟨w.heap.size,1,none⟩) L9 _|>.setCell (p:=⟨w.heap.size,2,none⟩) L9 _⟩
def yx(l:List kT)(c:Int)(id P:ByteArray)(b:Nat)(x:UInt8):Int:=if(jT l id).isSome then 10 else
 if(b:Int)<c then 11 else
 if x.toNat%2^b≠0 then 11 else
 match jT l P with
 |none=>12
 |some p=>if p.bad then 13 else if l.length=49 then 9 else 0
def KP{l id b}(h:jT l id=some b):b∈l/\b.id=id:=⟨List.mem_of_find?_eq_some h,by simpa using List.find?_some h⟩
def jM.keep{w W B bv l}(h:jM w B bv l)(a:Below w w W):jM W B bv l:=⟨aP h.own a,λb c=>(h.row b c).keep a (h.row b c).lt⟩
def aiL:Option kT->Option Addr
 |none=>none
 |some b=>some ⟨b.a,0,none⟩
def afU(o):adv o=.pointer (aiL o):=by cases o<;>rfl
def eQ{B k w W}(h:Below B w W):Below B w (W.drewN k):=⟨h.os,h.tape,h.output,h.size,h.block⟩
def Zg{l cb id par bits x b}(h:jT l id=some b):yx l cb id par bits x=10:=by unfold yx;rw[if_pos<|by rw[h];rfl]
def afV{l c id par}{b:Nat}{x}(h:jT l id=none)(a:(b:Int)<c):yx l c id par b x=11:=by unfold yx;rw[if_neg (by rw[h];simp),if_pos a]
def ady{l c id par}{B:Nat}{x}(h:jT l id=none)(a:¬(B:Int)<c)(b:x.toNat%2^B≠0):yx l c id par B x=11:=by unfold yx;rw[if_neg (by rw[h];simp),if_neg a,if_pos b]
def adz{l:List kT}{cb:Int}{id par:ByteArray}{bits:Nat}{x:UInt8}(h:jT l id=none)(h1:¬(bits:Int)<cb)(h2:x.toNat%2^bits=0):yx l cb id par bits x=match jT l par with
 |none=>12
 |some p=>if p.bad then 13 else if l.length=49 then 9 else 0:=by unfold yx;rw[if_neg (by rw[h];simp),if_neg h1,if_neg<|by simpa using h2]
def P9{nb B gt q c bv l}(V x T)(a:Nat)(U w)(h:jM w B bv l)(k:w.cell? (nb,11)=some bv)(y:w.cell? (nb,10)=some (.int .i64 U))(K:l.length<=1000)(ac:1<=l.length)(H:a<=8)(J:V.length<=1000):Cv 37 #[ptr nb,.agg #[(mk<|V++[x]),.string T,a,.slice (some ⟨gt,0,none⟩) q c]] w λe π=>e=.returned (.int .i64<|yx l U (mk<|V++[x]) T a x)/\Below w w π:=by
 have N:=λW=>Zf V x a H J W;have R:=aX w [↑(mk<|V++[x]),T,a,.slice gt q c] 106;have d:=Ba w<|.cells #[↑(mk<|V++[x]),T,a,.slice gt q c] 106;generalize mk (V++[x])=I at*;unfold ptr;go_enter fA func37,ntmps37;go_wp2;have h:=h.keep d;have k:=aM d k;have y:=aM d y;generalize w.alloc _=X at R d h k y|-;have A:=λi=>P8 i X h k K;unfold ptr at A;refine(A T).mono ?_;rintro e w1⟨rfl,O⟩;subst O;have⟨r0,_,r2⟩:=R.p3;obtain⟨Q,S,rfl⟩:=aS h.own;have M:=h.row;have L:∃o E,jT l T=o/\E=aiL o:=⟨_,_,rfl,rfl⟩;have⟨P,E,g,m⟩:=L;rw[g,afU,<-m];change Hid _ at g m;go_wp2;refine(A I).mono ?_;rintro e Y⟨rfl,rfl⟩;cases u:jT l I with
 |some b=>have f:=aK<|Zg (cb:=U) (par:=T) (bits:=a) (x:=x) u;unfold adv ptr;go_wp2;go_ret;exact⟨by rw[f.out];rfl,d⟩
 |none=>
   unfold adv;by_cases r:(a:Int)<U;.have f:=aK (afV (par:=T) (x:=x) u r);go_wp2;go_quiet (fail);go_wp2;go_ret;exact⟨by rw[f.out];rfl,eQ d⟩
   have ab:decide ((a:Int)<U)=false:=by simpa using r
   have F:Hid (x.toNat%2^a=0->_):=adz (par:=T) u r;have G:Hid (x.toNat%2^a≠0->_):=ady (par:=T) u r;go_wp2;go_quiet ((go_at_call 80;exact Calls.quiet_of_same<|N _));by_cases s:x.toNat%2^a=0
   .have f:=aK (F.out s);have z:decide (x.toNat%2^a=0)=true:=by simpa using s
    rw[z];cases P with
    |none=>
      have n:Hid (yx l U I T a x=12):=by have:=f.out;rw[g.out]at this;exact this
      cases m.out;go_wp2;go_ret;exact⟨by rw[n.out];rfl,eQ d⟩
    |some b=>
      have t:Below w w (Y.drewN nq):=eQ d;have C:(Y.drewN nq).cell? (b.a,5)=some (.bool b.bad):=(M b (KP g.out).1).cell 5;have D:(Y.drewN nq).cell? (nb,11)=some (.slice Q l S):=k;have n:Hid (yx l U I T a x=if b.bad then 13 else if l.length=49 then 9 else 0):=by have:=f.out;rw[g.out]at this;exact this
      cases m.out;unfold aiL;generalize Y.drewN nq=aa at t C D|-;cases j:b.bad with
      |true=>
        have p:Hid (yx l U I T a x=13):=by have:=n.out;rw[j]at this;exact this
        rw[j]at C;go_wp2;go_ret;exact⟨by rw[p.out];rfl,t⟩
      |false=>
        rw[j]at C;by_cases v:l.length=49
        .have p:Hid (yx l U I T a x=9):=by have:=n.out;rw[j,aJ S8,aN v]at this;exact this
         rw[v]at D;go_wp2;go_ret;exact⟨by rw[p.out];rfl,t⟩
        have p:Hid (yx l U I T a x=0):=by have:=n.out;rw[j,aJ S8,aJ v]at this;exact this
        go_wp2;go_ret;exact⟨by rw[p.out];rfl,t⟩
   have f:=aK<|G.out s;have z:decide (x.toNat%2^a=0)=false:=by simpa using s
   rw[z];go_wp2;go_ret;exact⟨by rw[f.out];rfl,eQ d⟩
def aI.aiM:(Vp.info? 132).map (λi=>(i.zero,i.size,i.bytes))=some (some<|.pointer none,1,8):=K8
def BL{B w O R o a Q}(i:o.guard=none)(s x)(m:o.op=.call {callee:=.builtin .append,args:=#[s,x],argTypes:=#[121,121]})(v)(n)(l)(q:a.eval s=v)(p:w.ownsRow B 132 1 v n l)
 (b)(g)(r:a.eval x=.slice g 1 1)(f:Row w g 132 [.pointer b])(C:n<=100000)(e:B<=↑w)
 (h:∀c W,W.ownsRow B 132 1 c (n+1) (l++[.pointer b])->w.grownBy W v.ownBlock->(c.ownBlock=v.ownBlock\/c.ownBlock=some ↑w)->wpList Vp O Q R (a.put o.dst c) W):wpList Vp O Q (o::R) a w:=by
 have⟨A,H,t,y,z⟩:=info_parts aI.aiM;refine wpList_append_own_at _ i s x 121 m B 132 A _ 1 8 aI.underlying121 H t y z rfl D9 v n l q p (g,0) 1 1 [.pointer b] r rfl (λj u k=>by rw[add0,f.cell];exact k) ?_ (by unfold maxLen;omega) O9 e ?_;intro u d;simp at d;subst d;rfl;simp_all
def I2(a:Nat)(id:ByteArray)(p:kT)(b:Nat)(t:Value):kT:=⟨a,id,some p.a,p.aT+1,p.wo+2^b,t,false⟩
def adE{n B gt q c bv l C}(id P)(d:Nat)(p w)(hN:Row w n 130 C)(J:C[11]?=some bv)(h:jM w B bv l)(t:jT l P=some p)(hB:B<=w)(hl:l.length<=1000)(ab:d<=8)(hh:0<=p.aT/\p.aT<=100000)(hw:0<=p.wo/\p.wo<=100000000):Cv 38 #[ptr n,.agg #[.string id,P,d,.slice (some ⟨gt,0,none⟩) q c]] w λe z=>∃a I,e=.returned (ptr a)/\w<=a/\jM z B I (l++[I2 a id p d<|.slice (some ⟨gt,0,none⟩) q c])/\Row z n 130 (C.set 11 I)/\Xc (λk=>k=n\/bv.ownBlock=some k) w z:=by
 have R:=aX w [id,P,d,.slice gt q c] 106;have H:=Ba w<|.cells #[id,P,d,.slice gt q c] 106;unfold ptr;go_enter fA func38,ntmps38;go_wp2;have h:=h.keep H;have hN:=hN.keep H hN.lt;generalize w.alloc _=X at R H h hN|-;have s:X.cell? (n,11)=some bv:=by rw[hN.cell];exact J
 have y:=P8 P X h s hl;unfold ptr at y;refine y.m1 λf π=>?_;subst π;rw[t];unfold adv ptr;have⟨r0,_,r2,r3⟩:=R.p4;have T:=h.row p (KP t).1;have⟨_,_,p2,p3⟩:=T.p4;have⟨af,ag⟩:=hh;have⟨ai,π⟩:=hw;have t:=aK t;clear y;go_wp2;go_region;have U:wrap64 (p.wo+wrap64 (2^d))=p.wo+2^d:=by
  have E:(2:Int)^d=((2^d:Nat):Int):=by simp
  have K:2^d<=2^8:=Ny D9 ab;have e4:(0:Int)<=2^d:=E▸U1 _;have e5:(2:Int)^d<=256:=E▸Fh.2 K;clear E K;generalize(2:Int)^d=aj at e4 e5|-;unfold wrap64;omega
 rw[U];obtain⟨V,g,rfl⟩:=aS h.own;have m:Below f f (f.alloc<|.cells #[id,.pointer p.a,↑(p.aT+1),↑(p.wo+2^d),.slice gt q c,aF] 135).drew:=cN<|B0.alloc L9 _;have RB:Row (f.alloc<|.cells #[id,.pointer p.a,↑(p.aT+1),↑(p.wo+2^d),.slice gt q c,aF] 135).drew ↑f 135 (I2 ↑f id p d<|.slice gt q c).cells:=aX f _ _;have h:=h.keep m;have hN:=hN.keep m hN.lt;have s:=aM m s;have O:=H.size;have H:=H.trans<|m.mono H.size;generalize(f.alloc _).drew=Y at RB h hN s H|-;clear r0 r2 r3 p2 p3 T R m;generalize(f:Nat)=A at RB O|-;have N1:=aX Y [.pointer A] 132;have O1:(Y.alloc<|.cells [.pointer<|some ⟨A,0,none⟩].toArray 132).ownsRow B 132 1 (.slice V l g) l (l.map λb=>ptr b.a):=pP h.own _;have B1:B<=(Y.alloc<|.cells [.pointer<|some ⟨A,0,none⟩].toArray 132).heap.size:=by rw[cR];have:=H.size;omega
 have ah:=hN.lt;have aa:Hid (∀v W,W.ownsRow B 132 1 v (l+1) ((l.map λb=>ptr b.a)++[.pointer<|some ⟨A,0,none⟩])->(Y.alloc<|.cells #[.pointer A] 132).grownBy W (Value.slice V l g).ownBlock->(v.ownBlock=(Value.slice V l g).ownBlock\/v.ownBlock=some (Y.alloc<|.cells #[.pointer A] 132).heap.size)->Row W n 130 C/\jM (W.setCell (n,11) v) B v (l++[I2 A id p d<|.slice (some ⟨gt,0,none⟩) q c])/\Row (W.setCell (n,11) v) n 130 (C.set 11 v)/\Xc (λk=>k=n\/(Value.slice V l g).ownBlock=some k) w (W.setCell (n,11) v)):=by intro v W o1 G l1;have r:=Ba Y<|.cells #[.pointer A] 132;have j:=h.keep r;have L:=hN.keep r hN.lt;have D:=RB.keep r RB.lt;have x:Xc (λk=>(Value.slice V l g).ownBlock=some k) (Y.alloc<|.cells #[.pointer A] 132) W:=⟨G.os,G.tape,G.output,G.size,λk hk hn=>G.block k hk λe=>hn e.symm⟩;have i:=L.xc x<|bR j.own L D9;have F:=D.xc x<|bR j.own D D9;have ac:=F.ne i D9;refine⟨i,⟨?_,λb o=>?_⟩,i.set 11 v,?_⟩;rw[cB,kq];refine dA o1 λk ae _ _ N=>?_;refine(cI W (n,11) v).block k (bO N) λe=>?_;simp[gV]at e;subst e;unfold Row at i;cases i▸N;obtain o|o:=nA.1 o;have u:=(j.row b o);exact(u.xc x<|bR j.own u D9).bF (n,11) v<|(u.xc x<|bR j.own u D9).ne i D9;rw[pO.1 o];exact F.bF (n,11) v ac;refine Xc.setCell ?_ ⟨n,11,none⟩ v λ_=>.inl rfl;exact((jS H).then r).trans (S:=λk=>k=n\/(Value.slice V l g).ownBlock=some k) x λk _ e=>.inr e
 clear h RB U;go_wp2_with (refine BL rfl _ _ rfl (.slice V l g) l (l.map λb=>ptr b.a) E9 O1 ↑A (Y:Nat) E9 N1 O9 B1 ?_;intro v W M G l1;have⟨ig,ic,ad⟩:=cX M l rfl;subst ad;have⟨Q,q2,q3,q4⟩:=aa.out _ _ M G l1;have z1:W.cell? (n,11)=some (.slice V l g):=(Q.cell 11).trans J;have z2:=Q.frozen 11;have z3:=Q.lt);go_ret;exact⟨A,_,rfl,O,q2,q3,q4⟩
def afW:Value:=.slice none 0 0
def adF{w B g j n bv v b C}(h:w.ownsRow B 132 1 bv n b)(r:Row w g 135 C):(w.setCell ⟨g,j,none⟩ v).ownsRow B 132 1 bv n b:=by refine dA h λk c _ _ a=>(cI w (g,j) v).block k (bO a) λe=>?_;simp at e;subst e;cases r▸a
def aI.afX:(Vp.info? 135).map (λi=>i.size)=some 6:=K8
def ahD:=@aI.afX
def aiN(a w):(binOp .eql 132 (.pointer<|some a) (.pointer<|some a)).run Vp w=.ok true w:=by
 have⟨i,H,b⟩:=Ja.1 ahD;have h:∀d,(Op.equalIn (d+1) 132 (.pointer<|some a) (.pointer<|some a)).run Vp w=.ok true w:=λd=>by simp[Op.equalIn,wG aI.underlying132,sizeOf,typeInfo,H,b,run_sameAddr_same]
 simp[binOp];simp[Op.equal,Op.maxDepth,h 9999]
def Qc(n a G l c k w)(b:w.cell? (n,12)=some (.slice (some ⟨G,0,none⟩) l c))(d:w.cell? (a,2)=some ↑(k:Int))(f:w.cell? (G,k*2)=some (.pointer a))(g:k<l)(h:l<=1000):Cv 124 #[.pointer<|some ⟨n,0,none⟩,.pointer<|some ⟨a,0,none⟩] w λe W=>e=.returned ↑aD/\Below w w W:=by
 have H:=aiN (a,0);go_enter fA func124,ntmps124;go_wp2;go_quiet (fail);go_wp2;go_ret;exact⟨rfl,eQ B0⟩
def aI.adG:(Vp.info? 156).map (λi=>(i.zero,i.size,i.bytes))=some (some<|.agg #[.pointer none,()],2,32):=K8
def ahE:=@aI.adG
def adH(k:Nat)(w)(h:0<k)(l:k<=1000):Cv 130 #[(),(k:Int)] w λe W=>∃v,e=.returned v/\W.ownsRow w 156 2 v 0 []/\Below w w W:=by
 have⟨i,H,j,n,f⟩:=info_parts ahE;have a:=Lib.run_append_nil_zeros (P:=Vp) w 122 3 122 156 i _ .i64 .i64 aI.underlying122 aI.underlying3 H j k h O9 O9 (by rw[f];omega);have g:=grownCap_ge w k 0 156;have d:=grownCap_le_maxLen w k 0 156 (by unfold maxLen;omega);have b:Hid ((w.drew.alloc<|.cells (Builtin.zeroCells (Value.agg #[.pointer none,()]).cells k++Builtin.zeroCells (Value.agg #[.pointer none,()]).cells (grownCap w k 0 156 -k)) 156).ownsRow ↑w 156 2 (.slice w.heap.size 0<|grownCap w k 0 156) 0 []):=by refine⟨rfl,.inr ⟨(w:Nat),_,_,rfl,L9,wF w.drew _,cH _,d,?_,S8⟩⟩;rw[Array.size_append,size_zeroCells,size_zeroCells];show k*2+(grownCap w k 0 156 -k)*2=_;omega
 have c:Below w w (w.drew.alloc<|.cells (Builtin.zeroCells (Value.agg #[.pointer none,()]).cells k++Builtin.zeroCells (Value.agg #[.pointer none,()]).cells (grownCap w k 0 156 -k)) 156):=(cN B0).alloc L9 _;generalize(w.drew.alloc _)=X at a b c;generalize grownCap w k 0 156=C at a b g;clear d;go_enter fA func130,ntmps130;go_wp2_with (refine Lib.wpList_append_run _ rfl _ _ _ _ rfl _ _ E9 E9 _ _ (aK a).out ?_);go_ret;exact⟨_,rfl,b.out,c⟩
def vz{B w O R o a Q}(k:o.guard=none)(s x)(r:o.op=.call {callee:=.builtin .append,args:=#[s,x],argTypes:=#[122,122]})(v n l)(y:a.eval s=v)(t:w.ownsRow B 156 2 v n l)
 (g m c N)(q:N.length=m*2)(z:a.eval x=.slice (some ⟨g,0,none⟩) m c)(i:∀j u,N[j]?=some u->w.cell? ⟨g,j,none⟩=some u)(d:∀u∈N,u.oneCell'=true)(F:n+m<=100000)(f:B<=↑w)
 (h:∀b W,W.ownsRow B 156 2 b (n+m) (l++N)->w.grownBy W v.ownBlock->wpList Vp O Q R (a.put o.dst b) W):wpList Vp O Q (o::R) a w:=by
 have⟨E,H,A,C,D⟩:=info_parts ahE;refine wpList_append_own_at _ k s x 122 r B 156 E _ 2 32 aI.underlying122 H A C D rfl D9 v n l y t (g,0) m c N z q (λj u p=>by rw[add0];exact i j u p) d (by unfold maxLen;omega) O9 f ?_;intro b W d e _ _;exact h b W d e
def C9{w W f n v d e s}(a:Below w.heap.size w W)(c:W.ownsRow w e s v n d)(b:W.grownBy f v.ownBlock):Below w w f:=a.grown b a.size λk e=>(bS c e).1
def MO(P:List Value)(i:Nat):List Value:=(List.range P.length).map λt=>if t<i\/P.length -i<=t then P.getD (P.length -1 -t) (.pointer none)else P.getD t (.pointer none)
def uA(P i):(MO P i)=P.length:=by simp[MO]
def yl(P i t)(h:t<P.length):(MO P i)[t]?=if t<i\/P -i<=t then P[P -1 -t]? else P[t]?:=by unfold MO;rw[eG,List.getElem?_range h,dK];split;grind;simp_all
def Zr(P):MO P 0=P:=by apply kX;intro t;by_cases h:t<P;rw[yl P 0 t h,aJ O9];rw[kD (by rw[uA];omega),kD O9]
def adV(P i)(h:P.length<=2*i+1):MO P i=P.reverse:=by apply kX;intro t;by_cases a:t<P;rw[yl P i t a,Jm a];by_cases c:t<i\/P -i<=t;simp_all;grind;rw[kD (by rw[uA];omega),kD<|by rw[Dt];omega]
def Zt(P i j)(e:i+j+1=P.length)(h:i<j){x y}(b:P[i]?=some x)(d:P[j]?=some y):((MO P i).set i y).set j x=MO P (i+1):=by apply kX;intro t;by_cases a:t<P;rw[yl P (i+1) t a];by_cases C:t=j;subst C;rw[Aq (by rw[Dw,uA];exact a),aN O9,<-b];congr 1;omega;rw[ot<|gP C];by_cases f:t=i;subst f;rw[Aq (by rw[uA];exact a),aN O9,<-d];congr 1;omega;rw[ot<|gP f,yl P i t a];by_cases c:t<i\/P -i<=t;grind;grind;rw[kD (by rw[Dw,Dw,uA];omega),kD<|by rw[uA];omega]
def Qh{B g c}(P w)(h:w.ownsRow B 132 1 (g,P,c) P.length P)(s:∀u∈P,∃a,u=.pointer a)(S:P.length<=1000)(o:B<=g):Cv 125 #[.slice (some ⟨g,0,none⟩) P.length c] w λe W=>e=.returned (.tuple #[])/\W.ownsRow B 132 1 (g,P,c) P.length P.reverse/\Below B w W:=by
 go_enter fA func125,ntmps125;go_wp2;go_loopw [2,3] (λi j wr=>∃k:Nat,2*k<=P+1/\i=↑k/\j=↑((P:Int) -1 -k)/\wr.ownsRow B 132 1 (g,P,c) P (MO P k)/\Below B w wr) (λi _ _=>P -(intOf i).toNat);exact⟨0,O9,rfl,S8,by rw[Zr];exact h,B0⟩;case round=>
  obtain⟨k,H,rfl,rfl,b,r⟩:=hrel;by_cases I:2*k+1<P
  .have⟨j,A⟩:∃j,k+j+1=P:=⟨P -k -1,O9⟩;have t:(P:Int) -1 -(k:Int)=j:=O9;have m:=aY<|show k<P by omega
   have n:=aY<|show j<P by omega
   have⟨d,D⟩:=s _ (oD<|show k<P by omega);have⟨f,E⟩:=s _ (oD<|show j<P by omega);rw[D]at m;rw[E]at n;have U:wr.cell? (g,k)=some (.pointer d):=by rw[b.cellAt k O9,yl P k k O9,aJ O9];exact m
   have O:wr.cell? (g,j)=some (.pointer f):=by rw[b.cellAt j O9,yl P k j O9,aJ O9];exact n
   have Q:=b.frozenAt k;have R:=b.frozenAt j;have G:=(b.lt g rfl).2;have C:=aK<|Zt P k j A O9 m n;have x:=aK ((b.stored k<|.pointer f).1.stored j<|.pointer d).1;have y:=aK ((r.setCell (p:=(g,k)) o<|.pointer f).setCell (p:=(g,j)) o<|.pointer d);rw[t];have T:(0:Int)<=k:=O9;have J:(k:Int)<P:=O9;have L:(0:Int)<=j:=O9;have M:(j:Int)<P:=O9;have K:(k:Int)<j:=O9;have F:k≠j:=O9;go_wp2;have N:j≠k:=λe=>F e.symm;go_region;have q:=x.out;rw[C.out]at q;have l:=q;have z:=cN y.out;have v:Hid ((j:Int) -1=(P:Int) -1 -((k+1:Nat):Int)):=by unfold Hid;omega
   have l:=aK l;go_wp2;go_roundw;exact⟨k+1,O9,by go_num,by rw[<-v.out],l.out,z⟩;simp[intOf];omega
  rw[adV P k O9]at b;go_wp2;go_end0;exact⟨rfl,b,r⟩
def TB(n a g l c k w)(h:w.cell? (n,12)=some (.slice (some ⟨g,0,none⟩) l c))(H:w.cell? (a,2)=some ↑(k:Int))(f:l<=k):Cv 124 #[.pointer<|some ⟨n,0,none⟩,.pointer<|some ⟨a,0,none⟩] w λe W=>e=.returned ↑aF/\Below w w W:=by
 obtain⟨d,rfl⟩:∃d,k=l+d:=⟨k -l,O9⟩;have b:decide ((l:Int)+(d:Int)<l)=false:=lX O9;go_enter fA func124,ntmps124;go_wp2;go_quiet (fail);go_wp2;go_ret;exact⟨rfl,eQ B0⟩
def Zu{w a b d C}(h:a≠b)(f:Row w a 135 d)(g:Row w b 135 C)(W)(c:W.heap=w.heap):(binOp .eql 132 (.pointer a)<|.pointer b).run Vp W=.ok false W:=have⟨i,H,j⟩:=Ja.1 ahD;run_eql_ptr_other W aI.underlying132 H (by rw[j];decide) (λe=>h<|by injection e) (by rw[c];exact f) (by rw[c];exact g)
def TC(N a b G l c k:Nat)(C m w)(H:w.cell? (N,12)=some (.slice G l c))(o:w.cell? (a,2)=some ↑(k:Int))(h:w.cell? (G,k*2)=some (.pointer b))(f:b≠a)(d:Row w a 135 C)(g:Row w b 135 m)(j:k<l)(p:l<=1000):Cv 124 #[.pointer N,.pointer a] w λe W=>e=.returned false/\Below w w W:=by
 have i:=λn=>Zu f g d (w.drewN n) rfl;go_enter fA func124,ntmps124;go_wp2;go_quiet (fail);go_wp2;go_ret;exact⟨rfl,eQ B0⟩
def Zv(x:kT):Value:=(x.a,0)
def sliceLen:Value->Nat
 |.slice _ n _=>n
 |_=>0
def Zw(v V p c)(l:List kT)(t:List Nat)(b q u w)(X:w.cell? (v,12)=some (.slice (some ⟨V,0,none⟩) p c))(ao:t.length=p)(ap:p<=1000)(O:∀aq a,t[aq]?=some a->w.cell? (V,aq*2)=some (.pointer<|some ⟨a,0,none⟩)/\∃x∈l,x.a=a)(z:∀x∈l,Row w x.a 135 x.cells/\0<=x.aT)
 (π:(u++[q])[0]?=some b)(J:∀k x,u[k]?=some x->x∈l/\∃y,(u++[q])[k+1]?=some y/\x.par=some y.a)(ae:∀x∈u,t[x.aT.toNat]?≠some x.a)(az:q∈l)(Y:t[q.aT.toNat]?=some q.a)(ba:0<u.length)(bb:u.length<=1000):
 Cv 83 #[.pointer<|some ⟨v,0,none⟩,.pointer b.a] w λe Q=>∃g c,e=.returned (.slice (some ⟨g,0,none⟩) u c)/\Q.ownsRow w 132 1 (.slice (some ⟨g,0,none⟩) u c) u (u.reverse.map Zv)/\Below w w Q:=by
 have D:∀x∈u,x∈l->∀W,Below w w W->Cv 124 #[.pointer v,.pointer x.a] W λe Q=>e=.returned false/\Below (W:Nat) W Q:=by
  intro x f L W d;have⟨r,hh⟩:=z x L;have⟨k,o⟩:=rL hh;have N:w.cell? (x.a,2)=some ↑(k:Int):=o▸r.cell 2;have ab:=ae x f;rw[o,oq]at ab;by_cases H:k<p;have aa:=aY<|show k<t by omega
  have⟨c3,y,j,a7⟩:=O k _ aa;have U:=(z y j).1;rw[a7]at U;exact TC v x.a _ V p c k _ _ W (aM d X) (aM d N) (aM d c3) (λe=>ab<|by rw[aa,e]) (r.keep d r.lt) (U.keep d U.lt) H ap;exact TB v x.a V p c k W (aM d X) (aM d N) O9
 have G:∀W,Below w w W->Cv 124 #[.pointer v,.pointer q.a] W λe Q=>e=.returned true/\Below (W:Nat) W Q:=by intro W d;have⟨r,hh⟩:=z q az;have⟨k,o⟩:=rL hh;have N:w.cell? (q.a,2)=some ↑(k:Int):=o▸r.cell 2;rw[o,oq]at Y;have H:=(bK.1 Y).1;exact Qc v q.a V p c k W (aM d X) (aM d N) (aM d (O k _ Y).1) O9 ap
 have E:∀k x y,u[k]?=some x->(u++[q])[k+1]?=some y->w.cell? (x.a,1)=some (.pointer y.a):=by intro k x y f j;have⟨L,bc,af,ay⟩:=J k x f;cases j▸af;have:w.cell? (x.a,1)=some (.pointer<|x.par.map λa0=>⟨a0,0,none⟩):=(z x L).1.cell 1;rw[ay]at this;exact this
 have F:=λk x f=>(J k x f).2;have s:=λk x f=>(J k x f).1;have A:∀x∈l,x.a<(w:Nat):=λx f=>(z x f).1.lt;clear ao O z ae Y J X;change Hid _ at D G E s F A π;go_enter fA func83,ntmps83;go_wp2;go_loopw [5,6] (λM aw wr=>∃(k:Nat)(x:kT),k<=u/\(u++[q])[k]?=some x/\aw=.pointer x.a/\sliceLen M=k/\wr.ownsRow ↑w 132 1 M k ((u.take k).map Zv)/\Below w w wr) (λM _ _=>u -sliceLen M);exact⟨0,b,cH _,π.out,rfl,rfl,mV _ _ _ _,B0⟩;case round=>
  obtain⟨k,x,o,f,rfl,a8,h,d⟩:=hrel;by_cases H:k<u
  .have n:u[k]?=some x:=by rw[ko H]at f;exact f
   have⟨y,j,_⟩:=F.out k x n;have an:=E.out k x y n j;obtain⟨va,vc,rfl⟩:=aS h;have C:=aK<|D.out x (eY n) (s.out k x n) wr d;have L:=A.out x<|s.out k x n;have ac:(u.take<|k+1).map Zv=(u.take k).map Zv++[.pointer<|some ⟨x.a,0,none⟩]:=by rw[oz,n];simp[Zv]
   change Hid _ at ac j;clear D G E F s A f n π;go_wp2;refine C.out.m1 λi m=>?_;have d:=d.trans<|m.mono d.size;have c1:=aM d an;have ah:=aX i [.pointer x.a] 132;have ad:(i.alloc<|.cells [.pointer<|some ⟨x.a,0,none⟩].toArray 132).ownsRow ↑w 132 1 (.slice va k vc) k ((u.take k).map Zv):=pP (aP h m) _;have B1:(w:Nat)<=(i.alloc<|.cells [.pointer<|some ⟨x.a,0,none⟩].toArray 132).heap.size:=by rw[cR];have:=d.size;omega
   have am:Below w w (i.alloc<|.cells [.pointer<|some ⟨x.a,0,none⟩].toArray 132):=d.alloc d.size _;have ax:=aK λw2(g:(i.alloc<|.cells [.pointer<|some ⟨x.a,0,none⟩].toArray 132).grownBy w2 (Value.slice va k vc).ownBlock)=>C9 am ad g;have av:k<=100000:=O9;clear m am C h;go_wp2_with (refine BL rfl _ _ rfl (.slice va k vc) k ((u.take k).map Zv) E9 ad ↑x.a (i:Nat) E9 ah av B1 ?_;intro v1 w3 al ai l1;have⟨S,R,K⟩:=cX al k rfl;subst K;have ag:=ax.out _ ai;have bd:w3.cell? (x.a,1)=some (.pointer y.a):=aM ag an);go_roundw;exact⟨k+1,y,O9,j.out,rfl,rfl,ac.out▸al,ag⟩;simp[sliceLen];omega
  have au:k=u:=O9;subst au;have a6:x=q:=by simpa using f.symm
  subst a6;have⟨T,P⟩:∃T,u.length=T+1:=⟨u -1,O9⟩;have⟨S,R,K⟩:=cX h T P;rw[<-P]at K;subst K;clear P;have ar:=(bS h rfl).1;rw[gQ]at h;have C:=aK<|G.out wr d;clear D G E F s A;go_wp2;refine C.out.m1 λi m=>?_;have d:=d.trans<|m.mono d.size;have h:=aP h m;have I:=Qh (B:=(w:Nat)) (g:=S) (c:=R) (u.map Zv) i (by rw[dS];exact h) (λa1 a2=>by obtain⟨a3,_,rfl⟩:=gB.1 a2;exact⟨_,rfl⟩) (by rw[dS];omega) ar;rw[dS]at I;have I:=aK I;clear C m;go_wp2;refine I.out.mono ?_;rintro e w2⟨rfl,aj,ak⟩;go_wp2;go_ret;exact⟨S,R,rfl,U4▸aj,d.trans ak⟩
def tC(l):(eV l)=l.length*7:=by induction l with
 |nil=>rfl
 |cons x l a=>simp only[eV,yD,cB]at*;simp only[dB.cells,cQ,pN];omega
def WL{w B g c l}(h:w.ownsRow B 234 7 (.slice g l c) l (eV l)):wM w g l:=by obtain⟨a,_⟩|⟨G,C,d,a,_,b,_⟩:=h.2;cases a;cases a;exact⟨⟨_,_,b⟩,λi s H=>HF h H⟩
def MP{w}(b g o n c l)(d:l.length=n)(p:∀j u,(eV l)[j]?=some u->w.cell? (g,o+j)=some u)(E:n<=40000)(T):∃S D W,(Builtin.append_ #[154,154] T #[.slice (some ⟨b,0,none⟩) 0 0,.slice (some ⟨g,o,none⟩) n c]).run Vp w=.ok (.slice S n D) W/\(l=[]\/∃G,S=some ⟨G,0,none⟩/\w<=G/\wM W G l)/\w.grownBy W none:=by
 have⟨i,H,x,t,m⟩:=info_parts adj;have q:∀j u,(eV l)[j]?=some u->w.cell? (((g,o):Addr).add j)=some u:=λj u a=>by rw[show((g,o):Addr).add j=(g,o+j)from by simp[Addr.add]];exact p j u a
 by_cases B:n=0;subst B;have s:=lW d;subst s;have:=run_append_room_cells (P:=Vp) w 154 T 234 i aI.underlying154 H b 0 0 0 (g,o) 0 c [] S8 (λj u a=>by simp at a) (λu v=>by simp at v) L9 (λj a=>by simp at a) (λj a=>by simp at a);exact⟨_,_,_,this,.inl rfl,⟨rfl,rfl,rfl,L9,λ_ _ _=>rfl⟩⟩;have⟨z,W,A,e,r⟩:=run_append_arg_grows (P:=Vp) w 154 T 234 i _ 7 72 aI.underlying154 H x t m rfl D9 (b,0) 0 0 [] rfl (λj u a=>by simp at a) (g,o) n c (eV l) (by rw[tC,d]) q O9 (by unfold maxLen;omega) O9;rw[mj,<-d]at e;have⟨f,h⟩:∃f,l.length=f+1:=⟨l -1,O9⟩;have⟨G,y,k⟩:=cX e f h;rw[<-h]at k;subst k;exact⟨_,_,_,by rw[<-d]at A|-;exact A,.inr ⟨G,rfl,(bS e rfl).1,WL e⟩,r⟩
def adW(t n v l w)(c:l.length=n)(z:n<=40000)(s:(t=none/\n=0/\v=0)\/∃g o,t=some ⟨g,o,none⟩/\∀j u,(eV l)[j]?=some u->w.cell? ⟨g,o+j,none⟩=some u):Cv 129 #[.slice t n v] w λe W=>∃S x,e=.returned (.slice S n x)/\(l=[]\/∃g,S=some ⟨g,0,none⟩/\w<=g/\wM W g l)/\Below w w W:=by
 obtain⟨rfl,rfl,rfl⟩|⟨g,o,rfl,i⟩:=s;.have r:=lW c;have m:=Go.Ren.xM (V:=Vp) aI.underlying154 none 0 0;go_enter fA func129,ntmps129;go_wp2;go_ret;exact⟨_,_,rfl,.inl r,B0⟩
 have a:=Ba w<|.cells #[] 234;have⟨S,x,W,H,f,p⟩:=MP (w:=w.alloc<|.cells #[] 234) ↑w g o n v l c (λj u q=>aM a<|i j u q) z 154;have h:=a.grown p a.size (λk e=>by cases e);have b:l=[]\/∃g,S=some ⟨g,0,none⟩/\(w:Nat)<=g/\wM W g l:=by obtain e|⟨G,e,y,d⟩:=f;exact .inl e;exact .inr ⟨G,e,cA a.size y,d⟩
 change Hid _ at H b;have m:=Go.Ren.xM (V:=Vp) aI.underlying154 ↑(g,o) n v;go_enter fA func129,ntmps129;go_wp2_with (refine Lib.wpList_append_run _ rfl _ _ _ _ rfl _ _ E9 E9 _ _ H.out ?_);go_ret;exact⟨_,_,rfl,b.out,h⟩
def af4(B Q k S z m T L c w)(U:w.cell? (B,0)=some (.slice (some ⟨Q,0,none⟩) (k+1) S))(I:w.cell? (B,1)=some (.slice (some ⟨z,0,none⟩) (m+1) T))(q:L.length=(k+1)*2)(r:∀u∈L,u.oneCell'=true)(t:∀j u,L[j]?=some u->w.cell? ⟨Q,j,none⟩=some u)(n:c.length=(m+1)*2)(o:∀u∈c,u.oneCell'=true)(p:∀j u,c[j]?=some u->w.cell? ⟨z,j,none⟩=some u)(M:k<=400)(N:m<=400):
 Cv 86 #[.slice (some ⟨B,0,none⟩) 2 2] w λe V=>∃v,e=.returned v/\V.ownsRow w 156 2 v (k+1+(m+1)) (L++c)/\Below w w V:=by
 go_enter fA func86,ntmps86;go_wp2;go_loopw [3,11] (λs i wr=>wr=w/\((s=↑aA/\i=↑aA)\/(s=↑((k+1:Nat):Int)/\i=↑aG)\/(s=.int .i64 ((k+1+(m+1):Nat):Int)/\i=.int .i64 2))) (λ_ i _=>2 -(intOf i).toNat);exact⟨rfl,.inl ⟨rfl,rfl⟩⟩;case round=>
  obtain⟨rfl,⟨rfl,rfl⟩|⟨rfl,rfl⟩|⟨rfl,rfl⟩⟩:=hrel;.go_wp2;go_roundw;exact⟨by trivial,.inr<|.inl ⟨by go_num,by trivial⟩⟩;simp[intOf]
  .go_wp2;go_roundw;exact⟨by trivial,.inr<|.inr ⟨by go_num,by trivial⟩⟩;simp[intOf]
  have⟨W,K⟩:∃W,W=wr:=⟨_,rfl⟩;subst K;go_wp2;refine(adH (k+1+(m+1)) W O9 O9).mono ?_;rintro e w1⟨v,rfl,a,b⟩;obtain⟨va,vc,rfl⟩:=aS a;go_wp2;go_loopw [6,27] (λf i O=>Below W W O/\((i=↑aA/\O.ownsRow ↑W 156 2 f 0 [])\/(i=↑aG/\O.ownsRow ↑W 156 2 f (k+1) L)\/(i=.int .i64 2/\O.ownsRow ↑W 156 2 f (k+1+(m+1)) (L++c)))) (λ_ i _=>2 -(intOf i).toNat);exact⟨b,.inl ⟨rfl,a⟩⟩;case round=>
   obtain⟨b,⟨rfl,a⟩|⟨rfl,a⟩|⟨rfl,a⟩⟩:=hrel
   .obtain⟨h,l,rfl⟩:=aS a;have X:=aM b U;have J:=aM b I;have d:=λj u(D:L[j]?=some u)=>aM b<|t j u D;have C:=b.size;have P:=aK λR(g:wr.grownBy R (Value.slice h 0 l).ownBlock)=>C9 b a g;have E:0+(k+1)<=100000:=O9;change Hid _ at t p d r o q n;go_wp2_with (refine vz rfl _ _ rfl (.slice h 0 l) 0 [] E9 a Q (k+1) S L q.out E9 d.out r.out E C ?_;intro Y π x A;have⟨H,G,y⟩:=cX x k O9;subst y;have F:=P.out _ A);go_roundw;exact⟨F,.inr<|.inl ⟨by trivial,by simpa using x⟩⟩;simp[intOf]
   .obtain⟨h,l,rfl⟩:=aS a;have X:=aM b U;have J:=aM b I;have d:=λj u(D:c[j]?=some u)=>aM b<|p j u D;have C:=b.size;have P:=aK λR(g:wr.grownBy R (Value.slice h (k+1) l).ownBlock)=>C9 b a g;have E:(k+1)+(m+1)<=100000:=O9;change Hid _ at t p d r o q n;go_wp2_with (refine vz rfl _ _ rfl (.slice h (k+1) l) (k+1) L E9 a z (m+1) T c n.out E9 d.out o.out E C ?_;intro Y π x A;have⟨H,G,y⟩:=cX x (k+1+m) O9;subst y;have F:=P.out _ A);go_roundw;exact⟨F,.inr<|.inr ⟨by trivial,x⟩⟩;simp[intOf]
   have⟨H,G,y⟩:=cX a (k+1+m) rfl;subst y;go_wp2;go_ret;exact⟨_,rfl,a,b⟩
def kT.mark(x:kT)(b:Bool):kT:={x with bad:=b,tv:=if b then afW else x.tv}
def xAt(b:List Bool)(j k i:Nat)(x:kT):kT:=if i<k then x.mark (b.getD i false)else if i=j then{x with bad:=true}else x
structure af5(l:List kT)(j:Nat)(bs:List Bool)(pi:Nat->Option Nat):Prop where
 nd:(l.map kT.a).Nodup
 par:∀i x,l[i]?=some x->(x.par=none/\pi i=none)\/∃p y,pi i=some p/\p<i/\l[p]?=some y/\x.par=some y.a
 bs:∀i x,l[i]?=some x->bs.getD i false=(x.bad||decide (i=j)||((pi i).map λp=>bs.getD p false).getD false)
structure SpG(w:World)(nb B:Nat)(bv:Value)(l:List kT)(bs:List Bool)(j:Nat)(cs:List Value)(k:Nat)(wr:World):Prop where
 own:wr.ownsRow B 132 1 bv l.length (l.map λb=>ptr b.a)
 rows:∀i x,l[i]?=some x->Row wr x.a 135 (xAt bs j k i x).cells
 nd:Row wr nb 130 cs
 x:Xc (λk=>∃x∈l,k=x.a) w wr
theorem SpG.at_{w W N B k j bv l a x o}(h:SpG w N B bv l a j o k W){i}(d:l[i]?=some x):∃g c,bv=.slice (some ⟨g,0,none⟩) l c/\W.cell? ⟨g,i,none⟩=some (ptr x.a):=by have n:=(bK.1 d).1;have e:=λg(b:bv.ownBlock=some g)=>h.own.cells (g:=g) b;obtain⟨_,H⟩|⟨g,C,p,f,m,b,_⟩:=h.own.2;omega;subst f;refine⟨g,C,rfl,?_⟩;have:=e g rfl i (ptr x.a) (by rw[eG,d];rfl);rwa [add0]at this
def BO{l:List kT}(h:(l.map kT.a).Nodup){i k:Nat}{x y}(d:l[i]?=some x)(f:l[k]?=some y)(e:x.a=y.a):i=k:=by
 have H:(l.map kT.a)[i]?=some x.a:=by rw[eG,d];rfl
 have g:(l.map kT.a)[k]?=some y.a:=by rw[eG,f];rfl
 have⟨L,b⟩:=bK.1 H;have⟨a,E⟩:=bK.1 g;obtain c|c|c:=Ug i k;exact absurd (by rw[b,E,e])<|aat.1 h i k L a c;exact c;exact absurd (by rw[b,E,e])<|aat.1 h k i a L c
def SpG.upd{w W g N B k j bv l p x C}(h:SpG w N B bv l p j C k W)(o:(l.map kT.a).Nodup)(b:l[k]?=some x)(y:Xc (λa=>a=x.a) W g)(H:Row g x.a 135 (x.mark<|p.getD k false).cells):SpG w N B bv l p j C (k+1) g:=by
 have m:=h.rows k x b;refine⟨dA h.own λa q _ _ f=>y.block a (bO f) λe=>?_,λi z d=>?_,h.nd.xc y λe=>h.nd.ne m D9 e,h.x.trans y λa _ e=>⟨x,eY b,e⟩⟩;subst e;cases m▸f;by_cases e:i=k;subst e;cases b▸d;unfold xAt;rw[aN<|Dm _];exact H;have n:xAt p j (k+1) i z=xAt p j k i z:=by unfold xAt;by_cases c:i<k;grind;grind
 rw[n];exact(h.rows i z d).xc y λE=>e<|BO o d b E
def aiS{v B j bv l a ac z}(b w)(hN:Row w v 130 z)(aj:z[11]?=some bv)(h:jM w B bv l)(o:af5 l j a ac)(t:l[j]?=some b)(hl:l.length<=1000):Cv 128 #[ptr v,ptr b.a] w λe Y=>e=.returned (.tuple #[])/\jM Y B bv (l.mapIdx λi x=>x.mark<|a.getD i false)/\Row Y v 130 z/\Xc (λk=>∃x∈l,k=x.a) w Y:=by
 have G:=eY t;have r:=h.row b G;have b5:=r.r 5;have am:=r.frozen 5;have aq:=r.lt;have F:=hN.bF (b.a,5) true λe=>hN.ne r D9 e;have U:(w.setCell (b.a,5) true).cell? (v,11)=some bv:=by rw[F.cell];exact aj
 have X:SpG w v B bv l a j z 0 (w.setCell (b.a,5) true):=by refine⟨adF h.own r,λi x d=>?_,F,(lY _ w).setCell _ _ λ_=>⟨b,G,rfl⟩⟩;unfold xAt;rw[aJ<|qu _];by_cases e:i=j;subst e;cases t▸d;rw[aN rfl];exact r.set 5 true;rw[aJ e];exact(h.row x<|eY d).bF (b.a,5) true λL=>e<|BO o.nd d t L
 obtain⟨va,W,rfl⟩:=aS h.own;change Hid _ at o t X;unfold ptr;go_enter fA func128,ntmps128;go_wp2;generalize w.setCell _ _=an at X U|-;go_loopw [14] (λi wr=>∃k:Nat,k<=l/\i=↑k/\SpG w v B (va,l,W) l a j z k wr) (λi _=>l -(intOf i).toNat);exact⟨0,O9,rfl,X.out⟩;case round=>
  obtain⟨k,ap,rfl,m⟩:=hrel;by_cases Q:k<l
  .have aa:(0:Int)<=k:=O9;have ab:(k:Int)<l:=O9;have d:=aY Q;generalize l[k]=x at d;have⟨g,ar,S,q0⟩:=m.at_ d;cases S;unfold ptr at q0;have c:=m.rows k x d;have ex:xAt a j k k x={x with bad:=x.bad||decide (k=j)}:=by unfold xAt;rw[aJ<|Fq _];by_cases e:k=j;rw[aN e];simp[e];rw[aJ e];simp[e]
   rw[ex]at c;have D:wr.cell? (x.a,5)=some (x.bad||decide (k=j)):=c.cell 5;have J:wr.cell? (x.a,1)=some (.pointer<|x.par.map λp=>⟨p,0,none⟩):=c.cell 1;have ag:=c.cell 4;have ao:=c.frozen;have ae:=c.lt;have A:=o.out.bs k x d;have R:(x.par=none/\a.getD k false=(x.bad||decide (k=j)))\/∃p u,x.par=some p/\wr.cell? ⟨p,5,none⟩=some (.bool u)/\a.getD k false=(x.bad||decide (k=j)||u):=by
    obtain⟨s,L⟩|⟨p,y,s,P,T,L⟩:=o.out.par k x d;refine .inl ⟨s,?_⟩;rw[A,L];simp;refine .inr ⟨y.a,a.getD p false,L,?_,?_⟩;have H:=m.rows p y T;have K:xAt a j k p y=y.mark (a.getD p false):=by unfold xAt;rw[if_pos P]
    rw[K]at H;exact H.cell 5;rw[A,s];rfl
   have π:Hid (a.getD k false=false->SpG w v B (g,l,W) l a j z (k+1) wr):=λe=>by
    refine m.upd o.out.nd d (lY _ _) ?_;rw[e];have N:(x.bad||decide (k=j))=false:=by rw[e]at A;have:=A.symm;simp[Bool.or_eq_false_iff]at this|-;exact this.1
    rw[N]at c;exact c
   have I:Hid (a.getD k false=true->(x.bad||decide (k=j))=true->SpG w v B (g,l,W) l a j z (k+1) (wr.setCell (x.a,4) ↑())):=λe L=>by refine m.upd o.out.nd d ((lY _ _).setCell _ _ λ_=>rfl) ?_;rw[e];rw[L]at c;exact c.set 4 ↑()
   have ad:Hid (a.getD k false=true->SpG w v B (g,l,W) l a j z (k+1) ((wr.setCell (x.a,5) true).setCell (x.a,4) ↑())):=λe=>by refine m.upd o.out.nd d (((lY (λai=>ai=x.a) wr).setCell (x.a,5) true λ_=>rfl).setCell (x.a,4) ↑() λ_=>rfl) ?_;rw[e];exact(c.set 5 true).set 4 ↑()
   have M:=aK λak=>c.set 5 ak;obtain⟨E,f⟩|⟨p,u,E,af,f⟩:=R;.rw[E]at J;cases q:(x.bad||decide (k=j))with
    |true=>rw[q]at D f;have n:=aK<|I.out f q;go_wp2;go_roundw;exact⟨k+1,O9,by go_num,n.out⟩;simp[intOf];omega
    |false=>rw[q]at D f;have n:=aK<|π.out f;go_wp2;go_roundw;exact⟨k+1,O9,by go_num,n.out⟩;simp[intOf];omega
   rw[E]at J;cases u with
   |true=>rw[Bool.or_true]at f;have n:=aK<|ad.out f;have ah:(wr.setCell (x.a,5) true).cell? (x.a,5)=some true:=(M.out _).cell 5;go_wp2;go_roundw;exact⟨k+1,O9,by go_num,n.out⟩;simp[intOf];omega
   |false=>rw[Np]at f;cases q:(x.bad||decide (k=j))with
     |true=>rw[q]at D f;have n:=aK<|I.out f q;go_wp2;go_roundw;exact⟨k+1,O9,by go_num,n.out⟩;simp[intOf];omega
     |false=>rw[q]at D f;have n:=aK<|π.out f;go_wp2;go_roundw;exact⟨k+1,O9,by go_num,n.out⟩;simp[intOf];omega
  have O:k=l:=O9;subst O;go_wp2;go_end0;refine⟨rfl,⟨?_,λx d=>?_⟩,m.nd,m.x⟩;have:=m.own;have s:(l.mapIdx λi x=>x.mark<|a.getD i false).map (λb=>ptr b.a)=l.map λb=>ptr b.a:=by apply kX;intro i;simp[Am];cases l[i]?<;>simp[kT.mark]
  rw[s,aaC];exact this;have⟨i,V⟩:=jQ.1 d;rw[Am]at V;rcases C:l[i]? with _|al;cases C▸V;rw[C]at V;simp[dK,gV]at V;subst V;have c:=m.rows i al C;unfold xAt at c;rw[aN (bK.1 C).1]at c;exact c
section
variable{LB:Nat}
structure Tk(LB:Nat)(Y:TypeId->Prop)(n:Nat)(mb:Nat->Nat)(w w':World):Prop where
 os:w'.os=w.os
 tape:w'.tape=w.tape
 output:w'.output=w.output
 size:w.heap.size<=w'.heap.size
 cells:∀(k:Nat)(cs:Array Value)(t:TypeId)(f:Nat×Nat),w.heap[k]?=some (.cells cs t f)->k<LB\/¬Y t->w'.heap[k]?=some (.cells cs t f)
 rest:∀(k:Nat)(o:Obj),w.heap[k]?=some o->o.isCells=false->¬lu n mb k->w'.heap[k]?=some o
def Tk.trans{b n m w W i}(h:Tk LB b n m w W)(a:Tk LB b n m W i):Tk LB b n m w i:=⟨a.os.trans h.os,a.tape.trans h.tape,a.output.trans h.output,cA h.size a.size,λk C t f c g=>a.cells k C t f (h.cells k C t f c g) g,λk o c e d=>a.rest k o (h.rest k o c e d) e d⟩
def Tk.mono{b c n m w W}(h:Tk LB b n m w W)(g:∀t,b t->c t):Tk LB c n m w W:=⟨h.os,h.tape,h.output,h.size,λk C t f d a=>h.cells k C t f d (a.imp_right λa e=>a<|g t e),h.rest⟩
def Tk.ake{S d n M w W}(x:Xc S w W)(c:∀k,lu n M k->∃o,w.heap[k]?=some o/\o.isCells=false)(h:∀k,k<↑w->S k->lu n M k\/(LB<=k/\∃C t f,d t/\w.heap[k]?=some (.cells C t f))):Tk LB d n M w W:=by refine⟨x.os,x.tape,x.output,x.size,λk C t f a p=>(x.block k (bO a) λe=>?_).trans a,λk o a b c=>(x.block k (bO a) λe=>?_).trans a⟩;rcases h k (bO a) e with e|⟨m,g,l,F,j,e⟩;have⟨o,b,i⟩:=c k e;cases a▸b;simp[Obj.isCells]at i;grind;rcases h k (bO a) e with e|⟨_,g,l,F,j,e⟩;exact c e;cases a▸e;simp[Obj.isCells]at b
def Qd:=@Tk.ake
def Tk.below{c n m w W}(b:Below w.heap.size w W):Tk LB c n m w W:=⟨b.os,b.tape,b.output,b.size,λk C t f a _=>(b.block k<|bO a).trans a,λk o a _ _=>(b.block k<|bO a).trans a⟩
def BM:=@Tk.below
def aR.maps{w g n s m K}(h:aR w g n s m K)(k)(c:lu n m k):∃o,w.heap[k]?=some o/\o.isCells=false:=by obtain⟨i,H,rfl⟩:=c;obtain⟨C,a,-⟩:=h.mp i H;obtain⟨e,d,b,-⟩:=a;exact⟨_,b,rfl⟩
def Row.tk{a n g m w W t c}(h:Row w g t c)(x:Tk LB a n m w W)(b:¬a t):Row W g t c:=x.cells _ _ _ _ h<|.inr b
def qp{a n s m B M w W e v c}(h:w.ownsRow B e s v m c)(x:Tk LB a n M w W)(d:¬a e):W.ownsRow B e s v m c:=dA h λk C _ _ b=>(x.cells k C e _ b<|.inr d).trans b.symm
def Y0(t:TypeId):Prop:=t=130\/t=181\/t=234\/t=298
def Y1(t:TypeId):Prop:=Y0 t\/t=135
def Qe{t}(a:t≠130)(b:t≠181)(c:t≠234)(d:t≠298):¬Y0 t:=by rintro(e|e|e|e);exact a e;exact b e;exact c e;exact d e
def qx{t}(a:t≠130)(b:t≠181)(c:t≠234)(d:t≠298)(f:t≠135):¬Y1 t:=by rintro(e|e);exact Qe a b c d e;exact f e
def afY{w W n T N G B j s m K M v C o S}(x:Xo (JoF n m T N M) (T+1) JT w W)(g:aR w G n s m K)(i:bW w T G n v S)(b:iR w N B C j M o)(a:LB<=T/\LB<=N/\LB<=B):Tk LB Y0 n m w W:=by refine Qd x g.maps λk c e=>?_;obtain((e|e)|(e|e))|⟨l,t,d,f,e,h⟩:=e;simp_all;subst e;exact .inr ⟨a.1,_,_,_,.inr<|.inl rfl,i.row⟩;subst e;exact .inr ⟨a.2.1,_,_,_,.inl rfl,b.row⟩;have⟨c,d,h⟩:=bS b.own e;exact .inr ⟨cA a.2.2 c,_,_,_,.inr (.inr<|.inr rfl),h⟩;refine .inr ⟨O9,_,_,_,?_,h⟩;obtain e|e:=e;exact .inr (.inr<|.inl e);exact .inr (.inr<|.inr e)
def Yt(t:TypeId):Prop:=t=181\/t=234
def WA{w W n T G s m K v S}(x:Xo (BI n m T) (T+1) xB w W)(a:aR w G n s m K)(c:bW w T G n v S)(b:LB<=T):Tk LB Yt n m w W:=by refine Qd x a.maps λk g e=>?_;obtain(e|e)|⟨i,t,d,f,e,h⟩:=e;simp_all;subst e;exact .inr ⟨b,_,_,_,.inl rfl,c.row⟩;exact .inr ⟨O9,_,_,_,.inr e,h⟩
def Yt.y1(t)(h:Yt t):Y1 t:=by obtain e|e:=h;exact .inl (.inr<|.inl e);exact .inl<|.inr (.inr<|.inl e)
structure oh(w:World)(nb B most:Nat)(cs:List Value)(bv mv:Value)(gc kc cc:Nat)(l:List kT)(L:List Value)(mem:List cC):Prop where
 mem:iR w nb B cs most mv mem
 c11:cs[11]?=some bv
 SP:cs[12]?=some (.slice (some ⟨gc,0,none⟩) (kc+1) cc)
 qz:jM w B bv l
 chain:w.ownsRow B 156 2 (.slice (some ⟨gc,0,none⟩) (kc+1) cc) (kc+1) L
def oh.keep{w W n B b g k c C L bv M l m}(h:oh w n B b C bv M g k c l L m)(a:Below w w W):oh W n B b C bv M g k c l L m:=⟨h.mem.keep a,h.c11,h.SP,h.qz.keep a,aP h.chain a⟩
def jM.tk{a w W B n m bv l}(h:jM w B bv l)(x:Tk LB a n m w W)(c:¬a 132)(d:¬a 135):jM W B bv l:=⟨qp h.own x c,λb e=>(h.row b e).tk x d⟩
def adI{c:List Value}(m):(c.set 15 m)[11]?=c[11]?:=by rw[ot D9]
def adJ{c:List Value}(m):(c.set 15 m)[12]?=c[12]?:=by rw[ot D9]
def oh.joined{w W N B a g k d n M C L bv f m l e b}(h:oh w N B a C bv f g k d l L e)(x:Tk LB Y0 n M w W)(c:iR W N B (C.set 15 m) a m b):oh W N B a (C.set 15 m) bv m g k d l L b:=⟨c,by rw[adI];exact h.c11,by rw[adJ];exact h.SP,h.qz.tk x (Qe D9 D9 D9 D9)<|Qe D9 D9 D9 D9,qp h.chain x<|Qe D9 D9 D9 D9⟩
def Yb(t:TypeId):Prop:=t=135
def adK{w W n B G s m K bv l}(x:Xc (λk=>∃x∈l,k=x.a) w W)(d:aR w G n s m K)(h:jM w B bv l)(f:∀x∈l,LB<=x.a):Tk LB Yb n m w W:=by refine Qd x d.maps λk g e=>?_;obtain⟨b,c,rfl⟩:=e;exact .inr ⟨f b c,_,_,_,rfl,h.row b c⟩
def aR.blk{w W n B g s m K bv l}(d:aR w g n s m K)(x:Xc (λk=>∃x∈l,k=x.a) w W)(h:jM w B bv l):aR W g n s m K:=d.xc x (λ⟨b,c,e⟩=>d.arr.ne (h.row b c) D9 e) (λi H⟨b,c,e⟩=>(d.sh i H).ne (h.row b c) D9 e) λi H⟨b,c,e⟩=>d.Ht H (h.row b c) e.symm
def bW.tk{a w W t g n m v l}(h:bW w t g n v l)(x:Tk LB a n m w W)(b:¬a 181)(c:¬a 234):bW W t g n v l:=⟨h.row.tk x b,qp h.own x c⟩
structure WB where
 b:kT
 Q:List rH
 gt:Nat
 cq:Nat
def WB.m(x:WB):Int×List Bc:=(x.b.aT,x.Q.map rH.t)
structure WB.Ok(l:List kT)(x:WB):Prop where
 tv:x.b.tv=.slice (some ⟨x.gt,0,none⟩) x.Q.length x.cq
 q:∀q∈x.Q,q.Ok
 q0:1<=x.Q.length
 q8:x.Q.length<=8
 qc:x.Q.length<=x.cq
 mem:x.b∈l
 hh:x.b.aT<9223372036854775808
structure JR where
 e:Int
 at_:Nat
 ls:List (List dB)
 K:jH
 mem:List cC
 st:List dB
def bG(m:Nat)(s:Int):List (Int×List Bc)->List cC->jH->JR
 |[],M,K=>⟨0,0,[],K,M,[]⟩
 |x::r,M,K=>if(bQ m s x.1 x.2 M K []).1≠0 then⟨if r=[]then(bQ m s x.1 x.2 M K []).1 else 13,0,[],(bQ m s x.1 x.2 M K []).2.1.K,(bQ m s x.1 x.2 M K []).2.2,(bQ m s x.1 x.2 M K []).2.1.steps⟩else
   ⟨(bG m s r (bQ m s x.1 x.2 M K []).2.2 (bQ m s x.1 x.2 M K []).2.1.K).e,(bG m s r (bQ m s x.1 x.2 M K []).2.2 (bQ m s x.1 x.2 M K []).2.1.K).at_+1,(bQ m s x.1 x.2 M K []).2.1.steps::(bG m s r (bQ m s x.1 x.2 M K []).2.2 (bQ m s x.1 x.2 M K []).2.1.K).ls,(bG m s r (bQ m s x.1 x.2 M K []).2.2 (bQ m s x.1 x.2 M K []).2.1.K).K,(bG m s r (bQ m s x.1 x.2 M K []).2.2 (bQ m s x.1 x.2 M K []).2.1.K).mem,(bQ m s x.1 x.2 M K []).2.1.steps++(bG m s r (bQ m s x.1 x.2 M K []).2.2 (bQ m s x.1 x.2 M K []).2.1.K).st⟩
def JR.after(J:JR)(k:Nat)(l:List (List dB))(s:List dB):JR:=⟨J.e,k+J.at_,l++J.ls,J.K,J.mem,s++J.st⟩
def TD(J:JR):J.after 0 [] []=J:=by simp[JR.after]
def TE{a s x r m K}(h:(bQ a s x.1 x.2 m K []).1=0)(k l S):(bG a s (x::r) m K).after k l S=(bG a s r (bQ a s x.1 x.2 m K []).2.2 (bQ a s x.1 x.2 m K []).2.1.K).after (k+1) (l++[(bQ a s x.1 x.2 m K []).2.1.steps]) (S++(bQ a s x.1 x.2 m K []).2.1.steps):=by
 rw[bG,aJ<|by rw[h];simp];simp[JR.after];omega
def TF{a s x r m K}(h:(bQ a s x.1 x.2 m K []).1≠0)(k l S):(bG a s (x::r) m K).after k l S=⟨if r=[]then(bQ a s x.1 x.2 m K []).1 else 13,k,l,(bQ a s x.1 x.2 m K []).2.1.K,(bQ a s x.1 x.2 m K []).2.2,S++(bQ a s x.1 x.2 m K []).2.1.steps⟩:=by
 rw[bG,aN h];simp[JR.after]
def HP{b su h eO m K st}(a:m.length<=b):(bQ b su h eO m K st).2.2.length<=b:=by unfold bQ;simp only;split;exact a;obtain _|⟨x,r⟩:=eO;exact a;simp only;split;exact a;exact C6 b _ _ a
def ApartL(w:World)(B:Nat)(v:Value)(L:List dX):Prop:=∀x∈L,x.st=[]\/∃g,x.sa=some ⟨g,0,none⟩/\B<=g/\v.ownBlock≠some g/\wM w g x.st
def wM.sin{w W v d g l}(h:wM w g l)(c:tE w v W d)(b:v.ownBlock≠some g):wM W g l:=have⟨C,f,a⟩:=h.ty;have:=c.2.2 g C f a b;⟨⟨C,f,this⟩,λi s H=>(h.at_ i s H).same<|this.trans a.symm⟩
def wM.keep{w W g l}(h:wM w g l)(b:Below w w W):wM W g l:=have⟨c,f,a⟩:=h.ty;have:=b.block g<|bO a;⟨⟨c,f,this.trans a⟩,λi s H=>(h.at_ i s H).same this⟩
def ApartL.sin{w W B v c L}(h:ApartL w B v L)(b:tE w v W c):ApartL W B c L:=by intro x j;obtain e|⟨g,d,E,m,a⟩:=h x j;simp_all;refine .inr ⟨g,d,E,λe=>?_,a.sin b m⟩;obtain q|⟨k,q,l⟩:=b.2.1;simp_all;cases q▸e;have⟨C,f,i⟩:=a.ty;have:=bO i;omega
structure JInv(LB:Nat)(w wr:World)(nb B most:Nat)(cs:List Value)(bv:Value)(gc kc cc:Nat)(l:List kT)(Lc:List Value)(tb gs n:Nat)(sb mb:Nat->Nat)(su:Int)(W:List WB)(mem:List cC)(K:jH)(v0:Value)(st:List dB)(jv:Value)(k:Nat)(mk:List cC)(Kk:jH)(sk:List dB)(Lk:List dX)(mv v:Value):Prop where
 res:bG most su (W.map WB.m) mem K=(bG most su ((W.drop k).map WB.m) mk Kk).after k (Lk.map dX.st) sk
 KT:Eh Kk
 ml:mk.length<=most
 sl:sk.length<=200*k
 nd:oh wr nb B most (cs.set 15 mv) bv mv gc kc cc l Lc mk
 dL:aR wr gs n sb mb Kk
 jy:bW wr tb gs n v (st++sk)
 lnk:wr.ownsRow w.heap.size 156 2 jv k (eW Lk)
 la:Lk.map dX.a=(W.take k).map λx=>x.b.a
 ap:ApartL wr w.heap.size v Lk
 tk:Tk LB Y1 n mb w wr
 sin:tE w v0 wr v
def nX.tk{a w W n g m l}(h:nX w g l)(x:Tk LB a n m w W)(c:¬a 169)(d:¬a 139)(b:¬a 86):nX W g l:=⟨h.row.tk x c,λq H=>(h.ins q H).tk x d,λq H=>(h.outs q H).tk x b⟩
def af6{c:List Value}(m):(c.set 15 m)[6]?=c[6]?:=by rw[ot D9]
def af7{c:List Value}(m):(c.set 15 m)[9]?=c[9]?:=by rw[ot D9]
def HQ{c:List Value}(m a):(c.set 15 m).set 15 a=c.set 15 a:=by rw[List.set_set]
def JInv.call{w q N B d Q R P t L n b bv l o T M S W π K V O z k mk f A i mv ab}(p:Nat){x}(h:JInv LB w q N B d b bv Q R P l o t L n T M S W π K V O z k mk f A i mv ab)(af:W[k]?=some x)(ac:k<=100)(c:x.Ok l)(E:nX w x.gt x.Q)(U:b[6]?=some (.int .i64 p))(X:b[9]?=some (.int .i64 S))(I:0<p/\p<=8)(H:0<=S/\S<=1000000)(F:d<=64)(ae:O.length<=20000)(j:LB<=N/\LB<=B/\LB<=t):
 Cv 127 #[ptr N,ptr x.b.a,ptr t] q λe a=>e=.returned ((bQ d S x.b.aT (x.Q.map rH.t) mk f []).1)/\∃g v,oh a N B d (b.set 15 g) bv g Q R P l o (bQ d S x.b.aT (x.Q.map rH.t) mk f []).2.2/\aR a L n T M (bQ d S x.b.aT (x.Q.map rH.t) mk f []).2.1.K/\bW a t L n v (O++A++(bQ d S x.b.aT (x.Q.map rH.t) mk f []).2.1.steps)/\a.ownsRow w 156 2 z k (eW i)/\ApartL a w v i/\Tk LB Y1 n M w a/\tE w V a v:=by
 have G:Row q x.b.a 135 [↑x.b.id,.pointer<|x.b.par.map λaa=>⟨aa,0,none⟩,↑x.b.aT,↑x.b.wo,(x.gt,x.Q,x.cq),x.b.bad]:=by have:=h.nd.qz.row x.b c.mem;unfold kT.cells at this;rw[c.tv]at this;exact this
 have ad:=h.sl;have y:=adu p q G (E.tk h.tk (qx D9 D9 D9 D9 D9) (qx D9 D9 D9 D9 D9)<|qx D9 D9 D9 D9 D9) c.q c.q0 c.q8 c.qc h.dL h.jy h.nd.mem (by rw[af6];exact U) (by rw[af7];exact X) I H h.ml F h.KT (by rw[cB];omega) c.hh;rw[Zp]at y;refine y.mono λe a⟨rfl,C,⟨v,D,u⟩,⟨g,r⟩,J⟩=>?_;rw[HQ]at r;have Y:=afY (LB:=LB) J h.dL h.jy h.nd.mem ⟨j.2.2,j.1,j.2.1⟩;have s:=h.nd.joined (m:=g) Y (by rw[HQ];exact r);rw[HQ]at s;exact⟨rfl,g,v,s,C,D,qp h.lnk Y<|Qe D9 D9 D9 D9,h.ap.sin u,h.tk.trans<|Y.mono λag e=>.inl e,h.sin.trans u⟩
def I3(l m):eV (l++m)=eV l++eV m:=by simp[eV]
def TG{w:World}{B g c p l}(h:w.ownsRow B 234 7 (.slice (some ⟨g,0,none⟩) (p++l).length c) (p++l).length (eV<|p++l)):∀j u,(eV l)[j]?=some u->w.cell? (g,p.length*7+j)=some u:=by intro j u H;have:=h.cells (g:=g) rfl (p*7+j) u (by rw[I3,cZ (by rw[tC];omega),tC];rw[show p.length*7+j -p.length*7=j from by omega];exact H);rwa [add0]at this
def Tk.adX{Y n m w W c r}(h:Tk LB Y n m w W)(g:W.grownBy c r)(d:∀k,r=some k->w<=k):Tk LB Y n m w c:=have b:=λk(o:Obj)(O:Obj)(H:w.heap[k]?=some o)(a:W.heap[k]?=some O)=>(g.block k (bO a) λe=>by have:=d k e.symm;have:=bO H;omega).trans a;⟨g.os.trans h.os,g.tape.trans h.tape,g.output.trans h.output,cA h.size g.size,λk C t f H l=>b k _ _ H<|h.cells k C t f H l,λk o H j i=>b k _ _ H<|h.rest k o H j i⟩
def oh.aiT{w W N B q G K C d k j L x bv s J l M}(h:oh w N B q j bv s G K C l L M)(f:w.ownsRow d 156 2 J k x)(a:w.grownBy W J.ownBlock)(F:G<d):oh W N B q j bv s G K C l L M:=by
 have m:=λg t c(r:Row w g t c)(i:t≠156)=>(a.block g r.lt λe=>bR f r i e.symm).trans r;have p:∀{B e S n:Nat}{v:Value}{x:List Value},w.ownsRow B e S v n x->e≠156->W.ownsRow B e S v n x:=λo i=>dA o (λg c _ _ H=>a.block g (bO H) λe=>by have⟨_,D,y⟩:=bS f e.symm;cases y▸H;exact i rfl)
 refine⟨⟨m _ _ _ h.mem.row D9,h.mem.Ze,h.mem.KJ,p h.mem.own D9,cA h.mem.base a.size⟩,h.c11,h.SP,⟨p h.qz.own D9,λb z=>m _ _ _ (h.qz.row b z) D9⟩,dA h.chain λg c A _ H=>a.block g (bO H) λe=>?_⟩;cases A;have E:d<=G:=((bS f e.symm).1);omega
structure af8(LB:Nat)(w w':World)(nb B most:Nat)(cs:List Value)(bv:Value)(gc kc cc:Nat)(l':List kT)(Lc:List Value)(tb gs n:Nat)(sb mb:Nat->Nat)(v0:Value)(st:List dB)(J:JR)(m1 v1:Value):Prop where
 nd:oh w' nb B most (cs.set 15 m1) bv m1 gc kc cc l' Lc J.mem
 dL:aR w' gs n sb mb J.K
 jy:bW w' tb gs n v1 (st++J.st)
 tk:Tk LB Y1 n mb w w'
 sin:tE w v0 w' v1
def adY{u t G n B m F kc Y gw wc sb Q K V mv bv l C R M s p}(wk:Nat)(W:List WB)(pi:Nat->Option Nat)(ar:Nat->List Bool)(w)(hW:w.ownsRow 0 132 1 (.slice (some ⟨gw,0,none⟩) W wc) W (W.map λx=>Zv x.b))(hN:oh w u B m C bv mv F kc Y l R M)(A:∀x∈W,x.Ok l)(hX:∀x∈W,nX w x.gt x.Q)(am:∀x∈W,∃j,l[j]?=some x.b/\af5 l j (ar j) pi)
 (hC:aR w G n sb Q K)(hT:bW w t G n V p)(c6:C[6]?=some (.int .i64 wk))(c9:C[9]?=some (.int .i64 s))(b5:0<wk/\wk<=8)(b2:0<=s/\s<=1000000)(bh:M<=m)(bx:m<=64)(hK:Eh K)(b1:p.length<=20000)(b9:0<W.length)(ca:W.length<=100)(hl:l.length<=1000)(aw:LB<=u/\LB<=B/\LB<=t)(av:∀x∈l,LB<=x.a)(br:F<w):
 Cv 85 #[ptr u,.slice (some ⟨gw,0,none⟩) W wc,ptr t] w λe D=>∃P v,((bG m s (W.map WB.m) M K).e=0/\(∃gj cj aq,e=.returned (.tuple #[.slice (some ⟨gj,0,none⟩) W cj,aA])/\D.ownsRow w 156 2 (.slice (some ⟨gj,0,none⟩) W cj) W (eW aq)/\aq.map dX.st=(bG m s (W.map WB.m) M K).ls/\aq.map dX.a=W.map (λx=>x.b.a)/\ApartL D w v aq)/\af8 LB w D u B m C bv F kc Y l R t G n sb Q V p (bG m s (W.map WB.m) M K) P v)\/
  ((bG m s (W.map WB.m) M K).e≠0/\e=.returned (.tuple #[(),(bG m s (W.map WB.m) M K).e])/\∃x j,W[(bG m s (W.map WB.m) M K).at_]?=some x/\l[j]?=some x.b/\af8 LB w D u B m C bv F kc Y (l.mapIdx λi y=>y.mark<|(ar j).getD i false) R t G n sb Q V p (bG m s (W.map WB.m) M K) P v):=by
 have h0:JInv LB w w u B m C bv F kc Y l R t G n sb Q s W M K V p ↑() 0 M K [] [] mv V:=by refine⟨by rw[List.drop_zero];exact(TD _).symm,hK,bh,S8,by rw[rA hN.mem.KJ];exact hN,hC,by rw[kY];exact hT,mV _ _ _ _,rfl,λx r=>by simp at r,BM B0,tE.refl _ _⟩
 have an:∀wr,Tk LB Y1 n Q w wr->∀k x,W[k]?=some x->wr.cell? ⟨gw,k,none⟩=some (.pointer<|some ⟨x.b.a,0,none⟩):=λwr x k y O=>by have:=(qp hW x<|qx D9 D9 D9 D9 D9).cells (g:=gw) rfl k (Zv y.b) (by rw[eG,O];rfl);rwa [add0]at this
 have an:=aK an;have A:=aK A;have hX:=aK hX;have am:=aK am;have h0:=aK h0;have c6:=aK c6;have c9:=aK c9;have aw:=aK aw;have av:=aK av;clear hW hN hC hT bh hK;unfold ptr;go_enter fA func85,ntmps85;go_wp2;go_loopw [8,15] (λjv i wr=>∃k mk Kk z L mv a0,k<=W.length/\i=↑(k:Nat)/\JInv LB w wr u B m C bv F kc Y l R t G n sb Q s W M K V p jv k mk Kk z L mv a0) (λ_ i _=>W.length -(intOf i).toNat);case atStart=>exact⟨0,M,K,[],[],mv,V,O9,rfl,h0.out⟩
 case round=>
  clear h0;obtain⟨k,mk,Kk,z,L,mv,a0,hk,rfl,H⟩:=hrel;by_cases bg:k<W.length
  .have cb:(0:Int)<=k:=O9;have cd:(k:Int)<W.length:=O9;have r:=aY bg;have a7:=wH bg;generalize W[k]=x at r a7;have aj:=eY r;have q0:=an.out wr H.tk k x r;have⟨va,vc,hv⟩:=aS H.jy.own;have t1:wr.cell? (t,1)=some (.slice va (p++z).length vc):=by rw[<-hv];exact H.jy.row.cell 1
   have ag:=H.call wk r O9 (A.out x aj) (hX.out x aj) c6.out c9.out b5 b2 bx b1 aw.out;have o:=H.res;rw[a7,gJ]at o;have ap:(W.drop<|k+1).map WB.m=[]↔k+1=W.length:=by rw[List.map_eq_nil_iff,List.drop_eq_nil_iff];omega
   have bu:=(A.out x aj).hh;have aa:=HB m s x.b.aT (x.Q.map rH.t) mk (A.out x aj).hh H.KT (by rw[dS];exact(A.out x aj).q8) (λy O=>by obtain⟨b6,b0,rfl⟩:=gB.1 O;have:=(A.out x aj).q b6 b0;exact⟨this.li,this.lo,this.so⟩);have ay:=HP (su:=s) (h:=x.b.aT) (eO:=x.Q.map rH.t) (K:=Kk) (st:=[]) H.ml;have ce:=H.sl;have J:=H.la;have ab:=λ(e:(bQ m s x.b.aT (x.Q.map rH.t) mk Kk []).1=0)=>o.trans<|TE (x:=x.m) e k (L.map dX.st) z;have ac:=λ(e:(bQ m s x.b.aT (x.Q.map rH.t) mk Kk []).1≠0)=>o.trans<|TF (x:=x.m) e k (L.map dX.st) z;simp only[WB.m]at ab ac;generalize bQ m s x.b.aT (x.Q.map rH.t) mk Kk []=bl at ag aa ay ab ac;have⟨a1,S,M'⟩:=bl;simp only at ag aa ay ab ac;have bo:(p++z).length<=40000:=by rw[cB];omega
   clear o a7 hv;unfold ptr at ag;have ag:=aK ag;have ab:=aK ab;have ac:=aK ac;have aa:=aK aa;have J:=aK J;have ap:=aK ap;have r:=aK r;clear H bu;generalize al:(p++z).length=d at t1 bo;have al:=aK al;go_wp2;refine ag.out.mono ?_;rintro e f⟨rfl,P,v,N,C1,T,O1,A1,x1,s1⟩;clear ag t1 q0;by_cases hE:a1=0
   .subst hE;have b3:=T.own.2;have k1:=T.row.r 1;have ak:(p++z++S.steps).length=d+S.steps.length:=by rw[cB,al.out]
    have bi:=ab.out rfl;obtain⟨ja,jc,rfl⟩:=aS O1;have π:Hid (∀b c a,Below f f a->(S.steps=[]\/∃g,b=some ⟨g,0,none⟩/\(f:Nat)<=g/\wM a g S.steps)->Row (a.alloc<|.cells [.pointer<|some ⟨x.b.a,0,none⟩,.slice b S.steps.length c].toArray 156) ↑a 156 [.pointer x.b.a,.slice b S.steps.length c]/\(w:Nat)<=(a.alloc<|.cells [.pointer<|some ⟨x.b.a,0,none⟩,.slice b S.steps.length c].toArray 156).heap.size/\(a.alloc<|.cells [.pointer<|some ⟨x.b.a,0,none⟩,.slice b S.steps.length c].toArray 156).ownsRow ↑w 156 2 (.slice ja k jc) k (eW L)/\∀v2 w3,(a.alloc<|.cells [.pointer<|some ⟨x.b.a,0,none⟩,.slice b S.steps.length c].toArray 156).grownBy w3 (Value.slice ja k jc).ownBlock->w3.ownsRow ↑w 156 2 v2 (k+1) (eW L++[.pointer<|some ⟨x.b.a,0,none⟩,.slice b S.steps.length c])->JInv LB w w3 u B m C bv F kc Y l R t G n sb Q s W M K V p v2 (k+1) M' S.K (z++S.steps) (L++[⟨x.b.a,S.steps,b,c⟩]) P v):=by
     intro b c a ao az;have hA:Below f f (a.alloc<|.cells [.pointer<|some ⟨x.b.a,0,none⟩,.slice b S.steps.length c].toArray 156):=ao.alloc ao.size _;have bm:=Ba a<|.cells [.pointer<|some ⟨x.b.a,0,none⟩,.slice b S.steps.length c].toArray 156;have U:=aP O1 hA;refine⟨aX a _ _,cA x1.size hA.size,U,λv2 w3 gr o2=>?_⟩;have bj:dN (a.alloc<|.cells [.pointer<|some ⟨x.b.a,0,none⟩,.slice b S.steps.length c].toArray 156) w3:=λg a2 au I=>(gr.block g (bO I) λe=>by have⟨_,c',h3⟩:=bS U e.symm;cases h3▸I).trans I
     have sA:=(adk v hA).trans<|Hs v bj gr.size;have TA:bW (a.alloc<|.cells [.pointer<|some ⟨x.b.a,0,none⟩,.slice b S.steps.length c].toArray 156) t G n v (p++z++S.steps):=⟨T.row.keep hA T.row.lt,aP T.own hA⟩;refine⟨?_,aa.out.1,ay,?_,(N.keep hA).aiT U gr br,(C1.keep hA).grown U gr D9 D9,?_,?_,?_,?_,(x1.trans<|BM hA).adX gr λg e=>(bS U e).1,s1.trans sA⟩;rw[kq];exact bi;rw[cB];have:=aa.out.2;omega;rw[<-dP];exact TA.grown U gr D9 D9;rw[tD];exact o2;rw[kq,J.out,oz,r.out];simp;intro y O;obtain O|O:=nA.1 O;exact A1.sin sA y O;rw[pO.1 O];obtain e|⟨g,e,hg,hL⟩:=az;exact .inl e;refine .inr ⟨g,e,cA x1.size hg,λe2=>?_,?_⟩;have⟨_,c',h3⟩:=bS T.own e2;have:=bO h3;omega;have⟨a2,au,I⟩:=hL.ty;have e3:=bj g a2 au<|(bm.block g<|bO I).trans I;exact⟨⟨a2,au,e3⟩,λi bb hi=>(hL.at_ i bb hi).same<|e3.trans I.symm⟩
    clear ab ac bi N C1 O1 A1 x1 s1 J ap an A hX am av aw r ay;obtain⟨rfl,h0⟩|⟨g',E,b7,ad,_,_,bq,_⟩:=b3;have bd:S.steps.length=0:=O9;have bz:d=0:=O9;subst bz;have ah:=aK (adW none 0 0 S.steps f bd O9<|.inl ⟨rfl,rfl,rfl⟩);rw[bd]at π;clear ak h0 al;rotate_left;have b4:v=.slice g' (d+S.steps.length) E:=by rw[ad,ak]
    have a4:=T.own;rw[ad]at a4;have a5:=TG a4;rw[al.out]at a5;rw[ak]at bq;subst b4;have ah:∀la,la=(if E=d then some ((g',0):Addr)else some (g',d*7))->Cv 129 #[.slice la S.steps.length<|E -d] f λe D=>∃b c,e=.returned (.slice b S.steps.length c)/\(S.steps=[]\/∃g,b=some ⟨g,0,none⟩/\(f:Nat)<=g/\wM D g S.steps)/\Below f f D:=by rintro la rfl;refine adW _ S.steps.length _ S.steps f rfl (by have:=aa.out.2;omega) ?_;by_cases e:E=d;have e2:S.steps=[]:=lW O9;rw[aN e,e2];exact .inr ⟨g',0,rfl,λi bk hi=>by simp[eV]at hi⟩;rw[aJ e];exact .inr ⟨g',d*7,rfl,a5⟩
    have i0:(0:Int)<=d:=O9;have i1:(d:Int)<=((d+S.steps.length:Nat):Int):=O9;have i2:((d+S.steps.length:Nat):Int)<=(E:Int):=O9;have ax:∃la lc,Hid (Cv 129 #[.slice la S.steps.length lc] f λe D=>∃b c,e=.returned (.slice b S.steps.length c)/\(S.steps=[]\/∃g,b=some ⟨g,0,none⟩/\f.heap.size<=g/\wM D g S.steps)/\Below f.heap.size f D)/\((E=d/\la=some ⟨g',0,none⟩/\lc=0)\/(E≠d/\la=some ⟨g',d*7,none⟩/\lc=E -d)):=by by_cases e:E=d;exact⟨_,0,by have:=ah _ rfl;rw[aN e,e,rK]at this;exact this,.inl ⟨e,rfl,rfl⟩⟩;exact⟨_,_,by have:=ah _ rfl;rw[aJ e]at this;exact this,.inr ⟨e,rfl,rfl⟩⟩
    have⟨la,lc,ax,a6⟩:=ax;clear ah;have ah:=ax;clear ax;clear ak a4 a5 ad al T aa;obtain⟨a6,rfl,rfl⟩|⟨a6,rfl,rfl⟩:=a6;all_goals
     go_wp2;refine ah.out.mono ?_;rintro e a⟨b,c,rfl,az,ao⟩;have⟨N,bn,U,a3⟩:=π.out b c a ao az;have a3:=aK a3;have hn:=aK λi bk(hj:_=some bk)=>(N.cell i).trans hj;have bt:k+1<=100000:=O9;clear ah π N az ao;go_wp2_with (refine vz rfl _ _ rfl (.slice ja k jc) k (eW L) E9 U (a:Nat) 1 1 _ rfl E9 hn.out (by simp[Value.oneCell']) bt bn ?_;intro v2 w3 bc g1;have⟨ig,ic,ad⟩:=cX bc k rfl;subst ad);go_roundw;case rel=>exact⟨k+1,M',S.K,z++S.steps,L++[⟨x.b.a,S.steps,b,c⟩],P,_,O9,by go_num,a3.out _ _ g1 bc⟩
     case measure=>simp[intOf];omega
   have b8:(a1==0)=false:=by simpa using hE
   have⟨j,hj,hs⟩:=am.out x aj;have ai:=aiS x.b f N.mem.row N.c11 N.qz hs hj hl;have o:=aK<|ac.out hE;unfold ptr at ai;have π:Hid (∀a,jM a B bv (l.mapIdx λi y=>y.mark<|(ar j).getD i false)->Row a u 130 (C.set 15 P)->Xc (λk=>∃x∈l,k=x.a) f a->af8 LB w a u B m C bv F kc Y (l.mapIdx λi y=>y.mark<|(ar j).getD i false) R t G n sb Q V p (bG m s (W.map WB.m) M K) P v/\W[(bG m s (W.map WB.m) M K).at_]?=some x):=by intro a ae af X;have y2:=adK (LB:=LB) X C1 N.qz av.out;have e2:=o.out;rw[e2];refine⟨⟨⟨⟨af,N.mem.Ze,N.mem.KJ,qp N.mem.own y2 (by unfold Yb;decide),Nat.le_trans N.mem.base X.size⟩,N.c11,N.SP,ae,qp N.chain y2<|by unfold Yb;decide⟩,C1.blk X N.qz,?_,x1.trans<|y2.mono λcf e=>.inr e,s1.trans<|tE.all _ (dN.of X λk C au I⟨bb,hz,e⟩=>?_) X.size⟩,r.out⟩;have:=T.tk y2 (by unfold Yb;decide) (by unfold Yb;decide);rw[dP]at this;exact this;subst e;have hr:=N.qz.row bb hz;unfold Row at hr;cases hr▸I
   have ai:=aK ai;clear N C1 T O1 A1 x1 s1 ab ac hs am A hX an;by_cases bf:k+1=W.length
   .have ak:¬(k:Int)<W.length -1:=O9;go_wp2;refine ai.out.mono ?_;rintro e a⟨rfl,ae,af,X⟩;have hf:=aK<|π.out a ae af X;have q:(bG m s (W.map WB.m) M K).e=a1:=by rw[o.out];exact aN<|ap.out.2 bf
    have q:=aK q;clear ae af X π ai;go_wp2;go_ret2;refine⟨P,v,.inr ⟨by rw[q.out];exact hE,by rw[q.out];rfl,x,j,hf.out.2,hj,hf.out.1⟩⟩
   have ak:(k:Int)<W.length -1:=O9;go_wp2;refine ai.out.mono ?_;rintro e a⟨rfl,ae,af,X⟩;have hf:=aK<|π.out a ae af X;have q:(bG m s (W.map WB.m) M K).e=13:=by rw[o.out];exact aJ λe=>bf<|ap.out.1 e
   have q:=aK q;clear ae af X π ai;go_wp2;go_ret2;refine⟨P,v,.inr ⟨by rw[q.out];decide,by rw[q.out];rfl,x,j,hf.out.2,hj,hf.out.1⟩⟩
  have bs:k=W.length:=O9;subst bs;have⟨n1,ba⟩:∃n1,W.length=n1+1:=⟨W.length -1,O9⟩;have⟨ig,ic,ad⟩:=cX H.lnk n1 ba;rw[<-ba]at ad;subst ad;clear ba;have o:=H.res;rw[U3]at o;simp only[qL,bG,JR.after,kY]at o;have J:=H.la;rw[gQ]at J;have a8:af8 LB w wr u B m C bv F kc Y l R t G n sb Q V p (bG m s (W.map WB.m) M K) mv a0:=by rw[o];exact⟨H.nd,H.dL,H.jy,H.tk,H.sin⟩
  have q:(bG m s (W.map WB.m) M K).e=0:=by rw[o]
  have a9:L.map dX.st=(bG m s (W.map WB.m) M K).ls:=by rw[o]
  have bw:=aK H.lnk;have bp:=aK H.ap;have a8:=aK a8;have q:=aK q;have a9:=aK a9;have J:=aK J;clear H o an A hX am;go_wp2;go_ret2;exact⟨mv,a0,.inl ⟨q.out,⟨ig,ic,L,rfl,bw.out,a9.out,J.out,bp.out⟩,a8.out⟩⟩
end
open Go.Seq
section
variable{LB:Nat}
def Ty(b B a w)(h:w.cell? (a,0)=some ↑aD):CallsDIn Fence.wide b Vp 81 #[.pointer<|some ⟨a,0,none⟩,.pointer<|some ⟨B,0,none⟩] .returning w (λe c W=>c=.returning/\(∃v,e=.returned v)/\W=w):=by
 refine wV (fA func81) rfl ?_;go_wp2;go_end0;exact⟨⟨_,rfl⟩,rfl⟩
end
section
def adL:=@grownBy_putObj'
variable{LB:Nat}
def ki{w:World}{B j s n e v a}(h:w.ownsRow j e s v n a)(d:B<=j):w.ownsRow B e s v n a:=by refine⟨h.1,?_⟩;obtain i|⟨g,C,k,f,b,c⟩:=h.2;simp_all;exact .inr ⟨g,C,k,f,cA d b,c⟩
structure Ck(LB:Nat)(Y:TypeId->Prop)(w w':World):Prop where
 size:w.heap.size<=w'.heap.size
 cells:∀(k:Nat)(cs:Array Value)(t:TypeId)(f:Nat×Nat),w.heap[k]?=some (.cells cs t f)->k<LB\/¬Y t->w'.heap[k]?=some (.cells cs t f)
def Tk.ck{Y n m w W}(h:Tk LB Y n m w W):Ck LB Y w W:=⟨h.size,h.cells⟩
def Row.ck{a g w W t c}(h:Row w g t c)(x:Ck LB a w W)(b:¬a t):Row W g t c:=x.cells _ _ _ _ h<|.inr b
def zJ{a s m B w W e v c}(h:w.ownsRow B e s v m c)(x:Ck LB a w W)(d:¬a e):W.ownsRow B e s v m c:=dA h λk C _ _ b=>(x.cells k C e _ b<|.inr d).trans b.symm
def oh.ck{a w W n B c G K C k L bv M l m}(h:oh w n B c k bv M G K C l L m)(x:Ck LB a w W)(d:¬a 130)(e:¬a 298)(f:¬a 132)(g:¬a 135)(i:¬a 156):oh W n B c k bv M G K C l L m:=⟨⟨h.mem.row.ck x d,h.mem.Ze,h.mem.KJ,zJ h.mem.own x e,cA h.mem.base x.size⟩,h.c11,h.SP,⟨zJ h.qz.own x f,λb j=>(h.qz.row b j).ck x g⟩,zJ h.chain x i⟩
def bW.ck{a w W t g n v l}(h:bW w t g n v l)(x:Ck LB a w W)(b:¬a 181)(c:¬a 234):bW W t g n v l:=⟨h.row.ck x b,zJ h.own x c⟩
def adM{w D o o'}(h:w.heap[D]?=some o)(b:o.isCells=false):Ck LB (λ_=>False) w (w.putObj D o'):=⟨by simp[World.putObj],λk c t f a _=>lL (adL w D o') (λr e=>by cases e;exact⟨o,h,b⟩) k c t f a⟩
theorem aR.put{w D G n s m K o o'}(a:aR w G n s m K)(h:w.heap[D]?=some o)(j:o.isCells=false)(d:∀i,i<n->m i≠D):aR w (G) n s m K/\aR (w.putObj D o') G n s m K:=by
 have g:=adL w D o';have b:∀k t C,Row w k t C->k≠D:=λk t C r e=>by subst e;unfold Row at r;cases h▸r;simp[Obj.isCells]at j
 refine⟨a,a.xc (S:=λk=>k=D) ⟨g.os,g.tape,g.output,g.size,λk c f=>g.block k c λe=>f<|by simpa using e⟩ (b _ _ _ a.arr) (λi H=>b _ _ _<|a.sh i H) d⟩
def mP{w g j n mb t C}(r:Row w g t C)(v)(h:LB<=g):Tk LB (λu=>u=t) n mb w (w.setCell ⟨g,j,none⟩ v):=by have G:=cI w (g,j) v;refine⟨G.os,G.tape,G.output,G.size,λk d i f a b=>(G.block k (bO a) λe=>?_).trans a,λk o a c _=>(G.block k (bO a) λe=>?_).trans a⟩;simp at e;subst e;unfold Row at r;cases a▸r;obtain b|b:=b;omega;simp_all;simp at e;subst e;unfold Row at r;cases a▸r;simp[Obj.isCells]at c
def aR.tkc{b w W G n s m K}(a:aR w G n s m K)(x:Tk LB b 0 m w W)(d:¬b 192)(e:¬b 196):aR W G n s m K:=by refine⟨a.arr.tk x d,λi h=>(a.sh i h).tk x e,λi h=>(a.mp i h).same ?_,a.pt,a.inj,a.lo,a.hi⟩;have⟨o,c,f⟩:=a.maps (m i) ⟨i,h,rfl⟩;exact(x.rest (m i) o c f<|by rintro⟨j,g,_⟩;omega).trans c.symm
def Tk.zero{a n m w W}(h:Tk LB a 0 m w W):Tk LB a n m w W:=⟨h.os,h.tape,h.output,h.size,h.cells,λk o b c _=>h.rest k o b c<|by rintro⟨j,d,_⟩;omega⟩
def Tk.zK{c n g j M w W}(h:Tk LB c n M w W)(v)(q:↑w<=g):Tk LB c n M w (W.setCell ⟨g,j,none⟩ v):=have G:=cI W (g,j) v;have i:=λk(o:Obj)(b:Obj)(a:w.heap[k]?=some o)(d:W.heap[k]?=some b)=>(G.block k (bO d) λe=>by simp at e;have:=bO a;omega).trans d;⟨G.os.trans h.os,G.tape.trans h.tape,G.output.trans h.output,cA h.size G.size,λk C t f a p=>i k _ _ a<|h.cells k C t f a p,λk o a m l=>i k _ _ a<|h.rest k o a m l⟩
def Tk.adN{c n D M w W}(h:Tk LB c n M w W)(O)(m:↑w<=D):Tk LB c n M w (W.putObj D O):=have G:=adL W D O;have g:=λk(o:Obj)(b:Obj)(a:w.heap[k]?=some o)(d:W.heap[k]?=some b)=>(G.block k (bO d) λe=>by simp at e;have:=bO a;omega).trans d;⟨G.os.trans h.os,G.tape.trans h.tape,G.output.trans h.output,cA h.size G.size,λk C t f a l=>g k _ _ a<|h.cells k C t f a l,λk o a j i=>g k _ _ a<|h.rest k o a j i⟩
end
end Go.Proofs.aH
