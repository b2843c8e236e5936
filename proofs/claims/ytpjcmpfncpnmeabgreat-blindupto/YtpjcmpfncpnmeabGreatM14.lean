import Derived.StillTailTactics
import Derived.Test.YtpjcmpfncpnmeabGreatM13
set_option linter.all false
set_option maxHeartbeats 8000000
set_option maxRecDepth 100000
namespace Go.Proofs.aH
open Go.RowKit Tryz
attribute [local go_sem↓] Go.wp_at_zero Go.wp_at_succ
def og:List ByteArray->ByteArray->Nat->Int
 |[],_,_=>-1
 |x::l,s,k=>if x=s then(k:Int)else og l s (k+1)
def Ip:∀l s k,s∈l->∃i,og l s k=((k+i:Nat):Int)/\l[i]?=some s
 |[],s,k,h=>by simp at h
 |x::l,s,k,h=>by
   unfold og;by_cases e:x=s;.rw[bD e];exact⟨0,S8,by simp[e]⟩
   .rw[aT e];have⟨i,a,b⟩:=Ip l s (k+1) (by obtain h|h:=iN.1 h;exact absurd h.symm e;exact h);exact⟨i+1,by rw[a];congr 1;omega,by simpa using b⟩
def FL:∀l s k,s∉l->og l s k=-1
 |[],s,k,h=>rfl
 |x::l,s,k,h=>by unfold og;rw[aT (λe=>h (by simp[e]))];exact FL l s (k+1) (λe=>h (by simp[e]))
abbrev P4(B:Nat)(w:World)(v:Value)(l:List ByteArray):Prop:=w.ownsRow B 9 1 v l.length (l.map Value.string)
def JI{B w v l}(h:P4 B w v l){k x}(b:l[k]?=some x):∃g c,v=.slice (some ⟨g,0,none⟩) l.length c/\w.cell? ⟨g,k,none⟩=some (.string x):=by
 have i:=(cE.1 b).1;have d:=λg (a:v.ownBlock=some g)=>uU (g:=g) h a;obtain⟨_,h0⟩|⟨g,cap,cur,e,f,a,_⟩:=h.2;.omega
 .subst e;refine⟨g,cap,rfl,?_⟩;have:=d g rfl k ↑x (by rw[cT,b];rfl);rwa [add0]at this
def UE{B v l}(s w)(h:P4 B w v l)(r:l.length<=20000000):Cv 16 #[v,.string s] w λe w'=>e=.returned (og l s 0)/\w'=w:=by
 obtain⟨x,y,rfl⟩:=bG h;go_enter fA func16,ntmps16;go_wp2;go_loopw [5] (λi wr=>∃k:Nat,k<=l.length/\i=↑k/\og l s 0=og (l.drop k) s k/\wr=w) (λi _=>l.length -(intOf i).toNat);exact⟨0,O9,rfl,rfl,rfl⟩;case round=>
  obtain⟨k,p,rfl,j,rfl⟩:=hrel;by_cases m:k<l.length
  .have n:=bS m;have d:=xL m;generalize l[k]=b at n d;have⟨g,c,o,u⟩:=JI h n;cases o;have q:(0:Int)<=(k:Int):=O9;by_cases f:b=s
   .have a:Hid (og l s 0=(k:Int)):=by show _=_;rw[j,d];unfold og;rw[if_pos f]
    go_wp2;go_ret;exact⟨by rw[a.out];rfl,rfl⟩
   .have a:Hid (og l s 0=og (l.drop (k+1)) s (k+1)):=by show _=_;rw[j,d,og,aT f]
    have t:(b.toList==s.toList)=false:=by simpa using qq f
    go_wp2;go_roundw;exact⟨k+1,O9,by go_num,a.out,by trivial⟩;simp[intOf];omega
  .have a:Hid (og l s 0=-1):=by show _=_;rw[j,Wv O9];rfl
   go_wp2;go_ret;exact⟨by rw[a.out];rfl,rfl⟩
def yJ(kind n:Int)(id:List UInt8)(wrong:Bool):List UInt8:=let m:=if wrong then(n+1)%64 else n;if kind=1 then[byteOf m]else if kind=2 then 64::be (hN (be m 8++id)) 8 else if wrong then[76]else[]
def abY(pt ix kind n id wrong w)(z:0<=kind/\kind<4)(t:0<=n/\n<64)(y:id.length<=100):Cv 42 #[.agg #[.string pt,.int .i64 ix,.int .i64 kind,.int .i64 n],(mk id),.bool wrong] w λe w'=>e=.returned (mk (yJ kind n id wrong))/\Below w w w':=by
 have a:Below w w (w.alloc (.cells #[pt,ix,kind,n] 64)):=B0.alloc L9 _;obtain⟨m,o⟩:∃m,m=if wrong then(n+1)%64 else n:=⟨_,rfl⟩;have A:0<=m/\m<64:=by rw[o];split<;>omega
 have l:=λW=>Bb m W O9 O9;have j:=λW=>Bb 76 W D9 D9;have k:=λW=>qK m W O9 O9;have h:=λW=>Fh (be m 8++id) W (by simp[bT];omega);have g:=λW=>Mk (hN (be m 8++id)) W (Fi _).1 (by have:=(Fi (be m 8++id)).2;omega);have b:Hid (yJ kind n id wrong=if kind=1 then[byteOf m]else if kind=2 then 64::be (hN (be m 8++id)) 8 else if wrong then[76]else[]):=by show _=_;unfold yJ;rw[<-o]
 have D:IntKind.u64.wrap m=m:=by rw[IntKind.wrap_u64];omega
 have s:mk (be m 8)++mk id=mk (be m 8++id):=Bc _ _;have f:wrong=true->(n+1).tmod 64=m:=λe=>by rw[o,bD e,adg O9]
 have i:wrong=false->n=m:=λe=>by rw[o,e];rfl
 have B:=t.1;have C:=t.2;have v:(mk (be m 8)).size=8:=by rw[dG,bT]
 have E:=dG id;generalize be m 8++id=T at h g b s;have u:=Fi T;generalize hN T=H at h g b u;generalize be m 8=x at k s v;generalize 64::be H 8=q at g b;replace o:=aL o;obtain rfl|rfl|rfl|rfl:=(by omega:kind=0\/kind=1\/kind=2\/kind=3);all_goals cases wrong
 .have c:Hid (yJ 0 n id false=[]):=by show _=_;rw[b.out];simp
  clear b i f l k h g j;go_enter fA func42,ntmps42;go_wp2;go_ret;exact⟨by rw[c.out];rfl,a⟩
 .have c:Hid (yJ 0 n id true=[byteOf 76]):=by show _=_;rw[b.out];simp;rfl
  have r:=f rfl;clear b i f l k h g;go_enter fA func42,ntmps42;go_wp2;refine(j _).m1 λw1 d=>?_;go_wp2;go_ret;exact⟨by rw[c.out];rfl,a.trans (d.mono a.size)⟩
 .have c:Hid (yJ 1 n id false=[byteOf m]):=by show _=_;rw[b.out];simp
  cases i rfl;clear b i f j k h g;go_enter fA func42,ntmps42;go_wp2;refine(l _).m1 λw1 d=>?_;go_wp2;go_ret;exact⟨by rw[c.out];rfl,a.trans (d.mono a.size)⟩
 .have c:Hid (yJ 1 n id true=[byteOf m]):=by show _=_;rw[b.out];simp
  have r:=f rfl;clear b i f j k h g;go_enter fA func42,ntmps42;go_wp2;refine(l _).m1 λw1 d=>?_;go_wp2;go_ret;exact⟨by rw[c.out];rfl,a.trans (d.mono a.size)⟩
 .have c:Hid (yJ 2 n id false=q):=by show _=_;rw[b.out];simp
  cases i rfl;clear b i f j l;go_enter fA func42,ntmps42;go_wp2;refine(k _).m1 λw1 d=>?_;replace a:=a.trans (d.mono a.size);go_wp2;refine(h _).m0 ?_;go_wp2;refine(g _).m1 λw3 p=>?_;go_wp2;go_ret;exact⟨by rw[c.out];rfl,a.trans (p.mono a.size)⟩
 .have c:Hid (yJ 2 n id true=q):=by show _=_;rw[b.out];simp
  have r:=f rfl;clear b i f j l;go_enter fA func42,ntmps42;go_wp2;refine(k _).m1 λw1 d=>?_;replace a:=a.trans (d.mono a.size);go_wp2;refine(h _).m0 ?_;go_wp2;refine(g _).m1 λw3 p=>?_;go_wp2;go_ret;exact⟨by rw[c.out];rfl,a.trans (p.mono a.size)⟩
 .have c:Hid (yJ 3 n id false=[]):=by show _=_;rw[b.out];simp
  clear b i f l k h g j;go_enter fA func42,ntmps42;go_wp2;go_ret;exact⟨by rw[c.out];rfl,a⟩
 .have c:Hid (yJ 3 n id true=[byteOf 76]):=by show _=_;rw[b.out];simp;rfl
  go_enter fA func42,ntmps42;go_wp2;refine(j _).m1 λw1 d=>?_;go_wp2;go_ret;exact⟨by rw[c.out];rfl,a.trans (d.mono a.size)⟩
def kC(c:fV):fV:=⟨1+jM c.wk 8,1+jM c.sh 16,jM c.me 65,50+jM c.su 951,jM c.bi 3⟩
def DG(c):(kC c).ok=true/\50<=(kC c).su/\0<=(kC c).bi/\(kC c).bi<=2:=by have a:=kN c.wk 8 D9;have b:=kN c.sh 16 D9;have d:=kN c.me 65 D9;have e:=kN c.su 951 D9;have f:=kN c.bi 3 D9;unfold kC fV.ok p5;simp;refine⟨⟨⟨⟨⟨?_,?_⟩,?_,?_⟩,?_,?_⟩,?_,?_⟩,?_,?_⟩<;>omega
structure fV.Ints(c:fV):Prop where
 wk:-9223372036854775808<=c.wk/\c.wk<9223372036854775808
 sh:-9223372036854775808<=c.sh/\c.sh<9223372036854775808
 me:-9223372036854775808<=c.me/\c.me<9223372036854775808
 su:-9223372036854775808<=c.su/\c.su<9223372036854775808
 bi:-9223372036854775808<=c.bi/\c.bi<9223372036854775808
def R9(c w)(a:c.Ints):Cv 17 #[c.v] w λe w'=>e=.returned (kC c).v/\Below w w w':=by
 have E:=λW=>qJ c.wk 8 W D9 D9 a.wk.1 a.wk.2;have G:=λW=>qJ c.sh 16 W D9 D9 a.sh.1 a.sh.2;have H:=λW=>qJ c.me 65 W D9 D9 a.me.1 a.me.2;have I:=λW=>qJ c.su 951 W D9 D9 a.su.1 a.su.2;have J:=λW=>qJ c.bi 3 W D9 D9 a.bi.1 a.bi.2;have b1:=kN c.wk 8 D9;have b2:=kN c.sh 16 D9;have b3:=kN c.me 65 D9;have z:=kN c.su 951 D9;have b5:=kN c.bi 3 D9;have x:Hid ((kC c).v=.agg #[↑(1+jM c.wk 8),↑(1+jM c.sh 16),↑(jM c.me 65),↑(50+jM c.su 951),↑(jM c.bi 3)]):=rfl;generalize jM c.wk 8=m,jM c.sh 16=n,jM c.me 65=o,jM c.su 951=q,jM c.bi 3=r at*;obtain⟨h,i,j,k,l⟩:=c;unfold fV.v at x|-;simp only at*;go_enter fA func17,ntmps17;go_wp2;have π:Hid (∀(y:Array Value) (w:World),(callFunc 38 y).run Vp w=.ok (.enter 38 y) w):=λ_ _=>by kernel_rfl
 have f:=(aU w [h,i,j,k,l] 23).alloc (.cells #[aA,aA,aA,aA,aA] 23);have b:=aU (w.alloc (.cells #[h,i,j,k,l] 23)) [aA,aA,aA,aA,aA] 23;rw[bL]at b;have u:Below w.heap.size w ((w.alloc (.cells #[h,i,j,k,l] 23)).alloc (.cells #[aA,aA,aA,aA,aA] 23)):=(B0.alloc L9 _).alloc S8 _;generalize(w.alloc (.cells #[h,i,j,k,l] 23)).alloc (.cells #[aA,aA,aA,aA,aA] 23)=X at f b u|-;have c0:=(jZ f).r 0;have c1:=(jZ f).r 1;have c2:=(jZ f).r 2;have c3:=(jZ f).r 3;have c4:=(jZ f).r 4;have Q:=(jZ b).r 0;have R:=(jZ b).r 1;have S:=(jZ b).r 2;have T:=(jZ b).r 3;have μ:=(jZ b).r 4;have d:Row X.drew (w.heap.size+1) 23 [aA,aA,aA,aA,aA]:=b;have f0:=d.frozen 0;have f1:=d.frozen 1;have f2:=d.frozen 2;have V:=d.frozen 3;have Y:=d.frozen 4;have aa:=d.lt;have A:=cX u;obtain⟨K,L⟩:=b1;obtain⟨M,N⟩:=b2;obtain⟨O,P⟩:=z;refine wp_region_still_tail 19 FD K8 ?_;simp only[Ww,List.take_zero,List.drop_succ_cons,List.drop_zero];show wpStill _ _ X.drew (λa'=>wpList _ _ _ _ a' X.drew) _ _;generalize X.drew=s at*;iterate 2 still_step
 still_call (E _);iterate 3 still_step
 still_call (G _);iterate 3 still_step
 still_call (H _);iterate 2 still_step
 still_call (I _);iterate 3 still_step
 still_call (J _);still_step;refine wpStill_nil ?_;go_wp2;have g:=((((d.set 0 ↑(1+m)).set 1 ↑(1+n)).set 2 ↑o).set 3 ↑(50+q)).set 4 ↑r;have t:Below w.heap.size w (((((s.setCell ⟨w.heap.size+1,0,none⟩ ↑(1+m)).setCell ⟨w.heap.size+1,1,none⟩ ↑(1+n)).setCell ⟨w.heap.size+1,2,none⟩ ↑o).setCell ⟨w.heap.size+1,3,none⟩ ↑(50+q)).setCell ⟨w.heap.size+1,4,none⟩ ↑r):=((((A.setCell (p:=⟨w.heap.size+1,0,none⟩) (zf _) _).setCell (p:=⟨w.heap.size+1,1,none⟩) (zf _) _).setCell (p:=⟨w.heap.size+1,2,none⟩) (zf _) _).setCell (p:=⟨w.heap.size+1,3,none⟩) (zf _) _).setCell (p:=⟨w.heap.size+1,4,none⟩) (zf _) _;generalize((((s.setCell ⟨w.heap.size+1,0,none⟩ ↑(1+m)).setCell ⟨w.heap.size+1,1,none⟩ ↑(1+n)).setCell ⟨w.heap.size+1,2,none⟩ ↑o).setCell ⟨w.heap.size+1,3,none⟩ ↑(50+q)).setCell ⟨w.heap.size+1,4,none⟩ ↑r=F at g t|-;have k0:=g.r 0;have B:=g.r 1;have k2:=g.r 2;have C:=g.r 3;have D:=g.r 4;exact nC (v:=.agg #[↑(1+m),↑(1+n),o,↑(50+q),r]) (by simp[results,results17,go_sem,k0,B,k2,C,D]) rfl ⟨by rw[x.out],t⟩
def wB(p:List UInt8)(bits:Nat)(ts:List x7)(n:Nat):pn:=⟨p,bits,n,ts⟩
def wS(p:List UInt8)(bits:Nat)(ts:List x7)(n:Nat):List UInt8:=uq (wB p bits ts n)
def Shown(p:List UInt8)(bits:Nat)(ts:List x7)(n:Nat):Prop:=(iK (wS p bits ts n)).toNat%2^bits=0
def MZ(b)(a:b<=8):wrap64 (2^b)=((2^b:Nat):Int):=by
 have c:(2:Int)^b=((2^b:Nat):Int):=by simp
 have d:2^b<=2^8:=KF D9 a;have h0:(0:Int)<=((2^b:Nat):Int):=G8 _;unfold wrap64;omega
def abZ(x b:Nat)(a:b<=8):((x:Int)%wrap64 (2^b)==0)=decide (x%2^b=0):=by
 rw[MZ b a,<-Int.natCast_emod];by_cases e:x%2^b=0;.simp_all
 .grind
def ab0(b)(a:b<=8):¬wrap64 (2^b)=0:=by rw[MZ b a];have:0<2^b:=Nat.pow_pos D9;omega
def P5(p bits C ta d ds w)(μ:x8 w (.slice ta ds.length d) ds)(V:bits<=8)(M:∀n,n<65536->mQ (wB p bits (ds.map eT.m) n)=true):Cv 43 #[.agg #[(mk p),bits,.int .i64 C,.slice ta ds.length d]] w λe w'=>Below w w w'/\∃n,n<65536/\e=.returned (.tuple #[.string (mk (wS p bits (ds.map eT.m) n)),.string (kT (wS p bits (ds.map eT.m) n))])/\((Shown p bits (ds.map eT.m) n/\∀j,j<n->¬Shown p bits (ds.map eT.m) j)\/∀m,m<65536->¬Shown p bits (ds.map eT.m) m):=by
 have aj:Hid (∀(n:Nat) (W:World),n<65536->Below w w W->Cv 40 #[.agg #[↑(mk p),bits,↑(n:Int),.slice ta ds.length d]] W λe w'=>e=.returned (.tuple #[.string (mk (wS p bits (ds.map eT.m) n)),aA])/\Below W W w'):=λn W Q ao=>by have u:=CN (mk p) bits n ta d ds W (μ.keep ao);obtain⟨ag,ah⟩:=YH (p:=p) (bits:=bits) (bU:=n) (ds:=ds) rfl (M n Q);rw[ag,ah]at u;exact u
 have ak:Hid (∀(n:Nat) (W:World),n<65536->∃(il:List UInt8),il.length=7/\kT (wS p bits (ds.map eT.m) n)=mk (il++[iK (wS p bits (ds.map eT.m) n)])/\Cv 60 #[.string (mk (wS p bits (ds.map eT.m) n))] W λe w'=>e=.returned (.tuple #[.string (mk (il++[iK (wS p bits (ds.map eT.m) n)])),aA])/\Below W W w'):=λn W Q=>by
  have Y:=H5 (M n Q);have u:=Aa (wS p bits (ds.map eT.m) n) W;have T:=Bv (s:=wS p bits (ds.map eT.m) n) Y;have ai:dE (wS p bits (ds.map eT.m) n)=0:=by unfold dE;rw[show np (wS p bits (ds.map eT.m) n)=_ from Y]
  rw[T,ai]at u;exact⟨_,by rw[kI,JJ];rfl,T,u⟩
 have R:=λx=>abZ x bits V;have o:Below w w (w.alloc (.cells #[↑(mk p),↑(bits:Int),C,.slice ta ds.length d] 76)):=B0.alloc L9 _;have f:=aU w [↑(mk p),↑(bits:Int),C,.slice ta ds.length d] 76;replace R:=aL R;clear μ M;generalize au:ds.map eT.m=c at*;generalize ds.length=t at*;clear au;go_enter fA Tryz.func43,Tryz.ntmps43;go_wp2;generalize w.alloc (.cells #[↑(mk p),↑(bits:Int),C,.slice ta t d] 76)=X at o f|-;go_loopw [4,5,6] (λa b i wr=>∃(k:Nat) (m:Int),k<=65536/\i=↑k/\Row wr ↑w 76 [↑(mk p),↑(bits:Int),m,.slice ta t d]/\Below w w wr/\(∀j,j<k->¬Shown p bits c j)/\(0<k->a=.string (mk (wS p bits c (k -1)))/\b=.string (kT (wS p bits c (k -1))))) (λ_ _ i _=>65536 -(intOf i).toNat);exact⟨0,C,O9,rfl,f,o,λj O=>by omega,λh=>by omega⟩;case round=>
  clear f o;obtain⟨k,m,a2,rfl,f,o,A,I⟩:=hrel;by_cases P:k<65536
  .have a3:(k:Int)<65536:=O9;have c2:=f.r 2;have f2:=f.frozen 2;have a5:=f.lt;have g:=f.set 2 ↑(k:Int);have E:Below w w (wr.setCell ((w:Nat),2) ↑(k:Int)):=o.setCell (p:=((w:Nat),2)) L9 _;replace g:Row (wr.setCell ((w:Nat),2) ↑(k:Int)) ↑w 76 [↑(mk p),↑(bits:Int),↑(k:Int),.slice ta t d]:=g;have ab:=g.r 0;have H:=g.r 1;have ae:=g.r 2;have af:=g.r 3;have π:=aL (aj.out k _ P E);replace A:=aL A;replace I:=aL I;go_wp2;refine π.out.mono ?_;rintro e w1 ⟨rfl,J⟩;obtain⟨il,G,y,r⟩:=ak.out k w1 P;have q:=g.keep J g.lt;have v:=E.trans (J.mono E.size);have B:(Shown p bits c k)↔(iK (wS p bits c k)).toNat%2^bits=0:=Iff.rfl;have ay:(mk (il++[iK (wS p bits c k)])).size=8:=by rw[dG,bY,G];rfl
   have N:=pJ (il++[iK (wS p bits c k)]) 7 7 rfl (by rw[bY,G];simp);have aa:(il++[iK (wS p bits c k)]).getD 7 0=iK (wS p bits c k):=by rw[<-G];simp[List.getD]
   rw[aa]at N;clear π f o E g J c2 f2 ab H ae af aa G;have av:(iK (wS p bits c k)).toNat<256:=UInt8.toNat_lt _;generalize mk (il++[iK (wS p bits c k)])=az at y r ay N;generalize(iK (wS p bits c k)).toNat=x at B N av;generalize D:mk (wS p bits c k)=a0 at r|-;replace D:=aL D;replace y:=aL y;replace r:=aL r;replace B:=aL B;go_wp2;refine r.out.mono ?_;rintro e w2 ⟨rfl,K⟩;replace q:=q.keep K q.lt;replace v:=v.trans (K.mono v.size);have H:=q.r 1;have a4:=ab0 bits V;clear K r;go_wp2;go_quiet (fail);rw[R.out x];have S:Row (w2.drewN nq) ↑w 76 [↑(mk p),↑(bits:Int),↑(k:Int),.slice ta t d]:=q;have L:Below w w (w2.drewN nq):=mY v;clear q v H;generalize w2.drewN nq=F at S L|-;by_cases l:x%2^bits=0
   .have z:decide (x%2^bits=0)=true:=by simpa using l
    rw[z];clear z;replace l:=aL l;go_wp2;go_ret2;exact⟨L,k,P,by rw[D.out,y.out];rfl,.inl ⟨B.out.2 l.out,A.out⟩⟩
   .have z:decide (x%2^bits=0)=false:=by simpa using l
    rw[z];clear z;replace l:=aL l;go_wp2;go_roundw;case rel=>
     refine⟨k+1,k,O9,by go_num,S,L,λj O=>?_,λ_=>⟨by rw[QK,D.out],by rw[QK,y.out]⟩⟩;by_cases e:j=k;.subst e;exactλh=>l.out (B.out.1 h)
     .exact A.out j O9
    case measure=>simp[intOf];omega
  .have ar:k=65536:=O9;subst ar;obtain⟨rfl,rfl⟩:=I D9;go_wp2;go_ret2;exact⟨o,65535,D9,rfl,.inr (λj O=>A j O)⟩
def VS(h:Nat)(c:UInt8):Nat:=((h^^^c.toNat)*1099511628211)%18446744073709551616
def aeK(h c):VS h c<18446744073709551616:=Kg _ D9
def UF(h:Nat)(a:h<18446744073709551616)(c):vo (h:Int) c=(VS h c:Int):=by have b:=c.toNat_lt;unfold vo VS;rw[abW h c.toNat a O9,IntKind.wrap_u64];omega
def M0:∀(l:List UInt8) (h:Nat),h<18446744073709551616->l.foldl vo (h:Int)=((l.foldl VS h:Nat):Int)
 |[],h,_=>rfl
 |c::l,h,a=>by rw[Ks,Ks,UF h a,M0 l _ (aeK h c)]
def s8(r b:Nat):Nat:=((r^^^b)*3)%8
def Sl(h c):VS h c%8=s8 (h%8) (c.toNat%8):=by unfold VS s8;rw[Nat.mod_mod_of_dvd _ (by decide:8∣18446744073709551616),Nat.mul_mod];have:(h^^^c.toNat)%2^3=(h%2^3)^^^(c.toNat%2^3):=Nat.xor_mod_two_pow;have e:=this;rw[e]
def ab1:∀b,b<8->∀y,y<8->∃r,r<8/\s8 r b=y:=D9
def ab2:∀h,h<8->∀y,y<8->∃b,b<8/\s8 h b=y:=D9
def Iq:∀(l:List UInt8) (y:Nat),y<8->∃r,r<8/\∀h,h%8=r->(l.foldl VS h)%8=y
 |[],y,a=>⟨y,a,λh e=>e⟩
 |c::l,y,a=>by have⟨r,g,b⟩:=Iq l y a;have⟨q,f,d⟩:=ab1 (c.toNat%8) (Kg _ D9) r g;exact⟨q,f,λh e=>by rw[Ks];exact b _ (by rw[Sl,e,d])⟩
def UG(pre zt):∃b,b<8/\∀c,c.toNat=b->((pre++c::zt).foldl VS 14695981039346656037)%8=0:=by have⟨r,g,d⟩:=Iq zt 0 D9;have⟨b,a,e⟩:=ab2 ((pre.foldl VS 14695981039346656037)%8) (Kg _ D9) r g;refine⟨b,a,λc f=>?_⟩;rw[List.foldl_append,Ks];exact d _ (by rw[Sl,f,Ke a,e])
def P7(s):(iK s).toNat=((98::s).foldl VS 14695981039346656037)%256:=by
 have h0:hN (98::s)=(((98::s).foldl VS 14695981039346656037:Nat):Int):=M0 (98::s) 14695981039346656037 D9;unfold iK idB;have a:=PW (hN (98::s)) 8 7 D9;rw[BR,a,h0];generalize(98::s).foldl VS 14695981039346656037=z;simp only[oF];have b:((z:Int)/2^(8*(8 -1 -7))%256)=((z%256:Nat):Int):=by simp
 rw[b];have c:=dX ((z%256:Nat):Int) (G8 _) O9;omega
def aeL(n:Nat)(h:n<256):be (n:Int) 2=[0,byteOf n]:=by have a:(n:Int)/2^(8*1)%256=0:=O9;have b:(n:Int)/2^(8*0)%256=(n:Int):=O9;simp only[be,a,b];rfl
def UH(p bits a)(i:bits<=3):∃n,n<65536/\Shown p bits a n:=by
 have g:∀n:Nat,n<256->∃zt,98::wS p bits a n=(98::(fP (mk p)++be bits 1++[0]))++byteOf n::zt/\zt=be (a.map x7.d).length 1++(a.map x7.d).flatMap eT.bytes:=λn f=>by refine⟨_,?_,rfl⟩;show 98::fT (mk p) bits n (a.map x7.d)=_;unfold fT;rw[aeL n f];simp
 have⟨b,j,c⟩:=UG (98::(fP (mk p)++be bits 1++[0])) (be (a.map x7.d).length 1++(a.map x7.d).flatMap eT.bytes);refine⟨b,O9,?_⟩;obtain⟨zt,e,rfl⟩:=g b O9;have h:=c (byteOf b) (by have:=dX (b:Int) (G8 _) O9;omega);unfold Shown;rw[P7,e];have:bits=0\/bits=1\/bits=2\/bits=3:=O9;obtain rfl|rfl|rfl|rfl:=this;all_goals omega
structure mE where
 tx:ByteArray
 ix:Int
 kind:Int
 n:Int
def mE.cells(k:mE):List Value:=[.string k.tx,.int .i64 k.ix,.int .i64 k.kind,.int .i64 k.n]
def ya(l:List mE):List Value:=l.flatMap mE.cells
def Sm:∀l i x j,l[i]?=some x->j<4->(ya l)[i*4+j]?=x.cells[j]?
 |[],i,s,j,h,_=>by simp at h
 |y::l,0,s,j,h,a=>by simp at h;subst h;have e:ya (y::l)=y.cells++ya l:=rfl;have b:y.cells.length=4:=rfl;rw[e,iO,nz O9]
 |y::l,i+1,s,j,h,a=>by have:=Sm l i s j (by simpa using h) a;have e:ya (y::l)=y.cells++ya l:=rfl;have b:y.cells.length=4:=rfl;rw[e,eK O9,<-this];congr 1;omega
abbrev p6(B:Nat)(w:World)(v:Value)(l:List mE):Prop:=w.ownsRow B 64 4 v l.length (ya l)
def Bw{B w v l}(h:p6 B w v l){k x}(d:l[k]?=some x):∃g c,v=.slice (some ⟨g,0,none⟩) l.length c/\∀j u,x.cells[j]?=some u->w.cell? ⟨g,k*4+j,none⟩=some u:=by
 have n:=(cE.1 d).1;have e:=λg (a:v.ownBlock=some g)=>uU (g:=g) h a;obtain⟨_,h0⟩|⟨g,cap,cur,i,m,a,_⟩:=h.2;.omega
 .subst i;refine⟨g,cap,rfl,λj u b=>?_⟩;have f:=(cE.1 b).1;have:=e g rfl (k*4+j) u (by rw[Sm l k x j d f];exact b);rwa [add0]at this
structure p9 where
 nb:Nat
 c:fV
 iv:Value
 wv:Value
 kv:Value
 ids:List ByteArray
 dQ:List Int
 aV:List mE
 tag:Int
 made:ByteArray
 behind:Int
def p9.cells(r:p9):List Value:=[.pointer (some ⟨r.nb,0,none⟩),.int .i64 r.c.wk,.int .i64 r.c.sh,.int .i64 r.c.me,.int .i64 r.c.su,.int .i64 r.c.bi,r.iv,r.wv,r.kv,.int .i64 r.tag,.string r.made,.int .i64 r.behind,↑aF]
structure gB(w:World)(rb B:Nat)(r:p9):Prop where
 row:Row w rb 37 r.cells
 ids:P4 B w r.iv r.ids
 dQ:w.ownsRow B 3 1 r.wv r.dQ.length (r.dQ.map (Value.int .i64))
 aV:p6 B w r.kv r.aV
 base:B<=w.heap.size
def gB.keep{w w' rb B r}(h:gB w rb B r)(a:Below w w w'):gB w' rb B r:=⟨h.row.keep a h.row.lt,aX h.ids a,aX h.dQ a,aX h.aV a,bI h.base a.size⟩
def aeM{rb B r}(a w)(h:gB w rb B r)(f:0<r.ids.length)(hl:r.ids.length<=20000000)(c:-9223372036854775808<=a/\a<9223372036854775808):Cv 22 #[.pointer rb,.int .i64 a] w λe w'=>e=.returned (jM a (r.ids.length:Int))/\Below w w w':=by
 have g:=h.row.r 12;have⟨va,vc,d⟩:=bG h.ids;have i:w.cell? (rb,6)=some (.slice va r.ids.length vc):=by rw[<-d];exact h.row.cell 6
 have b:=λW=>qJ a (r.ids.length:Int) W O9 O9 c.1 c.2;replace b:=aL b;go_enter fA Tryz.func22,Tryz.ntmps22;go_wp2;refine(b.out _).m0 ?_;go_wp2;go_ret;exact⟨rfl,B0⟩
def FN{B g j n size}{w:World}{e v u b}(h:w.ownsRow B e size v n b)(a:v.ownBlock=some g):(w.setCell (g,j) u).ownsRow B e size v n (b.set j u):=by
 refine⟨by rw[KG];exact h.1,?_⟩;obtain⟨rfl,_⟩|⟨g',cap,cur,rfl,o,p,d,f,i,k⟩:=h.2;.cases a
 .have c:g'=g:=by simpa[Value.ownBlock]using a
  subst c;have l:Row w g' e cur.toList:=by unfold Row;rw[p]
  have m:=l.set j u;refine .inr ⟨g',cap,(cur.toList.set j u).toArray,rfl,o,m,d,f,by simpa using i,?_⟩;rw[<-k];simp[List.take_set]
def SF(w:World)(rb Bt Bm:Nat)(kv:Value)(k:Nat):Prop:=k=rb\/kv.ownBlock=some k\/(Bt<=k/\∃cs,Row w k 133 cs)\/(Bm<=k/\∃cs,Row w k 64 cs)
def FO{S w wr g t cs}(x:Xc S w wr)(r:Row wr g t cs)(h:Row w g t cs->S g):g<w->S g:=λb=>by
 by_cases a:S g;.exact a
 .exact h ((x.block g b a).symm.trans r)
def jR{B g n size w e v c}(h:w.ownsRow B e size v n c)(b:v.ownBlock=some g):∃cs,Row w g e cs:=by have⟨_,cs,a⟩:=bV h b;exact⟨cs.toList,by unfold Row;rw[a]⟩
structure lN(B:Nat)(w:World)(v:Value)(xs:List (Value×List mE)):Prop where
 own:w.ownsRow B 35 1 v xs.length (xs.map Prod.fst)
 row:∀x∈xs,p6 B w x.1 x.2
def Sn{B i w v a x}(h:lN B w v a)(d:a[i]?=some x):∃g c,v=.slice (some ⟨g,0,none⟩) a.length c/\w.cell? ⟨g,i,none⟩=some x.1:=by
 have k:=(cE.1 d).1;have e:=λg (b:v.ownBlock=some g)=>uU (g:=g) h.own b;obtain⟨_,h0⟩|⟨g,cap,cur,f,j,b,_⟩:=h.own.2;.omega
 .subst f;refine⟨g,cap,rfl,?_⟩;have:=e g rfl i x.1 (by rw[cT,d];rfl);rwa [add0]at this
def lN.keep{B w w' v b}(h:lN B w v b)(a:Below w w w'):lN B w' v b:=⟨aX h.own a,λx c=>aX (h.row x c) a⟩
def lN.other{B g j w v u a t cs}(h:lN B w v a)(r:Row w g t cs)(b:t≠35)(c:t≠64):lN B (w.setCell ⟨g,j,none⟩ u) v a:=⟨bO h.own r b,λx d=>bO (h.row x d) r c⟩
def jS.keyed(q:ByteArray)(x:jS):jS:=⟨x.tx,x.idx,q⟩
def eT.key(d:eT)(k:Nat)(q:ByteArray):eT:=⟨d.tag,d.iv,d.ins.modify k (jS.keyed q),d.ov,d.outs⟩
def M3:∀l k q,k<l.length->mX (l.modify k (jS.keyed q))=(mX l).set (k*3+2) (.string q)
 |[],k,q,h=>by simp at h
 |x::l,0,q,h=>by simp[mX,jS.cells,jS.keyed]
 |x::l,k+1,q,h=>by have c:=M3 l k q (by simpa using h);have e:∀a,mX (x::a)=x.cells++mX a:=λ_=>rfl;rw[Wx,e,e,c];have b:x.cells.length=3:=rfl;rw[uT _ _ O9,b];congr 2;omega
def rW(ds:List eT)(i k:Nat)(q:ByteArray):List eT:=ds.modify i (λd=>d.key k q)
def M4:∀ds i k q,vB (rW ds i k q)=vB ds
 |[],i,k,q=>by simp[rW]
 |d::ds,0,k,q=>by simp[rW,vB,eT.cells,eT.key]
 |d::ds,i+1,k,q=>by have:=M4 ds i k q;unfold rW at this|-;rw[Wx];show d.cells++vB _=d.cells++vB ds;rw[this]
def Bx(ds i k j q):(rW ds i k q)[j]?=(ds[j]?).map λd=>if i=j then d.key k q else d:=by unfold rW;rw[KH];rfl
def UI(ds i k q):(rW ds i k q).length=ds.length:=by simp[rW]
def Apart(l:List eT):Prop:=∀(i j:Nat) (a b:eT),i≠j->l[i]?=some a->l[j]?=some b->∀k,a.iv.ownBlock=some k->b.iv.ownBlock≠some k
def Apart.key{ds}(h:Apart ds)(i k q):Apart (rW ds i k q):=by
 have key:∀(j:Nat) (a:eT),(rW ds i k q)[j]?=some a->∃a':eT,ds[j]?=some a'/\a.iv=a'.iv:=by intro j a c;rw[Bx]at c;cases e:ds[j]? with
  |none=>rw[e]at c;cases c
  |some d=>rw[e]at c;simp at c;refine⟨d,rfl,?_⟩;rw[<-c];split<;>rfl
 intro g l a b u c s m f;have⟨a',r,o⟩:=key g a c;have⟨n,t,p⟩:=key l b s;rw[o]at f;rw[p];exact h g l a' n u r t m f
def Zj{B i k g w tv ds d q}(h:cY B w tv ds)(s:Apart ds)(l:ds[i]?=some d)(n:d.iv.ownBlock=some g)(t:k<d.ins.length):cY B (w.setCell (g,k*3+2) (.string q)) tv (rW ds i k q):=by
 have o:=cU l;have⟨cs,p⟩:=jR (h.ins d o).1 n;have key:∀x∈rW ds i k q,∃j y,ds[j]?=some y/\x=if i=j then y.key k q else y:=by intro x f;have⟨j,b⟩:=oK.1 f;rw[Bx]at b;cases a:ds[j]? with
  |none=>rw[a]at b;cases b
  |some y=>rw[a]at b;simp at b;exact⟨j,y,a,b.symm⟩
 refine⟨?_,λx f=>?_,λx f=>?_⟩;.show World.ownsRow _ _ _ _ _ _ _;rw[M4,UI];exact bO h.own p D9
 .obtain⟨j,y,a,rfl⟩:=key x f;have c:=cU a;by_cases e:i=j;.subst e;rw[l]at a;cases a;rw[bD rfl];refine⟨?_,(h.ins d o).2⟩;have z:=FN (j:=k*3+2) (u:=↑q) (h.ins d o).1 n;show World.ownsRow _ _ _ _ _ (d.ins.modify k (jS.keyed q)).length (mX (d.ins.modify k (jS.keyed q)));rw[M3 _ _ _ t,List.length_modify];exact z
  .rw[aT e];exact⟨uE (h.ins y c).1 _ _ (λm v=>λr=>s i j d y e l a g n (by rw[v,r])),(h.ins y c).2⟩
 .obtain⟨j,y,a,rfl⟩:=key x f;have c:=cU a;have:=bO (j:=k*3+2) (u:=↑q) (h.outs y c).1 p D9;by_cases e:i=j;.rw[bD e];exact⟨this,(h.outs y c).2⟩
  .rw[aT e];exact⟨this,(h.outs y c).2⟩
def N4(f:Nat->ByteArray)(k:Nat)(l:List jS):List jS:=l.mapIdx λm x=>if m<k then x.keyed (f m)else x
def kdT(f:Nat->ByteArray)(k:Nat)(d:eT):eT:=⟨d.tag,d.iv,N4 f k d.ins,d.ov,d.outs⟩
def kd(F:Nat->Nat->ByteArray)(i k:Nat)(ds:List eT):List eT:=ds.mapIdx λj d=>kdT (F j) (if j=0 then 0 else if j<i then d.ins.length else if j=i then k else 0) d
def Zk(f:Nat->ByteArray)(l):N4 f 0 l=l:=by apply kJ;intro m;unfold N4;rw[qw];cases l[m]?<;>simp
def Zl(f:Nat->ByteArray)(k l):N4 f (k+1) l=(N4 f k l).modify k (jS.keyed (f k)):=by apply kJ;intro m;unfold N4;rw[KH,qw,qw];cases l[m]? with
 |none=>rfl
 |some x=>
   by_cases e:k=m;.simp_all
   .grind
def Zm(f:Nat->ByteArray)(k l)(h:l.length<=k):N4 f k l=N4 f l.length l:=by apply kJ;intro m;unfold N4;rw[qw,qw];cases a:l[m]? with
 |none=>rfl
 |some x=>have:=(cE.1 a).1;simp;rw[bD O9,bD this]
def M5(f:Nat->ByteArray)(d):kdT f 0 d=d:=by unfold kdT;rw[Zk]
def aeN(F:Nat->Nat->ByteArray)(i k ds):(kd F i k ds).length=ds.length:=by simp[kd]
def uF(F:Nat->Nat->ByteArray)(i k ds j):(kd F i k ds)[j]?=(ds[j]?).map λd=>kdT (F j) (if j=0 then 0 else if j<i then d.ins.length else if j=i then k else 0) d:=by unfold kd;rw[qw]
def Zn(F:Nat->Nat->ByteArray)(ds):kd F 1 0 ds=ds:=by apply kJ;intro j;rw[uF];cases ds[j]? with
 |none=>rfl
 |some d=>
   simp only[dY];have:(if j=0 then 0 else if j<1 then d.ins.length else if j=1 then 0 else 0)=0:=by simp_all
   rw[this,M5]
def ab3(F:Nat->Nat->ByteArray)(i k ds)(hi:0<i):kd F i (k+1) ds=rW (kd F i k ds) i k (F i k):=by apply kJ;intro j;rw[Bx,uF,uF];cases ds[j]? with
 |none=>rfl
 |some d=>
   simp;by_cases e:i=j;.subst e;have a:¬i=0:=O9;simp[aT a];unfold kdT eT.key;rw[Zl]
   .grind
def ab4(F:Nat->Nat->ByteArray)(i k ds)(hi:0<i)(h:∀d,ds[i]?=some d->d.ins.length<=k):kd F i k ds=kd F (i+1) 0 ds:=by apply kJ;intro j;rw[uF,uF];cases a:ds[j]? with
 |none=>rfl
 |some d=>
   simp;by_cases e:j=i;.subst e;rw[aT O9,aT (Ha _),bD rfl,aT O9,bD O9];unfold kdT;rw[Zm _ _ _ (h d a)]
   .grind
def P8(F:Nat->Nat->ByteArray)(ts:List x7):List x7:=ts.mapIdx λj t=>if j=0 then t else⟨t.tag,N4 (F j) t.ins.length t.ins,t.outs⟩
def agW(F:Nat->Nat->ByteArray)(ds):(kd F ds.length 0 ds).map eT.m=P8 F (ds.map eT.m):=by apply kJ;intro j;unfold P8;rw[cT,uF,qw,cT];cases b:ds[j]? with
 |none=>rfl
 |some d=>
   have:=(cE.1 b).1;simp;by_cases a:j=0;.rw[bD a,bD a,M5]
   .rw[aT a,aT a,bD this];rfl
def pU(ts:List x7):List ByteArray:=ts.map λt=>wG t.tag t.ins t.outs
def aeO(a):FP a=(pU a).map Value.string:=by simp[FP,pU]
def mE.Ok(x:mE):Prop:=(0<=x.kind/\x.kind<4)/\(0<=x.n/\x.n<64)
def kn0:mE:=⟨⟨#[]⟩,0,0,0⟩
def oh(sp:List (Value×List mE))(ids:List ByteArray)(wrong:Bool)(i k:Nat):ByteArray:=let x:=((sp.map Prod.snd).getD i []).getD k kn0;mk (yJ x.kind x.n (fP (ids.getD i ⟨#[]⟩)) (wrong&&decide (i=1)&&decide (k=0)))
def ab5{sp ids wrong i k s x id}(d:sp[i]?=some s)(e:s.2[k]?=some x)(hi:ids[i]?=some id):oh sp ids wrong i k=mk (yJ x.kind x.n (fP id) (wrong&&decide (i=1)&&decide (k=0))):=by
 unfold oh;have a:(sp.map Prod.snd).getD i []=s.2:=by rw[BR,cT,d];rfl
 have b:s.2.getD k kn0=x:=by rw[BR,e];rfl
 have c:ids.getD i ⟨#[]⟩=id:=by rw[BR,hi];rfl
 rw[a,b,c]
structure Dp(w wr:World)(rb B Bt Bs Bm bb ig:Nat)(r:p9)(bc:List Value)(tv sv mv:Value)(ds:List eT)(sp ms:List (Value×List mE))(ids:List ByteArray):Prop where
 run:gB wr rb B r
 seen:cY Bt wr tv ds
 apart:Apart ds
 CP:lN Bs wr sv sp
 vr:lN Bm wr mv ms
 blk:Row wr bb 76 bc
 N5:Row wr ig 9 (ids.map Value.string)
 fk:Xc (SF w rb Bt Bm r.kv) w wr
def Dp.keep{w wr w' rb B d c b e g r f tv sv mv ds sp ms ids}(h:Dp w wr rb B d c b e g r f tv sv mv ds sp ms ids)(a:Below wr wr w'):Dp w w' rb B d c b e g r f tv sv mv ds sp ms ids:=⟨h.run.keep a,h.seen.keep a,h.apart,h.CP.keep a,h.vr.keep a,h.blk.keep a h.blk.lt,h.N5.keep a h.N5.lt,h.fk.then a⟩
def gB.ab6{w rb B g j r cs u}(h:gB w rb B r)(a:Row w g 133 cs):gB (w.setCell ⟨g,j,none⟩ u) rb B r:=by refine⟨h.row.aP _ _ (λe=>?_),bO h.ids a D9,bO h.dQ a D9,bO h.aV a D9,by rw[qx];exact h.base⟩;have b:=h.row;subst e;unfold Row at b a;rw[b]at a;cases a
def Dp.key{w wr rb B m j f n x i k g r o tv sv mv ds sp ms ids d}(h:Dp w wr rb B m j f n x r o tv sv mv ds sp ms ids)(q)(p:ds[i]?=some d)(c:d.iv.ownBlock=some g)(y:k<d.ins.length):Dp w (wr.setCell (g,k*3+2) (.string q)) rb B m j f n x r o tv sv mv (rW ds i k q) sp ms ids:=by
 have s:=cU p;have⟨cs,a⟩:=jR (h.seen.ins d s).1 c;have u:∀{b:Nat} {t:TypeId} {l:List Value},Row wr b t l->t≠133->b≠g:=by intro b t l v z e;subst e;unfold Row at v a;rw[v]at a;cases a;exact z rfl
 exact⟨h.run.ab6 a,Zj h.seen h.apart p c y,h.apart.key _ _ _,h.CP.other a D9 D9,h.vr.other a D9 D9,h.blk.aP _ _ (u h.blk D9),h.N5.aP _ _ (u h.N5 D9),h.fk.setCell (g,k*3+2) _ (FO h.fk a (λq=>.inr (.inr (.inl ⟨(bV (h.seen.ins d s).1 c).1,_,q⟩))))⟩
def BB(id:ByteArray):Nat->List mE->List mE
 |_,[]=>[]
 |k,x::l=>⟨id,k,x.kind,x.n⟩::BB id (k+1) l
def iV:List ByteArray->List (List mE)->List mE
 |id::ids,m::ms=>BB id 0 m++iV ids ms
 |_,_=>[]
def M7(id):∀k l,(BB id k l).length=l.length
 |_,[]=>rfl
 |k,x::l=>by simp[BB,M7 id (k+1) l]
def mE.pz(id:ByteArray)(k:Nat)(x:mE):mE:=⟨id,k,x.kind,x.n⟩
def Zv:∀l k o id,k<l.length->ya (l.modify k (mE.pz id o))=((ya l).set (k*4) (.string id)).set (k*4+1) (.int .i64 o)
 |[],k,o,id,h=>by simp at h
 |x::l,0,o,id,h=>by simp[ya,mE.cells,mE.pz]
 |x::l,k+1,o,id,h=>by have f:=Zv l k o id (by simpa using h);have e:∀a,ya (x::a)=x.cells++ya a:=λ_=>rfl;rw[Wx,e,e,f];have d:x.cells.length=4:=rfl;rw[uT _ _ O9,uT _ _ O9,d];have b:(k+1)*4 -4=k*4:=O9;have c:(k+1)*4+1 -4=k*4+1:=O9;rw[b,c]
def BC(ms:List (Value×List mE))(i k:Nat)(id:ByteArray):List (Value×List mE):=ms.modify i (λm=>(m.1,m.2.modify k (mE.pz id k)))
def Af(ms i k j id):(BC ms i k id)[j]?=(ms[j]?).map λm=>if i=j then(m.1,m.2.modify k (mE.pz id k))else m:=by unfold BC;rw[KH];rfl
def Zw(ms i k id):(BC ms i k id).length=ms.length:=by simp[BC]
def Zx(ms i k id):(BC ms i k id).map Prod.fst=ms.map Prod.fst:=by apply kJ;intro j;rw[cT,cT,Af];cases ms[j]? with
 |none=>rfl
 |some m=>split<;>rfl
def Zu(ms ms':List (Value×List mE)):Prop:=ms'.map (λm=>(m.1,m.2.map λx=>(x.kind,x.n)))=ms.map (λm=>(m.1,m.2.map λx=>(x.kind,x.n)))
def Zu.refl(ms):Zu ms ms:=rfl
def Zu.pt{ms a}(h:Zu ms a)(i k id):Zu ms (BC a i k id):=by unfold Zu at*;rw[<-h];apply kJ;intro j;rw[cT,cT,Af];cases a[j]? with
 |none=>rfl
 |some m=>
   simp;by_cases e:i=j;.rw[bD e];simp;apply kJ;intro t;rw[cT,cT,KH];cases m.2[t]? with
    |none=>rfl
    |some x=>split<;>rfl
   .simp_all
structure wI(ms:List (Value×List mE))(kv:Value):Prop where
 two:∀(i j:Nat) (a b:Value×List mE),i≠j->ms[i]?=some a->ms[j]?=some b->∀k,a.1.ownBlock=some k->b.1.ownBlock≠some k
 sP:∀a∈ms,∀k,a.1.ownBlock=some k->kv.ownBlock≠some k
def Ag{ms i k j id a}(h:(BC ms i k id)[j]?=some a):∃a',ms[j]?=some a'/\a.1=a'.1/\a=if i=j then(a'.1,a'.2.modify k (mE.pz id k))else a':=by rw[Af]at h;cases b:ms[j]? with
 |none=>rw[b]at h;cases h
 |some d=>rw[b]at h;simp only[dY,gW]at h;refine⟨d,rfl,?_,h.symm⟩;rw[<-h];split<;>rfl
def wI.pt{ms kv}(h:wI ms kv)(i k id):wI (BC ms i k id) kv:=by
 refine⟨λr s a b q e n m c=>?_,λa e m c=>?_⟩;.have⟨a',f,d,_⟩:=Ag e;have⟨g,o,l,_⟩:=Ag n;rw[d]at c;rw[l];exact h.two r s a' g q f o m c
 .have⟨j,p⟩:=oK.1 e;have⟨a',f,d,_⟩:=Ag p;rw[d]at c;exact h.sP a' (cU f) m c
def ab7{B i k g w v kv ms m id}(h:lN B w v ms)(p:wI ms kv)(c:ms[i]?=some m)(a:m.1.ownBlock=some g)(r:k<m.2.length):lN B ((w.setCell (g,k*4) (.string id)).setCell ⟨g,k*4+1,none⟩ k) v (BC ms i k id):=by
 have l:=cU c;have⟨cs,d⟩:=jR (h.row m l) a;have o:=d.set (k*4) ↑id;refine⟨?_,λx u=>?_⟩;.rw[Zw,Zx];exact bO (bO h.own d D9) o D9
 .have⟨j,q⟩:=oK.1 u;obtain⟨y,b,_,rfl⟩:=Ag q;have z:=cU b;by_cases e:i=j;.subst e;rw[c]at b;cases b;rw[bD rfl];show World.ownsRow _ _ _ _ _ (m.2.modify k (mE.pz id k)).length (ya (m.2.modify k (mE.pz id k)));rw[Zv _ _ _ _ r,List.length_modify];exact FN (FN (h.row m l) a) a
  .rw[aT e];have f:∀t,y.1.ownBlock=some t->t≠g:=λt s n=>p.two i j m y e c b g a (by rw[s,n]);exact uE (uE (h.row y z) (g,k*4) _ f) (g,k*4+1) _ f
def aI.aeR:(Vp.info? 64).map (λi=>(i.zero,i.size,i.bytes))=some (some (.agg #[aB,aA,aA,aA]),4,40):=K8
def adF:=@aI.aeR
structure yK(w wr:World)(rb B Bt Bm bb ig:Nat)(r:p9)(kv:Value)(cs:List mE)(bc:List Value)(tv mv:Value)(ds:List eT)(ms:List (Value×List mE))(ids:List ByteArray):Prop where
 run:gB wr rb B {r with kv:=kv,aV:=cs}
 seen:cY Bt wr tv ds
 vr:lN Bm wr mv ms
 apart:wI ms kv
 blk:Row wr bb 76 bc
 N5:Row wr ig 9 (ids.map Value.string)
 fk:Xc (SF w rb Bt Bm r.kv) w wr
 kvo:∀k,kv.ownBlock=some k->k<w.heap.size->r.kv.ownBlock=some k
def yK.keep{w wr w' rb B c b d f r kv cs e tv mv ds ms ids}(h:yK w wr rb B c b d f r kv cs e tv mv ds ms ids)(a:Below wr wr w'):yK w w' rb B c b d f r kv cs e tv mv ds ms ids:=⟨h.run.keep a,h.seen.keep a,h.vr.keep a,h.apart,h.blk.keep a h.blk.lt,h.N5.keep a h.N5.lt,h.fk.then a,h.kvo⟩
def uG{w g b t u cs l}(a:Row w g t cs)(c:Row w b u l)(d:u≠t):b≠g:=by intro e;subst e;unfold Row at c a;rw[c]at a;cases a;exact d rfl
def cY.other{B g j w tv u ds t cs}(h:cY B w tv ds)(r:Row w g t cs)(b:t≠73)(c:t≠133)(e:t≠69):cY B (w.setCell ⟨g,j,none⟩ u) tv ds:=⟨bO h.own r b,λd a=>⟨bO (h.ins d a).1 r c,(h.ins d a).2⟩,λd a=>⟨bO (h.outs d a).1 r e,(h.outs d a).2⟩⟩
def gB.Sq{w rb B g j r cs u}(h:gB w rb B r)(a:Row w g 64 cs)(c:r.kv.ownBlock≠some g):gB (w.setCell ⟨g,j,none⟩ u) rb B r:=⟨h.row.aP _ _ (uG a h.row D9),bO h.ids a D9,bO h.dQ a D9,uE h.aV _ _ (λk b e=>c (by rw[b];exact congrArg some e)),by rw[qx];exact h.base⟩
def yK.af6{w wr rb B f e l x i k g r kv cs n tv mv ds ms ids m}(h:yK w wr rb B f e l x r kv cs n tv mv ds ms ids)(id)(t:ms[i]?=some m)(c:m.1.ownBlock=some g)(y:k<m.2.length):yK w ((wr.setCell (g,k*4) (.string id)).setCell ⟨g,k*4+1,none⟩ k) rb B f e l x r kv cs n tv mv ds (BC ms i k id) ids:=by have d:=cU t;have⟨z,a⟩:=jR (h.vr.row m d) c;have b:=a.set (k*4) id;have p:=(bV (h.vr.row m d) c).1;have s:=h.apart.sP m d g c;have o:=h.fk.setCell (g,k*4) id (FO h.fk a (λq=>.inr (.inr (.inr ⟨p,_,q⟩))));have r1:=h.run.Sq (j:=k*4) (u:=id) a s;have b1:=h.blk.aP (g,k*4) id (uG a h.blk D9);have v:=h.N5.aP (g,k*4) id (uG a h.N5 D9);exact⟨r1.Sq b s,(h.seen.other a D9 D9 D9).other b D9 D9 D9,ab7 h.vr h.apart t c y,h.apart.pt _ _ _,b1.aP _ _ (uG b b1 D9),v.aP _ _ (uG b v D9),o.setCell (g,k*4+1) _ (FO o b (λq=>.inr (.inr (.inr ⟨p,_,q⟩)))),h.kvo⟩
def qW{w w' g t cs ro}(h:Row w g t cs)(a:w.grownBy w' ro)(b:ro≠some g):Row w' g t cs:=(a.block g h.lt (λe=>b e.symm)).trans h
def qX{B size n}{w w':World}{e v a ro}(h:w.ownsRow B e size v n a)(c:w.grownBy w' ro)(f:∀k,v.ownBlock=some k->ro≠some k):w'.ownsRow B e size v n a:=dF h (λk _ d _ b=>c.block k (bE b) (λe=>f k d e.symm))
def cY.aeS{B w w' tv ds ro}(h:cY B w tv ds)(i:w.grownBy w' ro)(l:∀k t cs,Row w k t cs->t≠64->ro≠some k):cY B w' tv ds:=by
 have key:∀{e:TypeId} {size n:Nat} {v:Value} {c:List Value},w.ownsRow B e size v n c->e≠64->w'.ownsRow B e size v n c:=λb g=>qX b i (λk j=>by have⟨cs,f⟩:=jR b j;exact l k _ cs f g)
 exact⟨key h.own D9,λd a=>⟨key (h.ins d a).1 D9,(h.ins d a).2⟩,λd a=>⟨key (h.outs d a).1 D9,(h.outs d a).2⟩⟩
def yK.push{w d w1 rb B p j q D r kv v1 cs s tv mv ds ms ids x}(h:yK w d rb B p j q D r kv cs s tv mv ds ms ids)(g:d.grownBy w1 kv.ownBlock)(o:w1.ownsRow B 64 4 v1 (cs.length+1) (ya cs++x.cells))(l:v1.ownBlock=kv.ownBlock\/v1.ownBlock=some ↑d):Row w1 rb 37 ({r with kv:=kv,aV:=cs}:p9).cells/\yK w (w1.setCell (rb,8) v1) rb B p j q D r v1 (cs++[x]) s tv mv ds ms ids:=by
 have i:∀(k:Nat) (t:TypeId) (cs:List Value),Row d k t cs->t≠64->kv.ownBlock≠some k:=by intro k t K I J e;have⟨F,f⟩:=jR h.run.aV e;exact uG f I J rfl
 have key:∀{B':Nat} {e:TypeId} {size n:Nat} {v:Value} {E:List Value},d.ownsRow B' e size v n E->e≠64->w1.ownsRow B' e size v n E:=λC H=>qX C g (λk c=>by have⟨cs,f⟩:=jR C c;exact i k _ cs f H)
 have b:=qW h.run.row g (i _ _ _ h.run.row D9);have u:=qW h.blk g (i _ _ _ h.blk D9);have y:=qW h.N5 g (i _ _ _ h.N5 D9);refine⟨b,⟨b.set 8 v1,bO (key h.run.ids D9) b D9,bO (key h.run.dQ D9) b D9,?_,by rw[qx];exact bI h.run.base g.size⟩,(h.seen.aeS g i).other b D9 D9 D9,⟨bO (key h.vr.own D9) b D9,λm A=>bO (qX (h.vr.row m A) g (λk c=>h.apart.sP m A k c)) b D9⟩,⟨h.apart.two,λa z k c e=>?_⟩,u.aP _ _ (uG b u D9),y.aP _ _ (uG b y D9),(h.fk.grown g (λk e c=>.inr (.inl (h.kvo k e c)))).setCell (rb,8) _ (λ_=>.inl rfl),λk e c=>?_⟩
 .have G:ya (cs++[x])=ya cs++x.cells:=by simp[ya]
  show World.ownsRow _ _ _ _ _ (cs++[x]).length (ya (cs++[x]));rw[G,bY];exact bO o b D9
 .obtain l|l:=l;.exact h.apart.sP a z k c (l▸e)
  .rw[l]at e;cases e;have⟨F,f⟩:=jR (h.vr.row a z) c;exact absurd f.lt (Ha _)
 .obtain l|l:=l;.exact h.kvo k (l▸e) c
  .rw[l]at e;cases e;have:=h.fk.size;omega
def Zu.at{ms d}(h:Zu ms d){i:Nat}{m}(o:ms[i]?=some m):∃b,d[i]?=some b/\b.1=m.1/\b.2.length=m.2.length/\∀(k:Nat) (x:mE),m.2[k]?=some x->∃y,b.2[k]?=some y/\y.kind=x.kind/\y.n=x.n:=by have c:=congrArg (λl=>l[i]?) h;simp only[cT,o]at c;cases f:d[i]? with
 |none=>rw[f]at c;cases c
 |some b=>rw[f]at c;simp at c;have⟨j,e⟩:=c;refine⟨b,rfl,j,by have:=congrArg List.length e;simpa using this,λk x p=>?_⟩;have a:=congrArg (λl=>l[k]?) e;simp only[cT,p]at a;cases g:b.2[k]? with
   |none=>rw[g]at a;cases a
   |some y=>rw[g]at a;simp at a;exact⟨y,rfl,a.1,a.2⟩
def UK(id k)(l:List mE)(x)(b:l[k]?=some x):BB id k (l.drop k)=⟨id,k,x.kind,x.n⟩::BB id (k+1) (l.drop (k+1)):=by have⟨a,c⟩:=cE.1 b;rw[xL a,c];rfl
def Qa(ids:List ByteArray)(ms:List (List mE))(i)(id)(m)(hi:ids[i]?=some id)(e:ms[i]?=some m):iV (ids.drop i) (ms.drop i)=BB id 0 m++iV (ids.drop (i+1)) (ms.drop (i+1)):=by have⟨c,a⟩:=cE.1 hi;have⟨d,b⟩:=cE.1 e;rw[xL c,xL d,a,b];rfl
end Go.Proofs.aH
