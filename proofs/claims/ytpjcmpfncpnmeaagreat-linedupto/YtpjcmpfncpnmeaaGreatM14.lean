import Derived.StillTailTactics
import Derived.Test.YtpjcmpfncpnmeaaGreatM13
set_option linter.all false
set_option maxHeartbeats 8000000
set_option maxRecDepth 100000
namespace Go.Proofs.aH
open Go.RowKit
attribute [local go_sem↓] Go.wp_at_zero Go.wp_at_succ
def eU:List ByteArray->ByteArray->Nat->Int
 |[],_,_=>-1
 |x::l,s,k=>if x=s then(k:Int)else eU l s (k+1)
def p9:∀l s k,s∈l->∃i,eU l s k=((k+i:Nat):Int)/\l[i]?=some s
 |[],s,k,h=>by simp at h
 |x::l,s,k,h=>by
   unfold eU;by_cases e:x=s;.rw[bM e];exact⟨0,S8,by simp[e]⟩
   .rw[aX e];obtain⟨i,a,b⟩:=p9 l s (k+1) (by obtain h|h:=gA.1 h;exact absurd h.symm e;exact h);exact⟨i+1,by rw[a];congr 1;omega,by simpa using b⟩
def Es:∀l s k,s∉l->eU l s k=-1
 |[],s,k,h=>rfl
 |x::l,s,k,h=>by unfold eU;rw[aX (λe=>h (by simp[e]))];exact Es l s (k+1) (λe=>h (by simp[e]))
abbrev NS(B:Nat)(w:World)(v:Value)(l:List ByteArray):Prop:=w.ownsRow B 9 1 v l.length (l.map Value.string)
def zr{B w v l}(h:NS B w v l){k x}(b:l[k]?=some x):∃g c,v=.slice (some ⟨g,0,none⟩) l.length c/\w.cell? ⟨g,k,none⟩=some (.string x):=by
 have i:=(eJ.1 b).1;have d:=λg (a:v.ownBlock=some g)=>sx (g:=g) h a;obtain⟨_,h0⟩|⟨g,cap,cur,e,f,a,_⟩:=h.2;.omega
 .subst e;refine⟨g,cap,rfl,?_⟩;have:=d g rfl k ↑x (by rw[fW,b];rfl);rwa [add0]at this
def GR{B v l}(s w)(h:NS B w v l)(r:l.length<=20000000):Calls aI.prog 33 #[v,.string s] w λe w'=>e=.returned (eU l s 0)/\w'=w:=by
 obtain⟨x,y,rfl⟩:=bH h;go_enter aI.func33,Tryz.ntmps33;go_wp2_with fail;go_loopw [5] (λi wr=>∃k:Nat,k<=l.length/\i=↑k/\eU l s 0=eU (l.drop k) s k/\wr=w) (λi _=>l.length -(intOf i).toNat);case atStart=>exact⟨0,O9,rfl,rfl,rfl⟩
 case round=>
  obtain⟨k,p,rfl,j,rfl⟩:=hrel;by_cases m:k<l.length
  .have n:=cN m;have d:l.drop k=l[k]::l.drop (k+1):=A0 m;generalize l[k]=b at n d;obtain⟨g,c,o,u⟩:=zr h n;cases o;have q:(0:Int)<=(k:Int):=O9;by_cases f:b=s
   .have a:Hid (eU l s 0=(k:Int)):=by show _=_;rw[j,d];unfold eU;rw[if_pos f]
    go_wp2_with fail;go_ret;exact⟨by rw[a.out];rfl,rfl⟩
   .have a:Hid (eU l s 0=eU (l.drop (k+1)) s (k+1)):=by show _=_;rw[j,d,eU,aX f]
    have t:(b.toList==s.toList)=false:=by simpa using nL f
    go_wp2_with fail;go_roundw;case rel=>exact⟨k+1,O9,by go_num,a.out,by trivial⟩
    case measure=>simp[intOf];omega
  .have a:Hid (eU l s 0=-1):=by show _=_;rw[j,Pg O9];rfl
   go_wp2_with fail;go_ret;exact⟨by rw[a.out];rfl,rfl⟩
def qI(kind n:Int)(id:List UInt8)(wrong:Bool):List UInt8:=let m:=if wrong then(n+1)%64 else n;if kind=1 then[byteOf m]else if kind=2 then 64::be (hN (be m 8++id)) 8 else if wrong then[76]else[]
def ZM(pt ix kind n id wrong w)(z:0<=kind/\kind<4)(t:0<=n/\n<64)(y:id.length<=100):Calls aI.prog 62 #[.agg #[.string pt,.int .i64 ix,.int .i64 kind,.int .i64 n],(mk id),.bool wrong] w λe w'=>e=.returned (mk (qI kind n id wrong))/\Below w w w':=by
 have a:Below w w (w.alloc (.cells #[pt,ix,kind,n] 50)):=B0.alloc L9 _;obtain⟨m,o⟩:∃m,m=if wrong then(n+1)%64 else n:=⟨_,rfl⟩;have A:0<=m/\m<64:=by rw[o];split<;>omega
 have l:=λW=>qw m W O9 O9;have j:=λW=>qw 76 W D9 D9;have k:=λW=>oV m W O9 O9;have h:=λW=>xW (be m 8++id) W (by simp[bI];omega);have g:=λW=>Ef (hN (be m 8++id)) W (uA _).1 (by have:=(uA (be m 8++id)).2;omega);have b:Hid (qI kind n id wrong=if kind=1 then[byteOf m]else if kind=2 then 64::be (hN (be m 8++id)) 8 else if wrong then[76]else[]):=by show _=_;unfold qI;rw[<-o]
 have D:IntKind.u64.wrap m=m:=by rw[IntKind.wrap_u64];omega
 have s:mk (be m 8)++mk id=mk (be m 8++id):=nJ _ _;have f:wrong=true->(n+1).tmod 64=m:=λe=>by rw[o,bM e,aa0 O9]
 have i:wrong=false->n=m:=λe=>by rw[o,e];rfl
 have B:=t.1;have C:=t.2;have v:(mk (be m 8)).size=8:=by rw[dC,bI]
 have E:(mk id).size=id.length:=dC id;generalize be m 8++id=T at h g b s;have u:=uA T;generalize hN T=H at h g b u;generalize be m 8=x at k s v;generalize 64::be H 8=q at g b;replace o:=aJ o;obtain rfl|rfl|rfl|rfl:=(by omega:kind=0\/kind=1\/kind=2\/kind=3);all_goals cases wrong
 .have c:Hid (qI 0 n id false=[]):=by show _=_;rw[b.out];simp
  clear b i f l k h g j;go_enter aI.func62,Tryz.ntmps62;go_wp2_with fail;go_ret;exact⟨by rw[c.out];rfl,a⟩
 .have c:Hid (qI 0 n id true=[byteOf 76]):=by show _=_;rw[b.out];simp;rfl
  have r:=f rfl;clear b i f l k h g;go_enter aI.func62,Tryz.ntmps62;go_wp2_with fail;refine(j _).mono ?_;rintro e w1 ⟨rfl,d⟩;go_wp2_with fail;go_ret;exact⟨by rw[c.out];rfl,a.trans (d.mono a.size)⟩
 .have c:Hid (qI 1 n id false=[byteOf m]):=by show _=_;rw[b.out];simp
  cases i rfl;clear b i f j k h g;go_enter aI.func62,Tryz.ntmps62;go_wp2_with fail;refine(l _).mono ?_;rintro e w1 ⟨rfl,d⟩;go_wp2_with fail;go_ret;exact⟨by rw[c.out];rfl,a.trans (d.mono a.size)⟩
 .have c:Hid (qI 1 n id true=[byteOf m]):=by show _=_;rw[b.out];simp
  have r:=f rfl;clear b i f j k h g;go_enter aI.func62,Tryz.ntmps62;go_wp2_with fail;refine(l _).mono ?_;rintro e w1 ⟨rfl,d⟩;go_wp2_with fail;go_ret;exact⟨by rw[c.out];rfl,a.trans (d.mono a.size)⟩
 .have c:Hid (qI 2 n id false=q):=by show _=_;rw[b.out];simp
  cases i rfl;clear b i f j l;go_enter aI.func62,Tryz.ntmps62;go_wp2_with fail;refine(k _).mono ?_;rintro e w1 ⟨rfl,d⟩;replace a:=a.trans (d.mono a.size);go_wp2_with fail;refine(h _).mono ?_;rintro e w2 ⟨rfl,rfl⟩;go_wp2_with fail;refine(g _).mono ?_;rintro e w3 ⟨rfl,p⟩;go_wp2_with fail;go_ret;exact⟨by rw[c.out];rfl,a.trans (p.mono a.size)⟩
 .have c:Hid (qI 2 n id true=q):=by show _=_;rw[b.out];simp
  have r:=f rfl;clear b i f j l;go_enter aI.func62,Tryz.ntmps62;go_wp2_with fail;refine(k _).mono ?_;rintro e w1 ⟨rfl,d⟩;replace a:=a.trans (d.mono a.size);go_wp2_with fail;refine(h _).mono ?_;rintro e w2 ⟨rfl,rfl⟩;go_wp2_with fail;refine(g _).mono ?_;rintro e w3 ⟨rfl,p⟩;go_wp2_with fail;go_ret;exact⟨by rw[c.out];rfl,a.trans (p.mono a.size)⟩
 .have c:Hid (qI 3 n id false=[]):=by show _=_;rw[b.out];simp
  clear b i f l k h g j;go_enter aI.func62,Tryz.ntmps62;go_wp2_with fail;go_ret;exact⟨by rw[c.out];rfl,a⟩
 .have c:Hid (qI 3 n id true=[byteOf 76]):=by show _=_;rw[b.out];simp;rfl
  go_enter aI.func62,Tryz.ntmps62;go_wp2_with fail;refine(j _).mono ?_;rintro e w1 ⟨rfl,d⟩;go_wp2_with fail;go_ret;exact⟨by rw[c.out];rfl,a.trans (d.mono a.size)⟩
def Cj(c:lA):lA:=⟨1+iD c.wk 8,1+iD c.sh 16,iD c.me 65,50+iD c.su 951,iD c.bi 3⟩
def Ql(c):(Cj c).ok=true/\50<=(Cj c).su/\0<=(Cj c).bi/\(Cj c).bi<=2:=by have a:=jJ c.wk 8 D9;have b:=jJ c.sh 16 D9;have d:=jJ c.me 65 D9;have e:=jJ c.su 951 D9;have f:=jJ c.bi 3 D9;unfold Cj lA.ok pT;simp;refine⟨⟨⟨⟨⟨?_,?_⟩,?_,?_⟩,?_,?_⟩,?_,?_⟩,?_,?_⟩<;>omega
structure lA.Vg(c:lA):Prop where
 wk:-9223372036854775808<=c.wk/\c.wk<9223372036854775808
 sh:-9223372036854775808<=c.sh/\c.sh<9223372036854775808
 me:-9223372036854775808<=c.me/\c.me<9223372036854775808
 su:-9223372036854775808<=c.su/\c.su<9223372036854775808
 bi:-9223372036854775808<=c.bi/\c.bi<9223372036854775808
def ZN(c w)(a:c.Vg):Calls aI.prog 25 #[c.v] w λe w'=>e=.returned (Cj c).v/\Below w w w':=by
 have E:=λW=>px c.wk 8 W D9 D9 a.wk.1 a.wk.2;have G:=λW=>px c.sh 16 W D9 D9 a.sh.1 a.sh.2;have H:=λW=>px c.me 65 W D9 D9 a.me.1 a.me.2;have I:=λW=>px c.su 951 W D9 D9 a.su.1 a.su.2;have J:=λW=>px c.bi 3 W D9 D9 a.bi.1 a.bi.2;have b1:=jJ c.wk 8 D9;have b2:=jJ c.sh 16 D9;have b3:=jJ c.me 65 D9;have z:=jJ c.su 951 D9;have b5:=jJ c.bi 3 D9;have x:Hid ((Cj c).v=.agg #[↑(1+iD c.wk 8),↑(1+iD c.sh 16),↑(iD c.me 65),↑(50+iD c.su 951),↑(iD c.bi 3)]):=rfl;generalize iD c.wk 8=m at*;generalize iD c.sh 16=n at*;generalize iD c.me 65=o at*;generalize iD c.su 951=q at*;generalize iD c.bi 3=r at*;obtain⟨h,i,j,k,l⟩:=c;unfold lA.v at x|-;simp only at*;go_enter aI.func25,Tryz.ntmps25;go_wp2_with fail;have π:Hid (∀(y:Array Value) (w:World),(callFunc 12 y).run aI.prog w=.ok (.enter 12 y) w):=λ_ _=>by kernel_rfl
 have f:=(aV w [h,i,j,k,l] 26).alloc (.cells #[aA,aA,aA,aA,aA] 26);have b:=aV (w.alloc (.cells #[h,i,j,k,l] 26)) [aA,aA,aA,aA,aA] 26;rw[bB]at b;have u:Below w.heap.size w ((w.alloc (.cells #[h,i,j,k,l] 26)).alloc (.cells #[aA,aA,aA,aA,aA] 26)):=(B0.alloc L9 _).alloc S8 _;generalize(w.alloc (.cells #[h,i,j,k,l] 26)).alloc (.cells #[aA,aA,aA,aA,aA] 26)=X at f b u|-;have c0:X.drew.cell? ⟨w.heap.size,0,none⟩=some ↑h:=f.cell 0;have c1:X.drew.cell? ⟨w.heap.size,1,none⟩=some ↑i:=f.cell 1;have c2:X.drew.cell? ⟨w.heap.size,2,none⟩=some ↑j:=f.cell 2;have c3:X.drew.cell? ⟨w.heap.size,3,none⟩=some ↑k:=f.cell 3;have c4:X.drew.cell? ⟨w.heap.size,4,none⟩=some ↑l:=f.cell 4;have Q:X.drew.cell? ⟨w.heap.size+1,0,none⟩=some ↑aA:=b.cell 0;have R:X.drew.cell? ⟨w.heap.size+1,1,none⟩=some ↑aA:=b.cell 1;have S:X.drew.cell? ⟨w.heap.size+1,2,none⟩=some ↑aA:=b.cell 2;have T:X.drew.cell? ⟨w.heap.size+1,3,none⟩=some ↑aA:=b.cell 3;have μ:X.drew.cell? ⟨w.heap.size+1,4,none⟩=some ↑aA:=b.cell 4;have d:Row X.drew (w.heap.size+1) 26 [aA,aA,aA,aA,aA]:=b;have f0:=d.frozen 0;have f1:=d.frozen 1;have f2:=d.frozen 2;have V:=d.frozen 3;have Y:=d.frozen 4;have aa:=d.lt;have A:Below w.heap.size w X.drew:=bW u;obtain⟨K,L⟩:=b1;obtain⟨M,N⟩:=b2;obtain⟨O,P⟩:=z;refine wp_region_still_tail 19 Em K8 ?_;simp only[List.take_succ_cons,List.take_zero,List.drop_succ_cons,List.drop_zero];show wpStill _ _ X.drew (λa'=>wpList _ _ _ _ a' X.drew) _ _;generalize X.drew=s at*;iterate 2 still_step
 still_call (E _);iterate 3 still_step
 still_call (G _);iterate 3 still_step
 still_call (H _);iterate 2 still_step
 still_call (I _);iterate 3 still_step
 still_call (J _);still_step;refine wpStill_nil ?_;go_wp2_with fail;have g:=((((d.set 0 ↑(1+m)).set 1 ↑(1+n)).set 2 ↑o).set 3 ↑(50+q)).set 4 ↑r;have t:Below w.heap.size w (((((s.setCell ⟨w.heap.size+1,0,none⟩ ↑(1+m)).setCell ⟨w.heap.size+1,1,none⟩ ↑(1+n)).setCell ⟨w.heap.size+1,2,none⟩ ↑o).setCell ⟨w.heap.size+1,3,none⟩ ↑(50+q)).setCell ⟨w.heap.size+1,4,none⟩ ↑r):=((((A.setCell (p:=⟨w.heap.size+1,0,none⟩) (qN _) _).setCell (p:=⟨w.heap.size+1,1,none⟩) (qN _) _).setCell (p:=⟨w.heap.size+1,2,none⟩) (qN _) _).setCell (p:=⟨w.heap.size+1,3,none⟩) (qN _) _).setCell (p:=⟨w.heap.size+1,4,none⟩) (qN _) _;generalize((((s.setCell ⟨w.heap.size+1,0,none⟩ ↑(1+m)).setCell ⟨w.heap.size+1,1,none⟩ ↑(1+n)).setCell ⟨w.heap.size+1,2,none⟩ ↑o).setCell ⟨w.heap.size+1,3,none⟩ ↑(50+q)).setCell ⟨w.heap.size+1,4,none⟩ ↑r=F at g t|-;have k0:F.cell? ⟨w.heap.size+1,0,none⟩=some ↑(1+m):=g.cell 0;have B:F.cell? ⟨w.heap.size+1,1,none⟩=some ↑(1+n):=g.cell 1;have k2:F.cell? ⟨w.heap.size+1,2,none⟩=some ↑o:=g.cell 2;have C:F.cell? ⟨w.heap.size+1,3,none⟩=some ↑(50+q):=g.cell 3;have D:F.cell? ⟨w.heap.size+1,4,none⟩=some ↑r:=g.cell 4;exact nC (v:=.agg #[↑(1+m),↑(1+n),o,↑(50+q),r]) (by simp[results,Tryz.results25,go_sem,k0,B,k2,C,D]) rfl ⟨by rw[x.out],t⟩
def wB(p:List UInt8)(bits:Nat)(ts:List rh)(n:Nat):vH:=⟨p,bits,n,ts⟩
def wS(p:List UInt8)(bits:Nat)(ts:List rh)(n:Nat):List UInt8:=tK (wB p bits ts n)
def Shown(p:List UInt8)(bits:Nat)(ts:List rh)(n:Nat):Prop:=(jM (wS p bits ts n)).toNat%2^bits=0
def K5(b)(a:b<=8):wrap64 (2^b)=((2^b:Nat):Int):=by
 have c:(2:Int)^b=((2^b:Nat):Int):=by simp
 have d:2^b<=2^8:=Ph D9 a;have h0:(0:Int)<=((2^b:Nat):Int):=FP _;unfold wrap64;omega
def ZO(x b:Nat)(a:b<=8):((x:Int)%wrap64 (2^b)==0)=decide (x%2^b=0):=by
 rw[K5 b a,<-Int.natCast_emod];by_cases e:x%2^b=0;.simp_all
 .grind
def ZP(b)(a:b<=8):¬wrap64 (2^b)=0:=by rw[K5 b a];have:0<2^b:=Nat.pow_pos D9;omega
def NT(p bits C ta d ds w)(μ:xy w (.slice ta ds.length d) ds)(V:bits<=8)(M:∀n,n<65536->kK (wB p bits (ds.map dA.m) n)=true):Calls aI.prog 63 #[.agg #[(mk p),bits,.int .i64 C,.slice ta ds.length d]] w λe w'=>Below w w w'/\∃n,n<65536/\e=.returned (.tuple #[.string (mk (wS p bits (ds.map dA.m) n)),.string (iL (wS p bits (ds.map dA.m) n))])/\((Shown p bits (ds.map dA.m) n/\∀j,j<n->¬Shown p bits (ds.map dA.m) j)\/∀m,m<65536->¬Shown p bits (ds.map dA.m) m):=by
 have aj:Hid (∀(n:Nat) (W:World),n<65536->Below w w W->Calls aI.prog 60 #[.agg #[↑(mk p),bits,↑(n:Int),.slice ta ds.length d]] W λe w'=>e=.returned (.tuple #[.string (mk (wS p bits (ds.map dA.m) n)),aA])/\Below W W w'):=λn W Q ao=>by have u:=BC (mk p) bits n ta d ds W (μ.keep ao);obtain⟨ag,ah⟩:=Wb (p:=p) (bits:=bits) (bP:=n) (ds:=ds) rfl (M n Q);rw[ag,ah]at u;exact u
 have ak:Hid (∀(n:Nat) (W:World),n<65536->∃(il:List UInt8),il.length=7/\iL (wS p bits (ds.map dA.m) n)=mk (il++[jM (wS p bits (ds.map dA.m) n)])/\Calls aI.prog 66 #[.string (mk (wS p bits (ds.map dA.m) n))] W λe w'=>e=.returned (.tuple #[.string (mk (il++[jM (wS p bits (ds.map dA.m) n)])),aA])/\Below W W w'):=λn W Q=>by
  have Y:=GG (M n Q);have u:=zq (wS p bits (ds.map dA.m) n) W;have T:=Aw (s:=wS p bits (ds.map dA.m) n) Y;have ai:dE (wS p bits (ds.map dA.m) n)=0:=by unfold dE;rw[show mZ (wS p bits (ds.map dA.m) n)=_ from Y]
  rw[T,ai]at u;exact⟨_,by rw[qd,Ip];rfl,T,u⟩
 have R:=λx=>ZO x bits V;have o:Below w w (w.alloc (.cells #[↑(mk p),↑(bits:Int),C,.slice ta ds.length d] 93)):=B0.alloc L9 _;have f:=aV w [↑(mk p),↑(bits:Int),C,.slice ta ds.length d] 93;replace R:=aJ R;clear μ M;generalize au:ds.map dA.m=c at*;generalize ds.length=t at*;clear au;go_enter aI.func63,Tryz.ntmps63;go_wp2_with fail;generalize w.alloc (.cells #[↑(mk p),↑(bits:Int),C,.slice ta t d] 93)=X at o f|-;go_loopw [4,5,6] (λa b i wr=>∃(k:Nat) (m:Int),k<=65536/\i=↑k/\Row wr ↑w 93 [↑(mk p),↑(bits:Int),m,.slice ta t d]/\Below w w wr/\(∀j,j<k->¬Shown p bits c j)/\(0<k->a=.string (mk (wS p bits c (k -1)))/\b=.string (iL (wS p bits c (k -1))))) (λ_ _ i _=>65536 -(intOf i).toNat);case atStart=>exact⟨0,C,O9,rfl,f,o,λj O=>by omega,λh=>by omega⟩
 case round=>
  clear f o;obtain⟨k,m,a2,rfl,f,o,A,I⟩:=hrel;by_cases P:k<65536
  .have a3:(k:Int)<65536:=O9;have c2:wr.cell? ((w:Nat),2)=some ↑m:=f.cell 2;have f2:=f.frozen 2;have a5:=f.lt;have g:=f.set 2 ↑(k:Int);have E:Below w w (wr.setCell ((w:Nat),2) ↑(k:Int)):=o.setCell (p:=((w:Nat),2)) L9 _;replace g:Row (wr.setCell ((w:Nat),2) ↑(k:Int)) ↑w 93 [↑(mk p),↑(bits:Int),↑(k:Int),.slice ta t d]:=g;have ab:(wr.setCell ((w:Nat),2) ↑(k:Int)).cell? ((w:Nat),0)=some ↑(mk p):=g.cell 0;have H:(wr.setCell ((w:Nat),2) ↑(k:Int)).cell? ((w:Nat),1)=some ↑(bits:Int):=g.cell 1;have ae:(wr.setCell ((w:Nat),2) ↑(k:Int)).cell? ((w:Nat),2)=some ↑(k:Int):=g.cell 2;have af:(wr.setCell ((w:Nat),2) ↑(k:Int)).cell? ((w:Nat),3)=some (.slice ta t d):=g.cell 3;have π:=aJ (aj.out k _ P E);replace A:=aJ A;replace I:=aJ I;go_wp2_with fail;refine π.out.mono ?_;rintro e w1 ⟨rfl,J⟩;obtain⟨il,G,y,r⟩:=ak.out k w1 P;have q:=g.keep J g.lt;have v:Below w w w1:=E.trans (J.mono E.size);have B:(Shown p bits c k)↔(jM (wS p bits c k)).toNat%2^bits=0:=Iff.rfl;have ay:(mk (il++[jM (wS p bits c k)])).size=8:=by rw[dC,cK,G];rfl
   have N:=py (il++[jM (wS p bits c k)]) 7 7 rfl (by rw[cK,G];simp);have aa:(il++[jM (wS p bits c k)]).getD 7 0=jM (wS p bits c k):=by rw[<-G];simp[List.getD]
   rw[aa]at N;clear π f o E g J c2 f2 ab H ae af aa G;have av:(jM (wS p bits c k)).toNat<256:=UInt8.toNat_lt _;generalize mk (il++[jM (wS p bits c k)])=az at y r ay N;generalize(jM (wS p bits c k)).toNat=x at B N av;generalize D:mk (wS p bits c k)=a0 at r|-;replace D:=aJ D;replace y:=aJ y;replace r:=aJ r;replace B:=aJ B;go_wp2_with fail;refine r.out.mono ?_;rintro e w2 ⟨rfl,K⟩;replace q:=q.keep K q.lt;replace v:=v.trans (K.mono v.size);have H:w2.cell? ((w:Nat),1)=some ↑(bits:Int):=q.cell 1;have a4:=ZP bits V;clear K r;go_wp2_with fail;go_quiet (fail);rw[R.out x];have S:Row (w2.drewN nq) ↑w 93 [↑(mk p),↑(bits:Int),↑(k:Int),.slice ta t d]:=q;have L:Below w w (w2.drewN nq):=jN v;clear q v H;generalize w2.drewN nq=F at S L|-;by_cases l:x%2^bits=0
   .have z:decide (x%2^bits=0)=true:=by simpa using l
    rw[z];clear z;replace l:=aJ l;go_wp2_with fail;go_ret2;exact⟨L,k,P,by rw[D.out,y.out];rfl,.inl ⟨B.out.2 l.out,A.out⟩⟩
   .have z:decide (x%2^bits=0)=false:=by simpa using l
    rw[z];clear z;replace l:=aJ l;go_wp2_with fail;go_roundw;case rel=>
     refine⟨k+1,k,O9,by go_num,S,L,λj O=>?_,λ_=>⟨by rw[Ub,D.out],by rw[Ub,y.out]⟩⟩;by_cases e:j=k;.subst e;exactλh=>l.out (B.out.1 h)
     .exact A.out j O9
    case measure=>simp[intOf];omega
  .have ar:k=65536:=O9;subst ar;obtain⟨rfl,rfl⟩:=I D9;go_wp2_with fail;go_ret2;exact⟨o,65535,D9,rfl,.inr (λj O=>A j O)⟩
def TW(h:Nat)(c:UInt8):Nat:=((h^^^c.toNat)*1099511628211)%18446744073709551616
def acm(h c):TW h c<18446744073709551616:=I6 _ D9
def SE(h:Nat)(a:h<18446744073709551616)(c):oJ (h:Int) c=(TW h c:Int):=by have b:=c.toNat_lt;unfold oJ TW;rw[Ik h c.toNat a O9,IntKind.wrap_u64];omega
def K6:∀(l:List UInt8) (h:Nat),h<18446744073709551616->l.foldl oJ (h:Int)=((l.foldl TW h:Nat):Int)
 |[],h,_=>rfl
 |c::l,h,a=>by rw[FK,FK,SE h a,K6 l _ (acm h c)]
def s8(r b:Nat):Nat:=((r^^^b)*3)%8
def Qm(h c):TW h c%8=s8 (h%8) (c.toNat%8):=by unfold TW s8;rw[Nat.mod_mod_of_dvd _ (by decide:8∣18446744073709551616),Nat.mul_mod];have:(h^^^c.toNat)%2^3=(h%2^3)^^^(c.toNat%2^3):=Nat.xor_mod_two_pow;have e:=this;rw[e]
def ZQ:∀b,b<8->∀y,y<8->∃r,r<8/\s8 r b=y:=D9
def ZR:∀h,h<8->∀y,y<8->∃b,b<8/\s8 h b=y:=D9
def GV:∀(l:List UInt8) (y:Nat),y<8->∃r,r<8/\∀h,h%8=r->(l.foldl TW h)%8=y
 |[],y,a=>⟨y,a,λh e=>e⟩
 |c::l,y,a=>by obtain⟨r,g,b⟩:=GV l y a;obtain⟨q,f,d⟩:=ZQ (c.toNat%8) (I6 _ D9) r g;exact⟨q,f,λh e=>by rw[FK];exact b _ (by rw[Qm,e,d])⟩
def SG(pre yF):∃b,b<8/\∀c,c.toNat=b->((pre++c::yF).foldl TW 14695981039346656037)%8=0:=by obtain⟨r,g,d⟩:=GV yF 0 D9;obtain⟨b,a,e⟩:=ZR ((pre.foldl TW 14695981039346656037)%8) (I6 _ D9) r g;refine⟨b,a,λc f=>?_⟩;rw[Ji,FK];exact d _ (by rw[Qm,f,OP a,e])
def NU(s):(jM s).toNat=((98::s).foldl TW 14695981039346656037)%256:=by
 have h0:hN (98::s)=(((98::s).foldl TW 14695981039346656037:Nat):Int):=K6 (98::s) 14695981039346656037 D9;unfold jM ZT;have a:=NM (hN (98::s)) 8 7 D9;rw[CO,a,h0];generalize(98::s).foldl TW 14695981039346656037=z;simp only[o8];have b:((z:Int)/2^(8*(8 -1 -7))%256)=((z%256:Nat):Int):=by simp
 rw[b];have c:=dD ((z%256:Nat):Int) (FP _) O9;omega
def acn(n:Nat)(h:n<256):be (n:Int) 2=[0,byteOf n]:=by have a:(n:Int)/2^(8*1)%256=0:=O9;have b:(n:Int)/2^(8*0)%256=(n:Int):=O9;simp only[be,a,b];rfl
def GW(p bits a)(i:bits<=3):∃n,n<65536/\Shown p bits a n:=by
 have g:∀n:Nat,n<256->∃yF,98::wS p bits a n=(98::(cR (mk p)++be bits 1++[0]))++byteOf n::yF/\yF=be (a.map rh.d).length 1++(a.map rh.d).flatMap dA.bytes:=λn f=>by refine⟨_,?_,rfl⟩;show 98::fR (mk p) bits n (a.map rh.d)=_;unfold fR;rw[acn n f];simp
 obtain⟨b,j,c⟩:=SG (98::(cR (mk p)++be bits 1++[0])) (be (a.map rh.d).length 1++(a.map rh.d).flatMap dA.bytes);refine⟨b,O9,?_⟩;obtain⟨yF,e,rfl⟩:=g b O9;have h:=c (byteOf b) (by have:=dD (b:Int) (FP _) O9;omega);unfold Shown;rw[NU,e];have:bits=0\/bits=1\/bits=2\/bits=3:=O9;obtain rfl|rfl|rfl|rfl:=this;all_goals omega
structure iI where
 tx:ByteArray
 ix:Int
 kind:Int
 n:Int
def iI.cells(k:iI):List Value:=[.string k.tx,.int .i64 k.ix,.int .i64 k.kind,.int .i64 k.n]
def xA(l:List iI):List Value:=l.flatMap iI.cells
def Qn:∀l i x j,l[i]?=some x->j<4->(xA l)[i*4+j]?=x.cells[j]?
 |[],i,s,j,h,_=>by simp at h
 |y::l,0,s,j,h,a=>by simp at h;subst h;have e:xA (y::l)=y.cells++xA l:=rfl;have b:y.cells.length=4:=rfl;rw[e,jF,pK O9]
 |y::l,i+1,s,j,h,a=>by have:=Qn l i s j (by simpa using h) a;have e:xA (y::l)=y.cells++xA l:=rfl;have b:y.cells.length=4:=rfl;rw[e,eZ O9,<-this];congr 1;omega
abbrev kM(B:Nat)(w:World)(v:Value)(l:List iI):Prop:=w.ownsRow B 50 4 v l.length (xA l)
def pI{B w v l}(h:kM B w v l){k x}(d:l[k]?=some x):∃g c,v=.slice (some ⟨g,0,none⟩) l.length c/\∀j u,x.cells[j]?=some u->w.cell? ⟨g,k*4+j,none⟩=some u:=by
 have n:=(eJ.1 d).1;have e:=λg (a:v.ownBlock=some g)=>sx (g:=g) h a;obtain⟨_,h0⟩|⟨g,cap,cur,i,m,a,_⟩:=h.2;.omega
 .subst i;refine⟨g,cap,rfl,λj u b=>?_⟩;have f:=(eJ.1 b).1;have:=e g rfl (k*4+j) u (by rw[Qn l k x j d f];exact b);rwa [add0]at this
structure kC where
 nb:Nat
 c:lA
 iv:Value
 wv:Value
 kv:Value
 ids:List ByteArray
 bS:List Int
 aP:List iI
 tag:Int
 made:ByteArray
 behind:Int
def kC.cells(r:kC):List Value:=[.pointer (some ⟨r.nb,0,none⟩),.int .i64 r.c.wk,.int .i64 r.c.sh,.int .i64 r.c.me,.int .i64 r.c.su,.int .i64 r.c.bi,r.iv,r.wv,r.kv,.int .i64 r.tag,.string r.made,.int .i64 r.behind,↑aD]
structure eH(w:World)(rb B:Nat)(r:kC):Prop where
 row:Row w rb 44 r.cells
 ids:NS B w r.iv r.ids
 bS:w.ownsRow B 3 1 r.wv r.bS.length (r.bS.map (Value.int .i64))
 aP:kM B w r.kv r.aP
 base:B<=w.heap.size
def eH.keep{w w' rb B r}(h:eH w rb B r)(a:Below w w w'):eH w' rb B r:=⟨h.row.keep a h.row.lt,aY h.ids a,aY h.bS a,aY h.aP a,bT h.base a.size⟩
def Ax{rb B r c a}(J w)(h:eH w rb B r)(hN:gB w r.nb c a)(E:a.fT∈r.ids)(N:r.ids.length<=20000000):Calls aI.prog 30 #[.pointer rb,.int .i64 J] w λe w'=>e=.returned (eU r.ids a.fT 0)/\Below w w w':=by
 have G:w.cell? (rb,12)=some ↑aD:=h.row.cell 12;have r0:w.cell? (rb,0)=some (.pointer r.nb):=h.row.cell 0;have v:=WB w hN;unfold ptr at v;have D:Hid (∃i,eU r.ids a.fT 0=((0+i:Nat):Int)/\r.ids[i]?=some a.fT):=p9 r.ids a.fT 0 E;obtain⟨P,Q,n⟩:=bH h.ids;go_enter aI.func30,Tryz.ntmps30;go_wp2_with fail;refine v.mono ?_;rintro e w1 ⟨rfl,l⟩;unfold AN.NV;have t:Below w1 w1 (w1.alloc (.cells #[a.fT,(a.cB:Int),a.wo] 55)):=B0.alloc L9 _;have p:=aV w1 [a.fT,(a.cB:Int),a.wo] 55;replace h:=(h.keep l).keep t;have s:Below w w (w1.alloc (.cells #[a.fT,(a.cB:Int),a.wo] 55)):=l.trans (t.mono l.size);clear v G r0;go_wp2_with fail;generalize w1.alloc (.cells #[a.fT,(a.cB:Int),a.wo] 55)=X at p h s|-;generalize(w1:Nat)=I at p|-;clear t l;go_loopw [6] (λi wr=>∃k,k<=r.ids.length/\i=k/\eU r.ids a.fT 0=eU (r.ids.drop k) a.fT k/\Below X X wr) (λi _=>r.ids.length -(intOf i).toNat);case atStart=>exact⟨0,O9,rfl,rfl,B0⟩
 case round=>
  obtain⟨k,K,rfl,j,m⟩:=hrel;have q:=h.keep m;have H:wr.cell? (rb,6)=some r.iv:=q.row.cell 6;rw[n]at H;have t0:wr.cell? (I,0)=some a.fT:=aW m (p.cell 0);have C:=s.trans (m.mono s.size);by_cases y:k<r.ids.length
  .have o:=cN y;have d:r.ids.drop k=r.ids[k]::r.ids.drop (k+1):=A0 y;generalize r.ids[k]=b at o d;obtain⟨g,cc,z,F⟩:=zr q.ids o;rw[n]at z;cases z;have L:(0:Int)<=(k:Int):=O9;have M:(k:Int)<(r.ids.length:Int):=O9;clear h q hN;by_cases f:b=a.fT
   .have u:Hid (eU r.ids a.fT 0=(k:Int)):=by show _=_;rw[j,d];unfold eU;rw[if_pos f]
    rw[f]at F;clear j d o f n;go_wp2_with fail;go_quiet (fail);go_wp2_with fail;go_ret;exact⟨by rw[u.out];rfl,jN C⟩
   .have u:Hid (eU r.ids a.fT 0=eU (r.ids.drop (k+1)) a.fT (k+1)):=by show _=_;rw[j,d,eU,aX f]
    have O:(b.toList==a.fT.toList)=false:=by simpa using nL f
    clear j d o n;go_wp2_with fail;go_quiet (fail);go_wp2_with fail;go_roundw;case rel=>exact⟨k+1,O9,by go_num,u.out,jN m⟩
    case measure=>simp[intOf];omega
  .obtain⟨i,x,A⟩:=D.out;have hi:i<r.ids.length:=(eJ.1 A).1;rw[j,Pg O9]at x;simp only[eU]at x;omega
def Et{B g j n size}{w:World}{e v u b}(h:w.ownsRow B e size v n b)(a:v.ownBlock=some g):(w.setCell (g,j) u).ownsRow B e size v n (b.set j u):=by
 refine⟨by rw[List.length_set];exact h.1,?_⟩;obtain⟨rfl,_⟩|⟨g',cap,cur,rfl,o,p,d,f,i,k⟩:=h.2;.cases a
 .have c:g'=g:=by simpa[Value.ownBlock]using a
  subst c;have l:Row w g' e cur.toList:=by unfold Row;rw[p]
  have m:=l.set j u;refine .inr ⟨g',cap,(cur.toList.set j u).toArray,rfl,o,m,d,f,by simpa using i,?_⟩;rw[<-k];simp[List.take_set]
def SF(w:World)(rb Bt Bm:Nat)(kv:Value)(k:Nat):Prop:=k=rb\/kv.ownBlock=some k\/(Bt<=k/\∃cs,Row w k 139 cs)\/(Bm<=k/\∃cs,Row w k 50 cs)
def Eu{S w wr g t cs}(x:Xc S w wr)(r:Row wr g t cs)(h:Row w g t cs->S g):g<w->S g:=λb=>by
 by_cases a:S g;.exact a
 .exact h ((x.block g b a).symm.trans r)
def iR{B g n size w e v c}(h:w.ownsRow B e size v n c)(b:v.ownBlock=some g):∃cs,Row w g e cs:=by obtain⟨_,cs,a⟩:=cP h b;exact⟨cs.toList,by unfold Row;rw[a]⟩
structure kN(B:Nat)(w:World)(v:Value)(xs:List (Value×List iI)):Prop where
 own:w.ownsRow B 42 1 v xs.length (xs.map Prod.fst)
 row:∀x∈xs,kM B w x.1 x.2
def Qp{B i w v a x}(h:kN B w v a)(d:a[i]?=some x):∃g c,v=.slice (some ⟨g,0,none⟩) a.length c/\w.cell? ⟨g,i,none⟩=some x.1:=by
 have k:=(eJ.1 d).1;have e:=λg (b:v.ownBlock=some g)=>sx (g:=g) h.own b;obtain⟨_,h0⟩|⟨g,cap,cur,f,j,b,_⟩:=h.own.2;.omega
 .subst f;refine⟨g,cap,rfl,?_⟩;have:=e g rfl i x.1 (by rw[fW,d];rfl);rwa [add0]at this
def kN.keep{B w w' v b}(h:kN B w v b)(a:Below w w w'):kN B w' v b:=⟨aY h.own a,λx c=>aY (h.row x c) a⟩
def kN.other{B g j w v u a t cs}(h:kN B w v a)(r:Row w g t cs)(b:t≠42)(c:t≠50):kN B (w.setCell ⟨g,j,none⟩ u) v a:=⟨bJ h.own r b,λx d=>bJ (h.row x d) r c⟩
def jR.keyed(q:ByteArray)(x:jR):jR:=⟨x.tx,x.idx,q⟩
def dA.key(d:dA)(k:Nat)(q:ByteArray):dA:=⟨d.tag,d.iv,d.ins.modify k (jR.keyed q),d.ov,d.outs⟩
def K7:∀l k q,k<l.length->mN (l.modify k (jR.keyed q))=(mN l).set (k*3+2) (.string q)
 |[],k,q,h=>by simp at h
 |x::l,0,q,h=>by simp[mN,jR.cells,jR.keyed]
 |x::l,k+1,q,h=>by have c:=K7 l k q (by simpa using h);have e:∀a,mN (x::a)=x.cells++mN a:=λ_=>rfl;rw[Uu,e,e,c];have b:x.cells.length=3:=rfl;rw[ug _ _ O9,b];congr 2;omega
def ru(ds:List dA)(i k:Nat)(q:ByteArray):List dA:=ds.modify i (λd=>d.key k q)
def K9:∀ds i k q,uG (ru ds i k q)=uG ds
 |[],i,k,q=>by simp[ru]
 |d::ds,0,k,q=>by simp[ru,uG,dA.cells,dA.key]
 |d::ds,i+1,k,q=>by have:=K9 ds i k q;unfold ru at this|-;rw[Uu];show d.cells++uG _=d.cells++uG ds;rw[this]
def Ay(ds i k j q):(ru ds i k q)[j]?=(ds[j]?).map λd=>if i=j then d.key k q else d:=by unfold ru;rw[Jj];rfl
def SH(ds i k q):(ru ds i k q).length=ds.length:=by simp[ru]
def Apart(l:List dA):Prop:=∀(i j:Nat) (a b:dA),i≠j->l[i]?=some a->l[j]?=some b->∀k,a.iv.ownBlock=some k->b.iv.ownBlock≠some k
def Apart.key{ds}(h:Apart ds)(i k q):Apart (ru ds i k q):=by
 have key:∀(j:Nat) (a:dA),(ru ds i k q)[j]?=some a->∃a':dA,ds[j]?=some a'/\a.iv=a'.iv:=by intro j a c;rw[Ay]at c;cases e:ds[j]? with
  |none=>rw[e]at c;cases c
  |some d=>rw[e]at c;simp at c;refine⟨d,rfl,?_⟩;rw[<-c];split<;>rfl
 intro g l a b u c s m f;obtain⟨a',r,o⟩:=key g a c;obtain⟨n,t,p⟩:=key l b s;rw[o]at f;rw[p];exact h g l a' n u r t m f
def WC{B i k g w tv ds d q}(h:cM B w tv ds)(s:Apart ds)(l:ds[i]?=some d)(n:d.iv.ownBlock=some g)(t:k<d.ins.length):cM B (w.setCell (g,k*3+2) (.string q)) tv (ru ds i k q):=by
 have o:=eN l;obtain⟨cs,p⟩:=iR (h.ins d o).1 n;have key:∀x∈ru ds i k q,∃j y,ds[j]?=some y/\x=if i=j then y.key k q else y:=by intro x f;obtain⟨j,b⟩:=yu.1 f;rw[Ay]at b;cases a:ds[j]? with
  |none=>rw[a]at b;cases b
  |some y=>rw[a]at b;simp at b;exact⟨j,y,a,b.symm⟩
 refine⟨?_,λx f=>?_,λx f=>?_⟩;.show World.ownsRow _ _ _ _ _ _ _;rw[K9,SH];exact bJ h.own p D9
 .obtain⟨j,y,a,rfl⟩:=key x f;have c:=eN a;by_cases e:i=j;.subst e;rw[l]at a;cases a;rw[bM rfl];refine⟨?_,(h.ins d o).2⟩;have z:=Et (j:=k*3+2) (u:=↑q) (h.ins d o).1 n;show World.ownsRow _ _ _ _ _ (d.ins.modify k (jR.keyed q)).length (mN (d.ins.modify k (jR.keyed q)));rw[K7 _ _ _ t,List.length_modify];exact z
  .rw[aX e];exact⟨tP (h.ins y c).1 _ _ (λm v=>λr=>s i j d y e l a g n (by rw[v,r])),(h.ins y c).2⟩
 .obtain⟨j,y,a,rfl⟩:=key x f;have c:=eN a;have:=bJ (j:=k*3+2) (u:=↑q) (h.outs y c).1 p D9;by_cases e:i=j;.rw[bM e];exact⟨this,(h.outs y c).2⟩
  .rw[aX e];exact⟨this,(h.outs y c).2⟩
def Iq(f:Nat->ByteArray)(k:Nat)(l:List jR):List jR:=l.mapIdx λm x=>if m<k then x.keyed (f m)else x
def ZV(f:Nat->ByteArray)(k:Nat)(d:dA):dA:=⟨d.tag,d.iv,Iq f k d.ins,d.ov,d.outs⟩
def kd(F:Nat->Nat->ByteArray)(i k:Nat)(ds:List dA):List dA:=ds.mapIdx λj d=>ZV (F j) (if j=0 then 0 else if j<i then d.ins.length else if j=i then k else 0) d
def WG(f:Nat->ByteArray)(l):Iq f 0 l=l:=by apply qf;intro m;unfold Iq;rw[uQ];cases l[m]?<;>simp
def WH(f:Nat->ByteArray)(k l):Iq f (k+1) l=(Iq f k l).modify k (jR.keyed (f k)):=by apply qf;intro m;unfold Iq;rw[Jj,uQ,uQ];cases l[m]? with
 |none=>rfl
 |some x=>
   by_cases e:k=m;.simp_all
   .grind
def WI(f:Nat->ByteArray)(k l)(h:l.length<=k):Iq f k l=Iq f l.length l:=by apply qf;intro m;unfold Iq;rw[uQ,uQ];cases a:l[m]? with
 |none=>rfl
 |some x=>have:=(eJ.1 a).1;simp;rw[bM O9,bM this]
def La(f:Nat->ByteArray)(d):ZV f 0 d=d:=by unfold ZV;rw[WG]
def aco(F:Nat->Nat->ByteArray)(i k ds):(kd F i k ds).length=ds.length:=by simp[kd]
def tQ(F:Nat->Nat->ByteArray)(i k ds j):(kd F i k ds)[j]?=(ds[j]?).map λd=>ZV (F j) (if j=0 then 0 else if j<i then d.ins.length else if j=i then k else 0) d:=by unfold kd;rw[uQ]
def WJ(F:Nat->Nat->ByteArray)(ds):kd F 1 0 ds=ds:=by apply qf;intro j;rw[tQ];cases ds[j]? with
 |none=>rfl
 |some d=>
   simp only[iN];have:(if j=0 then 0 else if j<1 then d.ins.length else if j=1 then 0 else 0)=0:=by simp_all
   rw[this,La]
def ZW(F:Nat->Nat->ByteArray)(i k ds)(hi:0<i):kd F i (k+1) ds=ru (kd F i k ds) i k (F i k):=by apply qf;intro j;rw[Ay,tQ,tQ];cases ds[j]? with
 |none=>rfl
 |some d=>
   simp;by_cases e:i=j;.subst e;have a:¬i=0:=O9;simp[aX a];unfold ZV dA.key;rw[WH]
   .grind
def ZX(F:Nat->Nat->ByteArray)(i k ds)(hi:0<i)(h:∀d,ds[i]?=some d->d.ins.length<=k):kd F i k ds=kd F (i+1) 0 ds:=by apply qf;intro j;rw[tQ,tQ];cases a:ds[j]? with
 |none=>rfl
 |some d=>
   simp;by_cases e:j=i;.subst e;rw[aX O9,aX (A1 _),bM rfl,aX O9,bM O9];unfold ZV;rw[WI _ _ _ (h d a)]
   .grind
def tR(F:Nat->Nat->ByteArray)(ts:List rh):List rh:=ts.mapIdx λj t=>if j=0 then t else⟨t.tag,Iq (F j) t.ins.length t.ins,t.outs⟩
def aeu(F:Nat->Nat->ByteArray)(ds):(kd F ds.length 0 ds).map dA.m=tR F (ds.map dA.m):=by apply qf;intro j;unfold tR;rw[fW,tQ,uQ,fW];cases b:ds[j]? with
 |none=>rfl
 |some d=>
   have:=(eJ.1 b).1;simp;by_cases a:j=0;.rw[bM a,bM a,La]
   .rw[aX a,aX a,bM this];rfl
def fF(ts:List rh):List ByteArray:=ts.map λt=>jL t.tag t.ins t.outs
def acp(a):Ev a=(fF a).map Value.string:=by simp[Ev,fF]
def iI.Ok(x:iI):Prop:=(0<=x.kind/\x.kind<4)/\(0<=x.n/\x.n<64)
def kn0:iI:=⟨⟨#[]⟩,0,0,0⟩
def gQ(sp:List (Value×List iI))(ids:List ByteArray)(wrong:Bool)(i k:Nat):ByteArray:=let x:=((sp.map Prod.snd).getD i []).getD k kn0;mk (qI x.kind x.n (cR (ids.getD i ⟨#[]⟩)) (wrong&&decide (i=1)&&decide (k=0)))
def Qq{sp ids wrong i k s x id}(d:sp[i]?=some s)(e:s.2[k]?=some x)(hi:ids[i]?=some id):gQ sp ids wrong i k=mk (qI x.kind x.n (cR id) (wrong&&decide (i=1)&&decide (k=0))):=by
 unfold gQ;have a:(sp.map Prod.snd).getD i []=s.2:=by rw[CO,fW,d];rfl
 have b:s.2.getD k kn0=x:=by rw[CO,e];rfl
 have c:ids.getD i ⟨#[]⟩=id:=by rw[CO,hi];rfl
 rw[a,b,c]
structure Cl(w wr:World)(rb B Bt Bs Bm bb ig:Nat)(r:kC)(bc:List Value)(tv sv mv:Value)(ds:List dA)(sp ms:List (Value×List iI))(ids:List ByteArray):Prop where
 run:eH wr rb B r
 seen:cM Bt wr tv ds
 apart:Apart ds
 yi:kN Bs wr sv sp
 qJ:kN Bm wr mv ms
 blk:Row wr bb 93 bc
 Mj:Row wr ig 9 (ids.map Value.string)
 fk:Xc (SF w rb Bt Bm r.kv) w wr
def Cl.keep{w wr w' rb B d c b e g r f tv sv mv ds sp ms ids}(h:Cl w wr rb B d c b e g r f tv sv mv ds sp ms ids)(a:Below wr wr w'):Cl w w' rb B d c b e g r f tv sv mv ds sp ms ids:=⟨h.run.keep a,h.seen.keep a,h.apart,h.yi.keep a,h.qJ.keep a,h.blk.keep a h.blk.lt,h.Mj.keep a h.Mj.lt,h.fk.then a⟩
def eH.ZY{w rb B g j r cs u}(h:eH w rb B r)(a:Row w g 139 cs):eH (w.setCell ⟨g,j,none⟩ u) rb B r:=by refine⟨h.row.aM _ _ (λe=>?_),bJ h.ids a D9,bJ h.bS a D9,bJ h.aP a D9,by rw[lG];exact h.base⟩;have b:=h.row;subst e;unfold Row at b a;rw[b]at a;cases a
def Cl.key{w wr rb B m j f n x i k g r o tv sv mv ds sp ms ids d}(h:Cl w wr rb B m j f n x r o tv sv mv ds sp ms ids)(q)(p:ds[i]?=some d)(c:d.iv.ownBlock=some g)(y:k<d.ins.length):Cl w (wr.setCell (g,k*3+2) (.string q)) rb B m j f n x r o tv sv mv (ru ds i k q) sp ms ids:=by
 have s:=eN p;obtain⟨cs,a⟩:=iR (h.seen.ins d s).1 c;have u:∀{b:Nat} {t:TypeId} {l:List Value},Row wr b t l->t≠139->b≠g:=by intro b t l v z e;subst e;unfold Row at v a;rw[v]at a;cases a;exact z rfl
 exact⟨h.run.ZY a,WC h.seen h.apart p c y,h.apart.key _ _ _,h.yi.other a D9 D9,h.qJ.other a D9 D9,h.blk.aM _ _ (u h.blk D9),h.Mj.aM _ _ (u h.Mj D9),h.fk.setCell (g,k*3+2) _ (Eu h.fk a (λq=>.inr (.inr (.inl ⟨(cP (h.seen.ins d s).1 c).1,_,q⟩))))⟩
def Az(id:ByteArray):Nat->List iI->List iI
 |_,[]=>[]
 |k,x::l=>⟨id,k,x.kind,x.n⟩::Az id (k+1) l
def fJ:List ByteArray->List (List iI)->List iI
 |id::ids,m::ms=>Az id 0 m++fJ ids ms
 |_,_=>[]
def Lb(id):∀k l,(Az id k l).length=l.length
 |_,[]=>rfl
 |k,x::l=>by simp[Az,Lb id (k+1) l]
def iI.o6(id:ByteArray)(k:Nat)(x:iI):iI:=⟨id,k,x.kind,x.n⟩
def WT:∀l k o id,k<l.length->xA (l.modify k (iI.o6 id o))=((xA l).set (k*4) (.string id)).set (k*4+1) (.int .i64 o)
 |[],k,o,id,h=>by simp at h
 |x::l,0,o,id,h=>by simp[xA,iI.cells,iI.o6]
 |x::l,k+1,o,id,h=>by have f:=WT l k o id (by simpa using h);have e:∀a,xA (x::a)=x.cells++xA a:=λ_=>rfl;rw[Uu,e,e,f];have d:x.cells.length=4:=rfl;rw[ug _ _ O9,ug _ _ O9,d];have b:(k+1)*4 -4=k*4:=O9;have c:(k+1)*4+1 -4=k*4+1:=O9;rw[b,c]
def AA(ms:List (Value×List iI))(i k:Nat)(id:ByteArray):List (Value×List iI):=ms.modify i (λm=>(m.1,m.2.modify k (iI.o6 id k)))
def zu(ms i k j id):(AA ms i k id)[j]?=(ms[j]?).map λm=>if i=j then(m.1,m.2.modify k (iI.o6 id k))else m:=by unfold AA;rw[Jj];rfl
def WU(ms i k id):(AA ms i k id).length=ms.length:=by simp[AA]
def WV(ms i k id):(AA ms i k id).map Prod.fst=ms.map Prod.fst:=by apply qf;intro j;rw[fW,fW,zu];cases ms[j]? with
 |none=>rfl
 |some m=>split<;>rfl
def WS(ms ms':List (Value×List iI)):Prop:=ms'.map (λm=>(m.1,m.2.map λx=>(x.kind,x.n)))=ms.map (λm=>(m.1,m.2.map λx=>(x.kind,x.n)))
def WS.refl(ms):WS ms ms:=rfl
def WS.pt{ms a}(h:WS ms a)(i k id):WS ms (AA a i k id):=by unfold WS at*;rw[<-h];apply qf;intro j;rw[fW,fW,zu];cases a[j]? with
 |none=>rfl
 |some m=>
   simp;by_cases e:i=j;.rw[bM e];simp;apply qf;intro t;rw[fW,fW,Jj];cases m.2[t]? with
    |none=>rfl
    |some x=>split<;>rfl
   .simp_all
structure tT(ms:List (Value×List iI))(kv:Value):Prop where
 two:∀(i j:Nat) (a b:Value×List iI),i≠j->ms[i]?=some a->ms[j]?=some b->∀k,a.1.ownBlock=some k->b.1.ownBlock≠some k
 r9:∀a∈ms,∀k,a.1.ownBlock=some k->kv.ownBlock≠some k
def zw{ms i k j id a}(h:(AA ms i k id)[j]?=some a):∃a',ms[j]?=some a'/\a.1=a'.1/\a=if i=j then(a'.1,a'.2.modify k (iI.o6 id k))else a':=by rw[zu]at h;cases b:ms[j]? with
 |none=>rw[b]at h;cases h
 |some d=>rw[b]at h;simp only[iN,oC]at h;refine⟨d,rfl,?_,h.symm⟩;rw[<-h];split<;>rfl
def tT.pt{ms kv}(h:tT ms kv)(i k id):tT (AA ms i k id) kv:=by
 refine⟨λr s a b q e n m c=>?_,λa e m c=>?_⟩;.obtain⟨a',f,d,_⟩:=zw e;obtain⟨g,o,l,_⟩:=zw n;rw[d]at c;rw[l];exact h.two r s a' g q f o m c
 .obtain⟨j,p⟩:=yu.1 e;obtain⟨a',f,d,_⟩:=zw p;rw[d]at c;exact h.r9 a' (eN f) m c
def ZZ{B i k g w v kv ms m id}(h:kN B w v ms)(p:tT ms kv)(c:ms[i]?=some m)(a:m.1.ownBlock=some g)(r:k<m.2.length):kN B ((w.setCell (g,k*4) (.string id)).setCell ⟨g,k*4+1,none⟩ k) v (AA ms i k id):=by
 have l:=eN c;obtain⟨cs,d⟩:=iR (h.row m l) a;have o:=d.set (k*4) ↑id;refine⟨?_,λx u=>?_⟩;.rw[WU,WV];exact bJ (bJ h.own d D9) o D9
 .obtain⟨j,q⟩:=yu.1 u;obtain⟨y,b,_,rfl⟩:=zw q;have z:=eN b;by_cases e:i=j;.subst e;rw[c]at b;cases b;rw[bM rfl];show World.ownsRow _ _ _ _ _ (m.2.modify k (iI.o6 id k)).length (xA (m.2.modify k (iI.o6 id k)));rw[WT _ _ _ _ r,List.length_modify];exact Et (Et (h.row m l) a) a
  .rw[aX e];have f:∀t,y.1.ownBlock=some t->t≠g:=λt s n=>p.two i j m y e c b g a (by rw[s,n]);exact tP (tP (h.row y z) (g,k*4) _ f) (g,k*4+1) _ f
def aI.acs:(aI.prog.info? 50).map (λi=>(i.zero,i.size,i.bytes))=some (some (.agg #[aB,aA,aA,aA]),4,40):=K8
def abq:=@aI.acs
structure xZ(w wr:World)(rb B Bt Bm bb ig:Nat)(r:kC)(kv:Value)(cs:List iI)(bc:List Value)(tv mv:Value)(ds:List dA)(ms:List (Value×List iI))(ids:List ByteArray):Prop where
 run:eH wr rb B {r with kv:=kv,aP:=cs}
 seen:cM Bt wr tv ds
 qJ:kN Bm wr mv ms
 apart:tT ms kv
 blk:Row wr bb 93 bc
 Mj:Row wr ig 9 (ids.map Value.string)
 fk:Xc (SF w rb Bt Bm r.kv) w wr
 kvo:∀k,kv.ownBlock=some k->k<w.heap.size->r.kv.ownBlock=some k
def xZ.keep{w wr w' rb B c b d f r kv cs e tv mv ds ms ids}(h:xZ w wr rb B c b d f r kv cs e tv mv ds ms ids)(a:Below wr wr w'):xZ w w' rb B c b d f r kv cs e tv mv ds ms ids:=⟨h.run.keep a,h.seen.keep a,h.qJ.keep a,h.apart,h.blk.keep a h.blk.lt,h.Mj.keep a h.Mj.lt,h.fk.then a,h.kvo⟩
def tU{w g b t u cs l}(a:Row w g t cs)(c:Row w b u l)(d:u≠t):b≠g:=by intro e;subst e;unfold Row at c a;rw[c]at a;cases a;exact d rfl
def cM.other{B g j w tv u ds t cs}(h:cM B w tv ds)(r:Row w g t cs)(b:t≠90)(c:t≠139)(e:t≠86):cM B (w.setCell ⟨g,j,none⟩ u) tv ds:=⟨bJ h.own r b,λd a=>⟨bJ (h.ins d a).1 r c,(h.ins d a).2⟩,λd a=>⟨bJ (h.outs d a).1 r e,(h.outs d a).2⟩⟩
def eH.Qr{w rb B g j r cs u}(h:eH w rb B r)(a:Row w g 50 cs)(c:r.kv.ownBlock≠some g):eH (w.setCell ⟨g,j,none⟩ u) rb B r:=⟨h.row.aM _ _ (tU a h.row D9),bJ h.ids a D9,bJ h.bS a D9,tP h.aP _ _ (λk b e=>c (by rw[b];exact congrArg some e)),by rw[lG];exact h.base⟩
def xZ.adE{w wr rb B f e l x i k g r kv cs n tv mv ds ms ids m}(h:xZ w wr rb B f e l x r kv cs n tv mv ds ms ids)(id)(t:ms[i]?=some m)(c:m.1.ownBlock=some g)(y:k<m.2.length):xZ w ((wr.setCell (g,k*4) (.string id)).setCell ⟨g,k*4+1,none⟩ k) rb B f e l x r kv cs n tv mv ds (AA ms i k id) ids:=by have d:=eN t;obtain⟨z,a⟩:=iR (h.qJ.row m d) c;have b:=a.set (k*4) id;have p:=(cP (h.qJ.row m d) c).1;have s:=h.apart.r9 m d g c;have o:=h.fk.setCell (g,k*4) id (Eu h.fk a (λq=>.inr (.inr (.inr ⟨p,_,q⟩))));have r1:=h.run.Qr (j:=k*4) (u:=id) a s;have b1:=h.blk.aM (g,k*4) id (tU a h.blk D9);have v:=h.Mj.aM (g,k*4) id (tU a h.Mj D9);exact⟨r1.Qr b s,(h.seen.other a D9 D9 D9).other b D9 D9 D9,ZZ h.qJ h.apart t c y,h.apart.pt _ _ _,b1.aM _ _ (tU b b1 D9),v.aM _ _ (tU b v D9),o.setCell (g,k*4+1) _ (Eu o b (λq=>.inr (.inr (.inr ⟨p,_,q⟩)))),h.kvo⟩
def qB{w w' g t cs ro}(h:Row w g t cs)(a:w.grownBy w' ro)(b:ro≠some g):Row w' g t cs:=(a.block g h.lt (λe=>b e.symm)).trans h
def qC{B size n}{w w':World}{e v a ro}(h:w.ownsRow B e size v n a)(c:w.grownBy w' ro)(f:∀k,v.ownBlock=some k->ro≠some k):w'.ownsRow B e size v n a:=dY h (λk _ d _ b=>c.block k (cE b) (λe=>f k d e.symm))
def cM.acu{B w w' tv ds ro}(h:cM B w tv ds)(i:w.grownBy w' ro)(l:∀k t cs,Row w k t cs->t≠50->ro≠some k):cM B w' tv ds:=by
 have key:∀{e:TypeId} {size n:Nat} {v:Value} {c:List Value},w.ownsRow B e size v n c->e≠50->w'.ownsRow B e size v n c:=λb g=>qC b i (λk j=>by obtain⟨cs,f⟩:=iR b j;exact l k _ cs f g)
 exact⟨key h.own D9,λd a=>⟨key (h.ins d a).1 D9,(h.ins d a).2⟩,λd a=>⟨key (h.outs d a).1 D9,(h.outs d a).2⟩⟩
def xZ.push{w d w1 rb B p j q D r kv v1 cs s tv mv ds ms ids x}(h:xZ w d rb B p j q D r kv cs s tv mv ds ms ids)(g:d.grownBy w1 kv.ownBlock)(o:w1.ownsRow B 50 4 v1 (cs.length+1) (xA cs++x.cells))(l:v1.ownBlock=kv.ownBlock\/v1.ownBlock=some ↑d):Row w1 rb 44 ({r with kv:=kv,aP:=cs}:kC).cells/\xZ w (w1.setCell (rb,8) v1) rb B p j q D r v1 (cs++[x]) s tv mv ds ms ids:=by
 have i:∀(k:Nat) (t:TypeId) (cs:List Value),Row d k t cs->t≠50->kv.ownBlock≠some k:=by intro k t K I J e;obtain⟨F,f⟩:=iR h.run.aP e;exact tU f I J rfl
 have key:∀{B':Nat} {e:TypeId} {size n:Nat} {v:Value} {E:List Value},d.ownsRow B' e size v n E->e≠50->w1.ownsRow B' e size v n E:=λC H=>qC C g (λk c=>by obtain⟨cs,f⟩:=iR C c;exact i k _ cs f H)
 have b:=qB h.run.row g (i _ _ _ h.run.row D9);have u:=qB h.blk g (i _ _ _ h.blk D9);have y:=qB h.Mj g (i _ _ _ h.Mj D9);refine⟨b,⟨b.set 8 v1,bJ (key h.run.ids D9) b D9,bJ (key h.run.bS D9) b D9,?_,by rw[lG];exact bT h.run.base g.size⟩,(h.seen.acu g i).other b D9 D9 D9,⟨bJ (key h.qJ.own D9) b D9,λm A=>bJ (qC (h.qJ.row m A) g (λk c=>h.apart.r9 m A k c)) b D9⟩,⟨h.apart.two,λa z k c e=>?_⟩,u.aM _ _ (tU b u D9),y.aM _ _ (tU b y D9),(h.fk.grown g (λk e c=>.inr (.inl (h.kvo k e c)))).setCell (rb,8) _ (λ_=>.inl rfl),λk e c=>?_⟩
 .have G:xA (cs++[x])=xA cs++x.cells:=by simp[xA]
  show World.ownsRow _ _ _ _ _ (cs++[x]).length (xA (cs++[x]));rw[G,cK];exact bJ o b D9
 .obtain l|l:=l;.exact h.apart.r9 a z k c (l▸e)
  .rw[l]at e;cases e;obtain⟨F,f⟩:=iR (h.qJ.row a z) c;exact absurd f.lt (A1 _)
 .obtain l|l:=l;.exact h.kvo k (l▸e) c
  .rw[l]at e;cases e;have:=h.fk.size;omega
def WS.at{ms d}(h:WS ms d){i:Nat}{m}(o:ms[i]?=some m):∃b,d[i]?=some b/\b.1=m.1/\b.2.length=m.2.length/\∀(k:Nat) (x:iI),m.2[k]?=some x->∃y,b.2[k]?=some y/\y.kind=x.kind/\y.n=x.n:=by have c:=congrArg (λl=>l[i]?) h;simp only[fW,o]at c;cases f:d[i]? with
 |none=>rw[f]at c;cases c
 |some b=>rw[f]at c;simp at c;obtain⟨j,e⟩:=c;refine⟨b,rfl,j,by have:=congrArg List.length e;simpa using this,λk x p=>?_⟩;have a:=congrArg (λl=>l[k]?) e;simp only[fW,p]at a;cases g:b.2[k]? with
   |none=>rw[g]at a;cases a
   |some y=>rw[g]at a;simp at a;exact⟨y,rfl,a.1,a.2⟩
def SJ(id k)(l:List iI)(x)(b:l[k]?=some x):Az id k (l.drop k)=⟨id,k,x.kind,x.n⟩::Az id (k+1) (l.drop (k+1)):=by obtain⟨a,c⟩:=eJ.1 b;rw[A0 a,c];rfl
def NY(ids:List ByteArray)(ms:List (List iI))(i)(id)(m)(hi:ids[i]?=some id)(e:ms[i]?=some m):fJ (ids.drop i) (ms.drop i)=Az id 0 m++fJ (ids.drop (i+1)) (ms.drop (i+1)):=by obtain⟨c,a⟩:=eJ.1 hi;obtain⟨d,b⟩:=eJ.1 e;rw[A0 c,A0 d,a,b];rfl
end Go.Proofs.aH
