import Derived.Test.YtpjcmpfncpnmeabGreatProg
import Derived.Conc.WgLib
import Derived.Conc.WgWords
import Derived.Conc.AppendWalk
import Derived.Test.YtpjcmpfncpnmeabGreatM04
import Derived.Test.YtpjcmpfncpnmeabGreatM05
set_option linter.all false
set_option maxHeartbeats 4000000
set_option maxRecDepth 100000
namespace Go.Proofs.YtpjcmpfncpnmeabGreat
abbrev uY:Go.Conc.Lib.WgLink:={add:=162,done:=164,wait:=166,relMerge:=51,disable:=46,enable:=49,inBubble:=169,associate:=170,fatal:=64,uOr:=171,uAdd:=172,raceRead:=45,uLoad:=173,uStore:=174,disassociate:=175,semrelease:=65,acquire:=50,isAssociated:=181,uCas:=182,raceWrite:=183,semacquire:=184,orU64:=186,addU64:=187,loadU64:=188,storeU64:=189,casU64:=192,tWgP:=270,tUP:=139,tAssoc:=272,tWg:=263,tAU:=261,tU64:=66,tUint:=185,tU32:=88,tPU32:=143,tPAU:=286,tPU64:=288,tNoCopy:=87,tANoCopy:=93,tAlign64:=259}
def yj:Go.Conc.Lib.WgLib Tryz.prog uY:=⟨Tryz.func162,Tryz.func164,Tryz.func166,Tryz.func51,Tryz.func46,Tryz.func49,Tryz.func169,Tryz.func170,Tryz.func64,Tryz.func171,Tryz.func172,Tryz.func45,Tryz.func173,Tryz.func174,Tryz.func175,Tryz.func65,Tryz.func50,Tryz.func181,Tryz.func182,Tryz.func183,Tryz.func184,Tryz.func186,Tryz.func187,Tryz.func188,Tryz.func189,Tryz.func192,Tryz.underlying270,Tryz.runUnderlying270,Tryz.sizeOf270,Tryz.isAgg270,Tryz.zeroValue270,Tryz.underlying139,Tryz.runUnderlying139,Tryz.sizeOf139,Tryz.isAgg139,Tryz.zeroValue139,Tryz.underlying272,Tryz.runUnderlying272,Tryz.sizeOf272,Tryz.isAgg272,Tryz.zeroValue272,Tryz.underlying263,Tryz.runUnderlying263,Tryz.sizeOf263,Tryz.isAgg263,Tryz.zeroValue263,Tryz.underlying261,Tryz.runUnderlying261,Tryz.sizeOf261,Tryz.isAgg261,Tryz.zeroValue261,Tryz.underlying66,Tryz.runUnderlying66,Tryz.sizeOf66,Tryz.isAgg66,Tryz.zeroValue66,Tryz.underlying185,Tryz.runUnderlying185,Tryz.sizeOf185,Tryz.isAgg185,Tryz.zeroValue185,Tryz.underlying88,Tryz.runUnderlying88,Tryz.sizeOf88,Tryz.isAgg88,Tryz.zeroValue88,Tryz.underlying143,Tryz.runUnderlying143,Tryz.sizeOf143,Tryz.isAgg143,Tryz.zeroValue143,Tryz.underlying286,Tryz.runUnderlying286,Tryz.sizeOf286,Tryz.isAgg286,Tryz.zeroValue286,Tryz.underlying288,Tryz.runUnderlying288,Tryz.sizeOf288,Tryz.isAgg288,Tryz.zeroValue288,Tryz.underlying0,Tryz.runUnderlying0,Tryz.sizeOf0,Tryz.isAgg0,Tryz.zeroValue0,Tryz.underlying3,Tryz.runUnderlying3,Tryz.sizeOf3,Tryz.isAgg3,Tryz.zeroValue3,Tryz.underlying4,Tryz.runUnderlying4,Tryz.sizeOf4,Tryz.isAgg4,Tryz.zeroValue4,Tryz.underlying9,Tryz.runUnderlying9,Tryz.sizeOf9,Tryz.isAgg9,Tryz.zeroValue9,Tryz.underlying20,Tryz.runUnderlying20,Tryz.sizeOf20,Tryz.isAgg20,Tryz.zeroValue20,Tryz.underlying21,Tryz.runUnderlying21,Tryz.sizeOf21,Tryz.isAgg21,Tryz.zeroValue21,K8,K8⟩
open Go.Conc Go.ConcN Go.ConcN.Gen Go.RowKit Go.Conc.Lib Go.ConcR.Gen Go.Ren
open Go.ConcR (wgBlock WgAt stA smA rd wr mk Payload DC0 Bk)
section
def aaZ{T}(h:T.size=34):∃v0 v1 v2 v3 z A B C D E v10 v11 b c d f g i j k v20 m n o p q s t u v v30 w x y:Value,T=#[v0,v1,v2,v3,z,A,B,C,D,E,v10,v11,b,c,d,f,g,i,j,k,v20,m,n,o,p,q,s,t,u,v,v30,w,x,y]:=by
 have⟨l⟩:=T;have h0:=nL (by simpa using h.symm);iterate 34 (obtain⟨_,r,e,a⟩:=aa0 h0;clear h0;subst e;have h0:=a;clear a)
 obtain rfl:r=[]:=oG (by simpa using h);exact⟨_,_,_,_,_,_,_,_,_,_,_,_,_,_,_,_,_,_,_,_,_,_,_,_,_,_,_,_,_,_,_,_,_,_,rfl⟩
noncomputable def bot:Frame:={(default:Frame)with fn:=Tryz.prog.funcs.size,defers:=[],mode:=.panicking [goexitEntry]}
noncomputable def Ca:Code:=Tryz.f163.body.getD .skip
noncomputable def zj:Code:=match Ca with|.seq _ (.seq _ (.block _ (.loop c)))=>c|_=>.skip
structure zk where
 b2:Nat
 b3:Nat
 b5:Nat
 T:Nat
 o:Nat
 cap:Nat
 wk:Nat
 key:Nat->ByteArray
 lock:Nat->ByteArray
 id:Nat->ByteArray
 aY:Nat->Int
def Ef(s:Site)(u:zk)(bw:Nat):Deferred:={target:=.fn (.func 163) #[.pointer (some ⟨s.Wg,0,none⟩),.pointer (some ⟨bw,0,none⟩),.pointer (some ⟨u.b2,0,none⟩),.pointer (some ⟨u.b3,0,none⟩),.pointer (some ⟨u.b5,0,none⟩)],args:=#[]}
def Te(s u bw W):stepG Tryz.prog false (born Tryz.prog (Ef s u bw)) W=.go (G ((baseD 163).at ⟨#[.pointer (some ⟨s.Wg,0,none⟩),.pointer (some ⟨bw,0,none⟩),.pointer (some ⟨u.b2,0,none⟩),.pointer (some ⟨u.b3,0,none⟩),.pointer (some ⟨u.b5,0,none⟩)]++Array.replicate 29 undef,[]⟩ [.code Ca]) [bot]) W #[]:=by
 simp[born,Ef,stepG,unwind,callDeferred,invoke,callFunc,Tryz.func163,Tryz.f163,seen,GStep.after,G,Frame.enter,Frame.at,baseD,bot,Ca]
def Ol(T):QuitsD Tryz.prog 2 0 (G {(baseD 163).at ⟨T,[]⟩ []with mode:=.returning} [bot]):=by
 refine QuitsD.ctl (g':=G bot []) rfl (λw=>?_) ?_;.simp[G,stepG,unwind,doReturn,results,Frame.at,baseD,bot,seen,GStep.after,goexitEntry]
 refine QuitsD.ctl (g':={G bot []with status:=.finished}) rfl (λw=>?_) ⟨rfl,rfl⟩;simp[G,stepG,unwind,bot,Frame.catches];rfl
variable[Payload]
structure WK(s:Site)(u:zk)(bw:Nat)(w:Nat)(W:World):Prop where
 w:W.cell? ⟨bw,0,none⟩=some (.int .i64 w)
 tr:W.cell? ⟨u.b2,0,none⟩=some (.slice (some ⟨u.T,u.o,none⟩) s.N u.cap)
 wn:W.cell? ⟨u.b3,0,none⟩=some (.int .i64 u.wk)
 an:W.cell? ⟨u.b5,0,none⟩=some (.slice (some ⟨s.C,0,none⟩) s.N s.N)
 el:∀x,x<s.N->W.cell? ⟨u.T,u.o+x*4,none⟩=some (.string (u.key x))/\W.cell? ⟨u.T,u.o+x*4+1,none⟩=some (.string (u.lock x))/\W.cell? ⟨u.T,u.o+x*4+2,none⟩=some (.string (u.id x))/\W.cell? ⟨u.T,u.o+x*4+3,none⟩=some (.int .i64 (u.aY x))
 live:WgLive s.ty s.Wg W
 pay:PayAt s.C s.N W
 Ay:s.L<=W.heap.size
 szb:bw<W.heap.size
structure Lay(s:Site)(u:zk):Prop where
 b2:s.low u.b2
 b3:s.low u.b3
 b5:s.low u.b5
 T:s.low u.T
def WK.rely{s u bw w oc B W W1}(a:Lay s u)(h:WK s u bw w W)(r:lV s (λb=>b=bw) oc B W W1):WK s u bw w W1:=by have k:∀b o,(b=bw\/s.low b)->W1.cell? ⟨b,o,none⟩=W.cell? ⟨b,o,none⟩:=λb o g=>cell_of_block (r.keep b (.inr g)) o;refine⟨(k _ _ (.inl rfl)).trans h.w,(k _ _ (.inr a.b2)).trans h.tr,(k _ _ (.inr a.b3)).trans h.wn,(k _ _ (.inr a.b5)).trans h.an,λx i=>?_,r.live h.live,r.pay h.pay,bI h.Ay r.size,dV h.szb r.size⟩;have⟨c,d,e,f⟩:=h.el x i;exact⟨(k _ _ (.inr a.T)).trans c,(k _ _ (.inr a.T)).trans d,(k _ _ (.inr a.T)).trans e,(k _ _ (.inr a.T)).trans f⟩
def nE:=@WK.rely
def WK.did{s u bw w md ro oc B W W1 es}(a:Lay s u)(r:s.Wg<s.L)(m:s.Wg≠s.C)(t:s.L<=bw)(p:s.C<s.L)(e:∀b,B b->s.L<=b/\b≠bw)(h:WK s u bw w W)(d:vD s md ro oc B W W1 es):WK s u bw w W1:=by
 have q:=h.Ay;have k:∀b o,(b=bw\/s.low b)->W1.cell? ⟨b,o,none⟩=W.cell? ⟨b,o,none⟩:=λb o c=>by
  refine cell_of_block ?_ o;obtain rfl|c:=c;.exact d.rest _ h.szb (λx=>(e _ x).2 rfl) O9
  .exact d.rest _ (by have:=c.1;omega) (λx=>by have:=(e _ x).1;have:=c.1;omega) c.2.1
 refine⟨(k _ _ (.inl rfl)).trans h.w,(k _ _ (.inr a.b2)).trans h.tr,(k _ _ (.inr a.b3)).trans h.wn,(k _ _ (.inr a.b5)).trans h.an,λx n=>?_,?_,d.pay h.pay,bI h.Ay d.size,dV h.szb d.size⟩;.have⟨f,g,i,j⟩:=h.el x n;exact⟨(k _ _ (.inr a.T)).trans f,(k _ _ (.inr a.T)).trans g,(k _ _ (.inr a.T)).trans i,(k _ _ (.inr a.T)).trans j⟩
 .have⟨st,sm,l⟩:=h.live;exact⟨st,sm,l.of_block (d.rest _ O9 (λx=>by have:=(e _ x).1;omega) m)⟩
noncomputable def LH(s:Site)(T:Array Value):Goroutine:=G ((baseD 163).at ⟨T,[dcall 164 #[.pointer (some ⟨s.Wg,0,none⟩)]]⟩ [.code zj,.inLoop zj,.inBlock 0]) [bot]
noncomputable def Ri:Code:=match zj with|.seq _ (.seq (.block _ (.seq _ c)) _)=>c|_=>.skip
noncomputable def adp:Code:=match zj with|.seq _ (.seq _ c)=>c|_=>.skip
noncomputable def RH(s:Site)(T:Array Value):Goroutine:=G ((baseD 163).at ⟨T,[dcall 164 #[.pointer (some ⟨s.Wg,0,none⟩)]]⟩ [.code Ri,.inBlock 1,.code adp,.inLoop zj,.inBlock 0]) [bot]
structure Tf(s:Site)(u:zk)(bw:Nat)(i:Int)(T:Array Value):Prop where
 size:T.size=34
 t0:T[0]?=some (.pointer (some ⟨s.Wg,0,none⟩))
 t1:T[1]?=some (.pointer (some ⟨bw,0,none⟩))
 t2:T[2]?=some (.pointer (some ⟨u.b2,0,none⟩))
 t3:T[3]?=some (.pointer (some ⟨u.b3,0,none⟩))
 t4:T[4]?=some (.pointer (some ⟨u.b5,0,none⟩))
 t5:T[5]?=some (.int .i64 i)
def Tf.list{s u bw i T}(h:Tf s u bw i T):∃y z A B v10 v11 a b c d e f g j v20 k l m n o p q r t v30 v w x,T=#[.pointer s.Wg,.pointer bw,.pointer u.b2,.pointer u.b3,.pointer u.b5,↑i,y,z,A,B,v10,v11,a,b,c,d,e,f,g,j,v20,k,l,m,n,o,p,q,r,t,v30,v,w,x]:=by
 obtain⟨v0,v1,v2,v3,C,D,y,z,A,B,v10,v11,a,b,c,d,e,f,g,j,v20,k,l,m,n,o,p,q,r,t,v30,v,w,x,rfl⟩:=aaZ h.size;have t0:=h.t0;have t1:=h.t1;have t2:=h.t2;have t3:=h.t3;have t4:=h.t4;have t5:=h.t5;simp at t0 t1 t2 t3 t4 t5;subst t0 t1 t2 t3 t4 t5;exact⟨y,z,A,B,v10,v11,a,b,c,d,e,f,g,j,v20,k,l,m,n,o,p,q,r,t,v30,v,w,x,rfl⟩
end
section
def WW:=@stepG_region_end
variable[Payload]
section
variable{s:Site}{u:zk}{bw w:Nat}{B:Nat→Prop}{Stop:eY}{W:World}
def WX{oc}(c:Lay s u)(a:WK s u bw w W)(j:∀T W,Tf s u bw w T->WK s u bw w W->fK Tryz.prog s false (λb=>b=bw) oc Stop B (LH s T) W):fK Tryz.prog s false (λb=>b=bw) oc Stop B (born Tryz.prog (Ef s u bw)) W:=by
 refine bZ 50 _ _ ?_;u_in (nE c) a;rw[Te];refine⟨by u_nil,?_⟩;simp[Ca,Tryz.f163];u_c stepG_seq (nE c) a;u_reg (nE c) a;u_defer (nE c) a;u_c WW (nE c) a;u_c stepG_seq (nE c) a;u_reg (nE c) a;refine Goes.stop (λl g=>?_);replace a:=nE c a g;refine kL rfl rfl (by k_ne) (λf h=>?_);replace a:=nE c a h;have n:=a.w;refine⟨↑w,f,by go_simp,lI (λe k=>?_),?_⟩;.have d:=mem_listed k;simp[go_sem, *]at d;subst d;exact⟨_,rfl,.inr (.inl rfl),a.szb⟩
 rw[cI];refine bZ 50 _ _ ?_;u_op (nE c) a;u_c WW (nE c) a;u_c stepG_block (nE c) a;u_c stepG_loop (nE c) a;refine Goes.stop (λm i=>?_);replace a:=nE c a i;exact j _ _ ⟨rfl,rfl,rfl,rfl,rfl,rfl,rfl⟩ a
def Rj{oc fin}(x:s.ty=263)(f:Lay s u)(hi:oc w w){i}(hN:(s.N:Int)<=i){T}(t:Tf s u bw i T)(a:WK s u bw w W)(p:∀c,oc w c->W.cell? (s.C,c)=some (fin c)):fK Tryz.prog s false (λb=>b=bw) (oc w) (Eg Tryz.prog s oc fin w) B (LH s T) W:=by
 obtain⟨aa,ab,ae,af,v10,v11,D,E,F,G,H,I,J,K,v20,L,M,O,P,Q,R,S,μ,V,v30,X,Y,π,rfl⟩:=t.list;replace a:WK s u bw w W/\KW s (oc w) fin W:=⟨a,a.live,p⟩;have d:∀{W W1:World},WK s u bw w W/\KW s (oc w) fin W->lV s (λb=>b=bw) (oc w) B W W1->WK s u bw w W1/\KW s (oc w) fin W1:=λh r=>⟨nE f h.1 r,gG h.2 r⟩;simp only[LH,zj,Ca,Tryz.f163,oF];refine bZ 50 _ _ ?_;u_c stepG_seq d a;u_c stepG_seq d a;u_reg d a;u_op d a;refine Goes.stop (λy k=>?_);replace a:=d a k;refine kL rfl rfl (by k_ne) (λj l=>?_);replace a:=d a l;have A:=a.1.tr;refine⟨.slice (u.T,u.o) s.N u.cap,j,by go_simp,lI (λe v=>?_),?_⟩;.have g:=mem_listed v;simp[go_sem, *]at g;subst g;exact⟨_,rfl,.inr (.inr f.b2),dV f.b2.1 a.1.Ay⟩
 rw[cI];walk_nrm;have q:decide (i<(s.N:Int))=false:=kX O9;refine bZ 50 _ _ ?_;u_op d a;u_op d a;u_c WW d a;u_cond false d a;u_exit d a;u_c stepG_end d a;u_in d a;rw[stepG_unwind_enter rfl yj.f_done (nm_done uY) rfl];refine⟨by u_nil,?_⟩;walk_nrmf doneFn;refine Goes.stop (λz m=>?_);replace a:=d a m;have n:=@afp _ Tryz.prog uY s (λb=>b=bw) B oc fin w;exact n yj x hi rfl (Ol _) _ a.2
end
end
section
def KZ:=@mem_listed
variable[Payload]
section
variable{s:Site}{u:zk}{bw w:Nat}{B:Nat→Prop}{Stop:eY}{W:World}
def aa1{oc}(Y:Lay s u){x}(hx:x<s.N)(hN:s.N<1099511627776)(hC:s.C<s.L)(hW:s.Wg<s.L)(hne:s.Wg≠s.C)(hbw:s.L<=bw)(hB:∀b,B b->s.L<=b/\b≠bw){T}(hT:Tf s u bw x T)(hF:WK s u bw w W)(afq:∀W' bt T',s.L<=bt/\bt≠bw->bt<W'.heap.size->W'.heap[bt]?=some (.cells #[(u.key x),(u.lock x),(u.id x),(u.aY x)] 247)->WK s u bw w W'->(∀c,oc c->W'.cell? (s.C,c)=W.cell? (s.C,c))->Tf s u bw x T'->T'[6]?=some (.pointer (some ⟨bt,0,none⟩))->fK Tryz.prog s false (λb=>b=bw) oc Stop (un B λc=>c=bt) (RH s T') W'):
 fK Tryz.prog s false (λb=>b=bw) oc Stop B (LH s T) W:=by
 obtain⟨v6,v7,v8,v9,v10,v11,v12,v13,v14,v15,v16,v17,v18,v19,v20,v21,v22,v23,v24,v25,v26,v27,v28,v29,v30,v31,v32,v33,rfl⟩:=hT.list;clear hT;replace hF:WK s u bw w W/\∀c,oc c->W.cell? (s.C,c)=W.cell? (s.C,c):=⟨hF,λ_ _=>rfl⟩;have rl:∀{W0 Az:World},(WK s u bw w W0/\∀c,oc c->W0.cell? (s.C,c)=W.cell? (s.C,c))->lV s (λb=>b=bw) oc B W0 Az->(WK s u bw w Az/\∀c,oc c->Az.cell? (s.C,c)=W.cell? (s.C,c)):=λh r=>⟨nE Y h.1 r,λc hc=>(r.cell c hc).trans (h.2 c hc)⟩;simp only[LH,zj,Ca,Tryz.f163,oF];refine bZ 50 _ _ ?_;u_c stepG_seq rl hF;u_c stepG_seq rl hF;u_reg rl hF;u_op rl hF;refine Goes.stop (λW1 h1=>?_);replace hF:=rl hF h1;clear h1;refine kL rfl rfl (by k_ne) (λW2 h2=>?_);replace hF:=rl hF h2;clear h2;have hc:=hF.1.tr;refine⟨.slice (u.T,u.o) s.N u.cap,W2,by go_simp,lI (λe he=>?_),?_⟩;.have hm:=KZ he;simp[go_sem, *]at hm;subst hm;exact⟨_,rfl,.inr (.inr Y.b2),dV Y.b2.1 hF.1.Ay⟩
 clear hc;rw[cI];walk_nrm;have q:decide ((x:Int)<(s.N:Int))=true:=nM O9;refine bZ 50 _ _ ?_;u_op rl hF;u_op rl hF;u_c stepG_region_end rl hF;u_cond true rl hF;u_c stepG_skip rl hF;u_c stepG_seq rl hF;u_c stepG_block rl hF;u_c stepG_seq rl hF;u_reg rl hF;refine Goes.stop (λW3 h3=>?_);replace hF:=rl hF h3;clear h3 q;refine kL rfl rfl (by k_ne) (λW4 h4=>?_);replace hF:=rl hF h4;clear h4;have hc:=hF.1.tr;refine⟨.slice (u.T,u.o) s.N u.cap,W4,by go_simp,lI (λe he=>?_),?_⟩;.have hm:=KZ he;simp[go_sem, *]at hm;subst hm;exact⟨_,rfl,.inr (.inr Y.b2),dV Y.b2.1 hF.1.Ay⟩
 clear hc;rw[cI];walk_nrm;have q1:(x:Int).toNat=x:=O9;have q2:¬((x:Int)<0\/(s.N:Int)<=x):=O9;refine bZ 50 _ _ ?_;u_op rl hF;u_op rl hF;refine Goes.stop (λW5 h5=>?_);replace hF:=rl hF h5;clear h5;refine kL rfl rfl (by k_ne) (λW6 h6=>?_);replace hF:=rl hF h6;clear h6;have⟨e1,e2,e3,e4⟩:=hF.1.el x hx;refine⟨.agg #[↑(u.key x),↑(u.lock x),↑(u.id x),↑(u.aY x)],W6,by go_simp,lI (λe he=>?_),?_⟩
 .have hm:=KZ he;simp[go_sem, *]at hm;have hr:(B u.T\/u.T=bw\/s.low u.T)/\u.T<(W6:Nat):=⟨.inr (.inr Y.T),dV Y.T.1 hF.1.Ay⟩;obtain rfl|rfl|rfl|rfl:=hm;.exact⟨_,rfl,hr⟩
  .exact⟨_,rfl,hr⟩
  .exact⟨_,rfl,hr⟩
  .exact⟨_,rfl,hr⟩
 clear e1 e2 e3 e4;rw[cI];walk_nrm;refine kL rfl rfl (by k_ne) (λW7 h7=>?_);replace hF:=rl hF h7;clear h7;have hCs:=dV hC hF.1.Ay;refine⟨.pointer W7.heap.size,W7.alloc (.cells #[aB,aB,aB,aA] 247),by go_simp,?_,?_⟩;.have:∀(es:Array Event),(∀e∈es,False)->es=#[]:=λes h=>ac5.2 h;rw[this (listed _ _ _ _ _) (λe he=>by have hm:=KZ he;simp[go_sem, *]at hm)];exact WY hCs
 rw[Hh];have hbt:s.L<=(W7:Nat)/\(W7:Nat)≠bw:=⟨hF.1.Ay,Nat.ne_of_gt hF.1.szb⟩;replace hF:WK s u bw w (W7.alloc (.cells #[aB,aB,aB,aA] 247))/\∀c,oc c->(W7.alloc (.cells #[aB,aB,aB,aA] 247)).cell? (s.C,c)=W.cell? (s.C,c):=⟨hF.1.did (md:=false) (ro:=aO) (oc:=aO) Y hW hne hbw hC hB (WY hCs),λc hc=>(cell_of_block (by show(W7.heap.push _)[s.C]?=_;rw[y7 hCs,nN hCs]) c).trans (hF.2 c hc)⟩
 have rl:∀{W0 Az:World},(WK s u bw w W0/\∀c,oc c->W0.cell? (s.C,c)=W.cell? (s.C,c))->lV s (λb=>b=bw) oc (un B λc=>c=(W7:Nat)) W0 Az->(WK s u bw w Az/\∀c,oc c->Az.cell? (s.C,c)=W.cell? (s.C,c)):=λh r=>⟨nE Y h.1 r,λc hc=>(r.cell c hc).trans (h.2 c hc)⟩;have hbk:(W7.alloc (.cells #[aB,aB,aB,aA] 247)).heap[(W7:Nat)]?=some (.cells #[aB,aB,aB,aA] 247):=by show(W7.heap.push _)[(W7:Nat)]?=_;rw[Kb]
 generalize(W7:Nat)=bt,W7.alloc (.cells #[aB,aB,aB,aA] 247)=W8 at*;walk_nrm;refine WZ rfl rfl (by k_ne) (λW9 h9=>?_);replace hF:=rl hF h9;replace hbk:=(h9.keep bt (.inl (.inr rfl))).trans hbk;clear h9;have c0:W9.cell? (bt,0)=some ↑aB:=by simp[World.cell?,hbk]
 have c1:W9.cell? (bt,1)=some ↑aB:=by simp[World.cell?,hbk]
 have c2:W9.cell? (bt,2)=some ↑aB:=by simp[World.cell?,hbk]
 have c3:W9.cell? (bt,3)=some ↑aA:=by simp[World.cell?,hbk]
 have fz:∀o,W9.frozen? ⟨bt,o,none⟩=false:=λo=>by simp[World.frozen?,hbk]
 have⟨g1,g2,g3⟩:=agw (v0:=↑(u.key x)) (v1:=↑(u.lock x)) (v2:=↑(u.id x)) (v3:=↑(u.aY x)) hbk;have hlt:=(eA.1 hbk).1;have hB':∀b,un B (λc=>c=bt) b->s.L<=b/\b≠bw:=λb hb=>hb.elim (hB b) λe=>e▸hbt;have hd:vD s false (λb=>b=bw) oc (un B λc=>c=bt) W9 ((((W9.setCell (bt,0) ↑(u.key x)).setCell (bt,1) ↑(u.lock x)).setCell (bt,2) ↑(u.id x)).setCell (bt,3) ↑(u.aY x)) #[⟨.cell (bt,0),true,false⟩,⟨.cell (bt,1),true,false⟩,⟨.cell (bt,2),true,false⟩,⟨.cell (bt,3),true,false⟩]:=Xa (b:=bt) (.inr rfl) O9 g2 g3 rfl rfl hlt (λe he=>by simp at he;obtain rfl|rfl|rfl|rfl:=he<;>exact⟨_,_,rfl⟩)
 refine⟨((((W9.setCell (bt,0) ↑(u.key x)).setCell (bt,1) ↑(u.lock x)).setCell (bt,2) ↑(u.id x)).setCell (bt,3) ↑(u.aY x)),by go_simp,?_,?_⟩;.refine Xa (b:=bt) (.inr rfl) O9 g2 g3 rfl rfl hlt (λe he=>?_);have hm:=KZ he;have es:∀(w:World) (es:Array Event) (a:Addr) (b:ByteArray),(store a ↑b).events Tryz.prog w es=storedEv Tryz.prog w es a ↑b .plain:=λw es a b=>events_store Tryz.prog w es a _ .plain rfl;simp[go_sem,es,storedEv, *]at hm;obtain rfl|rfl|rfl|rfl:=hm<;>exact⟨_,_,rfl⟩
 have hgr:∀W',W'.heap.size=W9.heap.size->grow (un B λc=>c=bt) W9 W'=un B λc=>c=bt:=λW' e=>by funext c;exact propext ⟨λh=>h.elim id λh=>by omega,.inl⟩
 rw[hgr _ g3];replace hF:WK s u bw w ((((W9.setCell (bt,0) ↑(u.key x)).setCell (bt,1) ↑(u.lock x)).setCell (bt,2) ↑(u.id x)).setCell (bt,3) ↑(u.aY x))/\∀c,oc c->((((W9.setCell (bt,0) ↑(u.key x)).setCell (bt,1) ↑(u.lock x)).setCell (bt,2) ↑(u.id x)).setCell (bt,3) ↑(u.aY x)).cell? (s.C,c)=W.cell? (s.C,c):=⟨hF.1.did Y hW hne hbw hC hB' hd,λc hc=>(cell_of_block (g2 s.C O9) c).trans (hF.2 c hc)⟩
 clear hd hgr g2 fz c0 c1 c2 c3 hbk;generalize((((W9.setCell ⟨bt,0,none⟩ ↑(u.key x)).setCell ⟨bt,1,none⟩ ↑(u.lock x)).setCell ⟨bt,2,none⟩ ↑(u.id x)).setCell ⟨bt,3,none⟩ ↑(u.aY x))=W10 at*;replace hlt:bt<(W10:Nat):=g3▸hlt;clear g3;walk_nrm;have hG:(WK s u bw w W10/\∀c,oc c->W10.cell? (s.C,c)=W.cell? (s.C,c))/\W10.heap[bt]?=some (.cells #[↑(u.key x),↑(u.lock x),↑(u.id x),↑(u.aY x)] 247)/\bt<(W10:Nat):=⟨hF,g1,hlt⟩;have rl2:∀{W0 Az:World},((WK s u bw w W0/\∀c,oc c->W0.cell? (s.C,c)=W.cell? (s.C,c))/\W0.heap[bt]?=some (.cells #[↑(u.key x),↑(u.lock x),↑(u.id x),↑(u.aY x)] 247)/\bt<(W0:Nat))->lV s (λb=>b=bw) oc (un B λc=>c=bt) W0 Az->((WK s u bw w Az/\∀c,oc c->Az.cell? (s.C,c)=W.cell? (s.C,c))/\Az.heap[bt]?=some (.cells #[↑(u.key x),↑(u.lock x),↑(u.id x),↑(u.aY x)] 247)/\bt<(Az:Nat)):=λh r=>⟨rl h.1 r,(r.keep bt (.inl (.inr rfl))).trans h.2.1,dV h.2.2 r.size⟩
 clear hF g1 hlt;refine bZ 5 _ _ ?_;u_c stepG_region_end rl2 hG;refine Goes.stop (λW11 h11=>?_);replace hG:=rl2 hG h11;refine afq _ _ _ hbt hG.2.2 hG.2.1 hG.1.1 hG.1.2 ?_ ?_;.exact⟨rfl,rfl,rfl,rfl,rfl,rfl,rfl⟩
 .rfl
end
end
section
noncomputable def mJ:Array Oper:=match Ri with|.region _ o _=>o|_=>#[]
def Xb:Ri=.region 5 mJ true:=by simp[Ri,zj,Ca,Tryz.f163,mJ]
def Tg(k:Nat):Nat:=[20,21,22,23,24,25,26,27,28,29,30,19,31,32,33].getD k 0
def afr(s:Site)(u:zk)(x bt:Nat)(e n:Int)(k:Nat):Value:=[.slice (some ⟨s.C,0,none⟩) s.N s.N,.int .i64 x,.pointer (some ⟨bt,0,none⟩),.string (u.key x),.pointer (some ⟨bt,1,none⟩),.string (u.lock x),.pointer (some ⟨bt,2,none⟩),.string (u.id x),.pointer (some ⟨bt,3,none⟩),.int .i64 (u.aY x),.tuple #[.int .i64 e,.int .i64 n],.tuple #[.int .i64 e,.int .i64 n],.int .i64 e,.int .i64 n,.pointer (some ⟨s.C,x,none⟩)].getD k undef
def adY:∀k,k<15->7<=Tg k/\Tg k<34:=D9
def aa2:∀k,k<15->∀j,j<15->Tg k=Tg j->k=j:=D9
def Tf.put{s u bw i T}(h:Tf s u bw i T){d}(a:7<=d)(v):Tf s u bw i (T.setIfInBounds d v):=⟨by simpa using h.size,by rw[lG O9];exact h.t0,by rw[lG O9];exact h.t1,by rw[lG O9];exact h.t2,by rw[lG O9];exact h.t3,by rw[lG O9];exact h.t4,by rw[lG O9];exact h.t5⟩
variable[Payload]
structure RI(s:Site)(u:zk)(bw w x bt:Nat)(oc:Nat->Prop)(fin:Nat->Value)(e n:Int)(l:Array Bool)(a:Act)(W:World)(B:Nat->Prop):Prop where
 sz:l.size=16
 df:a.defers=[dcall 164 #[.pointer (some ⟨s.Wg,0,none⟩)]]
 t:Tf s u bw x a.tmps
 t6:a.tmps[6]?=some (.pointer (some ⟨bt,0,none⟩))
 v:∀k,k<15->l.getD k false=true->a.tmps[Tg k]?=some (afr s u x bt e n k)
 st:l.getD 15 false=true->W.cell? ⟨s.C,x,none⟩=some (.int .i64 e)
 wk:WK s u bw w W
 blk:W.heap[bt]?=some (.cells #[.string (u.key x),.string (u.lock x),.string (u.id x),.int .i64 (u.aY x)] 247)
 btL:s.L<=bt/\bt≠bw
 own:B bt
 hi:∀b,B b->s.L<=b/\b≠bw
 old:∀c,oc c->c<x->W.cell? ⟨s.C,c,none⟩=some (fin c)
section
variable{s:Site}{u:zk}{bw w x bt:Nat}{oc B:Nat→Prop}{fin:Nat→Value}{e n:Int}{l:Array Bool}{a:Act}{W W1:World}
def RI.rely(f:Lay s u)(j:oc x)(h:RI s u bw w x bt oc fin e n l a W B)(r:lV s (λb=>b=bw) oc B W W1):RI s u bw w x bt oc fin e n l a W1 B:=⟨h.sz,h.df,h.t,h.t6,h.v,λg=>(r.cell x j).trans (h.st g),nE f h.wk r,(r.keep bt (.inl h.own)).trans h.blk,h.btL,h.own,h.hi,λc d i=>(r.cell c d).trans (h.old c d i)⟩
def RI.put(h:RI s u bw w x bt oc fin e n l a W B){i}(hi:i<15):RI s u bw w x bt oc fin e n (l.setIfInBounds i true) (a.put (some (Tg i)) (afr s u x bt e n i)) W B:=by
 have d:=adY i hi;refine⟨by simpa using h.sz,h.df,h.t.put d.1 _,by simp[Act.put];rw[lG O9];exact h.t6,λk c b=>?_,λb=>?_,h.wk,h.blk,h.btL,h.own,h.hi,h.old⟩
 .simp[Act.put];by_cases e:k=i;.subst e;rw[Kc (by rw[h.t.size];omega)]
  .rw[lG (λx=>e (aa2 k c i hi x.symm))];exact h.v k c (by rwa [getD_set_ne _ (fY e)]at b)
 .exact h.st (by rwa [getD_set_ne _ O9]at b)
end
end
section
def rI:=@mem_listed
def yl{l}(i j)(h:((mJ[i]?).any λo=>o.after.any λe=>e.on==j&&Region.binds .any e)=true)(d:i∈Region.ready .any mJ l):l.getD j false=true:=by have⟨_,o,c,a⟩:=mem_ready.1 d;rw[c]at h;simp only[Option.any_some,Array.any_eq_true]at h;have⟨k,b,h⟩:=h;simp only[dJ,uQ]at h;rw[<-h.1];exact a _ (Array.getElem_mem b) h.2
def adZ:∃p f,mJ[0]?=some ⟨some 20,.load 250 (.tmp 4),250,p,f,none⟩:=⟨_,_,rfl⟩
def ad0:∃p f,mJ[1]?=some ⟨some 21,.move (.tmp 5),3,p,f,none⟩:=⟨_,_,rfl⟩
def ad1:∃p f,mJ[2]?=some ⟨some 22,.fieldAddr 247 (.tmp 6) 0,0,p,f,none⟩:=⟨_,_,rfl⟩
def ad2:∃p f,mJ[3]?=some ⟨some 23,.load 9 (.tmp 22),9,p,f,none⟩:=⟨_,_,rfl⟩
def ad3:∃p f,mJ[4]?=some ⟨some 24,.fieldAddr 247 (.tmp 6) 1,0,p,f,none⟩:=⟨_,_,rfl⟩
def ad4:∃p f,mJ[5]?=some ⟨some 25,.load 9 (.tmp 24),9,p,f,none⟩:=⟨_,_,rfl⟩
def ad5:∃p f,mJ[6]?=some ⟨some 26,.fieldAddr 247 (.tmp 6) 2,0,p,f,none⟩:=⟨_,_,rfl⟩
def ad6:∃p f,mJ[7]?=some ⟨some 27,.load 9 (.tmp 26),9,p,f,none⟩:=⟨_,_,rfl⟩
def ad7:∃p f,mJ[8]?=some ⟨some 28,.fieldAddr 247 (.tmp 6) 3,0,p,f,none⟩:=⟨_,_,rfl⟩
def ad8:∃p f,mJ[9]?=some ⟨some 29,.load 3 (.tmp 28),3,p,f,none⟩:=⟨_,_,rfl⟩
def aa3:∃p f,mJ[11]?=some ⟨some 19,.move (.tmp 30),265,p,f,none⟩:=⟨_,_,rfl⟩
def aa4:∃p f,mJ[12]?=some ⟨some 31,.extract (.tmp 19) 0,45,p,f,none⟩:=⟨_,_,rfl⟩
def aa5:∃p f,mJ[13]?=some ⟨some 32,.extract (.tmp 19) 1,3,p,f,none⟩:=⟨_,_,rfl⟩
def aa6:∃p f,mJ[14]?=some ⟨some 33,.indexAddr 250 (.tmp 20) (.tmp 21),0,p,f,none⟩:=⟨_,_,rfl⟩
variable[Payload]
def zl(i:Nat):Prop:=∀{s:Site} {u:zk} {bw w x bt:Nat} {oc B:Nat->Prop} {fin:Nat->Value} {e n:Int} {l:Array Bool} {a:Act} {W:World} {Stop:eY} {rest:List Nat} {kk:List Item} {cs:List Frame},Lay s u->oc x->x<s.N->s.N<1099511627776->RI s u bw w x bt oc fin e n l a W B->i∈Region.ready .any mJ l->(∀a' W' B',RI s u bw w x bt oc fin e n (l.setIfInBounds i true) a' W' B'->fK Tryz.prog s false (λb=>b=bw) oc Stop B' (G ((baseD 163).at a' (.inRegion mJ rest::kk)) cs) W')->
    fK Tryz.prog s false (λb=>b=bw) oc Stop B (G ((baseD 163).at a (.inRegion mJ (i::rest)::kk)) cs) W
def agx:zl 0:=by
 intro s u bw w x bt oc B fin e n l a W Stop rest kk cs b q v hN h o k;have⟨p,f,g⟩:=adZ;refine kL g rfl (by k_ne) (λj c=>?_);replace h:=h.rely b q c;clear c;have⟨T,df⟩:=a;have t4:T[4]?=some (.pointer u.b5):=h.t.t4;have r:=h.wk.an;refine⟨.slice s.C s.N s.N,j,by clear k o g;go_simp,lI (λev m=>by have d:=rI m;simp[go_sem, *]at d;subst d;exact⟨_,rfl,.inr (.inr b.b5),dV b.b5.1 h.wk.Ay⟩),?_⟩
 rw[cI];exact k _ _ _ (h.put (i:=0) D9)
def agy:zl 1:=by
 intro s u bw w x bt oc B fin e n l a W Stop rest kk cs g q r hN h o k;have⟨p,f,c⟩:=ad0;refine kL c rfl (by k_ne) (λd b=>?_);replace h:=h.rely g q b;clear b;have⟨T,df⟩:=a;have t5:T[5]?=some (.int .i64 x):=h.t.t5;refine⟨.int .i64 x,d,by clear k o c;go_simp,lI (λev j=>by have m:=rI j;simp[go_sem, *]at m),?_⟩
 rw[cI];exact k _ _ _ (h.put (i:=1) D9)
def agz:zl 2:=by
 intro s u bw w x bt oc B fin e n l a W Stop rest kk cs g q r hN h o k;have⟨p,f,c⟩:=ad1;refine kL c rfl (by k_ne) (λd b=>?_);replace h:=h.rely g q b;clear b;have⟨T,df⟩:=a;have t6:T[6]?=some (.pointer bt):=h.t6;refine⟨.pointer bt,d,by clear k o c;go_simp,lI (λev j=>by have m:=rI j;simp[go_sem, *]at m),?_⟩
 rw[cI];exact k _ _ _ (h.put (i:=2) D9)
def agA:zl 3:=by
 intro s u bw w x bt oc B fin e n l a W Stop rest kk cs m r y hN h j k;have⟨p,f,g⟩:=ad2;have o:=yl 3 2 K8 j;refine kL g rfl (by k_ne) (λb c=>?_);replace h:=h.rely m r c;clear c;have⟨T,df⟩:=a;have t22:T[22]?=some (.pointer bt):=h.v 2 D9 o;have t:b.cell? (bt,0)=some ↑(u.key x):=by simp[World.cell?,h.blk]
 refine⟨↑(u.key x),b,by clear k j g;go_simp,lI (λev q=>by have d:=rI q;simp[go_sem, *]at d;subst d;exact⟨_,rfl,.inl h.own,(eA.1 h.blk).1⟩),?_⟩
 rw[cI];exact k _ _ _ (h.put (i:=3) D9)
def agB:zl 4:=by
 intro s u bw w x bt oc B fin e n l a W Stop rest kk cs g q r hN h o k;have⟨p,f,c⟩:=ad3;refine kL c rfl (by k_ne) (λd b=>?_);replace h:=h.rely g q b;clear b;have⟨T,df⟩:=a;have t6:T[6]?=some (.pointer bt):=h.t6;refine⟨.pointer (bt,1),d,by clear k o c;go_simp,lI (λev j=>by have m:=rI j;simp[go_sem, *]at m),?_⟩
 rw[cI];exact k _ _ _ (h.put (i:=4) D9)
def agC:zl 5:=by
 intro s u bw w x bt oc B fin e n l a W Stop rest kk cs m r y hN h j k;have⟨p,f,g⟩:=ad4;have o:=yl 5 4 K8 j;refine kL g rfl (by k_ne) (λb c=>?_);replace h:=h.rely m r c;clear c;have⟨T,df⟩:=a;have t24:T[24]?=some (.pointer (bt,1)):=h.v 4 D9 o;have t:b.cell? (bt,1)=some ↑(u.lock x):=by simp[World.cell?,h.blk]
 refine⟨↑(u.lock x),b,by clear k j g;go_simp,lI (λev q=>by have d:=rI q;simp[go_sem, *]at d;subst d;exact⟨_,rfl,.inl h.own,(eA.1 h.blk).1⟩),?_⟩
 rw[cI];exact k _ _ _ (h.put (i:=5) D9)
def agD:zl 6:=by
 intro s u bw w x bt oc B fin e n l a W Stop rest kk cs g q r hN h o k;have⟨p,f,c⟩:=ad5;refine kL c rfl (by k_ne) (λd b=>?_);replace h:=h.rely g q b;clear b;have⟨T,df⟩:=a;have t6:T[6]?=some (.pointer bt):=h.t6;refine⟨.pointer (bt,2),d,by clear k o c;go_simp,lI (λev j=>by have m:=rI j;simp[go_sem, *]at m),?_⟩
 rw[cI];exact k _ _ _ (h.put (i:=6) D9)
def agE:zl 7:=by
 intro s u bw w x bt oc B fin e n l a W Stop rest kk cs m r y hN h j k;have⟨p,f,g⟩:=ad6;have o:=yl 7 6 K8 j;refine kL g rfl (by k_ne) (λb c=>?_);replace h:=h.rely m r c;clear c;have⟨T,df⟩:=a;have t26:T[26]?=some (.pointer (bt,2)):=h.v 6 D9 o;have t:b.cell? (bt,2)=some ↑(u.id x):=by simp[World.cell?,h.blk]
 refine⟨↑(u.id x),b,by clear k j g;go_simp,lI (λev q=>by have d:=rI q;simp[go_sem, *]at d;subst d;exact⟨_,rfl,.inl h.own,(eA.1 h.blk).1⟩),?_⟩
 rw[cI];exact k _ _ _ (h.put (i:=7) D9)
def agF:zl 8:=by
 intro s u bw w x bt oc B fin e n l a W Stop rest kk cs g q r hN h o k;have⟨p,f,c⟩:=ad7;refine kL c rfl (by k_ne) (λd b=>?_);replace h:=h.rely g q b;clear b;have⟨T,df⟩:=a;have t6:T[6]?=some (.pointer bt):=h.t6;refine⟨.pointer (bt,3),d,by clear k o c;go_simp,lI (λev j=>by have m:=rI j;simp[go_sem, *]at m),?_⟩
 rw[cI];exact k _ _ _ (h.put (i:=8) D9)
def agG:zl 9:=by
 intro s u bw w x bt oc B fin e n l a W Stop rest kk cs m r y hN h j k;have⟨p,f,g⟩:=ad8;have o:=yl 9 8 K8 j;refine kL g rfl (by k_ne) (λb c=>?_);replace h:=h.rely m r c;clear c;have⟨T,df⟩:=a;have t28:T[28]?=some (.pointer (bt,3)):=h.v 8 D9 o;have t:b.cell? (bt,3)=some ↑(u.aY x):=by simp[World.cell?,h.blk]
 refine⟨↑(u.aY x),b,by clear k j g;go_simp,lI (λev q=>by have d:=rI q;simp[go_sem, *]at d;subst d;exact⟨_,rfl,.inl h.own,(eA.1 h.blk).1⟩),?_⟩
 rw[cI];exact k _ _ _ (h.put (i:=9) D9)
def afs:zl 11:=by
 intro s u bw w x bt oc B fin e n l a W Stop rest kk cs j q r hN h d k;have⟨p,f,c⟩:=aa3;have d10:=yl 11 10 K8 d;refine kL c rfl (by k_ne) (λg b=>?_);replace h:=h.rely j q b;clear b;have⟨T,df⟩:=a;have t30:T[30]?=some (.tuple #[e,n]):=h.v 10 D9 d10;refine⟨.tuple #[e,n],g,by clear k d c;go_simp,lI (λev m=>by have o:=rI m;simp[go_sem, *]at o),?_⟩
 rw[cI];exact k _ _ _ (h.put (i:=11) D9)
def aft:zl 12:=by
 intro s u bw w x bt oc B fin e n l a W Stop rest kk cs j q r hN h d k;have⟨p,f,c⟩:=aa4;have d11:=yl 12 11 K8 d;refine kL c rfl (by k_ne) (λg b=>?_);replace h:=h.rely j q b;clear b;have⟨T,df⟩:=a;have t19:T[19]?=some (.tuple #[e,n]):=h.v 11 D9 d11;refine⟨e,g,by clear k d c;go_simp,lI (λev m=>by have o:=rI m;simp[go_sem, *]at o),?_⟩
 rw[cI];exact k _ _ _ (h.put (i:=12) D9)
def afu:zl 13:=by
 intro s u bw w x bt oc B fin e n l a W Stop rest kk cs j q r hN h d k;have⟨p,f,c⟩:=aa5;have d11:=yl 13 11 K8 d;refine kL c rfl (by k_ne) (λg b=>?_);replace h:=h.rely j q b;clear b;have⟨T,df⟩:=a;have t19:T[19]?=some (.tuple #[e,n]):=h.v 11 D9 d11;refine⟨n,g,by clear k d c;go_simp,lI (λev m=>by have o:=rI m;simp[go_sem, *]at o),?_⟩
 rw[cI];exact k _ _ _ (h.put (i:=13) D9)
def afv:zl 14:=by
 intro s u bw w x bt oc B fin e n l a W Stop rest kk cs j t y hN h b k;have⟨p,f,d⟩:=aa6;have m:=yl 14 0 K8 b;have o:=yl 14 1 K8 b;refine kL d rfl (by k_ne) (λg c=>?_);replace h:=h.rely j t c;clear c;have⟨T,df⟩:=a;have t20:T[20]?=some (.slice (some ⟨s.C,0,none⟩) s.N s.N):=h.v 0 D9 m;have t21:T[21]?=some (.int .i64 x):=h.v 1 D9 o;have z:(x:Int).toNat=x:=O9;have A:¬((x:Int)<0\/(s.N:Int)<=x):=O9;refine⟨.pointer (some ⟨s.C,x,none⟩),g,by clear k b d;go_simp,lI (λev q=>by have r:=rI q;simp[go_sem, *]at r),?_⟩
 rw[cI];exact k _ _ _ (h.put (i:=14) D9)
end
section
def aa7:∃p f,mJ[15]?=some ⟨none,.store 45 (.tmp 33) (.tmp 31),0,p,f,none⟩:=⟨_,_,rfl⟩
def Hi:mJ.size=16:=rfl
def Om:∀k o,mJ[k]?=some o->∀e∈o.after,Region.binds .any e=true->e.on<k:=by have key:((List.range 16).all λk=>(mJ[k]?).all λo=>o.after.all λe=>!Region.binds .any e||decide (e.on<k))=true:=K8;intro k o a e c b;have d:=(eA.1 a).1;have:=xE.1 key k (y5.2 d);rw[a]at this;have:=y8.1 this e c;simpa[b]using this
variable[Payload]
section
variable{s:Site}{u:zk}{bw w x bt:Nat}{oc B:Nat→Prop}{fin:Nat→Value}{e n:Int}{l:Array Bool}{a:Act}{W:World}{Stop:eY}{rest:List Nat}{kk:List Item}{cs:List Frame}
def afw(z:Lay s u)(J:s.Wg<s.L)(q:s.Wg≠s.C)(M:s.L<=bw)(I:s.C<s.L)(F:oc x)(y:x<s.N)(h:RI s u bw w x bt oc fin e n l a W B)(r:15∈Region.ready .any mJ l)(k:∀a' W' B',RI s u bw w x bt oc fin e n (l.setIfInBounds 15 true) a' W' B'->fK Tryz.prog s false (λb=>b=bw) oc Stop B' (G ((baseD 163).at a' (.inRegion mJ rest::kk)) cs) W'):
 fK Tryz.prog s false (λb=>b=bw) oc Stop B (G ((baseD 163).at a (.inRegion mJ (15::rest)::kk)) cs) W:=by
 have⟨p,f,E⟩:=aa7;have d14:=yl 15 14 K8 r;have d12:=yl 15 12 K8 r;refine WZ E rfl (by k_ne) (λg j=>?_);replace h:=h.rely z F j;have⟨T,df⟩:=a;have t33:T[33]?=some (.pointer (some ⟨s.C,x,none⟩)):=h.v 14 D9 d14;have t31:T[31]?=some (.int .i64 e):=h.v 12 D9 d12;have⟨⟨v,V⟩,X⟩:=Ti y h.wk.pay;have i:vD s false (λb=>b=bw) oc B g (g.setCell ⟨s.C,x,none⟩ (.int .i64 e)) #[⟨.cell ⟨s.C,x,none⟩,true,false⟩]:=vD.cell F y h.wk.pay;refine⟨g.setCell ⟨s.C,x,none⟩ (.int .i64 e),by clear k r E;go_simp,?_,?_⟩
 .have A:∀ev∈listed Tryz.prog (baseD 163).fn ⟨T,df⟩ ⟨none,.store 45 (.tmp 33) (.tmp 31),0,p,f,none⟩ g,ev=⟨.cell ⟨s.C,x,none⟩,true,false⟩:=λev m=>by have D:=mem_listed m;simp[go_sem, *]at D;exact D
  exact⟨i.rest,i.cells,i.pay,i.size,i.os,i.tape,λev m=>by rw[A ev m];exact i.ev _ S8,λd=>deafBehind_idle (λev m=>by rw[A ev m];simp) d⟩
 .have P:grow B g (g.setCell ⟨s.C,x,none⟩ (.int .i64 e))=B:=by
   have μ:(g.setCell ⟨s.C,x,none⟩ (.int .i64 e)).heap.size=g.heap.size:=by simp
   funext c;exact propext ⟨λh=>h.elim id λh=>by omega,.inl⟩
  rw[P];have K:s.C≠bt:=by have:=h.btL.1;omega
  refine k _ _ _ ⟨by simpa using h.sz,h.df,h.t,h.t6,λk Q R=>h.v k Q (by rwa [getD_set_ne _ O9]at R),λ_=>Xd y h.wk.pay,h.wk.did z J q M I h.hi i,?_,h.btL,h.own,h.hi,λc O S=>?_⟩;.have⟨cs,j,H⟩:=h.wk.pay;exact((I3 j).2.1 bt (fY K)).trans h.blk
  .have⟨cs,j,H⟩:=h.wk.pay;rw[<-h.old c O S];have q:c≠x:=O9;simp[World.cell?,(I3 (o:=x) (v:=.int .i64 e) j).1,j,lG (fY q)]
end
end
section
def aa8:∃p f,mJ[10]?=some ⟨some 30,.call {callee:=.value (.func 165),args:=#[.tmp 23,.tmp 25,.tmp 27,.tmp 29],argTypes:=#[9,9,9,3]},265,p,f,none⟩:=⟨_,_,rfl⟩
def ym(u:zk)(x:Nat)(e n:Int):Prop:=∀(tl:List Frame) (W:World),tl≠[]->1<=W.heap.size->Cb Tryz.prog (agH Tryz.prog tl (.tuple #[.int .i64 e,.int .i64 n])) (λ_=>False) (cA Tryz.prog 165 #[.string (u.key x),.string (u.lock x),.string (u.id x),.int .i64 (u.aY x)] .normal tl) W
variable[Payload]
section
variable{s:Site}{u:zk}{bw w x bt:Nat}{oc B:Nat→Prop}{fin:Nat→Value}{e n:Int}{l:Array Bool}{a:Act}{W:World}{Stop:eY}{rest:List Nat}{kk:List Item}{cs:List Frame}
def RI.more{B'}(h:RI s u bw w x bt oc fin e n l a W B)(c:∀b,B b->B' b)(d:∀b,B' b->s.L<=b/\b≠bw):RI s u bw w x bt oc fin e n l a W B':=⟨h.sz,h.df,h.t,h.t6,h.v,h.st,h.wk,h.blk,h.btL,c _ h.own,d,h.old⟩
def RI.gb(f:Lay s u)(I:s.Wg<s.L)(K:s.Wg≠s.C)(J:s.L<=bw)(G:s.C<s.L){M}(H:s.L<=M)(g:bw<M)(E:bt<M){B' W' es}(m:GB B' W W' es)(A:∀b,B' b->M<=b)(N:M<=W)(h:RI s u bw w x bt oc fin e n l a W B):RI s u bw w x bt oc fin e n l a W' B:=by
 have low:∀c,c<M->W'.heap[c]?=W.heap[c]?:=λc q=>m.rest c O9 (λy=>by have:=A c y;omega);have k:∀b o,b<M->W'.cell? ⟨b,o,none⟩=W.cell? ⟨b,o,none⟩:=λb o g=>cell_of_block (low b g) o;have d:∀{b},s.low b->b<M:=λg=>by have:=g.1;omega
 refine⟨h.sz,h.df,h.t,h.t6,h.v,λp=>(k _ _ O9).trans (h.st p),⟨(k _ _ g).trans h.wk.w,(k _ _ (d f.b2)).trans h.wk.tr,(k _ _ (d f.b3)).trans h.wk.wn,(k _ _ (d f.b5)).trans h.wk.an,λy F=>?_,?_,?_,bI h.wk.Ay m.size,dV h.wk.szb m.size⟩,(low bt E).trans h.blk,h.btL,h.own,h.hi,λc q D=>(k _ _ O9).trans (h.old c q D)⟩;.have⟨i,j,r,z⟩:=h.wk.el y F;exact⟨(k _ _ (d f.T)).trans i,(k _ _ (d f.T)).trans j,(k _ _ (d f.T)).trans r,(k _ _ (d f.T)).trans z⟩
 .have⟨st,sm,p⟩:=h.wk.live;exact⟨st,sm,p.of_block (low _ O9)⟩
 .have⟨cs,i,j⟩:=h.wk.pay;exact⟨cs,(low _ O9).trans i,j⟩
def afx(d:Lay s u)(z:s.Wg<s.L)(I:s.Wg≠s.C)(H:s.L<=bw)(y:s.C<s.L)(D:oc x)(P:ym u x e n)(h:RI s u bw w x bt oc fin e n l a W B)(o:10∈Region.ready .any mJ l)(k:∀a' W' B',RI s u bw w x bt oc fin e n (l.setIfInBounds 10 true) a' W' B'->fK Tryz.prog s false (λb=>b=bw) oc Stop B' (G ((baseD 163).at a' (.inRegion mJ rest::kk)) cs) W'):
 fK Tryz.prog s false (λb=>b=bw) oc Stop B (G ((baseD 163).at a (.inRegion mJ (10::rest)::kk)) cs) W:=by
 have⟨p,f,R⟩:=aa8;have t23:a.tmps[23]?=some (.string (u.key x)):=h.v 3 D9 (yl 10 3 K8 o);have t25:a.tmps[25]?=some (.string (u.lock x)):=h.v 5 D9 (yl 10 5 K8 o);have t27:a.tmps[27]?=some (.string (u.id x)):=h.v 7 D9 (yl 10 7 K8 o);have t29:a.tmps[29]?=some (.int .i64 (u.aY x)):=h.v 9 D9 (yl 10 9 K8 o);have Q:(#[.tmp 23,.tmp 25,.tmp 27,.tmp 29]:Array Operand).map a.eval=#[.string (u.key x),.string (u.lock x),.string (u.id x),.int .i64 (u.aY x)]:=by simp[Act.eval,t23,t25,t27,t29]
 refine bZ 1 _ _ (Goes.step rfl λT K=>?_);replace h:=h.rely d D K;refine goes_call R rfl (by k_ne) rfl Tryz.func165 (by rfl) rfl ⟨by u_nil,λq N=>?_⟩;replace h:=h.rely d D N;rw[Q];have S:=P ((baseD 163).at a (.inRegion mJ (10::rest)::kk)::cs) q S8 (by have:=h.wk.Ay;omega);have E:=(eA.1 h.blk).1;have:=Xe (s:=s) (ro:=λb=>b=bw) (oc:=oc) (Stop:=Stop) (B:=B) (F:=λW=>RI s u bw w x bt oc fin e n l a W B) (M:=q.heap.size) y z h.wk.Ay (λB' W W1 r j=>j.rely d D ⟨λb c=>r.keep b (c.imp .inl id),r.cell,r.pay,r.live,r.size,r.os,r.tape⟩)
  (λB' W W' es m t A j=>j.gb d z I H y h.wk.Ay h.wk.szb E m t A)
  (λB' g W t A j O=>by
    have⟨W',ES,J,m⟩:=O;refine⟨_,W',ES,J,m,?_⟩;refine k _ _ _ (((j.gb d z I H y h.wk.Ay h.wk.szb E m (λb c=>(t b c).1) A).put (i:=10) D9).more (λb c=>.inl c) λb c=>?_);have μ:=h.wk.szb;obtain c|c|c:=c;.exact h.hi b c
    .grind
    .omega)
  S (λb c=>c.elim) L9 h
 rw[Tj]at this;exact this
end
end
section
def mixed:Tryz.prog.follows .mixedOrders=true:=K8
variable[Payload]
section
variable{s:Site}{u:zk}{bw w x bt:Nat}{oc B:Nat→Prop}{fin:Nat→Value}{e n:Int}{W:World}{Stop:eY}
def aa9(g:Lay s u)(M:s.Wg<s.L)(S:s.Wg≠s.C)(P:s.L<=bw)(K:s.C<s.L)(m:oc x)(p:x<s.N)(hN:s.N<1099511627776)(au:u.wk<2147483648)(ae:ym u x e n){T}(z:Tf s u bw x T)(Y:T[6]?=some (.pointer bt))(f:WK s u bw w W)(af:W.heap[bt]?=some (.cells #[(u.key x),(u.lock x),(u.id x),(u.aY x)] 247))(ag:s.L<=bt/\bt≠bw)(J:B bt)(π:∀b,B b->s.L<=b/\b≠bw)(hold:∀c,oc c->c<x->W.cell? (s.C,c)=some (fin c))
 (ab:∀B' F W',(∀b,B' b->s.L<=b/\b≠bw)->Tf s u bw ((x+u.wk:Nat):Int) F->WK s u bw w W'->W'.cell? (s.C,x)=some ↑e->(∀c,oc c->c<x->W'.cell? (s.C,c)=some (fin c))->fK Tryz.prog s false (λb=>b=bw) oc Stop B' (LH s F) W'):
 fK Tryz.prog s false (λb=>b=bw) oc Stop B (RH s T) W:=by
 unfold RH;rw[Xb];refine Xf (I:=RI s u bw w x bt oc fin e n) mixed (λl a W B i rest d j k=>?_) (λl a W B d aj j=>?_) (λW1 A=>?_)
 .have hi:i<16:=by have⟨_,o,ai,_⟩:=mem_ready.1 j;exact(eA.1 ai).1
  have:i=0\/i=1\/i=2\/i=3\/i=4\/i=5\/i=6\/i=7\/i=8\/i=9\/i=10\/i=11\/i=12\/i=13\/i=14\/i=15:=O9;obtain rfl|rfl|rfl|rfl|rfl|rfl|rfl|rfl|rfl|rfl|rfl|rfl|rfl|rfl|rfl|rfl:=this;.exact agx g m p hN d j k
  .exact agy g m p hN d j k
  .exact agz g m p hN d j k
  .exact agA g m p hN d j k
  .exact agB g m p hN d j k
  .exact agC g m p hN d j k
  .exact agD g m p hN d j k
  .exact agE g m p hN d j k
  .exact agF g m p hN d j k
  .exact agG g m p hN d j k
  .exact afx g M S P K m ae d j k
  .exact afs g m p hN d j k
  .exact aft g m p hN d j k
  .exact afu g m p hN d j k
  .exact afv g m p hN d j k
  .exact afw g M S P K m p d j k
 .have O:=Tm Om j aj;have μ:=d.st (O 15 (by rw[Hi];decide));have⟨T,df⟩:=a;have z:=d.t;have Q:=d.df;simp only at z Q;subst Q;obtain⟨bm,bo,bp,bq,v10,v11,av,ay,az,a0,a2,a3,a4,a5,v20,a6,a7,a8,a9,ba,bb,bc,bd,bf,v30,bg,bj,bk,rfl⟩:=z.list;have f:WK s u bw w W/\W.cell? (s.C,x)=some e/\∀c,oc c->c<x->W.cell? (s.C,c)=some (fin c):=⟨d.wk,μ,d.old⟩;have v:∀{W W1:World},(WK s u bw w W/\W.cell? (s.C,x)=some e/\∀c,oc c->c<x->W.cell? (s.C,c)=some (fin c))->lV s (λb=>b=bw) oc B W W1->(WK s u bw w W1/\W1.cell? (s.C,x)=some e/\∀c,oc c->c<x->W1.cell? (s.C,c)=some (fin c)):=λh r=>⟨nE g h.1 r,(r.cell x m).trans h.2.1,λc y E=>(r.cell c y).trans (h.2.2 c y E)⟩
  have aa:=d.hi;clear d μ O z j;simp only[adp,zj,Ca,Tryz.f163,oF];refine bZ 50 _ _ ?_;u_c stepG_region_end v f;u_c stepG_inBlock v f;u_reg v f;u_op v f;refine Goes.stop (λak G=>?_);replace f:=v f G;clear G;refine kL rfl rfl (by k_ne) (λV H=>?_);replace f:=v f H;clear H;have y:=f.1.wn;refine⟨u.wk,V,by go_simp,lI (λe ah=>?_),?_⟩;.have R:=mem_listed ah;simp[go_sem, *]at R;subst R;exact⟨_,rfl,.inr (.inr g.b3),dV g.b3.1 f.1.Ay⟩
  clear y;rw[cI];walk_nrm;have q:IntKind.i64.wrap ((x:Int)+(u.wk:Int))=((x+u.wk:Nat):Int):=by rw[y9];omega
  refine bZ 50 _ _ ?_;u_op v f;u_op v f;u_c stepG_region_end v f;u_c stepG_inLoop v f;refine Goes.stop (λao X=>?_);replace f:=v f X;refine ab _ _ _ aa ?_ f.1 f.2.1 f.2.2;exact⟨rfl,rfl,rfl,rfl,rfl,rfl,rfl⟩
 .replace A:lV s (λb=>b=bw) oc B W {W1 with drawn:=W1.drawn+1}:=A.trans (.at W1 (W1.drawn+1));exact⟨by simp[Hi],rfl,z,Y,λk ar D=>by simp[Array.getD]at D,λD=>by simp[Array.getD]at D,nE g f A,(A.keep bt (.inl J)).trans af,ag,J,π,λc y E=>(A.cell c y).trans (hold c y E)⟩
end
def N0(s:Site)(u:zk)(w c:Nat):Prop:=c<s.N/\c%u.wk=w
section
variable{s:Site}{u:zk}{bw w:Nat}{fin:Nat→Value}{er nr:Nat→Int}
def aba(A:s.ty=263)(i:Lay s u)(t:s.Wg<s.L)(z:s.Wg≠s.C)(y:s.L<=bw)(r:s.C<s.L)(D:N0 s u w w)(hN:s.N<1099511627776)(aa:u.wk<2147483648)(aj:0<u.wk)(Q:∀x,x<s.N->ym u x (er x) (nr x))(ah:∀x,fin x=(er x)):∀m x B T W,s.N -x<=m->x%u.wk=w->(∀b,B b->s.L<=b/\b≠bw)->Tf s u bw (x:Int) T->WK s u bw w W->(∀c,N0 s u w c->c<x->W.cell? (s.C,c)=some (fin c))->fK Tryz.prog s false (λb=>b=bw) (N0 s u w) (Eg Tryz.prog s (N0 s u) fin w) B (LH s T) W:=by
 intro m;induction m with
 |zero=>intro x B T W Y o p l j k;exact Rj A i D O9 l j λc a=>k c a (by have:=a.1;omega)
 |succ m ab=>
   intro x B T W Y o p l j k;obtain g|g:=pX x s.N
   .have π:N0 s u w x:=⟨g,o⟩;refine aa1 (oc:=N0 s u w) i g hN r t z y p l j λW' bt ae v q V O X R K=>?_;refine aa9 (fin:=fin) (e:=er x) (n:=nr x) i t z y r π g hN aa (Q x g) R K O V v (.inr rfl) (λb μ=>μ.elim (p b) λe=>e▸v) (λc a q=>(X c a).trans (k c a q)) λE F G M S P ak ai=>?_;refine ab (x+u.wk) E F G O9 (by rw[Nat.add_mod_right];exact o) M S P λc a q=>?_;obtain h|rfl|h:=QE c x;.simp_all
    .grind
    .exfalso;have J:=a.2;obtain⟨d,rfl⟩:∃d,c=x+d:=⟨c -x,O9⟩;have ag:d<u.wk:=O9;have H:=Nat.div_add_mod x u.wk;have I:=Nat.div_add_mod (x+d) u.wk;rw[J]at I;rw[o]at H;have af:u.wk*((x+d)/u.wk)=u.wk*(x/u.wk)+d:=O9;have f:(x+d)/u.wk<=x/u.wk\/x/u.wk+1<=(x+d)/u.wk:=O9;obtain f|f:=f;.have:=Nat.mul_le_mul_left u.wk f;omega
     .have:=Nat.mul_le_mul_left u.wk f;rw[Nat.mul_add]at this;omega
   .exact Rj A i D O9 l j λc a=>k c a (by have:=a.1;omega)
end
end
section
noncomputable def xN:Code:=Tryz.f155.body.getD .skip
noncomputable def nR:Code:=match xN with|.seq _ (.seq _ (.seq _ (.seq (.seq _ (.block _ (.loop c))) _)))=>c|_=>.skip
noncomputable def Rm:Code:=match xN with|.seq _ (.seq _ (.seq _ (.seq _ c)))=>c|_=>.skip
noncomputable def MH(k:CallKind)(cs:List Frame)(T:Array Value):Goroutine:=G ((gN 155 k).at ⟨T,[]⟩ [.code nR,.inLoop nR,.inBlock 0,.code Rm]) cs
structure C8(s:Site)(u:zk)(n j:Nat)(T:Array Value):Prop where
 size:23<=T.size
 t2:T[2]?=some (.pointer (some ⟨u.b2,0,none⟩))
 t3:T[3]?=some (.pointer (some ⟨u.b3,0,none⟩))
 t5:T[5]?=some (.pointer (some ⟨u.b5,0,none⟩))
 t6:T[6]?=some (.pointer (some ⟨s.Wg,0,none⟩))
 t14:T[14]?=some (.int .i64 n)
 t15:T[15]?=some (.int .i64 j)
def C8.list{s u n j T}(h:C8 s u n j T):∃v0 v1 k l m o v10 v11 a b c d e f v20 g i rest,T=(v0::v1::.pointer u.b2::.pointer u.b3::k::.pointer u.b5::.pointer s.Wg::l::m::o::v10::v11::a::b::↑n::↑j::c::d::e::f::v20::g::i::rest).toArray:=by obtain⟨v0,v1,v2,v3,k,r,t,l,m,o,v10,v11,a,b,p,q,c,d,e,f,v20,g,i,rest,rfl⟩:=vN h.size;have t2:=h.t2;have t3:=h.t3;have t5:=h.t5;have t6:=h.t6;have t14:=h.t14;have t15:=h.t15;simp at t2 t3 t5 t6 t14 t15;subst t2 t3 t5 t6 t14 t15;exact⟨v0,v1,k,l,m,o,v10,v11,a,b,c,d,e,f,v20,g,i,rest,rfl⟩
variable[Payload]
structure MK(s:Site)(u:zk)(W:World):Prop where
 tr:0<s.N->W.cell? ⟨u.b2,0,none⟩=some (.slice (some ⟨u.T,u.o,none⟩) s.N u.cap)
 wn:W.cell? ⟨u.b3,0,none⟩=some (.int .i64 u.wk)
 an:W.cell? ⟨u.b5,0,none⟩=some (.slice (some ⟨s.C,0,none⟩) s.N s.N)
 el:∀x,x<s.N->W.cell? ⟨u.T,u.o+x*4,none⟩=some (.string (u.key x))/\W.cell? ⟨u.T,u.o+x*4+1,none⟩=some (.string (u.lock x))/\W.cell? ⟨u.T,u.o+x*4+2,none⟩=some (.string (u.id x))/\W.cell? ⟨u.T,u.o+x*4+3,none⟩=some (.int .i64 (u.aY x))
 pay:PayAt s.C s.N W
 Ay:s.L<=W.heap.size
structure Eh(s:Site)(u:zk):Prop where
 b2:s.low u.b2
 b3:s.low u.b3
 b5:s.low u.b5
 T:0<s.N->s.low u.T
 wg:s.Wg<s.L
 c:s.C<s.L
 ne:s.Wg≠s.C
def MK.rely{s u ro oc B W W1}(a:Eh s u)(h:MK s u W)(r:lV s ro oc B W W1):MK s u W1:=by have k:∀b o,s.low b->W1.cell? ⟨b,o,none⟩=W.cell? ⟨b,o,none⟩:=λb o i=>cell_of_block (r.keep b (.inr (.inr i))) o;refine⟨λh0=>(k _ _ a.b2).trans (h.tr h0),(k _ _ a.b3).trans h.wn,(k _ _ a.b5).trans h.an,λx j=>?_,r.pay h.pay,bI h.Ay r.size⟩;have⟨d,e,f,g⟩:=h.el x j;have c:=a.T O9;exact⟨(k _ _ c).trans d,(k _ _ c).trans e,(k _ _ c).trans f,(k _ _ c).trans g⟩
def Cc:=@MK.rely
def MK.of{s u W W1}(a:Eh s u)(h:MK s u W)(i:∀b,b<s.L->b≠s.Wg->W1.heap[b]?=W.heap[b]?)(m:↑W<=W1.heap.size):MK s u W1:=by
 have k:∀b o,s.low b->W1.cell? ⟨b,o,none⟩=W.cell? ⟨b,o,none⟩:=λb o g=>cell_of_block (i b g.1 g.2.2.1) o;refine⟨λh0=>(k _ _ a.b2).trans (h.tr h0),(k _ _ a.b3).trans h.wn,(k _ _ a.b5).trans h.an,λx n=>?_,?_,bI h.Ay m⟩;.have⟨e,f,j,l⟩:=h.el x n;have d:=a.T O9;exact⟨(k _ _ d).trans e,(k _ _ d).trans f,(k _ _ d).trans j,(k _ _ d).trans l⟩
 .have⟨cs,e,f⟩:=h.pay;exact⟨cs,(i _ a.c (fY a.ne)).trans e,f⟩
end
section
def abe(s:Site)(k:CallKind)(cs:List Frame):Goroutine->World->Prop:=λg _=>∃fr,tV 155 k fr/\fr.tmps[4]?=some (.slice (some ⟨s.C,0,none⟩) s.N s.N)/\g=vO fr cs
noncomputable def frM(k:CallKind)(T:Array Value):Frame:=match Rm with
 |.seq (.region _ ops _) c=>(gN 155 k).at ⟨T,[]⟩ [.inRegion ops [0],.code c]
 |_=>default
variable[Payload]
section
variable{s:Site}{u:zk}{n j:Nat}{B:Nat→Prop}{W:World}{k:CallKind}{cs:List Frame}{T:Array Value}
def FM(s:Site)(u:zk):World->Prop:=λW=>MK s u W
def xO(s:Site)(u:zk)(n:Nat)(k:CallKind)(cs:List Frame):eY:=λ_ g W=>∃T,C8 s u n n T/\AnchWN uY (FM s u) s.Wg (frM k T) cs g W
def aeb(D:s.ty=263)(G:(gN 155 k).kind≠.early)(d:Eh s u)(C:C8 s u n n T)(a:MK s u W/\WgLive s.ty s.Wg W):fK Tryz.prog s true aO aO (jE Tryz.prog .disable (Kan Tryz.prog s (xO s u n k cs))) B (MH k cs T) W:=by
 obtain⟨v0,v1,p,q,t,v,v10,v11,e,f,H,i,j,l,v20,m,o,rest,rfl⟩:=C.list;have b:∀{W W1:World},MK s u W/\WgLive s.ty s.Wg W->lV s aO aO B W W1->MK s u W1/\WgLive s.ty s.Wg W1:=λh r=>⟨Cc d h.1 r,r.live h.2⟩;simp[MH,nR,Rm,xN,Tryz.f155];refine bZ 50 _ _ ?_;u_c stepG_seq b a;u_reg b a;u_op b a;u_c stepG_region_end b a;u_c stepG_seq b a;u_cond false b a;u_exit b a;u_c stepG_seq b a;u_reg b a;refine Goes.step rfl λE x=>?_;replace a:=b a x;refine goes_call (c:=body_wait uY) rfl rfl (by k_ne) rfl yj.f_wait (nm_wait uY) rfl ⟨by u_nil,Goes.stop λw y=>?_⟩;replace a:=b a y;have z:=Oq (L:=uY) (c:=frM k (v0::v1::.pointer u.b2::.pointer u.b3::p::.pointer u.b5::.pointer s.Wg::q::t::v::v10::v11::e::f::n::n::↑aF::i::j::l::v20::m::o::rest).toArray) (cs:=cs) (F:=FM s u) (B:=B) yj D (λW W' r h=>Cc d h r) w a;have A:=Tp (Anch':=xO s u n k cs) (λB g W h=>⟨(v0::v1::.pointer u.b2::.pointer u.b3::p::.pointer u.b5::.pointer s.Wg::q::t::v::v10::v11::e::f::n::n::↑aF::i::j::l::v20::m::o::rest).toArray,⟨S8,rfl,rfl,rfl,rfl,rfl,rfl⟩,h⟩) z;simp;exact A
end
end
section
variable[Payload]
section
variable{s:Site}{u:zk}{n:Nat}{B:Nat→Prop}{W:World}{k:CallKind}{cs:List Frame}{T:Array Value}
def aea(A:s.ty=263)(J:(gN 155 k).kind≠.early)(f:Eh s u)(g)(h:xO s u n k cs B g W):fK Tryz.prog s true aO aO (s7 Tryz.prog s (VQ Tryz.prog s (abe s k cs)) (K2 Tryz.prog s (xO s u n k cs) (abe s k cs))) B g W:=by
 have⟨T,i,h⟩:=h;obtain⟨v0,v1,X,Y,π,aa,v10,v11,M,O,P,Q,R,S,v20,μ,V,rest,rfl⟩:=i.list;have w:∀B g W,K6 uY (FM s u) s (frM k _) cs B g W->xO s u n k cs B g W:=λ_ _ _ h=>⟨_,i,h⟩;have x:∀W W',lV s aO aO B W W'->FM s u W->FM s u W':=λW W' r h=>Cc f h r;have y:∀W a v,a.block=s.Wg->FM s u W->FM s u (W.setCell a v):=λW a v p h=>MK.of f h (λb _ q=>(aside_setCell W a v).block b (by rw[p];exact q)) (nL (aside_setCell W a v).size.symm);have z:∀W,FM s u W->s.Wg<s.L/\s.L<=(W:Nat):=λW h=>⟨f.wg,h.Ay⟩;refine Tq w (afD yj A x y z (λW c K=>?_) g W h);have d:∀{W W1:World},MK s u W->lV s aO aO B W W1->MK s u W1:=λh r=>Cc f h r;refine bZ 20 _ _ ?_;u_c stepG_region_end d c;u_c stepG_seq d c;u_reg d c;refine Goes.stop (λD m=>?_);replace c:=d c m;refine kL rfl rfl (by k_ne) (λl o=>?_);replace c:=d c o;have I:=c.an;refine⟨.slice s.C s.N s.N,l,by go_simp,lI (λe t=>?_),?_⟩;.have j:=mem_listed t;simp[go_sem, *]at j;subst j;exact⟨_,rfl,.inr (.inr f.b5),dV f.b5.1 c.Ay⟩
 rw[cI];refine bZ 20 _ _ ?_;u_op d c;u_c stepG_region_end d c;u_c stepG_ret' d c;refine Goes.stop (λE G=>?_);refine fK.stop (λF H=>⟨rfl,_,?_,?_,rfl⟩);.exact⟨rfl,rfl,rfl,rfl⟩
 .rfl
end
end
section
def K7:=@stepG_seq
def K9:=@stepG_region_end
def Xk:=@aside_setCell
def Ot(B:Nat->Prop):un aO B=B:=by funext c;exact propext ⟨λh=>h.elim False.elim id,.inr⟩
variable[Payload]
section
variable{s:Site}{u:zk}{n j:Nat}{W:World}{k:CallKind}{cs:List Frame}{T:Array Value}{fin:Nat→Value}{er nr:Nat→Int}{StopK Kn:eY}
def FB(s:Site)(u:zk)(bw j:Nat):World->Prop:=λW=>MK s u W/\W.heap[bw]?=some (.cells #[.int .i64 j] 3)/\s.L<=bw
def FB.rely{bw}(Y:Eh s u){W W1}(h:FB s u bw j W)(r:lV s aO aO (λb=>b=bw) W W1):FB s u bw j W1:=⟨Cc Y h.1 r,(r.keep bw (.inl rfl)).trans h.2.1,h.2.2⟩
def Ro(a2:(gN 155 k).kind≠.early)(l:Eh s u)(a0:j<n)(a3:n<2147483648)(ah:C8 s u n j T)(a:MK s u W/\WgLive s.ty s.Wg W)(ae:∀bw W,s.L<=bw->bw<W.heap.size->MK s u W->WgLive s.ty s.Wg W->W.cell? ⟨bw,0,none⟩=some ↑j->Kn (λb=>b=bw) (born Tryz.prog (Ef s u bw)) W)
 (af:∀I W',C8 s u n (j+1) I->MK s u W'/\WgLive s.ty s.Wg W'->fK Tryz.prog s true aO aO StopK aO (MH k cs I) W'):
 fK Tryz.prog s true aO aO (jE Tryz.prog .disable (KD Tryz.prog s (λ_=>Kn) j (fK Tryz.prog s true aO aO StopK))) aO (MH k cs T) W:=by
 obtain⟨v0,v1,bc,bd,bf,bg,v10,v11,a4,a5,a6,a7,a8,a9,v20,ba,bb,rest,rfl⟩:=ah.list;have g:∀{W W1:World},MK s u W/\WgLive s.ty s.Wg W->lV s aO aO aO W W1->MK s u W1/\WgLive s.ty s.Wg W1:=λh r=>⟨Cc l h.1 r,r.live h.2⟩;have q:decide ((j:Int)<(n:Int))=true:=nM O9;simp only[MH,nR,Rm,xN,Tryz.f155,oF];refine bZ 50 _ _ ?_;u_c K7 g a;u_reg g a;u_op g a;u_c K9 g a;u_c K7 g a;u_cond true g a;u_c stepG_skip g a;u_c K7 g a;u_c stepG_block g a;u_c K7 g a;u_reg g a;u_op g a;refine Goes.stop (λak K=>?_);replace a:=g a K;clear K q;refine kL rfl rfl (by k_ne) (λi M=>?_);replace a:=g a M;clear M;have R:=dV l.c a.1.Ay;refine⟨.pointer i.heap.size,i.alloc (.cells #[aA] 3),by go_simp,?_,?_⟩
 .have:∀(es:Array Event),(∀e∈es,False)->es=#[]:=λes h=>ac5.2 h;rw[this (listed _ _ _ _ _) (λe G=>by have D:=mem_listed G;simp[go_sem, *]at D)];exact WY R
 rw[Hh,Ot];have t:(i.alloc (.cells #[aA] 3)).heap[(i:Nat)]?=some (.cells #[aA] 3):=by show(i.heap.push _)[(i:Nat)]?=_;rw[Kb]
 have H:∀b,b<s.L->(i.alloc (.cells #[aA] 3)).heap[b]?=i.heap[b]?:=λb x=>by have μ:=dV x a.1.Ay;show(i.heap.push _)[b]?=_;rw[y7 μ,nN μ]
 have V:=a.1.Ay;replace a:MK s u (i.alloc (.cells #[aA] 3))/\WgLive s.ty s.Wg (i.alloc (.cells #[aA] 3)):=⟨MK.of l a.1 (λb x _=>H b x) (by show(i:Nat)<=(i.heap.push _).size;rw[QF];omega),let⟨st,sm,y⟩:=a.2;⟨st,sm,y.of_block (H _ l.wg)⟩⟩
 clear H R;generalize(i:Nat)=bw,i.alloc (.cells #[aA] 3)=ar at*;walk_nrm;refine WZ rfl rfl (by k_ne) (λm A=>?_);replace a:MK s u m/\WgLive s.ty s.Wg m:=⟨Cc l a.1 A,A.live a.2⟩;replace t:=(A.keep bw (.inl rfl)).trans t;clear A;have c0:m.cell? (bw,0)=some ↑aA:=by simp[World.cell?,t]
 have aa:m.frozen? (bw,0)=false:=by simp[World.frozen?,t]
 have⟨J,z,E⟩:=I3 (o:=0) (v:=j) t;have B:=(eA.1 t).1;refine⟨m.setCell (bw,0) j,by go_simp,?_,?_⟩;.refine Xa (b:=bw) rfl (by have:=l.c;omega) z E rfl rfl B (λe G=>?_);have D:=mem_listed G;simp[go_sem,storedEv, *]at D;subst D;exact⟨_,_,rfl⟩
 have X:grow (λb=>b=bw) m (m.setCell (bw,0) j)=λb=>b=bw:=by funext c;exact propext ⟨λh=>h.elim id λh=>by omega,.inl⟩
 rw[X];replace a:FB s u bw j (m.setCell (bw,0) j)/\WgLive s.ty s.Wg (m.setCell (bw,0) j):=⟨⟨MK.of l a.1 (λb x _=>z b O9) (nL E.symm),by simpa using J,V⟩,let⟨st,sm,y⟩:=a.2;⟨st,sm,y.of_block (z _ (by have:=l.wg;omega))⟩⟩
 clear J z E X aa c0 t B V;generalize m.setCell ⟨bw,0,none⟩ j=au at*;have p:∀{W W1:World},FB s u bw j W/\WgLive s.ty s.Wg W->lV s aO aO (λb=>b=bw) W W1->FB s u bw j W1/\WgLive s.ty s.Wg W1:=λh r=>⟨FB.rely l h.1 r,r.live h.2⟩;walk_nrm;refine bZ 50 _ _ ?_;u_c K9 p a;u_c K7 p a;u_reg p a;refine Goes.step rfl λav N=>?_;replace a:=p a N;clear N;refine goes_call (c:=body_add uY) rfl rfl (by k_ne) rfl yj.f_add (nm_add uY) rfl ⟨by u_nil,Goes.stop λay O=>?_⟩;replace a:=p a O;clear O;have aj:∀W v,FB s u bw j W->FB s u bw j (W.setCell (stA s.Wg) v):=λW v h=>⟨MK.of l h.1 (λb _ x=>(Xk W (stA s.Wg) v).block b x) (nL (Xk W (stA s.Wg) v).size.symm),((Xk W (stA s.Wg) v).block bw (by have:=h.2.2;have:=l.wg;show bw≠s.Wg;omega)).trans h.2.1,h.2.2⟩;have π:(addFn uY).ntmps=117:=rfl;rw[π];simp only[Act.eval,List.map_toArray,kV,DY,G1,Kf,pA,mG,oF,oH,fL,jU,Nat.reduceAdd,Nat.reduceSub];refine agJ (L:=uY) (F:=FB s u bw j) yj (λW W' r h=>FB.rely l h r) aj (λW h=>⟨l.wg,h.1.Ay⟩) (λW a y=>?_) _ a;replace a:FB s u bw j W/\WgLive s.ty s.Wg W:=⟨a,y⟩;clear y;show fK Tryz.prog s true aO aO (SGo Tryz.prog s Kn (fK Tryz.prog s true aO aO StopK)) (λb=>b=bw) _ _;walk_nrm;refine bZ 50 _ _ ?_;u_c K9 p a;u_reg p a;u_op p a;refine Goes.stop (λaz P=>?_);replace a:=p a P;clear P;refine fK.stop (λw Q=>?_);replace a:=p a Q;clear Q;have B:=(eA.1 a.1.2.1).1;have ai:w.cell? (bw,0)=some j:=by simp[World.cell?,a.1.2.1]
 refine⟨rfl,?_⟩;rw[stepG_spawn (d:=Ef s u bw) (w':=w) (f:=.func 163) (c:=#[.pointer s.Wg,.pointer bw,.pointer u.b2,.pointer u.b3,.pointer u.b5]) rfl rfl (by k_ne) (by simp[go_sem,Ef,Deferred.ofValue]) rfl];generalize S:listed _ _ _ _ _=Y;have ag:Y=#[]:=by rw[<-S];simp[listed,go_sem,seen,Deferred.ofValue];rfl
 subst ag;clear S;refine⟨_,_,rfl,rfl,λ_=>ae bw w a.1.2.2 B a.1.1 a.2 ai,?_⟩;replace a:MK s u w/\WgLive s.ty s.Wg w:=⟨a.1.1,a.2⟩;have q:IntKind.i64.wrap ((j:Int)+1)=((j+1:Nat):Int):=by rw[y9];omega
 walk_nrm;refine bZ 50 _ _ ?_;u_c K9 g a;u_c stepG_inBlock g a;u_reg g a;u_op g a;u_op g a;u_c K9 g a;u_c stepG_inLoop g a;refine Goes.stop (λao ab=>?_);refine af _ _ ?_ (g a ab);exact⟨S8,rfl,rfl,rfl,rfl,rfl,rfl⟩
end
end
section
variable[Payload]
section
variable{s:Site}{u:zk}{n:Nat}{k:CallKind}{cs:List Frame}{fin:Nat→Value}{er nr:Nat→Int}
def Rp(r:s.ty=263)(a:Eh s u)(y:n<=u.wk)(w:n<=s.N)(hN:s.N<1099511627776)(t:u.wk<2147483648)(k:∀x,x<s.N->ym u x (er x) (nr x))(p:∀x,fin x=(er x)){j}(v:j<n)(bw W)(i:s.L<=bw)(h:bw<W.heap.size)(d:MK s u W)(q:WgLive s.ty s.Wg W)(e:W.cell? (bw,0)=some ↑j):Child Tryz.prog s (N0 s u) fin j (λb=>b=bw) (born Tryz.prog (Ef s u bw)) W:=by
 have f:Lay s u:=⟨a.b2,a.b3,a.b5,a.T O9⟩;have g:j%u.wk=j:=Ke O9;refine WX f ⟨e,d.tr O9,d.wn,d.an,d.el,q,d.pay,d.Ay,h⟩ λT W' l m=>?_;refine aba r f a.wg a.ne i a.c ⟨O9,g⟩ hN t O9 k p (s.N -j) j aO T W' L9 g (λb o=>o.elim) l m λc e h=>?_;have:=e.2;rw[Ke O9]at this;omega
def Xj(f:s.ty=263)(d:(gN 155 k).kind≠.early)(a:Eh s u)(p:n<=u.wk)(o:n<=s.N)(hN:s.N<1099511627776)(q:u.wk<2147483648)(m:n<2147483648)(i:∀x,x<s.N->ym u x (er x) (nr x))(l:∀x,fin x=(er x)):∀r T W,r<=n->C8 s u n (n -r) T->MK s u W/\WgLive s.ty s.Wg W->KSp Tryz.prog s n (Child Tryz.prog s (N0 s u) fin) (xO s u n k cs) r aO (MH k cs T) W
 |0,T,W,_,c,b=>aeb f d a c b
 |r+1,T,W,v,c,b=>by have t:=Xj f d a p o hN q m i l r;have e:n -(r+1)+1=n -r:=O9;cases r with
   |zero=>exact Ro (StopK:=jE Tryz.prog .disable (Kan Tryz.prog s (xO s u n k cs))) (Kn:=Child Tryz.prog s (N0 s u) fin (n -(0+1))) d a O9 m c b (Rp f a p o hN q i l O9) (λg W' j h=>t g W' O9 (e▸j) h)
   |succ r=>exact Ro (StopK:=jE Tryz.prog .disable (KD Tryz.prog s (Child Tryz.prog s (N0 s u) fin) (n -(r+1)) (KSp Tryz.prog s n (Child Tryz.prog s (N0 s u) fin) (xO s u n k cs) r))) (Kn:=Child Tryz.prog s (N0 s u) fin (n -(r+1+1))) d a O9 m c b (Rp f a p o hN q i l O9) (λg W' j h=>t g W' O9 (e▸j) h)
end
end
section
noncomputable def adq:Code:=match xN with|.seq _ (.seq _ (.seq _ c))=>c|_=>.skip
noncomputable def afy:Array Oper:=match xN with|.seq _ (.seq _ (.seq (.region _ ops _) _))=>ops|_=>#[]
noncomputable def MG(k:CallKind)(cs:List Frame)(T:Array Value):Goroutine:=G ((gN 155 k).at ⟨T,[]⟩ [.inRegion afy [],.code adq]) cs
def Xg{a b}(c ty):Builtin.min_ c ty #[.int .i64 a,.int .i64 b]=pure ↑(if b<a then b else a):=by trivial
variable[Payload]
section
variable{s:Site}{u:zk}{n:Nat}{W:World}{k:CallKind}{cs:List Frame}{StopK:eY}{p:Option Addr}{cp:Nat}
def FSx(s:Site)(u:zk)(p:Option Addr)(cp:Nat):World->Prop:=λW=>MK s u W/\WgLive s.ty s.Wg W/\W.cell? ⟨u.b2,0,none⟩=some (.slice p s.N cp)
def FSx.rely(Y:Eh s u){W W1}(h:FSx s u p cp W)(r:lV s aO aO aO W W1):FSx s u p cp W1:=⟨Cc Y h.1 r,r.live h.2.1,(cell_of_block (r.keep u.b2 (.inr (.inr Y.b2))) 0).trans h.2.2⟩
def abb(M:(gN 155 k).kind≠.early)(c:Eh s u)(v:n=min u.wk s.N){v0 v1 G H I J v10 v11 w x y z A B C D v20 E F rest}(a:FSx s u p cp W)(t:∀l W',C8 s u n 0 l->MK s u W'/\WgLive s.ty s.Wg W'->fK Tryz.prog s true aO aO StopK aO (MH k cs l) W'):
 fK Tryz.prog s true aO aO StopK aO (MG k cs (v0::v1::.pointer u.b2::.pointer u.b3::G::.pointer u.b5::.pointer s.Wg::H::I::J::v10::v11::w::x::y::z::A::B::C::D::v20::E::F::rest).toArray) W:=by
 have b:∀{W W1:World},FSx s u p cp W->lV s aO aO aO W W1->FSx s u p cp W1:=λh r=>FSx.rely c h r;simp only[MG,afy,adq,xN,Tryz.f155,oF];refine bZ 50 _ _ ?_;u_c stepG_region_end b a;u_c stepG_seq b a;u_c stepG_seq b a;u_reg b a;refine Goes.stop (λK m=>?_);replace a:=b a m;clear m;refine kL rfl rfl (by k_ne) (λg d=>?_);replace a:=b a d;clear d;have i:=a.1.wn;refine⟨↑u.wk,g,by go_simp,lI (λe j=>?_),?_⟩;.have f:=mem_listed j;simp[go_sem, *]at f;subst f;exact⟨_,rfl,.inr (.inr c.b3),dV c.b3.1 a.1.Ay⟩
 clear i;rw[cI];walk_nrm;refine kL rfl rfl (by k_ne) (λg d=>?_);replace a:=b a d;clear d;have i:=a.2.2;refine⟨.slice p s.N cp,g,by go_simp,lI (λe j=>?_),?_⟩;.have f:=mem_listed j;simp[go_sem, *]at f;subst f;exact⟨_,rfl,.inr (.inr c.b2),dV c.b2.1 a.1.Ay⟩
 clear i;rw[cI];walk_nrm;have q:Builtin.min_ #[3,3] 3 #[↑u.wk,↑s.N]=pure ↑n:=by rw[Xg];congr 2;split<;>omega
 refine bZ 50 _ _ ?_;u_op b a;u_op b a;u_op b a;u_c stepG_region_end b a;u_c stepG_block b a;u_c stepG_loop b a;refine Goes.stop (λL o=>?_);refine t _ _ ?_ ⟨(b a o).1,(b a o).2.1⟩;exact⟨S8,rfl,rfl,rfl,rfl,(by rw[v];rfl),rfl⟩
end
end
end Go.Proofs.YtpjcmpfncpnmeabGreat
section
namespace Go.Ren
open Go.Conc
def Ei:=@mem_listed
section
variable{P:Program}{cM:Loc→Prop}{Bd:Nat}{Stop:Goroutine→World→Nat→Prop}{w:World}{c:Nat}
def fN.next{g}(k:g.status=.running)(h:∀d,∃g' w' es,stepG P true g (w.at d)=.go g' w' es/\(∀e∈es,EvL cM Bd e)/\fN P cM Bd Stop g' w' c):fN P cM Bd Stop g w c:=by
 refine .step k (λd=>?_) (λd m w1 l i=>?_);.have⟨g',w',es,f,a,_⟩:=h d;exact⟨g',w',es,f,λe b=>⟨(a e b).1,(a e b).2.2.2⟩⟩
 .have⟨g',w',es,f,a,j⟩:=h d;rw[f]at i;cases i;rw[deafBehind_still (λe b=>⟨(a e b).2.1,(a e b).2.2.1⟩) c];exact j
variable{b:Frame}{a:Act}{k:List Item}{cs:List Frame}{ops:Array Oper}{i:Nat}{rest:List Nat}{o:Oper}{Φ:World→Prop}
def fN.oper(p:∀d,Φ (w.at d))(j:ops[i]?=some o)(n:Region.wanted o (yielded ops a.tmps)=true)(g:b.kind≠.early)(h:∀w1,Φ w1->∃v w',(execOp a.eval o).run P w1=.ok (.value v) w'/\(∀e∈listed P b.fn a o w1,EvL cM Bd e)/\fN P cM Bd Stop (G (b.at (a.put o.dst v) (.inRegion ops rest::k)) cs) w' c):
 fN P cM Bd Stop (G (b.at a (.inRegion ops (i::rest)::k)) cs) w c:=
 .next rfl λd=>let⟨v,w',l,f,m⟩:=h (w.at d) (p d);⟨_,w',_,stepG_value j n g l,f,m⟩
def Hj:=@fN.oper
def fN.Xh(p:∀d,Φ (w.at d))(j:ops[i]?=some o)(n:Region.wanted o (yielded ops a.tmps)=true)(g:b.kind≠.early)(h:∀w1,Φ w1->∃w',(execOp a.eval o).run P w1=.ok .skip w'/\(∀e∈listed P b.fn a o w1,EvL cM Bd e)/\fN P cM Bd Stop (G (b.at (a.put o.dst undef) (.inRegion ops rest::k)) cs) w' c):
 fN P cM Bd Stop (G (b.at a (.inRegion ops (i::rest)::k)) cs) w c:=
 .next rfl λd=>let⟨w',l,f,m⟩:=h (w.at d) (p d);⟨_,w',_,stepG_none j n g l,f,m⟩
def rJ(n){g}(h:Goes P true AtRel Go.ConcR.DC0 (λg w=>fN P cM Bd Stop g w c) n g w):fN P cM Bd Stop g w c:=dS (λw w' es h e a=>by rw[h.2]at a;simp at a) n _ _ h
def Hk{S ad}(x)(b:ad.block<Bd)(c:¬S ad.block):EvL (mO S) Bd ⟨.cell ad,x,false⟩:=by refine⟨λy a d=>?_,S8,S8,b⟩;simp[MemAct.ofEvent,MemAct.touch?]at a;subst a;exact absurd d (by simpa[mO]using c)
end
structure tU(W:World)(h:Array Obj)(w:World):Prop where
 heap:w.heap=h
 os:w.oo=W.oo
 tape:w.tape=W.tape
def tU.at{W w h}(x:tU W h w)(d):tU W h (w.at d):=⟨x.heap,x.os,x.tape⟩
def tU.rel{W w w1 h}(x:tU W h w)(r:AtRel w w1):tU W h w1:=by obtain⟨d,rfl⟩:=r;exact x.at d
def tU.push{W w h}(x:tU W h w)(o):tU W (h.push o) (w.alloc o):=⟨by show w.heap.push o=_;rw[x.heap],x.os,x.tape⟩
def Tn{h:Array Obj}{o n}(a:h.size=n):(h.push o)[n]?=some o:=by subst a;simp
def ad9{x h:Array Obj}{o o' n}(e:x=h.push o)(b:h.size=n)(a:n<x.size):x.set n o' a=h.push o':=by grind
end Go.Ren
namespace Go.Proofs.YtpjcmpfncpnmeabGreat
open Go.Conc Go.ConcN Go.ConcN.Gen Go.RowKit Go.Conc.Lib Go.ConcR.Gen Go.Ren
open Go.ConcR (wgBlock WgAt stA smA rd wr mk Payload DC0 Bk)
def info_parts{P:Program}{t z n m}(h:(P.info? t).map (λi=>(i.zero,i.size,i.bytes))=some (z,n,m)):∃i,P.info? t=some i/\i.zero=z/\i.size=n/\i.bytes=m:=by simp_all
def afz:(Tryz.prog.info? 45).map (λi=>(i.zero,i.size,i.bytes))=some (some ↑aA,1,8):=K8
def K5(n:Nat)(h:n<1099511627776)(w):(Instr.makeSlice 250 (n:Int) (n:Int)).run Tryz.prog w=.ok (.slice (w:Nat) n n) (w.alloc (.cells (madeCells #[aA] n) 45))/\∀es,(Instr.makeSlice 250 (n:Int) (n:Int)).events Tryz.prog w es=es:=by
 have⟨d,hi,c,f,a⟩:=info_parts afz;have b:Tryz.prog.underlying 250=some (.slice 45):=by go_simp
 have e:=xG (P:=Tryz.prog) w 250 45 d _ b hi c .i64 .i64 (n:Int) (n:Int) O9 (nA _) (by rw[a];omega) O9;refine⟨?_,λes=>events_make w 250 45 d _ b hi c .i64 .i64 (n:Int) (n:Int) O9 (nA _) (by rw[a];omega) O9 (by rw[a,vF];omega) es⟩;rw[e,f,Nat.mul_one];rfl
section
variable{W:World}{k:CallKind}{cs:List Frame}{S:Nat→Prop}{Stop:Goroutine→World→Nat→Prop}{p:Option Addr}{cp N wk:Nat}
def Ce(W:World)(p:Option Addr)(N cp wk:Nat):Array Obj:=((((W.heap.push (.cells #[.slice p N cp] 103)).push (.cells #[.int .i64 wk] 3)).push (.cells (madeCells #[aA] N) 45)).push (.cells #[.slice (some ⟨W.heap.size+2,0,none⟩) N N] 250)).push (wgBlock 263 0 0)
def abc(V:(gN 155 k).kind≠.early)(hN:N<1099511627776)(o:∀c,S c->c<W){v2 v3 L M O D P Q v10 v11 q s t u x y z A v20 B C rest}(F:∀w u4 J K I,tU W (Ce W p N cp wk) w->fN Tryz.prog (mO S) (W+4) Stop (MG k cs (.slice p N cp::↑wk::.pointer (W:Nat)::.pointer ((W:Nat)+1,0)::u4::.pointer ((W:Nat)+3,0)::.pointer ((W:Nat)+4,0)::D::J::K::I::v11::q::s::t::u::x::y::z::A::v20::B::C::rest).toArray) w 0):
 fN Tryz.prog (mO S) (W+4) Stop (G ((gN 155 k).at ⟨(.slice p N cp::↑wk::v2::v3::L::M::O::D::P::Q::v10::v11::q::s::t::u::x::y::z::A::v20::B::C::rest).toArray,[]⟩ [.code xN]) cs) W 0:=by
 have g:∀{h:Array Obj} {w w1:World},tU W h w->AtRel w w1->tU W h w1:=λh r=>h.rel r;have b:tU W W.heap W:=⟨rfl,rfl,rfl⟩;simp only[xN,Tryz.f155,oF];refine rJ 50 ?_;u_c stepG_seq g b;u_reg g b;refine Goes.stop (λn l=>?_);replace b:=g b l;refine Hj (λd=>b.at d) rfl rfl (by k_ne) (λw1 b=>?_);refine⟨.pointer w1.heap.size,w1.alloc (.cells #[.slice p N cp] 103),by go_simp,(λe i=>?_),?_⟩;.have f:=Ei i;simp[go_sem, *]at f
 have j:(w1:Nat)=(W:Nat):=by rw[b.heap]
 rw[j];replace b:=b.push (.cells #[.slice p N cp] 103);generalize w1.alloc (.cells #[.slice p N cp] 103)=π at*;walk_nrm;refine Hj (λd=>b.at d) rfl rfl (by k_ne) (λw1 b=>?_);refine⟨.pointer w1.heap.size,w1.alloc (.cells #[wk] 3),by go_simp,(λe i=>?_),?_⟩;.have f:=Ei i;simp[go_sem, *]at f
 have j:(w1:Nat)=(W:Nat)+1:=by rw[b.heap];simp
 rw[j];replace b:=b.push (.cells #[wk] 3);generalize w1.alloc (.cells #[wk] 3)=aa at*;walk_nrm;refine rJ 50 ?_;u_op g b;u_c stepG_region_end g b;u_c stepG_seq g b;u_reg g b;refine Goes.stop (λn l=>?_);replace b:=g b l;refine Hj (λd=>b.at d) rfl rfl (by k_ne) (λw1 b=>?_);have μ:w1.cell? ((W:Nat),0)=some (.slice p N cp):=by
  have:w1.heap[(W:Nat)]?=some (.cells #[.slice p N cp] 103):=by rw[b.heap];simp[VW]
  simp[World.cell?,this]
 refine⟨.slice p N cp,w1,by go_simp,(λe i=>?_),?_⟩;.have f:=Ei i;simp[go_sem, *]at f;subst f;exact Hk _ (by show(W:Nat)<_;omega) (λh=>by have:=o _ h;dsimp only at this;omega)
 walk_nrm;refine rJ 50 ?_;u_op g b;refine Goes.stop (λn l=>?_);replace b:=g b l;refine Hj (λd=>b.at d) rfl rfl (by k_ne) (λw1 b=>?_);have X:=(K5 N hN w1).1;have Y:=(K5 N hN w1).2;refine⟨.slice w1.heap.size N N,w1.alloc (.cells (madeCells #[aA] N) 45),by go_simp,(λe i=>?_),?_⟩;.have f:=Ei i;simp[go_sem, *]at f
 have j:(w1:Nat)=(W:Nat)+2:=by rw[b.heap];simp
 rw[j];replace b:=b.push (.cells (madeCells #[aA] N) 45);generalize w1.alloc (.cells (madeCells #[aA] N) 45)=ab at*;walk_nrm;refine Hj (λd=>b.at d) rfl rfl (by k_ne) (λw1 b=>?_);refine⟨.pointer w1.heap.size,w1.alloc (.cells #[()] 250),by go_simp,(λe i=>?_),?_⟩;.have f:=Ei i;simp[go_sem, *]at f
 have j:(w1:Nat)=(W:Nat)+3:=by rw[b.heap];simp
 rw[j];replace b:=b.push (.cells #[()] 250);generalize w1.alloc (.cells #[()] 250)=ae at*;walk_nrm;refine fN.Xh (λd=>b.at d) rfl rfl (by k_ne) (λw1 b=>?_);have m:w1.heap[(W:Nat)+3]?=some (.cells #[()] 250):=by rw[b.heap];exact Tn S8
 have c0:w1.cell? ((W:Nat)+3,0)=some ():=by simp[World.cell?,m]
 have T:w1.frozen? ((W:Nat)+3,0)=false:=by simp[World.frozen?,m]
 refine⟨w1.setCell ((W:Nat)+3,0) (.slice ((W:Nat)+2,0) N N),by go_simp,(λe i=>?_),?_⟩;.have f:=Ei i;simp[go_sem,storedEv, *]at f;subst f;exact Hk _ (by show(W:Nat)+3<_;omega) (λh=>by have:=o _ h;dsimp only at this;omega)
 have H:=(eA.1 m).1;have j:=iQ (a:=((W:Nat)+3,0)) (v:=.slice ((W:Nat)+2,0) N N) m H rfl;have E:=j.trans (ad9 b.heap S8 _);replace b:tU W _ (w1.setCell ((W:Nat)+3,0) (.slice ((W:Nat)+2,0) N N)):=⟨E,b.os,b.tape⟩;generalize w1.setCell ⟨(W:Nat)+3,0,none⟩ (.slice (some ⟨(W:Nat)+2,0,none⟩) N N)=af at*;walk_nrm;refine rJ 50 ?_;u_c stepG_region_end g b;u_c stepG_seq g b;u_reg g b;refine Goes.stop (λn l=>?_);replace b:=g b l;refine Hj (λd=>b.at d) rfl rfl (by k_ne) (λw1 b=>?_);refine⟨.pointer w1.heap.size,w1.alloc (wgBlock 263 0 0),by simp only[wgBlock];go_simp,(λe i=>?_),?_⟩;.have f:=Ei i;simp[go_sem, *]at f
 have j:(w1:Nat)=(W:Nat)+4:=by rw[b.heap];simp
 rw[j];replace b:=b.push (wgBlock 263 0 0);generalize w1.alloc (wgBlock 263 0 0)=R at*;walk_nrm;have:=F R () (.slice p N cp) N (.slice ((W:Nat)+2,0) N N) b;exact this
end
end Go.Proofs.YtpjcmpfncpnmeabGreat
end
section
namespace Go.Ren
open Go.Conc Go.ConcN
open Go.ConcR (Payload)
variable[Payload]
def abd{P s n Ch Anch}:∀r,∃StopK:eY,∀B g W,KSp P s n Ch Anch r B g W↔fK P s true aO aO StopK B g W
 |0=>⟨_,λ_ _ _=>Iff.rfl⟩
 |_+1=>⟨_,λ_ _ _=>Iff.rfl⟩
end Go.Ren
namespace Go.Proofs.YtpjcmpfncpnmeabGreat
open Go.Conc Go.ConcN Go.ConcN.Gen Go.RowKit Go.Conc.Lib Go.ConcR.Gen Go.Ren
open Go.ConcR (wgBlock WgAt stA smA rd wr mk Payload DC0 Bk)
instance ag9:Payload:=⟨45⟩
def nQ(H N:Nat)(S:Nat->Prop):Site:=⟨263,H+4,H+2,N,H+5,S⟩
def zm(H T o cap wk:Nat)(key lock id:Nat->ByteArray)(aY:Nat->Int):zk:=⟨H,H+1,H+3,T,o,cap,wk,key,lock,id,aY⟩
section
variable{H N T o cp wk:Nat}{S:Nat→Prop}{key lock id:Nat→ByteArray}{aY:Nat→Int}{p:Option Addr}{W w:World}{k:CallKind}{cs:List Frame}
def afA(d:∀c,S c->c<H)(b:0<N->T<H/\¬S T):Eh (nQ H N S) (zm H T o cp wk key lock id aY):=by
 have a:∀n,¬S (H+n):=λn h=>by have:=d _ h;omega
 refine⟨⟨?_,?_,?_,a 0⟩,⟨?_,?_,?_,a 1⟩,⟨?_,?_,?_,a 3⟩,λh0=>⟨?_,?_,?_,(b h0).2⟩,?_,?_,?_⟩<;>simp[nQ,zm]<;>first|omega|(have:=(b h0).1;omega)
def afB(e:∀c,S c->c<H):Fix (nQ H N S) (N0 (nQ H N S) (zm H T o cp wk key lock id aY)):=by
 refine⟨?_,?_,?_,λb f=>?_,λi k c a d=>a.2.symm.trans d.2⟩<;>simp only[nQ];.omega
 .omega
 .omega
 .have:=e b f;omega
def Ej{b}(h:tU W (Ce W p N cp wk) w)(a:b<(W:Nat)):w.heap[b]?=W.heap[b]?:=by rw[h.heap,Ce];simp[VW];rw[aT O9,aT O9,aT O9,aT O9,aT O9]
def Rk(h:tU W (Ce W p N cp wk) w):w.heap[(W:Nat)]?=some (.cells #[.slice p N cp] 103)/\w.heap[(W:Nat)+1]?=some (.cells #[wk] 3)/\w.heap[(W:Nat)+2]?=some (.cells (madeCells #[aA] N) 45)/\w.heap[(W:Nat)+3]?=some (.cells #[.slice ((W:Nat)+2,0) N N] 250)/\w.heap[(W:Nat)+4]?=some (wgBlock 263 0 0)/\w=(W:Nat)+5:=by
 rw[h.heap,Ce];simp only[VW,QF];refine⟨?_,?_,?_,?_,?_,trivial⟩;.grind
 .simp
 .simp
 .simp
 .simp
def agI(h:tU W (Ce W p N cp wk) w)(a:0<N->p=some ⟨T,o,none⟩/\T<W)(k:∀x,x<N->W.cell? (T,o+x*4)=some ↑(key x)/\W.cell? (T,o+x*4+1)=some ↑(lock x)/\W.cell? (T,o+x*4+2)=some ↑(id x)/\W.cell? (T,o+x*4+3)=some ↑(aY x)):
 FSx (nQ W N S) (zm W T o cp wk key lock id aY) p cp w:=by
 have⟨h0,c,d,f,g,i⟩:=Rk h;have c0:w.cell? ((W:Nat),0)=some (.slice p N cp):=by simp[World.cell?,h0]
 refine⟨⟨λhN=>?_,by simp[zm,World.cell?,c],by simp[zm,nQ,World.cell?,f],λx b=>?_,⟨_,d,QG _ _⟩,nL i.symm⟩,⟨0,0,g⟩,c0⟩;.rw[(a hN).1]at c0;exact c0
 .have j:=(a (VX (fJ _) b)).2;have e:∀off,w.cell? (T,off)=W.cell? (T,off):=λoff=>cell_of_block (Ej h j) off;simp[zm,e];exact k x b
def Xi{args a b}(h0:args[0]?=some a)(v:args[1]?=some b):∃v2 v3 p q r s t u v10 v11 f g h i j k l m v20 n o rest,args++Array.replicate (23 -args.size) undef=(a::b::v2::v3::p::q::r::s::t::u::v10::v11::f::g::h::i::j::k::l::m::v20::n::o::rest).toArray:=by
 have l1:=(eA.1 v).1;have⟨v0,v1,v2,v3,p,q,r,s,t,u,v10,v11,f,g,h,i,j,k,l,m,v20,n,o,rest,e⟩:=vN (room args 23);have c:(args++Array.replicate (23 -args.size) undef)[0]?=some a:=by rw[VY O9];exact h0
 have d:(args++Array.replicate (23 -args.size) undef)[1]?=some b:=by rw[VY l1];exact v
 rw[e]at c d;simp at c d;subst c d;exact⟨v2,v3,p,q,r,s,t,u,v10,v11,f,g,h,i,j,k,l,m,v20,n,o,rest,e⟩
def afC{args gs sl t q}{er nr:Nat->Int}(f:(gN 155 k).kind≠.early)(h0:gs[0]?=some (cA Tryz.prog 155 args k cs))(ai:Leavers Tryz.prog t gs q)(aj:kM (mO S) W 0 t)(A:∀c,S c->c<W)(aa:args[0]?=some (.slice p N cp))(ab:args[1]?=some (.int .i64 wk))(hN:N<2147483648)(bg:0<wk)(ay:wk<2147483648)(C:0<N->p=some ⟨T,o,none⟩/\T<W/\¬S T)
 (au:∀x,x<N->W.cell? (T,o+x*4)=some ↑(key x)/\W.cell? (T,o+x*4+1)=some ↑(lock x)/\W.cell? (T,o+x*4+2)=some ↑(id x)/\W.cell? (T,o+x*4+3)=some ↑(aY x))
 (ak:∀x,x<N->ym (zm W T o cp wk key lock id aY) x (er x) (nr x)):
 ∃M j b W' D a' q' W1,runNT Tryz.prog M (crowd gs W sl) t=(.next (crowd b W' D),j)/\tU W (Ce W p N cp wk) W1/\Hl Tryz.prog (nQ W N S) gs.size (min wk N) (N0 (nQ W N S) (zm W T o cp wk key lock id aY)) (λx=>(er x)) W1 (abe (nQ W N S) k cs) b W' j a' q':=by
 have y:=afA (T:=T) (o:=o) (cp:=cp) (wk:=wk) (key:=key) (lock:=lock) (id:=id) (aY:=aY) A (λh=>(C h).2);have⟨v2,v3,a9,ba,bb,π,bc,bd,v10,v11,J,K,L,O,Q,R,μ,V,v20,X,Y,rest,e⟩:=Xi aa ab;have af:cA Tryz.prog 155 args k cs=G ((gN 155 k).at ⟨(.slice p N cp::↑wk::v2::v3::a9::ba::bb::π::bc::bd::v10::v11::J::K::L::O::Q::R::μ::V::v20::X::Y::rest).toArray,[]⟩ [.code xN]) cs:=by rw[qy args k cs Tryz.func155 rfl,<-e];rfl
 rw[af]at h0;have ar:=zn (abc (W:=W) (S:=S) (N:=N) (wk:=wk) (p:=p) (cp:=cp) (cs:=cs) (Stop:=λg w c=>c=0/\tU W (Ce W p N cp wk) w/\∃u4 u v l,g=MG k cs (.slice p N cp::↑wk::.pointer W.heap.size::.pointer ((W:Nat)+1,0)::u4::.pointer ((W:Nat)+3,0)::.pointer ((W:Nat)+4,0)::π::u::v::l::v11::J::K::L::O::Q::R::μ::V::v20::X::Y::rest).toArray) f O9 A (λw u4 u v l h=>.stop λd=>⟨rfl,h.at d,u4,u,v,l,rfl⟩)) _ W.drawn gs sl t q rfl h0 ai (aj.mono O9)
 obtain⟨M,b,a',w',bf,D,j,q',r1,r2,r3,⟨rfl,z,u4,u,v,l,rfl⟩,a4,a5⟩:=ar;have⟨bj,bk,az,bm,a0,a2⟩:=Rk z;have⟨StopK,H⟩:=abd (P:=Tryz.prog) (s:=nQ W N S) (n:=min wk N) (Ch:=Child Tryz.prog (nQ W N S) (N0 (nQ W N S) (zm W T o cp wk key lock id aY)) (λx=>(er x))) (Anch:=xO (nQ W N S) (zm W T o cp wk key lock id aY) (min wk N) k cs) (min wk N);have hgo:=Oo (P:=Tryz.prog) (s:=nQ W N S) (n:=min wk N) (oc:=N0 (nQ W N S) (zm W T o cp wk key lock id aY)) (fin:=λx=>(er x)) (Anch:=xO (nQ W N S) (zm W T o cp wk key lock id aY) (min wk N) k cs) (Fin:=abe (nQ W N S) k cs) (gs:=b) (W:=w') (sl:=D) (t:=j) (q:=q') (afB A) (λi hi=>⟨by show i<N;omega,Ke (by show i<wk;omega)⟩) O9 (λB g W ⟨T,_,F,av,_⟩=>by rw[av];rfl) (λB g W h=>aea rfl f y g h) (λa W d h=>h) r3
  ((H _ _ _).2 (abb (n:=min wk N) f y rfl (agI z (λh=>⟨(C h).1,(C h).2.1⟩) au) λF W' ao ah=>(H _ _ _).1 (Xj (n:=min wk N) rfl f y (Nat.min_le_left _ _) (Nat.min_le_right _ _) (by show N<_;omega) ay O9 ak (λ_=>rfl) (min wk N) F W' L9 (by rw[sW];exact ao) ah))) a4 a5 ⟨_,az,QG _ _⟩ a0 (nL a2.symm)
 have⟨E,a8,ag,W2,a7,ae,a3,a6,I⟩:=hgo;rw[r2]at I;refine⟨M+E,a8,ag,W2,a7,ae,a3,w',?_,z,I⟩;rw[runNT_add];show(match runNT Tryz.prog M (crowd gs (W.at W.drawn) sl) t with|(.next m,t)=>runNT Tryz.prog E m t|r=>r)=_;rw[r1];exact a6
end
end Go.Proofs.YtpjcmpfncpnmeabGreat
end
