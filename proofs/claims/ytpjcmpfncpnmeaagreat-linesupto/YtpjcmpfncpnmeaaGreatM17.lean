import Derived.Test.YtpjcmpfncpnmeaaGreatM16
set_option linter.all false
set_option maxHeartbeats 16000000
set_option maxRecDepth 100000
namespace Go.Proofs.aH
open Go.RowKit Tryz
attribute [local go_sem↓] Go.wp_at_zero Go.wp_at_succ
def WY{id h}:∀{I:List jB}{a:Int}{i:Bool}{l:List bL}{d n g},xD id h I a i l=some (d,n,g)->kO l->g<=l.length/\kO g/\a<=d/\d<=a+4294967295*I
 |[],a,i,l,_,_,_,e,v=>by cases e;simp[v]
 |x::r,a,i,l,d,n,g,e,v=>by rcases f:l.findIdx? (λc=>decide (c.pt=(x.tx,x.idx)))with _|j;rw[Lh f]at e;cases e;have⟨m,_,_⟩:=Dy.1 f;have⟨c,k⟩:∃c,l[j]?=some c:=⟨_,aY m⟩;rw[Li f k]at e;have⟨o,p,q,s⟩:=WY e<|v.erase j;have b:=v c<|eY k;rw[aaG,aN m]at o;rw[cQ];exact⟨O9,p,O9,O9⟩
def Qz{id h}:∀{l:List dD}{i:Nat},(∀o∈l,o.Small)->kO (uC id h i l)
 |[],_,_=>λc m=>by cases m
 |o::l,i,a=>λc m=>by obtain rfl|m:=jO.1 m;have:=a o S8;exact⟨this.1,this.2.2⟩;exact Qz (λo m=>a o<|Fa _ m) c m
def QA{l id O h a}(e:rE l id O h=some a)(v:kO l)(b:∀o∈O,o.Small):a=l+O.length/\kO a:=by unfold rE at e;split at e;cases e;cases e;refine⟨by rw[cB,Ie],λc m=>?_⟩;obtain m|m:=nA.1 m;exact v c m;exact Qz b c m
def Lj{l x h}(v:kO l)(k:x.ins.length<=8)(p:x.outs.length<=8)(a:∀o∈x.outs,o.Small)(e:(dR l x h).1=0):(dR l x h).2.1.length<=l+8/\kO (dR l x h).2.1/\0<=(dR l x h).2.2.1/\(dR l x h).2.2.1<=34359738360:=by unfold dR at e|-;rcases i:xD x.id h x.ins 0 true l with _|y;rw[i]at e;simp at e;have⟨d,q,L⟩:=y;rw[i]at e;simp only at e|-;have⟨f,c,g,j⟩:=WY i v;have b:=lV x.outs a;by_cases n:d -cW x.outs<0;rw[aN n]at e;simp at e;rw[aJ n]at e|-;rcases m:rE L x.id x.outs h with _|s;rw[m]at e;simp at e;have⟨r,C⟩:=QA m c a;exact⟨by simp only;omega,C,by simp only;omega,by simp only;omega⟩
def Ig{h x r l f a}(e:(dR l x h).1=0):fN h (x::r) l f a=fN h r (dR l x h).2.1 (f+(dR l x h).2.2.1) (a&&(dR l x h).2.2.2):=by rw[fN];rw[aJ<|by rw[e];simp]
def Lm{h x r l f a}(e:(dR l x h).1≠0):fN h (x::r) l f a=((dR l x h).1,[],0,false):=by rw[fN];rw[aN e]
def QB{w v l i x}(h:xw w v l)(e:l[i]?=some x):∃b o c,v=.slice (some ⟨b,o,none⟩) l c/\ada w b (o+i*3) x:=by have⟨a,c,j,g⟩:=h.form;obtain⟨b,o,rfl,f⟩:=g (λd=>by cases d▸e);exact⟨b,o,c,j,f i x e⟩
def aee{w v a b}(h:rf b=true)(e:List.map ku.m a=b.eO)(s:fG 0 w v a):xw w v a:=by have⟨c,d⟩:=vk h;rw[<-e]at c d;refine s.acV (by rw[dS]at c;omega) λg m=>?_;have f:=d _<|tN m;exact⟨by have:=f.2.2.1;simp[ku.m]at this;omega,by have:=f.2.2.2.1;simp[ku.m]at this;omega⟩
def QC{nb B' D π c r k v}(l w)(H:jd w nb c r)(hK:Ld w B' π k)(hb:rf k.blk=true)(L:w.ownsRow D 60 6 v l.length (bJ l))(hn:l.length<=9000)(hv:kO l)(hh:0<=k.aT/\k.aT<1000000)(hsu:0<=c.su/\c.su<=1000000):Cv 143 #[ptr nb,v,ptr π] w λe w'=>Below w w w'/\∃V,e=.returned (.tuple #[V,(eK c.su k.aT (k.blk.eO.map pG) l).1])/\((eK c.su k.aT (k.blk.eO.map pG) l).1=0->w'.ownsRow w 60 6 V (eK c.su k.aT (k.blk.eO.map pG) l).2.length (bJ (eK c.su k.aT (k.blk.eO.map pG) l).2)):=by
 have⟨f1,f2⟩:=vk hb;have f3:=((iC _).1 hb).2.2.2.1;have⟨nv,bs,U,_⟩:=H.ex;have⟨tv,Y,C,K,_,y,X,q⟩:=hK.ex;have s:=aee hb y X;clear X;have⟨T,ht⟩:∃T,T=k.blk.eO:=⟨_,rfl⟩;rw[<-ht]at f1 f2 f3 y q|-;clear ht;have hdl:C.length=T.length:=by rw[<-y,dS]
 have hat:∀i t,T[i]?=some t->∃d,C[i]?=some d/\ku.m d=t:=λi t h=>by rw[<-y,eG]at h;rcases g:C[i]? with _|d;rw[g]at h;cases h;rw[g]at h;cases h;exact⟨d,g,rfl⟩
 have⟨ta,tc,hta,_⟩:=s.form;subst hta;have⟨ia,ic,hia⟩:=aS q;subst hia;rw[hdl]at K s;have⟨F,hF⟩:∃F,F=eK c.su k.aT (T.map pG) l:=⟨_,rfl⟩;rw[<-hF];unfold eK at hF;simp only at hF;rw[<-List.map_drop]at hF;have hF:=aK hF;obtain⟨la,lc,rfl⟩:=aS L;unfold ptr;go_enter fA func143,ntmps143;go_wp2;go_loopw [1,8,9,10] (λx fe al i wr=>∃(j:Nat)(n:Int)(all:Bool)(m:List bL)(D:Nat),(1<=j/\j<=T.length)/\i=↑(j:Int)/\fe=↑n/\al=.bool all/\(0<=n/\n<=34359738360*(j:Int))/\fN k.aT ((T.drop 1).map pG) l 0 true=fN k.aT ((T.drop j).map pG) m n all/\m.length<=l.length+8*j/\kO m/\wr.ownsRow D 60 6 x m.length (bJ m)/\Below w w wr) (λ_ _ _ i _=>T.length -(intOf i).toNat);exact⟨1,0,true,l,D,O9,rfl,rfl,rfl,⟨lC _,D9⟩,rfl,O9,hv,L,B0⟩;case round=>
  clear L;obtain⟨j,n,all,m,D1,hj,rfl,rfl,rfl,hc,hM,hm,hvm,z,bw⟩:=hrel;have⟨xa,xc,hx0⟩:=aS z;subst hx0;have R1:=K.keep bw K.lt;unfold KC at R1;have S:=R1.r 6;by_cases lt:j<T.length;.as_aux_lemma=>
   have⟨t,htj⟩:∃t,T[j]?=some t:=⟨_,aY lt⟩;have hd:T.drop j=t::T.drop (j+1):=by rw[wH lt,(bK.1 htj).2]
   rw[hd,gJ]at hM;have⟨d,hdj,hdm⟩:=hat j t htj;have q2:=f2 t<|eY htj;have⟨tb,tq,tc2,hv1,p⟩:=QB (s.keep bw) hdj;have⟨f,div,I,dov,o⟩:=d;cases hdm;have⟨iva,ivc,hiv,_⟩:=p.ins.form;have⟨ova,ovc,hov,_⟩:=p.outs.form;simp only at hiv hov q2;subst hiv hov;have t0:=p.tag;have t1:=p.iv;have t2:=p.ov;simp only at t0 t1 t2;rw[hdl]at hv1;have⟨ib,ic2,hv3,i0⟩:=kN (aP q bw) (k:=j) (u:=↑(wj f I o)) (by simp[tu,htj,ku.m]);cases hv1;cases hv3;have r7:=R1.r 7;have r1:=R1.r 1;have j0:(0:Int)<=(j:Int):=O9;have j1:(j:Int)<(T.length:Int):=O9;have hM:fN k.aT ((T.drop 1).map pG) l 0 true=fN k.aT (pG ⟨f,I,o⟩::(T.drop<|j+1).map pG) m n all:=hM;have gD:Hid (Below wr wr wr.drew):=cN B0;have hr:Hid (Cv 172 #[(xa,m,xc),.agg #[f,(iva,I,ivc),(ova,o,ovc)],↑(wj f I o),↑k.aT] wr.drew λe w'=>Below wr wr w'/\∃V,e=.returned (.tuple #[V,↑(dR m (pG ⟨f,I,o⟩) k.aT).2.2.1,.bool (dR m (pG ⟨f,I,o⟩) k.aT).2.2.2,↑(dR m (pG ⟨f,I,o⟩) k.aT).1])/\((dR m (pG ⟨f,I,o⟩) k.aT).1=0->w'.ownsRow ↑wr 60 6 V (dR m (pG ⟨f,I,o⟩) k.aT).2.1.length (bJ (dR m (pG ⟨f,I,o⟩) k.aT).2.1))):=(TT m (wj f I o) k.aT wr.drew (aP z gD.out) (p.ins.keep gD.out) (p.outs.keep gD.out) q2.2.2.1 q2.2.2.2.1 q2.2.2.2.2.2 O9 hvm hh).mono λe w'⟨G,J⟩=>⟨gD.out.trans<|G.mono gD.out.size,J⟩;have mb:=Lj (x:=pG ⟨f,I,o⟩) (h:=k.aT) hvm q2.2.2.1 q2.2.2.2.1 q2.2.2.2.2.2;have M:=@Ig k.aT (pG ⟨f,I,o⟩) ((T.drop<|j+1).map pG) m n all;have mn:=@Lm k.aT (pG ⟨f,I,o⟩) ((T.drop<|j+1).map pG) m n all;generalize dR m (pG ⟨f,I,o⟩) k.aT=mv at hr mb M mn;have⟨me,P,mf,Q⟩:=mv;simp only at hr mb M mn;have hS:=aK λW(b:Below wr wr W)=>Ai (aM b S)<|Ai (aM b t0)<|Ai (aM b t1)<|Ai (aM b t2)<|Ai (aM b r7)<|Ai (aM b i0) (aM b r1);go_wp2;go_region_held3 (So hS.out) (first|with_reducible exact hS.out _ gX|exact hS.out _ (cN B0)) ((go_at_call 172;refine hr.out.mono ?_;rintro e A⟨gX,v3,rfl,O⟩))
   have bw3:=bw.trans<|gX.mono bw.size;clear hr gD S r7 r1 t0 t1 t2 i0 z;by_cases B:me=0
   .subst B;have⟨g1,g2,g3,g4⟩:=mb rfl;have o4:=O rfl;have e2:Hid (fN k.aT ((T.drop 1).map pG) l 0 true=fN k.aT ((T.drop<|j+1).map pG) P (n+mf) (all&&Q)):=by have:=hM;rw[M rfl]at this;exact this
    clear hM M mn mb O hF;have⟨ya,yc,N⟩:=aS o4;subst N;have j5:IntKind.i64.wrap (n+mf)=n+mf:=by rw[jP];omega
    have fin:Hid (∀(b:Bool),b=(all&&Q)->∃(j':Nat)(WZ:Int)(all':Bool)(m':List bL)(D':Nat),(1<=j'/\j'<=T.length)/\(Value.int .i64<|(j:Int)+1)=↑(j':Int)/\(Value.int .i64<|n+mf)=↑WZ/\(Value.bool b)=.bool all'/\(0<=WZ/\WZ<=34359738360*(j':Int))/\fN k.aT ((T.drop 1).map pG) l 0 true=fN k.aT ((T.drop j').map pG) m' WZ all'/\m'.length<=l.length+8*j'/\kO m'/\A.ownsRow D' 60 6 (ya,P,yc) m'.length (bJ m')/\Below w w A):=λb hb=>⟨j+1,n+mf,b,P,(wr:Nat),O9,S8,rfl,rfl,O9,hb▸e2.out,O9,g2,o4,bw3⟩;cases all with
    |false=>go_wp2;exact⟨fin.out false rfl,by simp[intOf];omega⟩
    |true=>go_wp2;exact⟨fin.out Q S8,by simp[intOf];omega⟩
   have E:=hF.out;rw[hM,mn B]at E;simp only at E;rw[aN B]at E;subst E;clear hF hM M mn mb;go_wp2;exact cY (mq rfl _ _ _) rfl ⟨bw3,_,rfl⟩
  have hj':j=T.length:=O9;have j1:¬(j:Int)<(T.length:Int):=O9;have⟨t,ht0⟩:∃t,T[0]?=some t:=⟨_,aY O9⟩;have E:=hF.out;rw[hM,Dx O9,qL,fN,aJ S8]at E;have ahM:T.map pG=pG t::(T.drop 1).map pG:=by obtain _|⟨a,b⟩:=T;simp at ht0;simp at ht0;subst ht0;simp
  rw[ahM]at E;simp only at E;clear hF hM ahM;have⟨d,hdj,hdm⟩:=hat 0 t ht0;have q2:=f2 t<|eY ht0;have⟨tb,tq,tc2,hv1,p⟩:=QB (s.keep bw) hdj;have⟨f,div,I,dov,o⟩:=d;cases hdm;have⟨iva,ivc,hiv,_⟩:=p.ins.form;have⟨ova,ovc,hov,_⟩:=p.outs.form;simp only at hiv hov q2;subst hiv hov;have t0:=p.tag;have t1:=p.iv;have t2:=p.ov;simp[Uv,tJ]at t0 t1 t2;rw[hdl]at hv1;have⟨ib,ic2,hv3,i0⟩:=kN (aP q bw) (k:=0) (u:=↑(wj f I o)) (by simp[tu,ht0,ku.m]);cases hv1;cases hv3;have j2:(0:Int)<(T.length:Int):=O9;have j3:0<T.length:=O9;have j4:¬T=[]:=λe=>by simp[e]at j3
  have ht:=Ia (iv:=(iva,I,ivc)) (tag:=f) wr p.outs q2.2.2.2.1 q2.2.2.2.2.2;have b1:=lV o q2.2.2.2.2.2;have E:Hid (F=(if cW o>c.su+n then(16,[])else match rE m (wj f I o) o k.aT with|none=>(14,[])|some l2=>if all=true then(0,l2)else(17,[]):Int×List bL)):=E;generalize cW o=tot at ht E b1;have j5:IntKind.i64.wrap (c.su+n)=c.su+n:=by rw[jP];omega
  go_wp2;refine ht.m1 λw2 b2=>?_;clear ht;have Z1:=bw.trans<|b2.mono bw.size;have N2:=U.keep Z1 U.lt;have n3:=N2.r 3;have ho2:=aP z b2;by_cases ng:tot>c.su+n;.have e3:=E.out;rw[aN ng]at e3;subst e3;clear E;go_wp2;exact cY (mq rfl _ _ _) rfl ⟨Z1,_,rfl⟩
  have e3:=E.out;rw[aJ ng]at e3;clear E;have R:=R1.keep b2 R1.lt;have s6:=R.r 6;have s7:=R.r 7;have s1:=R.r 1;have u0:=aM b2 t0;have u1:=aM b2 t1;have u2:=aM b2 t2;have v0:=aM b2 i0;clear t0 t1 t2 i0 S;have gD:Hid (Below w2 w2 w2.drew):=cN B0;have hr:=(Lg (iv:=(iva,I,ivc)) (tag:=f) m (wj f I o) k.aT w2.drew (aP ho2 gD.out) ((p.outs.keep b2).keep gD.out) q2.2.2.2.1 O9).mono λe w'⟨G,J⟩=>(show Below w2 w2 w'/\_ from⟨gD.out.trans<|G.mono gD.out.size,J⟩);have hS:=aK λW(b:Below w2 w2 W)=>Ai (aM b s6)<|Ai (aM b u0)<|Ai (aM b u1)<|Ai (aM b u2)<|Ai (aM b s7)<|Ai (aM b v0) (aM b s1);cases g:rE m (wj f I o) o k.aT with
  |none=>
    rw[g]at hr e3;simp only at hr e3;subst e3;have hr:=aK hr;go_wp2;go_region_held3 (So hS.out) (first|with_reducible exact hS.out _ gX|exact hS.out _ (cN B0)) ((go_at_call 174;refine hr.out.mono ?_;rintro e A⟨gX,rfl⟩))
    go_wp2;exact cY (mq rfl _ _ _) rfl ⟨Z1.trans<|gX.mono Z1.size,_,rfl⟩
  |some l2=>
    rw[g]at hr e3;simp only at hr e3;have hr:=aK hr;go_wp2;go_region_held3 (So hS.out) (first|with_reducible exact hS.out _ gX|exact hS.out _ (cN B0)) ((go_at_call 174;refine hr.out.mono ?_;rintro e A⟨gX,v3,rfl,O⟩))
    cases all with
    |false=>subst e3;go_wp2;exact cY (mq rfl _ _ _) rfl ⟨Z1.trans<|gX.mono Z1.size,_,rfl⟩
    |true=>subst e3;have⟨ya,yc,N⟩:=aS O;subst N;go_wp2;exact cY (mq rfl _ _ _) rfl ⟨Z1.trans<|gX.mono Z1.size,_,rfl,ki O Z1.size⟩
def Lp{h}:∀{b:List Bc}{l:List bL}{F:Int}{A:Bool},kO l->(∀t∈b,t.ins.length<=8/\t.outs.length<=8/\∀o∈t.outs,o.Small)->(fN h b l F A).1=0->(fN h b l F A).2.1.length<=l+8*b/\kO (fN h b l F A).2.1
 |[],l,_,_,v,_,_=>⟨L9,v⟩
 |x::r,l,F,A,v,a,e=>by have d:=a x S8;by_cases c:(dR l x h).1=0;rw[Ig c]at e|-;have m:=Lj v d.1 d.2.1 d.2.2 c;have⟨i,g⟩:=Lp m.2.1 (λt f=>a t<|Fa _ f) e;rw[cQ];exact⟨O9,g⟩;rw[Lm c]at e;exact absurd e c
def TU{su h b l}(v:kO l)(m:b.length<=8)(a:∀t∈b,t.ins.length<=8/\t.outs.length<=8/\∀o∈t.outs,o.Small)(e:(eK su h b l).1=0):(eK su h b l).2.length<=l+72/\kO (eK su h b l).2:=by unfold eK at e|-;simp only at e|-;by_cases c:(fN h (b.drop 1) l 0 true).1=0;have⟨d,f⟩:=Lp v (λt j=>a t<|Nq j) c;rw[rM]at d;rw[aJ λn=>n c]at e|-;obtain _|⟨x,r⟩:=b;exact⟨by simp only;simp at d;simp;omega,f⟩;simp only at e|-;have k:=a x S8;split at e;simp at e;rename_i n;rw[aJ n];split at e;simp at e;rename_i L g;have⟨p,C⟩:=QA g f k.2.2;split at e;rename_i i;rw[aN i];exact⟨by simp only;omega,C⟩;simp at e;rw[aN c]at e;exact absurd e c
structure ROk(r:RN):Prop where
 par:BR r
 kp:∀k∈r.kept,rf k.blk=true/\0<=k.aT/\k.aT<1000000
 l1:-1<=r.last
 l2:r.last<r.kept.length
def QD{b}(h:rf b=true):(b.eO.map pG).length<=8/\∀t∈b.eO.map pG,t.ins.length<=8/\t.outs.length<=8/\∀o∈t.outs,o.Small:=by have⟨a,f⟩:=vk h;refine⟨by rw[dS];exact a,λt d=>?_⟩;obtain⟨x,e,rfl⟩:=gB.1 d;have c:=f x e;exact⟨c.2.2.1,c.2.2.2.1,c.2.2.2.2.2⟩
def Dj{N c r}(i:Int)(w)(H:jd w N c r)(O:ROk r)(b1:-1<=i)(t:i<r.kept)(ad:0<=c.su/\c.su<=1000000):Cv 97 #[ptr N,.int .i64 i] w λe W=>Below w w W/\∀F,iT c.su ((cS r.kept i).map<|kB r.kept) [] 0=F->if F.1=0 then∃v,e=.returned (.tuple #[v,.int .i64<|-1,aA])/\kO F.2.2/\F.2.2.length<=4000/\W.ownsRow w.heap.size 60 6 v F.2.2 (bJ F.2.2)else e=.returned (.tuple #[.slice none 0 0,.int .i64 ((cS r.kept i).getD F.2.1 0:Nat),.int .i64 F.1]):=by
 have S:=Qw O.par t;have hl:=Dh O.par H.len t;have p:=Dg i w H O.par b1 t;generalize cS r.kept i=l at hl p S;have⟨F,a⟩:∃F,iT c.su (l.map<|kB r.kept) [] 0=F:=⟨_,rfl⟩;suffices h:Cv 97 #[ptr N,.int .i64 i] w λe W=>Below w w W/\if F.1=0 then∃v,e=.returned (.tuple #[v,.int .i64<|-1,aA])/\kO F.2.2/\F.2.2.length<=4000/\W.ownsRow w.heap.size 60 6 v F.2.2 (bJ F.2.2)else e=.returned (.tuple #[.slice none 0 0,.int .i64 (l.getD F.2.1 0:Nat),.int .i64 F.1])from h.mono λe W⟨Q,q⟩=>⟨Q,λah e=>by rw[<-e,a];exact q⟩;have a:=aK a;unfold ptr at p|-;go_enter fA func97,ntmps97;go_wp2;refine p.mono ?_;rintro e w1⟨v1,rfl,π,b3⟩;clear p;obtain⟨va,vc,rfl⟩:=aS π;go_wp2;go_loopw [7,9] (λx i wr=>∃(j:Nat)(m:List bL),j<=l/\i=↑(j:Int)/\iT c.su (l.map<|kB r.kept) [] 0=iT c.su ((l.drop j).map<|kB r.kept) m j/\m<=72*j/\kO m/\wr.ownsRow w.heap.size 60 6 x m (bJ m)/\Below w w wr/\Below w1 w1 wr) (λ_ i _=>l -(intOf i).toNat);exact⟨0,[],cH _,rfl,rfl,by simp,(λc m=>by cases m),mV _ _ _ _,b3,Below.refl _ _⟩;case round=>
  obtain⟨j,m,hj,rfl,d,hm,T,K,B,y⟩:=hrel;have⟨xa,xc,af⟩:=aS K;subst af;by_cases V:j<l
  .have⟨x,s⟩:∃x,l[j]?=some x:=⟨_,aY V⟩;have hd:l.drop j=x::l.drop (j+1):=by rw[wH V,(bK.1 s).2]
   rw[hd,gJ]at d;have xl:=S x<|eY s;have⟨k,J⟩:∃k,r.kept[x]?=some k:=⟨_,aY xl⟩;have ac:kB r.kept x=(k.aT,k.blk.eO.map pG):=by unfold kB;rw[J]
   rw[ac]at d;have kp:=O.kp k<|eY J;have U:=H.keep B;have⟨aa,bs,z,C,h3,h4⟩:=U.ex;have⟨b,R⟩:∃b,bs[x]?=some b:=⟨_,aY<|by have:=h3.1;omega⟩;have hK:=h4 x b k R J;obtain⟨ai,cc,rfl,q⟩:=kN C (k:=x) (u:=ptr b) (by simp[R]);have Q:=z.r 5;unfold ptr at q;have⟨lg,lc,ae,I⟩:=kN (aP π y) (k:=j) (u:=.int .i64 (x:Int)) (by simp[sF,s]);cases ae;have j0:(0:Int)<=j:=O9;have j1:(j:Int)<l:=O9;have j2:(0:Int)<=x:=O9;have j3:(x:Int)<r.kept:=O9;have g:Hid (Below wr wr wr.drew):=cN B0;have n:Hid (Cv 143 #[.pointer<|some ⟨N,0,none⟩,(xa,m,xc),.pointer<|some ⟨b,0,none⟩] wr.drew λe W=>Below wr wr W/\∃v,e=.returned (.tuple #[v,.int .i64 (eK c.su k.aT (k.blk.eO.map pG) m).1])/\((eK c.su k.aT (k.blk.eO.map pG) m).1=0->W.ownsRow wr.heap.size 60 6 v (eK c.su k.aT (k.blk.eO.map pG) m).2.length (bJ (eK c.su k.aT (k.blk.eO.map pG) m).2))):=(QC m wr.drew (U.keep g.out) (hK.keep g.out) kp.1 (aP K g.out) (by omega) T kp.2 ad).mono λe W⟨z,C⟩=>⟨g.out.trans<|z.mono g.out.size,C⟩;have o:=TU (su:=c.su) (h:=k.aT) T (QD kp.1).1 (QD kp.1).2;have f:=@xE c.su (k.aT,k.blk.eO.map pG) m;have M:=@Qr c.su (k.aT,k.blk.eO.map pG) m;simp only at f M;generalize eK c.su k.aT (k.blk.eO.map pG) m=mv at n o f M;have⟨X,Y⟩:=mv;simp only at n o f M;have D:=aK λab(b:Below wr wr ab)=>Ai (aM b Q)<|Ai (aM b I) (aM b q);go_wp2;go_region_held3 (So D.out) (first|with_reducible exact D.out _ G|exact D.out _ (cN B0)) ((go_at_call 143;refine n.out.mono ?_;rintro e w3⟨G,v3,rfl,L⟩))
   have P:=B.trans<|G.mono B.size;by_cases A:X=0
   .subst A;have⟨g1,g2⟩:=o rfl;have o4:=ki (L rfl) B.size;have e2:Hid (iT c.su (l.map<|kB r.kept) [] 0=iT c.su ((l.drop<|j+1).map<|kB r.kept) Y (j+1)):=by have:=d;rw[f rfl]at this;exact this
    clear d f M o L a n Q I q;have⟨ya,yc,hy⟩:=aS o4;subst hy;go_wp2;exact⟨⟨j+1,Y,by omega,rfl,e2.out,by omega,g2,o4,P,y.trans<|G.mono y.size⟩,by simp[intOf];omega⟩
   have E:=a.out;rw[d,M A]at E;subst E;have i1:=aM G I;clear a d f M o n Q I q L;go_wp2;go_quiet (fail);go_wp2;exact cY (v:=.tuple #[.slice none 0 0,.int .i64 (x:Int),.int .i64 X]) (by simp[results,results97,go_sem]) rfl ⟨eQ P,by have ag:=(bK.1 s).2;simp[A,ag]⟩
  have aj:j=l:=by omega
  have j1:¬(j:Int)<l:=by omega
  have E:=a.out;rw[d,Dx (by omega),qL,iT]at E;subst E;clear a d;go_wp2;exact cY (v:=.tuple #[(xa,m,xc),.int .i64<|-1,aA]) (by simp[results,results97,go_sem]) rfl ⟨B,_,rfl,by omega,K⟩
def VS:∀a b,Op.bytesLess a b=true↔Lib.compareBytes a b<0
 |[],[]=>by simp[Op.bytesLess,Lib.compareBytes]
 |[],_::_=>by simp[Op.bytesLess,Lib.compareBytes]
 |_::_,[]=>by simp[Op.bytesLess,Lib.compareBytes]
 |a::d,b::e=>by unfold Op.bytesLess Lib.compareBytes;have f:=VS d e;by_cases c:a<b;simp[c];grind
def aef(c:bL):Value:=.agg #[.string c.tx,.int .i64 c.idx,.int .i64 c.val,.string c.lock,.int .i64 c.aT,aD]
def Ih(x y:bL):Bool:=decide (wh x.pt y.pt<0)
def aeg(x y):(Op.bytesLess x.tx.toList y.tx.toList=true->Ih x y=true)/\(Op.bytesLess x.tx.toList y.tx.toList=false->x.tx≠y.tx->Ih x y=false)/\(x.tx=y.tx->Ih x y=decide (x.idx<y.idx)):=by
 unfold Ih wh bL.pt;dsimp only;have c:=xR x.tx.data.toList y.tx.data.toList;have b:=VS x.tx.data.toList y.tx.data.toList;rw[ByteArray.toList_eq,ByteArray.toList_eq];refine⟨λh=>?_,λh n=>?_,λe=>?_⟩;have:=b.1 h;rw[aN O9];simpa using this;have g:Lib.compareBytes x.tx.data.toList y.tx.data.toList≠0:=λe=>n (by
 have:=c.1 e;have a:x.tx.data=y.tx.data:=by apply Ul;exact this
 cases d:x.tx;cases f:y.tx;rw[d,f]at a;simp at a;rw[a]);have:¬Lib.compareBytes x.tx.data.toList y.tx.data.toList<0:=λe=>by rw[b.2 e]at h;cases h
 rw[aN g];simpa using this;rw[aJ (by simpa using c.2 (by rw[e])),decide_eq_decide];exact ahu _ _
def TV(x y w):Cv 145 #[aef x,aef y] w λe u=>e=.returned (.bool<|Ih x y)/\Below w w u:=by have⟨f,g,h⟩:=aeg x y;generalize Ih x y=F at f g h;have⟨a,b,V,L,d⟩:=x;have⟨j,s,D,r,t⟩:=y;unfold aef;simp only at f g h|-;have p:=Ba w<|.cells #[a,b,V,L,d,aD] 60;have m:=aX w [a,b,V,L,d,aD] 60;have q:Below (w.alloc<|.cells #[a,b,V,L,d,aD] 60) (w.alloc<|.cells #[a,b,V,L,d,aD] 60) ((w.alloc<|.cells #[a,b,V,L,d,aD] 60).alloc<|.cells #[j,s,D,r,t,aD] 60):=B0.alloc L9 _;have n:=aX (w.alloc<|.cells #[a,b,V,L,d,aD] 60) [j,s,D,r,t,aD] 60;have o:=m.keep q m.lt;have⟨v,z⟩:=o.p2;have⟨A,B⟩:=n.p2;have k:=p.trans<|q.mono p.size;clear m n o p q;go_enter fA func145,ntmps145;cases l:Op.bytesLess a.toList j.toList with
 |true=>have e:=f l;subst e;clear f g h;go_wp2;go_ret;exact⟨rfl,k⟩
 |false=>
   by_cases e:a=j
   .have c:=h e;subst e;clear f g h;by_cases i:b<s;.rw[pM i]at c;subst c;go_wp2;go_ret;exact⟨rfl,k⟩
    rw[lX i]at c;subst c;go_wp2;go_ret;exact⟨rfl,k⟩
   have c:=g l e;have C:(a.toList==j.toList)=false:=by rw[bytes_beq];simpa using e
   clear f g h;subst c;go_wp2;go_ret;exact⟨rfl,k⟩
def zT(l:List (Option bL)):List Value:=l.flatMap jo
def TW(o):(jo o).length=6:=by cases o<;>rfl
def E6:∀l,(zT l)=l.length*6
 |[]=>rfl
 |x::l=>by have:zT (x::l)=jo x++zT l:=rfl;rw[this,cB,E6 l,TW,cQ];omega
def BU(a b):zT (a++b)=zT a++zT b:=by unfold zT;rw[List.flatMap_append]
def uF:∀l,zT (l.map some)=bJ l
 |[]=>rfl
 |x::l=>by show jo (some x)++zT (l.map some)=jo (some x)++bJ l;rw[uF l]
def BV:∀n,Bp n=zT (List.replicate n none)
 |0=>by simp[Bp,madeCells,zT]
 |n+1=>by rw[List.replicate_succ',BU,<-BV n];unfold Bp madeCells;rw[show(n+1)*6=n*6+1+1+1+1+1+1 from by omega];simp[tM,Array.toList_range,List.range_succ,kq,gJ,qL,dP];simp[zT,jo,O9,O9,O9,O9,O9,O9]
def W6{w g a k}(h:Row w g 60 (zT a))(f:k<a.length)(c):Row (s6W w g (k*6) c.tx c.idx c.val c.lock c.aT ↑aD) g 60 (zT (a.set k<|some c)):=by
 have⟨x,i⟩:∃x,x=a[k]:=⟨_,rfl⟩;have e:a=a.take k++x::a.drop (k+1):=by rw[i,U5,pR]
 have⟨j,l,m,n,o,p,_,d⟩:=pq x;have b:zT a=zT (a.take k)++↑j::↑l::↑m::↑n::↑o::.bool p::zT (a.drop<|k+1):=by
  conv=>lhs;rw[e,BU]
  show _++(jo x++_)=_;rw[d];rfl
 have L:(zT<|a.take k)=k*6:=by rw[E6,dJ,lD O9]
 rw[b]at h;have r:=GU h ↑c.tx ↑c.idx ↑c.val ↑c.lock ↑c.aT ↑aD;rw[L]at r;rw[List.set_eq_take_append_cons_drop,aN f,BU];exact r
def W7{w g a k}(h:Row w g 60 (zT a))(q:k<a.length):∃c d f i l m,w.cell? (g,k*6)=some (.string c)/\w.cell? (g,k*6+1)=some (.int .i64 d)/\w.cell? (g,k*6+2)=some (.int .i64 f)/\w.cell? (g,k*6+3)=some (.string i)/\w.cell? (g,k*6+4)=some (.int .i64 l)/\w.cell? (g,k*6+5)=some (.bool m):=by
 have⟨x,p⟩:∃x,x=a[k]:=⟨_,rfl⟩;have e:a=a.take k++x::a.drop (k+1):=by rw[p,U5,pR]
 have⟨c,d,f,i,l,m,_,o⟩:=pq x;have L:(zT<|a.take k)=k*6:=by rw[E6,dJ,lD O9]
 have b:∀j v,(jo x)[j]?=some v->w.cell? (g,k*6+j)=some v:=λj v n=>by rw[h.cell,e,BU,cZ O9,L,Ah];show(jo x++_)[j]?=_;rw[ko (bK.1 n).1];exact n
 rw[o]at b;exact⟨c,d,f,i,l,m,b 0 _ rfl,b 1 _ rfl,b 2 _ rfl,b 3 _ rfl,b 4 _ rfl,b 5 _ rfl⟩
def QE{b w W g}(h:Below b w W)(o c v V d e f)(a:b<=g):Below b w (s6W W g o c v V d e f):=(((((h.setCell (p:=(g,o)) a c).setCell (p:=(g,o+1)) a v).setCell (p:=(g,o+2)) a V).setCell (p:=(g,o+3)) a d).setCell (p:=(g,o+4)) a e).setCell (p:=(g,o+5)) a f
def nu(C:List bL)(x:bL):Nat:=C.countP λy=>Ih y x
def aeh(x):Ih x x=false:=by unfold Ih;rw[(xS _ _).2 rfl];rfl
def W9{C D k x}(p:D.Perm C)(s:kz D)(n:(D.map bL.pt).Nodup)(e:D[k]?=some x):nu C x=k:=by
 unfold nu;rw[<-p.countP_eq];have h:=(bK.1 e).1;rw[<-pR k D,List.countP_append];have f:(D.take k).countP (λy=>Ih y x)=k:=by
  have:(D.take k).countP (λy=>Ih y x)=(D.take k):=by rw[List.countP_eq_length];intro y b;have⟨j,a⟩:=jQ.1 b;have d:=(bK.1 a).1;rw[dJ]at d;rw[Du O9]at a;have:=s.lt n (i:=j) (j:=k) O9 a e;simpa[Ih]using this
  rw[this,dJ,lD O9]
 have g:(D.drop k).countP (λy=>Ih y x)=0:=by rw[List.countP_eq_zero];intro y b;have⟨j,a⟩:=jQ.1 b;rw[Dr]at a;obtain c|c:=pJ j;subst c;rw[tJ,e]at a;cases a;rw[aeh];simp;have:=s.lt n (i:=k) (j:=k+j) O9 e a;have l:=Bn x.pt y.pt;simp[Ih];omega
 omega
def agr{C D x}(p:D.Perm C)(s:kz D)(n:(D.map bL.pt).Nodup)(m:x∈C):D[nu C x]?=some x:=by have⟨k,a⟩:=jQ.1<|p.mem_iff.2 m;rw[W9 p s n a];exact a
def TX{S c r}(C D w)(aa:jd w S c r)(O:ROk r)(ak:0<=c.su/\c.su<=1000000){m}(hF:iT c.su ((cS r.kept r.last).map<|kB r.kept) [] 0=(0,m,C))(p:D.Perm C)(af:kz D)(ae:(D.map bL.pt).Nodup):Cv 101 #[ptr S] w λe a=>∃g,e=.returned (.slice (some ⟨g,0,none⟩) D D)/\w.heap.size<=g/\Row a g 60 (bJ D)/\Below w w a:=by
 have⟨nv,bs,N1,_⟩:=aa.ex;have c6:=N1.r 6;have L:Cv 97 #[ptr S,.int .i64 r.last] w λe a=>Below w w a/\∃v',e=.returned (.tuple #[v',.int .i64<|-1,aA])/\kO C/\C.length<=4000/\a.ownsRow w.heap.size 60 6 v' C (bJ C):=(Dj r.last w aa O O.l1 O.l2 ak).mono λe a⟨f,J⟩=>⟨f,by have:=J _ hF;simpa using this⟩;have s:=p.length_eq;have U:=λx(m:x∈C)=>agr p af ae m;unfold ptr at L|-;go_enter fA func101,ntmps101;go_wp2;refine L.mono ?_;rintro e W⟨n,v1,rfl,hv,hl,A⟩;clear L c6;obtain⟨va,vc,rfl⟩:=aS A;have ao:=Ml C (by omega) W;go_wp2;have q:=Ba W<|.cells (Bp C).toArray 60;have d:=aX W (Bp C) 60;rw[BV]at d;have s1:=n.size;have oA:=aP A q;have ac:=n.trans<|q.mono n.size;rw[<-BV]at d;generalize W.alloc _=w2 at q d oA ac|-;rw[BV]at d;have⟨g,M⟩:∃g,g=W.heap.size:=⟨_,rfl⟩;rw[<-M]at d|-;have s2:w.heap.size<=g:=by omega
 have aj:W.heap.size<=g:=by omega
 replace M:=aK M;go_loopw [7] (λi wr=>∃(j:Nat)(X:List (Option bL)),j<=C/\i=↑(j:Int)/\X.length=C.length/\(∀t x,t<j->C[t]?=some x->X[nu C x]?=some (some x))/\Row wr g 60 (zT X)/\Below W W wr) (λi _=>C.length -(intOf i).toNat);exact⟨0,_,cH _,rfl,by simp,λt x h=>by omega,d,q⟩;case round=>
  clear d oA ac q;obtain⟨j,X,hj,rfl,hX,u,R,B⟩:=hrel;by_cases lt:j<C.length;.have⟨x,z⟩:∃x,C[j]?=some x:=⟨_,aY lt⟩;have P:=U x<|eY z;have rl:nu C x<C.length:=s▸(bK.1 P).1;have j0:(0:Int)<=j:=O9;have j1:(j:Int)<C.length:=O9;go_wp2;go_loopw [8,9] (λk i wq=>∃t,t<=C.length/\i=↑(t:Int)/\k=↑((C.take t).countP (λy=>Ih y x):Int)/\Row wq g 60 (zT X)/\Below W W wq) (λ_ i _=>C.length -(intOf i).toNat);exact⟨0,cH _,rfl,rfl,R,B⟩;case round=>
    clear R B;obtain⟨t,v,rfl,rfl,R,B⟩:=hrel;by_cases am:t<C.length
    .have⟨y,l⟩:∃y,C[t]?=some y:=⟨_,aY am⟩;have o:=aP A B;have⟨lg,lc,Q,_,y0,y1,y2,y3,y4,y5⟩:=pW o l;have⟨ar,aq,al,_,V,Y,π,x3,x4,x5⟩:=pW o z;cases Q;cases al;have t0:(0:Int)<=t:=O9;have t1:(t:Int)<C.length:=O9;have I:Hid (Below wr wr wr.drew):=cN B0;have N:Hid (Cv 145 #[.agg #[.string y.tx,.int .i64 y.idx,.int .i64 y.val,.string y.lock,.int .i64 y.aT,aD],.agg #[.string x.tx,.int .i64 x.idx,.int .i64 x.val,.string x.lock,.int .i64 x.aT,aD]] wr.drew λe a=>e=.returned (.bool<|Ih y x)/\Below wr wr a):=(TV y x wr.drew).mono λe a⟨f,J⟩=>⟨f,I.out.trans<|J.mono I.out.size⟩;have K:=aK λag(b:Below wr wr ag)=>Ai (aM b y0)<|Ai (aM b y1)<|Ai (aM b y2)<|Ai (aM b y3)<|Ai (aM b y4)<|Ai (aM b y5)<|Ai (aM b V)<|Ai (aM b Y)<|Ai (aM b π)<|Ai (aM b x3)<|Ai (aM b x4) (aM b x5);have H:(C.take<|t+1).countP (λy=>Ih y x)=(C.take t).countP (λy=>Ih y x)+(if Ih y x then 1 else 0):=by rw[oz,l,List.countP_append];simp[List.countP_cons]
     have cl:(C.take t).countP (λy=>Ih y x)<=4000:=cA (List.countP_le_length) (by rw[dJ];omega);generalize(C.take t).countP (λy=>Ih y x)=kk at H cl|-;replace H:=aK H;generalize Ih y x=ab at N H;clear o;go_wp2;go_region_held3 (So K.out) (first|with_reducible exact K.out _ G|exact K.out _ (cN B0)) ((go_at_call 145;refine N.out.m1 λw3 G=>?_))
     clear N I y0 y1 y2 y3 y4 y5 V Y π x3 x4 x5;have R3:=R.keep G R.lt;cases ab with
     |true=>
       have j5:IntKind.i64.wrap ((kk:Int)+1)=((kk+1:Nat):Int):=by rw[jP];omega
       go_wp2;exact⟨⟨t+1,by omega,rfl,by rw[H.out];simp,R3,B.trans<|G.mono B.size⟩,by simp[intOf];omega⟩
     |false=>go_wp2;go_roundw;exact⟨t+1,by omega,by simp,by rw[H.out];simp,R3,B.trans<|G.mono B.size⟩;simp[intOf];omega
    have ap:t=C.length:=by omega
    have t1:¬(t:Int)<C.length:=by omega
    have H:(C.take t).countP (λy=>Ih y x)=nu C x:=by rw[Dv<|by omega];rfl
    have o:=aP A B;have⟨lg,lc,Q,_,V,Y,π,x3,x4,x5⟩:=pW o z;cases Q;rw[H];clear H o;have T:nu C x<X.length:=by omega
    have⟨c1,c2,c3,c4,c5,c6,q0,q1,q2,q3,q4,q5⟩:=W7 R T;have z0:=R.frozen<|nu C x*6;have z1:=R.frozen<|nu C x*6+1;have z2:=R.frozen<|nu C x*6+2;have z3:=R.frozen<|nu C x*6+3;have z4:=R.frozen<|nu C x*6+4;have z5:=R.frozen<|nu C x*6+5;have E:=W6 R T x;have F:=QE B (nu C x*6) (.string x.tx) (.int .i64 x.idx) (.int .i64 x.val) (.string x.lock) (.int .i64 x.aT) ↑aD aj;have ah:Hid (∀t y,t<j+1->C[t]?=some y->(X.set (nu C x)<|some x)[nu C y]?=some (some y)):=λt y v l=>by
     by_cases e:nu C y=nu C x;have f:=U y<|eY l;rw[e,P]at f;cases f;rw[Aq T];rw[ot λh=>e h.symm];obtain ad|ad:=lB t j;exact u t y ad l;have:t=j:=by omega
     subst this;cases z▸l;exact absurd rfl e
    have ai:(X.set (nu C x)<|some x).length=C.length:=by rw[Dw];exact hX
    replace E:=aK E;replace F:=aK F;clear P u;generalize nu C x=k at*;have k0:(0:Int)<=k:=O9;have k1:(k:Int)<C.length:=O9;have au:=R.lt;go_wp2;exact⟨⟨j+1,_,by omega,rfl,ai,ah.out,E.out,F.out⟩,by simp[intOf];omega⟩
  have an:j=C.length:=by omega
  have j1:¬(j:Int)<C.length:=by omega
  have eX:X=D.map some:=by apply kX;intro k;rw[eG];cases h:D[k]? with
   |none=>have:=Dp.1 h;rw[kD<|by omega];rfl
   |some x=>have m:=p.mem_iff.1<|eY h;have⟨t,v⟩:=jQ.1 m;have:=u t x (by have:=(bK.1 v).1;omega) v;rw[W9 p af ae h]at this;exact this
  have bz:=n.trans<|B.mono n.size;rw[eX,uF]at R;replace s:=aK s;clear u U;go_wp2;go_ret;exact⟨g,by rw[s.out];rfl,s2,R,bz⟩
def rP(w:World)(v:Value)(l:List Pt):Prop:=∃a c,v=.slice a l.length c/\(l≠[]->∃b o,a=some ⟨b,o,none⟩/\∀(i:Nat)p,l[i]?=some p->w.cell? ⟨b,o+i*2,none⟩=some (.string p.1)/\w.cell? ⟨b,o+i*2+1,none⟩=some (.int .i64 p.2))
def rP.keep{w k v l}(h:rP w v l)(b:Below w w k):rP k v l:=have⟨a,c,e,f⟩:=h;⟨a,c,e,λn=>have⟨g,o,m,j⟩:=f n;⟨g,o,m,λi p d=>⟨aM b (j i p d).1,aM b (j i p d).2⟩⟩⟩
def rP.at{w v l i p}(h:rP w v l)(e:l[i]?=some p):∃b o c,v=.slice (some ⟨b,o,none⟩) l c/\w.cell? ⟨b,o+i*2,none⟩=some p.1/\w.cell? ⟨b,o+i*2+1,none⟩=some p.2:=by have⟨a,c,d,f⟩:=h;obtain⟨b,o,rfl,j⟩:=f (λg=>by cases g▸e);exact⟨b,o,c,d,j i p e⟩
def ZJ(K:jH)(l:List Pt)(j:Nat):List (Option bL):=(l.take j).map K++List.replicate (l.length -j) none
def ags(K l j)(h:j<=l.length):(ZJ K l j)=l.length:=by unfold ZJ;simp;omega
def agt{K l j p}(h:l[j]?=some p):ZJ K l (j+1)=(ZJ K l j).set j (K p):=by have a:=(bK.1 h).1;unfold ZJ;rw[List.set_append,aJ (by simp;omega),oz,h,show l -j=(l -(j+1))+1 from by omega,List.replicate_succ];simp[lD<|Ak a]
def aei{K l j p}(h:l[j]?=some p)(e:K p=none):ZJ K l (j+1)=ZJ K l j:=by have a:=(bK.1 h).1;unfold ZJ;rw[oz,h,show l.length -j=(l.length -(j+1))+1 from by omega,List.replicate_succ];simp[e]
def agu(K l):zT (ZJ K l l)=looked K l:=by unfold ZJ zT looked;simp[UH]
def ZK{T c r v K}(C l w)(H:jd w T c r)(O:ROk r)(ah:0<=c.su/\c.su<=1000000){ai}(hF:iT c.su ((cS r.kept r.last).map<|kB r.kept) [] 0=(0,ai,C))(L:fJ K C)(X:rP w v l)(hl:l.length<=1000000):Cv 144 #[ptr T,v] w λe t=>∃g,e=.returned (.tuple #[.slice (some ⟨g,0,none⟩) l l,nP r r.last])/\w.heap.size<=g/\Row t g 60 (looked K l)/\Below w w t:=by
 have z:=Ba w<|.cells #[aB,aA,aA] 55;have k:=aX w [aB,aA,aA] 55;have U:=H.keep z;have⟨nv,bs,N1,_⟩:=U.ex;have V:=N1.r 6;have M:Cv 97 #[ptr T,.int .i64 r.last] (w.alloc<|.cells #[aB,aA,aA] 55) λe t=>Below (w.alloc<|.cells #[aB,aA,aA] 55) (w.alloc<|.cells #[aB,aA,aA] 55) t/\∃v',e=.returned (.tuple #[v',.int .i64<|-1,aA])/\kO C/\C.length<=4000/\t.ownsRow (w.alloc<|.cells #[aB,aA,aA] 55).heap.size 60 6 v' C (bJ C):=(Dj r.last _ U O O.l1 O.l2 ah).mono λe t⟨h1,h2⟩=>⟨h1,by have:=h2 _ hF;simpa using this⟩;have ad:=X;have⟨pa,pc,ag,_⟩:=ad;have⟨I,d,h,s⟩:∃I d h,nP r r.last=.agg #[.string I,.int .i64 d,.int .i64 h]:=by unfold nP;split;exact⟨_,_,_,rfl⟩;split<;>exact⟨_,_,_,rfl⟩
 subst ag;unfold ptr at M|-;go_enter fA func144,ntmps144;go_wp2;refine M.mono ?_;rintro e W⟨o,v1,rfl,s,ak,D⟩;clear M V;replace k:=k.keep o k.lt;replace o:=z.trans<|o.mono z.size;replace D:=ki D z.size;obtain⟨va,vc,rfl⟩:=aS D;have am:=Ml l (by omega) W;go_wp2;have G:=Ba W<|.cells (Bp l).toArray 60;have u:=aX W (Bp l) 60;have s1:=o.size;generalize W.alloc _=w2 at G u|-;rw[BV]at u;have⟨g,N⟩:∃g,g=W.heap.size:=⟨_,rfl⟩;rw[<-N]at u|-;have s2:w.heap.size<=g:=by omega
 have ae:W.heap.size<=g:=by omega
 have aj:=k.lt;replace N:=aK N;go_loopw [10] (λi wr=>∃(j:Nat),j<=l/\i=↑(j:Int)/\Row wr g 60 (zT<|ZJ K l j)/\Below W W wr) (λi _=>l -(intOf i).toNat);exact⟨0,Nat.zero_le _,rfl,by unfold ZJ;simpa using u,G⟩;case round=>
  clear u G;obtain⟨j,hj,rfl,m,B⟩:=hrel;have A:=o.trans<|B.mono o.size;by_cases π:j<l;.have⟨q,P⟩:∃q,l[j]?=some q:=⟨_,aY π⟩;have⟨pb,po,an,S,p0,p1⟩:=(X.keep A).at P;cases S;have j0:(0:Int)<=j:=O9;have j1:(j:Int)<l.length:=O9;have ow:=aP D B;have n:=Ic C q.1 q.2 wr ow (by omega);unfold Ib at n;cases f:C.findIdx? (λc=>decide (c.pt=q))with
   |none=>have E:=aei (K:=K) P<|tY L f;have f2:=f;rw[f2]at n;simp only at n;replace E:=aK E;clear f2 f;go_wp2;refine n.m1 λw3 b=>?_;have a:=m.keep b m.lt;go_wp2;go_roundw;exact⟨j+1,by omega,by simp,E.out▸a,B.trans<|b.mono B.size⟩;simp[intOf];omega
   |some aa=>
     have⟨x,Y,_,hK⟩:=K7 L f;have f2:=f;have tl:=(bK.1 Y).1;rw[f2]at n;simp only at n;have E:=agt (K:=K) P;rw[hK]at E;replace E:=aK E;clear f2 f;go_wp2;refine n.m1 λw3 b=>?_;have a:=m.keep b m.lt;have ac:=B.trans<|b.mono B.size;have⟨lg,lc,S,_,x0,x1,x2,x3,x4,x5⟩:=pW (aP ow b) Y;cases S;have rX:j<(ZJ K l j).length:=by rw[ags _ _ _ hj];exact π
     have⟨c1,c2,c3,c4,c5,V,q0,q1,q2,q3,q4,q5⟩:=W7 a rX;have z0:=a.frozen<|j*6;have z1:=a.frozen<|j*6+1;have z2:=a.frozen<|j*6+2;have z3:=a.frozen<|j*6+3;have z4:=a.frozen<|j*6+4;have z5:=a.frozen<|j*6+5;have y:=W6 a rX x;have F:=QE ac (j*6) (.string x.tx) (.int .i64 x.idx) (.int .i64 x.val) (.string x.lock) (.int .i64 x.aT) true ae;rw[<-E.out]at y;replace y:=aK y;replace F:=aK F;have k0:(0:Int)<=aa:=O9;have k1:(aa:Int)<C.length:=O9;have ao:=a.lt;go_wp2;go_roundw;exact⟨j+1,by omega,by simp,y.out,F.out⟩;simp[intOf];omega
  have af:j=l.length:=by omega
  subst af;have j1:¬(l.length:Int)<l.length:=by omega
  rw[agu]at m;have Q:=xH wr (H.keep A) O.l1 O.l2;have⟨I,d,h,s⟩:∃I d h,nP r r.last=.agg #[.string I,.int .i64 d,.int .i64 h]:=by unfold nP;split;exact⟨_,_,_,rfl⟩;split<;>exact⟨_,_,_,rfl⟩
  rw[s]at Q;unfold ptr at Q;replace s:=aK s;go_wp2;refine Q.m1 λw3 b=>?_;have R:=(k.keep B k.lt).keep b (k.keep B k.lt).lt;have⟨r0,r1,r2⟩:=R.p3;have f0:=R.frozen;have al:=R.lt;have bC:=(((A.trans<|b.mono A.size).setCell (p:=⟨w.heap.size,0,none⟩) L9<|.string I).setCell (p:=⟨w.heap.size,1,none⟩) L9<|.int .i64 d).setCell (p:=⟨w.heap.size,2,none⟩) L9<|.int .i64 h;have ab:=((R.set 0<|.string I).set 1<|.int .i64 d).set 2<|.int .i64 h;have⟨s0,s1,s2⟩:=ab.p3;have J:g≠w.heap.size:=by omega
  have RG:=(((m.keep b m.lt).bF ⟨w.heap.size,0,none⟩ (.string I) J).bF ⟨w.heap.size,1,none⟩ (.int .i64 d) J).bF ⟨w.heap.size,2,none⟩ (.int .i64 h) J;go_wp2;exact cY (v:=.tuple #[.slice (some ⟨g,0,none⟩) l.length l.length,.agg #[.string I,.int .i64 d,.int .i64 h]]) (by simp[results,results144,go_sem,s0,s1,s2]) rfl ⟨g,by rw[s.out],by assumption,RG,bC⟩
def QF(p)(o:Nat)(w)(x:p.length<=1000)(u:o+8<=p.length):Cv 171 #[(mk p),(o:Int)] w λe q=>e=.returned (.int .u64 (dV<|(p.drop o).take 8))/\q=w:=by go_enter fA func171,ntmps171;go_wp2;go_loopw [5,6] (λn j r=>∃k:Nat,k<=8/\j=↑(k:Int)/\n=.int .u64 (dV<|((p.drop o).take 8).take k)/\r=w) (λ_ j _=>8 -(intOf j).toNat);exact⟨0,O9,rfl,rfl,rfl⟩;case round=>
  obtain⟨k,s,rfl,rfl,rfl⟩:=hrel;have f:((p.drop o).take 8).length=8:=by rw[dJ,rM];omega
  have d:∀j,j<8->((p.drop o).take 8).getD j 0=p.getD (o+j) 0:=λj h=>by simp[List.getD,List.getElem?_take,Dr,aN h]
  by_cases l:k<8
  .have a:=dH p (o+k) ((o:Int)+(k:Int)) O9 O9;rw[<-d k l]at a;generalize(p.drop o).take 8=t at f a;have g:=Bh (t.take k) (by rw[dJ];omega);have b:Hid (dV (t.take<|k+1)=dV (t.take k)*256+((t.getD k 0).toNat:Int)):=by unfold Hid;rw[rN (by omega:k<t.length),qX];simp[List.getD,show k<t.length from by omega]
   have m:=(t.getD k 0).toNat_lt;generalize(t.getD k 0).toNat=c at a b m;generalize v:dV (t.take k)=z at b g;clear f d;go_wp2;exact⟨⟨k+1,O9,S8,by rw[b.out];first|omega|(congr 1;omega),trivial⟩,by simp[intOf];omega⟩
  have i:k=8:=O9;subst i;rw[Fl,aal];go_wp2;go_ret;exact⟨rfl,rfl⟩
def ai3{N k b}(h:N%2^k=0)(e:N/2^k%2=1)(l:k<b):N%2^b≠0:=λz=>by have q:=Nat.mod_mod_of_dvd N<|Nat.pow_dvd_pow 2 l;rw[z,Nat.zero_mod,Nat.mod_pow_succ,h,e]at q;have:=Nat.two_pow_pos k;omega
def ai4{N k}(h:N%2^k=0)(e:¬N/2^k%2=1):N%2^(k+1)=0:=by rw[Nat.mod_pow_succ,h,show N/2^k%2=0 from by omega];simp
def aej{Q x b}(h:b<=8):(Q*256+x)%2^b=x%2^b:=by have a:2^b∣256:=Nat.pow_dvd_pow (m:=b) (n:=8) 2 h;have⟨y,c⟩:=a;rw[c,show Q*(2^b*y)=2^b*(Q*y)from by rw[Nat.mul_left_comm],Nat.mul_add_mod]
def TY(c x)(C:Nat)(w)(A:c.length=7)(q:C<=8):Cv 141 #[(mk<|c++[x]),(C:Int)] w λe u=>e=.returned (decide (x.toNat%2^C=0))/\u=w:=by have f:=QF (c++[x]) 0 w (by simp;omega) (by simp;omega);rw[List.drop_zero,Dv (by simp;omega),qX]at f;have E:=Bh c O9;have B:=x.toNat_lt;have⟨Q,m⟩:∃Q:Nat,dV c=(Q:Int):=⟨(dV c).toNat,O9⟩;rw[m]at f E;have⟨a,hN⟩:∃a,a=Q*256+x.toNat:=⟨_,rfl⟩;rw[show(Q:Int)*256+(x.toNat:Int)=((a:Nat):Int)from by omega]at f;have o:a%2^C=x.toNat%2^C:=hN▸aej q;rw[<-o];have⟨F,b⟩:∃F,F=decide (a%2^C=0):=⟨_,rfl⟩;rw[<-b];replace b:=aK b;have y:a<18446744073709551616:=O9;clear o hN m;generalize mk (c++[x])=id at f;go_enter fA func141,ntmps141;go_wp2;refine f.mono ?_;rintro e W⟨rfl,rfl⟩;go_wp2;go_loopw [5,6] (λn i v=>∃k:Nat,k<=C/\i=↑(k:Int)/\n=.int .u64 ((a/2^k:Nat):Int)/\a%2^k=0/\v=W) (λ_ i _=>C -(intOf i).toNat);exact⟨0,cH _,rfl,S8,Nat.mod_one _,rfl⟩;case round=>
  obtain⟨k,z,rfl,rfl,g,rfl⟩:=hrel;have r:a/2^k<=a:=Nat.div_le_self _ _;have d:a/2^(k+1)=a/2^k/2:=by rw[Nat.pow_succ,Nat.div_div_eq_div_mul]
  have h:=@ai3 a k C g;have O:=@ai4 a k g;generalize a/2^k=l at r d h O;by_cases L:k<C
  .have t:(k:Int)<C:=O9;by_cases e:l%2=1;.have j:=h e L;have D:=b.out;rw[lX j]at D;clear h O g d b j;subst D;go_wp2;go_ret;exact⟨rfl,rfl⟩
   have j:=aK<|O e;replace d:=aK d;clear h O g;go_wp2;exact⟨⟨k+1,O9,S8,by rw[d.out];congr 1,j.out,trivial⟩,by simp[intOf];omega⟩
  have s:k=C:=O9;subst s;clear h O d;have D:=b.out;rw[pM g]at D;clear b;subst D;go_wp2;go_ret;exact⟨rfl,rfl⟩
def acW(B:Nat)(w:World)(v:Value)(n:Nat)(l:List Value):Prop:=w.ownsRow B 9 1 v n l
def Ms{e w O R o a Q}(t:o.guard=none)(s x)(z:o.op=.call {callee:=.builtin .append,args:=#[s,x],argTypes:=#[41,41]})(v n l)(B:a.eval s=v)(A:acW e w v n l)
 (f g)(C:a.eval x=.slice g 1 1)(r:Row w g 9 [.string f])(H:n<=1000000)(q:e<=w)
 (h:∀c d,acW e d c (n+1) (l++[.string f])->w.grownBy d v.ownBlock->(c.ownBlock=v.ownBlock\/c.ownBlock=some ↑w)->wpList Vp O Q R (a.put o.dst c) d):wpList Vp O Q (o::R) a w:=by
 have⟨G,y,D,E,F⟩:=info_parts ahx;refine wpList_append_own_at _ t s x 41 z e 9 G _ 1 16 aI.underlying41 y D E F rfl D9 v n l B A (g,0) 1 1 [f] C rfl ?_ ?_ (by unfold maxLen;omega) O9 q ?_;intro j u b;match j,b with
 |0,b=>simp at b;subst b;rw[add0];exact r.cell 0
 |j+1,b=>simp at b
 intro u i;simp[jO,tH,tI]at i;subst i;rfl;intro c d k m _ p;exact h c d k m p
def SX(s w):Calls Vp 142 #[(mk s)] w λe w'=>Below w w w'/\((iE s=none/\e=.returned (.tuple #[(),aG]))\/∃b v,iE s=some b/\e=.returned (.tuple #[v,aA])/\acW w w' v b.eO (tu b.eO)):=by
 go_enter fA func142,ntmps142;go_wp2;refine(tj s _).mono ?_;rintro e W⟨h,⟨c,rfl⟩|⟨b,v,d,c,rfl,u,M,-⟩⟩;.rw[<-xu]at c;unfold eU;go_wp2;go_ret2;exact⟨h.alloc h.size _,.inl ⟨c,rfl⟩⟩
 rw[<-xu]at c;have⟨hf,_⟩:=kI c;have⟨X,Y⟩:=vk hf;have⟨P,p,N,t⟩:=b;simp only at u X Y|-;have z:t=d.length:=by rw[<-u,dS]
 have⟨E,F,D,_⟩:=M.form;subst D;rw[z]at X;go_wp2;have m:=Ba W<|.cells #[↑(mk P),p,N,(E,d,F)] 93;have RB:=aX W [↑(mk P),p,N,(E,d,F)] 93;have x:=RB.lt;generalize W.alloc _=ap at m RB x|-;generalize al:(W:Nat)=B at RB x|-;go_loopw [6,7] (λv i wr=>∃(k:Nat),k<=d/\i=↑k/\acW (B+1) wr v k (tu<|t.take k)/\Row wr B 93 [↑(mk P),p,N,(E,d,F)]/\Below W W wr) (λ_ i _=>d -(intOf i).toNat);case atStart=>exact⟨0,cH _,rfl,mV _ _ _ _,RB,by rw[al]at m|-;exact m⟩
 case round=>
  clear RB m x;obtain⟨k,hk,rfl,l,RB,n⟩:=hrel;by_cases ac:k<d.length
  .have ad:k<t.length:=O9;have⟨⟨a',c',D,U⟩,_⟩:=M.keep n;cases D;have⟨b0,o0,am,V⟩:=U (by intro ah;simp[ah]at ac);subst am;have⟨J,C,q,f,j⟩:=V k _<|aY ac;clear U V;have y:d[k].m=t[k]:=by simp[<-u,List.getElem_map]
   have a:=Y t[k]<|oD ad;have g:Hid (tu (t.take<|k+1)=tu (t.take k)++[.string<|wj d[k].tag d[k].ins d[k].outs]):=by unfold Hid tu;rw[rN ad,kq,<-y];rfl
   rw[<-y]at a;simp[ku.m]at a;clear y;have⟨ia,ic,ab,_⟩:=f.form;have⟨oa,oc,af,_⟩:=j.form;rw[ab]at C f;rw[af]at q j;clear ab af;generalize d[k].tag=T at J a g;generalize d[k].ins=I at C f a g;generalize d[k].outs=o at q j a g;have⟨s1,s2,s3,s4,s5,s6⟩:=a;have G:=RB.cell 3;have aq:(0:Int)<=k:=O9;have ar:(k:Int)<d.length:=O9;have aa:=RB.lt;go_wp2;refine(BB T ia ic I oa oc o true _ f j s1 s2 s3 s4 s5 s6).m1 λw2 O=>?_;have ao:=Bw true T I o s3 s4 s5 s6;have A:Hid (wj T I o=mk (be (hN (116::kJ true T I o)) 8)):=rfl;generalize kJ true T I o=L at ao A|-;have hz:=cD L;go_wp2;rw[aiz L];have S:=GP (116::L);refine(BA (116::L) _<|by simp[cQ];omega).m0 ?_;go_wp2;refine(um _ _ S.1 S.2).m1 λw4 Q=>?_;rw[<-A.out];generalize wj T I o=ag at g A|-;have H:=mD O L9 Q;have K:=World.ownsRow.kept (row:=none) l ⟨H.os,H.tape,H.output,H.size,λk hk _=>H.block k hk⟩ (by cases Value.ownBlock _<;>simp);have R:=RB.keep H aa;have r:=mD n L9 H;clear l RB n O Q H G J C q f j;have ai:=aX w4 [ag] 9;have au:=R.lt;go_wp2_with (at_builtin;refine Ms rfl _ _ rfl u6 k (tu<|t.take k) rfl (pP K _) ag _ rfl ai O9 Z9 ?_;intro v' w5 ak π av);have ae:=λb(h:u6.ownBlock=some b)=>(nD K b h).1;go_roundw;case rel=>exact⟨k+1,O9,by go_num,g.out▸ak,(xW (R.alloc _) π λb h=>by have:=ae b h;omega),((r.alloc r.size _).grown π (by have:=r.size;rw[cR];omega) λb h=>by have:=ae b h;omega)⟩
   case measure=>simp[intOf];omega
  have an:k=d.length:=O9;have aa:=RB.lt;have G:=RB.cell 3;have aw:¬(k:Int)<d.length:=O9;have aj:acW ↑w wr u6 t.length (tu t):=by have:=V5 l (show(w:Nat)<=B+1 by have:=h.size;omega);rw[an,<-z,gQ]at this;exact this
  clear l;go_wp2;go_ret2;exact⟨mD h L9 n,u6,rfl,z▸aj⟩
def Et(s w):Cv 48 #[(mk s)] w λe f=>Below w w f/\((iE s=none/\e=.returned (.tuple #[eU,aG]))\/∃b v d,iE s=some b/\e=.returned (.tuple #[.agg #[(mk b.parent),b.bits,b.fX,v],aA])/\d.map ku.m=b.eO/\fG 0 f v d):=by refine(tj s w).mono λe f⟨b,h⟩=>⟨b,?_⟩;rw[<-xu]at h;obtain h|⟨x,v,d,g,i,j,_,k,c⟩:=h;exact .inl h;exact .inr ⟨x,v,d,g,i,j,ki c.own<|cH _,λa m=>⟨ki (c.ins a m).1<|cH _,(c.ins a m).2⟩,λa m=>⟨ki (c.outs a m).1<|cH _,(c.outs a m).2⟩⟩
def Ii(r id):iU r id=-2\/(-1<=iU r id/\iU r id<r.kept):=by unfold iU;split;exact .inr ⟨O9,O9⟩;split;exact .inl rfl;rename_i h;have:=(Dy.1 h).1;exact .inr ⟨O9,O9⟩
def TZ(r i):∃x,nP r i=.agg #[.string x,(De r i).1,(De r i).2]:=by unfold nP De;by_cases h:i<0;rw[aN h,aN h];exact⟨_,rfl⟩;rw[aJ h,aJ h];rcases r.kept[i.toNat]? with _|k;exact⟨_,rfl⟩;exact⟨_,rfl⟩
def ai5(r:RN):Prop:=∀(i:Nat)(k:KM),r.kept[i]?=some k->(0<=k.aT/\k.aT<=i+1)/\0<=k.wo/\k.wo<=256*((i:Int)+1)
def ahN{r}(h:ai5 r)(i):(0<=(De r i).1/\(De r i).1<=r.kept)/\0<=(De r i).2/\(De r i).2<=256*(r.kept:Int):=by unfold De;split;exact⟨⟨S8,S8⟩,S8,by simp;omega⟩;split;exact⟨⟨S8,S8⟩,S8,by simp;omega⟩;rename_i k e;have l:=(bK.1 e).1;have:=h _ k e;simp only;omega
def Xa{s}(d:iE s=none)(w):Cv 48 #[(mk s)] w λe c=>e=.returned (.tuple #[.agg #[aB,aA,aA,()],aG])/\Below w w c:=(Et s w).mono λe c⟨f,g⟩=>by obtain⟨_,rfl⟩|⟨b,_,_,a,_⟩:=g;exact⟨rfl,f⟩;cases d▸a
def Xb{s b}(f:iE s=some b)(w):Cv 48 #[(mk s)] w λe d=>∃v c,e=.returned (.tuple #[.agg #[(mk b.parent),b.bits,b.fX,v],aA])/\List.map ku.m c=b.eO/\fG 0 d v c/\Below w w d:=(Et s w).mono λe d⟨g,h⟩=>by obtain⟨a,_⟩|⟨k,v,c,a,rfl,i,j⟩:=h;cases f▸a;cases f▸a;exact⟨v,c,rfl,i,j,g⟩
def agv{s b}(c:iE s=some b)(w):Cv 139 #[(mk s)] w λe a=>e=.returned (.tuple #[(vU s),aA])/\Below w w a:=(Mr s w).mono λe a⟨d,f⟩=>⟨by rw[d,(xq c).2],f⟩
def ai6{s b}(d:iE s=some b)(w):Cv 142 #[(mk s)] w λe c=>∃v,e=.returned (.tuple #[v,aA])/\c.ownsRow w 9 1 v b.eO (tu b.eO)/\Below w w c:=(SX s w).mono λe c⟨f,g⟩=>by obtain⟨a,_⟩|⟨i,v,a,rfl,h⟩:=g;cases d▸a;cases d▸a;exact⟨v,rfl,h,f⟩
def Eu{nb c r}(s:List UInt8)(w)(H:jd w nb c r)(O:ROk r)(hB:ai5 r):Cv 96 #[ptr nb,.string<|mk s] w λe w'=>Below w w w'/\match iE s with
 |none=>e=.returned (.tuple #[.pointer none,aG])
 |some b=>if xG c.bi r s b=0 then∃kb,e=.returned (.tuple #[ptr kb,aA])/\Ld w' w.heap.size kb (EI r s b)else e=.returned (.tuple #[.pointer none,.int .i64<|xG c.bi r s b]):=by
 have hlen:=H.len;cases dn:iE s with
 |none=>have hd:=Xa dn w;unfold ptr;go_enter fA func96,ntmps96;go_wp2;refine hd.mono ?_;rintro e w1⟨rfl,b1⟩;have bC:=b1.alloc b1.size<|.cells #[aB,aA,aA,.slice none 0 0] 93;go_wp2;exact cY (mq rfl _ _ _) rfl ⟨bC,rfl⟩
 |some b=>
   have fb0:=(kI dn).1;have⟨g1,g2,g3,g4,g5⟩:=(iC b).1 fb0;have⟨bn,hbn⟩:∃n:Nat,b.bits=(n:Int):=⟨b.bits.toNat,by omega⟩;have hz:=λW=>TY ((idB s).take 7) (td s) bn W (by rw[dJ,WG];rfl) (by omega);rw[<-KS dn]at hz;have hd:=Xb dn w;have hbi:=λW=>agv dn W;have ht:=λW=>ai6 dn W;have⟨F,hF⟩:∃F,F=xG c.bi r s b:=⟨_,rfl⟩;have⟨k9,KB⟩:∃k9,k9=EI r s b:=⟨_,rfl⟩;simp only;rw[<-hF,<-KB];unfold xG at hF;unfold EI at KB;rw[hbn]at hF KB hd;rw[oq]at hF KB;have f1:=Ii r<|vU s;have f2:=Ii r<|mk b.parent;generalize td s=la at hz hF;have hk1:=λW(h:jd W nb c r)=>Le (vU s) W h;have hk2:=λW(h:jd W nb c r)=>Le (mk b.parent) W h;generalize vU s=id at hz hbi hF KB hk1 f1;generalize iU r id=p1 at hF hk1 f1;replace hF:=aK hF;replace KB:=aK KB;unfold ptr at hk1 hk2|-;go_enter fA func96,ntmps96;go_wp2;refine hd.mono ?_;rintro e w1⟨v,ds,rfl,hds,hT,b1⟩;clear hd;have⟨ta,tc,hta⟩:=aS hT.own;subst hta;have RB:=aX w1 [.string<|mk b.parent,.int .i64 (bn:Int),.int .i64 b.fX,(ta,ds,tc)] 93;have bD:=(Below.refl w1.heap.size w1).alloc L9<|.cells #[.string<|mk b.parent,.int .i64 (bn:Int),.int .i64 b.fX,(ta,ds,tc)] 93;have bC:=b1.trans<|bD.mono b1.size;go_wp2;generalize w1.alloc _=w0 at RB bD bC|-;generalize w1.heap.size=gb at RB|-;replace hT:=hT.keep bD;clear bD b1;refine(hbi _).mono ?_;rintro e w2⟨rfl,b2⟩;replace RB:=RB.keep b2 RB.lt;replace hT:=hT.keep b2;replace bC:=bC.trans<|b2.mono bC.size;clear b2 hbi;go_wp2;refine(hk1 _<|H.keep bC).mono ?_;rintro e w3⟨rfl,b3⟩;replace RB:=RB.keep b3 RB.lt;replace hT:=hT.keep b3;replace bC:=bC.trans<|b3.mono bC.size;clear b3 hk1;by_cases q1:p1>-2;.have eF:=hF.out;rw[aN q1]at eF;subst eF;clear hF KB;go_wp2;exact cY (mq rfl _ _ _) rfl ⟨bC,rfl⟩
   have r1:=RB.r 1;replace hF:=hF.out;rw[aJ q1]at hF;replace hF:=aK hF;go_wp2;refine(hz _).mono ?_;rintro e w4⟨rfl,rfl⟩;have HC:=H.keep bC;have⟨nv,bs,N1,_⟩:=HC.ex;have n4:=N1.r 4;by_cases q2:(bn:Int)<c.bi;.have eF:=hF.out;rw[aN q2]at eF;subst eF;clear hF KB;go_wp2;go_quiet (fail);go_wp2;exact cY (mq rfl _ _ _) rfl ⟨eQ bC,rfl⟩
   by_cases q3:la.toNat%2^bn=0
   .have eF:=hF.out;rw[aJ q2,aJ λn=>n q3]at eF;rw[pM q3];have r0:=RB.r 0;replace hF:=aK eF;clear eF;generalize iU r (mk b.parent)=p2 at hF hk2 f2 KB;go_wp2;go_quiet (fail);go_wp2;have bq:Below w4 w4 (w4.drewN nq):=eQ B0;replace RB:=RB.keep bq RB.lt;replace hT:=hT.keep bq;replace bC:=bC.trans<|bq.mono bC.size;clear HC N1 n4 r0 r1 hz;generalize w4.drewN nq=w4 at RB hT bC|-;refine(hk2 _<|H.keep bC).mono ?_;rintro e w5⟨rfl,b5⟩;replace RB:=RB.keep b5 RB.lt;replace hT:=hT.keep b5;replace bC:=bC.trans<|b5.mono bC.size;clear b5 hk2 bq;have HC:=H.keep bC;by_cases q4:p2=-2;.have eF:=hF.out;rw[aN q4]at eF;subst eF;clear hF KB;go_wp2;exact cY (mq rfl _ _ _) rfl ⟨bC,rfl⟩
    have q5:=f2.resolve_left q4;have q6:¬(p2:Int)=-2:=q4;replace hF:=hF.out;rw[aJ q4]at hF;have⟨va,vc,n5⟩:=HC.sl;have hcs:p2<0\/∃(m:Nat)(k:KM),p2=(m:Int)/\r.kept[m]?=some k:=by by_cases n:p2<0;exact .inl n;have⟨m,hm⟩:∃m:Nat,p2=(m:Int):=⟨p2.toNat,by omega⟩;exact .inr ⟨m,_,hm,aY<|by omega⟩
    have htp:=λW(h:jd W nb c r)=>Qu p2 W h q5.1 q5.2;have⟨ti,htv⟩:=TZ r p2;rw[htv]at htp;have ub:=ahN hB p2;unfold ptr at htp;clear htv dn f1 f2;generalize De r p2=u at KB htp ub;have⟨u1,u2⟩:=u;simp only at KB htp ub;by_cases q7:r.kept.length>=48;all_goals obtain neg|⟨m,k,hm,hk⟩:=hcs
    all_goals first
     | (have hb:TN r p2=false:=by unfold TN;rw[if_pos neg]
        rw[hb,aJ<|by simp]at hF)
     | (have hb:TN r p2=k.bad:=by unfold TN;rw[if_neg (by omega),hm,Int.toNat_natCast,hk]
        rw[hb]at hF;have⟨g,cc,kb,tv,iv,q1,q2,q3⟩:=HC.at hk;clear n5;have z9:=q3.r 9;subst hm;have j2:(0:Int)<=(m:Int):=O9;have j3:(m:Int)<(r.kept.length:Int):=q5.2;by_cases hb2:k.bad=true;.rw[aN hb2]at hF;subst hF;rw[hb2]at z9;go_wp2;exact cY (mq rfl _ _ _) rfl ⟨bC,rfl⟩
        rw[aJ hb2]at hF;rw[aaw]at hb2;rw[hb2]at z9)
    all_goals replace hF:=aK hF
    all_goals first
     | (have eF:=hF.out
        rw[aN q7]at eF;subst eF;have j9:(48:Int)<=(r.kept.length:Int):=O9;clear hF KB;go_wp2;exact cY (mq rfl _ _ _) rfl ⟨bC,rfl⟩)
     | (have eF:=hF.out
        rw[aJ q7]at eF;subst eF;have j9:¬(48:Int)<=(r.kept.length:Int):=by omega
        clear hF;go_wp2)
    all_goals have r1:=RB.r 1;go_loopw [13,14] (λn i wr=>∃j:Nat,j<=bn/\i=↑(j:Int)/\n=↑((2^j:Nat):Int)/\wr=w5) (λ_ i _=>bn -(intOf i).toNat);exact⟨0,cH _,rfl,rfl,rfl⟩;case round=>
      obtain⟨j,hj,rfl,rfl,rfl⟩:=hrel;have pb:2^j<=256:=Ny (show 0<2 by decide)<|show j<=8 by omega
      have p2n:2^(j+1)=2*2^j:=by rw[Nat.pow_succ,Nat.mul_comm]
      by_cases lt:j<bn
      .have j1:(j:Int)<(bn:Int):=O9;generalize 2^j=pw at pb p2n|-;replace p2n:=aK p2n;have j8:IntKind.i64.wrap (2*(pw:Int))=((2*pw:Nat):Int):=by rw[jP];omega
       go_wp2;exact⟨⟨j+1,by omega,by simp,by rw[p2n.out];congr 1,trivial⟩,by simp[intOf];omega⟩
      have hj':j=bn:=by omega
      subst hj';have j1:¬(j:Int)<(j:Int):=by omega
      have k1:=htp _ HC;have p3:(2:Int)^j=((2^j:Nat):Int):=by simp
      rw[p3]at KB;generalize 2^j=pw at pb KB|-;clear p2n p3;go_wp2;refine k1.mono ?_;rintro e w6⟨rfl,b6⟩;clear k1 htp;replace RB:=RB.keep b6 RB.lt;replace hT:=hT.keep b6;replace bC:=bC.trans<|b6.mono bC.size;have RU:=aX w6 [.string ti,.int .i64 u1,.int .i64 u2] 55;have b7:=(Below.refl w6.heap.size w6).alloc L9<|.cells #[.string ti,.int .i64 u1,.int .i64 u2] 55;go_wp2;generalize w6.alloc _=w7 at RU b7|-;generalize w6.heap.size=gu at RU|-;replace RB:=RB.keep b7 RB.lt;replace hT:=hT.keep b7;replace bC:=bC.trans<|b7.mono bC.size;refine(ht _).mono ?_;rintro e w8⟨tv8,rfl,o8,b8⟩;have⟨xa,xc,hx8⟩:=aS o8;subst hx8;replace RB:=RB.keep b8 RB.lt;replace RU:=RU.keep b8 RU.lt;replace hT:=hT.keep b8;replace o8:=ki o8<|cH _;replace bC:=bC.trans<|b8.mono bC.size;have⟨_,v1,v2⟩:=RU.p3;have⟨s0,s1,s2,s3⟩:=RB.p4;clear ht b6 b7 b8 r1 hB;have w1':IntKind.i64.wrap (u1+1)=u1+1:=by rw[jP];omega
      have w2':IntKind.i64.wrap (u2+(pw:Int))=u2+(pw:Int):=by rw[jP];omega
      go_wp2;refine cY (mq rfl _ _ _) rfl ⟨bC.alloc bC.size _,w8.heap.size,rfl,?_⟩;have bE:∀o,Below w8 w8 (w8.alloc o):=λo=>B0.alloc L9 _;rw[KB.out];exact⟨_,_,ds,by unfold KC;simp only;rw[hbn];exact Row.new w8 [_,_,_,_,_,_,_,_,_,_] 206,bC.size,hds,hT.keep<|bE _,aP o8<|bE _⟩
   have eF:=hF.out;rw[aJ q2,aN q3]at eF;subst eF;rw[lX q3];clear hF KB;go_wp2;go_quiet (fail);go_wp2;exact cY (mq rfl _ _ _) rfl ⟨eQ bC,rfl⟩
def yo{a b}(h:a=[]\/b=[]):fH a b=0:=by obtain rfl|rfl:=h;rw[fH];intros;simp_all;cases a<;>(rw[fH];intros;simp_all)
def QG{s t v u}(a b w)(l:w.ownsRow s 3 1 v a (sF a))(m:w.ownsRow t 3 1 u b (sF b))(J:a.length<=48):Cv 99 #[v,u] w λe D=>e=.returned (fH a b:Nat)/\Below w w D:=by obtain⟨S,T,rfl⟩:=aS l;obtain⟨P,Q,rfl⟩:=aS m;have⟨F,c⟩:∃F,fH a b=F:=⟨_,rfl⟩;rw[c];have c:=aK c;go_enter fA func99,ntmps99;go_wp2;go_loopw [5] (λn E=>∃k:Nat,k<=a/\k<=b/\n=↑(k:Int)/\fH a b=k+fH (a.drop k) (b.drop k)/\Below w w E) (λn _=>a -(intOf n).toNat);exact⟨0,cH _,cH _,rfl,S8,B0⟩;case round=>
  obtain⟨k,L,M,rfl,d,g⟩:=hrel;have K:(0:Int)<=k:=O9;have R:∀n,fH (a.drop k) (b.drop k)=0->n=((k:Nat):Int)->(F:Int)=n:=λn j e=>by have:=c.out;omega
  by_cases q:k<a
  .have B:(k:Int)<a:=O9;by_cases r:k<b
   .have C:(k:Int)<b:=O9;have⟨x,o⟩:∃x,a[k]?=some x:=⟨_,aY q⟩;have⟨y,p⟩:∃y,b[k]?=some y:=⟨_,aY r⟩;have⟨H,U,z,N⟩:=kN (aP l g) (k:=k) (u:=↑(x:Int)) (by simp[sF,o]);have⟨I,V,A,O⟩:=kN (aP m g) (k:=k) (u:=↑(y:Int)) (by simp[sF,p]);cases z;cases A;have h:a.drop k=x::a.drop (k+1):=by rw[wH q,(bK.1 o).2]
    have i:b.drop k=y::b.drop (k+1):=by rw[wH r,(bK.1 p).2]
    by_cases e:x=y;.subst e;rw[h,i,fH,aN rfl]at d;have d:=aK d;clear h i R;go_wp2;go_quiet (fail);go_wp2;exact⟨⟨k+1,O9,O9,S8,by have:=d.out;omega,eQ g⟩,by simp[intOf];omega⟩
    have j:fH (a.drop k) (b.drop k)=0:=by rw[h,i,fH,aJ e]
    have G:¬(x:Int)=y:=O9;have f:=aK<|R _ j rfl;clear h i R j d c;go_wp2;go_quiet (fail);go_wp2;go_ret;exact⟨by rw[f.out];rfl,eQ g⟩
   have C:¬(k:Int)<b:=O9;have f:=aK<|R _ (yo (.inr<|Dx O9)) rfl;clear R d c;go_wp2;go_quiet (fail);go_wp2;go_ret;exact⟨by rw[f.out];rfl,eQ g⟩
  have B:¬(k:Int)<a:=O9;have f:=aK<|R _ (yo (.inl<|Dx O9)) rfl;clear R d c;go_wp2;go_quiet (fail);go_wp2;go_ret;exact⟨by rw[f.out];rfl,eQ g⟩
def Sm(T:Nat->TypeId->Prop)(w W:World):Prop:=∀(j:Nat)cs t,w.heap[j]?=some (.cells cs t (0,0))->T j t->W.heap[j]?=w.heap[j]?
def qq{w g t c}{T:Nat->TypeId->Prop}(r:Row w g t c)(o v)(h:∀a,a=t->¬T g a):Sm T w (w.setCell ⟨g,o,none⟩ v):=λj C a e q=>Below.heap_setCell w _ v j λx=>by subst x;unfold Row at r;cases r▸e;exact h _ rfl q
def QH{w W:World}{B e s n v d}{T:Nat->TypeId->Prop}(o:w.ownsRow B e s v n d)(g:w.grownBy W v.ownBlock)(h:∀j,¬T j e):Sm T w W:=λj c t q z=>g.block j (bO q) λx=>by have⟨_,C,Q⟩:=bS o x.symm;cases Q▸q;exact h _ z
def Sm.trans{T w W a}(h:Sm T w W)(g:Sm T W a):Sm T w a:=λj c t e q=>(g j c t ((h j c t e q).trans e) q).trans<|h j c t e q
theorem Sm.own{T w W}(h:Sm T w W){B e s n v d}(o:w.ownsRow B e s v n d)(q:∀j,T j e):W.ownsRow B e s v n d:=dA o λj c _ _ x=>h j c e x<|q j
def Sm.row{T w W g t c}(h:Sm T w W)(r:Row w g t c)(q:T g t):Row W g t c:=(h g _ t r q).trans r
def Tk3(k:Nat)(j:Nat)(t:TypeId):Prop:=t=90\/t=139\/t=86\/t=9\/(t=206/\j=k)
def Ld.same{w W K k}(h:Ld w 0 K k)(q:Sm (Tk3 K) w W):Ld W 0 K k:=have⟨t,i,D,a,b,c,H,e⟩:=h.ex;⟨t,i,D,q.row a (.inr<|.inr (.inr<|.inr ⟨rfl,rfl⟩)),b,c,⟨q.own H.own λ_=>.inl rfl,λd m=>⟨q.own (H.ins d m).1 λ_=>.inr<|.inl rfl,(H.ins d m).2⟩,λd m=>⟨q.own (H.outs d m).1 λ_=>.inr (.inr<|.inl rfl),(H.outs d m).2⟩⟩,q.own e λ_=>.inr<|.inr (.inr<|.inl rfl)⟩
def NC(c:fL)(v:Value)(l:Int):List Value:=[.int .i64 c.wk,.int .i64 c.sh,.int .i64 c.me,.int .i64 c.su,.int .i64 c.bi,v,.int .i64 l]
def Ld.row{w K k}(h:Ld w 0 K k):∃c,Row w K 206 c:=have⟨t,i,d,H,_⟩:=h.ex;⟨_,H⟩
def jd.push{w W n c}{r:RN}{v}{B:List Nat}{a k V}(R:Row w n 199 (NC c v r.last))(o:w.ownsRow 0 202 1 v r.kept (B.map ptr))(H:B=r.kept.length/\B.Nodup)(s:∀(i b:Nat)(k:KM),B[i]?=some b->r.kept[i]?=some k->Ld w 0 b k)(K:Ld w 0 a k)(f:a∉B)(g:w.grownBy W v.ownBlock)(O:W.ownsRow 0 202 1 V (r.kept+1) (B.map ptr++[ptr a]))(l:r.kept.length+1<=48):jd (W.setCell ⟨n,5,none⟩ V) n c ⟨r.kept++[k],r.last⟩/\Ld (W.setCell ⟨n,5,none⟩ V) 0 a k:=by have j:=(QH (T:=λ_ t=>t=199) o g λ_ e=>by cases e).row R rfl;have m:∀x,Sm (Tk3 x) w (W.setCell ⟨n,5,none⟩ V):=λx=>(QH o g λ_ e=>by simp[Tk3]at e).trans (qq j 5 V λ_ e q=>by subst e;simp[Tk3]at q);refine⟨⟨⟨V,B++[a],j.set 5 V,?_,⟨by simp[H.1],?_⟩,λi b u E d=>?_⟩,by simp;omega⟩,K.same<|m _⟩;have:=(qq (T:=λ_ t=>t=202) j 5 V λ_ e q=>by subst e;cases q).own O λ_=>rfl;simpa using this;rw[UA];exact⟨H.2,by simp,λx h y p e=>f<|by rw[pO.1 p]at e;rw[<-e];exact h⟩;obtain d|⟨rfl,rfl⟩:=iF d;have I:=(bK.1 d).1;rw[ko<|by omega]at E;exact(s i b u E d).same<|m _;rw[cZ (by omega),H.1,rK]at E;cases E;exact K.same<|m _
def jd.agw{w n c r}(h:jd w n c r)(x:Int):jd (w.setCell ⟨n,6,none⟩<|.int .i64 x) n c ⟨r.kept,x⟩:=have⟨v,B,R,o,H,d⟩:=h.ex;⟨⟨v,B,R.set 6 _,(qq (T:=λ_ t=>t=202) R 6 _ λ_ e q=>by subst e;cases q).own o λ_=>rfl,H,λi b k E a=>(d i b k E a).same (qq R 6 _ λ_ e q=>by subst e;simp[Tk3]at q)⟩,h.len⟩
def QU(P:Nat->Bool)(K:List KM):List KM:=K.mapIdx λi k=>{k with bad:=k.bad||P i}
def ly(P k):(QU P k)=k.length:=by simp[QU]
def xI{P K}{i:Nat}{k:KM}(h:K[i]?=some k):(QU P K)[i]?=some {k with bad:=k.bad||P i}:=by simp[QU,h]
def yq{P Q:Nat->Bool}{K:List KM}(h:∀i,i<K.length->P i=Q i):QU P K=QU Q K:=by apply kX;intro i;cases e:K[i]? with
 |none=>have:=Dp.1 e;rw[kD (by rw[ly];exact this),kD<|by rw[ly];exact this]
 |some k=>rw[xI e,xI e,h i (bK.1 e).1]
def jd.mark{w N c K}{l:Int}{P:Nat->Bool}{i:Nat}(h:jd w N c ⟨QU P K,l⟩)(Q:i<K):∃g C b,w.cell? ⟨N,5,none⟩=some (.slice (some ⟨g,0,none⟩) K C)/\w.cell? ⟨g,i,none⟩=some (.pointer<|some ⟨b,0,none⟩)/\(∃z,Row w b 206 z/\z.length=10/\z[9]?=some (.bool ((K[i]).bad||P i)))/\jd (w.setCell ⟨b,9,none⟩ true) N c ⟨QU (λj=>P j||decide (j=i)) K,l⟩:=by
 have A:=aY Q;generalize K[i]=k at A;have⟨v,B,R,o,n,D⟩:=h.ex;simp[ly]at o n;have⟨b,p⟩:∃b,B[i]?=some b:=⟨_,aY<|by have:=n.1;omega⟩;obtain⟨g,C,rfl,O⟩:=kN o (k:=i) (u:=ptr b) (by simp[p]);have⟨Y,U,G,H,I,L,a,M⟩:=(D i b _ p<|xI (P:=P) A).ex;refine⟨g,C,b,R.cell 5,O,⟨_,H,rfl,rfl⟩,⟨_,B,(qq (T:=λ_ t=>t=199) H 9 _ λ_ e q=>by subst e;cases q).row R rfl,?_,?_,λj x V f E=>?_⟩,?_⟩;simp[ly];exact(qq (T:=λ_ t=>t=202) H 9 _ λ_ e q=>by subst e;cases q).own o λ_=>rfl;simp[ly];exact n;have J:=(bK.1 E).1;simp[ly]at J;have r:=aY J;generalize K[j]=y at r;simp only at E;rw[xI r]at E;by_cases e:j=i;subst e;cases p▸f;cases A▸r;cases E;have s:Sm (λ_ t=>t=90\/t=139\/t=86\/t=9) w (w.setCell ⟨b,9,none⟩ true):=qq H 9 _ (λ_ e q=>by subst e;simp at q);refine⟨Y,U,G,?_,I,L,⟨s.own a.own λ_=>.inl rfl,λd m=>⟨s.own (a.ins d m).1 λ_=>.inr<|.inl rfl,(a.ins d m).2⟩,λd m=>⟨s.own (a.outs d m).1 λ_=>.inr (.inr<|.inl rfl),(a.outs d m).2⟩⟩,s.own M λ_=>.inr (.inr<|.inr rfl)⟩;have:=H.set 9 true;simpa[KC]using this;have X:x≠b:=λq=>by subst q;exact e ((aaA ((bK.1 f).1) n.2).1<|f.trans p.symm)
 rw[lX e,Np]at E;exact(D j x V f<|(xI r).trans E).same (qq H 9 _ λ_ e q=>by subst e;simp[Tk3]at q;exact X q.symm);have:=h.len;simp[ly]at this|-;exact this
def Lq(P K):∀f i,uE (QU P K) f i=uE K f i
 |0,_=>rfl
 |f+1,i=>by unfold uE;split;rfl;cases e:K[i.toNat]? with
   |none=>have:=Dp.1 e;rw[kD<|by rw[ly];exact this]
   |some k=>rw[xI e];simp only;rw[Lq P K f k.par]
def T3(P k i):cS (QU P k) i=cS k i:=by unfold cS;rw[ly,Lq]
def MX{P K}{i:Nat}{k}(h:(QU P K)[i]?=some k):∃x,K[i]?=some x/\k={x with bad:=x.bad||P i}:=by have a:=(bK.1 h).1;rw[ly]at a;have e:=aY a;rw[xI e]at h;exact⟨_,e,(iN h).symm⟩
structure RW(r:RN):Prop where
 ok:ROk r
 bd:ai5 r
def RW.mark{K l}(P)(h:RW ⟨K,l⟩):RW ⟨QU P K,l⟩:=by refine⟨⟨λi k e=>?_,λk m=>?_,h.ok.l1,by have:=h.ok.l2;simp[ly];exact this⟩,λi k e=>?_⟩;obtain⟨x,a,rfl⟩:=MX e;exact h.ok.par i x a;have⟨i,e⟩:=jQ.1 m;obtain⟨x,a,rfl⟩:=MX e;exact h.ok.kp x<|eY a;obtain⟨x,a,rfl⟩:=MX e;exact h.bd i x a
def RW.last{k l}(h:RW ⟨k,l⟩)(x:Int)(a:-1<=x)(b:x<k):RW ⟨k,x⟩:=⟨⟨h.ok.par,h.ok.kp,a,b⟩,h.bd⟩
def QI{a r s b}(h:xG a r s b=0):iU r (mk b.parent)≠-2/\r.kept.length<48:=by
 unfold xG at h;repeat' split at h
 all_goals omega
def Xd{r s b c}(h:RW r)(H:iE s=some b)(a:xG c r s b=0):RW ⟨r.kept++[EI r s b],r.last⟩:=by
 have⟨j,J⟩:=QI a;have f:=(Ii r<|mk b.parent).resolve_left j;have u:=ahN h.bd (iU r<|mk b.parent);have g:=(iC b).1 (kI H).1;have p:(2:Int)^b.bits.toNat<=256/\0<=(2:Int)^b.bits.toNat:=by
  have:2^b.bits.toNat<=256:=Ny (show 0<2 by decide)<|show b.bits.toNat<=8 by omega
  rw[show(2:Int)^b.bits.toNat=((2^b.bits.toNat:Nat):Int)from by simp];exact⟨Fh.2 this,U1 _⟩
 have l:=h.ok.l1;have L:=h.ok.l2;refine⟨⟨λi k e=>?_,λk m=>?_,l,by simp[cB,Nt];omega⟩,λi k e=>?_⟩;obtain e|⟨rfl,rfl⟩:=iF e;exact h.ok.par i k e;exact f;obtain m|m:=nA.1 m;exact h.ok.kp k m;rw[pO.1 m];refine⟨(kI H).1,?_,?_⟩;show 0<=(De r (iU r<|mk b.parent)).1+1;omega;show(De r (iU r<|mk b.parent)).1+1<1000000;omega;obtain e|⟨rfl,rfl⟩:=iF e;exact h.bd i k e;show(0<=(De r (iU r<|mk b.parent)).1+1/\(De r (iU r<|mk b.parent)).1+1<=_)/\0<=(De r (iU r<|mk b.parent)).2+(2:Int)^b.bits.toNat/\(De r (iU r<|mk b.parent)).2+(2:Int)^b.bits.toNat<=_;generalize(2:Int)^b.bits.toNat=P at p;omega
def aI.aek:(Vp.info? 202).map (λi=>(i.zero,i.size,i.bytes))=some (some<|.pointer none,1,8):=K8
def Lr:∀a b,fH a b<=a/\fH a b<=b
 |[],b=>by rw[yo<|.inl rfl];exact⟨cH _,cH _⟩
 |a,[]=>by rw[yo<|.inr rfl];exact⟨cH _,cH _⟩
 |x::a,y::b=>by have⟨c,d⟩:=Lr a b;rw[fH];split;simp[cQ];omega;exact⟨cH _,cH _⟩
def agx{r k}(h:r.last<r.kept):De ⟨r.kept++[k],r.last⟩ r.last=De r r.last:=by unfold De;split;rfl;simp only;rw[ko O9]
def agy{c r s}(h:∀b,iE s=some b->xG c.bi r s b≠0):∃a,a≠0/\om c r s=(0,0,a,r)/\match iE s with|none=>a=1|some b=>a=xG c.bi r s b:=by unfold om;rcases d:iE s with _|b;exact⟨1,D9,rfl,rfl⟩;have:=h b d;simp only;rw[aN this];exact⟨_,this,rfl,rfl⟩
def agz{f c r}(s w)(H:jd w f c r)(W:RW r)(h:∀b,iE s=some b->xG c.bi r s b≠0):Cv 50 #[ptr f,(mk s)] w λe g=>e=.returned (.tuple #[.agg #[(om c r s).1,(om c r s).2.1],(om c r s).2.2.1])/\jd g f c (om c r s).2.2.2:=by
 have⟨k,A,o,d⟩:=agy h;rw[o];have i:=Ba w<|.cells #[aA,aA] 37;have R:=aX w [aA,aA] 37;have n:Cv 96 #[ptr f,↑(mk s)] (w.alloc<|.cells #[aA,aA] 37) λe g=>e=.returned (.tuple #[.pointer none,k])/\Below (w.alloc<|.cells #[aA,aA] 37) (w.alloc<|.cells #[aA,aA] 37) g:=(Eu s _ (H.keep i) W.ok W.bd).mono λe g⟨m,a⟩=>by rcases j:iE s with _|b;rw[j]at a d;simp only at a d;rw[d];exact⟨a,m⟩;rw[j]at a d;simp only at a d;rw[aJ<|h b j]at a;rw[d];exact⟨a,m⟩
 unfold ptr at n|-;clear d o h;go_enter fA func50,ntmps50;go_wp2;refine n.m1 λz l=>?_;have R:=R.keep l R.lt;have⟨C,D⟩:=R.p2;have y:=R.frozen;have B:=R.lt;have t:=((i.trans<|l.mono i.size).setCell (p:=((w:Nat),0)) L9 ↑aA).setCell (p:=((w:Nat),1)) L9 ↑aA;have S:=(R.set 0 ↑aA).set 1 ↑aA;have⟨u,x⟩:=S.p2;have q:=H.keep t;go_wp2;exact cY (v:=.tuple #[.agg #[aA,aA],k]) (by simp[results,results50,go_sem,u,x]) rfl ⟨rfl,q⟩
def Ld.low{w b a k}(h:Ld w b a k):Ld w 0 a k:=have⟨f,i,c,d,g,e⟩:=h.ex;⟨f,i,c,d,cH _,e⟩
def jd.other{w d c r g C}(h:jd w d c r)(a:Row w g 37 C)(o v):jd (w.setCell ⟨g,o,none⟩ v) d c r:=have⟨u,f,R,p,m,n⟩:=h.ex;⟨⟨u,f,(qq (T:=λ_ t=>t=199) a o _ λ_ e a=>by subst e;cases a).row R rfl,(qq (T:=λ_ t=>t=202) a o _ λ_ e a=>by subst e;cases a).own p λ_=>rfl,m,λi b k j l=>(n i b k j l).same (qq a o _ λ_ e a=>by subst e;simp[Tk3]at a)⟩,h.len⟩
def Dk(l:List Nat)(p:Nat):Bool:=l.contains p
def QJ{P kept}(h:∀i,P i=false):QU P kept=kept:=by apply kX;intro i;rcases e:kept[i]? with _|k;rw[kD<|by rw[ly];exact Dp.1 e];rw[xI e,h i,Np]
def jd.zero{w a c r g x y}(h:jd w a c r)(b:Row w g 37 [x,y])(u v):jd ((w.setCell (g,0) u).setCell (g,1) v) a c r:=(h.other b 0 u).other (b.set 0 u) 1 v
def agA{N c r b}(s w)(ax:jd w N c r)(W:RW r)(bo:0<=c.su/\c.su<=1000000)(dn:iE s=some b)(hz:xG c.bi r s b=0):Cv 50 #[ptr N,.string<|mk s] w λe l=>e=.returned (.tuple #[.agg #[.int .i64 (om c r s).1,.int .i64 (om c r s).2.1],.int .i64 (om c r s).2.2.1])/\jd l N c (om c r s).2.2.2:=by
 have⟨i0,a5,ba,bb,bc⟩:=info_parts aI.aek;have⟨j1,j2⟩:=QI hz;have F:=Xd W dn hz;have up:=@agx r (EI r s b) W.ok.l2;have⟨aw,h⟩:∃aw,aw=om c r s:=⟨_,rfl⟩;rw[<-h];unfold om at h;rw[dn]at h;simp only at h;rw[aJ λn=>n hz]at h;have bA:=Ba w<|.cells #[aA,aA] 37;have R:=aX w [aA,aA] 37;have hj:Cv 96 #[ptr N,.string<|mk s] (w.alloc<|.cells #[aA,aA] 37) λe l=>∃d,e=.returned (.tuple #[ptr d,aA])/\Ld l (w.alloc<|.cells #[aA,aA] 37).heap.size d (EI r s b)/\Below (w.alloc<|.cells #[aA,aA] 37) (w.alloc<|.cells #[aA,aA] 37) l:=(Eu s _ (ax.keep bA) W.ok W.bd).mono λe l⟨V,v⟩=>by rw[dn]at v;simp only at v;rw[aN hz]at v;have⟨d,q1,q2⟩:=v;exact⟨d,q1,q2,V⟩
 generalize EI r s b=j at F up h hj;replace h:=aK h;unfold ptr at hj|-;clear hz dn;go_enter fA func50,ntmps50;go_wp2;refine hj.mono ?_;rintro e w1⟨d,rfl,K1,b1⟩;clear hj;replace R:=R.keep b1 R.lt;have H0:=ax.keep bA;have⟨ad,bs,N0,o0,hb,an⟩:=H0.ex;have a2:∀x∈bs,x<(w.alloc<|.cells #[aA,aA] 37).heap.size:=λx m=>by have⟨i,hi⟩:=jQ.1 m;have il:=(bK.1 hi).1;have⟨cs,q⟩:=(an i x _ hi (aY<|by have:=hb.1;omega)).row;exact q.lt
 have N1:=N0.keep b1 N0.lt;have o1:=aP o0 b1;have hk:=λi x k e f=>(an i x k e f).keep b1;have fr:d∉bs:=λm=>by have⟨_,_,_,_,q,_⟩:=K1.ex;have:=a2 d m;omega
 have bn:w.heap.size<w1.heap.size:=R.lt;clear an N0 o0 H0 a2;have⟨va,vc,hv⟩:=aS o1;subst hv;have n5:=N1.r 5;have P:=Ba w1<|.cells #[.pointer<|some ⟨d,0,none⟩] 202;have ab:=aX w1 [.pointer<|some ⟨d,0,none⟩] 202;have a1:(w1.alloc<|.cells #[.pointer<|some ⟨d,0,none⟩] 202).ownsRow 0 202 1 (.slice (some ⟨w1.heap.size,0,none⟩) 1 1) 1 [.pointer<|some ⟨d,0,none⟩]:=rC ab rfl (cH _) D9;have oP:=aP o1 P;have a0:∀aa∈[Value.pointer<|some ⟨d,0,none⟩],aa.oneCell'=true:=λaa hu=>by rw[pO.1 hu];rfl
 have N2:=N1.keep P N1.lt;have K2:=(K1.low).keep P;have a6:=λi x k e f=>(hk i x k e f).keep P;have R2:=R.keep P R.lt;have a8:r.kept.length+1<=100000000:=by omega
 have m5:=aM P n5;have bd:=N2.lt;have fz:=N2.frozen 5;go_wp2_with (at_builtin;refine zR rfl _ _ 197 rfl 0 0 202 i0 _ 1 8 (BC underlying197) a5 ba bb bc rfl (by decide) (va,r.kept,vc) (.slice (some ⟨w1.heap.size,0,none⟩) 1 1) r.kept.length 1 _ _ (by simp[Act.eval]) (by simp[Act.eval]) oP a1 a0 a8 (by decide) (cH _) ?_;intro v3 w3 o3 g3;have N3:Row w3 N 199 _:=jN N2 g3 (bR oP N2<|by decide);have R3:Row w3 w.heap.size 37 _:=jN R2 g3 (bR oP R2<|by decide);have c5:=N3.r 5;have z5:=N3.frozen 5;have l5:=N3.lt;have⟨ua,uc,hu⟩:=aS o3;subst hu);have⟨H4,K4⟩:=jd.push (c:=c) (r:=r) N2 oP hb a6 K2 fr g3 o3 (by omega);have R4:=R3.bF ⟨N,5,none⟩ (ua,r.kept.length+1,uc) (R3.ne N3<|by decide);clear N3 R3 c5 z5 l5 N2 oP hb a6 K2 fr g3 o3 a1 ab P a0 R2 a8 m5 bd fz a5 ba bb bc n5 hk o1 N1 K1 R b1 bn;generalize w3.setCell _ _=w4 at H4 K4 R4|-;have π:=xH w4 H4 F.ok.l1 F.ok.l2;have⟨T,a9⟩:=TZ ⟨r.kept++[j],r.last⟩ r.last;simp only at π;rw[a9,up]at π;clear a9 up;generalize De r r.last=aa at π h;have⟨J,U⟩:=aa;simp only at π h;unfold ptr at π;refine π.m1 λt b5=>?_;clear π;have H5:=H4.keep b5;have K5:=K4.keep b5;have R5:=R4.keep b5 R4.lt;have RU:=aX t [.string T,.int .i64 J,.int .i64 U] 55;have b6:=(Below.refl t.heap.size t).alloc L9<|.cells #[.string T,.int .i64 J,.int .i64 U] 55;have H6:=H5.keep b6;have K6:=K5.keep b6;have R6:=R5.keep b6 R5.lt;have⟨tv,iv,ds,q3,_⟩:=K6.ex;have k2:=q3.r 2;have x2:=RU.r 2;clear H5 K5 R5 H4 K4 R4;by_cases le:j.wo<=U;.have E:=h.out;rw[aN le]at E;subst E;clear h;go_wp2;go_quiet (fail);have bq:Below (t.alloc<|.cells #[.string T,.int .i64 J,.int .i64 U] 55) (t.alloc<|.cells #[.string T,.int .i64 J,.int .i64 U] 55) ((t.alloc<|.cells #[.string T,.int .i64 J,.int .i64 U] 55).drewN nq):=eQ B0;have H:=H6.keep bq;have a:=R6.keep bq R6.lt;clear H6 R6 RU K6 q3 k2 x2 b6 b5;generalize(t.alloc _).drewN nq=C at H a|-;have⟨r0,r1⟩:=a.p2;have f0:=a.frozen;have a7:=a.lt;have bC:=((Below.refl w.heap.size C).setCell (p:=⟨w.heap.size,0,none⟩) L9 ↑aA).setCell (p:=⟨w.heap.size,1,none⟩) L9 ↑aA;have S:=(a.set 0 ↑aA).set 1 ↑aA;have⟨s0,s1⟩:=S.p2;have z:=H.zero a;go_wp2;exact cY (v:=.tuple #[.agg #[aA,aA],aA]) (by simp[results,results50,go_sem,s0,s1]) rfl ⟨rfl,z _ _⟩
 have E:=h.out;rw[aJ le]at E;replace h:=aK E;clear E;have ao:(r.kept++[j]).length=r.kept.length+1:=by simp
 go_wp2;go_quiet (fail);go_wp2;have bq:Below (t.alloc<|.cells #[.string T,.int .i64 J,.int .i64 U] 55) (t.alloc<|.cells #[.string T,.int .i64 J,.int .i64 U] 55) ((t.alloc<|.cells #[.string T,.int .i64 J,.int .i64 U] 55).drewN nq):=eQ B0;have H:=H6.keep bq;have a:=R6.keep bq R6.lt;clear H6 R6 RU K6 q3 k2 x2 b6 b5;generalize(t.alloc _).drewN nq=C at H a|-;have X:=Dj (r.kept.length:Int) C H F.ok (by omega) (by rw[ao];omega) bo;have bf:=F.ok.l1;have av:=F.ok.l2;simp only at X bf av;have il:((r.kept.length:Nat):Int)<((r.kept++[j]).length:Int):=by rw[ao];omega
 have⟨f,ac⟩:∃f,iT c.su ((cS (r.kept++[j]) (r.kept.length:Int)).map (kB<|r.kept++[j])) [] 0=f:=⟨_,rfl⟩;rw[ac]at h;have⟨fe,fk,fl⟩:=f;have kl:(r.kept++[j]).length<=48:=H.len;have bt:r.kept.length<48:=j2;generalize r.kept.length=n at h X ac il ao bt|-;have G:=λi W ab(bl:jd W N c ⟨QU ab<|r.kept++[j],r.last⟩)(bi:-1<=i)(b:i<((r.kept++[j]).length:Int))=>Dg i W bl (F.mark ab).ok.par bi (by simp only[ly];exact b);have Y:=λi(b:i<((r.kept++[j]).length:Int))=>Dh (i:=i) F.ok.par kl b;simp only[T3]at G;simp only at Y;generalize r.kept++[j]=K at*;simp only at h;unfold ptr at X G;by_cases f0:fe=0
 .have E:=h.out;rw[aN f0]at E;clear h;have a3:Cv 97 #[.pointer<|some ⟨N,0,none⟩,.int .i64 (n:Int)] C λe l=>∃v',e=.returned (.tuple #[v',.int .i64<|-1,aA])/\Below C C l:=X.mono λe l⟨V,v⟩=>by have h3:=v _ ac;rw[aN<|show(fe,fk,fl).1=0 from f0]at h3;have⟨v',q,_⟩:=h3;exact⟨v',q,V⟩
  clear X ac f0;have hA:=Y r.last av;have hI:=Y (n:Int) il;have ap:=G r.last;have aq:=G (n:Int);generalize cS K r.last=A at hA ap E;generalize cS K (n:Int)=I at hI aq E;have⟨bj,bk⟩:=Lr A I;have am:=λW ad aa bg B'(V:World.ownsRow W bg 3 1 ad A.length (sF A))(v:World.ownsRow W B' 3 1 aa I.length (sF I))=>QG A I W V v hA;generalize fH A I=S at bj bk am E;replace E:=aK E;clear G Y;refine a3.mono ?_;rintro e w8⟨v8,rfl,M⟩;have z:=H.keep M;have R8:=a.keep M a.lt;clear H a a3 M;have⟨nv,bs,N8,_⟩:=z.ex;have c6:=N8.r 6;have M8:=z;rw[<-QJ (P:=λ_=>false) (kept:=K) (λ_=>rfl)]at M8;go_wp2;refine(ap _ _ M8 bf av).mono ?_;rintro e w9⟨v9,rfl,o,O⟩;have H9:=z.keep O;have R9:=R8.keep O R8.lt;have M9:=M8.keep O;clear z R8 M8 N8 c6;obtain⟨xa,xc,rfl⟩:=aS o;go_wp2;refine(aq _ _ M9 (by omega) il).mono ?_;rintro e b2⟨bx,rfl,au,al⟩;have ay:=H9.keep al;have aj:=R9.keep al R9.lt;replace o:=aP o al;clear H9 R9 M9;obtain⟨ya,yc,rfl⟩:=aS au;go_wp2;refine(am _ _ _ _ _ o au).m1 λb3 az=>?_;have ai:=ay.keep az;have ak:=aj.keep az aj.lt;clear ay aj am ap aq o au;have⟨nv,bs,ae,_⟩:=ai.ex;have c6:=ae.r 6;have z6:=ae.frozen 6;have bd:=ae.lt;have bh:=ai.agw (n:Int);have af:=ak.bF ⟨N,6,none⟩ (.int .i64 (n:Int)) (ak.ne ae<|by decide);have s1:IntKind.i64.wrap ((A.length:Int) -(S:Int))=((A.length -S:Nat):Int):=by rw[jP];omega
  have s2:IntKind.i64.wrap ((I.length:Int) -(S:Int))=((I.length -S:Nat):Int):=by rw[jP];omega
  clear ae ai ak;have⟨r0,r1⟩:=af.p2;have z0:=af.frozen;have a7:=af.lt;have ag:=bh.zero af (.int .i64 ((A.length -S:Nat):Int))<|.int .i64 ((I.length -S:Nat):Int);have ah:=(af.set 0<|.int .i64 ((A.length -S:Nat):Int)).set 1<|.int .i64 ((I.length -S:Nat):Int);have⟨t0,t1⟩:=ah.p2;go_wp2;exact cY (v:=.tuple #[.agg #[.int .i64 ((A.length -S:Nat):Int),.int .i64 ((I.length -S:Nat):Int)],aA]) (by simp[results,results50,go_sem,t0,t1]) rfl ⟨by rw[E.out],by rw[E.out];exact ag⟩
 have E:=h.out;rw[aJ f0]at E;clear h;have⟨p,hp⟩:∃p,p=(cS K (n:Int)).getD fk 0:=⟨_,rfl⟩;have a4:Cv 97 #[.pointer<|some ⟨N,0,none⟩,.int .i64 (n:Int)] C λe l=>e=.returned (.tuple #[.slice none 0 0,.int .i64 (p:Int),.int .i64 fe])/\Below C C l:=X.mono λe l⟨V,v⟩=>by have h3:=v _ ac;rw[aJ<|show¬(fe,fk,fl).1=0 from f0]at h3;exact⟨by rw[h3,hp],V⟩
 rw[<-hp]at E;clear X ac hp;replace E:=aK E;refine a4.m1 λw8 M=>?_;have z:=H.keep M;have R8:=a.keep M a.lt;clear H a a4 M;go_wp2;go_loopw [15] (λi wr=>∃k,k<=K.length/\i=↑(k:Int)/\jd wr N c ⟨QU (λx=>decide (x<k)&&Dk (cS K (x:Int)) p) K,r.last⟩/\Row wr w.heap.size 37 [aA,aA]) (λi _=>K.length -(intOf i).toNat);exact⟨0,cH _,rfl,by rw[QJ λx=>by simp[Dk]];exact z,R8⟩;case round=>
  clear z R8;obtain⟨k,hk,rfl,D,u⟩:=hrel;have⟨bz,b0,q5⟩:=D.sl;simp only[ly]at q5;by_cases lt:k<K.length
  .have hl:=G (k:Int) _ _ D (by omega) (by omega);have bm:=Y (k:Int) (by omega);have k0:(0:Int)<=k:=O9;have k1:(k:Int)<K.length:=O9;have⟨L,hL⟩:∃L,L=cS K (k:Int):=⟨_,rfl⟩;rw[<-hL]at hl bm;replace hL:=aK hL;go_wp2;refine hl.mono ?_;rintro e w9⟨v9,rfl,o,O⟩;replace D:=D.keep O;replace u:=u.keep O u.lt;have⟨xa,xc,bp⟩:=aS o;subst bp;clear hl O q5;replace o:=ki o<|cH _;go_wp2;go_loopw [17] (λar wq=>∃m,m<=L.length/\ar=↑(m:Int)/\jd wq N c ⟨QU (λx=>(decide (x<k)&&Dk (cS K (x:Int)) p)||(decide (x=k)&&Dk (L.take m) p)) K,r.last⟩/\Row wq w.heap.size 37 [.int .i64 0,.int .i64 0]/\wq.ownsRow 0 3 1 (xa,L,xc) L.length (sF L)) (λar _=>L.length -(intOf ar).toNat);exact⟨0,cH _,rfl,by rw[yq (Q:=λx=>decide (x<k)&&Dk (cS K (x:Int)) p) λi _=>by simp[Dk]];exact D,u,o⟩;case round=>
    clear D u o;obtain⟨m,hm,rfl,B,RM,oM⟩:=hrel;by_cases br:m<L.length
    .have⟨y,hy⟩:∃y,L[m]?=some y:=⟨_,aY br⟩;have⟨g2,c2,e2,q2⟩:=kN oM (k:=m) (u:=.int .i64 (y:Int)) (by simp[sF,hy]);cases e2;have m0:(0:Int)<=m:=O9;have m1:(m:Int)<L.length:=O9;have tk:Dk (L.take<|m+1) p=(Dk (L.take m) p||decide (p=y)):=by unfold Dk;rw[List.take_add_one,hy];simp[Bool.decide_or]
     by_cases e:y=p
     .subst e;rw[pM rfl,Bool.or_true]at tk;have⟨bw,cc,b,q5,q6,⟨cs,q7,q8,q9⟩,HN⟩:=B.mark lt;have c9:=(q7.cell 9).trans q9;have z9:=q7.frozen 9;have l9:=q7.lt;have RN:=RM.bF ⟨b,9,none⟩ ↑aD (RM.ne q7<|by decide);have oN:=(qq (T:=λ_ bu=>bu=3) q7 9 ↑aD λ_ e q=>by subst e;cases q).own oM λ_=>rfl;rw[yq (Q:=λx=>(decide (x<k)&&Dk (cS K (x:Int)) y)||(decide (x=k)&&Dk (L.take<|m+1) y)) λi _=>by rw[tk];by_cases e:i=k<;>simp[e]]at HN;replace tk:=aK tk;clear B RM oM q7;go_wp2;exact⟨⟨m+1,by omega,by simp,HN,RN,oN⟩,by simp[intOf];omega⟩
     have e3:¬(y:Int)=p:=by omega
     rw[lX λq=>e q.symm,Np]at tk;rw[<-tk]at B;clear tk;go_wp2;go_roundw;exact⟨m+1,by omega,by simp,B,RM,oM⟩;simp[intOf];omega
    have m1:¬(m:Int)<L.length:=by omega
    have m2:L.take m=L:=Dv (by omega);rw[m2,hL.out,yq (Q:=λx=>decide (x<k+1)&&Dk (cS K (x:Int)) p) λi _=>by
     by_cases e:i=k;subst e;simp;have:decide (i<k+1)=decide (i<k):=by simp;omega
     rw[this];simp[e]]at B
    clear m2 G Y;go_wp2;go_roundw;first|exact⟨k+1,by omega,by simp,B,RM⟩|exact⟨k+1,by omega,by simp,B⟩|exact⟨k+1,by omega,B,RM⟩|exact⟨k+1,by omega,B⟩
    simp[intOf];omega
  have k1:¬(k:Int)<K.length:=by omega
  rw[yq (Q:=λx=>Dk (cS K (x:Int)) p) λi hi=>by
   have:decide (i<k)=true:=by simp;omega
   rw[this,Bool.true_and]]at D
  have⟨r0,r1⟩:=u.p2;have z0:=u.frozen;have a7:=u.lt;have ag:=D.zero u ↑aA ↑aA;have ah:=(u.set 0 ↑aA).set 1 ↑aA;have⟨t0,t1⟩:=ah.p2;clear G Y;by_cases e:p=n;.have g:=E.out;rw[aN e]at g;subst e;clear E;replace g:=aK g;go_wp2;exact cY (v:=.tuple #[.agg #[aA,aA],.int .i64 fe]) (by simp[results,results50,go_sem,t0,t1]) rfl ⟨by rw[g.out],by rw[g.out];exact ag⟩
  have g:=E.out;rw[aJ e]at g;have e3:¬(p:Int)=n:=by omega
  clear E;replace g:=aK g;go_wp2;exact cY (v:=.tuple #[.agg #[aA,aA],.int .i64 13]) (by simp[results,results50,go_sem,t0,t1]) rfl ⟨by rw[g.out],by rw[g.out];exact ag⟩
def ael{a c r}(s w)(H:jd w a c r)(W:RW r)(i:0<=c.su/\c.su<=1000000):Cv 50 #[ptr a,(mk s)] w λe j=>e=.returned (.tuple #[.agg #[(om c r s).1,(om c r s).2.1],(om c r s).2.2.1])/\jd j a c (om c r s).2.2.2:=by by_cases h:∃b,iE s=some b/\xG c.bi r s b=0;have⟨b,f,g⟩:=h;exact agA s w H W i f g;exact agz s w H W λb d e=>h ⟨b,d,e⟩
def Ij{a}(h:pF a):a.ch -1+1=a.ch.length:=by have⟨c,b,_⟩:=h.ch0;have:=(bK.1 b).1;omega
def Dl{r a}(R:Ref r a)(h:pF a):cS r.kept r.last=((a.ch.drop 1).map ve.ix).map (·-1):=by have⟨y,b,d⟩:=R.last;have⟨x,c,_⟩:=h.ch _ y b;rw[show r.last=(y.ix:Int) -1 from by omega,vD R h<|(bK.1 c).1,vC h _ y b,Ij h,gQ]
def fold_eq{c r a}(R:Ref r a)(h:pF a)(H:xn c a):∃m C,iT c.su ((cS r.kept r.last).map<|kB r.kept) [] 0=(0,m,C)/\fJ a.an.K C:=by have⟨l,L,b,_⟩:=zQ h H R.c0 (a.ch -1) (by have:=Ij h;omega);have g:=H8 h a.ch;unfold chB at L;rw[Ij h]at L b;rw[gQ]at L b g;exact⟨_,l,by rw[Dl R h,TQ R _ g];exact L,b⟩
def Xe{r a}(R:Ref r a){i:Nat}{x}(e:a.bl[i]?=some x)(p:0<i):∃k,r.kept[i -1]?=some k/\k.id=x.id/\k.aT=x.aT/\k.wo=x.wo:=by have l:=(bK.1 e).1;have:=R.len;have⟨k,g⟩:∃k,r.kept[i -1]?=some k:=⟨_,aY O9⟩;have⟨y,b,c,d,f,_⟩:=R.at_ _ k g;rw[show i -1+1=i from by omega,e]at b;cases b;exact⟨k,g,c.symm,d.symm,f.symm⟩
def T4{r a}(R:Ref r a)(h:pF a):nP r r.last=a.an.nP:=by have⟨y,s,t⟩:=R.last;have⟨u,g,b,i,_⟩:=h.xf;cases s▸g;unfold nP AN.nP AG.an;simp only;obtain e|e:=pJ y.ix;have⟨x,d,q⟩:=R.z0;have⟨f,c,j,l,_⟩:=h.first;rw[e,d]at b;cases d▸c;cases b;rw[aN O9,<-i,j,l,q];rfl;have⟨k,m,n,o,p⟩:=Xe R b e;rw[aJ O9,show r.last.toNat=y.ix -1 from by omega,m];simp only;rw[n,o,p,i]
def ZL{r a}(R:Ref r a)(h:pF a){k}(e:k<0\/(a.ch:Int)<=k):atR r k=(⟨#[]⟩,18):=by unfold atR;have:=Ij h;rw[Dl R h,aN<|by simp;omega]
def ZM{r a}(R:Ref r a)(h:pF a){k:Nat}{y x}(b:a.ch[k]?=some y)(d:a.bl[y.ix]?=some x):atR r (k:Int)=(x.id,0):=by have l:=(bK.1 b).1;have L:=Ij h;unfold atR;rw[Dl R h,aJ<|by simp;omega];cases k with
 |zero=>have⟨A,j,v⟩:=h.ch0;cases b▸j;have⟨f,n,o⟩:=R.z0;rw[v,n]at d;cases d;rw[aN (by rfl),o]
 |succ k=>
   have q:0<y.ix:=by obtain c|c:=pJ y.ix;have⟨g,p,w,_⟩:=h.first;have⟨u,i,z,_⟩:=h.ch _ y b;rw[c,p]at i;cases i;omega;exact c
   have⟨m,s,t,_⟩:=Xe R d q;rw[aJ O9,show((k+1:Nat):Int).toNat -1=k from by omega];have e:(List.map (λx=>x -1) (List.map ve.ix<|List.drop 1 a.ch))[k]?=some (y.ix -1):=by simp[UC 1 k,b]
   rw[e];simp[s,t]
end Go.Proofs.aH
