/-
  PROVED HERE: append onto a list of handlers that the call its
-/
import Derived.Deep.AppendLies
import Derived.Test.YtfmbebofllgmoaaGreatDoorSallab
set_option maxHeartbeats 1000000
namespace Go.Proofs.YtfmbebofllgmoaaGreatDoor
open Go.RowKit
def cat {α:Type} (n:Nat) (a b:Nat->α):Nat->α:=fun i=>if i<n then a i else b (i-n)
def iM (w0 w:World) (v:Value) (n:Nat) (l:Nat->Nat) (f:Nat->Nat->O3):Prop:=
 ∃xs,w.ownsRow w0.heap.size 31 1 v n xs/\∀i,i<n->∃vi,xs[i]?=some vi/\vQ w0 vi (l i) (f i)
theorem yI3 (w0 w:World) (l:Nat->Nat) (f:Nat->Nat->O3):iM w0 w (.slice none 0 0) 0 l f:=
 ⟨[],zX _ _ _ _,fun _ hi=>absurd hi (Nat.not_lt_zero _)⟩
theorem aA {w0 w:World} {v:Value} {n:Nat} {l:Nat->Nat} {f:Nat->Nat->O3} (h:iM w0 w v n l f) (hb:Below w0.heap.size w0 w) (hn:0<n) :
  ∃g cap,v=.slice (some ⟨g,0,none⟩) n cap/\∀i,i<n->∃vi,w.cell? ⟨g,i,none⟩=some vi/\vQ w vi (l i) (f i):=by
 obtain⟨xs,ho,hi⟩:=h
 obtain⟨g,cap,rfl,_,_⟩:=ho.form hn
 refine⟨g,cap,rfl,fun i hin=>?_⟩
 obtain⟨vi,h1,h2⟩:=hi i hin
 have hc:=ho.cells (g:=g) rfl i vi h1
 have hadd:(⟨g,0,none⟩ : Addr).add i=⟨g,i,none⟩:=by unfold Addr.add;split<;>simp_all
 rw [hadd] at hc
 exact⟨vi,hc,yN hb h2⟩
theorem zD9 (n:Nat) (P:Nat->Value->Prop) (h:∀i,i<n->∃v,P i v):∃xs:List Value,xs.length=n/\∀i,i<n->∃v,xs[i]?=some v/\P i v:=by
 induction n with
 | zero=>exact⟨[],rfl,fun i hi=>absurd hi (Nat.not_lt_zero _)⟩
 | succ n ih=>
  obtain⟨xs,hl,hx⟩:=ih (fun i hi=>h i (by omega))
  obtain⟨v,hv⟩:=h n (by omega)
  refine⟨xs++[v],by simp [hl],fun i hi=>?_⟩
  by_cases e:i=n
  ·subst e
   exact⟨v,by rw [List.getElem?_append_right (by omega)];simp [hl],hv⟩
  ·obtain⟨u,h1,h2⟩:=hx i (by omega)
   exact⟨u,by rw [List.getElem?_append_left (by omega)];exact h1,h2⟩
theorem zA6:∃i,Tryz.prog.info? 31=some i/\i.zero=some (.slice none 0 0)/\i.size=1/\i.bytes=24:=by
 have h:=yG6
 cases hi:Tryz.prog.info? 31 with
 | none=>rw [hi] at h;cases h
 | some i=>
  rw [hi] at h
  simp only [Option.map_some,Option.some.injEq,Prod.mk.injEq] at h
  exact⟨i,rfl,h.1,h.2.1,h.2.2⟩
theorem fF (w:World) (ty:TypeId) (base:Nat) (v:Value) (n c:Nat) (xs:List Value) (hown:w.ownsRow base 31 1 v n xs) :
  (Builtin.append_ #[25,25] ty #[v,.slice none 0 c]).run Tryz.prog w=.ok v w:=by
 obtain⟨i,hi,_,_,_⟩:=zA6
 rcases hown.2 with ⟨rfl,rfl⟩ | ⟨g,cap,cur,rfl,_,_,hnc,_⟩
 ·simp [Builtin.append_,run_underlying Tryz.underlying25,sizeOf,typeInfo,hi,Builtin.lenOf,Builtin.firstCells]
 ·simp [Builtin.append_,run_underlying Tryz.underlying25,sizeOf,typeInfo,hi,Builtin.lenOf,Builtin.firstCells,hnc,storeCells]
theorem zH0 {w0 w:World} {v X:Value} {n m:Nat} {l l':Nat->Nat} {f f':Nat->Nat->O3} (hb:Below w0.heap.size w0 w) (h:iM w0 w v n l f) (hx:yU w0 X m l' f') (hn:n+m<=1000) (ty:TypeId) :
  ∃v' w',(Builtin.append_ #[25,25] ty #[v,X]).run Tryz.prog w=.ok v' w'/\iM w0 w' v' (n+m) (cat n l l') (cat n f f')/\Below w0.heap.size w0 w':=by
 obtain⟨xs,ho,hi⟩:=h
 obtain⟨i,hinf,hz,hs1,hby⟩:=zA6
 obtain⟨a,c,rfl,_,hX⟩:=hx
 have key:∀news:List Value,news.length=m->(∀i,i<m->∃vi,news[i]?=some vi/\vQ w0 vi (l' i) (f' i))->∀w' v',w'.ownsRow w0.heap.size 31 1 v' (n+m) (xs++news)->iM w0 w' v' (n+m) (cat n l l') (cat n f f'):=by
  intro news hl hnew w' v' hown
  refine⟨xs++news,hown,fun j hj=>?_⟩
  have hxl:xs.length=n:=by simpa using ho.1
  by_cases e:j<n
  ·obtain⟨vi,h1,h2⟩:=hi j e
   refine⟨vi,by rw [List.getElem?_append_left (by omega)];exact h1,?_⟩
   simpa [cat,e] using h2
  ·obtain⟨vi,h1,h2⟩:=hnew (j-n) (by omega)
   refine⟨vi,by rw [List.getElem?_append_right (by omega),hxl];exact h1,?_⟩
   simpa [cat,e] using h2
 cases a with
 | none=>
  have hm:m=0:=by
   rcases hX with hX | ⟨b,off,ha,_⟩
   ·exact hX
   ·cases ha
  subst hm
  refine⟨v,w,fF w ty _ v n c xs ho,?_,hb⟩
  exact key [] rfl (fun i hi=>absurd hi (Nat.not_lt_zero _)) w v (by simpa using ho)
 | some ad=>
  have hnews:∃news:List Value,news.length=m/\(∀i,i<m->∃vi,news[i]?=some vi/\(w0.cell? (ad.add i)=some vi/\vQ w0 vi (l' i) (f' i))):=by
   refine zD9 m _ fun i hi=>?_
   rcases hX with hX | ⟨b,off,ha,hX⟩
   ·omega
   ·obtain⟨vi,h1,h2⟩:=hX i hi
    cases ha
    have hadd:(⟨b,off,none⟩ : Addr).add i=⟨b,off+i,none⟩:=by unfold Addr.add;split<;>simp_all
    exact⟨vi,by rw [hadd];exact h1,h2⟩
  obtain⟨news,hl,hnew⟩:=hnews
  have get:∀j u,news[j]?=some u->w0.cell? (ad.add j)=some u/\vQ w0 u (l' j) (f' j):=by
   intro j u hu
   have hj:j<m:=by
    have:=(List.getElem?_eq_some_iff.1 hu).1
    omega
   obtain⟨vi,h1,h2⟩:=hnew j hj
   rw [hu] at h1
   cases h1
   exact h2
  obtain⟨v',w',hr,h2,h3,_⟩:=run_append_own (P:=Tryz.prog) w w0.heap.size 25 ty 31 i _ 1 24 Tryz.underlying25 hinf hz hs1 hby rfl (by decide) v n xs ho ad m c news (by omega)
   (fun j u hu=>by
    obtain⟨hc,_⟩:=get j u hu
    exact(hb.cell (zU w0 _ hc)).trans hc)
   (fun u hu=>by
    obtain⟨j,hj⟩:=List.mem_iff_getElem?.1 hu
    obtain⟨_,_,hv,_⟩:=(get j u hj).2
    rw [hv];rfl)
   (by simp only [maxLen];omega) (by omega) hb.size
  refine⟨v',w',hr,key news hl (fun i hi=>by obtain⟨vi,h1,h2⟩:=hnew i hi;exact⟨vi,h1,h2.2⟩) w' v' h2,?_⟩
  exact hb.grown h3 hb.size (fun k hk=>(ho.lt k hk).1)
theorem qE {ops:Array Oper} {rest:List Oper} {o:Oper} {a:Act} {Q:Exit->Act->World->Prop} {w0 w:World} (hgd:o.guard=none) (s x:Operand)
  (ho:o.op=.call {callee:=.builtin .append,args:=#[s,x],argTypes:=#[25,25]}) {v X:Value} {n m:Nat} {l l':Nat->Nat} {f f':Nat->Nat->O3}
  (hs:a.eval s=v) (hx:a.eval x=X) (hb:Below w0.heap.size w0 w) (hown:iM w0 w v n l f) (hX:yU w0 X m l' f') (hn:n+m<=1000)
  (h:∀v' w',iM w0 w' v' (n+m) (cat n l l') (cat n f f')->Below w0.heap.size w0 w'->wpList Tryz.prog ops Q rest (a.put o.dst v') w'):wpList Tryz.prog ops Q (o::rest) a w:=by
 refine wpList_plain hgd fun K hK=>?_
 obtain⟨v',w',hr,h2,h3⟩:=zH0 hb hown hX hn o.type
 unfold Oper.wp execOp
 simp only [ho,resolve,invoke,builtin,Sem.run_bind,Sem.run_pure,Result.andThen_ok,List.map_toArray,List.map_cons,List.map_nil,hs,hx,hr]
 exact hK _ _ (h v' w' h2 h3)
theorem fD (w:World) (n:Nat) (h0:0<n) (hn:n<=1000) (ty:TypeId):(Builtin.append_ #[25,3] ty #[.slice none 0 0,.int .i64 n]).run Tryz.prog w =
  .ok (.slice (some ⟨w.heap.size,0,none⟩) n (grownCap w n 0 31)) (w.drew.alloc (.cells (Builtin.zeroCells #[.slice none 0 0] n++Builtin.zeroCells #[.slice none 0 0] (grownCap w n 0 31-n)) 31)):=by
 obtain⟨i,hi,hz,hs1,hby⟩:=zA6
 have wl:IntKind.i64.wrap (n:Int)=n:=by rw [IntKind.wrap_i64];omega
 have n1:¬((n:Int)<0):=by omega
 have n2:¬(281474976710656<(n:Int)*24):=by omega
 have n3:n≠0:=by omega
 have n4:¬(9223372036854775807<(n:Int)):=by omega
 have n5:¬(281474976710656<Builtin.nextslicecap n 0*24):=by
  have:Builtin.nextslicecap n 0=n:=by unfold Builtin.nextslicecap;rw [if_pos (by omega)]
  rw [this];omega
 simp [Builtin.append_,run_underlying Tryz.underlying25,run_underlying Tryz.underlying3,sizeOf,typeInfo,zeroValue,hi,hz,hs1,hby,asInt,asIntOf,wl,n1,n2,n3,n4,n5,Question.forced,newRow,grownCap,Builtin.firstCells]
 rfl
theorem yR0 (n:Nat):(Builtin.zeroCells #[.slice none 0 0] n).size=n:=by simp [size_zeroCells]
theorem yC2 {ops:Array Oper} {rest:List Oper} {o:Oper} {a:Act} {Q:Exit->Act->World->Prop} {w:World} (hgd:o.guard=none) (s x:Operand)
  (ho:o.op=.call {callee:=.builtin .append,args:=#[s,x],argTypes:=#[25,3]}) {n:Nat} (hs:a.eval s=.slice none 0 0) (hx:a.eval x=.int .i64 n) (h0:0<n) (hn:n<=1000)
  (h:∀cap w',n<=cap->Below w.heap.size w w'->w'.ownsRow w.heap.size 31 1 (.slice (some ⟨w.heap.size,0,none⟩) 0 cap) 0 []->wpList Tryz.prog ops Q rest (a.put o.dst (.slice (some ⟨w.heap.size,0,none⟩) n cap)) w') :
  wpList Tryz.prog ops Q (o::rest) a w:=by
 refine wpList_plain hgd fun K hK=>?_
 have hr:=fD w n h0 hn o.type
 have hge:=grownCap_ge w n 0 31
 have hle:=grownCap_le_maxLen w n 0 31 (by simp only [maxLen];omega)
 unfold Oper.wp execOp
 simp only [ho,resolve,invoke,builtin,Sem.run_bind,Sem.run_pure,Result.andThen_ok,List.map_toArray,List.map_cons,List.map_nil,hs,hx,hr]
 refine hK _ _ (h _ _ hge ((Below.refl _ _).drew.alloc (by simp) _) ?_)
 exact⟨by simp,.inr ⟨w.heap.size,_,_,rfl,Nat.le_refl _,heap_alloc_new w.drew _,Nat.zero_le _,hle,by simp only [Array.size_append,yR0];omega,by simp⟩⟩
theorem yE9 (n:Nat) (w:World) (h0:0<n) (hn:n<=1000) (l:Nat->Nat) (f:Nat->Nat->O3) :
  Calls Tryz.prog 81 #[.slice none 0 0,.int .i64 n] w fun e w'=>∃v,e=.returned v/\iM w w' v 0 l f/\Below w.heap.size w w':=by
 have k0:(0:Int)<(n:Int):=by omega
 have k1:(n:Int)<=1000:=by omega
 go_enter Tryz.func81,Tryz.ntmps81
 go_wp2_with (at_builtin;refine yC2 rfl (.tmp 20) (.tmp 21) rfl rfl rfl h0 hn ?_;intro cap w1 hcap hb ho;have hc0:(0:Int)<=(cap:Int):=by omega)
 go_ret
 exact⟨_,rfl,⟨[],ho,fun _ hi=>absurd hi (Nat.not_lt_zero _)⟩,hb⟩
def rt (x:O3) (nt nf:Nat):Bool:=yT x.1 x.2.1 x.2.2 nt nf
def qK (ns nt:Nat) (tl fl:Nat->Nat):Nat->Nat:=cat (1+nt) (cat 1 (cat 0 (fun _=>0) (fun _=>ns)) tl) fl
def qS (nt:Nat) (s:Nat->O3) (t f:Nat->Nat->O3):Nat->Nat->O3:=cat (1+nt) (cat 1 (cat 0 (fun _ _=>(0,0,0)) (fun _=>s)) t) f
def Ans (nt nf N:Nat) (L:Nat->Nat) (F:Nat->Nat->O3) (e:Int):Prop:=
 (8<nt/\e=1)\/(nt<=8/\8<nf/\e=2)\/(nt<=8/\nf<=8/\(∃i,i<N/\32<L i)/\e=3)\/
 (nt<=8/\nf<=8/\(∀i,i<N->L i<=32)/\(∃i k,i<N/\k<L i/\rt (F i k) nt nf=false)/\e=4)\/
 (nt<=8/\nf<=8/\(∀i,i<N->L i<=32)/\(∀i k,i<N->k<L i->rt (F i k) nt nf=true)/\e=0)
theorem Ans.one {nt nf N:Nat} {L:Nat->Nat} {F:Nat->Nat->O3} {e e':Int} (h:Ans nt nf N L F e) (h':Ans nt nf N L F e'):e=e':=by
 rcases h with ⟨h1,h2⟩ | ⟨h1,h2,h3⟩ | ⟨h1,h2,⟨i,h3,h4⟩,h5⟩ | ⟨h1,h2,h3,⟨i,k,h4,h5,h6⟩,h7⟩ | ⟨h1,h2,h3,h4,h5⟩<;>
 rcases h' with ⟨g1,g2⟩ | ⟨g1,g2,g3⟩ | ⟨g1,g2,⟨j,g3,g4⟩,g5⟩ | ⟨g1,g2,g3,⟨j,m,g4,g5,g6⟩,g7⟩ | ⟨g1,g2,g3,g4,g5⟩<;>
 first
 | omega
 | (have:=g3 i h3;omega)
 | (have:=h3 j g3;omega)
 | (have:=g4 i k h4 h5;rw [this] at h6;cases h6)
 | (have:=h4 j m g4 g5;rw [this] at g6;cases g6)
theorem zC2 (c a b:Int) (v1:Value) (a2 a3:Option Addr) (nt c2 nf c3:Nat) (w:World) :
  Calls Tryz.prog 70 #[.agg #[.int .i64 c,.int .i64 a,.int .i64 b],.agg #[v1,.slice a2 nt c2,.slice a3 nf c3]] w fun e w'=>e=.returned (.bool (yT c a b nt nf))/\Below w.heap.size w w':=
 (zP4 c a b v1 a2 a3 nt c2 nf c3 w).mono fun _ _ ⟨h1,h2⟩=>⟨h1,by rw [h2];exact bl2 _ _⟩
theorem jG (v1 v2 v3:Value) (ns nt nf:Nat) (s:Nat->O3) (tl fl:Nat->Nat) (t f:Nat->Nat->O3) (w:World) (h1:vQ w v1 ns s) (h2:yU w v2 nt tl t) (h3:yU w v3 nf fl f) :
  Calls Tryz.prog 41 #[.agg #[v1,v2,v3]] w fun e w'=>∃x,e=.returned (.int .i64 x)/\Ans nt nf (1+nt+nf) (qK ns nt tl fl) (qS nt s t f) x/\Below w.heap.size w w':=by
 have H2:=zZ h2
 have H3:=zZ h3
 generalize eN:1+nt+nf=N
 generalize eL:qK ns nt tl fl=L
 generalize eF:qS nt s t f=F
 have EN:=zZ eN
 have EL:=zZ eL
 have EF:=zZ eF
 clear eN eL eF
 have H1:=zZ h1
 obtain⟨a1,c1,rfl,l1,r1⟩:=h1
 obtain⟨a2,c2,rfl,l2,r2⟩:=h2
 obtain⟨a3,c3,rfl,l3,r3⟩:=h3
 clear r1 r2 r3
 by_cases q2:8<nt
 ·go_enter Tryz.func41,Tryz.ntmps41
  go_wp2
  go_ret
  exact⟨1,rfl,.inl ⟨q2,rfl⟩,(Below.refl _ _).alloc (Nat.le_refl _) _⟩
 by_cases q3:8<nf
 ·go_enter Tryz.func41,Tryz.ntmps41
  go_wp2
  go_ret
  exact⟨2,rfl,.inr (.inl ⟨by omega,q3,rfl⟩),(Below.refl _ _).alloc (Nat.le_refl _) _⟩
 obtain⟨W1,hW⟩ : ∃W1,W1=(w.alloc (.cells #[(.slice a1 ns c1),.slice a2 nt c2,.slice a3 nf c3] 33)).alloc (.cells #[(.slice a1 ns c1)] 31):=⟨_,rfl⟩
 have hB1:Below w.heap.size w W1:=by subst hW;exact bl2 _ _
 have i1:yU W1 (.slice (some ⟨w.heap.size+1,0,none⟩) 1 1) 1 (fun _=>ns) (fun _=>s):=by
  refine⟨_,_,rfl,by omega,.inr ⟨_,_,rfl,fun i hi=>⟨(.slice a1 ns c1),?_,yN hB1 (zY H1)⟩⟩⟩
  obtain rfl:i=0:=by omega
  subst hW;simp
 have i2:=yF hB1 (zY H2)
 have i3:=yF hB1 (zY H3)
 have b0:W1.cell? ⟨w.heap.size,0,none⟩=some (.slice a1 ns c1):=by subst hW;simp
 have b1:W1.cell? ⟨w.heap.size,1,none⟩=some (.slice a2 nt c2):=by subst hW;simp
 have b2:W1.cell? ⟨w.heap.size,2,none⟩=some (.slice a3 nf c3):=by subst hW;simp
 have hlt:w.heap.size<W1.heap.size:=by subst hW;simp;omega
 have HW:=zZ hW
 clear hW H1 H2 H3
 have d2:decide ((8:Int)<(nt:Int))=false:=by simp;omega
 have d3:decide ((8:Int)<(nf:Int))=false:=by simp;omega
 go_enter Tryz.func41,Tryz.ntmps41
 go_wp2_with (first
  | (at_builtin;refine qE (w0:=W1) rfl (.tmp 16) (.tmp 19) rfl rfl rfl (by rw [<-zY HW];exact Below.refl _ _) (by rw [<-zY HW];exact yI3 W1 W1 (fun _=>0) (fun _ _=>(0,0,0))) i1 (by omega) ?_;intro u1 w1 o1 k1;have e1:=(xT k1 _ 1 hlt).trans b1;have e2:=(xT k1 _ 2 hlt).trans b2;rw [Nat.zero_add] at o1)
  | (at_builtin;refine qE (w0:=W1) rfl (.tmp 21) (.tmp 23) rfl rfl rfl k1 o1 i2 (by omega) ?_;intro u2 w2 o2 k2;have e3:=(xT k2 _ 2 hlt).trans b2)
  | (at_builtin;refine qE (w0:=W1) rfl (.tmp 25) (.tmp 27) rfl rfl rfl k2 o2 i3 (by omega) ?_;intro u3 w3 o3 k3))
 obtain⟨g,cap,hu,hc⟩:=aA o3 k3 (by omega)
 have hc':∀i,i<N->∃vi,w3.cell? ⟨g,i,none⟩=some vi/\vQ w3 vi (L i) (F i):=by
  rw [<-zY EN,<-zY EL,<-zY EF];exact hc
 rw [zY EN] at hu
 rw [hu]
 have hN:N<=17:=by have:=zY EN;omega
 have hB3:Below w.heap.size w w3:=hB1.trans (k3.mono (by omega))
 have x0:=(xT k3 _ 0 hlt).trans b0
 have x1:=(xT k3 _ 1 hlt).trans b1
 have x2:=(xT k3 _ 2 hlt).trans b2
 have hls:w.heap.size<w3.heap.size:=zT hlt k3.size
 have HC:=zZ hc'
 clear hc hc' hu o1 o2 o3 k1 k2 k3 e1 e2 e3 i1 i2 i3 HW b0 b1 b2 hB1 hlt EN EL EF
 go_loop [4] (fun i=>∃k:Nat,k<=N/\i=.int .i64 k/\Hid (∀j,j<k->L j<=32)) (fun i=>N-(intOf i).toNat)
 case atStart=>exact⟨0,Nat.zero_le _,rfl,fun j hj=>absurd hj (Nat.not_lt_zero _)⟩
 case round=>
  obtain⟨k,hk,rfl,hle⟩:=hrel
  by_cases hlt:k<N
  ·obtain⟨vi,ci,hvi⟩:=zY HC k hlt
   obtain⟨ai,cc,rfl,li,ri⟩:=hvi
   clear ri
   by_cases hlong:32<L k
   ·have HL:=zZ hlong
    go_wp2
    go_ret
    exact⟨3,rfl,.inr (.inr (.inl ⟨by omega,by omega,⟨k,hlt,zY HL⟩,rfl⟩)),hB3⟩
   ·go_wp2
    go_round
    case rel=>
     refine⟨k+1,by omega,by go_num,fun j hj=>?_⟩
     by_cases e:j=k
     ·subst e;omega
     ·exact zY hle j (by omega)
    case measure=>simp [intOf];omega
  ·have HA:Hid (∀j,j<N->L j<=32):=fun j hj=>zY hle j (by omega)
   clear hle
   go_wp2
   go_loopw [5] (fun i wr=>∃k:Nat,k<=N/\i=.int .i64 k/\Below w3.heap.size w3 wr/\Hid (∀j m,j<k->m<L j->rt (F j m) nt nf=true)) (fun i _=>N-(intOf i).toNat)
   case atStart=>exact⟨0,Nat.zero_le _,rfl,Below.refl _ _,fun j m hj=>absurd hj (Nat.not_lt_zero _)⟩
   case round=>
    obtain⟨k',hk',rfl,hb,hall⟩:=hrel
    by_cases hlt':k'<N
    ·obtain⟨vi,ci,hvi⟩:=zY HC k' hlt'
     have HV:=zZ hvi
     obtain⟨ai,cc,rfl,li,ri⟩:=hvi
     have HR:=zZ ri
     have hl32:=zY HA k' hlt'
     clear ri
     go_wp2
     go_loopw [6] (fun i wr=>∃m:Nat,m<=L k'/\i=.int .i64 m/\Below w3.heap.size w3 wr/\Hid (∀m',m'<m->rt (F k' m') nt nf=true)) (fun i _=>L k'-(intOf i).toNat)
     case atStart=>exact⟨0,Nat.zero_le _,rfl,hb,fun j hj=>absurd hj (Nat.not_lt_zero _)⟩
     case round=>
      obtain⟨m,hm,rfl,hbm,hgood⟩:=hrel
      have cg:=(xT hbm g k' (zU _ _ ci)).trans ci
      by_cases hml:m<L k'
      ·rcases zY HR with hz | ⟨b,off,rfl,hf⟩
       ·omega
       obtain⟨g0,g1,g2⟩:=pU hbm (hf m hml)
       have y0:=(xT hbm _ 0 hls).trans x0
       have y1:=(xT hbm _ 1 hls).trans x1
       have y2:=(xT hbm _ 2 hls).trans x2
       clear hf
       generalize hx:F k' m=x at g0 g1 g2
       have HX:=zZ hx
       clear hx
       have p0:(0:Int)<=(k':Int):=by omega
       have p1:(k':Int)<(N:Int):=by omega
       have p2:(0:Int)<=(m:Int):=by omega
       have p3:(m:Int)<(L k':Int):=by omega
       go_wp2
       have q0:=zU _ _ cg
       have q1:=zU _ _ g0
       have q4:=zU _ _ y0
       cases hr:yT x.1 x.2.1 x.2.2 nt nf
       all_goals
        go_region_held3 (fun w'=>w'.cell? ⟨g,k',none⟩=some (.slice (some ⟨b,off,none⟩) (L k') cc)/\w'.cell? ⟨b,off+m*3,none⟩=some (.int .i64 x.1)/\w'.cell? ⟨b,off+m*3+1,none⟩=some (.int .i64 x.2.1)/\w'.cell? ⟨b,off+m*3+2,none⟩=some (.int .i64 x.2.2)/\w'.cell? ⟨w.heap.size,0,none⟩=some (.slice a1 ns c1)/\w'.cell? ⟨w.heap.size,1,none⟩=some (.slice a2 nt c2)/\w'.cell? ⟨w.heap.size,2,none⟩=some (.slice a3 nf c3))
         (first | with_reducible exact⟨z0,z1,z2,z3,z4,z5,z6⟩ | (simp [go_sem,cg,g0,g1,g2,y0,y1,y2];done))
         ((
           go_at_call 70;refine(zC2 x.1 x.2.1 x.2.2 _ a2 a3 nt c2 nf c3 _).mono ?_;rintro e wz ⟨rfl,hz⟩
           have z0:=(xT hz g k' q0).trans cg
           have z1:=(xT hz b (off+m*3) q1).trans g0
           have z2:=(xT hz b (off+m*3+1) q1).trans g1
           have z3:=(xT hz b (off+m*3+2) q1).trans g2
           have z4:=(xT hz _ 0 q4).trans y0
           have z5:=(xT hz _ 1 q4).trans y1
           have z6:=(xT hz _ 2 q4).trans y2))
       ·have hbz:Below w3.heap.size w3 wz:=hbm.drew.trans (hz.mono hbm.size)
        have HR2:=zZ hr
        go_wp2
        go_ret
        refine⟨4,rfl,.inr (.inr (.inr (.inl ⟨by omega,by omega,zY HA,⟨k',m,hlt',hml,?_⟩,rfl⟩))),hB3.trans (hbz.mono (by omega))⟩
        rw [zY HX];exact zY HR2
       ·have hbz:Below w3.heap.size w3 wz:=hbm.drew.trans (hz.mono hbm.size)
        have HR2:=zZ hr
        go_wp2
        go_roundw
        case rel=>
         refine⟨m+1,by omega,by go_num,hbz,fun m' hm'=>?_⟩
         by_cases e:m'=m
         ·subst e;rw [zY HX];exact zY HR2
         ·exact zY hgood m' (by omega)
        case measure=>simp [intOf];omega
      ·go_wp2
       go_roundw
       case rel=>
        refine⟨k'+1,by omega,by go_num,hbm,fun j m' hj hm'=>?_⟩
        by_cases e:j=k'
        ·subst e;exact zY hgood m' (by omega)
        ·exact zY hall j m' (by omega) hm'
       case measure=>simp [intOf];omega
    ·go_wp2
     go_ret
     exact⟨0,rfl,.inr (.inr (.inr (.inr ⟨by omega,by omega,zY HA,fun i m hi hm=>zY hall i m (by omega) hm,rfl⟩))),hB3.trans (hb.mono (by omega))⟩
def zO2 (nt nf k:Nat):Nat:=if k=0 then 0 else if k=1 then 1 else if k=2 then 1+nt else 1+nt+nf
def Stg (w wr:World) (v:Value) (ns nt nf:Nat) (s:Nat->O3) (tl fl:Nat->Nat) (t f:Nat->Nat->O3) (k:Nat):Prop:=
 (k=0/\iM w wr v 0 (fun _=>0) (fun _ _=>(0,0,0)))\/(k=1/\iM w wr v 1 (cat 0 (fun _=>0) (fun _=>ns)) (cat 0 (fun _ _=>(0,0,0)) (fun _=>s)))\/
 (k=2/\iM w wr v (1+nt) (cat 1 (cat 0 (fun _=>0) (fun _=>ns)) tl) (cat 1 (cat 0 (fun _ _=>(0,0,0)) (fun _=>s)) t))\/
 (k=3/\iM w wr v (1+nt+nf) (qK ns nt tl fl) (qS nt s t f))
theorem zK9 (q:Nat) (p1:Option Addr) (c1:Nat) (v2 v3:Value) (ns nt nf:Nat) (s:Nat->O3) (tl fl:Nat->Nat) (t f:Nat->Nat->O3) (w:World)
  (h1:yU w (.slice p1 1 c1) 1 (fun _=>ns) (fun _=>s)) (h2:yU w v2 nt tl t) (h3:yU w v3 nf fl f)
  (x0:w.cell? ⟨q,0,none⟩=some (.slice p1 1 c1)) (x1:w.cell? ⟨q,1,none⟩=some v2) (x2:w.cell? ⟨q,2,none⟩=some v3) (hnt:nt<=8) (hnf:nf<=8) :
  Calls Tryz.prog 50 #[.slice (some ⟨q,0,none⟩) 3 3] w fun e w'=>∃v,e=.returned v/\iM w w' v (1+nt+nf) (qK ns nt tl fl) (qS nt s t f)/\Below w.heap.size w w':=by
 have H1:=zZ h1
 have H2:=zZ h2
 have H3:=zZ h3
 obtain⟨a2,c2,rfl,l2,r2⟩:=h2
 obtain⟨a3,c3,rfl,l3,r3⟩:=h3
 clear h1 r2 r3
 have hq:=zU _ _ x0
 go_enter Tryz.func50,Tryz.ntmps50
 go_wp2
 go_loop [3,11] (fun z i=>∃k:Nat,k<=3/\i=.int .i64 k/\z=.int .i64 (zO2 nt nf k)) (fun _ i=>3-(intOf i).toNat)
 case atStart=>exact⟨0,Nat.zero_le _,rfl,rfl⟩
 case round=>
  obtain⟨k,hk,rfl,rfl⟩:=hrel
  have hcase:k=0\/k=1\/k=2\/k=3:=by omega
  rcases hcase with rfl | rfl | rfl | rfl
  ·have e0:zO2 nt nf 0=0:=rfl
   rw [e0]
   go_wp2
   go_round
   case rel=>exact⟨1,by omega,rfl,rfl⟩
   case measure=>simp [intOf]
  ·have e0:zO2 nt nf 1=1:=rfl
   rw [e0]
   go_wp2
   go_round
   case rel=>exact⟨2,by omega,rfl,by simp [zO2]⟩
   case measure=>simp [intOf]
  ·have e0:zO2 nt nf 2=1+nt:=rfl
   rw [e0]
   go_wp2
   go_round
   case rel=>exact⟨3,by omega,rfl,by simp [zO2]⟩
   case measure=>simp [intOf]
  ·have e0:zO2 nt nf 3=1+nt+nf:=rfl
   rw [e0]
   have hg:=yE9 (1+nt+nf) w (by omega) (by omega) (fun _=>0) (fun _ _=>(0,0,0))
   rw [show (((1+nt+nf:Nat)):Int)=1+(nt:Int)+(nf:Int) from by omega] at hg
   have HG:=zZ hg
   clear hg e0
   go_wp2_with fail
   refine(zY HG).mono ?_
   rintro e w1 ⟨v,rfl,ho,hb⟩
   clear HG
   go_wp2
   go_loopw [6,27] (fun z i wr=>∃k:Nat,k<=3/\i=.int .i64 k/\Below w.heap.size w wr/\Stg w wr z ns nt nf s tl fl t f k) (fun _ i _=>3-(intOf i).toNat)
   case atStart=>exact⟨0,Nat.zero_le _,rfl,hb,.inl ⟨rfl,ho⟩⟩
   case round=>
    obtain⟨k,hk,rfl,hbr,hst⟩:=hrel
    have y0:=(xT hbr q 0 hq).trans x0
    have y1:=(xT hbr q 1 hq).trans x1
    have y2:=(xT hbr q 2 hq).trans x2
    rcases hst with ⟨rfl,hs⟩ | ⟨rfl,hs⟩ | ⟨rfl,hs⟩ | ⟨rfl,hs⟩
    ·have HS:=zZ hs
     clear hs
     go_wp2_with (at_builtin;refine qE (w0:=w) rfl (.tmp 31) (.tmp 32) rfl rfl rfl hbr (zY HS) (zY H1) (by omega) ?_;intro v' w' o' k')
     go_roundw
     case rel=>exact⟨1,by omega,rfl,k',.inr (.inl ⟨rfl,by simpa using o'⟩)⟩
     case measure=>simp [intOf]
    ·have HS:=zZ hs
     clear hs
     go_wp2_with (at_builtin;refine qE (w0:=w) rfl (.tmp 31) (.tmp 32) rfl rfl rfl hbr (zY HS) (zY H2) (by omega) ?_;intro v' w' o' k')
     go_roundw
     case rel=>exact⟨2,by omega,rfl,k',.inr (.inr (.inl ⟨rfl,o'⟩))⟩
     case measure=>simp [intOf]
    ·have HS:=zZ hs
     clear hs
     go_wp2_with (at_builtin;refine qE (w0:=w) rfl (.tmp 31) (.tmp 32) rfl rfl rfl hbr (zY HS) (zY H3) (by omega) ?_;intro v' w' o' k')
     go_roundw
     case rel=>exact⟨3,by omega,rfl,k',.inr (.inr (.inr ⟨rfl,o'⟩))⟩
     case measure=>simp [intOf]
    ·have HS:=zZ hs
     clear hs
     go_wp2
     go_ret
     exact⟨_,rfl,zY HS,hbr⟩
theorem xY {B:Nat} {w w':World} (h:Below B w w') (hB:0<B) (ht:sO w):sO w':=fun c h1 h2=>
 ⟨(xT h 0 _ hB).trans (ht c h1 h2).1,(xT h 0 _ hB).trans (ht c h1 h2).2⟩
theorem qP {w:World} (ht:sO w):0<w.heap.size:=zU _ _ (ht 1 (by omega) (by omega)).1
theorem jF (v1 v2 v3:Value) (ns nt nf:Nat) (s:Nat->O3) (tl fl:Nat->Nat) (t f:Nat->Nat->O3) (w:World) (ht:sO w) (h1:vQ w v1 ns s) (h2:yU w v2 nt tl t) (h3:yU w v3 nf fl f) :
  Calls Tryz.prog 27 #[.agg #[v1,v2,v3]] w fun e w'=>∃x,e=.returned (.int .i64 x)/\Ans nt nf (1+nt+nf) (qK ns nt tl fl) (qS nt s t f) x/\Below w.heap.size w w':=by
 have H2:=zZ h2
 have H3:=zZ h3
 generalize eN:1+nt+nf=N
 generalize eL:qK ns nt tl fl=L
 generalize eF:qS nt s t f=F
 have EN:=zZ eN
 have EL:=zZ eL
 have EF:=zZ eF
 clear eN eL eF
 have H1:=zZ h1
 obtain⟨a1,c1,rfl,l1,r1⟩:=h1
 obtain⟨a2,c2,rfl,l2,r2⟩:=h2
 obtain⟨a3,c3,rfl,l3,r3⟩:=h3
 clear r1 r2 r3
 by_cases q2:8<nt
 ·go_enter Tryz.func27,Tryz.ntmps27
  go_wp2
  go_ret
  exact⟨1,rfl,.inl ⟨q2,rfl⟩,(Below.refl _ _).alloc (Nat.le_refl _) _⟩
 by_cases q3:8<nf
 ·go_enter Tryz.func27,Tryz.ntmps27
  go_wp2
  go_ret
  exact⟨2,rfl,.inr (.inl ⟨by omega,q3,rfl⟩),(Below.refl _ _).alloc (Nat.le_refl _) _⟩
 obtain⟨W1,hW⟩ : ∃W1,W1=((w.alloc (.cells #[.slice a1 ns c1,.slice a2 nt c2,.slice a3 nf c3] 33)).alloc (.cells #[.slice a1 ns c1] 31)).alloc (.cells #[.slice (some ⟨w.heap.size+1,0,none⟩) 1 1,.slice a2 nt c2,.slice a3 nf c3] 25):=⟨_,rfl⟩
 have hB1:Below w.heap.size w W1:=by subst hW;exact bl3 _ _ _
 have i1:yU W1 (.slice (some ⟨w.heap.size+1,0,none⟩) 1 1) 1 (fun _=>ns) (fun _=>s):=by
  refine⟨_,_,rfl,by omega,.inr ⟨_,_,rfl,fun i hi=>⟨.slice a1 ns c1,?_,yN hB1 (zY H1)⟩⟩⟩
  obtain rfl:i=0:=by omega
  subst hW;simp [World.cell?_alloc_past]
 have i2:=yF hB1 (zY H2)
 have i3:=yF hB1 (zY H3)
 have b0:W1.cell? ⟨w.heap.size,0,none⟩=some (.slice a1 ns c1):=by subst hW;rw [World.cell?_alloc_past _ _ _ (by simp;omega),World.cell?_alloc_past _ _ _ (by simp)];simp
 have b1:W1.cell? ⟨w.heap.size,1,none⟩=some (.slice a2 nt c2):=by subst hW;rw [World.cell?_alloc_past _ _ _ (by simp;omega),World.cell?_alloc_past _ _ _ (by simp)];simp
 have b2:W1.cell? ⟨w.heap.size,2,none⟩=some (.slice a3 nf c3):=by subst hW;rw [World.cell?_alloc_past _ _ _ (by simp;omega),World.cell?_alloc_past _ _ _ (by simp)];simp
 have x0:W1.cell? ⟨w.heap.size+2,0,none⟩=some (.slice (some ⟨w.heap.size+1,0,none⟩) 1 1):=by subst hW;simp [World.cell?_alloc_at]
 have x1:W1.cell? ⟨w.heap.size+2,1,none⟩=some (.slice a2 nt c2):=by subst hW;simp [World.cell?_alloc_at]
 have x2:W1.cell? ⟨w.heap.size+2,2,none⟩=some (.slice a3 nf c3):=by subst hW;simp [World.cell?_alloc_at]
 have hlt:w.heap.size<W1.heap.size:=by subst hW;simp;omega
 have HW:=zZ hW
 clear hW H1 H2 H3
 have d2:decide ((8:Int)<(nt:Int))=false:=by simp;omega
 have d3:decide ((8:Int)<(nf:Int))=false:=by simp;omega
 have HT:=zZ (xY hB1 (qP ht) ht)
 clear ht
 go_enter Tryz.func27,Tryz.ntmps27
 go_wp2_with fail
 rw [<-zY HW]
 refine(zK9 (w.heap.size+2) (some ⟨w.heap.size+1,0,none⟩) 1 _ _ ns nt nf s tl fl t f W1 i1 i2 i3 x0 x1 x2 (by omega) (by omega)).mono ?_
 rintro e w3 ⟨u3,rfl,o3,k3⟩
 obtain⟨g,cap,hu,hc⟩:=aA o3 k3 (by omega)
 have hc':∀i,i<N->∃vi,w3.cell? ⟨g,i,none⟩=some vi/\vQ w3 vi (L i) (F i):=by
  rw [<-zY EN,<-zY EL,<-zY EF];exact hc
 rw [zY EN] at hu
 rw [hu]
 have hN:N<=17:=by have:=zY EN;omega
 have hB3:Below w.heap.size w w3:=hB1.trans (k3.mono (by omega))
 have y0:=(xT k3 _ 0 hlt).trans b0
 have y1:=(xT k3 _ 1 hlt).trans b1
 have y2:=(xT k3 _ 2 hlt).trans b2
 have hls:w.heap.size<w3.heap.size:=zT hlt k3.size
 have HT3:=zZ (xY k3 (by omega) (zY HT))
 have HC:=zZ hc'
 clear hc hc' hu o3 k3 i1 i2 i3 HW b0 b1 b2 x0 x1 x2 hB1 hlt EN EL EF HT
 go_wp2
 go_loop [31] (fun i=>∃k:Nat,k<=N/\i=.int .i64 k/\Hid (∀j,j<k->L j<=32)) (fun i=>N-(intOf i).toNat)
 case atStart=>exact⟨0,Nat.zero_le _,rfl,fun j hj=>absurd hj (Nat.not_lt_zero _)⟩
 case round=>
  obtain⟨k,hk,rfl,hle⟩:=hrel
  by_cases hlt:k<N
  ·obtain⟨vi,ci,hvi⟩:=zY HC k hlt
   obtain⟨ai,cc,rfl,li,ri⟩:=hvi
   clear ri
   by_cases hlong:32<L k
   ·have HL:=zZ hlong
    go_wp2
    go_ret
    exact⟨3,rfl,.inr (.inr (.inl ⟨by omega,by omega,⟨k,hlt,zY HL⟩,rfl⟩)),hB3⟩
   ·go_wp2
    go_round
    case rel=>
     refine⟨k+1,by omega,by go_num,fun j hj=>?_⟩
     by_cases e:j=k
     ·subst e;omega
     ·exact zY hle j (by omega)
    case measure=>simp [intOf];omega
  ·have HA:Hid (∀j,j<N->L j<=32):=fun j hj=>zY hle j (by omega)
   clear hle
   go_wp2
   go_loopw [41] (fun i wr=>∃k:Nat,k<=N/\i=.int .i64 k/\Below w3.heap.size w3 wr/\Hid (∀j m,j<k->m<L j->rt (F j m) nt nf=true)) (fun i _=>N-(intOf i).toNat)
   case atStart=>exact⟨0,Nat.zero_le _,rfl,Below.refl _ _,fun j m hj=>absurd hj (Nat.not_lt_zero _)⟩
   case round=>
    obtain⟨k',hk',rfl,hb,hall⟩:=hrel
    by_cases hlt':k'<N
    ·obtain⟨vi,ci,hvi⟩:=zY HC k' hlt'
     obtain⟨ai,cc,rfl,li,ri⟩:=hvi
     have HR:=zZ ri
     have hl32:=zY HA k' hlt'
     clear ri
     have cg:=(xT hb g k' (zU _ _ ci)).trans ci
     go_wp2
     clear cg
     go_loopw [47] (fun i wr=>∃m:Nat,m<=L k'/\i=.int .i64 m/\Below w3.heap.size w3 wr/\Hid (∀m',m'<m->rt (F k' m') nt nf=true)) (fun i _=>L k'-(intOf i).toNat)
     case atStart=>exact⟨0,Nat.zero_le _,rfl,hb,fun j hj=>absurd hj (Nat.not_lt_zero _)⟩
     case round=>
      obtain⟨m,hm,rfl,hbm,hgood⟩:=hrel
      by_cases hml:m<L k'
      ·rcases zY HR with hz | ⟨b,off,rfl,hf⟩
       ·omega
       have hop:=pU hbm (hf m hml)
       have q1:=qG hop
       obtain⟨g0,g1,g2⟩:=hop
       have z0:=(xT hbm _ 0 hls).trans y0
       have z1:=(xT hbm _ 1 hls).trans y1
       have z2:=(xT hbm _ 2 hls).trans y2
       have q4:=zU _ _ z0
       have HTm:=zZ (xY hbm (by omega) (zY HT3))
       clear hf
       generalize hx:F k' m=x at g0 g1 g2
       have HX:=zZ hx
       clear hx
       cases hr:yT x.1 x.2.1 x.2.2 nt nf
       all_goals
        go_wp2_with fail
        refine(zL0 x.1 x.2.1 x.2.2 _ a2 a3 nt c2 nf c3 _ (xY ((Below.refl _ _).alloc (Nat.le_refl _) _) (by omega) (zY HTm))).mono ?_
        rintro e wz ⟨rfl,hz⟩
       ·have hbz:Below w3.heap.size w3 wz:=(hbm.alloc hbm.size _).trans (hz.mono (by have:=hbm.size;simp;omega))
        have HR2:=zZ hr
        go_wp2
        go_ret
        refine⟨4,rfl,.inr (.inr (.inr (.inl ⟨by omega,by omega,zY HA,⟨k',m,hlt',hml,?_⟩,rfl⟩))),hB3.trans (hbz.mono (by omega))⟩
        rw [zY HX];exact zY HR2
       ·have hbz:Below w3.heap.size w3 wz:=(hbm.alloc hbm.size _).trans (hz.mono (by have:=hbm.size;simp;omega))
        have HR2:=zZ hr
        go_wp2
        go_roundw
        case rel=>
         refine⟨m+1,by omega,by go_num,hbz,fun m' hm'=>?_⟩
         by_cases e:m'=m
         ·subst e;rw [zY HX];exact zY HR2
         ·exact zY hgood m' (by omega)
        case measure=>simp [intOf];omega
      ·go_wp2
       go_roundw
       case rel=>
        refine⟨k'+1,by omega,by go_num,hbm,fun j m' hj hm'=>?_⟩
        by_cases e:j=k'
        ·subst e;exact zY hgood m' (by omega)
        ·exact zY hall j m' (by omega) hm'
       case measure=>simp [intOf];omega
    ·go_wp2
     go_ret
     exact⟨0,rfl,.inr (.inr (.inr (.inr ⟨by omega,by omega,zY HA,fun i m hi hm=>zY hall i m (by omega) hm,rfl⟩))),hB3.trans (hb.mono (by omega))⟩
theorem zV1 (v1 v2 v3:Value) (ns nt nf:Nat) (s:Nat->O3) (tl fl:Nat->Nat) (t f:Nat->Nat->O3) (w:World) (ht:sO w) (h1:vQ w v1 ns s) (h2:yU w v2 nt tl t) (h3:yU w v3 nf fl f) :
  Calls Tryz.prog 25 #[.agg #[v1,v2,v3]] w fun e w'=>∃x,e=.returned (.int .i64 x)/\Ans nt nf (1+nt+nf) (qK ns nt tl fl) (qS nt s t f) x/\Below w.heap.size w w':=by
 have hB:Below w.heap.size w (w.alloc (.cells #[v1,v2,v3] 33)):=(Below.refl _ _).alloc (Nat.le_refl _) _
 have hc:=jF v1 v2 v3 ns nt nf s tl fl t f (w.alloc (.cells #[v1,v2,v3] 33)) (xY hB (qP ht) ht) (yN hB h1) (yF hB h2) (yF hB h3)
 have HC:=zZ hc
 clear hc
 go_enter Tryz.func25,Tryz.ntmps25
 go_wp2_with fail
 refine(zY HC).mono ?_
 rintro e w1 ⟨x,rfl,ha,hb⟩
 go_wp2
 go_ret
 exact⟨x,rfl,ha,hB.trans (hb.mono (by simp))⟩
theorem tZ.opsIn {w:World} {g n:Nat} {f:Nat->O3} (h:tZ w g (n+4) (lH n f)) (hn:n*24<=140737488351232):vQ w (.slice (some ⟨g,0,none⟩) n (n+4)) n f:=by
 refine⟨_,_,rfl,hn,.inr ⟨g,0,rfl,fun i hi=>?_⟩⟩
 have:=h.cells i (by omega)
 rw [Nat.zero_add]
 simpa [lH,hi] using this
theorem xL.handsIn {w:World} {g n:Nat} {ln:Nat->Nat} {f:Nat->Nat->O3} {G:Nat->Nat} (h:xL w g n (n+4) ln f G) (hn:n*24<=140737488351232) (hl:∀i,i<n->ln i*24<=140737488351232) :
  yU w (.slice (some ⟨g,0,none⟩) n (n+4)) n ln f:=by
 refine⟨_,_,rfl,hn,.inr ⟨g,0,rfl,fun i hi=>⟨_,?_,(h.own i (by omega) hi).opsIn (hl i hi)⟩⟩⟩
 rw [Nat.zero_add]
 exact h.heads i (by omega) hi
theorem zH3 (bk:Nat) (v1 v2 v3 y4 y5 y6 y7 y8 y9:Value) (ns nt nf:Nat) (s:Nat->O3) (tl fl:Nat->Nat) (t f:Nat->Nat->O3) (w:World) (ht:sO w) (h1:vQ w v1 ns s) (h2:yU w v2 nt tl t) (h3:yU w v3 nf fl f) :
  Calls Tryz.prog 23 #[.pointer (some ⟨bk,0,none⟩),.agg #[.int .i64 1,v1,v2,v3,y4,y5,y6,y7,y8,y9]] w fun e w'=>e=.returned (.bool true)/\Below w.heap.size w w':=by
 have n1:=nG h1
 have n2:=tK h2
 have n3:=tK h3
 have e2:=uQ h2
 have e3:=uQ h3
 obtain⟨W0,hW⟩ : ∃W0,W0=w.alloc (.cells #[.int .i64 1,v1,v2,v3,y4,y5,y6,y7,y8,y9] 67):=⟨_,rfl⟩
 have hB0:Below w.heap.size w W0:=by subst hW;exact(Below.refl _ _).alloc (Nat.le_refl _) _
 have hs0:W0.heap.size=w.heap.size+1:=by subst hW;simp
 have i1:=yN hB0 h1
 have i2:=yF hB0 h2
 have i3:=yF hB0 h3
 have x1:W0.cell? ⟨w.heap.size,1,none⟩=some v1:=by subst hW;simp
 have x2:W0.cell? ⟨w.heap.size,2,none⟩=some v2:=by subst hW;simp
 have x3:W0.cell? ⟨w.heap.size,3,none⟩=some v3:=by subst hW;simp
 have HT:=zZ (xY hB0 (qP ht) ht)
 have HW:=zZ hW
 clear hW ht h1 h2 h3
 go_enter Tryz.func23,Tryz.ntmps23
 go_wp2_with fail
 rw [<-zY HW]
 refine(lJ v1 v2 v3 ns nt nf s tl fl t f W0 i1 i2 i3).mono ?_
 rintro e w1 ⟨g1,g2,g3,G2,G3,rfl,hb1,k1,k12,k23,kG,o1,o2,o3⟩
 have p1:=(xT hb1 _ 1 (show w.heap.size<W0.heap.size by omega)).trans x1
 have p2:=(xT hb1 _ 2 (show w.heap.size<W0.heap.size by omega)).trans x2
 have p3:=(xT hb1 _ 3 (show w.heap.size<W0.heap.size by omega)).trans x3
 have hs1:w.heap.size<w1.heap.size:=by have:=hb1.size;omega
 obtain⟨W2,hW2⟩ : ∃W2,W2=w1.alloc (.cells #[.slice (some ⟨g1,0,none⟩) ns (ns+4),.slice (some ⟨g2,0,none⟩) nt (nt+4),.slice (some ⟨g3,0,none⟩) nf (nf+4)] 33):=⟨_,rfl⟩
 have hb2:Below w1.heap.size w1 W2:=by subst hW2;exact(Below.refl _ _).alloc (Nat.le_refl _) _
 have l1:g1<w1.heap.size:=qG (o1.cells 0 (by omega))
 have l2:g2<w1.heap.size:=zU w1 ⟨g2,nt,none⟩ (o2.pads nt (by omega) (by omega))
 have l3:g3<w1.heap.size:=zU w1 ⟨g3,nf,none⟩ (o3.pads nf (by omega) (by omega))
 have q1:=o1.below hb2 l1
 have q2:=o2.below hb2 l2 (fun i hi=>(o2.far i hi).2)
 have q3:=o3.below hb2 l3 (fun i hi=>(o3.far i hi).2)
 have r0:W2.cell? ⟨w1.heap.size,0,none⟩=some (.slice (some ⟨g1,0,none⟩) ns (ns+4)):=by subst hW2;simp
 have r1:W2.cell? ⟨w1.heap.size,1,none⟩=some (.slice (some ⟨g2,0,none⟩) nt (nt+4)):=by subst hW2;simp
 have r2:W2.cell? ⟨w1.heap.size,2,none⟩=some (.slice (some ⟨g3,0,none⟩) nf (nf+4)):=by subst hW2;simp
 have hs2:W2.heap.size=w1.heap.size+1:=by subst hW2;simp
 have hb02:Below W0.heap.size W0 W2:=hb1.trans (hb2.mono hb1.size)
 have HT2:=zZ (xY hb02 (by omega) (zY HT))
 have HW2:=zZ hW2
 clear hW2 x1 x2 x3 HW
 go_wp2_with fail
 rw [<-zY HW2]
 refine(zV1 _ _ _ ns nt nf s tl fl t f W2 (zY HT2) (q1.opsIn n1) (q2.handsIn n2 e2) (q3.handsIn n3 e3)).mono ?_
 rintro e w3 ⟨x,rfl,ha,hb3⟩
 clear HW2
 have hb03:Below W0.heap.size W0 w3:=hb02.trans (hb3.mono (by omega))
 have t0:=(xT hb3 _ 0 (show w1.heap.size<W2.heap.size by omega)).trans r0
 have t1:=(xT hb3 _ 1 (show w1.heap.size<W2.heap.size by omega)).trans r1
 have t2:=(xT hb3 _ 2 (show w1.heap.size<W2.heap.size by omega)).trans r2
 have p1':=(xT (hb2.trans (hb3.mono (by omega))) _ 1 hs1).trans p1
 have p2':=(xT (hb2.trans (hb3.mono (by omega))) _ 2 hs1).trans p2
 have p3':=(xT (hb2.trans (hb3.mono (by omega))) _ 3 hs1).trans p3
 have m1:=q1.below hb3 (by omega)
 have m2:=q2.below hb3 (by omega) (fun i hi=>(q2.far i hi).2)
 have m3:=q3.below hb3 (by omega) (fun i hi=>(q3.far i hi).2)
 clear p1 p2 p3 r0 r1 r2 q1 q2 q3 o1 o2 o3
 have HA:=zZ ha
 clear ha
 go_wp2_with fail
 refine(jI W0.heap.size w3.heap.size v1 v2 v3 g1 g2 g3 ns nt nf s tl fl G2 G3 t f w3 (yN hb03 i1) (yF hb03 i2) (yF hb03 i3) m1 m2 m3 k1 k12 k23 kG (fun i hi=>(m3.far i hi).2)).mono ?_
 rintro e w4 ⟨rfl,hb4,_⟩
 have hb04:Below W0.heap.size W0 w4:=hb03.trans hb4
 have u1:=(xT hb4 w.heap.size 1 (by omega)).trans p1'
 have u2:=(xT hb4 w.heap.size 2 (by omega)).trans p2'
 have u3:=(xT hb4 w.heap.size 3 (by omega)).trans p3'
 clear p1' p2' p3' t0 t1 t2 m1 m2 m3
 go_wp2_with fail
 refine(jG v1 v2 v3 ns nt nf s tl fl t f w4 (yN hb04 i1) (yF hb04 i2) (yF hb04 i3)).mono ?_
 rintro e w5 ⟨x',rfl,ha',hb5⟩
 obtain rfl:x=x':=(zY HA).one ha'
 have HB:=zZ hb5
 have hb05:Below w.heap.size w w5:=hB0.trans ((hb04.trans (hb5.mono hb04.size)).mono (by omega))
 clear HA ha'
 go_wp2
 go_ret
 exact⟨by simp,hb05⟩
