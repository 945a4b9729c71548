/-
  PROVED HERE: how a run may end, in numbers; a program that Ch
-/
import Derived.Test.YtfmbebofllgmoaaGreatDoorSreplaysar
set_option maxHeartbeats 4000000
set_option maxRecDepth 100000
namespace Go.Proofs.YtfmbebofllgmoaaGreatDoor
open Go.RowKit
theorem tN {p:Pg} (h:Ans p.tn p.fn (1+p.tn+p.fn) (qD p.sn p.tn p.tl p.fl) (qG p.tn p.sf p.tf p.ff) 0):tY p:=by
 rcases h with ⟨_,h⟩ | ⟨_,_,h⟩ | ⟨_,_,_,h⟩ | ⟨_,_,_,_,h⟩ | ⟨h1,h2,h3,h4,_⟩
 ·omega
 ·omega
 ·omega
 ·omega
 have L0:qD p.sn p.tn p.tl p.fl 0=p.sn:=by simp [qD,cat]
 have L1:∀i,i<p.tn->qD p.sn p.tn p.tl p.fl (1+i)=p.tl i:=fun i hi=>by simp [qD,cat,hi]
 have L2:∀i,qD p.sn p.tn p.tl p.fl (1+p.tn+i)=p.fl i:=fun i=>by simp [qD,cat];intro h;omega
 have F0:qG p.tn p.sf p.tf p.ff 0=p.sf:=by simp [qG,cat]
 have F1:∀i,i<p.tn->qG p.tn p.sf p.tf p.ff (1+i)=p.tf i:=fun i hi=>by simp [qG,cat,hi]
 have F2:∀i,qG p.tn p.sf p.tf p.ff (1+p.tn+i)=p.ff i:=fun i=>by simp [qG,cat];intro h;omega
 refine⟨h1,h2,?_,?_,?_,?_,?_,?_⟩
 ·have:=h3 0 (by omega);rwa [L0] at this
 ·intro i hi;have:=h3 (1+i) (by omega);rwa [L1 i hi] at this
 ·intro i hi;have:=h3 (1+p.tn+i) (by omega);rwa [L2 i] at this
 ·intro j hj;have:=h4 0 j (by omega) (by rw [L0];exact hj);rwa [F0] at this
 ·intro i hi j hj;have:=h4 (1+i) j (by omega) (by rw [L1 i hi];exact hj);rwa [F1 i hi] at this
 ·intro i hi j hj;have:=h4 (1+p.tn+i) j (by omega) (by rw [L2 i];exact hj);rwa [F2 i] at this
def xL (s:PS):Prop:=0<=s.fin/\s.fin<=6
section
variable {σ:Type} {ask:σ->Int->Int->Rep×σ}
def nW (ask:σ->Int->Int->Rep×σ):Prop:=∀x k o,0<=(ask x k o).1.e/\(ask x k o).1.e<=6
theorem zP1 {s:PS} {R:Rep} (h:xL s) (hR:0<=R.e/\R.e<=6):xL (ckS s R):=by
 unfold ckS
 exact yD (P:=xL) (yD (P:=xL) ⟨by show (0:Int)<=4;omega,by show (4:Int)<=6;omega⟩ h) hR
theorem yE0 {s:PS} {R:Rep} (i:Nat) (h:xL s) (hR:0<=R.e/\R.e<=6):xL (pE s R i):=yD (P:=xL) h hR
theorem yK8 {s:PS} {R:Rep} (h:xL s) (hR:0<=R.e/\R.e<=6):xL (hdS s R):=yD (P:=xL) h hR
theorem yL9 (he:nW ask) (o:O3) (s:PS) (x:σ) (h:xL s):xL (opM ask o s x).1:=by
 unfold opM
 have h1:=zP1 h (he x 1 0)
 repeat' (refine yD (P:=fun q:PS×σ=>xL q.1) ?_ ?_)
 all_goals first
  | exact h
  | exact yD (P:=xL) h1 h1
  | exact yE0 _ h (he x 4 _)
  | exact yD (P:=xL) h h
  | exact⟨by show (0:Int)<=1;omega,by show (1:Int)<=6;omega⟩
theorem aH (he:nW ask) {f:Nat->O3} {n:Nat}:∀(k:Nat) (s:PS) (x:σ),xL s->xL (hM ask f n k s x).1
 | 0,_,_,h=>h
 | k+1,s,x,h=>by
  unfold hM
  refine yD (P:=fun q:PS×σ=>xL q.1) (yD (P:=fun q:PS×σ=>xL q.1) ⟨by show (0:Int)<=3;omega,by show (3:Int)<=6;omega⟩ ?_) h
  exact aH he k _ _ (yL9 he _ _ _ h)
theorem aD (he:nW ask) (p:Pg):∀(l:List TM) (s:PS) (x:σ),xL s->xL (frM (gT ask p) l s x).1
 | [],_,_,h=>h
 | t::r,s,x,h=>by
  unfold frM
  refine yD (P:=fun q:PS×σ=>xL q.1) h (yD (P:=fun q:PS×σ=>xL q.1) ?_ (aD he p r s x h))
  exact aD he p r _ _ (aH he _ _ _ h)
theorem pk_fin (he:nW ask) (n:Nat) (s:PS) (x:σ) (h:xL s):xL (pk ask n s x).2.2.1:=by
 unfold pk
 exact yD (P:=fun q:Int×Bool×PS×σ=>xL q.2.2.1) h (yK8 h (he x 3 n))
theorem yO3 (he:nW ask) (p:Pg) (z:Int) (s:PS) (x:σ) (h:xL s):xL (wk1 (gF ask p) z s x).1:=by
 unfold wk1
 exact yD (P:=fun q:PS×σ=>xL q.1) (aH he _ _ _ h) h
theorem zR8 (he:nW ask) (p:Pg):∀(k:Nat) (l:List Int) (s:PS) (x:σ),xL s->xL (wkM ask (gF ask p) k l s x).1
 | 0,_,_,_,h=>h
 | k+1,l,s,x,h=>by
  have h1:=pk_fin he l.length s x h
  unfold wkM
  refine yD (P:=fun q:PS×σ=>xL q.1) h (yD (P:=fun q:PS×σ=>xL q.1) ?_ h1)
  exact zR8 he p k _ _ _ (yO3 he p _ _ _ h1)
theorem zY7 (he:nW ask) (p:Pg) (s:PS) (x:σ) (h:xL s):xL (tQ ask p s x).1:=by
 unfold tQ
 exact yD (P:=fun q:PS×σ=>xL q.1) (zR8 he p _ _ _ _ h) (he x 2 0)
theorem zY4 (he:nW ask) (p:Pg) (s:PS) (x:σ) (h:xL s):xL (xM ask p s x).1:=by
 unfold xM
 have h1:=zP1 h (he x 1 0)
 have h2:=aD he p (xW (ckS s (ask x 1 0).1)) _ (ask x 1 0).2 h1
 exact yD (P:=fun q:PS×σ=>xL q.1) ⟨by show (0:Int)<=2;omega,by show (2:Int)<=6;omega⟩ (yD (P:=fun q:PS×σ=>xL q.1) (yD (P:=fun q:PS×σ=>xL q.1) (zY7 he p _ _ h2) h2) h1)
theorem dS (he:nW ask) (p:Pg):∀(k:Nat) (s:PS) (x:σ),xL s->xL (xF ask p k s x).1
 | 0,_,_,h=>h
 | k+1,s,x,h=>by
  unfold xF
  exact yD (P:=fun q:PS×σ=>xL q.1) (dS he p k _ _ (zY4 he p s x h)) h
theorem zG2 (he:nW ask) (p:Pg) (k:Nat) (f:Int) (x:σ):xL (uS ask p k f x).1:=by
 unfold uS
 exact dS he p k _ _ (aH he _ _ _ ⟨by show (0:Int)<=0;omega,by show (0:Int)<=6;omega⟩)
end
theorem zM4:nW yF:=by
 intro x k o
 unfold yF
 split
 ·split<;>simp [xB]
 ·split
  ·split<;>simp [xB]
  ·split
   ·split<;>simp [xB]
   ·split<;>simp [xB]
theorem six (h:Array Obj) (a b c d e f:Obj):((((((h.push a).push b).push c).push d).push e).push f)[h.size+1]?=some b/\((((((h.push a).push b).push c).push d).push e).push f)[h.size+2]?=some c/\((((((h.push a).push b).push c).push d).push e).push f)[h.size+3]?=some d/\
  ((((((h.push a).push b).push c).push d).push e).push f)[h.size+4]?=some e/\((((((h.push a).push b).push c).push d).push e).push f)[h.size+5]?=some f:=by
 refine⟨?_,?_,?_,?_,?_⟩
 ·rw [Array.getElem?_push,if_neg (by simp),Array.getElem?_push,if_neg (by simp),Array.getElem?_push,if_neg (by simp),Array.getElem?_push,if_neg (by simp),Array.getElem?_push,if_pos (by simp)]
 ·rw [Array.getElem?_push,if_neg (by simp),Array.getElem?_push,if_neg (by simp),Array.getElem?_push,if_neg (by simp),Array.getElem?_push,if_pos (by simp)]
 ·rw [Array.getElem?_push,if_neg (by simp),Array.getElem?_push,if_neg (by simp),Array.getElem?_push,if_pos (by simp)]
 ·rw [Array.getElem?_push,if_neg (by simp),Array.getElem?_push,if_pos (by simp)]
 ·rw [Array.getElem?_push,if_pos (by simp)]
theorem eV (w:World) (v0 v1 v2 v3:Value) (l0 l1 l2 l3:List Value):(gL w v0 v1 v2 v3 l0 l1 l2 l3).heap.size=w.heap.size+6/\Fr (fun _=>False) w (gL w v0 v1 v2 v3 l0 l1 l2 l3) (fun _=>False)/\
  (gL w v0 v1 v2 v3 l0 l1 l2 l3).heap[w.heap.size+1]?=some (vR l0)/\(gL w v0 v1 v2 v3 l0 l1 l2 l3).heap[w.heap.size+2]?=some (vR l1)/\(gL w v0 v1 v2 v3 l0 l1 l2 l3).heap[w.heap.size+3]?=some (vR l2)/\(gL w v0 v1 v2 v3 l0 l1 l2 l3).heap[w.heap.size+4]?=some (vR l3)/\
  (gL w v0 v1 v2 v3 l0 l1 l2 l3).heap[w.heap.size+5]?=some (.cells #[.chan (some (w.heap.size+1)),.chan (some (w.heap.size+2)),.chan (some (w.heap.size+3)),.chan (some (w.heap.size+4))] 147):=by
 have e:(gL w v0 v1 v2 v3 l0 l1 l2 l3).heap=(((((w.heap.push (.cells #[v0,v1,v2,v3] 29)).push (vR l0)).push (vR l1)).push (vR l2)).push (vR l3)).push (.cells #[.chan (some (w.heap.size+1)),.chan (some (w.heap.size+2)),.chan (some (w.heap.size+3)),.chan (some (w.heap.size+4))] 147):=rfl
 refine⟨by rw [e];simp,(((((((Fr.refl _ w).alloc _).drew).alloc _).alloc _).alloc _).alloc _).alloc _,?_⟩
 rw [e]
 exact six w.heap _ _ _ _ _ _
def recT (n:Nat) (L:Nat->Prop) (q:Nat):Prop:=(n+1<=q/\q<=n+8)\/L q
theorem zX0 {w w2:World} {v0 v1 v2 v3 v:Value} {lc lp ll:List Int} {bs:List (Value×List Int)} {L:Nat->Prop}
  (hL:∀q,L q->q<w.heap.size) (hbs:∀p,p∈bs->yJ w p.1 p.2 L/\p.2.length<=100000000) (hroom:lc.length+bs.length+lp.length+ll.length<=17000000)
  {W1:World} (hW1:W1=gL w v0 v1 v2 v3 (lc.map (.int .i64)) (bs.map (·.1)) (lp.map (.int .i64)) (ll.map (.int .i64)))
  (hlog:rJ w2 (W1.heap.size+1) W1.heap.size v tH) (hf:Fr (fun _=>False) W1 w2 (fun _=>False)) (hv:∀k,own v k->k=W1.heap.size) (hz:w2.heap.size=W1.heap.size+2) :
  RecA (w.heap.size+8) L (fun q=>w.heap[q]?) (recT w.heap.size L) (w2.alloc (.cells #[.pointer (some ⟨w.heap.size+5,0,none⟩),.pointer (some ⟨w.heap.size+7,0,none⟩)] 95)) ⟨lc,bs,lp,ll,tH⟩/\
   Fr (fun _=>False) w (w2.alloc (.cells #[.pointer (some ⟨w.heap.size+5,0,none⟩),.pointer (some ⟨w.heap.size+7,0,none⟩)] 95)) (fun _=>False)/\
   (w2.alloc (.cells #[.pointer (some ⟨w.heap.size+5,0,none⟩),.pointer (some ⟨w.heap.size+7,0,none⟩)] 95)).heap.size=w.heap.size+9/\w2.heap.size=w.heap.size+8:=by
 obtain⟨f0,f1,f2,f3,f4,f5,f6⟩:=eV w v0 v1 v2 v3 (lc.map (.int .i64)) (bs.map (·.1)) (lp.map (.int .i64)) (ll.map (.int .i64))
 rw [<-hW1] at f0 f1 f2 f3 f4 f5 f6
 rw [f0] at hlog hv hz
 have hz3:(w2.alloc (.cells #[.pointer (some ⟨w.heap.size+5,0,none⟩),.pointer (some ⟨w.heap.size+7,0,none⟩)] 95)).heap.size=w.heap.size+9:=by simp;omega
 have same:∀q,q<w.heap.size+6->(w2.alloc (.cells #[.pointer (some ⟨w.heap.size+5,0,none⟩),.pointer (some ⟨w.heap.size+7,0,none⟩)] 95)).heap[q]?=W1.heap[q]?:=fun q hq=>(zR _ _ _ (by omega)).trans (hf.same q (by omega) (fun h=>h))
 have same2:∀q,q<w2.heap.size->(w2.alloc (.cells #[.pointer (some ⟨w.heap.size+5,0,none⟩),.pointer (some ⟨w.heap.size+7,0,none⟩)] 95)).heap[q]?=w2.heap[q]?:=fun q hq=>zR _ _ _ hq
 have hnew:=heap_alloc_new w2 (.cells #[.pointer (some ⟨w.heap.size+5,0,none⟩),.pointer (some ⟨w.heap.size+7,0,none⟩)] 95)
 rw [show w2.heap.size=w.heap.size+8 by omega] at hnew
 have hfr:Fr (fun _=>False) w (w2.alloc (.cells #[.pointer (some ⟨w.heap.size+5,0,none⟩),.pointer (some ⟨w.heap.size+7,0,none⟩)] 95)) (fun _=>False):=(f1.trans hf).alloc _
 have hsrc:=(same (w.heap.size+5) (by omega)).trans f6
 refine⟨⟨w.heap.size+5,w.heap.size+7,w.heap.size+1,w.heap.size+2,w.heap.size+3,w.heap.size+4,w.heap.size+6,v,?_⟩,hfr,hz3,by omega⟩
 refine⟨cell_of_row _ _ 0 _ 95 (0,0) hnew,cell_of_row _ _ 1 _ 95 (0,0) hnew,cell_of_row _ _ 0 _ 147 (0,0) hsrc,cell_of_row _ _ 1 _ 147 (0,0) hsrc,cell_of_row _ _ 2 _ 147 (0,0) hsrc,cell_of_row _ _ 3 _ 147 (0,0) hsrc,
  ⟨_,_,_,(same _ (by omega)).trans f2⟩,⟨_,_,_,(same _ (by omega)).trans f3⟩,⟨_,_,_,(same _ (by omega)).trans f4⟩,⟨_,_,_,(same _ (by omega)).trans f5⟩,?_,by omega,?_,?_,?_,?_,?_,?_,?_⟩
 ·refine hlog.block (fun q hq=>same2 q ?_) (by rw [hz3];omega)
  rcases hq with rfl | hq
  ·omega
  ·have:=hv q hq;omega
 ·simp
 ·intro q hq
  have hq':q=w.heap.size+8\/q=w.heap.size+5\/q=w.heap.size+7\/q=w.heap.size+1\/q=w.heap.size+2\/q=w.heap.size+3\/q=w.heap.size+4:=by simpa using hq
  refine⟨.inl (by omega),fun h=>by have:=hL q h;omega,fun h=>by have:=hv q h;omega⟩
 ·intro q hq
  have:=hv q hq
  exact⟨.inl (by omega),fun h=>by have:=hL q h;omega⟩
 ·exact fun q hq=>.inr hq
 ·exact fun q hq=>hfr.same q (hL q hq) (fun h=>h)
 ·exact fun p hp=>⟨(hbs p hp).1.block (fun q hq=>hfr.same q (hL q hq) (fun h=>h)),(hbs p hp).2⟩
 ·have hs3:tH.size=3:=rfl
  show tH.size+40*(lc.length+bs.length+lp.length+ll.length)<=700000000
  omega
end Go.Proofs.YtfmbebofllgmoaaGreatDoor
namespace Go.Proofs.YtfmbebofllgmoaaGreatDoor
open Go.RowKit
attribute [local go_sem ↓] Go.wp_at_zero Go.wp_at_succ
def tW (p:Pg) (f:Int) (lc:List Int) (bs:List (Value×List Int)) (lp ll:List Int):PS×RS:=uS yF p (lc.length+1) f ⟨lc,bs,lp,ll,tH⟩
def sM (r:PS×RS):ByteArray:=r.2.log++yS (yT 5 0 r.1.fin.toNat)
def qJ (s:PS):Value:=.agg #[.int .i64 s.fin,.int .i64 (s.reg 0),.int .i64 (s.reg 1),.int .i64 (s.reg 2),.int .i64 (s.reg 3),.int .i64 s.clock,.int .i64 s.heard]
def lB (w:World) (p:Pg) (f:Int) (lc:List Int) (bs:List (Value×List Int)) (lp ll:List Int) (e:Ending) (w':World):Prop:=
 Fr (fun _=>False) w w' (fun _=>False)/\∃x,Ans p.tn p.fn (1+p.tn+p.fn) (qD p.sn p.tn p.tl p.fl) (qG p.tn p.sf p.tf p.ff) x/\
  (
    (x≠0/\e=.returned (.tuple #[.string ⟨#[]⟩,.slice none 0 0,.agg #[.int .i64 0,.int .i64 0,.int .i64 0,.int .i64 0,.int .i64 0,.int .i64 0,.int .i64 0],.int .i64 x]))\/
    (x=0/\∃vt,e=.returned (.tuple #[.string (sM (tW p f lc bs lp ll)),vt,qJ (tW p f lc bs lp ll).1,.int .i64 0])/\w'.ownsRow w.heap.size 72 3 vt (tW p f lc bs lp ll).1.trace.length (xZ (tW p f lc bs lp ll).1.trace)))
theorem Fr.of_below {w w':World} (h:Below w.heap.size w w'):Fr (fun _=>False) w w' (fun _=>False):=⟨h.os,h.tape,h.output,h.size,fun k hk _=>h.block k hk,fun _ _ h=>h⟩
theorem eY {W:World} {g:Nat} {a0 a1 a2 a3 a4 a5 a6:Value} (h:W.heap[g]?=some (.cells #[a0,a1,a2,a3,a4,a5,a6] 37)) (x0 x1 x2 x3 x4 x5 x6:Value) :
  (((((((W.setCell ⟨g,0,none⟩ x0).setCell ⟨g,1,none⟩ x1).setCell ⟨g,2,none⟩ x2).setCell ⟨g,3,none⟩ x3).setCell ⟨g,4,none⟩ x4).setCell ⟨g,5,none⟩ x5).setCell ⟨g,6,none⟩ x6).heap[g]?=some (.cells #[x0,x1,x2,x3,x4,x5,x6] 37):=by
 have st:∀(V:World) (c:Array Value) (i:Nat) (x:Value),V.heap[g]?=some (.cells c 37)->(V.setCell ⟨g,i,none⟩ x).heap[g]?=some (.cells (c.setIfInBounds i x) 37):=by
  intro V c i x hV
  have h0:=setRow_heap V g c (c.setIfInBounds i x) 37 (0,0) hV
  rw [<-setCell_eq_setRow V g i c 37 (0,0) x hV] at h0
  exact h0
 have h7:=st _ _ 6 x6 (st _ _ 5 x5 (st _ _ 4 x4 (st _ _ 3 x3 (st _ _ 2 x2 (st _ _ 1 x1 (st _ _ 0 x0 h))))))
 simp only [List.setIfInBounds_toArray,List.set] at h7
 exact h7
theorem jL {S S':Nat->Prop} {w W:World} (h:Fr S w W S') {g:Nat} (hg:S g\/w.heap.size<=g) (x0 x1 x2 x3 x4 x5 x6:Value) :
  Fr S w (((((((W.setCell ⟨g,0,none⟩ x0).setCell ⟨g,1,none⟩ x1).setCell ⟨g,2,none⟩ x2).setCell ⟨g,3,none⟩ x3).setCell ⟨g,4,none⟩ x4).setCell ⟨g,5,none⟩ x5).setCell ⟨g,6,none⟩ x6) S':=
 ((((((h.setCell _ _ hg).setCell _ _ hg).setCell _ _ hg).setCell _ _ hg).setCell _ _ hg).setCell _ _ hg).setCell _ _ hg
theorem three (h:Array Obj) (a b c:Obj):(((h.push a).push b).push c)[h.size]?=some a/\(((h.push a).push b).push c)[h.size+1]?=some b/\(((h.push a).push b).push c)[h.size+2]?=some c:=by
 refine⟨?_,?_,?_⟩
 ·rw [Array.getElem?_push,if_neg (by simp;omega),Array.getElem?_push,if_neg (by simp),Array.getElem?_push,if_pos (by simp)]
 ·rw [Array.getElem?_push,if_neg (by simp),Array.getElem?_push,if_pos (by simp)]
 ·rw [Array.getElem?_push,if_pos (by simp)]
theorem ns' {n1 k:Nat} {L:Nat->Prop} (hl:¬L k) (h:recT n1 L k) (hk:k<n1):False:=h.elim (fun h=>by omega) hl
theorem yM9 {n1 rb sb lb c0 c1 c2 c3 B B' b:Nat} {v' v6 vt:Value} {pv:Nat->Value} {L S' T':Nat->Prop} {w w1 w3 w4 w6:World} {s':PS} {x':RS} {o:Obj}
  (hri:RI (RecA rb L (fun q=>w1.heap[q]?)) B S' w4 b pv vt T' s' x') (hrc:iS rb sb lb c0 c1 c2 c3 B' v' L (fun q=>w1.heap[q]?) T' w4 x') (hfr:Fr (recT n1 L) w3 w4 S') (hn1:w.heap.size+3<=n1)
  (f1:Fr (fun _=>False) w w1 (fun _=>False)) (f3:Fr (fun _=>False) w1 w3 (fun _=>False)) (hz3:n1<=w3.heap.size) (f6:Fr (lgS lb v') ((w4.alloc o).drew) w6 (lgS lb v6)) :
  Fr (fun _=>False) w w6 (fun _=>False)/\w6.ownsRow w.heap.size 72 3 vt s'.trace.length (xZ s'.trace)/\(∀q,own vt q->q≠w.heap.size+1+1):=by
 have hlgT:∀q,lgS lb v' q->T' q/\¬L q:=fun q h=>h.elim (fun h=>by rw [h];exact⟨(hrc.inT lb (by simp)).1,(hrc.inT lb (by simp)).2.1⟩) (fun h=>hrc.vT q h)
 have hS:∀q,q<n1->S' q->L q:=fun q h1 h2=>(hfr.old q (by omega) h2).elim (fun h=>by omega) id
 have h46:Fr (lgS lb v') w4 w6 (lgS lb v6):=Fr.unalloc (o:=o) ⟨f6.os,f6.tape,f6.output,f6.size,f6.same,f6.old⟩
 have f13:=f1.trans f3
 have hvt:∀q,own vt q->w.heap.size<=q/\q≠w.heap.size+1+1/\¬lgS lb v' q/\q<w4.heap.size:=by
  intro q hq
  obtain⟨h1,_,h3⟩:=hri.inV q hq
  have hnl:¬L q:=fun h=>h3 (hrc.lT q h)
  have hge:n1<=q:=by
   rcases Nat.lt_or_ge q n1 with h | h
   ·exact absurd (hS q h h1) hnl
   ·exact h
  exact⟨by omega,by omega,fun h=>h3 (hlgT q h).1,(hri.bound q h1).2⟩
 refine⟨⟨h46.os.trans (hfr.os.trans f13.os),h46.tape.trans (hfr.tape.trans f13.tape),h46.output.trans (hfr.output.trans f13.output),Nat.le_trans f13.size (Nat.le_trans hfr.size h46.size),?_,fun _ _ h=>h⟩,?_,fun q hq=>(hvt q hq).2.1⟩
 ·intro k hk _
  have hk3:k<w3.heap.size:=zT hk f13.size
  have hk4:k<w4.heap.size:=zT hk3 hfr.size
  by_cases hl:L k
  ·exact(h46.same k hk4 (fun h=>(hlgT k h).2 hl)).trans ((hrc.lent k hl).trans (f1.same k hk (fun h=>h)))
  ·have ns:¬S' k:=fun h=>hl (hS k (by omega) h)
   exact(h46.same k hk4 (fun h=>ns (hri.inT k (hlgT k h).1).1)).trans ((hfr.same k hk3 (fun h=>ns' hl h (by omega))).trans (f13.same k hk (fun h=>h)))
 ·have h5:=yA (w':=w6) hri.row (fun q hq=>h46.same q (hvt q hq).2.2.2 (hvt q hq).2.2.1)
  refine⟨h5.1,?_⟩
  rcases h5.2 with h | ⟨g,cap,cur,e1,e2,r⟩
  ·exact .inl h
  ·exact .inr ⟨g,cap,cur,e1,(hvt g (by rw [e1];rfl)).1,r⟩
theorem zM6 {w w0:World} (hbel:Below w0.heap.size w0 w) (htab:pV w) {p1 p2 p3:Value} {p:Pg} (hv:oI w0 (oQ p1 p2 p3 undef) p) (f:Int)
  {v0 v1 v2 v3:Value} {lc lp ll:List Int} {bs:List (Value×List Int)} {L P:Nat->Prop} (hP:∀q,P q->q<w.heap.size) (hL:∀q,L q->w0.heap.size<=q/\q<w.heap.size)
  (h0:yJ w v0 lc P) (h1:sL w v1 (bs.map (·.1)) P) (h2:yJ w v2 lp P) (h3:yJ w v3 ll P) (hbs:∀b,b∈bs->yJ w b.1 b.2 L/\b.2.length<=100000000)
  (n0:lc.length<=4000000) (n1:bs.length<=4000000) (n2:lp.length<=4000000) (n3:ll.length<=4000000) :
  Calls Tryz.prog 22 #[.agg #[p1,p2,p3],.agg #[v0,v1,v2,v3],.int .i64 f] w (lB w p f lc bs lp ll):=by
 have hB3:Below w.heap.size w (((w.alloc (.cells #[p1,p2,p3] 33)).alloc (.cells #[v0,v1,v2,v3] 29)).alloc (.cells #[.int .i64 0,.int .i64 0,.int .i64 0,.int .i64 0,.int .i64 0,.int .i64 0,.int .i64 0] 37)):=bl3 _ _ _
 have hw0:w0.heap.size<=w.heap.size:=hbel.size
 have hck:=eZ p1 p2 p3 p.sn p.tn p.fn p.sf p.tl p.fl p.tf p.ff _ (uG hB3 (mU htab) htab) (yQ hB3 (yQ hbel hv.s)) (yI hB3 (yI hbel hv.t)) (yI hB3 (yI hbel hv.f))
 have HCK:=zZ hck
 clear hck
 generalize hR:lB w p f lc bs lp ll=R
 have HR:=zZ hR
 clear hR
 go_enter Tryz.func22,Tryz.ntmps22
 go_wp2_with fail
 go_at_call 27
 refine(zY HCK).mono ?_
 rintro e w1 ⟨x,rfl,hx,hb1⟩
 obtain⟨t0,t1,t2⟩:=three w.heap (.cells #[p1,p2,p3] 33) (.cells #[v0,v1,v2,v3] 29) (.cells #[.int .i64 0,.int .i64 0,.int .i64 0,.int .i64 0,.int .i64 0,.int .i64 0,.int .i64 0] 37)
 have hsz3:(((w.alloc (.cells #[p1,p2,p3] 33)).alloc (.cells #[v0,v1,v2,v3] 29)).alloc (.cells #[.int .i64 0,.int .i64 0,.int .i64 0,.int .i64 0,.int .i64 0,.int .i64 0,.int .i64 0] 37)).heap.size=w.heap.size+3:=by simp
 have b34:=(hb1.block w.heap.size (by omega)).trans t0
 have b38:=(hb1.block (w.heap.size+1) (by omega)).trans t1
 have b76:=(hb1.block (w.heap.size+2) (by omega)).trans t2
 have hz1:w.heap.size+3<=w1.heap.size:=by rw [<-hsz3];exact hb1.size
 have hf1:Fr (fun _=>False) w w1 (fun _=>False):=(Fr.of_below hB3).trans (Fr.of_below hb1)
 have c34:=fun j=>cell_of_row w1 w.heap.size j _ 33 (0,0) b34
 have c38:=fun j=>cell_of_row w1 (w.heap.size+1) j _ 29 (0,0) b38
 have c76:=fun j=>cell_of_row w1 (w.heap.size+2) j _ 37 (0,0) b76
 have z76:=fun j=>yB b76 j
 have B34:=zZ b34
 have B76:=zZ b76
 have HX:=zZ hx
 have HF1:=zZ hf1
 clear t0 t1 t2 hsz3 b34 b38 b76 hb1 hx hf1 HCK hB3
 by_cases hx0:x=0
 ·subst hx0
  have ho:=tN (zY HX)
  have hf1:=zY HF1
  have pr:∀q,P q->w1.heap[q]?=w.heap[q]?:=fun q hq=>hf1.same q (hP q hq) (fun h=>h)
  have h48:=yL6 (w:=w1) (P:=P) (fun q hq=>by have:=hP q hq;omega) (h0.vals.block pr) (h1.block pr) (h2.vals.block pr) (h3.vals.block pr) (by simpa using Nat.le_trans n0 (by omega)) (by simpa using Nat.le_trans n1 (by omega)) (by simpa using Nat.le_trans n2 (by omega)) (by simpa using Nat.le_trans n3 (by omega))
  have H48:=zZ h48
  have HO:=zZ ho
  clear h48 pr hf1 ho
  go_wp2_with fail
  go_at_call 36
  refine(zY H48).mono ?_
  rintro e W1 ⟨rfl,hW1⟩
  obtain⟨f0,fW,_⟩:=eV w1 v0 v1 v2 v3 (lc.map (.int .i64)) (bs.map (·.1)) (lp.map (.int .i64)) (ll.map (.int .i64))
  rw [<-hW1] at f0 fW
  have h49:Calls Tryz.prog 37 #[] W1 fun e w'=>∃v,e=.returned (.pointer (some ⟨w1.heap.size+7,0,none⟩))/\rJ w' (W1.heap.size+1) W1.heap.size v tH/\Fr (fun _=>False) W1 w' (fun _=>False)/\(∀k,own v k->k=W1.heap.size)/\w'.heap.size=W1.heap.size+2:=by
   refine(cL W1).mono ?_
   rintro e w' ⟨v,rfl,r⟩
   exact⟨v,by rw [f0],r⟩
  have HW1:=zZ hW1
  have F0:=zZ f0
  have FW:=zZ fW
  have H49:=zZ h49
  clear hW1 f0 fW h49 H48
  go_wp2_with fail
  go_at_call 37
  refine(zY H49).mono ?_
  rintro e w2 ⟨v,rfl,lg,fr2,hown,hz2⟩
  have hL1:∀q,L q->q<w1.heap.size:=fun q hq=>by have:=hL q hq;omega
  have hsame1:∀q,q<w.heap.size->w1.heap[q]?=w.heap[q]?:=fun q hq=>(zY HF1).same q hq (fun h=>h)
  obtain⟨hrec,hf3,hz3,hz2'⟩:=zX0 (w:=w1) (L:=L) hL1 (fun b hb=>⟨(hbs b hb).1.block (fun q hq=>hsame1 q (hL q hq).2),(hbs b hb).2⟩) (by omega) (zY HW1) lg fr2 hown hz2
  have hf2:Fr (fun _=>False) w1 w2 (fun _=>False):=(zY FW).trans fr2
  have d34:=fun j=>cell_of_row w2 w.heap.size j _ 33 (0,0) ((hf2.same _ (by omega) (fun h=>h)).trans (zY B34))
  have e34:=fun j=>cell_of_row (w2.alloc (.cells #[.pointer (some ⟨w1.heap.size+5,0,none⟩),.pointer (some ⟨w1.heap.size+7,0,none⟩)] 95)) w.heap.size j _ 33 (0,0) ((hf3.same _ (by omega) (fun h=>h)).trans (zY B34))
  have hne1:w.heap.size≠w2.heap.size:=by omega
  have hne1':¬w2.heap.size=w.heap.size:=by omega
  have hbel3:Below w0.heap.size w0 (w2.alloc (.cells #[.pointer (some ⟨w1.heap.size+5,0,none⟩),.pointer (some ⟨w1.heap.size+7,0,none⟩)] 95)):=hbel.trans (((zY HF1).trans hf3).below (B:=w0.heap.size) (fun k hk=>hk.elim) hw0)
  have h50:=zQ8 (yG1 (w1.heap.size+8) L (fun q=>w1.heap[q]?)) (zW6 (w1.heap.size+8) L (fun q=>w1.heap[q]?)) lL qU (w0:=w0) (B:=w0.heap.size) (T:=recT w1.heap.size L) rfl hbel3 (fun k hk=>by
   rw [hz3]
   rcases hk with hk | hk
   ·omega
   ·have:=hL k hk;omega) hrec p1 p2 p3 (p:=p) ⟨hv.s,hv.t,hv.f⟩ (zY HO) f (by show lc.length<=5000000;omega)
  have H50:=zZ h50
  have HB76:=zZ ((hf3.same (w.heap.size+2) (by omega) (fun h=>h)).trans (zY B76))
  have HF3:=zZ hf3
  have HZ3:=zZ hz3
  have HZ2:=zZ hz2'
  clear lg fr2 hown hz2 H49 hf2 hrec hf3 hz3 h50 hbel3 hz2'
  rw [<-zY HZ2] at H50
  go_wp2_with fail
  go_at_call 29
  refine(zY H50).mono ?_
  rintro e w4 ⟨vt,s',S',T',b,rfl,hs,hri,hfr⟩
  change s'=(tW p f lc bs lp ll).1 at hs
  change RI _ _ S' w4 b _ vt T' s' (tW p f lc bs lp ll).2 at hri
  have hfin:=zG2 zM4 p (lc.length+1) f ⟨lc,bs,lp,ll,tH⟩
  change xL (tW p f lc bs lp ll).1 at hfin
  rw [<-hs] at hfin
  have hpost:lB w p f lc bs lp ll=fun e w'=>Fr (fun _=>False) w w' (fun _=>False)/\∃x,Ans p.tn p.fn (1+p.tn+p.fn) (qD p.sn p.tn p.tl p.fl) (qG p.tn p.sf p.tf p.ff) x/\
    ((x≠0/\e=.returned (.tuple #[.string ⟨#[]⟩,.slice none 0 0,.agg #[.int .i64 0,.int .i64 0,.int .i64 0,.int .i64 0,.int .i64 0,.int .i64 0,.int .i64 0],.int .i64 x]))\/
    (x=0/\∃vt,e=.returned (.tuple #[.string (sM (tW p f lc bs lp ll)),vt,qJ s',.int .i64 0])/\w'.ownsRow w.heap.size 72 3 vt s'.trace.length (xZ s'.trace))):=by
   rw [hs];rfl
  rw [show sM (tW p f lc bs lp ll)=(tW p f lc bs lp ll).2.log++yS (yT 5 0 s'.fin.toNat) by rw [hs];rfl] at hpost
  rw [hpost] at HR
  clear hpost hs
  generalize (tW p f lc bs lp ll).2=x' at *
  obtain⟨sb,lb,c0,c1,c2,c3,B',v',hrc⟩:=hri.src
  have hz4:w2.heap.size<w4.heap.size:=zT (by simp) hfr.size
  have hTn:∀q,q<w1.heap.size+1->recT w1.heap.size L q->L q:=fun q h1 h2=>h2.elim (fun h=>by omega) id
  have hS2:∀q,q<w1.heap.size+1->S' q->L q:=fun q h1 h2=>hTn q h1 (hfr.old q (by rw [zY HZ3];omega) h2)
  have hn2:¬S' (w.heap.size+1+1):=fun h=>by have:=hL _ (hS2 _ (by omega) h);omega
  have hlgT:∀q,lgS lb v' q->T' q/\¬L q:=fun q h=>h.elim (fun h=>by rw [h];exact⟨(hrc.inT lb (by simp)).1,(hrc.inT lb (by simp)).2.1⟩) (fun h=>hrc.vT q h)
  have b76:w4.heap[w.heap.size+1+1]?=some (.cells #[.int .i64 0,.int .i64 0,.int .i64 0,.int .i64 0,.int .i64 0,.int .i64 0,.int .i64 0] 37):=
   (hfr.same _ (by rw [zY HZ3];omega) (fun h=>by have:=hL _ (hTn _ (by omega) h);omega)).trans (zY HB76)
  have hend:=yI1 (w:=(w4.alloc (.cells #[.int .i64 s'.fin,.int .i64 (s'.reg 0),.int .i64 (s'.reg 1),.int .i64 (s'.reg 2),.int .i64 (s'.reg 3),.int .i64 s'.clock,.int .i64 s'.heard] 37)).drew) (lb:=lb) (B:=B') (v:=v') (b:=x'.log)
   (hrc.log.block (fun q hq=>zR _ _ _ (by
    rcases hq with rfl | hq
    ·exact hrc.log.lt
    ·exact(hrc.log.row.bump q hq).2)) (by show w4.heap.size<=(w4.alloc _).heap.size;simp))
   (by show B'<=(w4.alloc _).heap.size;have:=hrc.low;simp;omega) s'.fin.toNat (by have:=hfin.2;omega) (by have:=hrc.room;omega)
  have hfn:(s'.fin.toNat:Int)=s'.fin:=by have:=hfin.1;omega
  rw [hfn] at hend
  have r1:w4.cell? ⟨w2.heap.size,1,none⟩=some (.pointer (some ⟨lb,0,none⟩)):=hrc.r1
  have hne4:w2.heap.size≠w4.heap.size:=by omega
  have hne4':¬w4.heap.size=w2.heap.size:=by omega
  have hz76:w.heap.size+1+1<w4.heap.size:=(zN.1 b76).1
  have hne5:w.heap.size+1+1≠w4.heap.size:=by omega
  have nl:¬lgS lb v' (w.heap.size+1+1):=fun h=>hn2 (hri.inT _ (hlgT _ h).1).1
  have nb:¬lgS lb v' w4.heap.size:=fun h=>by have:=(hri.bound _ (hri.inT _ (hlgT _ h).1).1).2;omega
  have HEND:=zZ hend
  have HRI:=zZ hri
  have HFR:=zZ hfr
  have HRC:=zZ hrc
  have HB:=zZ b76
  have NL:=zZ nl
  have NB:=zZ nb
  clear hend hri hfr hrc b76 nl nb H50
  have hv4:=fun j=>cell_of_row (w4.alloc (.cells #[.int .i64 s'.fin,.int .i64 (s'.reg 0),.int .i64 (s'.reg 1),.int .i64 (s'.reg 2),.int .i64 (s'.reg 3),.int .i64 s'.clock,.int .i64 s'.heard] 37)) w4.heap.size j _ 37 (0,0) (heap_alloc_new _ _)
  go_wp2_with fail
  go_region_with (go_at_call 38;refine(zY HEND).mono ?_;rintro e w6 ⟨v6,rfl,l6,f6⟩;have q1:=(f6.same (w.heap.size+1+1) (by show _<(w4.alloc _).heap.size;simp;omega) (zY NL)).trans ((zR _ _ _ hz76).trans (zY HB));have q2:=(f6.same w4.heap.size (by show _<(w4.alloc _).heap.size;simp) (zY NB)).trans (heap_alloc_new w4 _);have u1:=fun j=>cell_of_row w6 _ j _ 37 (0,0) q1;have u2:=fun j=>cell_of_row w6 _ j _ 37 (0,0) q2;have uf:=fun j=>yB q1 j;have F6:=zZ f6;have Q1:=zZ q1;clear l6 f6 q1 q2)
  all_goals
   go_wp2
   obtain⟨g1,g2,g3⟩:=yM9 (zY HRI) (zY HRC) (zY HFR) hz1 (zY HF1) (zY HF3) (by rw [zY HZ3];omega) (zY F6)
   have g0:=fun j=>cell_of_row _ _ j _ 37 (0,0) (eY (zY Q1) (.int .i64 s'.fin) (.int .i64 (s'.reg 0)) (.int .i64 (s'.reg 1)) (.int .i64 (s'.reg 2)) (.int .i64 (s'.reg 3)) (.int .i64 s'.clock) (.int .i64 s'.heard))
   refine bodyPost_ret (v:=.tuple #[.string (x'.log++yS (yT 5 0 s'.fin.toNat)),vt,qJ s',.int .i64 0]) (by simp [results,Tryz.results22,go_sem,Act.put,g0,qJ]) rfl ?_
   rw [<-zY HR]
   refine⟨jL g1 (.inr (by omega)) _ _ _ _ _ _ _,0,zY HX,.inr ⟨rfl,vt,rfl,?_⟩⟩
   refine yA g2 (fun q hq=>?_)
   have hq':=g3 q hq
   rw [zQ _ _ _ _ hq',zQ _ _ _ _ hq',zQ _ _ _ _ hq',zQ _ _ _ _ hq',zQ _ _ _ _ hq',zQ _ _ _ _ hq',zQ _ _ _ _ hq']
 ·have hxb:(x==0)=false:=by simpa using hx0
  go_wp2
  have g0:=fun j=>cell_of_row _ _ j _ 37 (0,0) (eY (zY B76) (.int .i64 0) (.int .i64 0) (.int .i64 0) (.int .i64 0) (.int .i64 0) (.int .i64 0) (.int .i64 0))
  refine bodyPost_ret (v:=.tuple #[.string ⟨#[]⟩,.slice none 0 0,.agg #[.int .i64 0,.int .i64 0,.int .i64 0,.int .i64 0,.int .i64 0,.int .i64 0,.int .i64 0],.int .i64 x]) (by simp [results,Tryz.results22,go_sem,g0]) rfl ?_
  rw [<-zY HR]
  exact⟨jL (zY HF1) (.inr (by omega)) _ _ _ _ _ _ _,x,zY HX,.inl ⟨hx0,rfl⟩⟩
end Go.Proofs.YtfmbebofllgmoaaGreatDoor
namespace Go.Proofs.YtfmbebofllgmoaaGreatDoor
open Go.RowKit Go.Sort
theorem zS9 (s:PS):(xW s).Perm (vP s 8):=by
 have hp:=(insertionSort_holds (lt:=ltOf cfT) swoT (vP s 8).toArray 0 (vP s 8).toArray.size (Nat.zero_le _) (Nat.le_refl _)).1
 change (Sort.insertionSort (ltOf cfT) (vP s 8).toArray 0 (vP s 8).toArray.size).toList.Perm (vP s 8)
 generalize Sort.insertionSort (ltOf cfT) (vP s 8).toArray 0 (vP s 8).toArray.size=d at *
 have h1:=hp.2.2
 have hz:=hp.1
 have e:d.extract 0 (vP s 8).toArray.size=d:=by rw [<-hz];simp
 rw [e] at h1
 simpa using h1
theorem zC8 (s:PS):(xW s).Pairwise (fun a b=>ltOf cfT b a=false):=by
 have hs:=(insertionSort_holds (lt:=ltOf cfT) swoT (vP s 8).toArray 0 (vP s 8).toArray.size (Nat.zero_le _) (Nat.le_refl _)).2
 have hp:=(insertionSort_holds (lt:=ltOf cfT) swoT (vP s 8).toArray 0 (vP s 8).toArray.size (Nat.zero_le _) (Nat.le_refl _)).1
 change (Sort.insertionSort (ltOf cfT) (vP s 8).toArray 0 (vP s 8).toArray.size).toList.Pairwise _
 generalize Sort.insertionSort (ltOf cfT) (vP s 8).toArray 0 (vP s 8).toArray.size=d at *
 rw [List.pairwise_iff_getElem]
 intro i j hi hj hij
 have hz:=hp.1
 have hi':i<d.size:=by simpa using hi
 have hj':j<d.size:=by simpa using hj
 have:=hs i j (Nat.zero_le _) hij (by omega)
 simpa [hi',hj'] using this
