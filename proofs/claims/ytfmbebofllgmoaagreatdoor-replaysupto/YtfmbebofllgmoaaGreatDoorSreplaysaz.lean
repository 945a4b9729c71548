/-
  PROVED HERE: a list of inputs in memory, each with its files:
-/
import Derived.Test.YtfmbebofllgmoaaGreatDoorSreplaysau
import Derived.Test.YtfmbebofllgmoaaGreatDoorSreplaysax
import Derived.Test.YtfmbebofllgmoaaGreatDoorSreplaysay
import Derived.Test.YtfmbebofllgmoaaGreatDoorSreplaysbb
set_option maxHeartbeats 4000000
set_option maxRecDepth 100000
namespace Go.Proofs.YtfmbebofllgmoaaGreatDoor
open Go.RowKit
def xS:List (Inp×Value)->List Value
 | []=>[]
 | p::r=>.int .i64 p.1.1::.int .i64 p.1.2.1::.int .i64 p.1.2.2.1::p.2::xS r
theorem qK (a b:List (Inp×Value)):xS (a++b)=xS a++xS b:=by
 induction a with
 | nil=>rfl
 | cons x r ih=>simp [xS,ih]
def inS (v:Value) (ps:List (Inp×Value)) (q:Nat):Prop:=own v q\/∃p,p∈ps/\own p.2 q
structure rX (W:World) (B:Nat) (v:Value) (ps:List (Inp×Value)):Prop where
 row:W.ownsRow B 49 4 v ps.length (xS ps)
 fl:∀p,p∈ps->yZ W B p.2 (zs p.1.2.2.2)
 sep:∀p,p∈ps->∀q,own p.2 q->¬own v q
 dis:ps.Pairwise fun p p'=>∀q,own p.2 q->¬own p'.2 q
theorem oU {W:World} {B e size n:Nat} {v:Value} {xs:List Value} (h:W.ownsRow B e size v n xs) {q:Nat} (hq:own v q):∃cur,W.heap[q]?=some (.cells cur e (0,0)):=by
 rcases h.2 with ⟨rfl,_⟩ | ⟨g,cap,cur,rfl,_,hg,_⟩
 ·simp [own,Value.ownBlock] at hq
 ·simp only [own,Value.ownBlock,Option.some.injEq] at hq
  subst hq
  exact⟨cur,hg⟩
section
variable {W W':World} {B:Nat} {v:Value} {ps:List (Inp×Value)}
theorem rX.lt (h:rX W B v ps) {q:Nat} (hq:inS v ps q):B<=q/\q<W.heap.size:=by
 rcases hq with hq | ⟨p,hp,hq⟩
 ·exact zS h.row q hq
 ·exact zS (h.fl p hp) q hq
theorem rX.isCells (h:rX W B v ps) {q:Nat} (hq:inS v ps q):∃cur e,W.heap[q]?=some (.cells cur e (0,0)):=by
 rcases hq with hq | ⟨p,hp,hq⟩
 ·obtain⟨cur,h1⟩:=oU h.row hq;exact⟨cur,_,h1⟩
 ·obtain⟨cur,h1⟩:=oU (h.fl p hp) hq;exact⟨cur,_,h1⟩
theorem rX.block (h:rX W B v ps) (hb:∀q,inS v ps q->W'.heap[q]?=W.heap[q]?):rX W' B v ps:=
 ⟨yA h.row (fun q hq=>hb q (.inl hq)),fun p hp=>yA (h.fl p hp) (fun q hq=>hb q (.inr ⟨p,hp,hq⟩)),h.sep,h.dis⟩
theorem rX.nil (W:World) (B:Nat):rX W B (.slice none 0 0) []:=
 ⟨zX _ _ _ _,fun _ h=>absurd h (by simp),fun _ h=>absurd h (by simp),List.Pairwise.nil⟩
theorem aM (q:Nat):¬inS (.slice none 0 0) [] q:=by
 rintro (h | ⟨p,hp,_⟩)
 ·simp [own,Value.ownBlock] at h
 ·simp at hp
theorem rX.grow (h:rX W B v ps) (x:Inp) (fv:Value) (hf:yZ W B fv (zs x.2.2.2)) (hn:∀q,own fv q->¬inS v ps q) {w1:World} {v':Value} {tmp:Obj}
  (ho:w1.ownsRow B 49 4 v' (ps.length+1) (xS ps++[.int .i64 x.1,.int .i64 x.2.1,.int .i64 x.2.2.1,fv])) (hg:(W.alloc tmp).grownBy w1 v.ownBlock) (hat:v'.ownBlock=v.ownBlock\/v'.ownBlock=some (W.alloc tmp).heap.size) :
  rX w1 B v' (ps++[(x,fv)])/\(∀q,inS v' (ps++[(x,fv)]) q->inS v ps q\/own fv q\/W.heap.size<=q):=by
 have hv':∀q,own v' q->own v q\/q=W.heap.size+1:=by
  intro q hq
  rcases hat with e | e
  ·left;unfold own at hq ⊢;rw [<-e];exact hq
  ·right;unfold own at hq;rw [e] at hq;injection hq with hq;simp at hq;omega
 have same:∀q,q<W.heap.size->¬own v q->w1.heap[q]?=W.heap[q]?:=fun q hq hn=>(hg.block q (by simp;omega) (fun e=>hn e.symm)).trans (zR _ _ _ hq)
 refine⟨⟨?_,?_,?_,?_⟩,?_⟩
 ·rw [List.length_append,qK];exact ho
 ·intro p hp
  rcases List.mem_append.1 hp with hp | hp
  ·exact yA (h.fl p hp) (fun q hq=>same q (h.lt (.inr ⟨p,hp,hq⟩)).2 (h.sep p hp q hq))
  ·rw [List.mem_singleton.1 hp]
   exact yA hf (fun q hq=>same q (zS hf q hq).2 (fun e=>hn q hq (.inl e)))
 ·intro p hp q hq hv
  rcases hv' q hv with e | e
  ·rcases List.mem_append.1 hp with hp | hp
   ·exact h.sep p hp q hq e
   ·rw [List.mem_singleton.1 hp] at hq;exact hn q hq (.inl e)
  ·rcases List.mem_append.1 hp with hp | hp
   ·have:=(h.lt (.inr ⟨p,hp,hq⟩)).2;omega
   ·rw [List.mem_singleton.1 hp] at hq;have:=(zS hf q hq).2;omega
 ·refine List.pairwise_append.2 ⟨h.dis,List.pairwise_singleton _ _,?_⟩
  intro p hp p' hp' q hq hq'
  rw [List.mem_singleton.1 hp'] at hq'
  exact hn q hq' (.inr ⟨p,hp,hq⟩)
 ·rintro q (hq | ⟨p,hp,hq⟩)
  ·rcases hv' q hq with e | e
   ·exact .inl (.inl e)
   ·exact .inr (.inr (by omega))
  ·rcases List.mem_append.1 hp with hp | hp
   ·exact .inl (.inr ⟨p,hp,hq⟩)
   ·rw [List.mem_singleton.1 hp] at hq;exact .inr (.inl hq)
end
structure uY (W:World) (vb rb:Nat) (s:ByteArray) (a y:Int):Prop where
 v:W.heap[vb]?=some (.cells #[.pointer (some ⟨rb,0,none⟩)] 80)
 r:W.heap[rb]?=some (.cells #[.string s,.int .i64 a,.int .i64 y] 135)
theorem uY.ne {W:World} {vb rb:Nat} {s:ByteArray} {a y:Int} (h:uY W vb rb s a y):vb≠rb:=by
 intro e;have h1:=h.v;rw [e,h.r] at h1;cases h1
theorem uY.block {W W':World} {vb rb:Nat} {s:ByteArray} {a y:Int} (h:uY W vb rb s a y) (h1:W'.heap[vb]?=W.heap[vb]?) (h2:W'.heap[rb]?=W.heap[rb]?):uY W' vb rb s a y:=⟨h1.trans h.v,h2.trans h.r⟩
theorem set3 {W:World} {g e:Nat} {c:Array Value} (h:W.heap[g]?=some (.cells c e (0,0))) (i:Nat) (x:Value):(W.setCell ⟨g,i,none⟩ x).heap[g]?=some (.cells (c.setIfInBounds i x) e (0,0)):=by
 have h0:=setRow_heap W g c (c.setIfInBounds i x) e (0,0) h
 rwa [<-setCell_eq_setRow W g i c e (0,0) x h] at h0
structure RdJ (w0:World) (ib vb rb:Nat) (W:World) (ps:List (Inp×Value)):Prop where
 fr:Fr (fun _=>False) w0 W (fun _=>False)
 box:∃v,W.heap[ib]?=some (.cells #[v] 44)/\rX W w0.heap.size v ps/\¬inS v ps ib/\¬inS v ps vb/\¬inS v ps rb
 ge:w0.heap.size<=ib/\w0.heap.size<=vb/\w0.heap.size<=rb
 ne:ib≠vb/\ib≠rb
theorem RdJ.block {w0 W W':World} {ib vb rb:Nat} {ps:List (Inp×Value)} (h:RdJ w0 ib vb rb W ps) (hf:Fr (fun _=>False) w0 W' (fun _=>False)) (hb:∀q,w0.heap.size<=q->q<W.heap.size->q≠rb->q≠vb->(∃c e,W.heap[q]?=some (.cells c e (0,0)))->W'.heap[q]?=W.heap[q]?):RdJ w0 ib vb rb W' ps:=by
 obtain⟨v,h1,h2,h3,h4,h5⟩:=h.box
 refine⟨hf,⟨v,?_,h2.block (fun q hq=>?_),h3,h4,h5⟩,h.ge,h.ne⟩
 ·rw [hb ib h.ge.1 (zN.1 h1).1 h.ne.2 h.ne.1 ⟨_,_,h1⟩];exact h1
 ·obtain⟨c,e,hc⟩:=h2.isCells hq
  exact hb q (h2.lt hq).1 (h2.lt hq).2 (fun e=>h5 (e▸hq)) (fun e=>h4 (e▸hq)) ⟨c,e,hc⟩
end Go.Proofs.YtfmbebofllgmoaaGreatDoor
namespace Go.Proofs.YtfmbebofllgmoaaGreatDoor
open Go.RowKit
attribute [local go_sem ↓] Go.wp_at_zero Go.wp_at_succ
theorem sV (h:Array Obj) (a b:Obj):((h.push a).push b)[h.size]?=some a/\((h.push a).push b)[h.size+1]?=some b:=by
 refine⟨?_,?_⟩
 ·rw [Array.getElem?_push,if_neg (by simp),Array.getElem?_push,if_pos (by simp)]
 ·rw [Array.getElem?_push,if_pos (by simp)]
def qC (s:ByteArray) (w:World) (e:Ending) (w':World):Prop:=
 Fr (fun _=>False) w w' (fun _=>False)/\match ipL (bs s) with
 | none=>∃(a b c:Int) (fa:Option Addr) (fn fc:Nat),e=.returned (.tuple #[.agg #[.int .i64 a,.int .i64 b,.int .i64 c,.slice fa fn fc],.bool false])
 | some x=>∃fv,e=.returned (.tuple #[.agg #[.int .i64 x.1,.int .i64 x.2.1,.int .i64 x.2.2.1,fv],.bool true])/\yJ w' fv (zs x.2.2.2) (fun q=>w.heap.size<=q/\q<w'.heap.size)
theorem yW {s:ByteArray} {w w':World} {a b c:Int} {fa:Option Addr} {fn fc:Nat} (h:ipL (bs s)=none) (hf:Fr (fun _=>False) w w' (fun _=>False)):qC s w (.returned (.tuple #[.agg #[.int .i64 a,.int .i64 b,.int .i64 c,.slice fa fn fc],.bool false])) w':=by
 unfold qC;rw [h];exact⟨hf,a,b,c,fa,fn,fc,rfl⟩
theorem lR {s:ByteArray} {w w':World} {x:Inp} {fv:Value} (h:ipL (bs s)=some x) (hf:Fr (fun _=>False) w w' (fun _=>False)) (hi:yJ w' fv (zs x.2.2.2) (fun q=>w.heap.size<=q/\q<w'.heap.size)):qC s w (.returned (.tuple #[.agg #[.int .i64 x.1,.int .i64 x.2.1,.int .i64 x.2.2.1,fv],.bool true])) w':=by
 unfold qC;rw [h];exact⟨hf,fv,rfl,hi⟩
theorem oF {a b:ByteArray} (h:a≠b):¬a.toList=b.toList:=fun e=>h (ByteArray.ext (Array.toList_inj.1 (by rw [Go.ByteArray.toList_eq,Go.ByteArray.toList_eq] at e;exact e)))
theorem yU {W W':World} {g j:Nat} (h:W'.heap[g]?=W.heap[g]?):W'.cell? ⟨g,j,none⟩=W.cell? ⟨g,j,none⟩:=by simp only [World.cell?,h]
theorem nU (l:List Nat) (j:Nat):(zs l).getD j 0=((l.getD j 0:Nat):Int):=by
 unfold zs
 rw [List.getD_eq_getElem?_getD,List.getD_eq_getElem?_getD,List.getElem?_map]
 cases l[j]?<;>rfl
theorem zS1:∀(l:List Nat),(zs l).map Int.toNat=l
 | []=>rfl
 | x::r=>by
  have h:=zS1 r
  show Int.toNat (Int.ofNat x)::(zs r).map Int.toNat=_
  rw [h];rfl
theorem yE (W:World) (b j:Nat) (cur:Array Value) (e:Nat) (v:Value) (h:W.heap[b]?=some (.cells cur e (0,0))):(W.setCell ⟨b,j,none⟩ v).heap[b]?=some (.cells (cur.setIfInBounds j v) e (0,0)):=by
 have h0:=setRow_heap W b _ (cur.setIfInBounds j v) e (0,0) h
 rwa [<-setCell_eq_setRow W b j _ e (0,0) v h] at h0
structure nB (W:World) (B:Nat) (v:Value) (ps:List (Inp×Value)):Prop where
 row:W.ownsRow B 49 4 v ps.length (xS ps)
 fl:∀p,p∈ps->yJ W p.2 (zs p.1.2.2.2) (fun q=>B<=q/\q<W.heap.size/\¬own v q)
theorem nB.nil (W:World) (B:Nat):nB W B (.slice none 0 0) []:=⟨zX _ _ _ _,fun _ h=>absurd h (by simp)⟩
theorem nB.fr {W W':World} {B:Nat} {v:Value} {ps:List (Inp×Value)} (h:nB W B v ps) (hf:Fr (fun _=>False) W W' (fun _=>False)):nB W' B v ps:=
 ⟨yA h.row (fun q hq=>hf.same q (zS h.row q hq).2 (fun h=>h)),fun p hp=>yN (h.fl p hp) (fun q hq=>hf.same q hq.2.1 (fun h=>h)) (fun _ hq=>⟨hq.1,zT hq.2.1 hf.size,hq.2.2⟩)⟩
theorem nB.grow {W w1:World} {B:Nat} {v v':Value} {ps:List (Inp×Value)} (h:nB W B v ps) (x:Inp) (fv:Value) (hi:yJ W fv (zs x.2.2.2) (fun q=>B<=q/\q<W.heap.size/\¬own v q))
  (ho:w1.ownsRow B 49 4 v' (ps.length+1) (xS ps++[.int .i64 x.1,.int .i64 x.2.1,.int .i64 x.2.2.1,fv])) (hf:Fr (own v) W w1 (own v')):nB w1 B v' (ps++[(x,fv)]):=by
 have key:∀q,(B<=q/\q<W.heap.size/\¬own v q)->(B<=q/\q<w1.heap.size/\¬own v' q):=fun q hq=>⟨hq.1,zT hq.2.1 hf.size,fun h=>hq.2.2 (hf.old q hq.2.1 h)⟩
 refine⟨?_,fun p hp=>?_⟩
 ·rw [List.length_append,qK];exact ho
 ·rcases List.mem_append.1 hp with hp | hp
  ·exact yN (h.fl p hp) (fun q hq=>hf.same q hq.2.1 hq.2.2) key
  ·rw [List.mem_singleton.1 hp]
   exact yN hi (fun q hq=>hf.same q hq.2.1 hq.2.2) key
theorem yF8 (f:Nat) (l:List Nat) (a w:Nat) (h:rcL l=.inl w):rdL (f+1) l a=([],a,w):=by simp only [rdL,h]
theorem rd_end (f:Nat) (l:List Nat) (a:Nat) (x:Inp) (k:Nat) (h:rcL l=.inr (x,k)) (h5:x.1=5):rdL (f+1) l a=([x],a+k,if l.drop k=[] then 1 else 5):=by
 simp only [rdL,h];rw [if_pos h5]
def jW (s:ByteArray) (w:World) (e:Ending) (w':World):Prop:=
 ∃a c,∃ps:List (Inp×Value),e=.returned (.tuple #[.slice a ps.length c,.int .i64 (yR (bs s)).2.1,.int .i64 (yR (bs s)).2.2])/\nB w' w.heap.size (.slice a ps.length c) ps/\ps.map (·.1)=(yR (bs s)).1/\Fr (fun _=>False) w w' (fun _=>False)
def DRel (s:ByteArray) (w:World) (u6 u7:Value) (wr:World):Prop:=
 ∃(at_ f:Nat) (a:Option Addr) (c:Nat) (ps:List (Inp×Value)),u7=.int .i64 at_/\u6=.slice a ps.length c/\3<=at_/\at_<=s.size/\2*ps.length<=at_/\s.size<f+at_/\nB wr w.heap.size (.slice a ps.length c) ps/\Fr (fun _=>False) w wr (fun _=>False)/\
  yR (bs s)=(ps.map (·.1)++(rdL f ((bs s).drop at_) at_).1,(rdL f ((bs s).drop at_) at_).2)
theorem aZ {s:ByteArray} {w wr:World} {at_ f:Nat} {a:Option Addr} {c:Nat} {ps:List (Inp×Value)} {wy:Nat} (h:yR (bs s)=(ps.map (·.1)++(rdL f ((bs s).drop at_) at_).1,(rdL f ((bs s).drop at_) at_).2)) (hr:rdL f ((bs s).drop at_) at_=([],at_,wy)) (hi:nB wr w.heap.size (.slice a ps.length c) ps) (hf:Fr (fun _=>False) w wr (fun _=>False)) :
  jW s w (.returned (.tuple #[.slice a ps.length c,.int .i64 (at_:Nat),.int .i64 (wy:Nat)])) wr:=by
 rw [hr,List.append_nil] at h
 exact⟨a,c,ps,by rw [h],hi,by rw [h],hf⟩
theorem pB:kJ 44 49 4 48:=lD _ _ _ _ (.agg #[.int .i64 0,.int .i64 0,.int .i64 0,.slice none 0 0]) Tryz.underlying44 (by kernel_rfl) rfl
end Go.Proofs.YtfmbebofllgmoaaGreatDoor
namespace Go.Proofs.YtfmbebofllgmoaaGreatDoor
open Go.RowKit Go.Conc
attribute [local go_sem ↓] Go.wp_at_zero Go.wp_at_succ
theorem bD (k o n e:Int) (a:Option Addr) (l c:Nat) (w:World):Calls Tryz.prog 56 #[.agg #[.int .i64 k,.int .i64 o,.int .i64 n,.slice a l c],.int .i64 e] w fun r w'=>r=.returned (.bool (decide (k=5/\n=e)))/\Fr (fun _=>False) w w' (fun _=>False):=by
 by_cases hk:k=5
 ·subst hk
  by_cases hn:n=e
  ·subst hn
   go_enter Tryz.func56,Tryz.ntmps56
   go_wp2
   go_ret
   exact⟨by simp,(Fr.refl _ w).alloc _⟩
  ·have hnb:(n==e)=false:=by simpa using hn
   go_enter Tryz.func56,Tryz.ntmps56
   go_wp2
   go_ret
   exact⟨by simp [hn],(Fr.refl _ w).alloc _⟩
 ·have hkb:(k==5)=false:=by simpa using hk
  go_enter Tryz.func56,Tryz.ntmps56
  go_wp2
  go_ret
  exact⟨by simp [hk],(Fr.refl _ w).alloc _⟩
theorem Rn.skip {P:Program} {b:Frame} {R:Ending->World->Prop} {k:List Item} {a:Act} {w:World} {ops:Array Oper} {i:Nat} {rest:List Nat} {o:Oper} {w':World} (ho:ops[i]?=some o) (hw:Region.wanted o (yielded ops a.tmps)=true)
  (hr:(execOp a.eval o).run P w=.ok .skip w') (h:Rn P b R (.inRegion ops rest::k) (a.put o.dst undef) w'):Rn P b R (.inRegion ops (i::rest)::k) a w:=
 .step (fun cs=>by
  have hg:=stepG_op (P:=P) (b:=b) (k:=k) (cs:=cs) (w:=w) (rest:=rest) ho hw
  have hfin:(b.at a (.inRegion ops (i::rest)::k)).finish undef=b.at (a.put o.dst undef) (.inRegion ops rest::k):=by rw [Frame.finish_at,ho];rfl
  refine step_lone_go ?_
  rw [hg,<-hfin];simp [stepG.apply,hr]) h
def zB5 (p:Inp×Value):Value:=.agg #[.int .i64 p.1.1,.int .i64 p.1.2.1,.int .i64 p.1.2.2.1,p.2]
theorem u39 (x y z:Value):(#[x,y,z]++Array.replicate (39-(#[x,y,z]:Array Value).size) undef)=(x::y::z::List.replicate 36 undef).toArray:=by simp
abbrev z49:Obj:=.cells #[.int .i64 0,.int .i64 0,.int .i64 0,.slice none 0 0] 49
theorem zU0 {w:World} {rb ch:Nat} (hs:w.cell? ⟨rb,0,none⟩=some (.chan (some ch))) (hsb:rb<w.heap.size) (hne:rb≠ch) (hc:yK w ch []) (k o:Int) {R:Ending->World->Prop}
  (hR:∀w',Fr (fun k=>k=ch) w w' (fun k=>k=ch)->yK w' ch []->R (.returned (.tuple #[.agg #[.int .i64 0,.int .i64 0,.int .i64 0,.slice none 0 0],.int .i64 5])) w') :
  Calls Tryz.prog 180 #[.pointer (some ⟨rb,0,none⟩),.int .i64 k,.int .i64 o] w R:=by
 have HR:=zZ hR
 clear hR
 refine vJ Tryz.func180 rfl ?_
 rw [Tryz.ntmps180,u39]
 simp only [List.replicate]
 have hf1:=(Fr.refl (fun k=>k=ch) w).alloc z49
 have hs1:(w.alloc z49).cell? ⟨rb,0,none⟩=some (.chan (some ch)):=(hf1.cell rb 0 hsb hne).trans hs
 have hc1:yK (w.alloc z49) ch []:=hc.block (zR _ _ _ hc.lt)
 have hrow:=heap_alloc_new w z49
 have hw1:w.heap.size≠ch:=by have:=hc.lt;omega
 have hz1:w.heap.size<(w.alloc z49).heap.size:=by simp
 have HF1:=zZ hf1
 have HROW:=zZ hrow
 have HC1:=zZ hc1
 clear hf1 hrow hc1 hc hs
 refine Rn.seq (Rn.go ?_)
 go_wp2
 generalize hW:w.alloc z49=W1 at *
 clear hW
 refine yG (Rn.seq (Rn.region' [0,1,2,3,4,5,6,7,8,9,10] rfl ?_))
 refine Rn.op rfl rfl rfl ?_
 refine Rn.op rfl rfl rfl ?_
 refine Rn.op rfl rfl rfl ?_
 refine Rn.op (v:=.chan (some ch)) (w':=W1) rfl rfl ?_ ?_
 ·simp [execOp,Act.eval,Act.put,go_sem,hs1]
 refine Rn.take (c:=ch) (z:=.agg #[.int .i64 0,.int .i64 0,.int .i64 0,.slice none 0 0]) (vs:=[]) (by decide) rfl rfl ?_ (zY HC1) ?_
 ·simp [execOp,Act.eval,Act.put,go_sem,rcase]
 intro W2 f2 c2
 have C2:=zZ c2
 have F2:=zZ ((zY HF1).trans f2)
 have HR2:=zZ ((f2.same w.heap.size hz1 hw1).trans (zY HROW))
 have hz2:=zT hz1 f2.size
 clear c2 f2 HC1 HROW HF1 hs1
 simp only [Act.put]
 refine Rn.op (v:=.tuple #[.agg #[.int .i64 0,.int .i64 0,.int .i64 0,.slice none 0 0],.bool false]) (w':=W2) rfl rfl (by simp [execOp,Act.eval,go_sem]) ?_
 simp only [Act.put]
 refine Rn.op (v:=.agg #[.int .i64 0,.int .i64 0,.int .i64 0,.slice none 0 0]) (w':=W2) rfl rfl (by simp [execOp,Act.eval,go_sem]) ?_
 simp only [Act.put]
 refine Rn.op (v:=.bool false) (w':=W2) rfl rfl (by simp [execOp,Act.eval,go_sem]) ?_
 simp only [Act.put]
 refine Rn.op (v:=.pointer (some ⟨W2.heap.size,0,none⟩)) (w':=W2.alloc z49) rfl rfl (by simp [execOp,go_sem]) ?_
 simp only [Act.put]
 refine Rn.skip (w':=W2.alloc (.cells #[.int .i64 0,.int .i64 0,.int .i64 0,.slice none 0 0] 49)) rfl rfl (by simp [execOp,Act.eval,go_sem]) ?_
 simp only [Act.put]
 refine Rn.op (v:=.bool false) (w':=W2.alloc (.cells #[.int .i64 0,.int .i64 0,.int .i64 0,.slice none 0 0] 49)) rfl rfl (by simp [execOp,Act.eval,go_sem]) ?_
 simp only [Act.put]
 refine Rn.regionEnd ?_
 refine Rn.body rfl Tryz.func180 ?_
 have hrow:=(zR W2 z49 _ hz2).trans (zY HR2)
 have hfa:Fr (fun _=>False) W2 (W2.alloc z49) (fun _=>False):=(Fr.refl _ _).alloc _
 generalize hW:W2.alloc z49=W3 at *
 clear hW
 have hcell:=fun j=>cell_of_row W3 w.heap.size j _ 49 (0,0) hrow
 have hfz:=fun j=>yB hrow j
 have HFA:=zZ hfa
 clear hrow hfa
 go_wp2
 refine xU (bodyPost_ret (v:=.tuple #[.agg #[.int .i64 0,.int .i64 0,.int .i64 0,.slice none 0 0],.int .i64 5]) (by simp [results,Tryz.results180,go_sem,hcell]) rfl ?_)
 exact zY HR _ (iI (zY F2) (zY HFA) _ _ _ _) (iH (zY F2) (zY HFA) (zY C2) hw1 _ _ _ _)
theorem zJ8 {w:World} {rb ch:Nat} (hs:w.cell? ⟨rb,0,none⟩=some (.chan (some ch))) (hsb:rb<w.heap.size) (hne:rb≠ch) (k' o' n':Int) (fa:Option Addr) (fl fc:Nat) (vs:List Value) (hc:yK w ch (.agg #[.int .i64 k',.int .i64 o',.int .i64 n',.slice fa fl fc]::vs)) (k o:Int) {R:Ending->World->Prop}
  (hR:∀w',Fr (fun k=>k=ch) w w' (fun k=>k=ch)->yK w' ch vs->R (.returned (if k'=5/\n'=5 then .tuple #[.agg #[.int .i64 0,.int .i64 0,.int .i64 0,.slice none 0 0],.int .i64 5] else if k'≠k\/o'≠o then .tuple #[.agg #[.int .i64 0,.int .i64 0,.int .i64 0,.slice none 0 0],.int .i64 6] else .tuple #[.agg #[.int .i64 k',.int .i64 o',.int .i64 n',.slice fa fl fc],.int .i64 0])) w') :
  Calls Tryz.prog 180 #[.pointer (some ⟨rb,0,none⟩),.int .i64 k,.int .i64 o] w R:=by
 have HR:=zZ hR
 clear hR
 refine vJ Tryz.func180 rfl ?_
 rw [Tryz.ntmps180,u39]
 simp only [List.replicate]
 have hf1:=(Fr.refl (fun k=>k=ch) w).alloc z49
 have hs1:(w.alloc z49).cell? ⟨rb,0,none⟩=some (.chan (some ch)):=(hf1.cell rb 0 hsb hne).trans hs
 have hc1:yK (w.alloc z49) ch (.agg #[.int .i64 k',.int .i64 o',.int .i64 n',.slice fa fl fc]::vs):=hc.block (zR _ _ _ hc.lt)
 have hrow:=heap_alloc_new w z49
 have hw1:w.heap.size≠ch:=by have:=hc.lt;omega
 have hz1:w.heap.size<(w.alloc z49).heap.size:=by simp
 have HF1:=zZ hf1
 have HROW:=zZ hrow
 have HC1:=zZ hc1
 clear hf1 hrow hc1 hc hs
 refine Rn.seq (Rn.go ?_)
 go_wp2
 generalize hW:w.alloc z49=W1 at *
 clear hW
 refine yG (Rn.seq (Rn.region' [0,1,2,3,4,5,6,7,8,9,10] rfl ?_))
 refine Rn.op rfl rfl rfl ?_
 refine Rn.op rfl rfl rfl ?_
 refine Rn.op rfl rfl rfl ?_
 refine Rn.op (v:=.chan (some ch)) (w':=W1) rfl rfl ?_ ?_
 ·simp [execOp,Act.eval,Act.put,go_sem,hs1]
 refine Rn.take (c:=ch) (z:=.agg #[.int .i64 0,.int .i64 0,.int .i64 0,.slice none 0 0]) (vs:=.agg #[.int .i64 k',.int .i64 o',.int .i64 n',.slice fa fl fc]::vs) (by decide) rfl rfl ?_ (zY HC1) ?_
 ·simp [execOp,Act.eval,Act.put,go_sem,rcase]
 intro W2 f2 c2
 have C2:=zZ (show yK W2 ch vs from c2)
 have F2:=zZ ((zY HF1).trans f2)
 have HR2:=zZ ((f2.same w.heap.size hz1 hw1).trans (zY HROW))
 have hz2:=zT hz1 f2.size
 clear c2 f2 HC1 HROW HF1 hs1
 simp only [Act.put]
 refine Rn.op (v:=.tuple #[.agg #[.int .i64 k',.int .i64 o',.int .i64 n',.slice fa fl fc],.bool true]) (w':=W2) rfl rfl (by simp [execOp,Act.eval,go_sem]) ?_
 simp only [Act.put]
 refine Rn.op (v:=.agg #[.int .i64 k',.int .i64 o',.int .i64 n',.slice fa fl fc]) (w':=W2) rfl rfl (by simp [execOp,Act.eval,go_sem]) ?_
 simp only [Act.put]
 refine Rn.op (v:=.bool true) (w':=W2) rfl rfl (by simp [execOp,Act.eval,go_sem]) ?_
 simp only [Act.put]
 refine Rn.op (v:=.pointer (some ⟨W2.heap.size,0,none⟩)) (w':=W2.alloc z49) rfl rfl (by simp [execOp,go_sem]) ?_
 simp only [Act.put]
 refine Rn.skip (w':=W2.alloc (.cells #[.int .i64 k',.int .i64 o',.int .i64 n',.slice fa fl fc] 49)) rfl rfl (by simp [execOp,Act.eval,go_sem]) ?_
 simp only [Act.put]
 refine Rn.op (v:=.bool true) (w':=W2.alloc (.cells #[.int .i64 k',.int .i64 o',.int .i64 n',.slice fa fl fc] 49)) rfl rfl (by simp [execOp,Act.eval,go_sem]) ?_
 simp only [Act.put]
 refine Rn.regionEnd ?_
 refine Rn.body rfl Tryz.func180 ?_
 have hrow8:=heap_alloc_new W2 (.cells #[.int .i64 k',.int .i64 o',.int .i64 n',.slice fa fl fc] 49)
 have hrow6:=(zR W2 (.cells #[.int .i64 k',.int .i64 o',.int .i64 n',.slice fa fl fc] 49) _ hz2).trans (zY HR2)
 have hfa:Fr (fun _=>False) W2 (W2.alloc (.cells #[.int .i64 k',.int .i64 o',.int .i64 n',.slice fa fl fc] 49)) (fun _=>False):=(Fr.refl _ _).alloc _
 generalize hW:W2.alloc (.cells #[.int .i64 k',.int .i64 o',.int .i64 n',.slice fa fl fc] 49)=W3 at *
 clear hW
 have g8:=fun j=>cell_of_row W3 W2.heap.size j _ 49 (0,0) hrow8
 have H8:=zZ hrow8
 have H6:=zZ hrow6
 have HFA:=zZ hfa
 have hl8:=(zN.1 hrow8).1
 have hl6:=(zN.1 hrow6).1
 clear hrow8 hrow6 hfa
 have H56:=zZ (bD k' o' n' 5 fa fl fc W3)
 by_cases h5:k'=5/\n'=5
 ·rw [if_pos h5] at HR
  simp only [decide_eq_true h5] at H56
  clear h5
  go_wp2_with (go_at_call 56;refine(zY H56).mono ?_;rintro e W4 ⟨rfl,f4⟩;have r6:=(f4.same _ hl6 (fun h=>h)).trans (zY H6);have c6:=fun j=>cell_of_row W4 _ j _ 49 (0,0) r6;have z6:=fun j=>yB r6 j;have r8:=(f4.same _ hl8 (fun h=>h)).trans (zY H8);have c8:=fun j=>cell_of_row W4 _ j _ 49 (0,0) r8;have F4:=zZ ((zY HFA).trans f4);clear f4 r6 r8)
  refine xU (bodyPost_ret (v:=.tuple #[.agg #[.int .i64 0,.int .i64 0,.int .i64 0,.slice none 0 0],.int .i64 5]) (by simp [results,Tryz.results180,go_sem,c6]) rfl ?_)
  exact zY HR _ (iI (zY F2) (zY F4) _ _ _ _) (iH (zY F2) (zY F4) (zY C2) hw1 _ _ _ _)
 ·rw [if_neg h5] at HR
  simp only [decide_eq_false h5] at H56
  clear h5
  by_cases hk:k'=k
  ·subst hk
   by_cases ho:o'=o
   ·subst ho
    rw [if_neg (by simp)] at HR
    go_wp2_with (go_at_call 56;refine(zY H56).mono ?_;rintro e W4 ⟨rfl,f4⟩;have r6:=(f4.same _ hl6 (fun h=>h)).trans (zY H6);have c6:=fun j=>cell_of_row W4 _ j _ 49 (0,0) r6;have z6:=fun j=>yB r6 j;have r8:=(f4.same _ hl8 (fun h=>h)).trans (zY H8);have c8:=fun j=>cell_of_row W4 _ j _ 49 (0,0) r8;have F4:=zZ ((zY HFA).trans f4);clear f4 r6 r8)
    refine xU (bodyPost_ret (v:=.tuple #[.agg #[.int .i64 k',.int .i64 o',.int .i64 n',.slice fa fl fc],.int .i64 0]) (by simp [results,Tryz.results180,go_sem,c6]) rfl ?_)
    exact zY HR _ (iI (zY F2) (zY F4) _ _ _ _) (iH (zY F2) (zY F4) (zY C2) hw1 _ _ _ _)
   ·rw [if_pos (.inr ho)] at HR
    have hob:(o' != o)=true:=by simpa using ho
    go_wp2_with (go_at_call 56;refine(zY H56).mono ?_;rintro e W4 ⟨rfl,f4⟩;have r6:=(f4.same _ hl6 (fun h=>h)).trans (zY H6);have c6:=fun j=>cell_of_row W4 _ j _ 49 (0,0) r6;have z6:=fun j=>yB r6 j;have r8:=(f4.same _ hl8 (fun h=>h)).trans (zY H8);have c8:=fun j=>cell_of_row W4 _ j _ 49 (0,0) r8;have F4:=zZ ((zY HFA).trans f4);clear f4 r6 r8)
    refine xU (bodyPost_ret (v:=.tuple #[.agg #[.int .i64 0,.int .i64 0,.int .i64 0,.slice none 0 0],.int .i64 6]) (by simp [results,Tryz.results180,go_sem,c6]) rfl ?_)
    exact zY HR _ (iI (zY F2) (zY F4) _ _ _ _) (iH (zY F2) (zY F4) (zY C2) hw1 _ _ _ _)
  ·rw [if_pos (.inl hk)] at HR
   have hkb:(k' != k)=true:=by simpa using hk
   go_wp2_with (go_at_call 56;refine(zY H56).mono ?_;rintro e W4 ⟨rfl,f4⟩;have r6:=(f4.same _ hl6 (fun h=>h)).trans (zY H6);have c6:=fun j=>cell_of_row W4 _ j _ 49 (0,0) r6;have z6:=fun j=>yB r6 j;have r8:=(f4.same _ hl8 (fun h=>h)).trans (zY H8);have c8:=fun j=>cell_of_row W4 _ j _ 49 (0,0) r8;have F4:=zZ ((zY HFA).trans f4);clear f4 r6 r8)
   refine xU (bodyPost_ret (v:=.tuple #[.agg #[.int .i64 0,.int .i64 0,.int .i64 0,.slice none 0 0],.int .i64 6]) (by simp [results,Tryz.results180,go_sem,c6]) rfl ?_)
   exact zY HR _ (iI (zY F2) (zY F4) _ _ _ _) (iH (zY F2) (zY F4) (zY C2) hw1 _ _ _ _)
def bG (x:Option (Int×Int×Int×Option Addr×Nat×Nat)) (vs:List Value):List Value:=match x with
 | none=>[]
 | some (k',o',n',fa,fl,fc)=>.agg #[.int .i64 k',.int .i64 o',.int .i64 n',.slice fa fl fc]::vs
def endX (own:Int) (x:Option (Int×Int×Int×Option Addr×Nat×Nat)):Int:=match x with
 | none=>own
 | some (k',_,n',_)=>if k'=5/\n'=own then own else 6
theorem u30 (x y:Value):(#[x,y]++Array.replicate (30-(#[x,y]:Array Value).size) undef)=(x::y::List.replicate 28 undef).toArray:=by simp
theorem yK4 {w:World} {rb ch:Nat} (hs:w.cell? ⟨rb,0,none⟩=some (.chan (some ch))) (own:Int) (x:Option (Int×Int×Int×Option Addr×Nat×Nat)) (vs:List Value) (hc:yK w ch (bG x vs)) :
  Calls Tryz.prog 30 #[.pointer (some ⟨rb,0,none⟩),.int .i64 own] w fun e w'=>e=.returned (.int .i64 (if own=5\/own=6 then own else endX own x))/\Fr (fun k=>k=ch) w w' (fun k=>k=ch):=by
 by_cases h56:own=5\/own=6
 ·simp only [if_pos h56]
  rcases h56 with rfl | rfl
  all_goals
   refine vJ Tryz.func30 rfl ?_
   rw [Tryz.ntmps30,u30]
   simp only [List.replicate]
   refine Rn.seq (Rn.go ?_)
   go_wp2
   refine yG (Rn.seq (Rn.body rfl Tryz.func30 ?_))
   go_wp2
   refine xU (bodyPost_ret (by simp [results,Tryz.results30,go_sem]) rfl ⟨rfl,Fr.refl _ _⟩)
 simp only [if_neg h56]
 have b5:(own==5)=false:=by simp;omega
 have b6:(own==6)=false:=by simp;omega
 have HC:=zZ hc
 clear hc
 refine vJ Tryz.func30 rfl ?_
 rw [Tryz.ntmps30,u30]
 simp only [List.replicate]
 refine Rn.seq (Rn.go ?_)
 go_wp2
 refine yG (Rn.seq (Rn.go ?_))
 go_wp2
 refine yG (Rn.seq (Rn.seq (Rn.region' [0,1,2,3,4,5,6,7,8,9,10] rfl ?_)))
 refine Rn.op rfl rfl rfl ?_
 refine Rn.op rfl rfl rfl ?_
 refine Rn.op rfl rfl rfl ?_
 refine Rn.op (v:=.chan (some ch)) (w':=w) rfl rfl ?_ ?_
 ·simp [execOp,Act.eval,Act.put,go_sem,hs]
 refine Rn.take (c:=ch) (z:=.agg #[.int .i64 0,.int .i64 0,.int .i64 0,.slice none 0 0]) (by decide) rfl rfl ?_ (zY HC) ?_
 ·simp [execOp,Act.eval,Act.put,go_sem,rcase]
 intro W2 f2 c2
 have F2:=zZ f2
 clear c2 f2 HC
 simp only [Act.put]
 rcases x with _ | ⟨k',o',n',fa,fl,fc⟩
 ·simp only [bG,endX]
  refine Rn.op (v:=.tuple #[.agg #[.int .i64 0,.int .i64 0,.int .i64 0,.slice none 0 0],.bool false]) (w':=W2) rfl rfl (by simp [execOp,Act.eval,go_sem]) ?_
  simp only [Act.put]
  refine Rn.op (v:=.agg #[.int .i64 0,.int .i64 0,.int .i64 0,.slice none 0 0]) (w':=W2) rfl rfl (by simp [execOp,Act.eval,go_sem]) ?_
  simp only [Act.put]
  refine Rn.op (v:=.bool false) (w':=W2) rfl rfl (by simp [execOp,Act.eval,go_sem]) ?_
  simp only [Act.put]
  refine Rn.op (v:=.pointer (some ⟨W2.heap.size,0,none⟩)) (w':=W2.alloc z49) rfl rfl (by simp [execOp,go_sem]) ?_
  simp only [Act.put]
  refine Rn.skip (w':=W2.alloc (.cells #[.int .i64 0,.int .i64 0,.int .i64 0,.slice none 0 0] 49)) rfl rfl (by simp [execOp,Act.eval,go_sem]) ?_
  simp only [Act.put]
  refine Rn.op (v:=.bool false) (w':=W2.alloc (.cells #[.int .i64 0,.int .i64 0,.int .i64 0,.slice none 0 0] 49)) rfl rfl (by simp [execOp,Act.eval,go_sem]) ?_
  simp only [Act.put]
  refine Rn.regionEnd ?_
  refine Rn.go ?_
  go_wp2
  refine yG (Rn.body rfl Tryz.func30 ?_)
  go_wp2
  refine xU (bodyPost_ret (by simp [results,Tryz.results30,go_sem]) rfl ⟨rfl,(zY F2).alloc _⟩)
 ·simp only [bG,endX]
  refine Rn.op (v:=.tuple #[.agg #[.int .i64 k',.int .i64 o',.int .i64 n',.slice fa fl fc],.bool true]) (w':=W2) rfl rfl (by simp [execOp,Act.eval,go_sem]) ?_
  simp only [Act.put]
  refine Rn.op (v:=.agg #[.int .i64 k',.int .i64 o',.int .i64 n',.slice fa fl fc]) (w':=W2) rfl rfl (by simp [execOp,Act.eval,go_sem]) ?_
  simp only [Act.put]
  refine Rn.op (v:=.bool true) (w':=W2) rfl rfl (by simp [execOp,Act.eval,go_sem]) ?_
  simp only [Act.put]
  refine Rn.op (v:=.pointer (some ⟨W2.heap.size,0,none⟩)) (w':=W2.alloc z49) rfl rfl (by simp [execOp,go_sem]) ?_
  simp only [Act.put]
  refine Rn.skip (w':=W2.alloc (.cells #[.int .i64 k',.int .i64 o',.int .i64 n',.slice fa fl fc] 49)) rfl rfl (by simp [execOp,Act.eval,go_sem]) ?_
  simp only [Act.put]
  refine Rn.op (v:=.bool true) (w':=W2.alloc (.cells #[.int .i64 k',.int .i64 o',.int .i64 n',.slice fa fl fc] 49)) rfl rfl (by simp [execOp,Act.eval,go_sem]) ?_
  simp only [Act.put]
  refine Rn.regionEnd ?_
  have hrow8:=heap_alloc_new W2 (.cells #[.int .i64 k',.int .i64 o',.int .i64 n',.slice fa fl fc] 49)
  have hfa:Fr (fun _=>False) W2 (W2.alloc (.cells #[.int .i64 k',.int .i64 o',.int .i64 n',.slice fa fl fc] 49)) (fun _=>False):=(Fr.refl _ _).alloc _
  generalize hW:W2.alloc (.cells #[.int .i64 k',.int .i64 o',.int .i64 n',.slice fa fl fc] 49)=W3 at *
  clear hW
  have g8:=fun j=>cell_of_row W3 W2.heap.size j _ 49 (0,0) hrow8
  have HFA:=zZ hfa
  clear hrow8 hfa
  have H56:=zZ (bD k' o' n' own fa fl fc W3)
  by_cases h:k'=5/\n'=own
  ·simp only [decide_eq_true h] at H56
   rw [if_pos h]
   clear h
   refine Rn.go ?_
   go_wp2_with (go_at_call 56;refine(zY H56).mono ?_;rintro e W4 ⟨rfl,f4⟩;have F4:=zZ ((zY HFA).trans f4);clear f4)
   refine yG (Rn.body rfl Tryz.func30 ?_)
   go_wp2
   refine xU (bodyPost_ret (by simp [results,Tryz.results30,go_sem]) rfl ⟨rfl,(zY F2).trans ((zY F4).wide _)⟩)
  ·simp only [decide_eq_false h] at H56
   rw [if_neg h]
   clear h
   refine Rn.body rfl Tryz.func30 ?_
   go_wp2_with (go_at_call 56;refine(zY H56).mono ?_;rintro e W4 ⟨rfl,f4⟩;have F4:=zZ ((zY HFA).trans f4);clear f4)
   refine xU (bodyPost_ret (by simp [results,Tryz.results30,go_sem]) rfl ⟨rfl,(zY F2).trans ((zY F4).wide _)⟩)
end Go.Proofs.YtfmbebofllgmoaaGreatDoor
namespace Go.Proofs.YtfmbebofllgmoaaGreatDoor
open Go.RowKit
/-! ### What is read fits -/
theorem zQ1 {l:List Nat} (hb:∀x,x∈l->x<256) {x:Inp} {k:Nat} (h:rcL l=.inr (x,k)):Fit x:=by
 cases l with
 | nil=>simp [rcL] at h
 | cons n t=>
  simp only [rcL] at h
  split at h
  ·cases h
  split at h
  ·cases h
  split at h
  ·cases h
  split at h
  ·cases h
  split at h
  ·cases h
  ·rename_i y hy
   injection h with h
   injection h with h1 h2
   subst h1
   exact((jI _ (fun z hz=>hb z (List.mem_cons_of_mem _ (List.mem_of_mem_take hz))) y).1 hy).1
theorem zQ2:∀(f:Nat) (l:List Nat) (a:Nat),(∀x,x∈l->x<256)->∀x,x∈(rdL f l a).1->Fit x
 | 0,_,_,_,x,h=>by simp [rdL] at h
 | f+1,l,a,hb,x,h=>by
  simp only [rdL] at h
  cases hr:rcL l with
  | inl w=>rw [hr] at h;simp at h
  | inr q=>
   obtain⟨y,k⟩:=q
   rw [hr] at h
   simp only at h
   split at h
   ·rw [List.mem_singleton.1 h];exact zQ1 hb hr
   ·rcases List.mem_cons.1 h with h | h
    ·rw [h];exact zQ1 hb hr
    ·exact zQ2 f _ _ (fun z hz=>hb z (List.mem_of_mem_drop hz)) x h
theorem zW4 (s:ByteArray):∀x,x∈(yR (bs s)).1->Fit x:=by
 intro x h
 unfold yR at h
 split at h
 ·exact zQ2 _ _ _ (fun z hz=>fP s z (List.mem_of_mem_drop hz)) x h
 ·split at h<;>simp at h
def rdV (s:ByteArray):VL:=⟨(yR (bs s)).1,zW4 s⟩
/-! ### The source in memory -/
structure zO4 (rb ch:Nat) (T:Nat->Prop) (w:World) (ps:List (Inp×Value)):Prop where
 r:w.heap[rb]?=some (.cells #[.chan (some ch)] 118)
 c:yK w ch (ps.map zB5)
 ne:rb≠ch
 inT:T rb/\T ch
 sh:∀p,p∈ps->∃a l c,p.2=.slice a l c
 fl:∀p,p∈ps->yJ w p.2 (zs p.1.2.2.2) (fun q=>own p.2 q/\T q)
 ow:∀p,p∈ps->∀q,own p.2 q->q≠rb/\q≠ch
 dis:ps.Pairwise fun p p'=>∀q,own p.2 q->¬own p'.2 q
def RepA (rb ch:Nat) (T:Nat->Prop) (w:World) (y:VL):Prop:=∃ps,zO4 rb ch T w ps/\ps.map (·.1)=y.1
theorem yG2 (rb ch:Nat):xC (RepA rb ch):=by
 constructor
 rintro S w w' y ⟨ps,h,e⟩ hs _
 exact⟨ps,⟨(hs rb h.inT.1).trans h.r,h.c.block (hs ch h.inT.2),h.ne,h.inT,h.sh,fun p hp=>(h.fl p hp).block (fun q hq=>hs q hq.2),h.ow,h.dis⟩,e⟩
theorem aQ:zO3 75 180:=fun a k o w=>by kernel_rfl
theorem zX3 {B:Nat} {may:Int->Int->Prop} (rb ch:Nat):uE (RepA rb ch) mQ may B rb 75 180:=by
 refine⟨aQ,?_⟩
 rintro T w ⟨l,hl⟩ k o ⟨ps,h,e⟩ hT _
 change ps.map (·.1)=l at e
 have c0:w.cell? ⟨rb,0,none⟩=some (.chan (some ch)):=cell_of_row _ _ 0 _ 118 (0,0) h.r
 have frT:∀{w':World} {T':Nat->Prop},Fr (fun k=>k=ch) w w' (fun k=>k=ch)->(∀k,T' k->T k)->Fr T w w' T':=fun f ht=>⟨f.os,f.tape,f.output,f.size,fun k hk hn=>f.same k hk (fun e=>hn (e▸h.inT.2)),fun k _ h=>ht k h⟩
 cases ps with
 | nil=>
  subst e
  refine zU0 c0 (hT rb h.inT.1) h.ne h.c k o ?_
  intro w' f c
  refine⟨.slice none 0 0,T,rfl,⟨[],⟨(f.same rb (hT rb h.inT.1) h.ne).trans h.r,c,h.ne,h.inT,fun _ h=>absurd h (by simp),fun _ h=>absurd h (by simp),fun _ h=>absurd h (by simp),List.Pairwise.nil⟩,rfl⟩,frT f (fun _ h=>h),fun q hq=>zT (hT q hq) f.size,sD _ _⟩
 | cons p r=>
  obtain⟨⟨xk,xo,xn,xf⟩,v⟩:=p
  obtain⟨fa,fl,fc,hv⟩:=h.sh _ (List.mem_cons_self ..)
  change v=_ at hv
  subst hv
  subst e
  obtain⟨d1,d2⟩:=List.pairwise_cons.1 h.dis
  refine zJ8 c0 (hT rb h.inT.1) h.ne xk xo xn fa fl fc (r.map zB5) h.c k o ?_
  intro w' f c
  have hsame:∀q,T q->q≠ch->w'.heap[q]?=w.heap[q]?:=fun q hq hn=>f.same q (hT q hq) hn
  have hrep:zO4 rb ch (fun q=>T q/\¬own (.slice fa fl fc) q) w' r:=by
   refine⟨(hsame rb h.inT.1 h.ne).trans h.r,c,h.ne,⟨⟨h.inT.1,fun ho=>(h.ow _ (List.mem_cons_self ..) rb ho).1 rfl⟩,⟨h.inT.2,fun ho=>(h.ow _ (List.mem_cons_self ..) ch ho).2 rfl⟩⟩,fun p hp=>h.sh p (List.mem_cons_of_mem _ hp),?_,fun p hp=>h.ow p (List.mem_cons_of_mem _ hp),d2⟩
   intro p hp
   refine yN (h.fl p (List.mem_cons_of_mem _ hp)) (fun q hq=>hsame q hq.2 (h.ow p (List.mem_cons_of_mem _ hp) q hq.1).2) (fun q hq=>⟨hq.1,hq.2,fun ho=>d1 p hp q ho hq.1⟩)
  have hy:r.map (·.1)=(mQ ⟨_,hl⟩ k o).2.1:=rfl
  have hb:∀q,T q/\¬own (.slice fa fl fc) q->q<w'.heap.size:=fun q hq=>zT (hT q hq.1) f.size
  have key:∀fv,Value.tuple #[.agg #[.int .i64 (vW ((xk,xo,xn,xf)::r.map (·.1)) k o).kind,.int .i64 (vW ((xk,xo,xn,xf)::r.map (·.1)) k o).of,.int .i64 (vW ((xk,xo,xn,xf)::r.map (·.1)) k o).n,fv],.int .i64 (vW ((xk,xo,xn,xf)::r.map (·.1)) k o).e]=(if (xk:Int)=5/\(xn:Int)=5 then .tuple #[.agg #[.int .i64 0,.int .i64 0,.int .i64 0,.slice none 0 0],.int .i64 5] else if (xk:Int)≠k\/(xo:Int)≠o then .tuple #[.agg #[.int .i64 0,.int .i64 0,.int .i64 0,.slice none 0 0],.int .i64 6] else .tuple #[.agg #[.int .i64 xk,.int .i64 xo,.int .i64 xn,.slice fa fl fc],.int .i64 0])->yJ w' fv (vW ((xk,xo,xn,xf)::r.map (·.1)) k o).files (fun q=>(q<B\/w.heap.size<=q\/T q)/\q<w'.heap.size/\¬(T q/\¬own (.slice fa fl fc) q))->
    ∃fv T',Ending.returned (if (xk:Int)=5/\(xn:Int)=5 then .tuple #[.agg #[.int .i64 0,.int .i64 0,.int .i64 0,.slice none 0 0],.int .i64 5] else if (xk:Int)≠k\/(xo:Int)≠o then .tuple #[.agg #[.int .i64 0,.int .i64 0,.int .i64 0,.slice none 0 0],.int .i64 6] else .tuple #[.agg #[.int .i64 xk,.int .i64 xo,.int .i64 xn,.slice fa fl fc],.int .i64 0])=.returned (.tuple #[.agg #[.int .i64 (vW ((xk,xo,xn,xf)::r.map (·.1)) k o).kind,.int .i64 (vW ((xk,xo,xn,xf)::r.map (·.1)) k o).of,.int .i64 (vW ((xk,xo,xn,xf)::r.map (·.1)) k o).n,fv],.int .i64 (vW ((xk,xo,xn,xf)::r.map (·.1)) k o).e])/\
     RepA rb ch T' w' (mQ ⟨(((xk,xo,xn,xf),Value.slice fa fl fc)::r).map (·.1),hl⟩ k o).2/\Fr T w w' T'/\(∀q,T' q->q<w'.heap.size)/\yJ w' fv (vW ((xk,xo,xn,xf)::r.map (·.1)) k o).files (fun q=>(q<B\/w.heap.size<=q\/T q)/\q<w'.heap.size/\¬T' q):=
   fun fv e1 e2=>⟨fv,_,by rw [<-e1],⟨r,hrep,hy⟩,frT f (fun _ h=>h.1),hb,e2⟩
  by_cases h5:xk=5/\xn=5
  ·refine key (.slice none 0 0) ?_ ?_
   ·simp only [vW];rw [if_pos h5,if_pos (by omega)];rfl
   ·simp only [vW];rw [if_pos h5];exact sD _ _
  ·by_cases hk:(xk:Int)≠k\/(xo:Int)≠o
   ·refine key (.slice none 0 0) ?_ ?_
    ·simp only [vW];rw [if_neg h5,if_pos hk,if_neg (by omega),if_pos hk];rfl
    ·simp only [vW];rw [if_neg h5,if_pos hk];exact sD _ _
   ·refine key (.slice fa fl fc) ?_ ?_
    ·simp only [vW];rw [if_neg h5,if_neg hk,if_neg (by omega),if_neg hk];rfl
    ·simp only [vW];rw [if_neg h5,if_neg hk]
     have hf:=h.fl _ (List.mem_cons_self ..)
     refine yN hf (fun q hq=>hsame q hq.2 (h.ow _ (List.mem_cons_self ..) q hq.1).2) (fun q hq=>⟨.inr (.inr hq.2),zT (hT q hq.2) f.size,fun hn=>hn.2 hq.1⟩)
/-! ### It is made -/
theorem iC:∀(ps:List (Inp×Value)) (i:Nat) (p:Inp×Value),ps[i]?=some p->(xS ps)[i*4]?=some (.int .i64 p.1.1)/\(xS ps)[i*4+1]?=some (.int .i64 p.1.2.1)/\(xS ps)[i*4+2]?=some (.int .i64 p.1.2.2.1)/\(xS ps)[i*4+3]?=some p.2
 | [],i,p,h=>by simp at h
 | x::r,0,p,h=>by
  simp at h
  subst h
  exact⟨rfl,rfl,rfl,rfl⟩
 | x::r,i+1,p,h=>by
  have hr:=iC r i p (by simpa using h)
  have e:∀j,(xS (x::r))[(i+1)*4+j]?=(xS r)[i*4+j]?:=fun j=>by
   rw [show (i+1)*4+j=(i*4+j)+4 by omega];rfl
  exact⟨(e 0).trans hr.1,(e 1).trans hr.2.1,(e 2).trans hr.2.2.1,(e 3).trans hr.2.2.2⟩
theorem sF {W:World} {B e size n:Nat} {v:Value} {xs:List Value} (h:W.ownsRow B e size v n xs) (hn:0<n):∃g c,v=.slice (some ⟨g,0,none⟩) n c/\B<=g/\g<W.heap.size/\∀j u,xs[j]?=some u->W.cell? ⟨g,j,none⟩=some u:=by
 rcases h.2 with ⟨_,h0⟩ | ⟨g,cap,cur,hv,hB,hg,h1,h2,h3,h4⟩
 ·omega
 ·refine⟨g,cap,hv,hB,(zN.1 hg).1,fun j u hj=>?_⟩
  rw [cell_of_row W g j cur e (0,0) hg]
  have hlt:=(List.getElem?_eq_some_iff.1 hj).1
  rw [<-h4,List.getElem?_take_of_lt (by rw [<-h4,List.length_take] at hlt;omega)] at hj
  simpa using hj
theorem zN3 {W:World} {B e size n:Nat} {v:Value} {xs:List Value} (h:W.ownsRow B e size v n xs):∃a c,v=.slice a n c:=by
 rcases h.2 with ⟨h1,h0⟩ | ⟨g,cap,cur,hv,_⟩
 ·exact⟨none,0,by rw [h0];exact h1⟩
 ·exact⟨_,_,hv⟩
theorem yE6 {w:World} {B:Nat} {a:Option Addr} {n c:Nat} {ps:List (Inp×Value)} (h:rX w B (.slice a n c) ps) (hn:ps.length<=2000000) :
  Calls Tryz.prog 28 #[.slice a n c] w fun e w'=>∃rb,e=.returned (.pointer (some ⟨rb,0,none⟩))/\w.heap.size<rb/\w'.heap[rb]?=some (.cells #[.chan (some w.heap.size)] 118)/\yK w' w.heap.size (ps.map zB5)/\Fr (fun _=>False) w w' (fun _=>False):=by
 obtain⟨a',c',e⟩:=zN3 h.row
 have hl:n=ps.length:=by cases e;rfl
 subst hl
 have h52:=zD3 (w:=w) a ps.length c (fun i=>(ps.getD i ((0,0,0,[]),.slice none 0 0)).1.1) (fun i=>(ps.getD i ((0,0,0,[]),.slice none 0 0)).1.2.1) (fun i=>(ps.getD i ((0,0,0,[]),.slice none 0 0)).1.2.2.1) (fun i=>(ps.getD i ((0,0,0,[]),.slice none 0 0)).2) hn (fun i hi=>by
  obtain⟨g,cc,hv,hB,hg,hcell⟩:=sF h.row (by omega)
  have e1:ps[i]?=some (ps.getD i ((0,0,0,[]),.slice none 0 0)):=by rw [List.getD_eq_getElem?_getD,List.getElem?_eq_getElem hi];rfl
  obtain⟨g0,g1,g2,g3⟩:=iC ps i _ e1
  injection hv with hv
  exact⟨g,hv,hg,hcell _ _ g0,hcell _ _ g1,hcell _ _ g2,hcell _ _ g3⟩) (fun i=>by
  by_cases hi:i<ps.length
  ·rw [List.getD_eq_getElem?_getD,List.getElem?_eq_getElem hi]
   exact pH (h.fl _ (List.getElem_mem hi))
  ·rw [List.getD_eq_getElem?_getD,List.getElem?_eq_none (by omega)]
   exact⟨_,_,_,rfl⟩)
 have hmap:(List.range ps.length).map (fun i=>Value.agg #[.int .i64 ((ps.getD i ((0,0,0,[]),.slice none 0 0)).1.1:Nat),.int .i64 ((ps.getD i ((0,0,0,[]),.slice none 0 0)).1.2.1:Nat),.int .i64 ((ps.getD i ((0,0,0,[]),.slice none 0 0)).1.2.2.1:Nat),(ps.getD i ((0,0,0,[]),.slice none 0 0)).2])=ps.map zB5:=by
  apply List.ext_getElem
  ·simp
  ·intro i h1 h2
   have hi:i<ps.length:=by simpa using h2
   simp only [List.getElem_map,List.getElem_range,List.getD_eq_getElem?_getD,List.getElem?_eq_getElem hi,Option.getD_some]
   rfl
 rw [hmap] at h52
 have H52:=zZ h52
 clear h52 hmap h
 go_enter Tryz.func28,Tryz.ntmps28
 go_wp2_with (go_at_call 52;refine(zY H52).mono ?_;rintro e w1 ⟨rfl,f1,c1⟩;have F1:=zZ f1;have C1:=zZ c1;have L1:=zZ (zN.1 c1).1;clear f1 c1)
 go_ret
 have hlt:=zY L1
 exact⟨w1.heap.size,rfl,hlt,heap_alloc_new _ _,⟨_,_,_,(zR _ _ _ hlt).trans (zY C1)⟩,(zY F1).alloc _⟩
end Go.Proofs.YtfmbebofllgmoaaGreatDoor
namespace Go.Proofs.YtfmbebofllgmoaaGreatDoor
open Go.RowKit
attribute [local go_sem ↓] Go.wp_at_zero Go.wp_at_succ
theorem zV4 (s:ByteArray) (hs:s.size<=100) (w:World) (h0:0<s.size) (hkk:yH s 0=1):Calls Tryz.prog 77 #[.string s] w (qC s w):=by
 obtain⟨t0,t1⟩:=sV w.heap (.cells #[.int .i64 0,.int .i64 0,.int .i64 0,.slice none 0 0] 49) (.cells #[.int .i64 0,.int .i64 0,.int .i64 0,.slice none 0 0] 49)
 change ((w.alloc _).alloc _).heap[_]?=_ at t0 t1
 have hfw:Fr (fun _=>False) w ((w.alloc (.cells #[.int .i64 0,.int .i64 0,.int .i64 0,.slice none 0 0] 49)).alloc (.cells #[.int .i64 0,.int .i64 0,.int .i64 0,.slice none 0 0] 49)) (fun _=>False):=((Fr.refl _ _).alloc _).alloc _
 have HFW:=zZ hfw
 ·obtain⟨r,hbs,hrl⟩:=qH h0
  obtain⟨W,hW⟩ : ∃W,((w.alloc (.cells #[.int .i64 0,.int .i64 0,.int .i64 0,.slice none 0 0] 49)).alloc (.cells #[.int .i64 0,.int .i64 0,.int .i64 0,.slice none 0 0] 49))=W:=⟨_,rfl⟩
  have hb1:bs (s.extract 1 s.size)=r:=by rw [uH,hbs];rfl
  have hsz1:(s.extract 1 s.size).size=r.length:=by rw [<-vB,hb1]
  have hnd:rK (s.extract 1 s.size)=qN r.length r:=by unfold rK;rw [hb1,hsz1]
  have h111:=sT (s.extract 1 s.size) (by omega) W
  have hbyte:=xG s 0 h0
  have hblt:=tG s 0
  obtain⟨k,hk⟩ : ∃k,yH s 0=k:=⟨_,rfl⟩
  rw [hk] at hbs hbyte hblt hkk
  have HKK:=zZ hkk
  clear hkk
  rw [hW] at t0 t1 HFW
  have H111:=zZ h111
  have HW:=zZ hW
  have T0:=zZ t0
  have T1:=zZ t1
  have HBS:=zZ hbs
  have HND:=zZ hnd
  have hi1:(1:Int)<=(s.size:Int):=by omega
  have hne:=rV h0
  clear h111 hW t0 t1 hbs hnd hb1 hsz1 hrl
  go_enter Tryz.func77,Tryz.ntmps77
  go_wp2_with fail
  rw [zY HW]
  go_at_call 111
  refine(zY H111).mono ?_
  rintro e w1 ⟨f1,hm⟩
  rw [zY HND] at hm
  have hf1:=(zY HFW).trans f1
  have x0:=(f1.same _ (zN.1 (zY T0)).1 (fun h=>h)).trans (zY T0)
  have x1:=(f1.same _ (zN.1 (zY T1)).1 (fun h=>h)).trans (zY T1)
  have hz1:w.heap.size+1<w1.heap.size:=(zN.1 x1).1
  have c0:=fun j=>cell_of_row w1 _ j _ 49 (0,0) x0
  have c1:=fun j=>cell_of_row w1 _ j _ 49 (0,0) x1
  have z0:=fun j=>yB x0 j
  have z1:=fun j=>yB x1 j
  have HF1:=zZ hf1
  have X0:=zZ x0
  have X1:=zZ x1
  have HWW:=zZ f1.size
  have HWZ:=zZ (show W.heap.size=w.heap.size+2 by rw [<-zY HW];simp)
  clear f1 hf1 x0 x1 HFW T0 T1 H111
  cases hns:qN r.length r with
  | none=>
   rw [hns] at hm
   have hm':e=.returned (.tuple #[.slice none 0 0,.bool false]):=hm
   subst hm'
   have hip:=zZ (rQ (zY HBS) hns)
   clear hm hns
   go_wp2
   refine bodyPost_ret (v:=.tuple #[.agg #[.int .i64 0,.int .i64 0,.int .i64 0,.slice none 0 0],.bool false]) (by simp [results,Tryz.results77,go_sem,c0]) rfl ?_
   refine yW (zY hip) ?_
   repeat (first | exact zY HF1 | refine Fr.setCell ?_ _ _ (.inr (Nat.le_refl _)))
  | some ns=>
   rw [hns] at hm
   obtain⟨hnl,v,he,ho⟩:=hm
   have hnl:ns.length<=200:=by
     have h:(s.extract 1 s.size).size<=s.size:=by simp [ByteArray.size_extract]
     omega
   subst he
   obtain⟨va,vc,rfl⟩:=xQ ho
   rw [xO]
   rw [xO] at ho
   cases ns with
   | nil=>
    have hip:=zZ (xK (zY HBS) hns rfl)
    clear hns ho hnl
    go_wp2
    refine bodyPost_ret (v:=.tuple #[.agg #[.int .i64 0,.int .i64 0,.int .i64 0,.slice none 0 0],.bool false]) (by simp [results,Tryz.results77,go_sem,c0]) rfl ?_
    refine yW (zY hip) ?_
    repeat (first | exact zY HF1 | refine Fr.setCell ?_ _ _ (.inr (Nat.le_refl _)))
   | cons a t=>
    obtain⟨g,cap,cur,hv,hg1,hg2,hg3,hg4,hg5,hg6⟩:=xI ho (by simp [zs])
    injection hv with hv1 hv2 hv3
    subst hv1 hv3
    have hgz:g<w1.heap.size:=(zN.1 hg2).1
    have hg1':w.heap.size+1<g:=by have:=zY HWZ;omega
    have l0:w1.cell? ⟨g,0,none⟩=some (.int .i64 (a:Nat)):=by have:=hg6 0 (by simp [zs]);simpa [zs] using this
    have HG6:=zZ hg6
    have HNS:=zZ hns
    have hlen:(a::t).length=t.length+1:=rfl
    rw [hlen]
    have htl:t.length<=200:=by
      have:(a::t).length<=200:=by omega
      simpa using Nat.le_of_succ_le this
    have ht0:(0:Int)<(t.length:Int)+1:=by omega
    have hkc:((s[0]'h0).toNat:Int)=(k:Int):=by rw [hbyte]
    clear hg6 hg5 hg4 hg2 hns ho hv2 hlen hbyte
    have y1:=yE w1 (w.heap.size+1) 0 _ 49 (.int .i64 (k:Int)) (zY X1)
    have y0:(w1.setCell ⟨w.heap.size+1,0,none⟩ (.int .i64 (k:Int))).heap[w.heap.size]?=_:=(zQ w1 ⟨w.heap.size+1,0,none⟩ (.int .i64 (k:Int)) w.heap.size (by simp)).trans (zY X0)
    have yl:(w1.setCell ⟨w.heap.size+1,0,none⟩ (.int .i64 (k:Int))).heap[g]?=w1.heap[g]?:=zQ w1 ⟨w.heap.size+1,0,none⟩ (.int .i64 (k:Int)) g (by simp;omega)
    have hfy:=(zY HF1).setCell ⟨w.heap.size+1,0,none⟩ (.int .i64 (k:Int)) (.inr (by simp))
    have hyz:(w1.setCell ⟨w.heap.size+1,0,none⟩ (.int .i64 (k:Int))).heap.size=w1.heap.size:=by simp [World.setCell]
    go_upto_region 9 with fail
    generalize hw2:w1.setCell ⟨w.heap.size+1,0,none⟩ (.int .i64 (k:Int))=w2 at *
    have lc:∀j,j<t.length+1->w2.cell? ⟨g,j,none⟩=some (.int .i64 ((a::t).getD j 0:Nat)):=fun j hj=>by
     rw [yU yl]
     have h:=zY HG6 j (by rw [xO];exact hj)
     rw [h,nU]
    have c0:=fun j=>cell_of_row w2 _ j _ 49 (0,0) y0
    have c1:=fun j=>cell_of_row w2 _ j _ 49 (0,0) y1
    have z1:=fun j=>yB y1 j
    have z0:=fun j=>yB y0 j
    have l0:=lc 0 (by omega)
    have LC:=zZ lc
    have Y0:=zZ y0
    have Y1:=zZ y1
    have HFY:=zZ hfy
    have hz2:w.heap.size+1<w2.heap.size:=by omega
    have hg2:g<w2.heap.size:=by omega
    clear y0 y1 yl hfy hyz hw2 lc X0 X1 HF1 HG6 hz1 hgz hg1 HWW
    have hkk:=zY HKK
    subst hkk
    by_cases hr:a<=1099511627776
    ·have hri:(a:Int)<=1099511627776:=by omega
     have hcd:xR 1 (a::t)=some (1,0,a,[]):=by simp only [xR];rw [if_pos trivial,if_pos hr]
     have hbd:=fun W=>mD 1 0 a (.slice none 0 0) none 0 0 rfl (.inl rfl) (by omega) W
     go_upto_region 32 with fail
     have q1:=yE w2 (w.heap.size+1) 2 _ 49 (.int .i64 (a:Int)) (zY Y1)
     have q0:(w2.setCell ⟨w.heap.size+1,2,none⟩ (.int .i64 (a:Int))).heap[w.heap.size]?=_:=(zQ w2 ⟨w.heap.size+1,2,none⟩ (.int .i64 (a:Int)) w.heap.size (by simp)).trans (zY Y0)
     have qf:=(zY HFY).setCell ⟨w.heap.size+1,2,none⟩ (.int .i64 (a:Int)) (.inr (by simp))
     generalize hw3:w2.setCell ⟨w.heap.size+1,2,none⟩ (.int .i64 (a:Int))=w3 at *
     have d0:=fun j=>cell_of_row w3 _ j _ 49 (0,0) q0
     have d1:=fun j=>cell_of_row w3 _ j _ 49 (0,0) q1
     have u0:=fun j=>yB q0 j
     have HFQ:=zZ qf
     have hz3:w.heap.size+1<w3.heap.size:=(zN.1 q1).1
     clear c0 c1 z1 z0 q0 q1 qf hw3
     obtain⟨B,hB⟩ : ∃B,yT 1 0 a=B:=⟨_,rfl⟩
     have hpc:=rP (zY HBS) (zY HNS) hcd (b:=B) (by rw [<-hB];exact oL 1 0 a [] (.inl rfl))
     rw [hB] at hbd
     have HBD:=zZ hbd
     clear hbd hB
     by_cases hBs:B=s
     ·have hip:=zZ (hpc.1 hBs)
      clear hpc
      subst hBs
      go_region_held3 (fun w'=>w'.cell? ⟨w.heap.size+1,0,none⟩=some (.int .i64 (1))/\w'.cell? ⟨w.heap.size+1,1,none⟩=some (.int .i64 (0))/\w'.cell? ⟨w.heap.size+1,2,none⟩=some (.int .i64 (a:Nat))/\w'.cell? ⟨w.heap.size+1,3,none⟩=some (.slice none 0 0)) (first | (simp [go_sem,d1];done) | (simp [go_sem,g1];done)) (first | (go_at_call 112;refine(zY HBD _).mono ?_;rintro e w4 ⟨rfl,f4⟩;have g0:=fun j=>(f4.cell w.heap.size j (by simp;omega) (fun h=>h)).trans (d0 j);have g1:=fun j=>(f4.cell (w.heap.size+1) j (by simp;omega) (fun h=>h)).trans (d1 j);have v0:=fun j=>(f4.frozen w.heap.size j (by simp;omega) (fun h=>h)).trans (u0 j);have HF4:=zZ ((zY HFQ).trans (show Fr (fun _=>False) w3 w4 (fun _=>False) from ⟨f4.os,f4.tape,f4.output,f4.size,f4.same,f4.old⟩));clear f4))
      all_goals
       go_wp2_with fail
       refine bodyPost_ret (v:=.tuple #[.agg #[.int .i64 (1),.int .i64 (0),.int .i64 (a:Nat),.slice none 0 0],.bool true]) (by simp [results,Tryz.results77,go_sem,g0]) rfl ?_
       refine lR (x:=(1,0,a,[])) (zY hip) ?_ ?_
       ·repeat (first | exact zY HF4 | refine Fr.drew ?_ | refine Fr.setCell ?_ _ _ (.inr (Nat.le_refl _)))
       ·exact⟨none,0,rfl,.inl rfl⟩
     ·have hip:=zZ (hpc.2 hBs)
      have hbq:=oF hBs
      clear hpc hBs
      go_region_held3 (fun w'=>w'.cell? ⟨w.heap.size+1,0,none⟩=some (.int .i64 (1))/\w'.cell? ⟨w.heap.size+1,1,none⟩=some (.int .i64 (0))/\w'.cell? ⟨w.heap.size+1,2,none⟩=some (.int .i64 (a:Nat))/\w'.cell? ⟨w.heap.size+1,3,none⟩=some (.slice none 0 0)) (first | (simp [go_sem,d1];done) | (simp [go_sem,g1];done)) (first | (go_at_call 112;refine(zY HBD _).mono ?_;rintro e w4 ⟨rfl,f4⟩;have g0:=fun j=>(f4.cell w.heap.size j (by simp;omega) (fun h=>h)).trans (d0 j);have g1:=fun j=>(f4.cell (w.heap.size+1) j (by simp;omega) (fun h=>h)).trans (d1 j);have v0:=fun j=>(f4.frozen w.heap.size j (by simp;omega) (fun h=>h)).trans (u0 j);have HF4:=zZ ((zY HFQ).trans (show Fr (fun _=>False) w3 w4 (fun _=>False) from ⟨f4.os,f4.tape,f4.output,f4.size,f4.same,f4.old⟩));clear f4))
      all_goals
       go_wp2_with fail
       refine bodyPost_ret (v:=.tuple #[.agg #[.int .i64 (1),.int .i64 (0),.int .i64 (a:Nat),.slice none 0 0],.bool false]) (by simp [results,Tryz.results77,go_sem,g0,hbq]) rfl ?_
       refine yW (zY hip) ?_
       repeat (first | exact zY HF4 | refine Fr.drew ?_ | refine Fr.setCell ?_ _ _ (.inr (Nat.le_refl _)))
    ·have hri:¬(a:Int)<=1099511627776:=by omega
     have HIP:=zZ (xK (zY HBS) (zY HNS) (by simp only [xR];rw [if_pos trivial,if_neg hr]))
     go_upto_region 32 with fail
     have q1:=yE w2 (w.heap.size+1) 2 _ 49 (.int .i64 (a:Int)) (zY Y1)
     have q0:(w2.setCell ⟨w.heap.size+1,2,none⟩ (.int .i64 (a:Int))).heap[w.heap.size]?=_:=(zQ w2 ⟨w.heap.size+1,2,none⟩ (.int .i64 (a:Int)) w.heap.size (by simp)).trans (zY Y0)
     have qf:=(zY HFY).setCell ⟨w.heap.size+1,2,none⟩ (.int .i64 (a:Int)) (.inr (by simp))
     generalize hw3:w2.setCell ⟨w.heap.size+1,2,none⟩ (.int .i64 (a:Int))=w3 at *
     have d0:=fun j=>cell_of_row w3 _ j _ 49 (0,0) q0
     have d1:=fun j=>cell_of_row w3 _ j _ 49 (0,0) q1
     have u0:=fun j=>yB q0 j
     have HFQ:=zZ qf
     have hz3:w.heap.size+1<w3.heap.size:=(zN.1 q1).1
     clear c0 c1 z1 z0 q0 q1 qf hw3
     go_region
     all_goals
      go_wp2_with fail
      refine bodyPost_ret (v:=.tuple #[.agg #[.int .i64 (1),.int .i64 (0),.int .i64 (a:Nat),.slice none 0 0],.bool false]) (by simp [results,Tryz.results77,go_sem,d0]) rfl ?_
      refine yW (zY HIP) ?_
      repeat (first | exact zY HFQ | refine Fr.drew ?_ | refine Fr.setCell ?_ _ _ (.inr (Nat.le_refl _)))
theorem zV8 (s:ByteArray) (hs:s.size<=100) (w:World) (h0:0<s.size) (hkk:yH s 0=5):Calls Tryz.prog 77 #[.string s] w (qC s w):=by
 obtain⟨t0,t1⟩:=sV w.heap (.cells #[.int .i64 0,.int .i64 0,.int .i64 0,.slice none 0 0] 49) (.cells #[.int .i64 0,.int .i64 0,.int .i64 0,.slice none 0 0] 49)
 change ((w.alloc _).alloc _).heap[_]?=_ at t0 t1
 have hfw:Fr (fun _=>False) w ((w.alloc (.cells #[.int .i64 0,.int .i64 0,.int .i64 0,.slice none 0 0] 49)).alloc (.cells #[.int .i64 0,.int .i64 0,.int .i64 0,.slice none 0 0] 49)) (fun _=>False):=((Fr.refl _ _).alloc _).alloc _
 have HFW:=zZ hfw
 ·obtain⟨r,hbs,hrl⟩:=qH h0
  obtain⟨W,hW⟩ : ∃W,((w.alloc (.cells #[.int .i64 0,.int .i64 0,.int .i64 0,.slice none 0 0] 49)).alloc (.cells #[.int .i64 0,.int .i64 0,.int .i64 0,.slice none 0 0] 49))=W:=⟨_,rfl⟩
  have hb1:bs (s.extract 1 s.size)=r:=by rw [uH,hbs];rfl
  have hsz1:(s.extract 1 s.size).size=r.length:=by rw [<-vB,hb1]
  have hnd:rK (s.extract 1 s.size)=qN r.length r:=by unfold rK;rw [hb1,hsz1]
  have h111:=sT (s.extract 1 s.size) (by omega) W
  have hbyte:=xG s 0 h0
  have hblt:=tG s 0
  obtain⟨k,hk⟩ : ∃k,yH s 0=k:=⟨_,rfl⟩
  rw [hk] at hbs hbyte hblt hkk
  have HKK:=zZ hkk
  clear hkk
  rw [hW] at t0 t1 HFW
  have H111:=zZ h111
  have HW:=zZ hW
  have T0:=zZ t0
  have T1:=zZ t1
  have HBS:=zZ hbs
  have HND:=zZ hnd
  have hi1:(1:Int)<=(s.size:Int):=by omega
  have hne:=rV h0
  clear h111 hW t0 t1 hbs hnd hb1 hsz1 hrl
  go_enter Tryz.func77,Tryz.ntmps77
  go_wp2_with fail
  rw [zY HW]
  go_at_call 111
  refine(zY H111).mono ?_
  rintro e w1 ⟨f1,hm⟩
  rw [zY HND] at hm
  have hf1:=(zY HFW).trans f1
  have x0:=(f1.same _ (zN.1 (zY T0)).1 (fun h=>h)).trans (zY T0)
  have x1:=(f1.same _ (zN.1 (zY T1)).1 (fun h=>h)).trans (zY T1)
  have hz1:w.heap.size+1<w1.heap.size:=(zN.1 x1).1
  have c0:=fun j=>cell_of_row w1 _ j _ 49 (0,0) x0
  have c1:=fun j=>cell_of_row w1 _ j _ 49 (0,0) x1
  have z0:=fun j=>yB x0 j
  have z1:=fun j=>yB x1 j
  have HF1:=zZ hf1
  have X0:=zZ x0
  have X1:=zZ x1
  have HWW:=zZ f1.size
  have HWZ:=zZ (show W.heap.size=w.heap.size+2 by rw [<-zY HW];simp)
  clear f1 hf1 x0 x1 HFW T0 T1 H111
  cases hns:qN r.length r with
  | none=>
   rw [hns] at hm
   have hm':e=.returned (.tuple #[.slice none 0 0,.bool false]):=hm
   subst hm'
   have hip:=zZ (rQ (zY HBS) hns)
   clear hm hns
   go_wp2
   refine bodyPost_ret (v:=.tuple #[.agg #[.int .i64 0,.int .i64 0,.int .i64 0,.slice none 0 0],.bool false]) (by simp [results,Tryz.results77,go_sem,c0]) rfl ?_
   refine yW (zY hip) ?_
   repeat (first | exact zY HF1 | refine Fr.setCell ?_ _ _ (.inr (Nat.le_refl _)))
  | some ns=>
   rw [hns] at hm
   obtain⟨hnl,v,he,ho⟩:=hm
   have hnl:ns.length<=200:=by
     have h:(s.extract 1 s.size).size<=s.size:=by simp [ByteArray.size_extract]
     omega
   subst he
   obtain⟨va,vc,rfl⟩:=xQ ho
   rw [xO]
   rw [xO] at ho
   cases ns with
   | nil=>
    have hip:=zZ (xK (zY HBS) hns rfl)
    clear hns ho hnl
    go_wp2
    refine bodyPost_ret (v:=.tuple #[.agg #[.int .i64 0,.int .i64 0,.int .i64 0,.slice none 0 0],.bool false]) (by simp [results,Tryz.results77,go_sem,c0]) rfl ?_
    refine yW (zY hip) ?_
    repeat (first | exact zY HF1 | refine Fr.setCell ?_ _ _ (.inr (Nat.le_refl _)))
   | cons a t=>
    obtain⟨g,cap,cur,hv,hg1,hg2,hg3,hg4,hg5,hg6⟩:=xI ho (by simp [zs])
    injection hv with hv1 hv2 hv3
    subst hv1 hv3
    have hgz:g<w1.heap.size:=(zN.1 hg2).1
    have hg1':w.heap.size+1<g:=by have:=zY HWZ;omega
    have l0:w1.cell? ⟨g,0,none⟩=some (.int .i64 (a:Nat)):=by have:=hg6 0 (by simp [zs]);simpa [zs] using this
    have HG6:=zZ hg6
    have HNS:=zZ hns
    have hlen:(a::t).length=t.length+1:=rfl
    rw [hlen]
    have htl:t.length<=200:=by
      have:(a::t).length<=200:=by omega
      simpa using Nat.le_of_succ_le this
    have ht0:(0:Int)<(t.length:Int)+1:=by omega
    have hkc:((s[0]'h0).toNat:Int)=(k:Int):=by rw [hbyte]
    clear hg6 hg5 hg4 hg2 hns ho hv2 hlen hbyte
    have y1:=yE w1 (w.heap.size+1) 0 _ 49 (.int .i64 (k:Int)) (zY X1)
    have y0:(w1.setCell ⟨w.heap.size+1,0,none⟩ (.int .i64 (k:Int))).heap[w.heap.size]?=_:=(zQ w1 ⟨w.heap.size+1,0,none⟩ (.int .i64 (k:Int)) w.heap.size (by simp)).trans (zY X0)
    have yl:(w1.setCell ⟨w.heap.size+1,0,none⟩ (.int .i64 (k:Int))).heap[g]?=w1.heap[g]?:=zQ w1 ⟨w.heap.size+1,0,none⟩ (.int .i64 (k:Int)) g (by simp;omega)
    have hfy:=(zY HF1).setCell ⟨w.heap.size+1,0,none⟩ (.int .i64 (k:Int)) (.inr (by simp))
    have hyz:(w1.setCell ⟨w.heap.size+1,0,none⟩ (.int .i64 (k:Int))).heap.size=w1.heap.size:=by simp [World.setCell]
    go_upto_region 9 with fail
    generalize hw2:w1.setCell ⟨w.heap.size+1,0,none⟩ (.int .i64 (k:Int))=w2 at *
    have lc:∀j,j<t.length+1->w2.cell? ⟨g,j,none⟩=some (.int .i64 ((a::t).getD j 0:Nat)):=fun j hj=>by
     rw [yU yl]
     have h:=zY HG6 j (by rw [xO];exact hj)
     rw [h,nU]
    have c0:=fun j=>cell_of_row w2 _ j _ 49 (0,0) y0
    have c1:=fun j=>cell_of_row w2 _ j _ 49 (0,0) y1
    have z1:=fun j=>yB y1 j
    have z0:=fun j=>yB y0 j
    have l0:=lc 0 (by omega)
    have LC:=zZ lc
    have Y0:=zZ y0
    have Y1:=zZ y1
    have HFY:=zZ hfy
    have hz2:w.heap.size+1<w2.heap.size:=by omega
    have hg2:g<w2.heap.size:=by omega
    clear y0 y1 yl hfy hyz hw2 lc X0 X1 HF1 HG6 hz1 hgz hg1 HWW
    have hkk:=zY HKK
    subst hkk
    by_cases h1:1<=a
    ·have h1i:(1:Int)<=(a:Int):=by omega
     by_cases h5:a<=5
     ·have hri:(a:Int)<=5:=by omega
      have hcd:xR 5 (a::t)=some (5,0,a,[]):=by simp only [xR];rw [if_neg (by decide),if_neg (by decide),if_neg (by decide),if_neg (by decide),if_pos trivial,if_pos ⟨h1,h5⟩]
      have hbd:=fun W=>mD 5 0 a (.slice none 0 0) none 0 0 rfl (.inr rfl) (by omega) W
      go_upto_region 32 with fail
      have q1:=yE w2 (w.heap.size+1) 2 _ 49 (.int .i64 (a:Int)) (zY Y1)
      have q0:(w2.setCell ⟨w.heap.size+1,2,none⟩ (.int .i64 (a:Int))).heap[w.heap.size]?=_:=(zQ w2 ⟨w.heap.size+1,2,none⟩ (.int .i64 (a:Int)) w.heap.size (by simp)).trans (zY Y0)
      have qf:=(zY HFY).setCell ⟨w.heap.size+1,2,none⟩ (.int .i64 (a:Int)) (.inr (by simp))
      generalize hw3:w2.setCell ⟨w.heap.size+1,2,none⟩ (.int .i64 (a:Int))=w3 at *
      have d0:=fun j=>cell_of_row w3 _ j _ 49 (0,0) q0
      have d1:=fun j=>cell_of_row w3 _ j _ 49 (0,0) q1
      have u0:=fun j=>yB q0 j
      have HFQ:=zZ qf
      have hz3:w.heap.size+1<w3.heap.size:=(zN.1 q1).1
      clear c0 c1 z1 z0 q0 q1 qf hw3
      obtain⟨B,hB⟩ : ∃B,yT 5 0 a=B:=⟨_,rfl⟩
      have hpc:=rP (zY HBS) (zY HNS) hcd (b:=B) (by rw [<-hB];exact oL 5 0 a [] (.inr rfl))
      rw [hB] at hbd
      have HBD:=zZ hbd
      clear hbd hB
      by_cases hBs:B=s
      ·have hip:=zZ (hpc.1 hBs)
       clear hpc
       subst hBs
       go_region_held3 (fun w'=>w'.cell? ⟨w.heap.size+1,0,none⟩=some (.int .i64 (5))/\w'.cell? ⟨w.heap.size+1,1,none⟩=some (.int .i64 (0))/\w'.cell? ⟨w.heap.size+1,2,none⟩=some (.int .i64 (a:Nat))/\w'.cell? ⟨w.heap.size+1,3,none⟩=some (.slice none 0 0)) (first | (simp [go_sem,d1];done) | (simp [go_sem,g1];done)) (first | (go_at_call 112;refine(zY HBD _).mono ?_;rintro e w4 ⟨rfl,f4⟩;have g0:=fun j=>(f4.cell w.heap.size j (by simp;omega) (fun h=>h)).trans (d0 j);have g1:=fun j=>(f4.cell (w.heap.size+1) j (by simp;omega) (fun h=>h)).trans (d1 j);have v0:=fun j=>(f4.frozen w.heap.size j (by simp;omega) (fun h=>h)).trans (u0 j);have HF4:=zZ ((zY HFQ).trans (show Fr (fun _=>False) w3 w4 (fun _=>False) from ⟨f4.os,f4.tape,f4.output,f4.size,f4.same,f4.old⟩));clear f4))
       all_goals
        go_wp2_with fail
        refine bodyPost_ret (v:=.tuple #[.agg #[.int .i64 (5),.int .i64 (0),.int .i64 (a:Nat),.slice none 0 0],.bool true]) (by simp [results,Tryz.results77,go_sem,g0]) rfl ?_
        refine lR (x:=(5,0,a,[])) (zY hip) ?_ ?_
        ·repeat (first | exact zY HF4 | refine Fr.drew ?_ | refine Fr.setCell ?_ _ _ (.inr (Nat.le_refl _)))
        ·exact⟨none,0,rfl,.inl rfl⟩
      ·have hip:=zZ (hpc.2 hBs)
       have hbq:=oF hBs
       clear hpc hBs
       go_region_held3 (fun w'=>w'.cell? ⟨w.heap.size+1,0,none⟩=some (.int .i64 (5))/\w'.cell? ⟨w.heap.size+1,1,none⟩=some (.int .i64 (0))/\w'.cell? ⟨w.heap.size+1,2,none⟩=some (.int .i64 (a:Nat))/\w'.cell? ⟨w.heap.size+1,3,none⟩=some (.slice none 0 0)) (first | (simp [go_sem,d1];done) | (simp [go_sem,g1];done)) (first | (go_at_call 112;refine(zY HBD _).mono ?_;rintro e w4 ⟨rfl,f4⟩;have g0:=fun j=>(f4.cell w.heap.size j (by simp;omega) (fun h=>h)).trans (d0 j);have g1:=fun j=>(f4.cell (w.heap.size+1) j (by simp;omega) (fun h=>h)).trans (d1 j);have v0:=fun j=>(f4.frozen w.heap.size j (by simp;omega) (fun h=>h)).trans (u0 j);have HF4:=zZ ((zY HFQ).trans (show Fr (fun _=>False) w3 w4 (fun _=>False) from ⟨f4.os,f4.tape,f4.output,f4.size,f4.same,f4.old⟩));clear f4))
       all_goals
        go_wp2_with fail
        refine bodyPost_ret (v:=.tuple #[.agg #[.int .i64 (5),.int .i64 (0),.int .i64 (a:Nat),.slice none 0 0],.bool false]) (by simp [results,Tryz.results77,go_sem,g0,hbq]) rfl ?_
        refine yW (zY hip) ?_
        repeat (first | exact zY HF4 | refine Fr.drew ?_ | refine Fr.setCell ?_ _ _ (.inr (Nat.le_refl _)))
     ·have hri:¬(a:Int)<=5:=by omega
      have HIP:=zZ (xK (zY HBS) (zY HNS) (by simp only [xR];rw [if_neg (by decide),if_neg (by decide),if_neg (by decide),if_neg (by decide),if_pos trivial,if_neg (fun h=>h5 h.2)]))
      go_upto_region 32 with fail
      have q1:=yE w2 (w.heap.size+1) 2 _ 49 (.int .i64 (a:Int)) (zY Y1)
      have q0:(w2.setCell ⟨w.heap.size+1,2,none⟩ (.int .i64 (a:Int))).heap[w.heap.size]?=_:=(zQ w2 ⟨w.heap.size+1,2,none⟩ (.int .i64 (a:Int)) w.heap.size (by simp)).trans (zY Y0)
      have qf:=(zY HFY).setCell ⟨w.heap.size+1,2,none⟩ (.int .i64 (a:Int)) (.inr (by simp))
      generalize hw3:w2.setCell ⟨w.heap.size+1,2,none⟩ (.int .i64 (a:Int))=w3 at *
      have d0:=fun j=>cell_of_row w3 _ j _ 49 (0,0) q0
      have d1:=fun j=>cell_of_row w3 _ j _ 49 (0,0) q1
      have u0:=fun j=>yB q0 j
      have HFQ:=zZ qf
      have hz3:w.heap.size+1<w3.heap.size:=(zN.1 q1).1
      clear c0 c1 z1 z0 q0 q1 qf hw3
      go_region
      all_goals
       go_wp2_with fail
       refine bodyPost_ret (v:=.tuple #[.agg #[.int .i64 (5),.int .i64 (0),.int .i64 (a:Nat),.slice none 0 0],.bool false]) (by simp [results,Tryz.results77,go_sem,d0]) rfl ?_
       refine yW (zY HIP) ?_
       repeat (first | exact zY HFQ | refine Fr.drew ?_ | refine Fr.setCell ?_ _ _ (.inr (Nat.le_refl _)))
    ·have h1i:¬(1:Int)<=(a:Int):=by omega
     have HIP:=zZ (xK (zY HBS) (zY HNS) (by simp only [xR];rw [if_neg (by decide),if_neg (by decide),if_neg (by decide),if_neg (by decide),if_pos trivial,if_neg (fun h=>h1 h.1)]))
     go_upto_region 32 with fail
     have q1:=yE w2 (w.heap.size+1) 2 _ 49 (.int .i64 (a:Int)) (zY Y1)
     have q0:(w2.setCell ⟨w.heap.size+1,2,none⟩ (.int .i64 (a:Int))).heap[w.heap.size]?=_:=(zQ w2 ⟨w.heap.size+1,2,none⟩ (.int .i64 (a:Int)) w.heap.size (by simp)).trans (zY Y0)
     have qf:=(zY HFY).setCell ⟨w.heap.size+1,2,none⟩ (.int .i64 (a:Int)) (.inr (by simp))
     generalize hw3:w2.setCell ⟨w.heap.size+1,2,none⟩ (.int .i64 (a:Int))=w3 at *
     have d0:=fun j=>cell_of_row w3 _ j _ 49 (0,0) q0
     have d1:=fun j=>cell_of_row w3 _ j _ 49 (0,0) q1
     have u0:=fun j=>yB q0 j
     have HFQ:=zZ qf
     have hz3:w.heap.size+1<w3.heap.size:=(zN.1 q1).1
     clear c0 c1 z1 z0 q0 q1 qf hw3
     go_region
     all_goals
      go_wp2_with fail
      refine bodyPost_ret (v:=.tuple #[.agg #[.int .i64 (5),.int .i64 (0),.int .i64 (a:Nat),.slice none 0 0],.bool false]) (by simp [results,Tryz.results77,go_sem,d0]) rfl ?_
      refine yW (zY HIP) ?_
      repeat (first | exact zY HFQ | refine Fr.drew ?_ | refine Fr.setCell ?_ _ _ (.inr (Nat.le_refl _)))
theorem zV3 (s:ByteArray) (hs:s.size<=100) (w:World) (h0:0<s.size) (hkk:yH s 0≠1/\yH s 0≠2/\yH s 0≠3/\yH s 0≠4/\yH s 0≠5):Calls Tryz.prog 77 #[.string s] w (qC s w):=by
 obtain⟨t0,t1⟩:=sV w.heap (.cells #[.int .i64 0,.int .i64 0,.int .i64 0,.slice none 0 0] 49) (.cells #[.int .i64 0,.int .i64 0,.int .i64 0,.slice none 0 0] 49)
 change ((w.alloc _).alloc _).heap[_]?=_ at t0 t1
 have hfw:Fr (fun _=>False) w ((w.alloc (.cells #[.int .i64 0,.int .i64 0,.int .i64 0,.slice none 0 0] 49)).alloc (.cells #[.int .i64 0,.int .i64 0,.int .i64 0,.slice none 0 0] 49)) (fun _=>False):=((Fr.refl _ _).alloc _).alloc _
 have HFW:=zZ hfw
 ·obtain⟨r,hbs,hrl⟩:=qH h0
  obtain⟨W,hW⟩ : ∃W,((w.alloc (.cells #[.int .i64 0,.int .i64 0,.int .i64 0,.slice none 0 0] 49)).alloc (.cells #[.int .i64 0,.int .i64 0,.int .i64 0,.slice none 0 0] 49))=W:=⟨_,rfl⟩
  have hb1:bs (s.extract 1 s.size)=r:=by rw [uH,hbs];rfl
  have hsz1:(s.extract 1 s.size).size=r.length:=by rw [<-vB,hb1]
  have hnd:rK (s.extract 1 s.size)=qN r.length r:=by unfold rK;rw [hb1,hsz1]
  have h111:=sT (s.extract 1 s.size) (by omega) W
  have hbyte:=xG s 0 h0
  have hblt:=tG s 0
  obtain⟨k,hk⟩ : ∃k,yH s 0=k:=⟨_,rfl⟩
  rw [hk] at hbs hbyte hblt hkk
  have HKK:=zZ hkk
  clear hkk
  rw [hW] at t0 t1 HFW
  have H111:=zZ h111
  have HW:=zZ hW
  have T0:=zZ t0
  have T1:=zZ t1
  have HBS:=zZ hbs
  have HND:=zZ hnd
  have hi1:(1:Int)<=(s.size:Int):=by omega
  have hne:=rV h0
  clear h111 hW t0 t1 hbs hnd hb1 hsz1 hrl
  go_enter Tryz.func77,Tryz.ntmps77
  go_wp2_with fail
  rw [zY HW]
  go_at_call 111
  refine(zY H111).mono ?_
  rintro e w1 ⟨f1,hm⟩
  rw [zY HND] at hm
  have hf1:=(zY HFW).trans f1
  have x0:=(f1.same _ (zN.1 (zY T0)).1 (fun h=>h)).trans (zY T0)
  have x1:=(f1.same _ (zN.1 (zY T1)).1 (fun h=>h)).trans (zY T1)
  have hz1:w.heap.size+1<w1.heap.size:=(zN.1 x1).1
  have c0:=fun j=>cell_of_row w1 _ j _ 49 (0,0) x0
  have c1:=fun j=>cell_of_row w1 _ j _ 49 (0,0) x1
  have z0:=fun j=>yB x0 j
  have z1:=fun j=>yB x1 j
  have HF1:=zZ hf1
  have X0:=zZ x0
  have X1:=zZ x1
  have HWW:=zZ f1.size
  have HWZ:=zZ (show W.heap.size=w.heap.size+2 by rw [<-zY HW];simp)
  clear f1 hf1 x0 x1 HFW T0 T1 H111
  cases hns:qN r.length r with
  | none=>
   rw [hns] at hm
   have hm':e=.returned (.tuple #[.slice none 0 0,.bool false]):=hm
   subst hm'
   have hip:=zZ (rQ (zY HBS) hns)
   clear hm hns
   go_wp2
   refine bodyPost_ret (v:=.tuple #[.agg #[.int .i64 0,.int .i64 0,.int .i64 0,.slice none 0 0],.bool false]) (by simp [results,Tryz.results77,go_sem,c0]) rfl ?_
   refine yW (zY hip) ?_
   repeat (first | exact zY HF1 | refine Fr.setCell ?_ _ _ (.inr (Nat.le_refl _)))
  | some ns=>
   rw [hns] at hm
   obtain⟨hnl,v,he,ho⟩:=hm
   have hnl:ns.length<=200:=by
     have h:(s.extract 1 s.size).size<=s.size:=by simp [ByteArray.size_extract]
     omega
   subst he
   obtain⟨va,vc,rfl⟩:=xQ ho
   rw [xO]
   rw [xO] at ho
   cases ns with
   | nil=>
    have hip:=zZ (xK (zY HBS) hns rfl)
    clear hns ho hnl
    go_wp2
    refine bodyPost_ret (v:=.tuple #[.agg #[.int .i64 0,.int .i64 0,.int .i64 0,.slice none 0 0],.bool false]) (by simp [results,Tryz.results77,go_sem,c0]) rfl ?_
    refine yW (zY hip) ?_
    repeat (first | exact zY HF1 | refine Fr.setCell ?_ _ _ (.inr (Nat.le_refl _)))
   | cons a t=>
    obtain⟨g,cap,cur,hv,hg1,hg2,hg3,hg4,hg5,hg6⟩:=xI ho (by simp [zs])
    injection hv with hv1 hv2 hv3
    subst hv1 hv3
    have hgz:g<w1.heap.size:=(zN.1 hg2).1
    have hg1':w.heap.size+1<g:=by have:=zY HWZ;omega
    have l0:w1.cell? ⟨g,0,none⟩=some (.int .i64 (a:Nat)):=by have:=hg6 0 (by simp [zs]);simpa [zs] using this
    have HG6:=zZ hg6
    have HNS:=zZ hns
    have hlen:(a::t).length=t.length+1:=rfl
    rw [hlen]
    have htl:t.length<=200:=by
      have:(a::t).length<=200:=by omega
      simpa using Nat.le_of_succ_le this
    have ht0:(0:Int)<(t.length:Int)+1:=by omega
    have hkc:((s[0]'h0).toNat:Int)=(k:Int):=by rw [hbyte]
    clear hg6 hg5 hg4 hg2 hns ho hv2 hlen hbyte
    have y1:=yE w1 (w.heap.size+1) 0 _ 49 (.int .i64 (k:Int)) (zY X1)
    have y0:(w1.setCell ⟨w.heap.size+1,0,none⟩ (.int .i64 (k:Int))).heap[w.heap.size]?=_:=(zQ w1 ⟨w.heap.size+1,0,none⟩ (.int .i64 (k:Int)) w.heap.size (by simp)).trans (zY X0)
    have yl:(w1.setCell ⟨w.heap.size+1,0,none⟩ (.int .i64 (k:Int))).heap[g]?=w1.heap[g]?:=zQ w1 ⟨w.heap.size+1,0,none⟩ (.int .i64 (k:Int)) g (by simp;omega)
    have hfy:=(zY HF1).setCell ⟨w.heap.size+1,0,none⟩ (.int .i64 (k:Int)) (.inr (by simp))
    have hyz:(w1.setCell ⟨w.heap.size+1,0,none⟩ (.int .i64 (k:Int))).heap.size=w1.heap.size:=by simp [World.setCell]
    go_upto_region 9 with fail
    generalize hw2:w1.setCell ⟨w.heap.size+1,0,none⟩ (.int .i64 (k:Int))=w2 at *
    have lc:∀j,j<t.length+1->w2.cell? ⟨g,j,none⟩=some (.int .i64 ((a::t).getD j 0:Nat)):=fun j hj=>by
     rw [yU yl]
     have h:=zY HG6 j (by rw [xO];exact hj)
     rw [h,nU]
    have c0:=fun j=>cell_of_row w2 _ j _ 49 (0,0) y0
    have c1:=fun j=>cell_of_row w2 _ j _ 49 (0,0) y1
    have z1:=fun j=>yB y1 j
    have z0:=fun j=>yB y0 j
    have l0:=lc 0 (by omega)
    have LC:=zZ lc
    have Y0:=zZ y0
    have Y1:=zZ y1
    have HFY:=zZ hfy
    have hz2:w.heap.size+1<w2.heap.size:=by omega
    have hg2:g<w2.heap.size:=by omega
    clear y0 y1 yl hfy hyz hw2 lc X0 X1 HF1 HG6 hz1 hgz hg1 HWW
    have hkk:=zY HKK
    have k1:((k:Int)==1)=false:=by simp;omega
    have k2:((k:Int)==2)=false:=by simp;omega
    have k3:((k:Int)==3)=false:=by simp;omega
    have k4:((k:Int)==4)=false:=by simp;omega
    have k5:((k:Int)==5)=false:=by simp;omega
    have HIP:=zZ (xK (zY HBS) (zY HNS) (by simp only [xR];rw [if_neg (by omega),if_neg (by omega),if_neg (by omega),if_neg (by omega),if_neg (by omega)]))
    go_upto_region 32 with fail
    have q1:=zY Y1
    have q0:=zY Y0
    have qf:=zY HFY
    obtain⟨w3,hw3⟩ : ∃w3,w2=w3:=⟨_,rfl⟩
    rw [hw3] at q0 q1 qf ⊢
    have d0:=fun j=>cell_of_row w3 _ j _ 49 (0,0) q0
    have d1:=fun j=>cell_of_row w3 _ j _ 49 (0,0) q1
    have u0:=fun j=>yB q0 j
    have HFQ:=zZ qf
    have hz3:w.heap.size+1<w3.heap.size:=(zN.1 q1).1
    clear c0 c1 z1 z0 q0 q1 qf hw3
    go_region
    all_goals
     go_wp2_with fail
     refine bodyPost_ret (v:=.tuple #[.agg #[.int .i64 (k:Nat),.int .i64 (0),.int .i64 (0),.slice none 0 0],.bool false]) (by simp [results,Tryz.results77,go_sem,d0]) rfl ?_
     refine yW (zY HIP) ?_
     repeat (first | exact zY HFQ | refine Fr.drew ?_ | refine Fr.setCell ?_ _ _ (.inr (Nat.le_refl _)))
