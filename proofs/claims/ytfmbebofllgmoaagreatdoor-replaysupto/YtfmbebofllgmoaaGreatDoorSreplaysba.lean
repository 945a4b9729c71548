/-
  PROVED HERE: the keep statements' program, of raw handlers.
-/
import Derived.Test.YtfmbebofllgmoaaGreatDoorSreplaysam
import Derived.Test.YtfmbebofllgmoaaGreatDoorSreplaysap
namespace Go.Proofs.YtfmbebofllgmoaaGreatDoor
open Go.RowKit
attribute [local go_sem ↓] Go.wp_at_zero Go.wp_at_succ
/-! ### What it is -/
/-! ### It is right -/
theorem zS3 {p:Pg} (o:tY p):Ans p.tn p.fn (1+p.tn+p.fn) (qD p.sn p.tn p.tl p.fl) (qG p.tn p.sf p.tf p.ff) 0:=by
 refine .inr (.inr (.inr (.inr ⟨o.tn,o.fn,fun i hi=>?_,fun i k hi hk=>?_,rfl⟩)))
 ·unfold qD cat
  by_cases h1:i<1+p.tn
  ·rw [if_pos h1]
   by_cases h2:i<1
   ·rw [if_pos h2,if_neg (by omega)];exact o.sl
   ·rw [if_neg h2];exact o.tl _ (by omega)
  ·rw [if_neg h1];exact o.fl _ (by omega)
 ·unfold qD cat at hk
  unfold qG cat
  by_cases h1:i<1+p.tn
  ·rw [if_pos h1] at hk ⊢
   by_cases h2:i<1
   ·rw [if_pos h2,if_neg (by omega)] at hk ⊢;exact o.sr k hk
   ·rw [if_neg h2] at hk ⊢;exact o.tr _ (by omega) k hk
  ·rw [if_neg h1] at hk ⊢;exact o.fr _ (by omega) k hk
/-! ### How it lies -/
theorem jP {w:World} {B e:Nat} {v:Value} {l:List O3} (h:w.ownsRow B e 3 v l.length (xZ l)) (hl:l.length*24<=140737488351232):vQ w v l.length (fun i=>l.getD i (0,0,0)):=by
 rcases h.2 with ⟨hv,h0⟩ | ⟨g,cap,cur,hv,hB,hg,h1,h2,h3,h4⟩
 ·rw [h0];exact⟨none,0,by rw [hv],by omega,.inl rfl⟩
 ·refine⟨some ⟨g,0,none⟩,cap,hv,hl,.inr ⟨g,0,rfl,fun i hi=>?_⟩⟩
  have fl:∀(l:List O3) (i:Nat),i<l.length->(xZ l)[i*3]?=some (.int .i64 (l.getD i (0,0,0)).1)/\(xZ l)[i*3+1]?=some (.int .i64 (l.getD i (0,0,0)).2.1)/\(xZ l)[i*3+2]?=some (.int .i64 (l.getD i (0,0,0)).2.2):=by
   intro l
   induction l with
   | nil=>intro i hi;simp at hi
   | cons x r ih=>
    intro i hi
    cases i with
    | zero=>exact⟨rfl,rfl,rfl⟩
    | succ i=>
     have:=ih i (by simp at hi;omega)
     rw [show (i+1)*3=i*3+3 by omega,show i*3+3+1=(i*3+1)+3 by omega,show i*3+3+2=(i*3+2)+3 by omega]
     exact this
  have get:∀j u,j<l.length*3->(xZ l)[j]?=some u->w.cell? ⟨g,j,none⟩=some u:=by
   intro j u hj hu
   rw [cell_of_row w g j cur e (0,0) hg]
   rw [<-h4,List.getElem?_take,if_pos hj,Array.getElem?_toList] at hu
   exact hu
  obtain⟨f0,f1,f2⟩:=fl l i hi
  refine⟨?_,?_,?_⟩
  ·rw [Nat.zero_add];exact get _ _ (by omega) f0
  ·rw [Nat.zero_add];exact get _ _ (by omega) f1
  ·rw [Nat.zero_add];exact get _ _ (by omega) f2
abbrev Hr:=Value×List O3
structure P1 (w:World) (B sb pb:Nat) (wr:World) (vt vf:Value) (tv fv:List Hr):Prop where
 fr:Fr (fun _=>False) w wr (fun _=>False)
 pb_:wr.heap[pb]?=some (.cells #[.slice (some ⟨sb,0,none⟩) 4 4,vt,vf] 33)
 pbB:w.heap.size<=pb
 st:wr.heap[sb]?=some (.cells #[.int .i64 1,.int .i64 0,.int .i64 3,.int .i64 3,.int .i64 0,.int .i64 0,.int .i64 5,.int .i64 1,.int .i64 0,.int .i64 5,.int .i64 2,.int .i64 0] 70)
 sbB:w.heap.size<=sb/\sb<B
 tm:wr.ownsRow w.heap.size 31 1 vt tv.length (tv.map (·.1))
 fm:wr.ownsRow w.heap.size 31 1 vf fv.length (fv.map (·.1))
 th:∀p,p∈tv->wr.ownsRow B 70 3 p.1 p.2.length (xZ p.2)
 fh:∀p,p∈fv->wr.ownsRow B 70 3 p.1 p.2.length (xZ p.2)
 sep:∀q,own vt q->¬own vf q
