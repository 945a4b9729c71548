/-
  PROVED HERE: what raw handlers and a raw world look like in m
-/
import Derived.ProofKit
import Derived.OpenShut
import Derived.SizedLaws
import Derived.Deep.Slices
import Derived.Deep.Strs
import Derived.Lib.SmallJoins
import Derived.Test.YtfmbebofllgmoaaGreatDoorRows
import Derived.Deep.DeepHandedRow
import Derived.Lib.LaidTab
import Derived.Test.YtfmbebofllgmoaaGreatDoorSreplaysar
namespace Go.Proofs.YtfmbebofllgmoaaGreatDoor
open Go.ChangeShapes Go.WideShapes Go.ChangeAt Go.RowKit Go.Deep
theorem kc26:Tryz.prog.cellsOf 26=1:=by kernel_rfl
theorem kc3:Tryz.prog.cellsOf 3=1:=by kernel_rfl
section
variable {H:Type} {w:World}
theorem yD7 {a:Addr} {n:Nat} {cs:List Value} (h:w.cells? 0 (a.add 0) n=some cs) (hn:0<n):∃b off,a=⟨b,off,none⟩:=by
 obtain⟨_,hl,hc⟩:=World.cells?_some h
 obtain⟨b,off,spot⟩:=a
 have h0:=hc 0 hn
 rw [List.getElem?_eq_getElem (by omega)] at h0
 have hspot:spot=none:=by simpa [Addr.add] using World.cell?_spot h0
 subst hspot
 exact⟨b,off,rfl⟩
end
theorem yJ2 {H:Type} (d:DataW H):1<=Rows.uptoBulk d:=by
 cases d with
 | lit l=>cases l<;>simp [Rows.uptoBulk]
 | nil=>simp [Rows.uptoBulk]
 | ptr d=>simp [Rows.uptoBulk]
 | slice elems spare=>simp [Rows.uptoBulk]
 | agg parts=>simp [Rows.uptoBulk]
 | iface t d=>simp [Rows.uptoBulk]
 | map entries=>simp [Rows.uptoBulk]
 | held h=>simp [Rows.uptoBulk]
theorem mC {H:Type} {d:DataW H} {l:List (DataW H)} (h:d∈l):Rows.uptoBulk d<=Rows.uptoBulkAll l:=by
 induction l with
 | nil=>cases h
 | cons x r ih=>
  simp only [Rows.uptoBulkAll]
  cases List.mem_cons.1 h with
  | inl e=>subst e;omega
  | inr e=>have:=ih e;omega
theorem fM {H:Type} (l:List (DataW H)):l.length<=Rows.uptoBulkAll l:=by
 induction l with
 | nil=>simp [Rows.uptoBulkAll]
 | cons x r ih=>have:=yJ2 x;simp only [Rows.uptoBulkAll,List.length_cons];omega
theorem jZ {H:Type} (elems spare:List (DataW H)):elems.length+spare.length+1<=Rows.uptoBulk (.slice elems spare):=by
 have h1:=fM elems
 have h2:=fM spare
 simp only [Rows.uptoBulk]
 omega
section
variable {H:Type} {enc:TypeId×Value->H} {w:World} {spare:Nat->Bool} {held:Bool}
end
theorem kown:ownKnob Tryz.prog.godebug=none:=by kernel_rfl
theorem kTab:Tryz.prog.globalNamed "rerun/check.meanings" = some 0:=by kernel_rfl
theorem yD6:(Tryz.prog.globals[0]?).map (·.type)=some 165:=by kernel_rfl
theorem kc164:Tryz.prog.cellsOf 164=2:=by kernel_rfl
theorem yL3 {W:World} (h:laidMet Tryz.prog [("rerun/check.meanings",Rows.laid_rerun_check_meanings)] W):pV W:=by
 obtain⟨ps,⟨g',t',cs,fuel,p,q,hg',ht',hvar,hd,_,_⟩,_⟩:=h
 obtain rfl:=Option.some.inj (kTab.symm.trans hg')
 obtain rfl:=Option.some.inj (yD6.symm.trans ht')
 obtain⟨xs,m,_,hx,_,hl,hi⟩:=DataW.trod_array Tryz.underlying165 hd
 have hx1:Rows.laid_rerun_check_meanings=.agg (xs.map (·.1)):=(Prod.mk.inj hx).1
 have hx2:xs.map (·.1)=_:=(DataW.agg.inj hx1).symm
 have entry:∀(i:Nat) (a b:Int),i<12->(xs.map (·.1))[i]?=some (.agg [.lit (.int .i64 a),.lit (.int .i64 b)])->W.cell? ⟨0,i*2,none⟩=some (.int .i64 a)/\W.cell? ⟨0,i*2+1,none⟩=some (.int .i64 b):=by
  intro i a b hlt he
  have hi':=hi i hlt
  rw [kc164] at hi'
  obtain⟨x,hxi⟩ : ∃x,xs[i]?=some x:=⟨_,List.getElem?_eq_getElem (by omega)⟩
  rw [hxi] at hi'
  rw [List.getElem?_map,hxi] at he
  simp only [Option.map_some,Option.some.injEq] at he
  obtain⟨y0,y1,n,hy,_,h0,h1⟩:=trod_struct2 Tryz.underlying164 hi'
  rw [hy] at he
  simp only [kc3] at h0 h1
  obtain⟨a',e0,r0,_⟩:=DataW.trod_int Tryz.underlying3 h0
  obtain⟨b',e1,r1,_⟩:=DataW.trod_int Tryz.underlying3 h1
  rw [r0,r1] at he
  simp only [DataW.agg.injEq,List.cons.injEq,DataW.lit.injEq,Lit.int.injEq,true_and,and_true] at he
  obtain⟨rfl,rfl⟩:=he
  rw [World.var?_cell kTab hvar,World.var?_cell kTab hvar]
  have q0:=congrArg (·[0]?) e0
  have q1:=congrArg (·[0]?) e1
  simp [List.getElem?_drop] at q0 q1
  exact⟨by simpa using q0,by simpa using q1⟩
 rw [hx2] at entry
 intro c h1 h2
 have hc:c=1\/c=2\/c=3\/c=4\/c=5\/c=6\/c=7\/c=8\/c=9\/c=10\/c=11:=by omega
 rcases hc with rfl | rfl | rfl | rfl | rfl | rfl | rfl | rfl | rfl | rfl | rfl
 ·exact entry 1 1 0 (by omega) rfl
 ·exact entry 2 1 1 (by omega) rfl
 ·exact entry 3 2 1 (by omega) rfl
 ·exact entry 4 2 0 (by omega) rfl
 ·exact entry 5 3 0 (by omega) rfl
 ·exact entry 6 3 0 (by omega) rfl
 ·exact entry 7 1 0 (by omega) rfl
 ·exact entry 8 1 4 (by omega) rfl
 ·exact entry 9 1 0 (by omega) rfl
 ·exact entry 10 1 0 (by omega) rfl
 ·exact entry 11 0 0 (by omega) rfl
