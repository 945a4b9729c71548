/-
  PROVED HERE: rerunref.register, rerunref.right and check.fits
-/
import Derived.Test.YtfmbebofllgmoaaGreatDoorSallzz
set_option maxHeartbeats 1000000
namespace Go.Proofs.YtfmbebofllgmoaaGreatDoor
open Go.RowKit
theorem pW {a b:Bool} (h:a=b):Ending.returned (.bool a)=.returned (.bool b):=by rw [h]
def regB (a:Int):Bool:=decide (0<=a) && decide (a<4)
theorem zC0 (a:Int) (w:World) :
  Calls Tryz.prog 104 #[.int .i64 a] w fun e w'=>e=.returned (.bool (regB a))/\w'=w:=by
 unfold regB
 by_cases h:0<=a
 ·go_enter Tryz.func104,Tryz.ntmps104
  go_wp2
  go_ret
  exact⟨by simp [h],rfl⟩
 ·go_enter Tryz.func104,Tryz.ntmps104
  go_wp2
  go_ret
  exact⟨pW (by
    have:decide (0<=a)=false:=by simpa using h
    rw [this];rfl),rfl⟩
def pR (n m:Int) (nt nf:Nat):Bool:=
 if m=1 then decide (0<=n) && decide (n<4)
 else if m=2 then decide (0<=n) && decide (n<nt)
 else if m=3 then decide (0<=n) && decide (n<nf)
 else if m=4 then decide (1<=n) && decide (n<=1000000)
 else true
theorem yE4 (n m:Int) (v1:Value) (a2 a3:Option Addr) (nt c2 nf c3:Nat) (w:World) :
  Calls Tryz.prog 82 #[.int .i64 n,.int .i64 m,.agg #[v1,.slice a2 nt c2,.slice a3 nf c3]] w fun e w'=>e=.returned (.bool (pR n m nt nf))/\w'=w.alloc (.cells #[v1,.slice a2 nt c2,.slice a3 nf c3] 33):=by
 go_enter Tryz.func82,Tryz.ntmps82
 go_wp2
 all_goals go_ret
 all_goals refine⟨pW ?_,rfl⟩
 all_goals simp_all [pR]
 all_goals omega
def cG (c:Int):Int:=if c=3 then 2 else if c=4 then 2 else if c=5 then 3 else if c=6 then 3 else if c=11 then 0 else 1
def cH (c:Int):Int:=if c=2 then 1 else if c=3 then 1 else if c=8 then 4 else 0
def yT (c a b:Int) (nt nf:Nat):Bool:=
 decide (1<=c) && decide (c<12) && pR a (cG c) nt nf && pR b (cH c) nt nf
theorem zC1 (c a b:Int) (nt nf:Nat) (h1:c≠1) (h2:c≠2) (h3:c≠3) (h4:c≠4) (h5:c≠5) (h6:c≠6) (h7:c≠7) (h8:c≠8) (h9:c≠9) (h10:c≠10) :
  (c==11)=yT c a b nt nf:=by
 by_cases h:c=11
 ·subst h;simp [yT,pR,cG,cH]
 ·have e:(decide (1<=c) && decide (c<12))=false:=by
   by_cases k:1<=c
   ·have:¬c<12:=by omega
    simp [this]
   ·simp [k]
  unfold yT
  rw [e]
  simp [h]
theorem zP4 (c a b:Int) (v1:Value) (a2 a3:Option Addr) (nt c2 nf c3:Nat) (w:World) :
  Calls Tryz.prog 70 #[.agg #[.int .i64 c,.int .i64 a,.int .i64 b],.agg #[v1,.slice a2 nt c2,.slice a3 nf c3]] w fun e w'=>e=.returned (.bool (yT c a b nt nf))/\w'=(w.alloc (.cells #[.int .i64 c,.int .i64 a,.int .i64 b] 70)).alloc (.cells #[v1,.slice a2 nt c2,.slice a3 nf c3] 33):=by
 go_enter Tryz.func70,Tryz.ntmps70
 go_wp2_with (go_at_call 104;refine(zC0 _ _).mono ?_;rintro e w' ⟨rfl,rfl⟩)
 all_goals go_ret
 all_goals refine⟨pW ?_,rfl⟩
 all_goals first
  | exact zC1 c a b nt nf (by simp_all) (by simp_all) (by simp_all) (by simp_all) (by simp_all) (by simp_all) (by simp_all) (by simp_all) (by simp_all) (by simp_all)
  | (simp_all [yT,pR,cG,cH,regB];done)
  | (simp_all [yT,pR,cG,cH,regB];omega)
def sO (w:World):Prop:=∀c:Int,1<=c->c<12->w.cell? ⟨0,c.toNat*2,none⟩=some (.int .i64 (cG c))/\w.cell? ⟨0,c.toNat*2+1,none⟩=some (.int .i64 (cH c))
theorem bl2 {w:World} (o1 o2:Obj):Below w.heap.size w ((w.alloc o1).alloc o2):=((Below.refl _ _).alloc (Nat.le_refl _) _).alloc (by simp) _
theorem bl3 {w:World} (o1 o2 o3:Obj):Below w.heap.size w (((w.alloc o1).alloc o2).alloc o3):=(bl2 o1 o2).alloc (by simp;omega) _
theorem bl4 {w:World} (o1 o2 o3 o4:Obj):Below w.heap.size w ((((w.alloc o1).alloc o2).alloc o3).alloc o4):=(bl3 o1 o2 o3).alloc (by simp;omega) _
theorem bl5 {w:World} (o1 o2 o3 o4 o5:Obj):Below w.heap.size w (((((w.alloc o1).alloc o2).alloc o3).alloc o4).alloc o5):=(bl4 o1 o2 o3 o4).alloc (by simp;omega) _
theorem zL0 (c a b:Int) (v1:Value) (a2 a3:Option Addr) (nt c2 nf c3:Nat) (w:World) (ht:sO w) :
  Calls Tryz.prog 51 #[.agg #[.int .i64 c,.int .i64 a,.int .i64 b],.agg #[v1,.slice a2 nt c2,.slice a3 nf c3]] w fun e w'=>e=.returned (.bool (yT c a b nt nf))/\Below w.heap.size w w':=by
 by_cases hc:1<=c
 ·by_cases hc':c<12
  ·have hc0:(0:Int)<=c:=by omega
   obtain⟨h1,h2⟩:=ht c hc hc'
   clear ht
   have hb:0<w.heap.size:=zU w _ h1
   generalize hA:cG c=tA at h1
   generalize hB:cH c=tB at h2
   have e0:yT c a b nt nf=(pR a tA nt nf && pR b tB nt nf):=by
    simp [yT,hc,hc',hA,hB]
   rw [e0]
   clear e0 hA hB
   cases hf:pR a tA nt nf
   all_goals
    go_enter Tryz.func51,Tryz.ntmps51
    go_wp2_with (go_at_call 82;refine(yE4 _ _ _ _ _ _ _ _ _ _).mono ?_;rintro e w' ⟨rfl,rfl⟩)
    go_ret
    exact⟨pW (by simp),by first | exact bl5 _ _ _ _ _ | exact bl4 _ _ _ _⟩
  ·have e0:yT c a b nt nf=false:=by simp [yT,hc']
   rw [e0]
   go_enter Tryz.func51,Tryz.ntmps51
   go_wp2
   go_ret
   exact⟨rfl,bl2 _ _⟩
 ·have e0:yT c a b nt nf=false:=by simp [yT,hc]
  rw [e0]
  go_enter Tryz.func51,Tryz.ntmps51
  go_wp2
  go_ret
  exact⟨rfl,bl2 _ _⟩
