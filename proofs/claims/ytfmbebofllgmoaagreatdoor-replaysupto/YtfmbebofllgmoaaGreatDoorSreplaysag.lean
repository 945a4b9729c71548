/-
  PROVED HERE: the loop's idle tells whether no timer is armed 
-/
import Derived.Deep.MidRow
import Derived.Test.YtfmbebofllgmoaaGreatDoorSreplaysaf
set_option maxHeartbeats 1000000
namespace Go.Proofs.YtfmbebofllgmoaaGreatDoor
open Go.RowKit
def oX (t:Nat->TM):List Value:=(List.range 32).map fun j=>mA (t (j / 4)) (j % 4)
theorem yH4 (t:Nat->TM) (i c:Nat) (hi:i<8) (hc:c<4):(oX t)[i*4+c]?=some (mA (t i) c):=by
 have e:(i*4+c) / 4=i:=by omega
 have e':(i*4+c) % 4=c:=by omega
 have e'':i*4+c<32:=by omega
 simp [oX,e'',e,e']
theorem mV (t:Nat->TM):(oX t).length=32:=by simp [oX]
theorem zK2 (t:Nat->TM) (w:World):(Instr.index 127 (.agg (oX t).toArray) (.int .i64 0)).run Tryz.prog w=.ok (.agg #[.bool (t 0).1,.int .i64 (t 0).2.1,.int .i64 (t 0).2.2.1,.int .i64 (t 0).2.2.2]) w:=by kernel_rfl
theorem zK3 (t:Nat->TM) (w:World):(Instr.index 127 (.agg (oX t).toArray) (.int .i64 1)).run Tryz.prog w=.ok (.agg #[.bool (t 1).1,.int .i64 (t 1).2.1,.int .i64 (t 1).2.2.1,.int .i64 (t 1).2.2.2]) w:=by kernel_rfl
theorem zK4 (t:Nat->TM) (w:World):(Instr.index 127 (.agg (oX t).toArray) (.int .i64 2)).run Tryz.prog w=.ok (.agg #[.bool (t 2).1,.int .i64 (t 2).2.1,.int .i64 (t 2).2.2.1,.int .i64 (t 2).2.2.2]) w:=by kernel_rfl
theorem zK5 (t:Nat->TM) (w:World):(Instr.index 127 (.agg (oX t).toArray) (.int .i64 3)).run Tryz.prog w=.ok (.agg #[.bool (t 3).1,.int .i64 (t 3).2.1,.int .i64 (t 3).2.2.1,.int .i64 (t 3).2.2.2]) w:=by kernel_rfl
theorem zK6 (t:Nat->TM) (w:World):(Instr.index 127 (.agg (oX t).toArray) (.int .i64 4)).run Tryz.prog w=.ok (.agg #[.bool (t 4).1,.int .i64 (t 4).2.1,.int .i64 (t 4).2.2.1,.int .i64 (t 4).2.2.2]) w:=by kernel_rfl
theorem zK7 (t:Nat->TM) (w:World):(Instr.index 127 (.agg (oX t).toArray) (.int .i64 5)).run Tryz.prog w=.ok (.agg #[.bool (t 5).1,.int .i64 (t 5).2.1,.int .i64 (t 5).2.2.1,.int .i64 (t 5).2.2.2]) w:=by kernel_rfl
theorem zK8 (t:Nat->TM) (w:World):(Instr.index 127 (.agg (oX t).toArray) (.int .i64 6)).run Tryz.prog w=.ok (.agg #[.bool (t 6).1,.int .i64 (t 6).2.1,.int .i64 (t 6).2.2.1,.int .i64 (t 6).2.2.2]) w:=by kernel_rfl
theorem zK9 (t:Nat->TM) (w:World):(Instr.index 127 (.agg (oX t).toArray) (.int .i64 7)).run Tryz.prog w=.ok (.agg #[.bool (t 7).1,.int .i64 (t 7).2.1,.int .i64 (t 7).2.2.1,.int .i64 (t 7).2.2.2]) w:=by kernel_rfl
theorem bB (t:Nat->TM) (i:Nat) (hi:i<8) (w:World):(Instr.index 127 (.agg (oX t).toArray) (.int .i64 (i:Int))).run Tryz.prog w=.ok (.agg #[.bool (t i).1,.int .i64 (t i).2.1,.int .i64 (t i).2.2.1,.int .i64 (t i).2.2.2]) w:=by
 have hc:i=0\/i=1\/i=2\/i=3\/i=4\/i=5\/i=6\/i=7:=by omega
 rcases hc with rfl | rfl | rfl | rfl | rfl | rfl | rfl | rfl
 ·exact zK2 t w
 ·exact zK3 t w
 ·exact zK4 t w
 ·exact zK5 t w
 ·exact zK6 t w
 ·exact zK7 t w
 ·exact zK8 t w
 ·exact zK9 t w
theorem zP8:(Tryz.prog.info? 127).map (·.size)=some 32:=by kernel_rfl
section
variable {σ:Type} {SA:(Nat->Prop)->World->σ->Prop} {B:Nat} {S T:Nat->Prop} {w:World} {b:Nat} {pv:Nat->Value} {vt:Value} {s:PS} {x:σ}
theorem RI.range (h:RI SA B S w b pv vt T s x):w.rangeAt b 23 (oX s.tim):=by
 intro j v hv
 have hj:j<32:=by
  have:=(List.getElem?_eq_some_iff.1 hv).1
  simpa [mV] using this
 have e:=yH4 s.tim (j / 4) (j % 4) (by omega) (by omega)
 rw [show j / 4*4+j % 4=j from by omega,hv] at e
 cases e
 have:=h.cell (23+j / 4*4+j % 4) (by omega)
 rw [rD _ _ _ _ _ (by omega) (by omega)] at this
 rw [show 23+j=23+j / 4*4+j % 4 from by omega]
 exact this
def gH (f:Nat->Bool):Nat->Bool
 | 0=>false
 | n+1=>gH f n || f n
theorem nG (f:Nat->Bool) (n:Nat) (h:∀i,i<n->f i=false):gH f n=false:=by
 induction n with
 | zero=>rfl
 | succ n ih=>simp [gH,ih (fun i hi=>h i (by omega)),h n (by omega)]
theorem lC (f:Nat->Bool) (n i:Nat) (hi:i<n) (h:f i=true):gH f n=true:=by
 induction n with
 | zero=>omega
 | succ n ih=>
  by_cases e:i=n
  ·subst e;simp [gH,h]
  ·simp [gH,ih (by omega)]
theorem zU3 (b:Nat) (f:Nat->Bool) (w:World) (hf:∀i,i<8->w.cell? ⟨b,56+i,none⟩=some (.bool (f i))) :
  Calls Tryz.prog 133 #[.slice (some ⟨b,56,none⟩) 8 8,.bool true] w fun e w'=>(∃k:Int,e=.returned (.int .i64 k)/\decide (0<=k)=gH f 8)/\w'=w:=by
 have HF:=zZ hf
 clear hf
 go_enter Tryz.func133,Tryz.ntmps133
 go_wp2
 go_loop [8] (fun i=>∃k:Nat,k<=8/\i=.int .i64 k/\Hid (∀j,j<k->f j=false)) (fun i=>8-(intOf i).toNat)
 case atStart=>exact⟨0,Nat.zero_le _,rfl,fun j hj=>absurd hj (Nat.not_lt_zero _)⟩
 case round=>
  obtain⟨k,hk,rfl,hno⟩:=hrel
  by_cases hlt:k<8
  ·have c:=zY HF k hlt
   cases hv:f k
   ·rw [hv] at c
    go_wp2
    go_round
    case rel=>
     refine⟨k+1,by omega,by go_num,fun j hj=>?_⟩
     by_cases e:j=k
     ·subst e;exact hv
     ·exact zY hno j (by omega)
    case measure=>simp [intOf];omega
   ·rw [hv] at c
    go_wp2
    go_ret
    exact⟨⟨k,rfl,by rw [lC f 8 k hlt hv];simp⟩,rfl⟩
  ·have e:=nG f 8 (fun j hj=>zY hno j (by omega))
   have E:=zZ e
   clear e
   go_wp2
   go_ret
   exact⟨⟨-1,rfl,by rw [zY E];simp⟩,rfl⟩
theorem bV (b:Nat) (f:Nat->Bool) (w:World) (hf:∀i,i<8->w.cell? ⟨b,56+i,none⟩=some (.bool (f i))) :
  Calls Tryz.prog 115 #[.slice (some ⟨b,56,none⟩) 8 8,.bool true] w fun e w'=>e=.returned (.bool (gH f 8))/\w'=w:=by
 have HI:=zZ (zU3 b f w hf)
 clear hf
 go_enter Tryz.func115,Tryz.ntmps115
 go_wp2_with (go_at_call 133;refine(zY HI).mono ?_;rintro e w' ⟨⟨k,rfl,hk⟩,rfl⟩)
 go_ret
 exact⟨rfl,rfl⟩
def qF (s:PS):Bool:=!gH (fun i=>(s.tim i).1) 8 && !gH s.wat 8
theorem yC5 (L:xC SA) (h:RI SA B S w b pv vt T s x) :
  Calls Tryz.prog 94 #[.pointer (some ⟨b,0,none⟩)] w fun e w'=>e=.returned (.bool (qF s))/\RI SA B S w' b pv vt T s x/\Fr S w w' S:=by
 have hra:=zZ h.range
 have hlen:(oX s.tim).length=32:=mV _
 have hinf:(Tryz.prog.info? 127).map (·.size)=some (oX s.tim).length:=by rw [hlen];exact zP8
 have hix:=bB s.tim
 have H:=zZ h
 have HL:=zZ hinf
 have HX:=zZ hix
 clear h hinf hix hlen
 generalize hA:oX s.tim=A at *
 have HA:=zZ hA
 clear hA
 go_enter Tryz.func94,Tryz.ntmps94
 go_wp2_with (refine wpList_load_mid rfl 127 (.tmp 7) rfl b 23 rfl A _ (zY hra) Tryz.underlying127 rfl (zY HL) ?_)
 clear HL hra
 go_loopw [9] (fun i wr=>∃k:Nat,k<=8/\i=.int .i64 k/\RI SA B S wr b pv vt T s x/\Fr S w wr S/\Hid (∀j,j<k->(s.tim j).1=false)) (fun i _=>8-(intOf i).toNat)
 case atStart=>exact⟨0,Nat.zero_le _,rfl,zY H,Fr.refl S w,fun j hj=>absurd hj (Nat.not_lt_zero _)⟩
 case round=>
  obtain⟨k,hk,rfl,r1,r2,hno⟩:=hrel
  by_cases hlt:k<8
  ·have ix:=fun w=>(zY HX) k hlt w
   have R1:=zZ r1
   have R2:=zZ r2
   clear r1 r2
   cases hv:(s.tim k).1
   ·rw [hv] at ix
    generalize (s.tim k).2=t2 at ix
    go_wp2
    go_roundw
    case rel=>
     refine⟨k+1,by omega,by go_num,(zY R1).alloc L _,(zY R2).alloc _,fun j hj=>?_⟩
     by_cases e:j=k
     ·subst e;exact hv
     ·exact zY hno j (by omega)
    case measure=>simp [intOf];omega
   ·have e:qF s=false:=by
     unfold qF;rw [lC (fun i=>(s.tim i).1) 8 k hlt hv];rfl
    rw [hv] at ix
    generalize (s.tim k).2=t2 at ix
    have E:=zZ e
    clear e
    go_wp2
    go_ret
    exact⟨pI (zY E).symm,(zY R1).alloc L _,(zY R2).alloc _⟩
  ·have e:qF s=!gH s.wat 8:=by
    unfold qF;rw [nG (fun i=>(s.tim i).1) 8 (fun j hj=>zY hno j (by omega))];rfl
   have hc:=bV b s.wat wr (fun i hi=>(r1.cell (56+i) (by omega)).trans (by rw [qM _ _ _ _ hi]))
   have HC:=zZ hc
   have E:=zZ e
   have R1:=zZ r1
   have R2:=zZ r2
   clear e hc r1 r2
   go_wp2_with (go_at_call 115;refine(zY HC).mono ?_;rintro e w' ⟨rfl,hw'⟩;rw [hw'];clear hw')
   go_ret
   exact⟨pI (zY E).symm,zY R1,zY R2⟩
end
