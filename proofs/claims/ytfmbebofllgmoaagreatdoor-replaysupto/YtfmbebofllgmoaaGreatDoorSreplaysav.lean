/-
  PROVED HERE: the reader's input: a kind that is none.
-/
import Derived.Deep.DeepCutAuto
import Derived.Test.YtfmbebofllgmoaaGreatDoorSreplaysam
set_option maxHeartbeats 2000000
set_option maxRecDepth 20000
namespace Go.Proofs.YtfmbebofllgmoaaGreatDoor
open Go.RowKit
attribute [local go_sem ↓] Go.wp_at_zero Go.wp_at_succ
theorem zL0 (b:ByteArray) (h0:0<b.size) (hs:b.size<=40) (w:World) (ns:List Nat) (hv:tO (b.extract 1 b.size)=some ns) (hk:yH b 0<1\/5<yH b 0):Calls Tryz.prog 101 #[.string b] w (uW b w):=by
 have hse:(b.extract 1 b.size).size=b.size-1:=by simp [ByteArray.size_extract]
 have HM:Hid (sC b=none):=zZ (by unfold sC;rw [hv];exact eJ (.inr (.inr (.inr (.inr (.inr (by omega)))))))
 have HV:=zZ hv
 have HC:=zZ fun w=>vA (b.extract 1 b.size) (by omega) w
 rw [xG b 0 h0] at hk
 have HK:=zZ hk
 clear hv hk
 go_enter Tryz.func101,Tryz.ntmps101
 go_upto_region 4 with (go_at_call 122;(refine(zY HC _).mono ?_;rintro e w1 p1;obtain⟨f1,hl1,v1,rfl,o1⟩:=tE p1 (zY HV);have F1:=zZ f1;obtain⟨a1,c1,rfl⟩:=xQ o1;rw [xO];obtain⟨⟨r0,r1,r2,r3⟩,rz⟩:=oD f1;clear p1 f1 o1))
 go_cut [6] (fun u wc=>∃z:Int,u=.int .i64 z/\(z<1\/5<z)/\wc=w1)
 case first=>
  go_wp2
  go_meet
  exact⟨_,rfl,by have:=zY HK;have hlt:=UInt8.toNat_lt (b[0]'h0);have hw:wrap64 ((b[0]'h0).toNat:Int)=(b[0]'h0).toNat:=(by simp only [wrap64];omega);omega,rfl⟩
 case rest=>
  obtain⟨z,rfl,hz,rfl⟩:=hcut
  have h1:¬z=1:=by omega
  have h2:¬z=2:=by omega
  have h3:¬z=3:=by omega
  have h4:¬z=4:=by omega
  have h5:¬z=5:=by omega
  clear hz
  go_wp2
  exact bodyPost_ret (v:=.tuple #[.agg #[.int .i64 0,.int .i64 0,.int .i64 0,.slice none 0 0],.bool false]) (by simp [results,Tryz.results101,go_sem,r0,r1,r2,r3]) rfl (uK (zY HM) (uC (zY F1) _ _ _ _))
