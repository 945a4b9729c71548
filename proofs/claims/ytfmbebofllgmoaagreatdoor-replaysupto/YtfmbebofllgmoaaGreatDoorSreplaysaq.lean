/-
  PROVED HERE: the log's writer begins with its head, and ends 
-/
import Derived.Lib.SlBytesConst
import Derived.Test.YtfmbebofllgmoaaGreatDoorSreplaysam
import Derived.Test.YtfmbebofllgmoaaGreatDoorSreplaysap
set_option maxHeartbeats 1000000
set_option maxRecDepth 20000
namespace Go.Proofs.YtfmbebofllgmoaaGreatDoor
open Go.RowKit
attribute [local go_sem ↓] Go.wp_at_zero Go.wp_at_succ
theorem zT3 (l:List UInt8):∀r:ByteArray,((l.map fun x=>(x.toNat:Int)).foldl (fun r n=>r.push (UInt8.ofNat n.toNat)) r)=⟨r.data++l.toArray⟩:=by
 induction l with
 | nil=>intro r;apply ByteArray.ext;simp
 | cons x l ih=>
  intro r
  rw [List.map_cons,List.foldl_cons,ih]
  apply ByteArray.ext
  simp
theorem convB {w:World} {g off cap:Nat} {b:ByteArray} (h:∀j u,(u8s b)[j]?=some u->w.cell? ((⟨g,off,none⟩ : Addr).add j)=some u):(convert 54 9 (.slice (some ⟨g,off,none⟩) b.size cap)).run Tryz.prog w=.ok (.string b) w:=by
 rw [run_convert_bytes_string w 54 9 5 _ _ _ Tryz.underlying54 Tryz.underlying5 Tryz.underlying9]
 have h1:=run_loadCells_list (P:=Tryz.prog) (w:=w) ⟨g,off,none⟩ (u8s b) h
 have e:u8s b=(b.data.toList.map fun x=>(x.toNat:Int)).map (Value.int .u8):=by simp [u8s]
 rw [pM] at h1
 rw [run_bytesToString w ⟨g,off,none⟩ b.size cap (b.data.toList.map fun x=>(x.toNat:Int)) (by rw [h1,e]),zT3]
 have e2:(⟨ByteArray.empty.data++b.data.toList.toArray⟩ : ByteArray)=b:=by apply ByteArray.ext;simp
 rw [e2]
theorem yI1 {w:World} {lb B:Nat} {v:Value} {b:ByteArray} (h:rJ w lb B v b) (hB:B<=w.heap.size) (n:Nat) (hn:n<1000) (hb:b.size<=800000000) :
  Calls Tryz.prog 38 #[.pointer (some ⟨lb,0,none⟩),.int .i64 n] w fun e w'=>∃v',e=.returned (.string (b++yS (yT 5 0 n)))/\rJ w' lb B v' (b++yS (yT 5 0 n))/\Fr (lgS lb v) w w' (lgS lb v'):=by
 have hbs:yT 5 0 n=one 5++xN n:=by unfold yT;rw [if_neg (by omega)]
 have h1s:(one 5).size=1:=by unfold one;simp
 have hvs:=uA n (by omega)
 have hsz:(yT 5 0 n).size<=1000:=by rw [hbs,ByteArray.size_append];omega
 have hs0:0<(yT 5 0 n).size:=by rw [hbs,ByteArray.size_append];omega
 have hc:=cA h hB (.int .i64 5) (.int .i64 0) (.int .i64 n) none 0 0 5 0 n rfl rfl rfl hsz hs0 hb (by
  have:=bI 5 0 n (.slice none 0 0) none 0 0 rfl (.inr rfl) (by omega) (w.alloc (.cells #[.int .i64 5,.int .i64 0,.int .i64 n,.slice none 0 0] 49))
  rw [show (w.alloc (.cells #[.int .i64 5,.int .i64 0,.int .i64 n,.slice none 0 0] 49)).heap.size=w.heap.size+1 by simp] at this
  exact this)
 have hf0:0<(b++yS (yT 5 0 n)).size:=by
  have:=(lV (yT 5 0 n).size).1
  unfold yS
  rw [ByteArray.size_append,ByteArray.size_append,ByteArray.size_append]
  omega
 generalize b++yS (yT 5 0 n)=R at *
 clear hbs h1s hvs hsz hs0 hb h
 go_enter Tryz.func38,Tryz.ntmps38
 go_wp2_with (go_at_call 64;refine hc.mono ?_;rintro e w1 ⟨v1,rfl,l1,f1⟩;obtain⟨g,cap,rfl,_,_⟩:=l1.row.bytes hf0;have cl:=l1.cell;have hcv:=convB (cap:=cap) (l1.row.cells hf0);have L1:=zZ l1;have F1:=zZ f1;clear l1 f1)
 go_ret
 exact⟨_,rfl,zY L1,zY F1⟩
def tH:ByteArray:=((ByteArray.empty.push 82).push 82).push 49
theorem cL (w:World):Calls Tryz.prog 37 #[] w fun e w'=>∃v,e=.returned (.pointer (some ⟨w.heap.size+1,0,none⟩))/\rJ w' (w.heap.size+1) w.heap.size v tH/\Fr (fun _=>False) w w' (fun _=>False)/\(∀k,own v k->k=w.heap.size)/\w'.heap.size=w.heap.size+2:=by
 have hcv:=Go.Lib.run_convert_bytes_const (P:=Tryz.prog) w 54 5 #[.int .u8 82,.int .u8 82,.int .u8 49] 3 3 Tryz.underlying54 Tryz.underlying5
 go_enter Tryz.func37,Tryz.ntmps37
 go_wp2
 go_ret
 have z1:(w.alloc (.cells #[.int .u8 82,.int .u8 82,.int .u8 49] 5 (3,4))).heap.size=w.heap.size+1:=by simp
 have hb:=heap_alloc_new (w.alloc (.cells #[.int .u8 82,.int .u8 82,.int .u8 49] 5 (3,4))) (.cells #[.slice (some ⟨w.heap.size,0,none⟩) 3 3] 149)
 rw [z1] at hb
 have hg:((w.alloc (.cells #[.int .u8 82,.int .u8 82,.int .u8 49] 5 (3,4))).alloc (.cells #[.slice (some ⟨w.heap.size,0,none⟩) 3 3] 149)).heap[w.heap.size]?=some (.cells #[.int .u8 82,.int .u8 82,.int .u8 49] 5 (3,4)):=(zR _ _ _ (by rw [z1];omega)).trans (heap_alloc_new w _)
 refine⟨.slice (some ⟨w.heap.size,0,none⟩) 3 3,rfl,⟨cell_of_row _ _ 0 _ 149 (0,0) hb,yB hb 0,?_,?_,by simp⟩,((Fr.refl _ w).alloc _).alloc _,?_,by simp⟩
 ·refine .inr ⟨w.heap.size,rfl,Nat.le_refl _,by simp;omega,fun j u hj=>?_⟩
  rw [Nat.zero_add,cell_of_row _ _ j _ 5 (3,4) hg]
  have e:u8s tH=[.int .u8 82,.int .u8 82,.int .u8 49]:=by simp [u8s,tH]
  rw [e] at hj
  simpa using hj
 ·simp [own,Value.ownBlock]
 ·intro k hk
  simp only [own,Value.ownBlock,Option.some.injEq] at hk
  exact hk.symm
