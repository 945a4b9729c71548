/-
  PROVED HERE: feed.Filled of inputs makes a channel that holds
-/
import Derived.Test.YtfmbebofllgmoaaGreatDoorSreplaysad
import Derived.Test.YtfmbebofllgmoaaGreatDoorSreplaysao
set_option maxRecDepth 20000
namespace Go.Proofs.YtfmbebofllgmoaaGreatDoor
open Go.RowKit Go.Conc
theorem mkP (n:Nat) (hn:n<=2000000) (w:World):(Instr.makeChan 167 (.int .i64 n)).run Tryz.prog w=.ok (.chan (some w.heap.size)) (w.alloc (.chan n #[] false 0 0 false)):=by
 have h:(Tryz.prog.info? 49).map (·.bytes)=some 48:=by kernel_rfl
 obtain⟨i,hi,hb⟩:=Option.map_eq_some_iff.1 h
 exact run_makeChan (P:=Tryz.prog) (w:=w) Tryz.underlying167 hi .i64 n (by omega) (by rw [hb];omega)
structure FillP (w:World) (n:Nat) (ev:Nat->Value) (i:Nat) (W:World):Prop where
 fr:Fr (fun _=>False) w W (fun _=>False)
 ch:W.heap[w.heap.size]?=some (.chan n ((List.range i).map ev).toArray false i 0 false)
theorem zD3 {w:World} (a0:Option Addr) (n c:Nat) (k0 k1 k2:Nat->Int) (vf:Nat->Value) (hn:n<=2000000) (hc:∀i,i<n->∃q,a0=some ⟨q,0,none⟩/\q<w.heap.size/\w.cell? ⟨q,i*4,none⟩=some (.int .i64 (k0 i))/\w.cell? ⟨q,i*4+1,none⟩=some (.int .i64 (k1 i))/\w.cell? ⟨q,i*4+2,none⟩=some (.int .i64 (k2 i))/\w.cell? ⟨q,i*4+3,none⟩=some (vf i)) (hv:∀i,∃a l c,vf i=.slice a l c) :
  Calls Tryz.prog 52 #[.slice a0 n c] w fun e w'=>e=.returned (.chan (some w.heap.size))/\Fr (fun _=>False) w w' (fun _=>False)/\w'.heap[w.heap.size]?=some (.chan n ((List.range n).map (fun i=>.agg #[.int .i64 (k0 i),.int .i64 (k1 i),.int .i64 (k2 i),vf i])).toArray true n 0 false):=by
 generalize hev:(fun i=>Value.agg #[.int .i64 (k0 i),.int .i64 (k1 i),.int .i64 (k2 i),vf i])=ev
 refine vJ Tryz.func52 rfl ?_
 rw [Tryz.ntmps52,kN (.slice a0 n c) 20 19 [.slice a0 n c,undef,undef,undef,undef,undef,undef,undef,undef,undef,undef,undef,undef,undef,undef,undef,undef,undef,undef,undef] rfl rfl]
 have hmk:=mkP n hn w
 refine Rn.seq (Rn.go ?_)
 go_wp2
 refine yG (Rn.seq (Rn.go ?_))
 go_wp2
 refine yG (Rn.seq (Rn.seq (Rn.go ?_)))
 go_wp2
 refine yG (Rn.block (Rn.loop ?_))
 refine Rn.iter (fun m a w'=>∃i u5 u12 u13 u14 u15 u16 u17,i+m=n/\a=⟨#[.slice a0 n c,undef,.chan none,.chan (some w.heap.size),undef,u5,.slice a0 n c,.int .i64 n,.chan (some w.heap.size),.slice a0 n c,.int .i64 n,.int .i64 (i:Nat),u12,u13,u14,u15,u16,u17,undef,undef],[]⟩/\FillP w n ev i w') ?_ n _ _
  ⟨0,_,_,_,_,_,_,_,by omega,rfl,⟨(Fr.refl _ w).alloc _,heap_alloc_new _ _⟩⟩
 rintro m _ W ⟨i,u5,u12,u13,u14,u15,u16,u17,hi,rfl,hW⟩ ih
 refine Rn.seq (Rn.go ?_)
 go_wp2
 refine yG (Rn.seq ?_)
 by_cases hlt:i<n
 ·have hd:decide (i<n)=true:=by simpa using hlt
  simp only [hd]
  refine Rn.cond (t:=true) rfl ?_
  simp only [if_true]
  refine Rn.go ?_
  go_wp2
  refine yG (Rn.seq (Rn.block (Rn.seq (Rn.go ?_))))
  obtain⟨q,rfl,hq,h0,h1,h2,h3⟩:=hc i hlt
  obtain⟨fa,fl,fc,hvf⟩:=hv i
  rw [hvf] at h3
  have hc0:=(hW.fr.cell q (i*4) hq (fun h=>h)).trans h0
  have hc1:=(hW.fr.cell q (i*4+1) hq (fun h=>h)).trans h1
  have hc2:=(hW.fr.cell q (i*4+2) hq (fun h=>h)).trans h2
  have hc3:=(hW.fr.cell q (i*4+3) hq (fun h=>h)).trans h3
  have HW:=zZ hW
  clear hW
  go_wp2
  generalize hW2:W.alloc (.cells #[.int .i64 (k0 i),.int .i64 (k1 i),.int .i64 (k2 i),.slice fa fl fc] 49)=W2
  have hW:=zY HW
  have h5:W2.heap[W.heap.size]?=some (.cells #[.int .i64 (k0 i),.int .i64 (k1 i),.int .i64 (k2 i),.slice fa fl fc] 49):=by rw [<-hW2];exact heap_alloc_new _ _
  have hch:W2.heap[w.heap.size]?=some (.chan n ((List.range i).map ev).toArray false i 0 false):=by rw [<-hW2];exact(zR _ _ _ (zN.1 hW.ch).1).trans hW.ch
  have hf2:Fr (fun _=>False) w W2 (fun _=>False):=by rw [<-hW2];exact hW.fr.alloc _
  have d0:=cell_of_row _ _ 0 _ 49 (0,0) h5
  have d1:=cell_of_row _ _ 1 _ 49 (0,0) h5
  have d2:=cell_of_row _ _ 2 _ 49 (0,0) h5
  have d3:=cell_of_row _ _ 3 _ 49 (0,0) h5
  refine yG (Rn.region' [0,1,2] rfl ?_)
  refine Rn.op rfl rfl rfl ?_
  refine Rn.op (v:=ev i) (w':=W2) rfl rfl ?_ ?_
  ·rw [<-hev];simp [execOp,Act.eval,Act.put,go_sem,d0,d1,d2,d3,hvf]
  refine Rn.send (c:=w.heap.size) (cap:=n) (buf:=((List.range i).map ev).toArray) (s:=i) (r:=0) (tm:=false) (v:=ev i) (z:=.tuple #[]) (by decide) rfl rfl (by simp [execOp,scase,Act.eval,Act.put]) hch (by simpa using hlt) ?_
  have hn2:FillP w n ev (i+1) (W2.setChan w.heap.size n (((List.range i).map ev).toArray.push (ev i)) false (i+1) 0 false):=by
   have hlt2:=(zN.1 hch).1
   refine⟨⟨hf2.os,hf2.tape,hf2.output,by rw [size_setChan];exact hf2.size,fun k hk hn=>?_,fun _ _ h=>h⟩,?_⟩
   ·simp only [World.setChan];rw [Array.getElem?_setIfInBounds_ne (by omega)];exact hf2.same k hk hn
   ·rw [heap_setChan _ _ _ _ _ _ _ _ hlt2,List.range_succ,List.map_append];simp
  generalize W2.setChan w.heap.size n (((List.range i).map ev).toArray.push (ev i)) false (i+1) 0 false=W3 at hn2 ⊢
  refine Rn.regionEnd (Rn.inBlock (Rn.go ?_))
  simp only [Act.put]
  have hw1:IntKind.i64.wrap ((i:Int)+1)=((i+1:Nat):Int):=by rw [IntKind.wrap_i64];omega
  clear hch h5 d0 d1 d2 d3 hf2 hW2
  go_wp2
  refine yG (ih (m-1) _ _ (by omega) ⟨i+1,_,_,_,_,_,_,_,by omega,rfl,hn2⟩)
 ·have hd:decide (i<n)=false:=by simpa using hlt
  have hin:i=n:=by omega
  subst hin
  simp only [hd]
  refine Rn.cond (t:=false) rfl ?_
  simp only [if_false,Bool.false_eq_true]
  refine Rn.exit rfl (Rn.seq (Rn.go ?_))
  have hcl:=fun ats ty=>run_close_open (P:=Tryz.prog) (w:=W) ats ty hW.ch
  have hlt2:=(zN.1 hW.ch).1
  have HW:=zZ hW
  clear hW
  go_wp2
  refine yG (Rn.seq (Rn.go ?_))
  go_wp2
  have hf2:=(zY HW).fr
  refine yG (Rn.ret rfl rfl Tryz.func52 (by simp [results,Tryz.results52,go_sem]) ⟨rfl,⟨hf2.os,hf2.tape,hf2.output,by simpa using hf2.size,fun k hk hn=>?_,fun _ _ h=>h⟩,?_⟩)
  ·show (W.heap.setIfInBounds _ _)[k]?=_
   rw [Array.getElem?_setIfInBounds_ne (by omega)];exact hf2.same k hk hn
  ·show (W.heap.setIfInBounds _ _)[w.heap.size]?=_
   rw [Array.getElem?_setIfInBounds_self_of_lt hlt2]
