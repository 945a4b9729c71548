/-
  PROVED HERE: world.filled makes a channel that holds the list
-/
import Derived.KernelRfl
import Derived.Test.YtfmbebofllgmoaaGreatDoorSreplaysan
set_option maxRecDepth 20000
namespace Go.Proofs.YtfmbebofllgmoaaGreatDoor
open Go.RowKit Go.Conc
def exNo (K:Act->World->Prop):Exit->Act->World->Prop
 | .normal,a,w=>K a w
 | _,_,_=>False
theorem Rn.go {P:Program} {b:Frame} {R:Ending->World->Prop} {k:List Item} {a:Act} {w:World} {c:Code} (h:c.wp P (exNo (Rn P b R k)) a w):Rn P b R (.code c::k) a w:=
 Rn.code (Q:=Rn P b R k) (ret:=fun _ _=>False) (ex:=fun _ _ _=>False) (wp_mono h (fun e a w h=>by cases e<;>exact h)) (fun _ _ h=>h) (fun _ _ h=>h.elim) (fun _ _ _ h=>h.elim)
theorem mkI (n:Nat) (hn:n<=5000000) (w:World):(Instr.makeChan 171 (.int .i64 n)).run Tryz.prog w=.ok (.chan (some w.heap.size)) (w.alloc (.chan n #[] false 0 0 false)):=by
 have h:(Tryz.prog.info? 3).map (·.bytes)=some 8:=by kernel_rfl
 obtain⟨i,hi,hb⟩:=Option.map_eq_some_iff.1 h
 exact run_makeChan (P:=Tryz.prog) (w:=w) Tryz.underlying171 hi .i64 n (by omega) (by rw [hb];omega)
theorem kN (v:Value) (n m:Nat) (l:List Value) (h:n-1=m) (hl:l=v::List.replicate m undef):(#[v]++Array.replicate (n-(#[v]:Array Value).size) undef)=l.toArray:=by
 subst hl
 simp [h]
theorem yG {K:Act->World->Prop} {a:Act} {w:World} (h:K a w):exNo K .normal a w:=h
theorem kF (h:Array Obj) (o o':Obj):(h.push o).setIfInBounds h.size o'=h.push o':=by
 apply Array.ext_getElem?
 intro i
 by_cases e:i=h.size
 ·subst e;simp
 ·simp [Array.getElem?_push,e,Ne.symm e]
theorem kH (w:World) (o:Obj) (cap:Nat) (buf:Array Value) (cl:Bool) (s r:Nat) (tm:Bool):(w.alloc o).setChan w.heap.size cap buf cl s r tm=w.alloc (.chan cap buf cl s r tm):=
 congrArg (fun h=>({w with heap:=h}:World)) (kF w.heap o _)
theorem iV (w:World) (o o':Obj):({(w.alloc o) with heap:=(w.alloc o).heap.setIfInBounds w.heap.size o'}:World)=w.alloc o':=
 congrArg (fun h=>({w with heap:=h}:World)) (kF w.heap o _)
theorem Rn.iter {P:Program} {b:Frame} {R:Ending->World->Prop} {k:List Item} {X:Code} (I:Nat->Act->World->Prop)
  (h:∀m a w,I m a w->(∀m' a' w',m'<m->I m' a' w'->Rn P b R (.inLoop X::k) a' w')->Rn P b R (.code X::.inLoop X::k) a w) (m:Nat):∀a w,I m a w->Rn P b R (.code X::.inLoop X::k) a w:=by
 induction m using Nat.strongRecOn with
 | _ m ih=>exact fun a w hI=>h m a w hI (fun m' a' w' hm hI'=>Rn.inLoop (ih m' hm a' w' hI'))
theorem Rn.region' {P:Program} {b:Frame} {R:Ending->World->Prop} {k:List Item} {a:Act} {w:World} {id:Nat} {ops:Array Oper} (l:List Nat) (hl:List.range ops.size=l) (h:Rn P b R (.inRegion ops l::k) a w):Rn P b R (.code (.region id ops false)::k) a w:=Rn.region (hl▸h)
def pX (w:World) (n:Nat) (ev:Nat->Value) (i:Nat):World:=w.alloc (.chan n ((List.range i).map ev).toArray false i 0 false)
theorem mkL (n:Nat) (hn:n<=5000000) (w:World):(Instr.makeChan 172 (.int .i64 n)).run Tryz.prog w=.ok (.chan (some w.heap.size)) (w.alloc (.chan n #[] false 0 0 false)):=by
 have h:(Tryz.prog.info? 26).map (·.bytes)=some 24:=by kernel_rfl
 obtain⟨i,hi,hb⟩:=Option.map_eq_some_iff.1 h
 exact run_makeChan (P:=Tryz.prog) (w:=w) Tryz.underlying172 hi .i64 n (by omega) (by rw [hb];omega)
theorem zJ4 {w:World} (a0:Option Addr) (n c:Nat) (ev:Nat->Value) (hn:n<=5000000) (hc:∀i,i<n->∃q off,a0=some ⟨q,off,none⟩/\q<w.heap.size/\w.cell? ⟨q,off+i,none⟩=some (ev i)) :
  Calls Tryz.prog 62 #[.slice a0 n c] w fun e w'=>e=.returned (.chan (some w.heap.size))/\w'=w.alloc (.chan n ((List.range n).map ev).toArray true n 0 false):=by
 refine vJ Tryz.func62 rfl ?_
 rw [Tryz.ntmps62,kN (.slice a0 n c) 20 19 [.slice a0 n c,undef,undef,undef,undef,undef,undef,undef,undef,undef,undef,undef,undef,undef,undef,undef,undef,undef,undef,undef] rfl rfl]
 have hmk:=mkI n hn w
 refine Rn.seq (Rn.go ?_)
 go_wp2
 refine yG (Rn.seq (Rn.go ?_))
 go_wp2
 refine yG (Rn.seq (Rn.seq (Rn.go ?_)))
 go_wp2
 refine yG (Rn.block (Rn.loop ?_))
 refine Rn.iter (fun m a w'=>∃i u5 u12 u13 u14 u15 u16 u17,i+m=n/\a=⟨#[.slice a0 n c,undef,.chan none,.chan (some w.heap.size),undef,u5,.slice a0 n c,.int .i64 n,.chan (some w.heap.size),.slice a0 n c,.int .i64 n,.int .i64 (i:Nat),u12,u13,u14,u15,u16,u17,undef,undef],[]⟩/\w'=pX w n ev i) ?_ n _ _
  ⟨0,_,_,_,_,_,_,_,by omega,rfl,rfl⟩
 rintro m _ _ ⟨i,u5,u12,u13,u14,u15,u16,u17,hi,rfl,rfl⟩ ih
 refine Rn.seq (Rn.go ?_)
 go_wp2
 refine yG (Rn.seq ?_)
 by_cases hlt:i<n
 ·have hd:decide (i<n)=true:=by simpa using hlt
  simp only [hd]
  refine Rn.cond (t:=true) rfl ?_
  simp only [if_true]
  refine Rn.go ?_
  go_wp2
  refine yG (Rn.seq (Rn.block (Rn.seq (Rn.go ?_))))
  obtain⟨q,off,rfl,hq,hci⟩:=hc i hlt
  have hcell:(pX w n ev i).cell? ⟨q,off+i,none⟩=some (ev i):=(zO (w:=w) (a:=⟨q,off+i,none⟩) (zR _ _ _ hq)).trans hci
  go_wp2
  refine yG (Rn.region' [0,1,2] rfl ?_)
  refine Rn.op rfl rfl rfl ?_
  refine Rn.op rfl rfl rfl ?_
  refine Rn.send (c:=w.heap.size) (cap:=n) (buf:=((List.range i).map ev).toArray) (s:=i) (r:=0) (tm:=false) (v:=ev i) (z:=.tuple #[]) (by decide) rfl rfl (by simp [execOp,scase,Act.eval,Act.put]) (heap_alloc_new _ _) (by simpa using hlt) ?_
  rw [show (pX w n ev i).setChan w.heap.size n (((List.range i).map ev).toArray.push (ev i)) false (i+1) 0 false=pX w n ev (i+1) by
   rw [pX,kH,pX,List.range_succ,List.map_append];simp]
  refine Rn.regionEnd (Rn.inBlock (Rn.go ?_))
  simp only [Act.put]
  have hw1:IntKind.i64.wrap ((i:Int)+1)=((i+1:Nat):Int):=by rw [IntKind.wrap_i64];omega
  go_wp2
  refine yG (ih (m-1) _ _ (by omega) ⟨i+1,_,_,_,_,_,_,_,by omega,rfl,rfl⟩)
 ·have hd:decide (i<n)=false:=by simpa using hlt
  have hin:i=n:=by omega
  subst hin
  simp only [hd]
  refine Rn.cond (t:=false) rfl ?_
  simp only [if_false,Bool.false_eq_true]
  refine Rn.exit rfl (Rn.seq (Rn.go ?_))
  have hcl:=fun ats ty=>run_close_open (P:=Tryz.prog) (w:=pX w i ev i) ats ty (heap_alloc_new w _)
  go_wp2
  refine yG (Rn.seq (Rn.go ?_))
  go_wp2
  refine yG (Rn.ret rfl rfl Tryz.func62 (by simp [results,Tryz.results62,go_sem]) ⟨rfl,iV w _ _⟩)
theorem zD2 {w:World} (a0:Option Addr) (n c:Nat) (ev:Nat->Value) (hn:n<=5000000) (hc:∀i,i<n->∃q off,a0=some ⟨q,off,none⟩/\q<w.heap.size/\w.cell? ⟨q,off+i,none⟩=some (ev i)) :
  Calls Tryz.prog 63 #[.slice a0 n c] w fun e w'=>e=.returned (.chan (some w.heap.size))/\w'=w.alloc (.chan n ((List.range n).map ev).toArray true n 0 false):=by
 refine vJ Tryz.func63 rfl ?_
 rw [Tryz.ntmps63,kN (.slice a0 n c) 20 19 [.slice a0 n c,undef,undef,undef,undef,undef,undef,undef,undef,undef,undef,undef,undef,undef,undef,undef,undef,undef,undef,undef] rfl rfl]
 have hmk:=mkL n hn w
 refine Rn.seq (Rn.go ?_)
 go_wp2
 refine yG (Rn.seq (Rn.go ?_))
 go_wp2
 refine yG (Rn.seq (Rn.seq (Rn.go ?_)))
 go_wp2
 refine yG (Rn.block (Rn.loop ?_))
 refine Rn.iter (fun m a w'=>∃i u5 u12 u13 u14 u15 u16 u17,i+m=n/\a=⟨#[.slice a0 n c,undef,.chan none,.chan (some w.heap.size),undef,u5,.slice a0 n c,.int .i64 n,.chan (some w.heap.size),.slice a0 n c,.int .i64 n,.int .i64 (i:Nat),u12,u13,u14,u15,u16,u17,undef,undef],[]⟩/\w'=pX w n ev i) ?_ n _ _
  ⟨0,_,_,_,_,_,_,_,by omega,rfl,rfl⟩
 rintro m _ _ ⟨i,u5,u12,u13,u14,u15,u16,u17,hi,rfl,rfl⟩ ih
 refine Rn.seq (Rn.go ?_)
 go_wp2
 refine yG (Rn.seq ?_)
 by_cases hlt:i<n
 ·have hd:decide (i<n)=true:=by simpa using hlt
  simp only [hd]
  refine Rn.cond (t:=true) rfl ?_
  simp only [if_true]
  refine Rn.go ?_
  go_wp2
  refine yG (Rn.seq (Rn.block (Rn.seq (Rn.go ?_))))
  obtain⟨q,off,rfl,hq,hci⟩:=hc i hlt
  have hcell:(pX w n ev i).cell? ⟨q,off+i,none⟩=some (ev i):=(zO (w:=w) (a:=⟨q,off+i,none⟩) (zR _ _ _ hq)).trans hci
  go_wp2
  refine yG (Rn.region' [0,1,2] rfl ?_)
  refine Rn.op rfl rfl rfl ?_
  refine Rn.op rfl rfl rfl ?_
  refine Rn.send (c:=w.heap.size) (cap:=n) (buf:=((List.range i).map ev).toArray) (s:=i) (r:=0) (tm:=false) (v:=ev i) (z:=.tuple #[]) (by decide) rfl rfl (by simp [execOp,scase,Act.eval,Act.put]) (heap_alloc_new _ _) (by simpa using hlt) ?_
  rw [show (pX w n ev i).setChan w.heap.size n (((List.range i).map ev).toArray.push (ev i)) false (i+1) 0 false=pX w n ev (i+1) by
   rw [pX,kH,pX,List.range_succ,List.map_append];simp]
  refine Rn.regionEnd (Rn.inBlock (Rn.go ?_))
  simp only [Act.put]
  have hw1:IntKind.i64.wrap ((i:Int)+1)=((i+1:Nat):Int):=by rw [IntKind.wrap_i64];omega
  go_wp2
  refine yG (ih (m-1) _ _ (by omega) ⟨i+1,_,_,_,_,_,_,_,by omega,rfl,rfl⟩)
 ·have hd:decide (i<n)=false:=by simpa using hlt
  have hin:i=n:=by omega
  subst hin
  simp only [hd]
  refine Rn.cond (t:=false) rfl ?_
  simp only [if_false,Bool.false_eq_true]
  refine Rn.exit rfl (Rn.seq (Rn.go ?_))
  have hcl:=fun ats ty=>run_close_open (P:=Tryz.prog) (w:=pX w i ev i) ats ty (heap_alloc_new w _)
  go_wp2
  refine yG (Rn.seq (Rn.go ?_))
  go_wp2
  refine yG (Rn.ret rfl rfl Tryz.func63 (by simp [results,Tryz.results63,go_sem]) ⟨rfl,iV w _ _⟩)
