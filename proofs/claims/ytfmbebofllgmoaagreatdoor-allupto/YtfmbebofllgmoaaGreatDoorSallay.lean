/-
  PROVED HERE: a range over a function whose own state lies in 
-/
import Derived.RangeFuncNested
import Derived.RangeFuncBound
import Derived.RangeFuncCalls
import Derived.RangeFuncLeaves
import Derived.Test.YtfmbebofllgmoaaGreatDoorSallzz
namespace Go.Proofs.YtfmbebofllgmoaaGreatDoor
open Go.RowKit
def yC7 (l:Nat) (R:World->Prop):Prop:=∀W r o,R W->W.heap[l]?=some (.loop r)->R (W.putObj l (.loop o))
def mT (D l:Nat) (r:Loop) (W:World):Prop:=W.heap[l]?=some (.loop r)/\W.heap[D]?=some (.deferred (some []))
theorem yL6 {α:Type} {P:Program} {n:Nat} {g:Operand} {ps:Array Tmp} {assign body:Code} {Q:Exit->Act->World->Prop} {a:Act} {w:World} {gf:Nat} {lb:Array Value}
  (hg:a.eval g=.func (.func gf) #[] lb) (eg:∀args w,(callFunc gf args).run P w=.ok (.enter gf args) w) (encs:α->Array Value) (hps:∀x,(encs x).size=ps.size)
  (R R':α->World->Prop) (Rm:α->Act->World->Prop) (S:World->Prop) (hR':∀x,yC7 (w.heap.size+1) (R' x)) (hRm:∀x b,yC7 (w.heap.size+1) (Rm x b)) (hS:yC7 (w.heap.size+1) S)
  (hassign:∀(x:α) (W:World) (r:Loop) (K:Act->World->Prop),R x W->mT w.heap.size (w.heap.size+1) r W->(∀b W',mT w.heap.size (w.heap.size+1) r W'->Rm x b W'->K b W')->
   assign.wpIn (Fence.wide.inRound (w.heap.size+1)) n P (Exit.then K (fun _ _ _=>False)) {tmps:=(ps.zip (encs x)).foldl (fun t (p,v)=>t.setIfInBounds p v) a.tmps,defers:=[]} W)
  (hbody:∀(x:α) (b:Act) (W:World) (r:Loop),Rm x b W->mT w.heap.size (w.heap.size+1) r W->body.wpIn (Fence.wide.inRound (w.heap.size+1)) n P (fun e _ W'=>e=.normal/\mT w.heap.size (w.heap.size+1) r W'/\R' x W') b W)
  (hiter:∀(Bk:World->Prop) (W1:World),(∀W,Bk W->∃r,mT w.heap.size (w.heap.size+1) r W)->(∀W W',Bk W->W'.heap[w.heap.size]?=W.heap[w.heap.size]?->W'.heap[w.heap.size+1]?=W.heap[w.heap.size+1]?->Bk W')->
   (∀x W,R x W->Bk W->YieldAt Fence.wide n P (w.heap.size+1) (encs x) W fun e W'=>e=.returned (.bool true)/\R' x W'/\Bk W')->Bk W1->(∃o1 o2,W1=(w.alloc o1).alloc o2)->
   CallsIn Fence.wide n P gf (#[.func (.yield (w.heap.size+1)) #[] #[]]++lb) W1 fun e W'=>(∃v,e=.returned v)/\S W'/\Bk W')
  (hdone:∀(W:World),S W->W.heap[w.heap.size]?=some (.deferred (some []))->Q .normal {a with defers:={target:=.collected w.heap.size,args:=#[]}::a.defers} W) :
  (Code.rangeFunc g ps assign body).wpIn Fence.wide n P Q a w:=by
 refine wpIn_rangeFunc ?_
 intro fn hfn
 obtain⟨rec,hrec⟩ : ∃rec:LoopState->Loop,rec=fun st=>{state:=st,pending:=none,fn,tmps:=a.tmps,params:=ps,assign,body,defers:=w.heap.size}:=⟨_,rfl⟩
 obtain⟨W1,hW1⟩ : ∃W1,(w.alloc (.deferred (some []))).alloc (.loop (rec .ready))=W1:=⟨_,rfl⟩
 have hL1:W1.heap[w.heap.size+1]?=some (.loop (rec .ready)):=by
  rw [<-hW1];have:=World.alloc_heap_new (w.alloc (.deferred (some []))) (.loop (rec .ready));rwa [World.size_alloc] at this
 have hK1:W1.heap[w.heap.size]?=some (.deferred (some [])):=by
  rw [<-hW1];exact(zR _ _ _ (by simp)).trans (World.alloc_heap_new w _)
 refine⟨w.heap.size+1,[{target:=.collected w.heap.size,args:=#[]}],W1,{target:=.fn (.func gf) lb,args:=#[.func (.yield (w.heap.size+1)) #[] #[]]},W1,gf,
  #[.func (.yield (w.heap.size+1)) #[] #[]]++lb,W1,?_,?_,?_,?_,?_,?_⟩
 ·rw [<-hW1,hrec];exact run_enterLoop_outer _ _ _ _ _
 ·simp only [resolve,hg]
  simp [go_sem]
 ·intro f' _;exact trivial
 ·simp [invoke,go_sem,eg]
 ·intro h;cases h
 ·refine((callsIn_wide (n:=n-1)).2 ((callsIn_wide (n:=n)).1 (hiter (mT w.heap.size (w.heap.size+1) (rec .ready)) W1 (fun W h=>⟨_,h⟩) (fun W W' h h1 h2=>⟨h2.trans h.1,h1.trans h.2⟩) ?_ ⟨hL1,hK1⟩ ⟨_,_,hW1.symm⟩))).mono ?_
  ·intro x W hr hbk
   have hlt:w.heap.size+1<W.heap.size:=(zN.1 hbk.1).1
   have hy:=run_yield (P:=P) (args:=encs x) hbk.1 (by rw [hrec];exact hps x)
   rw [hrec] at hy
   refine⟨fn,_,assign,body,hy,roundIn_of_wpIn hfn (hassign x W (rec .ready) _ hr hbk ?_)⟩
   clear hy
   intro b Wa hba hra
   have hlta:w.heap.size+1<Wa.heap.size:=(zN.1 hba.1).1
   refine⟨_,run_beginRound hba.1 (by rw [hrec]),?_⟩
   have hb2:mT w.heap.size (w.heap.size+1) (rec .busy) (Wa.putObj (w.heap.size+1) (.loop (rec .busy))):=⟨World.putObj_heap_same hlta,(World.putObj_heap_other (by omega)).trans hba.2⟩
   have e2:({rec .ready with state:=.busy}:Loop)=rec .busy:=by rw [hrec]
   rw [e2]
   refine wpIn_mono (hbody x b _ (rec .busy) (hRm x b Wa _ _ hra hba.1) hb2) ?_
   rintro e b3 W3 ⟨rfl,hb3,hr3⟩
   have hlt3:w.heap.size+1<W3.heap.size:=(zN.1 hb3.1).1
   refine⟨_,_,run_endRound none hb3.1,rfl,?_,?_⟩
   ·exact hR' x W3 _ _ hr3 hb3.1
   ·have e3:({rec .busy with state:=if (none:Option Code).isNone then .ready else .done,pending:=none}:Loop)=rec .ready:=by rw [hrec];rfl
    rw [e3]
    exact⟨World.putObj_heap_same hlt3,(World.putObj_heap_other (by omega)).trans hb3.2⟩
  ·rintro e W2 ⟨⟨v,rfl⟩,hS2,hb2⟩
   have hrun:=run_endLoop (P:=P) hb2.1 (by rw [hrec];simp)
   have hpn:(rec .ready).pending=none:=by rw [hrec]
   rw [hpn] at hrun
   exact⟨none,_,hrun,hdone _ (hS W2 _ _ hS2 hb2.1) ((World.putObj_heap_other (by omega)).trans hb2.2)⟩
