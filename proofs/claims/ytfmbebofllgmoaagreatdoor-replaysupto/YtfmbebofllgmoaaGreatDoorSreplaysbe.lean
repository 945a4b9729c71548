/-
  PROVED HERE: how long a run's trace is at the most; a struct'
-/
import Derived.ChangeKeysEq
import Derived.Test.YtfmbebofllgmoaaGreatDoorSreplaysbd
namespace Go.Proofs.YtfmbebofllgmoaaGreatDoor
open Go.RowKit
section
variable {σ:Type} {ask:σ->Int->Int->Rep×σ} {mes:σ->Nat}
theorem gC (hs:uF ask mes) {p:Pg} (hp:tY p):∀(k N:Nat) (s:PS) (x:σ),vH p N s->vH p (N+16*k) (xF ask p k s x).1
 | 0,_,_,_,h=>h
 | k+1,N,s,x,h=>by
  unfold xF
  refine yD (P:=fun q:PS×σ=>vH p (N+16*(k+1)) q.1) ?_ (h.mono (Nat.le_add_right _ _))
  exact(gC hs hp k (N+16) _ _ (kT hs hp x h)).mono (by omega)
theorem dL (hs:uF ask mes) {p:Pg} (hp:tY p) (k:Nat) (f:Int) (x:σ):(uS ask p k f x).1.trace.length<=5000+16*k:=by
 have hq0:vH p 5000 (s0 (min (max f 0) 5000)):=by
  refine⟨⟨⟨by show 0<=min (max f 0) 5000;omega,by show min (max f 0) 5000<=5000;omega⟩,⟨by show (0:Int)<=0;omega,by show (0:Int)<=1099511627776;omega⟩,⟨by show (0:Int)<=0;omega,by show (0:Int)+min (max f 0) 5000<=5000;omega⟩,by show 0+(min (max f 0) 5000).toNat<=5000;omega⟩,⟨fun _ h=>absurd h Bool.false_ne_true,fun _ h=>absurd h Bool.false_ne_true,fun _ h=>absurd h Bool.false_ne_true,fun _ _ h=>absurd h Bool.false_ne_true⟩⟩
 have hq1:=rT hs hp.sr (s0 (min (max f 0) 5000)) x hq0
 have h2:vH p (5000+16*k) (uS ask p k f x).1:=gC hs hp k 5000 _ _ hq1
 have:=h2.1.trace
 omega
end
theorem zM5 {p:Pg} (hp:tY p) (f:Int) (lc:List Int) (bt:List (Value×List Int)) (lp ll:List Int):(tW p f lc bt lp ll).1.trace.length<=5000+16*(lc.length+1):=dL qU hp _ _ _
theorem plain2:Tryz.prog.plainKey 2=true:=by kernel_rfl
theorem kcel2:Tryz.prog.cellsOf 2=1:=by kernel_rfl
theorem und2:Tryz.prog.underlying 2=some (.int .i64):=by kernel_rfl
theorem eqInt2 (n:Nat) (a:Int) (w:World):(Op.equalIn (n+1) 2 (.int .i64 a) (.int .i64 a)).run Tryz.prog w=.ok true w:=by
 simp [Op.equalIn,run_underlying und2]
theorem zD0 (n:Nat) (xs:Array Value) (w:World):∀(l:List Nat),(∀j,j∈l->∃z,xs[j]?=some (.int .i64 z))->(Op.eqItems (n+1) 2 1 xs xs l).run Tryz.prog w=.ok true w
 | [],_=>by simp [Op.eqItems]
 | j::r,h=>by
  obtain⟨z,hz⟩:=h j (List.mem_cons_self ..)
  have p:(part 2 xs j).run Tryz.prog w=.ok (.int .i64 z) w:=run_part_plain w plain2 hz
  have ih:=zD0 n xs w r (fun i hi=>h i (List.mem_cons_of_mem _ hi))
  simp only [Op.eqItems,Sem.run_bind,Nat.mul_one,p,Result.andThen_ok,eqInt2 n,Bool.not_true,Bool.false_eq_true,if_false]
  exact ih
theorem eq35n (n:Nat) (a b c d:Int) (w:World):(Op.equalIn (n+2) 35 (.agg #[.int .i64 a,.int .i64 b,.int .i64 c,.int .i64 d]) (.agg #[.int .i64 a,.int .i64 b,.int .i64 c,.int .i64 d])).run Tryz.prog w=.ok true w:=by
 obtain⟨i,hi⟩:=info_of_underlying und2
 rw [run_equalIn_array (P:=Tryz.prog) w (n+1) _ _ Tryz.underlying35 hi,kcel2]
 refine zD0 n _ w _ (fun j hj=>?_)
 have:j=0\/j=1\/j=2\/j=3:=by have:=List.mem_range.1 hj;omega
 rcases this with rfl | rfl | rfl | rfl<;>exact⟨_,rfl⟩
theorem eq35 (a b c d:Int) (w:World):(Op.equalIn 9999 35 (.agg #[.int .i64 a,.int .i64 b,.int .i64 c,.int .i64 d]) (.agg #[.int .i64 a,.int .i64 b,.int .i64 c,.int .i64 d])).run Tryz.prog w=.ok true w:=eq35n 9997 a b c d w
end Go.Proofs.YtfmbebofllgmoaaGreatDoor
namespace Go.Proofs.YtfmbebofllgmoaaGreatDoor
open Go.RowKit
attribute [local go_sem ↓] Go.wp_at_zero Go.wp_at_succ
def pR (w:World) (v:Value) (m:Int):Prop:=∃a n c,v=.slice a n c/\n<=1000000000/\(n=0\/∃q off,a=some ⟨q,off,none⟩/\∀i,i<n->w.cell? ⟨q,off+i,none⟩=some (.int .i64 m))
theorem qL {w:World} {v:Value} {m:Int} (h:pR w v m):Calls Tryz.prog 47 #[v,.int .i64 m] w fun e w'=>e=.returned (.bool true)/\w'=w:=by
 obtain⟨a,n,c,rfl,hn,hc⟩:=h
 have HC:=zZ hc
 clear hc
 go_enter Tryz.func47,Tryz.ntmps47
 go_wp2
 go_loopw [5] (fun i wr=>∃j:Nat,j<=n/\i=.int .i64 j/\wr=w) (fun i _=>n-(intOf i).toNat)
 case atStart=>exact⟨0,Nat.zero_le _,rfl,rfl⟩
 case round=>
  obtain⟨j,hj,rfl,rfl⟩:=hrel
  by_cases hlt:j<n
  ·rcases zY HC with hz | ⟨q,off,rfl,hcq⟩
   ·omega
   have g0:=hcq j hlt
   clear hcq HC
   have hk0:(0:Int)<=(j:Int):=by omega
   have hk1:(j:Int)<(n:Int):=by omega
   go_wp2
   go_roundw
   case rel=>exact⟨j+1,by omega,by go_num,trivial⟩
   case measure=>simp [intOf];omega
  ·have hk1:¬(j:Int)<(n:Int):=by omega
   go_wp2
   go_ret
   exact⟨rfl,rfl⟩
def pS (w:World) (v:Value) (m:Int):Prop:=∃a n c,v=.slice a n c/\n<=1000000000/\(n=0\/∃q off,a=some ⟨q,off,none⟩/\∀i,i<n->w.cell? ⟨q,off+i*4,none⟩=some (.int .i64 0)/\w.cell? ⟨q,off+i*4+1,none⟩=some (.int .i64 0)/\w.cell? ⟨q,off+i*4+2,none⟩=some (.int .i64 m)/\w.cell? ⟨q,off+i*4+3,none⟩=some (.slice none 0 0))
theorem rC {w:World} {v:Value} {m:Int} (h:pS w v m):Calls Tryz.prog 49 #[v,.int .i64 m] w fun e w'=>e=.returned (.bool true)/\w'=w:=by
 obtain⟨a,n,c,rfl,hn,hc⟩:=h
 have HC:=zZ hc
 clear hc
 go_enter Tryz.func49,Tryz.ntmps49
 go_wp2
 go_loopw [5] (fun i wr=>∃j:Nat,j<=n/\i=.int .i64 j/\wr=w) (fun i _=>n-(intOf i).toNat)
 case atStart=>exact⟨0,Nat.zero_le _,rfl,rfl⟩
 case round=>
  obtain⟨j,hj,rfl,rfl⟩:=hrel
  by_cases hlt:j<n
  ·rcases zY HC with hz | ⟨q,off,rfl,hcq⟩
   ·omega
   obtain⟨g0,g1,g2,g3⟩:=hcq j hlt
   clear hcq HC
   have hk0:(0:Int)<=(j:Int):=by omega
   have hk1:(j:Int)<(n:Int):=by omega
   go_wp2
   go_roundw
   case rel=>exact⟨j+1,by omega,by go_num,trivial⟩
   case measure=>simp [intOf];omega
  ·have hk1:¬(j:Int)<(n:Int):=by omega
   go_wp2
   go_ret
   exact⟨rfl,rfl⟩
theorem nB.cells {w:World} {B:Nat} {v:Value} {ps:List (Inp×Value)} (h:nB w B v ps) {i:Nat} (hi:i<ps.length):∃g c x fv,v=.slice (some ⟨g,0,none⟩) ps.length c/\g<w.heap.size/\ps[i]?=some (x,fv)/\w.cell? ⟨g,i*4,none⟩=some (.int .i64 (x.1:Nat))/\w.cell? ⟨g,i*4+1,none⟩=some (.int .i64 (x.2.1:Nat))/\w.cell? ⟨g,i*4+2,none⟩=some (.int .i64 (x.2.2.1:Nat))/\w.cell? ⟨g,i*4+3,none⟩=some fv/\yJ w fv (zs x.2.2.2) (fun q=>q<w.heap.size):=by
 obtain⟨g,c,hv,_,hg,hc⟩:=sF h.row (by omega)
 have hp:ps[i]?=some ps[i]:=List.getElem?_eq_getElem hi
 obtain⟨g0,g1,g2,g3⟩:=iC ps i _ hp
 exact⟨g,c,ps[i].1,ps[i].2,hv,hg,hp,hc _ _ g0,hc _ _ g1,hc _ _ g2,hc _ _ g3,yN (h.fl _ (List.getElem_mem hi)) (fun _ _=>rfl) (fun _ hq=>hq.2.1)⟩
