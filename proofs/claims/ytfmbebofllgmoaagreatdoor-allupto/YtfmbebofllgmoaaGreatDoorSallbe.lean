/-
  PROVED HERE: how long a run's trace is at the most; a struct'
-/
import Derived.ChangeKeysEq
import Derived.Test.YtfmbebofllgmoaaGreatDoorSallbd
set_option maxHeartbeats 2000000
set_option maxRecDepth 20000
namespace Go.Proofs.YtfmbebofllgmoaaGreatDoor
open Go.RowKit
section
variable {σ:Type} {ask:σ->Int->Int->Rep×σ} {mes:σ->Nat}
theorem gW (hs:uP ask mes) {p:Pg} (hp:sM p):∀(k N:Nat) (s:PS) (x:σ),vL p N s->vL p (N+16*k) (xG ask p k s x).1
 | 0,_,_,_,h=>h
 | k+1,N,s,x,h=>by
  unfold xG
  refine yE (P:=fun q:PS×σ=>vL p (N+16*(k+1)) q.1) ?_ (h.mono (Nat.le_add_right _ _))
  exact(gW hs hp k (N+16) _ _ (jJ hs hp x h)).mono (by omega)
theorem cB (hs:uP ask mes) {p:Pg} (hp:sM p) (k:Nat) (f:Int) (x:σ):(tG ask p k f x).1.trace.length<=5000+16*k:=by
 have hq0:vL p 5000 (s0 (min (max f 0) 5000)):=by
  refine⟨⟨⟨by show 0<=min (max f 0) 5000;omega,by show min (max f 0) 5000<=5000;omega⟩,⟨by show (0:Int)<=0;omega,by show (0:Int)<=1099511627776;omega⟩,⟨by show (0:Int)<=0;omega,by show (0:Int)+min (max f 0) 5000<=5000;omega⟩,by show 0+(min (max f 0) 5000).toNat<=5000;omega⟩,⟨fun _ h=>absurd h Bool.false_ne_true,fun _ h=>absurd h Bool.false_ne_true,fun _ h=>absurd h Bool.false_ne_true,fun _ _ h=>absurd h Bool.false_ne_true⟩⟩
 have hq1:=qF hs hp.sr (s0 (min (max f 0) 5000)) x hq0
 have h2:vL p (5000+16*k) (tG ask p k f x).1:=gW hs hp k 5000 _ _ hq1
 have:=h2.1.trace
 omega
end
theorem zO6 {p:Pg} (hp:sM p) (f:Int) (lc:List Int) (bt:List (Value×List Int)) (lp ll:List Int):(sL p f lc bt lp ll).1.trace.length<=5000+16*(lc.length+1):=cB pJ hp _ _ _
theorem plain2:Tryz.prog.plainKey 2=true:=by kernel_rfl
theorem kcel2:Tryz.prog.cellsOf 2=1:=by kernel_rfl
theorem und2:Tryz.prog.underlying 2=some (.int .i64):=by kernel_rfl
theorem eqInt2 (n:Nat) (a:Int) (w:World):(Op.equalIn (n+1) 2 (.int .i64 a) (.int .i64 a)).run Tryz.prog w=.ok true w:=by
 simp [Op.equalIn,run_underlying und2]
theorem zE7 (n:Nat) (xs:Array Value) (w:World):∀(l:List Nat),(∀j,j∈l->∃z,xs[j]?=some (.int .i64 z))->(Op.eqItems (n+1) 2 1 xs xs l).run Tryz.prog w=.ok true w
 | [],_=>by simp [Op.eqItems]
 | j::r,h=>by
  obtain⟨z,hz⟩:=h j (List.mem_cons_self ..)
  have p:(part 2 xs j).run Tryz.prog w=.ok (.int .i64 z) w:=run_part_plain w plain2 hz
  have ih:=zE7 n xs w r (fun i hi=>h i (List.mem_cons_of_mem _ hi))
  simp only [Op.eqItems,Sem.run_bind,Nat.mul_one,p,Result.andThen_ok,eqInt2 n,Bool.not_true,Bool.false_eq_true,if_false]
  exact ih
theorem eq35n (n:Nat) (a b c d:Int) (w:World):(Op.equalIn (n+2) 35 (.agg #[.int .i64 a,.int .i64 b,.int .i64 c,.int .i64 d]) (.agg #[.int .i64 a,.int .i64 b,.int .i64 c,.int .i64 d])).run Tryz.prog w=.ok true w:=by
 obtain⟨i,hi⟩:=info_of_underlying und2
 rw [run_equalIn_array (P:=Tryz.prog) w (n+1) _ _ Tryz.underlying35 hi,kcel2]
 refine zE7 n _ w _ (fun j hj=>?_)
 have:j=0\/j=1\/j=2\/j=3:=by have:=List.mem_range.1 hj;omega
 rcases this with rfl | rfl | rfl | rfl<;>exact⟨_,rfl⟩
theorem eq35 (a b c d:Int) (w:World):(Op.equalIn 9999 35 (.agg #[.int .i64 a,.int .i64 b,.int .i64 c,.int .i64 d]) (.agg #[.int .i64 a,.int .i64 b,.int .i64 c,.int .i64 d])).run Tryz.prog w=.ok true w:=eq35n 9997 a b c d w
end Go.Proofs.YtfmbebofllgmoaaGreatDoor
namespace Go.Proofs.YtfmbebofllgmoaaGreatDoor
open Go.RowKit
attribute [local go_sem ↓] Go.wp_at_zero Go.wp_at_succ
theorem yQ1 (t:ByteArray) (hs:t.size<=1000000000) (W:World):Calls Tryz.prog 16 #[.string t] W fun e w'=>∃a c,∃ps:List (Inp×Value),e=.returned (.tuple #[.slice a ps.length c,.int .i64 (yS (bs t)).2.1,.int .i64 (yS (bs t)).2.2])/\uI w' W.heap.size (.slice a ps.length c) ps/\ps.map (·.1)=(yS (bs t)).1/\Fr (fun _=>False) W w' (fun _=>False):=by
 refine(zH7 t hs W).mono ?_
 rintro e w' ⟨a,n,c,ps,rfl,hi,hp,hf⟩
 obtain⟨a',c',e'⟩:=yM hi.row
 injection e' with e1 e2 e3
 subst e1 e2 e3
 exact⟨a,c,ps,rfl,hi,hp,hf⟩
theorem uI.cells {w:World} {B:Nat} {v:Value} {ps:List (Inp×Value)} (h:uI w B v ps) {i:Nat} (hi:i<ps.length):∃g c x fv,v=.slice (some ⟨g,0,none⟩) ps.length c/\g<w.heap.size/\ps[i]?=some (x,fv)/\w.cell? ⟨g,i*4,none⟩=some (.int .i64 (x.1:Nat))/\w.cell? ⟨g,i*4+1,none⟩=some (.int .i64 (x.2.1:Nat))/\w.cell? ⟨g,i*4+2,none⟩=some (.int .i64 (x.2.2.1:Nat))/\w.cell? ⟨g,i*4+3,none⟩=some fv/\yR w B fv (zs x.2.2.2):=by
 obtain⟨g,c,hv,_,hg,hc⟩:=tU h.row (by omega)
 have hp:ps[i]?=some ps[i]:=List.getElem?_eq_getElem hi
 obtain⟨g0,g1,g2,g3⟩:=lW ps i _ hp
 exact⟨g,c,ps[i].1,ps[i].2,hv,hg,hp,hc _ _ g0,hc _ _ g1,hc _ _ g2,hc _ _ g3,h.fl _ (List.getElem_mem hi)⟩
theorem uI.fr {w W:World} {B:Nat} {v:Value} {ps:List (Inp×Value)} (h:uI w B v ps) (hf:Fr (fun _=>False) w W (fun _=>False)):uI W B v ps:=h.block (fun q hq=>hf.same q (h.lt hq).2 (fun h=>h))
theorem zV7 {x:Inp} (h:Fit x):x.2.2.2.length<=100:=by
 rcases h with ⟨_,_,_,e⟩ | ⟨_,_,_,e⟩ | ⟨_,_,_,_,e⟩ | ⟨_,_,_,_,e⟩ | ⟨_,_,_,_,e⟩
 ·rw [e];simp
 ·have:=(pX x.2.2.2 (-1) (by omega) (by omega) e).1;omega
 ·rw [e];simp
 ·rw [e];simp
 ·rw [e];simp
theorem zC3 {w:World} {va vb:Value} {l:List Int} {P Q:Nat->Prop} (ha:yJ w va l P) (hb:yJ w vb l Q) (hll:l.length<=100000000) :
  Calls Tryz.prog 78 #[va,vb] w fun e w'=>e=.returned (.bool true)/\Dr w w':=by
 obtain⟨aa,ca,rfl,hac⟩:=ha
 obtain⟨ab,cb,rfl,hbc⟩:=hb
 have HAC:=zZ hac
 have HBC:=zZ hbc
 clear hac hbc
 go_enter Tryz.func78,Tryz.ntmps78
 go_wp2
 go_loopw [5] (fun i wr=>∃j:Nat,j<=l.length/\i=.int .i64 j/\Dr w wr) (fun i _=>l.length-(intOf i).toNat)
 case atStart=>exact⟨0,Nat.zero_le _,rfl,Dr.refl _⟩
 case round=>
  obtain⟨j,hj,rfl,hd⟩:=hrel
  by_cases hlt:j<l.length
  ·rcases zY HAC with hz | ⟨q,off,rfl,hq,hcq⟩
   ·rw [hz] at hlt;simp at hlt
   rcases zY HBC with hz | ⟨q',off',rfl,hq',hcq'⟩
   ·rw [hz] at hlt;simp at hlt
   have g0:=(hd.cell (a:=⟨q,off+j,none⟩)).trans (hcq j hlt)
   have g1:=(hd.cell (a:=⟨q',off'+j,none⟩)).trans (hcq' j hlt)
   clear hcq hcq' HAC HBC
   generalize l.getD j 0=z at *
   have hk0:(0:Int)<=(j:Int):=by omega
   have hk1:(j:Int)<(l.length:Int):=by omega
   go_wp2
   go_quiet (fail)
   go_wp2
   go_roundw
   case rel=>exact⟨j+1,by omega,by go_num,hd.more _⟩
   case measure=>simp [intOf];omega
  ·have hk1:¬(j:Int)<(l.length:Int):=by omega
   go_wp2
   go_ret
   exact⟨rfl,hd⟩
def uD (w:World) (v:Value) (m:Int):Prop:=∃a n c,v=.slice a n c/\n<=1000000000/\(n=0\/∃q off,a=some ⟨q,off,none⟩/\∀i,i<n->w.cell? ⟨q,off+i,none⟩=some (.int .i64 m))
theorem pA {w:World} {v:Value} {m:Int} (h:uD w v m):Calls Tryz.prog 47 #[v,.int .i64 m] w fun e w'=>e=.returned (.bool true)/\w'=w:=by
 obtain⟨a,n,c,rfl,hn,hc⟩:=h
 have HC:=zZ hc
 clear hc
 go_enter Tryz.func47,Tryz.ntmps47
 go_wp2
 go_loopw [5] (fun i wr=>∃j:Nat,j<=n/\i=.int .i64 j/\wr=w) (fun i _=>n-(intOf i).toNat)
 case atStart=>exact⟨0,Nat.zero_le _,rfl,rfl⟩
 case round=>
  obtain⟨j,hj,rfl,rfl⟩:=hrel
  by_cases hlt:j<n
  ·rcases zY HC with hz | ⟨q,off,rfl,hcq⟩
   ·omega
   have g0:=hcq j hlt
   clear hcq HC
   have hk0:(0:Int)<=(j:Int):=by omega
   have hk1:(j:Int)<(n:Int):=by omega
   go_wp2
   go_roundw
   case rel=>exact⟨j+1,by omega,by go_num,trivial⟩
   case measure=>simp [intOf];omega
  ·have hk1:¬(j:Int)<(n:Int):=by omega
   go_wp2
   go_ret
   exact⟨rfl,rfl⟩
def uN (w:World) (v:Value) (m:Int):Prop:=∃a n c,v=.slice a n c/\n<=1000000000/\(n=0\/∃q off,a=some ⟨q,off,none⟩/\∀i,i<n->w.cell? ⟨q,off+i*4,none⟩=some (.int .i64 0)/\w.cell? ⟨q,off+i*4+1,none⟩=some (.int .i64 0)/\w.cell? ⟨q,off+i*4+2,none⟩=some (.int .i64 m)/\w.cell? ⟨q,off+i*4+3,none⟩=some (.slice none 0 0))
theorem rR {w:World} {v:Value} {m:Int} (h:uN w v m):Calls Tryz.prog 49 #[v,.int .i64 m] w fun e w'=>e=.returned (.bool true)/\w'=w:=by
 obtain⟨a,n,c,rfl,hn,hc⟩:=h
 have HC:=zZ hc
 clear hc
 go_enter Tryz.func49,Tryz.ntmps49
 go_wp2
 go_loopw [5] (fun i wr=>∃j:Nat,j<=n/\i=.int .i64 j/\wr=w) (fun i _=>n-(intOf i).toNat)
 case atStart=>exact⟨0,Nat.zero_le _,rfl,rfl⟩
 case round=>
  obtain⟨j,hj,rfl,rfl⟩:=hrel
  by_cases hlt:j<n
  ·rcases zY HC with hz | ⟨q,off,rfl,hcq⟩
   ·omega
   obtain⟨g0,g1,g2,g3⟩:=hcq j hlt
   clear hcq HC
   have hk0:(0:Int)<=(j:Int):=by omega
   have hk1:(j:Int)<(n:Int):=by omega
   go_wp2
   go_roundw
   case rel=>exact⟨j+1,by omega,by go_num,trivial⟩
   case measure=>simp [intOf];omega
  ·have hk1:¬(j:Int)<(n:Int):=by omega
   go_wp2
   go_ret
   exact⟨rfl,rfl⟩
theorem oX.cells {w:World} {B:Nat} {v:Value} {ps:List (Inp×Value)} (h:oX w B v ps) {i:Nat} (hi:i<ps.length):∃g c x fv,v=.slice (some ⟨g,0,none⟩) ps.length c/\g<w.heap.size/\ps[i]?=some (x,fv)/\w.cell? ⟨g,i*4,none⟩=some (.int .i64 (x.1:Nat))/\w.cell? ⟨g,i*4+1,none⟩=some (.int .i64 (x.2.1:Nat))/\w.cell? ⟨g,i*4+2,none⟩=some (.int .i64 (x.2.2.1:Nat))/\w.cell? ⟨g,i*4+3,none⟩=some fv/\yJ w fv (zs x.2.2.2) (fun q=>q<w.heap.size):=by
 obtain⟨g,c,hv,_,hg,hc⟩:=tU h.row (by omega)
 have hp:ps[i]?=some ps[i]:=List.getElem?_eq_getElem hi
 obtain⟨g0,g1,g2,g3⟩:=lW ps i _ hp
 exact⟨g,c,ps[i].1,ps[i].2,hv,hg,hp,hc _ _ g0,hc _ _ g1,hc _ _ g2,hc _ _ g3,yQ (h.fl _ (List.getElem_mem hi)) (fun _ _=>rfl) (fun _ hq=>hq.2.1)⟩
theorem cC {w:World} {B1 B2:Nat} {v1 v2:Value} {ps1 ps2:List (Inp×Value)} (h1:uI w B1 v1 ps1) (h2:oX w B2 v2 ps2) (he:ps1.map (·.1)=ps2.map (·.1)) (hl:ps1.length<=100000000) (hf:∀p,p∈ps1->p.1.2.2.2.length<=100) :
  Calls Tryz.prog 44 #[v1,v2] w fun e w'=>e=.returned (.bool true)/\Fr (fun _=>False) w w' (fun _=>False):=by
 have hle:ps1.length=ps2.length:=by have:=congrArg List.length he;simpa using this
 have key:∀i,i<ps1.length->∃g1 c1 g2 c2 fa1 fn1 fc1 fa2 fn2 fc2,∃x:Inp,v1=.slice (some ⟨g1,0,none⟩) ps1.length c1/\v2=.slice (some ⟨g2,0,none⟩) ps2.length c2/\g1<w.heap.size/\g2<w.heap.size/\∀W:World,Fr (fun _=>False) w W (fun _=>False)->
   (W.cell? ⟨g1,i*4,none⟩=some (.int .i64 (x.1:Nat))/\W.cell? ⟨g1,i*4+1,none⟩=some (.int .i64 (x.2.1:Nat))/\W.cell? ⟨g1,i*4+2,none⟩=some (.int .i64 (x.2.2.1:Nat))/\W.cell? ⟨g1,i*4+3,none⟩=some (.slice fa1 fn1 fc1))/\
   (W.cell? ⟨g2,i*4,none⟩=some (.int .i64 (x.1:Nat))/\W.cell? ⟨g2,i*4+1,none⟩=some (.int .i64 (x.2.1:Nat))/\W.cell? ⟨g2,i*4+2,none⟩=some (.int .i64 (x.2.2.1:Nat))/\W.cell? ⟨g2,i*4+3,none⟩=some (.slice fa2 fn2 fc2))/\
   Calls Tryz.prog 78 #[.slice fa1 fn1 fc1,.slice fa2 fn2 fc2] W fun e w'=>e=.returned (.bool true)/\Dr W w':=by
  intro i hi
  obtain⟨g1,c1,x1,fv1,e1,l1,p1,a0,a1,a2,a3,o1⟩:=h1.cells hi
  obtain⟨g2,c2,x2,fv2,e2,l2,p2,b0,b1,b2,b3,o2⟩:=h2.cells (i:=i) (by omega)
  have hx:x2=x1:=by
   have q1:(ps1.map (·.1))[i]?=some x1:=by rw [List.getElem?_map,p1];rfl
   have q2:(ps2.map (·.1))[i]?=some x2:=by rw [List.getElem?_map,p2];rfl
   rw [he,q2] at q1
   exact Option.some.inj q1
  subst hx
  obtain⟨fa1,fn1,fc1,rfl⟩:=rA o1
  obtain⟨fa2,fc2,hfv2,_⟩:=id o2
  subst hfv2
  refine⟨g1,c1,g2,c2,fa1,fn1,fc1,fa2,(zs x2.2.2.2).length,fc2,x2,e1,e2,l1,l2,fun W hW=>?_⟩
  have k1:∀j u,w.cell? ⟨g1,j,none⟩=some u->W.cell? ⟨g1,j,none⟩=some u:=fun j u h=>(hW.cell g1 j l1 (fun h=>h)).trans h
  have k2:∀j u,w.cell? ⟨g2,j,none⟩=some u->W.cell? ⟨g2,j,none⟩=some u:=fun j u h=>(hW.cell g2 j l2 (fun h=>h)).trans h
  refine⟨⟨k1 _ _ a0,k1 _ _ a1,k1 _ _ a2,k1 _ _ a3⟩,⟨k2 _ _ b0,k2 _ _ b1,k2 _ _ b2,k2 _ _ b3⟩,?_⟩
  have m1:=(pI (o1.fr hW (fun q hq=>⟨(zS o1 q hq).2,fun h=>h⟩)))
  have m2:=yQ o2 (fun q hq=>hW.same q hq (fun h=>h)) (fun _ h=>h)
  have hb:=hf _ (List.mem_of_getElem? p1)
  exact zC3 m1 m2 (by rw [xM];exact Nat.le_trans hb (by omega))
 obtain⟨a1,c1,rfl⟩:=yM h1.row
 obtain⟨a2,c2,rfl⟩:=yM h2.row
 have KEY:=zZ key
 rw [hle] at KEY ⊢
 rw [hle] at hl
 clear key h1 h2 hf he
 go_enter Tryz.func44,Tryz.ntmps44
 go_wp2
 go_loopw [5] (fun i wr=>∃j:Nat,j<=ps2.length/\i=.int .i64 j/\Fr (fun _=>False) w wr (fun _=>False)) (fun i _=>ps2.length-(intOf i).toNat)
 case atStart=>exact⟨0,Nat.zero_le _,rfl,Fr.refl _ _⟩
 case round=>
  obtain⟨j,hj,rfl,hfr⟩:=hrel
  by_cases hlt:j<ps2.length
  ·obtain⟨g1,k1,g2,k2,fa1,fn1,fc1,fa2,fn2,fc2,x,e1,e2,l1,l2,hk⟩:=zY KEY j hlt
   injection e1 with e1 _ e3
   injection e2 with e2 _ e4
   subst e1 e2 e3 e4
   obtain⟨⟨s0,s1,s2,s3⟩,⟨t0,t1,t2,t3⟩,_⟩:=hk wr hfr
   obtain⟨_,⟨r0,r1,r2,r3⟩,_⟩:=hk (wr.alloc (.cells #[.int .i64 (x.1:Nat),.int .i64 (x.2.1:Nat),.int .i64 (x.2.2.1:Nat),.slice fa1 fn1 fc1] 49)) (hfr.alloc _)
   have hz:=hfr.size
   have hn1:g1≠wr.heap.size:=by omega
   have hn2:g2≠wr.heap.size:=by omega
   have hn1':¬wr.heap.size=g1:=by omega
   have hn2':¬wr.heap.size=g2:=by omega
   have HC:=zZ (fun W hW=>(hk W hW).2.2)
   have HFR:=zZ hfr
   have hk0:(0:Int)<=(j:Int):=by omega
   have hk1:(j:Int)<(ps2.length:Int):=by omega
   clear hk hfr KEY
   go_wp2_with (go_at_call 78;refine(zY HC _ (((zY HFR).alloc _).alloc _)).mono ?_;rintro e w1 ⟨rfl,d1⟩;have y0:=fun i=>d1.cell ⟨wr.heap.size,i,none⟩;have y1:=fun i=>d1.cell ⟨wr.heap.size+1,i,none⟩;have D1:=zZ d1;clear d1)
   go_roundw
   case rel=>
    obtain⟨m,hm⟩:=zY D1
    refine⟨j+1,by omega,by go_num,?_⟩
    rw [hm]
    exact(((zY HFR).alloc _).alloc _).drewN m
   case measure=>simp [intOf];omega
  ·have hk1:¬(j:Int)<(ps2.length:Int):=by omega
   go_wp2
   go_ret
   exact⟨rfl,hfr⟩
