/-
  PROVED HERE: rerunlaw.wipe and rerunlaw.ops: a handler is wri
-/
import Derived.Deep.RegionHeld3
import Derived.Test.YtfmbebofllgmoaaGreatDoorSallaa
set_option maxHeartbeats 1000000
namespace Go.Proofs.YtfmbebofllgmoaaGreatDoor
open Go.RowKit
structure pO (g:Nat) (w w':World):Prop where
 os:w'.os=w.os
 tape:w'.tape=w.tape
 output:w'.output=w.output
 size:w'.heap.size=w.heap.size
 block:∀k,k≠g->w'.heap[k]?=w.heap[k]?
 frozen:∀a,w'.frozen? a=w.frozen? a
 there:∀a,(w.cell? a).isSome=true->(w'.cell? a).isSome=true
theorem pO.refl (g:Nat) (w:World):pO g w w:=⟨rfl,rfl,rfl,rfl,fun _ _=>rfl,fun _=>rfl,fun _ h=>h⟩
theorem pO.setCell {g:Nat} {w w':World} (h:pO g w w') (o:Nat) (v:Value):pO g w (w'.setCell ⟨g,o,none⟩ v):=by
 refine⟨h.os,h.tape,h.output,?_,?_,?_,?_⟩
 ·rw [<-h.size];simp [World.setCell]
 ·intro k hk
  rw [zQ _ _ _ _ hk];exact h.block k hk
 ·intro a;rw [<-h.frozen a];simp
 ·intro a ha
  have:=h.there a ha
  by_cases e:a=⟨g,o,none⟩
  ·subst e
   rw [World.cell?_setCell_same' _ _ _ this];rfl
  ·rw [zV _ _ _ _ (Ne.symm e)];exact this
theorem zZ {p:Prop} (h:p):Hid p:=h
theorem zY {p:Prop} (h:Hid p):p:=h
def vG (w:World) (g m:Nat):Prop:=∀k,k<m->(w.cell? ⟨g,k,none⟩).isSome=true/\w.frozen? ⟨g,k,none⟩=false
theorem cW (g n c:Nat) (w:World) (hn:(n:Int)<=2^62) (hw:vG w g (n*3)) :
  Calls Tryz.prog 69 #[.slice (some ⟨g,0,none⟩) n c] w fun e w'=>e=.returned (.tuple #[])/\pO g w w':=by
 go_enter Tryz.func69,Tryz.ntmps69
 go_wp2
 go_loopw [2] (fun i wr=>∃k:Nat,k<=n/\i=.int .i64 k/\pO g w wr) (fun i _=>n-(intOf i).toNat)
 case atStart=>exact⟨0,Nat.zero_le _,rfl,pO.refl _ _⟩
 case round=>
  obtain⟨k,hk,rfl,hwp⟩:=hrel
  by_cases hlt:k<n
  ·obtain⟨t0,z0⟩:=hw (k*3) (by omega)
   obtain⟨t1,z1⟩:=hw (k*3+1) (by omega)
   obtain⟨t2,z2⟩:=hw (k*3+2) (by omega)
   obtain⟨v0,c0⟩:=Option.isSome_iff_exists.1 (hwp.there _ t0)
   obtain⟨v1,c1⟩:=Option.isSome_iff_exists.1 (hwp.there _ t1)
   obtain⟨v2,c2⟩:=Option.isSome_iff_exists.1 (hwp.there _ t2)
   rw [<-hwp.frozen] at z0 z1 z2
   clear t0 t1 t2 hw
   go_wp2
   go_roundw
   case rel=>exact⟨k+1,by omega,by go_num,((hwp.setCell _ _).setCell _ _).setCell _ _⟩
   case measure=>simp [intOf];omega
  ·go_wp2
   go_end0
   exact⟨rfl,hwp⟩
abbrev O3:=Int×Int×Int
def kW (w:World) (b o:Nat) (x:O3):Prop:=
 w.cell? ⟨b,o,none⟩=some (.int .i64 x.1)/\w.cell? ⟨b,o+1,none⟩=some (.int .i64 x.2.1)/\w.cell? ⟨b,o+2,none⟩=some (.int .i64 x.2.2)
def vQ (w:World) (v:Value) (n:Nat) (f:Nat->O3):Prop:=
 ∃a c,v=.slice a n c/\n*24<=140737488351232/\(n=0\/∃b off,a=some ⟨b,off,none⟩/\∀i,i<n->kW w b (off+i*3) (f i))
theorem pU {w w':World} (h:Below w.heap.size w w') {b o:Nat} {x:O3} (hx:kW w b o x):kW w' b o x:=by
 have hb:b<w.heap.size:=zU w _ hx.1
 exact⟨(h.cell (p:=⟨b,_,none⟩) hb).trans hx.1,(h.cell (p:=⟨b,_,none⟩) hb).trans hx.2.1,(h.cell (p:=⟨b,_,none⟩) hb).trans hx.2.2⟩
theorem yN {w w':World} (h:Below w.heap.size w w') {v:Value} {n:Nat} {f:Nat->O3} (hx:vQ w v n f):vQ w' v n f:=by
 obtain⟨a,c,hv,hn,hc⟩:=hx
 refine⟨a,c,hv,hn,?_⟩
 rcases hc with hc | ⟨b,off,ha,hc⟩
 ·exact .inl hc
 ·exact .inr ⟨b,off,ha,fun i hi=>pU h (hc i hi)⟩
def lH (n:Nat) (f:Nat->O3):Nat->O3:=fun i=>if i<n then f i else (9,0,0)
theorem info72:(Tryz.prog.info? 70).map (fun i=>(i.zero,i.size,i.bytes))=some (some (.agg #[.int .i64 0,.int .i64 0,.int .i64 0]),3,24):=by kernel_rfl
theorem yH4 (n:Nat) (hn:n*24<=140737488351232) (w:World):(Instr.makeSlice 31 (.int .i64 ((n:Int)+4)) (.int .i64 ((n:Int)+4))).run Tryz.prog w =
  .ok (.slice (some ⟨w.heap.size,0,none⟩) (n+4) (n+4)) (w.alloc (.cells (madeCells #[.int .i64 0,.int .i64 0,.int .i64 0] ((n+4)*3)) 70)):=by
 have h:=info72
 cases hi:Tryz.prog.info? 70 with
 | none=>rw [hi] at h;cases h
 | some i=>
  rw [hi] at h
  simp only [Option.map_some,Option.some.injEq,Prod.mk.injEq] at h
  obtain⟨hz,hs,hb⟩:=h
  have:=run_make (P:=Tryz.prog) w 31 70 i _ Tryz.underlying31 hi hz .i64 .i64 ((n:Int)+4) ((n:Int)+4) (by omega) (by omega) (by rw [hb];omega) (by omega)
  rw [this,hs]
  have e:((n:Int)+4).toNat=n+4:=by omega
  rw [e]
  rfl
structure tZ (w:World) (g m:Nat) (f:Nat->O3):Prop where
 there:vG w g (m*3)
 cells:∀i,i<m->kW w g (i*3) (f i)
theorem qJ (w:World) (z:Array Value) (m:Nat) (t:TypeId):vG (w.alloc (.cells (madeCells z m) t)) w.heap.size m:=by
 intro k hk
 refine⟨?_,?_⟩
 ·simp [size_madeCells,hk]
 ·simp
theorem vG.setCell {w:World} {g m:Nat} (h:vG w g m) (a:Addr) (v:Value):vG (w.setCell a v) g m:=by
 intro k hk
 obtain⟨h1,h2⟩:=h k hk
 refine⟨?_,by simpa using h2⟩
 by_cases e:a=⟨g,k,none⟩
 ·subst e;rw [World.cell?_setCell_same' _ _ _ h1];rfl
 ·rw [zV _ _ _ _ e];exact h1
theorem zG9 {w:World} {g o:Nat} (x:O3) (h0:(w.cell? ⟨g,o,none⟩).isSome=true) (h1:(w.cell? ⟨g,o+1,none⟩).isSome=true) (h2:(w.cell? ⟨g,o+2,none⟩).isSome=true) :
  kW (((w.setCell ⟨g,o,none⟩ (.int .i64 x.1)).setCell ⟨g,o+1,none⟩ (.int .i64 x.2.1)).setCell ⟨g,o+2,none⟩ (.int .i64 x.2.2)) g o x:=by
 refine⟨?_,?_,?_⟩
 ·rw [zV _ _ _ _ (by simp),zV _ _ _ _ (by simp),World.cell?_setCell_same' _ _ _ h0]
 ·rw [zV _ _ _ _ (by simp),World.cell?_setCell_same' _ _ _ (by rw [zV _ _ _ _ (by simp)];exact h1)]
 ·rw [World.cell?_setCell_same' _ _ _ (by rw [zV _ _ _ _ (by simp),zV _ _ _ _ (by simp)];exact h2)]
theorem pV {w:World} {g o b o':Nat} (x y z:Value) (u:O3) (h:kW w b o' u) (hne:b≠g\/o'+3<=o\/o+3<=o') :
  kW (((w.setCell ⟨g,o,none⟩ x).setCell ⟨g,o+1,none⟩ y).setCell ⟨g,o+2,none⟩ z) b o' u:=by
 obtain⟨h0,h1,h2⟩:=h
 refine⟨?_,?_,?_⟩
 all_goals
  rw [zV _ _ _ _ (by simp;omega),zV _ _ _ _ (by simp;omega),zV _ _ _ _ (by simp;omega)]
  assumption
theorem zS2 (v:Value) (n:Nat) (f:Nat->O3) (w:World) (hv:vQ w v n f) :
  Calls Tryz.prog 65 #[v] w fun e w'=>e=.returned (.slice (some ⟨w.heap.size,0,none⟩) n (n+4))/\Below w.heap.size w w'/\w.heap.size<w'.heap.size/\tZ w' w.heap.size (n+4) (lH n f):=by
 obtain⟨a,c,rfl,hn,hf⟩:=hv
 have hmk:=yH4 n hn
 go_enter Tryz.func65,Tryz.ntmps65
 go_wp2
 go_loopw [4] (fun i wr=>∃k:Nat,k<=n+4/\i=.int .i64 k/\Below w.heap.size w wr/\w.heap.size<wr.heap.size/\vG wr w.heap.size ((n+4)*3)/\∀i,i<k->kW wr w.heap.size (i*3) (lH n f i)) (fun i _=>n+4-(intOf i).toNat)
 case atStart=>exact⟨0,Nat.zero_le _,rfl,(Below.refl _ _).alloc (Nat.le_refl _) _,by simp,qJ _ _ _ _,fun i hi=>absurd hi (Nat.not_lt_zero _)⟩
 case round=>
  obtain⟨k,hk,rfl,hb,hsz,hwr,hops⟩:=hrel
  by_cases hlt:k<n+4
  ·obtain⟨t0,z0⟩:=hwr (k*3) (by omega)
   obtain⟨t1,z1⟩:=hwr (k*3+1) (by omega)
   obtain⟨t2,z2⟩:=hwr (k*3+2) (by omega)
   obtain⟨v0,c0⟩:=Option.isSome_iff_exists.1 t0
   obtain⟨v1,c1⟩:=Option.isSome_iff_exists.1 t1
   obtain⟨v2,c2⟩:=Option.isSome_iff_exists.1 t2
   have HW:=zZ hwr
   have HO:=zZ hops
   have HF:=zZ hf
   have T0:=zZ t0
   have T1:=zZ t1
   have T2:=zZ t2
   clear hwr hops hf t0 t1 t2
   by_cases hkn:k<n
   ·rcases zY HF with hz | ⟨b,off,rfl,hf⟩
    ·omega
    obtain⟨g0,g1,g2⟩:=hf k hkn
    have hlt':b<w.heap.size:=zU w _ g0
    rw [<-hb.cell (p:=⟨b,_,none⟩) hlt'] at g0 g1 g2
    have hne:¬w.heap.size=b:=by omega
    have hne':¬b=w.heap.size:=by omega
    have HF2:=zZ hf
    clear hf
    generalize hx:f k=x at g0 g1 g2
    have HX:=zZ hx
    clear hx
    go_wp2
    go_roundw
    case rel=>
     have hw1:=((zY HW).setCell ⟨w.heap.size,k*3,none⟩ (.int .i64 9) |>.setCell ⟨w.heap.size,k*3+1,none⟩ (.int .i64 0)).setCell ⟨w.heap.size,k*3+2,none⟩ (.int .i64 0)
     refine⟨k+1,by omega,by go_num,(((((hb.setCell (by simp) _).setCell (by simp) _).setCell (by simp) _).setCell (by simp) _).setCell (by simp) _).setCell (by simp) _,by simpa using hsz,(hw1.setCell _ _ |>.setCell _ _).setCell _ _,?_⟩
     intro i hi
     by_cases e:i=k
     ·subst e
      have:lH n f i=x:=by simp [lH,hkn,zY HX]
      rw [this]
      exact zG9 x (hw1 _ (by omega)).1 (hw1 _ (by omega)).1 (hw1 _ (by omega)).1
     ·exact pV _ _ _ _ (pV _ _ _ _ (zY HO i (by omega)) (by omega)) (by omega)
    case measure=>simp [intOf];omega
   ·go_wp2
    go_roundw
    case rel=>
     refine⟨k+1,by omega,by go_num,((hb.setCell (by simp) _).setCell (by simp) _).setCell (by simp) _,by simpa using hsz,((zY HW).setCell _ _ |>.setCell _ _).setCell _ _,?_⟩
     intro i hi
     by_cases e:i=k
     ·subst e
      have:lH n f i=(9,0,0):=by simp [lH,hkn]
      rw [this]
      exact zG9 (9,0,0) (zY T0) (zY T1) (zY T2)
     ·exact pV _ _ _ _ (zY HO i (by omega)) (by omega)
    case measure=>simp [intOf];omega
  ·go_wp2
   go_ret
   obtain rfl:k=n+4:=by omega
   exact⟨rfl,hb,hsz,⟨hwr,hops⟩⟩
def yU (w:World) (v:Value) (n:Nat) (ln:Nat->Nat) (f:Nat->Nat->O3):Prop:=
 ∃a c,v=.slice a n c/\n*24<=140737488351232/\(n=0\/∃b off,a=some ⟨b,off,none⟩/\∀i,i<n->∃vi,w.cell? ⟨b,off+i,none⟩=some vi/\vQ w vi (ln i) (f i))
theorem yF {w w':World} (h:Below w.heap.size w w') {v:Value} {n:Nat} {ln:Nat->Nat} {f:Nat->Nat->O3} (hx:yU w v n ln f):yU w' v n ln f:=by
 obtain⟨a,c,hv,hn,hc⟩:=hx
 refine⟨a,c,hv,hn,?_⟩
 rcases hc with hc | ⟨b,off,ha,hc⟩
 ·exact .inl hc
 ·refine .inr ⟨b,off,ha,fun i hi=>?_⟩
  obtain⟨vi,h1,h2⟩:=hc i hi
  exact⟨vi,(h.cell (p:=⟨b,_,none⟩) (zU w _ h1)).trans h1,yN h h2⟩
theorem qG {w:World} {b o:Nat} {x:O3} (h:kW w b o x):b<w.heap.size:=zU w ⟨b,o,none⟩ h.1
theorem pE {w:World} {b o:Nat} {x:O3} (h:kW w b o x) {a:Addr} (hne:a.block≠b) (v:Value):kW (w.setCell a v) b o x:=by
 have e:∀o,a≠⟨b,o,none⟩:=fun o he=>hne (by rw [he])
 exact⟨(zV _ _ _ _ (e _)).trans h.1,(zV _ _ _ _ (e _)).trans h.2.1,(zV _ _ _ _ (e _)).trans h.2.2⟩
theorem vG.below {w w':World} {B g m:Nat} (h:vG w g m) (hb:Below B w w') (hg:g<B):vG w' g m:=by
 intro k hk
 rw [hb.cell (p:=⟨g,k,none⟩) hg,hb.frozen (p:=⟨g,k,none⟩) hg]
 exact h k hk
theorem gP {w w':World} {B b o:Nat} {x:O3} (h:Below B w w') (hx:kW w b o x) (hb:b<B):kW w' b o x:=
 ⟨(h.cell (p:=⟨b,_,none⟩) hb).trans hx.1,(h.cell (p:=⟨b,_,none⟩) hb).trans hx.2.1,(h.cell (p:=⟨b,_,none⟩) hb).trans hx.2.2⟩
theorem tZ.below {w w':World} {B g m:Nat} {f:Nat->O3} (h:tZ w g m f) (hb:Below B w w') (hg:g<B):tZ w' g m f:=
 ⟨h.there.below hb hg,fun i hi=>gP hb (h.cells i hi) hg⟩
theorem tZ.setCell {w:World} {g m:Nat} {f:Nat->O3} (h:tZ w g m f) {a:Addr} (hne:a.block≠g) (v:Value):tZ (w.setCell a v) g m f:=
 ⟨h.there.setCell _ _,fun i hi=>pE (h.cells i hi) hne v⟩
structure xL (w:World) (g n k:Nat) (ln:Nat->Nat) (f:Nat->Nat->O3) (G:Nat->Nat):Prop where
 there:vG w g (n+4)
 heads:∀i,i<k->i<n->w.cell? ⟨g,i,none⟩=some (.slice (some ⟨G i,0,none⟩) (ln i) (ln i+4))
 pads:∀i,i<k->n<=i->w.cell? ⟨g,i,none⟩=some (.slice (some ⟨G i,0,none⟩) 1 1)
 far:∀i,i<k->g<G i/\G i<w.heap.size
 own:∀i,i<k->i<n->tZ w (G i) (ln i+4) (lH (ln i) (f i))
 pad:∀i,i<k->n<=i->kW w (G i) 0 (9,0,0)
theorem xL.below {w w':World} {B g n k:Nat} {ln:Nat->Nat} {f:Nat->Nat->O3} {G:Nat->Nat} (h:xL w g n k ln f G) (hb:Below B w w') (hg:g<B) (hG:∀i,i<k->G i<B):xL w' g n k ln f G:=
 ⟨h.there.below hb hg,fun i hi hn=>(hb.cell (p:=⟨g,_,none⟩) hg).trans (h.heads i hi hn),fun i hi hn=>(hb.cell (p:=⟨g,_,none⟩) hg).trans (h.pads i hi hn),
  fun i hi=>⟨(h.far i hi).1,zT (h.far i hi).2 hb.size⟩,fun i hi hn=>(h.own i hi hn).below hb (hG i hi),fun i hi hn=>gP hb (h.pad i hi hn) (hG i hi)⟩
theorem xL.step {w:World} {g n k q:Nat} {ln:Nat->Nat} {f:Nat->Nat->O3} {G:Nat->Nat} (h:xL w g n k ln f G) (hk:k<n) (hq:g<q/\q<w.heap.size) (ho:tZ w q (ln k+4) (lH (ln k) (f k))) :
  xL (w.setCell ⟨g,k,none⟩ (.slice (some ⟨q,0,none⟩) (ln k) (ln k+4))) g n (k+1) ln f (fun i=>if i=k then q else G i):=by
 refine⟨h.there.setCell _ _,?_,?_,?_,?_,?_⟩
 ·intro i hi hn
  by_cases e:i=k
  ·subst e
   simp only [if_true]
   exact World.cell?_setCell_same' _ _ _ (h.there _ (by omega)).1
  ·simp only [e,if_false]
   rw [zV _ _ _ _ (by intro he;injection he;omega)]
   exact h.heads i (by omega) hn
 ·intro i hi hn;omega
 ·intro i hi
  by_cases e:i=k
  ·simp only [e,if_true];simpa using hq
  ·simp only [e,if_false];simpa using h.far i (by omega)
 ·intro i hi hn
  by_cases e:i=k
  ·subst e
   simp only [if_true]
   exact ho.setCell (by simp;omega) _
  ·simp only [e,if_false]
   exact(h.own i (by omega) hn).setCell (by have:=(h.far i (by omega)).1;simp;omega) _
 ·intro i hi hn;omega
theorem xL.stepPad {w:World} {g n k q:Nat} {ln:Nat->Nat} {f:Nat->Nat->O3} {G:Nat->Nat} (h:xL w g n k ln f G) (hk:n<=k) (hk':k<n+4) (hq:g<q/\q<w.heap.size) (ho:kW w q 0 (9,0,0)) :
  xL (w.setCell ⟨g,k,none⟩ (.slice (some ⟨q,0,none⟩) 1 1)) g n (k+1) ln f (fun i=>if i=k then q else G i):=by
 refine⟨h.there.setCell _ _,?_,?_,?_,?_,?_⟩
 ·intro i hi hn
  have e:i≠k:=by omega
  simp only [e,if_false]
  rw [zV _ _ _ _ (by intro he;injection he;omega)]
  exact h.heads i (by omega) hn
 ·intro i hi hn
  by_cases e:i=k
  ·subst e
   simp only [if_true]
   exact World.cell?_setCell_same' _ _ _ (h.there _ (by omega)).1
  ·simp only [e,if_false]
   rw [zV _ _ _ _ (by intro he;injection he;omega)]
   exact h.pads i (by omega) hn
 ·intro i hi
  by_cases e:i=k
  ·simp only [e,if_true];simpa using hq
  ·simp only [e,if_false];simpa using h.far i (by omega)
 ·intro i hi hn
  have e:i≠k:=by omega
  simp only [e,if_false]
  exact(h.own i (by omega) hn).setCell (by have:=(h.far i (by omega)).1;simp;omega) _
 ·intro i hi hn
  by_cases e:i=k
  ·subst e
   simp only [if_true]
   exact pE ho (by simp;omega) _
  ·simp only [e,if_false]
   exact pE (h.pad i (by omega) hn) (by have:=(h.far i (by omega)).1;simp;omega) _
theorem yG6:(Tryz.prog.info? 31).map (fun i=>(i.zero,i.size,i.bytes))=some (some (.slice none 0 0),1,24):=by kernel_rfl
theorem zN6 (n:Nat) (hn:n*24<=140737488351232) (w:World):(Instr.makeSlice 25 (.int .i64 ((n:Int)+4)) (.int .i64 ((n:Int)+4))).run Tryz.prog w =
  .ok (.slice (some ⟨w.heap.size,0,none⟩) (n+4) (n+4)) (w.alloc (.cells (madeCells #[.slice none 0 0] (n+4)) 31)):=by
 have h:=yG6
 cases hi:Tryz.prog.info? 31 with
 | none=>rw [hi] at h;cases h
 | some i=>
  rw [hi] at h
  simp only [Option.map_some,Option.some.injEq,Prod.mk.injEq] at h
  obtain⟨hz,hs,hb⟩:=h
  have:=run_make (P:=Tryz.prog) w 25 31 i _ Tryz.underlying25 hi hz .i64 .i64 ((n:Int)+4) ((n:Int)+4) (by omega) (by omega) (by rw [hb];omega) (by omega)
  rw [this,hs]
  have e:((n:Int)+4).toNat=n+4:=by omega
  rw [e,Nat.mul_one]
  rfl
theorem jV (v:Value) (n:Nat) (ln:Nat->Nat) (f:Nat->Nat->O3) (w:World) (hv:yU w v n ln f) :
  Calls Tryz.prog 66 #[v] w fun e w'=>e=.returned (.slice (some ⟨w.heap.size,0,none⟩) n (n+4))/\Below w.heap.size w w'/\w.heap.size<w'.heap.size/\∃G,xL w' w.heap.size n (n+4) ln f G:=by
 obtain⟨a,c,rfl,hn,hf⟩:=hv
 have hmk:=zN6 n hn
 go_enter Tryz.func66,Tryz.ntmps66
 go_wp2
 go_loopw [4] (fun i wr=>∃k:Nat,k<=n+4/\i=.int .i64 k/\Below w.heap.size w wr/\w.heap.size<wr.heap.size/\∃G,xL wr w.heap.size n k ln f G) (fun i _=>n+4-(intOf i).toNat)
 case atStart=>
  exact⟨0,Nat.zero_le _,rfl,(Below.refl _ _).alloc (Nat.le_refl _) _,by simp,fun _=>0,
   ⟨qJ _ _ _ _,fun i hi=>absurd hi (Nat.not_lt_zero _),fun i hi=>absurd hi (Nat.not_lt_zero _),fun i hi=>absurd hi (Nat.not_lt_zero _),fun i hi=>absurd hi (Nat.not_lt_zero _),fun i hi=>absurd hi (Nat.not_lt_zero _)⟩⟩
 case round=>
  obtain⟨k,hk,rfl,hb,hsz,G,hG⟩:=hrel
  by_cases hlt:k<n+4
  ·obtain⟨t0,z0⟩:=hG.there k (by omega)
   obtain⟨v0,c0⟩:=Option.isSome_iff_exists.1 t0
   clear t0
   have HF:=zZ hf
   clear hf
   by_cases hkn:k<n
   ·rcases zY HF with hz | ⟨b,off,rfl,hf⟩
    ·omega
    obtain⟨vi,g0,gi⟩:=hf k hkn
    have hlt':b<w.heap.size:=zU w _ g0
    rw [<-hb.cell (p:=⟨b,_,none⟩) hlt'] at g0
    have hi:vQ wr vi (ln k) (f k):=yN hb gi
    clear hf
    go_wp2_with fail
    refine(zS2 vi (ln k) (f k) wr hi).mono ?_
    rintro e w1 ⟨rfl,hb1,hs1,ho1⟩
    have c1:w1.cell? ⟨w.heap.size,k,none⟩=some v0:=(hb1.cell (p:=⟨_,_,none⟩) hsz).trans c0
    have z1:w1.frozen? ⟨w.heap.size,k,none⟩=false:=(hb1.frozen (p:=⟨_,_,none⟩) hsz).trans z0
    have hG1:=hG.below hb1 hsz (fun i hi=>(hG.far i hi).2)
    have hb2:=hb.trans (hb1.mono (Nat.le_of_lt hsz))
    have hs2:w.heap.size<w1.heap.size:=by omega
    go_wp2
    go_roundw
    case rel=>
     exact⟨k+1,by omega,by go_num,hb2.setCell (Nat.le_refl _) _,by simpa using hs2,_,hG1.step hkn ⟨hsz,hs1⟩ ho1⟩
    case measure=>simp [intOf];omega
   ·go_wp2
    go_roundw
    case rel=>
     have hb2:=hb.alloc (Nat.le_of_lt hsz) (.cells #[.int .i64 9,.int .i64 0,.int .i64 0] 70)
     have hb1:Below wr.heap.size wr (wr.alloc (.cells #[.int .i64 9,.int .i64 0,.int .i64 0] 70)):=(Below.refl _ _).alloc (Nat.le_refl _) _
     have hG1:=hG.below hb1 hsz (fun i hi=>(hG.far i hi).2)
     rw [<-World.setCell_alloc_past _ _ _ _ hsz]
     refine⟨k+1,by omega,by go_num,hb2.setCell (Nat.le_refl _) _,by simp;omega,_,hG1.stepPad (by omega) hlt ⟨hsz,by simp⟩ ⟨by simp,by simp,by simp⟩⟩
    case measure=>simp [intOf];omega
  ·go_wp2
   go_ret
   obtain rfl:k=n+4:=by omega
   exact⟨rfl,hb,hsz,G,hG⟩
def Dr (w w':World):Prop:=∃m,w'=w.drewN m
theorem Dr.refl (w:World):Dr w w:=⟨0,rfl⟩
theorem Dr.cell {w w':World} (h:Dr w w') (a:Addr):w'.cell? a=w.cell? a:=by obtain⟨m,rfl⟩:=h;simp
theorem Dr.more {w w':World} (h:Dr w w') (k:Nat):Dr w (w'.drewN k):=by
 obtain⟨m,rfl⟩:=h
 exact⟨m+k,by rw [World.drewN_drewN]⟩
theorem gU (g n:Nat) (v:Value) (f:Nat->O3) (w:World) (hv:vQ w v n f) (ho:tZ w g (n+4) (lH n f)) :
  Calls Tryz.prog 67 #[.slice (some ⟨g,0,none⟩) n (n+4),v] w fun e w'=>e=.returned (.bool true)/\Dr w w':=by
 obtain⟨a,c,rfl,hn,hf⟩:=hv
 have HF:=zZ hf
 clear hf
 have hn1:(0:Int)<=(n:Int)+4:=by omega
 have hn2:(n:Int)+4<=140737488351232:=by omega
 go_enter Tryz.func67,Tryz.ntmps67
 go_wp2
 clear hn2 hn1
 go_loopw [6] (fun i wr=>∃k:Nat,k<=n+4/\i=.int .i64 k/\Dr w wr) (fun i _=>n+4-(intOf i).toNat)
 case atStart=>exact⟨0,Nat.zero_le _,rfl,Dr.refl _⟩
 case round=>
  obtain⟨k,hk,rfl,hd⟩:=hrel
  by_cases hlt:k<n+4
  ·obtain⟨o0,o1,o2⟩:=ho.cells k hlt
   rw [<-hd.cell] at o0 o1 o2
   by_cases hkn:k<n
   ·rcases zY HF with hz | ⟨b,off,rfl,hf⟩
    ·omega
    obtain⟨g0,g1,g2⟩:=hf k hkn
    rw [<-hd.cell] at g0 g1 g2
    clear hf
    have ep:lH n f k=f k:=by simp [lH,hkn]
    rw [ep] at o0 o1 o2
    clear ep
    generalize f k=x at *
    have hk0:(0:Int)<=(k:Int):=by omega
    have hk1:(k:Int)<(n:Int):=by omega
    have hk2:(k:Int)<(n:Int)+4:=by omega
    go_wp2
    go_quiet (fail)
    go_wp2
    go_roundw
    case rel=>exact⟨k+1,by omega,by go_num,hd.more _⟩
    case measure=>simp [intOf];omega
   ·have ep:lH n f k=(9,0,0):=by simp [lH,hkn]
    rw [ep] at o0 o1 o2
    clear ep
    have hg:decide ((k:Int)<(n:Int))=false:=by simp;omega
    have hk0:(0:Int)<=(k:Int):=by omega
    have hk2:(k:Int)<(n:Int)+4:=by omega
    go_wp2
    go_quiet (fail)
    go_wp2
    go_roundw
    case rel=>exact⟨k+1,by omega,by go_num,hd.more _⟩
    case measure=>simp [intOf];omega
  ·go_wp2
   go_ret
   exact⟨by simp,hd⟩
theorem yI1 {w w':World} (h:Dr w w') {v:Value} {n:Nat} {f:Nat->O3} (hx:vQ w v n f):vQ w' v n f:=by
 obtain⟨m,rfl⟩:=h;exact hx
theorem dA {w w':World} (h:Dr w w') {v:Value} {n:Nat} {ln:Nat->Nat} {f:Nat->Nat->O3} (hx:yU w v n ln f):yU w' v n ln f:=by
 obtain⟨m,rfl⟩:=h;exact hx
theorem tZ.dr {w w':World} {g m:Nat} {f:Nat->O3} (hx:tZ w g m f) (h:Dr w w'):tZ w' g m f:=by
 obtain⟨k,rfl⟩:=h;exact⟨hx.there,hx.cells⟩
theorem Dr.trans {w w' w'':World} (h:Dr w w') (h':Dr w' w''):Dr w w'':=by obtain⟨k,rfl⟩:=h';exact h.more k
theorem nK (g n:Nat) (G:Nat->Nat) (v:Value) (ln:Nat->Nat) (f:Nat->Nat->O3) (w:World) (hv:yU w v n ln f) (ho:xL w g n (n+4) ln f G) :
  Calls Tryz.prog 68 #[.slice (some ⟨g,0,none⟩) n (n+4),v] w fun e w'=>e=.returned (.bool true)/\Dr w w':=by
 obtain⟨a,c,rfl,hn,hf⟩:=hv
 have HF:=zZ hf
 clear hf
 have hn1:(0:Int)<=(n:Int)+4:=by omega
 have hn2:(n:Int)+4<=140737488351232:=by omega
 go_enter Tryz.func68,Tryz.ntmps68
 go_wp2
 clear hn2 hn1
 go_loopw [6] (fun i wr=>∃k:Nat,k<=n+4/\i=.int .i64 k/\Dr w wr) (fun i _=>n+4-(intOf i).toNat)
 case atStart=>exact⟨0,Nat.zero_le _,rfl,Dr.refl _⟩
 case round=>
  obtain⟨k,hk,rfl,hd⟩:=hrel
  by_cases hlt:k<n+4
  ·by_cases hkn:k<n
   ·rcases zY HF with hz | ⟨b,off,rfl,hf⟩
    ·omega
    obtain⟨vi,g0,gi⟩:=hf k hkn
    clear hf
    have o0:=ho.heads k hlt hkn
    have oi:=ho.own k hlt hkn
    rw [<-hd.cell] at g0 o0
    have hk0:(0:Int)<=(k:Int):=by omega
    have hk1:(k:Int)<(n:Int):=by omega
    have hk2:(k:Int)<(n:Int)+4:=by omega
    go_wp2
    go_quiet ((go_at_call 67;exact Calls.quiet_of (gU (G k) (ln k) vi (f k) _ (yI1 (hd.more _) gi) (oi.dr (hd.more _)))))
    go_wp2
    go_roundw
    case rel=>exact⟨k+1,by omega,by go_num,hd.more _⟩
    case measure=>simp [intOf];omega
   ·have o0:=ho.pads k hlt (by omega)
    obtain⟨p0,p1,p2⟩:=ho.pad k hlt (by omega)
    rw [<-hd.cell] at o0 p0 p1 p2
    go_wp2
    go_roundw
    case rel=>exact⟨k+1,by omega,by go_num,hd⟩
    case measure=>simp [intOf];omega
  ·go_wp2
   go_ret
   exact⟨by simp,hd⟩
theorem xT {B:Nat} {w w':World} (h:Below B w w') (b o:Nat) (hb:b<B):w'.cell? ⟨b,o,none⟩=w.cell? ⟨b,o,none⟩:=h.cell (p:=⟨b,o,none⟩) hb
theorem bfro {B:Nat} {w w':World} (h:Below B w w') (b o:Nat) (hb:b<B):w'.frozen? ⟨b,o,none⟩=w.frozen? ⟨b,o,none⟩:=h.frozen (p:=⟨b,o,none⟩) hb
theorem xL.setCell {w:World} {g n k:Nat} {ln:Nat->Nat} {f:Nat->Nat->O3} {G:Nat->Nat} (h:xL w g n k ln f G) {a:Addr} (hne:a.block<g) (v:Value):xL (w.setCell a v) g n k ln f G:=by
 have e:∀o,a≠⟨g,o,none⟩:=fun o he=>by rw [he] at hne;exact absurd hne (Nat.lt_irrefl _)
 exact⟨h.there.setCell _ _,fun i hi hn=>(zV _ _ _ _ (e _)).trans (h.heads i hi hn),fun i hi hn=>(zV _ _ _ _ (e _)).trans (h.pads i hi hn),
  fun i hi=>by simpa using h.far i hi,fun i hi hn=>(h.own i hi hn).setCell (by have:=(h.far i hi).1;omega) _,fun i hi hn=>pE (h.pad i hi hn) (by have:=(h.far i hi).1;omega) _⟩
theorem yG9 {w:World} {g o:Nat} {v:Value} (x y z:Value) (h:w.cell? ⟨g,o,none⟩=some v) :
  (((w.setCell ⟨g+1,0,none⟩ x).setCell ⟨g+1,1,none⟩ y).setCell ⟨g+1,2,none⟩ z).cell? ⟨g,o,none⟩=some v:=by
 rw [zV _ _ _ _ (by simp),zV _ _ _ _ (by simp),zV _ _ _ _ (by simp)]
 exact h
theorem lJ (v1 v2 v3:Value) (ns nt nf:Nat) (s:Nat->O3) (tl fl:Nat->Nat) (t f:Nat->Nat->O3) (w:World) (h1:vQ w v1 ns s) (h2:yU w v2 nt tl t) (h3:yU w v3 nf fl f) :
  Calls Tryz.prog 39 #[.agg #[v1,v2,v3]] w fun e w'=>∃g1 g2 g3 G2 G3,e=.returned (.agg #[.slice (some ⟨g1,0,none⟩) ns (ns+4),.slice (some ⟨g2,0,none⟩) nt (nt+4),.slice (some ⟨g3,0,none⟩) nf (nf+4)])/\
   Below w.heap.size w w'/\w.heap.size<=g1/\g1<g2/\g2<g3/\(∀i,i<nt+4->G2 i<g3)/\tZ w' g1 (ns+4) (lH ns s)/\xL w' g2 nt (nt+4) tl t G2/\xL w' g3 nf (nf+4) fl f G3:=by
 obtain⟨W0,hW⟩ : ∃W0,W0=((w.alloc (.cells #[v1,v2,v3] 33)).alloc (.cells #[.slice none 0 0,.slice none 0 0,.slice none 0 0] 33)).drew:=⟨_,rfl⟩
 have hB0:Below w.heap.size w W0:=by subst hW;exact(bl2 _ _).drew
 have hsz:W0.heap.size=w.heap.size+2:=by subst hW;simp
 have c00:W0.cell? ⟨w.heap.size,0,none⟩=some v1:=by subst hW;simp
 have c01:W0.cell? ⟨w.heap.size,1,none⟩=some v2:=by subst hW;simp
 have c02:W0.cell? ⟨w.heap.size,2,none⟩=some v3:=by subst hW;simp
 have d0:∀j,j<3->W0.cell? ⟨w.heap.size+1,j,none⟩=some (.slice none 0 0)/\W0.frozen? ⟨w.heap.size+1,j,none⟩=false:=by
  subst hW
  intro j hj
  have:j=0\/j=1\/j=2:=by omega
  rcases this with rfl | rfl | rfl<;>simp
 have HW:=zZ hW
 have HS:=zZ hsz
 have H1:=zZ h1
 have H2:=zZ h2
 have H3:=zZ h3
 have HD:=zZ d0
 clear hsz h1 h2 h3 d0 hW
 go_enter Tryz.func39,Tryz.ntmps39
 go_wp2
 go_region_held3 (fun w'=>w'.cell? ⟨w.heap.size,0,none⟩=some v1/\w'.cell? ⟨w.heap.size,1,none⟩=some v2/\w'.cell? ⟨w.heap.size,2,none⟩=some v3) (first | with_reducible exact⟨e0,e1,e2⟩ | with_reducible exact⟨f0,f1,f2⟩ | with_reducible exact⟨k0,k1,k2⟩ | with_reducible exact⟨yG9 _ _ _ k0,yG9 _ _ _ k1,yG9 _ _ _ k2⟩ | (simp [go_sem,World.cell?_alloc_past];done))
  (first
   | (
     go_at_call 65;rw [<-zY HW];refine(zS2 v1 ns s W0 (yN hB0 (zY H1))).mono ?_;rintro e w1 ⟨rfl,hb1,hs1,ho1⟩
     have hsz:=zY HS
     have e0:w1.cell? ⟨w.heap.size,0,none⟩=some v1:=(xT hb1 _ _ (by omega)).trans c00
     have e1:w1.cell? ⟨w.heap.size,1,none⟩=some v2:=(xT hb1 _ _ (by omega)).trans c01
     have e2:w1.cell? ⟨w.heap.size,2,none⟩=some v3:=(xT hb1 _ _ (by omega)).trans c02
     have hB1:Below w.heap.size w w1:=hB0.trans (hb1.mono (by omega))
     clear hsz)
   | (
     go_at_call_of 66 v2;refine(jV v2 nt tl t w1 (yF hB1 (zY H2))).mono ?_;rintro e w2 ⟨rfl,hb2,hs2,G2,hG2⟩
     have hsz:=zY HS
     have f0:w2.cell? ⟨w.heap.size,0,none⟩=some v1:=(xT hb2 _ _ (by omega)).trans e0
     have f1:w2.cell? ⟨w.heap.size,1,none⟩=some v2:=(xT hb2 _ _ (by omega)).trans e1
     have f2:w2.cell? ⟨w.heap.size,2,none⟩=some v3:=(xT hb2 _ _ (by omega)).trans e2
     have hB2:Below w.heap.size w w2:=hB1.trans (hb2.mono (by omega))
     clear hsz)
   | (
     go_at_call_of 66 v3;refine(jV v3 nf fl f w2 (yF hB2 (zY H3))).mono ?_;rintro e w3 ⟨rfl,hb3,hs3,G3,hG3⟩
     have hsz:=zY HS
     have k0:w3.cell? ⟨w.heap.size,0,none⟩=some v1:=(xT hb3 _ _ (by omega)).trans f0
     have k1:w3.cell? ⟨w.heap.size,1,none⟩=some v2:=(xT hb3 _ _ (by omega)).trans f1
     have k2:w3.cell? ⟨w.heap.size,2,none⟩=some v3:=(xT hb3 _ _ (by omega)).trans f2
     have hB3:Below w.heap.size w w3:=hB2.trans (hb3.mono (by omega))
     have hb03:Below W0.heap.size W0 w3:=(hb1.trans (hb2.mono (by omega))).trans (hb3.mono (by omega))
     have l0:w3.cell? ⟨w.heap.size+1,0,none⟩=some (.slice none 0 0):=(xT hb03 _ _ (by omega)).trans (zY HD 0 (by omega)).1
     have l1:w3.cell? ⟨w.heap.size+1,1,none⟩=some (.slice none 0 0):=(xT hb03 _ _ (by omega)).trans (zY HD 1 (by omega)).1
     have l2:w3.cell? ⟨w.heap.size+1,2,none⟩=some (.slice none 0 0):=(xT hb03 _ _ (by omega)).trans (zY HD 2 (by omega)).1
     have m0:w3.frozen? ⟨w.heap.size+1,0,none⟩=false:=(bfro hb03 _ _ (by omega)).trans (zY HD 0 (by omega)).2
     have m1:w3.frozen? ⟨w.heap.size+1,1,none⟩=false:=(bfro hb03 _ _ (by omega)).trans (zY HD 1 (by omega)).2
     have m2:w3.frozen? ⟨w.heap.size+1,2,none⟩=false:=(bfro hb03 _ _ (by omega)).trans (zY HD 2 (by omega)).2
     clear hsz))
 go_wp2
 have hsz:=zY HS
 refine bodyPost_ret (v:=.agg #[.slice (some ⟨W0.heap.size,0,none⟩) ns (ns+4),.slice (some ⟨w1.heap.size,0,none⟩) nt (nt+4),.slice (some ⟨w2.heap.size,0,none⟩) nf (nf+4)]) ?_ rfl ⟨W0.heap.size,w1.heap.size,w2.heap.size,G2,G3,rfl,?_,by omega,hs1,hs2,fun i hi=>(hG2.far i hi).2,?_,?_,?_⟩
 ·simp [results,Tryz.results39,go_sem,l0,l1,l2]
 ·exact((hB3.setCell (by simp) _).setCell (by simp) _).setCell (by simp) _
 ·exact((((ho1.below hb2 hs1).below hb3 (by omega)).setCell (by simp;omega) _).setCell (by simp;omega) _).setCell (by simp;omega) _
 ·exact(((hG2.below hb3 hs2 (fun i hi=>(hG2.far i hi).2)).setCell (by simp;omega) _).setCell (by simp;omega) _).setCell (by simp;omega) _
 ·exact((hG3.setCell (by simp;omega) _).setCell (by simp;omega) _).setCell (by simp;omega) _
theorem pO.cell {q:Nat} {w w':World} (h:pO q w w') {b o:Nat} (hb:b≠q):w'.cell? ⟨b,o,none⟩=w.cell? ⟨b,o,none⟩:=zO (w:=w) (h.block b hb)
theorem pO.writable {q g m:Nat} {w w':World} (h:pO q w w') (hw:vG w g m):vG w' g m:=
 fun k hk=>⟨h.there _ (hw k hk).1,(h.frozen _).trans (hw k hk).2⟩
theorem pO.below {q B:Nat} {w w':World} (h:pO q w w') (hq:B<=q):Below B w w':=
 ⟨h.os,h.tape,h.output,Nat.le_of_eq h.size.symm,fun k hk=>h.block k (by omega)⟩
theorem Dr.below {w w':World} (B:Nat) (h:Dr w w'):Below B w w':=by
 obtain⟨m,rfl⟩:=h
 exact⟨rfl,rfl,rfl,Nat.le_refl _,fun _ _=>rfl⟩
theorem xL.dr {w w':World} {g n k:Nat} {ln:Nat->Nat} {f:Nat->Nat->O3} {G:Nat->Nat} (h:xL w g n k ln f G) (hd:Dr w w'):xL w' g n k ln f G:=by
 obtain⟨m,rfl⟩:=hd
 exact⟨h.there,h.heads,h.pads,h.far,fun i hi hn=>⟨(h.own i hi hn).there,(h.own i hi hn).cells⟩,h.pad⟩
theorem nG {w:World} {v:Value} {n:Nat} {f:Nat->O3} (h:vQ w v n f):n*24<=140737488351232:=by obtain⟨_,_,_,h,_⟩:=h;exact h
theorem tK {w:World} {v:Value} {n:Nat} {ln:Nat->Nat} {f:Nat->Nat->O3} (h:yU w v n ln f):n*24<=140737488351232:=by obtain⟨_,_,_,h,_⟩:=h;exact h
theorem uQ {w:World} {v:Value} {n:Nat} {ln:Nat->Nat} {f:Nat->Nat->O3} (h:yU w v n ln f):∀i,i<n->ln i*24<=140737488351232:=by
 obtain⟨_,_,_,_,h⟩:=h
 intro i hi
 rcases h with h | ⟨b,off,_,h⟩
 ·omega
 ·obtain⟨vi,_,hv⟩:=h i hi;exact nG hv
structure nV (B C:Nat) (w wr:World) (x g1 g2 g3 ns nt nf:Nat) (tl fl G2 G3:Nat->Nat):Prop where
 below:Below B w wr
 size:w.heap.size<=wr.heap.size
 c0:wr.cell? ⟨x,0,none⟩=some (.slice (some ⟨g1,0,none⟩) ns (ns+4))
 c1:wr.cell? ⟨x,1,none⟩=some (.slice (some ⟨g2,0,none⟩) nt (nt+4))
 c2:wr.cell? ⟨x,2,none⟩=some (.slice (some ⟨g3,0,none⟩) nf (nf+4))
 h2:∀i,i<nt->wr.cell? ⟨g2,i,none⟩=some (.slice (some ⟨G2 i,0,none⟩) (tl i) (tl i+4))
 h3:∀i,i<nf->wr.cell? ⟨g3,i,none⟩=some (.slice (some ⟨G3 i,0,none⟩) (fl i) (fl i+4))
 w1:vG wr g1 (ns*3)
 w2:∀i,i<nt->vG wr (G2 i) (tl i*3)
 w3:∀i,i<nf->vG wr (G3 i) (fl i*3)
 far:∀k,C<=k->k<w.heap.size->wr.heap[k]?=w.heap[k]?
theorem nV.wiped {B C:Nat} {w wr w':World} {x g1 g2 g3 ns nt nf q:Nat} {tl fl G2 G3:Nat->Nat} (h:nV B C w wr x g1 g2 g3 ns nt nf tl fl G2 G3) (hw:pO q wr w') (hB:B<=q) (hC:q<C) (hx:x≠q) (h2:g2≠q) (h3:g3≠q) :
  nV B C w w' x g1 g2 g3 ns nt nf tl fl G2 G3:=
 ⟨h.below.trans (hw.below hB),by rw [hw.size];exact h.size,(hw.cell hx).trans h.c0,(hw.cell hx).trans h.c1,(hw.cell hx).trans h.c2,fun i hi=>(hw.cell h2).trans (h.h2 i hi),fun i hi=>(hw.cell h3).trans (h.h3 i hi),
  hw.writable h.w1,fun i hi=>hw.writable (h.w2 i hi),fun i hi=>hw.writable (h.w3 i hi),fun k hk hl=>(hw.block k (by omega)).trans (h.far k hk hl)⟩
theorem nV.dr {B C:Nat} {w wr w':World} {x g1 g2 g3 ns nt nf:Nat} {tl fl G2 G3:Nat->Nat} (h:nV B C w wr x g1 g2 g3 ns nt nf tl fl G2 G3) (hd:Dr wr w'):nV B C w w' x g1 g2 g3 ns nt nf tl fl G2 G3:=by
 obtain⟨m,rfl⟩:=hd
 exact⟨h.below.trans (Dr.below B ⟨m,rfl⟩),h.size,h.c0,h.c1,h.c2,h.h2,h.h3,h.w1,h.w2,h.w3,h.far⟩
theorem jI (B C:Nat) (v1 v2 v3:Value) (g1 g2 g3 ns nt nf:Nat) (s:Nat->O3) (tl fl G2 G3:Nat->Nat) (t f:Nat->Nat->O3) (w:World) (h1:vQ w v1 ns s) (h2:yU w v2 nt tl t) (h3:yU w v3 nf fl f)
  (ho1:tZ w g1 (ns+4) (lH ns s)) (ho2:xL w g2 nt (nt+4) tl t G2) (ho3:xL w g3 nf (nf+4) fl f G3) (hB:B<=g1) (h12:g1<g2) (h23:g2<g3) (hG:∀i,i<nt+4->G2 i<g3) (hC:∀i,i<nf+4->G3 i<C) :
  Calls Tryz.prog 40 #[.agg #[.slice (some ⟨g1,0,none⟩) ns (ns+4),.slice (some ⟨g2,0,none⟩) nt (nt+4),.slice (some ⟨g3,0,none⟩) nf (nf+4)],.agg #[v1,v2,v3]] w fun e w'=>e=.returned (.bool true)/\Below B w w'/\∀k,C<=k->k<w.heap.size->w'.heap[k]?=w.heap[k]?:=by
 have ln1:=nG h1
 have ln2:=tK h2
 have ln3:=tK h3
 have l2:=uQ h2
 have l3:=uQ h3
 obtain⟨W0,hW⟩ : ∃W0,W0=(w.alloc (.cells #[.slice (some ⟨g1,0,none⟩) ns (ns+4),.slice (some ⟨g2,0,none⟩) nt (nt+4),.slice (some ⟨g3,0,none⟩) nf (nf+4)] 33)).alloc (.cells #[v1,v2,v3] 33):=⟨_,rfl⟩
 have hB0:Below w.heap.size w W0:=by subst hW;exact bl2 _ _
 have hg1:g1<w.heap.size:=qG (ho1.cells 0 (by omega))
 have hg2:g2<w.heap.size:=zU w ⟨g2,nt,none⟩ (ho2.pads nt (by omega) (by omega))
 have hg3:g3<w.heap.size:=zU w ⟨g3,nf,none⟩ (ho3.pads nf (by omega) (by omega))
 have i1:=yN hB0 h1
 have i2:=yF hB0 h2
 have i3:=yF hB0 h3
 have j1:=ho1.below hB0 hg1
 have j2:=ho2.below hB0 hg2 (fun i hi=>(ho2.far i hi).2)
 have j3:=ho3.below hB0 hg3 (fun i hi=>(ho3.far i hi).2)
 have inv0:nV B C w W0 w.heap.size g1 g2 g3 ns nt nf tl fl G2 G3:=
  ⟨hB0.mono (by omega),hB0.size,by subst hW;simp,by subst hW;simp,by subst hW;simp,fun i hi=>j2.heads i (by omega) hi,fun i hi=>j3.heads i (by omega) hi,
   fun k hk=>j1.there k (by omega),fun i hi k hk=>(j2.own i (by omega) hi).there k (by omega),fun i hi k hk=>(j3.own i (by omega) hi).there k (by omega),fun k _ hl=>hB0.block k hl⟩
 have far2:∀i,i<nt->g2<G2 i/\G2 i<g3:=fun i hi=>⟨(ho2.far i (by omega)).1,hG i (by omega)⟩
 have far3:∀i,i<nf->g3<G3 i/\G3 i<C:=fun i hi=>⟨(ho3.far i (by omega)).1,hC i (by omega)⟩
 have g3C:g3<C:=Nat.lt_trans (ho3.far nf (by omega)).1 (hC nf (by omega))
 have far9:∀i,i<nf->G3 i<w.heap.size:=fun i hi=>(ho3.far i (by omega)).2
 have b0:W0.cell? ⟨w.heap.size+1,0,none⟩=some v1:=by subst hW;simp
 have b1:W0.cell? ⟨w.heap.size+1,1,none⟩=some v2:=by subst hW;simp
 have b2:W0.cell? ⟨w.heap.size+1,2,none⟩=some v3:=by subst hW;simp
 have HW:=zZ hW
 clear ho1 ho2 ho3 h1 h2 h3 hG hC hW
 go_enter Tryz.func40,Tryz.ntmps40
 go_wp2_with fail
 rw [<-zY HW]
 clear HW
 refine(gU g1 ns v1 s W0 i1 j1).mono ?_
 rintro e w1 ⟨rfl,hd1⟩
 have inv1:=inv0.dr hd1
 have a0:=inv1.c0;have a1:=inv1.c1;have a2:=inv1.c2
 rw [<-hd1.cell] at b0 b1 b2
 go_wp2_with fail
 refine(nK g2 nt G2 v2 tl t w1 (dA hd1 i2) (j2.dr hd1)).mono ?_
 rintro e w2 ⟨rfl,hd2⟩
 have inv2:=inv1.dr hd2
 clear a0 a1 a2
 have a0:=inv2.c0;have a1:=inv2.c1;have a2:=inv2.c2
 rw [<-hd2.cell] at b0 b1 b2
 go_wp2_with fail
 refine(nK g3 nf G3 v3 fl f w2 (dA (hd1.trans hd2) i3) (j3.dr (hd1.trans hd2))).mono ?_
 rintro e w3 ⟨rfl,hd3⟩
 have inv3:=inv2.dr hd3
 clear a0 a1 a2 b0 b1 b2 i1 i2 i3 j1 j2 j3
 have a0:=inv3.c0;have a1:=inv3.c1;have a2:=inv3.c2
 go_wp2_with fail
 refine(cW g1 ns (ns+4) w3 (by omega) inv3.w1).mono ?_
 rintro e w4 ⟨rfl,hw4⟩
 have inv4:=inv3.wiped hw4 hB (by omega) (by omega) (by omega) (by omega)
 clear a0 a1 a2 inv0 inv1 inv2 inv3 hd1 hd2 hd3 hw4
 go_wp2
 go_loopw [8] (fun i wr=>∃k:Nat,k<=nt/\i=.int .i64 k/\nV B C w wr w.heap.size g1 g2 g3 ns nt nf tl fl G2 G3) (fun i _=>nt-(intOf i).toNat)
 case atStart=>exact⟨0,Nat.zero_le _,rfl,inv4⟩
 case round=>
  obtain⟨k,hk,rfl,inv⟩:=hrel
  have a0:=inv.c0;have a1:=inv.c1;have a2:=inv.c2
  by_cases hlt:k<nt
  ·have hh:=inv.h2 k hlt
   obtain⟨p1,p2⟩:=far2 k hlt
   have hl:=l2 k hlt
   go_wp2_with fail
   refine(cW (G2 k) (tl k) (tl k+4) wr (by omega) (inv.w2 k hlt)).mono ?_
   rintro e w5 ⟨rfl,hw5⟩
   have inv5:=inv.wiped hw5 (by omega) (by omega) (by omega) (by omega) (by omega)
   go_wp2
   go_roundw
   case rel=>exact⟨k+1,by omega,by go_num,inv5⟩
   case measure=>simp [intOf];omega
  ·go_wp2
   clear a0 a1 a2
   go_loopw [9] (fun i wr=>∃k:Nat,k<=nf/\i=.int .i64 k/\nV B C w wr w.heap.size g1 g2 g3 ns nt nf tl fl G2 G3) (fun i _=>nf-(intOf i).toNat)
   case atStart=>exact⟨0,Nat.zero_le _,rfl,inv⟩
   case round=>
    obtain⟨k',hk',rfl,inv'⟩:=hrel
    have a0:=inv'.c0;have a1:=inv'.c1;have a2:=inv'.c2
    by_cases hlt':k'<nf
    ·have hh:=inv'.h3 k' hlt'
     obtain⟨p1,p2⟩:=far3 k' hlt'
     have p3:=far9 k' hlt'
     have hl:=l3 k' hlt'
     go_wp2_with fail
     refine(cW (G3 k') (fl k') (fl k'+4) _ (by omega) (inv'.w3 k' hlt')).mono ?_
     rintro e w6 ⟨rfl,hw6⟩
     have inv6:=inv'.wiped hw6 (by omega) (by omega) (by omega) (by omega) (by omega)
     go_wp2
     go_roundw
     case rel=>exact⟨k'+1,by omega,by go_num,inv6⟩
     case measure=>simp [intOf];omega
    ·go_wp2
     go_ret
     exact⟨rfl,inv'.below,inv'.far⟩
