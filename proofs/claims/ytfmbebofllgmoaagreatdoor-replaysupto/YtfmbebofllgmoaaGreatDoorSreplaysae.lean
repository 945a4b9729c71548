/-
  PROVED HERE: what each operation of the loop that hears nothi
-/
import Derived.Deep.DrawnRows
import Derived.BigRegion
import Derived.Test.YtfmbebofllgmoaaGreatDoorSreplaysad
set_option maxHeartbeats 1000000
namespace Go.Proofs.YtfmbebofllgmoaaGreatDoor
open Go.RowKit
attribute [local go_sem ↓] Go.wp_at_zero Go.wp_at_succ
section
variable {σ:Type} {SA:(Nat->Prop)->World->σ->Prop} {B:Nat} {S T:Nat->Prop} {w:World} {b:Nat} {pv:Nat->Value} {vt:Value} {s:PS} {x:σ}
theorem uL {w:World} {b:Nat} (h:b<w.heap.size):¬w.heap.size=b/\¬b=w.heap.size:=by omega
theorem yN6 (L:xC SA) (h:RI SA B S w b pv vt T s x) (cd a v:Int) (h0:0<=a) (h4:a<4) :
  Calls Tryz.prog 83 #[.pointer (some ⟨b,0,none⟩),.agg #[.int .i64 cd,.int .i64 a,.int .i64 v]] w fun e w'=>e=.returned (.tuple #[])/\RI SA B S w' b pv vt T {s with reg:=upd s.reg a.toNat v} x/\Fr S w w' S:=by
 have hin:=h.inB
 obtain⟨n1,n2⟩:=uL (h.bound b h.inB).2
 have c0:=h.cell (18+a.toNat) (by omega)
 have z0:=h.free (18+a.toNat) (by omega)
 rw [tI _ _ _ _ (by omega)] at c0
 generalize s.reg a.toNat=old at c0
 have hb:=(h.bound b h.inB).2
 have H:=zZ h
 have HI:=zZ hin
 clear h hin
 go_enter Tryz.func83,Tryz.ntmps83
 go_wp2
 go_region_held3 (fun w'=>w'.cell? ⟨w.heap.size,1,none⟩=some (.int .i64 a)/\w'.cell? ⟨w.heap.size,2,none⟩=some (.int .i64 v)) (simp [go_sem, *]) (fail)
 go_wp2
 go_end0
 exact⟨rfl,((((zY H).set L _ _ _ (by omega) (fD pv vt s _ _ (by omega)) rfl).alloc L _).drew L),(((Fr.refl S w).setCell _ _ (.inl (zY HI))).alloc _).drew⟩
theorem yI9 (L:xC SA) (h:RI SA B S w b pv vt T s x) (cd a v:Int) (h0:0<=a) (h4:a<4) (g0:0<=v) (g4:v<4) :
  Calls Tryz.prog 84 #[.pointer (some ⟨b,0,none⟩),.agg #[.int .i64 cd,.int .i64 a,.int .i64 v]] w fun e w'=>e=.returned (.tuple #[])/\RI SA B S w' b pv vt T {s with reg:=upd s.reg a.toNat (wrap64 (s.reg a.toNat+s.reg v.toNat))} x/\Fr S w w' S:=by
 have hin:=h.inB
 obtain⟨n1,n2⟩:=uL (h.bound b h.inB).2
 have c0:=h.cell (18+a.toNat) (by omega)
 have c1:=h.cell (18+v.toNat) (by omega)
 have z0:=h.free (18+a.toNat) (by omega)
 rw [tI _ _ _ _ (by omega)] at c0 c1
 generalize e0:s.reg a.toNat=ra at c0 ⊢
 generalize e1:s.reg v.toNat=rv at c1 ⊢
 have hb:=(h.bound b h.inB).2
 have H:=zZ h
 have HI:=zZ hin
 clear h hin e0 e1
 go_enter Tryz.func84,Tryz.ntmps84
 go_wp2
 go_region
 go_wp2
 go_end0
 exact⟨rfl,((((zY H).set L _ _ _ (by omega) (fD pv vt s _ _ (by omega)) rfl).alloc L _).drew L),(((Fr.refl S w).setCell _ _ (.inl (zY HI))).alloc _).drew⟩
theorem zI4 (L:xC SA) (h:RI SA B S w b pv vt T s x) (cd a v:Int) (h0:0<=a) (h4:a<8) :
  Calls Tryz.prog 86 #[.pointer (some ⟨b,0,none⟩),.agg #[.int .i64 cd,.int .i64 a,.int .i64 v]] w fun e w'=>e=.returned (.tuple #[])/\RI SA B S w' b pv vt T {s with tim:=upd s.tim a.toNat (false,(s.tim a.toNat).2)} x/\Fr S w w' S:=by
 have hin:=h.inB
 obtain⟨n1,n2⟩:=uL (h.bound b h.inB).2
 have c0:=h.cell (23+a.toNat*4) (by omega)
 have z0:=h.free (23+a.toNat*4) (by omega)
 generalize img pv vt s (23+a.toNat*4)=old at c0
 have hb:=(h.bound b h.inB).2
 have H:=zZ h
 have HI:=zZ hin
 clear h hin
 go_enter Tryz.func86,Tryz.ntmps86
 go_wp2
 go_region
 go_wp2
 go_end0
 exact⟨rfl,((((zY H).set L _ _ _ (by omega) (bM pv vt s _ _ (by omega)) rfl).alloc L _).drew L),(((Fr.refl S w).setCell _ _ (.inl (zY HI))).alloc _).drew⟩
theorem zZ0 (L:xC SA) (h:RI SA B S w b pv vt T s x) (cd a v:Int) (h0:0<=a) (h4:a<8) :
  Calls Tryz.prog 87 #[.pointer (some ⟨b,0,none⟩),.agg #[.int .i64 cd,.int .i64 a,.int .i64 v]] w fun e w'=>e=.returned (.tuple #[])/\RI SA B S w' b pv vt T {s with wat:=upd s.wat a.toNat true} x/\Fr S w w' S:=by
 have hin:=h.inB
 obtain⟨n1,n2⟩:=uL (h.bound b h.inB).2
 have c0:=h.cell (56+a.toNat) (by omega)
 have z0:=h.free (56+a.toNat) (by omega)
 generalize img pv vt s (56+a.toNat)=old at c0
 have hb:=(h.bound b h.inB).2
 have H:=zZ h
 have HI:=zZ hin
 clear h hin
 go_enter Tryz.func87,Tryz.ntmps87
 go_wp2
 go_region
 go_wp2
 go_end0
 exact⟨rfl,((((zY H).set L _ _ _ (by omega) (zQ9 pv vt s _ _ (by omega)) rfl).alloc L _).drew L),(((Fr.refl S w).setCell _ _ (.inl (zY HI))).alloc _).drew⟩
theorem zK1 (L:xC SA) (h:RI SA B S w b pv vt T s x) (cd a v:Int) (h0:0<=a) (h4:a<8) :
  Calls Tryz.prog 88 #[.pointer (some ⟨b,0,none⟩),.agg #[.int .i64 cd,.int .i64 a,.int .i64 v]] w fun e w'=>e=.returned (.tuple #[])/\RI SA B S w' b pv vt T {s with wat:=upd s.wat a.toNat false} x/\Fr S w w' S:=by
 have hin:=h.inB
 obtain⟨n1,n2⟩:=uL (h.bound b h.inB).2
 have c0:=h.cell (56+a.toNat) (by omega)
 have z0:=h.free (56+a.toNat) (by omega)
 generalize img pv vt s (56+a.toNat)=old at c0
 have hb:=(h.bound b h.inB).2
 have H:=zZ h
 have HI:=zZ hin
 clear h hin
 go_enter Tryz.func88,Tryz.ntmps88
 go_wp2
 go_region
 go_wp2
 go_end0
 exact⟨rfl,((((zY H).set L _ _ _ (by omega) (zQ9 pv vt s _ _ (by omega)) rfl).alloc L _).drew L),(((Fr.refl S w).setCell _ _ (.inl (zY HI))).alloc _).drew⟩
theorem yH3 (L:xC SA) (h:RI SA B S w b pv vt T s x) (cd a v:Int) :
  Calls Tryz.prog 93 #[.pointer (some ⟨b,0,none⟩),.agg #[.int .i64 cd,.int .i64 a,.int .i64 v]] w fun e w'=>e=.returned (.tuple #[])/\RI SA B S w' b pv vt T {s with fin:=1} x/\Fr S w w' S:=by
 have hin:=h.inB
 obtain⟨n1,n2⟩:=uL (h.bound b h.inB).2
 have c0:=h.cell 66 (by omega)
 have z0:=h.free 66 (by omega)
 generalize img pv vt s 66=old at c0
 have hb:=(h.bound b h.inB).2
 have H:=zZ h
 have HI:=zZ hin
 clear h hin
 go_enter Tryz.func93,Tryz.ntmps93
 go_wp2
 go_end0
 exact⟨rfl,(((zY H).set L _ _ _ (by omega) (jQ pv vt s 1) rfl).alloc L _),((Fr.refl S w).setCell _ _ (.inl (zY HI))).alloc _⟩
theorem yG7 (L:xC SA) (h:RI SA B S w b pv vt T s x) (cd a v:Int) (h0:0<=a) (h4:a<4) (hn:0<=s.next/\s.next<=1000) :
  Calls Tryz.prog 92 #[.pointer (some ⟨b,0,none⟩),.agg #[.int .i64 cd,.int .i64 a,.int .i64 v]] w fun e w'=>e=.returned (.tuple #[])/\RI SA B S w' b pv vt T (if s.reg a.toNat=v then {s with next:=s.next+1} else s) x/\Fr S w w' S:=by
 have hin:=h.inB
 obtain⟨n1,n2⟩:=uL (h.bound b h.inB).2
 have c0:=h.cell (18+a.toNat) (by omega)
 rw [tI _ _ _ _ (by omega)] at c0
 have c1:=h.cell 17 (by omega)
 have z1:=h.free 17 (by omega)
 rw [pD] at c1
 have hb:=(h.bound b h.inB).2
 obtain⟨m1,m2⟩:=hn
 have H:=zZ h
 have HI:=zZ hin
 clear h hin
 by_cases hv:s.reg a.toNat=v
 ·rw [if_pos hv]
  have hq:(s.reg a.toNat==v)=true:=by simpa using hv
  generalize s.next=nx at *
  generalize s.reg a.toNat=ra at *
  clear hv
  go_enter Tryz.func92,Tryz.ntmps92
  go_wp2
  go_region
  go_wp2
  go_end0
  exact⟨rfl,((((zY H).set L _ _ _ (by omega) (dM pv vt s (nx+1)) rfl).alloc L _).drew L),(((Fr.refl S w).setCell _ _ (.inl (zY HI))).alloc _).drew⟩
 ·rw [if_neg hv]
  have hq:(s.reg a.toNat==v)=false:=by simpa using hv
  generalize s.next=nx at *
  generalize s.reg a.toNat=ra at *
  clear hv
  go_enter Tryz.func92,Tryz.ntmps92
  go_wp2
  go_region
  go_wp2
  go_end0
  exact⟨rfl,((zY H).alloc L _).drew L,((Fr.refl S w).alloc _).drew⟩
theorem RI.setTim (L:xC SA) (h:RI SA B S w b pv vt T s x) (i:Nat) (t:TM) (hi:i<8) :
  RI SA B S ((((w.setCell ⟨b,23+i*4,none⟩ (.bool t.1)).setCell ⟨b,23+i*4+1,none⟩ (.int .i64 t.2.1)).setCell ⟨b,23+i*4+2,none⟩ (.int .i64 t.2.2.1)).setCell ⟨b,23+i*4+3,none⟩ (.int .i64 t.2.2.2)) b pv vt T {s with tim:=upd s.tim i t} x:=by
 have g:∀(u v:TM) (c:Nat) (q:PS),c<4->q.tim i=u->(∀d,d<4->d≠c->mA v d=mA u d)->∀j,j<67->img pv vt {q with tim:=upd q.tim i v} j=yP (img pv vt q) (23+i*4+c) (mA v c) j:=by
  intro u v c q hc hu hv
  refine rU _ _ _ _ _ _ ?_ (fun _=>rfl) (fun _=>rfl) (fun _ _ _=>rfl) (fun _=>rfl) ?_ (fun _=>rfl) (fun _ _ _=>rfl) (fun _=>rfl) (fun _=>rfl)
  ·rw [rD _ _ _ _ _ hi hc];simp [upd]
  ·intro j d hj hd hne
   by_cases e:j=i
   ·subst e
    have:=hv d hd (by omega)
    simp only [upd,if_true]
    rw [this,hu]
   ·simp [upd,e]
 obtain⟨t0,t1,t2,t3⟩:=t
 rcases hu:s.tim i with ⟨u0,u1,u2,u3⟩
 have a0:=h.set L (23+i*4+0) (.bool t0) _ (by omega) (g (u0,u1,u2,u3) (t0,u1,u2,u3) 0 s (by omega) hu (fun d hd hne=>by simp [mA,hne])) rfl
 have a1:=a0.set L (23+i*4+1) (.int .i64 t1) _ (by omega) (g (t0,u1,u2,u3) (t0,t1,u2,u3) 1 _ (by omega) (by simp [upd]) (fun d hd hne=>by simp [mA,hne])) rfl
 have a2:=a1.set L (23+i*4+2) (.int .i64 t2) _ (by omega) (g (t0,t1,u2,u3) (t0,t1,t2,u3) 2 _ (by omega) (by simp [upd]) (fun d hd hne=>by simp [mA,hne])) rfl
 have a3:=a2.set L (23+i*4+3) (.int .i64 t3) _ (by omega) (g (t0,t1,t2,u3) (t0,t1,t2,t3) 3 _ (by omega) (by simp [upd]) (fun d hd hne=>by
  have:d=0\/d=1\/d=2:=by omega
  rcases this with rfl | rfl | rfl<;>simp [mA])) rfl
 have e:(upd (upd (upd (upd s.tim i (t0,u1,u2,u3)) i (t0,t1,u2,u3)) i (t0,t1,t2,u3)) i (t0,t1,t2,t3))=upd s.tim i (t0,t1,t2,t3):=by
  funext j;simp only [upd];split<;>rfl
 simp only [e,Nat.add_zero] at a3
 exact a3
end
section
variable {σ:Type} {SA:(Nat->Prop)->World->σ->Prop} {B:Nat} {S T:Nat->Prop} {w:World} {b:Nat} {pv:Nat->Value} {vt:Value} {s:PS} {x:σ}
theorem minmax (rv c:Int):(if c<if rv<0 then 0 else rv then c else if rv<0 then 0 else rv)=min (max rv 0) c:=by
 by_cases h:rv<0
 ·simp only [h,if_true]
  by_cases h2:c<0
  ·simp only [h2,if_true];omega
  ·simp only [h2,if_false];omega
 ·simp only [h,if_false]
  by_cases h2:c<rv
  ·simp only [h2,if_true];omega
  ·simp only [h2,if_false];omega
theorem yJ1 (L:xC SA) (h:RI SA B S w b pv vt T s x) (cd a v:Int) (h0:0<=a) (h4:a<8) (g0:0<=v) (g4:v<4) (hc:0<=s.clock/\s.clock<=1099511627776) (ha:0<=s.armings/\s.armings<=5000) :
  Calls Tryz.prog 85 #[.pointer (some ⟨b,0,none⟩),.agg #[.int .i64 cd,.int .i64 a,.int .i64 v]] w fun e w'=>e=.returned (.tuple #[])/\
   RI SA B S w' b pv vt T {s with armings:=s.armings+1,tim:=upd s.tim a.toNat (true,s.clock+min (max (s.reg v.toNat) 0) (1099511627776-s.clock),s.armings+1,a)} x/\Fr S w w' S:=by
 have hin:=h.inB
 obtain⟨n1,n2⟩:=uL (h.bound b h.inB).2
 have c0:=h.cell (18+v.toNat) (by omega)
 rw [tI _ _ _ _ (by omega)] at c0
 have c1:=h.cell 22 (by omega)
 rw [uP] at c1
 have c2:=h.cell 55 (by omega)
 have z2:=h.free 55 (by omega)
 rw [sS] at c2
 have t0:=h.cell (23+a.toNat*4) (by omega)
 have t1:=h.cell (23+a.toNat*4+1) (by omega)
 have t2:=h.cell (23+a.toNat*4+2) (by omega)
 have t3:=h.cell (23+a.toNat*4+3) (by omega)
 have f0:=h.free (23+a.toNat*4) (by omega)
 have f1:=h.free (23+a.toNat*4+1) (by omega)
 have f2:=h.free (23+a.toNat*4+2) (by omega)
 have f3:=h.free (23+a.toNat*4+3) (by omega)
 generalize img pv vt s (23+a.toNat*4)=o0 at t0
 generalize img pv vt s (23+a.toNat*4+1)=o1 at t1
 generalize img pv vt s (23+a.toNat*4+2)=o2 at t2
 generalize img pv vt s (23+a.toNat*4+3)=o3 at t3
 have hb:=(h.bound b h.inB).2
 obtain⟨k1,k2⟩:=hc
 obtain⟨k3,k4⟩:=ha
 have H:=zZ h
 have HI:=zZ hin
 clear h hin
 have m0:0<=min (max (s.reg v.toNat) 0) (1099511627776-s.clock):=by omega
 have m1:min (max (s.reg v.toNat) 0) (1099511627776-s.clock)<=1099511627776-s.clock:=by omega
 generalize eR:s.reg v.toNat=rv at *
 generalize eC:s.clock=ck at *
 generalize eA:s.armings=am at *
 clear eR
 have HC:=zZ eC
 have HAm:=zZ eA
 clear eC eA
 generalize eM:min (max rv 0) (1099511627776-ck)=m at *
 have HM:=zZ eM
 clear eM
 go_enter Tryz.func85,Tryz.ntmps85
 go_wp2
 go_region
 rw [minmax,zY HM]
 generalize (if rv<0 then (0:Int) else rv)=mx
 go_wp2
 go_region
 go_wp2
 go_end0
 obtain rfl:=zY HC
 obtain rfl:=zY HAm
 have hs:=(zY H).set L 55 (.int .i64 (s.armings+1)) _ (by omega) (zG5 pv vt s (s.armings+1)) rfl
 have hs2:=hs.setTim L a.toNat (true,s.clock+m,s.armings+1,a) (by omega)
 have hin:=zY HI
 exact⟨rfl,((hs2.alloc L _).drew L).drew L,((((((((Fr.refl S w).setCell _ _ (.inl hin)).setCell _ _ (.inl hin)).setCell _ _ (.inl hin)).setCell _ _ (.inl hin)).setCell _ _ (.inl hin)).alloc _).drew).drew⟩
theorem info92:∃i,Tryz.prog.info? 72=some i/\i.zero=some (.agg #[.int .i64 0,.int .i64 0,.int .i64 0])/\i.size=3/\i.bytes=24:=by
 have h:(Tryz.prog.info? 72).map (fun i=>(i.zero,i.size,i.bytes))=some (some (.agg #[.int .i64 0,.int .i64 0,.int .i64 0]),3,24):=by kernel_rfl
 cases hi:Tryz.prog.info? 72 with
 | none=>rw [hi] at h;cases h
 | some i=>
  rw [hi] at h
  simp only [Option.map_some,Option.some.injEq,Prod.mk.injEq] at h
  exact⟨i,rfl,h.1,h.2.1,h.2.2⟩
theorem RI.traced (L:xC SA) (h:RI SA B S w b pv vt T s x) {w':World} {g cap:Nat} {k a v:Int} (hown:w'.ownsRow B 72 3 (.slice (some ⟨g,0,none⟩) (s.trace.length+1) cap) (s.trace.length+1) (xZ s.trace++[.int .i64 k,.int .i64 a,.int .i64 v]))
  (hg:w.grownBy w' vt.ownBlock) (hat:vt.ownBlock=some g\/g=w.heap.size) (hlt:g<w'.heap.size) :
  RI SA B (fun q=>S q\/q=g) (w'.setCell ⟨b,64,none⟩ (.slice (some ⟨g,0,none⟩) (s.trace.length+1) cap)) b pv (.slice (some ⟨g,0,none⟩) (s.trace.length+1) cap) T {s with trace:=s.trace++[(k,a,v)]} x/\
  Fr S w (w'.setCell ⟨b,64,none⟩ (.slice (some ⟨g,0,none⟩) (s.trace.length+1) cap)) (fun q=>S q\/q=g):=by
 have hbs:=(h.bound b h.inB).2
 have hgb:g≠b:=by
  rcases hat with e | e
  ·exact(h.inV g e).2.1
  ·omega
 have hgT:¬T g:=by
  rcases hat with e | e
  ·exact(h.inV g e).2.2
  ·intro ht;have:=(h.bound g (h.inT g ht).1).2;omega
 have hB:B<=w.heap.size:=by have:=(h.bound b h.inB);omega
 have hgB:B<=g:=by
  rcases hat with e | e
  ·exact(h.bound g (h.inV g e).1).1
  ·omega
 have hsame:∀q,q<w.heap.size->vt.ownBlock≠some q->w'.heap[q]?=w.heap[q]?:=fun q hq hne=>hg.block q hq (fun e=>hne e.symm)
 have hb':w'.heap[b]?=w.heap[b]?:=hsame b hbs (fun e=>(h.inV b e).2.1 rfl)
 have hz:(w'.setCell ⟨b,64,none⟩ (.slice (some ⟨g,0,none⟩) (s.trace.length+1) cap)).heap.size=w'.heap.size:=by simp [World.setCell]
 refine⟨⟨?_,?_,?_,?_,.inl h.inB,?_,?_⟩,?_⟩
 ·intro k hk
  rw [hz]
  rcases hk with hk | rfl
  ·exact⟨(h.bound k hk).1,zT (h.bound k hk).2 hg.size⟩
  ·exact⟨hgB,hlt⟩
 ·refine((h.cells.block hb').set 64 _ (by omega)).congr fun j hj=>?_
  unfold yP
  by_cases e:j=64
  ·subst e;rw [if_pos rfl,qT]
  ·rw [if_neg e]
   rcases idx j hj with h | ⟨i,hi,rfl⟩ | rfl | rfl | ⟨i,hi,rfl⟩ | rfl | ⟨i,c,hi,hc,rfl⟩ | rfl | ⟨i,hi,rfl⟩ | rfl | rfl | rfl
   ·rw [kP _ _ _ _ h,kP _ _ _ _ h]
   ·rw [jH _ _ _ _ hi,jH _ _ _ _ hi]
   ·rw [oO,oO]
   ·rw [pD,pD]
   ·rw [tI _ _ _ _ hi,tI _ _ _ _ hi]
   ·rw [uP,uP]
   ·rw [rD _ _ _ _ _ hi hc,rD _ _ _ _ _ hi hc]
   ·rw [sS,sS]
   ·rw [qM _ _ _ _ hi,qM _ _ _ _ hi]
   ·exact absurd rfl e
   ·rw [rO,rO]
   ·rw [tU,tU]
 ·rw [List.length_append,jB]
  exact yA hown (fun q hq=>zQ _ _ _ _ (by simp [Value.ownBlock] at hq;subst hq;exact hgb))
 ·refine L.keep h.src (fun q hq=>?_) (by rw [hz];exact hg.size)
  rw [zQ _ _ _ _ (h.inT q hq).2]
  exact hsame q (h.bound q (h.inT q hq).1).2 (fun e=>(h.inV q e).2.2 hq)
 ·intro q hq
  simp [Value.ownBlock] at hq
  subst hq
  exact⟨.inr rfl,hgb,hgT⟩
 ·intro q hq
  exact⟨.inl (h.inT q hq).1,(h.inT q hq).2⟩
 ·refine⟨hg.os,hg.tape,hg.output,by rw [hz];exact hg.size,fun k hk hn=>?_,fun k hk hs=>?_⟩
  ·rw [zQ _ _ _ _ (by intro e;subst e;exact hn h.inB)]
   exact hsame k hk (fun e=>hn (h.inV k e).1)
  ·rcases hs with hs | rfl
   ·exact hs
   ·rcases hat with e | e
    ·exact(h.inV k e).1
    ·omega
end
section
variable {σ:Type} {SA:(Nat->Prop)->World->σ->Prop} {B:Nat} {S T:Nat->Prop} {w:World} {b:Nat} {pv:Nat->Value} {vt:Value} {s:PS} {x:σ}
theorem zB1 {ops:Array Oper} {rest:List Oper} {o:Oper} {a:Act} {Q:Exit->Act->World->Prop} (hgd:o.guard=none) (sv xv:Operand)
  (ho:o.op=.call {callee:=.builtin .append,args:=#[sv,xv],argTypes:=#[34,34]}) {n:Nat} {xs:List Value} {k c v:Int}
  (hs:a.eval sv=vt) (hx:a.eval xv=.slice (some ⟨w.heap.size,0,none⟩) 1 1) (hrow:w.ownsRow B 72 3 vt n xs) (hn:n<=100000000) (hB:B<=w.heap.size)
  (h:∀g cap w',w'.ownsRow B 72 3 (.slice (some ⟨g,0,none⟩) (n+1) cap) (n+1) (xs++[.int .i64 k,.int .i64 c,.int .i64 v])->(w.alloc (.cells #[.int .i64 k,.int .i64 c,.int .i64 v] 72)).grownBy w' vt.ownBlock->
   (vt.ownBlock=some g\/g=w.heap.size+1)->g<w'.heap.size->wpList Tryz.prog ops Q rest (a.put o.dst (.slice (some ⟨g,0,none⟩) (n+1) cap)) w') :
  wpList Tryz.prog ops Q (o::rest) a (w.alloc (.cells #[.int .i64 k,.int .i64 c,.int .i64 v] 72)):=by
 obtain⟨i,hi,hz,hs1,hby⟩:=info92
 have hb':B<=(w.alloc (.cells #[.int .i64 k,.int .i64 c,.int .i64 v] 72)).heap.size:=by simp;omega
 have hm:n+1<=maxLen:=by simp only [maxLen];omega
 have hby':(n+1)*24<=140737488355328:=by omega
 have hone:∀u∈[Value.int .i64 k,.int .i64 c,.int .i64 v],u.oneCell'=true:=by simp [Value.oneCell']
 have hsz:(w.alloc (.cells #[.int .i64 k,.int .i64 c,.int .i64 v] 72)).heap.size=w.heap.size+1:=by simp
 exact wpList_append_lies _ hgd sv xv 34 ho B 72 i _ 3 24 Tryz.underlying34 hi hz hs1 hby rfl (by omega) vt n xs hs (hrow.alloc _) ⟨w.heap.size,0,none⟩ 1 1 [.int .i64 k,.int .i64 c,.int .i64 v] hx rfl
  (World.news_of_block (heap_alloc_new w _)) hone (by omega) hm hby' hb' (w.heap.size+1) hsz h
def fL (n:Nat):Prop:=n<=100000000
theorem dR (L:xC SA) (h:RI SA B S w b pv vt T s x) (k a v:Int) (hlen:fL s.trace.length) :
  Calls Tryz.prog 114 #[.pointer (some ⟨b,0,none⟩),.int .i64 k,.int .i64 a,.int .i64 v] w fun e w'=>e=.returned (.tuple #[])/\∃S' vt',RI SA B S' w' b pv vt' T {s with trace:=s.trace++[(k,a,v)]} x/\Fr S w w' S':=by
 have hin:=h.inB
 obtain⟨n1,n2⟩:=uL (h.bound b h.inB).2
 have hb:=(h.bound b h.inB).2
 have hBs:B<=w.heap.size:=by have:=h.bound b h.inB;omega
 have c0:=h.cell 64 (by omega)
 have z0:=h.free 64 (by omega)
 rw [qT] at c0
 have h1:=h.alloc L (.cells #[.int .i64 k,.int .i64 a,.int .i64 v] 72)
 have H:=zZ h1
 have hrow:=zZ h.row
 have HB:=zZ hBs
 have hw1:(w.alloc (.cells #[.int .i64 k,.int .i64 a,.int .i64 v] 72)).cell? ⟨b,64,none⟩=some vt:=h1.cell 64 (by omega) |>.trans (by rw [qT])
 have hfz1:(w.alloc (.cells #[.int .i64 k,.int .i64 a,.int .i64 v] 72)).frozen? ⟨b,64,none⟩=false:=h1.free 64 (by omega)
 have HW1:=zZ hw1
 have HFZ:=zZ hfz1
 have hne:∀q,vt.ownBlock=some q->q≠b:=fun q hq=>(h.inV q hq).2.1
 have HNE:=zZ hne
 clear h h1 hin hBs hw1 hfz1 hne
 go_enter Tryz.func114,Tryz.ntmps114
 go_wp2_with (at_builtin;refine zB1 (vt:=vt) rfl (.tmp 12) (.tmp 17) rfl rfl rfl (zY hrow) hlen (zY HB) ?_;intro g cap w1 hown hgrow hat hlt;have e1:w1.cell? ⟨b,64,none⟩=some vt:=hgrow.cell (zY HW1) (fun e=>zY HNE b e.symm rfl);have e2:w1.frozen? ⟨b,64,none⟩=false:=(hgrow.frozen_far ⟨b,64,none⟩ (by simp;omega) (fun e=>zY HNE b e.symm rfl)).trans (zY HFZ))
 go_end0
 obtain⟨r1,r2⟩:=(zY H).traced L hown hgrow (by simpa using hat) hlt
 exact⟨rfl,_,_,r1,((Fr.refl S w).alloc _).trans r2⟩
theorem yB1 (L:xC SA) (h:RI SA B S w b pv vt T s x) (cd a v:Int) (h0:0<=a) (h4:a<4) (hlen:fL s.trace.length) :
  Calls Tryz.prog 91 #[.pointer (some ⟨b,0,none⟩),.agg #[.int .i64 cd,.int .i64 a,.int .i64 v]] w fun e w'=>e=.returned (.tuple #[])/\∃S' vt',RI SA B S' w' b pv vt' T {s with trace:=s.trace++[(3,a,s.reg a.toNat)]} x/\Fr S w w' S':=by
 have hin:=h.inB
 obtain⟨n1,n2⟩:=uL (h.bound b h.inB).2
 have hb:=(h.bound b h.inB).2
 have c0:=h.cell (18+a.toNat) (by omega)
 rw [tI _ _ _ _ (by omega)] at c0
 have h1:=(h.alloc L (.cells #[.int .i64 cd,.int .i64 a,.int .i64 v] 70)).drew L
 have ht:=dR L h1 3 a (s.reg a.toNat) hlen
 have HT:=zZ ht
 clear ht h h1 hin hlen
 generalize s.reg a.toNat=ra at *
 go_enter Tryz.func91,Tryz.ntmps91
 go_wp2
 go_region_with (go_at_call 114;refine(zY HT).mono ?_;rintro e w2 ⟨rfl,S',vt',r1,r2⟩)
 all_goals
  go_wp2
  go_end0
  exact⟨rfl,S',vt',r1,((Fr.refl S w).alloc _).drew.trans r2⟩
end
end Go.Proofs.YtfmbebofllgmoaaGreatDoor
namespace Go.Proofs.YtfmbebofllgmoaaGreatDoor
open Go.RowKit
def zO3 (tyS fnS:Nat):Prop:=∀(a:Addr) (k o:Value) (w:World),(invoke (.fn (.method "Hear") #[]) #[.iface tyS (.pointer (some a)),k,o]).run Tryz.prog w=.ok (.enter fnS #[.pointer (some a),k,o]) w
theorem zE7:zO3 89 181:=fun a k o w=>by kernel_rfl
theorem zH5 {tyS fnS:Nat} (hinv:zO3 tyS fnS) {ops:Array Oper} {rest:List Oper} {o:Oper} {a:Act} {Q:Exit->Act->World->Prop} {w:World} (hgd:o.guard=none) (rv kv ov:Operand)
  (ho:o.op=.call {callee:=.invoke rv "Hear",args:=#[kv,ov],argTypes:=#[3,3]}) {ra:Addr} {k v:Value} (hr:a.eval rv=.iface tyS (.pointer (some ra))) (hk:a.eval kv=k) (hv:a.eval ov=v)
  (h:Calls Tryz.prog fnS #[.pointer (some ra),k,v] w fun e w'=>∃u,e=.returned u/\wpList Tryz.prog ops Q rest (a.put o.dst u) w'):wpList Tryz.prog ops Q (o::rest) a w:=by
 refine wpList_plain hgd fun K hK=>?_
 unfold Oper.wp execOp
 simp only [ho,resolve,Sem.run_bind,Sem.run_pure,Result.andThen_ok,List.map_toArray,List.map_cons,List.map_nil,hr,hk,hv]
 have e:(#[Value.iface tyS (.pointer (some ra))]++#[k,v]:Array Value)=#[.iface tyS (.pointer (some ra)),k,v]:=rfl
 simp only [e,hinv ra k v w]
 rw [Oper.upon_enter]
 refine h.mono ?_
 rintro e w' ⟨u,rfl,hu⟩
 exact hK _ _ hu
structure Rep where
 kind:Int
 of:Int
 n:Int
 files:List Int
 e:Int
def yJ (w:World) (v:Value) (l:List Int) (P:Nat->Prop):Prop:=
 ∃a c,v=.slice a l.length c/\(l=[]\/∃q off,a=some ⟨q,off,none⟩/\P q/\∀i,i<l.length->w.cell? ⟨q,off+i,none⟩=some (.int .i64 (l.getD i 0)))
structure uE {σ:Type} (SA:(Nat->Prop)->World->σ->Prop) (ask:σ->Int->Int->Rep×σ) (may:Int->Int->Prop) (B rb tyS fnS:Nat):Prop where
 hears:zO3 tyS fnS
 calls:∀{T:Nat->Prop} {w:World} {x:σ} {k o:Int},SA T w x->(∀q,T q->q<w.heap.size)->may k o->Calls Tryz.prog fnS #[.pointer (some ⟨rb,0,none⟩),.int .i64 k,.int .i64 o] w fun e w'=>
  ∃fv T',e=.returned (.tuple #[.agg #[.int .i64 (ask x k o).1.kind,.int .i64 (ask x k o).1.of,.int .i64 (ask x k o).1.n,fv],.int .i64 (ask x k o).1.e])/\SA T' w' (ask x k o).2/\Fr T w w' T'/\(∀q,T' q->q<w'.heap.size)/\
   yJ w' fv (ask x k o).1.files (fun q=>(q<B\/w.heap.size<=q\/T q)/\q<w'.heap.size/\¬T' q)
section
variable {σ:Type} {SA:(Nat->Prop)->World->σ->Prop} {ask:σ->Int->Int->Rep×σ} {may:Int->Int->Prop} {B:Nat} {S T:Nat->Prop} {w:World} {b:Nat} {pv:Nat->Value} {vt:Value} {s:PS} {x:σ}
theorem RI.asked (h:RI SA B S w b pv vt T s x) {w':World} {T':Nat->Prop} {x':σ} (hf:Fr T w w' T') (hs:SA T' w' x') (hb:∀q,T' q->q<w'.heap.size) :
  RI SA B (fun q=>(S q/\¬T q)\/T' q) w' b pv vt T' s x'/\Fr S w w' (fun q=>(S q/\¬T q)\/T' q):=by
 have hBw:B<=w.heap.size:=by have:=h.bound b h.inB;omega
 have hbT:¬T b:=fun ht=>(h.inT b ht).2 rfl
 have hbs:=(h.bound b h.inB).2
 refine⟨⟨?_,?_,?_,hs,.inl ⟨h.inB,hbT⟩,?_,?_⟩,?_⟩
 ·intro k hk
  rcases hk with ⟨hk,_⟩ | hk
  ·exact⟨(h.bound k hk).1,zT (h.bound k hk).2 hf.size⟩
  ·refine⟨?_,hb k hk⟩
   by_cases hlt:k<w.heap.size
   ·exact(h.bound k (h.inT k (hf.old k hlt hk)).1).1
   ·omega
 ·exact h.cells.block (hf.same b hbs hbT)
 ·exact yA h.row (fun q hq=>hf.same q (h.bound q (h.inV q hq).1).2 (h.inV q hq).2.2)
 ·intro q hq
  obtain⟨h1,h2,h3⟩:=h.inV q hq
  exact⟨.inl ⟨h1,h3⟩,h2,fun ht=>h3 (hf.old q (h.bound q h1).2 ht)⟩
 ·intro k hk
  exact⟨.inr hk,fun e=>by subst e;exact hbT (hf.old k hbs hk)⟩
 ·refine⟨hf.os,hf.tape,hf.output,hf.size,fun k hk hn=>hf.same k hk (fun ht=>hn (h.inT k ht).1),fun k hk hs=>?_⟩
  rcases hs with ⟨hs,_⟩ | hs
  ·exact hs
  ·exact(h.inT k (hf.old k hk hs)).1
theorem yN {w w':World} {v:Value} {l:List Int} {P P':Nat->Prop} (h:yJ w v l P) (hk:∀q,P q->w'.heap[q]?=w.heap[q]?) (hp:∀q,P q->P' q):yJ w' v l P':=by
 obtain⟨a,c,hv,hl⟩:=h
 refine⟨a,c,hv,?_⟩
 rcases hl with hl | ⟨q,off,ha,hq,hc⟩
 ·exact .inl hl
 ·exact .inr ⟨q,off,ha,hp q hq,fun i hi=>(zO (w:=w) (a:=⟨q,off+i,none⟩) (hk q hq)).trans (hc i hi)⟩
theorem zK0 {w1:World} {T':Nat->Prop} {x':σ} (h:RI SA B S w b pv vt T s x) (L:xC SA) (hs:SA T' w1 x') (hf:Fr T (w.alloc (.cells #[.int .i64 0,.int .i64 0,.int .i64 0,.slice none 0 0] 49)) w1 T') (hq:∀q,T' q->q<w1.heap.size) :
  (w1.cell? ⟨b,65,none⟩=some (.int .i64 s.heard)/\w1.frozen? ⟨b,65,none⟩=false/\w1.cell? ⟨b,66,none⟩=some (.int .i64 s.fin)/\w1.frozen? ⟨b,66,none⟩=false)/\
  (w1.cell? ⟨w.heap.size,0,none⟩=some (.int .i64 0)/\w1.cell? ⟨w.heap.size,1,none⟩=some (.int .i64 0)/\w1.cell? ⟨w.heap.size,2,none⟩=some (.int .i64 0)/\w1.cell? ⟨w.heap.size,3,none⟩=some (.slice none 0 0))/\
  (w1.frozen? ⟨w.heap.size,0,none⟩=false/\w1.frozen? ⟨w.heap.size,1,none⟩=false/\w1.frozen? ⟨w.heap.size,2,none⟩=false/\w1.frozen? ⟨w.heap.size,3,none⟩=false)/\
  w.heap.size<w1.heap.size/\b<w1.heap.size/\¬w1.heap.size=w.heap.size/\¬w1.heap.size=b/\¬b=w1.heap.size:=by
 have hb:=(h.bound b h.inB).2
 have hTn:¬T w.heap.size:=fun ht=>by have:=(h.bound _ (h.inT _ ht).1).2;omega
 obtain⟨r1,_⟩:=(h.alloc L (.cells #[.int .i64 0,.int .i64 0,.int .i64 0,.slice none 0 0] 49)).asked hf hs hq
 have a5:=r1.cell 65 (by omega)
 rw [rO] at a5
 have a6:=r1.cell 66 (by omega)
 rw [tU] at a6
 have hsz:w.heap.size+1<=w1.heap.size:=by have:=hf.size;simpa using this
 have c:∀j,w1.cell? ⟨w.heap.size,j,none⟩=(w.alloc (.cells #[.int .i64 0,.int .i64 0,.int .i64 0,.slice none 0 0] 49)).cell? ⟨w.heap.size,j,none⟩:=fun j=>hf.cell _ _ (by simp) hTn
 have f:∀j,w1.frozen? ⟨w.heap.size,j,none⟩=(w.alloc (.cells #[.int .i64 0,.int .i64 0,.int .i64 0,.slice none 0 0] 49)).frozen? ⟨w.heap.size,j,none⟩:=fun j=>hf.frozen _ _ (by simp) hTn
 refine⟨⟨a5,r1.free 65 (by omega),a6,r1.free 66 (by omega)⟩,⟨?_,?_,?_,?_⟩,⟨?_,?_,?_,?_⟩,by omega,by omega,by omega,by omega,by omega⟩
 ·rw [c];simp
 ·rw [c];simp
 ·rw [c];simp
 ·rw [c];simp
 ·rw [f];simp
 ·rw [f];simp
 ·rw [f];simp
 ·rw [f];simp
theorem eI {w1:World} {T':Nat->Prop} {x':σ} (L:xC SA) (h:RI SA B S w b pv vt T s x) (hs:SA T' w1 x') (hf:Fr T (w.alloc (.cells #[.int .i64 0,.int .i64 0,.int .i64 0,.slice none 0 0] 49)) w1 T') (hq:∀q,T' q->q<w1.heap.size)
  (k:Nat) (v:Value) (s':PS) (hk:k<67) (he:∀j,j<67->img pv vt s' j=yP (img pv vt s) k v j) (ht:s'.trace=s.trace) (u0 u1 u2 u3:Value) (o:Obj) {fv:Value} {fl:List Int}
  (hi:yJ w1 fv fl (fun q=>(q<B\/(w.alloc (.cells #[.int .i64 0,.int .i64 0,.int .i64 0,.slice none 0 0] 49)).heap.size<=q\/T q)/\q<w1.heap.size/\¬T' q)) :
  ∃S',RI SA B S' ((((((w1.setCell ⟨b,k,none⟩ v).setCell ⟨w.heap.size,0,none⟩ u0).setCell ⟨w.heap.size,1,none⟩ u1).setCell ⟨w.heap.size,2,none⟩ u2).setCell ⟨w.heap.size,3,none⟩ u3).alloc o) b pv vt T' s' x'/\
   Fr S w ((((((w1.setCell ⟨b,k,none⟩ v).setCell ⟨w.heap.size,0,none⟩ u0).setCell ⟨w.heap.size,1,none⟩ u1).setCell ⟨w.heap.size,2,none⟩ u2).setCell ⟨w.heap.size,3,none⟩ u3).alloc o) S'/\
   yJ ((((((w1.setCell ⟨b,k,none⟩ v).setCell ⟨w.heap.size,0,none⟩ u0).setCell ⟨w.heap.size,1,none⟩ u1).setCell ⟨w.heap.size,2,none⟩ u2).setCell ⟨w.heap.size,3,none⟩ u3).alloc o) fv fl
    (fun q=>(q<B\/w.heap.size<=q\/S q)/\q<((((((w1.setCell ⟨b,k,none⟩ v).setCell ⟨w.heap.size,0,none⟩ u0).setCell ⟨w.heap.size,1,none⟩ u1).setCell ⟨w.heap.size,2,none⟩ u2).setCell ⟨w.heap.size,3,none⟩ u3).alloc o).heap.size/\¬S' q):=by
 have hb:=(h.bound b h.inB).2
 have hSn:¬S w.heap.size:=fun ht=>by have:=(h.bound _ ht).2;omega
 have hTn:¬T w.heap.size:=fun ht=>hSn (h.inT _ ht).1
 obtain⟨r1,r2⟩:=(h.alloc L (.cells #[.int .i64 0,.int .i64 0,.int .i64 0,.slice none 0 0] 49)).asked hf hs hq
 have hn:¬((S w.heap.size/\¬T w.heap.size)\/T' w.heap.size):=by
  rintro (⟨h1,_⟩ | h2)
  ·exact hSn h1
  ·exact hTn (hf.old _ (by simp) h2)
 have hsz:w.heap.size+1<=w1.heap.size:=by have:=hf.size;simpa using this
 refine⟨_,((((((r1.set L k v s' hk he ht).setOther L ⟨w.heap.size,0,none⟩ u0 hn).setOther L ⟨w.heap.size,1,none⟩ u1 hn).setOther L ⟨w.heap.size,2,none⟩ u2 hn).setOther L ⟨w.heap.size,3,none⟩ u3 hn).alloc L o),?_,?_⟩
 ·have f0:Fr S w w1 _:=((Fr.refl S w).alloc _).trans r2
  exact(((((f0.setCell _ _ (.inl h.inB)).setCell _ _ (.inr (Nat.le_refl _))).setCell _ _ (.inr (Nat.le_refl _))).setCell _ _ (.inr (Nat.le_refl _))).setCell _ _ (.inr (Nat.le_refl _))).alloc _
 ·refine yN hi (fun q hq'=>?_) (fun q hq'=>?_)
  ·obtain⟨g1,g2,_⟩:=hq'
   have g1':q<B\/w.heap.size+1<=q\/T q:=by simpa using g1
   have hbB:=(h.bound b h.inB).1
   have gb:q≠b/\q≠w.heap.size:=by
    rcases g1' with g | g | g
    ·omega
    ·omega
    ·have:=(h.bound _ (h.inT _ g).1).2
     exact⟨(h.inT _ g).2,by omega⟩
   rw [zR _ _ _ (by simpa [World.setCell] using g2),zQ _ _ _ _ (by simp;omega),zQ _ _ _ _ (by simp;omega),zQ _ _ _ _ (by simp;omega),zQ _ _ _ _ (by simp;omega),zQ _ _ _ _ (by simp;omega)]
  ·obtain⟨g1,g2,g3⟩:=hq'
   have g1':q<B\/w.heap.size+1<=q\/T q:=by simpa using g1
   refine⟨?_,by simp [World.setCell];omega,?_⟩
   ·rcases g1' with g | g | g
    ·exact .inl g
    ·exact .inr (.inl (by omega))
    ·exact .inr (.inr (h.inT _ g).1)
   rintro (⟨h1,h1'⟩ | h2)
   ·have:=h.bound _ h1
    rcases g1' with g | g | g
    ·omega
    ·omega
    ·exact h1' g
   ·exact g3 h2
def zZ4 (SA:(Nat->Prop)->World->σ->Prop) (B:Nat) (S:Nat->Prop) (w:World) (b:Nat) (pv:Nat->Value) (vt:Value) (s:PS) (R:Rep) (x':σ) (e:Ending) (w':World):Prop:=
 ∃S' T' fv,RI SA B S' w' b pv vt T' (if R.e=0 then {s with heard:=wrap64 (s.heard+1)} else {s with fin:=R.e}) x'/\Fr S w w' S'/\
  (
    if R.e=0 then e=.returned (.tuple #[.agg #[.int .i64 R.kind,.int .i64 R.of,.int .i64 R.n,fv],.bool true])/\yJ w' fv R.files (fun q=>(q<B\/w.heap.size<=q\/S q)/\q<w'.heap.size/\¬S' q)
    else e=.returned (.tuple #[.agg #[.int .i64 0,.int .i64 0,.int .i64 0,.slice none 0 0],.bool false]))
theorem jG (L:xC SA) {rb tyS fnS:Nat} (K:uE SA ask may B rb tyS fnS) (hp:pv 3=.iface tyS (.pointer (some ⟨rb,0,none⟩))) (h:RI SA B S w b pv vt T s x) (kd of:Int) (hm:may kd of) :
  Calls Tryz.prog 113 #[.pointer (some ⟨b,0,none⟩),.int .i64 kd,.int .i64 of] w fun e w'=>zZ4 SA B S w b pv vt s (ask x kd of).1 (ask x kd of).2 e w':=by
 have c0:=h.cell 3 (by omega)
 rw [kP _ _ _ _ (by omega),hp] at c0
 obtain⟨n1,n2⟩:=uL (h.bound b h.inB).2
 have hb:=(h.bound b h.inB).2
 have hSn:¬S w.heap.size:=fun ht=>by have:=(h.bound _ ht).2;omega
 have h1:=h.alloc L (.cells #[.int .i64 0,.int .i64 0,.int .i64 0,.slice none 0 0] 49)
 have hc:=K.calls h1.src (fun q hq=>(h1.bound q (h1.inT q hq).1).2) hm
 have HC:=zZ hc
 have H1:=zZ h1
 have H:=zZ h
 have HSn:=zZ hSn
 generalize eR:ask x kd of=R at *
 clear hc h h1 hp hSn eR
 obtain⟨⟨rk,ro,rn,rf,re⟩,x'⟩:=R
 have hre:(re != 0)=true\/(re != 0)=false:=by cases (re != 0)<;>simp
 rcases hre with hre | hre
 all_goals
  go_enter Tryz.func113,Tryz.ntmps113
  go_wp2_with (refine zH5 K.hears (ra:=⟨rb,0,none⟩) rfl (.tmp 14) (.tmp 15) (.tmp 16) rfl rfl rfl rfl ?_;refine(zY HC).mono ?_;rintro e w1 ⟨fv,T',rfl,hs,hf,hq,hi⟩;refine⟨_,rfl,?_⟩;have HI:=zZ hi;obtain⟨fa,fc,rfl,hfi⟩:=hi;obtain⟨⟨a5,z5,a6,z6⟩,⟨v0,v1,v2,v3⟩,⟨y0,y1,y2,y3⟩,q1,q2,q3,q4,q5⟩:=zK0 (zY H) L hs hf hq;have HS:=zZ hs;have HF:=zZ hf;have HQ:=zZ hq;clear hs hf hq hfi)
 ·refine bodyPost_ret (v:=.tuple #[.agg #[.int .i64 0,.int .i64 0,.int .i64 0,.slice none 0 0],.bool false]) ?_ rfl ?_
  ·simp [results,Tryz.results113,go_sem,v0,v1,v2,v3,q1]
  ·have hre':¬re=0:=by simpa using hre
   obtain⟨S',p1,p2,_⟩:=eI L (zY H) (zY HS) (zY HF) (zY HQ) 66 (.int .i64 re) {s with fin:=re} (by omega) (jQ pv vt s re) rfl (.int .i64 0) (.int .i64 0) (.int .i64 0) (.slice none 0 0) (.cells #[.int .i64 rk,.int .i64 ro,.int .i64 rn,.slice fa rf.length fc] 49) (zY HI)
   refine⟨S',T',.slice none 0 0,?_,p2,?_⟩
   ·rw [if_neg hre'];exact p1
   ·rw [if_neg hre']
 ·refine bodyPost_ret (v:=.tuple #[.agg #[.int .i64 rk,.int .i64 ro,.int .i64 rn,.slice fa rf.length fc],.bool true]) ?_ rfl ?_
  ·simp [results,Tryz.results113,go_sem,v0,v1,v2,v3,q1]
  ·have hre':re=0:=by simpa using hre
   obtain⟨S',p1,p2,p3⟩:=eI L (zY H) (zY HS) (zY HF) (zY HQ) 65 (.int .i64 (wrap64 (s.heard+1))) {s with heard:=wrap64 (s.heard+1)} (by omega) (zX8 pv vt s _) rfl (.int .i64 rk) (.int .i64 ro) (.int .i64 rn) (.slice fa rf.length fc) (.cells #[.int .i64 rk,.int .i64 ro,.int .i64 rn,.slice fa rf.length fc] 49) (zY HI)
   refine⟨S',T',.slice fa rf.length fc,?_,p2,?_⟩
   ·rw [if_pos hre'];exact p1
   ·rw [if_pos hre'];exact⟨rfl,p3⟩
end
end Go.Proofs.YtfmbebofllgmoaaGreatDoor
namespace Go.Proofs.YtfmbebofllgmoaaGreatDoor
open Go.RowKit
attribute [local go_sem ↓] Go.wp_at_zero Go.wp_at_succ
def ckS (s:PS) (R:Rep):PS:=if R.e=0 then (if R.n<s.clock then {s with heard:=wrap64 (s.heard+1),fin:=4} else {s with heard:=wrap64 (s.heard+1),clock:=R.n}) else {s with fin:=R.e}
def ckB (s:PS) (R:Rep):Bool:=decide (R.e=0) && !decide (R.n<s.clock)
section
variable {σ:Type} {SA:(Nat->Prop)->World->σ->Prop} {ask:σ->Int->Int->Rep×σ} {may:Int->Int->Prop} {B:Nat} {S T:Nat->Prop} {w:World} {b:Nat} {pv:Nat->Value} {vt:Value} {s:PS} {x:σ}
def pU (SA:(Nat->Prop)->World->σ->Prop) (B:Nat) (S:Nat->Prop) (w:World) (b:Nat) (pv:Nat->Value) (s:PS) (x:σ) (w':World):Prop:=
 ∃S' vt' T',RI SA B S' w' b pv vt' T' s x/\Fr S w w' S'
theorem kE (L:xC SA) {rb tyS fnS:Nat} (K:uE SA ask may B rb tyS fnS) (hp:pv 3=.iface tyS (.pointer (some ⟨rb,0,none⟩))) (h:RI SA B S w b pv vt T s x) (hm:may 1 0) :
  Calls Tryz.prog 95 #[.pointer (some ⟨b,0,none⟩)] w fun e w'=>e=.returned (.bool (ckB s (ask x 1 0).1))/\pU SA B S w b pv (ckS s (ask x 1 0).1) (ask x 1 0).2 w':=by
 have hc:=jG L K hp h 1 0 hm
 generalize ask x 1 0=R at *
 obtain⟨⟨rk,ro,rn,rf,re⟩,x'⟩:=R
 have HC:=zZ hc
 have HIN:=zZ h.inB
 clear hc h hp hm
 by_cases hre:re=0
 ·by_cases hlt:rn<s.clock
  ·have e1:ckB s ⟨rk,ro,rn,rf,re⟩=false:=by simp [ckB,hlt]
   have e2:ckS s ⟨rk,ro,rn,rf,re⟩={s with heard:=wrap64 (s.heard+1),fin:=4}:=by simp [ckS,hre,hlt]
   rw [e1,e2]
   have HRE:=zZ hre
   clear hre e1 e2
   go_enter Tryz.func95,Tryz.ntmps95
   go_wp2_with (go_at_call 113;refine(zY HC).mono ?_;rintro e w1 ⟨S',T',fv,r1,r2,r3⟩;rw [if_pos (zY HRE)] at r1 r3;obtain⟨r3,ri⟩:=r3;obtain⟨fa,fc,rfl,_⟩:=ri;subst r3;have R1:=zZ r1;have R2:=zZ r2;have a1:=(r1.cell 22 (by omega)).trans (by rw [uP]);have a2:=r1.cell 66 (by omega);have a3:=r1.free 66 (by omega);have hbw:=(r1.bound b r1.inB).2;obtain⟨n1,n2⟩:=uL hbw;generalize img pv vt {s with heard:=wrap64 (s.heard+1)} 66=old at a2;clear r1 r2)
   go_region
   go_wp2
   go_ret
   have q:=(((zY R1).set L 66 (.int .i64 4) _ (by omega) (jQ pv vt _ 4) rfl).alloc L (.cells #[.int .i64 rk,.int .i64 ro,.int .i64 rn,.slice fa rf.length fc] 49)).drew L
   exact⟨rfl,S',vt,T',q,(((zY R2).setCell _ _ (.inl (zY HIN))).alloc _).drew⟩
  ·have e1:ckB s ⟨rk,ro,rn,rf,re⟩=true:=by simp only [ckB,hre,hlt];rfl
   have e2:ckS s ⟨rk,ro,rn,rf,re⟩={s with heard:=wrap64 (s.heard+1),clock:=rn}:=by simp [ckS,hre,hlt]
   rw [e1,e2]
   have HRE:=zZ hre
   clear hre e1 e2
   go_enter Tryz.func95,Tryz.ntmps95
   go_wp2_with (go_at_call 113;refine(zY HC).mono ?_;rintro e w1 ⟨S',T',fv,r1,r2,r3⟩;rw [if_pos (zY HRE)] at r1 r3;obtain⟨r3,ri⟩:=r3;obtain⟨fa,fc,rfl,_⟩:=ri;subst r3;have R1:=zZ r1;have R2:=zZ r2;have a1:=(r1.cell 22 (by omega)).trans (by rw [uP]);have a3:=r1.free 22 (by omega);have hbw:=(r1.bound b r1.inB).2;obtain⟨n1,n2⟩:=uL hbw;clear r1 r2)
   go_region
   go_wp2
   go_ret
   have q:=(((zY R1).set L 22 (.int .i64 rn) _ (by omega) (zX7 pv vt _ rn) rfl).alloc L (.cells #[.int .i64 rk,.int .i64 ro,.int .i64 rn,.slice fa rf.length fc] 49)).drew L
   exact⟨rfl,S',vt,T',q,(((zY R2).setCell _ _ (.inl (zY HIN))).alloc _).drew⟩
 ·have e1:ckB s ⟨rk,ro,rn,rf,re⟩=false:=by simp [ckB,hre]
  have e2:ckS s ⟨rk,ro,rn,rf,re⟩={s with fin:=re}:=by simp [ckS,hre]
  rw [e1,e2]
  go_enter Tryz.func95,Tryz.ntmps95
  go_wp2_with (go_at_call 113;refine(zY HC).mono ?_;rintro e w1 ⟨S',T',fv,r1,r2,r3⟩;rw [if_neg hre] at r1 r3;subst r3;have R1:=zZ r1;have R2:=zZ r2;clear r1 r2)
  go_ret
  exact⟨rfl,S',vt,T',(zY R1).alloc L _,(zY R2).alloc _⟩
theorem iT {S S':Nat->Prop} {w w1:World} {o:Obj} (r2:Fr S (w.alloc o) w1 S'):w.heap.size<w1.heap.size:=by have:=r2.size;simp at this;omega
theorem yL8 (L:xC SA) {rb tyS fnS:Nat} (K:uE SA ask may B rb tyS fnS) (hp:pv 3=.iface tyS (.pointer (some ⟨rb,0,none⟩))) (h:RI SA B S w b pv vt T s x) (hm:may 1 0) (cd a v:Int) (h0:0<=a) (h4:a<4) :
  Calls Tryz.prog 89 #[.pointer (some ⟨b,0,none⟩),.agg #[.int .i64 cd,.int .i64 a,.int .i64 v]] w fun e w'=>e=.returned (.tuple #[])/\
   pU SA B S w b pv (if ckB s (ask x 1 0).1 then {ckS s (ask x 1 0).1 with reg:=upd (ckS s (ask x 1 0).1).reg a.toNat (ckS s (ask x 1 0).1).clock} else ckS s (ask x 1 0).1) (ask x 1 0).2 w':=by
 have hSn:¬S w.heap.size:=fun ht=>by have:=(h.bound _ ht).2;omega
 have hc:=kE L K hp (h.alloc L (.cells #[.int .i64 cd,.int .i64 a,.int .i64 v] 70)) hm
 have HC:=zZ hc
 have HIN:=zZ h.inB
 have HSn:=zZ hSn
 clear hc h hp hm hSn
 cases hbq:ckB s (ask x 1 0).1
 ·go_enter Tryz.func89,Tryz.ntmps89
  go_wp2_with (go_at_call 95;refine(zY HC).mono ?_;rintro e w1 ⟨rfl,S',vt',T',r1,r2⟩;have R1:=zZ r1;have R2:=zZ r2;clear r1 r2)
  go_end0
  exact⟨rfl,S',vt',T',zY R1,((Fr.refl S w).alloc _).trans (zY R2)⟩
 ·generalize ckS s (ask x 1 0).1=s1 at *
  go_enter Tryz.func89,Tryz.ntmps89
  go_wp2_with (go_at_call 95;refine(zY HC).mono ?_;rintro e w1 ⟨rfl,S',vt',T',r1,r2⟩;have R1:=zZ r1;have R2:=zZ r2;have a1:=(r1.cell 22 (by omega)).trans (by rw [uP]);have a2:=r1.cell (18+a.toNat) (by omega);have a3:=r1.free (18+a.toNat) (by omega);have hbw:=(r1.bound b r1.inB).2;have b1:w1.cell? ⟨w.heap.size,1,none⟩=some (.int .i64 a):=(r2.cell _ _ (by simp) (zY HSn)).trans (by simp);have q1:=iT r2;generalize img pv vt' s1 (18+a.toNat)=old at a2;clear r1 r2)
  go_region
  go_wp2
  go_end0
  have q:=(((zY R1).set L (18+a.toNat) (.int .i64 s1.clock) _ (by omega) (fD pv vt' s1 a.toNat s1.clock (by omega)) rfl)).drew L
  exact⟨rfl,S',vt',T',q,((((Fr.refl S w).alloc _).trans (zY R2)).setCell _ _ (.inl (zY HIN))).drew⟩
def pE (s:PS) (R:Rep) (i:Nat):PS:=if R.e=0 then {s with heard:=wrap64 (s.heard+1),reg:=upd s.reg i R.n} else {s with fin:=R.e}
theorem yL4 (L:xC SA) {rb tyS fnS:Nat} (K:uE SA ask may B rb tyS fnS) (hp:pv 3=.iface tyS (.pointer (some ⟨rb,0,none⟩))) (h:RI SA B S w b pv vt T s x) (cd a v:Int) (hm:may 4 v) (h0:0<=a) (h4:a<4) :
  Calls Tryz.prog 90 #[.pointer (some ⟨b,0,none⟩),.agg #[.int .i64 cd,.int .i64 a,.int .i64 v]] w fun e w'=>e=.returned (.tuple #[])/\pU SA B S w b pv (pE s (ask x 4 v).1 a.toNat) (ask x 4 v).2 w':=by
 have hSn:¬S w.heap.size:=fun ht=>by have:=(h.bound _ ht).2;omega
 have hc:=jG L K hp (h.alloc L (.cells #[.int .i64 cd,.int .i64 a,.int .i64 v] 70)) 4 v hm
 generalize ask x 4 v=R at *
 obtain⟨⟨rk,ro,rn,rf,re⟩,x'⟩:=R
 have HC:=zZ hc
 have HIN:=zZ h.inB
 have HSn:=zZ hSn
 clear hc h hp hm hSn
 by_cases hre:re=0
 ·have e2:pE s ⟨rk,ro,rn,rf,re⟩ a.toNat={s with heard:=wrap64 (s.heard+1),reg:=upd s.reg a.toNat rn}:=by simp [pE,hre]
  rw [e2]
  have HRE:=zZ hre
  clear hre e2
  go_enter Tryz.func90,Tryz.ntmps90
  go_wp2_with (go_at_call 113;refine(zY HC).mono ?_;rintro e w1 ⟨S',T',fv,r1,r2,r3⟩;rw [if_pos (zY HRE)] at r1 r3;obtain⟨r3,ri⟩:=r3;obtain⟨fa,fc,rfl,_⟩:=ri;subst r3;have R1:=zZ r1;have R2:=zZ r2;have a2:=r1.cell (18+a.toNat) (by omega);have a3:=r1.free (18+a.toNat) (by omega);have hbw:=(r1.bound b r1.inB).2;obtain⟨n1,n2⟩:=uL hbw;have b1:w1.cell? ⟨w.heap.size,1,none⟩=some (.int .i64 a):=(r2.cell _ _ (by simp) (zY HSn)).trans (by simp);have q1:=iT r2;generalize img pv vt {s with heard:=wrap64 (s.heard+1)} (18+a.toNat)=old at a2;clear r1 r2)
  go_region
  go_wp2
  go_end0
  have q:=(((zY R1).set L (18+a.toNat) (.int .i64 rn) _ (by omega) (fD pv vt _ a.toNat rn (by omega)) rfl).alloc L (.cells #[.int .i64 rk,.int .i64 ro,.int .i64 rn,.slice fa rf.length fc] 49)).drew L
  exact⟨rfl,S',vt,T',q,(((((Fr.refl S w).alloc _).trans (zY R2)).setCell _ _ (.inl (zY HIN))).alloc _).drew⟩
 ·have e2:pE s ⟨rk,ro,rn,rf,re⟩ a.toNat={s with fin:=re}:=by simp [pE,hre]
  rw [e2]
  go_enter Tryz.func90,Tryz.ntmps90
  go_wp2_with (go_at_call 113;refine(zY HC).mono ?_;rintro e w1 ⟨S',T',fv,r1,r2,r3⟩;rw [if_neg hre] at r1 r3;subst r3;have R1:=zZ r1;have R2:=zZ r2;have b2:w1.cell? ⟨w.heap.size,2,none⟩=some (.int .i64 v):=(r2.cell _ _ (by simp) (zY HSn)).trans (by simp);clear r1 r2)
  go_end0
  exact⟨rfl,S',vt,T',(zY R1).alloc L _,(((Fr.refl S w).alloc _).trans (zY R2)).alloc _⟩
end
end Go.Proofs.YtfmbebofllgmoaaGreatDoor
namespace Go.Proofs.YtfmbebofllgmoaaGreatDoor
open Go.RowKit
section
variable {σ:Type} {SA:(Nat->Prop)->World->σ->Prop} {ask:σ->Int->Int->Rep×σ} {may:Int->Int->Prop} {B:Nat} {S T:Nat->Prop} {w:World} {b:Nat} {pv:Nat->Value} {vt:Value} {s:PS} {x:σ}
def opM (ask:σ->Int->Int->Rep×σ) (o:O3) (s:PS) (x:σ):PS×σ:=
 if o.1=1 then ({s with reg:=upd s.reg o.2.1.toNat o.2.2},x)
 else if o.1=2 then ({s with reg:=upd s.reg o.2.1.toNat (wrap64 (s.reg o.2.1.toNat+s.reg o.2.2.toNat))},x)
 else if o.1=3 then ({s with armings:=s.armings+1,tim:=upd s.tim o.2.1.toNat (true,s.clock+min (max (s.reg o.2.2.toNat) 0) (1099511627776-s.clock),s.armings+1,o.2.1)},x)
 else if o.1=4 then ({s with tim:=upd s.tim o.2.1.toNat (false,(s.tim o.2.1.toNat).2)},x)
 else if o.1=5 then ({s with wat:=upd s.wat o.2.1.toNat true},x)
 else if o.1=6 then ({s with wat:=upd s.wat o.2.1.toNat false},x)
 else if o.1=7 then (if ckB s (ask x 1 0).1 then {ckS s (ask x 1 0).1 with reg:=upd (ckS s (ask x 1 0).1).reg o.2.1.toNat (ckS s (ask x 1 0).1).clock} else ckS s (ask x 1 0).1,(ask x 1 0).2)
 else if o.1=8 then (pE s (ask x 4 o.2.2).1 o.2.1.toNat,(ask x 4 o.2.2).2)
 else if o.1=9 then ({s with trace:=s.trace++[(3,o.2.1,s.reg o.2.1.toNat)]},x)
 else if o.1=10 then (if s.reg o.2.1.toNat=o.2.2 then {s with next:=s.next+1} else s,x)
 else ({s with fin:=1},x)
theorem uD {c a v:Int} {nt nf:Nat} (h:yO c a v nt nf=true) (hc:c=1\/c=2\/c=7\/c=8\/c=9\/c=10):0<=a/\a<4:=by
 rcases hc with rfl | rfl | rfl | rfl | rfl | rfl<;>simp [yO,pC,dP,dQ] at h<;>omega
theorem oS {c a v:Int} {nt nf:Nat} (h:yO c a v nt nf=true) (hc:c=3\/c=4):0<=a/\a<nt:=by
 rcases hc with rfl | rfl<;>simp [yO,pC,dP,dQ] at h<;>omega
theorem rR {c a v:Int} {nt nf:Nat} (h:yO c a v nt nf=true) (hc:c=5\/c=6):0<=a/\a<nf:=by
 rcases hc with rfl | rfl<;>simp [yO,pC,dP,dQ] at h<;>omega
theorem fC {c a v:Int} {nt nf:Nat} (h:yO c a v nt nf=true) (hc:c=2\/c=3):0<=v/\v<4:=by
 rcases hc with rfl | rfl<;>simp [yO,pC,dP,dQ] at h<;>omega
theorem iL {a v:Int} {nt nf:Nat} (h:yO 8 a v nt nf=true):1<=v/\v<=1000000:=by
 simp [yO,pC,dP,dQ] at h;omega
theorem nP {c a v:Int} {nt nf:Nat} (h:yO c a v nt nf=true):1<=c/\c<12:=by
 simp [yO] at h;omega
structure OpInv (s:PS):Prop where
 next:0<=s.next/\s.next<=1000
 clock:0<=s.clock/\s.clock<=1099511627776
 armings:0<=s.armings/\s.armings<=5000
 trace:fL s.trace.length
theorem yI8 (L:xC SA) {rb tyS fnS:Nat} (K:uE SA ask may B rb tyS fnS) (hp:pv 3=.iface tyS (.pointer (some ⟨rb,0,none⟩))) (h:RI SA B S w b pv vt T s x) (hm:may 1 0) (hm4:∀v,1<=v->v<=1000000->may 4 v)
  (c a v:Int) (nt nf:Nat) (hnt:nt<=8) (hnf:nf<=8) (hr:yO c a v nt nf=true) (hi:OpInv s) :
  Calls Tryz.prog (82+c.toNat) #[.pointer (some ⟨b,0,none⟩),.agg #[.int .i64 c,.int .i64 a,.int .i64 v]] w fun e w'=>e=.returned (.tuple #[])/\pU SA B S w b pv (opM ask (c,a,v) s x).1 (opM ask (c,a,v) s x).2 w':=by
 have hc:=nP hr
 have hcs:c=1\/c=2\/c=3\/c=4\/c=5\/c=6\/c=7\/c=8\/c=9\/c=10\/c=11:=by omega
 rcases hcs with rfl | rfl | rfl | rfl | rfl | rfl | rfl | rfl | rfl | rfl | rfl
 ·obtain⟨q1,q2⟩:=uD hr (by omega)
  exact(yN6 L h 1 a v q1 q2).mono fun e w' ⟨he,r1,r2⟩=>⟨he,S,vt,T,by simpa [opM] using r1,r2⟩
 ·obtain⟨q1,q2⟩:=uD hr (by omega)
  obtain⟨q3,q4⟩:=fC hr (by omega)
  exact(yI9 L h 2 a v q1 q2 q3 q4).mono fun e w' ⟨he,r1,r2⟩=>⟨he,S,vt,T,by simpa [opM] using r1,r2⟩
 ·obtain⟨q1,q2⟩:=oS hr (by omega)
  obtain⟨q3,q4⟩:=fC hr (by omega)
  exact(yJ1 L h 3 a v q1 (by omega) q3 q4 hi.clock hi.armings).mono fun e w' ⟨he,r1,r2⟩=>⟨he,S,vt,T,by simpa [opM] using r1,r2⟩
 ·obtain⟨q1,q2⟩:=oS hr (by omega)
  exact(zI4 L h 4 a v q1 (by omega)).mono fun e w' ⟨he,r1,r2⟩=>⟨he,S,vt,T,by simpa [opM] using r1,r2⟩
 ·obtain⟨q1,q2⟩:=rR hr (by omega)
  exact(zZ0 L h 5 a v q1 (by omega)).mono fun e w' ⟨he,r1,r2⟩=>⟨he,S,vt,T,by simpa [opM] using r1,r2⟩
 ·obtain⟨q1,q2⟩:=rR hr (by omega)
  exact(zK1 L h 6 a v q1 (by omega)).mono fun e w' ⟨he,r1,r2⟩=>⟨he,S,vt,T,by simpa [opM] using r1,r2⟩
 ·obtain⟨q1,q2⟩:=uD hr (by omega)
  exact(yL8 L K hp h hm 7 a v q1 q2).mono fun e w' ⟨he,r⟩=>⟨he,by simpa [opM] using r⟩
 ·obtain⟨q1,q2⟩:=uD hr (by omega)
  obtain⟨q3,q4⟩:=iL hr
  exact(yL4 L K hp h 8 a v (hm4 v q3 q4) q1 q2).mono fun e w' ⟨he,r⟩=>⟨he,by simpa [opM] using r⟩
 ·obtain⟨q1,q2⟩:=uD hr (by omega)
  exact(yB1 L h 9 a v q1 q2 hi.trace).mono fun e w' ⟨he,S',vt',r1,r2⟩=>⟨he,S',vt',T,by simpa [opM] using r1,r2⟩
 ·obtain⟨q1,q2⟩:=uD hr (by omega)
  exact(yG7 L h 10 a v q1 q2 hi.next).mono fun e w' ⟨he,r1,r2⟩=>⟨he,S,vt,T,by simpa [opM] using r1,r2⟩
 ·exact(yH3 L h 11 a v).mono fun e w' ⟨he,r1,r2⟩=>⟨he,S,vt,T,by simpa [opM] using r1,r2⟩
end
end Go.Proofs.YtfmbebofllgmoaaGreatDoor
namespace Go.Proofs.YtfmbebofllgmoaaGreatDoor
open Go.RowKit
attribute [local go_sem ↓] Go.wp_at_zero Go.wp_at_succ
def hdS (s:PS) (R:Rep):PS:=if R.e=0 then {s with heard:=wrap64 (s.heard+1)} else {s with fin:=R.e}
section
variable {σ:Type} {SA:(Nat->Prop)->World->σ->Prop} {ask:σ->Int->Int->Rep×σ} {may:Int->Int->Prop} {B:Nat} {S T:Nat->Prop} {w:World} {b:Nat} {pv:Nat->Value} {vt:Value} {s:PS} {x:σ}
theorem yF5 {w:World} {v:Value}:Calls Tryz.prog 118 #[v,.int .i64 1] w fun e w'=>e=.returned (.tuple #[.int .i64 0,.bool true])/\w'=w:=by
 go_enter Tryz.func118,Tryz.ntmps118
 go_wp2
 refine bodyPost_ret (v:=.tuple #[.int .i64 0,.bool true]) (by simp [results,Tryz.results118,go_sem]) rfl ?_
 exact⟨rfl,rfl⟩
theorem yF4 (L:xC SA) {rb tyS fnS:Nat} (K:uE SA ask may B rb tyS fnS) (hp:pv 3=.iface tyS (.pointer (some ⟨rb,0,none⟩))) (h:RI SA B S w b pv vt T s x) (of:Int) (hm:may 3 of) (h1:of≠1) :
  Calls Tryz.prog 118 #[.pointer (some ⟨b,0,none⟩),.int .i64 of] w fun e w'=>e=.returned (.tuple #[.int .i64 (if (ask x 3 of).1.e=0 then (ask x 3 of).1.n else 0),.bool (decide ((ask x 3 of).1.e=0))])/\
   ∃S' T',RI SA B S' w' b pv vt T' (hdS s (ask x 3 of).1) (ask x 3 of).2/\Fr S w w' S':=by
 have hc:=jG L K hp h 3 of hm
 generalize ask x 3 of=R at *
 obtain⟨⟨rk,ro,rn,rf,re⟩,x'⟩:=R
 have hne:(of==1)=false:=by simpa using h1
 have HC:=zZ hc
 clear hc h hp hm h1
 by_cases hre:re=0
 ·have e2:hdS s ⟨rk,ro,rn,rf,re⟩={s with heard:=wrap64 (s.heard+1)}:=by simp [hdS,hre]
  rw [e2]
  have HRE:=zZ hre
  simp only [hre,if_true,decide_true]
  clear hre e2
  go_enter Tryz.func118,Tryz.ntmps118
  go_wp2_with (go_at_call 113;refine(zY HC).mono ?_;rintro e w1 ⟨S',T',fv,r1,r2,r3⟩;rw [if_pos (zY HRE)] at r1 r3;obtain⟨r3,ri⟩:=r3;obtain⟨fa,fc,rfl,_⟩:=ri;subst r3;have R1:=zZ r1;have R2:=zZ r2;clear r1 r2)
  refine bodyPost_ret (v:=.tuple #[.int .i64 rn,.bool true]) (by simp [results,Tryz.results118,go_sem]) rfl ?_
  exact⟨rfl,S',T',(zY R1).alloc L _,(zY R2).alloc _⟩
 ·have e2:hdS s ⟨rk,ro,rn,rf,re⟩={s with fin:=re}:=by simp [hdS,hre]
  rw [e2]
  have HRE:=zZ hre
  simp only [hre,if_false,decide_false]
  clear hre e2
  go_enter Tryz.func118,Tryz.ntmps118
  go_wp2_with (go_at_call 113;refine(zY HC).mono ?_;rintro e w1 ⟨S',T',fv,r1,r2,r3⟩;rw [if_neg (zY HRE)] at r1 r3;subst r3;have R1:=zZ r1;have R2:=zZ r2;clear r1 r2)
  refine bodyPost_ret (v:=.tuple #[.int .i64 0,.bool false]) (by simp [results,Tryz.results118,go_sem]) rfl ?_
  exact⟨rfl,S',T',(zY R1).alloc L _,(zY R2).alloc _⟩
end
