/-
  PROVED HERE: append to a list of one's own, both the list and
-/
import Derived.Deep.DeepAppendRoom
import Derived.Test.YtfmbebofllgmoaaGreatDoorSallbe
set_option maxHeartbeats 4000000
set_option maxRecDepth 20000
namespace Go.Proofs.YtfmbebofllgmoaaGreatDoor
open Go.RowKit
theorem cA {w:World} {B e size n m g cap:Nat} {xs news:List Value} (h:w.ownsRow B e size (.slice (some ⟨g,0,none⟩) (n+m) cap) (n+m) (xs++news)) (hl:xs.length=n*size):w.ownsRow B e size (.slice (some ⟨g,0,none⟩) n cap) n xs:=by
 obtain⟨h0,h⟩:=h
 rcases h with ⟨hv,_⟩ | ⟨g',cap',cur,hv,hB,hg,h1,h2,h3,h4⟩
 ·cases hv
 ·cases hv
  refine⟨hl,.inr ⟨g,cap,cur,rfl,hB,hg,by omega,h2,h3,?_⟩⟩
  have h5:=congrArg (List.take (n*size)) h4
  rw [List.take_take,<-hl,List.take_left] at h5
  rw [<-hl]
  rw [show min xs.length ((n+m)*size)=xs.length by rw [hl,Nat.add_mul];omega] at h5
  exact h5
end Go.Proofs.YtfmbebofllgmoaaGreatDoor
namespace Go.Proofs.YtfmbebofllgmoaaGreatDoor
open Go.RowKit
attribute [local go_sem ↓] Go.wp_at_zero Go.wp_at_succ
structure Ent where
 l:Value
 a:Value
 b:Value
 c:Value
 m:Int
def uE:List Ent->List Value
 | []=>[]
 | e::r=>e.l::e.a::e.b::e.c::.int .i64 e.m::uE r
theorem mE (a b:List Ent):uE (a++b)=uE a++uE b:=by
 induction a with
 | nil=>rfl
 | cons x r ih=>simp [uE,ih]
theorem bQ:∀(es:List Ent) (i:Nat) (e:Ent),es[i]?=some e->(uE es)[i*5]?=some e.l/\(uE es)[i*5+1]?=some e.a/\(uE es)[i*5+2]?=some e.b/\(uE es)[i*5+3]?=some e.c/\(uE es)[i*5+4]?=some (.int .i64 e.m)
 | [],i,p,h=>by simp at h
 | x::r,0,p,h=>by
  simp at h
  subst h
  exact⟨rfl,rfl,rfl,rfl,rfl⟩
 | x::r,i+1,p,h=>by
  have hr:=bQ r i p (by simpa using h)
  have e:∀j,(uE (x::r))[(i+1)*5+j]?=(uE r)[i*5+j]?:=fun j=>by
   rw [show (i+1)*5+j=(i*5+j)+5 by omega];rfl
  exact⟨(e 0).trans hr.1,(e 1).trans hr.2.1,(e 2).trans hr.2.2.1,(e 3).trans hr.2.2.2.1,(e 4).trans hr.2.2.2.2⟩
def uM (w:World) (v:Value) (m:Int):Prop:=∃a n c,v=.slice a n c/\n<=1000000000/\(n=0\/∃q off,a=some ⟨q,off,none⟩/\∀i,i<n->w.cell? ⟨q,off+i*3,none⟩=some (.int .i64 0)/\w.cell? ⟨q,off+i*3+1,none⟩=some (.int .i64 m)/\w.cell? ⟨q,off+i*3+2,none⟩=some (.int .i64 0))
section
variable {w W:World} {v:Value} {m:Int}
theorem uD.fr (h:uD w v m) (hf:Fr (fun _=>False) w W (fun _=>False)):uD W v m:=by
 obtain⟨a,n,c,hv,hn,hc⟩:=h
 refine⟨a,n,c,hv,hn,hc.imp id fun ⟨q,off,e,hcell⟩=>⟨q,off,e,fun i hi=>?_⟩⟩
 exact(hf.cell q (off+i) (zU w _ (hcell i hi)) (fun h=>h)).trans (hcell i hi)
theorem uM.fr (h:uM w v m) (hf:Fr (fun _=>False) w W (fun _=>False)):uM W v m:=by
 obtain⟨a,n,c,hv,hn,hc⟩:=h
 refine⟨a,n,c,hv,hn,hc.imp id fun ⟨q,off,e,hcell⟩=>⟨q,off,e,fun i hi=>?_⟩⟩
 obtain⟨h0,h1,h2⟩:=hcell i hi
 have hq:=zU w _ h0
 exact⟨(hf.cell q _ hq (fun h=>h)).trans h0,(hf.cell q _ hq (fun h=>h)).trans h1,(hf.cell q _ hq (fun h=>h)).trans h2⟩
theorem uN.fr (h:uN w v m) (hf:Fr (fun _=>False) w W (fun _=>False)):uN W v m:=by
 obtain⟨a,n,c,hv,hn,hc⟩:=h
 refine⟨a,n,c,hv,hn,hc.imp id fun ⟨q,off,e,hcell⟩=>⟨q,off,e,fun i hi=>?_⟩⟩
 obtain⟨h0,h1,h2,h3⟩:=hcell i hi
 have hq:=zU w _ h0
 exact⟨(hf.cell q _ hq (fun h=>h)).trans h0,(hf.cell q _ hq (fun h=>h)).trans h1,(hf.cell q _ hq (fun h=>h)).trans h2,(hf.cell q _ hq (fun h=>h)).trans h3⟩
end
theorem rQ {w:World} {v:Value} {m:Int} (h:uM w v m):Calls Tryz.prog 48 #[v,.int .i64 m] w fun e w'=>e=.returned (.bool true)/\Fr (fun _=>False) w w' (fun _=>False):=by
 obtain⟨a,n,c,rfl,hn,hc⟩:=h
 have HC:=zZ hc
 clear hc
 go_enter Tryz.func48,Tryz.ntmps48
 go_wp2
 have hf1:Fr (fun _=>False) w (w.alloc (.cells #[.int .i64 0,.int .i64 m,.int .i64 0] 72)) (fun _=>False):=(Fr.refl _ _).alloc _
 have hb1:=heap_alloc_new w (.cells #[.int .i64 0,.int .i64 m,.int .i64 0] 72)
 generalize hW:w.alloc (.cells #[.int .i64 0,.int .i64 m,.int .i64 0] 72)=W at *
 clear hW
 have HF1:=zZ hf1
 have HB1:=zZ hb1
 clear hf1 hb1
 go_loopw [6] (fun i wr=>∃j:Nat,j<=n/\i=.int .i64 j/\Dr W wr) (fun i _=>n-(intOf i).toNat)
 case atStart=>exact⟨0,Nat.zero_le _,rfl,Dr.refl _⟩
 case round=>
  obtain⟨j,hj,rfl,hd⟩:=hrel
  by_cases hlt:j<n
  ·rcases zY HC with hz | ⟨q,off,rfl,hcq⟩
   ·omega
   obtain⟨g0,g1,g2⟩:=hcq j hlt
   have hq:=zU w _ g0
   have k0:=(hd.cell ⟨q,off+j*3,none⟩).trans (((zY HF1).cell q _ hq (fun h=>h)).trans g0)
   have k1:=(hd.cell ⟨q,off+j*3+1,none⟩).trans (((zY HF1).cell q _ hq (fun h=>h)).trans g1)
   have k2:=(hd.cell ⟨q,off+j*3+2,none⟩).trans (((zY HF1).cell q _ hq (fun h=>h)).trans g2)
   have c1:=fun i=>(hd.cell ⟨w.heap.size,i,none⟩).trans (cell_of_row W _ i _ 72 (0,0) (zY HB1))
   clear hcq HC g0 g1 g2
   have hk0:(0:Int)<=(j:Int):=by omega
   have hk1:(j:Int)<(n:Int):=by omega
   go_wp2
   go_quiet (fail)
   go_wp2
   go_roundw
   case rel=>exact⟨j+1,by omega,by go_num,hd.more _⟩
   case measure=>simp [intOf];omega
  ·have hk1:¬(j:Int)<(n:Int):=by omega
   go_wp2
   go_ret
   refine⟨rfl,?_⟩
   obtain⟨k,rfl⟩:=hd
   exact(zY HF1).drewN k
structure fY (w:World) (B bb:Nat) (n:Int) (vI vE vN:Value) (LI LE LN:List Ent):Prop where
 blk:w.heap[bb]?=some (.cells #[.int .i64 n,vI,vE,vN] 65)
 rI:w.ownsRow B 105 5 vI LI.length (uE LI)
 rE:w.ownsRow B 108 5 vE LE.length (uE LE)
 rN:w.ownsRow B 111 5 vN LN.length (uE LN)
 fI:∀e,e∈LI->uD w e.l e.m/\uD w e.a e.m/\uD w e.b e.m/\uD w e.c e.m
 fE:∀e,e∈LE->uM w e.l e.m/\uM w e.a e.m/\uM w e.b e.m/\uM w e.c e.m
 fN:∀e,e∈LN->uN w e.l e.m/\uN w e.a e.m/\uN w e.b e.m/\uN w e.c e.m
theorem fY.fr {w W:World} {B bb:Nat} {n:Int} {vI vE vN:Value} {LI LE LN:List Ent} (h:fY w B bb n vI vE vN LI LE LN) (hf:Fr (fun _=>False) w W (fun _=>False)):fY W B bb n vI vE vN LI LE LN:=by
 have er:∀{B e size n v xs},w.ownsRow B e size v n xs->W.ownsRow B e size v n xs:=fun hr=>yA hr (fun q hq=>hf.same q (zS hr q hq).2 (fun h=>h))
 exact⟨(hf.same _ (zN.1 h.blk).1 (fun h=>h)).trans h.blk,er h.rI,er h.rE,er h.rN,
  fun e he=>⟨(h.fI e he).1.fr hf,(h.fI e he).2.1.fr hf,(h.fI e he).2.2.1.fr hf,(h.fI e he).2.2.2.fr hf⟩,fun e he=>⟨(h.fE e he).1.fr hf,(h.fE e he).2.1.fr hf,(h.fE e he).2.2.1.fr hf,(h.fE e he).2.2.2.fr hf⟩,fun e he=>⟨(h.fN e he).1.fr hf,(h.fN e he).2.1.fr hf,(h.fN e he).2.2.1.fr hf,(h.fN e he).2.2.2.fr hf⟩⟩
theorem iR {w:World} {B e:Nat} {v:Value} {es:List Ent} (h:w.ownsRow B e 5 v es.length (uE es)) {i:Nat} (hi:i<es.length):∃g c,v=.slice (some ⟨g,0,none⟩) es.length c/\w.cell? ⟨g,i*5,none⟩=some (es[i]).l/\w.cell? ⟨g,i*5+1,none⟩=some (es[i]).a/\w.cell? ⟨g,i*5+2,none⟩=some (es[i]).b/\w.cell? ⟨g,i*5+3,none⟩=some (es[i]).c/\w.cell? ⟨g,i*5+4,none⟩=some (.int .i64 (es[i]).m):=by
 obtain⟨g,c,hv,_,_,hc⟩:=tU h (by omega)
 obtain⟨g0,g1,g2,g3,g4⟩:=bQ es i es[i] (List.getElem?_eq_getElem hi)
 exact⟨g,c,hv,hc _ _ g0,hc _ _ g1,hc _ _ g2,hc _ _ g3,hc _ _ g4⟩
theorem uD.shape {w:World} {v:Value} {m:Int} (h:uD w v m):∃a n c,v=.slice a n c:=by obtain⟨a,n,c,hv,_⟩:=h;exact⟨a,n,c,hv⟩
theorem uM.shape {w:World} {v:Value} {m:Int} (h:uM w v m):∃a n c,v=.slice a n c:=by obtain⟨a,n,c,hv,_⟩:=h;exact⟨a,n,c,hv⟩
theorem uN.shape {w:World} {v:Value} {m:Int} (h:uN w v m):∃a n c,v=.slice a n c:=by obtain⟨a,n,c,hv,_⟩:=h;exact⟨a,n,c,hv⟩
theorem zX4 {w:World} {B bb:Nat} {n:Int} {vI vE vN:Value} {LI LE LN:List Ent} (h:fY w B bb n vI vE vN LI LE LN) (hI:LI.length<=1000000000000) (hE:LE.length<=1000000000000) (hN:LN.length<=1000000000000) :
  Calls Tryz.prog 24 #[.pointer (some ⟨bb,0,none⟩)] w fun e w'=>e=.returned (.bool true)/\Fr (fun _=>False) w w' (fun _=>False):=by
 obtain⟨aI,cI,rfl⟩:=yM h.rI
 obtain⟨aE,cE,rfl⟩:=yM h.rE
 obtain⟨aN,cN,rfl⟩:=yM h.rN
 have HB:=zZ h
 clear h
 go_enter Tryz.func24,Tryz.ntmps24
 go_wp2
 go_loopw [3] (fun i wr=>∃j:Nat,j<=LI.length/\i=.int .i64 j/\Fr (fun _=>False) w wr (fun _=>False)) (fun i _=>LI.length-(intOf i).toNat)
 case atStart=>exact⟨0,Nat.zero_le _,rfl,Fr.refl _ _⟩
 case round=>
  obtain⟨j,hj,rfl,hfr⟩:=hrel
  have hb:=(zY HB).fr hfr
  have cb:=fun i=>cell_of_row wr _ i _ 65 (0,0) hb.blk
  by_cases hlt:j<LI.length
  ·obtain⟨g,cc,hv,k0,k1,k2,k3,k4⟩:=iR hb.rI hlt
   injection hv with hv1 hv2 hv3
   subst hv1
   obtain⟨f0,f1,f2,f3⟩:=hb.fI _ (List.getElem_mem hlt)
   generalize LI[j]=e at *
   obtain⟨el,ea,eb,ec,em⟩:=e
   simp only at k0 k1 k2 k3 k4 f0 f1 f2 f3
   obtain⟨a0,n0,c0,rfl⟩:=f0.shape
   obtain⟨a1,n1,c1,rfl⟩:=f1.shape
   obtain⟨a2,n2,c2,rfl⟩:=f2.shape
   obtain⟨a3,n3,c3,rfl⟩:=f3.shape
   have fa:Fr (fun _=>False) wr (wr.alloc (.cells #[.slice a0 n0 c0,.slice a1 n1 c1,.slice a2 n2 c2,.slice a3 n3 c3,.int .i64 em] 105)) (fun _=>False):=(Fr.refl _ _).alloc _
   have xb:=heap_alloc_new wr (.cells #[.slice a0 n0 c0,.slice a1 n1 c1,.slice a2 n2 c2,.slice a3 n3 c3,.int .i64 em] 105)
   have HF:=zZ (fun (W:World) (hW:Fr (fun _=>False) (wr.alloc (.cells #[.slice a0 n0 c0,.slice a1 n1 c1,.slice a2 n2 c2,.slice a3 n3 c3,.int .i64 em] 105)) W (fun _=>False))=>And.intro (f0.fr (fa.trans hW)) (And.intro (f1.fr (fa.trans hW)) (And.intro (f2.fr (fa.trans hW)) (f3.fr (fa.trans hW)))))
   have HX:=zZ (fun (W:World) (hW:Fr (fun _=>False) (wr.alloc (.cells #[.slice a0 n0 c0,.slice a1 n1 c1,.slice a2 n2 c2,.slice a3 n3 c3,.int .i64 em] 105)) W (fun _=>False)) (i:Nat)=>cell_of_row W _ i _ 105 (0,0) ((hW.same wr.heap.size (by simp) (fun h=>h)).trans xb))
   have H0:=zZ (fun (W:World) (hW:Fr (fun _=>False) (wr.alloc (.cells #[.slice a0 n0 c0,.slice a1 n1 c1,.slice a2 n2 c2,.slice a3 n3 c3,.int .i64 em] 105)) W (fun _=>False))=>(pA (zY HF W hW).1))
   have H1:=zZ (fun (W:World) (hW:Fr (fun _=>False) (wr.alloc (.cells #[.slice a0 n0 c0,.slice a1 n1 c1,.slice a2 n2 c2,.slice a3 n3 c3,.int .i64 em] 105)) W (fun _=>False))=>(pA (zY HF W hW).2.1))
   have H2:=zZ (fun (W:World) (hW:Fr (fun _=>False) (wr.alloc (.cells #[.slice a0 n0 c0,.slice a1 n1 c1,.slice a2 n2 c2,.slice a3 n3 c3,.int .i64 em] 105)) W (fun _=>False))=>(pA (zY HF W hW).2.2.1))
   have H3:=zZ (fun (W:World) (hW:Fr (fun _=>False) (wr.alloc (.cells #[.slice a0 n0 c0,.slice a1 n1 c1,.slice a2 n2 c2,.slice a3 n3 c3,.int .i64 em] 105)) W (fun _=>False))=>(pA (zY HF W hW).2.2.2))
   have FA:=zZ fa
   have FW:=zZ hfr
   have FC:=zZ (Fr.refl (fun _=>False) (wr.alloc (.cells #[.slice a0 n0 c0,.slice a1 n1 c1,.slice a2 n2 c2,.slice a3 n3 c3,.int .i64 em] 105)))
   have hk0:(0:Int)<=(j:Int):=by omega
   have hk1:(j:Int)<(LI.length:Int):=by omega
   have xc:=zY HX _ (zY FC)
   clear f0 f1 f2 f3 fa xb hb hfr hv2 hv3 HF
   go_wp2_with (go_at_call 47;(first | (refine(zY H0 _ (zY FC)).mono ?_;clear H0) | (refine(zY H1 _ (zY FC)).mono ?_;clear H1) | (refine(zY H2 _ (zY FC)).mono ?_;clear H2) | (refine(zY H3 _ (zY FC)).mono ?_;clear H3));rintro e w' ⟨rfl,hw'⟩;rw [hw'];clear hw' w')
   go_roundw
   case rel=>exact⟨j+1,by omega,by go_num,(zY FW).trans (zY FA)⟩
   case measure=>simp [intOf];omega
  ·have hk1:¬(j:Int)<(LI.length:Int):=by omega
   have FW3:=zZ hfr
   clear hb hfr
   go_wp2
   clear cb
   go_loopw [5] (fun i wr=>∃j:Nat,j<=LE.length/\i=.int .i64 j/\Fr (fun _=>False) w wr (fun _=>False)) (fun i _=>LE.length-(intOf i).toNat)
   case atStart=>exact⟨0,Nat.zero_le _,rfl,zY FW3⟩
   case round=>
    obtain⟨j,hj,rfl,hfr⟩:=hrel
    have hb:=(zY HB).fr hfr
    have cb:=fun i=>cell_of_row wr _ i _ 65 (0,0) hb.blk
    by_cases hlt:j<LE.length
    ·obtain⟨g,cc,hv,k0,k1,k2,k3,k4⟩:=iR hb.rE hlt
     injection hv with hv1 hv2 hv3
     subst hv1
     obtain⟨f0,f1,f2,f3⟩:=hb.fE _ (List.getElem_mem hlt)
     generalize LE[j]=e at *
     obtain⟨el,ea,eb,ec,em⟩:=e
     simp only at k0 k1 k2 k3 k4 f0 f1 f2 f3
     obtain⟨a0,n0,c0,rfl⟩:=f0.shape
     obtain⟨a1,n1,c1,rfl⟩:=f1.shape
     obtain⟨a2,n2,c2,rfl⟩:=f2.shape
     obtain⟨a3,n3,c3,rfl⟩:=f3.shape
     have fa:Fr (fun _=>False) wr (wr.alloc (.cells #[.slice a0 n0 c0,.slice a1 n1 c1,.slice a2 n2 c2,.slice a3 n3 c3,.int .i64 em] 108)) (fun _=>False):=(Fr.refl _ _).alloc _
     have xb:=heap_alloc_new wr (.cells #[.slice a0 n0 c0,.slice a1 n1 c1,.slice a2 n2 c2,.slice a3 n3 c3,.int .i64 em] 108)
     have HF:=zZ (fun (W:World) (hW:Fr (fun _=>False) (wr.alloc (.cells #[.slice a0 n0 c0,.slice a1 n1 c1,.slice a2 n2 c2,.slice a3 n3 c3,.int .i64 em] 108)) W (fun _=>False))=>And.intro (f0.fr (fa.trans hW)) (And.intro (f1.fr (fa.trans hW)) (And.intro (f2.fr (fa.trans hW)) (f3.fr (fa.trans hW)))))
     have HX:=zZ (fun (W:World) (hW:Fr (fun _=>False) (wr.alloc (.cells #[.slice a0 n0 c0,.slice a1 n1 c1,.slice a2 n2 c2,.slice a3 n3 c3,.int .i64 em] 108)) W (fun _=>False)) (i:Nat)=>cell_of_row W _ i _ 108 (0,0) ((hW.same wr.heap.size (by simp) (fun h=>h)).trans xb))
     have H0:=zZ (fun (W:World) (hW:Fr (fun _=>False) (wr.alloc (.cells #[.slice a0 n0 c0,.slice a1 n1 c1,.slice a2 n2 c2,.slice a3 n3 c3,.int .i64 em] 108)) W (fun _=>False))=>(rQ (zY HF W hW).1))
     have H1:=zZ (fun (W:World) (hW:Fr (fun _=>False) (wr.alloc (.cells #[.slice a0 n0 c0,.slice a1 n1 c1,.slice a2 n2 c2,.slice a3 n3 c3,.int .i64 em] 108)) W (fun _=>False))=>(rQ (zY HF W hW).2.1))
     have H2:=zZ (fun (W:World) (hW:Fr (fun _=>False) (wr.alloc (.cells #[.slice a0 n0 c0,.slice a1 n1 c1,.slice a2 n2 c2,.slice a3 n3 c3,.int .i64 em] 108)) W (fun _=>False))=>(rQ (zY HF W hW).2.2.1))
     have H3:=zZ (fun (W:World) (hW:Fr (fun _=>False) (wr.alloc (.cells #[.slice a0 n0 c0,.slice a1 n1 c1,.slice a2 n2 c2,.slice a3 n3 c3,.int .i64 em] 108)) W (fun _=>False))=>(rQ (zY HF W hW).2.2.2))
     have FA:=zZ fa
     have FW:=zZ hfr
     have FC:=zZ (Fr.refl (fun _=>False) (wr.alloc (.cells #[.slice a0 n0 c0,.slice a1 n1 c1,.slice a2 n2 c2,.slice a3 n3 c3,.int .i64 em] 108)))
     have hk0:(0:Int)<=(j:Int):=by omega
     have hk1:(j:Int)<(LE.length:Int):=by omega
     have xc:=zY HX _ (zY FC)
     clear f0 f1 f2 f3 fa xb hb hfr hv2 hv3 HF
     go_wp2_with (go_at_call 48;(first | (refine(zY H0 _ (zY FC)).mono ?_;clear H0) | (refine(zY H1 _ (zY FC)).mono ?_;clear H1) | (refine(zY H2 _ (zY FC)).mono ?_;clear H2) | (refine(zY H3 _ (zY FC)).mono ?_;clear H3));rintro e w' ⟨rfl,f'⟩;have FC:=zZ ((zY FC).trans f');have xc:=zY HX _ (zY FC);clear f')
     go_roundw
     case rel=>exact⟨j+1,by omega,by go_num,((zY FW).trans (zY FA)).trans (zY FC)⟩
     case measure=>simp [intOf];omega
    ·have hk1:¬(j:Int)<(LE.length:Int):=by omega
     have FW5:=zZ hfr
     clear hb hfr
     go_wp2
     clear cb
     go_loopw [7] (fun i wr=>∃j:Nat,j<=LN.length/\i=.int .i64 j/\Fr (fun _=>False) w wr (fun _=>False)) (fun i _=>LN.length-(intOf i).toNat)
     case atStart=>exact⟨0,Nat.zero_le _,rfl,zY FW5⟩
     case round=>
      obtain⟨j,hj,rfl,hfr⟩:=hrel
      have hb:=(zY HB).fr hfr
      have cb:=fun i=>cell_of_row wr _ i _ 65 (0,0) hb.blk
      by_cases hlt:j<LN.length
      ·obtain⟨g,cc,hv,k0,k1,k2,k3,k4⟩:=iR hb.rN hlt
       injection hv with hv1 hv2 hv3
       subst hv1
       obtain⟨f0,f1,f2,f3⟩:=hb.fN _ (List.getElem_mem hlt)
       generalize LN[j]=e at *
       obtain⟨el,ea,eb,ec,em⟩:=e
       simp only at k0 k1 k2 k3 k4 f0 f1 f2 f3
       obtain⟨a0,n0,c0,rfl⟩:=f0.shape
       obtain⟨a1,n1,c1,rfl⟩:=f1.shape
       obtain⟨a2,n2,c2,rfl⟩:=f2.shape
       obtain⟨a3,n3,c3,rfl⟩:=f3.shape
       have fa:Fr (fun _=>False) wr (wr.alloc (.cells #[.slice a0 n0 c0,.slice a1 n1 c1,.slice a2 n2 c2,.slice a3 n3 c3,.int .i64 em] 111)) (fun _=>False):=(Fr.refl _ _).alloc _
       have xb:=heap_alloc_new wr (.cells #[.slice a0 n0 c0,.slice a1 n1 c1,.slice a2 n2 c2,.slice a3 n3 c3,.int .i64 em] 111)
       have HF:=zZ (fun (W:World) (hW:Fr (fun _=>False) (wr.alloc (.cells #[.slice a0 n0 c0,.slice a1 n1 c1,.slice a2 n2 c2,.slice a3 n3 c3,.int .i64 em] 111)) W (fun _=>False))=>And.intro (f0.fr (fa.trans hW)) (And.intro (f1.fr (fa.trans hW)) (And.intro (f2.fr (fa.trans hW)) (f3.fr (fa.trans hW)))))
       have HX:=zZ (fun (W:World) (hW:Fr (fun _=>False) (wr.alloc (.cells #[.slice a0 n0 c0,.slice a1 n1 c1,.slice a2 n2 c2,.slice a3 n3 c3,.int .i64 em] 111)) W (fun _=>False)) (i:Nat)=>cell_of_row W _ i _ 111 (0,0) ((hW.same wr.heap.size (by simp) (fun h=>h)).trans xb))
       have H0:=zZ (fun (W:World) (hW:Fr (fun _=>False) (wr.alloc (.cells #[.slice a0 n0 c0,.slice a1 n1 c1,.slice a2 n2 c2,.slice a3 n3 c3,.int .i64 em] 111)) W (fun _=>False))=>(rR (zY HF W hW).1))
       have H1:=zZ (fun (W:World) (hW:Fr (fun _=>False) (wr.alloc (.cells #[.slice a0 n0 c0,.slice a1 n1 c1,.slice a2 n2 c2,.slice a3 n3 c3,.int .i64 em] 111)) W (fun _=>False))=>(rR (zY HF W hW).2.1))
       have H2:=zZ (fun (W:World) (hW:Fr (fun _=>False) (wr.alloc (.cells #[.slice a0 n0 c0,.slice a1 n1 c1,.slice a2 n2 c2,.slice a3 n3 c3,.int .i64 em] 111)) W (fun _=>False))=>(rR (zY HF W hW).2.2.1))
       have H3:=zZ (fun (W:World) (hW:Fr (fun _=>False) (wr.alloc (.cells #[.slice a0 n0 c0,.slice a1 n1 c1,.slice a2 n2 c2,.slice a3 n3 c3,.int .i64 em] 111)) W (fun _=>False))=>(rR (zY HF W hW).2.2.2))
       have FA:=zZ fa
       have FW:=zZ hfr
       have FC:=zZ (Fr.refl (fun _=>False) (wr.alloc (.cells #[.slice a0 n0 c0,.slice a1 n1 c1,.slice a2 n2 c2,.slice a3 n3 c3,.int .i64 em] 111)))
       have hk0:(0:Int)<=(j:Int):=by omega
       have hk1:(j:Int)<(LN.length:Int):=by omega
       have xc:=zY HX _ (zY FC)
       clear f0 f1 f2 f3 fa xb hb hfr hv2 hv3 HF
       go_wp2_with (go_at_call 49;(first | (refine(zY H0 _ (zY FC)).mono ?_;clear H0) | (refine(zY H1 _ (zY FC)).mono ?_;clear H1) | (refine(zY H2 _ (zY FC)).mono ?_;clear H2) | (refine(zY H3 _ (zY FC)).mono ?_;clear H3));rintro e w' ⟨rfl,hw'⟩;rw [hw'];clear hw' w')
       go_roundw
       case rel=>exact⟨j+1,by omega,by go_num,(zY FW).trans (zY FA)⟩
       case measure=>simp [intOf];omega
      ·have hk1:¬(j:Int)<(LN.length:Int):=by omega
       have FW7:=zZ hfr
       clear hb hfr
       go_wp2
       go_ret
       exact⟨rfl,zY FW7⟩
end Go.Proofs.YtfmbebofllgmoaaGreatDoor
namespace Go.Proofs.YtfmbebofllgmoaaGreatDoor
open Go.RowKit
def yK (v:Value) (K:Nat->Prop):Prop:=∀q off n c,v=.slice (some ⟨q,off,none⟩) n c->0<n->K q
theorem yK.mono {v:Value} {K K':Nat->Prop} (h:yK v K) (hk:∀q,K q->K' q):yK v K':=fun q off n c hv hn=>hk q (h q off n c hv hn)
section
variable {w W:World} {v:Value} {m:Int} {K:Nat->Prop}
theorem uD.keep (h:uD w v m) (hl:yK v K) (hk:∀q,K q->W.heap[q]?=w.heap[q]?):uD W v m:=by
 obtain⟨a,n,c,rfl,hn,hc⟩:=h
 refine⟨a,n,c,rfl,hn,?_⟩
 rcases Nat.eq_zero_or_pos n with h0 | h0
 ·exact .inl h0
 rcases hc with h1 | ⟨q,off,rfl,hcell⟩
 ·omega
 have hq:=hk q (hl q off n c rfl h0)
 exact .inr ⟨q,off,rfl,fun i hi=>by rw [yW hq];exact hcell i hi⟩
theorem uM.keep (h:uM w v m) (hl:yK v K) (hk:∀q,K q->W.heap[q]?=w.heap[q]?):uM W v m:=by
 obtain⟨a,n,c,rfl,hn,hc⟩:=h
 refine⟨a,n,c,rfl,hn,?_⟩
 rcases Nat.eq_zero_or_pos n with h0 | h0
 ·exact .inl h0
 rcases hc with h1 | ⟨q,off,rfl,hcell⟩
 ·omega
 have hq:=hk q (hl q off n c rfl h0)
 exact .inr ⟨q,off,rfl,fun i hi=>by rw [yW hq,yW hq,yW hq];exact hcell i hi⟩
theorem uN.keep (h:uN w v m) (hl:yK v K) (hk:∀q,K q->W.heap[q]?=w.heap[q]?):uN W v m:=by
 obtain⟨a,n,c,rfl,hn,hc⟩:=h
 refine⟨a,n,c,rfl,hn,?_⟩
 rcases Nat.eq_zero_or_pos n with h0 | h0
 ·exact .inl h0
 rcases hc with h1 | ⟨q,off,rfl,hcell⟩
 ·omega
 have hq:=hk q (hl q off n c rfl h0)
 exact .inr ⟨q,off,rfl,fun i hi=>by rw [yW hq,yW hq,yW hq,yW hq];exact hcell i hi⟩
theorem yR.full {B:Nat} {l:List Int} (h:yR w B v l) (hl:l.length<=1000000000) (hm:∀z,z∈l->z=m):uD w v m:=by
 obtain⟨a,c,hv,hc⟩:=pI h
 refine⟨a,l.length,c,hv,hl,?_⟩
 rcases hc with h0 | ⟨q,off,ha,_,hcell⟩
 ·exact .inl (by rw [h0];rfl)
 ·refine .inr ⟨q,off,ha,fun i hi=>?_⟩
  rw [hcell i hi]
  have:l.getD i 0=m:=by
   rw [List.getD_eq_getElem?_getD,List.getElem?_eq_getElem hi]
   exact hm _ (List.getElem_mem hi)
  rw [this]
theorem vV:yK v (own v):=fun q off n' c hv _=>by
 rw [hv];rfl
end
structure vK (w:World) (B bb:Nat) (n:Int) (vI vE vN:Value) (LI LE LN:List Ent) (K:Nat->Prop):Prop where
 bk:fY w B bb n vI vE vN LI LE LN
 lI:∀e,e∈LI->yK e.l K/\yK e.a K/\yK e.b K/\yK e.c K
 lE:∀e,e∈LE->yK e.l K/\yK e.a K/\yK e.b K/\yK e.c K
 lN:∀e,e∈LN->yK e.l K/\yK e.a K/\yK e.b K/\yK e.c K
 apart:∀q,K q->q<w.heap.size/\q≠bb/\¬own vI q/\¬own vE q/\¬own vN q
theorem vK.fr {w W:World} {B bb:Nat} {n:Int} {vI vE vN:Value} {LI LE LN:List Ent} {K:Nat->Prop} (h:vK w B bb n vI vE vN LI LE LN K) (hf:Fr (fun _=>False) w W (fun _=>False)):vK W B bb n vI vE vN LI LE LN K:=
 ⟨h.bk.fr hf,h.lI,h.lE,h.lN,fun q hq=>⟨zT (h.apart q hq).1 hf.size,(h.apart q hq).2⟩⟩
theorem uS {ops:Array Oper} {rest:List Oper} {o:Oper} {a:Act} {Q:Exit->Act->World->Prop} {w:World} {B t e size bytes:Nat} (E:mU t e size bytes) (hs0:0<size) (hs1:bytes<=200) {v:Value} {n m:Nat} {xs news:List Value} (hgd:o.guard=none) (sv xv:Operand)
  (ho:o.op=.call {callee:=.builtin .append,args:=#[sv,xv],argTypes:=#[t,t]}) {ad:Addr} {cap:Nat} (hs:a.eval sv=v) (hx:a.eval xv=.slice (some ad) m cap) (hrow:w.ownsRow B e size v n xs) (hl:news.length=m*size)
  (hc:∀j u,news[j]?=some u->w.cell? (ad.add j)=some u) (h1:∀u∈news,u.oneCell'=true) (hm:0<m) (hn:n+m<=100000000000) (hB:B<=w.heap.size)
  (h:∀v' w',(∃a c,v'=.slice a (n+m) c)->w'.ownsRow B e size v' (n+m) (xs++news)->
   ((∃g cp,v=.slice (some ⟨g,0,none⟩) n cp/\v'=.slice (some ⟨g,0,none⟩) (n+m) cp/\n+m<=cp/\w.grownBy w' (some g))\/(w.grownBy w' none/\∀q,own v' q->w.heap.size<=q))->wpList Tryz.prog ops Q rest (a.put o.dst v') w'):wpList Tryz.prog ops Q (o::rest) a w:=by
 obtain⟨i,z,hi,hz,hsz,hby,hzc⟩:=E.i
 have hmx:n+m<=maxLen:=by simp only [maxLen];omega
 have hbb:(n+m)*bytes<=140737488355328:=Nat.le_trans (Nat.mul_le_mul hn hs1) (by omega)
 have hlen:xs.length=n*size:=hrow.1
 have fresh:∀v' w',w'.ownsRow w.heap.size e size v' (n+m) (xs++news)->w.grownBy w' none->wpList Tryz.prog ops Q rest (a.put o.dst v') w':=fun v' w' r1 r2=>
  h v' w' (yM r1) (tL r1 hB) (.inr ⟨r2,fun q hq=>(zS r1 q hq).1⟩)
 rcases hrow.2 with ⟨hv,h0⟩ | ⟨g,cp,cur,hv,hBg,hg,hcp,hcm,hcs,htk⟩
 ·subst h0
  have hx0:xs=[]:=List.eq_nil_of_length_eq_zero (by rw [hlen];simp)
  refine wpList_append_grows (P:=Tryz.prog) w hgd sv xv t ho e i z size bytes E.u hi hz hsz hby hzc hs0 none 0 0 xs (by rw [hs,hv]) (fun _=>⟨rfl,rfl⟩) (by rw [hx0];simp) (fun b hb=>by cases hb) ad m cap news hx hl hc h1 (by omega) hmx hbb fresh
 ·by_cases hr:n+m<=cp
  ·refine wpList_append_own_spare (P:=Tryz.prog) w hgd sv xv t ho B e i size E.u hi hsz g n cp xs (by rw [hs,hv]) (hv▸hrow) ad m cap news hx hl hc h1 hr ?_
   intro w' r1 r2
   exact h _ w' ⟨_,_,rfl⟩ r1 (.inl ⟨g,cp,hv,rfl,hr,r2⟩)
  ·refine wpList_append_grows (P:=Tryz.prog) w hgd sv xv t ho e i z size bytes E.u hi hz hsz hby hzc hs0 (some ⟨g,0,none⟩) n cp xs (by rw [hs,hv]) (fun h=>by cases h) hlen (fun b hb j u hj=>?_) ad m cap news hx hl hc h1 (by omega) hmx hbb fresh
   cases hb
   obtain⟨g2,c2,hv2,_,_,hcell⟩:=tU hrow (by
    have:=(List.getElem?_eq_some_iff.1 hj).1
    rw [hlen] at this
    rcases Nat.eq_zero_or_pos n with h0 | h0
    ·rw [h0] at this;simp at this
    ·exact h0)
   rw [hv] at hv2
   cases hv2
   have hh:=hcell j u hj
   rw [show Addr.add ⟨g,0,none⟩ j=⟨g,j,none⟩ by rw [sA,Nat.zero_add]]
   exact hh
def pL (w:World) (lv:Value) (n:Nat) (u:Value) (k:Nat) (m:Int):Prop:=
 uD w u m/\((∃g cp,lv=.slice (some ⟨g,0,none⟩) n cp/\u=.slice (some ⟨g,0,none⟩) (n+k) cp)\/(∀q,own u q->¬own lv q/\∃cur,w.heap[q]?=some (.cells cur 3 (0,0))))
theorem pL.step {w w':World} {B:Nat} {lv u v':Value} {n k j:Nat} {m:Int} {l:List Int} (h:pL w lv n u k m) (hk:k<=j) (hn:n+j<=1000000000) (hr:w'.ownsRow B 3 1 v' (n+j) (l.map fun z=>Value.int .i64 z)) (hm:∀z,z∈l->z=m)
  (hd:(∃g cp,lv=.slice (some ⟨g,0,none⟩) n cp/\v'=.slice (some ⟨g,0,none⟩) (n+j) cp/\n+j<=cp/\w.grownBy w' (some g))\/(w.grownBy w' none/\∀q,own v' q->w.heap.size<=q)):pL w' lv n u k m:=by
 obtain⟨hf,hp⟩:=h
 rcases hd with ⟨g,cp,hlv,hv',hroom,hg⟩ | ⟨hg,_⟩
 ·rcases hp with ⟨g2,cp2,hlv2,hu⟩ | hp
  ·rw [hlv] at hlv2
   cases hlv2
   refine⟨?_,.inl ⟨g,cp,hlv,hu⟩⟩
   subst hv'
   have hll:l.length=n+j:=by have:=hr.1;simpa using this
   obtain⟨hcell⟩ : Nonempty (∀i,i<n+j->w'.cell? ⟨g,i,none⟩=some (.int .i64 m)):=⟨fun i hi=>by
    obtain⟨g3,c3,hv3,_,_,hc3⟩:=tU hr (by omega)
    cases hv3
    have hi':i<l.length:=by omega
    refine hc3 i _ ?_
    rw [List.getElem?_map,List.getElem?_eq_getElem hi']
    simp only [Option.map_some]
    rw [hm _ (List.getElem_mem hi')]⟩
   exact⟨some ⟨g,0,none⟩,n+k,cp,hu,by omega,.inr ⟨g,0,rfl,fun i hi=>by rw [Nat.zero_add];exact hcell i (by omega)⟩⟩
  ·have hk':∀q,own u q->w'.heap[q]?=w.heap[q]?:=fun q hq=>hg.block q (by obtain⟨cur,hcur⟩:=(hp q hq).2;exact(zN.1 hcur).1) (fun e=>(hp q hq).1 (by rw [hlv];simp only [own,Value.ownBlock];exact e.symm))
   exact⟨hf.keep vV hk',.inr (fun q hq=>⟨(hp q hq).1,by obtain⟨cur,hcur⟩:=(hp q hq).2;exact⟨cur,(hk' q hq).trans hcur⟩⟩)⟩
 ·have hall:∀q,q<w.heap.size->w'.heap[q]?=w.heap[q]?:=fun q hq=>hg.block q hq (by simp)
  refine⟨?_,hp.imp id (fun hp q hq=>⟨(hp q hq).1,by obtain⟨cur,hcur⟩:=(hp q hq).2;exact⟨cur,(hall q (zN.1 hcur).1).trans hcur⟩⟩)⟩
  obtain⟨a,nn,c,hv,hnn,hc⟩:=hf
  exact⟨a,nn,c,hv,hnn,hc.imp id fun ⟨q,off,e,hcell⟩=>⟨q,off,e,fun i hi=>by rw [yW (hall q (zU w _ (hcell i hi)))];exact hcell i hi⟩⟩
theorem pL.store {w:World} {lv u v:Value} {n k X j:Nat} {m:Int} {cX:Array Value} {e:Nat} (h:pL w lv n u k m) (hX:w.heap[X]?=some (.cells cX e (0,0))) (he:e≠3) (hlv:¬own lv X):pL (w.setCell ⟨X,j,none⟩ v) lv n u k m:=by
 obtain⟨hf,hp⟩:=h
 have hk:∀q,q≠X->(w.setCell ⟨X,j,none⟩ v).heap[q]?=w.heap[q]?:=fun q hq=>zQ _ _ _ _ hq
 rcases hp with ⟨g,cp,hl,hu⟩ | hp
 ·refine⟨hf.keep (K:=fun q=>q=g) (fun q off n' c hv _=>by rw [hu] at hv;cases hv;rfl) (fun q hq=>hk q (fun e=>hlv (by rw [hl,<-e,hq];rfl))),.inl ⟨g,cp,hl,hu⟩⟩
 ·have hne:∀q,own u q->q≠X:=fun q hq e'=>by
   obtain⟨cur,hcur⟩:=(hp q hq).2
   rw [e',hX] at hcur
   injection hcur with hcur
   injection hcur with _ hcur
   exact he hcur
  exact⟨hf.keep vV (fun q hq=>hk q (hne q hq)),.inr (fun q hq=>⟨(hp q hq).1,by obtain⟨cur,hcur⟩:=(hp q hq).2;exact⟨cur,(hk q (hne q hq)).trans hcur⟩⟩)⟩
theorem dG {U wa:World} {B X:Nat} {lv va:Value} {n j k:Nat} {m:Int} {rep:List Int} {cX:Array Value} (hrep:rep.length=n) (hm:∀z,z∈rep->z=m) (hn:n+j<=1000000000) (ho:yR U B lv rep) (hX:U.heap[X]?=some (.cells cX 105 (0,0)))
  (ra:wa.ownsRow B 3 1 va (n+j) ((rep++List.replicate j m).map fun z=>Value.int .i64 z))
  (hd:(∃g cp,lv=.slice (some ⟨g,0,none⟩) n cp/\va=.slice (some ⟨g,0,none⟩) (n+j) cp/\n+j<=cp/\U.grownBy wa (some g))\/(U.grownBy wa none/\∀q,own va q->U.heap.size<=q)) :
  yR (wa.setCell ⟨X,k,none⟩ va) B lv rep/\(wa.setCell ⟨X,k,none⟩ va).heap[X]?=some (.cells (cX.setIfInBounds k va) 105 (0,0))/\pL (wa.setCell ⟨X,k,none⟩ va) lv n va j m/\(∀u i,i<=j->pL U lv n u i m->pL (wa.setCell ⟨X,k,none⟩ va) lv n u i m)/\
   Fr (fun q=>own lv q\/q=X) U (wa.setCell ⟨X,k,none⟩ va) (fun q=>own lv q\/q=X)/\(∀q,own va q->own lv q\/U.heap.size<=q):=by
 have hXl:¬own lv X:=fun hq=>by
  obtain⟨c,hc⟩:=tF ho hq
  rw [hX] at hc
  injection hc with hc
  injection hc with _ hc
  exact absurd hc (by decide)
 have old:∀q,q<U.heap.size->¬own lv q->wa.heap[q]?=U.heap[q]?:=fun q hq hn=>by
  rcases hd with ⟨g,cp,hl,_,_,hg⟩ | ⟨hg,_⟩
  ·exact hg.block q hq (fun e=>hn (by rw [hl];simp only [own,Value.ownBlock];exact e.symm))
  ·exact hg.block q hq (by simp)
 have hXlt:=(zN.1 hX).1
 have hXa:wa.heap[X]?=some (.cells cX 105 (0,0)):=(old X hXlt hXl).trans hX
 have hsz:U.heap.size<=wa.heap.size:=by rcases hd with ⟨_,_,_,_,_,hg⟩ | ⟨hg,_⟩<;>exact hg.size
 have hmm:∀z,z∈rep++List.replicate j m->z=m:=fun z hz=>by
  rcases List.mem_append.1 hz with h | h
  ·exact hm z h
  ·exact List.eq_of_mem_replicate h
 have hol:yR wa B lv rep:=by
  rcases hd with ⟨g,cp,hl,hv,hr,hg⟩ | ⟨hg,_⟩
  ·subst hl hv
   rw [List.map_append] at ra
   have:=cA ra (by rw [List.length_map,hrep];omega)
   unfold yR
   rw [hrep]
   exact this
  ·exact yA ho (fun q hq=>hg.block q (zS ho q hq).2 (by simp))
 have hmade:pL wa lv n va j m:=by
  have hfull:uD wa va m:=yR.full (l:=rep++List.replicate j m) (by unfold yR;rw [List.length_append,List.length_replicate,hrep];exact ra) (by rw [List.length_append,List.length_replicate,hrep];exact hn) hmm
  refine⟨hfull,?_⟩
  rcases hd with ⟨g,cp,hl,hv,_,_⟩ | ⟨_,hf⟩
  ·exact .inl ⟨g,cp,hl,hv⟩
  ·exact .inr (fun q hq=>⟨fun h=>by have h1:=hf q hq;have h2:=(zS ho q h).2;omega,tF ra hq⟩)
 refine⟨yA hol (fun q hq=>zQ _ _ _ _ (fun e=>hXl (by have e':q=X:=e;rw [<-e'];exact hq))),yD wa X k cX 105 va hXa,hmade.store hXa (by decide) hXl,fun u i hi hu=>(hu.step hi hn ra hmm hd).store hXa (by decide) hXl,?_⟩
 have h3:wa.os=U.os/\wa.tape=U.tape/\wa.output=U.output:=by rcases hd with ⟨_,_,_,_,_,hg⟩ | ⟨hg,_⟩<;>exact⟨hg.os,hg.tape,hg.output⟩
 refine⟨⟨h3.1,h3.2.1,h3.2.2,by simpa [World.setCell] using hsz,fun q hq hn=>(zQ _ _ _ _ (fun e=>hn (.inr e))).trans (old q hq (fun h=>hn (.inl h))),fun _ _ h=>h⟩,fun q hq=>?_⟩
 rcases hd with ⟨g,cp,hl,hv,_,_⟩ | ⟨_,hf⟩
 ·left;rw [hl];rw [hv] at hq;exact hq
 ·exact .inr (hf q hq)
theorem Fr.widen {S S' T:Nat->Prop} {w w':World} (h:Fr S w w' S') (hs:∀q,S q->T q):Fr T w w' T:=
 ⟨h.os,h.tape,h.output,h.size,fun k hk hn=>h.same k hk (fun e=>hn (hs k e)),fun _ _ h=>h⟩
theorem qU {w:World} {q:Nat} {a b:Array Value} {s t:Nat} (h1:w.heap[q]?=some (.cells a s (0,0))) (h2:w.heap[q]?=some (.cells b t (0,0))):s=t:=by
 rw [h1] at h2
 injection h2 with h2
 injection h2
theorem yP {w:World} {B e size n q t:Nat} {v:Value} {xs:List Value} {c:Array Value} (h:w.ownsRow B e size v n xs) (hq:w.heap[q]?=some (.cells c t (0,0))) (ht:t≠e):¬own v q:=fun ho=>by
 obtain⟨cur,hc⟩:=tF h ho
 exact ht (qU hq hc)
section
variable {w W:World} {B bb:Nat} {n n':Int} {vI vE vN v':Value} {LI LE LN:List Ent} {K K2 T:Nat->Prop} {e:Ent}
theorem vK.mid (h:vK w B bb n vI vE vN LI LE LN K) (hf:Fr T w W T) (hT:∀q,q<w.heap.size->T q->q=bb\/(¬K q/\¬own vI q/\¬own vE q/\¬own vN q)) (hbb:W.heap[bb]?=some (.cells #[.int .i64 n',vI,vE,vN] 65)):vK W B bb n' vI vE vN LI LE LN K:=by
 have rI:∀q,own vI q->W.heap[q]?=w.heap[q]?:=fun q hq=>hf.same q (zS h.bk.rI q hq).2 (fun ht=>by
  rcases hT q (zS h.bk.rI q hq).2 ht with rfl | hh
  ·exact yP h.bk.rI h.bk.blk (by decide) hq
  ·exact hh.2.1 hq)
 have rE:∀q,own vE q->W.heap[q]?=w.heap[q]?:=fun q hq=>hf.same q (zS h.bk.rE q hq).2 (fun ht=>by
  rcases hT q (zS h.bk.rE q hq).2 ht with rfl | hh
  ·exact yP h.bk.rE h.bk.blk (by decide) hq
  ·exact hh.2.2.1 hq)
 have rN:∀q,own vN q->W.heap[q]?=w.heap[q]?:=fun q hq=>hf.same q (zS h.bk.rN q hq).2 (fun ht=>by
  rcases hT q (zS h.bk.rN q hq).2 ht with rfl | hh
  ·exact yP h.bk.rN h.bk.blk (by decide) hq
  ·exact hh.2.2.2 hq)
 have hk:∀q,K q->W.heap[q]?=w.heap[q]?:=fun q hq=>hf.same q (h.apart q hq).1 (fun ht=>by
  rcases hT q (h.apart q hq).1 ht with e | hh
  ·exact(h.apart q hq).2.1 e
  ·exact hh.1 hq)
 refine⟨⟨hbb,yA h.bk.rI rI,yA h.bk.rE rE,yA h.bk.rN rN,fun e he=>?_,fun e he=>?_,fun e he=>?_⟩,h.lI,h.lE,h.lN,fun q hq=>⟨zT (h.apart q hq).1 hf.size,(h.apart q hq).2⟩⟩
 ·obtain⟨f1,f2,f3,f4⟩:=h.bk.fI e he
  obtain⟨l1,l2,l3,l4⟩:=h.lI e he
  exact⟨f1.keep l1 hk,f2.keep l2 hk,f3.keep l3 hk,f4.keep l4 hk⟩
 ·obtain⟨f1,f2,f3,f4⟩:=h.bk.fE e he
  obtain⟨l1,l2,l3,l4⟩:=h.lE e he
  exact⟨f1.keep l1 hk,f2.keep l2 hk,f3.keep l3 hk,f4.keep l4 hk⟩
 ·obtain⟨f1,f2,f3,f4⟩:=h.bk.fN e he
  obtain⟨l1,l2,l3,l4⟩:=h.lN e he
  exact⟨f1.keep l1 hk,f2.keep l2 hk,f3.keep l3 hk,f4.keep l4 hk⟩
theorem vK.addI (h:vK w B bb n vI vE vN LI LE LN K) (hfull:uD w e.l e.m/\uD w e.a e.m/\uD w e.b e.m/\uD w e.c e.m) (hl:yK e.l K2/\yK e.a K2/\yK e.b K2/\yK e.c K2) (hk2:∀q,K2 q->∃cur,w.heap[q]?=some (.cells cur 3 (0,0)))
  (hr:W.ownsRow B 105 5 v' (LI.length+1) (uE LI++[e.l,e.a,e.b,e.c,.int .i64 e.m])) (hf:Fr (own vI) w W (own v')):vK (W.setCell ⟨bb,1,none⟩ v') B bb n v' vE vN (LI++[e]) LE LN (fun q=>K q\/K2 q):=by
 have hbl:=(zN.1 h.bk.blk).1
 have hbn:¬own vI bb:=yP h.bk.rI h.bk.blk (by decide)
 have hbW:W.heap[bb]?=some (.cells #[.int .i64 n,vI,vE,vN] 65):=(hf.same bb hbl hbn).trans h.bk.blk
 have hsz:(W.setCell ⟨bb,1,none⟩ v').heap.size=W.heap.size:=by simp [World.setCell]
 have kq:∀q,q≠bb->(W.setCell ⟨bb,1,none⟩ v').heap[q]?=W.heap[q]?:=fun q hq=>zQ _ _ _ _ hq
 have keepq:∀q,q<w.heap.size->¬own vI q->q≠bb->(W.setCell ⟨bb,1,none⟩ v').heap[q]?=w.heap[q]?:=fun q h1 h2 h3=>(kq q h3).trans (hf.same q h1 h2)
 have rE:∀q,own vE q->(W.setCell ⟨bb,1,none⟩ v').heap[q]?=w.heap[q]?:=fun q hq=>by
  obtain⟨cur,hc⟩:=tF h.bk.rE hq
  exact keepq q (zS h.bk.rE q hq).2 (yP h.bk.rI hc (by decide)) (fun e=>yP h.bk.rE h.bk.blk (by decide) (e▸hq))
 have rN:∀q,own vN q->(W.setCell ⟨bb,1,none⟩ v').heap[q]?=w.heap[q]?:=fun q hq=>by
  obtain⟨cur,hc⟩:=tF h.bk.rN hq
  exact keepq q (zS h.bk.rN q hq).2 (yP h.bk.rI hc (by decide)) (fun e=>yP h.bk.rN h.bk.blk (by decide) (e▸hq))
 have hrow:(W.setCell ⟨bb,1,none⟩ v').ownsRow B 105 5 v' (LI++[e]).length (uE (LI++[e])):=by
  rw [mE,List.length_append]
  exact yA hr (fun q hq=>kq q (fun e=>yP hr hbW (by decide) (e▸hq)))
 have hk:∀q,K q->(W.setCell ⟨bb,1,none⟩ v').heap[q]?=w.heap[q]?:=fun q hq=>keepq q (h.apart q hq).1 (h.apart q hq).2.2.1 (h.apart q hq).2.1
 have a2:∀q,K2 q->q<w.heap.size/\q≠bb/\¬own vI q/\¬own vE q/\¬own vN q:=fun q hq=>by
  obtain⟨cur,hc⟩:=hk2 q hq
  exact⟨(zN.1 hc).1,fun e=>absurd (qU (e▸hc) h.bk.blk) (by decide),yP h.bk.rI hc (by decide),yP h.bk.rE hc (by decide),yP h.bk.rN hc (by decide)⟩
 have hk2':∀q,K2 q->(W.setCell ⟨bb,1,none⟩ v').heap[q]?=w.heap[q]?:=fun q hq=>keepq q (a2 q hq).1 (a2 q hq).2.2.1 (a2 q hq).2.1
 have hset:=yD W bb 1 _ 65 v' hbW
 have fold:∀{P:World->Value->Int->Prop} {L:List Ent},(∀v m,P w v m->yK v K->P (W.setCell ⟨bb,1,none⟩ v') v m)->(∀e,e∈L->P w e.l e.m/\P w e.a e.m/\P w e.b e.m/\P w e.c e.m)->(∀e,e∈L->yK e.l K/\yK e.a K/\yK e.b K/\yK e.c K)->∀e,e∈L->P (W.setCell ⟨bb,1,none⟩ v') e.l e.m/\P (W.setCell ⟨bb,1,none⟩ v') e.a e.m/\P (W.setCell ⟨bb,1,none⟩ v') e.b e.m/\P (W.setCell ⟨bb,1,none⟩ v') e.c e.m:=fun hp hf hl e he=>
  ⟨hp _ _ (hf e he).1 (hl e he).1,hp _ _ (hf e he).2.1 (hl e he).2.1,hp _ _ (hf e he).2.2.1 (hl e he).2.2.1,hp _ _ (hf e he).2.2.2 (hl e he).2.2.2⟩
 have gI:=fold (P:=uD) (fun v m hp hl=>hp.keep hl hk) h.bk.fI h.lI
 have gE:=fold (P:=uM) (fun v m hp hl=>hp.keep hl hk) h.bk.fE h.lE
 have gN:=fold (P:=uN) (fun v m hp hl=>hp.keep hl hk) h.bk.fN h.lN
 have lift:∀{L:List Ent},(∀e,e∈L->yK e.l K/\yK e.a K/\yK e.b K/\yK e.c K)->∀e,e∈L->yK e.l (fun q=>K q\/K2 q)/\yK e.a (fun q=>K q\/K2 q)/\yK e.b (fun q=>K q\/K2 q)/\yK e.c (fun q=>K q\/K2 q):=fun hl e he=>
  ⟨(hl e he).1.mono fun _=>.inl,(hl e he).2.1.mono fun _=>.inl,(hl e he).2.2.1.mono fun _=>.inl,(hl e he).2.2.2.mono fun _=>.inl⟩
 have gI':∀x,x∈LI++[e]->uD (W.setCell ⟨bb,1,none⟩ v') x.l x.m/\uD (W.setCell ⟨bb,1,none⟩ v') x.a x.m/\uD (W.setCell ⟨bb,1,none⟩ v') x.b x.m/\uD (W.setCell ⟨bb,1,none⟩ v') x.c x.m:=fun x hx=>by
  rcases List.mem_append.1 hx with hx | hx
  ·exact gI x hx
  ·rw [List.mem_singleton] at hx
   subst hx
   exact⟨hfull.1.keep hl.1 hk2',hfull.2.1.keep hl.2.1 hk2',hfull.2.2.1.keep hl.2.2.1 hk2',hfull.2.2.2.keep hl.2.2.2 hk2'⟩
 have lI':∀x,x∈LI++[e]->yK x.l (fun q=>K q\/K2 q)/\yK x.a (fun q=>K q\/K2 q)/\yK x.b (fun q=>K q\/K2 q)/\yK x.c (fun q=>K q\/K2 q):=fun x hx=>by
  rcases List.mem_append.1 hx with hx | hx
  ·exact lift h.lI x hx
  ·rw [List.mem_singleton] at hx
   subst hx
   exact⟨hl.1.mono fun _=>.inr,hl.2.1.mono fun _=>.inr,hl.2.2.1.mono fun _=>.inr,hl.2.2.2.mono fun _=>.inr⟩
 have nv:∀q,q<w.heap.size->¬own vI q->¬own v' q:=fun q hq hn hv=>hn (hf.old q hq hv)
 refine⟨⟨hset,hrow,yA h.bk.rE rE,yA h.bk.rN rN,gI',gE,gN⟩,lI',lift h.lE,lift h.lN,fun q hq=>?_⟩
 rw [hsz]
 rcases hq with hq | hq
 ·obtain⟨x0,x1,x2,x3,x4⟩:=h.apart q hq
  exact⟨zT x0 hf.size,x1,nv q x0 x2,x3,x4⟩
 ·obtain⟨x0,x1,x2,x3,x4⟩:=a2 q hq
  exact⟨zT x0 hf.size,x1,nv q x0 x2,x3,x4⟩
theorem vK.addE (h:vK w B bb n vI vE vN LI LE LN K) (hfull:uM w e.l e.m/\uM w e.a e.m/\uM w e.b e.m/\uM w e.c e.m) (hl:yK e.l K2/\yK e.a K2/\yK e.b K2/\yK e.c K2) (hk2:∀q,K2 q->∃cur,w.heap[q]?=some (.cells cur 72 (0,0)))
  (hr:W.ownsRow B 108 5 v' (LE.length+1) (uE LE++[e.l,e.a,e.b,e.c,.int .i64 e.m])) (hf:Fr (own vE) w W (own v')):vK (W.setCell ⟨bb,2,none⟩ v') B bb n vI v' vN LI (LE++[e]) LN (fun q=>K q\/K2 q):=by
 have hbl:=(zN.1 h.bk.blk).1
 have hbn:¬own vE bb:=yP h.bk.rE h.bk.blk (by decide)
 have hbW:W.heap[bb]?=some (.cells #[.int .i64 n,vI,vE,vN] 65):=(hf.same bb hbl hbn).trans h.bk.blk
 have hsz:(W.setCell ⟨bb,2,none⟩ v').heap.size=W.heap.size:=by simp [World.setCell]
 have kq:∀q,q≠bb->(W.setCell ⟨bb,2,none⟩ v').heap[q]?=W.heap[q]?:=fun q hq=>zQ _ _ _ _ hq
 have keepq:∀q,q<w.heap.size->¬own vE q->q≠bb->(W.setCell ⟨bb,2,none⟩ v').heap[q]?=w.heap[q]?:=fun q h1 h2 h3=>(kq q h3).trans (hf.same q h1 h2)
 have rI:∀q,own vI q->(W.setCell ⟨bb,2,none⟩ v').heap[q]?=w.heap[q]?:=fun q hq=>by
  obtain⟨cur,hc⟩:=tF h.bk.rI hq
  exact keepq q (zS h.bk.rI q hq).2 (yP h.bk.rE hc (by decide)) (fun e=>yP h.bk.rI h.bk.blk (by decide) (e▸hq))
 have rN:∀q,own vN q->(W.setCell ⟨bb,2,none⟩ v').heap[q]?=w.heap[q]?:=fun q hq=>by
  obtain⟨cur,hc⟩:=tF h.bk.rN hq
  exact keepq q (zS h.bk.rN q hq).2 (yP h.bk.rE hc (by decide)) (fun e=>yP h.bk.rN h.bk.blk (by decide) (e▸hq))
 have hrow:(W.setCell ⟨bb,2,none⟩ v').ownsRow B 108 5 v' (LE++[e]).length (uE (LE++[e])):=by
  rw [mE,List.length_append]
  exact yA hr (fun q hq=>kq q (fun e=>yP hr hbW (by decide) (e▸hq)))
 have hk:∀q,K q->(W.setCell ⟨bb,2,none⟩ v').heap[q]?=w.heap[q]?:=fun q hq=>keepq q (h.apart q hq).1 (h.apart q hq).2.2.2.1 (h.apart q hq).2.1
 have a2:∀q,K2 q->q<w.heap.size/\q≠bb/\¬own vI q/\¬own vE q/\¬own vN q:=fun q hq=>by
  obtain⟨cur,hc⟩:=hk2 q hq
  exact⟨(zN.1 hc).1,fun e=>absurd (qU (e▸hc) h.bk.blk) (by decide),yP h.bk.rI hc (by decide),yP h.bk.rE hc (by decide),yP h.bk.rN hc (by decide)⟩
 have hk2':∀q,K2 q->(W.setCell ⟨bb,2,none⟩ v').heap[q]?=w.heap[q]?:=fun q hq=>keepq q (a2 q hq).1 (a2 q hq).2.2.2.1 (a2 q hq).2.1
 have hset:=yD W bb 2 _ 65 v' hbW
 have fold:∀{P:World->Value->Int->Prop} {L:List Ent},(∀v m,P w v m->yK v K->P (W.setCell ⟨bb,2,none⟩ v') v m)->(∀e,e∈L->P w e.l e.m/\P w e.a e.m/\P w e.b e.m/\P w e.c e.m)->(∀e,e∈L->yK e.l K/\yK e.a K/\yK e.b K/\yK e.c K)->∀e,e∈L->P (W.setCell ⟨bb,2,none⟩ v') e.l e.m/\P (W.setCell ⟨bb,2,none⟩ v') e.a e.m/\P (W.setCell ⟨bb,2,none⟩ v') e.b e.m/\P (W.setCell ⟨bb,2,none⟩ v') e.c e.m:=fun hp hf hl e he=>
  ⟨hp _ _ (hf e he).1 (hl e he).1,hp _ _ (hf e he).2.1 (hl e he).2.1,hp _ _ (hf e he).2.2.1 (hl e he).2.2.1,hp _ _ (hf e he).2.2.2 (hl e he).2.2.2⟩
 have gI:=fold (P:=uD) (fun v m hp hl=>hp.keep hl hk) h.bk.fI h.lI
 have gE:=fold (P:=uM) (fun v m hp hl=>hp.keep hl hk) h.bk.fE h.lE
 have gN:=fold (P:=uN) (fun v m hp hl=>hp.keep hl hk) h.bk.fN h.lN
 have lift:∀{L:List Ent},(∀e,e∈L->yK e.l K/\yK e.a K/\yK e.b K/\yK e.c K)->∀e,e∈L->yK e.l (fun q=>K q\/K2 q)/\yK e.a (fun q=>K q\/K2 q)/\yK e.b (fun q=>K q\/K2 q)/\yK e.c (fun q=>K q\/K2 q):=fun hl e he=>
  ⟨(hl e he).1.mono fun _=>.inl,(hl e he).2.1.mono fun _=>.inl,(hl e he).2.2.1.mono fun _=>.inl,(hl e he).2.2.2.mono fun _=>.inl⟩
 have gE':∀x,x∈LE++[e]->uM (W.setCell ⟨bb,2,none⟩ v') x.l x.m/\uM (W.setCell ⟨bb,2,none⟩ v') x.a x.m/\uM (W.setCell ⟨bb,2,none⟩ v') x.b x.m/\uM (W.setCell ⟨bb,2,none⟩ v') x.c x.m:=fun x hx=>by
  rcases List.mem_append.1 hx with hx | hx
  ·exact gE x hx
  ·rw [List.mem_singleton] at hx
   subst hx
   exact⟨hfull.1.keep hl.1 hk2',hfull.2.1.keep hl.2.1 hk2',hfull.2.2.1.keep hl.2.2.1 hk2',hfull.2.2.2.keep hl.2.2.2 hk2'⟩
 have lE':∀x,x∈LE++[e]->yK x.l (fun q=>K q\/K2 q)/\yK x.a (fun q=>K q\/K2 q)/\yK x.b (fun q=>K q\/K2 q)/\yK x.c (fun q=>K q\/K2 q):=fun x hx=>by
  rcases List.mem_append.1 hx with hx | hx
  ·exact lift h.lE x hx
  ·rw [List.mem_singleton] at hx
   subst hx
   exact⟨hl.1.mono fun _=>.inr,hl.2.1.mono fun _=>.inr,hl.2.2.1.mono fun _=>.inr,hl.2.2.2.mono fun _=>.inr⟩
 have nv:∀q,q<w.heap.size->¬own vE q->¬own v' q:=fun q hq hn hv=>hn (hf.old q hq hv)
 refine⟨⟨hset,yA h.bk.rI rI,hrow,yA h.bk.rN rN,gI,gE',gN⟩,lift h.lI,lE',lift h.lN,fun q hq=>?_⟩
 rw [hsz]
 rcases hq with hq | hq
 ·obtain⟨x0,x1,x2,x3,x4⟩:=h.apart q hq
  exact⟨zT x0 hf.size,x1,x2,nv q x0 x3,x4⟩
 ·obtain⟨x0,x1,x2,x3,x4⟩:=a2 q hq
  exact⟨zT x0 hf.size,x1,x2,nv q x0 x3,x4⟩
theorem vK.addN (h:vK w B bb n vI vE vN LI LE LN K) (hfull:uN w e.l e.m/\uN w e.a e.m/\uN w e.b e.m/\uN w e.c e.m) (hl:yK e.l K2/\yK e.a K2/\yK e.b K2/\yK e.c K2) (hk2:∀q,K2 q->∃cur,w.heap[q]?=some (.cells cur 49 (0,0)))
  (hr:W.ownsRow B 111 5 v' (LN.length+1) (uE LN++[e.l,e.a,e.b,e.c,.int .i64 e.m])) (hf:Fr (own vN) w W (own v')):vK (W.setCell ⟨bb,3,none⟩ v') B bb n vI vE v' LI LE (LN++[e]) (fun q=>K q\/K2 q):=by
 have hbl:=(zN.1 h.bk.blk).1
 have hbn:¬own vN bb:=yP h.bk.rN h.bk.blk (by decide)
 have hbW:W.heap[bb]?=some (.cells #[.int .i64 n,vI,vE,vN] 65):=(hf.same bb hbl hbn).trans h.bk.blk
 have hsz:(W.setCell ⟨bb,3,none⟩ v').heap.size=W.heap.size:=by simp [World.setCell]
 have kq:∀q,q≠bb->(W.setCell ⟨bb,3,none⟩ v').heap[q]?=W.heap[q]?:=fun q hq=>zQ _ _ _ _ hq
 have keepq:∀q,q<w.heap.size->¬own vN q->q≠bb->(W.setCell ⟨bb,3,none⟩ v').heap[q]?=w.heap[q]?:=fun q h1 h2 h3=>(kq q h3).trans (hf.same q h1 h2)
 have rI:∀q,own vI q->(W.setCell ⟨bb,3,none⟩ v').heap[q]?=w.heap[q]?:=fun q hq=>by
  obtain⟨cur,hc⟩:=tF h.bk.rI hq
  exact keepq q (zS h.bk.rI q hq).2 (yP h.bk.rN hc (by decide)) (fun e=>yP h.bk.rI h.bk.blk (by decide) (e▸hq))
 have rE:∀q,own vE q->(W.setCell ⟨bb,3,none⟩ v').heap[q]?=w.heap[q]?:=fun q hq=>by
  obtain⟨cur,hc⟩:=tF h.bk.rE hq
  exact keepq q (zS h.bk.rE q hq).2 (yP h.bk.rN hc (by decide)) (fun e=>yP h.bk.rE h.bk.blk (by decide) (e▸hq))
 have hrow:(W.setCell ⟨bb,3,none⟩ v').ownsRow B 111 5 v' (LN++[e]).length (uE (LN++[e])):=by
  rw [mE,List.length_append]
  exact yA hr (fun q hq=>kq q (fun e=>yP hr hbW (by decide) (e▸hq)))
 have hk:∀q,K q->(W.setCell ⟨bb,3,none⟩ v').heap[q]?=w.heap[q]?:=fun q hq=>keepq q (h.apart q hq).1 (h.apart q hq).2.2.2.2 (h.apart q hq).2.1
 have a2:∀q,K2 q->q<w.heap.size/\q≠bb/\¬own vI q/\¬own vE q/\¬own vN q:=fun q hq=>by
  obtain⟨cur,hc⟩:=hk2 q hq
  exact⟨(zN.1 hc).1,fun e=>absurd (qU (e▸hc) h.bk.blk) (by decide),yP h.bk.rI hc (by decide),yP h.bk.rE hc (by decide),yP h.bk.rN hc (by decide)⟩
 have hk2':∀q,K2 q->(W.setCell ⟨bb,3,none⟩ v').heap[q]?=w.heap[q]?:=fun q hq=>keepq q (a2 q hq).1 (a2 q hq).2.2.2.2 (a2 q hq).2.1
 have hset:=yD W bb 3 _ 65 v' hbW
 have fold:∀{P:World->Value->Int->Prop} {L:List Ent},(∀v m,P w v m->yK v K->P (W.setCell ⟨bb,3,none⟩ v') v m)->(∀e,e∈L->P w e.l e.m/\P w e.a e.m/\P w e.b e.m/\P w e.c e.m)->(∀e,e∈L->yK e.l K/\yK e.a K/\yK e.b K/\yK e.c K)->∀e,e∈L->P (W.setCell ⟨bb,3,none⟩ v') e.l e.m/\P (W.setCell ⟨bb,3,none⟩ v') e.a e.m/\P (W.setCell ⟨bb,3,none⟩ v') e.b e.m/\P (W.setCell ⟨bb,3,none⟩ v') e.c e.m:=fun hp hf hl e he=>
  ⟨hp _ _ (hf e he).1 (hl e he).1,hp _ _ (hf e he).2.1 (hl e he).2.1,hp _ _ (hf e he).2.2.1 (hl e he).2.2.1,hp _ _ (hf e he).2.2.2 (hl e he).2.2.2⟩
 have gI:=fold (P:=uD) (fun v m hp hl=>hp.keep hl hk) h.bk.fI h.lI
 have gE:=fold (P:=uM) (fun v m hp hl=>hp.keep hl hk) h.bk.fE h.lE
 have gN:=fold (P:=uN) (fun v m hp hl=>hp.keep hl hk) h.bk.fN h.lN
 have lift:∀{L:List Ent},(∀e,e∈L->yK e.l K/\yK e.a K/\yK e.b K/\yK e.c K)->∀e,e∈L->yK e.l (fun q=>K q\/K2 q)/\yK e.a (fun q=>K q\/K2 q)/\yK e.b (fun q=>K q\/K2 q)/\yK e.c (fun q=>K q\/K2 q):=fun hl e he=>
  ⟨(hl e he).1.mono fun _=>.inl,(hl e he).2.1.mono fun _=>.inl,(hl e he).2.2.1.mono fun _=>.inl,(hl e he).2.2.2.mono fun _=>.inl⟩
 have gN':∀x,x∈LN++[e]->uN (W.setCell ⟨bb,3,none⟩ v') x.l x.m/\uN (W.setCell ⟨bb,3,none⟩ v') x.a x.m/\uN (W.setCell ⟨bb,3,none⟩ v') x.b x.m/\uN (W.setCell ⟨bb,3,none⟩ v') x.c x.m:=fun x hx=>by
  rcases List.mem_append.1 hx with hx | hx
  ·exact gN x hx
  ·rw [List.mem_singleton] at hx
   subst hx
   exact⟨hfull.1.keep hl.1 hk2',hfull.2.1.keep hl.2.1 hk2',hfull.2.2.1.keep hl.2.2.1 hk2',hfull.2.2.2.keep hl.2.2.2 hk2'⟩
 have lN':∀x,x∈LN++[e]->yK x.l (fun q=>K q\/K2 q)/\yK x.a (fun q=>K q\/K2 q)/\yK x.b (fun q=>K q\/K2 q)/\yK x.c (fun q=>K q\/K2 q):=fun x hx=>by
  rcases List.mem_append.1 hx with hx | hx
  ·exact lift h.lN x hx
  ·rw [List.mem_singleton] at hx
   subst hx
   exact⟨hl.1.mono fun _=>.inr,hl.2.1.mono fun _=>.inr,hl.2.2.1.mono fun _=>.inr,hl.2.2.2.mono fun _=>.inr⟩
 have nv:∀q,q<w.heap.size->¬own vN q->¬own v' q:=fun q hq hn hv=>hn (hf.old q hq hv)
 refine⟨⟨hset,yA h.bk.rI rI,yA h.bk.rE rE,hrow,gI,gE,gN'⟩,lift h.lI,lift h.lE,lN',fun q hq=>?_⟩
 rw [hsz]
 rcases hq with hq | hq
 ·obtain⟨x0,x1,x2,x3,x4⟩:=h.apart q hq
  exact⟨zT x0 hf.size,x1,x2,x3,nv q x0 x4⟩
 ·obtain⟨x0,x1,x2,x3,x4⟩:=a2 q hq
  exact⟨zT x0 hf.size,x1,x2,x3,nv q x0 x4⟩
end
theorem xK {ops:Array Oper} {o:Oper} {a:Act} {K:Act->World->Prop} {Q:Exit->Act->World->Prop} {E':Prop} {w:World} {B t e size bytes d:Nat} (hd:o.dst=some d) (E:mU t e size bytes) (hs0:0<size) (hs1:bytes<=140) {v:Value} {n m:Nat} {xs news:List Value} (hgd:o.guard=none) (sv xv:Operand)
  (ho:o.op=.call {callee:=.builtin .append,args:=#[sv,xv],argTypes:=#[t,t]}) {ad:Addr} {cap:Nat} (hs:a.eval sv=v) (hx:a.eval xv=.slice (some ad) m cap) (hrow:w.ownsRow B e size v n xs) (hl:news.length=m*size)
  (hc:∀j u,news[j]?=some u->w.cell? (ad.add j)=some u) (h1:∀u∈news,u.oneCell'=true) (hm:0<m) (hn:n+m<=1000000000000) (hB:B<=w.heap.size)
  (h:∀v' w',w'.ownsRow B e size v' (n+m) (xs++news)->Fr (own v) w w' (own v')->(∃a c,v'=.slice a (n+m) c)->K ⟨a.tmps.setIfInBounds d v',a.defers⟩ w'):if Region.wanted o (yielded ops a.tmps)=true then Oper.wp Tryz.prog o a w K Q else E':=by
 obtain⟨i,z,hi,hz,hsz,hby,hzc⟩:=E.i
 have hmx:n+m<=maxLen:=by simp only [maxLen];omega
 have hbb:(n+m)*bytes<=140737488355328:=Nat.le_trans (Nat.mul_le_mul hn hs1) (by omega)
 refine step_append_lies _ hgd sv xv t ho B e i z size bytes E.u hi hz hsz hby hzc hs0 v n xs hs hrow ad m cap news hx hl hc h1 hm hmx hbb hB w.heap.size rfl ?_
 intro g cp w' h1 h2 h3 h4
 have hh:=h _ w' h1 (jU h2 h3) ⟨_,_,rfl⟩
 rw [hd]
 exact hh
end Go.Proofs.YtfmbebofllgmoaaGreatDoor
namespace Go.Proofs.YtfmbebofllgmoaaGreatDoor
open Go.RowKit
attribute [local go_sem ↓] Go.wp_at_zero Go.wp_at_succ
theorem zE6:mU 178 210 3 24:=oM _ _ _ _ (.agg #[.int .i64 0,.int .i64 0,.int .i64 0]) Tryz.underlying178 (by kernel_rfl) rfl
theorem Fr.more {S:Nat->Prop} {w w' w'':World} {v v':Value} (h:Fr S w w' S) (hg:Fr (own v) w' w'' (own v')) (hv:∀q,own v q->w.heap.size<=q):Fr S w w'' S:=
 ⟨hg.os.trans h.os,hg.tape.trans h.tape,hg.output.trans h.output,Nat.le_trans h.size hg.size,fun k hk hn=>(hg.same k (zT hk h.size) (fun e=>by have:=hv k e;omega)).trans (h.same k hk hn),fun _ _ h=>h⟩
theorem jM {w:World} {B:Nat} {v:Value} {A:List AT} (h:w.ownsRow B 210 3 v A.length (rO A)) {i:Nat} {p:AT} (hi:A[i]?=some p):∃g c,v=.slice (some ⟨g,0,none⟩) A.length c/\w.cell? ⟨g,i*3,none⟩=some (.int .i64 p.1.2.2.2)/\w.cell? ⟨g,i*3+1,none⟩=some (.int .i64 p.1.2.1)/\w.cell? ⟨g,i*3+2,none⟩=some (.int .i64 p.2):=by
 obtain⟨g,c,hv,_,_,hc⟩:=tU h (by have:=(List.getElem?_eq_some_iff.1 hi).1;omega)
 obtain⟨g0,g1,g2⟩:=bR A i p hi
 exact⟨g,c,hv,hc _ _ g0,hc _ _ g1,hc _ _ g2⟩
section
variable {σ:Type} {SQ:(Nat->Value)->(Nat->Prop)->World->σ->Prop} {B:Nat} {S T:Nat->Prop} {w:World} {b:Nat} {pv:Nat->Value} {vt va:Value} {s:PS} {A:List AT} {tn sq:Int} {x:σ}
def yC6 (SQ:(Nat->Value)->(Nat->Prop)->World->σ->Prop) (B:Nat) (S:Nat->Prop) (w:World) (b:Nat) (pv:Nat->Value) (vt:Value) (T:Nat->Prop) (tn sq:Int) (s:PS) (A:List AT) (x:σ) (w':World):Prop:=
 ∃S' va',LQ SQ B S' w' b pv vt va' T s A tn sq x/\Fr S w w' S'
def sP (A:List AT) (z:Int):List AT:=A.filter fun p=>decide (p.1.2.2.2≠z)
theorem zV2 (A:List AT) (z:Int) (k:Nat) (p:AT) (h:A[k]?=some p):sP (A.take (k+1)) z=sP (A.take k) z++(if p.1.2.2.2=z then [] else [p]):=by
 unfold sP
 rw [List.take_add_one,h,List.filter_append]
 by_cases e:p.1.2.2.2=z<;>simp [e]
theorem zE2 (A:List AT) (z:Int):(sP A z).length<=A.length:=List.length_filter_le _ _
theorem mZ (L:rK SQ B) (h:LQ SQ B S w b pv vt va T s A tn sq x) (z:Int) (hz:0<=z) (ha:s.armings<=5000) :
  Calls Tryz.prog 140 #[.pointer (some ⟨b,0,none⟩),.int .i64 z] w fun e w'=>e=.returned (.tuple #[])/\yC6 SQ B S w b pv vt T tn sq {s with tim:=upd s.tim z.toNat (false,(s.tim z.toNat).2)} (sP A z) x w':=by
 obtain⟨aa,ca,rfl⟩:=yM h.arow
 have hlen:A.length<=5000:=by have:=h.rel.len;omega
 have hb:=h.blt
 have H:=zZ h
 have HB:=zZ h.below
 clear h
 go_enter Tryz.func140,Tryz.ntmps140
 go_wp2
 go_loopw [4,5] (fun l i wr=>∃k:Nat,k<=A.length/\i=.int .i64 k/\∃la lc,l=.slice la (sP (A.take k) z).length lc/\Hid (wr.ownsRow w.heap.size 210 3 (.slice la (sP (A.take k) z).length lc) (sP (A.take k) z).length (rO (sP (A.take k) z))/\Fr (fun _=>False) w wr (fun _=>False))) (fun _ i _=>A.length-(intOf i).toNat)
 case atStart=>exact⟨0,Nat.zero_le _,rfl,none,0,rfl,zX _ _ _ _,Fr.refl _ _⟩
 case round=>
  obtain⟨k,hk,rfl,la,lc,rfl,hh⟩:=hrel
  have hbr:b<wr.heap.size:=zT hb (zY hh).2.size
  have hr:=(zY H).fr L (zY hh).2
  have c16:=(hr.cell 16 (by omega)).trans (by rw [vJ])
  have z16:=hr.free 16 (by omega)
  by_cases hlt:k<A.length
  ·obtain⟨p,hp⟩ : ∃p,A[k]?=some p:=⟨_,List.getElem?_eq_getElem hlt⟩
   obtain⟨g,cg,hv,q0,q1,q2⟩:=jM hr.arow hp
   injection hv with hv hv2 hv3
   subst hv
   clear hv2 hv3
   have hk0:(0:Int)<=(k:Int):=by omega
   have hk1:(k:Int)<(A.length:Int):=by omega
   have hgl:=zU _ _ q0
   have htk:=zV2 A z k p hp
   have hle:(sP (A.take k) z).length<=5000:=by have:=zE2 (A.take k) z;rw [List.length_take] at this;omega
   have HTK:=zZ htk
   have HH:=zZ (zY hh)
   clear hr hh htk hp
   by_cases e:p.1.2.2.2=z
   ·have e':(p.1.2.2.2 != z)=false:=by simp [e]
    go_wp2
    go_roundw
    case rel=>
     refine⟨k+1,by omega,by go_num,la,lc,?_⟩
     rw [zY HTK,if_pos e,List.append_nil]
     exact⟨rfl,HH⟩
    case measure=>simp [intOf];omega
   ·have e':(p.1.2.2.2 != z)=true:=by simp [e]
    have nb:=heap_alloc_new wr (.cells #[.int .i64 p.1.2.2.2,.int .i64 p.1.2.1,.int .i64 p.2] 210)
    have NB:=zZ nb
    have RA:=zZ (World.ownsRow.alloc (zY HH).1 (.cells #[.int .i64 p.1.2.2.2,.int .i64 p.1.2.1,.int .i64 p.2] 210))
    have hwz:w.heap.size<=(wr.alloc (.cells #[.int .i64 p.1.2.2.2,.int .i64 p.1.2.1,.int .i64 p.2] 210)).heap.size:=by have:=(zY HH).2.size;simp;omega
    clear nb
    go_wp2_with (at_builtin;refine gY zE6 (by omega) (by omega) (B:=w.heap.size) (n:=(sP (A.take k) z).length) (m:=1) (xs:=rO (sP (A.take k) z)) (news:=[.int .i64 p.1.2.2.2,.int .i64 p.1.2.1,.int .i64 p.2]) rfl (.tmp 25) (.tmp 33) rfl (ad:=⟨wr.heap.size,0,none⟩) (cap:=1) rfl rfl (zY RA) rfl (World.news_of_block (zY NB)) (by simp [Value.oneCell']) (by omega) (by omega) hwz ?_;intro v3 w3 o3 f3 sh3;obtain⟨av,cv,rfl⟩:=sh3;have O3:=zZ o3;have F3:=zZ f3;clear o3 f3)
    go_roundw
    case rel=>
     refine⟨k+1,by omega,by go_num,av,cv,?_⟩
     rw [zY HTK,if_neg e,List.length_append,rP]
     exact⟨rfl,zY O3,Fr.more ((zY HH).2.alloc _) (zY F3) (fun q hq=>(zS (zY HH).1 q hq).1)⟩
    case measure=>simp [intOf];omega
  ·have hkl:k=A.length:=by omega
   subst hkl
   have hk1:¬(A.length:Int)<(A.length:Int):=by omega
   rw [List.take_length] at hh ⊢
   have hwf:=(zY hh).2
   have hfin:=(zY H).setArmed L (A':=sP A z) (s':={s with tim:=upd s.tim z.toNat (false,(s.tim z.toNat).2)}) (rC (zY hh).1 (zY HB)) (w1:=wr) ⟨hwf.os,hwf.tape,hwf.output,hwf.size,fun k hk _=>hwf.same k hk (fun h=>h),fun q hq hv=>absurd (zS (zY hh).1 q hv).1 (by omega)⟩ ((zY H).rel.cancel z hz) rfl rfl rfl rfl rfl rfl rfl
   have HF:=zZ hfin
   clear hr hh hfin hwf
   go_wp2
   go_end0
   exact⟨rfl,_,_,(zY HF).1,(zY HF).2⟩
end
section
variable {σ:Type} {SQ:(Nat->Value)->(Nat->Prop)->World->σ->Prop} {B:Nat} {S T:Nat->Prop} {w:World} {b:Nat} {pv:Nat->Value} {vt va:Value} {s:PS} {A:List AT} {tn sq:Int} {x:σ}
theorem yD3 (L:rK SQ B) (h:LQ SQ B S w b pv vt va T s A tn sq x) (z v:Int) (hz:0<=z) (hz8:z<8) (ha:s.armings<=5000) (hc:0<=s.clock/\s.clock<=1099511627776) :
  Calls Tryz.prog 139 #[.pointer (some ⟨b,0,none⟩),.int .i64 z,.int .i64 v] w fun e w'=>e=.returned (.tuple #[])/\yC6 SQ B S w b pv vt T tn sq {s with armings:=s.armings+1,tim:=upd s.tim z.toNat (true,s.clock+min (max v 0) (1099511627776-s.clock),s.armings+1,z)} (sP A z++[((true,s.clock+min (max v 0) (1099511627776-s.clock),s.armings+1,z),tn)]) x w':=by
 obtain⟨c0,c1⟩:=hc
 have hrel:=h.rel.arm z (s.clock+min (max v 0) (1099511627776-s.clock)) hz hz8
 have hlen:(sP A z).length<=5000:=by have:=h.rel.len;have:=zE2 A z;omega
 obtain⟨at_,hat⟩ : ∃at_,s.clock+min (max v 0) (1099511627776-s.clock)=at_:=⟨_,rfl⟩
 rw [hat] at hrel ⊢
 have HAT:=zZ hat
 have HR:=zZ hrel
 have HC:=zZ (mZ L h z hz ha)
 clear h hrel hat
 go_enter Tryz.func139,Tryz.ntmps139
 go_wp2_with fail
 go_at_call 140
 refine(zY HC).mono ?_
 rintro e w1 ⟨rfl,S1,va1,h1,f1⟩
 obtain⟨aa,ca,rfl⟩:=yM h1.arow
 have k14:=(h1.cell 14 (by omega)).trans (by rw [tQ])
 have k15:=(h1.cell 15 (by omega)).trans (by rw [tD])
 have k16:=(h1.cell 16 (by omega)).trans (by rw [vJ])
 have z16:=h1.free 16 (by omega)
 have hb:=h1.blt
 have H1:=zZ h1
 have F1:=zZ f1
 clear h1 f1 HC
 have kq:∀o,(w1.alloc o).drew.cell? ⟨b,15,none⟩=some (.int .i64 tn):=fun o=>(((zY H1).fr L ((Fr.refl _ _).alloc o).drew).cell 15 (by omega)).trans (by rw [tD])
 have kq16:∀o,(w1.alloc o).drew.cell? ⟨b,16,none⟩=some (.slice aa (sP A z).length ca):=fun o=>(((zY H1).fr L ((Fr.refl _ _).alloc o).drew).cell 16 (by omega)).trans (by rw [vJ])
 by_cases hlt:v<1099511627776-s.clock
 focus
  have e1:s.clock+max v 0=at_:=by have:=zY HAT;omega
  go_wp2
  clear e1
 rotate_left
 focus
  have e1:(1099511627776:Int)=at_:=by have:=zY HAT;omega
  have hlt':¬v<1099511627776-s.clock:=hlt
  go_wp2
  have e2:(Value.int .i64 1099511627776)=.int .i64 at_:=by rw [<-e1]
  rw [e2]
  clear e1 e2
 rotate_left
 all_goals
  refine wp_region_held_drew (S:=fun w'=>w'.cell? ⟨b,15,none⟩=some (.int .i64 tn)) (by kernel_rfl) ?_ (fun hHeld=>?_)
  ·exact k15
  refine zA (i:=0) (oi:={dst:=some 24,op:=.move (.tmp 0),type:=177,pos:= "run.go:202",after:=#[],guard:=none}) ?_
  simp only [Act.put,zC,zD,zE]
  refine zA (i:=1) (oi:={dst:=some 25,op:=.move (.tmp 0),type:=177,pos:= "run.go:202",after:=#[],guard:=none}) ?_
  simp only [Act.put,zC,zD,zE]
  refine zA (i:=2) (oi:={dst:=some 26,op:=.nilCheck (.tmp 25),type:=0,pos:= "run.go:202",after:=#[zG 1],guard:=none}) ?_
  simp only [Act.put,zC,zD,zE]
  refine zA (i:=3) (oi:={dst:=some 27,op:=.fieldAddr 180 (.tmp 26) 8,type:=0,pos:= "run.go:202",after:=#[zG 2],guard:=none}) ?_
  simp only [Act.put,zC,zD,zE]
  refine zA (i:=5) (oi:={dst:=some 29,op:=.move (.tmp 1),type:=3,pos:= "run.go:202",after:=#[],guard:=none}) ?_
  simp only [Act.put,zC,zD,zE]
  refine zA (i:=6) (oi:={dst:=some 30,op:=.move (.tmp 6),type:=3,pos:= "run.go:202",after:=#[],guard:=none}) ?_
  simp only [Act.put,zC,zD,zE]
  refine zA (i:=7) (oi:={dst:=some 31,op:=.move (.tmp 0),type:=177,pos:= "run.go:202",after:=#[],guard:=none}) ?_
  simp only [Act.put,zC,zD,zE]
  refine zA (i:=8) (oi:={dst:=some 32,op:=.nilCheck (.tmp 31),type:=0,pos:= "run.go:202",after:=#[zG 7],guard:=none}) ?_
  simp only [Act.put,zC,zD,zE]
  refine zA (i:=9) (oi:={dst:=some 33,op:=.fieldAddr 180 (.tmp 32) 7,type:=0,pos:= "run.go:202",after:=#[zG 8],guard:=none}) ?_
  simp only [Act.put,zC,zD,zE]
  refine zA (i:=10) (oi:={dst:=some 34,op:=.load 3 (.tmp 33),type:=3,pos:= "run.go:202",after:=#[zG 9],guard:=none}) ?_
  simp only [Act.put,zC,zD,zE]
  refine zA (i:=11) (oi:={dst:=some 35,op:=.build 210 #[(0,.tmp 29),(1,.tmp 30),(2,.tmp 34)],type:=210,pos:= "run.go:202",after:=#[zG 5,zG 6,zG 10],guard:=none}) ?_
  simp only [Act.put,zC,zD,zE]
  refine wpAnyH_ready (rs:=[4,12]) (by kernel_rfl) (by simp) ?_
  refine AllReadyH.cons (o:={dst:=some 28,op:=.load 178 (.tmp 27),type:=178,pos:= "run.go:202",after:=#[zG 3],guard:=none}) rfl (fun K' hK'=>?_) (AllReadyH.cons (o:={dst:=some 36,op:=.buildSlice 178 1 #[(0,.tmp 35)],type:=178,pos:= "run.go:202",after:=#[zG 11],guard:=none}) rfl (fun K' hK'=>?_) AllReadyH.nil)
  focus
   go_simp
   refine hK'.out _ _ ?_ (fun hHeld=>?_)
   ·exact k15
   clear hK' K'
   try simp only [Act.put,zC,zD,zE]
   refine zL (i:=12) (o:={dst:=some 36,op:=.buildSlice 178 1 #[(0,.tmp 35)],type:=178,pos:= "run.go:202",after:=#[zG 11],guard:=none}) (fun K' hK'=>?_)
  rotate_left
  focus
   go_simp
   refine hK'.out _ _ ?_ (fun hHeld=>?_)
   ·exact kq _
   clear hK' K'
   try simp only [Act.put,zC,zD,zE]
   refine zL (i:=4) (o:={dst:=some 28,op:=.load 178 (.tmp 27),type:=178,pos:= "run.go:202",after:=#[zG 3],guard:=none}) (fun K' hK'=>?_)
  rotate_left
  all_goals
   go_simp
   refine hK'.out _ _ ?_ (fun hHeld=>?_)
   ·exact kq _
   clear hK' K'
   try simp only [Act.put,zC,zD,zE]
   refine zL (i:=13) (o:={dst:=some 37,op:=.call {callee:=.builtin .append,args:=#[.tmp 28,.tmp 36],argTypes:=#[178,178]},type:=178,pos:= "run.go:202",after:=#[zG 4,zG 12],guard:=none}) (fun K' hK'=>?_)
   refine xK (d:=37) rfl zE6 (by decide) (by decide) (v:=.slice aa (sP A z).length ca) (n:=(sP A z).length) (m:=1) (xs:=rO (sP A z)) (news:=[.int .i64 z,.int .i64 at_,.int .i64 tn]) (B:=B) (ad:=⟨w1.heap.size,0,none⟩) (cap:=1) rfl (.tmp 28) (.tmp 36) rfl rfl rfl ((zY H1).fr L ((Fr.refl _ _).alloc (.cells #[.int .i64 z,.int .i64 at_,.int .i64 tn] 210)).drew).arow rfl (World.news_of_block (heap_alloc_new w1 _)) (by simp [Value.oneCell']) (by omega) (by omega) ((zY H1).fr L ((Fr.refl _ _).alloc (.cells #[.int .i64 z,.int .i64 at_,.int .i64 tn] 210)).drew).below ?_
   intro v3 w3 o3 f3 sh3
   obtain⟨av,cv,rfl⟩:=sh3
   have h2:=(zY H1).fr L ((Fr.refl _ _).alloc (.cells #[.int .i64 z,.int .i64 at_,.int .i64 tn] 210)).drew
   have hbs:=f3.same b h2.blt (fun e=>(h2.inA b e).2.1 rfl)
   have c2:=h2.cells.block hbs
   have gg:w3.cell? ⟨b,15,none⟩=some (.int .i64 tn):=(c2 15 (by omega)).1.trans (by rw [tD])
   have pc:=(c2 16 (by omega)).1.trans (by rw [vJ])
   have pz:=(c2 16 (by omega)).2
   have FIN:=zZ (h2.setArmed L (A':=sP A z++[((true,at_,s.armings+1,z),tn)]) (s':={s with armings:=s.armings+1,tim:=upd s.tim z.toNat (true,at_,s.armings+1,z)}) (by rw [List.length_append,rP];exact o3) f3 (zY HR) rfl rfl rfl rfl rfl rfl rfl)
   clear o3 f3 h2 hbs c2
   refine hK'.out _ _ gg (fun hHeld=>?_)
   clear hK' K'
   simp only [zC,zD,zE]
   refine zA (i:=14) (oi:={dst:=some 38,op:=.nilCheck (.tmp 24),type:=0,pos:= "run.go:202",after:=#[zG 0,zF 0,zF 1,zF 2,zF 3,zF 4,zF 5,zF 6,zF 7,zF 8,zF 9,zF 10,zF 11,zF 12,zF 13],guard:=none}) ?_
   simp only [Act.put,zC,zD,zE]
   refine zA (i:=15) (oi:={dst:=some 39,op:=.fieldAddr 180 (.tmp 38) 8,type:=0,pos:= "run.go:202",after:=#[zG 14,zF 0,zF 1,zF 2,zF 3,zF 4,zF 5,zF 6,zF 7,zF 8,zF 9,zF 10,zF 11,zF 12,zF 13],guard:=none}) ?_
   simp only [Act.put,zC,zD,zE]
   refine zL (i:=16) (o:={dst:=none,op:=.store 178 (.tmp 39) (.tmp 37),type:=0,pos:= "run.go:202",after:=#[zG 15,zG 13,zM 13,zF 0,zF 1,zF 2,zF 3,zF 4,zF 5,zF 6,zF 7,zF 8,zF 9,zF 10,zF 11,zF 12,zF 13],guard:=none}) (fun K' hK'=>?_)
   go_simp
   refine hK'.out _ _ ?_ (fun hHeld=>?_)
   ·simp [go_sem,gg]
   clear hK' K'
   try simp only [Act.put,zC,zD,zE]
   refine wpAnyH_done (by kernel_rfl) ?_ _
   go_wp2
   go_end0
   exact⟨rfl,_,_,(zY FIN).1,(zY F1).trans ((((Fr.refl _ _).alloc (.cells #[.int .i64 z,.int .i64 at_,.int .i64 tn] 210)).drew).trans (zY FIN).2)⟩
end
