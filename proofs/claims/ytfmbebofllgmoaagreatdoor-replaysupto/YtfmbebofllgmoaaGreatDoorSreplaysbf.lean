/-
  PROVED HERE: append to a list of one's own, both the list and
-/
import Derived.Deep.DeepAppendRoom
import Derived.Test.YtfmbebofllgmoaaGreatDoorSreplaysbe
set_option maxHeartbeats 4000000
set_option maxRecDepth 20000
namespace Go.Proofs.YtfmbebofllgmoaaGreatDoor
open Go.RowKit
theorem zN2 {w:World} {B e size n m g cap:Nat} {xs news:List Value} (h:w.ownsRow B e size (.slice (some ⟨g,0,none⟩) (n+m) cap) (n+m) (xs++news)) (hl:xs.length=n*size):w.ownsRow B e size (.slice (some ⟨g,0,none⟩) n cap) n xs:=by
 obtain⟨h0,h⟩:=h
 rcases h with ⟨hv,_⟩ | ⟨g',cap',cur,hv,hB,hg,h1,h2,h3,h4⟩
 ·cases hv
 ·cases hv
  refine⟨hl,.inr ⟨g,cap,cur,rfl,hB,hg,by omega,h2,h3,?_⟩⟩
  have h5:=congrArg (List.take (n*size)) h4
  rw [List.take_take,<-hl,List.take_left] at h5
  rw [<-hl]
  rw [show min xs.length ((n+m)*size)=xs.length by rw [hl,Nat.add_mul];omega] at h5
  exact h5
end Go.Proofs.YtfmbebofllgmoaaGreatDoor
namespace Go.Proofs.YtfmbebofllgmoaaGreatDoor
open Go.RowKit
attribute [local go_sem ↓] Go.wp_at_zero Go.wp_at_succ
structure Ent where
 l:Value
 a:Value
 b:Value
 c:Value
 m:Int
def sA:List Ent->List Value
 | []=>[]
 | e::r=>e.l::e.a::e.b::e.c::.int .i64 e.m::sA r
theorem aB (a b:List Ent):sA (a++b)=sA a++sA b:=by
 induction a with
 | nil=>rfl
 | cons x r ih=>simp [sA,ih]
theorem cY:∀(es:List Ent) (i:Nat) (e:Ent),es[i]?=some e->(sA es)[i*5]?=some e.l/\(sA es)[i*5+1]?=some e.a/\(sA es)[i*5+2]?=some e.b/\(sA es)[i*5+3]?=some e.c/\(sA es)[i*5+4]?=some (.int .i64 e.m)
 | [],i,p,h=>by simp at h
 | x::r,0,p,h=>by
  simp at h
  subst h
  exact⟨rfl,rfl,rfl,rfl,rfl⟩
 | x::r,i+1,p,h=>by
  have hr:=cY r i p (by simpa using h)
  have e:∀j,(sA (x::r))[(i+1)*5+j]?=(sA r)[i*5+j]?:=fun j=>by
   rw [show (i+1)*5+j=(i*5+j)+5 by omega];rfl
  exact⟨(e 0).trans hr.1,(e 1).trans hr.2.1,(e 2).trans hr.2.2.1,(e 3).trans hr.2.2.2.1,(e 4).trans hr.2.2.2.2⟩
def uM (w:World) (v:Value) (m:Int):Prop:=∃a n c,v=.slice a n c/\n<=1000000000/\(n=0\/∃q off,a=some ⟨q,off,none⟩/\∀i,i<n->w.cell? ⟨q,off+i*3,none⟩=some (.int .i64 0)/\w.cell? ⟨q,off+i*3+1,none⟩=some (.int .i64 m)/\w.cell? ⟨q,off+i*3+2,none⟩=some (.int .i64 0))
section
variable {w W:World} {v:Value} {m:Int}
theorem pR.fr (h:pR w v m) (hf:Fr (fun _=>False) w W (fun _=>False)):pR W v m:=by
 obtain⟨a,n,c,hv,hn,hc⟩:=h
 refine⟨a,n,c,hv,hn,hc.imp id fun ⟨q,off,e,hcell⟩=>⟨q,off,e,fun i hi=>?_⟩⟩
 exact(hf.cell q (off+i) (zU w _ (hcell i hi)) (fun h=>h)).trans (hcell i hi)
theorem uM.fr (h:uM w v m) (hf:Fr (fun _=>False) w W (fun _=>False)):uM W v m:=by
 obtain⟨a,n,c,hv,hn,hc⟩:=h
 refine⟨a,n,c,hv,hn,hc.imp id fun ⟨q,off,e,hcell⟩=>⟨q,off,e,fun i hi=>?_⟩⟩
 obtain⟨h0,h1,h2⟩:=hcell i hi
 have hq:=zU w _ h0
 exact⟨(hf.cell q _ hq (fun h=>h)).trans h0,(hf.cell q _ hq (fun h=>h)).trans h1,(hf.cell q _ hq (fun h=>h)).trans h2⟩
theorem pS.fr (h:pS w v m) (hf:Fr (fun _=>False) w W (fun _=>False)):pS W v m:=by
 obtain⟨a,n,c,hv,hn,hc⟩:=h
 refine⟨a,n,c,hv,hn,hc.imp id fun ⟨q,off,e,hcell⟩=>⟨q,off,e,fun i hi=>?_⟩⟩
 obtain⟨h0,h1,h2,h3⟩:=hcell i hi
 have hq:=zU w _ h0
 exact⟨(hf.cell q _ hq (fun h=>h)).trans h0,(hf.cell q _ hq (fun h=>h)).trans h1,(hf.cell q _ hq (fun h=>h)).trans h2,(hf.cell q _ hq (fun h=>h)).trans h3⟩
end
theorem rB {w:World} {v:Value} {m:Int} (h:uM w v m):Calls Tryz.prog 48 #[v,.int .i64 m] w fun e w'=>e=.returned (.bool true)/\Fr (fun _=>False) w w' (fun _=>False):=by
 obtain⟨a,n,c,rfl,hn,hc⟩:=h
 have HC:=zZ hc
 clear hc
 go_enter Tryz.func48,Tryz.ntmps48
 go_wp2
 have hf1:Fr (fun _=>False) w (w.alloc (.cells #[.int .i64 0,.int .i64 m,.int .i64 0] 72)) (fun _=>False):=(Fr.refl _ _).alloc _
 have hb1:=heap_alloc_new w (.cells #[.int .i64 0,.int .i64 m,.int .i64 0] 72)
 generalize hW:w.alloc (.cells #[.int .i64 0,.int .i64 m,.int .i64 0] 72)=W at *
 clear hW
 have HF1:=zZ hf1
 have HB1:=zZ hb1
 clear hf1 hb1
 go_loopw [6] (fun i wr=>∃j:Nat,j<=n/\i=.int .i64 j/\Dr W wr) (fun i _=>n-(intOf i).toNat)
 case atStart=>exact⟨0,Nat.zero_le _,rfl,Dr.refl _⟩
 case round=>
  obtain⟨j,hj,rfl,hd⟩:=hrel
  by_cases hlt:j<n
  ·rcases zY HC with hz | ⟨q,off,rfl,hcq⟩
   ·omega
   obtain⟨g0,g1,g2⟩:=hcq j hlt
   have hq:=zU w _ g0
   have k0:=(hd.cell ⟨q,off+j*3,none⟩).trans (((zY HF1).cell q _ hq (fun h=>h)).trans g0)
   have k1:=(hd.cell ⟨q,off+j*3+1,none⟩).trans (((zY HF1).cell q _ hq (fun h=>h)).trans g1)
   have k2:=(hd.cell ⟨q,off+j*3+2,none⟩).trans (((zY HF1).cell q _ hq (fun h=>h)).trans g2)
   have c1:=fun i=>(hd.cell ⟨w.heap.size,i,none⟩).trans (cell_of_row W _ i _ 72 (0,0) (zY HB1))
   clear hcq HC g0 g1 g2
   have hk0:(0:Int)<=(j:Int):=by omega
   have hk1:(j:Int)<(n:Int):=by omega
   go_wp2
   go_quiet (fail)
   go_wp2
   go_roundw
   case rel=>exact⟨j+1,by omega,by go_num,hd.more _⟩
   case measure=>simp [intOf];omega
  ·have hk1:¬(j:Int)<(n:Int):=by omega
   go_wp2
   go_ret
   refine⟨rfl,?_⟩
   obtain⟨k,rfl⟩:=hd
   exact(zY HF1).drewN k
structure fF (w:World) (B bb:Nat) (n:Int) (vI vE vN:Value) (LI LE LN:List Ent):Prop where
 blk:w.heap[bb]?=some (.cells #[.int .i64 n,vI,vE,vN] 65)
 rI:w.ownsRow B 105 5 vI LI.length (sA LI)
 rE:w.ownsRow B 108 5 vE LE.length (sA LE)
 rN:w.ownsRow B 111 5 vN LN.length (sA LN)
 fI:∀e,e∈LI->pR w e.l e.m/\pR w e.a e.m/\pR w e.b e.m/\pR w e.c e.m
 fE:∀e,e∈LE->uM w e.l e.m/\uM w e.a e.m/\uM w e.b e.m/\uM w e.c e.m
 fN:∀e,e∈LN->pS w e.l e.m/\pS w e.a e.m/\pS w e.b e.m/\pS w e.c e.m
theorem fF.fr {w W:World} {B bb:Nat} {n:Int} {vI vE vN:Value} {LI LE LN:List Ent} (h:fF w B bb n vI vE vN LI LE LN) (hf:Fr (fun _=>False) w W (fun _=>False)):fF W B bb n vI vE vN LI LE LN:=by
 have er:∀{B e size n v xs},w.ownsRow B e size v n xs->W.ownsRow B e size v n xs:=fun hr=>yA hr (fun q hq=>hf.same q (zS hr q hq).2 (fun h=>h))
 exact⟨(hf.same _ (zN.1 h.blk).1 (fun h=>h)).trans h.blk,er h.rI,er h.rE,er h.rN,
  fun e he=>⟨(h.fI e he).1.fr hf,(h.fI e he).2.1.fr hf,(h.fI e he).2.2.1.fr hf,(h.fI e he).2.2.2.fr hf⟩,fun e he=>⟨(h.fE e he).1.fr hf,(h.fE e he).2.1.fr hf,(h.fE e he).2.2.1.fr hf,(h.fE e he).2.2.2.fr hf⟩,fun e he=>⟨(h.fN e he).1.fr hf,(h.fN e he).2.1.fr hf,(h.fN e he).2.2.1.fr hf,(h.fN e he).2.2.2.fr hf⟩⟩
theorem iB {w:World} {B e:Nat} {v:Value} {es:List Ent} (h:w.ownsRow B e 5 v es.length (sA es)) {i:Nat} (hi:i<es.length):∃g c,v=.slice (some ⟨g,0,none⟩) es.length c/\w.cell? ⟨g,i*5,none⟩=some (es[i]).l/\w.cell? ⟨g,i*5+1,none⟩=some (es[i]).a/\w.cell? ⟨g,i*5+2,none⟩=some (es[i]).b/\w.cell? ⟨g,i*5+3,none⟩=some (es[i]).c/\w.cell? ⟨g,i*5+4,none⟩=some (.int .i64 (es[i]).m):=by
 obtain⟨g,c,hv,_,_,hc⟩:=sF h (by omega)
 obtain⟨g0,g1,g2,g3,g4⟩:=cY es i es[i] (List.getElem?_eq_getElem hi)
 exact⟨g,c,hv,hc _ _ g0,hc _ _ g1,hc _ _ g2,hc _ _ g3,hc _ _ g4⟩
theorem pR.shape {w:World} {v:Value} {m:Int} (h:pR w v m):∃a n c,v=.slice a n c:=by obtain⟨a,n,c,hv,_⟩:=h;exact⟨a,n,c,hv⟩
theorem uM.shape {w:World} {v:Value} {m:Int} (h:uM w v m):∃a n c,v=.slice a n c:=by obtain⟨a,n,c,hv,_⟩:=h;exact⟨a,n,c,hv⟩
theorem pS.shape {w:World} {v:Value} {m:Int} (h:pS w v m):∃a n c,v=.slice a n c:=by obtain⟨a,n,c,hv,_⟩:=h;exact⟨a,n,c,hv⟩
theorem zU7 {w:World} {B bb:Nat} {n:Int} {vI vE vN:Value} {LI LE LN:List Ent} (h:fF w B bb n vI vE vN LI LE LN) (hI:LI.length<=1000000000000) (hE:LE.length<=1000000000000) (hN:LN.length<=1000000000000) :
  Calls Tryz.prog 24 #[.pointer (some ⟨bb,0,none⟩)] w fun e w'=>e=.returned (.bool true)/\Fr (fun _=>False) w w' (fun _=>False):=by
 obtain⟨aI,cI,rfl⟩:=yM h.rI
 obtain⟨aE,cE,rfl⟩:=yM h.rE
 obtain⟨aN,cN,rfl⟩:=yM h.rN
 have HB:=zZ h
 clear h
 go_enter Tryz.func24,Tryz.ntmps24
 go_wp2
 go_loopw [3] (fun i wr=>∃j:Nat,j<=LI.length/\i=.int .i64 j/\Fr (fun _=>False) w wr (fun _=>False)) (fun i _=>LI.length-(intOf i).toNat)
 case atStart=>exact⟨0,Nat.zero_le _,rfl,Fr.refl _ _⟩
 case round=>
  obtain⟨j,hj,rfl,hfr⟩:=hrel
  have hb:=(zY HB).fr hfr
  have cb:=fun i=>cell_of_row wr _ i _ 65 (0,0) hb.blk
  by_cases hlt:j<LI.length
  ·obtain⟨g,cc,hv,k0,k1,k2,k3,k4⟩:=iB hb.rI hlt
   injection hv with hv1 hv2 hv3
   subst hv1
   obtain⟨f0,f1,f2,f3⟩:=hb.fI _ (List.getElem_mem hlt)
   generalize LI[j]=e at *
   obtain⟨el,ea,eb,ec,em⟩:=e
   simp only at k0 k1 k2 k3 k4 f0 f1 f2 f3
   obtain⟨a0,n0,c0,rfl⟩:=f0.shape
   obtain⟨a1,n1,c1,rfl⟩:=f1.shape
   obtain⟨a2,n2,c2,rfl⟩:=f2.shape
   obtain⟨a3,n3,c3,rfl⟩:=f3.shape
   have fa:Fr (fun _=>False) wr (wr.alloc (.cells #[.slice a0 n0 c0,.slice a1 n1 c1,.slice a2 n2 c2,.slice a3 n3 c3,.int .i64 em] 105)) (fun _=>False):=(Fr.refl _ _).alloc _
   have xb:=heap_alloc_new wr (.cells #[.slice a0 n0 c0,.slice a1 n1 c1,.slice a2 n2 c2,.slice a3 n3 c3,.int .i64 em] 105)
   have HF:=zZ (fun (W:World) (hW:Fr (fun _=>False) (wr.alloc (.cells #[.slice a0 n0 c0,.slice a1 n1 c1,.slice a2 n2 c2,.slice a3 n3 c3,.int .i64 em] 105)) W (fun _=>False))=>And.intro (f0.fr (fa.trans hW)) (And.intro (f1.fr (fa.trans hW)) (And.intro (f2.fr (fa.trans hW)) (f3.fr (fa.trans hW)))))
   have HX:=zZ (fun (W:World) (hW:Fr (fun _=>False) (wr.alloc (.cells #[.slice a0 n0 c0,.slice a1 n1 c1,.slice a2 n2 c2,.slice a3 n3 c3,.int .i64 em] 105)) W (fun _=>False)) (i:Nat)=>cell_of_row W _ i _ 105 (0,0) ((hW.same wr.heap.size (by simp) (fun h=>h)).trans xb))
   have H0:=zZ (fun (W:World) (hW:Fr (fun _=>False) (wr.alloc (.cells #[.slice a0 n0 c0,.slice a1 n1 c1,.slice a2 n2 c2,.slice a3 n3 c3,.int .i64 em] 105)) W (fun _=>False))=>(qL (zY HF W hW).1))
   have H1:=zZ (fun (W:World) (hW:Fr (fun _=>False) (wr.alloc (.cells #[.slice a0 n0 c0,.slice a1 n1 c1,.slice a2 n2 c2,.slice a3 n3 c3,.int .i64 em] 105)) W (fun _=>False))=>(qL (zY HF W hW).2.1))
   have H2:=zZ (fun (W:World) (hW:Fr (fun _=>False) (wr.alloc (.cells #[.slice a0 n0 c0,.slice a1 n1 c1,.slice a2 n2 c2,.slice a3 n3 c3,.int .i64 em] 105)) W (fun _=>False))=>(qL (zY HF W hW).2.2.1))
   have H3:=zZ (fun (W:World) (hW:Fr (fun _=>False) (wr.alloc (.cells #[.slice a0 n0 c0,.slice a1 n1 c1,.slice a2 n2 c2,.slice a3 n3 c3,.int .i64 em] 105)) W (fun _=>False))=>(qL (zY HF W hW).2.2.2))
   have FA:=zZ fa
   have FW:=zZ hfr
   have FC:=zZ (Fr.refl (fun _=>False) (wr.alloc (.cells #[.slice a0 n0 c0,.slice a1 n1 c1,.slice a2 n2 c2,.slice a3 n3 c3,.int .i64 em] 105)))
   have hk0:(0:Int)<=(j:Int):=by omega
   have hk1:(j:Int)<(LI.length:Int):=by omega
   have xc:=zY HX _ (zY FC)
   clear f0 f1 f2 f3 fa xb hb hfr hv2 hv3 HF
   go_wp2_with (go_at_call 47;(first | (refine(zY H0 _ (zY FC)).mono ?_;clear H0) | (refine(zY H1 _ (zY FC)).mono ?_;clear H1) | (refine(zY H2 _ (zY FC)).mono ?_;clear H2) | (refine(zY H3 _ (zY FC)).mono ?_;clear H3));rintro e w' ⟨rfl,hw'⟩;rw [hw'];clear hw' w')
   go_roundw
   case rel=>exact⟨j+1,by omega,by go_num,(zY FW).trans (zY FA)⟩
   case measure=>simp [intOf];omega
  ·have hk1:¬(j:Int)<(LI.length:Int):=by omega
   have FW3:=zZ hfr
   clear hb hfr
   go_wp2
   clear cb
   go_loopw [5] (fun i wr=>∃j:Nat,j<=LE.length/\i=.int .i64 j/\Fr (fun _=>False) w wr (fun _=>False)) (fun i _=>LE.length-(intOf i).toNat)
   case atStart=>exact⟨0,Nat.zero_le _,rfl,zY FW3⟩
   case round=>
    obtain⟨j,hj,rfl,hfr⟩:=hrel
    have hb:=(zY HB).fr hfr
    have cb:=fun i=>cell_of_row wr _ i _ 65 (0,0) hb.blk
    by_cases hlt:j<LE.length
    ·obtain⟨g,cc,hv,k0,k1,k2,k3,k4⟩:=iB hb.rE hlt
     injection hv with hv1 hv2 hv3
     subst hv1
     obtain⟨f0,f1,f2,f3⟩:=hb.fE _ (List.getElem_mem hlt)
     generalize LE[j]=e at *
     obtain⟨el,ea,eb,ec,em⟩:=e
     simp only at k0 k1 k2 k3 k4 f0 f1 f2 f3
     obtain⟨a0,n0,c0,rfl⟩:=f0.shape
     obtain⟨a1,n1,c1,rfl⟩:=f1.shape
     obtain⟨a2,n2,c2,rfl⟩:=f2.shape
     obtain⟨a3,n3,c3,rfl⟩:=f3.shape
     have fa:Fr (fun _=>False) wr (wr.alloc (.cells #[.slice a0 n0 c0,.slice a1 n1 c1,.slice a2 n2 c2,.slice a3 n3 c3,.int .i64 em] 108)) (fun _=>False):=(Fr.refl _ _).alloc _
     have xb:=heap_alloc_new wr (.cells #[.slice a0 n0 c0,.slice a1 n1 c1,.slice a2 n2 c2,.slice a3 n3 c3,.int .i64 em] 108)
     have HF:=zZ (fun (W:World) (hW:Fr (fun _=>False) (wr.alloc (.cells #[.slice a0 n0 c0,.slice a1 n1 c1,.slice a2 n2 c2,.slice a3 n3 c3,.int .i64 em] 108)) W (fun _=>False))=>And.intro (f0.fr (fa.trans hW)) (And.intro (f1.fr (fa.trans hW)) (And.intro (f2.fr (fa.trans hW)) (f3.fr (fa.trans hW)))))
     have HX:=zZ (fun (W:World) (hW:Fr (fun _=>False) (wr.alloc (.cells #[.slice a0 n0 c0,.slice a1 n1 c1,.slice a2 n2 c2,.slice a3 n3 c3,.int .i64 em] 108)) W (fun _=>False)) (i:Nat)=>cell_of_row W _ i _ 108 (0,0) ((hW.same wr.heap.size (by simp) (fun h=>h)).trans xb))
     have H0:=zZ (fun (W:World) (hW:Fr (fun _=>False) (wr.alloc (.cells #[.slice a0 n0 c0,.slice a1 n1 c1,.slice a2 n2 c2,.slice a3 n3 c3,.int .i64 em] 108)) W (fun _=>False))=>(rB (zY HF W hW).1))
     have H1:=zZ (fun (W:World) (hW:Fr (fun _=>False) (wr.alloc (.cells #[.slice a0 n0 c0,.slice a1 n1 c1,.slice a2 n2 c2,.slice a3 n3 c3,.int .i64 em] 108)) W (fun _=>False))=>(rB (zY HF W hW).2.1))
     have H2:=zZ (fun (W:World) (hW:Fr (fun _=>False) (wr.alloc (.cells #[.slice a0 n0 c0,.slice a1 n1 c1,.slice a2 n2 c2,.slice a3 n3 c3,.int .i64 em] 108)) W (fun _=>False))=>(rB (zY HF W hW).2.2.1))
     have H3:=zZ (fun (W:World) (hW:Fr (fun _=>False) (wr.alloc (.cells #[.slice a0 n0 c0,.slice a1 n1 c1,.slice a2 n2 c2,.slice a3 n3 c3,.int .i64 em] 108)) W (fun _=>False))=>(rB (zY HF W hW).2.2.2))
     have FA:=zZ fa
     have FW:=zZ hfr
     have FC:=zZ (Fr.refl (fun _=>False) (wr.alloc (.cells #[.slice a0 n0 c0,.slice a1 n1 c1,.slice a2 n2 c2,.slice a3 n3 c3,.int .i64 em] 108)))
     have hk0:(0:Int)<=(j:Int):=by omega
     have hk1:(j:Int)<(LE.length:Int):=by omega
     have xc:=zY HX _ (zY FC)
     clear f0 f1 f2 f3 fa xb hb hfr hv2 hv3 HF
     go_wp2_with (go_at_call 48;(first | (refine(zY H0 _ (zY FC)).mono ?_;clear H0) | (refine(zY H1 _ (zY FC)).mono ?_;clear H1) | (refine(zY H2 _ (zY FC)).mono ?_;clear H2) | (refine(zY H3 _ (zY FC)).mono ?_;clear H3));rintro e w' ⟨rfl,f'⟩;have FC:=zZ ((zY FC).trans f');have xc:=zY HX _ (zY FC);clear f')
     go_roundw
     case rel=>exact⟨j+1,by omega,by go_num,((zY FW).trans (zY FA)).trans (zY FC)⟩
     case measure=>simp [intOf];omega
    ·have hk1:¬(j:Int)<(LE.length:Int):=by omega
     have FW5:=zZ hfr
     clear hb hfr
     go_wp2
     clear cb
     go_loopw [7] (fun i wr=>∃j:Nat,j<=LN.length/\i=.int .i64 j/\Fr (fun _=>False) w wr (fun _=>False)) (fun i _=>LN.length-(intOf i).toNat)
     case atStart=>exact⟨0,Nat.zero_le _,rfl,zY FW5⟩
     case round=>
      obtain⟨j,hj,rfl,hfr⟩:=hrel
      have hb:=(zY HB).fr hfr
      have cb:=fun i=>cell_of_row wr _ i _ 65 (0,0) hb.blk
      by_cases hlt:j<LN.length
      ·obtain⟨g,cc,hv,k0,k1,k2,k3,k4⟩:=iB hb.rN hlt
       injection hv with hv1 hv2 hv3
       subst hv1
       obtain⟨f0,f1,f2,f3⟩:=hb.fN _ (List.getElem_mem hlt)
       generalize LN[j]=e at *
       obtain⟨el,ea,eb,ec,em⟩:=e
       simp only at k0 k1 k2 k3 k4 f0 f1 f2 f3
       obtain⟨a0,n0,c0,rfl⟩:=f0.shape
       obtain⟨a1,n1,c1,rfl⟩:=f1.shape
       obtain⟨a2,n2,c2,rfl⟩:=f2.shape
       obtain⟨a3,n3,c3,rfl⟩:=f3.shape
       have fa:Fr (fun _=>False) wr (wr.alloc (.cells #[.slice a0 n0 c0,.slice a1 n1 c1,.slice a2 n2 c2,.slice a3 n3 c3,.int .i64 em] 111)) (fun _=>False):=(Fr.refl _ _).alloc _
       have xb:=heap_alloc_new wr (.cells #[.slice a0 n0 c0,.slice a1 n1 c1,.slice a2 n2 c2,.slice a3 n3 c3,.int .i64 em] 111)
       have HF:=zZ (fun (W:World) (hW:Fr (fun _=>False) (wr.alloc (.cells #[.slice a0 n0 c0,.slice a1 n1 c1,.slice a2 n2 c2,.slice a3 n3 c3,.int .i64 em] 111)) W (fun _=>False))=>And.intro (f0.fr (fa.trans hW)) (And.intro (f1.fr (fa.trans hW)) (And.intro (f2.fr (fa.trans hW)) (f3.fr (fa.trans hW)))))
       have HX:=zZ (fun (W:World) (hW:Fr (fun _=>False) (wr.alloc (.cells #[.slice a0 n0 c0,.slice a1 n1 c1,.slice a2 n2 c2,.slice a3 n3 c3,.int .i64 em] 111)) W (fun _=>False)) (i:Nat)=>cell_of_row W _ i _ 111 (0,0) ((hW.same wr.heap.size (by simp) (fun h=>h)).trans xb))
       have H0:=zZ (fun (W:World) (hW:Fr (fun _=>False) (wr.alloc (.cells #[.slice a0 n0 c0,.slice a1 n1 c1,.slice a2 n2 c2,.slice a3 n3 c3,.int .i64 em] 111)) W (fun _=>False))=>(rC (zY HF W hW).1))
       have H1:=zZ (fun (W:World) (hW:Fr (fun _=>False) (wr.alloc (.cells #[.slice a0 n0 c0,.slice a1 n1 c1,.slice a2 n2 c2,.slice a3 n3 c3,.int .i64 em] 111)) W (fun _=>False))=>(rC (zY HF W hW).2.1))
       have H2:=zZ (fun (W:World) (hW:Fr (fun _=>False) (wr.alloc (.cells #[.slice a0 n0 c0,.slice a1 n1 c1,.slice a2 n2 c2,.slice a3 n3 c3,.int .i64 em] 111)) W (fun _=>False))=>(rC (zY HF W hW).2.2.1))
       have H3:=zZ (fun (W:World) (hW:Fr (fun _=>False) (wr.alloc (.cells #[.slice a0 n0 c0,.slice a1 n1 c1,.slice a2 n2 c2,.slice a3 n3 c3,.int .i64 em] 111)) W (fun _=>False))=>(rC (zY HF W hW).2.2.2))
       have FA:=zZ fa
       have FW:=zZ hfr
       have FC:=zZ (Fr.refl (fun _=>False) (wr.alloc (.cells #[.slice a0 n0 c0,.slice a1 n1 c1,.slice a2 n2 c2,.slice a3 n3 c3,.int .i64 em] 111)))
       have hk0:(0:Int)<=(j:Int):=by omega
       have hk1:(j:Int)<(LN.length:Int):=by omega
       have xc:=zY HX _ (zY FC)
       clear f0 f1 f2 f3 fa xb hb hfr hv2 hv3 HF
       go_wp2_with (go_at_call 49;(first | (refine(zY H0 _ (zY FC)).mono ?_;clear H0) | (refine(zY H1 _ (zY FC)).mono ?_;clear H1) | (refine(zY H2 _ (zY FC)).mono ?_;clear H2) | (refine(zY H3 _ (zY FC)).mono ?_;clear H3));rintro e w' ⟨rfl,hw'⟩;rw [hw'];clear hw' w')
       go_roundw
       case rel=>exact⟨j+1,by omega,by go_num,(zY FW).trans (zY FA)⟩
       case measure=>simp [intOf];omega
      ·have hk1:¬(j:Int)<(LN.length:Int):=by omega
       have FW7:=zZ hfr
       clear hb hfr
       go_wp2
       go_ret
       exact⟨rfl,zY FW7⟩
end Go.Proofs.YtfmbebofllgmoaaGreatDoor
namespace Go.Proofs.YtfmbebofllgmoaaGreatDoor
open Go.RowKit
def yY (v:Value) (K:Nat->Prop):Prop:=∀q off n c,v=.slice (some ⟨q,off,none⟩) n c->0<n->K q
theorem yY.mono {v:Value} {K K':Nat->Prop} (h:yY v K) (hk:∀q,K q->K' q):yY v K':=fun q off n c hv hn=>hk q (h q off n c hv hn)
section
variable {w W:World} {v:Value} {m:Int} {K:Nat->Prop}
theorem pR.keep (h:pR w v m) (hl:yY v K) (hk:∀q,K q->W.heap[q]?=w.heap[q]?):pR W v m:=by
 obtain⟨a,n,c,rfl,hn,hc⟩:=h
 refine⟨a,n,c,rfl,hn,?_⟩
 rcases Nat.eq_zero_or_pos n with h0 | h0
 ·exact .inl h0
 rcases hc with h1 | ⟨q,off,rfl,hcell⟩
 ·omega
 have hq:=hk q (hl q off n c rfl h0)
 exact .inr ⟨q,off,rfl,fun i hi=>by rw [yU hq];exact hcell i hi⟩
theorem uM.keep (h:uM w v m) (hl:yY v K) (hk:∀q,K q->W.heap[q]?=w.heap[q]?):uM W v m:=by
 obtain⟨a,n,c,rfl,hn,hc⟩:=h
 refine⟨a,n,c,rfl,hn,?_⟩
 rcases Nat.eq_zero_or_pos n with h0 | h0
 ·exact .inl h0
 rcases hc with h1 | ⟨q,off,rfl,hcell⟩
 ·omega
 have hq:=hk q (hl q off n c rfl h0)
 exact .inr ⟨q,off,rfl,fun i hi=>by rw [yU hq,yU hq,yU hq];exact hcell i hi⟩
theorem pS.keep (h:pS w v m) (hl:yY v K) (hk:∀q,K q->W.heap[q]?=w.heap[q]?):pS W v m:=by
 obtain⟨a,n,c,rfl,hn,hc⟩:=h
 refine⟨a,n,c,rfl,hn,?_⟩
 rcases Nat.eq_zero_or_pos n with h0 | h0
 ·exact .inl h0
 rcases hc with h1 | ⟨q,off,rfl,hcell⟩
 ·omega
 have hq:=hk q (hl q off n c rfl h0)
 exact .inr ⟨q,off,rfl,fun i hi=>by rw [yU hq,yU hq,yU hq,yU hq];exact hcell i hi⟩
theorem oP:yY v (own v):=fun q off n' c hv _=>by
 rw [hv];rfl
end
structure rH (w:World) (B bb:Nat) (n:Int) (vI vE vN:Value) (LI LE LN:List Ent) (K:Nat->Prop):Prop where
 bk:fF w B bb n vI vE vN LI LE LN
 lI:∀e,e∈LI->yY e.l K/\yY e.a K/\yY e.b K/\yY e.c K
 lE:∀e,e∈LE->yY e.l K/\yY e.a K/\yY e.b K/\yY e.c K
 lN:∀e,e∈LN->yY e.l K/\yY e.a K/\yY e.b K/\yY e.c K
 apart:∀q,K q->q<w.heap.size/\q≠bb/\¬own vI q/\¬own vE q/\¬own vN q
theorem rH.fr {w W:World} {B bb:Nat} {n:Int} {vI vE vN:Value} {LI LE LN:List Ent} {K:Nat->Prop} (h:rH w B bb n vI vE vN LI LE LN K) (hf:Fr (fun _=>False) w W (fun _=>False)):rH W B bb n vI vE vN LI LE LN K:=
 ⟨h.bk.fr hf,h.lI,h.lE,h.lN,fun q hq=>⟨zT (h.apart q hq).1 hf.size,(h.apart q hq).2⟩⟩
theorem lA {ops:Array Oper} {rest:List Oper} {o:Oper} {a:Act} {Q:Exit->Act->World->Prop} {w:World} {B t e size bytes:Nat} (E:kJ t e size bytes) (hs0:0<size) (hs1:bytes<=200) {v:Value} {n m:Nat} {xs news:List Value} (hgd:o.guard=none) (sv xv:Operand)
  (ho:o.op=.call {callee:=.builtin .append,args:=#[sv,xv],argTypes:=#[t,t]}) {ad:Addr} {cap:Nat} (hs:a.eval sv=v) (hx:a.eval xv=.slice (some ad) m cap) (hrow:w.ownsRow B e size v n xs) (hl:news.length=m*size)
  (hc:∀j u,news[j]?=some u->w.cell? (ad.add j)=some u) (h1:∀u∈news,u.oneCell'=true) (hm:0<m) (hn:n+m<=100000000000) (hB:B<=w.heap.size)
  (h:∀v' w',(∃a c,v'=.slice a (n+m) c)->w'.ownsRow B e size v' (n+m) (xs++news)->
   ((∃g cp,v=.slice (some ⟨g,0,none⟩) n cp/\v'=.slice (some ⟨g,0,none⟩) (n+m) cp/\n+m<=cp/\w.grownBy w' (some g))\/(w.grownBy w' none/\∀q,own v' q->w.heap.size<=q))->wpList Tryz.prog ops Q rest (a.put o.dst v') w'):wpList Tryz.prog ops Q (o::rest) a w:=by
 obtain⟨i,z,hi,hz,hsz,hby,hzc⟩:=E.i
 have hmx:n+m<=maxLen:=by simp only [maxLen];omega
 have hbb:(n+m)*bytes<=140737488355328:=Nat.le_trans (Nat.mul_le_mul hn hs1) (by omega)
 have hlen:xs.length=n*size:=hrow.1
 have fresh:∀v' w',w'.ownsRow w.heap.size e size v' (n+m) (xs++news)->w.grownBy w' none->wpList Tryz.prog ops Q rest (a.put o.dst v') w':=fun v' w' r1 r2=>
  h v' w' (yM r1) (sU r1 hB) (.inr ⟨r2,fun q hq=>(zS r1 q hq).1⟩)
 rcases hrow.2 with ⟨hv,h0⟩ | ⟨g,cp,cur,hv,hBg,hg,hcp,hcm,hcs,htk⟩
 ·subst h0
  have hx0:xs=[]:=List.eq_nil_of_length_eq_zero (by rw [hlen];simp)
  refine wpList_append_grows (P:=Tryz.prog) w hgd sv xv t ho e i z size bytes E.u hi hz hsz hby hzc hs0 none 0 0 xs (by rw [hs,hv]) (fun _=>⟨rfl,rfl⟩) (by rw [hx0];simp) (fun b hb=>by cases hb) ad m cap news hx hl hc h1 (by omega) hmx hbb fresh
 ·by_cases hr:n+m<=cp
  ·refine wpList_append_own_spare (P:=Tryz.prog) w hgd sv xv t ho B e i size E.u hi hsz g n cp xs (by rw [hs,hv]) (hv▸hrow) ad m cap news hx hl hc h1 hr ?_
   intro w' r1 r2
   exact h _ w' ⟨_,_,rfl⟩ r1 (.inl ⟨g,cp,hv,rfl,hr,r2⟩)
  ·refine wpList_append_grows (P:=Tryz.prog) w hgd sv xv t ho e i z size bytes E.u hi hz hsz hby hzc hs0 (some ⟨g,0,none⟩) n cp xs (by rw [hs,hv]) (fun h=>by cases h) hlen (fun b hb j u hj=>?_) ad m cap news hx hl hc h1 (by omega) hmx hbb fresh
   cases hb
   obtain⟨g2,c2,hv2,_,_,hcell⟩:=sF hrow (by
    have:=(List.getElem?_eq_some_iff.1 hj).1
    rw [hlen] at this
    rcases Nat.eq_zero_or_pos n with h0 | h0
    ·rw [h0] at this;simp at this
    ·exact h0)
   rw [hv] at hv2
   cases hv2
   have hh:=hcell j u hj
   rw [show Addr.add ⟨g,0,none⟩ j=⟨g,j,none⟩ by rw [tL,Nat.zero_add]]
   exact hh
theorem Fr.widen {S S' T:Nat->Prop} {w w':World} (h:Fr S w w' S') (hs:∀q,S q->T q):Fr T w w' T:=
 ⟨h.os,h.tape,h.output,h.size,fun k hk hn=>h.same k hk (fun e=>hn (hs k e)),fun _ _ h=>h⟩
theorem zA7 {w:World} {q:Nat} {a b:Array Value} {s t:Nat} (h1:w.heap[q]?=some (.cells a s (0,0))) (h2:w.heap[q]?=some (.cells b t (0,0))):s=t:=by
 rw [h1] at h2
 injection h2 with h2
 injection h2
theorem uB {w:World} {B e size n q t:Nat} {v:Value} {xs:List Value} {c:Array Value} (h:w.ownsRow B e size v n xs) (hq:w.heap[q]?=some (.cells c t (0,0))) (ht:t≠e):¬own v q:=fun ho=>by
 obtain⟨cur,hc⟩:=mT h ho
 exact ht (zA7 hq hc)
section
variable {w W:World} {B bb:Nat} {n n':Int} {vI vE vN v':Value} {LI LE LN:List Ent} {K K2 T:Nat->Prop} {e:Ent}
theorem rH.mid (h:rH w B bb n vI vE vN LI LE LN K) (hf:Fr T w W T) (hT:∀q,q<w.heap.size->T q->q=bb\/(¬K q/\¬own vI q/\¬own vE q/\¬own vN q)) (hbb:W.heap[bb]?=some (.cells #[.int .i64 n',vI,vE,vN] 65)):rH W B bb n' vI vE vN LI LE LN K:=by
 have rI:∀q,own vI q->W.heap[q]?=w.heap[q]?:=fun q hq=>hf.same q (zS h.bk.rI q hq).2 (fun ht=>by
  rcases hT q (zS h.bk.rI q hq).2 ht with rfl | hh
  ·exact uB h.bk.rI h.bk.blk (by decide) hq
  ·exact hh.2.1 hq)
 have rE:∀q,own vE q->W.heap[q]?=w.heap[q]?:=fun q hq=>hf.same q (zS h.bk.rE q hq).2 (fun ht=>by
  rcases hT q (zS h.bk.rE q hq).2 ht with rfl | hh
  ·exact uB h.bk.rE h.bk.blk (by decide) hq
  ·exact hh.2.2.1 hq)
 have rN:∀q,own vN q->W.heap[q]?=w.heap[q]?:=fun q hq=>hf.same q (zS h.bk.rN q hq).2 (fun ht=>by
  rcases hT q (zS h.bk.rN q hq).2 ht with rfl | hh
  ·exact uB h.bk.rN h.bk.blk (by decide) hq
  ·exact hh.2.2.2 hq)
 have hk:∀q,K q->W.heap[q]?=w.heap[q]?:=fun q hq=>hf.same q (h.apart q hq).1 (fun ht=>by
  rcases hT q (h.apart q hq).1 ht with e | hh
  ·exact(h.apart q hq).2.1 e
  ·exact hh.1 hq)
 refine⟨⟨hbb,yA h.bk.rI rI,yA h.bk.rE rE,yA h.bk.rN rN,fun e he=>?_,fun e he=>?_,fun e he=>?_⟩,h.lI,h.lE,h.lN,fun q hq=>⟨zT (h.apart q hq).1 hf.size,(h.apart q hq).2⟩⟩
 ·obtain⟨f1,f2,f3,f4⟩:=h.bk.fI e he
  obtain⟨l1,l2,l3,l4⟩:=h.lI e he
  exact⟨f1.keep l1 hk,f2.keep l2 hk,f3.keep l3 hk,f4.keep l4 hk⟩
 ·obtain⟨f1,f2,f3,f4⟩:=h.bk.fE e he
  obtain⟨l1,l2,l3,l4⟩:=h.lE e he
  exact⟨f1.keep l1 hk,f2.keep l2 hk,f3.keep l3 hk,f4.keep l4 hk⟩
 ·obtain⟨f1,f2,f3,f4⟩:=h.bk.fN e he
  obtain⟨l1,l2,l3,l4⟩:=h.lN e he
  exact⟨f1.keep l1 hk,f2.keep l2 hk,f3.keep l3 hk,f4.keep l4 hk⟩
theorem rH.addE (h:rH w B bb n vI vE vN LI LE LN K) (hfull:uM w e.l e.m/\uM w e.a e.m/\uM w e.b e.m/\uM w e.c e.m) (hl:yY e.l K2/\yY e.a K2/\yY e.b K2/\yY e.c K2) (hk2:∀q,K2 q->∃cur,w.heap[q]?=some (.cells cur 72 (0,0)))
  (hr:W.ownsRow B 108 5 v' (LE.length+1) (sA LE++[e.l,e.a,e.b,e.c,.int .i64 e.m])) (hf:Fr (own vE) w W (own v')):rH (W.setCell ⟨bb,2,none⟩ v') B bb n vI v' vN LI (LE++[e]) LN (fun q=>K q\/K2 q):=by
 have hbl:=(zN.1 h.bk.blk).1
 have hbn:¬own vE bb:=uB h.bk.rE h.bk.blk (by decide)
 have hbW:W.heap[bb]?=some (.cells #[.int .i64 n,vI,vE,vN] 65):=(hf.same bb hbl hbn).trans h.bk.blk
 have hsz:(W.setCell ⟨bb,2,none⟩ v').heap.size=W.heap.size:=by simp [World.setCell]
 have kq:∀q,q≠bb->(W.setCell ⟨bb,2,none⟩ v').heap[q]?=W.heap[q]?:=fun q hq=>zQ _ _ _ _ hq
 have keepq:∀q,q<w.heap.size->¬own vE q->q≠bb->(W.setCell ⟨bb,2,none⟩ v').heap[q]?=w.heap[q]?:=fun q h1 h2 h3=>(kq q h3).trans (hf.same q h1 h2)
 have rI:∀q,own vI q->(W.setCell ⟨bb,2,none⟩ v').heap[q]?=w.heap[q]?:=fun q hq=>by
  obtain⟨cur,hc⟩:=mT h.bk.rI hq
  exact keepq q (zS h.bk.rI q hq).2 (uB h.bk.rE hc (by decide)) (fun e=>uB h.bk.rI h.bk.blk (by decide) (e▸hq))
 have rN:∀q,own vN q->(W.setCell ⟨bb,2,none⟩ v').heap[q]?=w.heap[q]?:=fun q hq=>by
  obtain⟨cur,hc⟩:=mT h.bk.rN hq
  exact keepq q (zS h.bk.rN q hq).2 (uB h.bk.rE hc (by decide)) (fun e=>uB h.bk.rN h.bk.blk (by decide) (e▸hq))
 have hrow:(W.setCell ⟨bb,2,none⟩ v').ownsRow B 108 5 v' (LE++[e]).length (sA (LE++[e])):=by
  rw [aB,List.length_append]
  exact yA hr (fun q hq=>kq q (fun e=>uB hr hbW (by decide) (e▸hq)))
 have hk:∀q,K q->(W.setCell ⟨bb,2,none⟩ v').heap[q]?=w.heap[q]?:=fun q hq=>keepq q (h.apart q hq).1 (h.apart q hq).2.2.2.1 (h.apart q hq).2.1
 have a2:∀q,K2 q->q<w.heap.size/\q≠bb/\¬own vI q/\¬own vE q/\¬own vN q:=fun q hq=>by
  obtain⟨cur,hc⟩:=hk2 q hq
  exact⟨(zN.1 hc).1,fun e=>absurd (zA7 (e▸hc) h.bk.blk) (by decide),uB h.bk.rI hc (by decide),uB h.bk.rE hc (by decide),uB h.bk.rN hc (by decide)⟩
 have hk2':∀q,K2 q->(W.setCell ⟨bb,2,none⟩ v').heap[q]?=w.heap[q]?:=fun q hq=>keepq q (a2 q hq).1 (a2 q hq).2.2.2.1 (a2 q hq).2.1
 have hset:=yE W bb 2 _ 65 v' hbW
 have fold:∀{P:World->Value->Int->Prop} {L:List Ent},(∀v m,P w v m->yY v K->P (W.setCell ⟨bb,2,none⟩ v') v m)->(∀e,e∈L->P w e.l e.m/\P w e.a e.m/\P w e.b e.m/\P w e.c e.m)->(∀e,e∈L->yY e.l K/\yY e.a K/\yY e.b K/\yY e.c K)->∀e,e∈L->P (W.setCell ⟨bb,2,none⟩ v') e.l e.m/\P (W.setCell ⟨bb,2,none⟩ v') e.a e.m/\P (W.setCell ⟨bb,2,none⟩ v') e.b e.m/\P (W.setCell ⟨bb,2,none⟩ v') e.c e.m:=fun hp hf hl e he=>
  ⟨hp _ _ (hf e he).1 (hl e he).1,hp _ _ (hf e he).2.1 (hl e he).2.1,hp _ _ (hf e he).2.2.1 (hl e he).2.2.1,hp _ _ (hf e he).2.2.2 (hl e he).2.2.2⟩
 have gI:=fold (P:=pR) (fun v m hp hl=>hp.keep hl hk) h.bk.fI h.lI
 have gE:=fold (P:=uM) (fun v m hp hl=>hp.keep hl hk) h.bk.fE h.lE
 have gN:=fold (P:=pS) (fun v m hp hl=>hp.keep hl hk) h.bk.fN h.lN
 have lift:∀{L:List Ent},(∀e,e∈L->yY e.l K/\yY e.a K/\yY e.b K/\yY e.c K)->∀e,e∈L->yY e.l (fun q=>K q\/K2 q)/\yY e.a (fun q=>K q\/K2 q)/\yY e.b (fun q=>K q\/K2 q)/\yY e.c (fun q=>K q\/K2 q):=fun hl e he=>
  ⟨(hl e he).1.mono fun _=>.inl,(hl e he).2.1.mono fun _=>.inl,(hl e he).2.2.1.mono fun _=>.inl,(hl e he).2.2.2.mono fun _=>.inl⟩
 have gE':∀x,x∈LE++[e]->uM (W.setCell ⟨bb,2,none⟩ v') x.l x.m/\uM (W.setCell ⟨bb,2,none⟩ v') x.a x.m/\uM (W.setCell ⟨bb,2,none⟩ v') x.b x.m/\uM (W.setCell ⟨bb,2,none⟩ v') x.c x.m:=fun x hx=>by
  rcases List.mem_append.1 hx with hx | hx
  ·exact gE x hx
  ·rw [List.mem_singleton] at hx
   subst hx
   exact⟨hfull.1.keep hl.1 hk2',hfull.2.1.keep hl.2.1 hk2',hfull.2.2.1.keep hl.2.2.1 hk2',hfull.2.2.2.keep hl.2.2.2 hk2'⟩
 have lE':∀x,x∈LE++[e]->yY x.l (fun q=>K q\/K2 q)/\yY x.a (fun q=>K q\/K2 q)/\yY x.b (fun q=>K q\/K2 q)/\yY x.c (fun q=>K q\/K2 q):=fun x hx=>by
  rcases List.mem_append.1 hx with hx | hx
  ·exact lift h.lE x hx
  ·rw [List.mem_singleton] at hx
   subst hx
   exact⟨hl.1.mono fun _=>.inr,hl.2.1.mono fun _=>.inr,hl.2.2.1.mono fun _=>.inr,hl.2.2.2.mono fun _=>.inr⟩
 have nv:∀q,q<w.heap.size->¬own vE q->¬own v' q:=fun q hq hn hv=>hn (hf.old q hq hv)
 refine⟨⟨hset,yA h.bk.rI rI,hrow,yA h.bk.rN rN,gI,gE',gN⟩,lift h.lI,lE',lift h.lN,fun q hq=>?_⟩
 rw [hsz]
 rcases hq with hq | hq
 ·obtain⟨x0,x1,x2,x3,x4⟩:=h.apart q hq
  exact⟨zT x0 hf.size,x1,x2,nv q x0 x3,x4⟩
 ·obtain⟨x0,x1,x2,x3,x4⟩:=a2 q hq
  exact⟨zT x0 hf.size,x1,x2,nv q x0 x3,x4⟩
end
theorem xX {ops:Array Oper} {o:Oper} {a:Act} {K:Act->World->Prop} {Q:Exit->Act->World->Prop} {E':Prop} {w:World} {B t e size bytes d:Nat} (hd:o.dst=some d) (E:kJ t e size bytes) (hs0:0<size) (hs1:bytes<=140) {v:Value} {n m:Nat} {xs news:List Value} (hgd:o.guard=none) (sv xv:Operand)
  (ho:o.op=.call {callee:=.builtin .append,args:=#[sv,xv],argTypes:=#[t,t]}) {ad:Addr} {cap:Nat} (hs:a.eval sv=v) (hx:a.eval xv=.slice (some ad) m cap) (hrow:w.ownsRow B e size v n xs) (hl:news.length=m*size)
  (hc:∀j u,news[j]?=some u->w.cell? (ad.add j)=some u) (h1:∀u∈news,u.oneCell'=true) (hm:0<m) (hn:n+m<=1000000000000) (hB:B<=w.heap.size)
  (h:∀v' w',w'.ownsRow B e size v' (n+m) (xs++news)->Fr (own v) w w' (own v')->(∃a c,v'=.slice a (n+m) c)->K ⟨a.tmps.setIfInBounds d v',a.defers⟩ w'):if Region.wanted o (yielded ops a.tmps)=true then Oper.wp Tryz.prog o a w K Q else E':=by
 obtain⟨i,z,hi,hz,hsz,hby,hzc⟩:=E.i
 have hmx:n+m<=maxLen:=by simp only [maxLen];omega
 have hbb:(n+m)*bytes<=140737488355328:=Nat.le_trans (Nat.mul_le_mul hn hs1) (by omega)
 refine step_append_lies _ hgd sv xv t ho B e i z size bytes E.u hi hz hsz hby hzc hs0 v n xs hs hrow ad m cap news hx hl hc h1 hm hmx hbb hB w.heap.size rfl ?_
 intro g cp w' h1 h2 h3 h4
 have hh:=h _ w' h1 (jE h2 h3) ⟨_,_,rfl⟩
 rw [hd]
 exact hh
end Go.Proofs.YtfmbebofllgmoaaGreatDoor
namespace Go.Proofs.YtfmbebofllgmoaaGreatDoor
open Go.RowKit
attribute [local go_sem ↓] Go.wp_at_zero Go.wp_at_succ
theorem zC9:kJ 178 210 3 24:=lD _ _ _ _ (.agg #[.int .i64 0,.int .i64 0,.int .i64 0]) Tryz.underlying178 (by kernel_rfl) rfl
theorem Fr.more {S:Nat->Prop} {w w' w'':World} {v v':Value} (h:Fr S w w' S) (hg:Fr (own v) w' w'' (own v')) (hv:∀q,own v q->w.heap.size<=q):Fr S w w'' S:=
 ⟨hg.os.trans h.os,hg.tape.trans h.tape,hg.output.trans h.output,Nat.le_trans h.size hg.size,fun k hk hn=>(hg.same k (zT hk h.size) (fun e=>by have:=hv k e;omega)).trans (h.same k hk hn),fun _ _ h=>h⟩
theorem kW {w:World} {B:Nat} {v:Value} {A:List AT} (h:w.ownsRow B 210 3 v A.length (sZ A)) {i:Nat} {p:AT} (hi:A[i]?=some p):∃g c,v=.slice (some ⟨g,0,none⟩) A.length c/\w.cell? ⟨g,i*3,none⟩=some (.int .i64 p.1.2.2.2)/\w.cell? ⟨g,i*3+1,none⟩=some (.int .i64 p.1.2.1)/\w.cell? ⟨g,i*3+2,none⟩=some (.int .i64 p.2):=by
 obtain⟨g,c,hv,_,_,hc⟩:=sF h (by have:=(List.getElem?_eq_some_iff.1 hi).1;omega)
 obtain⟨g0,g1,g2⟩:=cZ A i p hi
 exact⟨g,c,hv,hc _ _ g0,hc _ _ g1,hc _ _ g2⟩
section
variable {σ:Type} {SQ:(Nat->Value)->(Nat->Prop)->World->σ->Prop} {B:Nat} {S T:Nat->Prop} {w:World} {b:Nat} {pv:Nat->Value} {vt va:Value} {s:PS} {A:List AT} {tn sq:Int} {x:σ}
def zZ5 (SQ:(Nat->Value)->(Nat->Prop)->World->σ->Prop) (B:Nat) (S:Nat->Prop) (w:World) (b:Nat) (pv:Nat->Value) (vt:Value) (T:Nat->Prop) (tn sq:Int) (s:PS) (A:List AT) (x:σ) (w':World):Prop:=
 ∃S' va',LQ SQ B S' w' b pv vt va' T s A tn sq x/\Fr S w w' S'
def tZ (A:List AT) (z:Int):List AT:=A.filter fun p=>decide (p.1.2.2.2≠z)
theorem zS7 (A:List AT) (z:Int) (k:Nat) (p:AT) (h:A[k]?=some p):tZ (A.take (k+1)) z=tZ (A.take k) z++(if p.1.2.2.2=z then [] else [p]):=by
 unfold tZ
 rw [List.take_add_one,h,List.filter_append]
 by_cases e:p.1.2.2.2=z<;>simp [e]
theorem zC5 (A:List AT) (z:Int):(tZ A z).length<=A.length:=List.length_filter_le _ _
theorem mH (L:sW SQ B) (h:LQ SQ B S w b pv vt va T s A tn sq x) (z:Int) (hz:0<=z) (ha:s.armings<=5000) :
  Calls Tryz.prog 140 #[.pointer (some ⟨b,0,none⟩),.int .i64 z] w fun e w'=>e=.returned (.tuple #[])/\zZ5 SQ B S w b pv vt T tn sq {s with tim:=upd s.tim z.toNat (false,(s.tim z.toNat).2)} (tZ A z) x w':=by
 obtain⟨aa,ca,rfl⟩:=yM h.arow
 have hlen:A.length<=5000:=by have:=h.rel.len;omega
 have hb:=h.blt
 have H:=zZ h
 have HB:=zZ h.below
 clear h
 go_enter Tryz.func140,Tryz.ntmps140
 go_wp2
 go_loopw [4,5] (fun l i wr=>∃k:Nat,k<=A.length/\i=.int .i64 k/\∃la lc,l=.slice la (tZ (A.take k) z).length lc/\Hid (wr.ownsRow w.heap.size 210 3 (.slice la (tZ (A.take k) z).length lc) (tZ (A.take k) z).length (sZ (tZ (A.take k) z))/\Fr (fun _=>False) w wr (fun _=>False))) (fun _ i _=>A.length-(intOf i).toNat)
 case atStart=>exact⟨0,Nat.zero_le _,rfl,none,0,rfl,zX _ _ _ _,Fr.refl _ _⟩
 case round=>
  obtain⟨k,hk,rfl,la,lc,rfl,hh⟩:=hrel
  have hbr:b<wr.heap.size:=zT hb (zY hh).2.size
  have hr:=(zY H).fr L (zY hh).2
  have c16:=(hr.cell 16 (by omega)).trans (by rw [vG])
  have z16:=hr.free 16 (by omega)
  by_cases hlt:k<A.length
  ·obtain⟨p,hp⟩ : ∃p,A[k]?=some p:=⟨_,List.getElem?_eq_getElem hlt⟩
   obtain⟨g,cg,hv,q0,q1,q2⟩:=kW hr.arow hp
   injection hv with hv hv2 hv3
   subst hv
   clear hv2 hv3
   have hk0:(0:Int)<=(k:Int):=by omega
   have hk1:(k:Int)<(A.length:Int):=by omega
   have hgl:=zU _ _ q0
   have htk:=zS7 A z k p hp
   have hle:(tZ (A.take k) z).length<=5000:=by have:=zC5 (A.take k) z;rw [List.length_take] at this;omega
   have HTK:=zZ htk
   have HH:=zZ (zY hh)
   clear hr hh htk hp
   by_cases e:p.1.2.2.2=z
   ·have e':(p.1.2.2.2 != z)=false:=by simp [e]
    go_wp2
    go_roundw
    case rel=>
     refine⟨k+1,by omega,by go_num,la,lc,?_⟩
     rw [zY HTK,if_pos e,List.append_nil]
     exact⟨rfl,HH⟩
    case measure=>simp [intOf];omega
   ·have e':(p.1.2.2.2 != z)=true:=by simp [e]
    have nb:=heap_alloc_new wr (.cells #[.int .i64 p.1.2.2.2,.int .i64 p.1.2.1,.int .i64 p.2] 210)
    have NB:=zZ nb
    have RA:=zZ (World.ownsRow.alloc (zY HH).1 (.cells #[.int .i64 p.1.2.2.2,.int .i64 p.1.2.1,.int .i64 p.2] 210))
    have hwz:w.heap.size<=(wr.alloc (.cells #[.int .i64 p.1.2.2.2,.int .i64 p.1.2.1,.int .i64 p.2] 210)).heap.size:=by have:=(zY HH).2.size;simp;omega
    clear nb
    go_wp2_with (at_builtin;refine gG zC9 (by omega) (by omega) (B:=w.heap.size) (n:=(tZ (A.take k) z).length) (m:=1) (xs:=sZ (tZ (A.take k) z)) (news:=[.int .i64 p.1.2.2.2,.int .i64 p.1.2.1,.int .i64 p.2]) rfl (.tmp 25) (.tmp 33) rfl (ad:=⟨wr.heap.size,0,none⟩) (cap:=1) rfl rfl (zY RA) rfl (World.news_of_block (zY NB)) (by simp [Value.oneCell']) (by omega) (by omega) hwz ?_;intro v3 w3 o3 f3 sh3;obtain⟨av,cv,rfl⟩:=sh3;have O3:=zZ o3;have F3:=zZ f3;clear o3 f3)
    go_roundw
    case rel=>
     refine⟨k+1,by omega,by go_num,av,cv,?_⟩
     rw [zY HTK,if_neg e,List.length_append,rA]
     exact⟨rfl,zY O3,Fr.more ((zY HH).2.alloc _) (zY F3) (fun q hq=>(zS (zY HH).1 q hq).1)⟩
    case measure=>simp [intOf];omega
  ·have hkl:k=A.length:=by omega
   subst hkl
   have hk1:¬(A.length:Int)<(A.length:Int):=by omega
   rw [List.take_length] at hh ⊢
   have hwf:=(zY hh).2
   have hfin:=(zY H).setArmed L (A':=tZ A z) (s':={s with tim:=upd s.tim z.toNat (false,(s.tim z.toNat).2)}) (sO (zY hh).1 (zY HB)) (w1:=wr) ⟨hwf.os,hwf.tape,hwf.output,hwf.size,fun k hk _=>hwf.same k hk (fun h=>h),fun q hq hv=>absurd (zS (zY hh).1 q hv).1 (by omega)⟩ ((zY H).rel.cancel z hz) rfl rfl rfl rfl rfl rfl rfl
   have HF:=zZ hfin
   clear hr hh hfin hwf
   go_wp2
   go_end0
   exact⟨rfl,_,_,(zY HF).1,(zY HF).2⟩
end
section
variable {σ:Type} {SQ:(Nat->Value)->(Nat->Prop)->World->σ->Prop} {B:Nat} {S T:Nat->Prop} {w:World} {b:Nat} {pv:Nat->Value} {vt va:Value} {s:PS} {A:List AT} {tn sq:Int} {x:σ}
theorem yA2 (L:sW SQ B) (h:LQ SQ B S w b pv vt va T s A tn sq x) (z v:Int) (hz:0<=z) (hz8:z<8) (ha:s.armings<=5000) (hc:0<=s.clock/\s.clock<=1099511627776) :
  Calls Tryz.prog 139 #[.pointer (some ⟨b,0,none⟩),.int .i64 z,.int .i64 v] w fun e w'=>e=.returned (.tuple #[])/\zZ5 SQ B S w b pv vt T tn sq {s with armings:=s.armings+1,tim:=upd s.tim z.toNat (true,s.clock+min (max v 0) (1099511627776-s.clock),s.armings+1,z)} (tZ A z++[((true,s.clock+min (max v 0) (1099511627776-s.clock),s.armings+1,z),tn)]) x w':=by
 obtain⟨c0,c1⟩:=hc
 have hrel:=h.rel.arm z (s.clock+min (max v 0) (1099511627776-s.clock)) hz hz8
 have hlen:(tZ A z).length<=5000:=by have:=h.rel.len;have:=zC5 A z;omega
 obtain⟨at_,hat⟩ : ∃at_,s.clock+min (max v 0) (1099511627776-s.clock)=at_:=⟨_,rfl⟩
 rw [hat] at hrel ⊢
 have HAT:=zZ hat
 have HR:=zZ hrel
 have HC:=zZ (mH L h z hz ha)
 clear h hrel hat
 go_enter Tryz.func139,Tryz.ntmps139
 go_wp2_with fail
 go_at_call 140
 refine(zY HC).mono ?_
 rintro e w1 ⟨rfl,S1,va1,h1,f1⟩
 obtain⟨aa,ca,rfl⟩:=yM h1.arow
 have k14:=(h1.cell 14 (by omega)).trans (by rw [tC])
 have k15:=(h1.cell 15 (by omega)).trans (by rw [uQ])
 have k16:=(h1.cell 16 (by omega)).trans (by rw [vG])
 have z16:=h1.free 16 (by omega)
 have hb:=h1.blt
 have H1:=zZ h1
 have F1:=zZ f1
 clear h1 f1 HC
 have kq:∀o,(w1.alloc o).drew.cell? ⟨b,15,none⟩=some (.int .i64 tn):=fun o=>(((zY H1).fr L ((Fr.refl _ _).alloc o).drew).cell 15 (by omega)).trans (by rw [uQ])
 have kq16:∀o,(w1.alloc o).drew.cell? ⟨b,16,none⟩=some (.slice aa (tZ A z).length ca):=fun o=>(((zY H1).fr L ((Fr.refl _ _).alloc o).drew).cell 16 (by omega)).trans (by rw [vG])
 by_cases hlt:v<1099511627776-s.clock
 focus
  have e1:s.clock+max v 0=at_:=by have:=zY HAT;omega
  go_wp2
  clear e1
 rotate_left
 focus
  have e1:(1099511627776:Int)=at_:=by have:=zY HAT;omega
  have hlt':¬v<1099511627776-s.clock:=hlt
  go_wp2
  have e2:(Value.int .i64 1099511627776)=.int .i64 at_:=by rw [<-e1]
  rw [e2]
  clear e1 e2
 rotate_left
 all_goals
  refine wp_region_held_drew (S:=fun w'=>w'.cell? ⟨b,15,none⟩=some (.int .i64 tn)) (by kernel_rfl) ?_ (fun hHeld=>?_)
  ·exact k15
  refine zA (i:=0) (oi:={dst:=some 24,op:=.move (.tmp 0),type:=177,pos:= "run.go:202",after:=#[],guard:=none}) ?_
  simp only [Act.put,zC,zD,zE]
  refine zA (i:=1) (oi:={dst:=some 25,op:=.move (.tmp 0),type:=177,pos:= "run.go:202",after:=#[],guard:=none}) ?_
  simp only [Act.put,zC,zD,zE]
  refine zA (i:=2) (oi:={dst:=some 26,op:=.nilCheck (.tmp 25),type:=0,pos:= "run.go:202",after:=#[zG 1],guard:=none}) ?_
  simp only [Act.put,zC,zD,zE]
  refine zA (i:=3) (oi:={dst:=some 27,op:=.fieldAddr 180 (.tmp 26) 8,type:=0,pos:= "run.go:202",after:=#[zG 2],guard:=none}) ?_
  simp only [Act.put,zC,zD,zE]
  refine zA (i:=5) (oi:={dst:=some 29,op:=.move (.tmp 1),type:=3,pos:= "run.go:202",after:=#[],guard:=none}) ?_
  simp only [Act.put,zC,zD,zE]
  refine zA (i:=6) (oi:={dst:=some 30,op:=.move (.tmp 6),type:=3,pos:= "run.go:202",after:=#[],guard:=none}) ?_
  simp only [Act.put,zC,zD,zE]
  refine zA (i:=7) (oi:={dst:=some 31,op:=.move (.tmp 0),type:=177,pos:= "run.go:202",after:=#[],guard:=none}) ?_
  simp only [Act.put,zC,zD,zE]
  refine zA (i:=8) (oi:={dst:=some 32,op:=.nilCheck (.tmp 31),type:=0,pos:= "run.go:202",after:=#[zG 7],guard:=none}) ?_
  simp only [Act.put,zC,zD,zE]
  refine zA (i:=9) (oi:={dst:=some 33,op:=.fieldAddr 180 (.tmp 32) 7,type:=0,pos:= "run.go:202",after:=#[zG 8],guard:=none}) ?_
  simp only [Act.put,zC,zD,zE]
  refine zA (i:=10) (oi:={dst:=some 34,op:=.load 3 (.tmp 33),type:=3,pos:= "run.go:202",after:=#[zG 9],guard:=none}) ?_
  simp only [Act.put,zC,zD,zE]
  refine zA (i:=11) (oi:={dst:=some 35,op:=.build 210 #[(0,.tmp 29),(1,.tmp 30),(2,.tmp 34)],type:=210,pos:= "run.go:202",after:=#[zG 5,zG 6,zG 10],guard:=none}) ?_
  simp only [Act.put,zC,zD,zE]
  refine wpAnyH_ready (rs:=[4,12]) (by kernel_rfl) (by simp) ?_
  refine AllReadyH.cons (o:={dst:=some 28,op:=.load 178 (.tmp 27),type:=178,pos:= "run.go:202",after:=#[zG 3],guard:=none}) rfl (fun K' hK'=>?_) (AllReadyH.cons (o:={dst:=some 36,op:=.buildSlice 178 1 #[(0,.tmp 35)],type:=178,pos:= "run.go:202",after:=#[zG 11],guard:=none}) rfl (fun K' hK'=>?_) AllReadyH.nil)
  focus
   go_simp
   refine hK'.out _ _ ?_ (fun hHeld=>?_)
   ·exact k15
   clear hK' K'
   try simp only [Act.put,zC,zD,zE]
   refine zL (i:=12) (o:={dst:=some 36,op:=.buildSlice 178 1 #[(0,.tmp 35)],type:=178,pos:= "run.go:202",after:=#[zG 11],guard:=none}) (fun K' hK'=>?_)
  rotate_left
  focus
   go_simp
   refine hK'.out _ _ ?_ (fun hHeld=>?_)
   ·exact kq _
   clear hK' K'
   try simp only [Act.put,zC,zD,zE]
   refine zL (i:=4) (o:={dst:=some 28,op:=.load 178 (.tmp 27),type:=178,pos:= "run.go:202",after:=#[zG 3],guard:=none}) (fun K' hK'=>?_)
  rotate_left
  all_goals
   go_simp
   refine hK'.out _ _ ?_ (fun hHeld=>?_)
   ·exact kq _
   clear hK' K'
   try simp only [Act.put,zC,zD,zE]
   refine zL (i:=13) (o:={dst:=some 37,op:=.call {callee:=.builtin .append,args:=#[.tmp 28,.tmp 36],argTypes:=#[178,178]},type:=178,pos:= "run.go:202",after:=#[zG 4,zG 12],guard:=none}) (fun K' hK'=>?_)
   refine xX (d:=37) rfl zC9 (by decide) (by decide) (v:=.slice aa (tZ A z).length ca) (n:=(tZ A z).length) (m:=1) (xs:=sZ (tZ A z)) (news:=[.int .i64 z,.int .i64 at_,.int .i64 tn]) (B:=B) (ad:=⟨w1.heap.size,0,none⟩) (cap:=1) rfl (.tmp 28) (.tmp 36) rfl rfl rfl ((zY H1).fr L ((Fr.refl _ _).alloc (.cells #[.int .i64 z,.int .i64 at_,.int .i64 tn] 210)).drew).arow rfl (World.news_of_block (heap_alloc_new w1 _)) (by simp [Value.oneCell']) (by omega) (by omega) ((zY H1).fr L ((Fr.refl _ _).alloc (.cells #[.int .i64 z,.int .i64 at_,.int .i64 tn] 210)).drew).below ?_
   intro v3 w3 o3 f3 sh3
   obtain⟨av,cv,rfl⟩:=sh3
   have h2:=(zY H1).fr L ((Fr.refl _ _).alloc (.cells #[.int .i64 z,.int .i64 at_,.int .i64 tn] 210)).drew
   have hbs:=f3.same b h2.blt (fun e=>(h2.inA b e).2.1 rfl)
   have c2:=h2.cells.block hbs
   have gg:w3.cell? ⟨b,15,none⟩=some (.int .i64 tn):=(c2 15 (by omega)).1.trans (by rw [uQ])
   have pc:=(c2 16 (by omega)).1.trans (by rw [vG])
   have pz:=(c2 16 (by omega)).2
   have FIN:=zZ (h2.setArmed L (A':=tZ A z++[((true,at_,s.armings+1,z),tn)]) (s':={s with armings:=s.armings+1,tim:=upd s.tim z.toNat (true,at_,s.armings+1,z)}) (by rw [List.length_append,rA];exact o3) f3 (zY HR) rfl rfl rfl rfl rfl rfl rfl)
   clear o3 f3 h2 hbs c2
   refine hK'.out _ _ gg (fun hHeld=>?_)
   clear hK' K'
   simp only [zC,zD,zE]
   refine zA (i:=14) (oi:={dst:=some 38,op:=.nilCheck (.tmp 24),type:=0,pos:= "run.go:202",after:=#[zG 0,zF 0,zF 1,zF 2,zF 3,zF 4,zF 5,zF 6,zF 7,zF 8,zF 9,zF 10,zF 11,zF 12,zF 13],guard:=none}) ?_
   simp only [Act.put,zC,zD,zE]
   refine zA (i:=15) (oi:={dst:=some 39,op:=.fieldAddr 180 (.tmp 38) 8,type:=0,pos:= "run.go:202",after:=#[zG 14,zF 0,zF 1,zF 2,zF 3,zF 4,zF 5,zF 6,zF 7,zF 8,zF 9,zF 10,zF 11,zF 12,zF 13],guard:=none}) ?_
   simp only [Act.put,zC,zD,zE]
   refine zL (i:=16) (o:={dst:=none,op:=.store 178 (.tmp 39) (.tmp 37),type:=0,pos:= "run.go:202",after:=#[zG 15,zG 13,zM 13,zF 0,zF 1,zF 2,zF 3,zF 4,zF 5,zF 6,zF 7,zF 8,zF 9,zF 10,zF 11,zF 12,zF 13],guard:=none}) (fun K' hK'=>?_)
   go_simp
   refine hK'.out _ _ ?_ (fun hHeld=>?_)
   ·simp [go_sem,gg]
   clear hK' K'
   try simp only [Act.put,zC,zD,zE]
   refine wpAnyH_done (by kernel_rfl) ?_ _
   go_wp2
   go_end0
   exact⟨rfl,_,_,(zY FIN).1,(zY F1).trans ((((Fr.refl _ _).alloc (.cells #[.int .i64 z,.int .i64 at_,.int .i64 tn] 210)).drew).trans (zY FIN).2)⟩
end
section
variable {pv:Nat->Value} {vt va:Value} {s:PS} {tn:Int}
theorem rZ (v:Int):∀j,j<28->xP pv vt va {s with fin:=v} tn j=yP (xP pv vt va s tn) 27 (.int .i64 v) j:=
 qA (xE _ _ _ _ _) (fun _ _ _=>rfl) (fun _=>rfl) (fun _=>rfl) (fun _=>rfl) (fun _ _ _=>rfl) (fun _=>rfl) (fun _=>rfl) (fun e=>absurd rfl e)
theorem zL4 (v:Int):∀j,j<28->xP pv vt va {s with clock:=v} tn j=yP (xP pv vt va s tn) 14 (.int .i64 v) j:=
 qA (tC _ _ _ _ _) (fun _ _ _=>rfl) (fun e=>absurd rfl e) (fun _=>rfl) (fun _=>rfl) (fun _ _ _=>rfl) (fun _=>rfl) (fun _=>rfl) (fun _=>rfl)
theorem bE (v:Int):∀j,j<28->xP pv vt va {s with fuel:=v} tn j=yP (xP pv vt va s tn) 25 (.int .i64 v) j:=
 qA (lK _ _ _ _ _) (fun _ _ _=>rfl) (fun _=>rfl) (fun _=>rfl) (fun _=>rfl) (fun _ _ _=>rfl) (fun e=>absurd rfl e) (fun _=>rfl) (fun _=>rfl)
theorem zV0 (v:Int):∀j,j<28->xP pv vt va s v j=yP (xP pv vt va s tn) 15 (.int .i64 v) j:=
 qA (uQ _ _ _ _ _) (fun _ _ _=>rfl) (fun _=>rfl) (fun e=>absurd rfl e) (fun _=>rfl) (fun _ _ _=>rfl) (fun _=>rfl) (fun _=>rfl) (fun _=>rfl)
theorem mN (i:Nat) (v:Int) (h:i<4):∀j,j<28->xP pv vt va {s with reg:=upd s.reg i v} tn j=yP (xP pv vt va s tn) (10+i) (.int .i64 v) j:=
 qA (by rw [vY _ _ _ _ _ _ h];simp [upd]) (fun j _ hne=>by simp only [upd];rw [if_neg (by omega)]) (fun _=>rfl) (fun _=>rfl) (fun _=>rfl) (fun _ _ _=>rfl) (fun _=>rfl) (fun _=>rfl) (fun _=>rfl)
theorem zE8 (i:Nat) (v:Bool) (h:i<8):∀j,j<28->xP pv vt va {s with wat:=upd s.wat i v} tn j=yP (xP pv vt va s tn) (17+i) (.bool v) j:=
 qA (by rw [vZ _ _ _ _ _ _ h];simp [upd]) (fun _ _ _=>rfl) (fun _=>rfl) (fun _=>rfl) (fun _=>rfl) (fun j _ hne=>by simp only [upd];rw [if_neg (by omega)]) (fun _=>rfl) (fun _=>rfl) (fun _=>rfl)
end
section
variable {σ:Type} {SQ:(Nat->Value)->(Nat->Prop)->World->σ->Prop} {ask:σ->Int->Int->Rep×σ} {may:Int->Int->Prop} {B:Nat} {S T:Nat->Prop} {w:World} {b:Nat} {pv:Nat->Value} {vt va:Value} {s:PS} {A:List AT} {tn sq:Int} {x:σ}
def rL (SQ:(Nat->Value)->(Nat->Prop)->World->σ->Prop) (B:Nat) (S:Nat->Prop) (w:World) (b:Nat) (pv:Nat->Value) (vt va:Value) (A:List AT) (tn sq:Int) (s:PS) (x:σ) (w':World):Prop:=
 ∃S' pv' T',LQ SQ B S' w' b pv' vt va T' s A tn sq x/\(∀i,i<3->pv' i=pv i)/\Fr S w w' S'
def sB (s:PS) (R:Rep):PS:=if R.e=0 then {s with heard:=wrap64 (s.heard+1)} else {s with fin:=R.e}
structure fH (SQ:(Nat->Value)->(Nat->Prop)->World->σ->Prop) (ask:σ->Int->Int->Rep×σ) (may:Int->Int->Prop) (B:Nat):Prop where
 calls:∀{S T:Nat->Prop} {w:World} {b:Nat} {pv:Nat->Value} {vt va:Value} {s:PS} {A:List AT} {tn sq:Int} {x:σ} {k o:Int},LQ SQ B S w b pv vt va T s A tn sq x->s.fin=0->may k o->
  Calls Tryz.prog 141 #[.pointer (some ⟨b,0,none⟩),.int .i64 k,.int .i64 o] w fun e w'=>∃kd of_ n fa fl fc,e=.returned (.agg #[.int .i64 kd,.int .i64 of_,.int .i64 n,.slice fa fl fc])/\rL SQ B S w b pv vt va A tn sq (sB s (ask x k o).1) (ask x k o).2 w'/\
   ((ask x k o).1.e=0->n=(ask x k o).1.n/\yJ w' (.slice fa fl fc) (ask x k o).1.files (fun q=>q<w'.heap.size))
theorem fS (L:sW SQ B) (K:fH SQ ask may B) (h:LQ SQ B S w b pv vt va T s A tn sq x) (hf:s.fin=0) (hm:may 1 0) :
  Calls Tryz.prog 127 #[.pointer (some ⟨b,0,none⟩)] w fun e w'=>e=.returned (.tuple #[])/\rL SQ B S w b pv vt va A tn sq (ckS s (ask x 1 0).1) (ask x 1 0).2 w':=by
 have hc:=K.calls h hf hm
 generalize ask x 1 0=R at *
 obtain⟨⟨rk,ro,rn,rf,re⟩,x'⟩:=R
 have HC:=zZ hc
 have hinB:=h.inB
 have HIN:=zZ hinB
 clear hc h hm hinB
 go_enter Tryz.func127,Tryz.ntmps127
 go_wp2_with fail
 go_at_call 141
 refine(zY HC).mono ?_
 rintro e w1 ⟨kd,of_,n,fa,fl,fc,rfl,⟨S1,pv1,T1,h1,hp1,f1⟩,hn⟩
 have ha:=h1.alloc L (.cells #[.int .i64 kd,.int .i64 of_,.int .i64 n,.slice fa fl fc] 49)
 have fa1:=f1.alloc (.cells #[.int .i64 kd,.int .i64 of_,.int .i64 n,.slice fa fl fc] 49)
 have k27:=(h1.cell 27 (by omega)).trans (by rw [xE])
 have z27:=h1.free 27 (by omega)
 have k14:=(h1.cell 14 (by omega)).trans (by rw [tC])
 have z14:=h1.free 14 (by omega)
 have hb:=h1.blt
 have hne:b≠w1.heap.size:=by omega
 have hne':¬w1.heap.size=b:=by omega
 have HA:=zZ ha
 have FA:=zZ fa1
 have HN:=zZ hn
 have HP:=zZ hp1
 have IN1:=zZ h1.inB
 clear ha fa1 hn h1 f1 hp1 HC
 by_cases hre:re=0
 ·have e0:sB s ⟨rk,ro,rn,rf,re⟩={s with heard:=wrap64 (s.heard+1)}:=by unfold sB;rw [if_pos hre]
  rw [e0] at HA k27 k14
  have hnn:n=rn:=(zY HN hre).1
  subst hnn
  have k27':w1.cell? ⟨b,27,none⟩=some (.int .i64 0):=by rw [k27];show some (Value.int .i64 s.fin)=_;rw [hf]
  change w1.cell? ⟨b,14,none⟩=some (.int .i64 s.clock) at k14
  clear k27 e0 HN
  by_cases hlt:n<s.clock
  ·have e2:ckS s ⟨rk,ro,n,rf,re⟩={s with heard:=wrap64 (s.heard+1),fin:=4}:=by simp [ckS,hre,hlt]
   have E2:=zZ e2
   clear e2
   go_wp2
   go_quiet (fail)
   go_wp2
   refine bodyPost_ret (v:=.tuple #[]) (by simp [results,Tryz.results127,go_sem]) rfl ⟨rfl,?_⟩
   rw [zY E2]
   exact⟨S1,pv1,T1,((zY HA).drewN L _).set L 27 _ _ (by omega) (rZ 4) rfl ((zY HA).rel.of rfl rfl) rfl,zY HP,((zY FA).drewN _).setCell _ _ (.inl (zY HIN))⟩
  ·have e2:ckS s ⟨rk,ro,n,rf,re⟩={s with heard:=wrap64 (s.heard+1),clock:=n}:=by simp [ckS,hre,hlt]
   have E2:=zZ e2
   clear e2
   go_wp2
   go_quiet (fail)
   go_wp2
   go_end0
   refine⟨rfl,?_⟩
   rw [zY E2]
   exact⟨S1,pv1,T1,((zY HA).drewN L _).set L 14 _ _ (by omega) (zL4 n) rfl ((zY HA).rel.of rfl rfl) rfl,zY HP,((zY FA).drewN _).setCell _ _ (.inl (zY HIN))⟩
 ·have e0:sB s ⟨rk,ro,rn,rf,re⟩={s with fin:=re}:=by unfold sB;rw [if_neg hre]
  have e2:ckS s ⟨rk,ro,rn,rf,re⟩={s with fin:=re}:=by simp [ckS,hre]
  rw [e0] at HA k27
  have E2:=zZ e2
  change w1.cell? ⟨b,27,none⟩=some (.int .i64 re) at k27
  clear k14 z14 e0 e2 HN
  go_wp2
  refine bodyPost_ret (v:=.tuple #[]) (by simp [results,Tryz.results127,go_sem]) rfl ⟨rfl,?_⟩
  rw [zY E2]
  exact⟨S1,pv1,T1,zY HA,zY HP,zY FA⟩
end
