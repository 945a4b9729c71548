/-
  PROVED HERE: the document's hear over a list of inputs, where
-/
import Derived.Test.YtfmbebofllgmoaaGreatDoorSallbp
set_option maxHeartbeats 1000000
set_option maxRecDepth 20000
namespace Go.Proofs.YtfmbebofllgmoaaGreatDoor
open Go.RowKit
attribute [local go_sem ↓] Go.wp_at_zero Go.wp_at_succ
section
variable {B:Nat} {S T:Nat->Prop} {w:World} {b:Nat} {pv:Nat->Value} {vt va:Value} {s:PS} {A:List AT} {tn sq:Int} {y:VL}
theorem yF2 (h:LQ (SQP B) B S w b pv vt va T s A tn sq y) (i:Inp) {r:List Inp} (he:y.1=i::r) (h5:i.1≠5) :
  Calls Tryz.prog 141 #[.pointer (some ⟨b,0,none⟩),.int .i64 (i.1:Nat),.int .i64 (i.2.1:Nat)] w fun e w'=>∃fa fc,e=.returned (.agg #[.int .i64 (i.1:Nat),.int .i64 (i.2.1:Nat),.int .i64 (i.2.2.1:Nat),.slice fa (zs i.2.2.2).length fc])/\rX (SQP B) B S w b pv vt va A tn sq {s with heard:=wrap64 (s.heard+1)} y.tail w'/\yJ w' (.slice fa (zs i.2.2.2).length fc) (zs i.2.2.2) (fun q=>q<w'.heap.size):=by
 have hb:=h.blt
 have hB6:B<=w.heap.size:=h.below
 obtain⟨hB,hbB⟩:=h.bound b h.inB
 have k7:=(h.cell 7 (by omega)).trans (by rw [xB _ _ _ _ _ _ (by omega),h.src.rep])
 have k8:=(h.cell 8 (by omega)).trans (by rw [xB _ _ _ _ _ _ (by omega)])
 have z8:=h.free 8 (by omega)
 obtain⟨ps,hin,hps⟩:=h.src.ins
 obtain⟨⟨j,fv⟩,rs,rfl⟩ : ∃y rs,ps=y::rs:=by
  cases ps with
  | nil=>rw [he] at hps;cases hps
  | cons y rs=>exact⟨y,rs,rfl⟩
 rw [he] at hps
 obtain rfl:j=i:=(List.cons.inj hps).1
 have hrs:rs.map (·.1)=y.tail.1:=by show _=y.1.tail;rw [he];exact(List.cons.inj hps).2
 have hleft:y.tail.1.length+1=y.1.length:=by show y.1.tail.length+1=_;rw [he];simp
 obtain⟨q,off,c,hv,hc,hq,⟨g0,g1,g2,g3⟩,hfi,hin8⟩:=hin.cons
 rw [hv] at k8
 obtain⟨fa,fc,hfe,_⟩:=id hfi
 dsimp only at g0 g1 g2 g3 hfe hfi
 rw [hfe] at g3 hfi
 obtain⟨ik,io,in_,ifl⟩:=j
 dsimp only at g0 g1 g2 g3 hfi h5 ⊢
 have h5i:¬((ik:Nat):Int)=5:=by omega
 have hqw:q<w.heap.size:=by omega
 have hqb:¬q=b:=by omega
 obtain⟨H,hrow,hown,hcnt⟩:=h.src.hd
 obtain⟨ha,hn,hcp,hp9,hnh⟩:=h.hc
 have hHn:H.length=hn:=by
  obtain⟨a1,c1,e1⟩:=yM hrow
  rw [hp9] at e1
  injection e1 with _ e1
  exact e1.symm
 subst hHn
 rw [hp9] at hrow hown
 have k9:=(h.cell 9 (by omega)).trans (by rw [xB _ _ _ _ _ _ (by omega),hp9])
 have z9:=h.free 9 (by omega)
 obtain⟨m,hm⟩ : ∃m,m=rs.length:=⟨_,rfl⟩
 rw [<-hm] at k8 hin8 hc
 have e9:=xB pv vt va s tn 9 (by omega)
 rw [hp9] at e9
 have HH:=zZ h
 have HIN:=zZ hin8
 have HRS:=zZ hrs
 have HLEFT:=zZ hleft
 have HFI:=zZ hfi
 have HOWN:=zZ hown
 have HROW:=zZ hrow
 have HCNT:=zZ hcnt
 have HNH:=zZ hnh
 have E9:=zZ e9
 have hci:(m:Int)+1<=(c:Int):=by omega
 clear h hin hin8 hrs hleft hfi hown hrow hcnt hnh he hps hv hp9 hfe h5 e9 hm
 have gen:∀v8,oZ w v8 rs (fun q=>q<B)->Hid (
   (((w.setCell ⟨b,8,none⟩ v8).alloc (.cells #[.int .i64 0,.int .i64 0,.int .i64 0,.slice none 0 0] 49)).alloc (.cells #[.int .i64 (ik:Nat),.int .i64 (io:Nat),.int .i64 (in_:Nat),.slice fa (zs ifl).length fc] 49)).heap[w.heap.size+1]?=some (.cells #[.int .i64 (ik:Nat),.int .i64 (io:Nat),.int .i64 (in_:Nat),.slice fa (zs ifl).length fc] 49)/\(((w.setCell ⟨b,8,none⟩ v8).alloc (.cells #[.int .i64 0,.int .i64 0,.int .i64 0,.slice none 0 0] 49)).alloc (.cells #[.int .i64 (ik:Nat),.int .i64 (io:Nat),.int .i64 (in_:Nat),.slice fa (zs ifl).length fc] 49)).heap[w.heap.size]?=some (.cells #[.int .i64 0,.int .i64 0,.int .i64 0,.slice none 0 0] 49)/\LAt (((w.setCell ⟨b,8,none⟩ v8).alloc (.cells #[.int .i64 0,.int .i64 0,.int .i64 0,.slice none 0 0] 49)).alloc (.cells #[.int .i64 (ik:Nat),.int .i64 (io:Nat),.int .i64 (in_:Nat),.slice fa (zs ifl).length fc] 49)) b (yV (xU pv vt va s tn) 8 v8)/\Fr (fun q=>q=b) w (((w.setCell ⟨b,8,none⟩ v8).alloc (.cells #[.int .i64 0,.int .i64 0,.int .i64 0,.slice none 0 0] 49)).alloc (.cells #[.int .i64 (ik:Nat),.int .i64 (io:Nat),.int .i64 (in_:Nat),.slice fa (zs ifl).length fc] 49)) (fun q=>q=b)/\
   w.heap.size+2<=(((w.setCell ⟨b,8,none⟩ v8).alloc (.cells #[.int .i64 0,.int .i64 0,.int .i64 0,.slice none 0 0] 49)).alloc (.cells #[.int .i64 (ik:Nat),.int .i64 (io:Nat),.int .i64 (in_:Nat),.slice fa (zs ifl).length fc] 49)).heap.size/\(((w.setCell ⟨b,8,none⟩ v8).alloc (.cells #[.int .i64 0,.int .i64 0,.int .i64 0,.slice none 0 0] 49)).alloc (.cells #[.int .i64 (ik:Nat),.int .i64 (io:Nat),.int .i64 (in_:Nat),.slice fa (zs ifl).length fc] 49)).ownsRow B 49 4 (.slice ha H.length hcp) H.length (xS H)/\(((w.setCell ⟨b,8,none⟩ v8).alloc (.cells #[.int .i64 0,.int .i64 0,.int .i64 0,.slice none 0 0] 49)).alloc (.cells #[.int .i64 (ik:Nat),.int .i64 (io:Nat),.int .i64 (in_:Nat),.slice fa (zs ifl).length fc] 49)).cell? ⟨b,9,none⟩=some (.slice ha H.length hcp)/\(((w.setCell ⟨b,8,none⟩ v8).alloc (.cells #[.int .i64 0,.int .i64 0,.int .i64 0,.slice none 0 0] 49)).alloc (.cells #[.int .i64 (ik:Nat),.int .i64 (io:Nat),.int .i64 (in_:Nat),.slice fa (zs ifl).length fc] 49)).frozen? ⟨b,9,none⟩=false):=by
  intro v8 _
  have zW:(w.setCell ⟨b,8,none⟩ v8).heap.size=w.heap.size:=by simp [World.setCell]
  have zW1:((w.setCell ⟨b,8,none⟩ v8).alloc (.cells #[.int .i64 0,.int .i64 0,.int .i64 0,.slice none 0 0] 49)).heap.size=w.heap.size+1:=by simp [World.setCell]
  have c4:LAt (((w.setCell ⟨b,8,none⟩ v8).alloc (.cells #[.int .i64 0,.int .i64 0,.int .i64 0,.slice none 0 0] 49)).alloc (.cells #[.int .i64 (ik:Nat),.int .i64 (io:Nat),.int .i64 (in_:Nat),.slice fa (zs ifl).length fc] 49)) b (yV (xU pv vt va s tn) 8 v8):=(((zY HH).cells.set 8 v8 (by omega))).block ((zR _ _ _ (by rw [zW1];omega)).trans (zR _ _ _ (by rw [zW];omega)))
  have f4:Fr (fun q=>q=b) w (((w.setCell ⟨b,8,none⟩ v8).alloc (.cells #[.int .i64 0,.int .i64 0,.int .i64 0,.slice none 0 0] 49)).alloc (.cells #[.int .i64 (ik:Nat),.int .i64 (io:Nat),.int .i64 (in_:Nat),.slice fa (zs ifl).length fc] 49)) (fun q=>q=b):=(((Fr.refl (fun q=>q=b) w).setCell ⟨b,8,none⟩ v8 (.inl rfl)).alloc _).alloc _
  refine⟨?_,?_,c4,f4,by simp [World.setCell],yA (zY HROW) (fun q hq=>f4.same q (zS (zY HROW) q hq).2 (fun e=>((zY HH).inT q (zY HOWN q hq)).2 e)),?_,(c4 9 (by omega)).2⟩
  ·have h:=heap_alloc_new ((w.setCell ⟨b,8,none⟩ v8).alloc (.cells #[.int .i64 0,.int .i64 0,.int .i64 0,.slice none 0 0] 49)) (.cells #[.int .i64 (ik:Nat),.int .i64 (io:Nat),.int .i64 (in_:Nat),.slice fa (zs ifl).length fc] 49)
   rwa [zW1] at h
  ·refine(zR _ _ _ (by rw [zW1];omega)).trans ?_
   have h:=heap_alloc_new (w.setCell ⟨b,8,none⟩ v8) (.cells #[.int .i64 0,.int .i64 0,.int .i64 0,.slice none 0 0] 49)
   rwa [zW] at h
  ·rw [(c4 9 (by omega)).1]
   unfold yV
   rw [if_neg (by omega),zY E9]
 have hbz:¬w.heap.size=b:=by omega
 have hbz1:¬w.heap.size+1=b:=by omega
 by_cases hc1:c=1
 focus
  subst hc1
  obtain rfl:m=0:=by omega
  have hi8:oZ w (.slice (some ⟨q,off,none⟩) 0 0) rs (fun q=>q<B):=by have:=zY HIN;simpa using this
  have G4:=gen _ hi8
  have HI8:=zZ hi8
  clear hi8
  clear HIN gen hci hc
  go_enter Tryz.func141,Tryz.ntmps141
  go_wp2
  generalize (Value.slice (some {block:=q,off:=off}) 0 0)=v8 at HI8 G4 ⊢
 rotate_left
 focus
  have hi8:oZ w (.slice (some ⟨q,off+4,none⟩) m (c-1)) rs (fun q=>q<B):=by have:=zY HIN;simpa [hc1] using this
  have G4:=gen _ hi8
  have HI8:=zZ hi8
  clear hi8
  clear HIN gen
  go_enter Tryz.func141,Tryz.ntmps141
  go_wp2
  generalize (Value.slice (some {block:=q,off:=off+4}) m (c-1))=v8 at HI8 G4 ⊢
 rotate_left
 all_goals
  generalize hW4:((w.setCell ⟨b,8,none⟩ v8).alloc (.cells #[.int .i64 0,.int .i64 0,.int .i64 0,.slice none 0 0] 49)).alloc (.cells #[.int .i64 (ik:Nat),.int .i64 (io:Nat),.int .i64 (in_:Nat),.slice fa (zs ifl).length fc] 49)=W4 at G4 ⊢
  clear hW4
  obtain⟨y7,y6,cells4,f04,hz4,hrow4,c9,z9'⟩:=zY G4
  have l6:=(zN.1 y6).1
  have l7:=(zN.1 y7).1
  have Y7:=zZ y7
  have Y6:=zZ y6
  have R4:=zZ hrow4
  have C4:=zZ cells4
  have F04:=zZ f04
  have hBW4:B<=W4.heap.size:=by omega
  have hb4:b<W4.heap.size:=by omega
  clear hrow4 cells4 f04 y6 y7 G4 k7 k8 k9 z8 z9 g0 g1 g2 g3 E9
  have hq7:∀o,(W4.alloc o).drew.heap[w.heap.size+1]?=some (.cells #[.int .i64 (ik:Nat),.int .i64 (io:Nat),.int .i64 (in_:Nat),.slice fa (zs ifl).length fc] 49):=fun o=>(zR W4 o _ l7).trans (zY Y7)
  have cq9:∀o,(W4.alloc o).drew.cell? ⟨b,9,none⟩=some (.slice ha H.length hcp):=fun o=>(zO (w:=W4) (a:=⟨b,9,none⟩) (zR W4 o _ hb4)).trans c9
  refine wp_region_held_drew (S:=fun w'=>w'.heap[w.heap.size+1]?=some (.cells #[.int .i64 (ik:Nat),.int .i64 (io:Nat),.int .i64 (in_:Nat),.slice fa (zs ifl).length fc] 49)) (by kernel_rfl) ?_ (fun hHeld=>?_)
  ·exact zY Y7
  refine zA (i:=0) (oi:={dst:=some 87,op:=.move (.tmp 0),type:=177,pos:= "run.go:167",after:=#[],guard:=none}) ?_
  simp only [Act.put,zC,zD,zE]
  refine zA (i:=1) (oi:={dst:=some 88,op:=.move (.tmp 0),type:=177,pos:= "run.go:167",after:=#[],guard:=none}) ?_
  simp only [Act.put,zC,zD,zE]
  refine zA (i:=2) (oi:={dst:=some 89,op:=.nilCheck (.tmp 88),type:=0,pos:= "run.go:167",after:=#[zG 1],guard:=none}) ?_
  simp only [Act.put,zC,zD,zE]
  refine zA (i:=3) (oi:={dst:=some 90,op:=.fieldAddr 180 (.tmp 89) 4,type:=0,pos:= "run.go:167",after:=#[zG 2],guard:=none}) ?_
  simp only [Act.put,zC,zD,zE]
  refine zB (i:=5) (oi:={dst:=some 92,op:=.load 49 (.tmp 7),type:=49,pos:= "run.go:167",after:=#[],guard:=none}) ?_
  simp only [Act.put,zC,zD,zE]
  refine wpAnyH_ready (rs:=[4,6]) (by kernel_rfl) (by simp) ?_
  refine AllReadyH.cons (o:={dst:=some 91,op:=.load 44 (.tmp 90),type:=44,pos:= "run.go:167",after:=#[zG 3],guard:=none}) rfl (fun K' hK'=>?_) (AllReadyH.cons (o:={dst:=some 93,op:=.buildSlice 44 1 #[(0,.tmp 92)],type:=44,pos:= "run.go:167",after:=#[zG 5],guard:=none}) rfl (fun K' hK'=>?_) AllReadyH.nil)
  focus
   go_simp
   refine hK'.out _ _ ?_ (fun hHeld=>?_)
   ·exact zY Y7
   clear hK' K'
   try simp only [Act.put,zC,zD,zE]
   refine zL (i:=6) (o:={dst:=some 93,op:=.buildSlice 44 1 #[(0,.tmp 92)],type:=44,pos:= "run.go:167",after:=#[zG 5],guard:=none}) (fun K' hK'=>?_)
  rotate_left
  focus
   go_simp
   refine hK'.out _ _ ?_ (fun hHeld=>?_)
   ·exact hq7 _
   clear hK' K'
   try simp only [Act.put,zC,zD,zE]
   refine zL (i:=4) (o:={dst:=some 91,op:=.load 44 (.tmp 90),type:=44,pos:= "run.go:167",after:=#[zG 3],guard:=none}) (fun K' hK'=>?_)
  rotate_left
  all_goals
   go_simp
   refine hK'.out _ _ ?_ (fun hHeld=>?_)
   ·exact hq7 _
   clear hK' K'
   try simp only [Act.put,zC,zD,zE]
   refine zL (i:=7) (o:={dst:=some 94,op:=.call {callee:=.builtin .append,args:=#[.tmp 91,.tmp 93],argTypes:=#[44,44]},type:=44,pos:= "run.go:167",after:=#[zG 4,zG 6],guard:=none}) (fun K' hK'=>?_)
   refine xK (d:=94) rfl rL (by decide) (by decide) (v:=.slice ha H.length hcp) (n:=H.length) (m:=1) (xs:=xS H) (news:=[.int .i64 (ik:Nat),.int .i64 (io:Nat),.int .i64 (in_:Nat),.slice fa (zs ifl).length fc]) (B:=B) (ad:=⟨W4.heap.size,0,none⟩) (cap:=1) rfl (.tmp 91) (.tmp 93) rfl rfl rfl (World.ownsRow.alloc (zY R4) (.cells #[.int .i64 (ik:Nat),.int .i64 (io:Nat),.int .i64 (in_:Nat),.slice fa (zs ifl).length fc] 49)) rfl (World.news_of_block (heap_alloc_new W4 _)) (by simp [Value.oneCell']) (by omega) (by have:=zY HCNT;omega) (by show B<=(W4.alloc _).heap.size;simp;omega) ?_
   intro v5 w5 o5 f5 sh5
   obtain⟨av,cv,rfl⟩:=sh5
   have hb5:w5.heap[b]?=W4.heap[b]?:=(f5.same b (by show b<(W4.alloc _).heap.size;simp;omega) (fun e=>((zY HH).inT b (zY HOWN b e)).2 rfl)).trans (zR W4 _ _ hb4)
   have p9:=(zO (w:=W4) (a:=⟨b,9,none⟩) hb5).trans c9
   have pz9:=(zP (w:=W4) (a:=⟨b,9,none⟩) hb5).trans z9'
   have nown:∀q,w.heap.size<=q->¬own (.slice ha H.length hcp) q:=fun q hq e=>by have:=(zS (zY HROW) q e).2;omega
   have g7:w5.heap[w.heap.size+1]?=some (.cells #[.int .i64 (ik:Nat),.int .i64 (io:Nat),.int .i64 (in_:Nat),.slice fa (zs ifl).length fc] 49):=(f5.same _ (by show _<(W4.alloc _).heap.size;simp;omega) (nown _ (by omega))).trans (hq7 _)
   have g6:w5.heap[w.heap.size]?=_:=(f5.same _ (by show _<(W4.alloc _).heap.size;simp;omega) (nown _ (Nat.le_refl _))).trans ((zR W4 _ _ l6).trans (zY Y6))
   have O5:=zZ o5
   have F5:=zZ f5
   have G6:=zZ g6
   have G7:=zZ g7
   have k6:=fun j=>cell_of_row w5 _ j _ 49 (0,0) g6
   have t6:=fun j=>yB g6 j
   have k7:=fun j=>cell_of_row w5 _ j _ 49 (0,0) g7
   have l6':=(zN.1 g6).1
   have l7':=(zN.1 g7).1
   clear o5 f5 nown hb5
   refine hK'.out _ _ g7 (fun hHeld=>?_)
   clear hK' K'
   simp only [zC,zD,zE]
   refine zA (i:=8) (oi:={dst:=some 95,op:=.nilCheck (.tmp 87),type:=0,pos:= "run.go:167",after:=#[zG 0,zF 0,zF 1,zF 2,zF 3,zF 4,zF 5,zF 6,zF 7],guard:=none}) ?_
   simp only [Act.put,zC,zD,zE]
   refine zA (i:=9) (oi:={dst:=some 96,op:=.fieldAddr 180 (.tmp 95) 4,type:=0,pos:= "run.go:167",after:=#[zG 8,zF 0,zF 1,zF 2,zF 3,zF 4,zF 5,zF 6,zF 7],guard:=none}) ?_
   simp only [Act.put,zC,zD,zE]
   refine zL (i:=10) (o:={dst:=none,op:=.store 44 (.tmp 96) (.tmp 94),type:=0,pos:= "run.go:167",after:=#[zG 9,zG 7,zM 7,zF 0,zF 1,zF 2,zF 3,zF 4,zF 5,zF 6,zF 7],guard:=none}) (fun K' hK'=>?_)
   go_simp
   refine hK'.out _ _ ?_ (fun hHeld=>?_)
   ·exact(zQ _ _ _ _ hbz1).trans g7
   clear hK' K'
   try simp only [Act.put,zC,zD,zE]
   refine wpAnyH_done (by kernel_rfl) ?_ _
   clear g6 g7
   go_wp2
   have y6:(((((w5.setCell ⟨b,9,none⟩ (.slice av (H.length+1) cv)).setCell ⟨w.heap.size,0,none⟩ (.int .i64 (ik:Nat))).setCell ⟨w.heap.size,1,none⟩ (.int .i64 (io:Nat))).setCell ⟨w.heap.size,2,none⟩ (.int .i64 (in_:Nat))).setCell ⟨w.heap.size,3,none⟩ (.slice fa (zs ifl).length fc)).heap[w.heap.size]?=some (.cells #[.int .i64 (ik:Nat),.int .i64 (io:Nat),.int .i64 (in_:Nat),.slice fa (zs ifl).length fc] 49):=yD _ _ 3 _ 49 _ (yD _ _ 2 _ 49 _ (yD _ _ 1 _ 49 _ (yD _ _ 0 _ 49 _ ((zQ _ _ _ _ hbz).trans (zY G6)))))
   have ky:=fun j=>cell_of_row _ _ j _ 49 (0,0) y6
   have hfin:=lY (ob:=(.cells #[.int .i64 (ik:Nat),.int .i64 (io:Nat),.int .i64 (in_:Nat),.slice fa (zs ifl).length fc] 49)) (i:=(ik,io,in_,ifl)) (zY HH) (zY HI8) (zY HRS) (zY HLEFT) (zY HROW) (zY HOWN) (zY HCNT) (zY HNH) (zY HFI) (zY C4) (zY F04) hz4 (zY O5) ⟨av,cv,rfl⟩ (zY F5) (.int .i64 (ik:Nat)) (.int .i64 (io:Nat)) (.int .i64 (in_:Nat)) (.slice fa (zs ifl).length fc)
   have HFIN:=zZ hfin
   clear hfin
   refine bodyPost_ret (v:=.agg #[.int .i64 (ik:Nat),.int .i64 (io:Nat),.int .i64 (in_:Nat),.slice fa (zs ifl).length fc]) (by simp [results,Tryz.results141,go_sem,ky]) rfl ?_
   exact⟨fa,fc,rfl,(zY HFIN).1,(zY HFIN).2⟩
end
end Go.Proofs.YtfmbebofllgmoaaGreatDoor
namespace Go.Proofs.YtfmbebofllgmoaaGreatDoor
open Go.RowKit
theorem yA2 (B:Nat):eB (SQP B) xW zB1 B:=⟨fun {S T w b pv vt va s A tn sq y k o} h hf hm=>by
 have hk5:k≠5:=by
  rcases hm with ⟨rfl,_⟩ | ⟨rfl,_⟩ | ⟨rfl,_⟩ | ⟨rfl,_⟩<;>omega
 have hno:(uB y.1 k o=xC)->(y.1=[]\/∃x r,y.1=x::r/\x.1=5/\x.2.2.1=5)->Calls Tryz.prog 141 #[.pointer (some ⟨b,0,none⟩),.int .i64 k,.int .i64 o] w fun e w'=>∃kd of_ n fa fl fc,e=.returned (.agg #[.int .i64 kd,.int .i64 of_,.int .i64 n,.slice fa fl fc])/\rX (SQP B) B S w b pv vt va A tn sq (sQ s (xW y k o).1) (xW y k o).2 w'/\
   ((xW y k o).1.e=0->n=(xW y k o).1.n/\yJ w' (.slice fa fl fc) (xW y k o).1.files (fun q=>q<w'.heap.size)):=by
  intro hR he
  refine(zW6 h k o he).mono ?_
  rintro e w' ⟨rfl,hl⟩
  have e1:xW y k o=(xC,y):=by unfold xW;rw [hR];rfl
  rw [e1]
  exact⟨0,0,0,none,0,0,rfl,hl,fun h=>absurd h (by simp [xC])⟩
 cases hy:y.1 with
 | nil=>exact hno (by rw [hy];rfl) (.inl hy)
 | cons x r=>
  by_cases h5:x.1=5/\x.2.2.1=5
  ·exact hno (by rw [hy];simp only [uB];rw [if_pos h5]) (.inr ⟨x,r,hy,h5.1,h5.2⟩)
  by_cases hd:(x.1:Int)≠k\/(x.2.1:Int)≠o
  ·refine(zW5 h k o hy h5 hk5 hd).mono ?_
   rintro e w' ⟨rfl,hl⟩
   have hR:uB y.1 k o=mB:=by rw [hy];simp only [uB];rw [if_neg h5,if_pos hd]
   have e1:xW y k o=(mB,y):=by unfold xW;rw [hR];rfl
   rw [e1]
   exact⟨0,0,0,none,0,0,rfl,hl,fun h=>absurd h (by simp [mB])⟩
  ·have hR:uB y.1 k o=zG0 x:=by rw [hy];simp only [uB];rw [if_neg h5,if_neg hd]
   have e1:xW y k o=(zG0 x,y.tail):=by unfold xW;rw [hR];rfl
   rw [e1]
   obtain rfl:(x.1:Int)=k:=by omega
   obtain rfl:(x.2.1:Int)=o:=by omega
   refine(yF2 h x hy (by omega)).mono ?_
   rintro e w' ⟨fa,fc,rfl,hl,hi⟩
   exact⟨_,_,_,fa,_,fc,rfl,hl,fun _=>⟨rfl,hi⟩⟩⟩
