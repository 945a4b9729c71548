/-
  PROVED HERE: the document's Record. what the law's record kno
-/
import Derived.Test.YtfmbebofllgmoaaGreatDoorSreplaysbj
import Derived.Test.YtfmbebofllgmoaaGreatDoorSreplaysbq
set_option maxHeartbeats 4000000
set_option maxRecDepth 20000
namespace Go.Proofs.YtfmbebofllgmoaaGreatDoor
open Go.RowKit
attribute [local go_sem ↓] Go.wp_at_zero Go.wp_at_succ
theorem cM {w:World} {p1 p2 p3:Value} {p:Pg} (hv:oI w (oQ p1 p2 p3 undef) p) (f:Int) {v0 v1 v2 v3:Value} {lc lp ll:List Int} {bs:List (Value×List Int)}
  (h0:vO w v0 lc (fun q=>q<w.heap.size)) (h1:oG w v1 (bs.map (·.2)) (fun q=>q<w.heap.size)) (h2:vO w v2 lp (fun q=>q<w.heap.size)) (h3:vO w v3 ll (fun q=>q<w.heap.size)) (hbs:∀b,b∈bs->b.2.length<=100000000)
  (n0:lc.length<=4000000) (n1:bs.length<=4000000) (n2:lp.length<=4000000) (n3:ll.length<=4000000) :
  Calls Tryz.prog 72 #[.agg #[p1,p2,p3],.agg #[v0,v1,v2,v3],.int .i64 f] w (lB w p f lc bs lp ll):=by
 obtain⟨a0,k0,e0,_⟩:=id h0
 obtain⟨bv,hb1,hbvl,_⟩:=id h1
 obtain⟨a1,k1,e1,_⟩:=hb1
 rw [hbvl,List.length_map] at e1
 clear hbvl
 obtain⟨a2,k2,e2,_⟩:=id h2
 obtain⟨a3,k3,e3,_⟩:=id h3
 obtain⟨sa,sc,es,_⟩:=hv.s
 obtain⟨ta,tc,et,_⟩:=hv.t
 obtain⟨fa,fc,ef,_⟩:=hv.f
 change p1=_ at es
 change p2=_ at et
 change p3=_ at ef
 have hB3:Below w.heap.size w (((w.alloc (.cells #[p1,p2,p3] 33)).alloc (.cells #[v0,v1,v2,v3] 29)).alloc (.cells #[.int .i64 0,.int .i64 0,.int .i64 0,.int .i64 0,.int .i64 0,.int .i64 0,.int .i64 0] 37)):=bl3 _ _ _
 have hck:=dC p1 p2 p3 p.sn p.tn p.fn p.sf p.tl p.fl p.tf p.ff _ (yQ hB3 hv.s) (yI hB3 hv.t) (yI hB3 hv.f)
 have HCK:=zZ hck
 have HV:=zZ hv
 have H0:=zZ h0
 have H1:=zZ h1
 have H2:=zZ h2
 have H3:=zZ h3
 have HBS:=zZ hbs
 have HB3:=zZ hB3
 clear hck hv h0 h1 h2 h3 hbs hB3
 rw [List.length_map] at e0 e2 e3
 subst e0 e1 e2 e3 es et ef
 go_enter Tryz.func72,Tryz.ntmps72
 go_wp2_with fail
 go_at_call 41
 refine(zY HCK).mono ?_
 rintro e w1 ⟨x,rfl,hans,hb1⟩
 have z0:(w.alloc (.cells #[.slice sa p.sn sc,.slice ta p.tn tc,.slice fa p.fn fc] 33)).heap.size=w.heap.size+1:=by simp
 have z1:((w.alloc (.cells #[.slice sa p.sn sc,.slice ta p.tn tc,.slice fa p.fn fc] 33)).alloc (.cells #[.slice a0 lc.length k0,.slice a1 bs.length k1,.slice a2 lp.length k2,.slice a3 ll.length k3] 29)).heap.size=w.heap.size+1+1:=by simp
 have z2:(((w.alloc (.cells #[.slice sa p.sn sc,.slice ta p.tn tc,.slice fa p.fn fc] 33)).alloc (.cells #[.slice a0 lc.length k0,.slice a1 bs.length k1,.slice a2 lp.length k2,.slice a3 ll.length k3] 29)).alloc (.cells #[.int .i64 0,.int .i64 0,.int .i64 0,.int .i64 0,.int .i64 0,.int .i64 0,.int .i64 0] 37)).heap.size=w.heap.size+1+1+1:=by simp
 have b3:w1.heap[w.heap.size]?=some (.cells #[.slice sa p.sn sc,.slice ta p.tn tc,.slice fa p.fn fc] 33):=(hb1.block _ (by rw [z2];omega)).trans ((zR _ _ _ (by rw [z1];omega)).trans ((zR _ _ _ (by rw [z0];omega)).trans (heap_alloc_new _ _)))
 have b4:w1.heap[w.heap.size+1]?=some (.cells #[.slice a0 lc.length k0,.slice a1 bs.length k1,.slice a2 lp.length k2,.slice a3 ll.length k3] 29):=(hb1.block _ (by rw [z2];omega)).trans ((zR _ _ _ (by rw [z1];omega)).trans (by have h:=heap_alloc_new (w.alloc (.cells #[.slice sa p.sn sc,.slice ta p.tn tc,.slice fa p.fn fc] 33)) (.cells #[.slice a0 lc.length k0,.slice a1 bs.length k1,.slice a2 lp.length k2,.slice a3 ll.length k3] 29);rwa [z0] at h))
 have b8:w1.heap[w.heap.size+1+1]?=some (.cells #[.int .i64 0,.int .i64 0,.int .i64 0,.int .i64 0,.int .i64 0,.int .i64 0,.int .i64 0] 37):=(hb1.block _ (by rw [z2];omega)).trans (by have h:=heap_alloc_new ((w.alloc (.cells #[.slice sa p.sn sc,.slice ta p.tn tc,.slice fa p.fn fc] 33)).alloc (.cells #[.slice a0 lc.length k0,.slice a1 bs.length k1,.slice a2 lp.length k2,.slice a3 ll.length k3] 29)) (.cells #[.int .i64 0,.int .i64 0,.int .i64 0,.int .i64 0,.int .i64 0,.int .i64 0,.int .i64 0] 37);rwa [z1] at h)
 have hw1:Below w.heap.size w w1:=(zY HB3).trans (hb1.mono (by rw [z2];omega))
 have c3:=fun j=>cell_of_row w1 _ j _ 33 (0,0) b3
 have c4:=fun j=>cell_of_row w1 _ j _ 29 (0,0) b4
 have c8:=fun j=>cell_of_row w1 _ j _ 37 (0,0) b8
 have t8:=fun j=>yB b8 j
 have l8:=(zN.1 b8).1
 have B3:=zZ b3
 have B4:=zZ b4
 have B8:=zZ b8
 have HW1:=zZ hw1
 have HANS:=zZ hans
 clear z0 z1 z2 b3 b4 b8 hw1 hans hb1 HCK HB3
 by_cases hx:x=0
 ·subst hx
  have ok:=tN (zY HANS)
  have fW:Fr (fun _=>False) w1 (w1.alloc (.cells (sG (.slice sa p.sn sc) (.slice ta p.tn tc) (.slice fa p.fn fc) (.slice a0 lc.length k0) (.slice a1 bs.length k1) (.slice a2 lp.length k2) (.slice a3 ll.length k3) (.bool false) (.slice none 0 0) (.slice none 0 0) (min (max f 0) 5000)) 180)).drew (fun _=>False):=((Fr.refl _ _).alloc _).drew
  have bW:Below w.heap.size w (w1.alloc (.cells (sG (.slice sa p.sn sc) (.slice ta p.tn tc) (.slice fa p.fn fc) (.slice a0 lc.length k0) (.slice a1 bs.length k1) (.slice a2 lp.length k2) (.slice a3 ll.length k3) (.bool false) (.slice none 0 0) (.slice none 0 0) (min (max f 0) 5000)) 180)).drew:=(zY HW1).trans (fW.below (fun k h=>h.elim) (zY HW1).size)
  have hl0:=eP (SQ:=SQR w.heap.size) (B:=w.heap.size) (fu:=min (max f 0) 5000) (x:=(⟨lc,bs,lp,ll,tH⟩ : RS)) (zY HW1).size rfl (zY0 bW (zY H0) (zY H1) (zY H2) (zY H3) (zY HBS) n0 n1 n2 n3)
  have pgq:oI w (aW (.slice sa p.sn sc) (.slice ta p.tn tc) (.slice fa p.fn fc) (.slice a0 lc.length k0) (.slice a1 bs.length k1) (.slice a2 lp.length k2) (.slice a3 ll.length k3) (.bool false) (.slice none 0 0) (.slice none 0 0)) p:=⟨(zY HV).s,(zY HV).t,(zY HV).f⟩
  have hrun:=zG4 (SQR.law w.heap.size) (zW9 w.heap.size) lL qU (w0:=w) rfl bW pgq ok f hl0 rfl (by show lc.length<=5000000;omega)
  have HRUN:=zZ hrun
  have HOK:=zZ ok
  have FW:=zZ fW
  have D3:=zZ (show (w1.alloc (.cells (sG (.slice sa p.sn sc) (.slice ta p.tn tc) (.slice fa p.fn fc) (.slice a0 lc.length k0) (.slice a1 bs.length k1) (.slice a2 lp.length k2) (.slice a3 ll.length k3) (.bool false) (.slice none 0 0) (.slice none 0 0) (min (max f 0) 5000)) 180)).drew.heap[w.heap.size]?=some _ from (zR w1 _ _ (zN.1 (zY B3)).1).trans (zY B3))
  have D4:=zZ (show (w1.alloc (.cells (sG (.slice sa p.sn sc) (.slice ta p.tn tc) (.slice fa p.fn fc) (.slice a0 lc.length k0) (.slice a1 bs.length k1) (.slice a2 lp.length k2) (.slice a3 ll.length k3) (.bool false) (.slice none 0 0) (.slice none 0 0) (min (max f 0) 5000)) 180)).drew.heap[w.heap.size+1]?=some _ from (zR w1 _ _ (zN.1 (zY B4)).1).trans (zY B4))
  have D8:=zZ (show (w1.alloc (.cells (sG (.slice sa p.sn sc) (.slice ta p.tn tc) (.slice fa p.fn fc) (.slice a0 lc.length k0) (.slice a1 bs.length k1) (.slice a2 lp.length k2) (.slice a3 ll.length k3) (.bool false) (.slice none 0 0) (.slice none 0 0) (min (max f 0) 5000)) 180)).drew.heap[w.heap.size+1+1]?=some _ from (zR w1 _ _ l8).trans (zY B8))
  clear ok fW bW hl0 hrun pgq
  go_wp2
  refine wp_region_held_drew (S:=fun w'=>w'.heap[w.heap.size]?=some (.cells #[.slice sa p.sn sc,.slice ta p.tn tc,.slice fa p.fn fc] 33)/\w'.heap[w.heap.size+1]?=some (.cells #[.slice a0 lc.length k0,.slice a1 bs.length k1,.slice a2 lp.length k2,.slice a3 ll.length k3] 29)) (by kernel_rfl) ?_ (fun hHeld=>?_)
  ·exact⟨zY B3,zY B4⟩
  refine zJ (i:=0) (oi:={dst:=some 18,op:=.load 33 (.tmp 3),type:=33,pos:= "run.go:348",after:=#[],guard:=none}) ?_
  simp only [Act.put,zC,zD,zE]
  refine zJ (i:=1) (oi:={dst:=some 19,op:=.load 29 (.tmp 4),type:=29,pos:= "run.go:348",after:=#[],guard:=none}) ?_
  simp only [Act.put,zC,zD,zE]
  refine zA (i:=2) (oi:={dst:=some 20,op:=.move (.tmp 2),type:=3,pos:= "run.go:348",after:=#[],guard:=none}) ?_
  simp only [Act.put,zC,zD,zE]
  refine zL (i:=3) (o:={dst:=some 21,op:=.call {callee:=.value (.func 106),args:=#[.tmp 20],argTypes:=#[3]},type:=3,pos:= "run.go:348",after:=#[zG 2],guard:=none}) (fun K' hK'=>?_)
  go_simp
  go_at_call 106
  refine(jD f _).mono ?_
  rintro e w2 ⟨rfl,hw2⟩
  rw [hw2]
  clear hw2 w2
  refine hK'.out _ _ ?_ (fun hHeld=>?_)
  ·exact⟨zY B3,zY B4⟩
  clear hK' K'
  try simp only [Act.put,zC,zD,zE]
  try simp only [zC,zD,zE]
  refine zA (i:=4) (oi:={dst:=some 22,op:=.build 180 #[(0,.tmp 18),(1,.tmp 19),(10,.tmp 21)],type:=180,pos:= "run.go:348",after:=#[zG 0,zG 1,zG 3],guard:=none}) ?_
  simp only [Act.put,zC,zD,zE]
  refine zL (i:=5) (o:={dst:=some 23,op:=.box 180 (.tmp 22),type:=177,pos:= "run.go:348",after:=#[zG 4],guard:=none}) (fun K' hK'=>?_)
  go_simp
  refine hK'.out _ _ ?_ (fun hHeld=>?_)
  ·exact⟨zY D3,zY D4⟩
  clear hK' K'
  try simp only [Act.put,zC,zD,zE]
  refine zA (i:=6) (oi:={dst:=some 11,op:=.assign (.tmp 23),type:=177,pos:= "run.go:348",after:=#[zG 5,zM 3,zF 0,zF 1,zF 2,zF 3,zF 4,zF 5],guard:=none}) ?_
  simp only [Act.put,zC,zD,zE]
  refine wpAnyH_done (by kernel_rfl) ?_ _
  go_wp2_with fail
  go_at_call 107
  refine(zY HRUN).mono ?_
  rintro e w3 ⟨rfl,tn,sq,S3,pv3,vt3,va3,T3,A3,l3,q3,f3⟩
  change LQ _ _ S3 w3 _ pv3 vt3 va3 T3 (tW p f lc bs lp ll).1 A3 tn sq (tW p f lc bs lp ll).2 at l3
  obtain⟨xs,hrr,_,_⟩:=zQ4 (zY HOK) f lc bs lp ll (by omega)
  have hfin:=hrr.fin
  obtain⟨H,hrow,hown,hfl,hlog,hfits,hcnt⟩:=l3.src.hd
  obtain⟨ha,hn,hcp,hp9,hnh⟩:=l3.hc
  have hHn:H.length=hn:=by obtain⟨u1,u2,u3⟩:=yM hrow;rw [hp9] at u3;injection u3 with _ u3;exact u3.symm
  subst hHn
  obtain⟨ua,uc,hut⟩:=yM l3.row
  subst hut
  rw [hp9] at hrow hown hfl
  have hb3:=l3.blt
  have hTl:∀q,(T3 q/\¬own (.slice ha H.length hcp) q)->q<w3.heap.size:=fun q hq=>(l3.bound q (l3.inT q hq.1).1).2
  have hlogE:qE H++yS (yT 5 0 (tW p f lc bs lp ll).1.fin.toNat)=sM (tW p f lc bs lp ll):=by unfold sM;rw [hlog]
  have h108:=zO1 (w:=w3.drew) (P:=fun q=>T3 q/\¬own (.slice ha H.length hcp) q) (by exact hrow) (by omega) hfits (by exact hTl) (by exact hfl) (tW p f lc bs lp ll).1.fin hfin.1 hfin.2
  rw [hlogE] at h108
  have h109:∀W,Fr (fun _=>False) w3 W (fun _=>False)->_:=fun W hW=>fY (l3.fr (SQR.law w.heap.size) hW)
  have g9:=(l3.cell 9 (by omega)).trans (by rw [xA _ _ _ _ _ _ (by omega),hp9])
  have g27:=(l3.cell 27 (by omega)).trans (by rw [xE])
  have g26:=(l3.cell 26 (by omega)).trans (by rw [xD])
  have d8:w3.heap[w.heap.size+1+1]?=some (.cells #[.int .i64 0,.int .i64 0,.int .i64 0,.int .i64 0,.int .i64 0,.int .i64 0,.int .i64 0] 37):=(f3.same _ (zN.1 (zY D8)).1 (fun e=>by have e':w.heap.size+1+1=w1.heap.size:=e;omega)).trans (zY D8)
  have hP8:¬S3 (w.heap.size+1+1):=fun e=>by have:=f3.old _ (zN.1 (zY D8)).1 e;have e':w.heap.size+1+1=w1.heap.size:=this;omega
  have hrow3:=l3.row
  have hinV:=l3.inV
  have F3:=zZ f3
  have H108:=zZ h108
  have H109:=zZ h109
  have D83:=zZ d8
  have HP8:=zZ hP8
  have HROW3:=zZ hrow3
  have HINV:=zZ hinV
  have HFW:=zZ ((Fr.of_below (zY HW1)).trans (zY FW))
  have hz1:=(zY HW1).size
  clear l3 q3 f3 hrr hrow hown hfl hlog hfits hcnt hTl hlogE h108 h109 d8 hP8 hrow3 hinV hnh hp9 hfin HRUN
  generalize hr:tW p f lc bs lp ll=RM at *
  obtain⟨s3,x3⟩:=RM
  dsimp only at g27 g26
  have HR:=zZ hr
  clear hr
  go_wp2
  refine wp_region_held_drew (S:=fun w'=>w'.heap[w1.heap.size]?=w3.heap[w1.heap.size]?) (by kernel_rfl) ?_ (fun hHeld=>?_)
  ·exact rfl
  refine zA (i:=0) (oi:={dst:=some 26,op:=.move (.tmp 11),type:=177,pos:= "run.go:350",after:=#[],guard:=none}) ?_
  simp only [Act.put,zC,zD,zE]
  refine zA (i:=1) (oi:={dst:=some 27,op:=.nilCheck (.tmp 26),type:=0,pos:= "run.go:350",after:=#[zG 0],guard:=none}) ?_
  simp only [Act.put,zC,zD,zE]
  refine zA (i:=2) (oi:={dst:=some 28,op:=.fieldAddr 180 (.tmp 27) 4,type:=0,pos:= "run.go:350",after:=#[zG 1],guard:=none}) ?_
  simp only [Act.put,zC,zD,zE]
  refine zK (i:=3) (oi:={dst:=some 29,op:=.load 44 (.tmp 28),type:=44,pos:= "run.go:350",after:=#[zG 2],guard:=none}) (v:=?_) ?_ ?_
  rotate_left
  ·intro w' hSw;have k9:=(zO (w:=w3) (a:=⟨w1.heap.size,9,none⟩) hSw).trans g9;have k27:=(zO (w:=w3) (a:=⟨w1.heap.size,27,none⟩) hSw).trans g27;have k26:=(zO (w:=w3) (a:=⟨w1.heap.size,26,none⟩) hSw).trans g26;go_simp;try with_reducible rfl
  simp only [Act.put,zC,zD,zE]
  refine zA (i:=4) (oi:={dst:=some 30,op:=.move (.tmp 11),type:=177,pos:= "run.go:350",after:=#[],guard:=none}) ?_
  simp only [Act.put,zC,zD,zE]
  refine zA (i:=5) (oi:={dst:=some 31,op:=.nilCheck (.tmp 30),type:=0,pos:= "run.go:350",after:=#[zG 4],guard:=none}) ?_
  simp only [Act.put,zC,zD,zE]
  refine zA (i:=6) (oi:={dst:=some 32,op:=.fieldAddr 180 (.tmp 31) 12,type:=0,pos:= "run.go:350",after:=#[zG 5],guard:=none}) ?_
  simp only [Act.put,zC,zD,zE]
  refine zK (i:=7) (oi:={dst:=some 33,op:=.load 3 (.tmp 32),type:=3,pos:= "run.go:350",after:=#[zG 6],guard:=none}) (v:=?_) ?_ ?_
  rotate_left
  ·intro w' hSw;have k9:=(zO (w:=w3) (a:=⟨w1.heap.size,9,none⟩) hSw).trans g9;have k27:=(zO (w:=w3) (a:=⟨w1.heap.size,27,none⟩) hSw).trans g27;have k26:=(zO (w:=w3) (a:=⟨w1.heap.size,26,none⟩) hSw).trans g26;go_simp;try with_reducible rfl
  simp only [Act.put,zC,zD,zE]
  refine zA (i:=9) (oi:={dst:=some 35,op:=.move (.tmp 11),type:=177,pos:= "run.go:350",after:=#[{on:=16,ground:=.gcOnly .lateStores}],guard:=none}) ?_
  simp only [Act.put,zC,zD,zE]
  refine zA (i:=10) (oi:={dst:=some 36,op:=.nilCheck (.tmp 35),type:=0,pos:= "run.go:350",after:=#[zG 9,{on:=16,ground:=.gcOnly .lateStores}],guard:=none}) ?_
  simp only [Act.put,zC,zD,zE]
  refine zA (i:=11) (oi:={dst:=some 37,op:=.fieldAddr 180 (.tmp 36) 11,type:=0,pos:= "run.go:350",after:=#[zG 10,{on:=16,ground:=.gcOnly .lateStores}],guard:=none}) ?_
  simp only [Act.put,zC,zD,zE]
  refine zK (i:=12) (oi:={dst:=some 38,op:=.load 34 (.tmp 37),type:=34,pos:= "run.go:350",after:=#[zG 11,{on:=16,ground:=.gcOnly .lateStores}],guard:=none}) (v:=?_) ?_ ?_
  rotate_left
  ·intro w' hSw;have k9:=(zO (w:=w3) (a:=⟨w1.heap.size,9,none⟩) hSw).trans g9;have k27:=(zO (w:=w3) (a:=⟨w1.heap.size,27,none⟩) hSw).trans g27;have k26:=(zO (w:=w3) (a:=⟨w1.heap.size,26,none⟩) hSw).trans g26;go_simp;try with_reducible rfl
  simp only [Act.put,zC,zD,zE]
  refine zA (i:=13) (oi:={dst:=some 39,op:=.move (.tmp 11),type:=177,pos:= "run.go:350",after:=#[],guard:=none}) ?_
  simp only [Act.put,zC,zD,zE]
  refine zA (i:=15) (oi:={dst:=some 41,op:=.move (.tmp 10),type:=41,pos:= "run.go:350",after:=#[{on:=18,ground:=.gcOnly .lateStores}],guard:=none}) ?_
  simp only [Act.put,zC,zD,zE]
  refine zL (i:=8) (o:={dst:=some 34,op:=.call {callee:=.value (.func 108),args:=#[.tmp 29,.tmp 33],argTypes:=#[44,3]},type:=9,pos:= "run.go:350",after:=#[zG 3,zG 7],guard:=none}) (fun K' hK'=>?_)
  go_simp
  go_at_call 108
  refine(zY H108).mono ?_
  rintro e w4 ⟨rfl,f4⟩
  have s4:w4.heap[w1.heap.size]?=w3.heap[w1.heap.size]?:=f4.same _ hb3 (fun h=>h)
  have f34:Fr (fun _=>False) w3 w4 (fun _=>False):=((Fr.refl _ _).drew).trans f4
  have HC9:=zZ (zY H109 w4 f34)
  have F34:=zZ f34
  clear f4 f34 H108 H109
  refine hK'.out _ _ ?_ (fun hHeld=>?_)
  ·exact s4
  clear hK' K'
  try simp only [Act.put,zC,zD,zE]
  refine zL (i:=14) (o:={dst:=some 40,op:=.call {callee:=.value (.func 109),args:=#[.tmp 39],argTypes:=#[177]},type:=37,pos:= "run.go:350",after:=#[zG 13,zM 8],guard:=none}) (fun K' hK'=>?_)
  go_simp
  go_at_call 109
  refine(zY HC9).mono ?_
  rintro e w5 ⟨rfl,f5⟩
  have s5:w5.heap[w1.heap.size]?=w3.heap[w1.heap.size]?:=(f5.same _ (zT hb3 (zY F34).size) (fun h=>h)).trans s4
  have f35:=(zY F34).trans f5
  have e8:w5.heap[w.heap.size+1+1]?=some (.cells #[.int .i64 0,.int .i64 0,.int .i64 0,.int .i64 0,.int .i64 0,.int .i64 0,.int .i64 0] 37):=(f35.same _ (zN.1 (zY D83)).1 (fun h=>h)).trans (zY D83)
  have ct8:=fun j=>cell_of_row w5 _ j _ 37 (0,0) e8
  have ft8:=fun j=>yB e8 j
  have el8:=(zN.1 e8).1
  have E8:=zZ e8
  have F35:=zZ f35
  clear f5 f35 HC9 e8
  refine hK'.out _ _ ?_ (fun hHeld=>?_)
  ·exact s5
  clear hK' K'
  try simp only [Act.put,zC,zD,zE]
  refine zA (i:=16) (oi:={dst:=some 6,op:=.assign (.tmp 34),type:=9,pos:= "run.go:350",after:=#[zG 8,zM 14,zF 0,zF 1,zF 2,zF 3,zF 4,zF 5,zF 6,zF 7,zF 8,{on:=9,ground:=.textOnly .lateStores},{on:=10,ground:=.textOnly .lateStores},{on:=11,ground:=.textOnly .lateStores},{on:=12,ground:=.textOnly .lateStores},{on:=13,ground:=.textOnly .lateStores},{on:=14,ground:=.textOnly .lateStoresUnsure},{on:=15,ground:=.textOnly .lateStores}],guard:=none}) ?_
  simp only [Act.put,zC,zD,zE]
  refine zA (i:=17) (oi:={dst:=some 7,op:=.assign (.tmp 38),type:=34,pos:= "run.go:350",after:=#[zG 12,zM 16,zF 0,zF 1,zF 2,zF 3,zF 4,zF 5,zF 6,zF 7,zF 8,zF 9,zF 10,zF 11,zF 12,{on:=13,ground:=.textOnly .lateStores},{on:=14,ground:=.textOnly .lateStoresUnsure},{on:=15,ground:=.textOnly .lateStores},zF 16],guard:=none}) ?_
  simp only [Act.put,zC,zD,zE]
  simp only [qJ]
  have hne8:w1.heap.size≠w.heap.size+1+1:=by omega
  have st:∀(V:World) (j:Nat) (u:Value),V.heap[w1.heap.size]?=w3.heap[w1.heap.size]?->(V.setCell ⟨w.heap.size+1+1,j,none⟩ u).heap[w1.heap.size]?=w3.heap[w1.heap.size]?:=fun V j u hv=>(zQ _ _ _ _ hne8).trans hv
  have hs7:(((((((w5.setCell ⟨w.heap.size+1+1,0,none⟩ (.int .i64 s3.fin)).setCell ⟨w.heap.size+1+1,1,none⟩ (.int .i64 (s3.reg 0))).setCell ⟨w.heap.size+1+1,2,none⟩ (.int .i64 (s3.reg 1))).setCell ⟨w.heap.size+1+1,3,none⟩ (.int .i64 (s3.reg 2))).setCell ⟨w.heap.size+1+1,4,none⟩ (.int .i64 (s3.reg 3))).setCell ⟨w.heap.size+1+1,5,none⟩ (.int .i64 s3.clock)).setCell ⟨w.heap.size+1+1,6,none⟩ (.int .i64 s3.heard)).heap[w1.heap.size]?=w3.heap[w1.heap.size]?:=st _ _ _ (st _ _ _ (st _ _ _ (st _ _ _ (st _ _ _ (st _ _ _ (st _ _ _ s5))))))
  have hy7:=eY (zY E8) (.int .i64 s3.fin) (.int .i64 (s3.reg 0)) (.int .i64 (s3.reg 1)) (.int .i64 (s3.reg 2)) (.int .i64 (s3.reg 3)) (.int .i64 s3.clock) (.int .i64 s3.heard)
  have hge8:w.heap.size<=w.heap.size+1+1:=by omega
  have hrow7:w5.ownsRow w.heap.size 72 3 (.slice ua s3.trace.length uc) s3.trace.length (xZ s3.trace):=yA (zY HROW3) (fun q hq=>(zY F35).same q (zS (zY HROW3) q hq).2 (fun h=>h))
  have st8:∀(V:World) (j:Nat) (u:Value),V.ownsRow w.heap.size 72 3 (.slice ua s3.trace.length uc) s3.trace.length (xZ s3.trace)->(V.setCell ⟨w.heap.size+1+1,j,none⟩ u).ownsRow w.heap.size 72 3 (.slice ua s3.trace.length uc) s3.trace.length (xZ s3.trace):=fun V j u hv=>yA hv (fun q hq=>zQ _ _ _ _ (fun e=>zY HP8 (by have e':q=w.heap.size+1+1:=e;rw [<-e'];exact(zY HINV q hq).1)))
  have hr7:=st8 _ 6 (.int .i64 s3.heard) (st8 _ 5 (.int .i64 s3.clock) (st8 _ 4 (.int .i64 (s3.reg 3)) (st8 _ 3 (.int .i64 (s3.reg 2)) (st8 _ 2 (.int .i64 (s3.reg 1)) (st8 _ 1 (.int .i64 (s3.reg 0)) (st8 _ 0 (.int .i64 s3.fin) hrow7))))))
  have hft:Fr (fun _=>False) w w5 (fun _=>False):=by
   have g1:Fr (fun _=>False) w w3 (fun _=>False):=⟨(zY F3).os.trans (zY HFW).os,(zY F3).tape.trans (zY HFW).tape,(zY F3).output.trans (zY HFW).output,Nat.le_trans (zY HFW).size (zY F3).size,fun k hk _=>((zY F3).same k (zT hk (zY HFW).size) (fun e=>by have e':k=w1.heap.size:=e;omega)).trans ((zY HFW).same k hk (fun h=>h)),fun _ _ h=>h⟩
   exact g1.trans (zY F35)
  have HFT:=zZ hft
  have hf7:=((((((((zY HFT).setCell ⟨w.heap.size+1+1,0,none⟩ (.int .i64 s3.fin) (.inr hge8)).setCell ⟨w.heap.size+1+1,1,none⟩ (.int .i64 (s3.reg 0)) (.inr hge8)).setCell ⟨w.heap.size+1+1,2,none⟩ (.int .i64 (s3.reg 1)) (.inr hge8)).setCell ⟨w.heap.size+1+1,3,none⟩ (.int .i64 (s3.reg 2)) (.inr hge8)).setCell ⟨w.heap.size+1+1,4,none⟩ (.int .i64 (s3.reg 3)) (.inr hge8)).setCell ⟨w.heap.size+1+1,5,none⟩ (.int .i64 s3.clock) (.inr hge8)).setCell ⟨w.heap.size+1+1,6,none⟩ (.int .i64 s3.heard) (.inr hge8))
  have HS7:=zZ hs7
  have HY7:=zZ hy7
  have HR7:=zZ hr7
  have HF7:=zZ hf7
  clear hs7 hy7 hr7 hf7 st st8 hrow7 hft
  refine zL (i:=18) (o:={dst:=none,op:=.store 37 (.tmp 8) (.tmp 40),type:=0,pos:= "run.go:350",after:=#[zG 14,zM 17,zF 0,zF 1,zF 2,zF 3,zF 4,zF 5,zF 6,zF 7,zF 8,zF 9,zF 10,zF 11,zF 12,zF 13,zF 14,{on:=15,ground:=.textOnly .lateStores},zF 16,zF 17],guard:=none}) (fun K' hK'=>?_)
  go_simp
  refine hK'.out _ _ ?_ (fun hHeld=>?_)
  ·exact zY HS7
  clear hK' K'
  try simp only [Act.put,zC,zD,zE]
  refine zA (i:=19) (oi:={dst:=some 9,op:=.assign (.tmp 41),type:=41,pos:= "run.go:350",after:=#[zG 15,zM 18,zF 0,zF 1,zF 2,zF 3,zF 4,zF 5,zF 6,zF 7,zF 8,zF 9,zF 10,zF 11,zF 12,zF 13,zF 14,zF 15,zF 16,zF 17,zF 18],guard:=none}) ?_
  simp only [Act.put,zC,zD,zE]
  refine wpAnyH_done (by kernel_rfl) ?_ _
  generalize hV:(((((((w5.setCell ⟨w.heap.size+1+1,0,none⟩ (.int .i64 s3.fin)).setCell ⟨w.heap.size+1+1,1,none⟩ (.int .i64 (s3.reg 0))).setCell ⟨w.heap.size+1+1,2,none⟩ (.int .i64 (s3.reg 1))).setCell ⟨w.heap.size+1+1,3,none⟩ (.int .i64 (s3.reg 2))).setCell ⟨w.heap.size+1+1,4,none⟩ (.int .i64 (s3.reg 3))).setCell ⟨w.heap.size+1+1,5,none⟩ (.int .i64 s3.clock)).setCell ⟨w.heap.size+1+1,6,none⟩ (.int .i64 s3.heard))=V at *
  clear hV
  have ky:=fun j=>cell_of_row V _ j _ 37 (0,0) (zY HY7)
  go_wp2
  refine bodyPost_ret (v:=.tuple #[.string (sM (s3,x3)),.slice ua s3.trace.length uc,qJ s3,.int .i64 0]) (by simp [results,Tryz.results72,go_sem,ky,qJ]) rfl ?_
  refine⟨zY HF7,0,zY HANS,.inr ⟨rfl,.slice ua s3.trace.length uc,?_,?_⟩⟩
  ·rw [zY HR]
  ·rw [zY HR];exact zY HR7
 ·have hxb:(x==0)=false:=by simpa using hx
  go_wp2
  have y8:=eY (zY B8) (.int .i64 0) (.int .i64 0) (.int .i64 0) (.int .i64 0) (.int .i64 0) (.int .i64 0) (.int .i64 0)
  have ky:=fun j=>cell_of_row _ _ j _ 37 (0,0) y8
  refine bodyPost_ret (v:=.tuple #[.string ⟨#[]⟩,.slice none 0 0,.agg #[.int .i64 0,.int .i64 0,.int .i64 0,.int .i64 0,.int .i64 0,.int .i64 0,.int .i64 0],.int .i64 x]) (by simp [results,Tryz.results72,go_sem,ky]) rfl ?_
  refine⟨?_,x,zY HANS,.inl ⟨hx,rfl⟩⟩
  exact(((((((Fr.of_below (zY HW1)).setCell ⟨w.heap.size+1+1,0,none⟩ _ (.inr (by show w.heap.size<=w.heap.size+1+1;omega))).setCell ⟨w.heap.size+1+1,1,none⟩ _ (.inr (by show w.heap.size<=w.heap.size+1+1;omega))).setCell ⟨w.heap.size+1+1,2,none⟩ _ (.inr (by show w.heap.size<=w.heap.size+1+1;omega))).setCell ⟨w.heap.size+1+1,3,none⟩ _ (.inr (by show w.heap.size<=w.heap.size+1+1;omega))).setCell ⟨w.heap.size+1+1,4,none⟩ _ (.inr (by show w.heap.size<=w.heap.size+1+1;omega))).setCell ⟨w.heap.size+1+1,5,none⟩ _ (.inr (by show w.heap.size<=w.heap.size+1+1;omega))).setCell ⟨w.heap.size+1+1,6,none⟩ _ (.inr (by show w.heap.size<=w.heap.size+1+1;omega))
end Go.Proofs.YtfmbebofllgmoaaGreatDoor
namespace Go.Proofs.YtfmbebofllgmoaaGreatDoor
open Go.RowKit
theorem uJ.mono {w:World} {v:Value} {l:List Value} {P Q:Nat->Prop} (h:uJ w v l P) (hp:∀q,P q->Q q):uJ w v l Q:=by
 obtain⟨a,c,hv,hc,hl⟩:=h
 exact⟨a,c,hv,hc,hl.imp id fun ⟨q,off,e,hq,hcell⟩=>⟨q,off,e,hp q hq,hcell⟩⟩
theorem uJ.vals {w:World} {v:Value} {l:List Value} {P:Nat->Prop} (h:uJ w v l P):sL w v l P:=by
 obtain⟨a,c,hv,_,hl⟩:=h
 exact⟨a,c,hv,hl⟩
theorem vO.ints {w:World} {v:Value} {l:List Int} {P:Nat->Prop} (h:vO w v l P):yJ w v l P:=by
 obtain⟨a,c,hv,_,hl⟩:=h
 refine⟨a,c,by simpa using hv,hl.imp (by simp) fun ⟨q,off,e,hq,hcell⟩=>⟨q,off,e,hq,fun i hi=>?_⟩⟩
 rw [hcell i (by simpa using hi)]
 simp [hi]
structure oA (w:World) (q0 q1 q2 q3:Value) (lc:List Int) (bs:List (Value×List Int)) (lp ll:List Int):Prop where
 c0:vO w q0 lc (fun q=>q<w.heap.size)
 c1:uJ w q1 (bs.map (·.1)) (fun q=>q<w.heap.size)
 c2:vO w q2 lp (fun q=>q<w.heap.size)
 c3:vO w q3 ll (fun q=>q<w.heap.size)
 cb:∀b,b∈bs->yJ w b.1 b.2 (fun q=>q<w.heap.size)/\b.2.length<=100000000
 n0:lc.length<=4000000
 n1:bs.length<=4000000
 n2:lp.length<=4000000
 n3:ll.length<=4000000
theorem oA.below {w w':World} {q0 q1 q2 q3:Value} {lc lp ll:List Int} {bs:List (Value×List Int)} (h:oA w q0 q1 q2 q3 lc bs lp ll) (hb:Below w.heap.size w w'):oA w' q0 q1 q2 q3 lc bs lp ll:=by
 have k:∀q,q<w.heap.size->w'.heap[q]?=w.heap[q]?:=fun q hq=>hb.block q hq
 have m:∀q,q<w.heap.size->q<w'.heap.size:=fun q hq=>zT hq hb.size
 exact⟨(uJ.keep h.c0 k).mono m,(h.c1.keep k).mono m,(uJ.keep h.c2 k).mono m,(uJ.keep h.c3 k).mono m,fun b hb=>⟨yN (h.cb b hb).1 k m,(h.cb b hb).2⟩,h.n0,h.n1,h.n2,h.n3⟩
theorem oA.bats {w:World} {q0 q1 q2 q3:Value} {lc lp ll:List Int} {bs:List (Value×List Int)} (h:oA w q0 q1 q2 q3 lc bs lp ll):oG w q1 (bs.map (·.2)) (fun q=>q<w.heap.size):=by
 refine⟨bs.map (·.1),h.c1,by simp,fun i u l hu hl=>?_⟩
 simp only [List.getElem?_map,Option.map_eq_some_iff] at hu hl
 obtain⟨b,hb,rfl⟩:=hu
 obtain⟨b',hb',rfl⟩:=hl
 rw [hb] at hb'
 cases hb'
 exact(h.cb b (List.mem_of_getElem? hb)).1
def nZ (G:Nat->Nat) (ls:List (List Int)):List (Value×List Int):=(List.range ls.length).map (fun i=>(sN (G i) (ls.getD i []),ls.getD i []))
theorem zB7 (G:Nat->Nat) (ls:List (List Int)):(nZ G ls).length=ls.length:=by simp [nZ]
theorem zB8 (G:Nat->Nat) (ls:List (List Int)):(nZ G ls).map (·.2)=ls:=by
 apply List.ext_getElem
 ·simp [nZ]
 ·intro i h1 h2
  simp [nZ,h2]
theorem uU.ints {w:World} {g:Nat} {l:List Int} {P:Nat->Prop} (h:uU w g (l.length+4) l) (hg:P g):yJ w (sN g l) l P:=by
 refine⟨some ⟨g,0,none⟩,l.length+4,rfl,.inr ⟨g,0,rfl,hg,fun i hi=>?_⟩⟩
 rw [Nat.zero_add,h.cells i (by omega)]
 simp [hi]
theorem tJ.vals {w:World} {g:Nat} {ls:List (List Int)} {G:Nat->Nat} {P:Nat->Prop} (h:tJ w g ls.length ls.length ls G) (hg:P g):sL w (.slice (some ⟨g,0,none⟩) ls.length (ls.length+4)) ((nZ G ls).map (·.1)) P:=by
 refine⟨some ⟨g,0,none⟩,ls.length+4,by simp [nZ],.inr ⟨g,0,rfl,hg,fun i hi=>?_⟩⟩
 have hi':i<ls.length:=by simpa [nZ] using hi
 rw [Nat.zero_add,h.heads i hi' hi']
 simp [nZ,hi',sN]
theorem tJ.each {w:World} {g:Nat} {ls:List (List Int)} {G:Nat->Nat} {L:Nat->Prop} (h:tJ w g ls.length ls.length ls G) (hL:∀i,i<ls.length->L (G i)) (hn:∀l,l∈ls->l.length<=100000000):∀b,b∈nZ G ls->yJ w b.1 b.2 L/\b.2.length<=100000000:=by
 intro b hb
 simp only [nZ,List.mem_map,List.mem_range] at hb
 obtain⟨i,hi,rfl⟩:=hb
 refine⟨(h.own i hi hi).ints (hL i hi),hn _ ?_⟩
 simp only [List.getD_eq_getElem?_getD,List.getElem?_eq_getElem hi,Option.getD_some]
 exact List.getElem_mem hi
section
variable (p:Pg) (f:Int) (lc:List Int) (bs:List (Value×List Int)) (lp ll:List Int) (x:Int)
def dK:ByteArray:=if x=0 then sM (tW p f lc bs lp ll) else ⟨#[]⟩
def mS:List O3:=if x=0 then (tW p f lc bs lp ll).1.trace else []
def zQ7:PS:=if x=0 then (tW p f lc bs lp ll).1 else {(tW p f lc bs lp ll).1 with fin:=0,reg:=fun _=>0,clock:=0,heard:=0}
end
theorem lB.out {w w':World} {p:Pg} {f:Int} {lc lp ll:List Int} {bs:List (Value×List Int)} {e:Ending} (h:lB w p f lc bs lp ll e w') :
  Fr (fun _=>False) w w' (fun _=>False)/\∃x,Ans p.tn p.fn (1+p.tn+p.fn) (qD p.sn p.tn p.tl p.fl) (qG p.tn p.sf p.tf p.ff) x/\∃a c,
   e=.returned (.tuple #[.string (dK p f lc bs lp ll x),.slice a (mS p f lc bs lp ll x).length c,qJ (zQ7 p f lc bs lp ll x),.int .i64 x])/\w'.ownsRow w.heap.size 72 3 (.slice a (mS p f lc bs lp ll x).length c) (mS p f lc bs lp ll x).length (xZ (mS p f lc bs lp ll x)):=by
 obtain⟨hf,x,hx,⟨h0,he⟩ | ⟨h0,vt,he,hr⟩⟩:=h
 ·refine⟨hf,x,hx,none,0,?_,?_⟩
  ·rw [he];simp [dK,mS,zQ7,h0,qJ]
  ·simp only [mS,h0,if_false]
   exact zX _ _ _ _
 ·subst h0
  obtain⟨a,c,rfl⟩:=yM hr
  refine⟨hf,0,hx,a,c,?_,?_⟩
  ·rw [he];simp [dK,mS,zQ7]
  ·simpa [mS] using hr
theorem yG5 {p:Pg} {f:Int} {lc lp ll:List Int} {bs:List (Value×List Int)} {x:Int} (hx:Ans p.tn p.fn (1+p.tn+p.fn) (qD p.sn p.tn p.tl p.fl) (qG p.tn p.sf p.tf p.ff) x):(mS p f lc bs lp ll x).length<=5000+16*(lc.length+1):=by
 unfold mS
 split
 ·next h=>subst h;exact zM5 (tN hx) f lc bs lp ll
 ·simp
def zB3 (p:Pg) (f:Int) (lc:List Int) (ls:List (List Int)) (lp ll:List Int) (sg:ByteArray):Prop:=
 (tY p->∃bs:List (Value×List Int),bs.map (·.2)=ls/\sg=sM (tW p f lc bs lp ll))/\(¬tY p->sg=⟨#[]⟩)
theorem zL3 {p:Pg} {f:Int} {lc lp ll:List Int} {bs:List (Value×List Int)} {x:Int} (hx:Ans p.tn p.fn (1+p.tn+p.fn) (qD p.sn p.tn p.tl p.fl) (qG p.tn p.sf p.tf p.ff) x):zB3 p f lc (bs.map (·.2)) lp ll (dK p f lc bs lp ll x):=by
 refine⟨fun ok=>⟨bs,rfl,?_⟩,fun h=>?_⟩
 ·have:x=0:=hx.one (zS3 ok)
  subst this;simp [dK]
 ·have:x≠0:=fun e=>h (by subst e;exact tN hx)
  simp [dK,this]
end Go.Proofs.YtfmbebofllgmoaaGreatDoor
namespace Go.Proofs.YtfmbebofllgmoaaGreatDoor
open Go.RowKit
attribute [local go_sem ↓] Go.wp_at_zero Go.wp_at_succ
theorem uU.block {w w':World} {g k:Nat} {l:List Int} (h:uU w g k l) (e:w'.heap[g]?=w.heap[g]?):uU w' g k l:=
 ⟨fun i hi=>by rw [zO (w:=w) (a:=⟨g,i,none⟩) e,zP (w:=w) (a:=⟨g,i,none⟩) e];exact h.there i hi,fun i hi=>by rw [zO (w:=w) (a:=⟨g,i,none⟩) e];exact h.cells i hi⟩
theorem tJ.block {w w':World} {g n k:Nat} {ls:List (List Int)} {G:Nat->Nat} (h:tJ w g n k ls G) (e:w'.heap[g]?=w.heap[g]?) (eG:∀i,i<k->i<n->w'.heap[G i]?=w.heap[G i]?) (hz:w.heap.size<=w'.heap.size):tJ w' g n k ls G:=
 ⟨fun i hi=>by rw [zO (w:=w) (a:=⟨g,i,none⟩) e,zP (w:=w) (a:=⟨g,i,none⟩) e];exact h.there i hi,fun i hi hn=>by rw [zO (w:=w) (a:=⟨g,i,none⟩) e];exact h.heads i hi hn,
  fun i hi hn=>⟨(h.far i hi hn).1,zT (h.far i hi hn).2 hz⟩,fun i hi hn=>(h.own i hi hn).block (eG i hi hn)⟩
def kK (w w':World) (B bb:Nat) (vI vN:Value) (LI LE LN:List Ent):Prop:=
 ∃n' vE' LE' K',rH w' B bb n' vI vE' vN LI LE' LN K'/\LE'.length=LE.length+1/\Below B w w'
theorem cT.ev {w w7 w':World} {B bb:Nat} {n:Int} {vI vE vN lv:Value} {LI LE LN:List Ent} {K:Nat->Prop} (h:cT w7 w' B bb n vI vE vN LI LE LN K lv) (hb:Below B w w7) (hbb:B<=bb) (hE:∀q,own vE q->B<=q) (hl:∀q,own lv q->B<=q) (hBw:B<=w7.heap.size):kK w w' B bb vI vN LI LE LN:=by
 obtain⟨vX,e,K',h1,_,_,h4⟩:=h
 refine⟨n,vX,_,K',h1,by simp,hb.trans (h4.below (fun k hk=>?_) hBw)⟩
 rcases hk with rfl | hk | hk | hk
 ·exact hbb
 ·exact hE k hk
 ·exact hl k hk
 ·omega
theorem zF9 {w w0:World} {bb:Nat} {n0:Int} {vI vE vN:Value} {LI LE LN:List Ent} {K:Nat->Prop} (h:rH w w0.heap.size bb n0 vI vE vN LI LE LN K) (hbb:w0.heap.size<=bb) (hbw:Below w0.heap.size w0 w) (ht:pV w0)
  {p1 p2 p3:Value} {p:Pg} (hpg:oI w0 (oQ p1 p2 p3 undef) p) {q0 q1 q2 q3:Value} {lc lp ll:List Int} {bs:List (Value×List Int)} (hwo:oA w0 q0 q1 q2 q3 lc bs lp ll) (kd lg:Value) (f:Int) (hL:LE.length<=900000000000) :
  Calls Tryz.prog 42 #[.pointer (some ⟨bb,0,none⟩),.agg #[kd,p1,p2,p3,q0,q1,q2,q3,lg,.int .i64 f]] w fun e w'=>∃sg,e=.returned (.tuple #[.string sg,.bool true])/\zB3 p f lc (bs.map (·.2)) lp ll sg/\kK w w' w0.heap.size bb vI vN LI LE LN/\∀k,k<w.heap.size->k≠bb->¬own vE k->w'.heap[k]?=w.heap[k]?:=by
 have i1:vQ w0 p1 p.sn p.sf:=hpg.s
 have i2:yV w0 p2 p.tn p.tl p.tf:=hpg.t
 have i3:yV w0 p3 p.fn p.fl p.ff:=hpg.f
 have n1:=lO i1
 have n2:=sR i2
 have n3:=sR i3
 have e2:=tT i2
 have e3:=tT i3
 obtain⟨W0,hW⟩ : ∃W0,W0=w.alloc (.cells #[kd,p1,p2,p3,q0,q1,q2,q3,lg,.int .i64 f] 67):=⟨_,rfl⟩
 have g0:Below w.heap.size w W0:=by subst hW;exact(Below.refl _ _).alloc (Nat.le_refl _) _
 have s0:W0.heap.size=w.heap.size+1:=by subst hW;simp
 have b0:W0.heap[w.heap.size]?=some (.cells #[kd,p1,p2,p3,q0,q1,q2,q3,lg,.int .i64 f] 67):=by subst hW;exact heap_alloc_new _ _
 have hsw:w0.heap.size<=w.heap.size:=hbw.size
 have h00:Below w0.heap.size w0 W0:=hbw.trans (g0.mono hsw)
 have H39:=zZ (hJ p1 p2 p3 p.sn p.tn p.fn p.sf p.tl p.fl p.tf p.ff W0 (yQ h00 i1) (yI h00 i2) (yI h00 i3))
 have hbkb:bb<w.heap.size:=(zN.1 h.bk.blk).1
 have hbkE:∀q,own vE q->w0.heap.size<=q/\q<w.heap.size:=fun q hq=>zS h.bk.rE q hq
 have HH:=zZ h
 have HPG:=zZ hpg
 have HWO:=zZ hwo
 have HT:=zZ ht
 have G0:=zZ g0
 have H00:=zZ h00
 have HBW:=zZ hbw
 have B0:=zZ b0
 have HW:=zZ hW
 have I1:=zZ i1
 have I2:=zZ i2
 have I3:=zZ i3
 have N1:=zZ n1
 have N2:=zZ n2
 have N3:=zZ n3
 have E2:=zZ e2
 have E3:=zZ e3
 have HE:=zZ hbkE
 have HL:=zZ hL
 have HBB:=zZ hbb
 have e35:=eq35
 clear h hpg hwo ht g0 h00 hbw b0 hW i1 i2 i3 n1 n2 n3 e2 e3 hbkE hL hbb
 go_enter Tryz.func42,Tryz.ntmps42
 go_wp2_with fail
 rw [<-zY HW]
 go_at_call 39
 refine(zY H39).mono ?_
 rintro e w1 ⟨g1,g2,g3,G2,G3,rfl,hb1,m1,m12,m23,mG,o1,o2,o3⟩
 have x1:=yL hb1 (zY B0)
 have z1:W0.heap.size<=w1.heap.size:=hb1.size
 obtain⟨W1,hW1⟩ : ∃W1,W1=w1.alloc (.cells #[.slice (some ⟨g1,0,none⟩) p.sn (p.sn+4),.slice (some ⟨g2,0,none⟩) p.tn (p.tn+4),.slice (some ⟨g3,0,none⟩) p.fn (p.fn+4)] 33):=⟨_,rfl⟩
 have c1:Below w1.heap.size w1 W1:=by subst hW1;exact(Below.refl _ _).alloc (Nat.le_refl _) _
 have s1:W1.heap.size=w1.heap.size+1:=by subst hW1;simp
 have y1:W1.heap[w1.heap.size]?=some (.cells #[.slice (some ⟨g1,0,none⟩) p.sn (p.sn+4),.slice (some ⟨g2,0,none⟩) p.tn (p.tn+4),.slice (some ⟨g3,0,none⟩) p.fn (p.fn+4)] 33):=by subst hW1;exact heap_alloc_new _ _
 have d1:Below W0.heap.size W0 W1:=hb1.trans (c1.mono z1)
 have h01:Below w0.heap.size w0 W1:=(zY H00).trans (d1.mono (by omega))
 have wc1:=(zY HWO).below h01
 have l1:g1<w1.heap.size:=qP (o1.cells 0 (by omega))
 have l2:g2<w1.heap.size:=zU w1 ⟨g2,p.tn,none⟩ (o2.pads p.tn (by omega) (by omega))
 have l3:g3<w1.heap.size:=zU w1 ⟨g3,p.fn,none⟩ (o3.pads p.fn (by omega) (by omega))
 have pg1:oI W1 (oQ (.slice (some ⟨g1,0,none⟩) p.sn (p.sn+4)) (.slice (some ⟨g2,0,none⟩) p.tn (p.tn+4)) (.slice (some ⟨g3,0,none⟩) p.fn (p.fn+4)) undef) p:=
  ⟨(o1.below c1 l1).opsIn (zY N1),(o2.below c1 l2 (fun i hi=>(o2.far i hi).2)).handsIn (zY N2) (zY E2),(o3.below c1 l3 (fun i hi=>(o3.far i hi).2)).handsIn (zY N3) (zY E3)⟩
 obtain⟨ls,hls⟩ : ∃ls,ls=bs.map (·.2):=⟨_,rfl⟩
 have hln:bs.length=ls.length:=by rw [hls,List.length_map]
 have h71:=zZ1 (w:=W1) (P:=fun q=>q<W1.heap.size) (fun _ h=>h) wc1.c0.ints wc1.c1.vals wc1.c2.ints wc1.c3.ints (fun b hb=>⟨(wc1.cb b hb).1,by have:=(wc1.cb b hb).2;omega⟩) (by have:=wc1.n0;omega) (by have:=wc1.n1;omega) (by have:=wc1.n2;omega) (by have:=wc1.n3;omega)
 rw [<-hls,hln] at h71
 simp only [sN] at h71
 have H71:=zZ h71
 have X1:=zZ x1
 have Y1:=zZ y1
 have C1:=zZ c1
 have D1:=zZ d1
 have H01:=zZ h01
 have PG1:=zZ pg1
 have HW1:=zZ hW1
 have O1:=zZ o1
 have O2:=zZ o2
 have O3:=zZ o3
 have HLS:=zZ hls
 have HLN:=zZ hln
 have MG:=zZ mG
 have HB1:=zZ hb1
 have k1:=fun j=>cell_of_row w1 w.heap.size j _ 67 (0,0) x1
 have hlt1:w.heap.size<w1.heap.size:=by omega
 clear h71 x1 y1 c1 d1 h01 wc1 pg1 hW1 o1 o2 o3 hls hln mG hb1 H39 HW
 go_wp2_with fail
 rw [<-zY HW1]
 go_at_call 71
 refine(zY H71).mono ?_
 rintro e w2 ⟨u0,ub,u2,u3,GB,rfl,hb2,v0,vb,v2,v3,on0,on2,on3,onb⟩
 have x2:=yL hb2 (yL (zY C1) (zY X1))
 have y2:=yL hb2 (zY Y1)
 have z2:W1.heap.size<=w2.heap.size:=hb2.size
 obtain⟨W2,hW2⟩ : ∃W2,W2=w2.alloc (.cells #[.slice (some ⟨u0,0,none⟩) lc.length (lc.length+4),.slice (some ⟨ub,0,none⟩) ls.length (ls.length+4),.slice (some ⟨u2,0,none⟩) lp.length (lp.length+4),.slice (some ⟨u3,0,none⟩) ll.length (ll.length+4)] 29):=⟨_,rfl⟩
 have c2:Below w2.heap.size w2 W2:=by subst hW2;exact(Below.refl _ _).alloc (Nat.le_refl _) _
 have s2:W2.heap.size=w2.heap.size+1:=by subst hW2;simp
 have y3:W2.heap[w2.heap.size]?=some (.cells #[.slice (some ⟨u0,0,none⟩) lc.length (lc.length+4),.slice (some ⟨ub,0,none⟩) ls.length (ls.length+4),.slice (some ⟨u2,0,none⟩) lp.length (lp.length+4),.slice (some ⟨u3,0,none⟩) ll.length (ll.length+4)] 29):=by subst hW2;exact heap_alloc_new _ _
 have d2:Below W1.heap.size W1 W2:=hb2.trans (c2.mono z2)
 have r0:u0<w2.heap.size:=on0.lt (by omega)
 have r2:u2<w2.heap.size:=on2.lt (by omega)
 have r3:u3<w2.heap.size:=on3.lt (by omega)
 have rb:ub<w2.heap.size:=(by obtain⟨v,hv⟩:=Option.isSome_iff_exists.1 (onb.there 0 (by omega)).1;exact zU w2 _ hv)
 have p0:=on0.below c2 r0
 have p2':=on2.below c2 r2
 have p3':=on3.below c2 r3
 have pb:=onb.below c2 rb (fun i hi hn=>(onb.far i hi hn).2)
 have hWO:=zY HWO
 have hls:=zY HLS
 have hln:=zY HLN
 have hmem:∀l,l∈ls->l.length<=100000000:=fun l hl=>by
  rw [hls,List.mem_map] at hl
  obtain⟨b,hb,rfl⟩:=hl
  exact(hWO.cb b hb).2
 have hbL:=pb.each (L:=fun q=>W1.heap.size<=q/\q<W2.heap.size) (fun i hi=>⟨by have:=(pb.far i hi hi).1;omega,(pb.far i hi hi).2⟩) hmem
 have hn0:=hWO.n0
 have hn1:=hWO.n1
 have hn2:=hWO.n2
 have hn3:=hWO.n3
 have h22:=zM6 (w:=W2) (w0:=W1) d2 (uG d2 (by omega) (uG (zY H01) (mU (zY HT)) (zY HT))) (zY PG1) f (bs:=nZ GB ls) (L:=fun q=>W1.heap.size<=q/\q<W2.heap.size) (P:=fun q=>q<W2.heap.size) (fun _ h=>h) (fun _ h=>h)
  (p0.ints (P:=fun q=>q<W2.heap.size) (by omega)) (pb.vals (P:=fun q=>q<W2.heap.size) (by omega)) (p2'.ints (P:=fun q=>q<W2.heap.size) (by omega)) (p3'.ints (P:=fun q=>q<W2.heap.size) (by omega)) hbL hn0 (by rw [zB7];omega) hn2 hn3
 simp only [sN] at h22
 have H22:=zZ h22
 have X2:=zZ x2
 have Y2:=zZ y2
 have Y3:=zZ y3
 have C2:=zZ c2
 have D2:=zZ d2
 have P0:=zZ p0
 have P2:=zZ p2'
 have P3:=zZ p3'
 have PB:=zZ pb
 have HBL:=zZ hbL
 have HW2:=zZ hW2
 have k2:=fun j=>cell_of_row w2 w.heap.size j _ 67 (0,0) x2
 have j2:=fun j=>cell_of_row w2 w1.heap.size j _ 33 (0,0) y2
 have hlt2:w.heap.size<w2.heap.size:=by omega
 have hlt2':w1.heap.size<w2.heap.size:=by omega
 clear h22 x2 y2 y3 c2 d2 p0 p2' p3' pb hbL hW2 hmem hls hln hWO on0 on2 on3 onb hb2 H71 HW1 k1 hlt1
 go_wp2_with fail
 rw [<-zY HW2]
 go_at_call 22
 refine(zY H22).mono ?_
 rintro e w3 hpost
 obtain⟨f3,x,hx,a3,c3,rfl,r3⟩:=hpost.out
 obtain⟨sg,hsg⟩ : ∃sg,sg=dK p f lc (nZ GB ls) lp ll x:=⟨_,rfl⟩
 obtain⟨T,hT⟩ : ∃T,T=mS p f lc (nZ GB ls) lp ll x:=⟨_,rfl⟩
 obtain⟨F,hF⟩ : ∃F,F=zQ7 p f lc (nZ GB ls) lp ll x:=⟨_,rfl⟩
 have tle:=yG5 (f:=f) (lc:=lc) (bs:=nZ GB ls) (lp:=lp) (ll:=ll) hx
 rw [<-hT] at r3 tle
 have lof:zB3 p f lc (bs.map (·.2)) lp ll sg:=by
  have:=zL3 (f:=f) (lc:=lc) (bs:=nZ GB ls) (lp:=lp) (ll:=ll) hx
  rw [zB8,<-hsg,zY HLS] at this
  exact this
 have hb3:Below W2.heap.size W2 w3:=f3.below (fun k hk=>hk.elim) (Nat.le_refl _)
 have x3:=yL hb3 (yL (zY C2) (zY X2))
 have y33:=yL hb3 (yL (zY C2) (zY Y2))
 have y34:=yL hb3 (zY Y3)
 have z3:W2.heap.size<=w3.heap.size:=hb3.size
 obtain⟨W3,hW3⟩ : ∃W3,W3=w3.alloc (.cells #[.int .i64 F.fin,.int .i64 (F.reg 0),.int .i64 (F.reg 1),.int .i64 (F.reg 2),.int .i64 (F.reg 3),.int .i64 F.clock,.int .i64 F.heard] 37):=⟨_,rfl⟩
 have c3b:Below w3.heap.size w3 W3:=by subst hW3;exact(Below.refl _ _).alloc (Nat.le_refl _) _
 have s3:W3.heap.size=w3.heap.size+1:=by subst hW3;simp
 have y35:W3.heap[w3.heap.size]?=some (.cells #[.int .i64 F.fin,.int .i64 (F.reg 0),.int .i64 (F.reg 1),.int .i64 (F.reg 2),.int .i64 (F.reg 3),.int .i64 F.clock,.int .i64 F.heard] 37):=by subst hW3;exact heap_alloc_new _ _
 have d3:Below W2.heap.size W2 W3:=hb3.trans (c3b.mono z3)
 have h03:Below w0.heap.size w0 W3:=(zY H01).trans (((zY D2).mono (by omega)).trans (d3.mono (by omega)))
 have wc3:=(zY HWO).below h03
 have h72:=cM (w:=W3) (p1:=p1) (p2:=p2) (p3:=p3) (p:=p) ⟨yQ h03 (zY I1),yI h03 (zY I2),yI h03 (zY I3)⟩ f (bs:=nZ GB ls) wc3.c0 (by rw [zB8,zY HLS];exact wc3.bats) wc3.c2 wc3.c3 (fun b hb=>(zY HBL b hb).2) hn0 (by rw [zB7];have:=zY HLN;omega) hn2 hn3
 have H72:=zZ h72
 have X3:=zZ x3
 have Y33:=zZ y33
 have Y34:=zZ y34
 have Y35:=zZ y35
 have C3:=zZ c3b
 have D3:=zZ d3
 have R3:=zZ r3
 have TLE:=zZ tle
 have LOF:=zZ lof
 have HX:=zZ hx
 have HSG:=zZ hsg
 have HTT:=zZ hT
 have HFF:=zZ hF
 have HW3:=zZ hW3
 have k3:=fun j=>cell_of_row w3 w.heap.size j _ 67 (0,0) x3
 have hlt3:w.heap.size<w3.heap.size:=by omega
 rw [<-hsg,<-hT,<-hF]
 simp only [qJ]
 clear h72 x3 y33 y34 y35 c3b d3 h03 wc3 r3 tle lof hx hsg hT hF hW3 hb3 f3 hpost H22 HW2 k2 j2 hlt2 hlt2'
 go_wp2_with fail
 rw [<-zY HW3]
 go_at_call 72
 refine(zY H72).mono ?_
 rintro e w4 hpost
 obtain⟨f4,x',hx',a4,c4,rfl,r4⟩:=hpost.out
 obtain rfl:x=x':=(zY HX).one hx'
 rw [<-zY HTT] at r4
 have hb4:Below W3.heap.size W3 w4:=f4.below (fun k hk=>hk.elim) (Nat.le_refl _)
 have z4:W3.heap.size<=w4.heap.size:=hb4.size
 have x4:=yL hb4 (yL (zY C3) (zY X3))
 have y43:=yL hb4 (yL (zY C3) (zY Y33))
 have y44:=yL hb4 (yL (zY C3) (zY Y34))
 have y45:=yL hb4 (zY Y35)
 obtain⟨W4,hW4⟩ : ∃W4,W4=w4.alloc (.cells #[.int .i64 F.fin,.int .i64 (F.reg 0),.int .i64 (F.reg 1),.int .i64 (F.reg 2),.int .i64 (F.reg 3),.int .i64 F.clock,.int .i64 F.heard] 37):=⟨_,rfl⟩
 have c4b:Below w4.heap.size w4 W4:=by subst hW4;exact(Below.refl _ _).alloc (Nat.le_refl _) _
 have s4:W4.heap.size=w4.heap.size+1:=by subst hW4;simp
 have y46:W4.heap[w4.heap.size]?=some (.cells #[.int .i64 F.fin,.int .i64 (F.reg 0),.int .i64 (F.reg 1),.int .i64 (F.reg 2),.int .i64 (F.reg 3),.int .i64 F.clock,.int .i64 F.heard] 37):=by subst hW4;exact heap_alloc_new _ _
 have d4:Below W3.heap.size W3 W4:=hb4.trans (c4b.mono z4)
 have d24:Below W2.heap.size W2 W4:=(zY D3).trans (d4.mono (by omega))
 have d14:Below w1.heap.size w1 W4:=(zY C1).trans (((zY D2).mono (by omega)).trans (d24.mono (by omega)))
 have d04:Below W0.heap.size W0 W4:=(zY D1).trans (((zY D2).mono (by omega)).trans (d24.mono (by omega)))
 have h04:Below w0.heap.size w0 W4:=(zY H00).trans (d04.mono (by omega))
 have l1:g1<w1.heap.size:=qP ((zY O1).cells 0 (by omega))
 have h40:=dO W0.heap.size w1.heap.size p1 p2 p3 g1 g2 g3 p.sn p.tn p.fn p.sf p.tl p.fl G2 G3 p.tf p.ff W4 (yQ h04 (zY I1)) (yI h04 (zY I2)) (yI h04 (zY I3))
  ((zY O1).below d14 l1) ((zY O2).below d14 l2 (fun i hi=>((zY O2).far i hi).2)) ((zY O3).below d14 l3 (fun i hi=>((zY O3).far i hi).2)) m1 m12 m23 (zY MG) (fun i hi=>((zY O3).far i hi).2)
 have H40:=zZ h40
 have X4:=zZ x4
 have Y43:=zZ y43
 have Y44:=zZ y44
 have Y45:=zZ y45
 have Y46:=zZ y46
 have C4:=zZ c4b
 have D4:=zZ d4
 have D24:=zZ d24
 have D04:=zZ d04
 have R4:=zZ r4
 have HW4:=zZ hW4
 have k4:=fun j=>cell_of_row w4 w.heap.size j _ 67 (0,0) x4
 have j4:=fun j=>cell_of_row w4 w1.heap.size j _ 33 (0,0) y43
 have hlt4:w.heap.size<w4.heap.size:=by omega
 have hlt4':w1.heap.size<w4.heap.size:=by omega
 rw [<-zY HSG,<-zY HTT,<-zY HFF]
 simp only [qJ]
 clear h40 x4 y43 y44 y45 y46 c4b d4 d24 d14 d04 h04 r4 hW4 hb4 f4 hpost hx' H72 HW3 k3 hlt3 HSG HTT HFF HX
 go_wp2_with fail
 rw [<-zY HW4]
 go_at_call 40
 refine(zY H40).mono ?_
 rintro e w5 ⟨rfl,hb5,far5⟩
 have z5:W4.heap.size<=w5.heap.size:=hb5.size
 have x5:=(hb5.block _ (show w.heap.size<W0.heap.size by omega)).trans (yL (zY C4) (zY X4))
 have y54:=(far5 w2.heap.size (by omega) (by omega)).trans (yL (zY C4) (zY Y44))
 have y55:=(far5 w3.heap.size (by omega) (by omega)).trans (yL (zY C4) (zY Y45))
 have y56:=(far5 w4.heap.size (by omega) (by omega)).trans (zY Y46)
 have d05:Below W0.heap.size W0 w5:=(zY D04).trans hb5
 have h05:Below w0.heap.size w0 w5:=(zY H00).trans (d05.mono (by omega))
 have wc5:=(zY HWO).below h05
 have q0':=((zY P0).below (zY D24) (by omega)).block (far5 u0 (by omega) (by omega))
 have q2':=((zY P2).below (zY D24) (by omega)).block (far5 u2 (by omega) (by omega))
 have q3':=((zY P3).below (zY D24) (by omega)).block (far5 u3 (by omega) (by omega))
 have hpb:=(zY PB).below (zY D24) (by omega) (fun i hi hn=>((zY PB).far i hi hn).2)
 have qb':=hpb.block (far5 ub (by omega) (by omega)) (fun i hi hn=>far5 (GB i) (by have:=(hpb.far i hi hn).1;omega) (hpb.far i hi hn).2) z5
 have h73:=zY1 (w:=w5) (P:=fun q=>q<w5.heap.size) (fun _ h=>h) wc5.c0.ints wc5.c1.vals wc5.c2.ints wc5.c3.ints (fun b hb=>⟨(wc5.cb b hb).1,by have:=(wc5.cb b hb).2;omega⟩) (by omega) (by omega) (by omega) (by omega) q0' q2' q3' (by rw [<-zY HLS,zY HLN];exact qb')
 rw [zY HLN] at h73
 simp only [sN] at h73
 have H73:=zZ h73
 have X5:=zZ x5
 have Y54:=zZ y54
 have Y55:=zZ y55
 have Y56:=zZ y56
 have D05:=zZ d05
 have FAR5:=zZ far5
 have k5:=fun j=>cell_of_row w5 w.heap.size j _ 67 (0,0) x5
 have j5:=fun j=>cell_of_row w5 w2.heap.size j _ 29 (0,0) y54
 clear h73 x5 y54 y55 y56 d05 h05 wc5 q0' q2' q3' hpb qb' hb5 far5 H40 HW4 k4 j4 hlt4 hlt4'
 go_wp2_with fail
 go_at_call 73
 refine(zY H73).mono ?_
 rintro e w6 ⟨rfl,hb6⟩
 have z6:w5.heap.size<=w6.heap.size:=hb6.size
 have blk3:∀q,W2.heap.size<=q->q<w3.heap.size->w6.heap[q]?=w3.heap[q]?:=fun q h1 h2=>
  (hb6.block q (by omega)).trans ((zY FAR5 q (by omega) (by omega)).trans (((zY D4).block q (by omega)).trans ((zY C3).block q h2)))
 have blk4:∀q,W3.heap.size<=q->q<w4.heap.size->w6.heap[q]?=w4.heap[q]?:=fun q h1 h2=>
  (hb6.block q (by omega)).trans ((zY FAR5 q (by omega) (by omega)).trans ((zY C4).block q h2))
 have r36:=yA (zY R3) (fun q hq=>blk3 q (zS (zY R3) q hq).1 (zS (zY R3) q hq).2)
 have r46:=yA (zY R4) (fun q hq=>blk4 q (zS (zY R4) q hq).1 (zS (zY R4) q hq).2)
 have tle:=zY TLE
 have h74:=nX T.length _ _ (fun i=>T.getD i (0,0,0)) w6 (jP r36 (by omega)) (jP r46 (by omega))
 have H74:=zZ h74
 have R36:=zZ r36
 have HB6:=zZ hb6
 clear h74 r36 r46 hb6 tle blk3 blk4 H73 k5 j5
 go_wp2_with fail
 go_at_call 74
 refine(zY H74).mono ?_
 rintro e w7 ⟨rfl,hd7⟩
 have hb7:Below w6.heap.size w6 w7:=hd7.below _
 have hb67:Below w5.heap.size w5 w7:=(zY HB6).trans (hb7.mono z6)
 have hz7:w7.heap.size=w6.heap.size:=by obtain⟨m,rfl⟩:=hd7;simp
 have d07:Below W0.heap.size W0 w7:=(zY D05).trans (hb67.mono (by omega))
 have hw7:Below w.heap.size w w7:=(zY G0).trans (d07.mono (by omega))
 have r37:=yA (zY R36) (fun q hq=>hb7.block q (zS (zY R36) q hq).2)
 have r3q:∀q,own (.slice a3 T.length c3) q->W2.heap.size<=q/\q<w3.heap.size:=fun q hq=>zS (zY R3) q hq
 have y75:=yL hb67 (zY Y55)
 have y76:=yL hb67 (zY Y56)
 have tle:=zY TLE
 have h75:=mM ((zY HH).fr (Fr.of_below hw7)) (Nat.le_trans hsw hw7.size) (sO r37 (by omega)) (fun q hq hk=>by
  have h1:=(r3q q hq).1
  have h2:=((zY HH).apart q hk).1
  omega) (by omega) (zY HL)
 have H75:=zZ h75
 have Y75:=zZ y75
 have Y76:=zZ y76
 have HW7:=zZ hw7
 have R3Q:=zZ r3q
 clear h75 y75 y76 hw7 r3q r37 d07 hb67 hb7 hd7 tle H74
 go_wp2_with fail
 go_at_call 75
 refine(zY H75).mono ?_
 rintro e w8 ⟨rfl,hk8⟩
 have nin:∀q,w3.heap.size<=q->q<w7.heap.size->¬(q=bb\/own vE q\/own (.slice a3 T.length c3) q\/w7.heap.size<=q):=fun q h1 h2 hq=>by
  rcases hq with h | h | h | h
  ·omega
  ·have:=(zY HE q h).2;omega
  ·have:=(zY R3Q q h).2;omega
  ·omega
 have hev:=hk8.ev ((zY HW7).mono hsw) (zY HBB) (fun q hq=>(zY HE q hq).1) (fun q hq=>by have:=(zY R3Q q hq).1;omega) (by have:=(zY HW7).size;omega)
 obtain⟨_,_,_,_,_,_,fr8⟩:=hk8
 have y85:=(fr8.same w3.heap.size (by omega) (nin _ (by omega) (by omega))).trans (zY Y75)
 have y86:=(fr8.same w4.heap.size (by omega) (nin _ (by omega) (by omega))).trans (zY Y76)
 have k8:=fun j=>cell_of_row w8 w3.heap.size j _ 37 (0,0) y85
 have j8:=fun j=>cell_of_row w8 w4.heap.size j _ 37 (0,0) y86
 have hfar:∀k,k<w.heap.size->k≠bb->¬own vE k->w8.heap[k]?=w.heap[k]?:=fun k h1 h2 h3=>(fr8.same k (by have:=(zY HW7).size;omega) (fun hq=>by
  rcases hq with h | h | h | h
  ·exact h2 h
  ·exact h3 h
  ·have:=(zY R3Q k h).1;omega
  ·have:=(zY HW7).size;omega)).trans ((zY HW7).block k h1)
 have HFAR:=zZ hfar
 have HEV:=zZ hev
 clear hev y85 y86 nin fr8 H75 hfar
 go_wp2
 exact bodyPost_ret (v:=.tuple #[.string sg,.bool true]) (by simp [results,Tryz.results42,go_sem]) rfl ⟨sg,rfl,zY LOF,zY HEV,zY HFAR⟩
theorem kK.below {w w1 w':World} {B bb:Nat} {vI vN:Value} {LI LE LN:List Ent} (h:kK w1 w' B bb vI vN LI LE LN) (hb:Below B w w1):kK w w' B bb vI vN LI LE LN:=by
 obtain⟨n',vE',LE',K',h1,h2,h3⟩:=h
 exact⟨n',vE',LE',K',h1,h2,hb.trans h3⟩
theorem zX9 {w W:World} {p1 p2 p3 v8:Value} {ps:List (Inp×Value)} {y:VL} (hW:Fr (fun _=>False) w W (fun _=>False)) (h:oH w v8 ps (fun q=>q<w.heap.size)) (hp:ps.map (·.1)=y.1) (hn:y.1.length<=2000000):SQP w.heap.size (aW p1 p2 p3 (.slice none 0 0) (.slice none 0 0) (.slice none 0 0) (.slice none 0 0) (.bool true) v8 (.slice none 0 0)) (fun _=>False) W y:=
 ⟨rfl,⟨ps,h.keep (fun q hq=>hW.same q hq (fun h=>h)),hp⟩,[],zX _ _ _ _,fun q hq=>by simp [own,Value.ownBlock,aW] at hq,by simp only [List.length_nil];omega⟩
theorem cO {w:World} {p1 p2 p3:Value} {p:Pg} (hv:oI w (oQ p1 p2 p3 undef) p) (f:Int) (lg:ByteArray) (hs:lg.size<=1000000000) (hcnt:(yR (bs lg)).1.length<=2000000) :
  Calls Tryz.prog 80 #[.agg #[p1,p2,p3],.string lg,.int .i64 f] w (nD w p f lg):=by
 obtain⟨sa,sc,es,_⟩:=hv.s
 obtain⟨ta,tc,et,_⟩:=hv.t
 obtain⟨fa,fc,ef,_⟩:=hv.f
 change p1=_ at es
 change p2=_ at et
 change p3=_ at ef
 have hB2:Below w.heap.size w ((w.alloc (.cells #[p1,p2,p3] 33)).alloc (.cells #[.int .i64 0,.int .i64 0,.int .i64 0,.int .i64 0,.int .i64 0,.int .i64 0,.int .i64 0] 37)):=bl2 _ _
 have hck:=dC p1 p2 p3 p.sn p.tn p.fn p.sf p.tl p.fl p.tf p.ff _ (yQ hB2 hv.s) (yI hB2 hv.t) (yI hB2 hv.f)
 have h43:=fun W=>zA1 zM0 lg hs W
 have HCK:=zZ hck
 have HV:=zZ hv
 have HB2:=zZ hB2
 have H43:=zZ h43
 have HCNT:=zZ hcnt
 clear hck hv hB2 h43 hcnt hs
 subst es et ef
 go_enter Tryz.func80,Tryz.ntmps80
 go_wp2_with fail
 go_at_call 41
 refine(zY HCK).mono ?_
 rintro e w1 ⟨x,rfl,hans,hb1⟩
 have z0:(w.alloc (.cells #[.slice sa p.sn sc,.slice ta p.tn tc,.slice fa p.fn fc] 33)).heap.size=w.heap.size+1:=by simp
 have z1:((w.alloc (.cells #[.slice sa p.sn sc,.slice ta p.tn tc,.slice fa p.fn fc] 33)).alloc (.cells #[.int .i64 0,.int .i64 0,.int .i64 0,.int .i64 0,.int .i64 0,.int .i64 0,.int .i64 0] 37)).heap.size=w.heap.size+1+1:=by simp
 have b3:w1.heap[w.heap.size]?=some (.cells #[.slice sa p.sn sc,.slice ta p.tn tc,.slice fa p.fn fc] 33):=(hb1.block _ (by rw [z1];omega)).trans ((zR _ _ _ (by rw [z0];omega)).trans (heap_alloc_new _ _))
 have b8:w1.heap[w.heap.size+1]?=some (.cells #[.int .i64 0,.int .i64 0,.int .i64 0,.int .i64 0,.int .i64 0,.int .i64 0,.int .i64 0] 37):=(hb1.block _ (by rw [z1];omega)).trans (by have h:=heap_alloc_new (w.alloc (.cells #[.slice sa p.sn sc,.slice ta p.tn tc,.slice fa p.fn fc] 33)) (.cells #[.int .i64 0,.int .i64 0,.int .i64 0,.int .i64 0,.int .i64 0,.int .i64 0,.int .i64 0] 37);rwa [z0] at h)
 have hw1:Below w.heap.size w w1:=(zY HB2).trans (hb1.mono (by rw [z1];omega))
 have hge:w.heap.size<=w.heap.size+1:=by omega
 have c3:=fun j=>cell_of_row w1 _ j _ 33 (0,0) b3
 have c8:=fun j=>cell_of_row w1 _ j _ 37 (0,0) b8
 have t8:=fun j=>yB b8 j
 have l8:=(zN.1 b8).1
 have B3:=zZ b3
 have B8:=zZ b8
 have HW1:=zZ hw1
 have HANS:=zZ hans
 clear z0 z1 b3 b8 hw1 hans hb1 HCK HB2
 by_cases hx:x=0
 ·subst hx
  have ok:=tN (zY HANS)
  have HOK:=zZ ok
  clear ok c8 t8
  go_wp2_with fail
  go_at_call 43
  refine(zY H43 w1).mono ?_
  rintro e w2 ⟨a2,c2,ps2,rfl,hd,hp2,f2⟩
  have f12:Fr (fun _=>False) w w2 (fun _=>False):=(Fr.of_below (zY HW1)).trans f2
  have b3:=(f2.same _ (zN.1 (zY B3)).1 (fun h=>h)).trans (zY B3)
  have b8:=(f2.same _ l8 (fun h=>h)).trans (zY B8)
  have c3:=fun j=>cell_of_row w2 _ j _ 33 (0,0) b3
  have c8:=fun j=>cell_of_row w2 _ j _ 37 (0,0) b8
  have t8:=fun j=>yB b8 j
  have l8:=(zN.1 b8).1
  have lh3:=(zN.1 b3).1
  have B3:=zZ b3
  have B8:=zZ b8
  have F12:=zZ f12
  have HD:=zZ hd
  have HP2:=zZ hp2
  clear b3 b8 f12 hd hp2 f2 H43 HW1
  obtain⟨at_,hat⟩ : ∃at_,at_=(yR (bs lg)).2.1:=⟨_,rfl⟩
  obtain⟨wy,hwy⟩ : ∃wy,wy=(yR (bs lg)).2.2:=⟨_,rfl⟩
  rw [<-hat,<-hwy]
  have HAT:=zZ hat
  clear hat hwy
  by_cases h0:at_=0
  ·subst h0
   go_wp2
   have y8:=eY (zY B8) (.int .i64 0) (.int .i64 0) (.int .i64 0) (.int .i64 0) (.int .i64 0) (.int .i64 0) (.int .i64 0)
   have ky:=fun j=>cell_of_row _ _ j _ 37 (0,0) y8
   refine bodyPost_ret (v:=.tuple #[.slice none 0 0,.agg #[.int .i64 0,.int .i64 0,.int .i64 0,.int .i64 0,.int .i64 0,.int .i64 0,.int .i64 0],.int .i64 5]) (by simp [results,Tryz.results80,go_sem,ky]) rfl ?_
   exact⟨((((((((zY F12).setCell ⟨w.heap.size+1,0,none⟩ _ (.inr hge)).setCell ⟨w.heap.size+1,1,none⟩ _ (.inr hge)).setCell ⟨w.heap.size+1,2,none⟩ _ (.inr hge)).setCell ⟨w.heap.size+1,3,none⟩ _ (.inr hge)).setCell ⟨w.heap.size+1,4,none⟩ _ (.inr hge)).setCell ⟨w.heap.size+1,5,none⟩ _ (.inr hge)).setCell ⟨w.heap.size+1,6,none⟩ _ (.inr hge)),0,zY HANS,.inr (.inl ⟨rfl,(zY HAT).symm,rfl⟩)⟩
  have h0i:¬(at_:Int)=0:=by omega
  have h0b:((at_:Int)==0)=false:=by simpa using h0
  have bw2:Below w.heap.size w w2:=(zY F12).below (fun k h=>h.elim) (Nat.le_refl _)
  have fW:Fr (fun _=>False) w2 (w2.alloc (.cells (sG (.slice sa p.sn sc) (.slice ta p.tn tc) (.slice fa p.fn fc) (.slice none 0 0) (.slice none 0 0) (.slice none 0 0) (.slice none 0 0) (.bool true) (.slice a2 ps2.length c2) (.slice none 0 0) (min (max f 0) 5000)) 180)).drew (fun _=>False):=((Fr.refl _ _).alloc _).drew
  have bW:Below w2.heap.size w2 (w2.alloc (.cells (sG (.slice sa p.sn sc) (.slice ta p.tn tc) (.slice fa p.fn fc) (.slice none 0 0) (.slice none 0 0) (.slice none 0 0) (.slice none 0 0) (.bool true) (.slice a2 ps2.length c2) (.slice none 0 0) (min (max f 0) 5000)) 180)).drew:=fW.below (fun k h=>h.elim) (Nat.le_refl _)
  have hcnt2:(rdV lg).1.length<=2000000:=zY HCNT
  have hl0:=eP (SQ:=SQP w2.heap.size) (B:=w2.heap.size) (fu:=min (max f 0) 5000) (x:=rdV lg) (Nat.le_refl _) rfl (zX9 (p1:=.slice sa p.sn sc) (p2:=.slice ta p.tn tc) (p3:=.slice fa p.fn fc) fW (zY HD).inps (zY HP2) hcnt2)
  have pgq:oI w2 (aW (.slice sa p.sn sc) (.slice ta p.tn tc) (.slice fa p.fn fc) (.slice none 0 0) (.slice none 0 0) (.slice none 0 0) (.slice none 0 0) (.bool true) (.slice a2 ps2.length c2) (.slice none 0 0)) p:=⟨yQ bw2 (zY HV).s,yI bw2 (zY HV).t,yI bw2 (zY HV).f⟩
  have hrun:=zG4 (SQP.law w2.heap.size) (zX4 w2.heap.size) lL dG (w0:=w2) rfl bW pgq (zY HOK) f hl0 rfl (by show (rdV lg).1.length<=5000000;omega)
  have HRUN:=zZ hrun
  have FW:=zZ fW
  have D8:=zZ (show ((w2.alloc (.cells (sG (.slice sa p.sn sc) (.slice ta p.tn tc) (.slice fa p.fn fc) (.slice none 0 0) (.slice none 0 0) (.slice none 0 0) (.slice none 0 0) (.bool true) (.slice a2 ps2.length c2) (.slice none 0 0) (min (max f 0) 5000)) 180)).drew).heap[w.heap.size+1]?=some _ from (zR w2 _ _ l8).trans (zY B8))
  have D3:=zZ (show ((w2.alloc (.cells (sG (.slice sa p.sn sc) (.slice ta p.tn tc) (.slice fa p.fn fc) (.slice none 0 0) (.slice none 0 0) (.slice none 0 0) (.slice none 0 0) (.bool true) (.slice a2 ps2.length c2) (.slice none 0 0) (min (max f 0) 5000)) 180)).drew).heap[w.heap.size]?=some _ from (zR w2 _ _ lh3).trans (zY B3))
  clear fW bW hl0 hrun pgq bw2 hcnt2 c8 t8
  go_wp2
  refine wp_region_held_drew (S:=fun w'=>w'.heap[w.heap.size]?=some (.cells #[.slice sa p.sn sc,.slice ta p.tn tc,.slice fa p.fn fc] 33)) (by kernel_rfl) ?_ (fun hHeld=>?_)
  ·exact zY B3
  refine zB (i:=0) (oi:={dst:=some 29,op:=.load 33 (.tmp 3),type:=33,pos:= "run.go:363",after:=#[],guard:=none}) ?_
  simp only [Act.put,zC,zD,zE]
  refine zA (i:=1) (oi:={dst:=some 30,op:=.move (.tmp 10),type:=44,pos:= "run.go:363",after:=#[],guard:=none}) ?_
  simp only [Act.put,zC,zD,zE]
  refine zA (i:=2) (oi:={dst:=some 31,op:=.move (.tmp 2),type:=3,pos:= "run.go:363",after:=#[],guard:=none}) ?_
  simp only [Act.put,zC,zD,zE]
  refine zL (i:=3) (o:={dst:=some 32,op:=.call {callee:=.value (.func 106),args:=#[.tmp 31],argTypes:=#[3]},type:=3,pos:= "run.go:363",after:=#[zG 2],guard:=none}) (fun K' hK'=>?_)
  go_simp
  go_at_call 106
  refine(jD f _).mono ?_
  rintro e w3 ⟨rfl,hw3⟩
  rw [hw3]
  clear hw3 w3
  refine hK'.out _ _ ?_ (fun hHeld=>?_)
  ·exact zY B3
  clear hK' K'
  try simp only [Act.put,zC,zD,zE]
  try simp only [zC,zD,zE]
  refine zA (i:=4) (oi:={dst:=some 33,op:=.build 180 #[(0,.tmp 29),(3,.tmp 30),(2,.const (.bool true)),(10,.tmp 32)],type:=180,pos:= "run.go:363",after:=#[zG 0,zG 1,zG 3],guard:=none}) ?_
  simp only [Act.put,zC,zD,zE]
  refine zL (i:=5) (o:={dst:=some 34,op:=.box 180 (.tmp 33),type:=177,pos:= "run.go:363",after:=#[zG 4],guard:=none}) (fun K' hK'=>?_)
  go_simp
  refine hK'.out _ _ ?_ (fun hHeld=>?_)
  ·exact zY D3
  clear hK' K'
  try simp only [Act.put,zC,zD,zE]
  refine zA (i:=6) (oi:={dst:=some 13,op:=.assign (.tmp 34),type:=177,pos:= "run.go:363",after:=#[zG 5,zM 3,zF 0,zF 1,zF 2,zF 3,zF 4,zF 5],guard:=none}) ?_
  simp only [Act.put,zC,zD,zE]
  refine wpAnyH_done (by kernel_rfl) ?_ _
  go_wp2_with fail
  go_at_call 107
  refine(zY HRUN).mono ?_
  rintro e w3 ⟨rfl,tn,sq,S3,pv3,vt3,va3,T3,A3,l3,q3,f3⟩
  obtain⟨hq1,hq2⟩:=yG3 (zY HOK) f (rdV lg)
  have hfinO:xL (uS xT p ((rdV lg).1.length+1) f (rdV lg)).1:=zG2 (ask:=xT) (fun y k o=>zM7 y k o) p _ f _
  change LQ _ _ S3 w3 _ pv3 vt3 va3 T3 (uS xT p ((rdV lg).1.length+1) f (rdV lg)).1 A3 tn sq (uS xT p ((rdV lg).1.length+1) f (rdV lg)).2 at l3
  have hrs:cR p f (rdV lg)={(uS xT p ((rdV lg).1.length+1) f (rdV lg)).1 with fin:=oB (uS xT p ((rdV lg).1.length+1) f (rdV lg)).1.fin (uS xT p ((rdV lg).1.length+1) f (rdV lg)).2.1}:=by unfold cR;rw [hq1,hq2]
  generalize uS xT p ((rdV lg).1.length+1) f (rdV lg)=RM at *
  obtain⟨s3,z3⟩:=RM
  dsimp only at l3 hrs hfinO
  clear hq1 hq2 q3 HRUN
  obtain⟨ua,uc,hut⟩:=yM l3.row
  subst hut
  obtain⟨s4,hs4⟩ : ∃s4:PS,s4={s3 with fin:=oB s3.fin z3.1}:=⟨_,rfl⟩
  rw [<-hs4] at hrs
  have hlw:w.heap.size+1<w2.heap.size:=l8
  have d8:w3.heap[w.heap.size+1]?=some (.cells #[.int .i64 0,.int .i64 0,.int .i64 0,.int .i64 0,.int .i64 0,.int .i64 0,.int .i64 0] 37):=(f3.same _ (zN.1 (zY D8)).1 (fun e=>by have e':w.heap.size+1=w2.heap.size:=e;omega)).trans (zY D8)
  have hP8:¬S3 (w.heap.size+1):=fun e=>by have:=f3.old _ (zN.1 (zY D8)).1 e;have e':w.heap.size+1=w2.heap.size:=this;omega
  have fw3:Fr (fun _=>False) w w3 (fun _=>False):=by
   have hFW:=(zY F12).trans (zY FW)
   have hz:=(zY F12).size
   exact⟨f3.os.trans hFW.os,f3.tape.trans hFW.tape,f3.output.trans hFW.output,Nat.le_trans hFW.size f3.size,fun k hk _=>(f3.same k (zT hk hFW.size) (fun e=>by have e':k=w2.heap.size:=e;omega)).trans (hFW.same k hk (fun h=>h)),fun _ _ h=>h⟩
  have pack6:oB s3.fin z3.1=6->∀nq,Hid (LQ (SQP w2.heap.size) w2.heap.size S3 ((w3.drewN nq).setCell ⟨w2.heap.size,27,none⟩ (.int .i64 6)) w2.heap.size pv3 (.slice ua s3.trace.length uc) va3 T3 s4 A3 tn sq z3/\Fr (fun _=>False) w ((w3.drewN nq).setCell ⟨w2.heap.size,27,none⟩ (.int .i64 6)) (fun _=>False)/\((w3.drewN nq).setCell ⟨w2.heap.size,27,none⟩ (.int .i64 6)).heap[w.heap.size+1]?=some (.cells #[.int .i64 0,.int .i64 0,.int .i64 0,.int .i64 0,.int .i64 0,.int .i64 0,.int .i64 0] 37)):=by
   intro he nq
   have l3:=l3.drewN (SQP.law _) nq
   have e4:s4={s3 with fin:=6}:=by rw [hs4,he]
   rw [e4]
   exact⟨l3.set (SQP.law _) 27 (.int .i64 6) {s3 with fin:=6} (by omega) (rZ 6) rfl (l3.rel.of rfl rfl) rfl,(fw3.drewN nq).setCell ⟨w2.heap.size,27,none⟩ _ (.inr (by show w.heap.size<=w2.heap.size;omega)),(zQ _ _ _ _ (by show w.heap.size+1≠w2.heap.size;omega)).trans d8⟩
  have pack0:oB s3.fin z3.1=s3.fin->∀nq,Hid (LQ (SQP w2.heap.size) w2.heap.size S3 (w3.drewN nq) w2.heap.size pv3 (.slice ua s3.trace.length uc) va3 T3 s4 A3 tn sq z3/\Fr (fun _=>False) w (w3.drewN nq) (fun _=>False)/\(w3.drewN nq).heap[w.heap.size+1]?=some (.cells #[.int .i64 0,.int .i64 0,.int .i64 0,.int .i64 0,.int .i64 0,.int .i64 0,.int .i64 0] 37)):=by
   intro he nq
   have e4:s4=s3:=by rw [hs4,he]
   rw [e4]
   exact⟨l3.drewN (SQP.law _) nq,fw3.drewN nq,d8⟩
  have g27:=(l3.cell 27 (by omega)).trans (by rw [xE])
  have z27:=l3.free 27 (by omega)
  have g8:=(l3.cell 8 (by omega)).trans (by rw [xA _ _ _ _ _ _ (by omega)])
  have hb3:=l3.blt
  obtain⟨ps,hin,hps⟩:=l3.src.ins
  have htl:s4.trace.length=s3.trace.length:=by rw [hs4]
  have HRS:=zZ hrs
  have HP8:=zZ hP8
  have PACK6:=zZ pack6
  have PACK0:=zZ pack0
  have HTL:=zZ htl
  obtain⟨fn3,hfn3⟩ : ∃z:Int,z=s3.fin:=⟨_,rfl⟩
  rw [<-hfn3] at g27 PACK6 PACK0
  have hf06:0<=fn3/\fn3<=6:=by rw [hfn3];exact hfinO
  clear l3 hs4 hrs hP8 fw3 d8 pack6 pack0 htl f3 hfinO D3 B3 B8 FW c3 hfn3
  by_cases hf5:fn3<5
  focus
   have hfd:decide (fn3<5)=true:=decide_eq_true hf5
   rcases ps with _ | ⟨⟨⟨ik,io,in_,ifl⟩,fv⟩,r⟩
   focus
    have hld:decide ((0:Int)<0)=false:=by decide
    have PK:=zY PACK0 (by rw [show z3.1=[] from hps.symm];unfold oB;split<;>rfl)
    obtain⟨⟨ia,ic,hiv,_⟩,_⟩:=hin
    rw [hiv] at g8
    clear PACK0 PACK6 hiv hps
    go_wp2
    go_quiet (fail)
    go_wp2
    have PK:=PK nq
    generalize hG:(w3.drewN nq)=W4 at PK ⊢
    clear hG g27 g8 z27
   rotate_left
   focus
    have hz3:z3.1=(ik,io,in_,ifl)::r.map (·.1):=hps.symm
    obtain⟨q,off,c,hv8,hc,hq,⟨u0,_,u2,_⟩,_,_⟩:=hin.cons
    dsimp only at u0 u2
    rw [hv8] at g8
    have hqw:q<w3.heap.size:=by omega
    have hci:(r.length:Int)+1<=(c:Int):=by omega
    obtain⟨m,hm⟩ : ∃m,m=r.length:=⟨_,rfl⟩
    rw [<-hm] at g8 hci
    have hld:decide ((0:Int)<(m:Int)+1)=true:=decide_eq_true (by omega)
    have h56:¬(fn3=5\/fn3=6):=by omega
    by_cases hk5:ik=5
    focus
     subst hk5
     have u0':w3.cell? ⟨q,off,none⟩=some (.int .i64 5):=u0
     by_cases hn:(in_:Int)=fn3
     focus
      have PK:=zY PACK0 (by rw [hz3];unfold oB;rw [if_neg h56];simp only;rw [if_pos ⟨trivial,hn⟩])
      clear PACK0 PACK6 hz3 hps hin u0 hv8 hc hm h56
      have hnb:((in_:Int)==fn3)=true:=by simpa using hn
      go_wp2
      go_quiet (fail)
      go_wp2
      have PK:=PK nq
      generalize hG:(w3.drewN nq)=W4 at PK ⊢
      clear hG g27 g8 z27
     rotate_left
     focus
      have PK:=zY PACK6 (by rw [hz3];unfold oB;rw [if_neg h56];simp only;rw [if_neg (fun h=>hn h.2)])
      clear PACK0 PACK6 hz3 hps hin u0 hv8 hc hm h56
      have hnb:((in_:Int)==fn3)=false:=by simpa using hn
      go_wp2
      go_quiet (fail)
      go_wp2
      have PK:=PK nq
      generalize hG:((w3.drewN nq).setCell ⟨w2.heap.size,27,none⟩ (.int .i64 6))=W4 at PK ⊢
      clear hG g27 g8 z27
    rotate_left 2
    focus
     have PK:=zY PACK6 (by rw [hz3];unfold oB;rw [if_neg h56];simp only;rw [if_neg (fun h=>hk5 h.1)])
     have hk5i:¬(ik:Int)=5:=by omega
     have hkb:((ik:Int)==5)=false:=by simpa using hk5i
     clear PACK0 PACK6 hz3 hps hin hv8 hc hm h56
     go_wp2
     go_quiet (fail)
     go_wp2
     have PK:=PK nq
     generalize hG:((w3.drewN nq).setCell ⟨w2.heap.size,27,none⟩ (.int .i64 6))=W4 at PK ⊢
     clear hG g27 g8 z27
  rotate_left 4
  focus
   have hfd:decide (fn3<5)=false:=decide_eq_false hf5
   have PK:=zY PACK0 (by unfold oB;rw [if_pos (by omega)])
   clear PACK0 PACK6 hps hin
   go_wp2
   go_quiet (fail)
   go_wp2
   have PK:=PK nq
   generalize hG:(w3.drewN nq)=W4 at PK ⊢
   clear hG g27 g8 z27
  all_goals
   obtain⟨l4,fw4,d8⟩:=zY PK
   clear PK
   have hb4:=l4.blt
   have g26:=(l4.cell 26 (by omega)).trans (by rw [xD])
   have h109:∀W,Fr (fun _=>False) W4 W (fun _=>False)->_:=fun W hW=>fY (l4.fr (SQP.law w2.heap.size) hW)
   have hrow4:=l4.row
   rw [zY HTL] at hrow4
   have hinV:=l4.inV
   have hbnd:=l4.bound
   have H109:=zZ h109
   have HROW4:=zZ hrow4
   have HINV:=zZ hinV
   have HBND:=zZ hbnd
   have FW4:=zZ fw4
   have D84:=zZ d8
   clear l4 h109 hrow4 hinV fw4 d8 hbnd
   refine wp_region_held_drew (S:=fun w'=>w'.heap[w2.heap.size]?=W4.heap[w2.heap.size]?) (by kernel_rfl) ?_ (fun hHeld=>?_)
   ·exact rfl
   refine zA (i:=0) (oi:={dst:=some 77,op:=.move (.tmp 13),type:=177,pos:= "run.go:368",after:=#[],guard:=none}) ?_
   simp only [Act.put,zC,zD,zE]
   refine zA (i:=1) (oi:={dst:=some 78,op:=.nilCheck (.tmp 77),type:=0,pos:= "run.go:368",after:=#[zG 0],guard:=none}) ?_
   simp only [Act.put,zC,zD,zE]
   refine zA (i:=2) (oi:={dst:=some 79,op:=.fieldAddr 180 (.tmp 78) 11,type:=0,pos:= "run.go:368",after:=#[zG 1],guard:=none}) ?_
   simp only [Act.put,zC,zD,zE]
   refine zK (i:=3) (oi:={dst:=some 80,op:=.load 34 (.tmp 79),type:=34,pos:= "run.go:368",after:=#[zG 2],guard:=none}) (v:=?_) ?_ ?_
   rotate_left
   ·intro w' hSw;have k26:=(zO (w:=W4) (a:=⟨w2.heap.size,26,none⟩) hSw).trans g26;go_simp;try with_reducible rfl
   simp only [Act.put,zC,zD,zE]
   refine zA (i:=4) (oi:={dst:=some 81,op:=.move (.tmp 13),type:=177,pos:= "run.go:368",after:=#[],guard:=none}) ?_
   simp only [Act.put,zC,zD,zE]
   refine zA (i:=6) (oi:={dst:=some 83,op:=.move (.tmp 9),type:=41,pos:= "run.go:368",after:=#[{on:=8,ground:=.gcOnly .lateStores}],guard:=none}) ?_
   simp only [Act.put,zC,zD,zE]
   refine zL (i:=5) (o:={dst:=some 82,op:=.call {callee:=.value (.func 109),args:=#[.tmp 81],argTypes:=#[177]},type:=37,pos:= "run.go:368",after:=#[zG 4],guard:=none}) (fun K' hK'=>?_)
   go_simp
   go_at_call 109
   refine(zY H109 _ ((Fr.refl _ _).drew)).mono ?_
   rintro e w5 ⟨rfl,f5⟩
   have f45:Fr (fun _=>False) W4 w5 (fun _=>False):=((Fr.refl _ _).drew).trans f5
   have s5:w5.heap[w2.heap.size]?=W4.heap[w2.heap.size]?:=f45.same _ hb4 (fun h=>h)
   have e8:w5.heap[w.heap.size+1]?=some (.cells #[.int .i64 0,.int .i64 0,.int .i64 0,.int .i64 0,.int .i64 0,.int .i64 0,.int .i64 0] 37):=(f45.same _ (zN.1 (zY D84)).1 (fun h=>h)).trans (zY D84)
   have ct8:=fun j=>cell_of_row w5 _ j _ 37 (0,0) e8
   have ft8:=fun j=>yB e8 j
   have el8:=(zN.1 e8).1
   have E8:=zZ e8
   have F45:=zZ f45
   clear f5 f45 H109 e8
   refine hK'.out _ _ ?_ (fun hHeld=>?_)
   ·exact s5
   clear hK' K'
   try simp only [Act.put,zC,zD,zE]
   refine zA (i:=7) (oi:={dst:=some 6,op:=.assign (.tmp 80),type:=34,pos:= "run.go:368",after:=#[zG 3,zM 5,zF 0,zF 1,zF 2,zF 3,{on:=4,ground:=.textOnly .lateStores},{on:=5,ground:=.textOnly .lateStoresUnsure},{on:=6,ground:=.textOnly .lateStores}],guard:=none}) ?_
   simp only [Act.put,zC,zD,zE]
   simp only [qJ]
   have hne8:w2.heap.size≠w.heap.size+1:=by omega
   have st:∀(V:World) (j:Nat) (u:Value),V.heap[w2.heap.size]?=W4.heap[w2.heap.size]?->(V.setCell ⟨w.heap.size+1,j,none⟩ u).heap[w2.heap.size]?=W4.heap[w2.heap.size]?:=fun V j u hv=>(zQ _ _ _ _ hne8).trans hv
   have hs7:(((((((w5.setCell ⟨w.heap.size+1,0,none⟩ (.int .i64 s4.fin)).setCell ⟨w.heap.size+1,1,none⟩ (.int .i64 (s4.reg 0))).setCell ⟨w.heap.size+1,2,none⟩ (.int .i64 (s4.reg 1))).setCell ⟨w.heap.size+1,3,none⟩ (.int .i64 (s4.reg 2))).setCell ⟨w.heap.size+1,4,none⟩ (.int .i64 (s4.reg 3))).setCell ⟨w.heap.size+1,5,none⟩ (.int .i64 s4.clock)).setCell ⟨w.heap.size+1,6,none⟩ (.int .i64 s4.heard)).heap[w2.heap.size]?=W4.heap[w2.heap.size]?:=st _ _ _ (st _ _ _ (st _ _ _ (st _ _ _ (st _ _ _ (st _ _ _ (st _ _ _ s5))))))
   have hy7:=eY (zY E8) (.int .i64 s4.fin) (.int .i64 (s4.reg 0)) (.int .i64 (s4.reg 1)) (.int .i64 (s4.reg 2)) (.int .i64 (s4.reg 3)) (.int .i64 s4.clock) (.int .i64 s4.heard)
   have hrow7:w5.ownsRow w2.heap.size 72 3 (.slice ua s3.trace.length uc) s3.trace.length (xZ s4.trace):=yA (zY HROW4) (fun q hq=>(zY F45).same q (zS (zY HROW4) q hq).2 (fun h=>h))
   have st8:∀(V:World) (j:Nat) (u:Value),V.ownsRow w2.heap.size 72 3 (.slice ua s3.trace.length uc) s3.trace.length (xZ s4.trace)->(V.setCell ⟨w.heap.size+1,j,none⟩ u).ownsRow w2.heap.size 72 3 (.slice ua s3.trace.length uc) s3.trace.length (xZ s4.trace):=fun V j u hv=>yA hv (fun q hq=>zQ _ _ _ _ (fun e=>zY HP8 (by have e':q=w.heap.size+1:=e;rw [<-e'];exact(zY HINV q hq).1)))
   have hr7:=sO (st8 _ 6 (.int .i64 s4.heard) (st8 _ 5 (.int .i64 s4.clock) (st8 _ 4 (.int .i64 (s4.reg 3)) (st8 _ 3 (.int .i64 (s4.reg 2)) (st8 _ 2 (.int .i64 (s4.reg 1)) (st8 _ 1 (.int .i64 (s4.reg 0)) (st8 _ 0 (.int .i64 s4.fin) hrow7))))))) (show w.heap.size<=w2.heap.size by omega)
   have hf7:=(((((((((zY FW4).trans (zY F45)).setCell ⟨w.heap.size+1,0,none⟩ (.int .i64 s4.fin) (.inr hge)).setCell ⟨w.heap.size+1,1,none⟩ (.int .i64 (s4.reg 0)) (.inr hge)).setCell ⟨w.heap.size+1,2,none⟩ (.int .i64 (s4.reg 1)) (.inr hge)).setCell ⟨w.heap.size+1,3,none⟩ (.int .i64 (s4.reg 2)) (.inr hge)).setCell ⟨w.heap.size+1,4,none⟩ (.int .i64 (s4.reg 3)) (.inr hge)).setCell ⟨w.heap.size+1,5,none⟩ (.int .i64 s4.clock) (.inr hge)).setCell ⟨w.heap.size+1,6,none⟩ (.int .i64 s4.heard) (.inr hge))
   have HS7:=zZ hs7
   have HY7:=zZ hy7
   have HR7:=zZ hr7
   have HF7:=zZ hf7
   clear hs7 hy7 hr7 hf7 st st8 hrow7
   refine zL (i:=8) (o:={dst:=none,op:=.store 37 (.tmp 7) (.tmp 82),type:=0,pos:= "run.go:368",after:=#[zG 5,zM 7,zF 0,zF 1,zF 2,zF 3,zF 4,zF 5,{on:=6,ground:=.textOnly .lateStores},zF 7],guard:=none}) (fun K' hK'=>?_)
   go_simp
   refine hK'.out _ _ ?_ (fun hHeld=>?_)
   ·exact zY HS7
   clear hK' K'
   try simp only [Act.put,zC,zD,zE]
   refine zA (i:=9) (oi:={dst:=some 8,op:=.assign (.tmp 83),type:=41,pos:= "run.go:368",after:=#[zG 6,zM 8,zF 0,zF 1,zF 2,zF 3,zF 4,zF 5,zF 6,zF 7,zF 8],guard:=none}) ?_
   simp only [Act.put,zC,zD,zE]
   refine wpAnyH_done (by kernel_rfl) ?_ _
   generalize hV:(((((((w5.setCell ⟨w.heap.size+1,0,none⟩ (.int .i64 s4.fin)).setCell ⟨w.heap.size+1,1,none⟩ (.int .i64 (s4.reg 0))).setCell ⟨w.heap.size+1,2,none⟩ (.int .i64 (s4.reg 1))).setCell ⟨w.heap.size+1,3,none⟩ (.int .i64 (s4.reg 2))).setCell ⟨w.heap.size+1,4,none⟩ (.int .i64 (s4.reg 3))).setCell ⟨w.heap.size+1,5,none⟩ (.int .i64 s4.clock)).setCell ⟨w.heap.size+1,6,none⟩ (.int .i64 s4.heard))=V at *
   clear hV
   have ky:=fun j=>cell_of_row V _ j _ 37 (0,0) (zY HY7)
   go_wp2
   refine bodyPost_ret (v:=.tuple #[.slice ua s3.trace.length uc,qJ s4,.int .i64 0]) (by simp [results,Tryz.results80,go_sem,ky,qJ]) rfl ?_
   refine⟨zY HF7,0,zY HANS,.inr (.inr ⟨rfl,fun e=>h0 ((zY HAT).trans e),.slice ua s3.trace.length uc,?_,?_⟩)⟩
   ·rw [zY HRS]
   ·rw [zY HRS,zY HTL];exact zY HR7
 ·have hxb:(x==0)=false:=by simpa using hx
  go_wp2
  have y8:=eY (zY B8) (.int .i64 0) (.int .i64 0) (.int .i64 0) (.int .i64 0) (.int .i64 0) (.int .i64 0) (.int .i64 0)
  have ky:=fun j=>cell_of_row _ _ j _ 37 (0,0) y8
  refine bodyPost_ret (v:=.tuple #[.slice none 0 0,.agg #[.int .i64 0,.int .i64 0,.int .i64 0,.int .i64 0,.int .i64 0,.int .i64 0,.int .i64 0],.int .i64 x]) (by simp [results,Tryz.results80,go_sem,ky]) rfl ?_
  exact⟨((((((((Fr.of_below (zY HW1)).setCell ⟨w.heap.size+1,0,none⟩ _ (.inr hge)).setCell ⟨w.heap.size+1,1,none⟩ _ (.inr hge)).setCell ⟨w.heap.size+1,2,none⟩ _ (.inr hge)).setCell ⟨w.heap.size+1,3,none⟩ _ (.inr hge)).setCell ⟨w.heap.size+1,4,none⟩ _ (.inr hge)).setCell ⟨w.heap.size+1,5,none⟩ _ (.inr hge)).setCell ⟨w.heap.size+1,6,none⟩ _ (.inr hge)),x,zY HANS,.inl ⟨hx,rfl⟩⟩
