/-
  PROVED HERE: the law's replay: what the program's Replay answ
-/
import Derived.Test.YtfmbebofllgmoaaGreatDoorSallbk
set_option maxHeartbeats 4000000
set_option maxRecDepth 20000
namespace Go.Proofs.YtfmbebofllgmoaaGreatDoor
open Go.RowKit
attribute [local go_sem ↓] Go.wp_at_zero Go.wp_at_succ
section
variable (p:Pg) (f:Int) (lg:ByteArray) (x:Int)
def hJ:List O3:=if x=0/\(yS (bs lg)).2.1≠0 then (bJ p f (rdV lg)).trace else []
def rotF:PS:=if x=0/\(yS (bs lg)).2.1≠0 then bJ p f (rdV lg) else {bJ p f (rdV lg) with fin:=0,reg:=fun _=>0,clock:=0,heard:=0}
def rotX:Int:=if x=0 then (if (yS (bs lg)).2.1=0 then 5 else 0) else x
end
theorem nU.out {w w':World} {p:Pg} {f:Int} {lg:ByteArray} {e:Ending} (h:nU w p f lg e w') :
  Fr (fun _=>False) w w' (fun _=>False)/\∃x,Ans p.tn p.fn (1+p.tn+p.fn) (qK p.sn p.tn p.tl p.fl) (qS p.tn p.sf p.tf p.ff) x/\∃a c,
   e=.returned (.tuple #[.slice a (hJ p f lg x).length c,qY (rotF p f lg x),.int .i64 (rotX lg x)])/\w'.ownsRow w.heap.size 72 3 (.slice a (hJ p f lg x).length c) (hJ p f lg x).length (vD (hJ p f lg x)):=by
 obtain⟨hf,x,hx,⟨h0,he⟩ | ⟨h0,h1,he⟩ | ⟨h0,h1,vt,he,hr⟩⟩:=h
 ·refine⟨hf,x,hx,none,0,?_,?_⟩
  ·rw [he];simp [hJ,rotF,rotX,h0,qY,kV]
  ·simp only [hJ,h0,false_and,if_false]
   exact zX _ _ _ _
 ·subst h0
  refine⟨hf,0,hx,none,0,?_,?_⟩
  ·rw [he];simp [hJ,rotF,rotX,h1,qY,kV]
  ·simp only [hJ,h1,ne_eq,not_true_eq_false,and_false,if_false]
   exact zX _ _ _ _
 ·subst h0
  obtain⟨a,c,rfl⟩:=yM hr
  refine⟨hf,0,hx,a,c,?_,?_⟩
  ·rw [he];simp [hJ,rotF,rotX,h1]
  ·simpa [hJ,h1] using hr
theorem yQ6 {p:Pg} {f:Int} {lg:ByteArray} {x:Int} (hx:Ans p.tn p.fn (1+p.tn+p.fn) (qK p.sn p.tn p.tl p.fl) (qS p.tn p.sf p.tf p.ff) x):(hJ p f lg x).length<=5000+16*((yS (bs lg)).1.length+1):=by
 unfold hJ
 split
 ·next h=>
  obtain⟨rfl,_⟩:=h
  exact cB iX (sC hx) _ f (rdV lg)
 ·simp
theorem gR {w w0:World} {bb:Nat} {n0:Int} {vI vE vN:Value} {LI LE LN:List Ent} {K:Nat->Prop} (h:vK w w0.heap.size bb n0 vI vE vN LI LE LN K) (hbb:w0.heap.size<=bb) (hbw:Below w0.heap.size w0 w) (ht:sO w0)
  {p1 p2 p3:Value} {p:Pg} (hpg:oE w0 (oF p1 p2 p3 undef) p) (lg:ByteArray) (hlg:lg.size<=1000000000) (hcnt:(yS (bs lg)).1.length<=2000000) (f:Int) (hL:LE.length<=900000000000) :
  Calls Tryz.prog 46 #[.pointer (some ⟨bb,0,none⟩),.agg #[p1,p2,p3],.string lg,.int .i64 f] w fun e w'=>e=.returned (.bool true)/\nQ w w' w0.heap.size bb vI vN LI LE LN:=by
 have i1:vQ w0 p1 p.sn p.sf:=hpg.s
 have i2:yU w0 p2 p.tn p.tl p.tf:=hpg.t
 have i3:yU w0 p3 p.fn p.fl p.ff:=hpg.f
 have n1:=nG i1
 have n2:=tK i2
 have n3:=tK i3
 have e2:=uQ i2
 have e3:=uQ i3
 obtain⟨W0,hW⟩ : ∃W0,W0=w.alloc (.cells #[p1,p2,p3] 33):=⟨_,rfl⟩
 have g0:Below w.heap.size w W0:=by subst hW;exact(Below.refl _ _).alloc (Nat.le_refl _) _
 have s0:W0.heap.size=w.heap.size+1:=by subst hW;simp
 have b0:W0.heap[w.heap.size]?=some (.cells #[p1,p2,p3] 33):=by subst hW;exact heap_alloc_new _ _
 have hsw:w0.heap.size<=w.heap.size:=hbw.size
 have h00:Below w0.heap.size w0 W0:=hbw.trans (g0.mono hsw)
 have H39:=zZ (lJ p1 p2 p3 p.sn p.tn p.fn p.sf p.tl p.fl p.tf p.ff W0 (yN h00 i1) (yF h00 i2) (yF h00 i3))
 have hbkb:bb<w.heap.size:=(zN.1 h.bk.blk).1
 have hbkE:∀q,own vE q->w0.heap.size<=q/\q<w.heap.size:=fun q hq=>zS h.bk.rE q hq
 have HH:=zZ h
 have HPG:=zZ hpg
 have HT:=zZ ht
 have G0:=zZ g0
 have H00:=zZ h00
 have B0:=zZ b0
 have HW:=zZ hW
 have I1:=zZ i1
 have I2:=zZ i2
 have I3:=zZ i3
 have N1:=zZ n1
 have N2:=zZ n2
 have N3:=zZ n3
 have E2:=zZ e2
 have E3:=zZ e3
 have HE:=zZ hbkE
 have HL:=zZ hL
 have HBB:=zZ hbb
 have HLG:=zZ hlg
 have HCNT:=zZ hcnt
 have e35:=eq35
 clear h hpg ht g0 h00 hbw b0 hW i1 i2 i3 n1 n2 n3 e2 e3 hbkE hL hbb hlg hcnt
 go_enter Tryz.func46,Tryz.ntmps46
 go_wp2_with fail
 rw [<-zY HW]
 go_at_call 39
 refine(zY H39).mono ?_
 rintro e w1 ⟨g1,g2,g3,G2,G3,rfl,hb1,m1,m12,m23,mG,o1,o2,o3⟩
 have x1:=yO hb1 (zY B0)
 have z1:W0.heap.size<=w1.heap.size:=hb1.size
 obtain⟨W1,hW1⟩ : ∃W1,W1=w1.alloc (.cells #[.slice (some ⟨g1,0,none⟩) p.sn (p.sn+4),.slice (some ⟨g2,0,none⟩) p.tn (p.tn+4),.slice (some ⟨g3,0,none⟩) p.fn (p.fn+4)] 33):=⟨_,rfl⟩
 have c1:Below w1.heap.size w1 W1:=by subst hW1;exact(Below.refl _ _).alloc (Nat.le_refl _) _
 have s1:W1.heap.size=w1.heap.size+1:=by subst hW1;simp
 have y1:W1.heap[w1.heap.size]?=some (.cells #[.slice (some ⟨g1,0,none⟩) p.sn (p.sn+4),.slice (some ⟨g2,0,none⟩) p.tn (p.tn+4),.slice (some ⟨g3,0,none⟩) p.fn (p.fn+4)] 33):=by subst hW1;exact heap_alloc_new _ _
 have d1:Below W0.heap.size W0 W1:=hb1.trans (c1.mono z1)
 have h01:Below w0.heap.size w0 W1:=(zY H00).trans (d1.mono (by omega))
 have l1:g1<w1.heap.size:=qG (o1.cells 0 (by omega))
 have l2:g2<w1.heap.size:=zU w1 ⟨g2,p.tn,none⟩ (o2.pads p.tn (by omega) (by omega))
 have l3:g3<w1.heap.size:=zU w1 ⟨g3,p.fn,none⟩ (o3.pads p.fn (by omega) (by omega))
 have pg1:oE W1 (oF (.slice (some ⟨g1,0,none⟩) p.sn (p.sn+4)) (.slice (some ⟨g2,0,none⟩) p.tn (p.tn+4)) (.slice (some ⟨g3,0,none⟩) p.fn (p.fn+4)) undef) p:=
  ⟨(o1.below c1 l1).opsIn (zY N1),(o2.below c1 l2 (fun i hi=>(o2.far i hi).2)).handsIn (zY N2) (zY E2),(o3.below c1 l3 (fun i hi=>(o3.far i hi).2)).handsIn (zY N3) (zY E3)⟩
 have h15:=zP0 (w:=W1) (w0:=W1) (Below.refl _ _) (xY h01 (qP (zY HT)) (zY HT)) pg1 f lg (zY HLG) (zY HCNT)
 have H15:=zZ h15
 have X1:=zZ x1
 have Y1:=zZ y1
 have C1:=zZ c1
 have D1:=zZ d1
 have H01:=zZ h01
 have HW1:=zZ hW1
 have O1:=zZ o1
 have O2:=zZ o2
 have O3:=zZ o3
 have MG:=zZ mG
 have k1:=fun j=>cell_of_row w1 w.heap.size j _ 33 (0,0) x1
 have hlt1:w.heap.size<w1.heap.size:=by omega
 clear h15 x1 y1 c1 d1 h01 pg1 hW1 o1 o2 o3 mG hb1 H39 HW
 go_wp2_with fail
 rw [<-zY HW1]
 go_at_call 15
 refine(zY H15).mono ?_
 rintro e w3 hpost
 obtain⟨f3,x,hx,a3,c3,rfl,r3⟩:=hpost.out
 obtain⟨T,hT⟩ : ∃T,T=hJ p f lg x:=⟨_,rfl⟩
 obtain⟨F,hF⟩ : ∃F,F=rotF p f lg x:=⟨_,rfl⟩
 obtain⟨X,hX⟩ : ∃X,X=rotX lg x:=⟨_,rfl⟩
 have tle:=yQ6 (f:=f) (lg:=lg) hx
 rw [<-hT] at r3 tle
 have hb3:Below W1.heap.size W1 w3:=f3.below (fun k hk=>hk.elim) (Nat.le_refl _)
 have x3:=yO hb3 (yO (zY C1) (zY X1))
 have y33:=yO hb3 (zY Y1)
 have z3:W1.heap.size<=w3.heap.size:=hb3.size
 obtain⟨W3,hW3⟩ : ∃W3,W3=w3.alloc (.cells #[.int .i64 F.fin,.int .i64 (F.reg 0),.int .i64 (F.reg 1),.int .i64 (F.reg 2),.int .i64 (F.reg 3),.int .i64 F.clock,.int .i64 F.heard] 37):=⟨_,rfl⟩
 have c3b:Below w3.heap.size w3 W3:=by subst hW3;exact(Below.refl _ _).alloc (Nat.le_refl _) _
 have s3:W3.heap.size=w3.heap.size+1:=by subst hW3;simp
 have y35:W3.heap[w3.heap.size]?=some (.cells #[.int .i64 F.fin,.int .i64 (F.reg 0),.int .i64 (F.reg 1),.int .i64 (F.reg 2),.int .i64 (F.reg 3),.int .i64 F.clock,.int .i64 F.heard] 37):=by subst hW3;exact heap_alloc_new _ _
 have d3:Below W1.heap.size W1 W3:=hb3.trans (c3b.mono z3)
 have h03:Below w0.heap.size w0 W3:=(zY H01).trans (d3.mono (by omega))
 have h80:=bI (w:=W3) (p1:=p1) (p2:=p2) (p3:=p3) (p:=p) ⟨yN h03 (zY I1),yF h03 (zY I2),yF h03 (zY I3)⟩ f lg (zY HLG) (zY HCNT)
 have H80:=zZ h80
 have X3:=zZ x3
 have Y33:=zZ y33
 have Y35:=zZ y35
 have C3:=zZ c3b
 have D3:=zZ d3
 have R3:=zZ r3
 have TLE:=zZ tle
 have HX:=zZ hx
 have HTT:=zZ hT
 have HFF:=zZ hF
 have HXX:=zZ hX
 have HW3:=zZ hW3
 have k3:=fun j=>cell_of_row w3 w.heap.size j _ 33 (0,0) x3
 have hlt3:w.heap.size<w3.heap.size:=by omega
 rw [<-hT,<-hF,<-hX]
 simp only [qY]
 clear h80 x3 y33 y35 c3b d3 h03 r3 tle hx hT hF hX hW3 hb3 f3 hpost H15 HW1 k1 hlt1
 go_wp2_with fail
 rw [<-zY HW3]
 go_at_call 80
 refine(zY H80).mono ?_
 rintro e w4 hpost
 obtain⟨f4,x',hx',a4,c4,rfl,r4⟩:=hpost.out
 obtain rfl:x=x':=(zY HX).one hx'
 rw [<-zY HTT] at r4
 have hb4:Below W3.heap.size W3 w4:=f4.below (fun k hk=>hk.elim) (Nat.le_refl _)
 have z4:W3.heap.size<=w4.heap.size:=hb4.size
 have x4:=yO hb4 (yO (zY C3) (zY X3))
 have y43:=yO hb4 (yO (zY C3) (zY Y33))
 have y45:=yO hb4 (zY Y35)
 obtain⟨W4,hW4⟩ : ∃W4,W4=w4.alloc (.cells #[.int .i64 F.fin,.int .i64 (F.reg 0),.int .i64 (F.reg 1),.int .i64 (F.reg 2),.int .i64 (F.reg 3),.int .i64 F.clock,.int .i64 F.heard] 37):=⟨_,rfl⟩
 have c4b:Below w4.heap.size w4 W4:=by subst hW4;exact(Below.refl _ _).alloc (Nat.le_refl _) _
 have s4:W4.heap.size=w4.heap.size+1:=by subst hW4;simp
 have y46:W4.heap[w4.heap.size]?=some (.cells #[.int .i64 F.fin,.int .i64 (F.reg 0),.int .i64 (F.reg 1),.int .i64 (F.reg 2),.int .i64 (F.reg 3),.int .i64 F.clock,.int .i64 F.heard] 37):=by subst hW4;exact heap_alloc_new _ _
 have d4:Below W3.heap.size W3 W4:=hb4.trans (c4b.mono z4)
 have d14:Below w1.heap.size w1 W4:=(zY C1).trans (((zY D3).mono (by omega)).trans (d4.mono (by omega)))
 have d04:Below W0.heap.size W0 W4:=(zY D1).trans (((zY D3).mono (by omega)).trans (d4.mono (by omega)))
 have h04:Below w0.heap.size w0 W4:=(zY H00).trans (d04.mono (by omega))
 have h40:=jI W0.heap.size w1.heap.size p1 p2 p3 g1 g2 g3 p.sn p.tn p.fn p.sf p.tl p.fl G2 G3 p.tf p.ff W4 (yN h04 (zY I1)) (yF h04 (zY I2)) (yF h04 (zY I3))
  ((zY O1).below d14 l1) ((zY O2).below d14 l2 (fun i hi=>((zY O2).far i hi).2)) ((zY O3).below d14 l3 (fun i hi=>((zY O3).far i hi).2)) m1 m12 m23 (zY MG) (fun i hi=>((zY O3).far i hi).2)
 have H40:=zZ h40
 have X4:=zZ x4
 have Y45:=zZ y45
 have Y46:=zZ y46
 have C4:=zZ c4b
 have D4:=zZ d4
 have D04:=zZ d04
 have R4:=zZ r4
 have HW4:=zZ hW4
 have k4:=fun j=>cell_of_row w4 w.heap.size j _ 33 (0,0) x4
 have j4:=fun j=>cell_of_row w4 w1.heap.size j _ 33 (0,0) y43
 have hlt4:w.heap.size<w4.heap.size:=by omega
 have hlt4':w1.heap.size<w4.heap.size:=by omega
 rw [<-zY HTT,<-zY HFF,<-zY HXX]
 simp only [qY]
 clear h40 x4 y43 y45 y46 c4b d4 d14 d04 h04 r4 hW4 hb4 f4 hpost hx' H80 HW3 k3 hlt3 HTT HFF HXX HX
 go_wp2_with fail
 rw [<-zY HW4]
 go_at_call 40
 refine(zY H40).mono ?_
 rintro e w5 ⟨rfl,hb5,far5⟩
 have z5:W4.heap.size<=w5.heap.size:=hb5.size
 have y55:=(far5 w3.heap.size (by omega) (by omega)).trans (yO (zY C4) (zY Y45))
 have y56:=(far5 w4.heap.size (by omega) (by omega)).trans (zY Y46)
 have d05:Below W0.heap.size W0 w5:=(zY D04).trans hb5
 have blk3:∀q,W1.heap.size<=q->q<w3.heap.size->w5.heap[q]?=w3.heap[q]?:=fun q h1 h2=>
  (far5 q (by omega) (by omega)).trans (((zY D4).block q (by omega)).trans ((zY C3).block q h2))
 have blk4:∀q,W3.heap.size<=q->q<w4.heap.size->w5.heap[q]?=w4.heap[q]?:=fun q h1 h2=>
  (far5 q (by omega) (by omega)).trans ((zY C4).block q h2)
 have r36:=yA (zY R3) (fun q hq=>blk3 q (zS (zY R3) q hq).1 (zS (zY R3) q hq).2)
 have r46:=yA (zY R4) (fun q hq=>blk4 q (zS (zY R4) q hq).1 (zS (zY R4) q hq).2)
 have tle:=zY TLE
 have hcn:=zY HCNT
 have h74:=mP T.length _ _ (fun i=>T.getD i (0,0,0)) w5 (iG r36 (by omega)) (iG r46 (by omega))
 have H74:=zZ h74
 have R36:=zZ r36
 have Y55:=zZ y55
 have Y56:=zZ y56
 have D05:=zZ d05
 clear h74 r36 r46 tle hcn blk3 blk4 y55 y56 d05 hb5 far5 H40 HW4 k4 j4 hlt4 hlt4'
 go_wp2_with fail
 go_at_call 74
 refine(zY H74).mono ?_
 rintro e w7 ⟨rfl,hd7⟩
 have hb67:Below w5.heap.size w5 w7:=hd7.below _
 have hz7:w7.heap.size=w5.heap.size:=by obtain⟨m,rfl⟩:=hd7;simp
 have d07:Below W0.heap.size W0 w7:=(zY D05).trans (hb67.mono (by omega))
 have hw7:Below w.heap.size w w7:=(zY G0).trans (d07.mono (by omega))
 have r37:=yA (zY R36) (fun q hq=>hb67.block q (zS (zY R36) q hq).2)
 have r3q:∀q,own (.slice a3 T.length c3) q->W1.heap.size<=q/\q<w3.heap.size:=fun q hq=>zS (zY R3) q hq
 have y75:=yO hb67 (zY Y55)
 have y76:=yO hb67 (zY Y56)
 have tle:=zY TLE
 have hcn:=zY HCNT
 have h75:=lF ((zY HH).fr (Fr.of_below hw7)) (Nat.le_trans hsw hw7.size) (rC r37 (by omega)) (fun q hq hk=>by
  have h1:=(r3q q hq).1
  have h2:=((zY HH).apart q hk).1
  omega) (by omega) (zY HL)
 have H75:=zZ h75
 have Y75:=zZ y75
 have Y76:=zZ y76
 have HW7:=zZ hw7
 have R3Q:=zZ r3q
 clear h75 y75 y76 hw7 r3q r37 d07 hb67 hd7 tle hcn H74
 go_wp2_with fail
 go_at_call 75
 refine(zY H75).mono ?_
 rintro e w8 ⟨rfl,hk8⟩
 have nin:∀q,w3.heap.size<=q->q<w7.heap.size->¬(q=bb\/own vE q\/own (.slice a3 T.length c3) q\/w7.heap.size<=q):=fun q h1 h2 hq=>by
  rcases hq with h | h | h | h
  ·omega
  ·have:=(zY HE q h).2;omega
  ·have:=(zY R3Q q h).2;omega
  ·omega
 have hev:=hk8.ev ((zY HW7).mono hsw) (zY HBB) (fun q hq=>(zY HE q hq).1) (fun q hq=>by have:=(zY R3Q q hq).1;omega) (by have:=(zY HW7).size;omega)
 obtain⟨_,_,_,_,_,_,fr8⟩:=hk8
 have y85:=(fr8.same w3.heap.size (by omega) (nin _ (by omega) (by omega))).trans (zY Y75)
 have y86:=(fr8.same w4.heap.size (by omega) (nin _ (by omega) (by omega))).trans (zY Y76)
 have k8:=fun j=>cell_of_row w8 w3.heap.size j _ 37 (0,0) y85
 have j8:=fun j=>cell_of_row w8 w4.heap.size j _ 37 (0,0) y86
 have HEV:=zZ hev
 clear hev y85 y86 nin fr8 H75
 go_wp2
 go_ret
 exact⟨by simp,zY HEV⟩
theorem yH0 {p:Pg} (hp:sM p) (f:Int) (lc:List Int) (bt:List (Value×List Int)) (lp ll:List Int) (hN:lc.length+bt.length+lp.length+ll.length<=50000000) :
  (rB (sL p f lc bt lp ll)).size<=1000000000/\(yS (bs (rB (sL p f lc bt lp ll)))).1.length<=lc.length+bt.length+lp.length+ll.length+1:=by
 obtain⟨xs,hrun,hlog,hcount⟩:=zS7 hp f lc bt lp ll hN
 generalize sL p f lc bt lp ll=rm at *
 have hfin:=hrun.fin
 have hrd:=yJ1 xs rm.1.fin.toNat hrun.fit (by omega) (by omega)
 rw [<-hlog] at hrd
 have hsz:(bs (rB rm)).length=(rB rm).size:=by simp [bs]
 refine⟨?_,?_⟩
 ·have h1:=yN7 xs hrun.fit
  have h2:=nB (fL rm.1.fin.toNat (by omega) (by omega))
  have h3:=fM (5,0,rm.1.fin.toNat,[])
  have h4:=hrun.small
  have h5:(rB rm).size=3+((frs xs).length+(frL (5,0,rm.1.fin.toNat,[])).length):=by
   rw [<-hsz,hlog];unfold zN3;rw [List.length_append,List.length_append];rfl
  omega
 ·rw [hrd]
  simp only [List.length_append,List.length_cons,List.length_nil]
  omega
theorem bM.fits {p:Pg} {f:Int} {lc lp ll:List Int} {ls:List (List Int)} {sg:ByteArray} (h:bM p f lc ls lp ll sg) (hn:lc.length+ls.length+lp.length+ll.length<=1048576):sg.size<=1000000000/\(yS (bs sg)).1.length<=2000000:=by
 by_cases ok:sM p
 ·obtain⟨b,hb,rfl⟩:=h.1 ok
  have hl:b.length=ls.length:=by rw [<-hb,List.length_map]
  have hf:=yH0 ok f lc b lp ll (by omega)
  exact⟨hf.1,by omega⟩
 ·have e:=h.2 ok
  subst e
  have:=jH (bs ⟨#[]⟩)
  exact⟨by decide,by simp [bs] at this ⊢;omega⟩
theorem zB4 {w w0:World} {bb:Nat} {n0:Int} {vI vE vN:Value} {LI LE LN:List Ent} {K:Nat->Prop} (h:vK w w0.heap.size bb n0 vI vE vN LI LE LN K) (hbb:w0.heap.size<=bb) (hbw:Below w0.heap.size w0 w) (ht:sO w0)
  {p1 p2 p3:Value} {p:Pg} (hpg:oE w0 (oF p1 p2 p3 undef) p) (q0 q1 q2 q3:Value) (lg:ByteArray) (hlg:lg.size<=1048576) (f:Int) (hL:LE.length<=900000000000) :
  Calls Tryz.prog 23 #[.pointer (some ⟨bb,0,none⟩),.agg #[.int .i64 4,p1,p2,p3,q0,q1,q2,q3,.string lg,.int .i64 f]] w fun e w'=>e=.returned (.bool true)/\nQ w w' w0.heap.size bb vI vN LI LE LN:=by
 have hhalf:=jH (bs lg)
 rw [vA] at hhalf
 obtain⟨W0,hW⟩ : ∃W0,W0=w.alloc (.cells #[.int .i64 4,p1,p2,p3,q0,q1,q2,q3,.string lg,.int .i64 f] 67):=⟨_,rfl⟩
 have f0:Fr (fun _=>False) w W0 (fun _=>False):=by subst hW;exact(Fr.refl _ _).alloc _
 have b0:Below w0.heap.size w W0:=f0.below (fun k hk=>hk.elim) hbw.size
 have H46:=zZ (gR (h.fr f0) hbb (hbw.trans b0) ht hpg lg (by omega) (by omega) f hL)
 have B0:=zZ b0
 have HW:=zZ hW
 clear h hbw ht hpg b0 hW f0 hhalf
 go_enter Tryz.func23,Tryz.ntmps23
 go_wp2_with fail
 rw [<-zY HW]
 go_at_call 46
 refine(zY H46).mono ?_
 rintro e w1 ⟨rfl,hev⟩
 have HEV:=zZ (hev.below (zY B0))
 clear hev H46 HW
 go_wp2
 go_ret
 exact⟨by simp,zY HEV⟩
def zQ2 (w w':World) (B bb:Nat) (vI vN:Value) (LI LE LN:List Ent):Prop:=
 ∃n' vE' LE' K',vK w' B bb n' vI vE' vN LI LE' LN K'/\LE'.length=LE.length+2/\Below B w w'
theorem zH2 {w w0:World} {bb:Nat} {n0:Int} {vI vE vN:Value} {LI LE LN:List Ent} {K:Nat->Prop} (h:vK w w0.heap.size bb n0 vI vE vN LI LE LN K) (hbb:w0.heap.size<=bb) (hbw:Below w0.heap.size w0 w) (ht:sO w0)
  {p1 p2 p3:Value} {p:Pg} (hpg:oE w0 (oF p1 p2 p3 undef) p) {q0 q1 q2 q3:Value} {lc lp ll:List Int} {bs:List (Value×List Int)} (hwo:qR w0 q0 q1 q2 q3 lc bs lp ll) (hn:lc.length+bs.length+lp.length+ll.length<=1048576) (lg:Value) (f:Int) (hL:LE.length<=800000000000) :
  Calls Tryz.prog 23 #[.pointer (some ⟨bb,0,none⟩),.agg #[.int .i64 5,p1,p2,p3,q0,q1,q2,q3,lg,.int .i64 f]] w fun e w'=>e=.returned (.bool true)/\zQ2 w w' w0.heap.size bb vI vN LI LE LN:=by
 obtain⟨W0,hW⟩ : ∃W0,W0=w.alloc (.cells #[.int .i64 5,p1,p2,p3,q0,q1,q2,q3,lg,.int .i64 f] 67):=⟨_,rfl⟩
 have f0:Fr (fun _=>False) w W0 (fun _=>False):=by subst hW;exact(Fr.refl _ _).alloc _
 have b0:Below w0.heap.size w W0:=f0.below (fun k hk=>hk.elim) hbw.size
 have x0:W0.heap[w.heap.size]?=some (.cells #[.int .i64 5,p1,p2,p3,q0,q1,q2,q3,lg,.int .i64 f] 67):=by subst hW;exact heap_alloc_new _ _
 have hrec:=gQ (h.fr f0) hbb (hbw.trans b0) ht hpg hwo (.int .i64 5) lg f (by omega)
 have hk:Below w0.heap.size w0 W0:=hbw.trans b0
 have HBW:=zZ hk
 have H42:=zZ hrec
 have HT:=zZ ht
 have HPG:=zZ hpg
 have B0:=zZ b0
 have X0:=zZ x0
 have HW:=zZ hW
 have hl0:=(zN.1 x0).1
 have hbw1:bb<w.heap.size:=(zN.1 h.bk.blk).1
 have hve:¬own vE w.heap.size:=fun e=>by have:=(zS h.bk.rE _ e).2;omega
 have HVE:=zZ hve
 clear hve
 have hbb':bb<W0.heap.size:=(zN.1 (h.fr f0).bk.blk).1
 clear h hbw ht hpg b0 hW hwo hrec hk x0
 go_enter Tryz.func23,Tryz.ntmps23
 go_wp2_with fail
 rw [<-zY HW]
 go_at_call 42
 refine(zY H42).mono ?_
 rintro e w1 ⟨sg,rfl,hlog,⟨n',vE',LE',K',hbk,hle,hbl⟩,hfar⟩
 obtain⟨hs1,hs2⟩:=hlog.fits (by rw [List.length_map];omega)
 have x1:=(hfar w.heap.size hl0 (by omega) (zY HVE)).trans (zY X0)
 have H46:=zZ (gR hbk hbb ((zY HBW).trans hbl) (zY HT) (zY HPG) sg hs1 hs2 f (by omega))
 have hb1:Below w0.heap.size w w1:=(zY B0).trans hbl
 have k1:=fun j=>cell_of_row w1 w.heap.size j _ 67 (0,0) x1
 have HB1:=zZ hb1
 clear hlog hbk hbl hfar hs1 hs2 x1 hb1 H42 HW HBW HT HPG B0 X0
 go_wp2_with fail
 go_at_call 46
 refine(zY H46).mono ?_
 rintro e w2 ⟨rfl,n2,vE2,LE2,K2,hbk2,hle2,hbl2⟩
 have HEV:Hid (zQ2 w w2 w0.heap.size bb vI vN LI LE LN):=⟨n2,vE2,LE2,K2,hbk2,by omega,(zY HB1).trans hbl2⟩
 clear hbk2 hbl2 H46 HB1
 go_wp2
 go_ret
 exact⟨by simp,zY HEV⟩
