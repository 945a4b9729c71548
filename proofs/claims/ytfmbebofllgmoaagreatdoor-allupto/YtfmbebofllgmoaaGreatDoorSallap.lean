/-
  PROVED HERE: Run runs a program as the model (runM) says, ove
-/
import Derived.Deep.DeepCutAuto
import Derived.Test.YtfmbebofllgmoaaGreatDoorSallak
set_option maxHeartbeats 4000000
set_option maxRecDepth 100000
namespace Go.Proofs.YtfmbebofllgmoaaGreatDoor
open Go.RowKit Go.Sort
attribute [local go_sem ↓] Go.wp_at_zero Go.wp_at_succ
def s0 (fu:Int):PS:=⟨fu,0,fun _=>0,0,fun _=>(false,0,0,0),0,fun _=>false,[],0,0⟩
def oF (v1 v2 v3 sv:Value) (k:Nat):Value:=if k=0 then v1 else if k=1 then v2 else if k=2 then v3 else sv
def sV (v1 v2 v3 sv:Value) (fu:Int):Array Value:=((List.range 67).map (img (oF v1 v2 v3 sv) (.slice none 0 0) (s0 fu))).toArray
theorem bA (v1 v2 v3:Value) (rb tyS:Nat) (fu:Int):(((((((((((((((((Tryz.zeroCells130.setIfInBounds 0 v1).setIfInBounds 1 v2).setIfInBounds 2 v3).setIfInBounds 3 (.iface tyS (.pointer (some ⟨rb,0,none⟩)))).setIfInBounds 4 .nilFunc).setIfInBounds 5 (.func (Fn.func 83) #[] #[])).setIfInBounds 6 (.func (Fn.func 84) #[] #[])).setIfInBounds 7 (.func (Fn.func 85) #[] #[])).setIfInBounds 8 (.func (Fn.func 86) #[] #[])).setIfInBounds 9 (.func (Fn.func 87) #[] #[])).setIfInBounds 10 (.func (Fn.func 88) #[] #[])).setIfInBounds 11 (.func (Fn.func 89) #[] #[])).setIfInBounds 12 (.func (Fn.func 90) #[] #[])).setIfInBounds 13 (.func (Fn.func 91) #[] #[])).setIfInBounds 14 (.func (Fn.func 92) #[] #[])).setIfInBounds 15 (.func (Fn.func 93) #[] #[])).setIfInBounds 16 (.int .i64 fu))=sV v1 v2 v3 (.iface tyS (.pointer (some ⟨rb,0,none⟩))) fu:=by kernel_rfl
theorem zD8 (v1 v2 v3 sv:Value) (fu:Int) (k:Nat) (hk:k<67):(sV v1 v2 v3 sv fu)[k]?=some (img (oF v1 v2 v3 sv) (.slice none 0 0) (s0 fu) k):=by
 unfold sV
 simp [hk]
theorem zD1 (w:World):Calls Tryz.prog 53 #[] w fun e w'=>e=.returned (.agg #[.nilFunc,.func (Fn.func 83) #[] #[],.func (Fn.func 84) #[] #[],.func (Fn.func 85) #[] #[],.func (Fn.func 86) #[] #[],.func (Fn.func 87) #[] #[],.func (Fn.func 88) #[] #[],.func (Fn.func 89) #[] #[],.func (Fn.func 90) #[] #[],.func (Fn.func 91) #[] #[],.func (Fn.func 92) #[] #[],.func (Fn.func 93) #[] #[]])/\w'=w.alloc (.cells #[.nilFunc,.func (Fn.func 83) #[] #[],.func (Fn.func 84) #[] #[],.func (Fn.func 85) #[] #[],.func (Fn.func 86) #[] #[],.func (Fn.func 87) #[] #[],.func (Fn.func 88) #[] #[],.func (Fn.func 89) #[] #[],.func (Fn.func 90) #[] #[],.func (Fn.func 91) #[] #[],.func (Fn.func 92) #[] #[],.func (Fn.func 93) #[] #[]] 123):=by
 go_enter Tryz.func53,Tryz.ntmps53
 go_wp2
 refine bodyPost_ret (v:=.agg #[.nilFunc,.func (Fn.func 83) #[] #[],.func (Fn.func 84) #[] #[],.func (Fn.func 85) #[] #[],.func (Fn.func 86) #[] #[],.func (Fn.func 87) #[] #[],.func (Fn.func 88) #[] #[],.func (Fn.func 89) #[] #[],.func (Fn.func 90) #[] #[],.func (Fn.func 91) #[] #[],.func (Fn.func 92) #[] #[],.func (Fn.func 93) #[] #[]]) (by simp [results,Tryz.results53,go_sem]) rfl ?_
 exact⟨rfl,rfl⟩
section
variable {σ:Type} {SA:(Nat->Prop)->World->σ->Prop} {ask:σ->Int->Int->Rep×σ} {may:Int->Int->Prop} {mes:σ->Nat} {B:Nat} {S T:Nat->Prop} {w:World} {b:Nat} {pv:Nat->Value} {vt:Value} {s:PS} {x:σ}
def tG (ask:σ->Int->Int->Rep×σ) (p:Pg) (k:Nat) (f:Int) (x:σ):PS×σ:=xG ask p k (hM ask p.sf p.sn p.sn (s0 (min (max f 0) 5000)) x).1 (hM ask p.sf p.sn p.sn (s0 (min (max f 0) 5000)) x).2
def RRel (SA:(Nat->Prop)->World->σ->Prop) (ask:σ->Int->Int->Rep×σ) (mes:σ->Nat) (B:Nat) (S:Nat->Prop) (w:World) (b:Nat) (pv:Nat->Value) (p:Pg) (fin:PS×σ) (k:Nat) (wr:World):Prop:=
 ∃S' vt' T' s' x' N',RI SA B S' wr b pv vt' T' s' x'/\Fr S w wr S'/\xG ask p k s' x'=fin/\vL p N' s'/\N'+16*k<=100000000/\(s'.fin≠0\/mes x'<k)
theorem vP (p:Pg) (k:Nat) (s:PS) (x:σ) (h:s.fin≠0):xG ask p k s x=(s,x):=by
 cases k with
 | zero=>rfl
 | succ k=>simp only [xG];rw [if_neg h]
theorem yB {w:World} {g e:Nat} {cur:Array Value} (hb:w.heap[g]?=some (.cells cur e (0,0))) (j:Nat):w.frozen? ⟨g,j,none⟩=false:=by simp [World.frozen?,hb]
theorem yA4 (L:xD SA) (hx:SA T w x) (hT:∀k,T k->B<=k/\k<w.heap.size) (v1 v2 v3:Value) (rb tyS:Nat) (fu:Int) (o1 o2:Obj) {wc:World}
  (hwc:wc=((((w.alloc (.cells #[v1,v2,v3] 33)).alloc o1).alloc o2).alloc (.cells (sV v1 v2 v3 (.iface tyS (.pointer (some ⟨rb,0,none⟩))) fu) 130)).drew) (hB:B<=w.heap.size) :
  RI SA B (fun k=>k=w.heap.size+1+1+1\/T k) wc (w.heap.size+1+1+1) (oF v1 v2 v3 (.iface tyS (.pointer (some ⟨rb,0,none⟩)))) (.slice none 0 0) T (s0 fu) x/\Fr T w wc (fun k=>k=w.heap.size+1+1+1\/T k)/\
   wc.cell? ⟨w.heap.size,0,none⟩=some v1/\wc.heap[w.heap.size+1]?=some o1/\w.heap.size+1+1+1<wc.heap.size:=by
 subst hwc
 have z1:(((w.alloc (.cells #[v1,v2,v3] 33)).alloc o1).alloc o2).heap.size=w.heap.size+1+1+1:=by simp
 have z2:((w.alloc (.cells #[v1,v2,v3] 33)).alloc o1).heap.size=w.heap.size+1+1:=by simp
 have z3:(w.alloc (.cells #[v1,v2,v3] 33)).heap.size=w.heap.size+1:=by simp
 have hrow:((((w.alloc (.cells #[v1,v2,v3] 33)).alloc o1).alloc o2).alloc (.cells (sV v1 v2 v3 (.iface tyS (.pointer (some ⟨rb,0,none⟩))) fu) 130)).drew.heap[w.heap.size+1+1+1]?=some (.cells (sV v1 v2 v3 (.iface tyS (.pointer (some ⟨rb,0,none⟩))) fu) 130):=by
  have:=heap_alloc_new (((w.alloc (.cells #[v1,v2,v3] 33)).alloc o1).alloc o2) (.cells (sV v1 v2 v3 (.iface tyS (.pointer (some ⟨rb,0,none⟩))) fu) 130)
  rw [z1] at this
  exact this
 have hfr:Fr T w ((((w.alloc (.cells #[v1,v2,v3] 33)).alloc o1).alloc o2).alloc (.cells (sV v1 v2 v3 (.iface tyS (.pointer (some ⟨rb,0,none⟩))) fu) 130)).drew T:=((((Fr.refl T w).alloc _).alloc _).alloc _).alloc _ |>.drew
 have hsz:w.heap.size+1+1+1<((((w.alloc (.cells #[v1,v2,v3] 33)).alloc o1).alloc o2).alloc (.cells (sV v1 v2 v3 (.iface tyS (.pointer (some ⟨rb,0,none⟩))) fu) 130)).drew.heap.size:=by
  show _<(World.alloc _ _).heap.size
  simp
 have hsame:∀k,k<w.heap.size->((((w.alloc (.cells #[v1,v2,v3] 33)).alloc o1).alloc o2).alloc (.cells (sV v1 v2 v3 (.iface tyS (.pointer (some ⟨rb,0,none⟩))) fu) 130)).drew.heap[k]?=w.heap[k]?:=fun k hk=>
  (zR _ _ _ (by rw [z1];omega)).trans ((zR _ _ _ (by rw [z2];omega)).trans ((zR _ _ _ (by rw [z3];omega)).trans (zR _ _ _ hk)))
 refine⟨⟨?_,?_,zX _ _ _ _,?_,.inl rfl,?_,?_⟩,⟨hfr.os,hfr.tape,hfr.output,hfr.size,hfr.same,?_⟩,?_,?_,hsz⟩
 ·rintro k (rfl | hk)
  ·exact⟨by omega,hsz⟩
  ·have:=hT k hk
   exact⟨this.1,by omega⟩
 ·intro k hk
  refine⟨?_,yB hrow k⟩
  rw [cell_of_row _ _ k _ 130 (0,0) hrow]
  exact zD8 v1 v2 v3 _ fu k hk
 ·exact L.keep hx (fun k hk=>hsame k (hT k hk).2) hfr.size
 ·intro q hq
  simp [Value.ownBlock] at hq
 ·intro k hk
  have:=hT k hk
  exact⟨.inr hk,by omega⟩
 ·rintro k hk (rfl | h)
  ·omega
  ·exact h
 ·have h1:((((w.alloc (.cells #[v1,v2,v3] 33)).alloc o1).alloc o2).alloc (.cells (sV v1 v2 v3 (.iface tyS (.pointer (some ⟨rb,0,none⟩))) fu) 130)).drew.heap[w.heap.size]?=some (.cells #[v1,v2,v3] 33):=
   (zR _ _ _ (by rw [z1];omega)).trans ((zR _ _ _ (by rw [z2];omega)).trans ((zR _ _ _ (by rw [z3];omega)).trans (heap_alloc_new w _)))
  exact cell_of_row _ _ 0 _ 33 (0,0) h1
 ·have h1:=heap_alloc_new (w.alloc (.cells #[v1,v2,v3] 33)) o1
  rw [z3] at h1
  exact(zR _ _ _ (by rw [z1];omega)).trans ((zR _ _ _ (by rw [z2];omega)).trans h1)
theorem zT1 (L:xD SA) {rb tyS fnS:Nat} (K:uO SA ask may B rb tyS fnS) (hm:oJ may) (hs:uP ask mes) {w0:World} (hB:B=w0.heap.size) (hbel:Below w0.heap.size w0 w) (hT:∀k,T k->B<=k/\k<w.heap.size) (hx:SA T w x)
  (v1 v2 v3:Value) {p:Pg} (hv:oE w0 (oF v1 v2 v3 (.iface tyS (.pointer (some ⟨rb,0,none⟩)))) p) (ho:sM p) (f:Int) (hM0:mes x<=5000000) :
  Calls Tryz.prog 29 #[.agg #[v1,v2,v3],.iface tyS (.pointer (some ⟨rb,0,none⟩)),.int .i64 f] w fun e w'=>∃vt' s' S' T' b,e=.returned (.tuple #[vt',.agg #[.int .i64 s'.fin,.int .i64 (s'.reg 0),.int .i64 (s'.reg 1),.int .i64 (s'.reg 2),.int .i64 (s'.reg 3),.int .i64 s'.clock,.int .i64 s'.heard]])/\
   s'=(tG ask p (mes x+1) f x).1/\RI SA B S' w' b (oF v1 v2 v3 (.iface tyS (.pointer (some ⟨rb,0,none⟩)))) vt' T' s' (tG ask p (mes x+1) f x).2/\Fr T w w' S':=by
 have hact:=zD1
 have HBEL:=zZ hbel
 have HBWW:=zZ (show B<=w.heap.size from hB▸hbel.size)
 have HBE:=zZ hB
 have HT:=zZ hT
 have HX:=zZ hx
 have HV:=zZ hv
 have HM0:=zZ hM0
 clear hbel hB hT hx hv hM0
 have HCH:=zZ (bA v1 v2 v3 rb tyS (min (max f 0) 5000))
 go_enter Tryz.func29,Tryz.ntmps29
 go_upto_region 1 with fail
 go_cut [8] (fun u wc=>u=.pointer (some ⟨w.heap.size+1+1+1,0,none⟩)/\wc=((((w.alloc (.cells #[v1,v2,v3] 33)).alloc (.cells #[.int .i64 0,.int .i64 0,.int .i64 0,.int .i64 0,.int .i64 0,.int .i64 0,.int .i64 0] 37)).alloc (.cells #[.nilFunc,.func (Fn.func 83) #[] #[],.func (Fn.func 84) #[] #[],.func (Fn.func 85) #[] #[],.func (Fn.func 86) #[] #[],.func (Fn.func 87) #[] #[],.func (Fn.func 88) #[] #[],.func (Fn.func 89) #[] #[],.func (Fn.func 90) #[] #[],.func (Fn.func 91) #[] #[],.func (Fn.func 92) #[] #[],.func (Fn.func 93) #[] #[]] 123)).alloc (.cells (sV v1 v2 v3 (.iface tyS (.pointer (some ⟨rb,0,none⟩))) (min (max f 0) 5000)) 130)).drew)
 case first=>
  go_region_held3 (fun w'=>w'.cell? ⟨w.heap.size,0,none⟩=some v1/\w'.cell? ⟨w.heap.size,1,none⟩=some v2/\w'.cell? ⟨w.heap.size,2,none⟩=some v3) (simp [go_sem,World.cell?_alloc_past]) (first | (go_at_call 53;refine(hact _).mono ?_;rintro e w' ⟨rfl,rfl⟩))
  all_goals (go_wp2_with fail;go_meet;exact⟨rfl,by rw [<-zY HCH]⟩)
 case rest=>
 obtain⟨rfl,hwc⟩:=hcut
 clear HCH hact
 obtain⟨hri,hfr,e0,hF,hbz⟩:=yA4 L (zY HX) (zY HT) v1 v2 v3 rb tyS (min (max f 0) 5000) (.cells #[.int .i64 0,.int .i64 0,.int .i64 0,.int .i64 0,.int .i64 0,.int .i64 0,.int .i64 0] 37) (.cells #[.nilFunc,.func (Fn.func 83) #[] #[],.func (Fn.func 84) #[] #[],.func (Fn.func 85) #[] #[],.func (Fn.func 86) #[] #[],.func (Fn.func 87) #[] #[],.func (Fn.func 88) #[] #[],.func (Fn.func 89) #[] #[],.func (Fn.func 90) #[] #[],.func (Fn.func 91) #[] #[],.func (Fn.func 92) #[] #[],.func (Fn.func 93) #[] #[]] 123) hwc (zY HBWW)
 clear hwc
 have hne:w.heap.size+1≠w.heap.size+1+1+1:=by omega
 generalize w.heap.size+1+1+1=b at *
 have hFS:¬(fun k=>k=b\/T k) (w.heap.size+1):=by
  rintro (h | h)
  ·exact hne h
  ·have:=(zY HT _ h).2;omega
 have hFz:w.heap.size+1<wc.heap.size:=by
  have:=(zN.1 hF).1
  exact this
 have hBW:=zZ (show B<=wc.heap.size by have:=hri.bound b hri.inB;omega)
 generalize (fun k=>k=b\/T k)=S at *
 have hSB:=zZ (fun k (hk:S k)=>(hri.bound k hk).1)
 have hv:=zY HV
 have hp3:oF v1 v2 v3 (.iface tyS (.pointer (some ⟨rb,0,none⟩))) 3=.iface tyS (.pointer (some ⟨rb,0,none⟩)):=rfl
 have hop:vQ w0 v1 p.sn p.sf:=hv.s
 generalize hpv:oF v1 v2 v3 (.iface tyS (.pointer (some ⟨rb,0,none⟩)))=pv at *
 have HPV:=zZ hpv
 clear hpv
 have hbel:=(zY HBEL).trans (zY HBE▸hfr.below (fun k hk=>(zY HT k hk).1) (zY HBWW))
 have hq0:vL p 5000 (s0 (min (max f 0) 5000)):=by
  refine⟨⟨⟨by show 0<=min (max f 0) 5000;omega,by show min (max f 0) 5000<=5000;omega⟩,⟨by show (0:Int)<=0;omega,by show (0:Int)<=1099511627776;omega⟩,⟨by show (0:Int)<=0;omega,by show (0:Int)+min (max f 0) 5000<=5000;omega⟩,by show 0+(min (max f 0) 5000).toNat<=5000;omega⟩,⟨fun _ h=>absurd h Bool.false_ne_true,fun _ h=>absurd h Bool.false_ne_true,fun _ h=>absurd h Bool.false_ne_true,fun _ _ h=>absurd h Bool.false_ne_true⟩⟩
 have h60:=kZ L K hp3 hm.clock hm.lot hs.clock (zY HBE) hbel hri hop ho.sl ho.tn ho.fn ho.sr hq0.1 (by omega)
 have hq1:=qF hs ho.sr (s0 (min (max f 0) 5000)) x hq0
 have hm1:=iS hs (f:=p.sf) (n:=p.sn) p.sn {s0 (min (max f 0) 5000) with next:=0} x
 have hrun:tG ask p (mes x+1) f x=xG ask p (mes x+1) (hM ask p.sf p.sn p.sn {s0 (min (max f 0) 5000) with next:=0} x).1 (hM ask p.sf p.sn p.sn {s0 (min (max f 0) 5000) with next:=0} x).2:=rfl
 generalize hM ask p.sf p.sn p.sn {s0 (min (max f 0) 5000) with next:=0} x=Q1 at *
 generalize hfin:tG ask p (mes x+1) f x=fin at *
 have HR:=zZ hrun
 have HFN:=zZ hfin
 have H60:=zZ h60
 have HQ1:=zZ hq1
 have HM1:=zZ hm1
 have HFR:=zZ hfr
 have HV':=zZ hv
 have HBL:=zZ hbel
 have HF:=zZ hF
 clear hrun h60 hq1 hm1 hfr hv hbel hri hq0 hop hF hfin HV HX HT
 go_wp2_with (go_at_call 54;refine(zY H60).mono ?_;rintro e w1 ⟨rfl,S1,vt1,T1,r1,r2⟩;have R1:=zZ r1;have R2:=zZ r2;clear r1 r2)
 go_loopg [21] (mes x+1) (fun k u wr=>RRel SA ask mes B S wc b pv p fin k wr)
 case atStart=>exact⟨S1,vt1,T1,Q1.1,Q1.2,5000,zY R1,zY R2,(zY HR).symm,zY HQ1,by have:=zY HM0;omega,.inr (by have:=zY HM1;omega)⟩
 case round=>
  obtain⟨S',vt',T',s',x',N',q1,q2,q3,q4,q5,q6⟩:=hrel
  have c66:=(q1.cell 66 (by omega)).trans (by rw [sI])
  by_cases hfi:s'.fin=0
  ·obtain⟨k',rfl⟩ : ∃k',gk=k'+1:=⟨gk-1,by omega⟩
   have hfb:(s'.fin==0)=true:=by simpa using hfi
   have hu:xG ask p (k'+1) s' x'=xG ask p k' (xQ ask p s' x').1 (xQ ask p s' x').2:=by simp only [xG];rw [if_pos hfi]
   have h61:=yK8 L K hp3 hm hs (zY HBE) (pP (zY HBL) (zY HBE) (zY hSB) (zY hBW) q2) q1 (zY HV') ho q4 (by omega)
   have hi:=jJ hs ho x' q4
   have hme:=gB hs p s' x'
   have H61:=zZ h61
   have E:=zZ (q3.symm.trans hu)
   have HI:=zZ hi
   have HME:=zZ hme
   have Q2:=zZ q2
   have hlt:mes x'<k'+1:=by
    rcases q6 with h | h
    ·exact absurd hfi h
    ·exact h
   clear q1 q2 q3 q4 q6 hu h61 hi hme hfi
   generalize s'.fin=fi at *
   go_wp2_with (go_at_call 55;refine(zY H61).mono ?_;rintro e w2 ⟨rfl,S2,vt2,T2,r3,r4⟩;have R3:=zZ r3;have R4:=zZ r4;clear r3 r4)
   go_roundg k'
   case rel=>
    refine⟨S2,vt2,T2,_,_,N'+16,zY R3,(zY Q2).trans (zY R4),(zY E).symm,zY HI,by omega,?_⟩
    rcases zY HME with h | h
    ·exact .inl h
    ·exact .inr (by omega)
   case measure=>omega
  ·have e:(s',x')=fin:=by rw [<-q3,vP p gk s' x' hfi]
   have hfb:(s'.fin==0)=false:=by simpa using hfi
   have c64:=(q1.cell 64 (by omega)).trans (by rw [pG])
   have c18:=(q1.cell 18 (by omega)).trans (by rw [tX _ _ _ 0 (by omega)])
   have c19:=(q1.cell 19 (by omega)).trans (by rw [tX _ _ _ 1 (by omega)])
   have c20:=(q1.cell 20 (by omega)).trans (by rw [tX _ _ _ 2 (by omega)])
   have c21:=(q1.cell 21 (by omega)).trans (by rw [tX _ _ _ 3 (by omega)])
   have c22:=(q1.cell 22 (by omega)).trans (by rw [tC])
   have c65:=(q1.cell 65 (by omega)).trans (by rw [qA])
   have hFb:=(q2.same (w.heap.size+1) hFz hFS).trans (zY HF)
   have g0:wr.cell? ⟨w.heap.size+1,0,none⟩=some (.int .i64 0):=cell_of_row wr (w.heap.size+1) 0 _ 37 (0,0) hFb
   have g1:wr.cell? ⟨w.heap.size+1,1,none⟩=some (.int .i64 0):=cell_of_row wr (w.heap.size+1) 1 _ 37 (0,0) hFb
   have g2:wr.cell? ⟨w.heap.size+1,2,none⟩=some (.int .i64 0):=cell_of_row wr (w.heap.size+1) 2 _ 37 (0,0) hFb
   have g3:wr.cell? ⟨w.heap.size+1,3,none⟩=some (.int .i64 0):=cell_of_row wr (w.heap.size+1) 3 _ 37 (0,0) hFb
   have g4:wr.cell? ⟨w.heap.size+1,4,none⟩=some (.int .i64 0):=cell_of_row wr (w.heap.size+1) 4 _ 37 (0,0) hFb
   have g5:wr.cell? ⟨w.heap.size+1,5,none⟩=some (.int .i64 0):=cell_of_row wr (w.heap.size+1) 5 _ 37 (0,0) hFb
   have g6:wr.cell? ⟨w.heap.size+1,6,none⟩=some (.int .i64 0):=cell_of_row wr (w.heap.size+1) 6 _ 37 (0,0) hFb
   have gz:=fun j=>yB hFb j
   have hneb:w.heap.size+1≠b:=hne
   have hne':b≠w.heap.size+1:=Ne.symm hne
   have Q1':=zZ q1
   have Q2:=zZ q2
   have E:=zZ e
   have HS':Hid (¬S' (w.heap.size+1)):=zZ (fun h=>hFS (q2.old _ hFz h))
   clear q1 q2 q3 q4 q5 q6 e hfi hFb
   generalize hg1:s'.fin=fi at *
   go_wp2
   go_region
   go_wp2
   refine bodyPost_ret (v:=.tuple #[vt',.agg #[.int .i64 fi,.int .i64 (s'.reg 0),.int .i64 (s'.reg 1),.int .i64 (s'.reg 2),.int .i64 (s'.reg 3),.int .i64 s'.clock,.int .i64 s'.heard]]) (by simp [results,Tryz.results29,go_sem,g0,g1,g2,g3,g4,g5,g6]) rfl ?_
   have hS':=zY HS'
   have q1:=zY Q1'
   have q2:=(zY HFR).trans (zY Q2)
   have hle:w.heap.size<=w.heap.size+1:=Nat.le_succ _
   refine⟨vt',s',S',T',b,by rw [hg1],by rw [zY HFN,<-zY E],?_,?_⟩
   ·rw [zY HFN,<-zY E,zY HPV]
    exact(((((((q1.setOther L _ _ hS').setOther L _ _ hS').setOther L _ _ hS').setOther L _ _ hS').setOther L _ _ hS').setOther L _ _ hS').setOther L _ _ hS').drew L
   ·exact(((((((q2.setCell _ _ (.inr hle)).setCell _ _ (.inr hle)).setCell _ _ (.inr hle)).setCell _ _ (.inr hle)).setCell _ _ (.inr hle)).setCell _ _ (.inr hle)).setCell _ _ (.inr hle)).drew
end
end Go.Proofs.YtfmbebofllgmoaaGreatDoor
namespace Go.Proofs.YtfmbebofllgmoaaGreatDoor
open Go.RowKit Go.Sort
section
variable {σ:Type} {ask:σ->Int->Int->Rep×σ}
theorem iU (o:O3) (s:PS) (h7:o.1≠7) (h8:o.1≠8):∃s':PS,s'.heard=s.heard/\s.trace <+: s'.trace/\∀(σ:Type) (ask:σ->Int->Int->Rep×σ) (x:σ),opM ask o s x=(s',x):=by
 by_cases h1:o.1=1
 ·exact⟨{s with reg:=upd s.reg o.2.1.toNat o.2.2},rfl,List.prefix_refl _,fun σ ask x=>by unfold opM;rw [if_pos h1]⟩
 by_cases h2:o.1=2
 ·exact⟨{s with reg:=upd s.reg o.2.1.toNat (wrap64 (s.reg o.2.1.toNat+s.reg o.2.2.toNat))},rfl,List.prefix_refl _,fun σ ask x=>by unfold opM;rw [if_neg h1,if_pos h2]⟩
 by_cases h3:o.1=3
 ·exact⟨{s with armings:=s.armings+1,tim:=upd s.tim o.2.1.toNat (true,s.clock+min (max (s.reg o.2.2.toNat) 0) (1099511627776-s.clock),s.armings+1,o.2.1)},rfl,List.prefix_refl _,fun σ ask x=>by unfold opM;rw [if_neg h1,if_neg h2,if_pos h3]⟩
 by_cases h4:o.1=4
 ·exact⟨{s with tim:=upd s.tim o.2.1.toNat (false,(s.tim o.2.1.toNat).2)},rfl,List.prefix_refl _,fun σ ask x=>by unfold opM;rw [if_neg h1,if_neg h2,if_neg h3,if_pos h4]⟩
 by_cases h5:o.1=5
 ·exact⟨{s with wat:=upd s.wat o.2.1.toNat true},rfl,List.prefix_refl _,fun σ ask x=>by unfold opM;rw [if_neg h1,if_neg h2,if_neg h3,if_neg h4,if_pos h5]⟩
 by_cases h6:o.1=6
 ·exact⟨{s with wat:=upd s.wat o.2.1.toNat false},rfl,List.prefix_refl _,fun σ ask x=>by unfold opM;rw [if_neg h1,if_neg h2,if_neg h3,if_neg h4,if_neg h5,if_pos h6]⟩
 by_cases h9:o.1=9
 ·exact⟨{s with trace:=s.trace++[(3,o.2.1,s.reg o.2.1.toNat)]},rfl,List.prefix_append _ _,fun σ ask x=>by unfold opM;rw [if_neg h1,if_neg h2,if_neg h3,if_neg h4,if_neg h5,if_neg h6,if_neg h7,if_neg h8,if_pos h9]⟩
 by_cases h10:o.1=10
 ·refine⟨if s.reg o.2.1.toNat=o.2.2 then {s with next:=s.next+1} else s,?_,?_,fun σ ask x=>by unfold opM;rw [if_neg h1,if_neg h2,if_neg h3,if_neg h4,if_neg h5,if_neg h6,if_neg h7,if_neg h8,if_neg h9,if_pos h10]⟩
  ·split<;>rfl
  ·split<;>exact List.prefix_refl _
 ·exact⟨{s with fin:=1},rfl,List.prefix_refl _,fun σ ask x=>by unfold opM;rw [if_neg h1,if_neg h2,if_neg h3,if_neg h4,if_neg h5,if_neg h6,if_neg h7,if_neg h8,if_neg h9,if_neg h10]⟩
def nowS (s:PS) (i:Nat) (R:Rep):PS:=if ckB s R then {ckS s R with reg:=upd (ckS s R).reg i (ckS s R).clock} else ckS s R
theorem fR (o:O3) (s:PS) (x:σ) (h:o.1=7):opM ask o s x=(nowS s o.2.1.toNat (ask x 1 0).1,(ask x 1 0).2):=by
 unfold opM nowS;rw [h];simp
theorem fQ (o:O3) (s:PS) (x:σ) (h:o.1=8):opM ask o s x=(pT s (ask x 4 o.2.2).1 o.2.1.toNat,(ask x 4 o.2.2).2):=by
 unfold opM;rw [h];simp
structure zQ6 (s:PS) (A:Rep->PS):Prop where
 stop:∀R,R.e≠0->A R={s with fin:=R.e}
 heard:∀R,R.e=0->(A R).heard=wrap64 (s.heard+1)
 trace:∀R,(A R).trace=s.trace
theorem oA (s:PS):zQ6 s (ckS s):=by
 refine⟨fun R h=>?_,fun R h=>?_,fun R=>?_⟩
 ·unfold ckS;rw [if_neg h]
 ·unfold ckS;rw [if_pos h];split<;>rfl
 ·unfold ckS;split
  ·split<;>rfl
  ·rfl
theorem aK (s:PS) (i:Nat):zQ6 s (nowS s i):=by
 have h0:=oA s
 refine⟨fun R h=>?_,fun R h=>?_,fun R=>?_⟩
 ·have:ckB s R=false:=by unfold ckB;simp [h]
  unfold nowS;rw [this];exact h0.stop R h
 ·unfold nowS;split
  ·exact h0.heard R h
  ·exact h0.heard R h
 ·unfold nowS;split
  ·exact h0.trace R
  ·exact h0.trace R
theorem aJ (s:PS) (i:Nat):zQ6 s (fun R=>pT s R i):=by
 refine⟨fun R h=>?_,fun R h=>?_,fun R=>?_⟩
 ·simp only [pT];rw [if_neg h]
 ·simp only [pT];rw [if_pos h]
 ·simp only [pT];split<;>rfl
/-! ### The trace only grows;a run that has ended stays -/
theorem opM_tr (o:O3) (s:PS) (x:σ):s.trace <+: (opM ask o s x).1.trace:=by
 by_cases h7:o.1=7
 ·rw [fR o s x h7];exact((aK s _).trace _)▸List.prefix_refl _
 by_cases h8:o.1=8
 ·rw [fQ o s x h8];exact((aJ s _).trace _)▸List.prefix_refl _
 obtain⟨s',_,h,e⟩:=iU o s h7 h8
 rw [e];exact h
theorem zS0 {f:Nat->O3} {n:Nat}:∀(k:Nat) (s:PS) (x:σ),s.trace <+: (hM ask f n k s x).1.trace
 | 0,_,_=>List.prefix_refl _
 | k+1,s,x=>by
  unfold hM
  refine yE (P:=fun q:PS×σ=>s.trace <+: q.1.trace) (yE (P:=fun q:PS×σ=>s.trace <+: q.1.trace) (List.prefix_refl _) ?_) (List.prefix_refl _)
  exact List.IsPrefix.trans (opM_tr (ask:=ask) (f s.next.toNat) {s with fuel:=s.fuel-1,next:=s.next+1} x) (zS0 k _ _)
theorem zR8 {f:Nat->O3} {n:Nat} (k:Nat) (s:PS) (x:σ) (h:s.fin≠0):hM ask f n k s x=(s,x):=by
 cases k with
 | zero=>rfl
 | succ k=>unfold hM;rw [if_neg (fun c=>h c.2)]
theorem gT_tr (p:Pg) (z:Int) (s:PS) (x:σ):s.trace <+: (gT ask p z s x).1.trace:=zS0 (ask:=ask) _ {s with next:=0} x
theorem gF_tr (p:Pg) (z:Int) (s:PS) (x:σ):s.trace <+: (gF ask p z s x).1.trace:=zS0 (ask:=ask) _ {s with next:=0} x
theorem eX (p:Pg):∀(l:List TM) (s:PS) (x:σ),s.trace <+: (frM (gT ask p) l s x).1.trace
 | [],_,_=>List.prefix_refl _
 | t::r,s,x=>by
  unfold frM
  refine yE (P:=fun q:PS×σ=>s.trace <+: q.1.trace) (List.prefix_refl _) (yE (P:=fun q:PS×σ=>s.trace <+: q.1.trace) ?_ (eX p r s x))
  exact List.IsPrefix.trans (List.IsPrefix.trans (List.prefix_append _ _) (gT_tr p _ (pD s t.2.2.2) x)) (eX p r _ _)
theorem zF2 (g:Int->PS->σ->PS×σ) (l:List TM) (s:PS) (x:σ) (h:s.fin≠0):frM g l s x=(s,x):=by
 cases l with
 | nil=>rfl
 | cons t r=>unfold frM;rw [if_pos h]
theorem yL4 (p:Pg) (z:Int) (s:PS) (x:σ):s.trace <+: (wk1 (gF ask p) z s x).1.trace:=by
 unfold wk1
 refine yE (P:=fun q:PS×σ=>s.trace <+: q.1.trace) ?_ (List.prefix_refl _)
 exact List.IsPrefix.trans (List.prefix_append _ _) (gF_tr p z {s with trace:=s.trace++[(2,z,0)]} x)
theorem gD (p:Pg):∀(k:Nat) (l:List Int) (s:PS) (x:σ),s.trace <+: (wkM ask (gF ask p) k l s x).1.trace
 | 0,_,_,_=>List.prefix_refl _
 | k+1,l,s,x=>by
  have h1:=(fS (ask:=ask) l.length s x).2.2.2.1
  unfold wkM
  refine yE (P:=fun q:PS×σ=>s.trace <+: q.1.trace) (List.prefix_refl _) (yE (P:=fun q:PS×σ=>s.trace <+: q.1.trace) ?_ ?_)
  ·refine List.IsPrefix.trans ?_ (gD p k _ _ _)
   have:=yL4 (ask:=ask) p (l.getD (pk ask l.length s x).1.toNat 0) (pk ask l.length s x).2.2.1 (pk ask l.length s x).2.2.2
   rwa [h1] at this
  ·show s.trace <+: (pk ask l.length s x).2.2.1.trace
   rw [h1];exact List.prefix_refl _
theorem iJ (g:Int->PS->σ->PS×σ) (k:Nat) (l:List Int) (s:PS) (x:σ) (h:s.fin≠0):wkM ask g k l s x=(s,x):=by
 cases k with
 | zero=>rfl
 | succ k=>unfold wkM;rw [if_pos (.inr h)]
theorem zJ1 (p:Pg) (s:PS) (x:σ):s.trace <+: (sF ask p s x).1.trace:=by
 unfold sF
 exact yE (P:=fun q:PS×σ=>s.trace <+: q.1.trace) (gD (ask:=ask) p 8 _ {s with heard:=wrap64 (s.heard+1)} _) (List.prefix_refl _)
theorem yK7 (p:Pg) (s:PS) (x:σ):s.trace <+: (xQ ask p s x).1.trace:=by
 have h0:=(oA s).trace (ask x 1 0).1
 have h1:=eX (ask:=ask) p (vB (ckS s (ask x 1 0).1)) (ckS s (ask x 1 0).1) (ask x 1 0).2
 rw [h0] at h1
 unfold xQ
 refine yE (P:=fun q:PS×σ=>s.trace <+: q.1.trace) (List.prefix_refl _) (yE (P:=fun q:PS×σ=>s.trace <+: q.1.trace) (yE (P:=fun q:PS×σ=>s.trace <+: q.1.trace) (List.IsPrefix.trans h1 (zJ1 p _ _)) h1) ?_)
 show s.trace <+: (ckS s (ask x 1 0).1).trace
 rw [h0];exact List.prefix_refl _
theorem gC (p:Pg):∀(k:Nat) (s:PS) (x:σ),s.trace <+: (xG ask p k s x).1.trace
 | 0,_,_=>List.prefix_refl _
 | k+1,s,x=>by
  unfold xG
  exact yE (P:=fun q:PS×σ=>s.trace <+: q.1.trace) (List.IsPrefix.trans (yK7 p s x) (gC p k _ _)) (List.prefix_refl _)
/-! ### What holds of the source behind a run held of it ahead -/
section
variable {G:σ->Prop}
theorem yH9 (hG:∀x k o,G (ask x k o).2->G x) (o:O3) (s:PS) (x:σ) (h:G (opM ask o s x).2):G x:=by
 by_cases h7:o.1=7
 ·rw [fR o s x h7] at h;exact hG _ _ _ h
 by_cases h8:o.1=8
 ·rw [fQ o s x h8] at h;exact hG _ _ _ h
 obtain⟨s',_,_,e⟩:=iU o s h7 h8
 rwa [e] at h
theorem fO (hG:∀x k o,G (ask x k o).2->G x) {f:Nat->O3} {n:Nat}:∀(k:Nat) (s:PS) (x:σ),G (hM ask f n k s x).2->G x
 | 0,_,_,h=>h
 | k+1,s,x,h=>by
  unfold hM at h
  by_cases hc:s.next<n/\s.fin=0
  ·rw [if_pos hc] at h
   by_cases hf:s.fuel=0
   ·rw [if_pos hf] at h;exact h
   ·rw [if_neg hf] at h;exact yH9 hG _ _ _ (fO hG k _ _ h)
  ·rw [if_neg hc] at h;exact h
theorem nE (hG:∀x k o,G (ask x k o).2->G x) (p:Pg):∀(l:List TM) (s:PS) (x:σ),G (frM (gT ask p) l s x).2->G x
 | [],_,_,h=>h
 | t::r,s,x,h=>by
  unfold frM at h
  by_cases hc:s.fin≠0
  ·rw [if_pos hc] at h;exact h
  ·rw [if_neg hc] at h
   by_cases ht:s.tim t.2.2.2.toNat=t
   ·rw [if_pos ht] at h;exact fO hG _ _ _ (nE hG p r _ _ h)
   ·rw [if_neg ht] at h;exact nE hG p r _ _ h
theorem zJ2 (hG:∀x k o,G (ask x k o).2->G x) (p:Pg) (z:Int) (s:PS) (x:σ) (h:G (wk1 (gF ask p) z s x).2):G x:=by
 unfold wk1 at h
 by_cases hw:s.wat z.toNat=true
 ·rw [if_pos hw] at h;exact fO hG _ _ _ h
 ·rw [if_neg hw] at h;exact h
theorem zS3 (hG:∀x k o,G (ask x k o).2->G x) (n:Nat) (s:PS) (x:σ) (h:G (pk ask n s x).2.2.2):G x:=by
 unfold pk at h
 by_cases hn:n=1
 ·rw [if_pos hn] at h;exact h
 ·rw [if_neg hn] at h;exact hG _ _ _ h
theorem nN (hG:∀x k o,G (ask x k o).2->G x) (p:Pg):∀(k:Nat) (l:List Int) (s:PS) (x:σ),G (wkM ask (gF ask p) k l s x).2->G x
 | 0,_,_,_,h=>h
 | k+1,l,s,x,h=>by
  unfold wkM at h
  by_cases hc:l=[]\/s.fin≠0
  ·rw [if_pos hc] at h;exact h
  ·rw [if_neg hc] at h
   by_cases hp:(pk ask l.length s x).2.1=true
   ·rw [if_pos hp] at h;exact zS3 hG _ _ _ (zJ2 hG p _ _ _ (nN hG p k _ _ _ h))
   ·rw [if_neg hp] at h;exact zS3 hG _ _ _ h
theorem cU (hG:∀x k o,G (ask x k o).2->G x) (p:Pg) (s:PS) (x:σ) (h:G (sF ask p s x).2):G x:=by
 unfold sF at h
 by_cases hc:(ask x 2 0).1.e=0
 ·rw [if_pos hc] at h;exact hG _ _ _ (nN hG p _ _ _ _ h)
 ·rw [if_neg hc] at h;exact hG _ _ _ h
theorem zP7 (hG:∀x k o,G (ask x k o).2->G x) (p:Pg) (s:PS) (x:σ) (h:G (xQ ask p s x).2):G x:=by
 unfold xQ at h
 by_cases hi:qV s=true
 ·rw [if_pos hi] at h;exact h
 rw [if_neg hi] at h
 by_cases hc:ckB s (ask x 1 0).1=true
 ·rw [if_pos hc] at h
  by_cases hf:(frM (gT ask p) (vB (ckS s (ask x 1 0).1)) (ckS s (ask x 1 0).1) (ask x 1 0).2).1.fin=0
  ·rw [if_pos hf] at h;exact hG _ _ _ (nE hG p _ _ _ (cU hG p _ _ h))
  ·rw [if_neg hf] at h;exact hG _ _ _ (nE hG p _ _ _ h)
 ·rw [if_neg hc] at h;exact hG _ _ _ h
theorem lQ (hG:∀x k o,G (ask x k o).2->G x) (p:Pg):∀(k:Nat) (s:PS) (x:σ),G (xG ask p k s x).2->G x
 | 0,_,_,h=>h
 | k+1,s,x,h=>by
  unfold xG at h
  by_cases hc:s.fin=0
  ·rw [if_pos hc] at h;exact zP7 hG p _ _ (lQ hG p k _ _ h)
  ·rw [if_neg hc] at h;exact h
end
end
section
variable {σ τ:Type} {ask1:σ->Int->Int->Rep×σ} {ask2:τ->Int->Int->Rep×τ} {may:Int->Int->Prop} {G:σ->Prop} {Q:Int->σ->τ->Prop} {Z:Int->Int->σ->τ->Prop} {P:PS->PS->Prop}
structure oH (ask1:σ->Int->Int->Rep×σ) (ask2:τ->Int->Int->Rep×τ) (may:Int->Int->Prop) (G:σ->Prop) (Q:Int->σ->τ->Prop) (Z:Int->Int->σ->τ->Prop) (P:PS->PS->Prop):Prop where
 back:∀x k o,G (ask1 x k o).2->G x
 step:∀h x y k o,may k o->Q h x y->G (ask1 x k o).2->
  ((ask1 x k o).1=(ask2 y k o).1/\((ask1 x k o).1.e=0->Q (wrap64 (h+1)) (ask1 x k o).2 (ask2 y k o).2)/\((ask1 x k o).1.e≠0->Z (ask1 x k o).1.e h (ask1 x k o).2 (ask2 y k o).2))\/
  ((
    ask2 y k o).1.e≠0/\∀s:PS,s.heard=h->s.fin=0->((ask1 x k o).1.e≠0->P {s with fin:=(ask1 x k o).1.e} {s with fin:=(ask2 y k o).1.e})/\
    ((ask1 x k o).1.e=0->∀s':PS,s.trace <+: s'.trace->P s' {s with fin:=(ask2 y k o).1.e}))
 grow:∀s s' t:PS,P s t->s.fin=0->s.trace <+: s'.trace->P s' t
def Rl (Q:Int->σ->τ->Prop) (Z:Int->Int->σ->τ->Prop) (P:PS->PS->Prop) (r1:PS×σ) (r2:PS×τ):Prop:=(r1.1=r2.1/\(Q r1.1.heard r1.2 r2.2\/(r1.1.fin≠0/\Z r1.1.fin r1.1.heard r1.2 r2.2)))\/(r2.1.fin≠0/\P r1.1 r2.1)
theorem Rl.sync {r1:PS×σ} {r2:PS×τ} (e:r1.1=r2.1) (q:Q r1.1.heard r1.2 r2.2):Rl Q Z P r1 r2:=.inl ⟨e,.inl q⟩
theorem Rl.bind (A:oH ask1 ask2 may G Q Z P) {r1:PS×σ} {r2:PS×τ} (h:Rl Q Z P r1 r2) {F1:PS->σ->PS×σ} {F2:PS->τ->PS×τ} (h1:∀s x,s.fin≠0->F1 s x=(s,x)) (h2:∀s x,s.fin≠0->F2 s x=(s,x))
  (ht:∀s x,s.trace <+: (F1 s x).1.trace) (hs:r1.1.fin=0->Q r1.1.heard r1.2 r2.2->Rl Q Z P (F1 r1.1 r1.2) (F2 r1.1 r2.2)):Rl Q Z P (F1 r1.1 r1.2) (F2 r2.1 r2.2):=by
 rcases h with ⟨e,q⟩ | ⟨e,p⟩
 ·rw [<-e]
  by_cases h0:r1.1.fin=0
  ·rcases q with q | ⟨q,_⟩
   ·exact hs h0 q
   ·exact absurd h0 q
  ·rw [h1 _ _ h0,h2 _ _ h0];exact .inl ⟨rfl,q⟩
 ·rw [h2 _ _ e]
  by_cases h0:r1.1.fin=0
  ·exact .inr ⟨e,A.grow _ _ _ p h0 (ht _ _)⟩
  ·rw [h1 _ _ h0];exact .inr ⟨e,p⟩
theorem jL (A:oH ask1 ask2 may G Q Z P) {s:PS} {x:σ} {y:τ} {k o:Int} (hm:may k o) (hq:Q s.heard x y) (h0:s.fin=0) (K1:Rep->σ->PS×σ) (K2:Rep->τ->PS×τ)
  (h1:∀R x,R.e≠0->K1 R x=({s with fin:=R.e},x)) (h2:∀R x,R.e≠0->K2 R x=({s with fin:=R.e},x)) (ht:∀R x,s.trace <+: (K1 R x).1.trace) (hb:∀R x,G (K1 R x).2->G x)
  (hs:∀R x' y',R=(ask1 x k o).1->R.e=0->Q (wrap64 (s.heard+1)) x' y'->G (K1 R x').2->Rl Q Z P (K1 R x') (K2 R y')) (hg:G (K1 (ask1 x k o).1 (ask1 x k o).2).2) :
  Rl Q Z P (K1 (ask1 x k o).1 (ask1 x k o).2) (K2 (ask2 y k o).1 (ask2 y k o).2):=by
 rcases A.step s.heard x y k o hm hq (hb _ _ hg) with ⟨e,q0,q1⟩ | ⟨e,p⟩
 ·rw [<-e]
  by_cases he:(ask1 x k o).1.e=0
  ·exact hs _ _ _ rfl he (q0 he) hg
  ·rw [h1 _ _ he,h2 _ _ he];exact .inl ⟨rfl,.inr ⟨he,q1 he⟩⟩
 ·obtain⟨p1,p0⟩:=p s rfl h0
  rw [h2 _ _ e]
  refine .inr ⟨e,?_⟩
  by_cases he:(ask1 x k o).1.e=0
  ·exact p0 he _ (ht _ _)
  ·rw [h1 _ _ he];exact p1 he
theorem zQ8 (A:oH ask1 ask2 may G Q Z P) {s:PS} {x:σ} {y:τ} {k o:Int} (hm:may k o) (hq:Q s.heard x y) (h0:s.fin=0) {B:Rep->PS} (hB:zQ6 s B) (hg:G (ask1 x k o).2) :
  Rl Q Z P (B (ask1 x k o).1,(ask1 x k o).2) (B (ask2 y k o).1,(ask2 y k o).2):=
 jL A hm hq h0 (fun R x=>(B R,x)) (fun R x=>(B R,x)) (fun R x h=>by rw [hB.stop R h]) (fun R x h=>by rw [hB.stop R h]) (fun R x=>by rw [hB.trace R];exact List.prefix_refl _) (fun R x h=>h)
  (fun R x' y' _ he q _=>Rl.sync rfl (by show Q (B R).heard x' y';rw [hB.heard R he];exact q)) hg
theorem yP4 (A:oH ask1 ask2 may G Q Z P) (hm:oJ may) {nt nf:Nat} (o:O3) {s:PS} {x:σ} {y:τ} (hr:rt o nt nf=true) (hq:Q s.heard x y) (h0:s.fin=0) (hg:G (opM ask1 o s x).2):Rl Q Z P (opM ask1 o s x) (opM ask2 o s y):=by
 by_cases h7:o.1=7
 ·rw [fR o s x h7] at hg ⊢
  rw [fR o s y h7]
  exact zQ8 A hm.clock hq h0 (aK s _) hg
 by_cases h8:o.1=8
 ·rw [fQ o s x h8] at hg ⊢
  rw [fQ o s y h8]
  have hr':yT 8 o.2.1 o.2.2 nt nf=true:=by rw [<-h8];exact hr
  obtain⟨q1,q2⟩:=iZ hr'
  exact zQ8 A (hm.lot _ q1 q2) hq h0 (aJ s _) hg
 obtain⟨s',hh,_,e⟩:=iU o s h7 h8
 rw [e,e]
 exact Rl.sync rfl (by show Q s'.heard x y;rw [hh];exact hq)
theorem zA3 (A:oH ask1 ask2 may G Q Z P) (hm:oJ may) {nt nf n:Nat} {f:Nat->O3} (hr:∀i,i<n->rt (f i) nt nf=true):∀(k:Nat) {s:PS} {x:σ} {y:τ},0<=s.next->Q s.heard x y->G (hM ask1 f n k s x).2->Rl Q Z P (hM ask1 f n k s x) (hM ask2 f n k s y)
 | 0,s,x,y,_,hq,_=>Rl.sync rfl hq
 | k+1,s,x,y,hn,hq,hg=>by
  unfold hM at hg ⊢
  by_cases hc:s.next<n/\s.fin=0
  ·rw [if_pos hc] at hg ⊢
   rw [if_pos hc]
   by_cases hf:s.fuel=0
   ·rw [if_pos hf] at hg ⊢
    rw [if_pos hf]
    exact Rl.sync rfl hq
   ·rw [if_neg hf] at hg ⊢
    rw [if_neg hf]
    have hg1:=fO A.back k _ _ hg
    have h1:=yP4 A hm (f s.next.toNat) (s:={s with fuel:=s.fuel-1,next:=s.next+1}) (hr s.next.toNat (by omega)) hq hc.2 hg1
    have hnx:=iA (ask:=ask1) (f s.next.toNat) {s with fuel:=s.fuel-1,next:=s.next+1} x
    exact h1.bind A (fun s x h=>zR8 k s x h) (fun s x h=>zR8 k s x h) (fun s x=>zS0 k s x) (fun _ q=>zA3 A hm hr k (by simp only at hnx;omega) q hg)
  ·rw [if_neg hc] at hg ⊢
   rw [if_neg hc]
   exact Rl.sync rfl hq
theorem zA0 (A:oH ask1 ask2 may G Q Z P) (hm:oJ may) {p:Pg} (hp:sM p):∀(l:List TM) {s:PS} {x:σ} {y:τ},(∀t,t∈l->0<=t.2.2.2/\t.2.2.2<p.tn)->Q s.heard x y->G (frM (gT ask1 p) l s x).2->Rl Q Z P (frM (gT ask1 p) l s x) (frM (gT ask2 p) l s y)
 | [],s,x,y,_,hq,_=>Rl.sync rfl hq
 | t::r,s,x,y,hl,hq,hg=>by
  have hr:=fun t ht=>hl t (List.mem_cons_of_mem _ ht)
  have h1:=hl t (List.mem_cons_self ..)
  unfold frM at hg ⊢
  by_cases hc:s.fin≠0
  ·rw [if_pos hc,if_pos hc];exact Rl.sync rfl hq
  ·rw [if_neg hc] at hg ⊢
   rw [if_neg hc]
   by_cases ht:s.tim t.2.2.2.toNat=t
   ·rw [if_pos ht] at hg ⊢
    rw [if_pos ht]
    have hg1:=nE A.back p r _ _ hg
    have h2:Rl Q Z P (gT ask1 p t.2.2.2 (pD s t.2.2.2) x) (gT ask2 p t.2.2.2 (pD s t.2.2.2) y):=zA3 A hm (hp.tr t.2.2.2.toNat (by omega)) _ (s:={pD s t.2.2.2 with next:=0}) (Int.le_refl 0) hq hg1
    exact h2.bind A (fun s x h=>zF2 _ r s x h) (fun s x h=>zF2 _ r s x h) (fun s x=>eX p r s x) (fun _ q=>zA0 A hm hp r hr q hg)
   ·rw [if_neg ht] at hg ⊢
    rw [if_neg ht]
    exact zA0 A hm hp r hr hq hg
theorem zU1 (A:oH ask1 ask2 may G Q Z P) (hm:oJ may) {p:Pg} (hp:sM p) (z:Int) {s:PS} {x:σ} {y:τ} (hw:vZ p.tn p.fn s) (hq:Q s.heard x y) (hg:G (wk1 (gF ask1 p) z s x).2):Rl Q Z P (wk1 (gF ask1 p) z s x) (wk1 (gF ask2 p) z s y):=by
 unfold wk1 at hg ⊢
 by_cases h:s.wat z.toNat=true
 ·rw [if_pos h] at hg ⊢
  rw [if_pos h]
  exact zA3 A hm (hp.fr z.toNat (hw.wat _ h)) _ (s:={s with trace:=s.trace++[(2,z,0)],next:=0}) (Int.le_refl 0) hq hg
 ·rw [if_neg h,if_neg h];exact Rl.sync rfl hq
theorem cY {p:Pg} (hp:sM p) {ask:σ->Int->Int->Rep×σ} (z:Int) {s:PS} (x:σ) (hw:vZ p.tn p.fn s):vZ p.tn p.fn (wk1 (gF ask p) z s x).1:=by
 unfold wk1
 by_cases h:s.wat z.toNat=true
 ·rw [if_pos h];exact mF (hp.fr z.toNat (hw.wat _ h)) _ _ _ (Int.le_refl 0) (hw.of rfl rfl rfl)
 ·rw [if_neg h];exact hw
def pkK (g:Int->PS->σ->PS×σ) (ask:σ->Int->Int->Rep×σ) (k:Nat) (l:List Int) (s:PS) (R:Rep) (x:σ):PS×σ:=
 if R.e=0 then wkM ask g k (l.eraseIdx R.n.toNat) (wk1 g (l.getD R.n.toNat 0) {s with heard:=wrap64 (s.heard+1)} x).1 (wk1 g (l.getD R.n.toNat 0) {s with heard:=wrap64 (s.heard+1)} x).2 else ({s with fin:=R.e},x)
theorem zU4 (ask:σ->Int->Int->Rep×σ) (g:Int->PS->σ->PS×σ) (k:Nat) (l:List Int) (s:PS) (x:σ) (h:l.length=1) (h0:s.fin=0):wkM ask g (k+1) l s x=wkM ask g k (l.eraseIdx 0) (wk1 g (l.getD 0 0) s x).1 (wk1 g (l.getD 0 0) s x).2:=by
 have hl:¬(l=[]\/s.fin≠0):=by
   rintro (h' | h');· rw [h'] at h;simp at h
   ·exact h' h0
 simp only [wkM]
 rw [if_neg hl]
 simp only [pk,h,if_true,Int.toNat_zero]
theorem zJ3 (ask:σ->Int->Int->Rep×σ) (g:Int->PS->σ->PS×σ) (k:Nat) (l:List Int) (s:PS) (x:σ) (h:2<=l.length) (h0:s.fin=0):wkM ask g (k+1) l s x=pkK g ask k l s (ask x 3 l.length).1 (ask x 3 l.length).2:=by
 have hl:¬(l=[]\/s.fin≠0):=by
   rintro (h' | h');· rw [h'] at h;simp at h
   ·exact h' h0
 have h1:¬l.length=1:=by omega
 simp only [wkM]
 rw [if_neg hl]
 simp only [pk,h1,if_false,pkK,hdS]
 by_cases he:(ask x 3 l.length).1.e=0
 ·simp only [he,decide_true,if_true]
 ·simp only [he,decide_false,if_false,Bool.false_eq_true]
theorem zC8 (A:oH ask1 ask2 may G Q Z P) (hm:oJ may) {p:Pg} (hp:sM p):∀(k:Nat) (l:List Int) {s:PS} {x:σ} {y:τ},l.length<=8->vZ p.tn p.fn s->Q s.heard x y->G (wkM ask1 (gF ask1 p) k l s x).2->Rl Q Z P (wkM ask1 (gF ask1 p) k l s x) (wkM ask2 (gF ask2 p) k l s y)
 | 0,l,s,x,y,_,_,hq,_=>Rl.sync rfl hq
 | k+1,l,s,x,y,hl,hw,hq,hg=>by
  by_cases hc:l=[]\/s.fin≠0
  ·unfold wkM
   rw [if_pos hc,if_pos hc];exact Rl.sync rfl hq
  have h0:s.fin=0:=Decidable.byContradiction fun h=>hc (.inr h)
  have hne:l≠[]:=fun h=>hc (.inl h)
  have hpos:0<l.length:=List.length_pos_iff.2 hne
  by_cases h1:l.length=1
  ·rw [zU4 ask1 _ k l s x h1 h0] at hg ⊢
   rw [zU4 ask2 _ k l s y h1 h0]
   have hg1:=nN A.back p k _ _ _ hg
   have hw1:=cY hp (ask:=ask1) (l.getD 0 0) x hw
   have hle:(l.eraseIdx 0).length<=8:=Nat.le_trans (List.length_eraseIdx_le _ _) hl
   exact(zU1 A hm hp _ hw hq hg1).bind A (fun s x h=>iJ _ k _ s x h) (fun s x h=>iJ _ k _ s x h) (fun s x=>gD p k _ s x) (fun _ q=>zC8 A hm hp k _ hle hw1 q hg)
  ·rw [zJ3 ask1 _ k l s x (by omega) h0] at hg ⊢
   rw [zJ3 ask2 _ k l s y (by omega) h0]
   refine jL A (hm.pick l.length (by omega) hl) hq h0 (pkK (gF ask1 p) ask1 k l s) (pkK (gF ask2 p) ask2 k l s) (fun R x h=>by unfold pkK;rw [if_neg h]) (fun R x h=>by unfold pkK;rw [if_neg h]) ?_ ?_ ?_ hg
   ·intro R x
    unfold pkK
    exact yE (P:=fun q:PS×σ=>s.trace <+: q.1.trace) (List.IsPrefix.trans (yL4 (ask:=ask1) p (l.getD R.n.toNat 0) {s with heard:=wrap64 (s.heard+1)} x) (gD p k _ _ _)) (List.prefix_refl _)
   ·intro R x h
    unfold pkK at h
    by_cases he:R.e=0
    ·rw [if_pos he] at h;exact zJ2 A.back p _ _ _ (nN A.back p k _ _ _ h)
    ·rw [if_neg he] at h;exact h
   ·intro R x' y' _ he hq' hg'
    unfold pkK at hg' ⊢
    rw [if_pos he] at hg' ⊢
    rw [if_pos he]
    have hw0:vZ p.tn p.fn {s with heard:=wrap64 (s.heard+1)}:=hw.of rfl rfl rfl
    have hg1:=nN A.back p k _ _ _ hg'
    have hw1:=cY hp (ask:=ask1) (l.getD R.n.toNat 0) x' hw0
    have hle:(l.eraseIdx R.n.toNat).length<=8:=Nat.le_trans (List.length_eraseIdx_le _ _) hl
    exact(zU1 A hm hp _ hw0 hq' hg1).bind A (fun s x h=>iJ _ k _ s x h) (fun s x h=>iJ _ k _ s x h) (fun s x=>gD p k _ s x) (fun _ q=>zC8 A hm hp k _ hle hw1 q hg')
def zJ6 (ask1:σ->Int->Int->Rep×σ):Prop:=∀x,(ask1 x 2 0).1.files.length<=8
def cT (ask:σ->Int->Int->Rep×σ) (p:Pg) (s:PS) (R:Rep) (x:σ):PS×σ:=
 if R.e=0 then wkM ask (gF ask p) 8 (R.files.filter fun z=>s.wat z.toNat) {s with heard:=wrap64 (s.heard+1)} x else ({s with fin:=R.e},x)
theorem yB9 (A:oH ask1 ask2 may G Q Z P) (hm:oJ may) (hM8:zJ6 ask1) {p:Pg} (hp:sM p) {s:PS} {x:σ} {y:τ} (hw:vZ p.tn p.fn s) (h0:s.fin=0) (hq:Q s.heard x y) (hg:G (sF ask1 p s x).2):Rl Q Z P (sF ask1 p s x) (sF ask2 p s y):=by
 refine jL A hm.batch hq h0 (cT ask1 p s) (cT ask2 p s) (fun R x h=>by unfold cT;rw [if_neg h]) (fun R x h=>by unfold cT;rw [if_neg h]) ?_ ?_ ?_ hg
 ·intro R x
  unfold cT
  exact yE (P:=fun q:PS×σ=>s.trace <+: q.1.trace) (gD (ask:=ask1) p 8 _ {s with heard:=wrap64 (s.heard+1)} _) (List.prefix_refl _)
 ·intro R x h
  unfold cT at h
  by_cases he:R.e=0
  ·rw [if_pos he] at h;exact nN A.back p _ _ _ _ h
  ·rw [if_neg he] at h;exact h
 ·intro R x' y' hR he hq' hg'
  unfold cT at hg' ⊢
  rw [if_pos he] at hg' ⊢
  rw [if_pos he]
  exact zC8 A hm hp 8 _ (Nat.le_trans (List.length_filter_le _ _) (hR▸hM8 x)) (hw.of rfl rfl rfl) hq' hg'
theorem lX {ask:σ->Int->Int->Rep×σ} {p:Pg} (hp:sM p):∀(l:List TM) (s:PS) (x:σ),(∀t,t∈l->0<=t.2.2.2/\t.2.2.2<p.tn)->vZ p.tn p.fn s->vZ p.tn p.fn (frM (gT ask p) l s x).1
 | [],_,_,_,h=>h
 | t::r,s,x,hl,h=>by
  have h1:=hl t (List.mem_cons_self ..)
  have hr:=fun t ht=>hl t (List.mem_cons_of_mem _ ht)
  unfold frM
  refine yE (P:=fun q:PS×σ=>vZ p.tn p.fn q.1) h (yE (P:=fun q:PS×σ=>vZ p.tn p.fn q.1) ?_ (lX hp r s x hr h))
  exact lX hp r _ _ hr (mF (hp.tr t.2.2.2.toNat (by omega)) _ _ _ (Int.le_refl 0) ((eY t.2.2.2 h).of rfl rfl rfl))
def kT (ask:σ->Int->Int->Rep×σ) (p:Pg) (s:PS) (x:σ):PS×σ:=if s.fin=0 then sF ask p s x else (s,x)
def lP (ask:σ->Int->Int->Rep×σ) (p:Pg) (s:PS) (R:Rep) (x:σ):PS×σ:=
 if ckB s R then kT ask p (frM (gT ask p) (vB (ckS s R)) (ckS s R) x).1 (frM (gT ask p) (vB (ckS s R)) (ckS s R) x).2 else (ckS s R,x)
theorem yB4 (A:oH ask1 ask2 may G Q Z P) (hm:oJ may) (hM8:zJ6 ask1) {p:Pg} (hp:sM p) {s:PS} {x:σ} {y:τ} (hw:vZ p.tn p.fn s) (h0:s.fin=0) (hq:Q s.heard x y) (hg:G (xQ ask1 p s x).2):Rl Q Z P (xQ ask1 p s x) (xQ ask2 p s y):=by
 by_cases hi:qV s=true
 ·unfold xQ
  rw [if_pos hi,if_pos hi];exact Rl.sync rfl hq
 have e1:xQ ask1 p s x=lP ask1 p s (ask1 x 1 0).1 (ask1 x 1 0).2:=by unfold xQ lP kT;rw [if_neg hi]
 have e2:xQ ask2 p s y=lP ask2 p s (ask2 y 1 0).1 (ask2 y 1 0).2:=by unfold xQ lP kT;rw [if_neg hi]
 have ht:∀s x,s.trace <+: (kT ask1 p s x).1.trace:=fun s x=>by
  unfold kT;exact yE (P:=fun q:PS×σ=>s.trace <+: q.1.trace) (zJ1 p s x) (List.prefix_refl _)
 have hb:∀s x,G (kT ask1 p s x).2->G x:=fun s x h=>by
  unfold kT at h
  by_cases h0:s.fin=0
  ·rw [if_pos h0] at h;exact cU A.back p s x h
  ·rw [if_neg h0] at h;exact h
 rw [e1] at hg ⊢
 rw [e2]
 have hno:∀R:Rep,R.e≠0->ckB s R=false:=fun R h=>by unfold ckB;simp [h]
 refine jL A hm.clock hq h0 (lP ask1 p s) (lP ask2 p s) (fun R x h=>?_) (fun R x h=>?_) ?_ ?_ ?_ hg
 ·unfold lP;rw [hno R h,(oA s).stop R h];rfl
 ·unfold lP;rw [hno R h,(oA s).stop R h];rfl
 ·intro R x
  have h1:=eX (ask:=ask1) p (vB (ckS s R)) (ckS s R) x
  rw [(oA s).trace R] at h1
  unfold lP
  refine yE (P:=fun q:PS×σ=>s.trace <+: q.1.trace) (List.IsPrefix.trans h1 (ht _ _)) ?_
  show s.trace <+: (ckS s R).trace
  rw [(oA s).trace R];exact List.prefix_refl _
 ·intro R x h
  unfold lP at h
  by_cases hc:ckB s R=true
  ·rw [if_pos hc] at h;exact nE A.back p _ _ _ (hb _ _ h)
  ·rw [if_neg hc] at h;exact h
 ·intro R x' y' _ he hq' hg'
  have hh:=(oA s).heard R he
  unfold lP at hg' ⊢
  by_cases hc:ckB s R=true
  ·rw [if_pos hc] at hg' ⊢
   rw [if_pos hc]
   have hwc:=jQ hw R
   have hd:∀t,t∈vB (ckS s R)->0<=t.2.2.2/\t.2.2.2<p.tn:=fun t ht=>kD hwc ht
   have hg1:=hb _ _ hg'
   have hw1:=lX (ask:=ask1) hp (vB (ckS s R)) (ckS s R) x' hd hwc
   refine(zA0 A hm hp (vB (ckS s R)) hd (by rw [hh];exact hq') hg1).bind A (fun s x h=>by unfold kT;rw [if_neg h]) (fun s x h=>by unfold kT;rw [if_neg h]) ht (fun hz q=>?_)
   unfold kT at hg' ⊢
   rw [if_pos hz] at hg' ⊢
   rw [if_pos hz]
   exact yB9 A hm hM8 hp hw1 hz q hg'
  ·rw [if_neg hc,if_neg hc]
   exact Rl.sync rfl (by show Q (ckS s R).heard x' y';rw [hh];exact hq')
theorem zP8 {ask:σ->Int->Int->Rep×σ} {p:Pg} (hp:sM p) {s:PS} (x:σ) (hw:vZ p.tn p.fn s):vZ p.tn p.fn (xQ ask p s x).1:=by
 have hwc:=jQ hw (ask x 1 0).1
 have h1:=lX (ask:=ask) hp (vB (ckS s (ask x 1 0).1)) (ckS s (ask x 1 0).1) (ask x 1 0).2 (fun t ht=>kD hwc ht) hwc
 unfold xQ
 refine yE (P:=fun q:PS×σ=>vZ p.tn p.fn q.1) (hw.of rfl rfl rfl) (yE (P:=fun q:PS×σ=>vZ p.tn p.fn q.1) (yE (P:=fun q:PS×σ=>vZ p.tn p.fn q.1) ?_ h1) hwc)
 have hk:∀(k:Nat) (l:List Int) (s:PS) (x:σ),vZ p.tn p.fn s->vZ p.tn p.fn (wkM ask (gF ask p) k l s x).1:=by
  intro k
  induction k with
  | zero=>intro l s x h;exact h
  | succ k ih=>
   intro l s x h
   obtain⟨_,_,p3,_,p5,p6⟩:=fS (ask:=ask) l.length s x
   have h2:vZ p.tn p.fn (pk ask l.length s x).2.2.1:=h.of p5 p6 p3
   unfold wkM
   exact yE (P:=fun q:PS×σ=>vZ p.tn p.fn q.1) h (yE (P:=fun q:PS×σ=>vZ p.tn p.fn q.1) (ih _ _ _ (cY hp _ _ h2)) h2)
 unfold sF
 exact yE (P:=fun q:PS×σ=>vZ p.tn p.fn q.1) (hk _ _ _ _ (h1.of rfl rfl rfl)) (h1.of rfl rfl rfl)
theorem cL (A:oH ask1 ask2 may G Q Z P) (hm:oJ may) (hM8:zJ6 ask1) {p:Pg} (hp:sM p):∀(k:Nat) {s:PS} {x:σ} {y:τ},vZ p.tn p.fn s->Q s.heard x y->G (xG ask1 p k s x).2->Rl Q Z P (xG ask1 p k s x) (xG ask2 p k s y)
 | 0,s,x,y,_,hq,_=>Rl.sync rfl hq
 | k+1,s,x,y,hw,hq,hg=>by
  unfold xG at hg ⊢
  by_cases hc:s.fin=0
  ·rw [if_pos hc] at hg ⊢
   rw [if_pos hc]
   have hg1:=lQ A.back p k _ _ hg
   have hw1:=zP8 (ask:=ask1) hp x hw
   exact(yB4 A hm hM8 hp hw hc hq hg1).bind A (fun s x h=>vP p k s x h) (fun s x h=>vP p k s x h) (fun s x=>gC p k s x) (fun _ q=>cL A hm hM8 hp k hw1 q hg)
  ·rw [if_neg hc,if_neg hc];exact Rl.sync rfl hq
theorem yQ8 (nt nf:Nat) (f:Int):vZ nt nf (s0 f):=⟨fun _ h=>absurd h Bool.false_ne_true,fun _ h=>absurd h Bool.false_ne_true,fun _ h=>absurd h Bool.false_ne_true,fun _ _ h=>absurd h Bool.false_ne_true⟩
theorem zI2 (A:oH ask1 ask2 may G Q Z P) (hm:oJ may) (hM8:zJ6 ask1) {p:Pg} (hp:sM p) (k:Nat) (f:Int) {x:σ} {y:τ} (hq:Q 0 x y) (hg:G (tG ask1 p k f x).2):Rl Q Z P (tG ask1 p k f x) (tG ask2 p k f y):=by
 unfold tG at hg ⊢
 have hg1:=lQ A.back p k _ _ hg
 have hw:=mF (ask:=ask1) hp.sr p.sn (s0 (min (max f 0) 5000)) x (Int.le_refl 0) (yQ8 _ _ _)
 exact(zA3 A hm hp.sr p.sn (s:=s0 (min (max f 0) 5000)) (Int.le_refl 0) hq hg1).bind A (fun s x h=>vP p k s x h) (fun s x h=>vP p k s x h) (fun s x=>gC p k s x) (fun _ q=>cL A hm hM8 hp k hw q hg)
theorem gV {ask:σ->Int->Int->Rep×σ} {mes:σ->Nat} (hs:uP ask mes) (p:Pg):∀(k:Nat) (s:PS) (x:σ),mes x<k->(xG ask p k s x).1.fin≠0/\∀k',k<=k'->xG ask p k' s x=xG ask p k s x
 | 0,_,_,h=>absurd h (Nat.not_lt_zero _)
 | k+1,s,x,h=>by
  by_cases hc:s.fin=0
  ·have e:xG ask p (k+1) s x=xG ask p k (xQ ask p s x).1 (xQ ask p s x).2:=by simp only [xG];rw [if_pos hc]
   have e':∀j,xG ask p (j+1) s x=xG ask p j (xQ ask p s x).1 (xQ ask p s x).2:=fun j=>by simp only [xG];rw [if_pos hc]
   rcases gB hs p s x with hf | hlt
   ·rw [e,vP p k _ _ hf]
    refine⟨hf,fun k' hk=>?_⟩
    obtain⟨j,rfl⟩ : ∃j,k'=j+1:=⟨k'-1,by omega⟩
    rw [e' j,vP p j _ _ hf]
   ·obtain⟨h1,h2⟩:=gV hs p k (xQ ask p s x).1 (xQ ask p s x).2 (by omega)
    rw [e]
    refine⟨h1,fun k' hk=>?_⟩
    obtain⟨j,rfl⟩ : ∃j,k'=j+1:=⟨k'-1,by omega⟩
    rw [e' j]
    exact h2 j (by omega)
  ·rw [vP p (k+1) s x hc]
   exact⟨hc,fun k' _=>vP p k' s x hc⟩
theorem aF {ask:σ->Int->Int->Rep×σ} {mes:σ->Nat} (hs:uP ask mes) (p:Pg) (f:Int) (x:σ) (k:Nat) (h:mes x<k):(tG ask p k f x).1.fin≠0/\∀k',k<=k'->tG ask p k' f x=tG ask p k f x:=by
 have h1:=iS hs (f:=p.sf) (n:=p.sn) p.sn (s0 (min (max f 0) 5000)) x
 exact gV hs p k _ _ (by omega)
end
