/-
  PROVED HERE: Run runs a program as the model (runM) says, ove
-/
import Derived.Deep.DeepCutAuto
import Derived.Test.YtfmbebofllgmoaaGreatDoorSreplaysak
set_option maxHeartbeats 4000000
set_option maxRecDepth 100000
namespace Go.Proofs.YtfmbebofllgmoaaGreatDoor
open Go.RowKit Go.Sort
attribute [local go_sem ↓] Go.wp_at_zero Go.wp_at_succ
def s0 (fu:Int):PS:=⟨fu,0,fun _=>0,0,fun _=>(false,0,0,0),0,fun _=>false,[],0,0⟩
def oQ (v1 v2 v3 sv:Value) (k:Nat):Value:=if k=0 then v1 else if k=1 then v2 else if k=2 then v3 else sv
def sH (v1 v2 v3 sv:Value) (fu:Int):Array Value:=((List.range 67).map (img (oQ v1 v2 v3 sv) (.slice none 0 0) (s0 fu))).toArray
theorem cF (v1 v2 v3:Value) (rb tyS:Nat) (fu:Int):(((((((((((((((((Tryz.zeroCells130.setIfInBounds 0 v1).setIfInBounds 1 v2).setIfInBounds 2 v3).setIfInBounds 3 (.iface tyS (.pointer (some ⟨rb,0,none⟩)))).setIfInBounds 4 .nilFunc).setIfInBounds 5 (.func (Fn.func 83) #[] #[])).setIfInBounds 6 (.func (Fn.func 84) #[] #[])).setIfInBounds 7 (.func (Fn.func 85) #[] #[])).setIfInBounds 8 (.func (Fn.func 86) #[] #[])).setIfInBounds 9 (.func (Fn.func 87) #[] #[])).setIfInBounds 10 (.func (Fn.func 88) #[] #[])).setIfInBounds 11 (.func (Fn.func 89) #[] #[])).setIfInBounds 12 (.func (Fn.func 90) #[] #[])).setIfInBounds 13 (.func (Fn.func 91) #[] #[])).setIfInBounds 14 (.func (Fn.func 92) #[] #[])).setIfInBounds 15 (.func (Fn.func 93) #[] #[])).setIfInBounds 16 (.int .i64 fu))=sH v1 v2 v3 (.iface tyS (.pointer (some ⟨rb,0,none⟩))) fu:=by kernel_rfl
theorem zC1 (v1 v2 v3 sv:Value) (fu:Int) (k:Nat) (hk:k<67):(sH v1 v2 v3 sv fu)[k]?=some (img (oQ v1 v2 v3 sv) (.slice none 0 0) (s0 fu) k):=by
 unfold sH
 simp [hk]
theorem zB4 (w:World):Calls Tryz.prog 53 #[] w fun e w'=>e=.returned (.agg #[.nilFunc,.func (Fn.func 83) #[] #[],.func (Fn.func 84) #[] #[],.func (Fn.func 85) #[] #[],.func (Fn.func 86) #[] #[],.func (Fn.func 87) #[] #[],.func (Fn.func 88) #[] #[],.func (Fn.func 89) #[] #[],.func (Fn.func 90) #[] #[],.func (Fn.func 91) #[] #[],.func (Fn.func 92) #[] #[],.func (Fn.func 93) #[] #[]])/\w'=w.alloc (.cells #[.nilFunc,.func (Fn.func 83) #[] #[],.func (Fn.func 84) #[] #[],.func (Fn.func 85) #[] #[],.func (Fn.func 86) #[] #[],.func (Fn.func 87) #[] #[],.func (Fn.func 88) #[] #[],.func (Fn.func 89) #[] #[],.func (Fn.func 90) #[] #[],.func (Fn.func 91) #[] #[],.func (Fn.func 92) #[] #[],.func (Fn.func 93) #[] #[]] 123):=by
 go_enter Tryz.func53,Tryz.ntmps53
 go_wp2
 refine bodyPost_ret (v:=.agg #[.nilFunc,.func (Fn.func 83) #[] #[],.func (Fn.func 84) #[] #[],.func (Fn.func 85) #[] #[],.func (Fn.func 86) #[] #[],.func (Fn.func 87) #[] #[],.func (Fn.func 88) #[] #[],.func (Fn.func 89) #[] #[],.func (Fn.func 90) #[] #[],.func (Fn.func 91) #[] #[],.func (Fn.func 92) #[] #[],.func (Fn.func 93) #[] #[]]) (by simp [results,Tryz.results53,go_sem]) rfl ?_
 exact⟨rfl,rfl⟩
section
variable {σ:Type} {SA:(Nat->Prop)->World->σ->Prop} {ask:σ->Int->Int->Rep×σ} {may:Int->Int->Prop} {mes:σ->Nat} {B:Nat} {S T:Nat->Prop} {w:World} {b:Nat} {pv:Nat->Value} {vt:Value} {s:PS} {x:σ}
def uS (ask:σ->Int->Int->Rep×σ) (p:Pg) (k:Nat) (f:Int) (x:σ):PS×σ:=xF ask p k (hM ask p.sf p.sn p.sn (s0 (min (max f 0) 5000)) x).1 (hM ask p.sf p.sn p.sn (s0 (min (max f 0) 5000)) x).2
def RRel (SA:(Nat->Prop)->World->σ->Prop) (ask:σ->Int->Int->Rep×σ) (mes:σ->Nat) (B:Nat) (S:Nat->Prop) (w:World) (b:Nat) (pv:Nat->Value) (p:Pg) (fin:PS×σ) (k:Nat) (wr:World):Prop:=
 ∃S' vt' T' s' x' N',RI SA B S' wr b pv vt' T' s' x'/\Fr S w wr S'/\xF ask p k s' x'=fin/\vH p N' s'/\N'+16*k<=100000000/\(s'.fin≠0\/mes x'<k)
theorem vL (p:Pg) (k:Nat) (s:PS) (x:σ) (h:s.fin≠0):xF ask p k s x=(s,x):=by
 cases k with
 | zero=>rfl
 | succ k=>simp only [xF];rw [if_neg h]
theorem yB {w:World} {g e:Nat} {cur:Array Value} (hb:w.heap[g]?=some (.cells cur e (0,0))) (j:Nat):w.frozen? ⟨g,j,none⟩=false:=by simp [World.frozen?,hb]
theorem zX6 (L:xC SA) (hx:SA T w x) (hT:∀k,T k->B<=k/\k<w.heap.size) (v1 v2 v3:Value) (rb tyS:Nat) (fu:Int) (o1 o2:Obj) {wc:World}
  (hwc:wc=((((w.alloc (.cells #[v1,v2,v3] 33)).alloc o1).alloc o2).alloc (.cells (sH v1 v2 v3 (.iface tyS (.pointer (some ⟨rb,0,none⟩))) fu) 130)).drew) (hB:B<=w.heap.size) :
  RI SA B (fun k=>k=w.heap.size+1+1+1\/T k) wc (w.heap.size+1+1+1) (oQ v1 v2 v3 (.iface tyS (.pointer (some ⟨rb,0,none⟩)))) (.slice none 0 0) T (s0 fu) x/\Fr T w wc (fun k=>k=w.heap.size+1+1+1\/T k)/\
   wc.cell? ⟨w.heap.size,0,none⟩=some v1/\wc.heap[w.heap.size+1]?=some o1/\w.heap.size+1+1+1<wc.heap.size:=by
 subst hwc
 have z1:(((w.alloc (.cells #[v1,v2,v3] 33)).alloc o1).alloc o2).heap.size=w.heap.size+1+1+1:=by simp
 have z2:((w.alloc (.cells #[v1,v2,v3] 33)).alloc o1).heap.size=w.heap.size+1+1:=by simp
 have z3:(w.alloc (.cells #[v1,v2,v3] 33)).heap.size=w.heap.size+1:=by simp
 have hrow:((((w.alloc (.cells #[v1,v2,v3] 33)).alloc o1).alloc o2).alloc (.cells (sH v1 v2 v3 (.iface tyS (.pointer (some ⟨rb,0,none⟩))) fu) 130)).drew.heap[w.heap.size+1+1+1]?=some (.cells (sH v1 v2 v3 (.iface tyS (.pointer (some ⟨rb,0,none⟩))) fu) 130):=by
  have:=heap_alloc_new (((w.alloc (.cells #[v1,v2,v3] 33)).alloc o1).alloc o2) (.cells (sH v1 v2 v3 (.iface tyS (.pointer (some ⟨rb,0,none⟩))) fu) 130)
  rw [z1] at this
  exact this
 have hfr:Fr T w ((((w.alloc (.cells #[v1,v2,v3] 33)).alloc o1).alloc o2).alloc (.cells (sH v1 v2 v3 (.iface tyS (.pointer (some ⟨rb,0,none⟩))) fu) 130)).drew T:=((((Fr.refl T w).alloc _).alloc _).alloc _).alloc _ |>.drew
 have hsz:w.heap.size+1+1+1<((((w.alloc (.cells #[v1,v2,v3] 33)).alloc o1).alloc o2).alloc (.cells (sH v1 v2 v3 (.iface tyS (.pointer (some ⟨rb,0,none⟩))) fu) 130)).drew.heap.size:=by
  show _<(World.alloc _ _).heap.size
  simp
 have hsame:∀k,k<w.heap.size->((((w.alloc (.cells #[v1,v2,v3] 33)).alloc o1).alloc o2).alloc (.cells (sH v1 v2 v3 (.iface tyS (.pointer (some ⟨rb,0,none⟩))) fu) 130)).drew.heap[k]?=w.heap[k]?:=fun k hk=>
  (zR _ _ _ (by rw [z1];omega)).trans ((zR _ _ _ (by rw [z2];omega)).trans ((zR _ _ _ (by rw [z3];omega)).trans (zR _ _ _ hk)))
 refine⟨⟨?_,?_,zX _ _ _ _,?_,.inl rfl,?_,?_⟩,⟨hfr.os,hfr.tape,hfr.output,hfr.size,hfr.same,?_⟩,?_,?_,hsz⟩
 ·rintro k (rfl | hk)
  ·exact⟨by omega,hsz⟩
  ·have:=hT k hk
   exact⟨this.1,by omega⟩
 ·intro k hk
  refine⟨?_,yB hrow k⟩
  rw [cell_of_row _ _ k _ 130 (0,0) hrow]
  exact zC1 v1 v2 v3 _ fu k hk
 ·exact L.keep hx (fun k hk=>hsame k (hT k hk).2) hfr.size
 ·intro q hq
  simp [Value.ownBlock] at hq
 ·intro k hk
  have:=hT k hk
  exact⟨.inr hk,by omega⟩
 ·rintro k hk (rfl | h)
  ·omega
  ·exact h
 ·have h1:((((w.alloc (.cells #[v1,v2,v3] 33)).alloc o1).alloc o2).alloc (.cells (sH v1 v2 v3 (.iface tyS (.pointer (some ⟨rb,0,none⟩))) fu) 130)).drew.heap[w.heap.size]?=some (.cells #[v1,v2,v3] 33):=
   (zR _ _ _ (by rw [z1];omega)).trans ((zR _ _ _ (by rw [z2];omega)).trans ((zR _ _ _ (by rw [z3];omega)).trans (heap_alloc_new w _)))
  exact cell_of_row _ _ 0 _ 33 (0,0) h1
 ·have h1:=heap_alloc_new (w.alloc (.cells #[v1,v2,v3] 33)) o1
  rw [z3] at h1
  exact(zR _ _ _ (by rw [z1];omega)).trans ((zR _ _ _ (by rw [z2];omega)).trans h1)
theorem zQ8 (L:xC SA) {rb tyS fnS:Nat} (K:uE SA ask may B rb tyS fnS) (hm:pT may) (hs:uF ask mes) {w0:World} (hB:B=w0.heap.size) (hbel:Below w0.heap.size w0 w) (hT:∀k,T k->B<=k/\k<w.heap.size) (hx:SA T w x)
  (v1 v2 v3:Value) {p:Pg} (hv:oI w0 (oQ v1 v2 v3 (.iface tyS (.pointer (some ⟨rb,0,none⟩)))) p) (ho:tY p) (f:Int) (hM0:mes x<=5000000) :
  Calls Tryz.prog 29 #[.agg #[v1,v2,v3],.iface tyS (.pointer (some ⟨rb,0,none⟩)),.int .i64 f] w fun e w'=>∃vt' s' S' T' b,e=.returned (.tuple #[vt',.agg #[.int .i64 s'.fin,.int .i64 (s'.reg 0),.int .i64 (s'.reg 1),.int .i64 (s'.reg 2),.int .i64 (s'.reg 3),.int .i64 s'.clock,.int .i64 s'.heard]])/\
   s'=(uS ask p (mes x+1) f x).1/\RI SA B S' w' b (oQ v1 v2 v3 (.iface tyS (.pointer (some ⟨rb,0,none⟩)))) vt' T' s' (uS ask p (mes x+1) f x).2/\Fr T w w' S':=by
 have hact:=zB4
 have HBEL:=zZ hbel
 have HBWW:=zZ (show B<=w.heap.size from hB▸hbel.size)
 have HBE:=zZ hB
 have HT:=zZ hT
 have HX:=zZ hx
 have HV:=zZ hv
 have HM0:=zZ hM0
 clear hbel hB hT hx hv hM0
 have HCH:=zZ (cF v1 v2 v3 rb tyS (min (max f 0) 5000))
 go_enter Tryz.func29,Tryz.ntmps29
 go_upto_region 1 with fail
 go_cut [8] (fun u wc=>u=.pointer (some ⟨w.heap.size+1+1+1,0,none⟩)/\wc=((((w.alloc (.cells #[v1,v2,v3] 33)).alloc (.cells #[.int .i64 0,.int .i64 0,.int .i64 0,.int .i64 0,.int .i64 0,.int .i64 0,.int .i64 0] 37)).alloc (.cells #[.nilFunc,.func (Fn.func 83) #[] #[],.func (Fn.func 84) #[] #[],.func (Fn.func 85) #[] #[],.func (Fn.func 86) #[] #[],.func (Fn.func 87) #[] #[],.func (Fn.func 88) #[] #[],.func (Fn.func 89) #[] #[],.func (Fn.func 90) #[] #[],.func (Fn.func 91) #[] #[],.func (Fn.func 92) #[] #[],.func (Fn.func 93) #[] #[]] 123)).alloc (.cells (sH v1 v2 v3 (.iface tyS (.pointer (some ⟨rb,0,none⟩))) (min (max f 0) 5000)) 130)).drew)
 case first=>
  go_region_held3 (fun w'=>w'.cell? ⟨w.heap.size,0,none⟩=some v1/\w'.cell? ⟨w.heap.size,1,none⟩=some v2/\w'.cell? ⟨w.heap.size,2,none⟩=some v3) (simp [go_sem,World.cell?_alloc_past]) (first | (go_at_call 53;refine(hact _).mono ?_;rintro e w' ⟨rfl,rfl⟩))
  all_goals (go_wp2_with fail;go_meet;exact⟨rfl,by rw [<-zY HCH]⟩)
 case rest=>
 obtain⟨rfl,hwc⟩:=hcut
 clear HCH hact
 obtain⟨hri,hfr,e0,hF,hbz⟩:=zX6 L (zY HX) (zY HT) v1 v2 v3 rb tyS (min (max f 0) 5000) (.cells #[.int .i64 0,.int .i64 0,.int .i64 0,.int .i64 0,.int .i64 0,.int .i64 0,.int .i64 0] 37) (.cells #[.nilFunc,.func (Fn.func 83) #[] #[],.func (Fn.func 84) #[] #[],.func (Fn.func 85) #[] #[],.func (Fn.func 86) #[] #[],.func (Fn.func 87) #[] #[],.func (Fn.func 88) #[] #[],.func (Fn.func 89) #[] #[],.func (Fn.func 90) #[] #[],.func (Fn.func 91) #[] #[],.func (Fn.func 92) #[] #[],.func (Fn.func 93) #[] #[]] 123) hwc (zY HBWW)
 clear hwc
 have hne:w.heap.size+1≠w.heap.size+1+1+1:=by omega
 generalize w.heap.size+1+1+1=b at *
 have hFS:¬(fun k=>k=b\/T k) (w.heap.size+1):=by
  rintro (h | h)
  ·exact hne h
  ·have:=(zY HT _ h).2;omega
 have hFz:w.heap.size+1<wc.heap.size:=by
  have:=(zN.1 hF).1
  exact this
 have hBW:=zZ (show B<=wc.heap.size by have:=hri.bound b hri.inB;omega)
 generalize (fun k=>k=b\/T k)=S at *
 have hSB:=zZ (fun k (hk:S k)=>(hri.bound k hk).1)
 have hv:=zY HV
 have hp3:oQ v1 v2 v3 (.iface tyS (.pointer (some ⟨rb,0,none⟩))) 3=.iface tyS (.pointer (some ⟨rb,0,none⟩)):=rfl
 have hop:vQ w0 v1 p.sn p.sf:=hv.s
 generalize hpv:oQ v1 v2 v3 (.iface tyS (.pointer (some ⟨rb,0,none⟩)))=pv at *
 have HPV:=zZ hpv
 clear hpv
 have hbel:=(zY HBEL).trans (zY HBE▸hfr.below (fun k hk=>(zY HT k hk).1) (zY HBWW))
 have hq0:vH p 5000 (s0 (min (max f 0) 5000)):=by
  refine⟨⟨⟨by show 0<=min (max f 0) 5000;omega,by show min (max f 0) 5000<=5000;omega⟩,⟨by show (0:Int)<=0;omega,by show (0:Int)<=1099511627776;omega⟩,⟨by show (0:Int)<=0;omega,by show (0:Int)+min (max f 0) 5000<=5000;omega⟩,by show 0+(min (max f 0) 5000).toNat<=5000;omega⟩,⟨fun _ h=>absurd h Bool.false_ne_true,fun _ h=>absurd h Bool.false_ne_true,fun _ h=>absurd h Bool.false_ne_true,fun _ _ h=>absurd h Bool.false_ne_true⟩⟩
 have h60:=kO L K hp3 hm.clock hm.lot hs.clock (zY HBE) hbel hri hop ho.sl ho.tn ho.fn ho.sr hq0.1 (by omega)
 have hq1:=rT hs ho.sr (s0 (min (max f 0) 5000)) x hq0
 have hm1:=iD hs (f:=p.sf) (n:=p.sn) p.sn {s0 (min (max f 0) 5000) with next:=0} x
 have hrun:uS ask p (mes x+1) f x=xF ask p (mes x+1) (hM ask p.sf p.sn p.sn {s0 (min (max f 0) 5000) with next:=0} x).1 (hM ask p.sf p.sn p.sn {s0 (min (max f 0) 5000) with next:=0} x).2:=rfl
 generalize hM ask p.sf p.sn p.sn {s0 (min (max f 0) 5000) with next:=0} x=Q1 at *
 generalize hfin:uS ask p (mes x+1) f x=fin at *
 have HR:=zZ hrun
 have HFN:=zZ hfin
 have H60:=zZ h60
 have HQ1:=zZ hq1
 have HM1:=zZ hm1
 have HFR:=zZ hfr
 have HV':=zZ hv
 have HBL:=zZ hbel
 have HF:=zZ hF
 clear hrun h60 hq1 hm1 hfr hv hbel hri hq0 hop hF hfin HV HX HT
 go_wp2_with (go_at_call 54;refine(zY H60).mono ?_;rintro e w1 ⟨rfl,S1,vt1,T1,r1,r2⟩;have R1:=zZ r1;have R2:=zZ r2;clear r1 r2)
 go_loopg [21] (mes x+1) (fun k u wr=>RRel SA ask mes B S wc b pv p fin k wr)
 case atStart=>exact⟨S1,vt1,T1,Q1.1,Q1.2,5000,zY R1,zY R2,(zY HR).symm,zY HQ1,by have:=zY HM0;omega,.inr (by have:=zY HM1;omega)⟩
 case round=>
  obtain⟨S',vt',T',s',x',N',q1,q2,q3,q4,q5,q6⟩:=hrel
  have c66:=(q1.cell 66 (by omega)).trans (by rw [tU])
  by_cases hfi:s'.fin=0
  ·obtain⟨k',rfl⟩ : ∃k',gk=k'+1:=⟨gk-1,by omega⟩
   have hfb:(s'.fin==0)=true:=by simpa using hfi
   have hu:xF ask p (k'+1) s' x'=xF ask p k' (xM ask p s' x').1 (xM ask p s' x').2:=by simp only [xF];rw [if_pos hfi]
   have h61:=yH7 L K hp3 hm hs (zY HBE) (qZ (zY HBL) (zY HBE) (zY hSB) (zY hBW) q2) q1 (zY HV') ho q4 (by omega)
   have hi:=kT hs ho x' q4
   have hme:=iP hs p s' x'
   have H61:=zZ h61
   have E:=zZ (q3.symm.trans hu)
   have HI:=zZ hi
   have HME:=zZ hme
   have Q2:=zZ q2
   have hlt:mes x'<k'+1:=by
    rcases q6 with h | h
    ·exact absurd hfi h
    ·exact h
   clear q1 q2 q3 q4 q6 hu h61 hi hme hfi
   generalize s'.fin=fi at *
   go_wp2_with (go_at_call 55;refine(zY H61).mono ?_;rintro e w2 ⟨rfl,S2,vt2,T2,r3,r4⟩;have R3:=zZ r3;have R4:=zZ r4;clear r3 r4)
   go_roundg k'
   case rel=>
    refine⟨S2,vt2,T2,_,_,N'+16,zY R3,(zY Q2).trans (zY R4),(zY E).symm,zY HI,by omega,?_⟩
    rcases zY HME with h | h
    ·exact .inl h
    ·exact .inr (by omega)
   case measure=>omega
  ·have e:(s',x')=fin:=by rw [<-q3,vL p gk s' x' hfi]
   have hfb:(s'.fin==0)=false:=by simpa using hfi
   have c64:=(q1.cell 64 (by omega)).trans (by rw [qT])
   have c18:=(q1.cell 18 (by omega)).trans (by rw [tI _ _ _ 0 (by omega)])
   have c19:=(q1.cell 19 (by omega)).trans (by rw [tI _ _ _ 1 (by omega)])
   have c20:=(q1.cell 20 (by omega)).trans (by rw [tI _ _ _ 2 (by omega)])
   have c21:=(q1.cell 21 (by omega)).trans (by rw [tI _ _ _ 3 (by omega)])
   have c22:=(q1.cell 22 (by omega)).trans (by rw [uP])
   have c65:=(q1.cell 65 (by omega)).trans (by rw [rO])
   have hFb:=(q2.same (w.heap.size+1) hFz hFS).trans (zY HF)
   have g0:wr.cell? ⟨w.heap.size+1,0,none⟩=some (.int .i64 0):=cell_of_row wr (w.heap.size+1) 0 _ 37 (0,0) hFb
   have g1:wr.cell? ⟨w.heap.size+1,1,none⟩=some (.int .i64 0):=cell_of_row wr (w.heap.size+1) 1 _ 37 (0,0) hFb
   have g2:wr.cell? ⟨w.heap.size+1,2,none⟩=some (.int .i64 0):=cell_of_row wr (w.heap.size+1) 2 _ 37 (0,0) hFb
   have g3:wr.cell? ⟨w.heap.size+1,3,none⟩=some (.int .i64 0):=cell_of_row wr (w.heap.size+1) 3 _ 37 (0,0) hFb
   have g4:wr.cell? ⟨w.heap.size+1,4,none⟩=some (.int .i64 0):=cell_of_row wr (w.heap.size+1) 4 _ 37 (0,0) hFb
   have g5:wr.cell? ⟨w.heap.size+1,5,none⟩=some (.int .i64 0):=cell_of_row wr (w.heap.size+1) 5 _ 37 (0,0) hFb
   have g6:wr.cell? ⟨w.heap.size+1,6,none⟩=some (.int .i64 0):=cell_of_row wr (w.heap.size+1) 6 _ 37 (0,0) hFb
   have gz:=fun j=>yB hFb j
   have hneb:w.heap.size+1≠b:=hne
   have hne':b≠w.heap.size+1:=Ne.symm hne
   have Q1':=zZ q1
   have Q2:=zZ q2
   have E:=zZ e
   have HS':Hid (¬S' (w.heap.size+1)):=zZ (fun h=>hFS (q2.old _ hFz h))
   clear q1 q2 q3 q4 q5 q6 e hfi hFb
   generalize hg1:s'.fin=fi at *
   go_wp2
   go_region
   go_wp2
   refine bodyPost_ret (v:=.tuple #[vt',.agg #[.int .i64 fi,.int .i64 (s'.reg 0),.int .i64 (s'.reg 1),.int .i64 (s'.reg 2),.int .i64 (s'.reg 3),.int .i64 s'.clock,.int .i64 s'.heard]]) (by simp [results,Tryz.results29,go_sem,g0,g1,g2,g3,g4,g5,g6]) rfl ?_
   have hS':=zY HS'
   have q1:=zY Q1'
   have q2:=(zY HFR).trans (zY Q2)
   have hle:w.heap.size<=w.heap.size+1:=Nat.le_succ _
   refine⟨vt',s',S',T',b,by rw [hg1],by rw [zY HFN,<-zY E],?_,?_⟩
   ·rw [zY HFN,<-zY E,zY HPV]
    exact(((((((q1.setOther L _ _ hS').setOther L _ _ hS').setOther L _ _ hS').setOther L _ _ hS').setOther L _ _ hS').setOther L _ _ hS').setOther L _ _ hS').drew L
   ·exact(((((((q2.setCell _ _ (.inr hle)).setCell _ _ (.inr hle)).setCell _ _ (.inr hle)).setCell _ _ (.inr hle)).setCell _ _ (.inr hle)).setCell _ _ (.inr hle)).setCell _ _ (.inr hle)).drew
end
end Go.Proofs.YtfmbebofllgmoaaGreatDoor
namespace Go.Proofs.YtfmbebofllgmoaaGreatDoor
open Go.RowKit Go.Sort
section
variable {σ:Type} {ask:σ->Int->Int->Rep×σ}
theorem iG (o:O3) (s:PS) (h7:o.1≠7) (h8:o.1≠8):∃s':PS,s'.heard=s.heard/\s.trace <+: s'.trace/\∀(σ:Type) (ask:σ->Int->Int->Rep×σ) (x:σ),opM ask o s x=(s',x):=by
 by_cases h1:o.1=1
 ·exact⟨{s with reg:=upd s.reg o.2.1.toNat o.2.2},rfl,List.prefix_refl _,fun σ ask x=>by unfold opM;rw [if_pos h1]⟩
 by_cases h2:o.1=2
 ·exact⟨{s with reg:=upd s.reg o.2.1.toNat (wrap64 (s.reg o.2.1.toNat+s.reg o.2.2.toNat))},rfl,List.prefix_refl _,fun σ ask x=>by unfold opM;rw [if_neg h1,if_pos h2]⟩
 by_cases h3:o.1=3
 ·exact⟨{s with armings:=s.armings+1,tim:=upd s.tim o.2.1.toNat (true,s.clock+min (max (s.reg o.2.2.toNat) 0) (1099511627776-s.clock),s.armings+1,o.2.1)},rfl,List.prefix_refl _,fun σ ask x=>by unfold opM;rw [if_neg h1,if_neg h2,if_pos h3]⟩
 by_cases h4:o.1=4
 ·exact⟨{s with tim:=upd s.tim o.2.1.toNat (false,(s.tim o.2.1.toNat).2)},rfl,List.prefix_refl _,fun σ ask x=>by unfold opM;rw [if_neg h1,if_neg h2,if_neg h3,if_pos h4]⟩
 by_cases h5:o.1=5
 ·exact⟨{s with wat:=upd s.wat o.2.1.toNat true},rfl,List.prefix_refl _,fun σ ask x=>by unfold opM;rw [if_neg h1,if_neg h2,if_neg h3,if_neg h4,if_pos h5]⟩
 by_cases h6:o.1=6
 ·exact⟨{s with wat:=upd s.wat o.2.1.toNat false},rfl,List.prefix_refl _,fun σ ask x=>by unfold opM;rw [if_neg h1,if_neg h2,if_neg h3,if_neg h4,if_neg h5,if_pos h6]⟩
 by_cases h9:o.1=9
 ·exact⟨{s with trace:=s.trace++[(3,o.2.1,s.reg o.2.1.toNat)]},rfl,List.prefix_append _ _,fun σ ask x=>by unfold opM;rw [if_neg h1,if_neg h2,if_neg h3,if_neg h4,if_neg h5,if_neg h6,if_neg h7,if_neg h8,if_pos h9]⟩
 by_cases h10:o.1=10
 ·refine⟨if s.reg o.2.1.toNat=o.2.2 then {s with next:=s.next+1} else s,?_,?_,fun σ ask x=>by unfold opM;rw [if_neg h1,if_neg h2,if_neg h3,if_neg h4,if_neg h5,if_neg h6,if_neg h7,if_neg h8,if_neg h9,if_pos h10]⟩
  ·split<;>rfl
  ·split<;>exact List.prefix_refl _
 ·exact⟨{s with fin:=1},rfl,List.prefix_refl _,fun σ ask x=>by unfold opM;rw [if_neg h1,if_neg h2,if_neg h3,if_neg h4,if_neg h5,if_neg h6,if_neg h7,if_neg h8,if_neg h9,if_neg h10]⟩
def nowS (s:PS) (i:Nat) (R:Rep):PS:=if ckB s R then {ckS s R with reg:=upd (ckS s R).reg i (ckS s R).clock} else ckS s R
theorem gZ (o:O3) (s:PS) (x:σ) (h:o.1=7):opM ask o s x=(nowS s o.2.1.toNat (ask x 1 0).1,(ask x 1 0).2):=by
 unfold opM nowS;rw [h];simp
theorem gY (o:O3) (s:PS) (x:σ) (h:o.1=8):opM ask o s x=(pE s (ask x 4 o.2.2).1 o.2.1.toNat,(ask x 4 o.2.2).2):=by
 unfold opM;rw [h];simp
structure zO5 (s:PS) (A:Rep->PS):Prop where
 stop:∀R,R.e≠0->A R={s with fin:=R.e}
 heard:∀R,R.e=0->(A R).heard=wrap64 (s.heard+1)
 trace:∀R,(A R).trace=s.trace
theorem pL (s:PS):zO5 s (ckS s):=by
 refine⟨fun R h=>?_,fun R h=>?_,fun R=>?_⟩
 ·unfold ckS;rw [if_neg h]
 ·unfold ckS;rw [if_pos h];split<;>rfl
 ·unfold ckS;split
  ·split<;>rfl
  ·rfl
theorem bP (s:PS) (i:Nat):zO5 s (nowS s i):=by
 have h0:=pL s
 refine⟨fun R h=>?_,fun R h=>?_,fun R=>?_⟩
 ·have:ckB s R=false:=by unfold ckB;simp [h]
  unfold nowS;rw [this];exact h0.stop R h
 ·unfold nowS;split
  ·exact h0.heard R h
  ·exact h0.heard R h
 ·unfold nowS;split
  ·exact h0.trace R
  ·exact h0.trace R
theorem bO (s:PS) (i:Nat):zO5 s (fun R=>pE s R i):=by
 refine⟨fun R h=>?_,fun R h=>?_,fun R=>?_⟩
 ·simp only [pE];rw [if_neg h]
 ·simp only [pE];rw [if_pos h]
 ·simp only [pE];split<;>rfl
/-! ### The trace only grows;a run that has ended stays -/
theorem opM_tr (o:O3) (s:PS) (x:σ):s.trace <+: (opM ask o s x).1.trace:=by
 by_cases h7:o.1=7
 ·rw [gZ o s x h7];exact((bP s _).trace _)▸List.prefix_refl _
 by_cases h8:o.1=8
 ·rw [gY o s x h8];exact((bO s _).trace _)▸List.prefix_refl _
 obtain⟨s',_,h,e⟩:=iG o s h7 h8
 rw [e];exact h
theorem zP7 {f:Nat->O3} {n:Nat}:∀(k:Nat) (s:PS) (x:σ),s.trace <+: (hM ask f n k s x).1.trace
 | 0,_,_=>List.prefix_refl _
 | k+1,s,x=>by
  unfold hM
  refine yD (P:=fun q:PS×σ=>s.trace <+: q.1.trace) (yD (P:=fun q:PS×σ=>s.trace <+: q.1.trace) (List.prefix_refl _) ?_) (List.prefix_refl _)
  exact List.IsPrefix.trans (opM_tr (ask:=ask) (f s.next.toNat) {s with fuel:=s.fuel-1,next:=s.next+1} x) (zP7 k _ _)
theorem zP5 {f:Nat->O3} {n:Nat} (k:Nat) (s:PS) (x:σ) (h:s.fin≠0):hM ask f n k s x=(s,x):=by
 cases k with
 | zero=>rfl
 | succ k=>unfold hM;rw [if_neg (fun c=>h c.2)]
theorem gT_tr (p:Pg) (z:Int) (s:PS) (x:σ):s.trace <+: (gT ask p z s x).1.trace:=zP7 (ask:=ask) _ {s with next:=0} x
theorem gF_tr (p:Pg) (z:Int) (s:PS) (x:σ):s.trace <+: (gF ask p z s x).1.trace:=zP7 (ask:=ask) _ {s with next:=0} x
theorem eB (p:Pg):∀(l:List TM) (s:PS) (x:σ),s.trace <+: (frM (gT ask p) l s x).1.trace
 | [],_,_=>List.prefix_refl _
 | t::r,s,x=>by
  unfold frM
  refine yD (P:=fun q:PS×σ=>s.trace <+: q.1.trace) (List.prefix_refl _) (yD (P:=fun q:PS×σ=>s.trace <+: q.1.trace) ?_ (eB p r s x))
  exact List.IsPrefix.trans (List.IsPrefix.trans (List.prefix_append _ _) (gT_tr p _ (qO s t.2.2.2) x)) (eB p r _ _)
theorem zD5 (g:Int->PS->σ->PS×σ) (l:List TM) (s:PS) (x:σ) (h:s.fin≠0):frM g l s x=(s,x):=by
 cases l with
 | nil=>rfl
 | cons t r=>unfold frM;rw [if_pos h]
theorem yI3 (p:Pg) (z:Int) (s:PS) (x:σ):s.trace <+: (wk1 (gF ask p) z s x).1.trace:=by
 unfold wk1
 refine yD (P:=fun q:PS×σ=>s.trace <+: q.1.trace) ?_ (List.prefix_refl _)
 exact List.IsPrefix.trans (List.prefix_append _ _) (gF_tr p z {s with trace:=s.trace++[(2,z,0)]} x)
theorem iR (p:Pg):∀(k:Nat) (l:List Int) (s:PS) (x:σ),s.trace <+: (wkM ask (gF ask p) k l s x).1.trace
 | 0,_,_,_=>List.prefix_refl _
 | k+1,l,s,x=>by
  have h1:=(fA (ask:=ask) l.length s x).2.2.2.1
  unfold wkM
  refine yD (P:=fun q:PS×σ=>s.trace <+: q.1.trace) (List.prefix_refl _) (yD (P:=fun q:PS×σ=>s.trace <+: q.1.trace) ?_ ?_)
  ·refine List.IsPrefix.trans ?_ (iR p k _ _ _)
   have:=yI3 (ask:=ask) p (l.getD (pk ask l.length s x).1.toNat 0) (pk ask l.length s x).2.2.1 (pk ask l.length s x).2.2.2
   rwa [h1] at this
  ·show s.trace <+: (pk ask l.length s x).2.2.1.trace
   rw [h1];exact List.prefix_refl _
theorem jS (g:Int->PS->σ->PS×σ) (k:Nat) (l:List Int) (s:PS) (x:σ) (h:s.fin≠0):wkM ask g k l s x=(s,x):=by
 cases k with
 | zero=>rfl
 | succ k=>unfold wkM;rw [if_pos (.inr h)]
theorem zH1 (p:Pg) (s:PS) (x:σ):s.trace <+: (tQ ask p s x).1.trace:=by
 unfold tQ
 exact yD (P:=fun q:PS×σ=>s.trace <+: q.1.trace) (iR (ask:=ask) p 8 _ {s with heard:=wrap64 (s.heard+1)} _) (List.prefix_refl _)
theorem yH6 (p:Pg) (s:PS) (x:σ):s.trace <+: (xM ask p s x).1.trace:=by
 have h0:=(pL s).trace (ask x 1 0).1
 have h1:=eB (ask:=ask) p (xW (ckS s (ask x 1 0).1)) (ckS s (ask x 1 0).1) (ask x 1 0).2
 rw [h0] at h1
 unfold xM
 refine yD (P:=fun q:PS×σ=>s.trace <+: q.1.trace) (List.prefix_refl _) (yD (P:=fun q:PS×σ=>s.trace <+: q.1.trace) (yD (P:=fun q:PS×σ=>s.trace <+: q.1.trace) (List.IsPrefix.trans h1 (zH1 p _ _)) h1) ?_)
 show s.trace <+: (ckS s (ask x 1 0).1).trace
 rw [h0];exact List.prefix_refl _
theorem iQ (p:Pg):∀(k:Nat) (s:PS) (x:σ),s.trace <+: (xF ask p k s x).1.trace
 | 0,_,_=>List.prefix_refl _
 | k+1,s,x=>by
  unfold xF
  exact yD (P:=fun q:PS×σ=>s.trace <+: q.1.trace) (List.IsPrefix.trans (yH6 p s x) (iQ p k _ _)) (List.prefix_refl _)
/-! ### What holds of the source behind a run held of it ahead -/
section
variable {G:σ->Prop}
theorem yE8 (hG:∀x k o,G (ask x k o).2->G x) (o:O3) (s:PS) (x:σ) (h:G (opM ask o s x).2):G x:=by
 by_cases h7:o.1=7
 ·rw [gZ o s x h7] at h;exact hG _ _ _ h
 by_cases h8:o.1=8
 ·rw [gY o s x h8] at h;exact hG _ _ _ h
 obtain⟨s',_,_,e⟩:=iG o s h7 h8
 rwa [e] at h
theorem gW (hG:∀x k o,G (ask x k o).2->G x) {f:Nat->O3} {n:Nat}:∀(k:Nat) (s:PS) (x:σ),G (hM ask f n k s x).2->G x
 | 0,_,_,h=>h
 | k+1,s,x,h=>by
  unfold hM at h
  by_cases hc:s.next<n/\s.fin=0
  ·rw [if_pos hc] at h
   by_cases hf:s.fuel=0
   ·rw [if_pos hf] at h;exact h
   ·rw [if_neg hf] at h;exact yE8 hG _ _ _ (gW hG k _ _ h)
  ·rw [if_neg hc] at h;exact h
theorem oN (hG:∀x k o,G (ask x k o).2->G x) (p:Pg):∀(l:List TM) (s:PS) (x:σ),G (frM (gT ask p) l s x).2->G x
 | [],_,_,h=>h
 | t::r,s,x,h=>by
  unfold frM at h
  by_cases hc:s.fin≠0
  ·rw [if_pos hc] at h;exact h
  ·rw [if_neg hc] at h
   by_cases ht:s.tim t.2.2.2.toNat=t
   ·rw [if_pos ht] at h;exact gW hG _ _ _ (oN hG p r _ _ h)
   ·rw [if_neg ht] at h;exact oN hG p r _ _ h
theorem zH2 (hG:∀x k o,G (ask x k o).2->G x) (p:Pg) (z:Int) (s:PS) (x:σ) (h:G (wk1 (gF ask p) z s x).2):G x:=by
 unfold wk1 at h
 by_cases hw:s.wat z.toNat=true
 ·rw [if_pos hw] at h;exact gW hG _ _ _ h
 ·rw [if_neg hw] at h;exact h
theorem zQ0 (hG:∀x k o,G (ask x k o).2->G x) (n:Nat) (s:PS) (x:σ) (h:G (pk ask n s x).2.2.2):G x:=by
 unfold pk at h
 by_cases hn:n=1
 ·rw [if_pos hn] at h;exact h
 ·rw [if_neg hn] at h;exact hG _ _ _ h
theorem oY (hG:∀x k o,G (ask x k o).2->G x) (p:Pg):∀(k:Nat) (l:List Int) (s:PS) (x:σ),G (wkM ask (gF ask p) k l s x).2->G x
 | 0,_,_,_,h=>h
 | k+1,l,s,x,h=>by
  unfold wkM at h
  by_cases hc:l=[]\/s.fin≠0
  ·rw [if_pos hc] at h;exact h
  ·rw [if_neg hc] at h
   by_cases hp:(pk ask l.length s x).2.1=true
   ·rw [if_pos hp] at h;exact zQ0 hG _ _ _ (zH2 hG p _ _ _ (oY hG p k _ _ _ h))
   ·rw [if_neg hp] at h;exact zQ0 hG _ _ _ h
theorem dZ (hG:∀x k o,G (ask x k o).2->G x) (p:Pg) (s:PS) (x:σ) (h:G (tQ ask p s x).2):G x:=by
 unfold tQ at h
 by_cases hc:(ask x 2 0).1.e=0
 ·rw [if_pos hc] at h;exact hG _ _ _ (oY hG p _ _ _ _ h)
 ·rw [if_neg hc] at h;exact hG _ _ _ h
theorem zN7 (hG:∀x k o,G (ask x k o).2->G x) (p:Pg) (s:PS) (x:σ) (h:G (xM ask p s x).2):G x:=by
 unfold xM at h
 by_cases hi:qF s=true
 ·rw [if_pos hi] at h;exact h
 rw [if_neg hi] at h
 by_cases hc:ckB s (ask x 1 0).1=true
 ·rw [if_pos hc] at h
  by_cases hf:(frM (gT ask p) (xW (ckS s (ask x 1 0).1)) (ckS s (ask x 1 0).1) (ask x 1 0).2).1.fin=0
  ·rw [if_pos hf] at h;exact hG _ _ _ (oN hG p _ _ _ (dZ hG p _ _ h))
  ·rw [if_neg hf] at h;exact hG _ _ _ (oN hG p _ _ _ h)
 ·rw [if_neg hc] at h;exact hG _ _ _ h
theorem mX (hG:∀x k o,G (ask x k o).2->G x) (p:Pg):∀(k:Nat) (s:PS) (x:σ),G (xF ask p k s x).2->G x
 | 0,_,_,h=>h
 | k+1,s,x,h=>by
  unfold xF at h
  by_cases hc:s.fin=0
  ·rw [if_pos hc] at h;exact zN7 hG p _ _ (mX hG p k _ _ h)
  ·rw [if_neg hc] at h;exact h
end
end
section
variable {σ τ:Type} {ask1:σ->Int->Int->Rep×σ} {ask2:τ->Int->Int->Rep×τ} {may:Int->Int->Prop} {G:σ->Prop} {Q:Int->σ->τ->Prop} {Z:Int->Int->σ->τ->Prop} {P:PS->PS->Prop}
structure pQ (ask1:σ->Int->Int->Rep×σ) (ask2:τ->Int->Int->Rep×τ) (may:Int->Int->Prop) (G:σ->Prop) (Q:Int->σ->τ->Prop) (Z:Int->Int->σ->τ->Prop) (P:PS->PS->Prop):Prop where
 back:∀x k o,G (ask1 x k o).2->G x
 step:∀h x y k o,may k o->Q h x y->G (ask1 x k o).2->
  ((ask1 x k o).1=(ask2 y k o).1/\((ask1 x k o).1.e=0->Q (wrap64 (h+1)) (ask1 x k o).2 (ask2 y k o).2)/\((ask1 x k o).1.e≠0->Z (ask1 x k o).1.e h (ask1 x k o).2 (ask2 y k o).2))\/
  ((
    ask2 y k o).1.e≠0/\∀s:PS,s.heard=h->s.fin=0->((ask1 x k o).1.e≠0->P {s with fin:=(ask1 x k o).1.e} {s with fin:=(ask2 y k o).1.e})/\
    ((ask1 x k o).1.e=0->∀s':PS,s.trace <+: s'.trace->P s' {s with fin:=(ask2 y k o).1.e}))
 grow:∀s s' t:PS,P s t->s.fin=0->s.trace <+: s'.trace->P s' t
def Rl (Q:Int->σ->τ->Prop) (Z:Int->Int->σ->τ->Prop) (P:PS->PS->Prop) (r1:PS×σ) (r2:PS×τ):Prop:=(r1.1=r2.1/\(Q r1.1.heard r1.2 r2.2\/(r1.1.fin≠0/\Z r1.1.fin r1.1.heard r1.2 r2.2)))\/(r2.1.fin≠0/\P r1.1 r2.1)
theorem Rl.sync {r1:PS×σ} {r2:PS×τ} (e:r1.1=r2.1) (q:Q r1.1.heard r1.2 r2.2):Rl Q Z P r1 r2:=.inl ⟨e,.inl q⟩
theorem Rl.bind (A:pQ ask1 ask2 may G Q Z P) {r1:PS×σ} {r2:PS×τ} (h:Rl Q Z P r1 r2) {F1:PS->σ->PS×σ} {F2:PS->τ->PS×τ} (h1:∀s x,s.fin≠0->F1 s x=(s,x)) (h2:∀s x,s.fin≠0->F2 s x=(s,x))
  (ht:∀s x,s.trace <+: (F1 s x).1.trace) (hs:r1.1.fin=0->Q r1.1.heard r1.2 r2.2->Rl Q Z P (F1 r1.1 r1.2) (F2 r1.1 r2.2)):Rl Q Z P (F1 r1.1 r1.2) (F2 r2.1 r2.2):=by
 rcases h with ⟨e,q⟩ | ⟨e,p⟩
 ·rw [<-e]
  by_cases h0:r1.1.fin=0
  ·rcases q with q | ⟨q,_⟩
   ·exact hs h0 q
   ·exact absurd h0 q
  ·rw [h1 _ _ h0,h2 _ _ h0];exact .inl ⟨rfl,q⟩
 ·rw [h2 _ _ e]
  by_cases h0:r1.1.fin=0
  ·exact .inr ⟨e,A.grow _ _ _ p h0 (ht _ _)⟩
  ·rw [h1 _ _ h0];exact .inr ⟨e,p⟩
theorem kV (A:pQ ask1 ask2 may G Q Z P) {s:PS} {x:σ} {y:τ} {k o:Int} (hm:may k o) (hq:Q s.heard x y) (h0:s.fin=0) (K1:Rep->σ->PS×σ) (K2:Rep->τ->PS×τ)
  (h1:∀R x,R.e≠0->K1 R x=({s with fin:=R.e},x)) (h2:∀R x,R.e≠0->K2 R x=({s with fin:=R.e},x)) (ht:∀R x,s.trace <+: (K1 R x).1.trace) (hb:∀R x,G (K1 R x).2->G x)
  (hs:∀R x' y',R=(ask1 x k o).1->R.e=0->Q (wrap64 (s.heard+1)) x' y'->G (K1 R x').2->Rl Q Z P (K1 R x') (K2 R y')) (hg:G (K1 (ask1 x k o).1 (ask1 x k o).2).2) :
  Rl Q Z P (K1 (ask1 x k o).1 (ask1 x k o).2) (K2 (ask2 y k o).1 (ask2 y k o).2):=by
 rcases A.step s.heard x y k o hm hq (hb _ _ hg) with ⟨e,q0,q1⟩ | ⟨e,p⟩
 ·rw [<-e]
  by_cases he:(ask1 x k o).1.e=0
  ·exact hs _ _ _ rfl he (q0 he) hg
  ·rw [h1 _ _ he,h2 _ _ he];exact .inl ⟨rfl,.inr ⟨he,q1 he⟩⟩
 ·obtain⟨p1,p0⟩:=p s rfl h0
  rw [h2 _ _ e]
  refine .inr ⟨e,?_⟩
  by_cases he:(ask1 x k o).1.e=0
  ·exact p0 he _ (ht _ _)
  ·rw [h1 _ _ he];exact p1 he
theorem zO7 (A:pQ ask1 ask2 may G Q Z P) {s:PS} {x:σ} {y:τ} {k o:Int} (hm:may k o) (hq:Q s.heard x y) (h0:s.fin=0) {B:Rep->PS} (hB:zO5 s B) (hg:G (ask1 x k o).2) :
  Rl Q Z P (B (ask1 x k o).1,(ask1 x k o).2) (B (ask2 y k o).1,(ask2 y k o).2):=
 kV A hm hq h0 (fun R x=>(B R,x)) (fun R x=>(B R,x)) (fun R x h=>by rw [hB.stop R h]) (fun R x h=>by rw [hB.stop R h]) (fun R x=>by rw [hB.trace R];exact List.prefix_refl _) (fun R x h=>h)
  (fun R x' y' _ he q _=>Rl.sync rfl (by show Q (B R).heard x' y';rw [hB.heard R he];exact q)) hg
theorem yM2 (A:pQ ask1 ask2 may G Q Z P) (hm:pT may) {nt nf:Nat} (o:O3) {s:PS} {x:σ} {y:τ} (hr:rt o nt nf=true) (hq:Q s.heard x y) (h0:s.fin=0) (hg:G (opM ask1 o s x).2):Rl Q Z P (opM ask1 o s x) (opM ask2 o s y):=by
 by_cases h7:o.1=7
 ·rw [gZ o s x h7] at hg ⊢
  rw [gZ o s y h7]
  exact zO7 A hm.clock hq h0 (bP s _) hg
 by_cases h8:o.1=8
 ·rw [gY o s x h8] at hg ⊢
  rw [gY o s y h8]
  have hr':yO 8 o.2.1 o.2.2 nt nf=true:=by rw [<-h8];exact hr
  obtain⟨q1,q2⟩:=iL hr'
  exact zO7 A (hm.lot _ q1 q2) hq h0 (bO s _) hg
 obtain⟨s',hh,_,e⟩:=iG o s h7 h8
 rw [e,e]
 exact Rl.sync rfl (by show Q s'.heard x y;rw [hh];exact hq)
theorem aK (A:pQ ask1 ask2 may G Q Z P) (hm:pT may) {nt nf n:Nat} {f:Nat->O3} (hr:∀i,i<n->rt (f i) nt nf=true):∀(k:Nat) {s:PS} {x:σ} {y:τ},0<=s.next->Q s.heard x y->G (hM ask1 f n k s x).2->Rl Q Z P (hM ask1 f n k s x) (hM ask2 f n k s y)
 | 0,s,x,y,_,hq,_=>Rl.sync rfl hq
 | k+1,s,x,y,hn,hq,hg=>by
  unfold hM at hg ⊢
  by_cases hc:s.next<n/\s.fin=0
  ·rw [if_pos hc] at hg ⊢
   rw [if_pos hc]
   by_cases hf:s.fuel=0
   ·rw [if_pos hf] at hg ⊢
    rw [if_pos hf]
    exact Rl.sync rfl hq
   ·rw [if_neg hf] at hg ⊢
    rw [if_neg hf]
    have hg1:=gW A.back k _ _ hg
    have h1:=yM2 A hm (f s.next.toNat) (s:={s with fuel:=s.fuel-1,next:=s.next+1}) (hr s.next.toNat (by omega)) hq hc.2 hg1
    have hnx:=jK (ask:=ask1) (f s.next.toNat) {s with fuel:=s.fuel-1,next:=s.next+1} x
    exact h1.bind A (fun s x h=>zP5 k s x h) (fun s x h=>zP5 k s x h) (fun s x=>zP7 k s x) (fun _ q=>aK A hm hr k (by simp only at hnx;omega) q hg)
  ·rw [if_neg hc] at hg ⊢
   rw [if_neg hc]
   exact Rl.sync rfl hq
theorem aG (A:pQ ask1 ask2 may G Q Z P) (hm:pT may) {p:Pg} (hp:tY p):∀(l:List TM) {s:PS} {x:σ} {y:τ},(∀t,t∈l->0<=t.2.2.2/\t.2.2.2<p.tn)->Q s.heard x y->G (frM (gT ask1 p) l s x).2->Rl Q Z P (frM (gT ask1 p) l s x) (frM (gT ask2 p) l s y)
 | [],s,x,y,_,hq,_=>Rl.sync rfl hq
 | t::r,s,x,y,hl,hq,hg=>by
  have hr:=fun t ht=>hl t (List.mem_cons_of_mem _ ht)
  have h1:=hl t (List.mem_cons_self ..)
  unfold frM at hg ⊢
  by_cases hc:s.fin≠0
  ·rw [if_pos hc,if_pos hc];exact Rl.sync rfl hq
  ·rw [if_neg hc] at hg ⊢
   rw [if_neg hc]
   by_cases ht:s.tim t.2.2.2.toNat=t
   ·rw [if_pos ht] at hg ⊢
    rw [if_pos ht]
    have hg1:=oN A.back p r _ _ hg
    have h2:Rl Q Z P (gT ask1 p t.2.2.2 (qO s t.2.2.2) x) (gT ask2 p t.2.2.2 (qO s t.2.2.2) y):=aK A hm (hp.tr t.2.2.2.toNat (by omega)) _ (s:={qO s t.2.2.2 with next:=0}) (Int.le_refl 0) hq hg1
    exact h2.bind A (fun s x h=>zD5 _ r s x h) (fun s x h=>zD5 _ r s x h) (fun s x=>eB p r s x) (fun _ q=>aG A hm hp r hr q hg)
   ·rw [if_neg ht] at hg ⊢
    rw [if_neg ht]
    exact aG A hm hp r hr hq hg
theorem zR7 (A:pQ ask1 ask2 may G Q Z P) (hm:pT may) {p:Pg} (hp:tY p) (z:Int) {s:PS} {x:σ} {y:τ} (hw:vU p.tn p.fn s) (hq:Q s.heard x y) (hg:G (wk1 (gF ask1 p) z s x).2):Rl Q Z P (wk1 (gF ask1 p) z s x) (wk1 (gF ask2 p) z s y):=by
 unfold wk1 at hg ⊢
 by_cases h:s.wat z.toNat=true
 ·rw [if_pos h] at hg ⊢
  rw [if_pos h]
  exact aK A hm (hp.fr z.toNat (hw.wat _ h)) _ (s:={s with trace:=s.trace++[(2,z,0)],next:=0}) (Int.le_refl 0) hq hg
 ·rw [if_neg h,if_neg h];exact Rl.sync rfl hq
theorem cC {p:Pg} (hp:tY p) {ask:σ->Int->Int->Rep×σ} (z:Int) {s:PS} (x:σ) (hw:vU p.tn p.fn s):vU p.tn p.fn (wk1 (gF ask p) z s x).1:=by
 unfold wk1
 by_cases h:s.wat z.toNat=true
 ·rw [if_pos h];exact nN (hp.fr z.toNat (hw.wat _ h)) _ _ _ (Int.le_refl 0) (hw.of rfl rfl rfl)
 ·rw [if_neg h];exact hw
def pkK (g:Int->PS->σ->PS×σ) (ask:σ->Int->Int->Rep×σ) (k:Nat) (l:List Int) (s:PS) (R:Rep) (x:σ):PS×σ:=
 if R.e=0 then wkM ask g k (l.eraseIdx R.n.toNat) (wk1 g (l.getD R.n.toNat 0) {s with heard:=wrap64 (s.heard+1)} x).1 (wk1 g (l.getD R.n.toNat 0) {s with heard:=wrap64 (s.heard+1)} x).2 else ({s with fin:=R.e},x)
theorem zS0 (ask:σ->Int->Int->Rep×σ) (g:Int->PS->σ->PS×σ) (k:Nat) (l:List Int) (s:PS) (x:σ) (h:l.length=1) (h0:s.fin=0):wkM ask g (k+1) l s x=wkM ask g k (l.eraseIdx 0) (wk1 g (l.getD 0 0) s x).1 (wk1 g (l.getD 0 0) s x).2:=by
 have hl:¬(l=[]\/s.fin≠0):=by
   rintro (h' | h');· rw [h'] at h;simp at h
   ·exact h' h0
 simp only [wkM]
 rw [if_neg hl]
 simp only [pk,h,if_true,Int.toNat_zero]
theorem zH3 (ask:σ->Int->Int->Rep×σ) (g:Int->PS->σ->PS×σ) (k:Nat) (l:List Int) (s:PS) (x:σ) (h:2<=l.length) (h0:s.fin=0):wkM ask g (k+1) l s x=pkK g ask k l s (ask x 3 l.length).1 (ask x 3 l.length).2:=by
 have hl:¬(l=[]\/s.fin≠0):=by
   rintro (h' | h');· rw [h'] at h;simp at h
   ·exact h' h0
 have h1:¬l.length=1:=by omega
 simp only [wkM]
 rw [if_neg hl]
 simp only [pk,h1,if_false,pkK,hdS]
 by_cases he:(ask x 3 l.length).1.e=0
 ·simp only [he,decide_true,if_true]
 ·simp only [he,decide_false,if_false,Bool.false_eq_true]
theorem zB0 (A:pQ ask1 ask2 may G Q Z P) (hm:pT may) {p:Pg} (hp:tY p):∀(k:Nat) (l:List Int) {s:PS} {x:σ} {y:τ},l.length<=8->vU p.tn p.fn s->Q s.heard x y->G (wkM ask1 (gF ask1 p) k l s x).2->Rl Q Z P (wkM ask1 (gF ask1 p) k l s x) (wkM ask2 (gF ask2 p) k l s y)
 | 0,l,s,x,y,_,_,hq,_=>Rl.sync rfl hq
 | k+1,l,s,x,y,hl,hw,hq,hg=>by
  by_cases hc:l=[]\/s.fin≠0
  ·unfold wkM
   rw [if_pos hc,if_pos hc];exact Rl.sync rfl hq
  have h0:s.fin=0:=Decidable.byContradiction fun h=>hc (.inr h)
  have hne:l≠[]:=fun h=>hc (.inl h)
  have hpos:0<l.length:=List.length_pos_iff.2 hne
  by_cases h1:l.length=1
  ·rw [zS0 ask1 _ k l s x h1 h0] at hg ⊢
   rw [zS0 ask2 _ k l s y h1 h0]
   have hg1:=oY A.back p k _ _ _ hg
   have hw1:=cC hp (ask:=ask1) (l.getD 0 0) x hw
   have hle:(l.eraseIdx 0).length<=8:=Nat.le_trans (List.length_eraseIdx_le _ _) hl
   exact(zR7 A hm hp _ hw hq hg1).bind A (fun s x h=>jS _ k _ s x h) (fun s x h=>jS _ k _ s x h) (fun s x=>iR p k _ s x) (fun _ q=>zB0 A hm hp k _ hle hw1 q hg)
  ·rw [zH3 ask1 _ k l s x (by omega) h0] at hg ⊢
   rw [zH3 ask2 _ k l s y (by omega) h0]
   refine kV A (hm.pick l.length (by omega) hl) hq h0 (pkK (gF ask1 p) ask1 k l s) (pkK (gF ask2 p) ask2 k l s) (fun R x h=>by unfold pkK;rw [if_neg h]) (fun R x h=>by unfold pkK;rw [if_neg h]) ?_ ?_ ?_ hg
   ·intro R x
    unfold pkK
    exact yD (P:=fun q:PS×σ=>s.trace <+: q.1.trace) (List.IsPrefix.trans (yI3 (ask:=ask1) p (l.getD R.n.toNat 0) {s with heard:=wrap64 (s.heard+1)} x) (iR p k _ _ _)) (List.prefix_refl _)
   ·intro R x h
    unfold pkK at h
    by_cases he:R.e=0
    ·rw [if_pos he] at h;exact zH2 A.back p _ _ _ (oY A.back p k _ _ _ h)
    ·rw [if_neg he] at h;exact h
   ·intro R x' y' _ he hq' hg'
    unfold pkK at hg' ⊢
    rw [if_pos he] at hg' ⊢
    rw [if_pos he]
    have hw0:vU p.tn p.fn {s with heard:=wrap64 (s.heard+1)}:=hw.of rfl rfl rfl
    have hg1:=oY A.back p k _ _ _ hg'
    have hw1:=cC hp (ask:=ask1) (l.getD R.n.toNat 0) x' hw0
    have hle:(l.eraseIdx R.n.toNat).length<=8:=Nat.le_trans (List.length_eraseIdx_le _ _) hl
    exact(zR7 A hm hp _ hw0 hq' hg1).bind A (fun s x h=>jS _ k _ s x h) (fun s x h=>jS _ k _ s x h) (fun s x=>iR p k _ s x) (fun _ q=>zB0 A hm hp k _ hle hw1 q hg')
def zH6 (ask1:σ->Int->Int->Rep×σ):Prop:=∀x,(ask1 x 2 0).1.files.length<=8
def dY (ask:σ->Int->Int->Rep×σ) (p:Pg) (s:PS) (R:Rep) (x:σ):PS×σ:=
 if R.e=0 then wkM ask (gF ask p) 8 (R.files.filter fun z=>s.wat z.toNat) {s with heard:=wrap64 (s.heard+1)} x else ({s with fin:=R.e},x)
theorem zY9 (A:pQ ask1 ask2 may G Q Z P) (hm:pT may) (hM8:zH6 ask1) {p:Pg} (hp:tY p) {s:PS} {x:σ} {y:τ} (hw:vU p.tn p.fn s) (h0:s.fin=0) (hq:Q s.heard x y) (hg:G (tQ ask1 p s x).2):Rl Q Z P (tQ ask1 p s x) (tQ ask2 p s y):=by
 refine kV A hm.batch hq h0 (dY ask1 p s) (dY ask2 p s) (fun R x h=>by unfold dY;rw [if_neg h]) (fun R x h=>by unfold dY;rw [if_neg h]) ?_ ?_ ?_ hg
 ·intro R x
  unfold dY
  exact yD (P:=fun q:PS×σ=>s.trace <+: q.1.trace) (iR (ask:=ask1) p 8 _ {s with heard:=wrap64 (s.heard+1)} _) (List.prefix_refl _)
 ·intro R x h
  unfold dY at h
  by_cases he:R.e=0
  ·rw [if_pos he] at h;exact oY A.back p _ _ _ _ h
  ·rw [if_neg he] at h;exact h
 ·intro R x' y' hR he hq' hg'
  unfold dY at hg' ⊢
  rw [if_pos he] at hg' ⊢
  rw [if_pos he]
  exact zB0 A hm hp 8 _ (Nat.le_trans (List.length_filter_le _ _) (hR▸hM8 x)) (hw.of rfl rfl rfl) hq' hg'
theorem lF {ask:σ->Int->Int->Rep×σ} {p:Pg} (hp:tY p):∀(l:List TM) (s:PS) (x:σ),(∀t,t∈l->0<=t.2.2.2/\t.2.2.2<p.tn)->vU p.tn p.fn s->vU p.tn p.fn (frM (gT ask p) l s x).1
 | [],_,_,_,h=>h
 | t::r,s,x,hl,h=>by
  have h1:=hl t (List.mem_cons_self ..)
  have hr:=fun t ht=>hl t (List.mem_cons_of_mem _ ht)
  unfold frM
  refine yD (P:=fun q:PS×σ=>vU p.tn p.fn q.1) h (yD (P:=fun q:PS×σ=>vU p.tn p.fn q.1) ?_ (lF hp r s x hr h))
  exact lF hp r _ _ hr (nN (hp.tr t.2.2.2.toNat (by omega)) _ _ _ (Int.le_refl 0) ((eD t.2.2.2 h).of rfl rfl rfl))
def kG (ask:σ->Int->Int->Rep×σ) (p:Pg) (s:PS) (x:σ):PS×σ:=if s.fin=0 then tQ ask p s x else (s,x)
def mW (ask:σ->Int->Int->Rep×σ) (p:Pg) (s:PS) (R:Rep) (x:σ):PS×σ:=
 if ckB s R then kG ask p (frM (gT ask p) (xW (ckS s R)) (ckS s R) x).1 (frM (gT ask p) (xW (ckS s R)) (ckS s R) x).2 else (ckS s R,x)
theorem zY5 (A:pQ ask1 ask2 may G Q Z P) (hm:pT may) (hM8:zH6 ask1) {p:Pg} (hp:tY p) {s:PS} {x:σ} {y:τ} (hw:vU p.tn p.fn s) (h0:s.fin=0) (hq:Q s.heard x y) (hg:G (xM ask1 p s x).2):Rl Q Z P (xM ask1 p s x) (xM ask2 p s y):=by
 by_cases hi:qF s=true
 ·unfold xM
  rw [if_pos hi,if_pos hi];exact Rl.sync rfl hq
 have e1:xM ask1 p s x=mW ask1 p s (ask1 x 1 0).1 (ask1 x 1 0).2:=by unfold xM mW kG;rw [if_neg hi]
 have e2:xM ask2 p s y=mW ask2 p s (ask2 y 1 0).1 (ask2 y 1 0).2:=by unfold xM mW kG;rw [if_neg hi]
 have ht:∀s x,s.trace <+: (kG ask1 p s x).1.trace:=fun s x=>by
  unfold kG;exact yD (P:=fun q:PS×σ=>s.trace <+: q.1.trace) (zH1 p s x) (List.prefix_refl _)
 have hb:∀s x,G (kG ask1 p s x).2->G x:=fun s x h=>by
  unfold kG at h
  by_cases h0:s.fin=0
  ·rw [if_pos h0] at h;exact dZ A.back p s x h
  ·rw [if_neg h0] at h;exact h
 rw [e1] at hg ⊢
 rw [e2]
 have hno:∀R:Rep,R.e≠0->ckB s R=false:=fun R h=>by unfold ckB;simp [h]
 refine kV A hm.clock hq h0 (mW ask1 p s) (mW ask2 p s) (fun R x h=>?_) (fun R x h=>?_) ?_ ?_ ?_ hg
 ·unfold mW;rw [hno R h,(pL s).stop R h];rfl
 ·unfold mW;rw [hno R h,(pL s).stop R h];rfl
 ·intro R x
  have h1:=eB (ask:=ask1) p (xW (ckS s R)) (ckS s R) x
  rw [(pL s).trace R] at h1
  unfold mW
  refine yD (P:=fun q:PS×σ=>s.trace <+: q.1.trace) (List.IsPrefix.trans h1 (ht _ _)) ?_
  show s.trace <+: (ckS s R).trace
  rw [(pL s).trace R];exact List.prefix_refl _
 ·intro R x h
  unfold mW at h
  by_cases hc:ckB s R=true
  ·rw [if_pos hc] at h;exact oN A.back p _ _ _ (hb _ _ h)
  ·rw [if_neg hc] at h;exact h
 ·intro R x' y' _ he hq' hg'
  have hh:=(pL s).heard R he
  unfold mW at hg' ⊢
  by_cases hc:ckB s R=true
  ·rw [if_pos hc] at hg' ⊢
   rw [if_pos hc]
   have hwc:=jA hw R
   have hd:∀t,t∈xW (ckS s R)->0<=t.2.2.2/\t.2.2.2<p.tn:=fun t ht=>lM hwc ht
   have hg1:=hb _ _ hg'
   have hw1:=lF (ask:=ask1) hp (xW (ckS s R)) (ckS s R) x' hd hwc
   refine(aG A hm hp (xW (ckS s R)) hd (by rw [hh];exact hq') hg1).bind A (fun s x h=>by unfold kG;rw [if_neg h]) (fun s x h=>by unfold kG;rw [if_neg h]) ht (fun hz q=>?_)
   unfold kG at hg' ⊢
   rw [if_pos hz] at hg' ⊢
   rw [if_pos hz]
   exact zY9 A hm hM8 hp hw1 hz q hg'
  ·rw [if_neg hc,if_neg hc]
   exact Rl.sync rfl (by show Q (ckS s R).heard x' y';rw [hh];exact hq')
theorem zN8 {ask:σ->Int->Int->Rep×σ} {p:Pg} (hp:tY p) {s:PS} (x:σ) (hw:vU p.tn p.fn s):vU p.tn p.fn (xM ask p s x).1:=by
 have hwc:=jA hw (ask x 1 0).1
 have h1:=lF (ask:=ask) hp (xW (ckS s (ask x 1 0).1)) (ckS s (ask x 1 0).1) (ask x 1 0).2 (fun t ht=>lM hwc ht) hwc
 unfold xM
 refine yD (P:=fun q:PS×σ=>vU p.tn p.fn q.1) (hw.of rfl rfl rfl) (yD (P:=fun q:PS×σ=>vU p.tn p.fn q.1) (yD (P:=fun q:PS×σ=>vU p.tn p.fn q.1) ?_ h1) hwc)
 have hk:∀(k:Nat) (l:List Int) (s:PS) (x:σ),vU p.tn p.fn s->vU p.tn p.fn (wkM ask (gF ask p) k l s x).1:=by
  intro k
  induction k with
  | zero=>intro l s x h;exact h
  | succ k ih=>
   intro l s x h
   obtain⟨_,_,p3,_,p5,p6⟩:=fA (ask:=ask) l.length s x
   have h2:vU p.tn p.fn (pk ask l.length s x).2.2.1:=h.of p5 p6 p3
   unfold wkM
   exact yD (P:=fun q:PS×σ=>vU p.tn p.fn q.1) h (yD (P:=fun q:PS×σ=>vU p.tn p.fn q.1) (ih _ _ _ (cC hp _ _ h2)) h2)
 unfold tQ
 exact yD (P:=fun q:PS×σ=>vU p.tn p.fn q.1) (hk _ _ _ _ (h1.of rfl rfl rfl)) (h1.of rfl rfl rfl)
theorem dT (A:pQ ask1 ask2 may G Q Z P) (hm:pT may) (hM8:zH6 ask1) {p:Pg} (hp:tY p):∀(k:Nat) {s:PS} {x:σ} {y:τ},vU p.tn p.fn s->Q s.heard x y->G (xF ask1 p k s x).2->Rl Q Z P (xF ask1 p k s x) (xF ask2 p k s y)
 | 0,s,x,y,_,hq,_=>Rl.sync rfl hq
 | k+1,s,x,y,hw,hq,hg=>by
  unfold xF at hg ⊢
  by_cases hc:s.fin=0
  ·rw [if_pos hc] at hg ⊢
   rw [if_pos hc]
   have hg1:=mX A.back p k _ _ hg
   have hw1:=zN8 (ask:=ask1) hp x hw
   exact(zY5 A hm hM8 hp hw hc hq hg1).bind A (fun s x h=>vL p k s x h) (fun s x h=>vL p k s x h) (fun s x=>iQ p k s x) (fun _ q=>dT A hm hM8 hp k hw1 q hg)
  ·rw [if_neg hc,if_neg hc];exact Rl.sync rfl hq
theorem yN5 (nt nf:Nat) (f:Int):vU nt nf (s0 f):=⟨fun _ h=>absurd h Bool.false_ne_true,fun _ h=>absurd h Bool.false_ne_true,fun _ h=>absurd h Bool.false_ne_true,fun _ _ h=>absurd h Bool.false_ne_true⟩
theorem zG3 (A:pQ ask1 ask2 may G Q Z P) (hm:pT may) (hM8:zH6 ask1) {p:Pg} (hp:tY p) (k:Nat) (f:Int) {x:σ} {y:τ} (hq:Q 0 x y) (hg:G (uS ask1 p k f x).2):Rl Q Z P (uS ask1 p k f x) (uS ask2 p k f y):=by
 unfold uS at hg ⊢
 have hg1:=mX A.back p k _ _ hg
 have hw:=nN (ask:=ask1) hp.sr p.sn (s0 (min (max f 0) 5000)) x (Int.le_refl 0) (yN5 _ _ _)
 exact(aK A hm hp.sr p.sn (s:=s0 (min (max f 0) 5000)) (Int.le_refl 0) hq hg1).bind A (fun s x h=>vL p k s x h) (fun s x h=>vL p k s x h) (fun s x=>iQ p k s x) (fun _ q=>dT A hm hM8 hp k hw q hg)
theorem gB {ask:σ->Int->Int->Rep×σ} {mes:σ->Nat} (hs:uF ask mes) (p:Pg):∀(k:Nat) (s:PS) (x:σ),mes x<k->(xF ask p k s x).1.fin≠0/\∀k',k<=k'->xF ask p k' s x=xF ask p k s x
 | 0,_,_,h=>absurd h (Nat.not_lt_zero _)
 | k+1,s,x,h=>by
  by_cases hc:s.fin=0
  ·have e:xF ask p (k+1) s x=xF ask p k (xM ask p s x).1 (xM ask p s x).2:=by simp only [xF];rw [if_pos hc]
   have e':∀j,xF ask p (j+1) s x=xF ask p j (xM ask p s x).1 (xM ask p s x).2:=fun j=>by simp only [xF];rw [if_pos hc]
   rcases iP hs p s x with hf | hlt
   ·rw [e,vL p k _ _ hf]
    refine⟨hf,fun k' hk=>?_⟩
    obtain⟨j,rfl⟩ : ∃j,k'=j+1:=⟨k'-1,by omega⟩
    rw [e' j,vL p j _ _ hf]
   ·obtain⟨h1,h2⟩:=gB hs p k (xM ask p s x).1 (xM ask p s x).2 (by omega)
    rw [e]
    refine⟨h1,fun k' hk=>?_⟩
    obtain⟨j,rfl⟩ : ∃j,k'=j+1:=⟨k'-1,by omega⟩
    rw [e' j]
    exact h2 j (by omega)
  ·rw [vL p (k+1) s x hc]
   exact⟨hc,fun k' _=>vL p k' s x hc⟩
theorem bL {ask:σ->Int->Int->Rep×σ} {mes:σ->Nat} (hs:uF ask mes) (p:Pg) (f:Int) (x:σ) (k:Nat) (h:mes x<k):(uS ask p k f x).1.fin≠0/\∀k',k<=k'->uS ask p k' f x=uS ask p k f x:=by
 have h1:=iD hs (f:=p.sf) (n:=p.sn) p.sn (s0 (min (max f 0) 5000)) x
 exact gB hs p k _ _ (by omega)
end
