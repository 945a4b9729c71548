/-
  PROVED HERE: what a world's source answers, by kind. the reco
-/
import Derived.Test.YtfmbebofllgmoaaGreatDoorSreplaysao
import Derived.Test.YtfmbebofllgmoaaGreatDoorSreplaysaq
set_option maxHeartbeats 2000000
set_option maxRecDepth 100000
namespace Go.Proofs.YtfmbebofllgmoaaGreatDoor
open Go.RowKit Go.Conc
attribute [local go_sem ↓] Go.wp_at_zero Go.wp_at_succ
def exRet (Q:Exit->Act->World->Prop):Exit->Act->World->Prop
 | .ret,a,w=>Q .ret a w
 | _,_,_=>False
theorem xU {Q:Exit->Act->World->Prop} {a:Act} {w:World} (h:Q .ret a w):exRet Q .ret a w:=h
theorem Rn.body {P:Program} {b:Frame} {fn:Func} {R:Ending->World->Prop} {k:List Item} {a:Act} {w:World} {c:Code} (hk:b.kind=.normal) (hf:P.funcs[b.fn]?=some fn) (h:c.wp P (exRet (bodyPost P fn R)) a w):Rn P b R (.code c::k) a w:=
 Rn.code (Q:=fun _ _=>False) (ret:=fun a w=>bodyPost P fn R .ret a w) (ex:=fun _ _ _=>False) (wp_mono h (fun e a w h=>by cases e<;>exact h)) (fun _ _ h=>h.elim) (fun _ _ h=>⟨h.1,hk,fn,h.2.choose,hf,h.2.choose_spec.1,h.2.choose_spec.2⟩) (fun _ _ _ h=>h.elim)
def yK (w:World) (c:Nat) (vs:List Value):Prop:=∃cap s r,w.heap[c]?=some (.chan cap vs.toArray true s r false)
theorem yK.block {w w':World} {c:Nat} {vs:List Value} (h:yK w c vs) (hb:w'.heap[c]?=w.heap[c]?):yK w' c vs:=by
 obtain⟨cap,s,r,e⟩:=h
 exact⟨cap,s,r,hb.trans e⟩
theorem yK.lt {w:World} {c:Nat} {vs:List Value} (h:yK w c vs):c<w.heap.size:=by
 obtain⟨cap,s,r,e⟩:=h
 exact(zN.1 e).1
theorem Fr.setChan (w:World) (c cap:Nat) (buf:Array Value) (cl:Bool) (s r:Nat) (tm:Bool):Fr (fun k=>k=c) w (w.setChan c cap buf cl s r tm) (fun k=>k=c):=
 ⟨rfl,rfl,rfl,by rw [size_setChan];exact Nat.le_refl _,fun k _ hn=>by simp only [World.setChan];rw [Array.getElem?_setIfInBounds_ne (fun e=>hn e.symm)],fun _ _ h=>h⟩
theorem Rn.take {P:Program} {b:Frame} {R:Ending->World->Prop} {k:List Item} {a:Act} {w:World} {ops:Array Oper} {i:Nat} {rest:List Nat} {o:Oper} {c:Nat} {vs:List Value} {z:Value} (hk:b.kind≠.early) (ho:ops[i]?=some o) (hw:Region.wanted o (yielded ops a.tmps)=true)
  (hr:(execOp a.eval o).run P w=.ok (.comm #[rcase c z] true (.recv true)) w) (hc:yK w c vs)
  (h:∀W,Fr (fun k=>k=c) w W (fun k=>k=c)->yK W c vs.tail->Rn P b R (.inRegion ops rest::k) (a.put o.dst (.tuple #[vs.headD z,.bool (!vs.isEmpty)])) W):Rn P b R (.inRegion ops (i::rest)::k) a w:=by
 obtain⟨cap,s,r,hch⟩:=hc
 cases vs with
 | nil=>exact Rn.shut true hk ho hw hr hch (h w (Fr.refl _ _) ⟨cap,s,r,hch⟩)
 | cons v vs=>
  refine Rn.recv true hk ho hw hr hch (by simp) ?_
  have:=h (w.setChan c cap ((v::vs).toArray.extract 1 (v::vs).toArray.size) true s (r+1) false) (Fr.setChan _ _ _ _ _ _ _ _) ⟨cap,s,r+1,by
   rw [heap_setChan _ _ _ _ _ _ _ _ (zN.1 hch).1]
   simp⟩
  simpa [got] using this
theorem Fr.wide {w w':World} (h:Fr (fun _=>False) w w' (fun _=>False)) (S:Nat->Prop):Fr S w w' S:=⟨h.os,h.tape,h.output,h.size,fun k hk _=>h.same k hk (fun h=>h),fun _ _ h=>h⟩
theorem iI {S:Nat->Prop} {w W w':World} (h:Fr S w W S) (h':Fr (fun _=>False) W w' (fun _=>False)) (v0 v1 v2 v3:Value) :
  Fr S w ((((w'.setCell ⟨w.heap.size,0,none⟩ v0).setCell ⟨w.heap.size,1,none⟩ v1).setCell ⟨w.heap.size,2,none⟩ v2).setCell ⟨w.heap.size,3,none⟩ v3) S:=
 ((((h.trans (h'.wide S)).setCell _ _ (.inr (Nat.le_refl _))).setCell _ _ (.inr (Nat.le_refl _))).setCell _ _ (.inr (Nat.le_refl _))).setCell _ _ (.inr (Nat.le_refl _))
theorem iH {S:Nat->Prop} {w W w':World} {c:Nat} {vs:List Value} (_:Fr S w W S) (h':Fr (fun _=>False) W w' (fun _=>False)) (hc:yK W c vs) (hn:w.heap.size≠c) (v0 v1 v2 v3:Value) :
  yK ((((w'.setCell ⟨w.heap.size,0,none⟩ v0).setCell ⟨w.heap.size,1,none⟩ v1).setCell ⟨w.heap.size,2,none⟩ v2).setCell ⟨w.heap.size,3,none⟩ v3) c vs:=
 hc.block ((((zQ _ _ _ _ (Ne.symm hn)).trans (zQ _ _ _ _ (Ne.symm hn))).trans (zQ _ _ _ _ (Ne.symm hn))).trans ((zQ _ _ _ _ (Ne.symm hn)).trans (h'.same c hc.lt (fun h=>h))))
theorem u95 (x y z:Value):(#[x,y,z]++Array.replicate (95-(#[x,y,z]:Array Value).size) undef)=(x::y::z::List.replicate 92 undef).toArray:=by simp
theorem zD9 {w:World} {sb c0:Nat} (hs:w.cell? ⟨sb,0,none⟩=some (.chan (some c0))) (hsb:sb<w.heap.size) (hne:sb≠c0) (l:List Int) (hc:yK w c0 (l.map (.int .i64))) (o:Int) {R:Ending->World->Prop}
  (hR:∀w',Fr (fun k=>k=c0) w w' (fun k=>k=c0)->yK w' c0 (l.tail.map (.int .i64))->R (.returned (.tuple #[if !l.isEmpty then .agg #[.int .i64 1,.int .i64 0,.int .i64 (min (max (l.headD 0) 0) 1099511627776),.slice none 0 0] else .agg #[.int .i64 0,.int .i64 0,.int .i64 0,.slice none 0 0],.int .i64 (if !l.isEmpty then 0 else 5)])) w') :
  Calls Tryz.prog 182 #[.pointer (some ⟨sb,0,none⟩),.int .i64 1,.int .i64 o] w R:=by
 have HR:=zZ hR
 clear hR
 refine vJ Tryz.func182 rfl ?_
 rw [Tryz.ntmps182,u95]
 simp only [List.replicate]
 have h161:=fun k o n=>lH k o n (.slice none 0 0) none 0 0 rfl
 have hf1:=(Fr.refl (fun k=>k=c0) w).alloc (.cells #[.int .i64 0,.int .i64 0,.int .i64 0,.slice none 0 0] 49)
 have hs1:(w.alloc (.cells #[.int .i64 0,.int .i64 0,.int .i64 0,.slice none 0 0] 49)).cell? ⟨sb,0,none⟩=some (.chan (some c0)):=(hf1.cell sb 0 hsb hne).trans hs
 have hc1:yK (w.alloc (.cells #[.int .i64 0,.int .i64 0,.int .i64 0,.slice none 0 0] 49)) c0 (l.map (.int .i64)):=hc.block (zR _ _ _ hc.lt)
 have hrow:=heap_alloc_new w (.cells #[.int .i64 0,.int .i64 0,.int .i64 0,.slice none 0 0] 49)
 have hw1:w.heap.size≠c0:=by have:=hc.lt;omega
 have hz1:w.heap.size<(w.alloc (.cells #[.int .i64 0,.int .i64 0,.int .i64 0,.slice none 0 0] 49)).heap.size:=by simp
 have H161:=zZ h161
 have HF1:=zZ hf1
 have HROW:=zZ hrow
 have HC1:=zZ hc1
 clear h161 hf1 hrow hc1 hc hs
 refine Rn.seq (Rn.go ?_)
 go_wp2
 generalize hW:w.alloc (.cells #[.int .i64 0,.int .i64 0,.int .i64 0,.slice none 0 0] 49)=W1 at *
 clear hW
 refine yG (Rn.seq (Rn.seq (Rn.go ?_)))
 go_wp2
 refine yG (Rn.block (Rn.seq (Rn.go ?_)))
 go_wp2
 refine yG (Rn.cond (t:=true) rfl ?_)
 simp only [if_true]
 refine Rn.seq (Rn.region' [0,1,2,3,4,5,6,7,8,9] rfl ?_)
 refine Rn.op rfl rfl rfl ?_
 refine Rn.op rfl rfl rfl ?_
 refine Rn.op rfl rfl rfl ?_
 refine Rn.op (v:=.chan (some c0)) (w':=W1) rfl rfl ?_ ?_
 ·simp [execOp,Act.eval,Act.put,go_sem,hs1]
 refine Rn.take (c:=c0) (z:=.int .i64 0) (vs:=l.map (.int .i64)) (by decide) rfl rfl ?_ (zY HC1) ?_
 ·simp [execOp,Act.eval,Act.put,go_sem,rcase]
 intro W2 f2 c2
 have e1:(l.map (Value.int .i64)).headD (.int .i64 0)=.int .i64 (l.headD 0):=by cases l<;>rfl
 have e2:(l.map (Value.int .i64)).isEmpty=l.isEmpty:=by cases l<;>rfl
 have e3:(l.map (Value.int .i64)).tail=l.tail.map (Value.int .i64):=by cases l<;>rfl
 rw [e1,e2]
 rw [e3] at c2
 have C2:=zZ c2
 have F2:=zZ ((zY HF1).trans f2)
 have HR2:=zZ ((f2.same w.heap.size hz1 hw1).trans (zY HROW))
 have hz2:=zT hz1 f2.size
 clear e1 e2 e3 c2 f2 HC1 HROW HF1 hs1
 generalize (!l.isEmpty)=ok at *
 generalize l.headD 0=n at *
 simp only [Act.put]
 refine Rn.op (v:=.tuple #[.int .i64 n,.bool ok]) (w':=W2) rfl rfl (by simp [execOp,Act.eval,go_sem]) ?_
 simp only [Act.put]
 refine Rn.op (v:=.int .i64 n) (w':=W2) rfl rfl (by simp [execOp,Act.eval,go_sem]) ?_
 simp only [Act.put]
 refine Rn.op (v:=.bool ok) (w':=W2) rfl rfl (by simp [execOp,Act.eval,go_sem]) ?_
 simp only [Act.put]
 refine Rn.op (v:=.int .i64 n) (w':=W2) rfl rfl (by simp [execOp,Act.eval,go_sem]) ?_
 simp only [Act.put]
 refine Rn.op (v:=.bool ok) (w':=W2) rfl rfl (by simp [execOp,Act.eval,go_sem]) ?_
 simp only [Act.put]
 refine Rn.regionEnd (Rn.body rfl Tryz.func182 ?_)
 cases ok
 ·go_wp2_with (go_at_call 183;refine(zY H161 _ _ _ _ _).mono ?_;rintro e w3 ⟨rfl,f3⟩;have hrow:=(f3.same _ hz2 (fun h=>h)).trans (zY HR2);have hcell:=fun j=>cell_of_row w3 w.heap.size j _ 49 (0,0) hrow;have hfz:=fun j=>yB hrow j;have F3:=zZ f3;clear f3 hrow)
  refine xU (bodyPost_ret (v:=.tuple #[.agg #[.int .i64 0,.int .i64 0,.int .i64 0,.slice none 0 0],.int .i64 5]) (by simp [results,Tryz.results182,go_sem,hcell]) rfl ?_)
  exact zY HR _ (iI (zY F2) (zY F3) _ _ _ _) (iH (zY F2) (zY F3) (zY C2) hw1 _ _ _ _)
 ·go_wp2_with (go_at_call 183;refine(zY H161 _ _ _ _ _).mono ?_;rintro e w3 ⟨rfl,f3⟩;have hrow:=(f3.same _ hz2 (fun h=>h)).trans (zY HR2);have hcell:=fun j=>cell_of_row w3 w.heap.size j _ 49 (0,0) hrow;have hfz:=fun j=>yB hrow j;have F3:=zZ f3;clear f3 hrow)
  refine xU (bodyPost_ret (v:=.tuple #[.agg #[.int .i64 1,.int .i64 0,.int .i64 (min (max n 0) 1099511627776),.slice none 0 0],.int .i64 0]) (by simp [results,Tryz.results182,go_sem,hcell]) rfl ?_)
  exact zY HR _ (iI (zY F2) (zY F3) _ _ _ _) (iH (zY F2) (zY F3) (zY C2) hw1 _ _ _ _)
theorem zJ9 {w:World} {sb c0:Nat} (hs:w.cell? ⟨sb,2,none⟩=some (.chan (some c0))) (hsb:sb<w.heap.size) (hne:sb≠c0) (l:List Int) (hc:yK w c0 (l.map (.int .i64))) (o:Int) (ho1:1<=o) (ho2:o<=1000000) {R:Ending->World->Prop}
  (hR:∀w',Fr (fun k=>k=c0) w w' (fun k=>k=c0)->yK w' c0 (l.tail.map (.int .i64))->R (.returned (.tuple #[if !l.isEmpty then .agg #[.int .i64 3,.int .i64 o,.int .i64 (l.headD 0 % o),.slice none 0 0] else .agg #[.int .i64 0,.int .i64 0,.int .i64 0,.slice none 0 0],.int .i64 (if !l.isEmpty then 0 else 5)])) w') :
  Calls Tryz.prog 182 #[.pointer (some ⟨sb,0,none⟩),.int .i64 3,.int .i64 o] w R:=by
 have HR:=zZ hR
 clear hR
 refine vJ Tryz.func182 rfl ?_
 rw [Tryz.ntmps182,u95]
 simp only [List.replicate]
 have h161:=fun k o n=>lH k o n (.slice none 0 0) none 0 0 rfl
 have hf1:=(Fr.refl (fun k=>k=c0) w).alloc (.cells #[.int .i64 0,.int .i64 0,.int .i64 0,.slice none 0 0] 49)
 have hs1:(w.alloc (.cells #[.int .i64 0,.int .i64 0,.int .i64 0,.slice none 0 0] 49)).cell? ⟨sb,2,none⟩=some (.chan (some c0)):=(hf1.cell sb 2 hsb hne).trans hs
 have hc1:yK (w.alloc (.cells #[.int .i64 0,.int .i64 0,.int .i64 0,.slice none 0 0] 49)) c0 (l.map (.int .i64)):=hc.block (zR _ _ _ hc.lt)
 have hrow:=heap_alloc_new w (.cells #[.int .i64 0,.int .i64 0,.int .i64 0,.slice none 0 0] 49)
 have hw1:w.heap.size≠c0:=by have:=hc.lt;omega
 have hz1:w.heap.size<(w.alloc (.cells #[.int .i64 0,.int .i64 0,.int .i64 0,.slice none 0 0] 49)).heap.size:=by simp
 have H161:=zZ h161
 have H163:=zZ (fun n w=>eQ n o w ho1 ho2)
 have HF1:=zZ hf1
 have HROW:=zZ hrow
 have HC1:=zZ hc1
 clear h161 hf1 hrow hc1 hc hs
 refine Rn.seq (Rn.go ?_)
 go_wp2
 generalize hW:w.alloc (.cells #[.int .i64 0,.int .i64 0,.int .i64 0,.slice none 0 0] 49)=W1 at *
 clear hW
 refine yG (Rn.seq (Rn.seq (Rn.go ?_)))
 go_wp2
 refine yG (Rn.block (Rn.seq (Rn.go ?_)))
 go_wp2
 refine yG (Rn.cond (t:=false) rfl ?_)
 simp only [if_false,Bool.false_eq_true]
 refine Rn.seq (Rn.go ?_)
 go_wp2
 refine yG (Rn.cond (t:=false) rfl ?_)
 simp only [if_false,Bool.false_eq_true]
 refine Rn.seq (Rn.go ?_)
 go_wp2
 refine yG (Rn.cond (t:=true) rfl ?_)
 simp only [if_true]
 refine Rn.seq (Rn.region' [0,1,2,3,4,5,6,7,8,9] rfl ?_)
 refine Rn.op rfl rfl rfl ?_
 refine Rn.op rfl rfl rfl ?_
 refine Rn.op rfl rfl rfl ?_
 refine Rn.op (v:=.chan (some c0)) (w':=W1) rfl rfl ?_ ?_
 ·simp [execOp,Act.eval,Act.put,go_sem,hs1]
 refine Rn.take (c:=c0) (z:=.int .i64 0) (vs:=l.map (.int .i64)) (by decide) rfl rfl ?_ (zY HC1) ?_
 ·simp [execOp,Act.eval,Act.put,go_sem,rcase]
 intro W2 f2 c2
 have e1:(l.map (Value.int .i64)).headD (.int .i64 0)=.int .i64 (l.headD 0):=by cases l<;>rfl
 have e2:(l.map (Value.int .i64)).isEmpty=l.isEmpty:=by cases l<;>rfl
 have e3:(l.map (Value.int .i64)).tail=l.tail.map (Value.int .i64):=by cases l<;>rfl
 rw [e1,e2]
 rw [e3] at c2
 have C2:=zZ c2
 have F2:=zZ ((zY HF1).trans f2)
 have HR2:=zZ ((f2.same w.heap.size hz1 hw1).trans (zY HROW))
 have hz2:=zT hz1 f2.size
 clear e1 e2 e3 c2 f2 HC1 HROW HF1 hs1
 generalize (!l.isEmpty)=ok at *
 generalize l.headD 0=n at *
 simp only [Act.put]
 refine Rn.op (v:=.tuple #[.int .i64 n,.bool ok]) (w':=W2) rfl rfl (by simp [execOp,Act.eval,go_sem]) ?_
 simp only [Act.put]
 refine Rn.op (v:=.int .i64 n) (w':=W2) rfl rfl (by simp [execOp,Act.eval,go_sem]) ?_
 simp only [Act.put]
 refine Rn.op (v:=.bool ok) (w':=W2) rfl rfl (by simp [execOp,Act.eval,go_sem]) ?_
 simp only [Act.put]
 refine Rn.op (v:=.int .i64 n) (w':=W2) rfl rfl (by simp [execOp,Act.eval,go_sem]) ?_
 simp only [Act.put]
 refine Rn.op (v:=.bool ok) (w':=W2) rfl rfl (by simp [execOp,Act.eval,go_sem]) ?_
 simp only [Act.put]
 refine Rn.regionEnd (Rn.body rfl Tryz.func182 ?_)
 cases ok
 ·go_wp2_with (first | (go_at_call 185;refine(zY H163 _ _).mono ?_;rintro e w3 ⟨rfl,rfl⟩) | (go_at_call 183;refine(zY H161 _ _ _ _ _).mono ?_;rintro e w3 ⟨rfl,f3⟩;have hrow:=(f3.same _ hz2 (fun h=>h)).trans (zY HR2);have hcell:=fun j=>cell_of_row w3 w.heap.size j _ 49 (0,0) hrow;have hfz:=fun j=>yB hrow j;have F3:=zZ f3;clear f3 hrow))
  refine xU (bodyPost_ret (v:=.tuple #[.agg #[.int .i64 0,.int .i64 0,.int .i64 0,.slice none 0 0],.int .i64 5]) (by simp [results,Tryz.results182,go_sem,hcell]) rfl ?_)
  exact zY HR _ (iI (zY F2) (zY F3) _ _ _ _) (iH (zY F2) (zY F3) (zY C2) hw1 _ _ _ _)
 ·go_wp2_with (first | (go_at_call 185;refine(zY H163 _ _).mono ?_;rintro e w3 ⟨rfl,rfl⟩) | (go_at_call 183;refine(zY H161 _ _ _ _ _).mono ?_;rintro e w3 ⟨rfl,f3⟩;have hrow:=(f3.same _ hz2 (fun h=>h)).trans (zY HR2);have hcell:=fun j=>cell_of_row w3 w.heap.size j _ 49 (0,0) hrow;have hfz:=fun j=>yB hrow j;have F3:=zZ f3;clear f3 hrow))
  refine xU (bodyPost_ret (v:=.tuple #[.agg #[.int .i64 3,.int .i64 o,.int .i64 (n % o),.slice none 0 0],.int .i64 0]) (by simp [results,Tryz.results182,go_sem,hcell]) rfl ?_)
  exact zY HR _ (iI (zY F2) (zY F3) _ _ _ _) (iH (zY F2) (zY F3) (zY C2) hw1 _ _ _ _)
theorem zU1 {w:World} {sb c0:Nat} (hs:w.cell? ⟨sb,3,none⟩=some (.chan (some c0))) (hsb:sb<w.heap.size) (hne:sb≠c0) (l:List Int) (hc:yK w c0 (l.map (.int .i64))) (o:Int) (ho1:1<=o) (ho2:o<=1000000) {R:Ending->World->Prop}
  (hR:∀w',Fr (fun k=>k=c0) w w' (fun k=>k=c0)->yK w' c0 (l.tail.map (.int .i64))->R (.returned (.tuple #[if !l.isEmpty then .agg #[.int .i64 4,.int .i64 o,.int .i64 (l.headD 0 % o),.slice none 0 0] else .agg #[.int .i64 0,.int .i64 0,.int .i64 0,.slice none 0 0],.int .i64 (if !l.isEmpty then 0 else 5)])) w') :
  Calls Tryz.prog 182 #[.pointer (some ⟨sb,0,none⟩),.int .i64 4,.int .i64 o] w R:=by
 have HR:=zZ hR
 clear hR
 refine vJ Tryz.func182 rfl ?_
 rw [Tryz.ntmps182,u95]
 simp only [List.replicate]
 have h161:=fun k o n=>lH k o n (.slice none 0 0) none 0 0 rfl
 have hf1:=(Fr.refl (fun k=>k=c0) w).alloc (.cells #[.int .i64 0,.int .i64 0,.int .i64 0,.slice none 0 0] 49)
 have hs1:(w.alloc (.cells #[.int .i64 0,.int .i64 0,.int .i64 0,.slice none 0 0] 49)).cell? ⟨sb,3,none⟩=some (.chan (some c0)):=(hf1.cell sb 3 hsb hne).trans hs
 have hc1:yK (w.alloc (.cells #[.int .i64 0,.int .i64 0,.int .i64 0,.slice none 0 0] 49)) c0 (l.map (.int .i64)):=hc.block (zR _ _ _ hc.lt)
 have hrow:=heap_alloc_new w (.cells #[.int .i64 0,.int .i64 0,.int .i64 0,.slice none 0 0] 49)
 have hw1:w.heap.size≠c0:=by have:=hc.lt;omega
 have hz1:w.heap.size<(w.alloc (.cells #[.int .i64 0,.int .i64 0,.int .i64 0,.slice none 0 0] 49)).heap.size:=by simp
 have H161:=zZ h161
 have H163:=zZ (fun n w=>eQ n o w ho1 ho2)
 have HF1:=zZ hf1
 have HROW:=zZ hrow
 have HC1:=zZ hc1
 clear h161 hf1 hrow hc1 hc hs
 refine Rn.seq (Rn.go ?_)
 go_wp2
 generalize hW:w.alloc (.cells #[.int .i64 0,.int .i64 0,.int .i64 0,.slice none 0 0] 49)=W1 at *
 clear hW
 refine yG (Rn.seq (Rn.seq (Rn.go ?_)))
 go_wp2
 refine yG (Rn.block (Rn.seq (Rn.go ?_)))
 go_wp2
 refine yG (Rn.cond (t:=false) rfl ?_)
 simp only [if_false,Bool.false_eq_true]
 refine Rn.seq (Rn.go ?_)
 go_wp2
 refine yG (Rn.cond (t:=false) rfl ?_)
 simp only [if_false,Bool.false_eq_true]
 refine Rn.seq (Rn.go ?_)
 go_wp2
 refine yG (Rn.cond (t:=false) rfl ?_)
 simp only [if_false,Bool.false_eq_true]
 refine Rn.seq (Rn.go ?_)
 go_wp2
 refine yG (Rn.cond (t:=true) rfl ?_)
 simp only [if_true]
 refine Rn.seq (Rn.region' [0,1,2,3,4,5,6,7,8,9] rfl ?_)
 refine Rn.op rfl rfl rfl ?_
 refine Rn.op rfl rfl rfl ?_
 refine Rn.op rfl rfl rfl ?_
 refine Rn.op (v:=.chan (some c0)) (w':=W1) rfl rfl ?_ ?_
 ·simp [execOp,Act.eval,Act.put,go_sem,hs1]
 refine Rn.take (c:=c0) (z:=.int .i64 0) (vs:=l.map (.int .i64)) (by decide) rfl rfl ?_ (zY HC1) ?_
 ·simp [execOp,Act.eval,Act.put,go_sem,rcase]
 intro W2 f2 c2
 have e1:(l.map (Value.int .i64)).headD (.int .i64 0)=.int .i64 (l.headD 0):=by cases l<;>rfl
 have e2:(l.map (Value.int .i64)).isEmpty=l.isEmpty:=by cases l<;>rfl
 have e3:(l.map (Value.int .i64)).tail=l.tail.map (Value.int .i64):=by cases l<;>rfl
 rw [e1,e2]
 rw [e3] at c2
 have C2:=zZ c2
 have F2:=zZ ((zY HF1).trans f2)
 have HR2:=zZ ((f2.same w.heap.size hz1 hw1).trans (zY HROW))
 have hz2:=zT hz1 f2.size
 clear e1 e2 e3 c2 f2 HC1 HROW HF1 hs1
 generalize (!l.isEmpty)=ok at *
 generalize l.headD 0=n at *
 simp only [Act.put]
 refine Rn.op (v:=.tuple #[.int .i64 n,.bool ok]) (w':=W2) rfl rfl (by simp [execOp,Act.eval,go_sem]) ?_
 simp only [Act.put]
 refine Rn.op (v:=.int .i64 n) (w':=W2) rfl rfl (by simp [execOp,Act.eval,go_sem]) ?_
 simp only [Act.put]
 refine Rn.op (v:=.bool ok) (w':=W2) rfl rfl (by simp [execOp,Act.eval,go_sem]) ?_
 simp only [Act.put]
 refine Rn.op (v:=.int .i64 n) (w':=W2) rfl rfl (by simp [execOp,Act.eval,go_sem]) ?_
 simp only [Act.put]
 refine Rn.op (v:=.bool ok) (w':=W2) rfl rfl (by simp [execOp,Act.eval,go_sem]) ?_
 simp only [Act.put]
 refine Rn.regionEnd (Rn.body rfl Tryz.func182 ?_)
 cases ok
 ·go_wp2_with (first | (go_at_call 185;refine(zY H163 _ _).mono ?_;rintro e w3 ⟨rfl,rfl⟩) | (go_at_call 183;refine(zY H161 _ _ _ _ _).mono ?_;rintro e w3 ⟨rfl,f3⟩;have hrow:=(f3.same _ hz2 (fun h=>h)).trans (zY HR2);have hcell:=fun j=>cell_of_row w3 w.heap.size j _ 49 (0,0) hrow;have hfz:=fun j=>yB hrow j;have F3:=zZ f3;clear f3 hrow))
  refine xU (bodyPost_ret (v:=.tuple #[.agg #[.int .i64 0,.int .i64 0,.int .i64 0,.slice none 0 0],.int .i64 5]) (by simp [results,Tryz.results182,go_sem,hcell]) rfl ?_)
  exact zY HR _ (iI (zY F2) (zY F3) _ _ _ _) (iH (zY F2) (zY F3) (zY C2) hw1 _ _ _ _)
 ·go_wp2_with (first | (go_at_call 185;refine(zY H163 _ _).mono ?_;rintro e w3 ⟨rfl,rfl⟩) | (go_at_call 183;refine(zY H161 _ _ _ _ _).mono ?_;rintro e w3 ⟨rfl,f3⟩;have hrow:=(f3.same _ hz2 (fun h=>h)).trans (zY HR2);have hcell:=fun j=>cell_of_row w3 w.heap.size j _ 49 (0,0) hrow;have hfz:=fun j=>yB hrow j;have F3:=zZ f3;clear f3 hrow))
  refine xU (bodyPost_ret (v:=.tuple #[.agg #[.int .i64 4,.int .i64 o,.int .i64 (n % o),.slice none 0 0],.int .i64 0]) (by simp [results,Tryz.results182,go_sem,hcell]) rfl ?_)
  exact zY HR _ (iI (zY F2) (zY F3) _ _ _ _) (iH (zY F2) (zY F3) (zY C2) hw1 _ _ _ _)
theorem pH {w:World} {B:Nat} {v:Value} {l:List Int} (h:yZ w B v l):∃a n c,v=.slice a n c:=by
 rcases h.2 with ⟨h1,_⟩ | ⟨g,cap,cur,hv,_⟩
 ·exact⟨_,_,_,h1⟩
 ·exact⟨_,_,_,hv⟩
theorem zD8 {w:World} {sb c0:Nat} (hs:w.cell? ⟨sb,1,none⟩=some (.chan (some c0))) (hsb:sb<w.heap.size) (hne:sb≠c0) (bs:List (Value×List Int)) (hc:yK w c0 (bs.map (·.1))) (hin:∀p,p∈bs->yJ w p.1 p.2 (fun q=>q<w.heap.size/\q≠c0)/\p.2.length<=100000000) (o:Int) {R:Ending->World->Prop}
  (hR:∀w' fv,Fr (fun k=>k=c0) w w' (fun k=>k=c0)->yK w' c0 (bs.tail.map (·.1))->(bs≠[]->yZ w' (w.heap.size+1) fv (vF (bs.headD (.slice none 0 0,[])).2))->R (.returned (.tuple #[if !bs.isEmpty then .agg #[.int .i64 2,.int .i64 0,.int .i64 0,fv] else .agg #[.int .i64 0,.int .i64 0,.int .i64 0,.slice none 0 0],.int .i64 (if !bs.isEmpty then 0 else 5)])) w') :
  Calls Tryz.prog 182 #[.pointer (some ⟨sb,0,none⟩),.int .i64 2,.int .i64 o] w R:=by
 have HR:=zZ hR
 clear hR
 refine vJ Tryz.func182 rfl ?_
 rw [Tryz.ntmps182,u95]
 simp only [List.replicate]
 have h161:=fun k o n a l c=>lH k o n (.slice a l c) a l c rfl
 have hf1:=(Fr.refl (fun k=>k=c0) w).alloc (.cells #[.int .i64 0,.int .i64 0,.int .i64 0,.slice none 0 0] 49)
 have hs1:(w.alloc (.cells #[.int .i64 0,.int .i64 0,.int .i64 0,.slice none 0 0] 49)).cell? ⟨sb,1,none⟩=some (.chan (some c0)):=(hf1.cell sb 1 hsb hne).trans hs
 have hc1:yK (w.alloc (.cells #[.int .i64 0,.int .i64 0,.int .i64 0,.slice none 0 0] 49)) c0 (bs.map (·.1)):=hc.block (zR _ _ _ hc.lt)
 have hrow:=heap_alloc_new w (.cells #[.int .i64 0,.int .i64 0,.int .i64 0,.slice none 0 0] 49)
 have hw1:w.heap.size≠c0:=by have:=hc.lt;omega
 have hz1:w.heap.size<(w.alloc (.cells #[.int .i64 0,.int .i64 0,.int .i64 0,.slice none 0 0] 49)).heap.size:=by simp
 have H161:=zZ h161
 have HIN:=zZ hin
 have HF1:=zZ hf1
 have HROW:=zZ hrow
 have HC1:=zZ hc1
 clear h161 hf1 hrow hc1 hc hs hin
 refine Rn.seq (Rn.go ?_)
 go_wp2
 generalize hW:w.alloc (.cells #[.int .i64 0,.int .i64 0,.int .i64 0,.slice none 0 0] 49)=W1 at *
 clear hW
 refine yG (Rn.seq (Rn.seq (Rn.go ?_)))
 go_wp2
 refine yG (Rn.block (Rn.seq (Rn.go ?_)))
 go_wp2
 refine yG (Rn.cond (t:=false) rfl ?_)
 simp only [if_false,Bool.false_eq_true]
 refine Rn.seq (Rn.go ?_)
 go_wp2
 refine yG (Rn.cond (t:=true) rfl ?_)
 simp only [if_true]
 refine Rn.seq (Rn.region' [0,1,2,3,4,5,6,7,8,9] rfl ?_)
 refine Rn.op rfl rfl rfl ?_
 refine Rn.op rfl rfl rfl ?_
 refine Rn.op rfl rfl rfl ?_
 refine Rn.op (v:=.chan (some c0)) (w':=W1) rfl rfl ?_ ?_
 ·simp [execOp,Act.eval,Act.put,go_sem,hs1]
 refine Rn.take (c:=c0) (z:=.slice none 0 0) (vs:=bs.map (·.1)) (by decide) rfl rfl ?_ (zY HC1) ?_
 ·simp [execOp,Act.eval,Act.put,go_sem,rcase]
 intro W2 f2 c2
 have hI:yJ W2 (bs.headD (.slice none 0 0,[])).1 (bs.headD (.slice none 0 0,[])).2 (fun q=>q<W2.heap.size)/\(bs.headD (.slice none 0 0,[])).2.length<=100000000:=by
  cases bs with
  | nil=>exact⟨⟨none,0,rfl,.inl rfl⟩,by simp⟩
  | cons p r=>
   obtain⟨⟨a,c,ha,hq⟩,hl⟩:=zY HIN p (List.mem_cons_self ..)
   refine⟨⟨a,c,ha,hq.imp id fun ⟨q,off,h1,h2,h3⟩=>⟨q,off,h1,?_,fun i hi=>?_⟩⟩,hl⟩
   ·exact zT h2.1 (Nat.le_trans (zY HF1).size f2.size)
   ·exact(((zY HF1).trans f2).cell q (off+i) h2.1 h2.2).trans (h3 i hi)
 have e1:(bs.map (·.1)).headD (.slice none 0 0)=(bs.headD (.slice none 0 0,[])).1:=by cases bs<;>rfl
 have e2:(bs.map (·.1)).isEmpty=bs.isEmpty:=by cases bs<;>rfl
 have e3:(bs.map (·.1)).tail=bs.tail.map (·.1):=by cases bs<;>rfl
 have e4:(!bs.isEmpty)=false->bs=[]:=by cases bs<;>simp
 rw [e1,e2]
 rw [e3] at c2
 have C2:=zZ c2
 have F2:=zZ ((zY HF1).trans f2)
 have HR2:=zZ ((f2.same w.heap.size hz1 hw1).trans (zY HROW))
 have hz2:=zT hz1 f2.size
 have H162:=zZ (zT0 (fun q h=>h) hI.1 hI.2)
 obtain⟨⟨fa,fc,hfv,_⟩,_⟩:=hI
 have E4:=zZ e4
 clear e1 e2 e3 e4 c2 f2 HC1 HROW HF1 hs1 HIN
 generalize hok:(!bs.isEmpty)=ok at *
 have HOK:=zZ hok
 clear hok
 generalize hp:bs.headD (.slice none 0 0,[])=p at *
 clear hp
 obtain⟨pv,l⟩:=p
 simp only at hfv H162 HR
 subst hfv
 simp only [Act.put]
 refine Rn.op (v:=.tuple #[.slice fa l.length fc,.bool ok]) (w':=W2) rfl rfl (by simp [execOp,Act.eval,go_sem]) ?_
 simp only [Act.put]
 refine Rn.op (v:=.slice fa l.length fc) (w':=W2) rfl rfl (by simp [execOp,Act.eval,go_sem]) ?_
 simp only [Act.put]
 refine Rn.op (v:=.bool ok) (w':=W2) rfl rfl (by simp [execOp,Act.eval,go_sem]) ?_
 simp only [Act.put]
 refine Rn.op (v:=.slice fa l.length fc) (w':=W2) rfl rfl (by simp [execOp,Act.eval,go_sem]) ?_
 simp only [Act.put]
 refine Rn.op (v:=.bool ok) (w':=W2) rfl rfl (by simp [execOp,Act.eval,go_sem]) ?_
 simp only [Act.put]
 refine Rn.regionEnd (Rn.body rfl Tryz.func182 ?_)
 cases ok
 ·go_wp2_with (first
   | (go_at_call 184;refine(zY H162).mono ?_;rintro e w4 ⟨v4,rfl,o4,f4⟩;obtain⟨a4,n4,c4,rfl⟩:=pH o4;have F4:=zZ f4;clear f4)
   | (go_at_call 183;refine(zY H161 _ _ _ _ _ _ _ _).mono ?_;rintro e w3 ⟨rfl,f3⟩;have f5:=(zY F4).trans f3;have hrow:=(f5.same _ hz2 (fun h=>h)).trans (zY HR2);have hcell:=fun j=>cell_of_row w3 w.heap.size j _ 49 (0,0) hrow;have hfz:=fun j=>yB hrow j;have F3:=zZ f5;clear f3 f5 hrow))
  refine xU (bodyPost_ret (v:=.tuple #[.agg #[.int .i64 0,.int .i64 0,.int .i64 0,.slice none 0 0],.int .i64 5]) (by simp [results,Tryz.results182,go_sem,hcell]) rfl ?_)
  exact zY HR _ (.slice none 0 0) (iI (zY F2) (zY F3) _ _ _ _) (iH (zY F2) (zY F3) (zY C2) hw1 _ _ _ _) (fun h=>absurd (zY E4 trivial) h)
 ·go_wp2_with (first
   | (go_at_call 184;refine(zY H162).mono ?_;rintro e w4 ⟨v4,rfl,o4,f4⟩;obtain⟨a4,n4,c4,rfl⟩:=pH o4;have O4:=zZ o4;have F4:=zZ f4;clear o4 f4)
   | (go_at_call 183;refine(zY H161 _ _ _ _ _ _ _ _).mono ?_;rintro e w3 ⟨rfl,f3⟩;have f5:=(zY F4).trans f3;have hrow:=(f5.same _ hz2 (fun h=>h)).trans (zY HR2);have hcell:=fun j=>cell_of_row w3 w.heap.size j _ 49 (0,0) hrow;have hfz:=fun j=>yB hrow j;have O5:=zZ (yA (zY O4) (fun q hq=>f3.same q (zS (zY O4) q hq).2 (fun h=>h)));have F3:=zZ f5;clear f3 f5 hrow))
  refine xU (bodyPost_ret (v:=.tuple #[.agg #[.int .i64 2,.int .i64 0,.int .i64 0,.slice a4 n4 c4],.int .i64 0]) (by simp [results,Tryz.results182,go_sem,hcell]) rfl ?_)
  refine zY HR _ (.slice a4 n4 c4) (iI (zY F2) (zY F3) _ _ _ _) (iH (zY F2) (zY F3) (zY C2) hw1 _ _ _ _) (fun _=>?_)
  have o5:=zY O5
  have hlow:∀q,own (.slice a4 n4 c4) q->w.heap.size+1<=q:=fun q hq=>by have:=(zS o5 q hq).1;omega
  refine⟨o5.1,?_⟩
  have o6:=yA (w':=(((w3.setCell ⟨w.heap.size,0,none⟩ (.int .i64 2)).setCell ⟨w.heap.size,1,none⟩ (.int .i64 0)).setCell ⟨w.heap.size,2,none⟩ (.int .i64 0)).setCell ⟨w.heap.size,3,none⟩ (.slice a4 n4 c4)) o5 (fun q hq=>by
   have hne:q≠w.heap.size:=by have:=hlow q hq;omega
   rw [zQ _ _ _ _ hne,zQ _ _ _ _ hne,zQ _ _ _ _ hne,zQ _ _ _ _ hne])
  exact o6.2.imp id fun ⟨g,cap,cur,e1,e2,r⟩=>⟨g,cap,cur,e1,by omega,r⟩
end Go.Proofs.YtfmbebofllgmoaaGreatDoor
namespace Go.Proofs.YtfmbebofllgmoaaGreatDoor
open Go.RowKit
attribute [local go_sem ↓] Go.wp_at_zero Go.wp_at_succ
structure Answ (w1:World) (z0 z1 z2:Int) (a:Option Addr) (l c:Nat) (en:Int) (bd:ByteArray):Prop where
 len:en=0->bd.size<=1000/\0<bd.size
 body:en=0->∀W,(∀q,own (.slice a l c) q->W.heap[q]?=w1.heap[q]?)->w1.heap.size<=W.heap.size->Calls Tryz.prog 102 #[.agg #[.int .i64 z0,.int .i64 z1,.int .i64 z2,.slice a l c]] W fun e w'=>∃v',e=.returned v'/\uX w' W.heap.size v' bd/\Fr (fun _=>False) W w' (fun _=>False)
 old:∀q,own (.slice a l c) q->q<w1.heap.size
theorem rJ.block {w w':World} {lb B:Nat} {v:Value} {b:ByteArray} (h:rJ w lb B v b) (hb:∀q,lgS lb v q->w'.heap[q]?=w.heap[q]?) (hz:w.heap.size<=w'.heap.size):rJ w' lb B v b:=
 ⟨(zO (w:=w) (a:=⟨lb,0,none⟩) (hb lb (.inl rfl))).trans h.cell,(zP (w:=w) (a:=⟨lb,0,none⟩) (hb lb (.inl rfl))).trans h.free,h.row.block (fun q hq=>hb q (.inr hq)),h.sep,zT h.lt hz⟩
def boxW (w1:World) (z0 z1 z2:Int) (a:Option Addr) (l c:Nat):World:=w1.alloc (.cells #[.int .i64 z0,.int .i64 z1,.int .i64 z2,.slice a l c] 49)
theorem zL9 {W:World} {g:Nat} {a0 a1 a2 a3:Value} (h:W.heap[g]?=some (.cells #[a0,a1,a2,a3] 49)) (x0 x1 x2 x3:Value) :
  ((((W.setCell ⟨g,0,none⟩ x0).setCell ⟨g,1,none⟩ x1).setCell ⟨g,2,none⟩ x2).setCell ⟨g,3,none⟩ x3).heap[g]?=some (.cells #[x0,x1,x2,x3] 49):=by
 have h0:=setRow_heap W g #[a0,a1,a2,a3] (#[a0,a1,a2,a3].setIfInBounds 0 x0) 49 (0,0) h
 rw [<-setCell_eq_setRow W g 0 _ 49 (0,0) x0 h] at h0
 have h1:=setRow_heap _ g _ ((#[a0,a1,a2,a3].setIfInBounds 0 x0).setIfInBounds 1 x1) 49 (0,0) h0
 rw [<-setCell_eq_setRow _ g 1 _ 49 (0,0) x1 h0] at h1
 have h2:=setRow_heap _ g _ (((#[a0,a1,a2,a3].setIfInBounds 0 x0).setIfInBounds 1 x1).setIfInBounds 2 x2) 49 (0,0) h1
 rw [<-setCell_eq_setRow _ g 2 _ 49 (0,0) x2 h1] at h2
 have h3:=setRow_heap _ g _ ((((#[a0,a1,a2,a3].setIfInBounds 0 x0).setIfInBounds 1 x1).setIfInBounds 2 x2).setIfInBounds 3 x3) 49 (0,0) h2
 rw [<-setCell_eq_setRow _ g 3 _ 49 (0,0) x3 h2] at h3
 exact h3
theorem tD {W:World} {g q:Nat} (hq:q≠g) (x0 x1 x2 x3:Value):((((W.setCell ⟨g,0,none⟩ x0).setCell ⟨g,1,none⟩ x1).setCell ⟨g,2,none⟩ x2).setCell ⟨g,3,none⟩ x3).heap[q]?=W.heap[q]?:=by
 rw [zQ _ _ _ _ hq,zQ _ _ _ _ hq,zQ _ _ _ _ hq,zQ _ _ _ _ hq]
theorem lP {W:World} {g:Nat} (x0 x1 x2 x3:Value):((((W.setCell ⟨g,0,none⟩ x0).setCell ⟨g,1,none⟩ x1).setCell ⟨g,2,none⟩ x2).setCell ⟨g,3,none⟩ x3).heap.size=W.heap.size:=by simp [World.setCell]
theorem qR {S S':Nat->Prop} {w W:World} (h:Fr S w W S') {g:Nat} (hg:S g\/w.heap.size<=g) (x0 x1 x2 x3:Value):Fr S w ((((W.setCell ⟨g,0,none⟩ x0).setCell ⟨g,1,none⟩ x1).setCell ⟨g,2,none⟩ x2).setCell ⟨g,3,none⟩ x3) S':=
 (((h.setCell _ _ hg).setCell _ _ hg).setCell _ _ hg).setCell _ _ hg
theorem yN0 {w:World} {rb sb lb B:Nat} {v:Value} {log:ByteArray} (c0:w.cell? ⟨rb,0,none⟩=some (.pointer (some ⟨sb,0,none⟩))) (c1:w.cell? ⟨rb,1,none⟩=some (.pointer (some ⟨lb,0,none⟩))) (hrb:rb<w.heap.size) (hB:B<=w.heap.size) (hlog:log.size<=800000000) (hlb:lb<w.heap.size) (k o:Int)
  (Q:World->Int->Int->Int->Option Addr->Nat->Nat->Int->ByteArray->Prop)
  (h160:Calls Tryz.prog 182 #[.pointer (some ⟨sb,0,none⟩),.int .i64 k,.int .i64 o] (w.alloc (.cells #[.int .i64 0,.int .i64 0,.int .i64 0,.slice none 0 0] 49)) fun e w1=>∃z0 z1 z2 a l c en bd,e=.returned (.tuple #[.agg #[.int .i64 z0,.int .i64 z1,.int .i64 z2,.slice a l c],.int .i64 en])/\Answ w1 z0 z1 z2 a l c en bd/\rJ w1 lb B v log/\
   w1.heap[rb]?=w.heap[rb]?/\w1.heap[w.heap.size]?=some (.cells #[.int .i64 0,.int .i64 0,.int .i64 0,.slice none 0 0] 49)/\(¬own v w.heap.size)/\Q w1 z0 z1 z2 a l c en bd) :
  Calls Tryz.prog 181 #[.pointer (some ⟨rb,0,none⟩),.int .i64 k,.int .i64 o] w fun e w'=>∃w1 z0 z1 z2 a l c en bd v',e=.returned (.tuple #[.agg #[.int .i64 z0,.int .i64 z1,.int .i64 z2,.slice a l c],.int .i64 en])/\Q w1 z0 z1 z2 a l c en bd/\rJ w' lb B v' (if en=0 then log++yS bd else log)/\
   Fr (fun k=>lgS lb v k\/k=w.heap.size) w1 w' (fun k=>lgS lb v' k\/k=w.heap.size)/\¬own v' w.heap.size:=by
 have k0:(w.alloc (.cells #[.int .i64 0,.int .i64 0,.int .i64 0,.slice none 0 0] 49)).cell? ⟨rb,0,none⟩=some (.pointer (some ⟨sb,0,none⟩)):=(zO (w:=w) (a:=⟨rb,0,none⟩) (zR _ _ _ hrb)).trans c0
 have C1:=zZ c1
 clear c0 c1
 generalize hpost:(fun (e:Ending) (w':World)=>∃w1 z0 z1 z2 a l c en bd v',e=.returned (.tuple #[.agg #[.int .i64 z0,.int .i64 z1,.int .i64 z2,.slice a l c],.int .i64 en])/\Q w1 z0 z1 z2 a l c en bd/\rJ w' lb B v' (if en=0 then log++yS bd else log)/\
   Fr (fun k=>lgS lb v k\/k=w.heap.size) w1 w' (fun k=>lgS lb v' k\/k=w.heap.size)/\¬own v' w.heap.size)=R
 have HP:=zZ hpost
 clear hpost
 have H160:=zZ h160
 clear h160
 go_enter Tryz.func181,Tryz.ntmps181
 go_wp2_with fail
 go_at_call 182
 refine(zY H160).mono ?_
 rintro e w1 ⟨z0,z1,z2,a,l,c,en,bd,rfl,an,lg,hr,hz,hv,hq⟩
 have hrz:rb<w1.heap.size:=by rw [Array.getElem?_eq_getElem hrb] at hr;exact(zN.1 hr).1
 have hwz:w.heap.size<w1.heap.size:=(zN.1 hz).1
 have hbox:=heap_alloc_new w1 (.cells #[.int .i64 z0,.int .i64 z1,.int .i64 z2,.slice a l c] 49)
 have hr2:(boxW w1 z0 z1 z2 a l c).heap[w.heap.size]?=some (.cells #[.int .i64 0,.int .i64 0,.int .i64 0,.slice none 0 0] 49):=(zR _ _ _ hwz).trans hz
 have d1:(boxW w1 z0 z1 z2 a l c).cell? ⟨rb,1,none⟩=some (.pointer (some ⟨lb,0,none⟩)):=(zO (w:=w) (a:=⟨rb,1,none⟩) ((zR _ _ _ hrz).trans hr)).trans (zY C1)
 have AN:=zZ an
 have LG:=zZ lg
 have HV:=zZ hv
 have HQ:=zZ hq
 have HB2:=zZ hbox
 have HR2:=zZ hr2
 have HZ:=zZ hz
 clear hr hz hv hq hbox hr2 an lg
 unfold boxW at *
 have q0:w1.cell? ⟨w.heap.size,0,none⟩=some (.int .i64 0):=cell_of_row _ _ 0 _ 49 (0,0) (zY HZ)
 have q1:w1.cell? ⟨w.heap.size,1,none⟩=some (.int .i64 0):=cell_of_row _ _ 1 _ 49 (0,0) (zY HZ)
 have q2:w1.cell? ⟨w.heap.size,2,none⟩=some (.int .i64 0):=cell_of_row _ _ 2 _ 49 (0,0) (zY HZ)
 have q3:w1.cell? ⟨w.heap.size,3,none⟩=some (.slice none 0 0):=cell_of_row _ _ 3 _ 49 (0,0) (zY HZ)
 have qf:=fun j=>yB (zY HZ) j
 have hne:w.heap.size≠w1.heap.size:=by omega
 have hne':¬w1.heap.size=w.heap.size:=by omega
 by_cases he:en=0
 ·subst he
  have h70:=cA (w:=(w1.alloc (.cells #[.int .i64 z0,.int .i64 z1,.int .i64 z2,.slice a l c] 49)).drew) (lb:=lb) (B:=B) (v:=v) (b:=log) (bd:=bd)
   ((
     zY LG).block (fun q hq=>zR _ _ _ (by
     rcases hq with rfl | hq
     ·exact(zY LG).lt
     ·exact((zY LG).row.bump q hq).2)) (by show w1.heap.size<=(w1.alloc _).heap.size;simp))
   (by show B<=(w1.alloc _).heap.size;simp;omega) (.int .i64 z0) (.int .i64 z1) (.int .i64 z2) a l c z0 z1 z2 rfl rfl rfl ((zY AN).len rfl).1 ((zY AN).len rfl).2 hlog
   (by
    have hz3:(((w1.alloc (.cells #[.int .i64 z0,.int .i64 z1,.int .i64 z2,.slice a l c] 49)).drew).alloc (.cells #[.int .i64 z0,.int .i64 z1,.int .i64 z2,.slice a l c] 49)).heap.size=(w1.alloc (.cells #[.int .i64 z0,.int .i64 z1,.int .i64 z2,.slice a l c] 49)).drew.heap.size+1:=by simp
    have:=(zY AN).body rfl (((w1.alloc (.cells #[.int .i64 z0,.int .i64 z1,.int .i64 z2,.slice a l c] 49)).drew).alloc (.cells #[.int .i64 z0,.int .i64 z1,.int .i64 z2,.slice a l c] 49))
     (fun q hq=>(zR _ _ _ (by show q<(w1.alloc _).heap.size;have:=(zY AN).old q hq;simp;omega)).trans (zR _ _ _ ((zY AN).old q hq)))
     (by rw [hz3];show w1.heap.size<=(w1.alloc _).heap.size+1;simp;omega)
    rw [hz3] at this
    exact this)
  have H70:=zZ h70
  have nl:¬lgS lb v w.heap.size:=fun h=>h.elim (fun h=>by omega) (zY HV)
  have nb:¬lgS lb v w1.heap.size:=fun h=>h.elim (fun h=>by have:=(zY LG).lt;omega) (fun h=>by have:=((zY LG).row.bump _ h).2;omega)
  have NL:=zZ nl
  have NB:=zZ nb
  clear h70 nl nb
  go_wp2
  go_region_with (go_at_call 64;refine(zY H70).mono ?_;rintro e w2 ⟨v2,rfl,l2,f2⟩;have r1:=(f2.same w.heap.size (by show _<(w1.alloc _).heap.size;simp;omega) (zY NL)).trans (zY HR2);have r2:=(f2.same w1.heap.size (by show _<(w1.alloc _).heap.size;simp) (zY NB)).trans (zY HB2);have t0:=fun j=>cell_of_row w2 _ j _ 49 (0,0) r1;have t1:=fun j=>cell_of_row w2 _ j _ 49 (0,0) r2;have tf:=fun j=>yB r1 j;have L2:=zZ l2;have F2:=zZ f2;have R1:=zZ r1;clear l2 f2 r1 r2)
  all_goals
   go_wp2
   have g0:=fun j=>cell_of_row _ _ j _ 49 (0,0) (zL9 (zY R1) (.int .i64 z0) (.int .i64 z1) (.int .i64 z2) (.slice a l c))
   refine bodyPost_ret (v:=.tuple #[.agg #[.int .i64 z0,.int .i64 z1,.int .i64 z2,.slice a l c],.int .i64 0]) (by simp [results,Tryz.results181,go_sem,g0]) rfl ?_
   rw [<-zY HP]
   have f2:=zY F2
   have hn:¬lgS lb v2 w.heap.size:=fun h=>zY NL (f2.old _ (by show _<(w1.alloc _).heap.size;simp;omega) h)
   refine⟨w1,z0,z1,z2,a,l,c,0,bd,v2,rfl,zY HQ,?_,?_,fun h=>hn (.inr h)⟩
   ·rw [if_pos rfl]
    exact(zY L2).block (fun q hq=>tD (by rintro rfl;exact hn hq) _ _ _ _) (Nat.le_of_eq (lP _ _ _ _).symm)
   ·have f3:Fr (lgS lb v) w1 w2 (lgS lb v2):=Fr.unalloc (o:=.cells #[.int .i64 z0,.int .i64 z1,.int .i64 z2,.slice a l c] 49) ⟨f2.os,f2.tape,f2.output,f2.size,f2.same,f2.old⟩
    have f4:Fr (fun k=>lgS lb v k\/k=w.heap.size) w1 w2 (fun k=>lgS lb v2 k\/k=w.heap.size):=⟨f3.os,f3.tape,f3.output,f3.size,fun k hk hn=>f3.same k hk (fun h=>hn (.inl h)),fun k hk h=>h.imp (f3.old k hk) id⟩
    exact qR f4 (.inl (.inr rfl)) _ _ _ _
 ·have hen:(en==0)=false:=by simpa using he
  have hfin:(((((w1.setCell ⟨w.heap.size,0,none⟩ (.int .i64 z0)).setCell ⟨w.heap.size,1,none⟩ (.int .i64 z1)).setCell ⟨w.heap.size,2,none⟩ (.int .i64 z2)).setCell ⟨w.heap.size,3,none⟩ (.slice a l c)).alloc (.cells #[.int .i64 z0,.int .i64 z1,.int .i64 z2,.slice a l c] 49)).heap[w.heap.size]?=some (.cells #[.int .i64 z0,.int .i64 z1,.int .i64 z2,.slice a l c] 49):=
   (zR _ _ _ (by rw [lP];exact hwz)).trans (zL9 (zY HZ) _ _ _ _)
  have g0:=fun j=>cell_of_row _ _ j _ 49 (0,0) hfin
  have HFIN:=zZ hfin
  clear hfin
  have G0:=zZ g0
  clear g0
  go_wp2
  have g0:=zY G0
  refine bodyPost_ret (v:=.tuple #[.agg #[.int .i64 z0,.int .i64 z1,.int .i64 z2,.slice a l c],.int .i64 en]) (by simp [results,Tryz.results181,go_sem,g0]) rfl ?_
  rw [<-zY HP]
  refine⟨w1,z0,z1,z2,a,l,c,en,bd,v,rfl,zY HQ,?_,?_,zY HV⟩
  ·rw [if_neg he]
   refine(zY LG).block (fun q hq=>?_) ?_
   ·have hlt:q<w1.heap.size:=by
     rcases hq with rfl | hq
     ·exact(zY LG).lt
     ·exact((zY LG).row.bump q hq).2
    have hn:q≠w.heap.size:=by
     rintro rfl
     rcases hq with hq | hq
     ·omega
     ·exact zY HV hq
    exact(zR _ _ _ (by rw [lP];exact hlt)).trans (tD hn _ _ _ _)
   ·rw [<-lP (W:=w1) (g:=w.heap.size) (.int .i64 z0) (.int .i64 z1) (.int .i64 z2) (.slice a l c)];simp
  ·exact(qR (Fr.refl (fun k=>lgS lb v k\/k=w.heap.size) w1) (.inl (.inr rfl)) _ _ _ _).alloc _
end Go.Proofs.YtfmbebofllgmoaaGreatDoor
namespace Go.Proofs.YtfmbebofllgmoaaGreatDoor
open Go.RowKit
structure RS where
 clocks:List Int
 batches:List (Value×List Int)
 picks:List Int
 lots:List Int
 log:ByteArray
def RS.left (x:RS):Nat:=x.clocks.length+x.batches.length+x.picks.length+x.lots.length
def xB:Rep:=⟨0,0,0,[],5⟩
def vK (n:Int):Int:=min (max n 0) 1099511627776
def yF (x:RS) (k o:Int):Rep×RS:=
 if k=1 then match x.clocks with
  | []=>(xB,x)
  | n::r=>(⟨1,0,vK n,[],0⟩,{x with clocks:=r,log:=x.log++yS (yT 1 0 (vK n).toNat)})
 else if k=2 then match x.batches with
  | []=>(xB,x)
  | b::r=>(⟨2,0,0,vF b.2,0⟩,{x with batches:=r,log:=x.log++yS (uZ (vF b.2))})
 else if k=3 then match x.picks with
  | []=>(xB,x)
  | n::r=>(⟨3,o,n % o,[],0⟩,{x with picks:=r,log:=x.log++yS (yT 3 o.toNat (n % o).toNat)})
 else match x.lots with
  | []=>(xB,x)
  | n::r=>(⟨4,o,n % o,[],0⟩,{x with lots:=r,log:=x.log++yS (yT 4 o.toNat (n % o).toNat)})
def aS (k o:Int):Prop:=(k=1/\o=0)\/(k=2/\o=0)\/(k=3/\2<=o/\o<=8)\/(k=4/\1<=o/\o<=1000000)
theorem lL:pT aS:=⟨.inl ⟨rfl,rfl⟩,.inr (.inl ⟨rfl,rfl⟩),fun n h1 h2=>.inr (.inr (.inl ⟨rfl,by omega,by omega⟩)),fun v h1 h2=>.inr (.inr (.inr ⟨rfl,h1,h2⟩))⟩
structure iS (rb sb lb c0 c1 c2 c3 B:Nat) (v:Value) (L:Nat->Prop) (ob:Nat->Option Obj) (T:Nat->Prop) (w:World) (x:RS):Prop where
 r0:w.cell? ⟨rb,0,none⟩=some (.pointer (some ⟨sb,0,none⟩))
 r1:w.cell? ⟨rb,1,none⟩=some (.pointer (some ⟨lb,0,none⟩))
 s0:w.cell? ⟨sb,0,none⟩=some (.chan (some c0))
 s1:w.cell? ⟨sb,1,none⟩=some (.chan (some c1))
 s2:w.cell? ⟨sb,2,none⟩=some (.chan (some c2))
 s3:w.cell? ⟨sb,3,none⟩=some (.chan (some c3))
 h0:yK w c0 (x.clocks.map (.int .i64))
 h1:yK w c1 (x.batches.map (·.1))
 h2:yK w c2 (x.picks.map (.int .i64))
 h3:yK w c3 (x.lots.map (.int .i64))
 log:rJ w lb B v x.log
 low:B<=w.heap.size
 nod:[rb,sb,lb,c0,c1,c2,c3].Nodup
 inT:∀q,q∈[rb,sb,lb,c0,c1,c2,c3]->T q/\¬L q/\¬own v q
 vT:∀q,own v q->T q/\¬L q
 lT:∀q,L q->T q
 lent:∀q,L q->w.heap[q]?=ob q
 bs:∀p,p∈x.batches->yJ w p.1 p.2 L/\p.2.length<=100000000
 room:x.log.size+40*x.left<=700000000
def RecA (rb:Nat) (L:Nat->Prop) (ob:Nat->Option Obj) (T:Nat->Prop) (w:World) (x:RS):Prop:=∃sb lb c0 c1 c2 c3 B v,iS rb sb lb c0 c1 c2 c3 B v L ob T w x
theorem yJ.block {w w':World} {v:Value} {l:List Int} {P:Nat->Prop} (h:yJ w v l P) (hb:∀q,P q->w'.heap[q]?=w.heap[q]?):yJ w' v l P:=by
 obtain⟨a,c,hv,hc⟩:=h
 refine⟨a,c,hv,hc.imp id fun ⟨q,off,e,hq,hcell⟩=>⟨q,off,e,hq,fun i hi=>?_⟩⟩
 rw [zO (w:=w) (a:=⟨q,off+i,none⟩) (hb q hq)]
 exact hcell i hi
theorem yG1 (rb:Nat) (L:Nat->Prop) (ob:Nat->Option Obj):xC (RecA rb L ob):=by
 constructor
 rintro S w w' x ⟨sb,lb,c0,c1,c2,c3,B,v,h⟩ hs hz
 have m:=fun q hq=>hs q (h.inT q hq).1
 have cel:=fun q hq off=>zO (w:=w) (w':=w') (a:=⟨q,off,none⟩) (m q hq)
 refine⟨sb,lb,c0,c1,c2,c3,B,v,?_,?_,?_,?_,?_,?_,h.h0.block (m _ (by simp)),h.h1.block (m _ (by simp)),h.h2.block (m _ (by simp)),h.h3.block (m _ (by simp)),?_,Nat.le_trans h.low hz,h.nod,h.inT,h.vT,h.lT,?_,?_,h.room⟩
 ·exact(cel rb (by simp) 0).trans h.r0
 ·exact(cel rb (by simp) 1).trans h.r1
 ·exact(cel sb (by simp) 0).trans h.s0
 ·exact(cel sb (by simp) 1).trans h.s1
 ·exact(cel sb (by simp) 2).trans h.s2
 ·exact(cel sb (by simp) 3).trans h.s3
 ·exact h.log.block (fun q hq=>by
   rcases hq with rfl | hq
   ·exact m _ (by simp)
   ·exact hs q (h.vT q hq).1) hz
 ·exact fun q hq=>(hs q (h.lT q hq)).trans (h.lent q hq)
 ·exact fun p hp=>⟨(h.bs p hp).1.block (fun q hq=>hs q (h.lT q hq)),(h.bs p hp).2⟩
theorem rM (l:List Int) (z:Int) (h:z∈vF l):0<=z/\z<8:=zJ2 _ 8 z h
theorem mI (l:List Int):(vF l).length<=8:=oC _ 8
theorem qU:uF yF (fun x=>x.clocks.length):=by
 refine⟨?_,?_,?_,?_,?_,?_⟩
 ·intro x k o
  simp only [yF]
  split
  ·split<;>simp_all
  ·split
   ·split<;>simp
   ·split
    ·split<;>simp
    ·split<;>simp
 ·intro x h
  simp only [yF,if_true] at h ⊢
  split at h
  ·simp [xB] at h
  ·rename_i n r hx
   simp [hx]
 ·intro x h
  simp only [yF,if_true] at h ⊢
  split at h
  ·simp [xB] at h
  ·rename_i n r hx
   simp only [vK]
   omega
 ·intro x n h2 h8 h
  have e1:¬(3:Int)=1:=by omega
  have e2:¬(3:Int)=2:=by omega
  simp only [yF,e1,e2,if_false,if_true] at h ⊢
  split at h
  ·simp [xB] at h
  ·exact⟨Int.emod_nonneg _ (by omega),Int.emod_lt_of_pos _ (by omega)⟩
 ·intro x z h
  have e1:¬(2:Int)=1:=by omega
  simp only [yF,e1,if_false,if_true] at h
  split at h
  ·simp [xB] at h
  ·exact rM _ z h
 ·intro x
  have e1:¬(2:Int)=1:=by omega
  simp only [yF,e1,if_false,if_true]
  split
  ·simp [xB]
  ·exact mI _
theorem zR5 (k:Nat):∀n,n<128 ^ k->(xN n).size<=k+1:=by
 induction k with
 | zero=>intro n h;rw [sK,if_pos (by omega)];simp
 | succ k ih=>
  intro n h
  rw [sK]
  by_cases hn:n<128
  ·rw [if_pos hn];simp
  ·rw [if_neg hn,ByteArray.size_append]
   have h1:n / 128<128 ^ k:=by
    rw [Nat.div_lt_iff_lt_mul (by omega)]
    rw [Nat.pow_succ] at h
    exact h
   have:=ih (n / 128) h1
   simp
   omega
theorem dX (n:Nat) (h:n<128):(xN n).size=1:=by rw [sK,if_pos h];simp
theorem eX (k:Nat):(one k).size=1:=by unfold one;simp
theorem zY3 (b:ByteArray):(pP b).size=4:=bT _
theorem sQ (b:ByteArray) (h:b.size<=32):(yS b).size<=40:=by
 unfold yS
 rw [ByteArray.size_append,ByteArray.size_append,zY3,dX _ (by omega)]
 omega
theorem pA (k o n:Nat) (ho:o<=1099511627776) (hn:n<=1099511627776):(yT k o n).size<=32/\0<(yT k o n).size:=by
 have h1:=zR5 6 o (by omega)
 have h2:=zR5 6 n (by omega)
 unfold yT
 split
 ·rw [ByteArray.size_append,ByteArray.size_append,eX];omega
 ·rw [ByteArray.size_append,eX];omega
theorem zD1 (l:List Int) (hz:∀z,z∈l->0<=z/\z<8):∀r,(uI l r).size=r.size+l.length:=by
 induction l with
 | nil=>intro r;simp [uI]
 | cons z l ih=>
  intro r
  have h:=hz z (List.mem_cons_self ..)
  have:=ih (fun z hm=>hz z (List.mem_cons_of_mem _ hm)) (r++xN z.toNat)
  simp only [uI,List.foldl_cons] at this ⊢
  rw [this,ByteArray.size_append,dX _ (by omega),List.length_cons]
  omega
theorem iU (l:List Int) (hz:∀z,z∈l->0<=z/\z<8) (h8:l.length<=8):(uZ l).size<=32/\0<(uZ l).size:=by
 unfold uZ
 rw [zD1 l hz,ByteArray.size_append,eX,dX _ (by omega)]
 omega
theorem iS.next {rb sb lb c0 c1 c2 c3 B:Nat} {v:Value} {L:Nat->Prop} {ob:Nat->Option Obj} {T:Nat->Prop} {w:World} {x:RS} (h:iS rb sb lb c0 c1 c2 c3 B v L ob T w x) (hT:∀q,T q->q<w.heap.size) {ci:Nat} (hci:ci∈[c0,c1,c2,c3]) {o:Obj} {w1 w':World} {v':Value} {x':RS}
  (f1:Fr (fun k=>k=ci) (w.alloc o) w1 (fun k=>k=ci)) (fl:Fr (fun k=>lgS lb v k\/k=w.heap.size) w1 w' (fun k=>lgS lb v' k\/k=w.heap.size)) (lg:rJ w' lb B v' x'.log) (hnw:¬own v' w.heap.size)
  (hx:∀w'':World,(∀q,q∈[c0,c1,c2,c3]->w''.heap[q]?=w1.heap[q]?)->yK w'' c0 (x'.clocks.map (.int .i64))/\yK w'' c1 (x'.batches.map (·.1))/\yK w'' c2 (x'.picks.map (.int .i64))/\yK w'' c3 (x'.lots.map (.int .i64)))
  (hb:∀p,p∈x'.batches->p∈x.batches) (hr:x'.log.size+40*x'.left<=700000000) :
  ∃T',RecA rb L ob T' w' x'/\Fr T w w' T'/\(∀q,T' q->q<w'.heap.size)/\(∀q,w.heap.size<q->q<w1.heap.size->¬T' q):=by
 have hz1:w.heap.size<w1.heap.size:=zT (by simp) f1.size
 have hcm:∀q,q∈[c0,c1,c2,c3]->q∈[rb,sb,lb,c0,c1,c2,c3]:=by intro q hq;simp at hq ⊢;omega
 have hTw:∀q,T q->q<w1.heap.size:=fun q hq=>Nat.lt_trans (hT q hq) hz1
 -- a block of the source that is not the channel,the log,or the log's row
 have same:∀q,T q->q≠ci->q≠lb->¬own v q->w'.heap[q]?=w.heap[q]?:=by
  intro q hq h1 h2 h3
  have hlt:=hT q hq
  refine(fl.same q (hTw q hq) ?_).trans ((f1.same q (by simp;omega) h1).trans (zR _ _ _ hlt))
  rintro ((h | h) | h)
  ·exact h2 h
  ·exact h3 h
  ·omega
 have sep:=(List.nodup_append (l₁:=[rb,sb,lb]) (l₂:=[c0,c1,c2,c3]).1 h.nod).2.2
 have hlr:lb≠rb/\lb≠sb:=by
  have:=(List.nodup_append (l₁:=[rb,sb,lb]) (l₂:=[c0,c1,c2,c3]).1 h.nod).1
  simp at this
  exact⟨fun e=>this.1.2 e.symm,fun e=>this.2 e.symm⟩
 have hcil:rb≠ci/\sb≠ci/\lb≠ci:=⟨sep rb (by simp) ci hci,sep sb (by simp) ci hci,sep lb (by simp) ci hci⟩
 have hv':∀q,own v' q->(own v q\/w1.heap.size<=q)/\q<w'.heap.size/\q≠lb:=by
  intro q hq
  have hb:=(lg.row.bump q hq).2
  have hnl:q≠lb:=by rintro rfl;exact lg.sep hq
  refine⟨?_,hb,hnl⟩
  by_cases hlt:q<w1.heap.size
  ·rcases fl.old q hlt (.inl (.inr hq)) with (h1 | h1) | h1
   ·exact absurd h1 hnl
   ·exact .inl h1
   ·exact absurd (h1▸hq) hnw
  ·exact .inr (by omega)
 have cell:∀q off,q∈[rb,sb]->w'.cell? ⟨q,off,none⟩=w.cell? ⟨q,off,none⟩:=by
  intro q off hq
  have hm:q∈[rb,sb,lb,c0,c1,c2,c3]:=by simp at hq ⊢;rcases hq with h | h<;>simp [h]
  have h1:q≠ci:=by simp at hq;rcases hq with h | h<;>(rw [h];first | exact hcil.1 | exact hcil.2.1)
  have h2:q≠lb:=by simp at hq;rcases hq with h | h<;>(rw [h];first | exact hlr.1.symm | exact hlr.2.symm)
  exact zO (w:=w) (a:=⟨q,off,none⟩) (same q (h.inT q hm).1 h1 h2 (h.inT q hm).2.2)
 have chan:=hx w' (fun q hq=>fl.same q (hTw q (h.inT q (hcm q hq)).1) (by
  rintro ((e | e) | e)
  ·exact sep lb (by simp) q hq e.symm
  ·exact(h.inT q (hcm q hq)).2.2 e
  ·have:=hT q (h.inT q (hcm q hq)).1;omega))
 have hvL:∀q,own v' q->¬L q:=fun q hq hl=>by
  rcases (hv' q hq).1 with h1 | h1
  ·exact(h.vT q h1).2 hl
  ·have:=hT q (h.lT q hl);omega
 have hLs:∀q,L q->w'.heap[q]?=w.heap[q]?:=fun q hq=>same q (h.lT q hq) (fun e=>(h.inT ci (hcm ci hci)).2.1 (e▸hq)) (fun e=>(h.inT lb (by simp)).2.1 (e▸hq)) (fun e=>(h.vT q e).2 hq)
 refine⟨fun q=>(T q/\¬own v q)\/own v' q,⟨sb,lb,c0,c1,c2,c3,B,v',(cell rb 0 (by simp)).trans h.r0,(cell rb 1 (by simp)).trans h.r1,(cell sb 0 (by simp)).trans h.s0,(cell sb 1 (by simp)).trans h.s1,(cell sb 2 (by simp)).trans h.s2,(cell sb 3 (by simp)).trans h.s3,chan.1,chan.2.1,chan.2.2.1,chan.2.2.2,lg,?_,h.nod,?_,?_,?_,?_,?_,hr⟩,?_,?_,?_⟩
 ·have:=h.low;have:=fl.size;omega
 ·intro q hq
  have:=h.inT q hq
  refine⟨.inl ⟨this.1,this.2.2⟩,this.2.1,fun e=>?_⟩
  rcases (hv' q e).1 with h1 | h1
  ·exact this.2.2 h1
  ·have:=hT q this.1;omega
 ·exact fun q hq=>⟨.inr hq,hvL q hq⟩
 ·exact fun q hq=>.inl ⟨h.lT q hq,fun e=>(h.vT q e).2 hq⟩
 ·exact fun q hq=>(hLs q hq).trans (h.lent q hq)
 ·exact fun p hp=>⟨(h.bs p (hb p hp)).1.block hLs,(h.bs p (hb p hp)).2⟩
 ·refine⟨fl.os.trans f1.os,fl.tape.trans f1.tape,fl.output.trans f1.output,by have:=fl.size;omega,?_,?_⟩
  ·intro k hk hn
   refine(fl.same k (by omega) ?_).trans ((f1.same k (by simp;omega) ?_).trans (zR _ _ _ hk))
   ·rintro ((e | e) | e)
    ·exact hn (e▸(h.inT lb (by simp)).1)
    ·exact hn (h.vT k e).1
    ·omega
   ·exact fun e=>hn (e▸(h.inT ci (hcm ci hci)).1)
  ·rintro k hk (e | e)
   ·exact e.1
   ·rcases (hv' k e).1 with h1 | h1
    ·exact(h.vT k h1).1
    ·omega
 ·rintro q (e | e)
  ·have:=hTw q e.1;have:=fl.size;omega
  ·exact(hv' q e).2.1
 ·rintro q h1 h2 (e | e)
  ·have:=hT q e.1;omega
  ·rcases (hv' q e).1 with h3 | h3
   ·have:=hT q (h.vT q h3).1;omega
   ·omega
def rF:Obj:=.cells #[.int .i64 0,.int .i64 0,.int .i64 0,.slice none 0 0] 49
theorem iS.pre {rb sb lb c0 c1 c2 c3 B:Nat} {v:Value} {L:Nat->Prop} {ob:Nat->Option Obj} {T:Nat->Prop} {w:World} {x:RS} (h:iS rb sb lb c0 c1 c2 c3 B v L ob T w x) (hT:∀q,T q->q<w.heap.size) {ci:Nat} (hci:ci∈[c0,c1,c2,c3]) {w1:World}
  (f1:Fr (fun k=>k=ci) (w.alloc rF) w1 (fun k=>k=ci)):rJ w1 lb B v x.log/\w1.heap[rb]?=w.heap[rb]?/\w1.heap[w.heap.size]?=some rF/\(¬own v w.heap.size)/\(∀q,q<w.heap.size->q≠ci->w1.heap[q]?=w.heap[q]?):=by
 have hcm:∀q,q∈[c0,c1,c2,c3]->q∈[rb,sb,lb,c0,c1,c2,c3]:=by intro q hq;simp at hq ⊢;omega
 have sep:=(List.nodup_append (l₁:=[rb,sb,lb]) (l₂:=[c0,c1,c2,c3]).1 h.nod).2.2
 have same:∀q,q<w.heap.size->q≠ci->w1.heap[q]?=w.heap[q]?:=fun q hq hn=>(f1.same q (by simp;omega) hn).trans (zR _ _ _ hq)
 have hcl:=hT ci (h.inT ci (hcm ci hci)).1
 refine⟨h.log.block (fun q hq=>?_) (by have:=f1.size;simp at this;omega),same rb (hT rb (h.inT rb (by simp)).1) (sep rb (by simp) ci hci),(f1.same w.heap.size (by simp) (by omega)).trans (heap_alloc_new w _),fun e=>by have:=(h.log.row.bump _ e).2;omega,same⟩
 rcases hq with rfl | hq
 ·exact same _ h.log.lt (sep _ (by simp) ci hci)
 ·exact same q (h.log.row.bump q hq).2 (fun e=>(h.inT ci (hcm ci hci)).2.2 (e▸hq))
theorem iS.hears {B0 rb sb lb c0 c1 c2 c3 B:Nat} {v:Value} {L:Nat->Prop} {ob:Nat->Option Obj} {T:Nat->Prop} {w:World} {x:RS} (h:iS rb sb lb c0 c1 c2 c3 B v L ob T w x) (hT:∀q,T q->q<w.heap.size) {ci:Nat} (hci:ci∈[c0,c1,c2,c3]) {k o:Int} {r:Rep} {x':RS}
  (hb:∀p,p∈x'.batches->p∈x.batches) (hr:x'.log.size+40*x'.left<=700000000)
  (h160:Calls Tryz.prog 182 #[.pointer (some ⟨sb,0,none⟩),.int .i64 k,.int .i64 o] (w.alloc rF) fun e w1=>∃a l c bd,e=.returned (.tuple #[.agg #[.int .i64 r.kind,.int .i64 r.of,.int .i64 r.n,.slice a l c],.int .i64 r.e])/\Answ w1 r.kind r.of r.n a l c r.e bd/\Fr (fun k=>k=ci) (w.alloc rF) w1 (fun k=>k=ci)/\
   (∀w'':World,(∀q,q∈[c0,c1,c2,c3]->w''.heap[q]?=w1.heap[q]?)->yK w'' c0 (x'.clocks.map (.int .i64))/\yK w'' c1 (x'.batches.map (·.1))/\yK w'' c2 (x'.picks.map (.int .i64))/\yK w'' c3 (x'.lots.map (.int .i64)))/\
   yJ w1 (.slice a l c) r.files (fun q=>w.heap.size<q/\q<w1.heap.size)/\x'.log=(if r.e=0 then x.log++yS bd else x.log)) :
  Calls Tryz.prog 181 #[.pointer (some ⟨rb,0,none⟩),.int .i64 k,.int .i64 o] w fun e w'=>
   ∃fv T',e=.returned (.tuple #[.agg #[.int .i64 r.kind,.int .i64 r.of,.int .i64 r.n,fv],.int .i64 r.e])/\RecA rb L ob T' w' x'/\Fr T w w' T'/\(∀q,T' q->q<w'.heap.size)/\yJ w' fv r.files (fun q=>(q<B0\/w.heap.size<=q\/T q)/\q<w'.heap.size/\¬T' q):=by
 have hroom:=h.room
 refine(yN0 (B:=B) (v:=v) (log:=x.log) h.r0 h.r1 (hT rb (h.inT rb (by simp)).1) h.low (by omega) h.log.lt k o (fun w1 z0 z1 z2 a l c en bd=>z0=r.kind/\z1=r.of/\z2=r.n/\en=r.e/\Fr (fun k=>k=ci) (w.alloc rF) w1 (fun k=>k=ci)/\
   (∀w'':World,(∀q,q∈[c0,c1,c2,c3]->w''.heap[q]?=w1.heap[q]?)->yK w'' c0 (x'.clocks.map (.int .i64))/\yK w'' c1 (x'.batches.map (·.1))/\yK w'' c2 (x'.picks.map (.int .i64))/\yK w'' c3 (x'.lots.map (.int .i64)))/\
   yJ w1 (.slice a l c) r.files (fun q=>w.heap.size<q/\q<w1.heap.size)/\x'.log=(if r.e=0 then x.log++yS bd else x.log)) (h160.mono ?_)).mono ?_
 ·rintro e w1 ⟨a,l,c,bd,rfl,an,f1,hx,hi,hl⟩
  obtain⟨p1,p2,p3,p4,_⟩:=h.pre hT hci f1
  exact⟨_,_,_,a,l,c,_,bd,rfl,an,p1,p2,p3,p4,rfl,rfl,rfl,rfl,f1,hx,hi,hl⟩
 ·rintro e w' ⟨w1,z0,z1,z2,a,l,c,en,bd,v',rfl,⟨rfl,rfl,rfl,rfl,f1,hx,hi,hl⟩,lg,fl,hnw⟩
  rw [<-hl] at lg
  obtain⟨T',g1,g2,g3,g4⟩:=h.next hT hci f1 fl lg hnw hx hb hr
  refine⟨_,T',rfl,g1,g2,g3,?_⟩
  obtain⟨a',c',hv,hc⟩:=hi
  refine⟨a',c',hv,hc.imp id fun ⟨q,off,e,⟨hq1,hq2⟩,hcell⟩=>⟨q,off,e,⟨.inr (by omega),zT hq2 fl.size,g4 q hq1 hq2⟩,fun i hi=>?_⟩⟩
  rw [fl.cell q (off+i) hq2 ?_]
  ·exact hcell i hi
  ·rintro ((e | e) | e)
   ·have:=h.log.lt;omega
   ·have:=(h.log.row.bump q e).2;omega
   ·omega
theorem sD (w:World) (P:Nat->Prop):yJ w (.slice none 0 0) [] P:=⟨none,0,rfl,.inl rfl⟩
theorem gS (w:World) (z0 z1 z2:Int):Answ w z0 z1 z2 none 0 0 5 ByteArray.empty:=⟨fun h=>absurd h (by omega),fun h=>absurd h (by omega),fun q h=>by simp [own,Value.ownBlock] at h⟩
theorem yA1 (w:World) (n:Nat) (hn:n<=1099511627776):Answ w 1 0 n none 0 0 0 (yT 1 0 n):=
 ⟨fun _=>by have:=pA 1 0 n (by omega) hn;omega,fun _ W _ _=>bI 1 0 n _ none 0 0 rfl (.inl rfl) (by omega) W,fun q h=>by simp [own,Value.ownBlock] at h⟩
theorem zB6 (w:World) (k o n:Nat) (hk:k=3\/k=4) (ho:o<=1000000) (hn:n<=1000000):Answ w k o n none 0 0 0 (yT k o n):=
 ⟨fun _=>by have:=pA k o n (by omega) (by omega);omega,fun _ W _ _=>zV9 k o n _ none 0 0 rfl hk (by omega) (by omega) W,fun q h=>by simp [own,Value.ownBlock] at h⟩
theorem lQ {w:World} {B:Nat} {v:Value} {l:List Int} (h:yZ w B v l):yJ w v l (fun q=>own v q/\B<=q/\q<w.heap.size):=by
 rcases Nat.eq_zero_or_pos l.length with h0 | h0
 ·obtain rfl:=List.length_eq_zero_iff.1 h0
  rcases h.2 with ⟨h1,_⟩ | ⟨g,cap,cur,hv,_⟩
  ·exact⟨none,0,h1,.inl rfl⟩
  ·exact⟨_,cap,hv,.inl rfl⟩
 ·obtain⟨g,cap,cur,hv,hB,hg,_,_,_,hc⟩:=xI h h0
  refine⟨_,cap,hv,.inr ⟨g,0,rfl,⟨by rw [hv];rfl,hB,(zN.1 hg).1⟩,fun i hi=>by rw [Nat.zero_add];exact hc i hi⟩⟩
theorem zH8 {w:World} {B:Nat} {a:Option Addr} {n c:Nat} {l:List Int} (h:yZ w B (.slice a n c) l) (h8:l.length<=8) (hz:∀z,z∈l->0<=z/\z<8):Answ w 2 0 0 a n c 0 (uZ l):=by
 refine⟨fun _=>by have:=iU l hz h8;omega,fun _ W hW hw=>?_,fun q hq=>(zS h q hq).2⟩
 have h2:yZ W B (.slice a n c) l:=yA h hW
 exact zF4 0 0 _ l W (fun q hq=>hq.2.2) (lQ h2) h8 hz
theorem zW6 {B0:Nat} (rb:Nat) (L:Nat->Prop) (ob:Nat->Option Obj):uE (RecA rb L ob) yF aS B0 rb 89 181:=by
 refine⟨zE7,?_⟩
 rintro T w x k o ⟨sb,lb,c0,c1,c2,c3,B,v,h⟩ hT hmay
 have hm:=fun q hq=>hT q (h.inT q hq).1
 have hsbl:=hm sb (by simp)
 have sep:=(List.nodup_append (l₁:=[rb,sb,lb]) (l₂:=[c0,c1,c2,c3]).1 h.nod).2.2
 have nod:=(List.nodup_append (l₁:=[rb,sb,lb]) (l₂:=[c0,c1,c2,c3]).1 h.nod).2.1
 simp at nod
 obtain⟨⟨n01,n02,n03⟩,⟨n12,n13⟩,n23⟩:=nod
 have hcl:∀off,(w.alloc rF).cell? ⟨sb,off,none⟩=w.cell? ⟨sb,off,none⟩:=fun off=>zO (w:=w) (a:=⟨sb,off,none⟩) (zR _ _ _ hsbl)
 have hsz:sb<(w.alloc rF).heap.size:=by simp;omega
 have l0:=hm c0 (by simp)
 have l1:=hm c1 (by simp)
 have l2:=hm c2 (by simp)
 have l3:=hm c3 (by simp)
 have hroom:=h.room
 unfold RS.left at hroom
 rcases hmay with ⟨rfl,rfl⟩ | ⟨rfl,rfl⟩ | ⟨rfl,h1,h2⟩ | ⟨rfl,h1,h2⟩
 ·-- a clock
  have chs:∀w1,Fr (fun k=>k=c0) (w.alloc rF) w1 (fun k=>k=c0)->∀l:List Int,yK w1 c0 (l.map (.int .i64))->∀w'':World,(∀q,q∈[c0,c1,c2,c3]->w''.heap[q]?=w1.heap[q]?)->yK w'' c0 (l.map (.int .i64))/\yK w'' c1 (x.batches.map (·.1))/\yK w'' c2 (x.picks.map (.int .i64))/\yK w'' c3 (x.lots.map (.int .i64)):=by
   intro w1 f1 l hl w'' hs
   have p5:=(h.pre hT (ci:=c0) (by simp) f1).2.2.2.2
   exact⟨hl.block (hs c0 (by simp)),h.h1.block ((hs c1 (by simp)).trans (p5 c1 l1 (Ne.symm n01))),h.h2.block ((hs c2 (by simp)).trans (p5 c2 l2 (Ne.symm n02))),h.h3.block ((hs c3 (by simp)).trans (p5 c3 l3 (Ne.symm n03)))⟩
  refine h.hears hT (ci:=c0) (by simp) (r:=(yF x 1 0).1) (x':=(yF x 1 0).2) ?_ ?_ ?_
  ·cases hx:x.clocks<;>simp [yF,hx]
  ·cases hx:x.clocks with
   | nil=>simpa [yF,hx,RS.left] using hroom
   | cons n r=>
    have:=sQ (yT 1 0 (vK n).toNat) (pA _ _ _ (by omega) (by simp only [vK];omega)).1
    simp [yF,hx,RS.left,ByteArray.size_append] at hroom ⊢
    omega
  ·refine zD9 ((hcl 0).trans h.s0) hsz (sep sb (by simp) c0 (by simp)) x.clocks (h.h0.block (zR _ _ _ l0)) 0 ?_
   intro w1 f1 hc1
   cases hx:x.clocks with
   | nil=>
    rw [hx] at hc1
    refine⟨none,0,0,ByteArray.empty,by simp [yF,hx,xB],by simpa [yF,hx,xB] using gS w1 0 0 0,f1,?_,by simpa [yF,hx,xB] using sD w1 _,by simp [yF,hx,xB]⟩
    simpa [yF,hx] using chs w1 f1 _ hc1
   | cons n r=>
    rw [hx] at hc1
    have hcp:((vK n).toNat:Int)=vK n:=by simp only [vK];omega
    have ha:=yA1 w1 (vK n).toNat (by simp only [vK];omega)
    rw [hcp] at ha
    refine⟨none,0,0,yT 1 0 (vK n).toNat,by simp [yF,hx,vK],by simpa [yF,hx] using ha,f1,?_,by simpa [yF,hx] using sD w1 _,by simp [yF,hx]⟩
    simpa [yF,hx] using chs w1 f1 _ hc1
 ·-- a batch
  have chs:∀w1,Fr (fun k=>k=c1) (w.alloc rF) w1 (fun k=>k=c1)->∀l:List (Value×List Int),yK w1 c1 (l.map (·.1))->∀w'':World,(∀q,q∈[c0,c1,c2,c3]->w''.heap[q]?=w1.heap[q]?)->yK w'' c0 (x.clocks.map (.int .i64))/\yK w'' c1 (l.map (·.1))/\yK w'' c2 (x.picks.map (.int .i64))/\yK w'' c3 (x.lots.map (.int .i64)):=by
   intro w1 f1 l hl w'' hs
   have p5:=(h.pre hT (ci:=c1) (by simp) f1).2.2.2.2
   exact⟨h.h0.block ((hs c0 (by simp)).trans (p5 c0 l0 (n01))),hl.block (hs c1 (by simp)),h.h2.block ((hs c2 (by simp)).trans (p5 c2 l2 (Ne.symm n12))),h.h3.block ((hs c3 (by simp)).trans (p5 c3 l3 (Ne.symm n13)))⟩
  have hin:∀p,p∈x.batches->yJ (w.alloc rF) p.1 p.2 (fun q=>q<(w.alloc rF).heap.size/\q≠c1)/\p.2.length<=100000000:=by
   intro p hp
   obtain⟨hi,hl⟩:=h.bs p hp
   obtain⟨a,c,hv,hc⟩:=hi.block (w':=w.alloc rF) (fun q hq=>zR _ _ _ (hT q (h.lT q hq)))
   refine⟨⟨a,c,hv,hc.imp id fun ⟨q,off,e,hq,hcell⟩=>⟨q,off,e,⟨by have:=hT q (h.lT q hq);simp;omega,fun e=>(h.inT c1 (by simp)).2.1 (e▸hq)⟩,hcell⟩⟩,hl⟩
  refine h.hears hT (ci:=c1) (by simp) (r:=(yF x 2 0).1) (x':=(yF x 2 0).2) ?_ ?_ ?_
  ·cases hx:x.batches with
   | nil=>simp [yF,hx]
   | cons n r=>simp [yF,hx];exact fun a b h=>.inr h
  ·cases hx:x.batches with
   | nil=>simpa [yF,hx,RS.left] using hroom
   | cons n r=>
    have:=sQ (uZ (vF n.2)) (iU _ (rM _) (mI _)).1
    simp [yF,hx,RS.left,ByteArray.size_append] at hroom ⊢
    omega
  ·refine zD8 ((hcl 1).trans h.s1) hsz (sep sb (by simp) c1 (by simp)) x.batches (h.h1.block (zR _ _ _ l1)) hin 0 ?_
   intro w1 fv f1 hc1 ho
   cases hx:x.batches with
   | nil=>
    rw [hx] at hc1
    refine⟨none,0,0,ByteArray.empty,by simp [yF,hx,xB],by simpa [yF,hx,xB] using gS w1 0 0 0,f1,?_,by simpa [yF,hx,xB] using sD w1 _,by simp [yF,hx,xB]⟩
    simpa [yF,hx] using chs w1 f1 _ hc1
   | cons n r=>
    rw [hx] at hc1 ho
    have hO:=ho (by simp)
    simp only [List.headD_cons] at hO
    obtain⟨a,l,c,rfl⟩:=pH hO
    have ha:=zH8 hO (mI _) (rM _)
    have hI:yJ w1 (.slice a l c) (vF n.2) (fun q=>w.heap.size<q/\q<w1.heap.size):=by
     obtain⟨a',c',hv,hc⟩:=lQ hO
     exact⟨a',c',hv,hc.imp id fun ⟨q,off,e,⟨_,h2,h3⟩,hcell⟩=>⟨q,off,e,⟨by simp at h2;omega,h3⟩,hcell⟩⟩
    refine⟨a,l,c,uZ (vF n.2),by simp [yF,hx],by simpa [yF,hx] using ha,f1,?_,by simpa [yF,hx] using hI,by simp [yF,hx]⟩
    simpa [yF,hx] using chs w1 f1 _ hc1
 ·-- a pick
  have chs:∀w1,Fr (fun k=>k=c2) (w.alloc rF) w1 (fun k=>k=c2)->∀l:List Int,yK w1 c2 (l.map (.int .i64))->∀w'':World,(∀q,q∈[c0,c1,c2,c3]->w''.heap[q]?=w1.heap[q]?)->yK w'' c0 (x.clocks.map (.int .i64))/\yK w'' c1 (x.batches.map (·.1))/\yK w'' c2 (l.map (.int .i64))/\yK w'' c3 (x.lots.map (.int .i64)):=by
   intro w1 f1 l hl w'' hs
   have p5:=(h.pre hT (ci:=c2) (by simp) f1).2.2.2.2
   exact⟨h.h0.block ((hs c0 (by simp)).trans (p5 c0 l0 (n02))),h.h1.block ((hs c1 (by simp)).trans (p5 c1 l1 (n12))),hl.block (hs c2 (by simp)),h.h3.block ((hs c3 (by simp)).trans (p5 c3 l3 (Ne.symm n23)))⟩
  have hpos:∀n:Int,0<=n % o/\n % o<o:=fun n=>⟨Int.emod_nonneg _ (by omega),Int.emod_lt_of_pos _ (by omega)⟩
  refine h.hears hT (ci:=c2) (by simp) (r:=(yF x 3 o).1) (x':=(yF x 3 o).2) ?_ ?_ ?_
  ·cases hx:x.picks<;>simp [yF,hx]
  ·cases hx:x.picks with
   | nil=>simpa [yF,hx,RS.left] using hroom
   | cons n r=>
    have:=hpos n
    have:=sQ (yT 3 o.toNat (n % o).toNat) (pA _ _ _ (by omega) (by omega)).1
    simp [yF,hx,RS.left,ByteArray.size_append] at hroom ⊢
    omega
  ·refine zJ9 ((hcl 2).trans h.s2) hsz (sep sb (by simp) c2 (by simp)) x.picks (h.h2.block (zR _ _ _ l2)) o (by omega) (by omega) ?_
   intro w1 f1 hc1
   cases hx:x.picks with
   | nil=>
    rw [hx] at hc1
    refine⟨none,0,0,ByteArray.empty,by simp [yF,hx,xB],by simpa [yF,hx,xB] using gS w1 0 0 0,f1,?_,by simpa [yF,hx,xB] using sD w1 _,by simp [yF,hx,xB]⟩
    simpa [yF,hx] using chs w1 f1 _ hc1
   | cons n r=>
    rw [hx] at hc1
    have hp:=hpos n
    have e1:(o.toNat:Int)=o:=by omega
    have e2:((n % o).toNat:Int)=n % o:=by omega
    have ha:=zB6 w1 3 o.toNat (n % o).toNat (.inl rfl) (by omega) (by omega)
    rw [e1,e2] at ha
    refine⟨none,0,0,yT 3 o.toNat (n % o).toNat,by simp [yF,hx],by simpa [yF,hx] using ha,f1,?_,by simpa [yF,hx] using sD w1 _,by simp [yF,hx]⟩
    simpa [yF,hx] using chs w1 f1 _ hc1
 ·-- a lot
  have chs:∀w1,Fr (fun k=>k=c3) (w.alloc rF) w1 (fun k=>k=c3)->∀l:List Int,yK w1 c3 (l.map (.int .i64))->∀w'':World,(∀q,q∈[c0,c1,c2,c3]->w''.heap[q]?=w1.heap[q]?)->yK w'' c0 (x.clocks.map (.int .i64))/\yK w'' c1 (x.batches.map (·.1))/\yK w'' c2 (x.picks.map (.int .i64))/\yK w'' c3 (l.map (.int .i64)):=by
   intro w1 f1 l hl w'' hs
   have p5:=(h.pre hT (ci:=c3) (by simp) f1).2.2.2.2
   exact⟨h.h0.block ((hs c0 (by simp)).trans (p5 c0 l0 (n03))),h.h1.block ((hs c1 (by simp)).trans (p5 c1 l1 (n13))),h.h2.block ((hs c2 (by simp)).trans (p5 c2 l2 (n23))),hl.block (hs c3 (by simp))⟩
  have hpos:∀n:Int,0<=n % o/\n % o<o:=fun n=>⟨Int.emod_nonneg _ (by omega),Int.emod_lt_of_pos _ (by omega)⟩
  refine h.hears hT (ci:=c3) (by simp) (r:=(yF x 4 o).1) (x':=(yF x 4 o).2) ?_ ?_ ?_
  ·cases hx:x.lots<;>simp [yF,hx]
  ·cases hx:x.lots with
   | nil=>simpa [yF,hx,RS.left] using hroom
   | cons n r=>
    have:=hpos n
    have:=sQ (yT 4 o.toNat (n % o).toNat) (pA _ _ _ (by omega) (by omega)).1
    simp [yF,hx,RS.left,ByteArray.size_append] at hroom ⊢
    omega
  ·refine zU1 ((hcl 3).trans h.s3) hsz (sep sb (by simp) c3 (by simp)) x.lots (h.h3.block (zR _ _ _ l3)) o (by omega) (by omega) ?_
   intro w1 f1 hc1
   cases hx:x.lots with
   | nil=>
    rw [hx] at hc1
    refine⟨none,0,0,ByteArray.empty,by simp [yF,hx,xB],by simpa [yF,hx,xB] using gS w1 0 0 0,f1,?_,by simpa [yF,hx,xB] using sD w1 _,by simp [yF,hx,xB]⟩
    simpa [yF,hx] using chs w1 f1 _ hc1
   | cons n r=>
    rw [hx] at hc1
    have hp:=hpos n
    have e1:(o.toNat:Int)=o:=by omega
    have e2:((n % o).toNat:Int)=n % o:=by omega
    have ha:=zB6 w1 4 o.toNat (n % o).toNat (.inr rfl) (by omega) (by omega)
    rw [e1,e2] at ha
    refine⟨none,0,0,yT 4 o.toNat (n % o).toNat,by simp [yF,hx],by simpa [yF,hx] using ha,f1,?_,by simpa [yF,hx] using sD w1 _,by simp [yF,hx]⟩
    simpa [yF,hx] using chs w1 f1 _ hc1
end Go.Proofs.YtfmbebofllgmoaaGreatDoor
namespace Go.Proofs.YtfmbebofllgmoaaGreatDoor
open Go.RowKit
attribute [local go_sem ↓] Go.wp_at_zero Go.wp_at_succ
def sL (w:World) (v:Value) (l:List Value) (P:Nat->Prop):Prop:=
 ∃a c,v=.slice a l.length c/\(l=[]\/∃q off,a=some ⟨q,off,none⟩/\P q/\∀i,i<l.length->w.cell? ⟨q,off+i,none⟩=some (l.getD i undef))
theorem yJ.vals {w:World} {v:Value} {l:List Int} {P:Nat->Prop} (h:yJ w v l P):sL w v (l.map (.int .i64)) P:=by
 obtain⟨a,c,hv,hc⟩:=h
 refine⟨a,c,by simpa using hv,hc.imp (by simp) fun ⟨q,off,e,hq,hcell⟩=>⟨q,off,e,hq,fun i hi=>?_⟩⟩
 have hi':i<l.length:=by simpa using hi
 rw [hcell i hi']
 simp [List.getD,hi']
theorem sL.block {w w':World} {v:Value} {l:List Value} {P:Nat->Prop} (h:sL w v l P) (hb:∀q,P q->w'.heap[q]?=w.heap[q]?):sL w' v l P:=by
 obtain⟨a,c,hv,hc⟩:=h
 refine⟨a,c,hv,hc.imp id fun ⟨q,off,e,hq,hcell⟩=>⟨q,off,e,hq,fun i hi=>?_⟩⟩
 rw [zO (w:=w) (a:=⟨q,off+i,none⟩) (hb q hq)]
 exact hcell i hi
theorem dB (l:List Value):(List.range l.length).map (fun i=>l.getD i undef)=l:=by
 apply List.ext_getElem?
 intro i
 by_cases h:i<l.length
 ·simp [h,List.getD]
 ·rw [List.getElem?_eq_none (by simp;omega),List.getElem?_eq_none (by omega)]
theorem mJ {w:World} {v:Value} {l:List Value} {P:Nat->Prop} (h:sL w v l P) (hP:∀q,P q->q<w.heap.size) (hn:l.length<=5000000) :
  Calls Tryz.prog 62 #[v] w fun e w'=>e=.returned (.chan (some w.heap.size))/\w'=w.alloc (.chan l.length l.toArray true l.length 0 false):=by
 obtain⟨a,c,rfl,hc⟩:=h
 have:=zJ4 (w:=w) a l.length c (fun i=>l.getD i undef) hn (fun i hi=>by
  rcases hc with rfl | ⟨q,off,e,hq,hcell⟩
  ·simp at hi
  ·exact⟨q,off,e,hP q hq,hcell i hi⟩)
 rw [dB] at this
 exact this
theorem aA {w:World} {v:Value} {l:List Value} {P:Nat->Prop} (h:sL w v l P) (hP:∀q,P q->q<w.heap.size) (hn:l.length<=5000000) :
  Calls Tryz.prog 63 #[v] w fun e w'=>e=.returned (.chan (some w.heap.size))/\w'=w.alloc (.chan l.length l.toArray true l.length 0 false):=by
 obtain⟨a,c,rfl,hc⟩:=h
 have:=zD2 (w:=w) a l.length c (fun i=>l.getD i undef) hn (fun i hi=>by
  rcases hc with rfl | ⟨q,off,e,hq,hcell⟩
  ·simp at hi
  ·exact⟨q,off,e,hP q hq,hcell i hi⟩)
 rw [dB] at this
 exact this
def vR (l:List Value):Obj:=.chan l.length l.toArray true l.length 0 false
def gL (w:World) (v0 v1 v2 v3:Value) (l0 l1 l2 l3:List Value):World:=
 ((((((w.alloc (.cells #[v0,v1,v2,v3] 29)).drew.alloc (vR l0)).alloc (vR l1)).alloc (vR l2)).alloc (vR l3)).alloc (.cells #[.chan (some (w.heap.size+1)),.chan (some (w.heap.size+2)),.chan (some (w.heap.size+3)),.chan (some (w.heap.size+4))] 147))
theorem yL6 {w:World} {v0 v1 v2 v3:Value} {l0 l1 l2 l3:List Value} {P:Nat->Prop} (hP:∀q,P q->q<w.heap.size) (h0:sL w v0 l0 P) (h1:sL w v1 l1 P) (h2:sL w v2 l2 P) (h3:sL w v3 l3 P)
  (n0:l0.length<=5000000) (n1:l1.length<=5000000) (n2:l2.length<=5000000) (n3:l3.length<=5000000) :
  Calls Tryz.prog 36 #[.agg #[v0,v1,v2,v3]] w fun e w'=>e=.returned (.pointer (some ⟨w.heap.size+5,0,none⟩))/\w'=gL w v0 v1 v2 v3 l0 l1 l2 l3:=by
 have hz1:(w.alloc (.cells #[v0,v1,v2,v3] 29)).drew.heap.size=w.heap.size+1:=by show (w.alloc _).heap.size=_;simp
 have s1:∀q,P q->(w.alloc (.cells #[v0,v1,v2,v3] 29)).drew.heap[q]?=w.heap[q]?:=fun q hq=>zR _ _ _ (hP q hq)
 have A0:=zZ (mJ (h0.block s1) (fun q hq=>by rw [hz1];have:=hP q hq;omega) n0)
 rw [hz1] at A0
 have z2:((w.alloc (.cells #[v0,v1,v2,v3] 29)).drew.alloc (vR l0)).heap.size=w.heap.size+1+1:=by simp
 have s2:∀q,P q->((w.alloc (.cells #[v0,v1,v2,v3] 29)).drew.alloc (vR l0)).heap[q]?=w.heap[q]?:=fun q hq=>(zR _ _ _ (by rw [hz1];have:=hP q hq;omega)).trans (s1 q hq)
 have A1:=zZ (aA (h1.block s2) (fun q hq=>by rw [z2];have:=hP q hq;omega) n1)
 rw [z2] at A1
 have z3:(((w.alloc (.cells #[v0,v1,v2,v3] 29)).drew.alloc (vR l0)).alloc (vR l1)).heap.size=w.heap.size+1+1+1:=by simp
 have s3:∀q,P q->(((w.alloc (.cells #[v0,v1,v2,v3] 29)).drew.alloc (vR l0)).alloc (vR l1)).heap[q]?=w.heap[q]?:=fun q hq=>(zR _ _ _ (by rw [z2];have:=hP q hq;omega)).trans (s2 q hq)
 have A2:=zZ (mJ (h2.block s3) (fun q hq=>by rw [z3];have:=hP q hq;omega) n2)
 rw [z3] at A2
 have z4:((((w.alloc (.cells #[v0,v1,v2,v3] 29)).drew.alloc (vR l0)).alloc (vR l1)).alloc (vR l2)).heap.size=w.heap.size+1+1+1+1:=by simp
 have s4:∀q,P q->((((w.alloc (.cells #[v0,v1,v2,v3] 29)).drew.alloc (vR l0)).alloc (vR l1)).alloc (vR l2)).heap[q]?=w.heap[q]?:=fun q hq=>(zR _ _ _ (by rw [z3];have:=hP q hq;omega)).trans (s3 q hq)
 have A3:=zZ (mJ (h3.block s4) (fun q hq=>by rw [z4];have:=hP q hq;omega) n3)
 rw [z4] at A3
 obtain⟨a0,k0,rfl,_⟩:=h0
 obtain⟨a1,k1,rfl,_⟩:=h1
 obtain⟨a2,k2,rfl,_⟩:=h2
 obtain⟨a3,k3,rfl,_⟩:=h3
 clear hz1 s1 z2 s2 z3 s3 z4 s4 hP
 rw [show Obj.chan l0.length l0.toArray true l0.length 0 false=vR l0 from rfl] at A0
 rw [show Obj.chan l1.length l1.toArray true l1.length 0 false=vR l1 from rfl] at A1
 rw [show Obj.chan l2.length l2.toArray true l2.length 0 false=vR l2 from rfl] at A2
 rw [show Obj.chan l3.length l3.toArray true l3.length 0 false=vR l3 from rfl] at A3
 generalize hO0:vR l0=O0 at *
 generalize hO1:vR l1=O1 at *
 generalize hO2:vR l2=O2 at *
 generalize hO3:vR l3=O3 at *
 have hN:gL w (.slice a0 l0.length k0) (.slice a1 l1.length k1) (.slice a2 l2.length k2) (.slice a3 l3.length k3) l0 l1 l2 l3=((((((w.alloc (.cells #[.slice a0 l0.length k0,.slice a1 l1.length k1,.slice a2 l2.length k2,.slice a3 l3.length k3] 29)).drew.alloc O0).alloc O1).alloc O2).alloc O3).alloc (.cells #[.chan (some (w.heap.size+1)),.chan (some (w.heap.size+2)),.chan (some (w.heap.size+3)),.chan (some (w.heap.size+4))] 147)):=by
  unfold gL
  rw [hO0,hO1,hO2,hO3]
 have HN:=zZ hN
 clear hN
 clear hO0 hO1 hO2 hO3
 go_enter Tryz.func36,Tryz.ntmps36
 go_wp2
 go_region_held3 (fun w'=>w'.cell? ⟨w.heap.size,0,none⟩=some (.slice a0 l0.length k0)/\w'.cell? ⟨w.heap.size,1,none⟩=some (.slice a1 l1.length k1)/\w'.cell? ⟨w.heap.size,2,none⟩=some (.slice a2 l2.length k2)/\w'.cell? ⟨w.heap.size,3,none⟩=some (.slice a3 l3.length k3)) (simp [go_sem,World.cell?_alloc_past])
  (first
   | (go_at_call 63;refine(zY A1).mono ?_;rintro e w' ⟨rfl,rfl⟩)
   | (go_at_call_of 62 (Value.slice a0 l0.length k0);refine(zY A0).mono ?_;rintro e w' ⟨rfl,rfl⟩)
   | (go_at_call_of 62 (Value.slice a2 l2.length k2);refine(zY A2).mono ?_;rintro e w' ⟨rfl,rfl⟩)
   | (go_at_call_of 62 (Value.slice a3 l3.length k3);refine(zY A3).mono ?_;rintro e w' ⟨rfl,rfl⟩))
 all_goals
  go_wp2
  go_ret
  refine⟨rfl,?_⟩
  rw [zY HN]
  rfl
/-! ### What it is -/
/-! ### How it lies -/
abbrev Br:=Value×List Int
structure C1 (w:World) (wb:Nat) (wr:World) (v0 p2 p3:Value) (lc:List Int):Prop where
 fr:Fr (fun _=>False) w wr (fun _=>False)
 wb_:wr.heap[wb]?=some (.cells #[v0,.slice none 0 0,p2,p3] 29)
 wbB:w.heap.size<=wb
 cl:yZ wr w.heap.size v0 lc
structure W1 (w:World) (wb:Nat) (wr:World) (v0 v1 p2 p3:Value) (lc:List Int) (bt:List Br):Prop where
 fr:Fr (fun _=>False) w wr (fun _=>False)
 wb_:wr.heap[wb]?=some (.cells #[v0,v1,p2,p3] 29)
 wbB:w.heap.size<=wb
 cl:yZ wr w.heap.size v0 lc
 bm:wr.ownsRow w.heap.size 26 1 v1 bt.length (bt.map (·.1))
 bh:∀b,b∈bt->yZ wr w.heap.size b.1 b.2
theorem mT {W:World} {B e size n:Nat} {v:Value} {xs:List Value} (h:W.ownsRow B e size v n xs) {q:Nat} (hq:own v q):∃cur,W.heap[q]?=some (.cells cur e (0,0)):=by
 rcases h.2 with ⟨rfl,_⟩ | ⟨g,cap,cur,rfl,_,hg,_⟩
 ·simp [own,Value.ownBlock] at hq
 ·simp only [own,Value.ownBlock,Option.some.injEq] at hq
  subst hq
  exact⟨cur,hg⟩
end Go.Proofs.YtfmbebofllgmoaaGreatDoor
namespace Go.Proofs.YtfmbebofllgmoaaGreatDoor
open Go.RowKit
abbrev AT:=TM×Int
def sZ:List AT->List Value
 | []=>[]
 | p::r=>.int .i64 p.1.2.2.2::.int .i64 p.1.2.1::.int .i64 p.2::sZ r
theorem rA (a b:List AT):sZ (a++b)=sZ a++sZ b:=by
 induction a with
 | nil=>rfl
 | cons x r ih=>simp [sZ,ih]
theorem cZ:∀(A:List AT) (i:Nat) (p:AT),A[i]?=some p->(sZ A)[i*3]?=some (.int .i64 p.1.2.2.2)/\(sZ A)[i*3+1]?=some (.int .i64 p.1.2.1)/\(sZ A)[i*3+2]?=some (.int .i64 p.2)
 | [],i,p,h=>by simp at h
 | x::r,0,p,h=>by
  simp at h
  subst h
  exact⟨rfl,rfl,rfl⟩
 | x::r,i+1,p,h=>by
  have hr:=cZ r i p (by simpa using h)
  have e:∀j,(sZ (x::r))[(i+1)*3+j]?=(sZ r)[i*3+j]?:=fun j=>by
   rw [show (i+1)*3+j=(i*3+j)+3 by omega];rfl
  exact⟨(e 0).trans hr.1,(e 1).trans hr.2.1,(e 2).trans hr.2.2⟩
structure pO (s:PS) (A:List AT) (tn sq:Int):Prop where
 mem:∀p,p∈A->p.1.1=true/\0<=p.1.2.2.2/\p.1.2.2.2<8/\s.tim p.1.2.2.2.toNat=p.1
 all:∀i,(s.tim i).1=true->i<8/\(s.tim i).2.2.2=(i:Int)/\∃u,(s.tim i,u)∈A
 seq:A.Pairwise fun p q=>p.1.2.2.1<q.1.2.2.1
 top:∀p,p∈A->p.1.2.2.1<=s.armings
 trn:∀p,p∈A->(p.2<tn↔p.1.2.2.1<=sq)/\p.2<=tn
 sq:sq<=s.armings
 len:(A.length:Int)<=s.armings
theorem pO.of {s s':PS} {A:List AT} {tn sq:Int} (h:pO s A tn sq) (ht:s'.tim=s.tim) (ha:s'.armings=s.armings):pO s' A tn sq:=
 ⟨by rw [ht];exact h.mem,by rw [ht];exact h.all,h.seq,by rw [ha];exact h.top,h.trn,by rw [ha];exact h.sq,by rw [ha];exact h.len⟩
theorem pO.cancel {s:PS} {A:List AT} {tn sq:Int} (h:pO s A tn sq) (z:Int) (hz:0<=z):pO {s with tim:=upd s.tim z.toNat (false,(s.tim z.toNat).2)} (A.filter fun p=>decide (p.1.2.2.2≠z)) tn sq:=by
 have hm:∀p,p∈(A.filter fun p=>decide (p.1.2.2.2≠z))->p∈A/\p.1.2.2.2≠z:=fun p hp=>by
  rw [List.mem_filter] at hp
  exact⟨hp.1,of_decide_eq_true hp.2⟩
 refine⟨fun p hp=>?_,fun i hi=>?_,h.seq.filter _,fun p hp=>h.top p (hm p hp).1,fun p hp=>h.trn p (hm p hp).1,h.sq,?_⟩
 ·obtain⟨h1,h2⟩:=hm p hp
  obtain⟨a1,a2,a3,a4⟩:=h.mem p h1
  refine⟨a1,a2,a3,?_⟩
  show upd s.tim z.toNat _ p.1.2.2.2.toNat=p.1
  unfold upd
  rw [if_neg (by omega)]
  exact a4
 ·change (upd s.tim z.toNat (false,(s.tim z.toNat).2) i).1=true at hi
  by_cases e:i=z.toNat
  ·unfold upd at hi;rw [if_pos e] at hi;cases hi
  ·have hu:upd s.tim z.toNat (false,(s.tim z.toNat).2) i=s.tim i:=by unfold upd;rw [if_neg e]
   show i<8/\(upd s.tim z.toNat (false,(s.tim z.toNat).2) i).2.2.2=(i:Int)/\∃u,(upd s.tim z.toNat (false,(s.tim z.toNat).2) i,u)∈_
   rw [hu] at hi ⊢
   obtain⟨b1,b2,u,b3⟩:=h.all i hi
   refine⟨b1,b2,u,?_⟩
   rw [List.mem_filter]
   exact⟨b3,decide_eq_true (by show (s.tim i).2.2.2≠z;omega)⟩
 ·have:=List.length_filter_le (fun p:AT=>decide (p.1.2.2.2≠z)) A
  have:=h.len
  show ((A.filter _).length:Int)<=s.armings
  omega
theorem pO.arm {s:PS} {A:List AT} {tn sq:Int} (h:pO s A tn sq) (z at_:Int) (hz:0<=z) (hz8:z<8):pO {s with armings:=s.armings+1,tim:=upd s.tim z.toNat (true,at_,s.armings+1,z)} ((A.filter fun p=>decide (p.1.2.2.2≠z))++[((true,at_,s.armings+1,z),tn)]) tn sq:=by
 have hc:=h.cancel z hz
 have hm:∀p,p∈(A.filter fun p=>decide (p.1.2.2.2≠z))->p∈A/\p.1.2.2.2≠z:=fun p hp=>by
  rw [List.mem_filter] at hp
  exact⟨hp.1,of_decide_eq_true hp.2⟩
 have hsq:=h.sq
 refine⟨fun p hp=>?_,fun i hi=>?_,?_,fun p hp=>?_,fun p hp=>?_,by show sq<=s.armings+1;omega,?_⟩
 ·rcases List.mem_append.1 hp with hp | hp
  ·obtain⟨h1,h2⟩:=hm p hp
   obtain⟨a1,a2,a3,a4⟩:=h.mem p h1
   refine⟨a1,a2,a3,?_⟩
   show upd s.tim z.toNat _ p.1.2.2.2.toNat=p.1
   unfold upd
   rw [if_neg (by omega)]
   exact a4
  ·rw [List.mem_singleton] at hp
   subst hp
   refine⟨rfl,hz,hz8,?_⟩
   show upd s.tim z.toNat _ z.toNat=_
   unfold upd
   rw [if_pos rfl]
 ·show i<8/\(upd s.tim z.toNat (true,at_,s.armings+1,z) i).2.2.2=(i:Int)/\∃u,(upd s.tim z.toNat (true,at_,s.armings+1,z) i,u)∈_
  change (upd s.tim z.toNat (true,at_,s.armings+1,z) i).1=true at hi
  by_cases e:i=z.toNat
  ·have hu:upd s.tim z.toNat (true,at_,s.armings+1,z) i=(true,at_,s.armings+1,z):=by unfold upd;rw [if_pos e]
   rw [hu]
   exact⟨by omega,by show z=(i:Int);omega,tn,by simp⟩
  ·have hu:upd s.tim z.toNat (true,at_,s.armings+1,z) i=s.tim i:=by unfold upd;rw [if_neg e]
   rw [hu] at hi ⊢
   obtain⟨b1,b2,u,b3⟩:=h.all i hi
   refine⟨b1,b2,u,List.mem_append_left _ ?_⟩
   rw [List.mem_filter]
   exact⟨b3,decide_eq_true (by show (s.tim i).2.2.2≠z;omega)⟩
 ·refine List.pairwise_append.2 ⟨h.seq.filter _,List.pairwise_singleton _ _,fun p hp q hq=>?_⟩
  rw [List.mem_singleton] at hq
  subst hq
  have:=h.top p (hm p hp).1
  show p.1.2.2.1<s.armings+1
  omega
 ·show p.1.2.2.1<=s.armings+1
  rcases List.mem_append.1 hp with hp | hp
  ·have:=h.top p (hm p hp).1;omega
  ·rw [List.mem_singleton] at hp
   subst hp
   exact Int.le_refl _
 ·rcases List.mem_append.1 hp with hp | hp
  ·exact h.trn p (hm p hp).1
  ·rw [List.mem_singleton] at hp
   subst hp
   refine⟨⟨fun e=>absurd e (Int.lt_irrefl _),fun e=>?_⟩,Int.le_refl _⟩
   change s.armings+1<=sq at e
   omega
 ·have h1:=List.length_filter_le (fun p:AT=>decide (p.1.2.2.2≠z)) A
  have h2:=h.len
  show ((_++[_]:List AT).length:Int)<=s.armings+1
  rw [List.length_append]
  simp only [List.length_cons,List.length_nil]
  omega
theorem pO.turn {s:PS} {A:List AT} {tn sq:Int} (h:pO s A tn sq):pO s A (tn+1) s.armings:=
 ⟨h.mem,h.all,h.seq,h.top,fun p hp=>⟨⟨fun _=>h.top p hp,fun _=>by have:=(h.trn p hp).2;omega⟩,by have:=(h.trn p hp).2;omega⟩,Int.le_refl _,h.len⟩
def xP (pv:Nat->Value) (vt va:Value) (s:PS) (tn:Int) (k:Nat):Value:=
 if k<10 then pv k else if k<14 then .int .i64 (s.reg (k-10)) else if k=14 then .int .i64 s.clock else if k=15 then .int .i64 tn else if k=16 then va else if k<25 then .bool (s.wat (k-17)) else if k=25 then .int .i64 s.fuel else if k=26 then vt else .int .i64 s.fin
def LAt (w:World) (b:Nat) (c:Nat->Value):Prop:=∀k,k<28->w.cell? ⟨b,k,none⟩=some (c k)/\w.frozen? ⟨b,k,none⟩=false
theorem LAt.set {w:World} {b:Nat} {c:Nat->Value} (h:LAt w b c) (k:Nat) (v:Value) (_hk:k<28):LAt (w.setCell ⟨b,k,none⟩ v) b (yP c k v):=by
 intro j hj
 obtain⟨h1,h2⟩:=h j hj
 refine⟨?_,by simpa using h2⟩
 by_cases e:j=k
 ·subst e
  rw [World.cell?_setCell_same' _ _ _ (by rw [h1];rfl)]
  simp [yP]
 ·rw [zV _ _ _ _ (by intro he;injection he;omega),h1]
  simp [yP,e]
theorem LAt.congr {w:World} {b:Nat} {c c':Nat->Value} (h:LAt w b c) (he:∀k,k<28->c' k=c k):LAt w b c':=fun k hk=>by rw [he k hk];exact h k hk
theorem LAt.block {w w':World} {b:Nat} {c:Nat->Value} (h:LAt w b c) (he:w'.heap[b]?=w.heap[b]?):LAt w' b c:=fun k hk=>by
 rw [zO (w:=w) (a:=⟨b,k,none⟩) he,zP (w:=w) (a:=⟨b,k,none⟩) he]
 exact h k hk
section
variable (pv:Nat->Value) (vt va:Value) (s:PS) (tn:Int)
theorem xA (i:Nat) (h:i<10):xP pv vt va s tn i=pv i:=by simp [xP,h]
theorem vY (i:Nat) (h:i<4):xP pv vt va s tn (10+i)=.int .i64 (s.reg i):=by
 have e1:¬10+i<10:=by omega
 have e2:10+i<14:=by omega
 have e3:10+i-10=i:=by omega
 simp only [xP,e1,e2,e3,if_true,if_false]
theorem tC:xP pv vt va s tn 14=.int .i64 s.clock:=by simp [xP]
theorem uQ:xP pv vt va s tn 15=.int .i64 tn:=by simp [xP]
theorem vG:xP pv vt va s tn 16=va:=by simp [xP]
theorem vZ (i:Nat) (h:i<8):xP pv vt va s tn (17+i)=.bool (s.wat i):=by
 have e1:¬17+i<10:=by omega
 have e2:¬17+i<14:=by omega
 have e3:¬17+i=14:=by omega
 have e4:¬17+i=15:=by omega
 have e5:¬17+i=16:=by omega
 have e6:17+i<25:=by omega
 have e7:17+i-17=i:=by omega
 simp only [xP,e1,e2,e3,e4,e5,e6,e7,if_true,if_false]
theorem lK:xP pv vt va s tn 25=.int .i64 s.fuel:=by simp [xP]
theorem xD:xP pv vt va s tn 26=vt:=by simp [xP]
theorem xE:xP pv vt va s tn 27=.int .i64 s.fin:=by simp [xP]
end
theorem lidx (j:Nat) (h:j<28):j<10\/(∃i,i<4/\j=10+i)\/j=14\/j=15\/j=16\/(∃i,i<8/\j=17+i)\/j=25\/j=26\/j=27:=by
 by_cases h1:j<10
 ·exact .inl h1
 by_cases h2:j<14
 ·exact .inr (.inl ⟨j-10,by omega,by omega⟩)
 by_cases h3:j=14
 ·exact .inr (.inr (.inl h3))
 by_cases h4:j=15
 ·exact .inr (.inr (.inr (.inl h4)))
 by_cases h5:j=16
 ·exact .inr (.inr (.inr (.inr (.inl h5))))
 by_cases h6:j<25
 ·exact .inr (.inr (.inr (.inr (.inr (.inl ⟨j-17,by omega,by omega⟩)))))
 by_cases h7:j=25
 ·exact .inr (.inr (.inr (.inr (.inr (.inr (.inl h7))))))
 by_cases h8:j=26
 ·exact .inr (.inr (.inr (.inr (.inr (.inr (.inr (.inl h8)))))))
 ·exact .inr (.inr (.inr (.inr (.inr (.inr (.inr (.inr (by omega))))))))
theorem qA {pv:Nat->Value} {vt va vt' va':Value} {s s':PS} {tn tn':Int} {k:Nat} {v:Value} (hk:xP pv vt' va' s' tn' k=v) (hreg:∀i,i<4->k≠10+i->s'.reg i=s.reg i) (h14:k≠14->s'.clock=s.clock) (h15:k≠15->tn'=tn) (h16:k≠16->va'=va)
  (hwat:∀i,i<8->k≠17+i->s'.wat i=s.wat i) (h25:k≠25->s'.fuel=s.fuel) (h26:k≠26->vt'=vt) (h27:k≠27->s'.fin=s.fin) (j:Nat) (hj:j<28):xP pv vt' va' s' tn' j=yP (xP pv vt va s tn) k v j:=by
 unfold yP
 by_cases e:j=k
 ·subst e;rw [if_pos rfl];exact hk
 rw [if_neg e]
 rcases lidx j hj with h | ⟨i,hi,rfl⟩ | rfl | rfl | rfl | ⟨i,hi,rfl⟩ | rfl | rfl | rfl
 ·rw [xA _ _ _ _ _ _ h,xA _ _ _ _ _ _ h]
 ·rw [vY _ _ _ _ _ _ hi,vY _ _ _ _ _ _ hi,hreg i hi (Ne.symm e)]
 ·rw [tC,tC,h14 (Ne.symm e)]
 ·rw [uQ,uQ,h15 (Ne.symm e)]
 ·rw [vG,vG,h16 (Ne.symm e)]
 ·rw [vZ _ _ _ _ _ _ hi,vZ _ _ _ _ _ _ hi,hwat i hi (Ne.symm e)]
 ·rw [lK,lK,h25 (Ne.symm e)]
 ·rw [xD,xD,h26 (Ne.symm e)]
 ·rw [xE,xE,h27 (Ne.symm e)]
structure sW {σ:Type} (SQ:(Nat->Value)->(Nat->Prop)->World->σ->Prop) (B:Nat):Prop where
 keep:∀{pv:Nat->Value} {T:Nat->Prop} {w w':World} {x:σ},SQ pv T w x->(∀k,T k->w'.heap[k]?=w.heap[k]?)->(∀k,k<B->w'.heap[k]?=w.heap[k]?)->w.heap.size<=w'.heap.size->SQ pv T w' x
structure LQ {σ:Type} (SQ:(Nat->Value)->(Nat->Prop)->World->σ->Prop) (B:Nat) (S:Nat->Prop) (w:World) (b:Nat) (pv:Nat->Value) (vt va:Value) (T:Nat->Prop) (s:PS) (A:List AT) (tn sq:Int) (x:σ):Prop where
 bound:∀k,S k->B<=k/\k<w.heap.size
 cells:LAt w b (xP pv vt va s tn)
 row:w.ownsRow B 72 3 vt s.trace.length (xZ s.trace)
 arow:w.ownsRow B 210 3 va A.length (sZ A)
 rel:pO s A tn sq
 src:SQ pv T w x
 hc:∃a n c,pv 9=.slice a n c/\(n:Int)=s.heard
 inB:S b
 inV:∀q,own vt q->S q/\q≠b/\¬T q
 inA:∀q,own va q->S q/\q≠b/\¬T q
 inT:∀k,T k->S k/\k≠b
section
variable {σ:Type} {SQ:(Nat->Value)->(Nat->Prop)->World->σ->Prop} {B:Nat} {S T:Nat->Prop} {w:World} {b:Nat} {pv:Nat->Value} {vt va:Value} {s:PS} {A:List AT} {tn sq:Int} {x:σ}
theorem LQ.cell (h:LQ SQ B S w b pv vt va T s A tn sq x) (k:Nat) (hk:k<28):w.cell? ⟨b,k,none⟩=some (xP pv vt va s tn k):=(h.cells k hk).1
theorem LQ.free (h:LQ SQ B S w b pv vt va T s A tn sq x) (k:Nat) (hk:k<28):w.frozen? ⟨b,k,none⟩=false:=(h.cells k hk).2
theorem LQ.blt (h:LQ SQ B S w b pv vt va T s A tn sq x):b<w.heap.size:=(h.bound b h.inB).2
theorem LQ.below (h:LQ SQ B S w b pv vt va T s A tn sq x):B<=w.heap.size:=by have:=h.bound b h.inB;omega
theorem LQ.kept (L:sW SQ B) (h:LQ SQ B S w b pv vt va T s A tn sq x) {w':World} (hs:∀k,S k->w'.heap[k]?=w.heap[k]?) (hb:∀k,k<B->w'.heap[k]?=w.heap[k]?) (hz:w.heap.size<=w'.heap.size):LQ SQ B S w' b pv vt va T s A tn sq x:=
 ⟨fun k hk=>⟨(h.bound k hk).1,zT (h.bound k hk).2 hz⟩,h.cells.block (hs b h.inB),yA h.row (fun q hq=>hs q (h.inV q hq).1),yA h.arow (fun q hq=>hs q (h.inA q hq).1),h.rel,L.keep h.src (fun k hk=>hs k (h.inT k hk).1) hb hz,h.hc,h.inB,h.inV,h.inA,h.inT⟩
theorem LQ.fr (L:sW SQ B) (h:LQ SQ B S w b pv vt va T s A tn sq x) {w':World} (hf:Fr (fun _=>False) w w' (fun _=>False)):LQ SQ B S w' b pv vt va T s A tn sq x:=
 h.kept L (fun k hk=>hf.same k (h.bound k hk).2 (fun h=>h)) (fun k hk=>hf.same k (zT hk h.below) (fun h=>h)) hf.size
theorem LQ.alloc (L:sW SQ B) (h:LQ SQ B S w b pv vt va T s A tn sq x) (o:Obj):LQ SQ B S (w.alloc o) b pv vt va T s A tn sq x:=h.fr L ((Fr.refl _ _).alloc o)
theorem LQ.drew (L:sW SQ B) (h:LQ SQ B S w b pv vt va T s A tn sq x):LQ SQ B S w.drew b pv vt va T s A tn sq x:=h.fr L (Fr.refl _ _).drew
theorem LQ.drewN (L:sW SQ B) (h:LQ SQ B S w b pv vt va T s A tn sq x) (n:Nat):LQ SQ B S (w.drewN n) b pv vt va T s A tn sq x:=h.fr L ((Fr.refl _ _).drewN n)
theorem LQ.setNew (L:sW SQ B) (h:LQ SQ B S w b pv vt va T s A tn sq x) (a:Addr) (v:Value) (ha:¬S a.block) (hB:B<=a.block):LQ SQ B S (w.setCell a v) b pv vt va T s A tn sq x:=
 h.kept L (fun k hk=>zQ _ _ _ _ (by intro e;subst e;exact ha hk)) (fun k hk=>zQ _ _ _ _ (by intro e;subst e;omega)) (by simp [World.setCell])
theorem LQ.set (L:sW SQ B) (h:LQ SQ B S w b pv vt va T s A tn sq x) (k:Nat) (v:Value) (s':PS) {tn' sq':Int} (hk:k<28) (he:∀j,j<28->xP pv vt va s' tn' j=yP (xP pv vt va s tn) k v j) (ht:s'.trace=s.trace) (hr:pO s' A tn' sq') (hh:s'.heard=s.heard) :
  LQ SQ B S (w.setCell ⟨b,k,none⟩ v) b pv vt va T s' A tn' sq' x:=by
 have hsame:∀q,q≠b->(w.setCell ⟨b,k,none⟩ v).heap[q]?=w.heap[q]?:=fun q hq=>zQ _ _ _ _ hq
 have hz:w.heap.size=(w.setCell ⟨b,k,none⟩ v).heap.size:=by simp [World.setCell]
 have hbB:=(h.bound b h.inB).1
 exact⟨fun k hk=>⟨(h.bound k hk).1,by rw [<-hz];exact(h.bound k hk).2⟩,(h.cells.set k v hk).congr he,by rw [ht];exact yA h.row (fun q hq=>hsame q (h.inV q hq).2.1),
  yA h.arow (fun q hq=>hsame q (h.inA q hq).2.1),hr,L.keep h.src (fun q hq=>hsame q (h.inT q hq).2) (fun q hq=>hsame q (by omega)) (Nat.le_of_eq hz),by rw [hh];exact h.hc,h.inB,h.inV,h.inA,h.inT⟩
theorem LQ.setArmed (L:sW SQ B) (h:LQ SQ B S w b pv vt va T s A tn sq x) {w1:World} {va':Value} {A':List AT} {s':PS} (hr:w1.ownsRow B 210 3 va' A'.length (sZ A')) (hf:Fr (own va) w w1 (own va')) (rel:pO s' A' tn sq)
  (e1:s'.reg=s.reg) (e2:s'.clock=s.clock) (e3:s'.wat=s.wat) (e4:s'.fuel=s.fuel) (e5:s'.trace=s.trace) (e6:s'.fin=s.fin) (e7:s'.heard=s.heard) :
  LQ SQ B (fun q=>(S q/\¬own va q)\/own va' q) (w1.setCell ⟨b,16,none⟩ va') b pv vt va' T s' A' tn sq x/\Fr S w (w1.setCell ⟨b,16,none⟩ va') (fun q=>(S q/\¬own va q)\/own va' q):=by
 have hb:=h.blt
 have hbB:=(h.bound b h.inB).1
 have hbv:¬own va b:=fun e=>(h.inA b e).2.1 rfl
 have hz:(w1.setCell ⟨b,16,none⟩ va').heap.size=w1.heap.size:=by simp [World.setCell]
 have hnew:∀q,own va' q->own va q\/w.heap.size<=q:=fun q hq=>by
  by_cases hl:q<w.heap.size
  ·exact .inl (hf.old q hl hq)
  ·exact .inr (by omega)
 have hb':¬own va' b:=fun e=>by
  rcases hnew b e with h1 | h1
  ·exact hbv h1
  ·omega
 have same1:∀q,q<w.heap.size->¬own va q->w1.heap[q]?=w.heap[q]?:=hf.same
 have same2:∀q,q≠b->(w1.setCell ⟨b,16,none⟩ va').heap[q]?=w1.heap[q]?:=fun q hq=>zQ _ _ _ _ hq
 have hvt:∀q,own vt q->¬own va q:=fun q hq hv=>by
  obtain⟨c1,h1⟩:=mT h.row hq
  obtain⟨c2,h2⟩:=mT h.arow hv
  rw [h1] at h2
  injection h2 with h2
  injection h2 with _ h2
  exact absurd h2 (by decide)
 have nT:∀q,T q->¬own va q:=fun q hq hv=>(h.inA q hv).2.2 hq
 refine⟨⟨fun k hk=>?_,?_,?_,?_,rel,?_,by rw [e7];exact h.hc,.inl ⟨h.inB,hbv⟩,fun q hq=>?_,fun q hq=>?_,fun k hk=>?_⟩,?_⟩
 ·rw [hz]
  rcases hk with ⟨hk,_⟩ | hk
  ·exact⟨(h.bound k hk).1,zT (h.bound k hk).2 hf.size⟩
  ·exact zS hr k hk
 ·refine((h.cells.block (same1 b hb hbv)).set 16 va' (by omega)).congr (qA (vG _ _ _ _ _) (fun i _ _=>by rw [e1]) (fun _=>e2) (fun _=>rfl) (fun e=>absurd rfl e) (fun i _ _=>by rw [e3]) (fun _=>e4) (fun _=>rfl) (fun _=>e6))
 ·rw [e5]
  exact yA h.row (fun q hq=>(same2 q (h.inV q hq).2.1).trans (same1 q (h.bound q (h.inV q hq).1).2 (hvt q hq)))
 ·exact yA hr (fun q hq=>same2 q (fun e=>hb' (e▸hq)))
 ·refine L.keep h.src (fun q hq=>(same2 q (h.inT q hq).2).trans (same1 q (h.bound q (h.inT q hq).1).2 (nT q hq))) (fun q hq=>(same2 q (by omega)).trans (same1 q (by omega) (fun e=>?_))) (by rw [hz];exact hf.size)
  have:=(zS h.arow q e).1
  omega
 ·exact⟨.inl ⟨(h.inV q hq).1,hvt q hq⟩,(h.inV q hq).2.1,(h.inV q hq).2.2⟩
 ·refine⟨.inr hq,fun e=>hb' (e▸hq),fun ht=>?_⟩
  rcases hnew q hq with h1 | h1
  ·exact nT q ht h1
  ·have:=(h.bound q (h.inT q ht).1).2;omega
 ·exact⟨.inl ⟨(h.inT k hk).1,nT k hk⟩,(h.inT k hk).2⟩
 ·refine⟨hf.os,hf.tape,hf.output,by rw [hz];exact hf.size,fun k hk hn=>(same2 k (fun e=>hn (e▸h.inB))).trans (same1 k hk (fun e=>hn (h.inA k e).1)),fun k hk hs=>?_⟩
  rcases hs with ⟨hs,_⟩ | hs
  ·exact hs
  ·exact(h.inA k (hf.old k hk hs)).1
theorem LQ.setTrace (L:sW SQ B) (h:LQ SQ B S w b pv vt va T s A tn sq x) {w1:World} {vt':Value} {o:O3} (hr:w1.ownsRow B 72 3 vt' (s.trace.length+1) (xZ s.trace++[.int .i64 o.1,.int .i64 o.2.1,.int .i64 o.2.2])) (hf:Fr (own vt) w w1 (own vt')) :
  LQ SQ B (fun q=>(S q/\¬own vt q)\/own vt' q) (w1.setCell ⟨b,26,none⟩ vt') b pv vt' va T {s with trace:=s.trace++[o]} A tn sq x/\Fr S w (w1.setCell ⟨b,26,none⟩ vt') (fun q=>(S q/\¬own vt q)\/own vt' q):=by
 have hb:=h.blt
 have hbB:=(h.bound b h.inB).1
 have hbv:¬own vt b:=fun e=>(h.inV b e).2.1 rfl
 have hz:(w1.setCell ⟨b,26,none⟩ vt').heap.size=w1.heap.size:=by simp [World.setCell]
 have hnew:∀q,own vt' q->own vt q\/w.heap.size<=q:=fun q hq=>by
  by_cases hl:q<w.heap.size
  ·exact .inl (hf.old q hl hq)
  ·exact .inr (by omega)
 have hb':¬own vt' b:=fun e=>by
  rcases hnew b e with h1 | h1
  ·exact hbv h1
  ·omega
 have same1:∀q,q<w.heap.size->¬own vt q->w1.heap[q]?=w.heap[q]?:=hf.same
 have same2:∀q,q≠b->(w1.setCell ⟨b,26,none⟩ vt').heap[q]?=w1.heap[q]?:=fun q hq=>zQ _ _ _ _ hq
 have hva:∀q,own va q->¬own vt q:=fun q hq hv=>by
  obtain⟨c1,h1⟩:=mT h.arow hq
  obtain⟨c2,h2⟩:=mT h.row hv
  rw [h1] at h2
  injection h2 with h2
  injection h2 with _ h2
  exact absurd h2 (by decide)
 have nT:∀q,T q->¬own vt q:=fun q hq hv=>(h.inV q hv).2.2 hq
 refine⟨⟨fun k hk=>?_,?_,?_,?_,h.rel.of rfl rfl,?_,h.hc,.inl ⟨h.inB,hbv⟩,fun q hq=>?_,fun q hq=>?_,fun k hk=>?_⟩,?_⟩
 ·rw [hz]
  rcases hk with ⟨hk,_⟩ | hk
  ·exact⟨(h.bound k hk).1,zT (h.bound k hk).2 hf.size⟩
  ·exact zS hr k hk
 ·exact((h.cells.block (same1 b hb hbv)).set 26 vt' (by omega)).congr (qA (xD _ _ _ _ _) (fun i _ _=>rfl) (fun _=>rfl) (fun _=>rfl) (fun _=>rfl) (fun i _ _=>rfl) (fun _=>rfl) (fun e=>absurd rfl e) (fun _=>rfl))
 ·have e:(s.trace++[o]).length=s.trace.length+1:=by simp
  show (w1.setCell ⟨b,26,none⟩ vt').ownsRow B 72 3 vt' (s.trace++[o]).length (xZ (s.trace++[o]))
  rw [e,jB]
  exact yA hr (fun q hq=>same2 q (fun e=>hb' (e▸hq)))
 ·exact yA h.arow (fun q hq=>(same2 q (h.inA q hq).2.1).trans (same1 q (h.bound q (h.inA q hq).1).2 (hva q hq)))
 ·refine L.keep h.src (fun q hq=>(same2 q (h.inT q hq).2).trans (same1 q (h.bound q (h.inT q hq).1).2 (nT q hq))) (fun q hq=>(same2 q (by omega)).trans (same1 q (by omega) (fun e=>?_))) (by rw [hz];exact hf.size)
  have:=(zS h.row q e).1
  omega
 ·refine⟨.inr hq,fun e=>hb' (e▸hq),fun ht=>?_⟩
  rcases hnew q hq with h1 | h1
  ·exact nT q ht h1
  ·have:=(h.bound q (h.inT q ht).1).2;omega
 ·exact⟨.inl ⟨(h.inA q hq).1,hva q hq⟩,(h.inA q hq).2.1,(h.inA q hq).2.2⟩
 ·exact⟨.inl ⟨(h.inT k hk).1,nT k hk⟩,(h.inT k hk).2⟩
 ·refine⟨hf.os,hf.tape,hf.output,by rw [hz];exact hf.size,fun k hk hn=>(same2 k (fun e=>hn (e▸h.inB))).trans (same1 k hk (fun e=>hn (h.inV k e).1)),fun k hk hs=>?_⟩
  rcases hs with ⟨hs,_⟩ | hs
  ·exact hs
  ·exact(h.inV k (hf.old k hk hs)).1
def fJ (SQ:(Nat->Value)->(Nat->Prop)->World->σ->Prop) (B:Nat) (S:Nat->Prop) (w:World) (b:Nat) (pv:Nat->Value) (tn sq:Int) (s:PS) (x:σ) (w':World):Prop:=
 ∃S' pv' vt' va' T' A',LQ SQ B S' w' b pv' vt' va' T' s A' tn sq x/\(∀i,i<3->pv' i=pv i)/\Fr S w w' S'
end
