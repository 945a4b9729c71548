/-
  PROVED HERE: the document's clock, over a source that keeps i
-/
import Derived.Test.YtfmbebofllgmoaaGreatDoorSallbf
set_option maxHeartbeats 4000000
set_option maxRecDepth 20000
namespace Go.Proofs.YtfmbebofllgmoaaGreatDoor
open Go.RowKit
attribute [local go_sem ↓] Go.wp_at_zero Go.wp_at_succ
section
variable {pv:Nat->Value} {vt va:Value} {s:PS} {tn:Int}
theorem qM (v:Int):∀j,j<28->xU pv vt va {s with fin:=v} tn j=yV (xU pv vt va s tn) 27 (.int .i64 v) j:=
 qN (xF _ _ _ _ _) (fun _ _ _=>rfl) (fun _=>rfl) (fun _=>rfl) (fun _=>rfl) (fun _ _ _=>rfl) (fun _=>rfl) (fun _=>rfl) (fun e=>absurd rfl e)
theorem zN5 (v:Int):∀j,j<28->xU pv vt va {s with clock:=v} tn j=yV (xU pv vt va s tn) 14 (.int .i64 v) j:=
 qN (tQ _ _ _ _ _) (fun _ _ _=>rfl) (fun e=>absurd rfl e) (fun _=>rfl) (fun _=>rfl) (fun _ _ _=>rfl) (fun _=>rfl) (fun _=>rfl) (fun _=>rfl)
theorem bX (v:Int):∀j,j<28->xU pv vt va {s with fuel:=v} tn j=yV (xU pv vt va s tn) 25 (.int .i64 v) j:=
 qN (kB _ _ _ _ _) (fun _ _ _=>rfl) (fun _=>rfl) (fun _=>rfl) (fun _=>rfl) (fun _ _ _=>rfl) (fun e=>absurd rfl e) (fun _=>rfl) (fun _=>rfl)
theorem zX7 (v:Int):∀j,j<28->xU pv vt va s v j=yV (xU pv vt va s tn) 15 (.int .i64 v) j:=
 qN (tD _ _ _ _ _) (fun _ _ _=>rfl) (fun _=>rfl) (fun e=>absurd rfl e) (fun _=>rfl) (fun _ _ _=>rfl) (fun _=>rfl) (fun _=>rfl) (fun _=>rfl)
theorem lG (i:Nat) (v:Int) (h:i<4):∀j,j<28->xU pv vt va {s with reg:=upd s.reg i v} tn j=yV (xU pv vt va s tn) (10+i) (.int .i64 v) j:=
 qN (by rw [uF _ _ _ _ _ _ h];simp [upd]) (fun j _ hne=>by simp only [upd];rw [if_neg (by omega)]) (fun _=>rfl) (fun _=>rfl) (fun _=>rfl) (fun _ _ _=>rfl) (fun _=>rfl) (fun _=>rfl) (fun _=>rfl)
theorem zG5 (i:Nat) (v:Bool) (h:i<8):∀j,j<28->xU pv vt va {s with wat:=upd s.wat i v} tn j=yV (xU pv vt va s tn) (17+i) (.bool v) j:=
 qN (by rw [uG _ _ _ _ _ _ h];simp [upd]) (fun _ _ _=>rfl) (fun _=>rfl) (fun _=>rfl) (fun _=>rfl) (fun j _ hne=>by simp only [upd];rw [if_neg (by omega)]) (fun _=>rfl) (fun _=>rfl) (fun _=>rfl)
end
section
variable {σ:Type} {SQ:(Nat->Value)->(Nat->Prop)->World->σ->Prop} {ask:σ->Int->Int->Rep×σ} {may:Int->Int->Prop} {B:Nat} {S T:Nat->Prop} {w:World} {b:Nat} {pv:Nat->Value} {vt va:Value} {s:PS} {A:List AT} {tn sq:Int} {x:σ}
def rX (SQ:(Nat->Value)->(Nat->Prop)->World->σ->Prop) (B:Nat) (S:Nat->Prop) (w:World) (b:Nat) (pv:Nat->Value) (vt va:Value) (A:List AT) (tn sq:Int) (s:PS) (x:σ) (w':World):Prop:=
 ∃S' pv' T',LQ SQ B S' w' b pv' vt va T' s A tn sq x/\(∀i,i<3->pv' i=pv i)/\Fr S w w' S'
def sQ (s:PS) (R:Rep):PS:=if R.e=0 then {s with heard:=wrap64 (s.heard+1)} else {s with fin:=R.e}
structure eB (SQ:(Nat->Value)->(Nat->Prop)->World->σ->Prop) (ask:σ->Int->Int->Rep×σ) (may:Int->Int->Prop) (B:Nat):Prop where
 calls:∀{S T:Nat->Prop} {w:World} {b:Nat} {pv:Nat->Value} {vt va:Value} {s:PS} {A:List AT} {tn sq:Int} {x:σ} {k o:Int},LQ SQ B S w b pv vt va T s A tn sq x->s.fin=0->may k o->
  Calls Tryz.prog 141 #[.pointer (some ⟨b,0,none⟩),.int .i64 k,.int .i64 o] w fun e w'=>∃kd of_ n fa fl fc,e=.returned (.agg #[.int .i64 kd,.int .i64 of_,.int .i64 n,.slice fa fl fc])/\rX SQ B S w b pv vt va A tn sq (sQ s (ask x k o).1) (ask x k o).2 w'/\
   ((ask x k o).1.e=0->n=(ask x k o).1.n/\yJ w' (.slice fa fl fc) (ask x k o).1.files (fun q=>q<w'.heap.size))
theorem eQ (L:rK SQ B) (K:eB SQ ask may B) (h:LQ SQ B S w b pv vt va T s A tn sq x) (hf:s.fin=0) (hm:may 1 0) :
  Calls Tryz.prog 127 #[.pointer (some ⟨b,0,none⟩)] w fun e w'=>e=.returned (.tuple #[])/\rX SQ B S w b pv vt va A tn sq (ckS s (ask x 1 0).1) (ask x 1 0).2 w':=by
 have hc:=K.calls h hf hm
 generalize ask x 1 0=R at *
 obtain⟨⟨rk,ro,rn,rf,re⟩,x'⟩:=R
 have HC:=zZ hc
 have hinB:=h.inB
 have HIN:=zZ hinB
 clear hc h hm hinB
 go_enter Tryz.func127,Tryz.ntmps127
 go_wp2_with fail
 go_at_call 141
 refine(zY HC).mono ?_
 rintro e w1 ⟨kd,of_,n,fa,fl,fc,rfl,⟨S1,pv1,T1,h1,hp1,f1⟩,hn⟩
 have ha:=h1.alloc L (.cells #[.int .i64 kd,.int .i64 of_,.int .i64 n,.slice fa fl fc] 49)
 have fa1:=f1.alloc (.cells #[.int .i64 kd,.int .i64 of_,.int .i64 n,.slice fa fl fc] 49)
 have k27:=(h1.cell 27 (by omega)).trans (by rw [xF])
 have z27:=h1.free 27 (by omega)
 have k14:=(h1.cell 14 (by omega)).trans (by rw [tQ])
 have z14:=h1.free 14 (by omega)
 have hb:=h1.blt
 have hne:b≠w1.heap.size:=by omega
 have hne':¬w1.heap.size=b:=by omega
 have HA:=zZ ha
 have FA:=zZ fa1
 have HN:=zZ hn
 have HP:=zZ hp1
 have IN1:=zZ h1.inB
 clear ha fa1 hn h1 f1 hp1 HC
 by_cases hre:re=0
 ·have e0:sQ s ⟨rk,ro,rn,rf,re⟩={s with heard:=wrap64 (s.heard+1)}:=by unfold sQ;rw [if_pos hre]
  rw [e0] at HA k27 k14
  have hnn:n=rn:=(zY HN hre).1
  subst hnn
  have k27':w1.cell? ⟨b,27,none⟩=some (.int .i64 0):=by rw [k27];show some (Value.int .i64 s.fin)=_;rw [hf]
  change w1.cell? ⟨b,14,none⟩=some (.int .i64 s.clock) at k14
  clear k27 e0 HN
  by_cases hlt:n<s.clock
  ·have e2:ckS s ⟨rk,ro,n,rf,re⟩={s with heard:=wrap64 (s.heard+1),fin:=4}:=by simp [ckS,hre,hlt]
   have E2:=zZ e2
   clear e2
   go_wp2
   go_quiet (fail)
   go_wp2
   refine bodyPost_ret (v:=.tuple #[]) (by simp [results,Tryz.results127,go_sem]) rfl ⟨rfl,?_⟩
   rw [zY E2]
   exact⟨S1,pv1,T1,((zY HA).drewN L _).set L 27 _ _ (by omega) (qM 4) rfl ((zY HA).rel.of rfl rfl) rfl,zY HP,((zY FA).drewN _).setCell _ _ (.inl (zY HIN))⟩
  ·have e2:ckS s ⟨rk,ro,n,rf,re⟩={s with heard:=wrap64 (s.heard+1),clock:=n}:=by simp [ckS,hre,hlt]
   have E2:=zZ e2
   clear e2
   go_wp2
   go_quiet (fail)
   go_wp2
   go_end0
   refine⟨rfl,?_⟩
   rw [zY E2]
   exact⟨S1,pv1,T1,((zY HA).drewN L _).set L 14 _ _ (by omega) (zN5 n) rfl ((zY HA).rel.of rfl rfl) rfl,zY HP,((zY FA).drewN _).setCell _ _ (.inl (zY HIN))⟩
 ·have e0:sQ s ⟨rk,ro,rn,rf,re⟩={s with fin:=re}:=by unfold sQ;rw [if_neg hre]
  have e2:ckS s ⟨rk,ro,rn,rf,re⟩={s with fin:=re}:=by simp [ckS,hre]
  rw [e0] at HA k27
  have E2:=zZ e2
  change w1.cell? ⟨b,27,none⟩=some (.int .i64 re) at k27
  clear k14 z14 e0 e2 HN
  go_wp2
  refine bodyPost_ret (v:=.tuple #[]) (by simp [results,Tryz.results127,go_sem]) rfl ⟨rfl,?_⟩
  rw [zY E2]
  exact⟨S1,pv1,T1,zY HA,zY HP,zY FA⟩
end
def uV (w:World) (v:Value) (l:List Value) (P:Nat->Prop):Prop:=
 ∃a c,v=.slice a l.length c/\l.length<=c/\(l=[]\/∃q off,a=some ⟨q,off,none⟩/\P q/\∀i,i<l.length->w.cell? ⟨q,off+i,none⟩=some (l.getD i undef))
def vU (w:World) (v:Value) (l:List Int) (P:Nat->Prop):Prop:=uV w v (l.map (.int .i64)) P
def oW (w:World) (v:Value) (ls:List (List Int)) (P:Nat->Prop):Prop:=
 ∃vals:List Value,uV w v vals P/\vals.length=ls.length/\∀(i:Nat) (u:Value) (l:List Int),vals[i]?=some u->ls[i]?=some l->yJ w u l P
theorem uV.keep {w w':World} {v:Value} {l:List Value} {P:Nat->Prop} (h:uV w v l P) (hk:∀q,P q->w'.heap[q]?=w.heap[q]?):uV w' v l P:=by
 obtain⟨a,c,hv,hc,hl⟩:=h
 refine⟨a,c,hv,hc,hl.imp id ?_⟩
 rintro ⟨q,off,ha,hq,hcc⟩
 exact⟨q,off,ha,hq,fun i hi=>(zO (w:=w) (a:=⟨q,off+i,none⟩) (hk q hq)).trans (hcc i hi)⟩
theorem oW.keep {w w':World} {v:Value} {ls:List (List Int)} {P:Nat->Prop} (h:oW w v ls P) (hk:∀q,P q->w'.heap[q]?=w.heap[q]?):oW w' v ls P:=by
 obtain⟨vals,h1,h2,h3⟩:=h
 exact⟨vals,h1.keep hk,h2,fun i u l hu hl=>yQ (h3 i u l hu hl) hk (fun _ h=>h)⟩
theorem uV.cons {w:World} {v u:Value} {r:List Value} {P:Nat->Prop} (h:uV w v (u::r) P):∃q off c,v=.slice (some ⟨q,off,none⟩) (r.length+1) c/\r.length+1<=c/\P q/\w.cell? ⟨q,off,none⟩=some u/\uV w (.slice (if c=1 then some ⟨q,off,none⟩ else some ⟨q,off+1,none⟩) r.length (c-1)) r P:=by
 obtain⟨a,c,hv,hc,hl⟩:=h
 rcases hl with h0 | ⟨q,off,rfl,hq,hcc⟩
 ·cases h0
 refine⟨q,off,c,hv,hc,hq,hcc 0 (by simp),_,c-1,rfl,by simp at hc ⊢;omega,?_⟩
 by_cases h1:c=1
 ·left
  simp at hc
  exact List.eq_nil_of_length_eq_zero (by omega)
 ·right
  refine⟨q,off+1,by rw [if_neg h1],hq,fun i hi=>?_⟩
  have:=hcc (i+1) (by simp;omega)
  rw [show off+1+i=off+(i+1) by omega,this]
  rfl
theorem uV.nil {w:World} {v:Value} {P:Nat->Prop} (h:uV w v [] P):∃a c,v=.slice a 0 c:=by
 obtain⟨a,c,hv,_⟩:=h
 exact⟨a,c,hv⟩
theorem nO {w:World} {b j:Nat} {c:Nat->Value} {v:Value} (hc:LAt w b c) (hj:j<28) (o1 o2:Obj):LAt (((w.setCell ⟨b,j,none⟩ v).alloc o1).alloc o2) b (yV c j v)/\Fr (fun q=>q=b) w (((w.setCell ⟨b,j,none⟩ v).alloc o1).alloc o2) (fun q=>q=b):=by
 have hb:b<w.heap.size:=zU _ _ (hc 0 (by omega)).1
 have h1:=hc.set j v hj
 have hz:(w.setCell ⟨b,j,none⟩ v).heap.size=w.heap.size:=by simp [World.setCell]
 have e:(((w.setCell ⟨b,j,none⟩ v).alloc o1).alloc o2).heap[b]?=(w.setCell ⟨b,j,none⟩ v).heap[b]?:=(zR _ _ _ (by simp [World.setCell];omega)).trans (zR _ _ _ (by rw [hz];exact hb))
 exact⟨h1.block e,(((Fr.refl (fun q=>q=b) w).setCell ⟨b,j,none⟩ v (.inl rfl)).alloc o1).alloc o2⟩
theorem LAt.other {w:World} {b q j:Nat} {c:Nat->Value} {v:Value} (h:LAt w b c) (hq:¬b=q):LAt (w.setCell ⟨q,j,none⟩ v) b c:=h.block (zQ _ _ _ _ hq)
def WAns (w:World) (b:Nat) (c:Nat->Value) (k o n:Int) (fl:List Int) (j:Nat) (v':Value) (e:Ending) (w':World):Prop:=
 ∃fv,e=.returned (.tuple #[.agg #[.int .i64 k,.int .i64 o,.int .i64 n,fv],.bool true])/\LAt w' b (yV c j v')/\Fr (fun q=>q=b) w w' (fun q=>q=b)/\yR w' w.heap.size fv fl
theorem world1 {w:World} {b:Nat} {c:Nat->Value} {P:Nat->Prop} (hcells:LAt w b c) (hP:∀q,P q->q<w.heap.size/\q≠b) {z:Int} {r:List Int} (hl:vU w (c 3) (z::r) P) :
  ∃v',vU w v' r P/\Calls Tryz.prog 146 #[.pointer (some ⟨b,0,none⟩),.int .i64 1,.int .i64 0] w (WAns w b c 1 0 (vO z) [] 3 v'):=by
 obtain⟨q,off,cp,hv,hcp,hq,hz,ht⟩:=uV.cons hl
 refine⟨_,ht,?_⟩
 have hb:b<w.heap.size:=zU _ _ (hcells 0 (by omega)).1
 have c3:=(hcells 3 (by omega)).1
 have z3:=(hcells 3 (by omega)).2
 rw [hv] at c3
 obtain⟨hq1,hq2⟩:=hP q hq
 rw [List.length_map] at c3 hcp ⊢
 rw [show vO z=min (max z 0) 1099511627776 from rfl]
 have HC:=zZ hcells
 clear ht hcells hl hv
 by_cases h1:cp=1
 ·subst h1
  obtain rfl:r=[]:=List.eq_nil_of_length_eq_zero (by omega)
  rw [if_pos rfl]
  go_enter Tryz.func146,Tryz.ntmps146
  go_wp2
  refine bodyPost_ret (v:=.tuple #[.agg #[.int .i64 1,.int .i64 0,.int .i64 (min (max z 0) 1099511627776),.slice none 0 0],.bool true]) (by simp [results,Tryz.results146,go_sem]) rfl ?_
  obtain⟨g1,g2⟩:=nO (v:=(.slice (some ⟨q,off,none⟩) 0 0)) (zY HC) (j:=3) (by omega) (.cells #[.int .i64 1,.int .i64 0,.int .i64 (min (max z 0) 1099511627776),.slice none 0 0] 49) (.cells #[.int .i64 1,.int .i64 0,.int .i64 (min (max z 0) 1099511627776),.slice none 0 0] 49)
  exact⟨_,rfl,g1,g2,zX _ _ _ _⟩
 ·rw [if_neg h1]
  go_enter Tryz.func146,Tryz.ntmps146
  go_wp2
  refine bodyPost_ret (v:=.tuple #[.agg #[.int .i64 1,.int .i64 0,.int .i64 (min (max z 0) 1099511627776),.slice none 0 0],.bool true]) (by simp [results,Tryz.results146,go_sem]) rfl ?_
  obtain⟨g1,g2⟩:=nO (v:=(.slice (some ⟨q,off+1,none⟩) r.length (cp-1))) (zY HC) (j:=3) (by omega) (.cells #[.int .i64 1,.int .i64 0,.int .i64 (min (max z 0) 1099511627776),.slice none 0 0] 49) (.cells #[.int .i64 1,.int .i64 0,.int .i64 (min (max z 0) 1099511627776),.slice none 0 0] 49)
  exact⟨_,rfl,g1,g2,zX _ _ _ _⟩
theorem world3 {w:World} {b:Nat} {c:Nat->Value} {P:Nat->Prop} (hcells:LAt w b c) (hP:∀q,P q->q<w.heap.size/\q≠b) (o:Int) (ho1:1<=o) (ho2:o<=1000000) {z:Int} {r:List Int} (hl:vU w (c 5) (z::r) P) :
  ∃v',vU w v' r P/\Calls Tryz.prog 146 #[.pointer (some ⟨b,0,none⟩),.int .i64 3,.int .i64 o] w (WAns w b c 3 o (z % o) [] 5 v'):=by
 obtain⟨q,off,cp,hv,hcp,hq,hz,ht⟩:=uV.cons hl
 refine⟨_,ht,?_⟩
 have hb:b<w.heap.size:=zU _ _ (hcells 0 (by omega)).1
 have c3:=(hcells 5 (by omega)).1
 have z3:=(hcells 5 (by omega)).2
 rw [hv] at c3
 obtain⟨hq1,hq2⟩:=hP q hq
 rw [List.length_map] at c3 hcp ⊢
 have HM:=zZ (gS z o)
 have ho1a:(1:Int)<=o:=ho1
 have HC:=zZ hcells
 clear ht hcells hl hv
 by_cases h1:cp=1
 ·subst h1
  obtain rfl:r=[]:=List.eq_nil_of_length_eq_zero (by omega)
  rw [if_pos rfl]
  go_enter Tryz.func146,Tryz.ntmps146
  go_wp2_with (go_at_call 158;refine(zY HM _ ho1 ho2).mono ?_;rintro e w2 ⟨rfl,hw2⟩;rw [hw2];clear hw2 w2)
  refine bodyPost_ret (v:=.tuple #[.agg #[.int .i64 3,.int .i64 o,.int .i64 (z % o),.slice none 0 0],.bool true]) (by simp [results,Tryz.results146,go_sem]) rfl ?_
  obtain⟨g1,g2⟩:=nO (v:=(.slice (some ⟨q,off,none⟩) 0 0)) (zY HC) (j:=5) (by omega) (.cells #[.int .i64 3,.int .i64 o,.int .i64 (z % o),.slice none 0 0] 49) (.cells #[.int .i64 3,.int .i64 o,.int .i64 (z % o),.slice none 0 0] 49)
  exact⟨_,rfl,g1,g2,zX _ _ _ _⟩
 ·rw [if_neg h1]
  go_enter Tryz.func146,Tryz.ntmps146
  go_wp2_with (go_at_call 158;refine(zY HM _ ho1 ho2).mono ?_;rintro e w2 ⟨rfl,hw2⟩;rw [hw2];clear hw2 w2)
  refine bodyPost_ret (v:=.tuple #[.agg #[.int .i64 3,.int .i64 o,.int .i64 (z % o),.slice none 0 0],.bool true]) (by simp [results,Tryz.results146,go_sem]) rfl ?_
  obtain⟨g1,g2⟩:=nO (v:=(.slice (some ⟨q,off+1,none⟩) r.length (cp-1))) (zY HC) (j:=5) (by omega) (.cells #[.int .i64 3,.int .i64 o,.int .i64 (z % o),.slice none 0 0] 49) (.cells #[.int .i64 3,.int .i64 o,.int .i64 (z % o),.slice none 0 0] 49)
  exact⟨_,rfl,g1,g2,zX _ _ _ _⟩
theorem world4 {w:World} {b:Nat} {c:Nat->Value} {P:Nat->Prop} (hcells:LAt w b c) (hP:∀q,P q->q<w.heap.size/\q≠b) (o:Int) (ho1:1<=o) (ho2:o<=1000000) {z:Int} {r:List Int} (hl:vU w (c 6) (z::r) P) :
  ∃v',vU w v' r P/\Calls Tryz.prog 146 #[.pointer (some ⟨b,0,none⟩),.int .i64 4,.int .i64 o] w (WAns w b c 4 o (z % o) [] 6 v'):=by
 obtain⟨q,off,cp,hv,hcp,hq,hz,ht⟩:=uV.cons hl
 refine⟨_,ht,?_⟩
 have hb:b<w.heap.size:=zU _ _ (hcells 0 (by omega)).1
 have c3:=(hcells 6 (by omega)).1
 have z3:=(hcells 6 (by omega)).2
 rw [hv] at c3
 obtain⟨hq1,hq2⟩:=hP q hq
 rw [List.length_map] at c3 hcp ⊢
 have HM:=zZ (gS z o)
 have ho1a:(1:Int)<=o:=ho1
 have HC:=zZ hcells
 clear ht hcells hl hv
 by_cases h1:cp=1
 ·subst h1
  obtain rfl:r=[]:=List.eq_nil_of_length_eq_zero (by omega)
  rw [if_pos rfl]
  go_enter Tryz.func146,Tryz.ntmps146
  go_wp2_with (go_at_call 158;refine(zY HM _ ho1 ho2).mono ?_;rintro e w2 ⟨rfl,hw2⟩;rw [hw2];clear hw2 w2)
  refine bodyPost_ret (v:=.tuple #[.agg #[.int .i64 4,.int .i64 o,.int .i64 (z % o),.slice none 0 0],.bool true]) (by simp [results,Tryz.results146,go_sem]) rfl ?_
  obtain⟨g1,g2⟩:=nO (v:=(.slice (some ⟨q,off,none⟩) 0 0)) (zY HC) (j:=6) (by omega) (.cells #[.int .i64 4,.int .i64 o,.int .i64 (z % o),.slice none 0 0] 49) (.cells #[.int .i64 4,.int .i64 o,.int .i64 (z % o),.slice none 0 0] 49)
  exact⟨_,rfl,g1,g2,zX _ _ _ _⟩
 ·rw [if_neg h1]
  go_enter Tryz.func146,Tryz.ntmps146
  go_wp2_with (go_at_call 158;refine(zY HM _ ho1 ho2).mono ?_;rintro e w2 ⟨rfl,hw2⟩;rw [hw2];clear hw2 w2)
  refine bodyPost_ret (v:=.tuple #[.agg #[.int .i64 4,.int .i64 o,.int .i64 (z % o),.slice none 0 0],.bool true]) (by simp [results,Tryz.results146,go_sem]) rfl ?_
  obtain⟨g1,g2⟩:=nO (v:=(.slice (some ⟨q,off+1,none⟩) r.length (cp-1))) (zY HC) (j:=6) (by omega) (.cells #[.int .i64 4,.int .i64 o,.int .i64 (z % o),.slice none 0 0] 49) (.cells #[.int .i64 4,.int .i64 o,.int .i64 (z % o),.slice none 0 0] 49)
  exact⟨_,rfl,g1,g2,zX _ _ _ _⟩
theorem yR7 {w:World} {b:Nat} {c:Nat->Value} {P:Nat->Prop} (hcells:LAt w b c) (hl:uV w (c 3) [] P) :
  Calls Tryz.prog 146 #[.pointer (some ⟨b,0,none⟩),.int .i64 1,.int .i64 0] w fun e w'=>e=.returned (.tuple #[.agg #[.int .i64 1,.int .i64 0,.int .i64 0,.slice none 0 0],.bool false])/\Fr (fun _=>False) w w' (fun _=>False):=by
 obtain⟨a,cp,hv⟩:=hl.nil
 have hb:b<w.heap.size:=zU _ _ (hcells 0 (by omega)).1
 have c3:=(hcells 3 (by omega)).1
 rw [hv] at c3
 clear hl hcells hv
 go_enter Tryz.func146,Tryz.ntmps146
 go_wp2
 refine bodyPost_ret (v:=.tuple #[.agg #[.int .i64 1,.int .i64 0,.int .i64 0,.slice none 0 0],.bool false]) (by simp [results,Tryz.results146,go_sem]) rfl ⟨rfl,?_⟩
 exact((Fr.refl _ _).alloc _).alloc _
theorem yR8 {w:World} {b:Nat} {c:Nat->Value} {P:Nat->Prop} (hcells:LAt w b c) (hl:uV w (c 4) [] P) :
  Calls Tryz.prog 146 #[.pointer (some ⟨b,0,none⟩),.int .i64 2,.int .i64 0] w fun e w'=>e=.returned (.tuple #[.agg #[.int .i64 2,.int .i64 0,.int .i64 0,.slice none 0 0],.bool false])/\Fr (fun _=>False) w w' (fun _=>False):=by
 obtain⟨a,cp,hv⟩:=hl.nil
 have hb:b<w.heap.size:=zU _ _ (hcells 0 (by omega)).1
 have c3:=(hcells 4 (by omega)).1
 rw [hv] at c3
 clear hl hcells hv
 go_enter Tryz.func146,Tryz.ntmps146
 go_wp2
 refine bodyPost_ret (v:=.tuple #[.agg #[.int .i64 2,.int .i64 0,.int .i64 0,.slice none 0 0],.bool false]) (by simp [results,Tryz.results146,go_sem]) rfl ⟨rfl,?_⟩
 exact((Fr.refl _ _).alloc _).alloc _
theorem yR9 {w:World} {b:Nat} {c:Nat->Value} {P:Nat->Prop} (hcells:LAt w b c) (o:Int) (hl:uV w (c 5) [] P) :
  Calls Tryz.prog 146 #[.pointer (some ⟨b,0,none⟩),.int .i64 3,.int .i64 o] w fun e w'=>e=.returned (.tuple #[.agg #[.int .i64 3,.int .i64 o,.int .i64 0,.slice none 0 0],.bool false])/\Fr (fun _=>False) w w' (fun _=>False):=by
 obtain⟨a,cp,hv⟩:=hl.nil
 have hb:b<w.heap.size:=zU _ _ (hcells 0 (by omega)).1
 have c3:=(hcells 5 (by omega)).1
 rw [hv] at c3
 clear hl hcells hv
 go_enter Tryz.func146,Tryz.ntmps146
 go_wp2
 refine bodyPost_ret (v:=.tuple #[.agg #[.int .i64 3,.int .i64 o,.int .i64 0,.slice none 0 0],.bool false]) (by simp [results,Tryz.results146,go_sem]) rfl ⟨rfl,?_⟩
 exact((Fr.refl _ _).alloc _).alloc _
theorem yS0 {w:World} {b:Nat} {c:Nat->Value} {P:Nat->Prop} (hcells:LAt w b c) (o:Int) (hl:uV w (c 6) [] P) :
  Calls Tryz.prog 146 #[.pointer (some ⟨b,0,none⟩),.int .i64 4,.int .i64 o] w fun e w'=>e=.returned (.tuple #[.agg #[.int .i64 4,.int .i64 o,.int .i64 0,.slice none 0 0],.bool false])/\Fr (fun _=>False) w w' (fun _=>False):=by
 obtain⟨a,cp,hv⟩:=hl.nil
 have hb:b<w.heap.size:=zU _ _ (hcells 0 (by omega)).1
 have c3:=(hcells 6 (by omega)).1
 rw [hv] at c3
 clear hl hcells hv
 go_enter Tryz.func146,Tryz.ntmps146
 go_wp2
 refine bodyPost_ret (v:=.tuple #[.agg #[.int .i64 4,.int .i64 o,.int .i64 0,.slice none 0 0],.bool false]) (by simp [results,Tryz.results146,go_sem]) rfl ⟨rfl,?_⟩
 exact((Fr.refl _ _).alloc _).alloc _
theorem world2 {w:World} {b:Nat} {c:Nat->Value} {P:Nat->Prop} (hcells:LAt w b c) (hP:∀q,P q->q<w.heap.size/\q≠b) {l0:List Int} {r:List (List Int)} (hlen:l0.length<=100000000) (hl:oW w (c 4) (l0::r) P) :
  ∃v',oW w v' r P/\Calls Tryz.prog 146 #[.pointer (some ⟨b,0,none⟩),.int .i64 2,.int .i64 0] w (WAns w b c 2 0 0 (vH l0) 4 v'):=by
 obtain⟨vals,hvals,hvl,hall⟩:=hl
 cases vals with
 | nil=>simp at hvl
 | cons u us=>
  obtain⟨q,off,cp,hv,hcp,hq,hz,ht⟩:=uV.cons hvals
  refine⟨_,⟨us,ht,by simpa using hvl,fun i x l hx hl=>hall (i+1) x l (by simpa using hx) (by simpa using hl)⟩,?_⟩
  have hu:=hall 0 u l0 rfl rfl
  have hb:b<w.heap.size:=zU _ _ (hcells 0 (by omega)).1
  have c3:=(hcells 4 (by omega)).1
  have z3:=(hcells 4 (by omega)).2
  rw [hv] at c3
  obtain⟨hq1,hq2⟩:=hP q hq
  have hFF:∀W:World,Fr (fun _=>False) w W (fun _=>False)->Calls Tryz.prog 157 #[u] W fun e w'=>∃v',e=.returned v'/\yR w' W.heap.size v' (vH l0)/\Fr (fun _=>False) W w' (fun _=>False):=fun W hW=>
   zP1 (P:=P) (fun q hq=>zT (hP q hq).1 hW.size) (yQ hu (fun q hq=>hW.same q (hP q hq).1 (fun h=>h)) (fun _ h=>h)) hlen
  obtain⟨ua,uc,hue,hud⟩:=hu
  clear hud
  subst hue
  have HFF:=zZ hFF
  have HC:=zZ hcells
  have f2:Fr (fun _=>False) w ((w.alloc (.cells #[.int .i64 0,.int .i64 0,.int .i64 0,.slice none 0 0] 49)).alloc (.cells #[.int .i64 2,.int .i64 0,.int .i64 0,.slice none 0 0] 49)) (fun _=>False):=((Fr.refl _ _).alloc _).alloc _
  clear ht hcells hvals hall hvl hFF
  by_cases h1:cp=1
  focus
   subst h1
   obtain rfl:us=[]:=List.eq_nil_of_length_eq_zero (by omega)
   rw [if_pos rfl]
  rotate_left
  focus
   rw [if_neg h1]
  rotate_left
  all_goals
   go_enter Tryz.func146,Tryz.ntmps146
   go_wp2_with fail
   go_at_call 157
   refine(zY HFF _ f2).mono ?_
   rintro e w2 ⟨fv,rfl,o2,g2⟩
   obtain⟨va,vc,hfv⟩:=xP o2
   subst hfv
   have x6:w2.heap[w.heap.size]?=some (.cells #[.int .i64 0,.int .i64 0,.int .i64 0,.slice none 0 0] 49):=(g2.same _ (by simp;omega) (fun h=>h)).trans ((zR _ _ _ (by simp)).trans (heap_alloc_new _ _))
   have x8:w2.heap[w.heap.size+1]?=some (.cells #[.int .i64 2,.int .i64 0,.int .i64 0,.slice none 0 0] 49):=(g2.same _ (by simp;try omega) (fun h=>h)).trans (by
    have h:=heap_alloc_new (w.alloc (.cells #[.int .i64 0,.int .i64 0,.int .i64 0,.slice none 0 0] 49)) (.cells #[.int .i64 2,.int .i64 0,.int .i64 0,.slice none 0 0] 49)
    rwa [show (w.alloc (.cells #[.int .i64 0,.int .i64 0,.int .i64 0,.slice none 0 0] 49)).heap.size=w.heap.size+1 by simp] at h)
   have f02:=f2.trans g2
   have c3':=(f02.cell b 4 hb (fun h=>h)).trans c3
   have z3':=(f02.frozen b 4 hb (fun h=>h)).trans z3
   have k6:=fun j=>cell_of_row w2 _ j _ 49 (0,0) x6
   have t6:=fun j=>yB x6 j
   have k8:=fun j=>cell_of_row w2 _ j _ 49 (0,0) x8
   have t8:=fun j=>yB x8 j
   have l6:=(zN.1 x6).1
   have l8:=(zN.1 x8).1
   have n1:¬b=w.heap.size:=by omega
   have n2:¬w.heap.size=b:=by omega
   have n3:¬b=w.heap.size+1:=by omega
   have n4:¬w.heap.size+1=b:=by omega
   have hb2:b<w2.heap.size:=zT hb f02.size
   have O2:=zZ o2
   have F02:=zZ f02
   clear o2 g2 f02 x6 x8 c3 z3 HFF
   go_wp2
   refine bodyPost_ret (v:=.tuple #[.agg #[.int .i64 2,.int .i64 0,.int .i64 0,.slice va (vH l0).length vc],.bool true]) (by simp [results,Tryz.results146,go_sem,k6]) rfl ?_
   refine⟨_,rfl,?_,?_,?_⟩
   ·exact(((((((zY HC).block ((zY F02).same b hb (fun h=>h))).other n3).set 4 _ (by omega)).other n1).other n1).other n1).other n1
   ·exact(((((((zY F02).widen (T:=fun q=>q=b) (fun q h=>h.elim)).setCell ⟨w.heap.size+1,3,none⟩ _ (.inr (by show w.heap.size<=w.heap.size+1;omega))).setCell ⟨b,4,none⟩ _ (.inl rfl)).setCell ⟨w.heap.size,0,none⟩ _ (.inr (Nat.le_refl _))).setCell ⟨w.heap.size,1,none⟩ _ (.inr (Nat.le_refl _))).setCell ⟨w.heap.size,2,none⟩ _ (.inr (Nat.le_refl _))).setCell ⟨w.heap.size,3,none⟩ _ (.inr (Nat.le_refl _))
   ·refine rC (yA (zY O2) (fun q hq=>?_)) (by simp;try omega)
    have hge:=(zS (zY O2) q hq).1
    have hge':w.heap.size+2<=q:=by simpa using hge
    exact(zQ _ _ _ _ (by show q≠w.heap.size;omega)).trans ((zQ _ _ _ _ (by show q≠w.heap.size;omega)).trans ((zQ _ _ _ _ (by show q≠w.heap.size;omega)).trans ((zQ _ _ _ _ (by show q≠w.heap.size;omega)).trans ((zQ _ _ _ _ (by show q≠b;omega)).trans (zQ _ _ _ _ (by show q≠w.heap.size+1;omega))))))
end Go.Proofs.YtfmbebofllgmoaaGreatDoor
namespace Go.Proofs.YtfmbebofllgmoaaGreatDoor
open Go.RowKit
theorem info3v:(Tryz.prog.info? 3).map (fun i=>(i.zero,i.size,i.bytes))=some (some (.int .i64 0),1,8):=by kernel_rfl
theorem zX9 (n:Nat) (hn:n<=1000000000) (w:World):(Instr.makeSlice 26 (.int .i64 ((n:Int)+4)) (.int .i64 ((n:Int)+4))).run Tryz.prog w =
  .ok (.slice (some ⟨w.heap.size,0,none⟩) (n+4) (n+4)) (w.alloc (.cells (madeCells #[.int .i64 0] (n+4)) 3)):=by
 have h:=info3v
 cases hi:Tryz.prog.info? 3 with
 | none=>rw [hi] at h;cases h
 | some i=>
  rw [hi] at h
  simp only [Option.map_some,Option.some.injEq,Prod.mk.injEq] at h
  obtain⟨hz,hs,hb⟩:=h
  have:=run_make (P:=Tryz.prog) w 26 3 i _ Tryz.underlying26 hi hz .i64 .i64 ((n:Int)+4) ((n:Int)+4) (by omega) (by omega) (by rw [hb];omega) (by omega)
  rw [this,hs]
  have e:((n:Int)+4).toNat=n+4:=by omega
  rw [e,Nat.mul_one]
  rfl
structure tI (w:World) (g k:Nat) (l:List Int):Prop where
 there:vG w g (l.length+4)
 cells:∀i,i<k->w.cell? ⟨g,i,none⟩=some (.int .i64 (l.getD i 3))
theorem tI.below {w w':World} {B g k:Nat} {l:List Int} (h:tI w g k l) (hb:Below B w w') (hg:g<B):tI w' g k l:=
 ⟨h.there.below hb hg,fun i hi=>(hb.cell (p:=⟨g,_,none⟩) hg).trans (h.cells i hi)⟩
theorem tI.setCell {w:World} {g k:Nat} {l:List Int} (h:tI w g k l) {a:Addr} (hne:a.block≠g) (v:Value):tI (w.setCell a v) g k l:=
 ⟨h.there.setCell _ _,fun i hi=>(zV _ _ _ _ (fun he=>hne (by rw [he]))).trans (h.cells i hi)⟩
theorem tI.step {w:World} {g k:Nat} {l:List Int} (h:tI w g k l) (hk:k<l.length+4) {z:Int} (hz:z=l.getD k 3):tI (w.setCell ⟨g,k,none⟩ (.int .i64 z)) g (k+1) l:=by
 refine⟨h.there.setCell _ _,fun i hi=>?_⟩
 by_cases e:i=k
 ·subst e;rw [World.cell?_setCell_same' _ _ _ (h.there _ hk).1,hz]
 ·rw [zV _ _ _ _ (by intro he;injection he;omega)];exact h.cells i (by omega)
theorem tI.over {w:World} {g k:Nat} {l:List Int} (h:tI w g k l) (z:Int):tI (w.setCell ⟨g,k,none⟩ (.int .i64 z)) g k l:=
 ⟨h.there.setCell _ _,fun i hi=>(zV _ _ _ _ (by intro he;injection he;omega)).trans (h.cells i hi)⟩
theorem tI.dr {w w':World} {g k:Nat} {l:List Int} (hx:tI w g k l) (h:Dr w w'):tI w' g k l:=by
 obtain⟨m,rfl⟩:=h;exact⟨hx.there,hx.cells⟩
theorem iT {w w':World} (h:Dr w w') {v:Value} {l:List Int} {P:Nat->Prop} (hx:yJ w v l P):yJ w' v l P:=by
 obtain⟨m,rfl⟩:=h;exact hx
theorem jZ {v:Value} {l:List Int} {P:Nat->Prop} {w:World} (hP:∀q,P q->q<w.heap.size) (hv:yJ w v l P) (hn:l.length<=1000000000) :
  Calls Tryz.prog 105 #[v] w fun e w'=>e=.returned (.slice (some ⟨w.heap.size,0,none⟩) l.length (l.length+4))/\Below w.heap.size w w'/\w.heap.size<w'.heap.size/\tI w' w.heap.size (l.length+4) l:=by
 obtain⟨a,c,rfl,hf⟩:=hv
 have hmk:=zX9 l.length hn
 have HF:=zZ hf
 have HP:=zZ hP
 clear hf hP
 go_enter Tryz.func105,Tryz.ntmps105
 go_wp2
 go_loopw [4] (fun i wr=>∃k:Nat,k<=l.length+4/\i=.int .i64 k/\Below w.heap.size w wr/\w.heap.size<wr.heap.size/\tI wr w.heap.size k l) (fun i _=>l.length+4-(intOf i).toNat)
 case atStart=>exact⟨0,Nat.zero_le _,rfl,(Below.refl _ _).alloc (Nat.le_refl _) _,by simp,qJ _ _ _ _,fun i hi=>absurd hi (Nat.not_lt_zero _)⟩
 case round=>
  obtain⟨k,hk,rfl,hb,hsz,ho⟩:=hrel
  by_cases hlt:k<l.length+4
  ·obtain⟨t0,z0⟩:=ho.there k (by omega)
   obtain⟨v0,c0⟩:=Option.isSome_iff_exists.1 t0
   have HO:=zZ ho
   clear ho t0
   by_cases hkn:k<l.length
   ·rcases zY HF with hz | ⟨b,off,rfl,hq,hf⟩
    ·subst hz;simp at hkn
    have g0:=hf k hkn
    have hlt':b<w.heap.size:=zY HP b hq
    rw [<-hb.cell (p:=⟨b,_,none⟩) hlt'] at g0
    have hne:¬w.heap.size=b:=by omega
    have hne':¬b=w.heap.size:=by omega
    have hge:l.getD k 0=l.getD k 3:=by rw [List.getD_eq_getElem?_getD,List.getD_eq_getElem?_getD,List.getElem?_eq_getElem hkn];rfl
    clear hf hq
    generalize l.getD k 0=x at *
    have HX:=zZ hge
    clear hge
    go_wp2
    go_roundw
    case rel=>exact⟨k+1,by omega,by go_num,(hb.setCell (by simp) _).setCell (by simp) _,by simpa using hsz,((zY HO).over 3).step hlt (zY HX)⟩
    case measure=>simp [intOf];omega
   ·go_wp2
    go_roundw
    case rel=>exact⟨k+1,by omega,by go_num,hb.setCell (by simp) _,by simpa using hsz,(zY HO).step hlt (by rw [List.getD_eq_getElem?_getD,List.getElem?_eq_none (by omega)];rfl)⟩
    case measure=>simp [intOf];omega
  ·go_wp2
   go_ret
   obtain rfl:k=l.length+4:=by omega
   exact⟨rfl,hb,hsz,ho⟩
theorem sW {g:Nat} {v:Value} {l:List Int} {P:Nat->Prop} {w:World} (hv:yJ w v l P) (ho:tI w g (l.length+4) l) (hn:l.length<=1000000000) :
  Calls Tryz.prog 110 #[.slice (some ⟨g,0,none⟩) l.length (l.length+4),v] w fun e w'=>e=.returned (.bool true)/\Dr w w':=by
 obtain⟨a,c,rfl,hf⟩:=hv
 have HF:=zZ hf
 clear hf
 have hn1:(0:Int)<=(l.length:Int)+4:=by omega
 have hn2:(l.length:Int)+4<=140737488351232:=by omega
 go_enter Tryz.func110,Tryz.ntmps110
 go_wp2
 clear hn2 hn1
 go_loopw [6] (fun i wr=>∃k:Nat,k<=l.length+4/\i=.int .i64 k/\Dr w wr) (fun i _=>l.length+4-(intOf i).toNat)
 case atStart=>exact⟨0,Nat.zero_le _,rfl,Dr.refl _⟩
 case round=>
  obtain⟨k,hk,rfl,hd⟩:=hrel
  by_cases hlt:k<l.length+4
  ·have o0:=ho.cells k hlt
   rw [<-hd.cell] at o0
   by_cases hkn:k<l.length
   ·rcases zY HF with hz | ⟨b,off,rfl,hq,hf⟩
    ·subst hz;simp at hkn
    have g0:=hf k hkn
    rw [<-hd.cell] at g0
    clear hf hq
    have hge:l.getD k 3=l.getD k 0:=by rw [List.getD_eq_getElem?_getD,List.getD_eq_getElem?_getD,List.getElem?_eq_getElem hkn];rfl
    rw [hge] at o0
    clear hge
    generalize l.getD k 0=x at *
    have hk0:(0:Int)<=(k:Int):=by omega
    have hk1:(k:Int)<(l.length:Int):=by omega
    have hk2:(k:Int)<(l.length:Int)+4:=by omega
    go_wp2
    go_quiet (fail)
    go_wp2
    go_roundw
    case rel=>exact⟨k+1,by omega,by go_num,hd.more _⟩
    case measure=>simp [intOf];omega
   ·have hge:l.getD k 3=3:=by rw [List.getD_eq_getElem?_getD,List.getElem?_eq_none (by omega)];rfl
    rw [hge] at o0
    clear hge
    have hg:decide ((k:Int)<(l.length:Int))=false:=by simp;omega
    have hk0:(0:Int)<=(k:Int):=by omega
    have hk2:(k:Int)<(l.length:Int)+4:=by omega
    go_wp2
    go_quiet (fail)
    go_wp2
    go_roundw
    case rel=>exact⟨k+1,by omega,by go_num,hd.more _⟩
    case measure=>simp [intOf];omega
  ·go_wp2
   go_ret
   exact⟨by simp,hd⟩
theorem mP (n:Nat) (v1 v2:Value) (f:Nat->O3) (w:World) (h1:vQ w v1 n f) (h2:vQ w v2 n f) :
  Calls Tryz.prog 74 #[v1,v2] w fun e w'=>e=.returned (.bool true)/\Dr w w':=by
 obtain⟨a,c,rfl,hn,hf⟩:=h1
 obtain⟨a',c',rfl,_,hf'⟩:=h2
 have HF:=zZ hf
 have HF':=zZ hf'
 clear hf hf'
 go_enter Tryz.func74,Tryz.ntmps74
 go_wp2
 go_loopw [5] (fun i wr=>∃k:Nat,k<=n/\i=.int .i64 k/\Dr w wr) (fun i _=>n-(intOf i).toNat)
 case atStart=>exact⟨0,Nat.zero_le _,rfl,Dr.refl _⟩
 case round=>
  obtain⟨k,hk,rfl,hd⟩:=hrel
  by_cases hlt:k<n
  ·rcases zY HF with hz | ⟨b,off,rfl,hf⟩
   ·omega
   rcases zY HF' with hz | ⟨b',off',rfl,hf'⟩
   ·omega
   obtain⟨g0,g1,g2⟩:=hf k hlt
   obtain⟨o0,o1,o2⟩:=hf' k hlt
   rw [<-hd.cell] at g0 g1 g2 o0 o1 o2
   clear hf hf'
   generalize f k=x at *
   have hk0:(0:Int)<=(k:Int):=by omega
   have hk1:(k:Int)<(n:Int):=by omega
   go_wp2
   go_quiet (fail)
   go_wp2
   go_roundw
   case rel=>exact⟨k+1,by omega,by go_num,hd.more _⟩
   case measure=>simp [intOf];omega
  ·go_wp2
   go_ret
   exact⟨rfl,hd⟩
end Go.Proofs.YtfmbebofllgmoaaGreatDoor
namespace Go.Proofs.YtfmbebofllgmoaaGreatDoor
open Go.RowKit
attribute [local go_sem ↓] Go.wp_at_zero Go.wp_at_succ
theorem tI.lt {w:World} {g k:Nat} {l:List Int} (h:tI w g k l) (hk:0<k):g<w.heap.size:=zU w ⟨g,0,none⟩ (h.cells 0 hk)
structure tY (w:World) (g n k:Nat) (ls:List (List Int)) (G:Nat->Nat):Prop where
 there:vG w g (n+4)
 heads:∀i,i<k->i<n->w.cell? ⟨g,i,none⟩=some (.slice (some ⟨G i,0,none⟩) (ls.getD i []).length ((ls.getD i []).length+4))
 far:∀i,i<k->i<n->g<G i/\G i<w.heap.size
 own:∀i,i<k->i<n->tI w (G i) ((ls.getD i []).length+4) (ls.getD i [])
theorem tY.below {w w':World} {B g n k:Nat} {ls:List (List Int)} {G:Nat->Nat} (h:tY w g n k ls G) (hb:Below B w w') (hg:g<B) (hG:∀i,i<k->i<n->G i<B):tY w' g n k ls G:=
 ⟨h.there.below hb hg,fun i hi hn=>(hb.cell (p:=⟨g,_,none⟩) hg).trans (h.heads i hi hn),fun i hi hn=>⟨(h.far i hi hn).1,zT (h.far i hi hn).2 hb.size⟩,fun i hi hn=>(h.own i hi hn).below hb (hG i hi hn)⟩
theorem tY.step {w:World} {g n k q:Nat} {ls:List (List Int)} {G:Nat->Nat} (h:tY w g n k ls G) (hk:k<n) (hq:g<q/\q<w.heap.size) (ho:tI w q ((ls.getD k []).length+4) (ls.getD k [])) :
  tY (w.setCell ⟨g,k,none⟩ (.slice (some ⟨q,0,none⟩) (ls.getD k []).length ((ls.getD k []).length+4))) g n (k+1) ls (fun i=>if i=k then q else G i):=by
 refine⟨h.there.setCell _ _,?_,?_,?_⟩
 ·intro i hi hn
  by_cases e:i=k
  ·subst e
   simp only [if_true]
   exact World.cell?_setCell_same' _ _ _ (h.there _ (by omega)).1
  ·simp only [e,if_false]
   rw [zV _ _ _ _ (by intro he;injection he;omega)]
   exact h.heads i (by omega) hn
 ·intro i hi hn
  by_cases e:i=k
  ·simp only [e,if_true];simpa using hq
  ·simp only [e,if_false];simpa using h.far i (by omega) hn
 ·intro i hi hn
  by_cases e:i=k
  ·subst e
   simp only [if_true]
   exact ho.setCell (by simp;omega) _
  ·simp only [e,if_false]
   exact(h.own i (by omega) hn).setCell (by have:=(h.far i (by omega) hn).1;simp;omega) _
theorem tY.pad {w:World} {g n k:Nat} {ls:List (List Int)} {G:Nat->Nat} (h:tY w g n k ls G) (hk:n<=k) (v:Value):tY (w.setCell ⟨g,k,none⟩ v) g n (k+1) ls G:=
 ⟨h.there.setCell _ _,fun i hi hn=>by
  rw [zV _ _ _ _ (by intro he;injection he;omega)]
  exact h.heads i (by omega) hn,fun i hi hn=>by simpa using h.far i (by omega) hn,fun i hi hn=>(h.own i (by omega) hn).setCell (by have:=(h.far i (by omega) hn).1;simp;omega) _⟩
theorem tY.setCell {w:World} {g n k:Nat} {ls:List (List Int)} {G:Nat->Nat} (h:tY w g n k ls G) {a:Addr} (ha:a.block<g) (v:Value):tY (w.setCell a v) g n k ls G:=
 ⟨h.there.setCell _ _,fun i hi hn=>(zV _ _ _ _ (fun he=>by rw [he] at ha;exact absurd ha (Nat.lt_irrefl _))).trans (h.heads i hi hn),fun i hi hn=>by simpa using h.far i hi hn,fun i hi hn=>(h.own i hi hn).setCell (by have:=(h.far i hi hn).1;omega) _⟩
def sN (g:Nat) (l:List Int):Value:=.slice (some ⟨g,0,none⟩) l.length (l.length+4)
structure WV (w wr:World) (v0 v1 v2 v3:Value) (wb g0 g2 g3:Nat) (vb:Value) (lc lp ll:List Int):Prop where
 bel:Below w.heap.size w wr
 bx:wr.heap[w.heap.size]?=some (.cells #[v0,v1,v2,v3] 29)
 rs:wr.heap[w.heap.size+1]?=some (.cells #[.slice none 0 0,.slice none 0 0,.slice none 0 0,.slice none 0 0] 29)
 wb_:wr.heap[wb]?=some (.cells #[sN g0 lc,vb,sN g2 lp,sN g3 ll] 29)
 wbB:w.heap.size+1<wb
 l0:w.heap.size+1<g0/\g0≠wb
 l2:w.heap.size+1<g2/\g2≠wb
 l3:w.heap.size+1<g3/\g3≠wb
 o0:tI wr g0 (lc.length+4) lc
 o2:tI wr g2 (lp.length+4) lp
 o3:tI wr g3 (ll.length+4) ll
section
variable {w wr W:World} {v0 v1 v2 v3 vb:Value} {wb g0 g2 g3:Nat} {lc lp ll:List Int}
theorem WV.size (h:WV w wr v0 v1 v2 v3 wb g0 g2 g3 vb lc lp ll):w.heap.size+1<wr.heap.size/\wb<wr.heap.size/\g0<wr.heap.size/\g2<wr.heap.size/\g3<wr.heap.size:=
 ⟨(zN.1 h.rs).1,(zN.1 h.wb_).1,h.o0.lt (by omega),h.o2.lt (by omega),h.o3.lt (by omega)⟩
theorem WV.below (h:WV w wr v0 v1 v2 v3 wb g0 g2 g3 vb lc lp ll) (hb:Below wr.heap.size wr W):WV w W v0 v1 v2 v3 wb g0 g2 g3 vb lc lp ll:=by
 obtain⟨s1,s2,s3,s4,s5⟩:=h.size
 exact⟨h.bel.trans (hb.mono h.bel.size),(hb.block _ (by omega)).trans h.bx,(hb.block _ s1).trans h.rs,(hb.block _ s2).trans h.wb_,h.wbB,h.l0,h.l2,h.l3,h.o0.below hb s3,h.o2.below hb s4,h.o3.below hb s5⟩
theorem WV.setVb (h:WV w wr v0 v1 v2 v3 wb g0 g2 g3 vb lc lp ll) (v:Value):WV w (wr.setCell ⟨wb,1,none⟩ v) v0 v1 v2 v3 wb g0 g2 g3 v lc lp ll:=by
 have hB:=h.wbB
 refine⟨h.bel.setCell (by show w.heap.size<=wb;omega) _,(zQ _ _ _ _ (by show _≠wb;omega)).trans h.bx,(zQ _ _ _ _ (by show _≠wb;omega)).trans h.rs,?_,h.wbB,h.l0,h.l2,h.l3,
  h.o0.setCell (Ne.symm h.l0.2) _,h.o2.setCell (Ne.symm h.l2.2) _,h.o3.setCell (Ne.symm h.l3.2) _⟩
 have h0:=setRow_heap wr wb _ (#[sN g0 lc,vb,sN g2 lp,sN g3 ll].setIfInBounds 1 v) 29 (0,0) h.wb_
 rwa [<-setCell_eq_setRow wr wb 1 _ 29 (0,0) v h.wb_] at h0
theorem WV.setFar (h:WV w wr v0 v1 v2 v3 wb g0 g2 g3 vb lc lp ll) {q:Nat} (hq:w.heap.size+1<q/\q≠wb/\q≠g0/\q≠g2/\q≠g3) (i:Nat) (v:Value):WV w (wr.setCell ⟨q,i,none⟩ v) v0 v1 v2 v3 wb g0 g2 g3 vb lc lp ll:=by
 obtain⟨q1,q2,q3,q4,q5⟩:=hq
 exact⟨h.bel.setCell (by show w.heap.size<=q;omega) _,(zQ _ _ _ _ (by show _≠q;omega)).trans h.bx,(zQ _ _ _ _ (by show _≠q;omega)).trans h.rs,(zQ _ _ _ _ (Ne.symm q2)).trans h.wb_,h.wbB,h.l0,h.l2,h.l3,
  h.o0.setCell q3 _,h.o2.setCell q4 _,h.o3.setCell q5 _⟩
theorem WV.start (hB:Below w.heap.size w W) (bx:W.heap[w.heap.size]?=some (.cells #[v0,v1,v2,v3] 29)) (rs:W.heap[w.heap.size+1]?=some (.cells #[.slice none 0 0,.slice none 0 0,.slice none 0 0,.slice none 0 0] 29))
  (hb:W.heap[wb]?=some (.cells #[.slice none 0 0,.slice none 0 0,.slice none 0 0,.slice none 0 0] 29)) (wbB:w.heap.size+1<wb) (l0:w.heap.size+1<g0/\g0≠wb) (l2:w.heap.size+1<g2/\g2≠wb) (l3:w.heap.size+1<g3/\g3≠wb)
  (o0:tI W g0 (lc.length+4) lc) (o2:tI W g2 (lp.length+4) lp) (o3:tI W g3 (ll.length+4) ll) :
  WV w ((((W.setCell ⟨wb,0,none⟩ (.slice (some ⟨g0,0,none⟩) lc.length (lc.length+4))).setCell ⟨wb,1,none⟩ (.slice none 0 0)).setCell ⟨wb,2,none⟩ (.slice (some ⟨g2,0,none⟩) lp.length (lp.length+4))).setCell ⟨wb,3,none⟩ (.slice (some ⟨g3,0,none⟩) ll.length (ll.length+4))) v0 v1 v2 v3 wb g0 g2 g3 (.slice none 0 0) lc lp ll:=by
 have st:∀(V:World) (c:Array Value) (i:Nat) (x:Value),V.heap[wb]?=some (.cells c 29)->(V.setCell ⟨wb,i,none⟩ x).heap[wb]?=some (.cells (c.setIfInBounds i x) 29):=by
  intro V c i x hV
  have h0:=setRow_heap V wb c (c.setIfInBounds i x) 29 (0,0) hV
  rw [<-setCell_eq_setRow V wb i c 29 (0,0) x hV] at h0
  exact h0
 have h4:=st _ _ 3 (sN g3 ll) (st _ _ 2 (sN g2 lp) (st _ _ 1 (.slice none 0 0) (st _ _ 0 (sN g0 lc) hb)))
 simp only [List.setIfInBounds_toArray,List.set] at h4
 have e4:∀q,q≠wb->((((W.setCell ⟨wb,0,none⟩ (sN g0 lc)).setCell ⟨wb,1,none⟩ (.slice none 0 0)).setCell ⟨wb,2,none⟩ (sN g2 lp)).setCell ⟨wb,3,none⟩ (sN g3 ll)).heap[q]?=W.heap[q]?:=fun q hq=>by
  rw [zQ _ _ _ _ hq,zQ _ _ _ _ hq,zQ _ _ _ _ hq,zQ _ _ _ _ hq]
 refine⟨(((hB.setCell (by show w.heap.size<=wb;omega) _).setCell (by show w.heap.size<=wb;omega) _).setCell (by show w.heap.size<=wb;omega) _).setCell (by show w.heap.size<=wb;omega) _,(e4 _ (by omega)).trans bx,(e4 _ (by omega)).trans rs,h4,wbB,l0,l2,l3,?_,?_,?_⟩
 ·exact(((o0.setCell (Ne.symm l0.2) _).setCell (Ne.symm l0.2) _).setCell (Ne.symm l0.2) _).setCell (Ne.symm l0.2) _
 ·exact(((o2.setCell (Ne.symm l2.2) _).setCell (Ne.symm l2.2) _).setCell (Ne.symm l2.2) _).setCell (Ne.symm l2.2) _
 ·exact(((o3.setCell (Ne.symm l3.2) _).setCell (Ne.symm l3.2) _).setCell (Ne.symm l3.2) _).setCell (Ne.symm l3.2) _
end
theorem yO3:(Tryz.prog.info? 26).map (fun i=>(i.zero,i.size,i.bytes))=some (some (.slice none 0 0),1,24):=by kernel_rfl
theorem zX8 (n:Nat) (hn:n<=1000000000) (w:World):(Instr.makeSlice 27 (.int .i64 ((n:Int)+4)) (.int .i64 ((n:Int)+4))).run Tryz.prog w =
  .ok (.slice (some ⟨w.heap.size,0,none⟩) (n+4) (n+4)) (w.alloc (.cells (madeCells #[.slice none 0 0] (n+4)) 26)):=by
 have h:=yO3
 cases hi:Tryz.prog.info? 26 with
 | none=>rw [hi] at h;cases h
 | some i=>
  rw [hi] at h
  simp only [Option.map_some,Option.some.injEq,Prod.mk.injEq] at h
  obtain⟨hz,hs,hb⟩:=h
  have:=run_make (P:=Tryz.prog) w 27 26 i _ Tryz.underlying27 hi hz .i64 .i64 ((n:Int)+4) ((n:Int)+4) (by omega) (by omega) (by rw [hb];omega) (by omega)
  rw [this,hs]
  have e:((n:Int)+4).toNat=n+4:=by omega
  rw [e,Nat.mul_one]
  rfl
theorem dN {w X:World} {v:Value} {l:List Int} {P:Nat->Prop} (hB:Below w.heap.size w X) (hP:∀q,P q->q<w.heap.size) (hv:yJ w v l P) (hn:l.length<=1000000000) :
  Calls Tryz.prog 105 #[v] X fun e w'=>e=.returned (.slice (some ⟨X.heap.size,0,none⟩) l.length (l.length+4))/\Below X.heap.size X w'/\X.heap.size<w'.heap.size/\tI w' X.heap.size (l.length+4) l:=
 jZ (fun q hq=>zT (hP q hq) hB.size) (yQ hv (fun q hq=>hB.block q (hP q hq)) (fun _ h=>h)) hn
def WBRel (w:World) (v0 v1 v2 v3:Value) (wb g0 g2 g3 gb n:Nat) (lc lp ll:List Int) (ls:List (List Int)) (u:Value) (wr:World):Prop:=
 ∃k:Nat,k<=n+4/\u=.int .i64 k/\∃G,WV w wr v0 v1 v2 v3 wb g0 g2 g3 (.slice (some ⟨gb,0,none⟩) (n+4) (n+4)) lc lp ll/\tY wr gb n k ls G/\wb<gb/\g0<gb/\g2<gb/\g3<gb
theorem yD1 {Y W:World} {o:Obj} (hb:Below (Y.alloc o).heap.size (Y.alloc o) W):W.heap[Y.heap.size]?=some o:=(hb.block _ (by simp)).trans (heap_alloc_new _ _)
theorem yM2 {Y W:World} {o:Obj} (hb:Below (Y.alloc o).drew.heap.size (Y.alloc o).drew W):W.heap[Y.heap.size]?=some o:=(hb.block _ (by simp)).trans (heap_alloc_new _ _)
theorem yO {X W:World} {q:Nat} {o:Obj} (hb:Below X.heap.size X W) (h:X.heap[q]?=some o):W.heap[q]?=some o:=(hb.block _ (zN.1 h).1).trans h
theorem lD {w X Y:World} {v0 v2 v3:Value} (hb:Below X.heap.size X Y) (h:X.cell? ⟨w.heap.size,0,none⟩=some v0/\X.cell? ⟨w.heap.size,2,none⟩=some v2/\X.cell? ⟨w.heap.size,3,none⟩=some v3) :
  Y.cell? ⟨w.heap.size,0,none⟩=some v0/\Y.cell? ⟨w.heap.size,2,none⟩=some v2/\Y.cell? ⟨w.heap.size,3,none⟩=some v3:=by
 have hl:w.heap.size<X.heap.size:=zU X _ h.1
 exact⟨(xT hb _ _ hl).trans h.1,(xT hb _ _ hl).trans h.2.1,(xT hb _ _ hl).trans h.2.2⟩
theorem keepS4 {w X:World} {wb:Nat} {v0 v2 v3:Value} (hne:w.heap.size<wb) (x y z u:Value) (h:X.cell? ⟨w.heap.size,0,none⟩=some v0/\X.cell? ⟨w.heap.size,2,none⟩=some v2/\X.cell? ⟨w.heap.size,3,none⟩=some v3) :
  ((((X.setCell ⟨wb,0,none⟩ x).setCell ⟨wb,1,none⟩ y).setCell ⟨wb,2,none⟩ z).setCell ⟨wb,3,none⟩ u).cell? ⟨w.heap.size,0,none⟩=some v0/\((((X.setCell ⟨wb,0,none⟩ x).setCell ⟨wb,1,none⟩ y).setCell ⟨wb,2,none⟩ z).setCell ⟨wb,3,none⟩ u).cell? ⟨w.heap.size,2,none⟩=some v2/\((((X.setCell ⟨wb,0,none⟩ x).setCell ⟨wb,1,none⟩ y).setCell ⟨wb,2,none⟩ z).setCell ⟨wb,3,none⟩ u).cell? ⟨w.heap.size,3,none⟩=some v3:=by
 have e:∀i j,(⟨wb,j,none⟩ : Addr)≠⟨w.heap.size,i,none⟩:=fun i j he=>by injection he;omega
 refine⟨?_,?_,?_⟩
 ·rw [zV _ _ _ _ (e _ _),zV _ _ _ _ (e _ _),zV _ _ _ _ (e _ _),zV _ _ _ _ (e _ _)];exact h.1
 ·rw [zV _ _ _ _ (e _ _),zV _ _ _ _ (e _ _),zV _ _ _ _ (e _ _),zV _ _ _ _ (e _ _)];exact h.2.1
 ·rw [zV _ _ _ _ (e _ _),zV _ _ _ _ (e _ _),zV _ _ _ _ (e _ _),zV _ _ _ _ (e _ _)];exact h.2.2
theorem yC1 {w:World} {v0 v1 v2 v3:Value} {lc lp ll:List Int} {bs:List (Value×List Int)} {P:Nat->Prop} (hP:∀q,P q->q<w.heap.size)
  (h0:yJ w v0 lc P) (h1:sZ w v1 (bs.map (·.1)) P) (h2:yJ w v2 lp P) (h3:yJ w v3 ll P) (hbs:∀b,b∈bs->yJ w b.1 b.2 P/\b.2.length<=1000000000)
  (n0:lc.length<=1000000000) (n1:bs.length<=1000000000) (n2:lp.length<=1000000000) (n3:ll.length<=1000000000) :
  Calls Tryz.prog 71 #[.agg #[v0,v1,v2,v3]] w fun e w'=>∃g0 gb g2 g3 G,e=.returned (.agg #[sN g0 lc,.slice (some ⟨gb,0,none⟩) bs.length (bs.length+4),sN g2 lp,sN g3 ll])/\
   Below w.heap.size w w'/\w.heap.size<=g0/\w.heap.size<=gb/\w.heap.size<=g2/\w.heap.size<=g3/\tI w' g0 (lc.length+4) lc/\tI w' g2 (lp.length+4) lp/\tI w' g3 (ll.length+4) ll/\tY w' gb bs.length bs.length (bs.map (·.2)) G:=by
 obtain⟨ba,bc,rfl,hba⟩:=h1
 rw [List.length_map] at *
 obtain⟨v1,hv1⟩ : ∃v1,v1=Value.slice ba bs.length bc:=⟨_,rfl⟩
 obtain⟨W0,hW⟩ : ∃W0,W0=((w.alloc (.cells #[v0,v1,v2,v3] 29)).alloc (.cells #[.slice none 0 0,.slice none 0 0,.slice none 0 0,.slice none 0 0] 29)):=⟨_,rfl⟩
 have hB0:Below w.heap.size w W0:=by subst hW;exact bl2 _ _
 have hsz:W0.heap.size=w.heap.size+1+1:=by subst hW;simp
 have bx:W0.heap[w.heap.size]?=some (.cells #[v0,v1,v2,v3] 29):=by subst hW;exact(zR _ _ _ (by simp)).trans (heap_alloc_new _ _)
 have rs:W0.heap[w.heap.size+1]?=some (.cells #[.slice none 0 0,.slice none 0 0,.slice none 0 0,.slice none 0 0] 29):=by
  subst hW
  have h:=heap_alloc_new (w.alloc (.cells #[v0,v1,v2,v3] 29)) (.cells #[.slice none 0 0,.slice none 0 0,.slice none 0 0,.slice none 0 0] 29)
  rw [show (w.alloc (.cells #[v0,v1,v2,v3] 29)).heap.size=w.heap.size+1 by simp] at h
  exact h
 have c0:W0.cell? ⟨w.heap.size,0,none⟩=some v0:=cell_of_row W0 _ 0 _ 29 (0,0) bx
 have c2:W0.cell? ⟨w.heap.size,2,none⟩=some v2:=cell_of_row W0 _ 2 _ 29 (0,0) bx
 have c3:W0.cell? ⟨w.heap.size,3,none⟩=some v3:=cell_of_row W0 _ 3 _ 29 (0,0) bx
 have HC:=zZ (show W0.cell? ⟨w.heap.size,0,none⟩=some v0/\W0.cell? ⟨w.heap.size,2,none⟩=some v2/\W0.cell? ⟨w.heap.size,3,none⟩=some v3 from ⟨c0,c2,c3⟩)
 have HW:=zZ hW
 have HS:=zZ hsz
 have HB0:=zZ hB0
 have BX:=zZ bx
 have RS:=zZ rs
 have HP:=zZ hP
 have H0:=zZ h0
 have H2:=zZ h2
 have H3:=zZ h3
 have HBS:=zZ hbs
 have HBA:=zZ hba
 have HV1:=zZ hv1
 rw [<-hv1]
 clear hW hsz hB0 bx rs hP h0 h2 h3 hbs hba hv1 c0 c2 c3
 go_enter Tryz.func71,Tryz.ntmps71
 go_upto_region 1 with fail
 go_cut [3] (fun u wc=>∃wb g0 g2 g3,u=.pointer (some ⟨wb,0,none⟩)/\WV w wc v0 v1 v2 v3 wb g0 g2 g3 (.slice none 0 0) lc lp ll)
 case first=>
  go_region_held3 (fun w'=>w'.cell? ⟨w.heap.size,0,none⟩=some v0/\w'.cell? ⟨w.heap.size,2,none⟩=some v2/\w'.cell? ⟨w.heap.size,3,none⟩=some v3)
   (first | with_reducible exact s3 | with_reducible exact s2 | with_reducible exact s1 | (rw [<-zY HW];exact zY HC) | (rw [<-zY HW];exact lD ((Below.refl _ _).alloc (Nat.le_refl _) _).drew (zY HC)) | exact lD ((Below.refl _ _).alloc (Nat.le_refl _) _) (by assumption) | exact keepS4 (by have:=zY HS;omega) _ _ _ _ (by assumption))
   (first
    | (
      go_at_call_of 105 v0;try rw [<-zY HW]
      refine(dN (w:=w) (by first | exact(zY HB0).drew | exact((zY HB0).alloc (zY HB0).size _).drew) (zY HP) (zY H0) n0).mono ?_
      rintro e w1 ⟨rfl,hb1,hs1,ho1⟩
      have s1:=lD (w:=w) hb1 (by first | exact zY HC | exact lD ((Below.refl _ _).alloc (Nat.le_refl _) _).drew (zY HC))
      have B1:=zZ (show Below w.heap.size w w1 from Below.trans (by first | exact(zY HB0).drew | exact((zY HB0).alloc (zY HB0).size _).drew) (hb1.mono (by have:=zY HS;simp;omega)))
      have O1:=zZ ho1
      have c01:Below W0.heap.size W0 w1:=by first | exact((Below.refl W0.heap.size W0).drew).trans hb1 | exact(((Below.refl W0.heap.size W0).alloc (Nat.le_refl _) _).drew).trans (hb1.mono (by simp))
      have q1:w.heap.size+1+1<w1.heap.size:=by have h1:=zY HS;have h2:=hs1;(try simp at h2);omega
      first
       | (have zb:=yM2 hb1;rw [zY HS] at zb;have zc:=fun j=>cell_of_row w1 _ j _ 29 (0,0) zb;have zf:=fun j=>yB zb j;have ZB:=zZ zb;clear zb)
       | skip)
    | (
      go_at_call_of 105 v2
      refine(dN (w:=w) (by first | exact zY B1 | exact(zY B1).alloc (zY B1).size _) (zY HP) (zY H2) n2).mono ?_
      rintro e w2 ⟨rfl,hb2,hs2,ho2⟩
      have s2:=lD (w:=w) hb2 (by first | exact s1 | exact lD ((Below.refl _ _).alloc (Nat.le_refl _) _) s1)
      have B2:=zZ (show Below w.heap.size w w2 from Below.trans (by first | exact zY B1 | exact(zY B1).alloc (zY B1).size _) (hb2.mono (by have:=(zY B1).size;simp;omega)))
      have O2:=zZ ho2
      have c12:Below w1.heap.size w1 w2:=by first | exact hb2 | exact((Below.refl _ _).alloc (Nat.le_refl _) _).trans (hb2.mono (by simp))
      have q2:w1.heap.size<w2.heap.size:=by have h2:=hs2;(try simp at h2);omega
      first
       | (have zb:=yD1 hb2;have zc:=fun j=>cell_of_row w2 _ j _ 29 (0,0) zb;have zf:=fun j=>yB zb j;have ZB:=zZ zb;clear zb)
       | (have zb:=yO hb2 (zY ZB);clear zc zf ZB;have zc:=fun j=>cell_of_row w2 _ j _ 29 (0,0) zb;have zf:=fun j=>yB zb j;have ZB:=zZ zb;clear zb)
       | skip)
    | (
      go_at_call_of 105 v3
      refine(dN (w:=w) (by first | exact zY B2 | exact(zY B2).alloc (zY B2).size _) (zY HP) (zY H3) n3).mono ?_
      rintro e w3 ⟨rfl,hb3,hs3,ho3⟩
      have s3:=lD (w:=w) hb3 (by first | exact s2 | exact lD ((Below.refl _ _).alloc (Nat.le_refl _) _) s2)
      have B3:=zZ (show Below w.heap.size w w3 from Below.trans (by first | exact zY B2 | exact(zY B2).alloc (zY B2).size _) (hb3.mono (by have:=(zY B2).size;simp;omega)))
      have O3:=zZ ho3
      have c23:Below w2.heap.size w2 w3:=by first | exact hb3 | exact((Below.refl _ _).alloc (Nat.le_refl _) _).trans (hb3.mono (by simp))
      have q3:w2.heap.size<w3.heap.size:=by have h2:=hs3;(try simp at h2);omega
      first
       | (have zb:=yD1 hb3;have zc:=fun j=>cell_of_row w3 _ j _ 29 (0,0) zb;have zf:=fun j=>yB zb j;have ZB:=zZ zb;clear zb)
       | (have zb:=yO hb3 (zY ZB);clear zc zf ZB;have zc:=fun j=>cell_of_row w3 _ j _ 29 (0,0) zb;have zf:=fun j=>yB zb j;have ZB:=zZ zb;clear zb)
       | skip))
  all_goals
   go_wp2_with fail
   go_meet
   have bx3:=yO c23 (yO c12 (yO c01 (zY BX)))
   have rs3:=yO c23 (yO c12 (yO c01 (zY RS)))
   have o0:=(ho1.below c12 hs1).below c23 (Nat.lt_trans hs1 q2)
   have o2:=ho2.below c23 hs2
   have o3:=ho3
   have hS:=zY HS
   first
    | (refine⟨_,_,_,_,rfl,WV.start (zY B3) bx3 rs3 (zY ZB) (by omega) ⟨by omega,by omega⟩ ⟨by omega,by omega⟩ ⟨by omega,by omega⟩ (by simpa using o0) (by simpa using o2) (by simpa using o3)⟩;done)
    | (exact⟨w3.heap.size,W0.heap.size,w1.heap.size,w2.heap.size,rfl,(zY B3).alloc (zY B3).size _,yO ((Below.refl _ _).alloc (Nat.le_refl _) _) bx3,yO ((Below.refl _ _).alloc (Nat.le_refl _) _) rs3,heap_alloc_new _ _,by omega,⟨by omega,by omega⟩,⟨by omega,by omega⟩,⟨by omega,by omega⟩,o0.below ((Below.refl _ _).alloc (Nat.le_refl _) _) (by show W0.heap.size<_;omega),o2.below ((Below.refl _ _).alloc (Nat.le_refl _) _) (by omega),o3.below ((Below.refl _ _).alloc (Nat.le_refl _) _) (by omega)⟩;done)
 case rest=>
  obtain⟨wb,g0,g2,g3,rfl,hwv⟩:=hcut
  have hv:=zY HV1
  subst hv
  have hmk:=zX8 bs.length n1
  obtain⟨sz1,sz2,sz3,sz4,sz5⟩:=hwv.size
  have cb:=cell_of_row wc _ 1 _ 29 (0,0) hwv.bx
  have cw:=cell_of_row wc _ 1 _ 29 (0,0) hwv.wb_
  have fw:=yB hwv.wb_ 1
  have HST:=zZ (show WBRel w v0 (.slice ba bs.length bc) v2 v3 wb g0 g2 g3 wc.heap.size bs.length lc lp ll (bs.map (·.2)) (.int .i64 0) ((wc.alloc (.cells (madeCells #[.slice none 0 0] (bs.length+4)) 26)).setCell ⟨wb,1,none⟩ (.slice (some ⟨wc.heap.size,0,none⟩) (bs.length+4) (bs.length+4))) from
   ⟨0,Nat.zero_le _,rfl,fun _=>0,(hwv.below ((Below.refl _ _).alloc (Nat.le_refl _) _)).setVb _,⟨(qJ _ _ _ _).setCell _ _,fun i hi=>absurd hi (Nat.not_lt_zero _),fun i hi=>absurd hi (Nat.not_lt_zero _),fun i hi=>absurd hi (Nat.not_lt_zero _)⟩,by omega,by omega,by omega,by omega⟩)
  have cw2:(wc.alloc (.cells (madeCells #[.slice none 0 0] (bs.length+4)) 26)).cell? ⟨wb,1,none⟩=some (.slice none 0 0):=(zO (w:=wc) (a:=⟨wb,1,none⟩) (zR _ _ _ sz2)).trans cw
  have fw2:(wc.alloc (.cells (madeCells #[.slice none 0 0] (bs.length+4)) 26)).frozen? ⟨wb,1,none⟩=false:=yB ((zR _ _ _ sz2).trans hwv.wb_) 1
  clear hwv sz1 sz2 sz3 sz4 sz5 cw fw
  go_wp2_with fail
  go_loopw [4] (fun u wr=>WBRel w v0 (.slice ba bs.length bc) v2 v3 wb g0 g2 g3 wc.heap.size bs.length lc lp ll (bs.map (·.2)) u wr) (fun i _=>bs.length+4-(intOf i).toNat)
  case atStart=>exact zY HST
  case round=>
   obtain⟨k,hk,rfl,G,hv,hb,o1,o2,o3,o4⟩:=hrel
   have cb:=cell_of_row wr _ 1 _ 29 (0,0) hv.bx
   have cw:=cell_of_row wr _ 1 _ 29 (0,0) hv.wb_
   obtain⟨sz1,sz2,sz3,sz4,sz5⟩:=hv.size
   by_cases hlt:k<bs.length+4
   ·obtain⟨t0,z0⟩:=hb.there k (by omega)
    obtain⟨x0,c0⟩:=Option.isSome_iff_exists.1 t0
    clear t0
    by_cases hkn:k<bs.length
    ·rcases zY HBA with hz | ⟨q,off,rfl,hq,hcell⟩
     ·have:bs.length=0:=by simpa using congrArg List.length hz
      omega
     have hql:=zY HP q hq
     have hmem:bs.getD k (.slice none 0 0,[])∈bs:=by rw [List.getD_eq_getElem?_getD,List.getElem?_eq_getElem hkn];exact List.getElem_mem _
     have hval:(bs.map (·.1)).getD k undef=(bs.getD k (.slice none 0 0,[])).1:=by rw [List.getD_eq_getElem?_getD,List.getElem?_map,List.getD_eq_getElem?_getD,List.getElem?_eq_getElem hkn];rfl
     have hval2:(bs.map (·.2)).getD k []=(bs.getD k (.slice none 0 0,[])).2:=by rw [List.getD_eq_getElem?_getD,List.getElem?_map,List.getD_eq_getElem?_getD,List.getElem?_eq_getElem hkn];rfl
     have cz:wr.cell? ⟨q,off+k,none⟩=some (bs.getD k (.slice none 0 0,[])).1:=(xT hv.bel q (off+k) hql).trans ((hcell k hkn).trans (by rw [hval]))
     obtain⟨hi,hil⟩:=zY HBS _ hmem
     have H105:=zZ (jZ (w:=wr.drew) (P:=P) (fun q hq=>zT (zY HP q hq) hv.bel.size) (yQ hi (fun q hq=>hv.bel.block q (zY HP q hq)) (fun _ h=>h)) hil)
     generalize (bs.getD k (.slice none 0 0,[])).2=l at *
     generalize (bs.getD k (.slice none 0 0,[])).1=vk at *
     have HV:=zZ hv
     have HB:=zZ hb
     have HVAL:=zZ hval2
     have hk0:(0:Int)<=(k:Int):=by omega
     have hk1:(k:Int)<(bs.length:Int):=by omega
     have hk2:(k:Int)<(bs.length:Int)+4:=by omega
     have hS:=zZ (show wr.cell? ⟨w.heap.size,1,none⟩=some (.slice (some ⟨q,off,none⟩) bs.length bc)/\wr.cell? ⟨wb,1,none⟩=some (.slice (some ⟨wc.heap.size,0,none⟩) (bs.length+4) (bs.length+4))/\wr.cell? ⟨q,off+k,none⟩=some vk from ⟨cb,cw,cz⟩)
     clear hcell hval hmem hi hil hval2 hv hb hq
     go_upto_region 7 with fail
     go_region_held3 (fun w'=>w'.cell? ⟨w.heap.size,1,none⟩=some (.slice (some ⟨q,off,none⟩) bs.length bc)/\w'.cell? ⟨wb,1,none⟩=some (.slice (some ⟨wc.heap.size,0,none⟩) (bs.length+4) (bs.length+4))/\w'.cell? ⟨q,off+k,none⟩=some vk)
      (first | exact zY hS | exact zY s1 | exact(zY s2))
      (first
       | (
         go_at_call 105;refine(zY H105).mono ?_
         rintro e w1 ⟨rfl,hb1,hs1,ho1⟩
         have s1:=zZ (show w1.cell? ⟨w.heap.size,1,none⟩=some (.slice (some ⟨q,off,none⟩) bs.length bc)/\w1.cell? ⟨wb,1,none⟩=some (.slice (some ⟨wc.heap.size,0,none⟩) (bs.length+4) (bs.length+4))/\w1.cell? ⟨q,off+k,none⟩=some vk from ⟨(xT hb1 _ _ (by show _<wr.heap.size;omega)).trans cb,(xT hb1 _ _ sz2).trans cw,(xT hb1 _ _ (zU _ _ cz)).trans cz⟩)
         have hgl:wc.heap.size<wr.heap.size:=zU _ _ c0
         have c1:w1.cell? ⟨wc.heap.size,k,none⟩=some x0:=(xT hb1 _ _ hgl).trans c0
         have z1:w1.frozen? ⟨wc.heap.size,k,none⟩=false:=(bfro hb1 _ _ hgl).trans z0
         have V1:=zZ ((zY HV).below (Below.trans (Below.refl _ _).drew hb1))
         have NB:=zZ ((zY HB).below (Below.trans (Below.refl _ _).drew hb1) hgl (fun i hi hn=>((zY HB).far i hi hn).2))
         have HQL:=zZ (zU _ _ cz)
         have s2:=zZ (show (w1.setCell ⟨wc.heap.size,k,none⟩ (.slice (some ⟨wr.heap.size,0,none⟩) l.length (l.length+4))).cell? ⟨w.heap.size,1,none⟩=some (.slice (some ⟨q,off,none⟩) bs.length bc)/\(w1.setCell ⟨wc.heap.size,k,none⟩ (.slice (some ⟨wr.heap.size,0,none⟩) l.length (l.length+4))).cell? ⟨wb,1,none⟩=some (.slice (some ⟨wc.heap.size,0,none⟩) (bs.length+4) (bs.length+4))/\(w1.setCell ⟨wc.heap.size,k,none⟩ (.slice (some ⟨wr.heap.size,0,none⟩) l.length (l.length+4))).cell? ⟨q,off+k,none⟩=some vk from ⟨(zV _ _ _ _ (by intro he;injection he;have:=(zY HV).wbB;omega)).trans (zY s1).1,(zV _ _ _ _ (by intro he;injection he;omega)).trans (zY s1).2.1,(zV _ _ _ _ (by intro he;injection he;have:=(zY HV).wbB;omega)).trans (zY s1).2.2⟩)
         have O1:=zZ ho1
         clear hb1 ho1 cb cw cz c0 z0 HV HB H105))
     go_wp2_with fail
     go_roundw
     case rel=>exact⟨k+1,by omega,by go_num,_,(zY V1).setFar (by have:=(zY V1).wbB;omega) _ _,by
      have h:=(zY NB).step hkn (q:=wr.heap.size) ⟨hgl,hs1⟩ (by rw [zY HVAL];exact zY O1)
      rw [zY HVAL] at h
      exact h,o1,o2,o3,o4⟩
     case measure=>simp [intOf];omega
    ·have HV:=zZ hv
     have HB:=zZ hb
     have hgl:wc.heap.size<wr.heap.size:=zU _ _ c0
     have hne:¬(k:Int)<(bs.length:Int):=by omega
     clear hv hb
     go_wp2_with fail
     go_roundw
     case rel=>
      rw [<-World.setCell_alloc_past _ _ _ _ hgl]
      exact⟨k+1,by omega,by go_num,G,((zY HV).below ((Below.refl _ _).alloc (Nat.le_refl _) _)).setFar (by have:=(zY HV).wbB;omega) _ _,((zY HB).below ((Below.refl _ _).alloc (Nat.le_refl _) _) hgl (fun i hi hn=>((zY HB).far i hi hn).2)).pad (by omega) _,o1,o2,o3,o4⟩
     case measure=>simp [intOf];omega
   ·obtain rfl:k=bs.length+4:=by omega
    have HV:=zZ hv
    have HB:=zZ hb
    have hwb:=hv.wb_
    unfold sN at hwb
    have c2:=fun j=>cell_of_row wr _ j _ 29 (0,0) hwb
    clear hwb
    have t2:=yB hv.wb_ 1
    have c3:=fun j=>cell_of_row wr _ j _ 29 (0,0) hv.rs
    have t3:=fun j=>yB hv.rs j
    have hwr:¬w.heap.size+1=wb:=by have:=hv.wbB;omega
    have hwr':¬wb=w.heap.size+1:=by have:=hv.wbB;omega
    clear hv hb
    go_wp2
    have V:=(zY HV).setVb (.slice (some ⟨wc.heap.size,0,none⟩) bs.length (bs.length+4))
    have NB:=(zY HB).setCell (a:=⟨wb,1,none⟩) o1 (.slice (some ⟨wc.heap.size,0,none⟩) bs.length (bs.length+4))
    have wbB:=V.wbB
    have l0:=V.l0
    have l2:=V.l2
    have l3:=V.l3
    refine bodyPost_ret (v:=.agg #[sN g0 lc,.slice (some ⟨wc.heap.size,0,none⟩) bs.length (bs.length+4),sN g2 lp,sN g3 ll]) (by simp [results,Tryz.results71,go_sem,c3,sN]) rfl ⟨g0,wc.heap.size,g2,g3,G,rfl,?_,by omega,by omega,by omega,by omega,?_,?_,?_,?_⟩
    ·exact(((V.bel.setCell (by simp) _).setCell (by simp) _).setCell (by simp) _).setCell (by simp) _
    ·exact(((V.o0.setCell (by simp;omega) _).setCell (by simp;omega) _).setCell (by simp;omega) _).setCell (by simp;omega) _
    ·exact(((V.o2.setCell (by simp;omega) _).setCell (by simp;omega) _).setCell (by simp;omega) _).setCell (by simp;omega) _
    ·exact(((V.o3.setCell (by simp;omega) _).setCell (by simp;omega) _).setCell (by simp;omega) _).setCell (by simp;omega) _
    ·have h:=(((NB.setCell (a:=⟨w.heap.size+1,0,none⟩) (by simp;omega) (sN g0 lc)).setCell (a:=⟨w.heap.size+1,1,none⟩) (by simp;omega) (.slice (some ⟨wc.heap.size,0,none⟩) bs.length (bs.length+4))).setCell (a:=⟨w.heap.size+1,2,none⟩) (by simp;omega) (sN g2 lp)).setCell (a:=⟨w.heap.size+1,3,none⟩) (by simp;omega) (sN g3 ll)
     exact⟨h.there,fun i hi hn=>h.heads i (by omega) hn,fun i hi hn=>h.far i (by omega) hn,fun i hi hn=>h.own i (by omega) hn⟩
theorem yA9 {w:World} {v0 v1 v2 v3:Value} {lc lp ll:List Int} {bs:List (Value×List Int)} {P:Nat->Prop} (hP:∀q,P q->q<w.heap.size)
  (h0:yJ w v0 lc P) (h1:sZ w v1 (bs.map (·.1)) P) (h2:yJ w v2 lp P) (h3:yJ w v3 ll P) (hbs:∀b,b∈bs->yJ w b.1 b.2 P/\b.2.length<=1000000000)
  (n0:lc.length<=1000000000) (n1:bs.length<=1000000000) (n2:lp.length<=1000000000) (n3:ll.length<=1000000000)
  {g0 gb g2 g3:Nat} {G:Nat->Nat} (o0:tI w g0 (lc.length+4) lc) (o2:tI w g2 (lp.length+4) lp) (o3:tI w g3 (ll.length+4) ll) (ob:tY w gb bs.length bs.length (bs.map (·.2)) G) :
  Calls Tryz.prog 73 #[.agg #[sN g0 lc,.slice (some ⟨gb,0,none⟩) bs.length (bs.length+4),sN g2 lp,sN g3 ll],.agg #[v0,v1,v2,v3]] w fun e w'=>e=.returned (.bool true)/\Below w.heap.size w w':=by
 obtain⟨ba,bc,rfl,hba⟩:=h1
 rw [List.length_map] at *
 obtain⟨W0,hW⟩ : ∃W0,W0=(w.alloc (.cells #[sN g0 lc,.slice (some ⟨gb,0,none⟩) bs.length (bs.length+4),sN g2 lp,sN g3 ll] 29)).alloc (.cells #[v0,.slice ba bs.length bc,v2,v3] 29):=⟨_,rfl⟩
 have hB0:Below w.heap.size w W0:=by subst hW;exact bl2 _ _
 have bx:W0.heap[w.heap.size]?=some (.cells #[sN g0 lc,.slice (some ⟨gb,0,none⟩) bs.length (bs.length+4),sN g2 lp,sN g3 ll] 29):=by subst hW;exact(zR _ _ _ (by simp)).trans (heap_alloc_new _ _)
 have by_:W0.heap[w.heap.size+1]?=some (.cells #[v0,.slice ba bs.length bc,v2,v3] 29):=by
  subst hW
  have h:=heap_alloc_new (w.alloc (.cells #[sN g0 lc,.slice (some ⟨gb,0,none⟩) bs.length (bs.length+4),sN g2 lp,sN g3 ll] 29)) (.cells #[v0,.slice ba bs.length bc,v2,v3] 29)
  rw [show (w.alloc (.cells #[sN g0 lc,.slice (some ⟨gb,0,none⟩) bs.length (bs.length+4),sN g2 lp,sN g3 ll] 29)).heap.size=w.heap.size+1 by simp] at h
  exact h
 have kp:∀{v l},yJ w v l P->yJ W0 v l P:=fun h=>yQ h (fun q hq=>hB0.block q (hP q hq)) (fun _ h=>h)
 have i0:=kp h0
 have i2:=kp h2
 have i3:=kp h3
 have j0:=o0.below hB0 (o0.lt (by omega))
 have j2:=o2.below hB0 (o2.lt (by omega))
 have j3:=o3.below hB0 (o3.lt (by omega))
 have jb:tY W0 gb bs.length bs.length (bs.map (·.2)) G:=ob.below hB0 (zU w ⟨gb,0,none⟩ (Option.isSome_iff_exists.1 (ob.there 0 (by omega)).1).choose_spec) (fun i hi hn=>(ob.far i hi hn).2)
 have HBS:=zZ (fun b hb=>show yJ W0 b.1 b.2 P/\b.2.length<=1000000000 from ⟨kp (hbs b hb).1,(hbs b hb).2⟩)
 have HBA:=zZ (show (bs.map (·.1))=[]\/∃q off,ba=some ⟨q,off,none⟩/\P q/\∀i,i<bs.length->W0.cell? ⟨q,off+i,none⟩=some ((bs.map (·.1)).getD i undef) from hba.imp id fun ⟨q,off,h1,h2,h3⟩=>⟨q,off,h1,h2,fun i hi=>(xT hB0 _ _ (hP q h2)).trans (h3 i hi)⟩)
 have H0:=zZ (sW i0 j0 n0)
 have H2:=zZ (fun (X:World) (hd:Dr W0 X)=>sW (iT hd i2) (j2.dr hd) n2)
 have H3:=zZ (fun (X:World) (hd:Dr W0 X)=>sW (iT hd i3) (j3.dr hd) n3)
 unfold sN at *
 have c0:=fun j=>cell_of_row W0 _ j _ 29 (0,0) bx
 have c1:=fun j=>cell_of_row W0 _ j _ 29 (0,0) by_
 have HW:=zZ hW
 have HB0:=zZ hB0
 have JB:=zZ jb
 have BX:=zZ bx
 have BY:=zZ by_
 clear hW hB0 bx by_ kp i0 i2 i3 j0 j2 j3 jb o0 o2 o3 ob h0 h2 h3 hbs hba hP
 go_enter Tryz.func73,Tryz.ntmps73
 go_wp2_with fail
 rw [<-zY HW]
 go_at_call 110
 refine(zY H0).mono ?_
 rintro e w1 ⟨rfl,d1⟩
 have c0':=fun j=>(d1.cell ⟨w.heap.size,j,none⟩).trans (c0 j)
 have c1':=fun j=>(d1.cell ⟨w.heap.size+1,j,none⟩).trans (c1 j)
 clear c0 c1 H0
 go_wp2_with fail
 go_at_call 110
 refine(zY H2 w1 d1).mono ?_
 rintro e w2 ⟨rfl,d2⟩
 have d12:=d1.trans d2
 have c0:=fun j=>(d2.cell ⟨w.heap.size,j,none⟩).trans (c0' j)
 have c1:=fun j=>(d2.cell ⟨w.heap.size+1,j,none⟩).trans (c1' j)
 clear c0' c1' H2
 go_wp2_with fail
 go_at_call 110
 refine(zY H3 w2 d12).mono ?_
 rintro e w3 ⟨rfl,d3⟩
 have d13:=d12.trans d3
 have c0':=fun j=>(d3.cell ⟨w.heap.size,j,none⟩).trans (c0 j)
 have c1':=fun j=>(d3.cell ⟨w.heap.size+1,j,none⟩).trans (c1 j)
 clear c0 c1 H3
 go_wp2_with fail
 go_loopw [8,9] (fun u8 u9 wr=>u8=.bool true/\∃k:Nat,k<=bs.length/\u9=.int .i64 k/\Dr W0 wr) (fun _ i _=>bs.length-(intOf i).toNat)
 case atStart=>exact⟨by simp,0,Nat.zero_le _,rfl,d13⟩
 case round=>
  obtain⟨rfl,k,hk,rfl,hd⟩:=hrel
  have e0:=fun j=>(hd.cell ⟨w.heap.size,j,none⟩).trans (cell_of_row W0 _ j _ 29 (0,0) (zY BX))
  have e1:=fun j=>(hd.cell ⟨w.heap.size+1,j,none⟩).trans (cell_of_row W0 _ j _ 29 (0,0) (zY BY))
  clear c0' c1'
  by_cases hlt:k<bs.length
  ·rcases zY HBA with hz | ⟨q,off,rfl,hq,hcell⟩
   ·have:bs.length=0:=by simpa using congrArg List.length hz
    omega
   have hmem:bs.getD k (.slice none 0 0,[])∈bs:=by rw [List.getD_eq_getElem?_getD,List.getElem?_eq_getElem hlt];exact List.getElem_mem _
   have hval:(bs.map (·.1)).getD k undef=(bs.getD k (.slice none 0 0,[])).1:=by rw [List.getD_eq_getElem?_getD,List.getElem?_map,List.getD_eq_getElem?_getD,List.getElem?_eq_getElem hlt];rfl
   have hval2:(bs.map (·.2)).getD k []=(bs.getD k (.slice none 0 0,[])).2:=by rw [List.getD_eq_getElem?_getD,List.getElem?_map,List.getD_eq_getElem?_getD,List.getElem?_eq_getElem hlt];rfl
   have g0:=(hd.cell ⟨q,off+k,none⟩).trans ((hcell k hlt).trans (by rw [hval]))
   have g1:=(hd.cell ⟨gb,k,none⟩).trans ((zY JB).heads k hlt hlt)
   have gi:=(zY JB).own k hlt hlt
   obtain⟨hi,hil⟩:=zY HBS _ hmem
   rw [hval2] at g1 gi
   have H110:=zZ (fun (X:World) (hx:Dr W0 X)=>sW (iT hx hi) (gi.dr hx) hil)
   clear hcell hval hval2 hmem gi hi hil
   generalize (bs.getD k (.slice none 0 0,[])).2=l at *
   generalize (bs.getD k (.slice none 0 0,[])).1=vk at *
   have hk0:(0:Int)<=(k:Int):=by omega
   have hk1:(k:Int)<(bs.length:Int):=by omega
   have hk2:(k:Int)<(bs.length:Int)+4:=by omega
   go_wp2
   go_quiet ((go_at_call 110;exact Calls.quiet_of (zY H110 _ (hd.more _))))
   go_wp2
   go_roundw
   case rel=>exact⟨by simp,k+1,by omega,by go_num,hd.more _⟩
   case measure=>simp [intOf];omega
  ·go_wp2
   go_ret
   exact⟨by simp,(zY HB0).trans (hd.below _)⟩
def mA (p:AT) (now tn:Int):Bool:=decide (p.1.2.1<=now) && decide (p.2<tn)
def tJ (A:List AT) (now tn:Int):Nat->Int
 | 0=>-1
 | k+1=>match A[k]? with
  | some p=>if mA p now tn && (decide (tJ A now tn k<0) || decide (p.1.2.1<(A.getD (tJ A now tn k).toNat ((false,0,0,0),0)).1.2.1)) then (k:Int) else tJ A now tn k
  | none=>tJ A now tn k
def DueOk (A:List AT) (now tn:Int) (k:Nat) (r:Int):Prop:=
 (r=-1/\∀j p,j<k->A[j]?=some p->mA p now tn=false)\/
 ∃m p,m<k/\r=(m:Int)/\A[m]?=some p/\mA p now tn=true/\∀j q,j<k->A[j]?=some q->mA q now tn=true->p.1.2.1<=q.1.2.1/\(j<m->p.1.2.1<q.1.2.1)
theorem aU (A:List AT) (now tn:Int):∀k,k<=A.length->DueOk A now tn k (tJ A now tn k)
 | 0,_=>.inl ⟨rfl,fun j p h=>by omega⟩
 | k+1,hk=>by
  have ih:=aU A now tn k (by omega)
  obtain⟨p,hp⟩ : ∃p,A[k]?=some p:=⟨_,List.getElem?_eq_getElem (by omega)⟩
  have hd:tJ A now tn (k+1)=if mA p now tn && (decide (tJ A now tn k<0) || decide (p.1.2.1<(A.getD (tJ A now tn k).toNat ((false,0,0,0),0)).1.2.1)) then (k:Int) else tJ A now tn k:=by
   simp only [tJ,hp]
  rw [hd]
  have last:∀j q,j<k+1->A[j]?=some q->(j<k/\A[j]?=some q)\/(j=k/\q=p):=fun j q hj hq=>by
   by_cases e:j=k
   ·subst e;rw [hp] at hq;exact .inr ⟨rfl,(Option.some.inj hq).symm⟩
   ·exact .inl ⟨by omega,hq⟩
  by_cases hc:mA p now tn=true
  ·rcases ih with ⟨h1,h2⟩ | ⟨m,q,hm,hr,hq,hcq,hall⟩
   ·rw [if_pos (by simp [hc,h1])]
    refine .inr ⟨k,p,by omega,rfl,hp,hc,fun j q hj hq hcq=>?_⟩
    rcases last j q hj hq with ⟨h3,h4⟩ | ⟨h3,h4⟩
    ·rw [h2 j q h3 h4] at hcq;cases hcq
    ·subst h4;exact⟨Int.le_refl _,fun h=>by omega⟩
   ·have hg:(A.getD (tJ A now tn k).toNat ((false,0,0,0),0))=q:=by
     rw [hr,List.getD_eq_getElem?_getD,show ((m:Int)).toNat=m by omega,hq];rfl
    rw [hg]
    by_cases hl:p.1.2.1<q.1.2.1
    ·rw [if_pos (by simp [hc,hl])]
     refine .inr ⟨k,p,by omega,rfl,hp,hc,fun j u hj hu hcu=>?_⟩
     rcases last j u hj hu with ⟨h3,h4⟩ | ⟨h3,h4⟩
     ·have:=(hall j u h3 h4 hcu).1;exact⟨by omega,fun _=>by omega⟩
     ·subst h4;exact⟨Int.le_refl _,fun h=>by omega⟩
    ·have hn:¬((m:Int)<0):=by omega
     rw [if_neg (by rw [hr];simp [hl])]
     refine .inr ⟨m,q,by omega,hr,hq,hcq,fun j u hj hu hcu=>?_⟩
     rcases last j u hj hu with ⟨h3,h4⟩ | ⟨h3,h4⟩
     ·exact hall j u h3 h4 hcu
     ·subst h4;exact⟨by omega,fun h=>by omega⟩
  ·have hc':mA p now tn=false:=by simpa using hc
   rw [if_neg (by simp [hc'])]
   rcases ih with ⟨h1,h2⟩ | ⟨m,q,hm,hr,hq,hcq,hall⟩
   ·refine .inl ⟨h1,fun j u hj hu=>?_⟩
    rcases last j u hj hu with ⟨h3,h4⟩ | ⟨h3,h4⟩
    ·exact h2 j u h3 h4
    ·rw [h4];exact hc'
   ·refine .inr ⟨m,q,by omega,hr,hq,hcq,fun j u hj hu hcu=>?_⟩
    rcases last j u hj hu with ⟨h3,h4⟩ | ⟨h3,h4⟩
    ·exact hall j u h3 h4 hcu
    ·rw [h4,hc'] at hcu;cases hcu
section
variable {σ:Type} {SQ:(Nat->Value)->(Nat->Prop)->World->σ->Prop} {B:Nat} {S T:Nat->Prop} {w:World} {b:Nat} {pv:Nat->Value} {vt va:Value} {s:PS} {A:List AT} {tn sq:Int} {x:σ}
theorem zE4 (L:rK SQ B) (h:LQ SQ B S w b pv vt va T s A tn sq x) (now:Int) (ha:s.armings<=5000) :
  Calls Tryz.prog 142 #[.pointer (some ⟨b,0,none⟩),.int .i64 now] w fun e w'=>e=.returned (.int .i64 (tJ A now tn A.length))/\Fr (fun _=>False) w w' (fun _=>False):=by
 obtain⟨aa,ca,rfl⟩:=yM h.arow
 have hlen:A.length<=5000:=by have:=h.rel.len;omega
 have H:=zZ h
 clear h
 go_enter Tryz.func142,Tryz.ntmps142
 go_wp2
 go_loopw [5,6] (fun u i wr=>∃k:Nat,k<=A.length/\i=.int .i64 k/\u=.int .i64 (tJ A now tn k)/\Fr (fun _=>False) w wr (fun _=>False)) (fun _ i _=>A.length-(intOf i).toNat)
 case atStart=>exact⟨0,Nat.zero_le _,rfl,rfl,Fr.refl _ _⟩
 case round=>
  obtain⟨k,hk,rfl,rfl,hf⟩:=hrel
  have hr:=(zY H).fr L hf
  have c16:=(hr.cell 16 (by omega)).trans (by rw [vJ])
  have c15:=(hr.cell 15 (by omega)).trans (by rw [tD])
  have hb:=hr.blt
  have HF:=zZ hf
  clear hf
  by_cases hlt:k<A.length
  ·obtain⟨p,hp⟩ : ∃p,A[k]?=some p:=⟨_,List.getElem?_eq_getElem hlt⟩
   obtain⟨g,cg,hv,q0,q1,q2⟩:=jM hr.arow hp
   injection hv with hv hv2 hv3
   subst hv
   clear hv2 hv3
   have hd:tJ A now tn (k+1)=if mA p now tn && (decide (tJ A now tn k<0) || decide (p.1.2.1<(A.getD (tJ A now tn k).toNat ((false,0,0,0),0)).1.2.1)) then (k:Int) else tJ A now tn k:=by
    simp only [tJ,hp]
   have hok:=aU A now tn k (by omega)
   have hk0:(0:Int)<=(k:Int):=by omega
   have hk1:(k:Int)<(A.length:Int):=by omega
   have hgl:g<wr.heap.size:=zU _ _ q0
   have hgb:¬g=wr.heap.size:=by omega
   have hgb':¬b=wr.heap.size:=by omega
   have HD:=zZ hd
   obtain⟨t,pt⟩:=p
   obtain⟨t0,t1,t2,t3⟩:=t
   dsimp only at q0 q1 q2 hd
   have fin:∀r,tJ A now tn (k+1)=r->∀m,∃k':Nat,k'<=A.length/\Value.int .i64 ((k:Int)+1)=.int .i64 k'/\Value.int .i64 r=.int .i64 (tJ A now tn k')/\Fr (fun _=>False) w ((wr.alloc (.cells #[.int .i64 t3,.int .i64 t1,.int .i64 pt] 210)).drewN m) (fun _=>False):=fun r hr m=>
    ⟨k+1,by omega,by go_num,by rw [hr],((zY HF).alloc _).drewN m⟩
   have FIN:=zZ fin
   clear hd hp fin
   by_cases e1:t1<=now
   ·have d1:decide (t1<=now)=true:=decide_eq_true e1
    by_cases e2:pt<tn
    ·have d2:decide (pt<tn)=true:=decide_eq_true e2
     have hcd:mA ((t0,t1,t2,t3),pt) now tn=true:=by unfold mA;simp [e1,e2]
     rcases hok with ⟨hr1,_⟩ | ⟨m,q,hm,hrm,hq,_,_⟩
     ·have d3:decide (tJ A now tn k<0)=true:=by rw [hr1];rfl
      have hres:tJ A now tn (k+1)=(k:Int):=by rw [zY HD,hcd,d3];rfl
      have HRES:=zZ (zY FIN _ hres)
      clear hr hres hcd hr1 FIN HD
      go_wp2
      go_quiet (fail)
      go_wp2
      go_roundw
      case rel=>exact zY HRES _
      case measure=>simp [intOf];omega
     ·have d3:decide (tJ A now tn k<0)=false:=by rw [hrm];exact decide_eq_false (by omega)
      have n3:(0:Int)<=tJ A now tn k:=by omega
      have n4:tJ A now tn k<(A.length:Int):=by omega
      obtain⟨g',cg',hv',u1,u2,u3⟩:=jM hr.arow hq
      injection hv' with hv' hv2 hv3
      injection hv' with hv'
      injection hv' with hv' hv4 hv5
      subst hv'
      clear hv2 hv3 u1 u3
      have hmn:(tJ A now tn k).toNat=m:=by omega
      rw [<-hmn] at u2
      have hgq:(A.getD (tJ A now tn k).toNat ((false,0,0,0),0))=q:=by
       rw [hmn,List.getD_eq_getElem?_getD,hq];rfl
      by_cases e4:t1<q.1.2.1
      ·have d4:decide (t1<q.1.2.1)=true:=decide_eq_true e4
       have hres:tJ A now tn (k+1)=(k:Int):=by rw [zY HD,hcd,d3,hgq,d4];rfl
       have HRES:=zZ (zY FIN _ hres)
       clear hr hres hcd FIN HD hrm hq hgq hmn
       generalize tJ A now tn k=r at *
       go_wp2
       go_quiet (fail)
       go_wp2
       go_roundw
       case rel=>exact zY HRES _
       case measure=>simp [intOf];omega
      ·have d4:decide (t1<q.1.2.1)=false:=decide_eq_false e4
       have hres:tJ A now tn (k+1)=tJ A now tn k:=by rw [zY HD,hcd,d3,hgq,d4];rfl
       have HRES:=zZ (zY FIN _ hres)
       clear hr hres hcd FIN HD hrm hq hgq hmn
       generalize tJ A now tn k=r at *
       go_wp2
       go_quiet (fail)
       go_wp2
       go_roundw
       case rel=>exact zY HRES _
       case measure=>simp [intOf];omega
    ·have d2:decide (pt<tn)=false:=decide_eq_false e2
     have hres:tJ A now tn (k+1)=tJ A now tn k:=by
      rw [zY HD]
      have:mA ((t0,t1,t2,t3),pt) now tn=false:=by unfold mA;simp [e2]
      rw [this];rfl
     have HRES:=zZ (zY FIN _ hres)
     clear hr hres hok FIN HD
     generalize tJ A now tn k=r at *
     go_wp2
     go_quiet (fail)
     go_wp2
     go_roundw
     case rel=>exact zY HRES _
     case measure=>simp [intOf];omega
   ·have d1:decide (t1<=now)=false:=decide_eq_false e1
    have hres:tJ A now tn (k+1)=tJ A now tn k:=by
     rw [zY HD]
     have:mA ((t0,t1,t2,t3),pt) now tn=false:=by unfold mA;simp [e1]
     rw [this];rfl
    have HRES:=zZ (zY FIN _ hres)
    clear hr hres hok FIN HD
    generalize tJ A now tn k=r at *
    go_wp2
    go_quiet (fail)
    go_wp2
    go_roundw
    case rel=>exact zY HRES _
    case measure=>simp [intOf];omega
  ·have hkl:k=A.length:=by omega
   subst hkl
   have hk1:¬(A.length:Int)<(A.length:Int):=by omega
   clear hr
   go_wp2
   go_ret
   exact⟨rfl,zY HF⟩
end
end Go.Proofs.YtfmbebofllgmoaaGreatDoor
namespace Go.Proofs.YtfmbebofllgmoaaGreatDoor
open Go.RowKit Go.Sort
section
variable {σ:Type} {ask:σ->Int->Int->Rep×σ}
def pN (sq:Int) (s s':PS):Prop:=s.armings<=s'.armings/\∀i,(s'.tim i).1=true->(s'.tim i).2.2.1<=sq->s'.tim i=s.tim i
theorem pN.refl (sq:Int) (s:PS):pN sq s s:=⟨Int.le_refl _,fun _ _ _=>rfl⟩
theorem pN.of {sq:Int} {s s':PS} (ht:s'.tim=s.tim) (ha:s'.armings=s.armings):pN sq s s':=⟨by omega,fun i _ _=>by rw [ht]⟩
theorem pN.trans {sq:Int} {s s' s'':PS} (h:pN sq s s') (h':pN sq s' s''):pN sq s s'':=
 ⟨Int.le_trans h.1 h'.1,fun i hi hs=>by
  have e:=h'.2 i hi hs
  rw [e] at hi hs ⊢
  exact h.2 i hi hs⟩
theorem zR3 (s:PS) (R:Rep):(ckS s R).tim=s.tim/\(ckS s R).armings=s.armings:=by
 unfold ckS;exact yE (P:=fun q:PS=>q.tim=s.tim/\q.armings=s.armings) (yE (P:=fun q:PS=>q.tim=s.tim/\q.armings=s.armings) ⟨rfl,rfl⟩ ⟨rfl,rfl⟩) ⟨rfl,rfl⟩
theorem yH2 (s:PS) (R:Rep) (i:Nat):(pT s R i).tim=s.tim/\(pT s R i).armings=s.armings:=by
 unfold pT;exact yE (P:=fun q:PS=>q.tim=s.tim/\q.armings=s.armings) ⟨rfl,rfl⟩ ⟨rfl,rfl⟩
theorem yP3 {sq:Int} (o:O3) (s:PS) (x:σ) (hs:sq<=s.armings):pN sq s (opM ask o s x).1:=by
 have hck:=zR3 s (ask x 1 0).1
 have hlo:=yH2 s (ask x 4 o.2.2).1 o.2.1.toNat
 have r:=pN.refl sq s
 have g:∀(P:PS×σ->Prop),(∀q:PS×σ,pN sq s q.1->P q)->P (opM ask o s x):=by
  intro P hP
  unfold opM
  refine yE (hP _ (.of rfl rfl)) (yE (hP _ (.of rfl rfl)) (yE (hP _ ?_) (yE (hP _ ?_) (yE (hP _ (.of rfl rfl)) (yE (hP _ (.of rfl rfl)) (yE (hP _ ?_) (yE (hP _ (.of hlo.1 hlo.2)) (yE (hP _ (.of rfl rfl)) (yE (hP _ ?_) (hP _ (.of rfl rfl)))))))))))
  ·refine⟨by show s.armings<=s.armings+1;omega,fun i hi hq=>?_⟩
   change (upd s.tim o.2.1.toNat _ i).2.2.1<=sq at hq
   show upd s.tim o.2.1.toNat _ i=s.tim i
   unfold upd at hq ⊢
   by_cases e:i=o.2.1.toNat
   ·rw [if_pos e] at hq
    change s.armings+1<=sq at hq
    omega
   ·rw [if_neg e]
  ·refine⟨Int.le_refl _,fun i hi hq=>?_⟩
   change (upd s.tim o.2.1.toNat _ i).1=true at hi
   show upd s.tim o.2.1.toNat _ i=s.tim i
   unfold upd at hi ⊢
   by_cases e:i=o.2.1.toNat
   ·rw [if_pos e] at hi;cases hi
   ·rw [if_neg e]
  ·exact yE (P:=fun q:PS=>pN sq s q) (.of hck.1 hck.2) (.of hck.1 hck.2)
  ·exact yE (P:=fun q:PS=>pN sq s q) (.of rfl rfl) r
 exact g (fun q=>pN sq s q.1) (fun _ h=>h)
theorem yF1 {sq:Int} {f:Nat->O3} {n:Nat}:∀(k:Nat) (s:PS) (x:σ),sq<=s.armings->pN sq s (hM ask f n k s x).1
 | 0,s,_,_=>pN.refl sq s
 | k+1,s,x,hs=>by
  unfold hM
  refine yE (P:=fun q:PS×σ=>pN sq s q.1) (yE (P:=fun q:PS×σ=>pN sq s q.1) (.of rfl rfl) ?_) (pN.refl sq s)
  have h1:=yP3 (ask:=ask) (f s.next.toNat) {s with fuel:=s.fuel-1,next:=s.next+1} x hs
  have h0:pN sq s {s with fuel:=s.fuel-1,next:=s.next+1}:=.of rfl rfl
  exact(h0.trans h1).trans (yF1 k _ _ (Int.le_trans hs h1.1))
structure TL (s:PS) (l:List TM) (now sq:Int):Prop where
 sort:l.Pairwise fun a b=>ltOf cfT b a=false
 mem:∀t,t∈l->t.1=true/\t.2.1<=now/\t.2.2.1<=sq
 all:∀i,(s.tim i).1=true->(s.tim i).2.1<=now->(s.tim i).2.2.1<=sq->s.tim i∈l
theorem zF3 {g:Int->PS->σ->PS×σ}:∀(l:List TM) (s:PS) (x:σ),(∀t,t∈l->s.tim t.2.2.2.toNat≠t)->frM g l s x=(s,x)
 | [],_,_,_=>rfl
 | t::r,s,x,h=>by
  unfold frM
  by_cases hf:s.fin≠0
  ·rw [if_pos hf]
  ·rw [if_neg hf,if_neg (h t (List.mem_cons_self ..))]
   exact zF3 r s x (fun t ht=>h t (List.mem_cons_of_mem _ ht))
theorem yE5 {g:Int->PS->σ->PS×σ} (l:List TM) (s:PS) (x:σ) (h:s.fin≠0):frM g l s x=(s,x):=by
 cases l with
 | nil=>rfl
 | cons t r=>unfold frM;rw [if_pos h]
theorem zF4 {g:Int->PS->σ->PS×σ} (l2:List TM):∀(l1:List TM) (s:PS) (x:σ),s.fin=0->(∀t,t∈l1->s.tim t.2.2.2.toNat≠t)->frM g (l1++l2) s x=frM g l2 s x
 | [],_,_,_,_=>rfl
 | t::r,s,x,hf,h=>by
  rw [List.cons_append]
  rw [frM,if_neg (by simp [hf]),if_neg (h t (List.mem_cons_self ..))]
  exact zF4 l2 r s x hf (fun t ht=>h t (List.mem_cons_of_mem _ ht))
theorem eO {s:PS} {A:List AT} {tn sq now:Int} (h:oD s A tn sq) {p:AT} (hp:p∈A):mA p now tn=true↔p.1.2.1<=now/\p.1.2.2.1<=sq:=by
 unfold mA
 have:=(h.trn p hp).1
 simp only [Bool.and_eq_true,decide_eq_true_eq]
 rw [this]
theorem TL.none {g:Int->PS->σ->PS×σ} {s:PS} {A:List AT} {l:List TM} {tn sq now:Int} (h:TL s l now sq) (hr:oD s A tn sq) (hd:∀j p,j<A.length->A[j]?=some p->mA p now tn=false) (x:σ):frM g l s x=(s,x):=
 zF3 l s x (fun t ht e=>by
  obtain⟨h1,h2,h3⟩:=h.mem t ht
  rw [<-e] at h1 h2 h3
  obtain⟨_,_,u,hu⟩:=hr.all _ h1
  obtain⟨j,hj⟩:=List.getElem?_of_mem hu
  have hc:=hd j _ (List.getElem?_eq_some_iff.1 hj).1 hj
  rw [(eO hr hu).2 ⟨h2,h3⟩] at hc
  cases hc)
theorem TL.next {g:Int->PS->σ->PS×σ} {s:PS} {A:List AT} {l:List TM} {tn sq now:Int} (h:TL s l now sq) (hr:oD s A tn sq) {m:Nat} {p:AT} (hm:A[m]?=some p) (hc:mA p now tn=true)
  (hall:∀j q,j<A.length->A[j]?=some q->mA q now tn=true->p.1.2.1<=q.1.2.1/\(j<m->p.1.2.1<q.1.2.1)) (hf:s.fin=0) (x:σ) :
  ∃l2,l2.length<l.length/\frM g l s x=frM g l2 (g p.1.2.2.2 (pD s p.1.2.2.2) x).1 (g p.1.2.2.2 (pD s p.1.2.2.2) x).2/\∀s2,pN sq (pD s p.1.2.2.2) s2->TL s2 l2 now sq:=by
 have hp:p∈A:=List.mem_of_getElem? hm
 obtain⟨a1,a2,a3,a4⟩:=hr.mem p hp
 obtain⟨c1,c2⟩:=(eO hr hp).1 hc
 have hin:p.1∈l:=by
  have:=h.all p.1.2.2.2.toNat (by rw [a4];exact a1) (by rw [a4];exact c1) (by rw [a4];exact c2)
  rwa [a4] at this
 obtain⟨l1,l2,rfl,hno⟩:=List.eq_append_cons_of_mem hin
 have hbad:∀t,t∈l1->s.tim t.2.2.2.toNat≠t:=fun t ht e=>by
  obtain⟨b1,b2,b3⟩:=h.mem t (List.mem_append_left _ ht)
  have b1':=b1
  rw [<-e] at b1'
  obtain⟨_,_,u,hu⟩:=hr.all _ b1'
  rw [e] at hu
  obtain⟨j,hj⟩:=List.getElem?_of_mem hu
  have hjl:=(List.getElem?_eq_some_iff.1 hj).1
  have hml:=(List.getElem?_eq_some_iff.1 hm).1
  obtain⟨d1,d2⟩:=hall j _ hjl hj ((eO hr hu).2 ⟨b2,b3⟩)
  have hs:=(List.pairwise_append.1 h.sort).2.2 t ht p.1 (List.mem_cons_self ..)
  have hs':¬(p.1.2.1<t.2.1\/(p.1.2.1=t.2.1/\p.1.2.2.1<t.2.2.1)):=fun hh=>by
   rw [(ltT p.1 t).2 hh] at hs;cases hs
  have hne:t≠p.1:=fun e=>hno (e▸ht)
  have hseq:=List.pairwise_iff_getElem.1 hr.seq
  have ej:A[j]=(t,u):=(List.getElem?_eq_some_iff.1 hj).2
  have em:A[m]=p:=(List.getElem?_eq_some_iff.1 hm).2
  rcases Nat.lt_trichotomy j m with hlt | heq | hgt
  ·have:=d2 hlt
   change p.1.2.1<t.2.1 at this
   exact hs' (.inl this)
  ·subst heq
   rw [ej] at em
   exact hne (by rw [<-em])
  ·have:=hseq m j hml hjl hgt
   rw [ej,em] at this
   change p.1.2.2.1<t.2.2.1 at this
   change p.1.2.1<=t.2.1 at d1
   exact hs' (by omega)
 refine⟨l2,by simp;omega,?_,fun s2 ho=>?_⟩
 ·rw [zF4 (p.1::l2) l1 s x hf hbad,frM,if_neg (by simp [hf]),if_pos a4]
 ·have hsub:∀t,t∈l2->t∈l1++p.1::l2:=fun t ht=>List.mem_append_right _ (List.mem_cons_of_mem _ ht)
  refine⟨(List.pairwise_cons.1 (List.pairwise_append.1 h.sort).2.1).2,fun t ht=>h.mem t (hsub t ht),fun i i1 i2 i3=>?_⟩
  have e1:=ho.2 i i1 i3
  have hne:i≠p.1.2.2.2.toNat:=fun e=>by
   rw [e1] at i1
   change (upd s.tim p.1.2.2.2.toNat _ i).1=true at i1
   unfold upd at i1
   rw [if_pos e] at i1
   cases i1
  have e2:(pD s p.1.2.2.2).tim i=s.tim i:=by
   show upd s.tim p.1.2.2.2.toNat _ i=s.tim i
   unfold upd
   rw [if_neg hne]
  rw [e1,e2] at i1 i2 i3 ⊢
  have hi:=h.all i i1 i2 i3
  obtain⟨_,b2,_⟩:=hr.all i i1
  rcases List.mem_append.1 hi with h1 | h1
  ·exact absurd (by rw [b2];rfl) (hbad _ h1)
  ·rcases List.mem_cons.1 h1 with h2 | h2
   ·exact absurd (by rw [<-h2,b2];rfl) hne
   ·exact h2
theorem TL.start {s:PS} {A:List AT} {tn sq:Int} (hr:oD s A tn sq) (hs:s.armings<=sq):TL s (vB s) s.clock sq:=by
 have hp:=zV4 s
 have hseq:∀i,(s.tim i).1=true->(s.tim i).2.2.1<=sq:=fun i hi=>by
  obtain⟨_,_,u,hu⟩:=hr.all i hi
  exact Int.le_trans (hr.top _ hu) hs
 refine⟨zE5 s,fun t ht=>?_,fun i h1 h2 _=>?_⟩
 ·have:=hp.mem_iff.1 ht
  unfold vW at this
  rw [List.mem_filter,List.mem_map] at this
  obtain⟨⟨i,_,rfl⟩,h2⟩:=this
  simp only [Bool.and_eq_true,decide_eq_true_eq] at h2
  exact⟨h2.1,h2.2,hseq i h2.1⟩
 ·refine hp.mem_iff.2 ?_
  unfold vW
  rw [List.mem_filter,List.mem_map]
  exact⟨⟨i,List.mem_range.2 (hr.all i h1).1,rfl⟩,by simp [h1,h2]⟩
end
