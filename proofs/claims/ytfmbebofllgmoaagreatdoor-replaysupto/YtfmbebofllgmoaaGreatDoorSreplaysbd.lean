/-
  PROVED HERE: Read gives what the model (readL) says, in new m
-/
import Derived.Maps.OwnIn
import Derived.Maps.AppendAt
import Derived.LoopNIn
import Derived.LoopIn
import Derived.Test.YtfmbebofllgmoaaGreatDoorSreplaysbc
set_option maxHeartbeats 4000000
set_option maxRecDepth 100000
namespace Go.Proofs.YtfmbebofllgmoaaGreatDoor
open Go.RowKit
attribute [local go_sem ↓] Go.wp_at_zero Go.wp_at_succ
attribute [local go_sem] Oper.semAt_some
theorem cK (s:ByteArray) (w:World):Calls Tryz.prog 31 #[.string s] w fun e w'=>e=.returned (.pointer (some ⟨w.heap.size,0,none⟩))/\w'=w.alloc (.cells #[.string s,.int .i64 0,.int .i64 0] 135):=by
 go_enter Tryz.func31,Tryz.ntmps31
 go_wp2
 go_ret
 exact⟨rfl,rfl⟩
theorem zE6 (rb:Nat) (w:World):Calls Tryz.prog 32 #[.pointer (some ⟨rb,0,none⟩)] w fun e w'=>e=.returned (.func (.func 57) #[] #[.pointer (some ⟨w.heap.size,0,none⟩)])/\w'=w.alloc (.cells #[.pointer (some ⟨rb,0,none⟩)] 80):=by
 go_enter Tryz.func32,Tryz.ntmps32
 go_wp2
 go_ret
 exact⟨rfl,rfl⟩
theorem yB2 {rb:Nat} {a y:Int} {w:World} (h1:w.cell? ⟨rb,1,none⟩=some (.int .i64 a)) (h2:w.cell? ⟨rb,2,none⟩=some (.int .i64 y)):Calls Tryz.prog 33 #[.pointer (some ⟨rb,0,none⟩)] w fun e w'=>e=.returned (.tuple #[.int .i64 a,.int .i64 y])/\w'=w.drew:=by
 go_enter Tryz.func33,Tryz.ntmps33
 go_wp2
 go_region
 go_wp2
 refine bodyPost_ret (v:=.tuple #[.int .i64 a,.int .i64 y]) (by simp [results,Tryz.results33,go_sem]) rfl ⟨rfl,rfl⟩
section
variable {w0 W:World} {ib vb rb l:Nat} {s:ByteArray} {ps:List (Inp×Value)} {r o:Loop}
theorem RdJ.noRec (h:RdJ w0 ib vb rb W ps) (hl:W.heap[l]?=some (.loop r)) (hz:w0.heap.size<=l):RdJ w0 ib vb rb (W.putObj l (.loop o)) ps:=by
 refine h.block ⟨h.fr.os,h.fr.tape,h.fr.output,by simpa using h.fr.size,fun k hk hn=>(World.putObj_heap_other (by omega)).trans (h.fr.same k hk hn),fun _ _ h=>h⟩ (fun q _ _ _ _ ⟨c,e,hc⟩=>World.putObj_heap_other (fun e'=>?_))
 subst e'
 rw [hl] at hc;cases hc
theorem uY.noRec {a y:Int} (h:uY W vb rb s a y) (hl:W.heap[l]?=some (.loop r)):uY (W.putObj l (.loop o)) vb rb s a y:=by
 refine h.block (World.putObj_heap_other (fun e=>?_)) (World.putObj_heap_other (fun e=>?_))
 ·have:=h.v;rw [e,hl] at this;cases this
 ·have:=h.r;rw [e,hl] at this;cases this
theorem YR.noRec {y:YA} (h:YR w0 ib vb rb s y W) (hl:W.heap[l]?=some (.loop r)) (hz:w0.heap.size<=l):YR w0 ib vb rb s y (W.putObj l (.loop o)):=by
 have hi:ib≠l:=fun e=>by obtain⟨v,h1,_⟩:=h.j.box;rw [e,hl] at h1;cases h1
 refine⟨h.j.noRec hl hz,h.r.noRec hl,yA h.f (fun q hq=>World.putObj_heap_other (fun e=>?_)),fun q hq=>?_,h.m⟩
 ·obtain⟨c,hc⟩:=oU h.f hq;rw [e,hl] at hc;cases hc
 ·obtain⟨n1,n2,n3,n4⟩:=h.n q hq
  exact⟨n1,n2,n3,fun v hv=>n4 v (by rw [World.putObj_heap_other hi] at hv;exact hv)⟩
end
theorem yM {W:World} {B e size n:Nat} {v:Value} {xs:List Value} (h:W.ownsRow B e size v n xs):∃a c,v=.slice a n c:=by
 rcases h.2 with ⟨h1,h0⟩ | ⟨g,cap,cur,hv,_⟩
 ·exact⟨none,0,by rw [h0];exact h1⟩
 ·exact⟨_,_,hv⟩
theorem YR.kept {w0 W W':World} {ib vb rb:Nat} {s:ByteArray} {y:YA} (h:YR w0 ib vb rb s y W) (hf:Fr (fun _=>False) w0 W' (fun _=>False)) (hb:∀q,q<W.heap.size->W'.heap[q]?=W.heap[q]?):YR w0 ib vb rb s y W':=by
 obtain⟨v,h1,_⟩:=h.j.box
 refine⟨h.j.block hf (fun q _ hq _ _ _=>hb q hq),h.r.block (hb _ (zN.1 h.r.v).1) (hb _ (zN.1 h.r.r).1),yA h.f (fun q hq=>hb q (zS h.f q hq).2),fun q hq=>?_,h.m⟩
 obtain⟨n1,n2,n3,n4⟩:=h.n q hq
 exact⟨n1,n2,n3,fun v hv=>n4 v (by rw [hb _ (zN.1 h1).1] at hv;exact hv)⟩
def tmR (s:ByteArray) (n:Nat) (p:Value) (y:YA):Array Value:=#[.string s,undef,.slice none 0 0,.int .i64 0,.int .i64 0,.pointer (some ⟨n,0,none⟩),.pointer (some ⟨n+1,0,none⟩),p,undef,undef,.string s,.pointer (some ⟨n+1,0,none⟩),.pointer (some ⟨n+1,0,none⟩),.func (.func 57) #[] #[.pointer (some ⟨n+1+1,0,none⟩)],
 .agg #[.int .i64 y.x.1,.int .i64 y.x.2.1,.int .i64 y.x.2.2.1,.slice y.fa y.fl y.fc],undef,undef,undef,undef,undef,undef,undef,undef,undef,undef,undef,undef]
def RdM (w0:World) (s:ByteArray) (y:YA) (b:Act) (W:World):Prop:=
 YR w0 w0.heap.size (w0.heap.size+1+1) (w0.heap.size+1) s y W/\∃nb,W.heap[nb]?=some (.cells #[.int .i64 y.x.1,.int .i64 y.x.2.1,.int .i64 y.x.2.2.1,.slice y.fa y.fl y.fc] 49)/\b=⟨tmR s w0.heap.size (.pointer (some ⟨nb,0,none⟩)) y,[]⟩
theorem zI5 (W:World) (a b c d:Value) (e:Nat):∀j u,[a,b,c,d][j]?=some u->(W.alloc (.cells #[a,b,c,d] e)).cell? (Addr.add ⟨W.heap.size,0,none⟩ j)=some u:=by
 intro j u hj
 have h0:=heap_alloc_new W (.cells #[a,b,c,d] e)
 rcases j with _ | _ | _ | _ | j
 ·injection hj with hj;subst hj;exact cell_of_row _ _ 0 _ e (0,0) h0
 ·injection hj with hj;subst hj;exact cell_of_row _ _ 1 _ e (0,0) h0
 ·injection hj with hj;subst hj;exact cell_of_row _ _ 2 _ e (0,0) h0
 ·injection hj with hj;subst hj;exact cell_of_row _ _ 3 _ e (0,0) h0
 ·cases hj
theorem small1 {n:Nat} (h:n<=1000000000):n+1<=maxLen:=Nat.le_trans (Nat.succ_le_succ h) (by decide)
theorem yN9 {n:Nat} (h:n<=1000000000):(n+1)*48<=140737488355328:=by omega
theorem zW3 {w0 W w1:World} {ib vb rb:Nat} {s:ByteArray} {y:YA} {v:Value} {o:Obj} (h:YR w0 ib vb rb s y W) (hv:W.heap[ib]?=some (.cells #[v] 44)) (hg:(W.alloc o).grownBy w1 v.ownBlock):w1.cell? ⟨ib,0,none⟩=some v/\w1.frozen? ⟨ib,0,none⟩=false:=by
 have hlt:=(zN.1 hv).1
 obtain⟨v',h1,h2,_⟩:=h.j.box
 rw [hv] at h1
 have e:v'=v:=by cases h1;rfl
 subst e
 have hb:w1.heap[ib]?=some (.cells #[v'] 44):=(hg.block ib (by simp;omega) (fun e=>by obtain⟨c,hc⟩:=oU h2.row e.symm;rw [hv] at hc;cases hc)).trans ((zR _ _ _ hlt).trans hv)
 exact⟨cell_of_row _ _ 0 _ 44 (0,0) hb,yB hb 0⟩
theorem yF9 (s:ByteArray) (hs:s.size<=1000000000) (w:World):Calls Tryz.prog 16 #[.string s] w fun e w'=>∃a n c ps,e=.returned (.tuple #[.slice a n c,.int .i64 (yR (bs s)).2.1,.int .i64 (yR (bs s)).2.2])/\rX w' w.heap.size (.slice a n c) ps/\ps.map (·.1)=(yR (bs s)).1/\Fr (fun _=>False) w w' (fun _=>False):=by
 refine(callsIn_wide (n:=3)).1 ?_
 refine callsIn_of_wp_marks Tryz.func16 rfl trivial ?_ rfl
 simp only [Tryz.ntmps16,List.size_toArray,List.length_cons,List.length_nil,Nat.reduceAdd,Nat.reduceSub,Array.replicate_succ,Array.replicate_zero,List.push_toArray,List.append_toArray,List.nil_append,List.cons_append]
 refine wpIn_wide.2 ?_
 go_wp2_with (first | (go_at_call 31;refine(cK _ _).mono ?_;rintro e w' ⟨rfl,rfl⟩) | (go_at_call 32;refine(zE6 _ _).mono ?_;rintro e w' ⟨rfl,rfl⟩))
 obtain⟨W0,hW0⟩ : ∃W0,((w.alloc (.cells #[.slice none 0 0] 44)).alloc (.cells #[.string s,.int .i64 0,.int .i64 0] 135)).alloc (.cells #[.pointer (some ⟨w.heap.size+1,0,none⟩)] 80)=W0:=⟨_,rfl⟩
 obtain⟨t0,t1,t2⟩:=three w.heap (.cells #[.slice none 0 0] 44) (.cells #[.string s,.int .i64 0,.int .i64 0] 135) (.cells #[.pointer (some ⟨w.heap.size+1,0,none⟩)] 80)
 change (((w.alloc _).alloc _).alloc _).heap[_]?=_ at t0 t1 t2
 rw [hW0] at t0 t1 t2 ⊢
 have hz0:W0.heap.size=w.heap.size+3:=by rw [<-hW0];simp
 have hf0:Fr (fun _=>False) w W0 (fun _=>False):=by rw [<-hW0];exact(((Fr.refl _ w).alloc _).alloc _).alloc _
 have hr0:uY W0 (w.heap.size+1+1) (w.heap.size+1) s 0 0:=⟨t2,t1⟩
 have hj0:RdJ w w.heap.size (w.heap.size+1+1) (w.heap.size+1) W0 []:=⟨hf0,⟨.slice none 0 0,t0,rX.nil _ _,aM _,aM _,aM _⟩,⟨by omega,by omega,by omega⟩,⟨by omega,by omega⟩⟩
 have hlz:w.heap.size<=W0.heap.size+1:=by omega
 have HZ0:=zZ hz0
 have HF0:=zZ hf0
 have HR0:=zZ hr0
 have HJ0:=zZ hj0
 clear hW0 t0 t1 t2 hz0 hf0 hr0 hj0
 refine wpIn_wide.1 (yI5 (n:=3) (gf:=57) (lb:=#[.pointer (some ⟨w.heap.size+1+1,0,none⟩)]) rfl (enters_of Tryz.func57 (by kernel_rfl) rfl) YA.enc (fun _=>rfl) (YR w w.heap.size (w.heap.size+1+1) (w.heap.size+1) s) (YE w w.heap.size (w.heap.size+1+1) (w.heap.size+1) s) (RdM w s)
  (fun W=>∃ps,RdJ w w.heap.size (w.heap.size+1+1) (w.heap.size+1) W ps/\ps.map (·.1)=(yR (bs s)).1/\uY W (w.heap.size+1+1) (w.heap.size+1) s (yR (bs s)).2.1 (yR (bs s)).2.2) ?nR' ?nRm ?nS ?assign ?body ?iter ?done)
 case nR'=>exact fun y W r o h hl=>⟨h.1.noRec hl hlz,h.2.noRec hl⟩
 case nRm=>
  rintro y b W r o ⟨h,nb,h1,h2⟩ hl
  refine⟨h.noRec hl hlz,nb,(World.putObj_heap_other (fun e=>?_)).trans h1,h2⟩
  rw [e,hl] at h1;cases h1
 case nS=>
  rintro W r o ⟨ps,h1,h2,h3⟩ hl
  exact⟨ps,h1.noRec hl hlz,h2,h3.noRec hl⟩
 case assign=>
  intro y W r K hyr hbk hK
  obtain⟨ps,x,fa,fl,fc,pos,why⟩:=y
  simp only [YA.enc]
  have HYR:=zZ hyr
  have HBK:=zZ hbk
  have HK:=zZ hK
  clear hyr hbk hK
  gi_wp2
  have hyr:=zY HYR
  have hbk:=zY HBK
  have hlt1:=(zN.1 hbk.1).1
  have hlt2:=(zN.1 hbk.2).1
  have e1:∀q,q<W.heap.size->(W.alloc (.cells #[.int .i64 x.1,.int .i64 x.2.1,.int .i64 x.2.2.1,.slice fa fl fc] 49)).heap[q]?=W.heap[q]?:=fun q hq=>zR _ _ _ hq
  refine zY HK _ _ ⟨(e1 _ hlt1).trans hbk.1,(e1 _ hlt2).trans hbk.2⟩ ⟨?_,W.heap.size,heap_alloc_new _ _,rfl⟩
  exact hyr.kept (hyr.j.fr.alloc _) e1
 case body=>
  rintro ⟨ps,x,fa,fl,fc,pos,why⟩ b W r ⟨hyr,nb,hnb,rfl⟩ hbk
  obtain⟨v,hv,hins,hv1,hv2,hv3⟩:=hyr.j.box
  obtain⟨va,vc,rfl⟩:=yM hins.row
  have c0:W.cell? ⟨w.heap.size,0,none⟩=some (.slice va ps.length vc):=cell_of_row _ _ 0 _ 44 (0,0) hv
  have z0:=yB hv 0
  have d0:W.cell? ⟨nb,0,none⟩=some (.int .i64 x.1):=cell_of_row _ _ 0 _ 49 (0,0) hnb
  have d1:W.cell? ⟨nb,1,none⟩=some (.int .i64 x.2.1):=cell_of_row _ _ 1 _ 49 (0,0) hnb
  have d2:W.cell? ⟨nb,2,none⟩=some (.int .i64 x.2.2.1):=cell_of_row _ _ 2 _ 49 (0,0) hnb
  have d3:W.cell? ⟨nb,3,none⟩=some (.slice fa fl fc):=cell_of_row _ _ 3 _ 49 (0,0) hnb
  change Code.wpIn (Fence.wide.inRound (W0.heap.size+1)) 3 Tryz.prog _ _ ⟨#[.string s,undef,.slice none 0 0,.int .i64 0,.int .i64 0,.pointer (some ⟨w.heap.size,0,none⟩),.pointer (some ⟨w.heap.size+1,0,none⟩),(.pointer (some ⟨nb,0,none⟩)),undef,undef,.string s,.pointer (some ⟨w.heap.size+1,0,none⟩),.pointer (some ⟨w.heap.size+1,0,none⟩),.func (.func 57) #[] #[.pointer (some ⟨w.heap.size+1+1,0,none⟩)],.agg #[.int .i64 x.1,.int .i64 x.2.1,.int .i64 x.2.2.1,.slice fa fl fc],undef,undef,undef,undef,undef,undef,undef,undef,undef,undef,undef,undef],[]⟩ W
  have HYR:=zZ hyr
  have HBK:=zZ hbk
  have HI:=zZ hins
  have HV:=zZ hv
  clear hyr hbk hins hnb hv
  obtain⟨ei,ez,hei,hez,hesz,heby,hezc⟩:=pB.i
  have hpl:ps.length<=1000000000:=(zY HYR).m
  have hbl:w.heap.size<=W.heap.size:=(zY HYR).j.fr.size
  gi_wp2_with (gi_at_builtin;refine wpListIn_append_own_at _ rfl _ _ 44 rfl w.heap.size 49 ei ez 4 48 Tryz.underlying44 hei hez hesz heby hezc (by decide) (.slice va ps.length vc) ps.length (xS ps) rfl ((zY HI).row.alloc _) ⟨W.heap.size,0,none⟩ 1 1 [.int .i64 x.1,.int .i64 x.2.1,.int .i64 x.2.2.1,.slice fa fl fc] rfl rfl (zI5 _ _ _ _ _ _) (by simp [Value.oneCell']) (small1 hpl) (yN9 hpl) (by simp;omega) ?_;intro v' w1 hown' hgrow _ hat;obtain⟨va',vc',rfl⟩:=yM hown';obtain⟨k1,k2⟩:=zW3 (zY HYR) (zY HV) hgrow)
  have hyr:=zY HYR
  have hbk:=zY HBK
  have hins:=zY HI
  obtain⟨hg1,hg2⟩:=hins.grow x (.slice fa fl fc) hyr.f (fun q hq=>(hyr.n q hq).2.2.2 _ (zY HV)) hown' hgrow hat
  have same:∀q,q<W.heap.size->¬own (.slice va ps.length vc) q->w1.heap[q]?=W.heap[q]?:=fun q hq hn=>(hgrow.block q (by simp;omega) (fun e=>hn e.symm)).trans (zR _ _ _ hq)
  have nocell:∀q o,W.heap[q]?=some o->(∀c,o≠.cells c 49 (0,0))->¬own (.slice va ps.length vc) q:=fun q o h1 h2 h3=>by obtain⟨c,hc⟩:=oU hins.row h3;rw [h1] at hc;injection hc with hc;exact h2 c hc
  have lt:∀{q o},W.heap[q]?=some o->q<W.heap.size:=fun h=>(zN.1 h).1
  have hib:=zY HV
  have ob:w1.heap[w.heap.size]?=some (.cells #[.slice va ps.length vc] 44):=(same _ (lt hib) (nocell _ _ hib (fun c e=>by cases e))).trans hib
  have oth:∀q o,W.heap[q]?=some o->(∀c,o≠.cells c 49 (0,0))->q≠w.heap.size->(w1.setCell ⟨w.heap.size,0,none⟩ (.slice va' (ps.length+1) vc')).heap[q]?=some o:=fun q o h1 h2 h3=>(zQ _ _ _ _ h3).trans ((same q (lt h1) (nocell _ _ h1 h2)).trans h1)
  have inN:∀q,inS (.slice va' (ps.length+1) vc') (ps++[(x,.slice fa fl fc)]) q->q<W.heap.size->¬inS (.slice va ps.length vc) ps q->¬own (.slice fa fl fc) q->False:=fun q hq h1 h2 h3=>by rcases hg2 q hq with h | h | h;exact h2 h;exact h3 h;omega
  refine⟨⟨oth _ _ hbk.1 (fun c e=>by cases e) (fun e=>?_),oth _ _ hbk.2 (fun c e=>by cases e) (fun e=>?_)⟩,⟨?_,⟨_,set3 ob 0 _,?_,?_,?_,?_⟩,hyr.j.ge,hyr.j.ne⟩,⟨oth _ _ hyr.r.v (fun c e=>by cases e) (Ne.symm hyr.j.ne.1),oth _ _ hyr.r.r (fun c e=>by cases e) (Ne.symm hyr.j.ne.2)⟩⟩
  ·have:=hbk.1;rw [e,hib] at this;cases this
  ·have:=hbk.2;rw [e,hib] at this;cases this
  ·exact((hyr.j.fr.alloc _).grown hgrow (fun k hk=>(zS hins.row k hk).1)).setCell _ _ (.inr (Nat.le_refl _))
  ·refine hg1.block (fun q hq=>zQ _ _ _ _ (fun e=>?_))
   exact inN q hq (e▸lt hib) (e▸hv1) (fun h=>(hyr.n q h).1 e)
  ·exact fun hq=>inN _ hq (lt hib) hv1 (fun h=>(hyr.n _ h).1 rfl)
  ·exact fun hq=>inN _ hq (lt hyr.r.v) hv2 (fun h=>(hyr.n _ h).2.1 rfl)
  ·exact fun hq=>inN _ hq (lt hyr.r.r) hv3 (fun h=>(hyr.n _ h).2.2.1 rfl)
 case iter=>
  rintro Bk W1 hB1 hB2 hY hB ⟨o1,o2,rfl⟩
  refine(callsIn_wide (n:=3)).2 ?_
  have e1:∀q,q<W0.heap.size->((W0.alloc o1).alloc o2).heap[q]?=W0.heap[q]?:=fun q hq=>(zR _ _ _ (by simp;omega)).trans (zR _ _ _ hq)
  refine(zL1 (n:=3) hs (fun W hW=>?_) hY _ 0 0 ((zY HR0).block (e1 _ (by have:=zY HZ0;omega)) (e1 _ (by have:=zY HZ0;omega))) ((zY HJ0).block (((zY HF0).alloc o1).alloc o2) (fun q _ hq _ _ _=>e1 q hq)) hB)
  obtain⟨r,hr⟩:=hB1 W hW
  have hz0:=zY HZ0
  exact⟨W0.heap.size,r,by omega,by omega,by omega,hr,fun W' h1 h2=>hB2 W W' hW h1 h2⟩
 case done=>
  rintro W ⟨ps,h1,h2,h3⟩ hD
  obtain⟨v,hv,hins,hv1,hv2,hv3⟩:=h1.box
  obtain⟨va,vc,rfl⟩:=yM hins.row
  have c0:W.cell? ⟨w.heap.size,0,none⟩=some (.slice va ps.length vc):=cell_of_row _ _ 0 _ 44 (0,0) hv
  have H3:=zZ h3
  have H1:=zZ h1
  have HI:=zZ hins
  have HD:=zZ hD
  clear h1 h3 hins hD hv
  go_wp2_with (go_at_call 33;refine(yB2 (zY H3).cells.2.2.1 (zY H3).cells.2.2.2.1).mono ?_;rintro e w' ⟨rfl,rfl⟩)
  have hD:W.drew.heap[W0.heap.size]?=some (.deferred (some [])):=zY HD
  have hins:=zY HI
  have h1:=zY H1
  have hz0:=zY HZ0
  refine⟨by simp,.inl ⟨_,_,rfl,run_takeDeferred hD,?_⟩⟩
  refine⟨.tuple #[.slice va ps.length vc,.int .i64 (yR (bs s)).2.1,.int .i64 (yR (bs s)).2.2],by simp [results,Tryz.results16,go_sem],va,ps.length,vc,ps,rfl,?_,h2,?_⟩
  ·refine hins.block (fun q hq=>World.putObj_heap_other (fun e=>?_))
   obtain⟨c,t,hc⟩:=hins.isCells hq
   have:W.heap[W0.heap.size]?=_:=zY HD
   rw [e,this] at hc;cases hc
  ·have f1:=h1.fr.drew
   exact⟨f1.os,f1.tape,f1.output,by simpa using f1.size,fun k hk hn=>(World.putObj_heap_other (by omega)).trans (f1.same k hk hn),fun _ _ h=>h⟩
end Go.Proofs.YtfmbebofllgmoaaGreatDoor
namespace Go.Proofs.YtfmbebofllgmoaaGreatDoor
open Go.RowKit
attribute [local go_sem ↓] Go.wp_at_zero Go.wp_at_succ
def cR (p:Pg) (f:Int) (y:VL):PS:={(jN p f y).1 with fin:=oB (jN p f y).1.fin (jN p f y).2.1}
def kI:Value:=.agg #[.int .i64 0,.int .i64 0,.int .i64 0,.int .i64 0,.int .i64 0,.int .i64 0,.int .i64 0]
def nD (w:World) (p:Pg) (f:Int) (s:ByteArray) (e:Ending) (w':World):Prop:=
 Fr (fun _=>False) w w' (fun _=>False)/\∃x,Ans p.tn p.fn (1+p.tn+p.fn) (qD p.sn p.tn p.tl p.fl) (qG p.tn p.sf p.tf p.ff) x/\
  (
    (x≠0/\e=.returned (.tuple #[.slice none 0 0,kI,.int .i64 x]))\/
    (x=0/\(yR (bs s)).2.1=0/\e=.returned (.tuple #[.slice none 0 0,kI,.int .i64 5]))\/
    (x=0/\(yR (bs s)).2.1≠0/\∃vt,e=.returned (.tuple #[vt,qJ (cR p f (rdV s)),.int .i64 0])/\w'.ownsRow w.heap.size 72 3 vt (cR p f (rdV s)).trace.length (xZ (cR p f (rdV s)).trace)))
def srcT (rb ch:Nat) (ps:List (Inp×Value)) (q:Nat):Prop:=q=rb\/q=ch\/∃p,p∈ps/\own p.2 q
theorem zX5 {w2 w3:World} {B rb:Nat} {v:Value} {ps:List (Inp×Value)} (h:rX w2 B v ps) (hrb:w2.heap.size<rb) (h1:w3.heap[rb]?=some (.cells #[.chan (some w2.heap.size)] 118)) (h2:yK w3 w2.heap.size (ps.map zB5)) (hf:Fr (fun _=>False) w2 w3 (fun _=>False)) :
  zO4 rb w2.heap.size (srcT rb w2.heap.size ps) w3 ps/\(∀q,srcT rb w2.heap.size ps q->min B w2.heap.size<=q/\q<w3.heap.size):=by
 have hown:∀p,p∈ps->∀q,own p.2 q->B<=q/\q<w2.heap.size:=fun p hp q hq=>zS (h.fl p hp) q hq
 refine⟨⟨h1,h2,by omega,⟨.inl rfl,.inr (.inl rfl)⟩,fun p hp=>pH (h.fl p hp),fun p hp=>?_,fun p hp q hq=>?_,h.dis⟩,?_⟩
 ·exact yN (lQ (h.fl p hp)) (fun q hq=>hf.same q hq.2.2 (fun h=>h)) (fun q hq=>⟨hq.1,.inr (.inr ⟨p,hp,hq.1⟩)⟩)
 ·have:=hown p hp q hq;omega
 ·rintro q (rfl | rfl | ⟨p,hp,hq⟩)
  ·exact⟨by omega,(zN.1 h1).1⟩
  ·exact⟨by omega,h2.lt⟩
  ·have:=hown p hp q hq;have:=hf.size;omega
theorem yL7 (ps:List (Inp×Value)) (hs:∀p,p∈ps->∃a l c,p.2=.slice a l c) (own:Int):∃x vs,ps.map zB5=bG x vs/\(if own=5\/own=6 then own else endX own x)=oB own (ps.map (·.1)):=by
 cases ps with
 | nil=>exact⟨none,[],rfl,by simp [oB,endX]⟩
 | cons p r=>
  obtain⟨a,l,c,e⟩:=hs p (List.mem_cons_self ..)
  refine⟨some (p.1.1,p.1.2.1,p.1.2.2.1,a,l,c),r.map zB5,?_,?_⟩
  ·simp only [bG,List.map_cons,zB5,e]
  ·simp only [oB,endX,List.map_cons]
   split
   ·rfl
   ·by_cases h5:p.1.1=5/\(p.1.2.2.1:Int)=own
    ·rw [if_pos h5,if_pos (by omega)]
    ·rw [if_neg h5,if_neg (by omega)]
theorem zT7 (V:World):V.drew.heap=V.heap:=rfl
theorem yN1 {n1 rb ch B b:Nat} {vt:Value} {pv:Nat->Value} {T S' T':Nat->Prop} {w w3 w4 W7:World} {s':PS} {y':VL} {ps':List (Inp×Value)}
  (hri:RI (RepA rb ch) B S' w4 b pv vt T' s' y') (hsrc:zO4 rb ch T' w4 ps') (hfr:Fr T w3 w4 S') (hf3:Fr (fun _=>False) w w3 (fun _=>False)) (hf6:Fr (fun k=>k=ch) w4 W7 (fun k=>k=ch)) (hS:∀q,q<n1->¬S' q) (hn1:w.heap.size+2<=n1) (hz3:n1<=w3.heap.size) (hz4:w3.heap.size<=w4.heap.size) (hT:∀q,T q->n1<=q) :
  Fr (fun _=>False) w W7 (fun _=>False)/\W7.ownsRow w.heap.size 72 3 vt s'.trace.length (xZ s'.trace)/\(∀q,own vt q->q≠w.heap.size+1):=by
 have hch:n1<=ch:=by
  rcases Nat.lt_or_ge ch n1 with h | h
  ·exact absurd (hri.inT ch hsrc.inT.2).1 (hS ch h)
  ·exact h
 have hvt:∀q,own vt q->n1<=q/\q≠ch/\q<w4.heap.size:=by
  intro q hq
  obtain⟨h1,_,h3⟩:=hri.inV q hq
  refine⟨?_,fun e=>h3 (e▸hsrc.inT.2),(hri.bound q h1).2⟩
  rcases Nat.lt_or_ge q n1 with h | h
  ·exact absurd h1 (hS q h)
  ·exact h
 refine⟨⟨hf6.os.trans (hfr.os.trans hf3.os),hf6.tape.trans (hfr.tape.trans hf3.tape),hf6.output.trans (hfr.output.trans hf3.output),Nat.le_trans hf3.size (Nat.le_trans hfr.size hf6.size),fun k hk _=>?_,fun _ _ h=>h⟩,?_,fun q hq=>by have:=hvt q hq;omega⟩
 ·have hk3:k<w3.heap.size:=zT hk hf3.size
  exact(hf6.same k (by omega) (by omega)).trans ((hfr.same k hk3 (fun h=>by have:=hT k h;omega)).trans (hf3.same k hk (fun h=>h)))
 ·have h5:=yA (w':=W7) hri.row (fun q hq=>hf6.same q (hvt q hq).2.2 (hvt q hq).2.1)
  refine⟨h5.1,?_⟩
  rcases h5.2 with h | ⟨g,cap,cur,e1,e2,r⟩
  ·exact .inl h
  ·exact .inr ⟨g,cap,cur,e1,by have:=hvt g (by rw [e1];rfl);omega,r⟩
theorem zM9 {w w0:World} (hbel:Below w0.heap.size w0 w) (htab:pV w) {p1 p2 p3:Value} {p:Pg} (hv:oI w0 (oQ p1 p2 p3 undef) p) (f:Int) (s:ByteArray) (hs:s.size<=1000000000) (hcnt:(yR (bs s)).1.length<=2000000) :
  Calls Tryz.prog 15 #[.agg #[p1,p2,p3],.string s,.int .i64 f] w (nD w p f s):=by
 have hB2:Below w.heap.size w ((w.alloc (.cells #[p1,p2,p3] 33)).alloc (.cells #[.int .i64 0,.int .i64 0,.int .i64 0,.int .i64 0,.int .i64 0,.int .i64 0,.int .i64 0] 37)):=bl2 _ _
 have hw0:w0.heap.size<=w.heap.size:=hbel.size
 have hck:=eZ p1 p2 p3 p.sn p.tn p.fn p.sf p.tl p.fl p.tf p.ff _ (uG hB2 (mU htab) htab) (yQ hB2 (yQ hbel hv.s)) (yI hB2 (yI hbel hv.t)) (yI hB2 (yI hbel hv.f))
 have HCK:=zZ hck
 clear hck
 generalize hR:nD w p f s=R
 have HR:=zZ hR
 clear hR
 have t0:((w.alloc (.cells #[p1,p2,p3] 33)).alloc (.cells #[.int .i64 0,.int .i64 0,.int .i64 0,.int .i64 0,.int .i64 0,.int .i64 0,.int .i64 0] 37)).heap[w.heap.size]?=some (.cells #[p1,p2,p3] 33):=(zR _ _ _ (by simp)).trans (heap_alloc_new _ _)
 have t1:((w.alloc (.cells #[p1,p2,p3] 33)).alloc (.cells #[.int .i64 0,.int .i64 0,.int .i64 0,.int .i64 0,.int .i64 0,.int .i64 0,.int .i64 0] 37)).heap[w.heap.size+1]?=some (.cells #[.int .i64 0,.int .i64 0,.int .i64 0,.int .i64 0,.int .i64 0,.int .i64 0,.int .i64 0] 37):=by
  have:=heap_alloc_new (w.alloc (.cells #[p1,p2,p3] 33)) (.cells #[.int .i64 0,.int .i64 0,.int .i64 0,.int .i64 0,.int .i64 0,.int .i64 0,.int .i64 0] 37)
  rwa [show (w.alloc (.cells #[p1,p2,p3] 33)).heap.size=w.heap.size+1 by simp] at this
 have hsz2:((w.alloc (.cells #[p1,p2,p3] 33)).alloc (.cells #[.int .i64 0,.int .i64 0,.int .i64 0,.int .i64 0,.int .i64 0,.int .i64 0,.int .i64 0] 37)).heap.size=w.heap.size+2:=by simp
 have T0:=zZ t0
 have T1:=zZ t1
 have HSZ:=zZ hsz2
 have HB2:=zZ hB2
 clear t0 t1 hsz2 hB2
 go_enter Tryz.func15,Tryz.ntmps15
 go_wp2_with fail
 go_at_call 27
 refine(zY HCK).mono ?_
 rintro e w1 ⟨x,rfl,hx,hb1⟩
 have hsz2:=zY HSZ
 have b33:=(hb1.block w.heap.size (by omega)).trans (zY T0)
 have b37:=(hb1.block (w.heap.size+1) (by omega)).trans (zY T1)
 have hz1:w.heap.size+2<=w1.heap.size:=by rw [<-hsz2];exact hb1.size
 have hf1:Fr (fun _=>False) w w1 (fun _=>False):=(Fr.of_below (zY HB2)).trans (Fr.of_below hb1)
 have c33:=fun j=>cell_of_row w1 w.heap.size j _ 33 (0,0) b33
 have c37:=fun j=>cell_of_row w1 (w.heap.size+1) j _ 37 (0,0) b37
 have z37:=fun j=>yB b37 j
 have B33:=zZ b33
 have B37:=zZ b37
 have HX:=zZ hx
 have HF1:=zZ hf1
 clear hsz2 b33 b37 hb1 hx hf1 HCK HB2 T0 T1 HSZ
 by_cases hx0:x=0
 ·subst hx0
  have H16:=zZ (yF9 s (by omega) w1)
  go_wp2_with fail
  go_at_call 16
  refine(zY H16).mono ?_
  rintro e w2 ⟨va,vn,vc,ps,rfl,hins,hps,fr2⟩
  have hf2:=(zY HF1).trans fr2
  have HF2:=zZ hf2
  have b37:=(fr2.same (w.heap.size+1) (by omega) (fun h=>h)).trans (zY B37)
  have b33:=(fr2.same w.heap.size (by omega) (fun h=>h)).trans (zY B33)
  have hz2:w1.heap.size<=w2.heap.size:=fr2.size
  have B33':=zZ b33
  have B37':=zZ b37
  have d37:=fun j=>cell_of_row w2 (w.heap.size+1) j _ 37 (0,0) b37
  have y37:=fun j=>yB b37 j
  have HINS:=zZ hins
  clear hf2 fr2 b37 b33 hins H16 c37 z37
  have hlen:ps.length=(yR (bs s)).1.length:=by rw [<-hps,List.length_map]
  have yC4:=hcnt
  have hinb:=fun q hq=>(zY HINS).lt (q:=q) (.inr hq)
  by_cases hat:(yR (bs s)).2.1=0
  ·have hatb:(((yR (bs s)).2.1:Int)==0)=true:=by simp [hat]
   go_wp2
   have g0:=fun j=>cell_of_row _ _ j _ 37 (0,0) (eY (zY B37') (.int .i64 0) (.int .i64 0) (.int .i64 0) (.int .i64 0) (.int .i64 0) (.int .i64 0) (.int .i64 0))
   refine bodyPost_ret (v:=.tuple #[.slice none 0 0,kI,.int .i64 5]) (by simp [results,Tryz.results15,go_sem,g0,kI]) rfl ?_
   rw [<-zY HR]
   exact⟨jL (zY HF2) (.inr (by omega)) _ _ _ _ _ _ _,0,zY HX,.inr (.inl ⟨rfl,hat,rfl⟩)⟩
  have hatb:(((yR (bs s)).2.1:Int)==0)=false:=by simp [hat]
  have H28:=zZ (yE6 (zY HINS) (by omega))
  go_wp2_with fail
  go_at_call 28
  refine(zY H28).mono ?_
  rintro e w3 ⟨rb,rfl,hrb,k1,k2,fr3⟩
  obtain⟨hra,hrT⟩:=zX5 (zY HINS) hrb k1 k2 fr3
  have hf3:=(zY HF2).trans fr3
  have hz3:w2.heap.size<=w3.heap.size:=fr3.size
  have b33:=(fr3.same w.heap.size (by omega) (fun h=>h)).trans (zY B33')
  have b37:=(fr3.same (w.heap.size+1) (by omega) (fun h=>h)).trans (zY B37')
  have d33:=fun j=>cell_of_row w3 w.heap.size j _ 33 (0,0) b33
  have hbel3:Below w0.heap.size w0 w3:=hbel.trans (hf3.below (B:=w0.heap.size) (fun k hk=>hk.elim) hw0)
  have h29:=zQ8 (yG2 rb w2.heap.size) (zX3 (may:=aS) rb w2.heap.size) lL iJ (w0:=w0) (B:=w0.heap.size) (T:=srcT rb w2.heap.size ps) rfl hbel3 (fun k hk=>by have:=hrT k hk;omega) (x:=rdV s) ⟨ps,hra,hps⟩ p1 p2 p3 (p:=p) ⟨hv.s,hv.t,hv.f⟩ (tN (zY HX)) f (by show (yR (bs s)).1.length<=5000000;omega)
  have H29:=zZ h29
  have HB37:=zZ b37
  have HF3:=zZ hf3
  have HRT:=zZ hrT
  clear h29 b37 b33 hf3 hrT hra k1 k2 fr3 hbel3 H28 d37 y37 c33
  go_wp2_with fail
  go_at_call 29
  refine(zY H29).mono ?_
  rintro e w4 ⟨vt,s',S',T',b,rfl,hs',hri,hfr⟩
  change s'=(jN p f (rdV s)).1 at hs'
  change RI _ _ S' w4 b _ vt T' s' (jN p f (rdV s)).2 at hri
  have hrep:cR p f (rdV s)={s' with fin:=oB s'.fin (jN p f (rdV s)).2.1}:=by unfold cR;rw [hs']
  have hpost:nD w p f s=fun e w'=>Fr (fun _=>False) w w' (fun _=>False)/\∃x,Ans p.tn p.fn (1+p.tn+p.fn) (qD p.sn p.tn p.tl p.fl) (qG p.tn p.sf p.tf p.ff) x/\
    (
      (x≠0/\e=.returned (.tuple #[.slice none 0 0,kI,.int .i64 x]))\/
      (x=0/\(yR (bs s)).2.1=0/\e=.returned (.tuple #[.slice none 0 0,kI,.int .i64 5]))\/
      (x=0/\(yR (bs s)).2.1≠0/\∃vt,e=.returned (.tuple #[vt,qJ {s' with fin:=oB s'.fin (jN p f (rdV s)).2.1},.int .i64 0])/\w'.ownsRow w.heap.size 72 3 vt s'.trace.length (xZ s'.trace))):=by
   unfold nD;rw [hrep]
  rw [hpost] at HR
  clear hpost hs' hrep
  generalize (jN p f (rdV s)).2=y' at *
  obtain⟨ps',hsrc,hy'⟩:=hri.src
  have hz4:w3.heap.size<=w4.heap.size:=hfr.size
  have hTw:∀q,srcT rb w2.heap.size ps q->w1.heap.size<=q:=fun q hq=>by have:=zY HRT q hq;omega
  have hSw:∀q,q<w1.heap.size->¬S' q:=fun q h1 h2=>by have:=hTw q (hfr.old q (by omega) h2);omega
  have b37:w4.heap[w.heap.size+1]?=some (.cells #[.int .i64 0,.int .i64 0,.int .i64 0,.int .i64 0,.int .i64 0,.int .i64 0,.int .i64 0] 37):=(hfr.same _ (by omega) (fun h=>by have:=hTw _ h;omega)).trans (zY HB37)
  obtain⟨nx,nvs,hnx,hend⟩:=yL7 ps' hsrc.sh s'.fin
  have hchlt:w2.heap.size<w4.heap.size:=hsrc.c.lt
  have hrblt:rb<w4.heap.size:=(zN.1 hsrc.r).1
  have hz37:w.heap.size+1<w4.heap.size:=(zN.1 b37).1
  have hne5:w.heap.size+1≠w4.heap.size:=by omega
  have hne5':¬w4.heap.size=w.heap.size+1:=by omega
  have h30:=yK4 (w:=w4.alloc (.cells #[.int .i64 s'.fin,.int .i64 (s'.reg 0),.int .i64 (s'.reg 1),.int .i64 (s'.reg 2),.int .i64 (s'.reg 3),.int .i64 s'.clock,.int .i64 s'.heard] 37)) (rb:=rb) (ch:=w2.heap.size)
   (cell_of_row _ _ 0 _ 118 (0,0) ((zR _ _ _ hrblt).trans hsrc.r)) s'.fin nx nvs ((show yK w4 w2.heap.size (bG nx nvs) from hnx▸hsrc.c).block (zR _ _ _ hchlt))
  rw [hend,hy'] at h30
  have hv4:=fun j=>cell_of_row (w4.alloc (.cells #[.int .i64 s'.fin,.int .i64 (s'.reg 0),.int .i64 (s'.reg 1),.int .i64 (s'.reg 2),.int .i64 (s'.reg 3),.int .i64 s'.clock,.int .i64 s'.heard] 37)) w4.heap.size j _ 37 (0,0) (heap_alloc_new _ _)
  generalize hE:oB s'.fin y'.1=E at *
  have H30:=zZ h30
  have HRI:=zZ hri
  have HFR:=zZ hfr
  have HSRC:=zZ hsrc
  have HB:=zZ b37
  have HSW:=zZ hSw
  have HTW:=zZ hTw
  clear h30 hri hfr hsrc b37 H29 hnx hend hy' hE hSw hTw d33
  go_wp2_with (go_at_call 30;refine(zY H30).mono ?_;rintro e w6 ⟨rfl,f6⟩;have q1:=(f6.same (w.heap.size+1) (by simp;omega) (by omega)).trans ((zR _ _ _ hz37).trans (zY HB));have q2:=(f6.same w4.heap.size (by simp) (by omega)).trans (heap_alloc_new w4 _);have u2:=fun j=>cell_of_row w6 _ j _ 37 (0,0) q2;have uf2:=fun j=>yB q2 j;have F6:=zZ f6;have Q1:=zZ q1;have Q2:=zZ q2;clear f6 q1 q2)
  have p1':(w6.setCell ⟨w4.heap.size,0,none⟩ (.int .i64 E)).heap[w.heap.size+1]?=some (.cells #[.int .i64 0,.int .i64 0,.int .i64 0,.int .i64 0,.int .i64 0,.int .i64 0,.int .i64 0] 37):=(zQ _ _ _ _ hne5).trans (zY Q1)
  have p2':(w6.setCell ⟨w4.heap.size,0,none⟩ (.int .i64 E)).heap[w4.heap.size]?=some (.cells #[.int .i64 E,.int .i64 (s'.reg 0),.int .i64 (s'.reg 1),.int .i64 (s'.reg 2),.int .i64 (s'.reg 3),.int .i64 s'.clock,.int .i64 s'.heard] 37):=set3 (zY Q2) 0 _
  have hf6:Fr (fun k=>k=w2.heap.size) w4 (w6.setCell ⟨w4.heap.size,0,none⟩ (.int .i64 E)) (fun k=>k=w2.heap.size):=(Fr.unalloc (zY F6)).setCell _ _ (.inr (Nat.le_refl _))
  generalize hW7:w6.setCell ⟨w4.heap.size,0,none⟩ (.int .i64 E)=W7 at *
  clear hW7
  have v1:=fun j=>cell_of_row W7 _ j _ 37 (0,0) p1'
  have v2:=fun j=>cell_of_row W7 _ j _ 37 (0,0) p2'
  have vz:=fun j=>yB p1' j
  have P1:=zZ p1'
  have HF6:=zZ hf6
  clear p1' p2' hf6 u2 uf2 Q1 Q2 F6 hv4
  go_region
  all_goals
   go_wp2
   have g0:=fun j=>cell_of_row _ _ j _ 37 (0,0) (eY (zY P1) (.int .i64 E) (.int .i64 (s'.reg 0)) (.int .i64 (s'.reg 1)) (.int .i64 (s'.reg 2)) (.int .i64 (s'.reg 3)) (.int .i64 s'.clock) (.int .i64 s'.heard))
   refine bodyPost_ret (v:=.tuple #[vt,qJ {s' with fin:=E},.int .i64 0]) (by simp [results,Tryz.results15,go_sem,g0,qJ]) rfl ?_
   rw [<-zY HR]
   obtain⟨g1,g2⟩:=yN1 (zY HRI) (zY HSRC) (zY HFR) (zY HF3) (zY HF6) (zY HSW) hz1 (by omega) hz4 (zY HTW)
   refine⟨(jL g1 (.inr (by omega)) _ _ _ _ _ _ _).drew,0,zY HX,.inr (.inr ⟨rfl,hat,vt,rfl,?_⟩)⟩
   refine yA g2.1 (fun q hq=>?_)
   have hq':=g2.2 q hq
   rw [zT7,zQ _ _ _ _ hq',zQ _ _ _ _ hq',zQ _ _ _ _ hq',zQ _ _ _ _ hq',zQ _ _ _ _ hq',zQ _ _ _ _ hq',zQ _ _ _ _ hq']
 ·have hxb:(x==0)=false:=by simpa using hx0
  go_wp2
  have g0:=fun j=>cell_of_row _ _ j _ 37 (0,0) (eY (zY B37) (.int .i64 0) (.int .i64 0) (.int .i64 0) (.int .i64 0) (.int .i64 0) (.int .i64 0) (.int .i64 0))
  refine bodyPost_ret (v:=.tuple #[.slice none 0 0,kI,.int .i64 x]) (by simp [results,Tryz.results15,go_sem,g0,kI]) rfl ?_
  rw [<-zY HR]
  exact⟨jL (zY HF1) (.inr (by omega)) _ _ _ _ _ _ _,x,zY HX,.inl ⟨hx0,rfl⟩⟩
theorem yK5 (xs:List Inp) (h:∀x,x∈xs->Fit x/\x.1≠5):(frs xs).length<=15*xs.length:=by
 induction xs with
 | nil=>simp [frs]
 | cons x r ih=>
  have h1:=oK (h x (List.mem_cons_self ..)).1
  have h2:=ih (fun y hy=>h y (List.mem_cons_of_mem _ hy))
  have e:(frs (x::r)).length=(frL x).length+(frs r).length:=by simp [frs]
  have e2:(frL x).length=(xH x).length+5:=gV x
  rw [e,List.length_cons]
  omega
