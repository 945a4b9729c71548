/-
  PROVED HERE: fireDue lets the timers that are due go off as t
-/
import Derived.Laws.StructEq
import Derived.Test.YtfmbebofllgmoaaGreatDoorSreplaysai
import Derived.Test.YtfmbebofllgmoaaGreatDoorSreplaysaj
set_option maxHeartbeats 4000000
namespace Go.Proofs.YtfmbebofllgmoaaGreatDoor
open Go.RowKit Go.Sort
attribute [local go_sem ↓] Go.wp_at_zero Go.wp_at_succ
theorem neqTim (a0 b0:Bool) (a1 a2 a3 b1 b2 b3:Int) (w:World):(binOp .neq 126 (.agg #[.bool a0,.int .i64 a1,.int .i64 a2,.int .i64 a3]) (.agg #[.bool b0,.int .i64 b1,.int .i64 b2,.int .i64 b3])).run Tryz.prog w=.ok (.bool (!decide ((a0,a1,a2,a3)=(b0,b1,b2,b3)))) w:=by
 have u3:=Tryz.underlying3
 have a3':=Tryz.isAgg3
 have z3:=Tryz.sizeOf3
 have u4:=Tryz.underlying4
 have a4':=Tryz.isAgg4
 have z4:=Tryz.sizeOf4
 have hS:Tryz.prog.underlying 126=some (.struct (Tryz.prog.fieldsOf 126)):=by kernel_rfl
 have hp:Tryz.prog.stoodInHeld 126=false:=by kernel_rfl
 rw [run_neq_struct,show (10000:Nat)=9999+1 from rfl,run_equalIn_agg w 9999 126 _ _ hS hp]
 simp only [Program.fieldsOf,Tryz.underlying126]
 go_simp
 by_cases h0:a0=b0<;>by_cases h1:a1=b1<;>by_cases h2:a2=b2<;>by_cases h3:a3=b3<;>simp [h0,h1,h2,h3]
theorem yB9:Tryz.prog.eqGuardType Tryz.prog.depth 126=false:=by kernel_rfl
section
variable {σ:Type} {SA:(Nat->Prop)->World->σ->Prop} {ask:σ->Int->Int->Rep×σ} {may:Int->Int->Prop} {B:Nat} {S T:Nat->Prop} {w:World} {b:Nat} {pv:Nat->Value} {vt:Value} {s:PS} {x:σ}
def qO (s:PS) (z:Int):PS:={s with tim:=upd s.tim z.toNat (false,(s.tim z.toNat).2),trace:=s.trace++[(1,z,0)]}
def frM (g:Int->PS->σ->PS×σ):List TM->PS->σ->PS×σ
 | [],s,x=>(s,x)
 | t::r,s,x=>if s.fin≠0 then (s,x) else if s.tim t.2.2.2.toNat=t then frM g r (g t.2.2.2 (qO s t.2.2.2) x).1 (g t.2.2.2 (qO s t.2.2.2) x).2 else frM g r s x
theorem lM {nt nf:Nat} (h:vU nt nf s) {t:TM} (ht:t∈xW s):0<=t.2.2.2/\t.2.2.2<nt:=by
 have hp:=(insertionSort_holds (lt:=ltOf cfT) swoT (vP s 8).toArray 0 (vP s 8).toArray.size (Nat.zero_le _) (Nat.le_refl _)).1
 change t∈(Sort.insertionSort (ltOf cfT) (vP s 8).toArray 0 (vP s 8).toArray.size).toList at ht
 generalize Sort.insertionSort (ltOf cfT) (vP s 8).toArray 0 (vP s 8).toArray.size=d at *
 have h1:=hp.2.2
 have hz:=hp.1
 have h2:t∈vP s 8:=by
  have e:d.extract 0 (vP s 8).toArray.size=d:=by rw [<-hz];simp
  rw [e] at h1
  have:=h1.mem_iff.1 ht
  simpa using this
 unfold vP at h2
 rw [List.mem_filter] at h2
 obtain⟨h3,h4⟩:=h2
 obtain⟨i,_,rfl⟩:=List.mem_map.1 h3
 have h5:(s.tim i).1=true:=by simp at h4;exact h4.1
 obtain⟨h6,h7⟩:=h.num i h5
 omega
theorem eD {nt nf:Nat} (z:Int) (h:vU nt nf s):vU nt nf (qO s z):=by
 have hne:∀i,((qO s z).tim i).1=true->(qO s z).tim i=s.tim i:=fun i e=>by
  by_cases e':i=z.toNat
  ·subst e';simp [qO,upd] at e
  ·simp [qO,upd,e']
 refine⟨h.wat,?_,?_,?_⟩
 ·intro i hi;have h0:=hne i hi;rw [h0] at hi ⊢;exact h.num i hi
 ·intro i hi;have h0:=hne i hi;rw [h0] at hi ⊢;exact h.arm i hi
 ·intro i j hi hj he
  have h0:=hne i hi
  have h1:=hne j hj
  rw [h0] at hi he
  rw [h1] at hj he
  exact h.uni i j hi hj he
theorem box4' (w:World) (p:Bool) (x y z:Int):(w.alloc (.cells #[.bool p,.int .i64 x,.int .i64 y,.int .i64 z] 126)).cell? ⟨w.heap.size,0,none⟩=some (.bool p)/\
  (w.alloc (.cells #[.bool p,.int .i64 x,.int .i64 y,.int .i64 z] 126)).cell? ⟨w.heap.size,1,none⟩=some (.int .i64 x)/\
  (w.alloc (.cells #[.bool p,.int .i64 x,.int .i64 y,.int .i64 z] 126)).cell? ⟨w.heap.size,2,none⟩=some (.int .i64 y)/\
  (w.alloc (.cells #[.bool p,.int .i64 x,.int .i64 y,.int .i64 z] 126)).cell? ⟨w.heap.size,3,none⟩=some (.int .i64 z):=box4 w p x y z 0
theorem RI.timc (h:RI SA B S w b pv vt T s x) (i:Nat) (hi:i<8) {t0:Bool} {t1 t2 t3:Int} (ht:s.tim i=(t0,t1,t2,t3)):w.cell? ⟨b,23+i*4,none⟩=some (.bool t0)/\w.cell? ⟨b,23+i*4+1,none⟩=some (.int .i64 t1)/\w.cell? ⟨b,23+i*4+2,none⟩=some (.int .i64 t2)/\w.cell? ⟨b,23+i*4+3,none⟩=some (.int .i64 t3):=by
 refine⟨?_,?_,?_,?_⟩
 ·have:=h.cell (23+i*4+0) (by omega);rw [rD _ _ _ _ _ hi (by omega),ht] at this;exact this
 ·have:=h.cell (23+i*4+1) (by omega);rw [rD _ _ _ _ _ hi (by omega),ht] at this;exact this
 ·have:=h.cell (23+i*4+2) (by omega);rw [rD _ _ _ _ _ hi (by omega),ht] at this;exact this
 ·have:=h.cell (23+i*4+3) (by omega);rw [rD _ _ _ _ _ hi (by omega),ht] at this;exact this
theorem yA5 {W1 w5:World} {S' S5:Nat->Prop} {n o q:Nat} {v:Value} (f5:Fr S' ((W1.drewN n).setCell ⟨b,o,none⟩ v) w5 S5) (hs:q<W1.heap.size) (hS:¬S' q) (hne:b≠q) (j:Nat):w5.cell? ⟨q,j,none⟩=W1.cell? ⟨q,j,none⟩:=by
 have h1:((W1.drewN n).setCell ⟨b,o,none⟩ v).heap.size=W1.heap.size:=by simp [World.setCell,World.drewN]
 rw [f5.cell q j (by rw [h1];exact hs) hS,zV _ _ _ _ (by intro e;injection e;omega)]
 rfl
def FRel (SA:(Nat->Prop)->World->σ->Prop) (B:Nat) (S:Nat->Prop) (w:World) (b:Nat) (pv:Nat->Value) (g:Int->PS->σ->PS×σ) (nt nf N:Nat) (l:List TM) (fin:PS×σ) (i:Value) (wr:World):Prop:=
 ∃k S' vt' T' s' x',k<=l.length/\i=.int .i64 (k:Nat)/\RI SA B S' wr b pv vt' T' s' x'/\Fr S w wr S'/\frM g (l.drop k) s' x'=fin/\uN N s'/\s'.trace.length+s'.fuel.toNat+(l.length-k)<=N/\vU nt nf s'
theorem zD4 (L:xC SA) {rb tyS fnS:Nat} (K:uE SA ask may B rb tyS fnS) (hp:pv 3=.iface tyS (.pointer (some ⟨rb,0,none⟩))) (hm:may 1 0) (hm4:∀v,1<=v->v<=1000000->may 4 v) (hk:nA ask)
  {w0:World} (hB:B=w0.heap.size) (hbel:Below w0.heap.size w0 w) (h:RI SA B S w b pv vt T s x) {N nt nf:Nat} {fl:Nat->Nat} {ff:Nat->Nat->O3} (hv:yV w0 (pv 1) nt fl ff) (hn:∀i,i<nt->fl i<=32) (hnt:nt<=8) (hnf:nf<=8) (hr:∀i,i<nt->∀j,j<fl i->rt (ff i j) nt nf=true)
  (hq:uN N s) (hN:N+8<=100000000) (hw:vU nt nf s) :
  Calls Tryz.prog 96 #[.pointer (some ⟨b,0,none⟩)] w fun e w'=>e=.returned (.tuple #[])/\
   pU SA B S w b pv (frM (fun z s x=>hM ask (ff z.toNat) (fl z.toNat) (fl z.toNat) {s with next:=0} x) (xW s) s x).1 (frM (fun z s x=>hM ask (ff z.toNat) (fl z.toNat) (fl z.toNat) {s with next:=0} x) (xW s) s x).2 w':=by
 have hc:=yK3 L h
 have hmem:=fun t (ht:t∈xW s)=>lM hw ht
 have hlen:(xW s).length<=8:=by
  have:=pY (vP s 8).toArray
  have:=pW s 8
  unfold xW
  simp at *
  omega
 generalize xW s=l at *
 generalize hfin:frM (fun z s x=>hM ask (ff z.toNat) (fl z.toNat) (fl z.toNat) {s with next:=0} x) l s x=fin
 have HC:=zZ hc
 have HFIN:=zZ hfin
 have HSB:=zZ (fun k (hk:S k)=>(h.bound k hk).1)
 have HBW:=zZ (show B<=w.heap.size by have:=h.bound b h.inB;omega)
 have HBEL:=zZ hbel
 have HBE:=zZ hB
 have HV:=zZ hv
 have HR:=zZ hr
 have HN:=zZ hn
 have HQ:=zZ hq
 have HW:=zZ hw
 have HM:=zZ hmem
 clear hc h hbel hB hv hr hn hq hw hmem hfin
 go_enter Tryz.func96,Tryz.ntmps96
 go_wp2_with (go_at_call 116;refine(zY HC).mono ?_;rintro e w1 ⟨v1,rfl,⟨la,lc,rfl,hcell⟩,r1,r2⟩;have R1:=zZ r1;have R2:=zZ r2;have HCE:=zZ hcell;clear r1 r2 hcell)
 go_loopw [7] (fun i wr=>FRel SA B S w1 b pv (fun z s x=>hM ask (ff z.toNat) (fl z.toNat) (fl z.toNat) {s with next:=0} x) nt nf (N+8) l fin i wr) (fun i _=>l.length-(intOf i).toNat)
 case atStart=>
  have hq:=zY HQ
  have:=hq.trace
  exact⟨0,S,vt,T,s,x,Nat.zero_le _,rfl,zY R1,Fr.refl S w1,zY HFIN,⟨hq.fuel,hq.clock,hq.armings,by omega⟩,by omega,zY HW⟩
 case round=>
  obtain⟨k,S',vt',T',s',x',hkl,rfl,q1,q2,hfin,hq,htr,hw⟩:=hrel
  have c66:=(q1.cell 66 (by omega)).trans (by rw [tU])
  by_cases hlt:k<l.length
  ·rcases zY HCE with h0 | ⟨g,rfl,⟨g1,g2,g3⟩,hcell⟩
   ·rw [h0] at hlt;simp at hlt
   have hc0:=(q2.cell g (k*4) g2 g3).trans (hcell k hlt 0 (by omega))
   have hc1:=(q2.cell g (k*4+1) g2 g3).trans (hcell k hlt 1 (by omega))
   have hc2:=(q2.cell g (k*4+2) g2 g3).trans (hcell k hlt 2 (by omega))
   have hc3:=(q2.cell g (k*4+3) g2 g3).trans (hcell k hlt 3 (by omega))
   have hget:l.getD k (false,0,0,0)=l[k]:=by simp [List.getD,hlt]
   have hdrop:l.drop k=l[k]::l.drop (k+1):=by rw [List.drop_eq_getElem_cons hlt]
   have hmk:=zY HM l[k] (List.getElem_mem hlt)
   rw [hget] at hc0 hc1 hc2 hc3
   rw [hdrop] at hfin
   generalize l[k]=t at *
   obtain⟨t0,t1,t2,z⟩:=t
   simp only [mA,if_true,if_false,Nat.succ_ne_self,Nat.reduceEqDiff] at hc0 hc1 hc2 hc3 hmk
   simp only [frM] at hfin
   obtain⟨z0,z8⟩:=hmk
   clear hcell hget hdrop
   by_cases hfi:s'.fin=0
   ·rw [if_neg (by simp [hfi])] at hfin
    have hfb:(s'.fin==0)=true:=by simpa using hfi
    have hbw:=(q1.bound b q1.inB).2
    generalize hti:s'.tim z.toNat=a at *
    obtain⟨a0,a1,a2,a3⟩:=a
    have q1':=q1.alloc L (.cells #[.bool t0,.int .i64 t1,.int .i64 t2,.int .i64 z] 126)
    have q2':=q2.alloc (.cells #[.bool t0,.int .i64 t1,.int .i64 t2,.int .i64 z] 126)
    obtain⟨d0,d1,d2,d3⟩:=q1'.timc z.toNat (by omega) hti
    have d66:=(q1'.cell 66 (by omega)).trans (by rw [tU])
    obtain⟨e0,e1,e2,e3⟩:=box4' wr t0 t1 t2 z
    have hnq:=neqTim a0 t0 a1 a2 a3 t1 t2 z
    have hgd:=yB9
    have hSw:¬S' wr.heap.size:=fun hs=>by have:=(q1.bound _ hs).2;omega
    have hszW:wr.heap.size<(wr.alloc (.cells #[.bool t0,.int .i64 t1,.int .i64 t2,.int .i64 z] 126)).heap.size:=by simp
    generalize hW1:wr.alloc (.cells #[.bool t0,.int .i64 t1,.int .i64 t2,.int .i64 z] 126)=W1 at *
    have HW1:=zZ hW1
    have Q1:=zZ q1'
    have Q2:=zZ q2'
    clear q1 q2 q1' q2' hW1
    have z8':z<8:=by omega
    by_cases hsame:(a0,a1,a2,a3)=(t0,t1,t2,z)
    ·rw [if_pos hsame] at hfin
     simp only [Prod.mk.injEq] at hsame
     obtain⟨rfl,rfl,rfl,rfl⟩:=hsame
     have hdec:(!decide ((a0,a1,a2,a3)=(a0,a1,a2,a3)))=false:=by simp
     rw [hdec] at hnq
     have hznt:a3.toNat<nt:=by omega
     obtain⟨ha,hcap,hpv,_,hh⟩:=zY HV
     rcases hh with hh | ⟨hb,hoff,rfl,hh⟩
     ·omega
     obtain⟨vi,hvi,hops⟩:=hh a3.toNat hznt
     have hhb:hb<w0.heap.size:=zU w0 _ hvi
     have HVI:=zZ hvi
     have HOPS:=zZ hops
     have HPV:=zZ hpv
     have HTI:=zZ hti
     have HSM:Hid (fL s'.trace.length):=zZ (by unfold fL;omega)
     have hSb:S b\/w1.heap.size<=b:=by
      by_cases hs:S b
      ·exact .inl hs
      ·exact .inr (Nat.le_of_not_lt fun hl=>hs ((zY Q2).old b hl (zY Q1).inB))
     have hN5:N+8-(l.length-(k+1))<=100000000:=by omega
     have HQ5:Hid (uN (N+8-(l.length-(k+1))) (qO s' a3)):=zZ ⟨hq.fuel,hq.clock,hq.armings,by show (s'.trace++[(1,a3,0)]).length+s'.fuel.toNat<=_;rw [List.length_append];simp only [List.length_cons,List.length_nil];omega⟩
     have fz:=(zY Q1).free (23+a3.toNat*4) (by omega)
     have E:=zZ hfin
     have HQ':=zZ hq
     have HT:=zZ htr
     have HW':=zZ hw
     clear hfin hq htr hw hdec hh hvi hops hpv hti
     generalize s'.fin=fi at *
     go_wp2
     rw [zY HW1]
     go_quiet (fail)
     go_wp2
     go_region
     go_wp2_with (go_at_call 114;refine(dR L (((zY Q1).drewN L (nq+1)).set L (23+a3.toNat*4) (.bool false) _ (by omega) (bM pv vt' s' a3.toNat false (by omega)) rfl) 1 a3 0 (zY HSM)).mono ?_;rintro e w5 ⟨rfl,S5,vt5,r5,f5⟩;have cb:=(yA5 f5 hszW hSw (by omega) 3).trans e3;have fr5:=(((zY Q2).drewN (nq+1)).setCell ⟨b,23+a3.toNat*4,none⟩ (.bool false) hSb).trans f5;have bel:=qZ (zY HBEL) (zY HBE) (zY HSB) (zY HBW) ((zY R2).trans fr5);have cvi:=(bel.cell (p:=⟨hb,hoff+a3.toNat,none⟩) hhb).trans (zY HVI);have BEL:=zZ (qZ (zY HBEL) (zY HBE) (zY HSB) (zY HBW) ((zY R2).trans fr5.drew));clear bel;have c1:=(r5.cell 1 (by omega)).trans (by rw [kP _ _ _ _ (by omega),zY HPV]);have R5:=zZ (r5.drew L);have F5:=zZ fr5.drew;have hbw5:=(r5.bound b r5.inB).2;clear r5 f5 fr5)
     clear e0 e1 e2 e3 d0 d1 d2 d3 hc0 hc1 hc2 hc3
     go_region_with (go_at_call 54;refine(kO L K hp hm hm4 hk (zY HBE) (zY BEL) (zY R5) (zY HOPS) (zY HN _ hznt) hnt hnf (zY HR _ hznt) (zY HQ5) hN5).mono ?_;rintro e w6 ⟨rfl,S6,vt6,T6,r6,f6⟩;have R6:=zZ r6;have F6:=zZ f6;clear r6 f6)
     all_goals
      go_wp2
      go_roundw
      case rel=>
       have hq5:=zY HQ5
       have hi:=aJ hk (N:=N+8-(l.length-(k+1))) (n:=fl a3.toNat) (f:=ff a3.toNat) (fl a3.toNat) {qO s' a3 with next:=0} x' ⟨hq5.fuel,hq5.clock,hq5.armings,hq5.trace⟩
       have ht:=hi.trace
       exact⟨k+1,S6,vt6,T6,_,_,hlt,by go_num,zY R6,(zY F5).trans (zY F6),zY E,⟨hi.fuel,hi.clock,hi.armings,Nat.le_trans ht (Nat.sub_le _ _)⟩,Nat.le_trans (Nat.add_le_add_right ht _) (by omega),nN (zY HR _ hznt) _ _ _ (Int.le_refl 0) ((eD a3 (zY HW')).of rfl rfl rfl)⟩
      case measure=>simp [intOf];omega
    ·rw [if_neg hsame] at hfin
     have hdec:(!decide ((a0,a1,a2,a3)=(t0,t1,t2,z)))=true:=by simp only [hsame];rfl
     rw [hdec] at hnq
     have E:=zZ hfin
     have HQ':=zZ hq
     have HT:=zZ htr
     have HW':=zZ hw
     clear hfin hq htr hw hdec
     generalize s'.fin=fi at *
     go_wp2
     rw [zY HW1]
     go_quiet (fail)
     go_wp2
     go_roundw
     case rel=>
      have hq:=zY HQ'
      have htr:=zY HT
      exact⟨k+1,S',vt',T',s',x',hlt,by go_num,(zY Q1).drewN L nq,(zY Q2).drewN nq,zY E,hq,by omega,zY HW'⟩
     case measure=>simp [intOf];omega
   ·rw [if_pos hfi] at hfin
    have hfb:(s'.fin==0)=false:=by simpa using hfi
    have E:=zZ hfin
    have Q1:=zZ q1
    have Q2:=zZ q2
    have hbw:=(q1.bound b q1.inB).2
    obtain⟨n1,n2⟩:=uL hbw
    clear q1 q2 hfin hq htr hw hfi
    generalize s'.fin=fi at *
    go_wp2
    refine bodyPost_ret (v:=.tuple #[]) (by simp [results,Tryz.results96,go_sem]) rfl ?_
    rw [<-zY E]
    exact⟨rfl,S',vt',T',(zY Q1).alloc L _,(zY R2).trans ((zY Q2).alloc _)⟩
  ·have e:l.drop k=[]:=List.drop_of_length_le (by omega)
   rw [e] at hfin
   have E:=zZ (show (s',x')=fin from hfin)
   have Q1:=zZ q1
   have Q2:=zZ q2
   clear q1 q2 hfin hq htr hw e
   generalize s'.fin=fi at *
   go_wp2
   go_end0
   rw [<-zY E]
   exact⟨rfl,S',vt',T',zY Q1,(zY R2).trans (zY Q2)⟩
end
end Go.Proofs.YtfmbebofllgmoaaGreatDoor
namespace Go.Proofs.YtfmbebofllgmoaaGreatDoor
open Go.RowKit Go.Sort
structure Pg where
 sn:Nat
 sf:Nat->O3
 tn:Nat
 tl:Nat->Nat
 tf:Nat->Nat->O3
 fn:Nat
 fl:Nat->Nat
 ff:Nat->Nat->O3
structure tY (p:Pg):Prop where
 tn:p.tn<=8
 fn:p.fn<=8
 sl:p.sn<=32
 tl:∀i,i<p.tn->p.tl i<=32
 fl:∀i,i<p.fn->p.fl i<=32
 sr:∀j,j<p.sn->rt (p.sf j) p.tn p.fn=true
 tr:∀i,i<p.tn->∀j,j<p.tl i->rt (p.tf i j) p.tn p.fn=true
 fr:∀i,i<p.fn->∀j,j<p.fl i->rt (p.ff i j) p.tn p.fn=true
section
variable {σ:Type} {ask:σ->Int->Int->Rep×σ}
def gT (ask:σ->Int->Int->Rep×σ) (p:Pg) (z:Int) (s:PS) (x:σ):PS×σ:=hM ask (p.tf z.toNat) (p.tl z.toNat) (p.tl z.toNat) {s with next:=0} x
def gF (ask:σ->Int->Int->Rep×σ) (p:Pg) (z:Int) (s:PS) (x:σ):PS×σ:=hM ask (p.ff z.toNat) (p.fl z.toNat) (p.fl z.toNat) {s with next:=0} x
def tQ (ask:σ->Int->Int->Rep×σ) (p:Pg) (s:PS) (x:σ):PS×σ:=
 if (ask x 2 0).1.e=0 then wkM ask (gF ask p) 8 ((ask x 2 0).1.files.filter fun z=>s.wat z.toNat) {s with heard:=wrap64 (s.heard+1)} (ask x 2 0).2 else ({s with fin:=(ask x 2 0).1.e},(ask x 2 0).2)
def xM (ask:σ->Int->Int->Rep×σ) (p:Pg) (s:PS) (x:σ):PS×σ:=
 if qF s then ({s with fin:=2},x)
 else if ckB s (ask x 1 0).1 then
  (
    if (frM (gT ask p) (xW (ckS s (ask x 1 0).1)) (ckS s (ask x 1 0).1) (ask x 1 0).2).1.fin=0 then tQ ask p (frM (gT ask p) (xW (ckS s (ask x 1 0).1)) (ckS s (ask x 1 0).1) (ask x 1 0).2).1 (frM (gT ask p) (xW (ckS s (ask x 1 0).1)) (ckS s (ask x 1 0).1) (ask x 1 0).2).2
    else frM (gT ask p) (xW (ckS s (ask x 1 0).1)) (ckS s (ask x 1 0).1) (ask x 1 0).2)
 else (ckS s (ask x 1 0).1,(ask x 1 0).2)
def xF (ask:σ->Int->Int->Rep×σ) (p:Pg):Nat->PS->σ->PS×σ
 | 0,s,x=>(s,x)
 | k+1,s,x=>if s.fin=0 then xF ask p k (xM ask p s x).1 (xM ask p s x).2 else (s,x)
structure uF (ask:σ->Int->Int->Rep×σ) (mes:σ->Nat):Prop where
 le:∀x k o,mes (ask x k o).2<=mes x
 lt:∀x,(ask x 1 0).1.e=0->mes (ask x 1 0).2<mes x
 clock:nA ask
 pick:zH7 ask
 files:∀x z,z∈(ask x 2 0).1.files->0<=z/\z<8
 most:∀x,(ask x 2 0).1.files.length<=8
variable {mes:σ->Nat}
theorem yM0 (h:uF ask mes) (o:O3) (s:PS) (x:σ):mes (opM ask o s x).2<=mes x:=by
 unfold opM
 have h1:=h.le x 1 0
 have h4:=h.le x 4 o.2.2
 have h0:=Nat.le_refl (mes x)
 exact yD (P:=fun q:PS×σ=>mes q.2<=mes x) h0 (yD (P:=fun q:PS×σ=>mes q.2<=mes x) h0 (yD (P:=fun q:PS×σ=>mes q.2<=mes x) h0 (yD (P:=fun q:PS×σ=>mes q.2<=mes x) h0 (yD (P:=fun q:PS×σ=>mes q.2<=mes x) h0 (yD (P:=fun q:PS×σ=>mes q.2<=mes x) h0 (yD (P:=fun q:PS×σ=>mes q.2<=mes x) h1 (yD (P:=fun q:PS×σ=>mes q.2<=mes x) h4 (yD (P:=fun q:PS×σ=>mes q.2<=mes x) h0 (yD (P:=fun q:PS×σ=>mes q.2<=mes x) h0 h0)))))))))
theorem iD (h:uF ask mes) {f:Nat->O3} {n:Nat}:∀(k:Nat) (s:PS) (x:σ),mes (hM ask f n k s x).2<=mes x
 | 0,_,_=>Nat.le_refl _
 | k+1,s,x=>by
  unfold hM
  by_cases hc:s.next<n/\s.fin=0
  ·rw [if_pos hc]
   by_cases hf:s.fuel=0
   ·rw [if_pos hf];exact Nat.le_refl _
   ·rw [if_neg hf];exact Nat.le_trans (iD h k _ _) (yM0 h _ _ _)
  ·rw [if_neg hc];exact Nat.le_refl _
theorem aF (h:uF ask mes) (p:Pg):∀(l:List TM) (s:PS) (x:σ),mes (frM (gT ask p) l s x).2<=mes x
 | [],_,_=>Nat.le_refl _
 | t::r,s,x=>by
  unfold frM
  refine yD (P:=fun q:PS×σ=>mes q.2<=mes x) (Nat.le_refl _) (yD (P:=fun q:PS×σ=>mes q.2<=mes x) ?_ (aF h p r s x))
  exact Nat.le_trans (aF h p r _ _) (iD h _ _ _)
theorem pk_mes (h:uF ask mes) (n:Nat) (s:PS) (x:σ):mes (pk ask n s x).2.2.2<=mes x:=by
 unfold pk
 exact yD (P:=fun q:Int×Bool×PS×σ=>mes q.2.2.2<=mes x) (Nat.le_refl _) (h.le x 3 n)
theorem yO4 (h:uF ask mes) (p:Pg) (z:Int) (s:PS) (x:σ):mes (wk1 (gF ask p) z s x).2<=mes x:=by
 unfold wk1
 exact yD (P:=fun q:PS×σ=>mes q.2<=mes x) (iD h _ _ _) (Nat.le_refl _)
theorem zR9 (h:uF ask mes) (p:Pg):∀(k:Nat) (l:List Int) (s:PS) (x:σ),mes (wkM ask (gF ask p) k l s x).2<=mes x
 | 0,_,_,_=>Nat.le_refl _
 | k+1,l,s,x=>by
  have h1:=pk_mes h l.length s x
  unfold wkM
  refine yD (P:=fun q:PS×σ=>mes q.2<=mes x) (Nat.le_refl _) (yD (P:=fun q:PS×σ=>mes q.2<=mes x) ?_ h1)
  exact Nat.le_trans (zR9 h p k _ _ _) (Nat.le_trans (yO4 h p _ _ _) h1)
theorem zY8 (h:uF ask mes) (p:Pg) (s:PS) (x:σ):mes (tQ ask p s x).2<=mes x:=by
 unfold tQ
 exact yD (P:=fun q:PS×σ=>mes q.2<=mes x) (Nat.le_trans (zR9 h p _ _ _ _) (h.le x 2 0)) (h.le x 2 0)
theorem iP (h:uF ask mes) (p:Pg) (s:PS) (x:σ):(xM ask p s x).1.fin≠0\/mes (xM ask p s x).2<mes x:=by
 unfold xM
 by_cases hi:qF s=true
 ·rw [if_pos hi];exact .inl (by show (2:Int)≠0;omega)
 rw [if_neg hi]
 by_cases hc:ckB s (ask x 1 0).1=true
 ·rw [if_pos hc]
  have he:(ask x 1 0).1.e=0:=by unfold ckB at hc;simp at hc;exact hc.1
  have h1:=h.lt x he
  refine .inr ?_
  have h2:=aF h p (xW (ckS s (ask x 1 0).1)) (ckS s (ask x 1 0).1) (ask x 1 0).2
  refine yD (P:=fun q:PS×σ=>mes q.2<mes x) ?_ (by omega)
  have h3:=zY8 h p (frM (gT ask p) (xW (ckS s (ask x 1 0).1)) (ckS s (ask x 1 0).1) (ask x 1 0).2).1 (frM (gT ask p) (xW (ckS s (ask x 1 0).1)) (ckS s (ask x 1 0).1) (ask x 1 0).2).2
  omega
 ·rw [if_neg hc]
  refine .inl ?_
  show (ckS s (ask x 1 0).1).fin≠0
  unfold ckS
  by_cases he:(ask x 1 0).1.e=0
  ·rw [if_pos he]
   have hlt:(ask x 1 0).1.n<s.clock:=by unfold ckB at hc;simp [he] at hc;exact hc
   rw [if_pos hlt]
   show (4:Int)≠0
   omega
  ·rw [if_neg he];exact he
def vH (p:Pg) (N:Nat) (s:PS):Prop:=uN N s/\vU p.tn p.fn s
theorem uN.mono {N N':Nat} {s:PS} (h:uN N s) (hN:N<=N'):uN N' s:=⟨h.fuel,h.clock,h.armings,Nat.le_trans h.trace hN⟩
theorem vH.mono {p:Pg} {N N':Nat} {s:PS} (h:vH p N s) (hN:N<=N'):vH p N' s:=⟨h.1.mono hN,h.2⟩
theorem rT (hs:uF ask mes) {p:Pg} {N n:Nat} {f:Nat->O3} (hr:∀i,i<n->rt (f i) p.tn p.fn=true) (s:PS) (x:σ) (h:vH p N s):vH p N (hM ask f n n {s with next:=0} x).1:=
 ⟨aJ hs.clock _ _ _ ⟨h.1.fuel,h.1.clock,h.1.armings,h.1.trace⟩,nN hr _ _ _ (Int.le_refl 0) (h.2.of rfl rfl rfl)⟩
theorem qV {p:Pg} {N:Nat} {s:PS} {o:O3} (h:vH p N s):vH p (N+1) {s with trace:=s.trace++[o]}:=by
 have h1:=h.1.trace
 exact⟨⟨h.1.fuel,h.1.clock,h.1.armings,by show (s.trace++[o]).length+s.fuel.toNat<=N+1;rw [List.length_append];simp only [List.length_cons,List.length_nil];omega⟩,h.2.of rfl rfl rfl⟩
theorem zF1 {p:Pg} {N:Nat} {s:PS} (z:Int) (h:vH p N s):vH p (N+1) (qO s z):=by
 have h1:=qV (o:=(1,z,0)) h
 exact⟨⟨h1.1.fuel,h1.1.clock,h1.1.armings,h1.1.trace⟩,eD z h.2⟩
theorem mK (hs:uF ask mes) {p:Pg} (hp:tY p):∀(l:List TM) (N:Nat) (s:PS) (x:σ),(∀t,t∈l->0<=t.2.2.2/\t.2.2.2<p.tn)->vH p N s->vH p (N+l.length) (frM (gT ask p) l s x).1
 | [],_,_,_,_,h=>h
 | t::r,N,s,x,hl,h=>by
  unfold frM
  have h1:=hl t (List.mem_cons_self ..)
  have hr:=fun t ht=>hl t (List.mem_cons_of_mem _ ht)
  refine yD (P:=fun q:PS×σ=>vH p (N+(t::r).length) q.1) (h.mono (Nat.le_add_right _ _)) (yD (P:=fun q:PS×σ=>vH p (N+(t::r).length) q.1) ?_ ?_)
  ·have h2:=mK hs hp r (N+1) _ (gT ask p t.2.2.2 (qO s t.2.2.2) x).2 hr (rT hs (hp.tr t.2.2.2.toNat (by omega)) _ x (zF1 t.2.2.2 h))
   exact h2.mono (by simp;omega)
  ·exact(mK hs hp r N s x hr h).mono (by simp)
theorem yM5 {p:Pg} {N:Nat} {s:PS} (n:Nat) (x:σ) (h:vH p N s):vH p N (pk ask n s x).2.2.1:=by
 obtain⟨p1,p2,p3,p4,p5,p6⟩:=fA (ask:=ask) n s x
 exact⟨h.1.of p1 p2 p3 p4,h.2.of p5 p6 p3⟩
theorem yI2 (hs:uF ask mes) {p:Pg} (hp:tY p) {N:Nat} {s:PS} (z:Int) (x:σ) (h:vH p N s):vH p (N+1) (wk1 (gF ask p) z s x).1:=by
 unfold wk1
 by_cases hw:s.wat z.toNat=true
 ·rw [if_pos hw];exact rT hs (hp.fr z.toNat (h.2.wat _ hw)) _ x (qV h)
 ·rw [if_neg hw];exact h.mono (Nat.le_add_right _ _)
theorem zH4 (hs:uF ask mes) {p:Pg} (hp:tY p):∀(k:Nat) (N:Nat) (l:List Int) (s:PS) (x:σ),vH p N s->vH p (N+k) (wkM ask (gF ask p) k l s x).1
 | 0,_,_,_,_,h=>h
 | k+1,N,l,s,x,h=>by
  unfold wkM
  have h1:=yM5 (ask:=ask) l.length x h
  refine yD (P:=fun q:PS×σ=>vH p (N+(k+1)) q.1) (h.mono (Nat.le_add_right _ _)) (yD (P:=fun q:PS×σ=>vH p (N+(k+1)) q.1) ?_ (h1.mono (Nat.le_add_right _ _)))
  exact(zH4 hs hp k (N+1) _ _ _ (yI2 hs hp _ _ h1)).mono (by omega)
theorem zO0 (hs:uF ask mes) {p:Pg} (hp:tY p) {N:Nat} {s:PS} (x:σ) (h:vH p N s):vH p (N+8) (tQ ask p s x).1:=by
 unfold tQ
 refine yD (P:=fun q:PS×σ=>vH p (N+8) q.1) (zH4 hs hp 8 N _ _ _ ⟨h.1.of rfl rfl rfl rfl,h.2.of rfl rfl rfl⟩) ?_
 exact⟨(h.1.mono (Nat.le_add_right N 8)).of rfl rfl rfl rfl,h.2.of rfl rfl rfl⟩
theorem fR (hs:uF ask mes) {p:Pg} {N:Nat} {s:PS} (x:σ) (h:vH p N s):vH p N (ckS s (ask x 1 0).1):=by
 refine⟨?_,jA h.2 _⟩
 unfold ckS
 by_cases e:(ask x 1 0).1.e=0
 ·rw [if_pos e]
  exact yD (P:=uN N) ⟨h.1.fuel,h.1.clock,h.1.armings,h.1.trace⟩ ⟨h.1.fuel,hs.clock x e,h.1.armings,h.1.trace⟩
 ·rw [if_neg e];exact⟨h.1.fuel,h.1.clock,h.1.armings,h.1.trace⟩
theorem nM (s:PS):(xW s).length<=8:=by
 have:=pY (vP s 8).toArray
 have:=pW s 8
 unfold xW
 simp at *
 omega
theorem kT (hs:uF ask mes) {p:Pg} (hp:tY p) {N:Nat} {s:PS} (x:σ) (h:vH p N s):vH p (N+16) (xM ask p s x).1:=by
 have hc:=fR hs x h
 unfold xM
 refine yD (P:=fun q:PS×σ=>vH p (N+16) q.1) ?_ (yD (P:=fun q:PS×σ=>vH p (N+16) q.1) ?_ (hc.mono (Nat.le_add_right _ _)))
 ·exact⟨(h.1.mono (Nat.le_add_right N 16)).of rfl rfl rfl rfl,h.2.of rfl rfl rfl⟩
 ·have h1:=(mK hs hp (xW (ckS s (ask x 1 0).1)) N _ (ask x 1 0).2 (fun t ht=>lM hc.2 ht) hc).mono (show N+(xW (ckS s (ask x 1 0).1)).length<=N+8 by have:=nM (ckS s (ask x 1 0).1);omega)
  exact yD (P:=fun q:PS×σ=>vH p (N+16) q.1) ((zO0 hs hp _ h1).mono (by omega)) (h1.mono (by omega))
end
end Go.Proofs.YtfmbebofllgmoaaGreatDoor
namespace Go.Proofs.YtfmbebofllgmoaaGreatDoor
open Go.RowKit Go.Sort
attribute [local go_sem ↓] Go.wp_at_zero Go.wp_at_succ
structure pT (may:Int->Int->Prop):Prop where
 clock:may 1 0
 batch:may 2 0
 pick:∀n:Nat,2<=n->n<=8->may 3 n
 lot:∀v,1<=v->v<=1000000->may 4 v
structure oI (w0:World) (pv:Nat->Value) (p:Pg):Prop where
 s:vQ w0 (pv 0) p.sn p.sf
 t:yV w0 (pv 1) p.tn p.tl p.tf
 f:yV w0 (pv 2) p.fn p.fl p.ff
section
variable {σ:Type} {SA:(Nat->Prop)->World->σ->Prop} {ask:σ->Int->Int->Rep×σ} {may:Int->Int->Prop} {mes:σ->Nat} {B:Nat} {S T:Nat->Prop} {w:World} {b:Nat} {pv:Nat->Value} {vt:Value} {s:PS} {x:σ}
theorem yH7 (L:xC SA) {rb tyS fnS:Nat} (K:uE SA ask may B rb tyS fnS) (hp:pv 3=.iface tyS (.pointer (some ⟨rb,0,none⟩))) (hm:pT may) (hs:uF ask mes)
  {w0:World} (hB:B=w0.heap.size) (hbel:Below w0.heap.size w0 w) (h:RI SA B S w b pv vt T s x) {p:Pg} (hv:oI w0 pv p) (ho:tY p) {N:Nat} (hq:vH p N s) (hN:N+16<=100000000) :
  Calls Tryz.prog 55 #[.pointer (some ⟨b,0,none⟩)] w fun e w'=>e=.returned (.tuple #[])/\pU SA B S w b pv (xM ask p s x).1 (xM ask p s x).2 w':=by
 have HSB:=zZ (fun k (hk:S k)=>(h.bound k hk).1)
 have HBW:=zZ (show B<=w.heap.size by have:=h.bound b h.inB;omega)
 have hid:=zZ (yC5 L h)
 have hb0:=(h.bound b h.inB).2
 have HIN:=zZ h.inB
 have hck:=fun (w1:World) (r:RI SA B S w1 b pv vt T s x)=>kE L K hp r hm.clock
 have HCK:=zZ hck
 have HQ1:=zZ (fR hs x hq)
 clear hck h
 cases hi:qF s
 ·have e0:xM ask p s x=if ckB s (ask x 1 0).1 then
    (
      if (frM (gT ask p) (xW (ckS s (ask x 1 0).1)) (ckS s (ask x 1 0).1) (ask x 1 0).2).1.fin=0 then tQ ask p (frM (gT ask p) (xW (ckS s (ask x 1 0).1)) (ckS s (ask x 1 0).1) (ask x 1 0).2).1 (frM (gT ask p) (xW (ckS s (ask x 1 0).1)) (ckS s (ask x 1 0).1) (ask x 1 0).2).2
      else frM (gT ask p) (xW (ckS s (ask x 1 0).1)) (ckS s (ask x 1 0).1) (ask x 1 0).2)
   else (ckS s (ask x 1 0).1,(ask x 1 0).2):=by unfold xM;rw [if_neg (by rw [hi];simp)]
  rw [e0]
  rw [hi] at hid
  clear e0 hi
  generalize ckS s (ask x 1 0).1=s1 at *
  generalize (ask x 1 0).2=x1 at *
  cases hcb:ckB s (ask x 1 0).1
  ·rw [hcb] at HCK
   clear hcb
   rw [if_neg (by simp)]
   go_enter Tryz.func55,Tryz.ntmps55
   go_wp2_with (first | (go_at_call 94;refine(zY hid).mono ?_;rintro e w1 ⟨rfl,r1,r2⟩;have R1:=zZ r1;have R2:=zZ r2;clear r1 r2) | (go_at_call 95;refine(zY HCK _ (zY R1)).mono ?_;rintro e w2 ⟨rfl,S2,vt2,T2,r3,r4⟩;have R3:=zZ r3;have R4:=zZ r4;clear r3 r4))
   refine bodyPost_ret (v:=.tuple #[]) (by simp [results,Tryz.results55,go_sem]) rfl ?_
   exact⟨rfl,S2,vt2,T2,zY R3,(zY R2).trans (zY R4)⟩
  ·rw [hcb] at HCK
   clear hcb
   rw [if_pos rfl]
   have hfr:=zZ (mK hs ho (xW s1) N s1 x1 (fun t ht=>lM (zY HQ1).2 ht) (zY HQ1))
   have hdl:=nM s1
   generalize hF:frM (gT ask p) (xW s1) s1 x1=F at *
   have HF:=zZ hF
   clear hF
   obtain⟨s2,x2⟩:=F
   simp only at hfr ⊢
   by_cases hf0:s2.fin=0
   ·rw [if_pos hf0]
    have hfb:(s2.fin==0)=true:=by simpa using hf0
    clear hf0
    go_enter Tryz.func55,Tryz.ntmps55
    go_wp2_with (first | (go_at_call 94;refine(zY hid).mono ?_;rintro e w1 ⟨rfl,r1,r2⟩;have R1:=zZ r1;have R2:=zZ r2;clear r1 r2) | (go_at_call 95;refine(zY HCK _ (zY R1)).mono ?_;rintro e w2 ⟨rfl,S2,vt2,T2,r3,r4⟩;have R3:=zZ r3;have R4:=zZ ((zY R2).trans r4);clear r3 r4) | (go_at_call 96;refine(zD4 L K hp hm.clock hm.lot hs.clock hB (qZ hbel hB (zY HSB) (zY HBW) (zY R4)) (zY R3) hv.t ho.tl ho.tn ho.fn ho.tr (zY HQ1).1 (by omega) (zY HQ1).2).mono ?_;rintro e w3 ⟨rfl,S3,vt3,T3,r5,r6⟩;rw [show frM (fun z s x=>hM ask (p.tf z.toNat) (p.tl z.toNat) (p.tl z.toNat) {s with next:=0} x) (xW s1) s1 x1=(s2,x2) from zY HF] at r5;have c66:=(r5.cell 66 (by omega)).trans (by rw [tU]);have R5:=zZ r5;have R6:=zZ ((zY R4).trans r6);clear r5 r6) | (go_at_call 97;refine(yI0 L K hp hm.clock hm.batch hm.pick hm.lot hs.clock hs.pick hB (qZ hbel hB (zY HSB) (zY HBW) (zY R6)) (zY R5) hv.f ho.fl ho.tn ho.fn ho.fr (zY hfr).1 (by omega) (zY hfr).2 (hs.files x2) (hs.most x2)).mono ?_;rintro e w4 ⟨rfl,S4,vt4,T4,r7,r8⟩;have R7:=zZ r7;have R8:=zZ ((zY R6).trans r8);clear r7 r8))
    go_end0
    exact⟨rfl,S4,vt4,T4,zY R7,zY R8⟩
   ·rw [if_neg hf0]
    have hfb:(s2.fin==0)=false:=by simpa using hf0
    clear hf0
    go_enter Tryz.func55,Tryz.ntmps55
    go_wp2_with (first | (go_at_call 94;refine(zY hid).mono ?_;rintro e w1 ⟨rfl,r1,r2⟩;have R1:=zZ r1;have R2:=zZ r2;clear r1 r2) | (go_at_call 95;refine(zY HCK _ (zY R1)).mono ?_;rintro e w2 ⟨rfl,S2,vt2,T2,r3,r4⟩;have R3:=zZ r3;have R4:=zZ ((zY R2).trans r4);clear r3 r4) | (go_at_call 96;refine(zD4 L K hp hm.clock hm.lot hs.clock hB (qZ hbel hB (zY HSB) (zY HBW) (zY R4)) (zY R3) hv.t ho.tl ho.tn ho.fn ho.tr (zY HQ1).1 (by omega) (zY HQ1).2).mono ?_;rintro e w3 ⟨rfl,S3,vt3,T3,r5,r6⟩;rw [show frM (fun z s x=>hM ask (p.tf z.toNat) (p.tl z.toNat) (p.tl z.toNat) {s with next:=0} x) (xW s1) s1 x1=(s2,x2) from zY HF] at r5;have c66:=(r5.cell 66 (by omega)).trans (by rw [tU]);have R5:=zZ r5;have R6:=zZ ((zY R4).trans r6);clear r5 r6))
    refine bodyPost_ret (v:=.tuple #[]) (by simp [results,Tryz.results55,go_sem]) rfl ?_
    exact⟨rfl,S3,vt3,T3,zY R5,zY R6⟩
 ·have e0:xM ask p s x=({s with fin:=2},x):=by unfold xM;rw [if_pos hi]
  rw [e0]
  rw [hi] at hid
  clear e0 hi
  go_enter Tryz.func55,Tryz.ntmps55
  go_wp2_with (go_at_call 94;refine(zY hid).mono ?_;rintro e w1 ⟨rfl,r1,r2⟩;have c66:=r1.cell 66 (by omega);have f66:=r1.free 66 (by omega);have R1:=zZ r1;have R2:=zZ r2;generalize img pv vt s 66=old at c66;clear r1 r2)
  refine bodyPost_ret (v:=.tuple #[]) (by simp [results,Tryz.results55,go_sem]) rfl ?_
  exact⟨rfl,S,vt,T,(zY R1).set L 66 (.int .i64 2) _ (by omega) (jQ pv vt _ 2) rfl,(zY R2).setCell _ _ (.inl (zY HIN))⟩
end
