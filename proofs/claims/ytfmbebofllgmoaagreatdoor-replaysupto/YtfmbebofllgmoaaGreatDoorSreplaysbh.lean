/-
  PROVED HERE: the document's handler runs a handler as the mod
-/
import Derived.Test.YtfmbebofllgmoaaGreatDoorSreplaysbf
set_option maxHeartbeats 8000000
set_option maxRecDepth 20000
namespace Go.Proofs.YtfmbebofllgmoaaGreatDoor
open Go.RowKit
attribute [local go_sem ↓] Go.wp_at_zero Go.wp_at_succ
section
variable {σ:Type} {SQ:(Nat->Value)->(Nat->Prop)->World->σ->Prop} {ask:σ->Int->Int->Rep×σ} {may:Int->Int->Prop} {B:Nat} {S T:Nat->Prop} {w:World} {b:Nat} {pv:Nat->Value} {vt va:Value} {s:PS} {A:List AT} {tn sq:Int} {x:σ}
def QRel (SQ:(Nat->Value)->(Nat->Prop)->World->σ->Prop) (ask:σ->Int->Int->Rep×σ) (B:Nat) (S:Nat->Prop) (w:World) (b:Nat) (pv:Nat->Value) (tn sq:Int) (f:Nat->O3) (n N:Nat) (fin:PS×σ) (k:Nat) (u:Value) (wr:World):Prop:=
 ∃S' pv' vt' va' T' A' s' x',LQ SQ B S' wr b pv' vt' va' T' s' A' tn sq x'/\(∀i,i<3->pv' i=pv i)/\Fr S w wr S'/\hM ask f n k s' x'=fin/\uN N s'/\0<=s'.next/\s'.next<=40/\n<=s'.next.toNat+k/\u=.int .i64 s'.next
theorem xY {w2:World} {S2 T2:Nat->Prop} {pv2:Nat->Value} {vt2 va2:Value} {A2:List AT} {s2:PS} {x2:σ} {f:Nat->O3} {n N k':Nat} {fin:PS×σ} {nx:Int} {u:Value} (p1:LQ SQ B S2 w2 b pv2 vt2 va2 T2 s2 A2 tn sq x2) (p0:∀i,i<3->pv2 i=pv i) (p2:Fr S w w2 S2) (e:fin=hM ask f n k' s2 x2) (q:uN N s2)
  (hu:u=.int .i64 s2.next) (hx:s2.next=nx+1\/s2.next=nx+1+1) (h0:0<=nx) (h1:nx<n) (hn:n<=32) (h7:n<=nx.toNat+(k'+1)):QRel SQ ask B S w b pv tn sq f n N fin k' u w2:=
 ⟨S2,pv2,vt2,va2,T2,A2,s2,x2,p1,p0,p2,e.symm,q,by omega,by omega,by omega,hu⟩
theorem tS (L:sW SQ B) (K:fH SQ ask may B) (hm:may 1 0) (hm4:∀v,1<=v->v<=1000000->may 4 v) (hk:nA ask)
  {w0:World} (hB:B=w0.heap.size) (hbel:Below w0.heap.size w0 w) (h:LQ SQ B S w b pv vt va T s A tn sq x) {v:Value} {n N nt nf:Nat} {f:Nat->O3} (hv:vQ w0 v n f) (hn:n<=32) (hnt:nt<=8) (hnf:nf<=8) (hr:∀i,i<n->rt (f i) nt nf=true) (hq:uN N s) (hN:N<=100000000) :
  Calls Tryz.prog 125 #[.pointer (some ⟨b,0,none⟩),v] w fun e w'=>e=.returned (.tuple #[])/\fJ SQ B S w b pv tn sq (hM ask f n n {s with next:=0} x).1 (hM ask f n n {s with next:=0} x).2 w':=by
 obtain⟨va0,vc0,rfl,vl,hf⟩:=hv
 have h0:LQ SQ B S w b pv vt va T {s with next:=0} A tn sq x:=⟨h.bound,h.cells,h.row,h.arow,h.rel.of rfl rfl,h.src,h.hc,h.inB,h.inV,h.inA,h.inT⟩
 have r0:QRel SQ ask B S w b pv tn sq f n N (hM ask f n n {s with next:=0} x) n (.int .i64 0) w:=
  ⟨S,pv,vt,va,T,A,_,x,h0,fun _ _=>rfl,Fr.refl S w,rfl,⟨hq.fuel,hq.clock,hq.armings,hq.trace⟩,Int.le_refl 0,by show (0:Int)<=40;omega,by simp,rfl⟩
 have hSB:∀k,S k->B<=k:=fun k hk=>(h.bound k hk).1
 have hBw:B<=w.heap.size:=h.below
 generalize hM ask f n n {s with next:=0} x=fin at *
 have HF:=zZ hf
 have HR:=zZ hr
 have R0:=zZ r0
 have HSB:=zZ hSB
 have HBW:=zZ hBw
 have HBEL:=zZ hbel
 have HBE:=zZ hB
 clear h h0 hf hr r0 hq hSB hBw hbel hB
 go_enter Tryz.func125,Tryz.ntmps125
 go_wp2
 go_loopg [4] n (fun k u wr=>QRel SQ ask B S w b pv tn sq f n N fin k u wr)
 case atStart=>exact zY R0
 case round=>
  obtain⟨S',pv',vt',va',T',A',s',x',q1,q0,q2,q3,q4,q5,q6,q7,rfl⟩:=hrel
  have c27:=(q1.cell 27 (by omega)).trans (by rw [xE])
  have c25:=(q1.cell 25 (by omega)).trans (by rw [lK])
  have f25:=q1.free 25 (by omega)
  have f27:=q1.free 27 (by omega)
  have hbr:=q1.blt
  have hSb:S b\/w.heap.size<=b:=by
   by_cases hs:S b
   ·exact .inl hs
   ·exact .inr (Nat.le_of_not_lt fun hl=>hs (q2.old b hl q1.inB))
  have HSb:=zZ hSb
  by_cases hlt:s'.next<n
  ·by_cases hfi:s'.fin=0
   ·obtain⟨k',rfl⟩ : ∃k',gk=k'+1:=⟨gk-1,by omega⟩
    have hu:hM ask f n (k'+1) s' x'=if s'.fuel=0 then ({s' with fin:=3},x') else hM ask f n k' (opM ask (f s'.next.toNat) {s' with fuel:=s'.fuel-1,next:=s'.next+1} x').1 (opM ask (f s'.next.toNat) {s' with fuel:=s'.fuel-1,next:=s'.next+1} x').2:=by
     simp only [hM];rw [if_pos ⟨hlt,hfi⟩]
    have hfb:(s'.fin==0)=true:=by simpa using hfi
    by_cases hfu:s'.fuel=0
    ·rw [if_pos hfu] at hu
     have q:=q1.set L 27 (.int .i64 3) {s' with fin:=3} (by omega) (rZ 3) rfl (q1.rel.of rfl rfl) rfl
     have hub:(s'.fuel==0)=true:=by simpa using hfu
     have Q1:=zZ q
     have Q2:=zZ (q2.setCell ⟨b,27,none⟩ (.int .i64 3) hSb)
     have E:=zZ (q3.symm.trans hu)
     have Q0:=zZ q0
     have e1:(0:Int)<=s'.next:=q5
     have e2:s'.next<(n:Int):=hlt
     clear q q1 q2 q3 q4 hu hfi hfu q0 hSb
     generalize s'.next=nx at *
     generalize s'.fin=fi at *
     generalize s'.fuel=fu at *
     go_wp2
     refine bodyPost_ret (v:=.tuple #[]) (by simp [results,Tryz.results125,go_sem]) rfl ?_
     rw [zY E]
     exact⟨rfl,S',pv',vt',va',T',A',zY Q1,zY Q0,zY Q2⟩
    ·rw [if_neg hfu] at hu
     have hub:(s'.fuel==0)=false:=by simpa using hfu
     rcases zY HF with hz | ⟨ob,off,rfl,hf⟩
     ·omega
     have hi:s'.next.toNat<n:=by omega
     have hbw:Below w0.heap.size w0 wr:=(zY HBEL).trans (zY HBE▸q2.below (zY HSB) (zY HBW))
     have hop:=pF hbw (hf _ hi)
     have hob:ob<w0.heap.size:=qP (hf _ hi)
     have hBb:B<=b:=(q1.bound b q1.inB).1
     have hne:¬b=ob:=by have:=zY HBE;omega
     have hne':¬ob=b:=by omega
     have hobw:ob<wr.heap.size:=qP hop
     have hrt:=zY HR _ hi
     have e1:(0:Int)<=s'.next:=q5
     have e2:s'.next<(n:Int):=hlt
     generalize hgo:f s'.next.toNat=o at *
     obtain⟨c,a,v⟩:=o
     obtain⟨g0,g1,g2⟩:=hop
     have hc:=nP (show yO c a v nt nf=true from hrt)
     have qf:=q4.fuel
     have h1:=((q1.set L 25 (.int .i64 (s'.fuel-1)) {s' with fuel:=s'.fuel-1} (by omega) (bE (s'.fuel-1)) rfl (q1.rel.of rfl rfl) rfl).alloc L (.cells #[.int .i64 c,.int .i64 a,.int .i64 v] 70))
     have h1a:=q1.set L 25 (.int .i64 (s'.fuel-1)) {s' with fuel:=s'.fuel-1,next:=s'.next+1} (by omega) (bE (s'.fuel-1)) rfl (q1.rel.of rfl rfl) rfl
     have H1A:=zZ h1a
     have Q2A:=zZ (q2.setCell ⟨b,25,none⟩ (.int .i64 (s'.fuel-1)) hSb)
     have hpb:((wr.setCell ⟨b,25,none⟩ (.int .i64 (s'.fuel-1))).alloc (.cells #[.int .i64 c,.int .i64 a,.int .i64 v] 70)).heap[wr.heap.size]?=some (.cells #[.int .i64 c,.int .i64 a,.int .i64 v] 70):=by
      have h:=heap_alloc_new (wr.setCell ⟨b,25,none⟩ (.int .i64 (s'.fuel-1))) (.cells #[.int .i64 c,.int .i64 a,.int .i64 v] 70)
      rwa [show (wr.setCell ⟨b,25,none⟩ (.int .i64 (s'.fuel-1))).heap.size=wr.heap.size by simp [World.setCell]] at h
     have h2:LQ SQ B S' ((wr.setCell ⟨b,25,none⟩ (.int .i64 (s'.fuel-1))).alloc (.cells #[.int .i64 c,.int .i64 a,.int .i64 v] 70)) b pv' vt' va' T' {s' with fuel:=s'.fuel-1,next:=s'.next+1} A' tn sq x':=⟨h1.bound,h1.cells,h1.row,h1.arow,h1.rel.of rfl rfl,h1.src,h1.hc,h1.inB,h1.inV,h1.inA,h1.inT⟩
     have hnx:=jK (ask:=ask) (c,a,v) {s' with fuel:=s'.fuel-1,next:=s'.next+1} x'
     have hnv:=aT hk (c,a,v) {s' with fuel:=s'.fuel-1,next:=s'.next+1} x' (N:=N) ⟨⟨by show 0<=s'.fuel-1;omega,by show s'.fuel-1<=5000;omega⟩,q4.clock,⟨q4.armings.1,by have:=q4.armings.2;show s'.armings+(s'.fuel-1)<=5000;omega⟩,by have:=q4.trace;show s'.trace.length+(s'.fuel-1).toNat<=N;omega⟩ (by have:=q4.armings.2;show s'.armings+(s'.fuel-1)+1<=5000;omega) (by have:=q4.trace;show s'.trace.length+(s'.fuel-1).toNat+1<=N;omega)
     have Q2:=zZ (((q2.setCell ⟨b,25,none⟩ (.int .i64 (s'.fuel-1)) hSb).alloc (.cells #[.int .i64 c,.int .i64 a,.int .i64 v] 70)))
     have hnP:wr.heap.size≠b:=by omega
     have hnP':¬b=wr.heap.size:=by omega
     have hpl:=(zN.1 hpb).1
     have hPS:¬S' wr.heap.size:=fun hs=>by have:=(q1.bound _ hs).2;omega
     have E:=zZ (q3.symm.trans hu)
     have HNX:=zZ hnx
     have HNV:=zZ hnv
     have H2:=zZ h2
     have HPB:=zZ hpb
     have Q0:=zZ q0
     have hq:=q4
     have HQ:=zZ q4
     have HRT:=zZ hrt
     have HPS:=zZ hPS
     have hbB:wr.heap.size≥B:=by have:=q1.below;omega
     have hfin0:s'.fin=0:=hfi
     have HFI:=zZ hfin0
     clear hu q1 q2 q3 q4 h1 h1a h2 hf hfi hfu hrt hnx hnv hbw q0 hSb hpb hq hPS hfin0
     have hcs:c=1\/c=2\/c=3\/c=4\/c=5\/c=6\/c=7\/c=8\/c=9\/c=10\/c=11:=by omega
     clear hc
     rcases hcs with rfl | rfl | rfl | rfl | rfl | rfl | rfl | rfl | rfl | rfl | rfl
     ·as_aux_lemma=>
       obtain⟨r1,r2⟩:=uD (show yO 1 a v nt nf=true from zY HRT) (by omega)
       go_wp2
       generalize hW2:((wr.setCell ⟨b,25,none⟩ (.int .i64 (s'.fuel-1))).alloc (.cells #[.int .i64 1,.int .i64 a,.int .i64 v] 70))=W2 at *
       clear hW2
       have cr:=(zY H2).cell (10+a.toNat) (by omega)
       have fr:=(zY H2).free (10+a.toNat) (by omega)
       rw [vY _ _ _ _ _ _ (by omega)] at cr
       refine wp_region_held_drew (S:=fun w'=>w'.heap[wr.heap.size]?=some (.cells #[.int .i64 1,.int .i64 a,.int .i64 v] 70)) (by kernel_rfl) ?_ (fun hHeld=>?_)
       ·exact zY HPB
       refine zA (i:=0) (oi:={dst:=some 46,op:=.move (.tmp 0),type:=177,pos:= "run.go:216",after:=#[],guard:=none}) ?_
       simp only [Act.put,zC,zD,zE]
       refine zA (i:=1) (oi:={dst:=some 47,op:=.fieldAddr 70 (.tmp 5) 1,type:=0,pos:= "run.go:216",after:=#[],guard:=none}) ?_
       simp only [Act.put,zC,zD,zE]
       refine zB (i:=2) (oi:={dst:=some 48,op:=.load 3 (.tmp 47),type:=3,pos:= "run.go:216",after:=#[zG 1],guard:=none}) ?_
       simp only [Act.put,zC,zD,zE]
       refine zA (i:=3) (oi:={dst:=some 49,op:=.fieldAddr 70 (.tmp 5) 2,type:=0,pos:= "run.go:216",after:=#[],guard:=none}) ?_
       simp only [Act.put,zC,zD,zE]
       refine zB (i:=4) (oi:={dst:=some 50,op:=.load 3 (.tmp 49),type:=3,pos:= "run.go:216",after:=#[zG 3],guard:=none}) ?_
       simp only [Act.put,zC,zD,zE]
       refine zA (i:=5) (oi:={dst:=some 51,op:=.nilCheck (.tmp 46),type:=0,pos:= "run.go:216",after:=#[zG 0],guard:=none}) ?_
       simp only [Act.put,zC,zD,zE]
       refine zA (i:=6) (oi:={dst:=some 52,op:=.fieldAddr 180 (.tmp 51) 5,type:=0,pos:= "run.go:216",after:=#[zG 5],guard:=none}) ?_
       simp only [Act.put,zC,zD,zE]
       refine zA (i:=7) (oi:={dst:=some 53,op:=.indexAddr 35 (.tmp 52) (.tmp 48),type:=0,pos:= "run.go:216",after:=#[zG 6,zG 2,zF 0,zF 1,zF 2,zF 3,zF 4],guard:=none}) ?_
       simp only [Act.put,zC,zD,zE]
       refine zL (i:=8) (o:={dst:=none,op:=.store 2 (.tmp 53) (.tmp 50),type:=0,pos:= "run.go:216",after:=#[zG 7,zG 4,zF 0,zF 1,zF 2,zF 3,zF 4],guard:=none}) (fun K' hK'=>?_)
       go_simp
       refine hK'.out _ _ ?_ (fun hHeld=>?_)
       ·exact(zQ _ _ _ _ hnP).trans (zY HPB)
       clear hK' K'
       try simp only [Act.put,zC,zD,zE]
       refine wpAnyH_done (by kernel_rfl) ?_ _
       go_wp2
       go_roundg k'
       case rel=>
        have e3:=zY E
        have e4:=zY HNV
        rw [show opM ask (1,a,v) {s' with fuel:=s'.fuel-1,next:=s'.next+1} x'=({s' with fuel:=s'.fuel-1,next:=s'.next+1,reg:=upd s'.reg a.toNat v},x') from by simp [opM]] at e3 e4
        exact xY (((zY H2).set L (10+a.toNat) (.int .i64 v) _ (by omega) (mN a.toNat v (by omega)) rfl ((zY H2).rel.of rfl rfl) rfl).drew L) (zY Q0) (((zY Q2).setCell _ _ (zY HSb)).drew) e3 e4 (by show _=Value.int .i64 (s'.next+1);go_num) (.inl rfl) e1 e2 hn q7
       case measure=>omega
     ·as_aux_lemma=>
       obtain⟨r1,r2⟩:=uD (show yO 2 a v nt nf=true from zY HRT) (by omega)
       obtain⟨r3,r4⟩:=fC (show yO 2 a v nt nf=true from zY HRT) (by omega)
       go_wp2
       generalize hW2:((wr.setCell ⟨b,25,none⟩ (.int .i64 (s'.fuel-1))).alloc (.cells #[.int .i64 2,.int .i64 a,.int .i64 v] 70))=W2 at *
       clear hW2
       have cr:=(zY H2).cell (10+a.toNat) (by omega)
       have fr:=(zY H2).free (10+a.toNat) (by omega)
       rw [vY _ _ _ _ _ _ (by omega)] at cr
       have cv:=(zY H2).cell (10+v.toNat) (by omega)
       rw [vY _ _ _ _ _ _ (by omega)] at cv
       change W2.cell? _=some (.int .i64 (s'.reg a.toNat)) at cr
       change W2.cell? _=some (.int .i64 (s'.reg v.toNat)) at cv
       refine wp_region_held_drew (S:=fun w'=>w'.heap[wr.heap.size]?=some (.cells #[.int .i64 2,.int .i64 a,.int .i64 v] 70)) (by kernel_rfl) ?_ (fun hHeld=>?_)
       ·exact zY HPB
       refine zA (i:=0) (oi:={dst:=some 56,op:=.move (.tmp 0),type:=177,pos:= "run.go:218",after:=#[],guard:=none}) ?_
       simp only [Act.put,zC,zD,zE]
       refine zA (i:=1) (oi:={dst:=some 57,op:=.fieldAddr 70 (.tmp 5) 1,type:=0,pos:= "run.go:218",after:=#[],guard:=none}) ?_
       simp only [Act.put,zC,zD,zE]
       refine zB (i:=2) (oi:={dst:=some 58,op:=.load 3 (.tmp 57),type:=3,pos:= "run.go:218",after:=#[zG 1],guard:=none}) ?_
       simp only [Act.put,zC,zD,zE]
       refine zA (i:=3) (oi:={dst:=some 59,op:=.move (.tmp 0),type:=177,pos:= "run.go:218",after:=#[],guard:=none}) ?_
       simp only [Act.put,zC,zD,zE]
       refine zA (i:=4) (oi:={dst:=some 60,op:=.fieldAddr 70 (.tmp 5) 1,type:=0,pos:= "run.go:218",after:=#[],guard:=none}) ?_
       simp only [Act.put,zC,zD,zE]
       refine zB (i:=5) (oi:={dst:=some 61,op:=.load 3 (.tmp 60),type:=3,pos:= "run.go:218",after:=#[zG 4],guard:=none}) ?_
       simp only [Act.put,zC,zD,zE]
       refine zA (i:=6) (oi:={dst:=some 62,op:=.nilCheck (.tmp 59),type:=0,pos:= "run.go:218",after:=#[zG 3],guard:=none}) ?_
       simp only [Act.put,zC,zD,zE]
       refine zA (i:=7) (oi:={dst:=some 63,op:=.fieldAddr 180 (.tmp 62) 5,type:=0,pos:= "run.go:218",after:=#[zG 6],guard:=none}) ?_
       simp only [Act.put,zC,zD,zE]
       refine zA (i:=8) (oi:={dst:=some 64,op:=.indexAddr 35 (.tmp 63) (.tmp 61),type:=0,pos:= "run.go:218",after:=#[zG 7,zG 5],guard:=none}) ?_
       simp only [Act.put,zC,zD,zE]
       refine zA (i:=10) (oi:={dst:=some 66,op:=.move (.tmp 0),type:=177,pos:= "run.go:218",after:=#[],guard:=none}) ?_
       simp only [Act.put,zC,zD,zE]
       refine zA (i:=11) (oi:={dst:=some 67,op:=.fieldAddr 70 (.tmp 5) 2,type:=0,pos:= "run.go:218",after:=#[],guard:=none}) ?_
       simp only [Act.put,zC,zD,zE]
       refine zB (i:=12) (oi:={dst:=some 68,op:=.load 3 (.tmp 67),type:=3,pos:= "run.go:218",after:=#[zG 11],guard:=none}) ?_
       simp only [Act.put,zC,zD,zE]
       refine zA (i:=13) (oi:={dst:=some 69,op:=.nilCheck (.tmp 66),type:=0,pos:= "run.go:218",after:=#[zG 10],guard:=none}) ?_
       simp only [Act.put,zC,zD,zE]
       refine zA (i:=14) (oi:={dst:=some 70,op:=.fieldAddr 180 (.tmp 69) 5,type:=0,pos:= "run.go:218",after:=#[zG 13],guard:=none}) ?_
       simp only [Act.put,zC,zD,zE]
       refine zA (i:=15) (oi:={dst:=some 71,op:=.indexAddr 35 (.tmp 70) (.tmp 68),type:=0,pos:= "run.go:218",after:=#[zG 14,zG 12],guard:=none}) ?_
       simp only [Act.put,zC,zD,zE]
       refine zA (i:=18) (oi:={dst:=some 74,op:=.nilCheck (.tmp 56),type:=0,pos:= "run.go:218",after:=#[zG 0],guard:=none}) ?_
       simp only [Act.put,zC,zD,zE]
       refine zA (i:=19) (oi:={dst:=some 75,op:=.fieldAddr 180 (.tmp 74) 5,type:=0,pos:= "run.go:218",after:=#[zG 18],guard:=none}) ?_
       simp only [Act.put,zC,zD,zE]
       refine wpAnyH_ready (rs:=[9,16]) (by kernel_rfl) (by simp) ?_
       refine AllReadyH.cons (o:={dst:=some 65,op:=.load 2 (.tmp 64),type:=2,pos:= "run.go:218",after:=#[zG 8],guard:=none}) rfl (fun K' hK'=>?_) (AllReadyH.cons (o:={dst:=some 72,op:=.load 2 (.tmp 71),type:=2,pos:= "run.go:218",after:=#[zG 15],guard:=none}) rfl (fun K' hK'=>?_) AllReadyH.nil)
       focus
        go_simp
        refine hK'.out _ _ ?_ (fun hHeld=>?_)
        ·exact zY HPB
        clear hK' K'
        try simp only [Act.put,zC,zD,zE]
        refine zL (i:=16) (o:={dst:=some 72,op:=.load 2 (.tmp 71),type:=2,pos:= "run.go:218",after:=#[zG 15],guard:=none}) (fun K' hK'=>?_)
       rotate_left
       focus
        go_simp
        refine hK'.out _ _ ?_ (fun hHeld=>?_)
        ·exact zY HPB
        clear hK' K'
        try simp only [Act.put,zC,zD,zE]
        refine zL (i:=9) (o:={dst:=some 65,op:=.load 2 (.tmp 64),type:=2,pos:= "run.go:218",after:=#[zG 8],guard:=none}) (fun K' hK'=>?_)
       rotate_left
       all_goals
        go_simp
        refine hK'.out _ _ ?_ (fun hHeld=>?_)
        ·exact zY HPB
        clear hK' K'
        try simp only [Act.put,zC,zD,zE]
        refine zA (i:=17) (oi:={dst:=some 73,op:=.binOp .add 2 (.tmp 65) (.tmp 72) 2,type:=2,pos:= "run.go:218",after:=#[zG 9,zG 16],guard:=none}) ?_
        simp only [Act.put,zC,zD,zE]
        refine zA (i:=20) (oi:={dst:=some 76,op:=.indexAddr 35 (.tmp 75) (.tmp 58),type:=0,pos:= "run.go:218",after:=#[zG 19,zG 2,zF 0,zF 1,zF 2,zF 3,zF 4,zF 5,zF 6,zF 7,zF 8,zF 9,zF 10,zF 11,zF 12,zF 13,zF 14,zF 15,zF 16,zF 17],guard:=none}) ?_
        simp only [Act.put,zC,zD,zE]
        refine zL (i:=21) (o:={dst:=none,op:=.store 2 (.tmp 76) (.tmp 73),type:=0,pos:= "run.go:218",after:=#[zG 20,zG 17,zF 0,zF 1,zF 2,zF 3,zF 4,zF 5,zF 6,zF 7,zF 8,zF 9,zF 10,zF 11,zF 12,zF 13,zF 14,zF 15,zF 16,zF 17],guard:=none}) (fun K' hK'=>?_)
        go_simp
        refine hK'.out _ _ ?_ (fun hHeld=>?_)
        ·exact(zQ _ _ _ _ hnP).trans (zY HPB)
        clear hK' K'
        try simp only [Act.put,zC,zD,zE]
        refine wpAnyH_done (by kernel_rfl) ?_ _
        go_wp2
        go_roundg k'
        case rel=>
         have e3:=zY E
         have e4:=zY HNV
         rw [show opM ask (2,a,v) {s' with fuel:=s'.fuel-1,next:=s'.next+1} x'=({s' with fuel:=s'.fuel-1,next:=s'.next+1,reg:=upd s'.reg a.toNat (wrap64 (s'.reg a.toNat+s'.reg v.toNat))},x') from by simp [opM]] at e3 e4
         exact xY (((zY H2).set L (10+a.toNat) (.int .i64 (wrap64 (s'.reg a.toNat+s'.reg v.toNat))) _ (by omega) (mN a.toNat _ (by omega)) rfl ((zY H2).rel.of rfl rfl) rfl).drew L) (zY Q0) (((zY Q2).setCell _ _ (zY HSb)).drew) e3 e4 (by show _=Value.int .i64 (s'.next+1);go_num) (.inl rfl) e1 e2 hn q7
        case measure=>omega
     ·as_aux_lemma=>
       obtain⟨r1,r2⟩:=oS (show yO 3 a v nt nf=true from zY HRT) (by omega)
       obtain⟨r3,r4⟩:=fC (show yO 3 a v nt nf=true from zY HRT) (by omega)
       go_wp2
       generalize hW2:((wr.setCell ⟨b,25,none⟩ (.int .i64 (s'.fuel-1))).alloc (.cells #[.int .i64 3,.int .i64 a,.int .i64 v] 70))=W2 at *
       clear hW2
       have cv:=(zY H2).cell (10+v.toNat) (by omega)
       rw [vY _ _ _ _ _ _ (by omega)] at cv
       change W2.cell? _=some (.int .i64 (s'.reg v.toNat)) at cv
       have HC:=zZ (yA2 L ((zY H2).drew L) a (s'.reg v.toNat) r1 (by omega) (by have:=(zY HQ).armings;have:=(zY HQ).fuel;show s'.armings<=5000;omega) (zY HQ).clock)
       refine wp_region_held_drew (S:=fun w'=>w'.heap[wr.heap.size]?=some (.cells #[.int .i64 3,.int .i64 a,.int .i64 v] 70)) (by kernel_rfl) ?_ (fun hHeld=>?_)
       ·exact zY HPB
       refine zA (i:=0) (oi:={dst:=some 79,op:=.move (.tmp 0),type:=177,pos:= "run.go:220",after:=#[],guard:=none}) ?_
       simp only [Act.put,zC,zD,zE]
       refine zA (i:=1) (oi:={dst:=some 80,op:=.fieldAddr 70 (.tmp 5) 1,type:=0,pos:= "run.go:220",after:=#[],guard:=none}) ?_
       simp only [Act.put,zC,zD,zE]
       refine zB (i:=2) (oi:={dst:=some 81,op:=.load 3 (.tmp 80),type:=3,pos:= "run.go:220",after:=#[zG 1],guard:=none}) ?_
       simp only [Act.put,zC,zD,zE]
       refine zA (i:=3) (oi:={dst:=some 82,op:=.move (.tmp 0),type:=177,pos:= "run.go:220",after:=#[],guard:=none}) ?_
       simp only [Act.put,zC,zD,zE]
       refine zA (i:=4) (oi:={dst:=some 83,op:=.fieldAddr 70 (.tmp 5) 2,type:=0,pos:= "run.go:220",after:=#[],guard:=none}) ?_
       simp only [Act.put,zC,zD,zE]
       refine zB (i:=5) (oi:={dst:=some 84,op:=.load 3 (.tmp 83),type:=3,pos:= "run.go:220",after:=#[zG 4],guard:=none}) ?_
       simp only [Act.put,zC,zD,zE]
       refine zA (i:=6) (oi:={dst:=some 85,op:=.nilCheck (.tmp 82),type:=0,pos:= "run.go:220",after:=#[zG 3],guard:=none}) ?_
       simp only [Act.put,zC,zD,zE]
       refine zA (i:=7) (oi:={dst:=some 86,op:=.fieldAddr 180 (.tmp 85) 5,type:=0,pos:= "run.go:220",after:=#[zG 6],guard:=none}) ?_
       simp only [Act.put,zC,zD,zE]
       refine zA (i:=8) (oi:={dst:=some 87,op:=.indexAddr 35 (.tmp 86) (.tmp 84),type:=0,pos:= "run.go:220",after:=#[zG 7,zG 5],guard:=none}) ?_
       simp only [Act.put,zC,zD,zE]
       refine zL (i:=9) (o:={dst:=some 88,op:=.load 2 (.tmp 87),type:=2,pos:= "run.go:220",after:=#[zG 8],guard:=none}) (fun K' hK'=>?_)
       go_simp
       refine hK'.out _ _ ?_ (fun hHeld=>?_)
       ·exact zY HPB
       clear hK' K'
       try simp only [Act.put,zC,zD,zE]
       refine zL (i:=10) (o:={dst:=some 89,op:=.call {callee:=.value (.func 139),args:=#[.tmp 79,.tmp 81,.tmp 88],argTypes:=#[177,3,2]},type:=0,pos:= "run.go:220",after:=#[zG 0,zG 2,zG 9],guard:=none}) (fun K' hK'=>?_)
       go_simp
       go_at_call 139
       refine(zY HC).mono ?_
       rintro e w3 ⟨rfl,S3,va3,p1,p2⟩
       have gg:=(p2.same wr.heap.size hpl (zY HPS)).trans (zY HPB)
       have P1:=zZ p1
       have P2:=zZ p2
       clear p1 p2 HC
       refine hK'.out _ _ ?_ (fun hHeld=>?_)
       ·exact gg
       clear hK' K'
       try simp only [Act.put,zC,zD,zE]
       refine wpAnyH_done (by kernel_rfl) ?_ _
       go_wp2
       go_roundg k'
       case rel=>
        have e3:=zY E
        have e4:=zY HNV
        rw [show opM ask (3,a,v) {s' with fuel:=s'.fuel-1,next:=s'.next+1} x'=({s' with fuel:=s'.fuel-1,next:=s'.next+1,armings:=s'.armings+1,tim:=upd s'.tim a.toNat (true,s'.clock+min (max (s'.reg v.toNat) 0) (1099511627776-s'.clock),s'.armings+1,a)},x') from by simp [opM]] at e3 e4
        exact xY (zY P1) (zY Q0) (((zY Q2).drew).trans (zY P2)) e3 e4 (by show _=Value.int .i64 (s'.next+1);go_num) (.inl rfl) e1 e2 hn q7
       case measure=>omega
     ·as_aux_lemma=>
       obtain⟨r1,r2⟩:=oS (show yO 4 a v nt nf=true from zY HRT) (by omega)
       have HC:=zZ (mH L (zY H2) a r1 (by have:=(zY HQ).armings;have:=(zY HQ).fuel;show s'.armings<=5000;omega))
       go_wp2_with (go_at_call 140;refine(zY HC).mono ?_;rintro e w3 ⟨rfl,S3,va3,p1,p2⟩;have P1:=zZ p1;have P2:=zZ p2;clear p1 p2 HC)
       go_roundg k'
       case rel=>
        have e3:=zY E
        have e4:=zY HNV
        rw [show opM ask (4,a,v) {s' with fuel:=s'.fuel-1,next:=s'.next+1} x'=({s' with fuel:=s'.fuel-1,next:=s'.next+1,tim:=upd s'.tim a.toNat (false,(s'.tim a.toNat).2)},x') from by simp [opM]] at e3 e4
        exact xY (zY P1) (zY Q0) (((zY Q2)).trans (zY P2)) e3 e4 (by show _=Value.int .i64 (s'.next+1);go_num) (.inl rfl) e1 e2 hn q7
       case measure=>omega
     ·as_aux_lemma=>
       obtain⟨r1,r2⟩:=rR (show yO 5 a v nt nf=true from zY HRT) (by omega)
       have r8:a<8:=by omega
       go_wp2
       generalize hW2:((wr.setCell ⟨b,25,none⟩ (.int .i64 (s'.fuel-1))).alloc (.cells #[.int .i64 5,.int .i64 a,.int .i64 v] 70))=W2 at *
       clear hW2
       have cr:=(zY H2).cell (17+a.toNat) (by omega)
       have fr:=(zY H2).free (17+a.toNat) (by omega)
       rw [vZ _ _ _ _ _ _ (by omega)] at cr
       refine wp_region_held_drew (S:=fun w'=>w'.heap[wr.heap.size]?=some (.cells #[.int .i64 5,.int .i64 a,.int .i64 v] 70)) (by kernel_rfl) ?_ (fun hHeld=>?_)
       ·exact zY HPB
       refine zA (i:=0) (oi:={dst:=some 98,op:=.move (.tmp 0),type:=177,pos:= "run.go:224",after:=#[],guard:=none}) ?_
       simp only [Act.put,zC,zD,zE]
       refine zA (i:=1) (oi:={dst:=some 99,op:=.fieldAddr 70 (.tmp 5) 1,type:=0,pos:= "run.go:224",after:=#[],guard:=none}) ?_
       simp only [Act.put,zC,zD,zE]
       refine zB (i:=2) (oi:={dst:=some 100,op:=.load 3 (.tmp 99),type:=3,pos:= "run.go:224",after:=#[zG 1],guard:=none}) ?_
       simp only [Act.put,zC,zD,zE]
       refine zA (i:=3) (oi:={dst:=some 101,op:=.nilCheck (.tmp 98),type:=0,pos:= "run.go:224",after:=#[zG 0],guard:=none}) ?_
       simp only [Act.put,zC,zD,zE]
       refine zA (i:=4) (oi:={dst:=some 102,op:=.fieldAddr 180 (.tmp 101) 9,type:=0,pos:= "run.go:224",after:=#[zG 3],guard:=none}) ?_
       simp only [Act.put,zC,zD,zE]
       refine zA (i:=5) (oi:={dst:=some 103,op:=.indexAddr 128 (.tmp 102) (.tmp 100),type:=0,pos:= "run.go:224",after:=#[zG 4,zG 2,zF 0,zF 1,zF 2],guard:=none}) ?_
       simp only [Act.put,zC,zD,zE]
       refine zL (i:=6) (o:={dst:=none,op:=.store 4 (.tmp 103) (.const (.bool true)),type:=0,pos:= "run.go:224",after:=#[zG 5,zF 0,zF 1,zF 2],guard:=none}) (fun K' hK'=>?_)
       go_simp
       refine hK'.out _ _ ?_ (fun hHeld=>?_)
       ·exact(zQ _ _ _ _ hnP).trans (zY HPB)
       clear hK' K'
       try simp only [Act.put,zC,zD,zE]
       refine wpAnyH_done (by kernel_rfl) ?_ _
       go_wp2
       go_roundg k'
       case rel=>
        have e3:=zY E
        have e4:=zY HNV
        rw [show opM ask (5,a,v) {s' with fuel:=s'.fuel-1,next:=s'.next+1} x'=({s' with fuel:=s'.fuel-1,next:=s'.next+1,wat:=upd s'.wat a.toNat true},x') from by simp [opM]] at e3 e4
        exact xY (((zY H2).set L (17+a.toNat) (.bool true) _ (by omega) (zE8 a.toNat true (by omega)) rfl ((zY H2).rel.of rfl rfl) rfl).drew L) (zY Q0) (((zY Q2).setCell _ _ (zY HSb)).drew) e3 e4 (by show _=Value.int .i64 (s'.next+1);go_num) (.inl rfl) e1 e2 hn q7
       case measure=>omega
     ·as_aux_lemma=>
       obtain⟨r1,r2⟩:=rR (show yO 6 a v nt nf=true from zY HRT) (by omega)
       have r8:a<8:=by omega
       go_wp2
       generalize hW2:((wr.setCell ⟨b,25,none⟩ (.int .i64 (s'.fuel-1))).alloc (.cells #[.int .i64 6,.int .i64 a,.int .i64 v] 70))=W2 at *
       clear hW2
       have cr:=(zY H2).cell (17+a.toNat) (by omega)
       have fr:=(zY H2).free (17+a.toNat) (by omega)
       rw [vZ _ _ _ _ _ _ (by omega)] at cr
       refine wp_region_held_drew (S:=fun w'=>w'.heap[wr.heap.size]?=some (.cells #[.int .i64 6,.int .i64 a,.int .i64 v] 70)) (by kernel_rfl) ?_ (fun hHeld=>?_)
       ·exact zY HPB
       refine zA (i:=0) (oi:={dst:=some 106,op:=.move (.tmp 0),type:=177,pos:= "run.go:226",after:=#[],guard:=none}) ?_
       simp only [Act.put,zC,zD,zE]
       refine zA (i:=1) (oi:={dst:=some 107,op:=.fieldAddr 70 (.tmp 5) 1,type:=0,pos:= "run.go:226",after:=#[],guard:=none}) ?_
       simp only [Act.put,zC,zD,zE]
       refine zB (i:=2) (oi:={dst:=some 108,op:=.load 3 (.tmp 107),type:=3,pos:= "run.go:226",after:=#[zG 1],guard:=none}) ?_
       simp only [Act.put,zC,zD,zE]
       refine zA (i:=3) (oi:={dst:=some 109,op:=.nilCheck (.tmp 106),type:=0,pos:= "run.go:226",after:=#[zG 0],guard:=none}) ?_
       simp only [Act.put,zC,zD,zE]
       refine zA (i:=4) (oi:={dst:=some 110,op:=.fieldAddr 180 (.tmp 109) 9,type:=0,pos:= "run.go:226",after:=#[zG 3],guard:=none}) ?_
       simp only [Act.put,zC,zD,zE]
       refine zA (i:=5) (oi:={dst:=some 111,op:=.indexAddr 128 (.tmp 110) (.tmp 108),type:=0,pos:= "run.go:226",after:=#[zG 4,zG 2,zF 0,zF 1,zF 2],guard:=none}) ?_
       simp only [Act.put,zC,zD,zE]
       refine zL (i:=6) (o:={dst:=none,op:=.store 4 (.tmp 111) (.const (.bool false)),type:=0,pos:= "run.go:226",after:=#[zG 5,zF 0,zF 1,zF 2],guard:=none}) (fun K' hK'=>?_)
       go_simp
       refine hK'.out _ _ ?_ (fun hHeld=>?_)
       ·exact(zQ _ _ _ _ hnP).trans (zY HPB)
       clear hK' K'
       try simp only [Act.put,zC,zD,zE]
       refine wpAnyH_done (by kernel_rfl) ?_ _
       go_wp2
       go_roundg k'
       case rel=>
        have e3:=zY E
        have e4:=zY HNV
        rw [show opM ask (6,a,v) {s' with fuel:=s'.fuel-1,next:=s'.next+1} x'=({s' with fuel:=s'.fuel-1,next:=s'.next+1,wat:=upd s'.wat a.toNat false},x') from by simp [opM]] at e3 e4
        exact xY (((zY H2).set L (17+a.toNat) (.bool false) _ (by omega) (zE8 a.toNat false (by omega)) rfl ((zY H2).rel.of rfl rfl) rfl).drew L) (zY Q0) (((zY Q2).setCell _ _ (zY HSb)).drew) e3 e4 (by show _=Value.int .i64 (s'.next+1);go_num) (.inl rfl) e1 e2 hn q7
       case measure=>omega
     ·as_aux_lemma=>
       obtain⟨r1,r2⟩:=uD (show yO 7 a v nt nf=true from zY HRT) (by omega)
       have hc:=fS L K (zY H2) (zY HFI) hm
       obtain⟨R,x2,hR⟩ : ∃R x2,ask x' 1 0=(R,x2):=⟨_,_,rfl⟩
       rw [hR] at hc
       dsimp only at hc
       by_cases hB:ckB {s' with fuel:=s'.fuel-1,next:=s'.next+1} R=true
       ·have hck:ckS {s' with fuel:=s'.fuel-1,next:=s'.next+1} R={s' with fuel:=s'.fuel-1,next:=s'.next+1,heard:=wrap64 (s'.heard+1),clock:=R.n}:=by
         have hb2:=hB
         unfold ckB at hb2
         simp only [Bool.and_eq_true,decide_eq_true_eq,Bool.not_eq_true',decide_eq_false_iff_not] at hb2
         unfold ckS
         rw [if_pos hb2.1,if_neg hb2.2]
        rw [hck] at hc
        have HC:=zZ hc
        have HCK:=zZ hck
        have HRR:=zZ hR
        have HBB:=zZ hB
        clear hc hck hR hB
        go_wp2_with fail
        go_at_call 127
        refine(zY HC).mono ?_
        rintro e w3 ⟨rfl,S3,pv3,T3,p1,p0,p2⟩
        have P1:=zZ p1
        have P2:=zZ p2
        have P0q:=zZ (show ∀i,i<3->pv3 i=pv i from fun i hi=>(p0 i hi).trans (zY Q0 i hi))
        have gg:=(p2.same wr.heap.size hpl (zY HPS)).trans (zY HPB)
        have k27:w3.cell? ⟨b,27,none⟩=some (.int .i64 0):=(p1.cell 27 (by omega)).trans (by rw [xE];exact congrArg (fun z=>some (Value.int .i64 z)) (zY HFI))
        have k14:=(p1.cell 14 (by omega)).trans (by rw [tC])
        change w3.cell? _=some (.int .i64 R.n) at k14
        have cr:=(p1.cell (10+a.toNat) (by omega)).trans (by rw [vY _ _ _ _ _ _ (by omega)])
        have fr:=p1.free (10+a.toNat) (by omega)
        have hb3:=p1.blt
        clear p1 p2 p0 HC
        go_wp2
        refine wp_region_held_drew (S:=fun w'=>w'.heap[wr.heap.size]?=some (.cells #[.int .i64 7,.int .i64 a,.int .i64 v] 70)/\w'.cell? ⟨b,14,none⟩=some (.int .i64 R.n)) (by kernel_rfl) ?_ (fun hHeld=>?_)
        ·exact⟨gg,k14⟩
        refine zA (i:=0) (oi:={dst:=some 121,op:=.move (.tmp 0),type:=177,pos:= "run.go:230",after:=#[],guard:=none}) ?_
        simp only [Act.put,zC,zD,zE]
        refine zA (i:=1) (oi:={dst:=some 122,op:=.fieldAddr 70 (.tmp 5) 1,type:=0,pos:= "run.go:230",after:=#[],guard:=none}) ?_
        simp only [Act.put,zC,zD,zE]
        refine zI (i:=2) (oi:={dst:=some 123,op:=.load 3 (.tmp 122),type:=3,pos:= "run.go:230",after:=#[zG 1],guard:=none}) ?_
        simp only [Act.put,zC,zD,zE]
        refine zA (i:=3) (oi:={dst:=some 124,op:=.move (.tmp 0),type:=177,pos:= "run.go:230",after:=#[],guard:=none}) ?_
        simp only [Act.put,zC,zD,zE]
        refine zA (i:=4) (oi:={dst:=some 125,op:=.nilCheck (.tmp 124),type:=0,pos:= "run.go:230",after:=#[zG 3],guard:=none}) ?_
        simp only [Act.put,zC,zD,zE]
        refine zA (i:=5) (oi:={dst:=some 126,op:=.fieldAddr 180 (.tmp 125) 6,type:=0,pos:= "run.go:230",after:=#[zG 4],guard:=none}) ?_
        simp only [Act.put,zC,zD,zE]
        refine zI (i:=6) (oi:={dst:=some 127,op:=.load 3 (.tmp 126),type:=3,pos:= "run.go:230",after:=#[zG 5],guard:=none}) ?_
        simp only [Act.put,zC,zD,zE]
        refine zA (i:=7) (oi:={dst:=some 128,op:=.nilCheck (.tmp 121),type:=0,pos:= "run.go:230",after:=#[zG 0],guard:=none}) ?_
        simp only [Act.put,zC,zD,zE]
        refine zA (i:=8) (oi:={dst:=some 129,op:=.fieldAddr 180 (.tmp 128) 5,type:=0,pos:= "run.go:230",after:=#[zG 7],guard:=none}) ?_
        simp only [Act.put,zC,zD,zE]
        refine zA (i:=9) (oi:={dst:=some 130,op:=.indexAddr 35 (.tmp 129) (.tmp 123),type:=0,pos:= "run.go:230",after:=#[zG 8,zG 2,zF 0,zF 1,zF 2,zF 3,zF 4,zF 5,zF 6],guard:=none}) ?_
        simp only [Act.put,zC,zD,zE]
        refine zL (i:=10) (o:={dst:=none,op:=.store 2 (.tmp 130) (.tmp 127),type:=0,pos:= "run.go:230",after:=#[zG 9,zG 6,zF 0,zF 1,zF 2,zF 3,zF 4,zF 5,zF 6],guard:=none}) (fun K' hK'=>?_)
        go_simp
        refine hK'.out _ _ ?_ (fun hHeld=>?_)
        ·exact⟨(zQ _ _ _ _ hnP).trans gg,(((zY P1).cells.set (10+a.toNat) (.int .i64 R.n) (by omega)) 14 (by omega)).1.trans (by unfold yP;rw [if_neg (by omega),tC])⟩
        clear hK' K'
        try simp only [Act.put,zC,zD,zE]
        refine wpAnyH_done (by kernel_rfl) ?_ _
        go_wp2
        go_roundg k'
        case rel=>
         have e3:=zY E
         have e4:=zY HNV
         rw [show opM ask (7,a,v) {s' with fuel:=s'.fuel-1,next:=s'.next+1} x'=({s' with fuel:=s'.fuel-1,next:=s'.next+1,heard:=wrap64 (s'.heard+1),clock:=R.n,reg:=upd s'.reg a.toNat R.n},x2) from by simp only [opM,zY HRR];simp only [zY HBB];simp [zY HCK]] at e3 e4
         exact xY (((zY P1).set L (10+a.toNat) (.int .i64 R.n) _ (by omega) (mN a.toNat R.n (by omega)) rfl ((zY P1).rel.of rfl rfl) rfl).drew L) (zY P0q) ((((zY Q2).trans (zY P2)).setCell _ _ (zY HSb)).drew) e3 e4 (by show _=Value.int .i64 (s'.next+1);go_num) (.inl rfl) e1 e2 hn q7
        case measure=>omega
       ·have hnx:(ckS {s' with fuel:=s'.fuel-1,next:=s'.next+1} R).next=s'.next+1:=zC3 _ _
        have hne:(ckS {s' with fuel:=s'.fuel-1,next:=s'.next+1} R).fin≠0:=by
         unfold ckB at hB
         unfold ckS
         by_cases he:R.e=0
         ·by_cases hl:R.n<s'.clock
          ·rw [if_pos he,if_pos hl];show (4:Int)≠0;omega
          ·refine absurd ?_ hB;simp [he];exact Int.not_lt.1 hl
         ·rw [if_neg he];exact he
        have hop:opM ask (7,a,v) {s' with fuel:=s'.fuel-1,next:=s'.next+1} x'=(ckS {s' with fuel:=s'.fuel-1,next:=s'.next+1} R,x2):=by
         simp only [opM,hR]
         simp [hB]
        generalize hsk:ckS {s' with fuel:=s'.fuel-1,next:=s'.next+1} R=sk at *
        have hnb:(sk.fin==0)=false:=by simpa using hne
        have HC:=zZ hc
        have HOP:=zZ hop
        have HNXX:=zZ hnx
        clear hc hR hB hsk hop hnx
        go_wp2_with fail
        go_at_call 127
        refine(zY HC).mono ?_
        rintro e w3 ⟨rfl,S3,pv3,T3,p1,p0,p2⟩
        have P1:=zZ p1
        have P2:=zZ p2
        have P0q:=zZ (show ∀i,i<3->pv3 i=pv i from fun i hi=>(p0 i hi).trans (zY Q0 i hi))
        have k27:=(p1.cell 27 (by omega)).trans (by rw [xE])
        clear p1 p2 p0 HC
        go_wp2
        go_roundg k'
        case rel=>
         have e3:=zY E
         have e4:=zY HNV
         rw [zY HOP] at e3 e4
         exact xY (zY P1) (zY P0q) ((zY Q2).trans (zY P2)) e3 e4 (by rw [zY HNXX]) (.inl (zY HNXX)) e1 e2 hn q7
        case measure=>omega
     ·as_aux_lemma=>
       obtain⟨r1,r2⟩:=uD (show yO 8 a v nt nf=true from zY HRT) (by omega)
       obtain⟨r3,r4⟩:=iL (show yO 8 a v nt nf=true from zY HRT)
       have hc:=K.calls (zY H2) (zY HFI) (hm4 v r3 r4)
       obtain⟨R,x2,hR⟩ : ∃R x2,ask x' 4 v=(R,x2):=⟨_,_,rfl⟩
       rw [hR] at hc
       dsimp only at hc
       by_cases he:R.e=0
       ·have hhs:sB {s' with fuel:=s'.fuel-1,next:=s'.next+1} R={s' with fuel:=s'.fuel-1,next:=s'.next+1,heard:=wrap64 (s'.heard+1)}:=by unfold sB;rw [if_pos he]
        have hop:opM ask (8,a,v) {s' with fuel:=s'.fuel-1,next:=s'.next+1} x'=({s' with fuel:=s'.fuel-1,next:=s'.next+1,heard:=wrap64 (s'.heard+1),reg:=upd s'.reg a.toNat R.n},x2):=by
         simp only [opM,hR]
         simp [pE,he]
        rw [hhs] at hc
        have HC:=zZ hc
        have HOP:=zZ hop
        have HE:=zZ he
        clear hc hhs hR hop he
        go_wp2_with fail
        go_at_call 141
        refine(zY HC).mono ?_
        rintro e w3 ⟨kd,of_,rn,fa,fl,fc,rfl,⟨S3,pv3,T3,p1,p0,p2⟩,hn3⟩
        obtain⟨hn4,_⟩:=hn3 (zY HE)
        subst hn4
        have p1a:=p1.alloc L (.cells #[.int .i64 kd,.int .i64 of_,.int .i64 R.n,.slice fa fl fc] 49)
        have P1:=zZ p1a
        have P2:=zZ (p2.alloc (.cells #[.int .i64 kd,.int .i64 of_,.int .i64 R.n,.slice fa fl fc] 49))
        have P0q:=zZ (show ∀i,i<3->pv3 i=pv i from fun i hi=>(p0 i hi).trans (zY Q0 i hi))
        have hb3:=p1.blt
        have gg:=(zR w3 (.cells #[.int .i64 kd,.int .i64 of_,.int .i64 R.n,.slice fa fl fc] 49) _ (zT hpl p2.size)).trans ((p2.same wr.heap.size hpl (zY HPS)).trans (zY HPB))
        have g49:=heap_alloc_new w3 (.cells #[.int .i64 kd,.int .i64 of_,.int .i64 R.n,.slice fa fl fc] 49)
        have k27:w3.cell? ⟨b,27,none⟩=some (.int .i64 0):=(p1.cell 27 (by omega)).trans (by rw [xE];exact congrArg (fun z=>some (Value.int .i64 z)) (zY HFI))
        have hn5:w3.heap.size≠b:=by omega
        have hn6:¬b=w3.heap.size:=by omega
        clear p1 p1a p2 p0 HC hn3
        go_wp2
        generalize hW3:w3.alloc (.cells #[.int .i64 kd,.int .i64 of_,.int .i64 R.n,.slice fa fl fc] 49)=W3 at *
        clear hW3
        have cr:=((zY P1).cell (10+a.toNat) (by omega)).trans (by rw [vY _ _ _ _ _ _ (by omega)])
        have fr:=(zY P1).free (10+a.toNat) (by omega)
        refine wp_region_held_drew (S:=fun w'=>w'.heap[wr.heap.size]?=some (.cells #[.int .i64 8,.int .i64 a,.int .i64 v] 70)/\w'.heap[w3.heap.size]?=some (.cells #[.int .i64 kd,.int .i64 of_,.int .i64 R.n,.slice fa fl fc] 49)) (by kernel_rfl) ?_ (fun hHeld=>?_)
        ·exact⟨gg,g49⟩
        refine zA (i:=0) (oi:={dst:=some 142,op:=.move (.tmp 0),type:=177,pos:= "run.go:235",after:=#[],guard:=none}) ?_
        simp only [Act.put,zC,zD,zE]
        refine zA (i:=1) (oi:={dst:=some 143,op:=.fieldAddr 70 (.tmp 5) 1,type:=0,pos:= "run.go:235",after:=#[],guard:=none}) ?_
        simp only [Act.put,zC,zD,zE]
        refine zJ (i:=2) (oi:={dst:=some 144,op:=.load 3 (.tmp 143),type:=3,pos:= "run.go:235",after:=#[zG 1],guard:=none}) ?_
        simp only [Act.put,zC,zD,zE]
        refine zA (i:=3) (oi:={dst:=some 145,op:=.fieldAddr 49 (.tmp 6) 2,type:=0,pos:= "run.go:235",after:=#[],guard:=none}) ?_
        simp only [Act.put,zC,zD,zE]
        refine zJ (i:=4) (oi:={dst:=some 146,op:=.load 3 (.tmp 145),type:=3,pos:= "run.go:235",after:=#[zG 3],guard:=none}) ?_
        simp only [Act.put,zC,zD,zE]
        refine zA (i:=5) (oi:={dst:=some 147,op:=.nilCheck (.tmp 142),type:=0,pos:= "run.go:235",after:=#[zG 0],guard:=none}) ?_
        simp only [Act.put,zC,zD,zE]
        refine zA (i:=6) (oi:={dst:=some 148,op:=.fieldAddr 180 (.tmp 147) 5,type:=0,pos:= "run.go:235",after:=#[zG 5],guard:=none}) ?_
        simp only [Act.put,zC,zD,zE]
        refine zA (i:=7) (oi:={dst:=some 149,op:=.indexAddr 35 (.tmp 148) (.tmp 144),type:=0,pos:= "run.go:235",after:=#[zG 6,zG 2,zF 0,zF 1,zF 2,zF 3,zF 4],guard:=none}) ?_
        simp only [Act.put,zC,zD,zE]
        refine zL (i:=8) (o:={dst:=none,op:=.store 2 (.tmp 149) (.tmp 146),type:=0,pos:= "run.go:235",after:=#[zG 7,zG 4,zF 0,zF 1,zF 2,zF 3,zF 4],guard:=none}) (fun K' hK'=>?_)
        go_simp
        refine hK'.out _ _ ?_ (fun hHeld=>?_)
        ·exact⟨(zQ _ _ _ _ hnP).trans gg,(zQ _ _ _ _ hn5).trans g49⟩
        clear hK' K'
        try simp only [Act.put,zC,zD,zE]
        refine wpAnyH_done (by kernel_rfl) ?_ _
        go_wp2
        go_roundg k'
        case rel=>
         have e3:=zY E
         have e4:=zY HNV
         rw [zY HOP] at e3 e4
         exact xY (((zY P1).set L (10+a.toNat) (.int .i64 R.n) _ (by omega) (mN a.toNat R.n (by omega)) rfl ((zY P1).rel.of rfl rfl) rfl).drew L) (zY P0q) ((((zY Q2).trans (zY P2)).setCell _ _ (zY HSb)).drew) e3 e4 (by show _=Value.int .i64 (s'.next+1);go_num) (.inl rfl) e1 e2 hn q7
        case measure=>omega
       ·have hhs:sB {s' with fuel:=s'.fuel-1,next:=s'.next+1} R={s' with fuel:=s'.fuel-1,next:=s'.next+1,fin:=R.e}:=by unfold sB;rw [if_neg he]
        have hop:opM ask (8,a,v) {s' with fuel:=s'.fuel-1,next:=s'.next+1} x'=({s' with fuel:=s'.fuel-1,next:=s'.next+1,fin:=R.e},x2):=by
         simp only [opM,hR]
         simp [pE,he]
        have heb:(R.e==0)=false:=by simpa using he
        rw [hhs] at hc
        have HC:=zZ hc
        have HOP:=zZ hop
        clear hc hhs hR hop
        go_wp2_with fail
        go_at_call 141
        refine(zY HC).mono ?_
        rintro e w3 ⟨kd,of_,rn,fa,fl,fc,rfl,⟨S3,pv3,T3,p1,p0,p2⟩,hn3⟩
        have p1a:=p1.alloc L (.cells #[.int .i64 kd,.int .i64 of_,.int .i64 rn,.slice fa fl fc] 49)
        have P1:=zZ p1a
        have P2:=zZ (p2.alloc (.cells #[.int .i64 kd,.int .i64 of_,.int .i64 rn,.slice fa fl fc] 49))
        have P0q:=zZ (show ∀i,i<3->pv3 i=pv i from fun i hi=>(p0 i hi).trans (zY Q0 i hi))
        have hb3:=p1.blt
        have k27:=(p1.cell 27 (by omega)).trans (by rw [xE])
        change w3.cell? _=some (.int .i64 R.e) at k27
        have hn5:w3.heap.size≠b:=by omega
        have hn6:¬b=w3.heap.size:=by omega
        clear p1 p1a p2 p0 HC hn3
        go_wp2
        go_roundg k'
        case rel=>
         have e3:=zY E
         have e4:=zY HNV
         rw [zY HOP] at e3 e4
         exact xY (zY P1) (zY P0q) ((zY Q2).trans (zY P2)) e3 e4 (by show _=Value.int .i64 (s'.next+1);go_num) (.inl rfl) e1 e2 hn q7
        case measure=>omega
     ·as_aux_lemma=>
       obtain⟨r1,r2⟩:=uD (show yO 9 a v nt nf=true from zY HRT) (by omega)
       obtain⟨ta,tc,rfl⟩:=yM (zY H2).row
       go_wp2
       generalize hW2:((wr.setCell ⟨b,25,none⟩ (.int .i64 (s'.fuel-1))).alloc (.cells #[.int .i64 9,.int .i64 a,.int .i64 v] 70))=W2 at *
       clear hW2
       have cr:=(zY H2).cell (10+a.toNat) (by omega)
       rw [vY _ _ _ _ _ _ (by omega)] at cr
       change W2.cell? _=some (.int .i64 (s'.reg a.toNat)) at cr
       have ct:=(zY H2).cell 26 (by omega)
       rw [xD] at ct
       change W2.cell? _=some (.slice ta s'.trace.length tc) at ct
       have cq:∀o,(W2.alloc o).drew.cell? ⟨b,10+a.toNat,none⟩=some (.int .i64 (s'.reg a.toNat)):=fun o=>(((zY H2).fr L ((Fr.refl _ _).alloc o).drew).cell (10+a.toNat) (by omega)).trans (by rw [vY _ _ _ _ _ _ (by omega)])
       have tq:∀o,(W2.alloc o).drew.cell? ⟨b,26,none⟩=some (.slice ta s'.trace.length tc):=fun o=>(((zY H2).fr L ((Fr.refl _ _).alloc o).drew).cell 26 (by omega)).trans (by rw [xD])
       have pq:∀o,(W2.alloc o).drew.heap[wr.heap.size]?=some (.cells #[.int .i64 9,.int .i64 a,.int .i64 v] 70):=fun o=>(zR _ _ _ hpl).trans (zY HPB)
       have hln:s'.trace.length<=100000000:=by have:=(zY HQ).trace;omega
       refine wp_region_held_drew (S:=fun w'=>w'.heap[wr.heap.size]?=some (.cells #[.int .i64 9,.int .i64 a,.int .i64 v] 70)/\w'.cell? ⟨b,10+a.toNat,none⟩=some (.int .i64 (s'.reg a.toNat))) (by kernel_rfl) ?_ (fun hHeld=>?_)
       ·exact⟨zY HPB,cr⟩
       refine zA (i:=0) (oi:={dst:=some 152,op:=.move (.tmp 0),type:=177,pos:= "run.go:238",after:=#[],guard:=none}) ?_
       simp only [Act.put,zC,zD,zE]
       refine zA (i:=1) (oi:={dst:=some 153,op:=.move (.tmp 0),type:=177,pos:= "run.go:238",after:=#[],guard:=none}) ?_
       simp only [Act.put,zC,zD,zE]
       refine zA (i:=2) (oi:={dst:=some 154,op:=.nilCheck (.tmp 153),type:=0,pos:= "run.go:238",after:=#[zG 1],guard:=none}) ?_
       simp only [Act.put,zC,zD,zE]
       refine zA (i:=3) (oi:={dst:=some 155,op:=.fieldAddr 180 (.tmp 154) 11,type:=0,pos:= "run.go:238",after:=#[zG 2],guard:=none}) ?_
       simp only [Act.put,zC,zD,zE]
       refine zA (i:=5) (oi:={dst:=some 157,op:=.fieldAddr 70 (.tmp 5) 1,type:=0,pos:= "run.go:238",after:=#[],guard:=none}) ?_
       simp only [Act.put,zC,zD,zE]
       refine zI (i:=6) (oi:={dst:=some 158,op:=.load 3 (.tmp 157),type:=3,pos:= "run.go:238",after:=#[zG 5],guard:=none}) ?_
       simp only [Act.put,zC,zD,zE]
       refine zA (i:=7) (oi:={dst:=some 159,op:=.move (.tmp 0),type:=177,pos:= "run.go:238",after:=#[],guard:=none}) ?_
       simp only [Act.put,zC,zD,zE]
       refine zA (i:=8) (oi:={dst:=some 160,op:=.fieldAddr 70 (.tmp 5) 1,type:=0,pos:= "run.go:238",after:=#[],guard:=none}) ?_
       simp only [Act.put,zC,zD,zE]
       refine zI (i:=9) (oi:={dst:=some 161,op:=.load 3 (.tmp 160),type:=3,pos:= "run.go:238",after:=#[zG 8],guard:=none}) ?_
       simp only [Act.put,zC,zD,zE]
       refine zA (i:=10) (oi:={dst:=some 162,op:=.nilCheck (.tmp 159),type:=0,pos:= "run.go:238",after:=#[zG 7],guard:=none}) ?_
       simp only [Act.put,zC,zD,zE]
       refine zA (i:=11) (oi:={dst:=some 163,op:=.fieldAddr 180 (.tmp 162) 5,type:=0,pos:= "run.go:238",after:=#[zG 10],guard:=none}) ?_
       simp only [Act.put,zC,zD,zE]
       refine zA (i:=12) (oi:={dst:=some 164,op:=.indexAddr 35 (.tmp 163) (.tmp 161),type:=0,pos:= "run.go:238",after:=#[zG 11,zG 9],guard:=none}) ?_
       simp only [Act.put,zC,zD,zE]
       refine zI (i:=13) (oi:={dst:=some 165,op:=.load 2 (.tmp 164),type:=2,pos:= "run.go:238",after:=#[zG 12],guard:=none}) ?_
       simp only [Act.put,zC,zD,zE]
       refine zA (i:=14) (oi:={dst:=some 166,op:=.build 72 #[(0,.const (.int .i64 3)),(1,.tmp 158),(2,.tmp 165)],type:=72,pos:= "run.go:238",after:=#[zG 6,zG 13],guard:=none}) ?_
       simp only [Act.put,zC,zD,zE]
       refine wpAnyH_ready (rs:=[4,15]) (by kernel_rfl) (by simp) ?_
       refine AllReadyH.cons (o:={dst:=some 156,op:=.load 34 (.tmp 155),type:=34,pos:= "run.go:238",after:=#[zG 3],guard:=none}) rfl (fun K' hK'=>?_) (AllReadyH.cons (o:={dst:=some 167,op:=.buildSlice 34 1 #[(0,.tmp 166)],type:=34,pos:= "run.go:238",after:=#[zG 14],guard:=none}) rfl (fun K' hK'=>?_) AllReadyH.nil)
       focus
        go_simp
        refine hK'.out _ _ ?_ (fun hHeld=>?_)
        ·exact⟨zY HPB,cr⟩
        clear hK' K'
        try simp only [Act.put,zC,zD,zE]
        refine zL (i:=15) (o:={dst:=some 167,op:=.buildSlice 34 1 #[(0,.tmp 166)],type:=34,pos:= "run.go:238",after:=#[zG 14],guard:=none}) (fun K' hK'=>?_)
       rotate_left
       focus
        go_simp
        refine hK'.out _ _ ?_ (fun hHeld=>?_)
        ·exact⟨pq _,cq _⟩
        clear hK' K'
        try simp only [Act.put,zC,zD,zE]
        refine zL (i:=4) (o:={dst:=some 156,op:=.load 34 (.tmp 155),type:=34,pos:= "run.go:238",after:=#[zG 3],guard:=none}) (fun K' hK'=>?_)
       rotate_left
       all_goals
        go_simp
        refine hK'.out _ _ ?_ (fun hHeld=>?_)
        ·exact⟨pq _,cq _⟩
        clear hK' K'
        try simp only [Act.put,zC,zD,zE]
        refine zL (i:=16) (o:={dst:=some 168,op:=.call {callee:=.builtin .append,args:=#[.tmp 156,.tmp 167],argTypes:=#[34,34]},type:=34,pos:= "run.go:238",after:=#[zG 4,zG 15],guard:=none}) (fun K' hK'=>?_)
        refine xX (d:=168) rfl kC (by decide) (by decide) (v:=.slice ta s'.trace.length tc) (n:=s'.trace.length) (m:=1) (xs:=xZ s'.trace) (news:=[.int .i64 3,.int .i64 a,.int .i64 (s'.reg a.toNat)]) (B:=B) (ad:=⟨W2.heap.size,0,none⟩) (cap:=1) rfl (.tmp 156) (.tmp 167) rfl rfl rfl ((zY H2).fr L ((Fr.refl _ _).alloc (.cells #[.int .i64 3,.int .i64 a,.int .i64 (s'.reg a.toNat)] 72)).drew).row rfl (World.news_of_block (heap_alloc_new W2 _)) (by simp [Value.oneCell']) (by omega) (by omega) ((zY H2).fr L ((Fr.refl _ _).alloc (.cells #[.int .i64 3,.int .i64 a,.int .i64 (s'.reg a.toNat)] 72)).drew).below ?_
        intro v3 w3 o3 f3 sh3
        obtain⟨av,cv,rfl⟩:=sh3
        have h3:=(zY H2).fr L ((Fr.refl _ _).alloc (.cells #[.int .i64 3,.int .i64 a,.int .i64 (s'.reg a.toNat)] 72)).drew
        have c3:=h3.cells.block (f3.same b h3.blt (fun e=>(h3.inV b e).2.1 rfl))
        have gr:w3.cell? ⟨b,10+a.toNat,none⟩=some (.int .i64 (s'.reg a.toNat)):=(c3 (10+a.toNat) (by omega)).1.trans (by rw [vY _ _ _ _ _ _ (by omega)])
        have pc:=(c3 26 (by omega)).1.trans (by rw [xD])
        have pz:=(c3 26 (by omega)).2
        have gp:w3.heap[wr.heap.size]?=some (.cells #[.int .i64 9,.int .i64 a,.int .i64 v] 70):=(f3.same _ (zN.1 (pq _)).1 (fun e=>zY HPS (h3.inV _ e).1)).trans (pq (.cells #[.int .i64 3,.int .i64 a,.int .i64 (s'.reg a.toNat)] 72))
        have FIN:=zZ (h3.setTrace L (o:=(3,a,s'.reg a.toNat)) o3 f3)
        clear o3 f3 h3 c3
        refine hK'.out _ _ ⟨gp,gr⟩ (fun hHeld=>?_)
        clear hK' K'
        simp only [zC,zD,zE]
        refine zA (i:=17) (oi:={dst:=some 169,op:=.nilCheck (.tmp 152),type:=0,pos:= "run.go:238",after:=#[zG 0,zF 0,zF 1,zF 2,zF 3,zF 4,zF 5,zF 6,zF 7,zF 8,zF 9,zF 10,zF 11,zF 12,zF 13,zF 14,zF 15,zF 16],guard:=none}) ?_
        simp only [Act.put,zC,zD,zE]
        refine zA (i:=18) (oi:={dst:=some 170,op:=.fieldAddr 180 (.tmp 169) 11,type:=0,pos:= "run.go:238",after:=#[zG 17,zF 0,zF 1,zF 2,zF 3,zF 4,zF 5,zF 6,zF 7,zF 8,zF 9,zF 10,zF 11,zF 12,zF 13,zF 14,zF 15,zF 16],guard:=none}) ?_
        simp only [Act.put,zC,zD,zE]
        refine zL (i:=19) (o:={dst:=none,op:=.store 34 (.tmp 170) (.tmp 168),type:=0,pos:= "run.go:238",after:=#[zG 18,zG 16,zM 16,zF 0,zF 1,zF 2,zF 3,zF 4,zF 5,zF 6,zF 7,zF 8,zF 9,zF 10,zF 11,zF 12,zF 13,zF 14,zF 15,zF 16],guard:=none}) (fun K' hK'=>?_)
        go_simp
        refine hK'.out _ _ ?_ (fun hHeld=>?_)
        ·exact⟨(zQ _ _ _ _ hnP).trans gp,by simp [go_sem,gr]⟩
        clear hK' K'
        try simp only [Act.put,zC,zD,zE]
        refine wpAnyH_done (by kernel_rfl) ?_ _
        go_wp2
        go_roundg k'
        case rel=>
         have e3:=zY E
         have e4:=zY HNV
         rw [show opM ask (9,a,v) {s' with fuel:=s'.fuel-1,next:=s'.next+1} x'=({s' with fuel:=s'.fuel-1,next:=s'.next+1,trace:=s'.trace++[(3,a,s'.reg a.toNat)]},x') from by simp [opM]] at e3 e4
         exact xY ((zY FIN).1) (zY Q0) (((zY Q2).alloc (.cells #[.int .i64 3,.int .i64 a,.int .i64 (s'.reg a.toNat)] 72)).drew.trans (zY FIN).2) e3 e4 (by show _=Value.int .i64 (s'.next+1);go_num) (.inl rfl) e1 e2 hn q7
        case measure=>omega
     ·as_aux_lemma=>
       obtain⟨r1,r2⟩:=uD (show yO 10 a v nt nf=true from zY HRT) (by omega)
       go_wp2
       generalize hW2:((wr.setCell ⟨b,25,none⟩ (.int .i64 (s'.fuel-1))).alloc (.cells #[.int .i64 10,.int .i64 a,.int .i64 v] 70))=W2 at *
       clear hW2
       have cr:=(zY H2).cell (10+a.toNat) (by omega)
       rw [vY _ _ _ _ _ _ (by omega)] at cr
       change W2.cell? _=some (.int .i64 (s'.reg a.toNat)) at cr
       have cP:=fun j=>cell_of_row W2 _ j _ 70 (0,0) (zY HPB)
       by_cases hs:s'.reg a.toNat=v
       ·have hsb:(s'.reg a.toNat==v)=true:=by simpa using hs
        have hop:opM ask (10,a,v) {s' with fuel:=s'.fuel-1,next:=s'.next+1} x'=({s' with fuel:=s'.fuel-1,next:=s'.next+1+1},x'):=by simp [opM,hs]
        have HOP:=zZ hop
        clear hop
        have h3:LQ SQ B S' W2 b pv' vt' va' T' {s' with fuel:=s'.fuel-1,next:=s'.next+1+1} A' tn sq x':=⟨(zY H2).bound,(zY H2).cells,(zY H2).row,(zY H2).arow,(zY H2).rel.of rfl rfl,(zY H2).src,(zY H2).hc,(zY H2).inB,(zY H2).inV,(zY H2).inA,(zY H2).inT⟩
        have H3:=zZ h3
        clear h3
        go_quiet (fail)
        go_wp2
        go_roundg k'
        case rel=>
         have e3:=zY E
         have e4:=zY HNV
         rw [zY HOP] at e3 e4
         exact xY ((zY H3).drewN L _) (zY Q0) ((zY Q2).drewN _) e3 e4 (by show _=Value.int .i64 (s'.next+1+1);go_num) (.inr rfl) e1 e2 hn q7
        case measure=>omega
       ·have hsb:(s'.reg a.toNat==v)=false:=by simpa using hs
        have hop:opM ask (10,a,v) {s' with fuel:=s'.fuel-1,next:=s'.next+1} x'=({s' with fuel:=s'.fuel-1,next:=s'.next+1},x'):=by simp [opM,hs]
        have HOP:=zZ hop
        clear hop
        go_quiet (fail)
        go_wp2
        go_roundg k'
        case rel=>
         have e3:=zY E
         have e4:=zY HNV
         rw [zY HOP] at e3 e4
         exact xY ((zY H2).drewN L _) (zY Q0) ((zY Q2).drewN _) e3 e4 (by show _=Value.int .i64 (s'.next+1);go_num) (.inl rfl) e1 e2 hn q7
        case measure=>omega
     ·as_aux_lemma=>
       go_wp2
       go_roundg k'
       case rel=>
        have e3:=zY E
        have e4:=zY HNV
        rw [show opM ask (11,a,v) {s' with fuel:=s'.fuel-1,next:=s'.next+1} x'=({s' with fuel:=s'.fuel-1,next:=s'.next+1,fin:=1},x') from by simp [opM]] at e3 e4
        exact xY (((zY H1A).set L 27 (.int .i64 1) _ (by omega) (rZ 1) rfl ((zY H1A).rel.of rfl rfl) rfl).alloc L _) (zY Q0) (((zY Q2A).setCell _ _ (zY HSb)).alloc _) e3 e4 (by show _=Value.int .i64 (s'.next+1);go_num) (.inl rfl) e1 e2 hn q7
       case measure=>omega
   ·have e:=gX (ask:=ask) f n gk s' x' (fun hh=>hfi hh.2)
    have hfb:(s'.fin==0)=false:=by simpa using hfi
    have Q1:=zZ q1
    have Q2:=zZ q2
    have Q0:=zZ q0
    have E:=zZ (q3.symm.trans e)
    clear q1 q2 q3 q4 e hfi q0 hSb
    generalize s'.next=nx at *
    generalize s'.fin=fi at *
    go_wp2
    go_end0
    rw [zY E]
    exact⟨rfl,S',pv',vt',va',T',A',zY Q1,zY Q0,zY Q2⟩
  ·have e:=gX (ask:=ask) f n gk s' x' (fun hh=>hlt hh.1)
   have Q1:=zZ q1
   have Q2:=zZ q2
   have Q0:=zZ q0
   have E:=zZ (q3.symm.trans e)
   clear q1 q2 q3 q4 e q0 hSb
   generalize s'.next=nx at *
   generalize s'.fin=fi at *
   go_wp2
   go_end0
   rw [zY E]
   exact⟨rfl,S',pv',vt',va',T',A',zY Q1,zY Q0,zY Q2⟩
end
