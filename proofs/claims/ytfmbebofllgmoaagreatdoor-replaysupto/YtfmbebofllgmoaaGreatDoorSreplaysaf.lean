/-
  PROVED HERE: the loop's handle runs a handler as the model (h
-/
import Derived.Deep.LoopGhost
import Derived.Test.YtfmbebofllgmoaaGreatDoorSreplaysae
set_option maxHeartbeats 4000000
namespace Go.Proofs.YtfmbebofllgmoaaGreatDoor
open Go.RowKit
attribute [local go_sem ↓] Go.wp_at_zero Go.wp_at_succ
section
variable {σ:Type} {SA:(Nat->Prop)->World->σ->Prop} {ask:σ->Int->Int->Rep×σ} {may:Int->Int->Prop} {B:Nat} {S T:Nat->Prop} {w:World} {b:Nat} {pv:Nat->Value} {vt:Value} {s:PS} {x:σ}
def hM (ask:σ->Int->Int->Rep×σ) (f:Nat->O3) (n:Nat):Nat->PS->σ->PS×σ
 | 0,s,x=>(s,x)
 | k+1,s,x=>if s.next<n/\s.fin=0 then (if s.fuel=0 then ({s with fin:=3},x) else hM ask f n k (opM ask (f s.next.toNat) {s with fuel:=s.fuel-1,next:=s.next+1} x).1 (opM ask (f s.next.toNat) {s with fuel:=s.fuel-1,next:=s.next+1} x).2) else (s,x)
structure uN (N:Nat) (s:PS):Prop where
 fuel:0<=s.fuel/\s.fuel<=5000
 clock:0<=s.clock/\s.clock<=1099511627776
 armings:0<=s.armings/\s.armings+s.fuel<=5000
 trace:s.trace.length+s.fuel.toNat<=N
def nA (ask:σ->Int->Int->Rep×σ):Prop:=∀x,(ask x 1 0).1.e=0->0<=(ask x 1 0).1.n/\(ask x 1 0).1.n<=1099511627776
theorem yD {α:Type} {P:α->Prop} {c:Prop} [Decidable c] {a b:α} (ha:P a) (hb:P b):P (if c then a else b):=by split<;>assumption
theorem zC3 (s:PS) (R:Rep):(ckS s R).next=s.next:=by
 unfold ckS;exact yD (P:=fun q:PS=>q.next=s.next) (yD (P:=fun q:PS=>q.next=s.next) rfl rfl) rfl
theorem zU8 (s:PS) (R:Rep) (i:Nat):(pE s R i).next=s.next:=by
 unfold pE;exact yD (P:=fun q:PS=>q.next=s.next) rfl rfl
theorem jK (o:O3) (s:PS) (x:σ):(opM ask o s x).1.next=s.next\/(opM ask o s x).1.next=s.next+1:=by
 have hck:=zC3 s (ask x 1 0).1
 have hlo:=zU8 s (ask x 4 o.2.2).1 o.2.1.toNat
 have g:∀(P:PS×σ->Prop),(∀q:PS×σ,(q.1.next=s.next\/q.1.next=s.next+1)->P q)->P (opM ask o s x):=by
  intro P hP
  unfold opM
  refine yD (hP _ (.inl rfl)) (yD (hP _ (.inl rfl)) (yD (hP _ (.inl rfl)) (yD (hP _ (.inl rfl)) (yD (hP _ (.inl rfl)) (yD (hP _ (.inl rfl)) (yD (hP _ (.inl ?_)) (yD (hP _ (.inl hlo)) (yD (hP _ (.inl rfl)) (yD (hP _ ?_) (hP _ (.inl rfl)))))))))))
  ·exact yD (P:=fun q:PS=>q.next=s.next) hck hck
  ·exact yD (P:=fun q:PS=>q.next=s.next\/q.next=s.next+1) (.inr rfl) (.inl rfl)
 exact g (fun q=>q.1.next=s.next\/q.1.next=s.next+1) (fun _ h=>h)
theorem aT (hk:nA ask) {N:Nat} (o:O3) (s:PS) (x:σ) (h:uN N s) (h1:s.armings+s.fuel+1<=5000) (h2:s.trace.length+s.fuel.toNat+1<=N):uN N (opM ask o s x).1:=by
 obtain⟨a1,a2,a3,a4⟩:=h
 have hck:uN N (ckS s (ask x 1 0).1):=by
  unfold ckS
  by_cases e:(ask x 1 0).1.e=0
  ·rw [if_pos e]
   exact yD (P:=uN N) ⟨a1,a2,a3,a4⟩ ⟨a1,hk x e,a3,a4⟩
  ·rw [if_neg e];exact⟨a1,a2,a3,a4⟩
 have hlo:uN N (pE s (ask x 4 o.2.2).1 o.2.1.toNat):=by
  unfold pE;exact yD (P:=uN N) ⟨a1,a2,a3,a4⟩ ⟨a1,a2,a3,a4⟩
 unfold opM
 refine yD (P:=fun q:PS×σ=>uN N q.1) ⟨a1,a2,a3,a4⟩ (yD (P:=fun q:PS×σ=>uN N q.1) ⟨a1,a2,a3,a4⟩ (yD (P:=fun q:PS×σ=>uN N q.1) ?_ (yD (P:=fun q:PS×σ=>uN N q.1) ⟨a1,a2,a3,a4⟩ (yD (P:=fun q:PS×σ=>uN N q.1) ⟨a1,a2,a3,a4⟩ (yD (P:=fun q:PS×σ=>uN N q.1) ⟨a1,a2,a3,a4⟩ (yD (P:=fun q:PS×σ=>uN N q.1) ?_ (yD (P:=fun q:PS×σ=>uN N q.1) hlo (yD (P:=fun q:PS×σ=>uN N q.1) ?_ (yD (P:=fun q:PS×σ=>uN N q.1) ?_ ⟨a1,a2,a3,a4⟩)))))))))
 ·exact⟨a1,a2,⟨by show 0<=s.armings+1;omega,by show s.armings+1+s.fuel<=5000;omega⟩,a4⟩
 ·exact yD (P:=uN N) ⟨hck.fuel,hck.clock,hck.armings,hck.trace⟩ hck
 ·exact⟨a1,a2,a3,by show (s.trace++[(3,o.2.1,s.reg o.2.1.toNat)]).length+s.fuel.toNat<=N;rw [List.length_append];simp only [List.length_cons,List.length_nil];omega⟩
 ·exact yD (P:=uN N) ⟨a1,a2,a3,a4⟩ ⟨a1,a2,a3,a4⟩
end
theorem info3:∃i,Tryz.prog.info? 3=some i/\i.zero=some (.int .i64 0)/\i.size=1/\i.bytes=8:=by
 have h:(Tryz.prog.info? 3).map (fun i=>(i.zero,i.size,i.bytes))=some (some (.int .i64 0),1,8):=by kernel_rfl
 cases hi:Tryz.prog.info? 3 with
 | none=>rw [hi] at h;cases h
 | some i=>
  rw [hi] at h
  simp only [Option.map_some,Option.some.injEq,Prod.mk.injEq] at h
  exact⟨i,rfl,h.1,h.2.1,h.2.2⟩
def yZ (w:World) (B:Nat) (v:Value) (l:List Int):Prop:=w.ownsRow B 3 1 v l.length (l.map fun z=>Value.int .i64 z)
theorem pN {ops:Array Oper} {rest:List Oper} {o:Oper} {a:Act} {Q:Exit->Act->World->Prop} {w:World} {B:Nat} {v:Value} {l:List Int} (hgd:o.guard=none) (sv xv:Operand)
  (ho:o.op=.call {callee:=.builtin .append,args:=#[sv,xv],argTypes:=#[26,26]}) {z:Int}
  (hs:a.eval sv=v) (hx:a.eval xv=.slice (some ⟨w.heap.size,0,none⟩) 1 1) (hrow:yZ w B v l) (hn:l.length<=1000) (hB:B<=w.heap.size)
  (h:∀v' w',yZ w' B v' (l++[z])->(w.alloc (.cells #[.int .i64 z] 3)).grownBy w' v.ownBlock->wpList Tryz.prog ops Q rest (a.put o.dst v') w') :
  wpList Tryz.prog ops Q (o::rest) a (w.alloc (.cells #[.int .i64 z] 3)):=by
 obtain⟨i,hi,hz,hs1,hby⟩:=info3
 have hb':B<=(w.alloc (.cells #[.int .i64 z] 3)).heap.size:=by simp;omega
 have hm:l.length+1<=maxLen:=by simp only [maxLen];omega
 have hby':(l.length+1)*8<=140737488355328:=by omega
 have hone:∀u∈[Value.int .i64 z],u.oneCell'=true:=by simp [Value.oneCell']
 have hsz:(w.alloc (.cells #[.int .i64 z] 3)).heap.size=w.heap.size+1:=by simp
 refine wpList_append_lies _ hgd sv xv 26 ho B 3 i _ 1 8 Tryz.underlying26 hi hz hs1 hby rfl (by omega) v l.length _ hs (hrow.alloc _) ⟨w.heap.size,0,none⟩ 1 1 [.int .i64 z] hx rfl
  (World.news_of_block (heap_alloc_new w _)) hone (by omega) hm hby' hb' (w.heap.size+1) hsz ?_
 intro g cap w' h1 h2 _ _
 refine h _ w' ?_ h2
 unfold yZ
 rw [List.length_append,List.map_append]
 exact h1
section
variable {σ:Type} {SA:(Nat->Prop)->World->σ->Prop} {ask:σ->Int->Int->Rep×σ} {may:Int->Int->Prop} {B:Nat} {S T:Nat->Prop} {w:World} {b:Nat} {pv:Nat->Value} {vt:Value} {s:PS} {x:σ}
theorem Fr.grown {S S':Nat->Prop} {w w' w'':World} {row:Option Nat} (h:Fr S w w' S') (hg:w'.grownBy w'' row) (hr:∀k,row=some k->w.heap.size<=k):Fr S w w'' S':=
 ⟨hg.os.trans h.os,hg.tape.trans h.tape,hg.output.trans h.output,Nat.le_trans h.size hg.size,fun k hk hn=>(hg.block k (zT hk h.size) (fun e=>by have:=hr k e.symm;omega)).trans (h.same k hk hn),h.old⟩
theorem RI.grown (L:xC SA) (h:RI SA B S w b pv vt T s x) {w':World} {row:Option Nat} (hg:w.grownBy w' row) (hr:∀k,row=some k->¬S k):RI SA B S w' b pv vt T s x:=
 h.kept L (fun k hk=>hg.block k (h.bound k hk).2 (fun e=>hr k e.symm hk)) hg.size
theorem zW5 (L:xC SA) (h:RI SA B S w b pv vt T s x) (v:Value) (l:List Int) (hl:yJ w v l (fun q=>q<w.heap.size/\¬S q)) (h8:l.length<=8) (hf:∀z,z∈l->0<=z/\z<8) :
  Calls Tryz.prog 117 #[.pointer (some ⟨b,0,none⟩),v] w fun e w'=>∃v',e=.returned v'/\yZ w' w.heap.size v' (l.filter fun z=>s.wat z.toNat)/\RI SA B S w' b pv vt T s x/\Fr S w w' S:=by
 obtain⟨a,c,rfl,hc⟩:=hl
 have hSz:∀k,S k->k<w.heap.size:=fun k hk=>(h.bound k hk).2
 have H:=zZ h
 have HC:=zZ hc
 have HF:=zZ hf
 have HZ:=zZ hSz
 clear h hc hf hSz
 go_enter Tryz.func117,Tryz.ntmps117
 go_wp2
 go_loopw [5,10] (fun u i wr=>∃k:Nat,k<=l.length/\i=.int .i64 k/\yZ wr w.heap.size u ((l.take k).filter fun z=>s.wat z.toNat)/\RI SA B S wr b pv vt T s x/\Fr S w wr S) (fun _ i _=>l.length-(intOf i).toNat)
 case atStart=>exact⟨0,Nat.zero_le _,rfl,zX _ _ _ _,zY H,Fr.refl S w⟩
 case round=>
  obtain⟨k,hk,rfl,ho,r1,r2⟩:=hrel
  by_cases hlt:k<l.length
  ·rcases zY HC with hz | ⟨q,off,rfl,⟨q1,q2⟩,hcell⟩
   ·rw [hz] at hlt;simp at hlt
   have cz:=(r2.cell q (off+k) q1 q2).trans (hcell k hlt)
   have hget:l.getD k 0=l[k]:=by simp [List.getD,hlt]
   rw [hget] at cz
   obtain⟨z0,z8⟩:=zY HF l[k] (List.getElem_mem hlt)
   have htk:l.take (k+1)=l.take k++[l[k]]:=List.take_succ_eq_append_getElem hlt
   have cw:=(r1.cell (56+l[k].toNat) (by omega)).trans (by rw [qM _ _ _ _ (by omega)])
   have hfil:((l.take (k+1)).filter fun z=>s.wat z.toNat)=((l.take k).filter fun z=>s.wat z.toNat)++(if s.wat l[k].toNat then [l[k]] else []):=by
    rw [htk,List.filter_append];congr 1;simp [List.filter_cons]
   have hlen:((l.take k).filter fun z=>s.wat z.toNat).length<=1000:=by
    have:=List.length_filter_le (fun z=>s.wat z.toNat) (l.take k)
    have:=List.length_take_le k l
    omega
   have HO:=zZ ho
   have R1:=zZ r1
   have R2:=zZ r2
   have HFI:=zZ hfil
   have HLE:=zZ hlen
   have hsz:w.heap.size<=wr.heap.size:=r2.size
   have HNE:=zZ (ho.lt)
   clear hcell ho r1 r2 hfil hlen htk hget
   generalize l[k]=z at *
   cases hwz:s.wat z.toNat
   ·rw [hwz] at cw
    have HWZ:=zZ hwz
    clear hwz
    go_wp2
    go_roundw
    case rel=>
     refine⟨k+1,by omega,by go_num,?_,zY R1,zY R2⟩
     rw [zY HFI,zY HWZ]
     simpa using zY HO
    case measure=>simp [intOf];omega
   ·rw [hwz] at cw
    have HWZ:=zZ hwz
    clear hwz
    go_wp2_with (at_builtin;refine pN rfl (.tmp 20) (.tmp 22) rfl rfl rfl (zY HO) (zY HLE) hsz ?_;intro v' w' o' g')
    go_roundw
    case rel=>
     have hro:∀j,Value.ownBlock u5=some j->w.heap.size<=j:=fun j hj=>((zY HNE) j hj).1
     refine⟨k+1,by omega,by go_num,?_,((zY R1).alloc L _).grown L g' (fun j hj hs=>?_),((zY R2).alloc _).grown g' hro⟩
     ·rw [zY HFI,zY HWZ];simpa using o'
     ·have h1:=hro j hj
      have h2:=zY HZ j hs
      omega
    case measure=>simp [intOf];omega
  ·go_wp2
   go_ret
   have e:l.take k=l:=List.take_of_length_le (by omega)
   rw [e] at ho
   exact⟨_,rfl,ho,r1,r2⟩
end
section
variable {σ:Type} {SA:(Nat->Prop)->World->σ->Prop} {ask:σ->Int->Int->Rep×σ} {may:Int->Int->Prop} {B:Nat} {S T:Nat->Prop} {w:World} {b:Nat} {pv:Nat->Value} {vt:Value} {s:PS} {x:σ}
def HRel (SA:(Nat->Prop)->World->σ->Prop) (ask:σ->Int->Int->Rep×σ) (B:Nat) (S:Nat->Prop) (w:World) (b:Nat) (pv:Nat->Value) (f:Nat->O3) (n N:Nat) (fin:PS×σ) (k:Nat) (wr:World):Prop:=
 ∃S' vt' T' s' x',RI SA B S' wr b pv vt' T' s' x'/\Fr S w wr S'/\hM ask f n k s' x'=fin/\uN N s'/\0<=s'.next/\s'.next<=40/\n<=s'.next.toNat+k
theorem gX (f:Nat->O3) (n k:Nat) (s:PS) (x:σ) (h:¬(s.next<n/\s.fin=0)):hM ask f n k s x=(s,x):=by
 cases k with
 | zero=>rfl
 | succ k=>simp only [hM];rw [if_neg h]
theorem uO {w2:World} {S2 T2:Nat->Prop} {vt2:Value} {s2:PS} {x2:σ} {f:Nat->O3} {n N k':Nat} {fin:PS×σ} {nx:Int} (p1:RI SA B S2 w2 b pv vt2 T2 s2 x2) (p2:Fr S w w2 S2) (e:fin=hM ask f n k' s2 x2) (q:uN N s2)
  (hx:s2.next=nx+1\/s2.next=nx+1+1) (h0:0<=nx) (h1:nx<n) (hn:n<=32) (h7:n<=nx.toNat+(k'+1)):HRel SA ask B S w b pv f n N fin k' w2:=
 ⟨S2,vt2,T2,s2,x2,p1,p2,e.symm,q,by omega,by omega,by omega⟩
theorem kO (L:xC SA) {rb tyS fnS:Nat} (K:uE SA ask may B rb tyS fnS) (hp:pv 3=.iface tyS (.pointer (some ⟨rb,0,none⟩))) (hm:may 1 0) (hm4:∀v,1<=v->v<=1000000->may 4 v) (hk:nA ask)
  {w0:World} (hB:B=w0.heap.size) (hbel:Below w0.heap.size w0 w) (h:RI SA B S w b pv vt T s x) {v:Value} {n N nt nf:Nat} {f:Nat->O3} (hv:vQ w0 v n f) (hn:n<=32) (hnt:nt<=8) (hnf:nf<=8) (hr:∀i,i<n->rt (f i) nt nf=true) (hq:uN N s) (hN:N<=100000000) :
  Calls Tryz.prog 54 #[.pointer (some ⟨b,0,none⟩),v] w fun e w'=>e=.returned (.tuple #[])/\pU SA B S w b pv (hM ask f n n {s with next:=0} x).1 (hM ask f n n {s with next:=0} x).2 w':=by
 obtain⟨va,vc,rfl,vl,hf⟩:=hv
 have hin:=h.inB
 have c0:=h.cell 17 (by omega)
 have z0:=h.free 17 (by omega)
 generalize img pv vt s 17=o17 at c0
 have hb:=(h.bound b h.inB).2
 have h0:=h.set L 17 (.int .i64 0) {s with next:=0} (by omega) (dM pv vt s 0) rfl
 have r0:HRel SA ask B S w b pv f n N (hM ask f n n {s with next:=0} x) n (w.setCell ⟨b,17,none⟩ (.int .i64 0)):=
  ⟨S,vt,T,_,x,h0,(Fr.refl S w).setCell _ _ (.inl hin),rfl,⟨hq.fuel,hq.clock,hq.armings,hq.trace⟩,Int.le_refl 0,by show (0:Int)<=40;omega,by simp⟩
 have hSB:∀k,S k->B<=k:=fun k hk=>(h.bound k hk).1
 have hBw:B<=w.heap.size:=by have:=h.bound b h.inB;omega
 generalize hM ask f n n {s with next:=0} x=fin at *
 have HF:=zZ hf
 have HR:=zZ hr
 have R0:=zZ r0
 have HSB:=zZ hSB
 have HBW:=zZ hBw
 have HBEL:=zZ hbel
 have HBE:=zZ hB
 clear h h0 hf hr r0 hq hin hSB hBw hbel hB
 go_enter Tryz.func54,Tryz.ntmps54
 go_wp2
 go_loopg [4] n (fun k u wr=>HRel SA ask B S w b pv f n N fin k wr)
 case atStart=>exact zY R0
 case round=>
  obtain⟨S',vt',T',s',x',q1,q2,q3,q4,q5,q6,q7⟩:=hrel
  have c17:=(q1.cell 17 (by omega)).trans (by rw [pD])
  have c66:=(q1.cell 66 (by omega)).trans (by rw [tU])
  have c16:=(q1.cell 16 (by omega)).trans (by rw [oO])
  have f16:=q1.free 16 (by omega)
  have f17:=q1.free 17 (by omega)
  have f66:=q1.free 66 (by omega)
  have hbr:=(q1.bound b q1.inB).2
  by_cases hlt:s'.next<n
  ·by_cases hfi:s'.fin=0
   ·obtain⟨k',rfl⟩ : ∃k',gk=k'+1:=⟨gk-1,by omega⟩
    have hu:hM ask f n (k'+1) s' x'=if s'.fuel=0 then ({s' with fin:=3},x') else hM ask f n k' (opM ask (f s'.next.toNat) {s' with fuel:=s'.fuel-1,next:=s'.next+1} x').1 (opM ask (f s'.next.toNat) {s' with fuel:=s'.fuel-1,next:=s'.next+1} x').2:=by
     simp only [hM];rw [if_pos ⟨hlt,hfi⟩]
    have hfb:(s'.fin==0)=true:=by simpa using hfi
    by_cases hfu:s'.fuel=0
    ·rw [if_pos hfu] at hu
     have q:=q1.set L 66 (.int .i64 3) {s' with fin:=3} (by omega) (jQ pv vt' s' 3) rfl
     have hub:(s'.fuel==0)=true:=by simpa using hfu
     have Q1:=zZ q
     have Q2:=zZ (q2.setCell ⟨b,66,none⟩ (.int .i64 3) (by by_cases hs:S b;exact .inl hs;exact .inr (Nat.le_of_not_lt fun hl=>hs (q2.old b hl q1.inB))))
     have E:=zZ (q3.symm.trans hu)
     clear q q1 q2 q3 q4 hu hfi hfu
     generalize s'.next=nx at *
     generalize s'.fin=fi at *
     generalize s'.fuel=fu at *
     go_wp2
     refine bodyPost_ret (v:=.tuple #[]) (by simp [results,Tryz.results54,go_sem]) rfl ?_
     rw [zY E]
     exact⟨rfl,S',vt',T',zY Q1,zY Q2⟩
    ·rw [if_neg hfu] at hu
     have hub:(s'.fuel==0)=false:=by simpa using hfu
     rcases zY HF with hz | ⟨ob,off,rfl,hf⟩
     ·omega
     have hi:s'.next.toNat<n:=by omega
     have hbw:Below w0.heap.size w0 wr:=(zY HBEL).trans (zY HBE▸q2.below (zY HSB) (zY HBW))
     have hop:=pF hbw (hf _ hi)
     have hob:ob<w0.heap.size:=qP (hf _ hi)
     have hBb:B<=b:=(q1.bound b q1.inB).1
     have hne:¬b=ob:=by have:=zY HBE;omega
     have hne':¬ob=b:=by omega
     have hobw:ob<wr.heap.size:=qP hop
     have hrt:=zY HR _ hi
     have e1:(0:Int)<=s'.next:=q5
     have e2:s'.next<(n:Int):=hlt
     generalize hgo:f s'.next.toNat=o at *
     obtain⟨c,a,v⟩:=o
     obtain⟨g0,g1,g2⟩:=hop
     have hc:=nP (show yO c a v nt nf=true from hrt)
     have qf:=q4.fuel
     have h1:=((((q1.set L 16 (.int .i64 (s'.fuel-1)) _ (by omega) (yG6 pv vt' s' (s'.fuel-1)) rfl).set L 17 (.int .i64 (s'.next+1)) _ (by omega) (dM pv vt' _ (s'.next+1)) rfl).alloc L (.cells #[.int .i64 c,.int .i64 a,.int .i64 v] 70)).drew L)
     have hact:=yI8 L K hp h1 hm hm4 c a v nt nf hnt hnf hrt ⟨⟨by show 0<=s'.next+1;omega,by show s'.next+1<=1000;omega⟩,q4.clock,⟨q4.armings.1,by have:=q4.armings.2;show s'.armings<=5000;omega⟩,by have:=q4.trace;show s'.trace.length<=100000000;omega⟩
     have hact':=h1.cell (4+c.toNat) (by omega)
     rw [jH _ _ _ _ (by omega)] at hact'
     have HACT:=zZ hact
     have HACTV:=zZ hact'
     have hnx:=jK (ask:=ask) (c,a,v) {s' with fuel:=s'.fuel-1,next:=s'.next+1} x'
     have hnv:=aT hk (c,a,v) {s' with fuel:=s'.fuel-1,next:=s'.next+1} x' (N:=N) ⟨⟨by show 0<=s'.fuel-1;omega,by show s'.fuel-1<=5000;omega⟩,q4.clock,⟨q4.armings.1,by have:=q4.armings.2;show s'.armings+(s'.fuel-1)<=5000;omega⟩,by have:=q4.trace;show s'.trace.length+(s'.fuel-1).toNat<=N;omega⟩ (by have:=q4.armings.2;show s'.armings+(s'.fuel-1)+1<=5000;omega) (by have:=q4.trace;show s'.trace.length+(s'.fuel-1).toNat+1<=N;omega)
     have hSb:S b\/w.heap.size<=b:=by
      by_cases hs:S b
      ·exact .inl hs
      ·exact .inr (Nat.le_of_not_lt fun hl=>hs (q2.old b hl q1.inB))
     have Q2:=zZ (((((q2.setCell ⟨b,16,none⟩ (.int .i64 (s'.fuel-1)) hSb).setCell ⟨b,17,none⟩ (.int .i64 (s'.next+1)) hSb).alloc (.cells #[.int .i64 c,.int .i64 a,.int .i64 v] 70)).drew))
     have E:=zZ (q3.symm.trans hu)
     have HNX:=zZ hnx
     have HNV:=zZ hnv
     clear hu q1 q2 q3 q4 hact hact' h1 hf hfi hfu hrt hnx hnv hbw
     go_wp2
     have hcs:c=1\/c=2\/c=3\/c=4\/c=5\/c=6\/c=7\/c=8\/c=9\/c=10\/c=11:=by omega
     clear hc
     rcases hcs with rfl | rfl | rfl | rfl | rfl | rfl | rfl | rfl | rfl | rfl | rfl
     ·have ha:=zY HACTV
      simp [jY] at ha
      go_region_with (go_at_call 83;refine(zY HACT).mono ?_;rintro e w2 ⟨rfl,S2,vt2,T2,p1,p2⟩;have P1:=zZ p1;have P2:=zZ p2;clear p1 p2)
      all_goals
       go_wp2
       go_roundg k'
       case rel=>exact uO (zY P1) ((zY Q2).trans (zY P2)) (zY E) (zY HNV) (zY HNX) e1 e2 hn q7
       case measure=>omega
     ·have ha:=zY HACTV
      simp [jY] at ha
      go_region_with (go_at_call 84;refine(zY HACT).mono ?_;rintro e w2 ⟨rfl,S2,vt2,T2,p1,p2⟩;have P1:=zZ p1;have P2:=zZ p2;clear p1 p2)
      all_goals
       go_wp2
       go_roundg k'
       case rel=>exact uO (zY P1) ((zY Q2).trans (zY P2)) (zY E) (zY HNV) (zY HNX) e1 e2 hn q7
       case measure=>omega
     ·have ha:=zY HACTV
      simp [jY] at ha
      go_region_with (go_at_call 85;refine(zY HACT).mono ?_;rintro e w2 ⟨rfl,S2,vt2,T2,p1,p2⟩;have P1:=zZ p1;have P2:=zZ p2;clear p1 p2)
      all_goals
       go_wp2
       go_roundg k'
       case rel=>exact uO (zY P1) ((zY Q2).trans (zY P2)) (zY E) (zY HNV) (zY HNX) e1 e2 hn q7
       case measure=>omega
     ·have ha:=zY HACTV
      simp [jY] at ha
      go_region_with (go_at_call 86;refine(zY HACT).mono ?_;rintro e w2 ⟨rfl,S2,vt2,T2,p1,p2⟩;have P1:=zZ p1;have P2:=zZ p2;clear p1 p2)
      all_goals
       go_wp2
       go_roundg k'
       case rel=>exact uO (zY P1) ((zY Q2).trans (zY P2)) (zY E) (zY HNV) (zY HNX) e1 e2 hn q7
       case measure=>omega
     ·have ha:=zY HACTV
      simp [jY] at ha
      go_region_with (go_at_call 87;refine(zY HACT).mono ?_;rintro e w2 ⟨rfl,S2,vt2,T2,p1,p2⟩;have P1:=zZ p1;have P2:=zZ p2;clear p1 p2)
      all_goals
       go_wp2
       go_roundg k'
       case rel=>exact uO (zY P1) ((zY Q2).trans (zY P2)) (zY E) (zY HNV) (zY HNX) e1 e2 hn q7
       case measure=>omega
     ·have ha:=zY HACTV
      simp [jY] at ha
      go_region_with (go_at_call 88;refine(zY HACT).mono ?_;rintro e w2 ⟨rfl,S2,vt2,T2,p1,p2⟩;have P1:=zZ p1;have P2:=zZ p2;clear p1 p2)
      all_goals
       go_wp2
       go_roundg k'
       case rel=>exact uO (zY P1) ((zY Q2).trans (zY P2)) (zY E) (zY HNV) (zY HNX) e1 e2 hn q7
       case measure=>omega
     ·have ha:=zY HACTV
      simp [jY] at ha
      go_region_with (go_at_call 89;refine(zY HACT).mono ?_;rintro e w2 ⟨rfl,S2,vt2,T2,p1,p2⟩;have P1:=zZ p1;have P2:=zZ p2;clear p1 p2)
      all_goals
       go_wp2
       go_roundg k'
       case rel=>exact uO (zY P1) ((zY Q2).trans (zY P2)) (zY E) (zY HNV) (zY HNX) e1 e2 hn q7
       case measure=>omega
     ·have ha:=zY HACTV
      simp [jY] at ha
      go_region_with (go_at_call 90;refine(zY HACT).mono ?_;rintro e w2 ⟨rfl,S2,vt2,T2,p1,p2⟩;have P1:=zZ p1;have P2:=zZ p2;clear p1 p2)
      all_goals
       go_wp2
       go_roundg k'
       case rel=>exact uO (zY P1) ((zY Q2).trans (zY P2)) (zY E) (zY HNV) (zY HNX) e1 e2 hn q7
       case measure=>omega
     ·have ha:=zY HACTV
      simp [jY] at ha
      go_region_with (go_at_call 91;refine(zY HACT).mono ?_;rintro e w2 ⟨rfl,S2,vt2,T2,p1,p2⟩;have P1:=zZ p1;have P2:=zZ p2;clear p1 p2)
      all_goals
       go_wp2
       go_roundg k'
       case rel=>exact uO (zY P1) ((zY Q2).trans (zY P2)) (zY E) (zY HNV) (zY HNX) e1 e2 hn q7
       case measure=>omega
     ·have ha:=zY HACTV
      simp [jY] at ha
      go_region_with (go_at_call 92;refine(zY HACT).mono ?_;rintro e w2 ⟨rfl,S2,vt2,T2,p1,p2⟩;have P1:=zZ p1;have P2:=zZ p2;clear p1 p2)
      all_goals
       go_wp2
       go_roundg k'
       case rel=>exact uO (zY P1) ((zY Q2).trans (zY P2)) (zY E) (zY HNV) (zY HNX) e1 e2 hn q7
       case measure=>omega
     ·have ha:=zY HACTV
      simp [jY] at ha
      go_region_with (go_at_call 93;refine(zY HACT).mono ?_;rintro e w2 ⟨rfl,S2,vt2,T2,p1,p2⟩;have P1:=zZ p1;have P2:=zZ p2;clear p1 p2)
      all_goals
       go_wp2
       go_roundg k'
       case rel=>exact uO (zY P1) ((zY Q2).trans (zY P2)) (zY E) (zY HNV) (zY HNX) e1 e2 hn q7
       case measure=>omega
   ·have e:=gX (ask:=ask) f n gk s' x' (fun hh=>hfi hh.2)
    have hfb:(s'.fin==0)=false:=by simpa using hfi
    have Q1:=zZ q1
    have Q2:=zZ q2
    have E:=zZ (q3.symm.trans e)
    clear q1 q2 q3 q4 e hfi
    generalize s'.next=nx at *
    generalize s'.fin=fi at *
    go_wp2
    go_end0
    rw [zY E]
    exact⟨rfl,S',vt',T',zY Q1,zY Q2⟩
  ·have e:=gX (ask:=ask) f n gk s' x' (fun hh=>hlt hh.1)
   have Q1:=zZ q1
   have Q2:=zZ q2
   have E:=zZ (q3.symm.trans e)
   clear q1 q2 q3 q4 e
   generalize s'.next=nx at *
   generalize s'.fin=fi at *
   go_wp2
   go_end0
   rw [zY E]
   exact⟨rfl,S',vt',T',zY Q1,zY Q2⟩
end
end Go.Proofs.YtfmbebofllgmoaaGreatDoor
namespace Go.Proofs.YtfmbebofllgmoaaGreatDoor
open Go.RowKit
section
variable {σ:Type} {ask:σ->Int->Int->Rep×σ}
theorem aJ (hk:nA ask) {N n:Nat} {f:Nat->O3}:∀(k:Nat) (s:PS) (x:σ),uN N s->uN N (hM ask f n k s x).1
 | 0,_,_,h=>h
 | k+1,s,x,h=>by
  unfold hM
  by_cases hc:s.next<n/\s.fin=0
  ·rw [if_pos hc]
   by_cases hf:s.fuel=0
   ·rw [if_pos hf];exact⟨h.fuel,h.clock,h.armings,h.trace⟩
   ·rw [if_neg hf]
    have h1:=h.fuel
    have h2:=h.armings
    have h3:=h.trace
    exact aJ hk k _ _ (aT hk _ _ _ ⟨⟨by show 0<=s.fuel-1;omega,by show s.fuel-1<=5000;omega⟩,h.clock,⟨h2.1,by show s.armings+(s.fuel-1)<=5000;omega⟩,by show s.trace.length+(s.fuel-1).toNat<=N;omega⟩
     (by show s.armings+(s.fuel-1)+1<=5000;omega) (by show s.trace.length+(s.fuel-1).toNat+1<=N;omega))
  ·rw [if_neg hc];exact h
structure vU (nt nf:Nat) (s:PS):Prop where
 wat:∀i,s.wat i=true->i<nf
 num:∀i,(s.tim i).1=true->i<nt/\(s.tim i).2.2.2=(i:Int)
 arm:∀i,(s.tim i).1=true->(s.tim i).2.2.1<=s.armings
 uni:∀i j,(s.tim i).1=true->(s.tim j).1=true->(s.tim i).2.2.1=(s.tim j).2.2.1->i=j
theorem vU.of {nt nf:Nat} {s s':PS} (h:vU nt nf s) (hw:s'.wat=s.wat) (ht:s'.tim=s.tim) (ha:s'.armings=s.armings):vU nt nf s':=by
 obtain⟨h1,h2,h3,h4⟩:=h
 exact⟨by rw [hw];exact h1,by rw [ht];exact h2,by rw [ht,ha];exact h3,by rw [ht];exact h4⟩
theorem jA {nt nf:Nat} {s:PS} (h:vU nt nf s) (R:Rep):vU nt nf (ckS s R):=by
 unfold ckS;exact yD (P:=vU nt nf) (yD (P:=vU nt nf) (h.of rfl rfl rfl) (h.of rfl rfl rfl)) (h.of rfl rfl rfl)
theorem yE9 {nt nf:Nat} {c a v:Int} {s:PS} (x:σ) (hr:yO c a v nt nf=true) (h:vU nt nf s):vU nt nf (opM ask (c,a,v) s x).1:=by
 have hc:=nP hr
 have hcs:c=1\/c=2\/c=3\/c=4\/c=5\/c=6\/c=7\/c=8\/c=9\/c=10\/c=11:=by omega
 rcases hcs with rfl | rfl | rfl | rfl | rfl | rfl | rfl | rfl | rfl | rfl | rfl
 ·exact h.of rfl rfl rfl
 ·exact h.of rfl rfl rfl
 ·obtain⟨q1,q2⟩:=oS hr (by omega)
  refine⟨h.wat,?_,?_,?_⟩
  ·intro i hi
   by_cases e:i=a.toNat
   ·subst e;simp [opM,upd];omega
   ·have h0:(opM ask (3,a,v) s x).1.tim i=s.tim i:=by simp [opM,upd,e]
    rw [h0] at hi ⊢;exact h.num i hi
  ·intro i hi
   have ha:(opM ask (3,a,v) s x).1.armings=s.armings+1:=by simp [opM]
   rw [ha]
   by_cases e:i=a.toNat
   ·subst e;simp [opM,upd]
   ·have h0:(opM ask (3,a,v) s x).1.tim i=s.tim i:=by simp [opM,upd,e]
    rw [h0] at hi ⊢
    have:=h.arm i hi
    omega
  ·have hne:∀i,i≠a.toNat->(opM ask (3,a,v) s x).1.tim i=s.tim i:=fun i e=>by simp [opM,upd,e]
   have heq:((opM ask (3,a,v) s x).1.tim a.toNat).2.2.1=s.armings+1:=by simp [opM,upd]
   intro i j hi hj he
   by_cases e:i=a.toNat
   ·by_cases e':j=a.toNat
    ·omega
    ·subst e
     rw [heq] at he
     rw [hne j e'] at hj he
     have:=h.arm j hj
     omega
   ·by_cases e':j=a.toNat
    ·subst e'
     rw [heq] at he
     rw [hne i e] at hi he
     have:=h.arm i hi
     omega
    ·rw [hne i e] at hi he
     rw [hne j e'] at hj he
     exact h.uni i j hi hj he
 ·have hne:∀i,((opM ask (4,a,v) s x).1.tim i).1=true->(opM ask (4,a,v) s x).1.tim i=s.tim i:=fun i e=>by
   by_cases e':i=a.toNat
   ·subst e';simp [opM,upd] at e
   ·simp [opM,upd,e']
  refine⟨h.wat,?_,?_,?_⟩
  ·intro i hi;have h0:=hne i hi;rw [h0] at hi ⊢;exact h.num i hi
  ·intro i hi;have h0:=hne i hi;rw [h0] at hi ⊢;exact h.arm i hi
  ·intro i j hi hj he
   have h0:=hne i hi
   have h1:=hne j hj
   rw [h0] at hi he
   rw [h1] at hj he
   exact h.uni i j hi hj he
 ·obtain⟨q1,q2⟩:=rR hr (by omega)
  refine⟨?_,h.num,h.arm,h.uni⟩
  intro i hi
  by_cases e:i=a.toNat
  ·omega
  ·simp [opM,upd,e] at hi;exact h.wat i hi
 ·obtain⟨q1,q2⟩:=rR hr (by omega)
  refine⟨?_,h.num,h.arm,h.uni⟩
  intro i hi
  by_cases e:i=a.toNat
  ·omega
  ·simp [opM,upd,e] at hi;exact h.wat i hi
 ·have hq:=jA h (ask x 1 0).1
  exact yD (P:=vU nt nf) (hq.of rfl rfl rfl) hq
 ·show vU nt nf (pE s (ask x 4 v).1 a.toNat)
  unfold pE;exact yD (P:=vU nt nf) (h.of rfl rfl rfl) (h.of rfl rfl rfl)
 ·exact h.of rfl rfl rfl
 ·exact yD (P:=vU nt nf) (h.of rfl rfl rfl) h
 ·exact h.of rfl rfl rfl
theorem nN {nt nf n:Nat} {f:Nat->O3} (hr:∀i,i<n->rt (f i) nt nf=true):∀(k:Nat) (s:PS) (x:σ),0<=s.next->vU nt nf s->vU nt nf (hM ask f n k s x).1
 | 0,_,_,_,h=>h
 | k+1,s,x,h0,h=>by
  unfold hM
  by_cases hc:s.next<n/\s.fin=0
  ·rw [if_pos hc]
   by_cases hf:s.fuel=0
   ·rw [if_pos hf];exact h.of rfl rfl rfl
   ·rw [if_neg hf]
    have hn:=jK (ask:=ask) (f s.next.toNat) {s with fuel:=s.fuel-1,next:=s.next+1} x
    refine nN hr k _ _ (by simp only at hn;omega) ?_
    have hrr:=hr s.next.toNat (by omega)
    exact yE9 x hrr (h.of rfl rfl rfl)
  ·rw [if_neg hc];exact h
def pk (ask:σ->Int->Int->Rep×σ) (n:Nat) (s:PS) (x:σ):Int×Bool×PS×σ:=
 if n=1 then (0,true,s,x) else (if (ask x 3 n).1.e=0 then (ask x 3 n).1.n else 0,decide ((ask x 3 n).1.e=0),hdS s (ask x 3 n).1,(ask x 3 n).2)
def wk1 (g:Int->PS->σ->PS×σ) (z:Int) (s:PS) (x:σ):PS×σ:=if s.wat z.toNat then g z {s with trace:=s.trace++[(2,z,0)]} x else (s,x)
def wkM (ask:σ->Int->Int->Rep×σ) (g:Int->PS->σ->PS×σ):Nat->List Int->PS->σ->PS×σ
 | 0,_,s,x=>(s,x)
 | k+1,l,s,x=>if l=[]\/s.fin≠0 then (s,x) else
  if (pk ask l.length s x).2.1 then wkM ask g k (l.eraseIdx (pk ask l.length s x).1.toNat) (wk1 g (l.getD (pk ask l.length s x).1.toNat 0) (pk ask l.length s x).2.2.1 (pk ask l.length s x).2.2.2).1 (wk1 g (l.getD (pk ask l.length s x).1.toNat 0) (pk ask l.length s x).2.2.1 (pk ask l.length s x).2.2.2).2
  else ((pk ask l.length s x).2.2.1,(pk ask l.length s x).2.2.2)
def zH7 (ask:σ->Int->Int->Rep×σ):Prop:=∀x (n:Nat),2<=n->n<=8->(ask x 3 n).1.e=0->0<=(ask x 3 n).1.n/\(ask x 3 n).1.n<n
theorem pk_lt (hk:zH7 ask) {n:Nat} (s:PS) (x:σ) (h1:1<=n) (h8:n<=8) (hb:(pk ask n s x).2.1=true):0<=(pk ask n s x).1/\(pk ask n s x).1<n:=by
 unfold pk at *
 by_cases e:n=1
 ·subst e;simp
 ·rw [if_neg e] at hb ⊢
  have he:(ask x 3 n).1.e=0:=by simpa using hb
  simp only [he,if_true]
  exact hk x n (by omega) h8 he
theorem fA (n:Nat) (s:PS) (x:σ):(pk ask n s x).2.2.1.fuel=s.fuel/\(pk ask n s x).2.2.1.clock=s.clock/\(pk ask n s x).2.2.1.armings=s.armings/\(pk ask n s x).2.2.1.trace=s.trace/\(pk ask n s x).2.2.1.wat=s.wat/\(pk ask n s x).2.2.1.tim=s.tim:=by
 unfold pk
 by_cases e:n=1
 ·rw [if_pos e];exact⟨rfl,rfl,rfl,rfl,rfl,rfl⟩
 ·rw [if_neg e];simp only [hdS]
  by_cases e':(ask x 3 n).1.e=0
  ·rw [if_pos e'];exact⟨rfl,rfl,rfl,rfl,rfl,rfl⟩
  ·rw [if_neg e'];exact⟨rfl,rfl,rfl,rfl,rfl,rfl⟩
theorem uN.of {N:Nat} {s s':PS} (h:uN N s) (h1:s'.fuel=s.fuel) (h2:s'.clock=s.clock) (h3:s'.armings=s.armings) (h4:s'.trace=s.trace):uN N s':=
 ⟨by rw [h1];exact h.fuel,by rw [h2];exact h.clock,by rw [h1,h3];exact h.armings,by rw [h1,h4];exact h.trace⟩
end
