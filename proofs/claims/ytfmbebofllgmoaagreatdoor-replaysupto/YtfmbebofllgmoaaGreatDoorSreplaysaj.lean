/-
  PROVED HERE: slices.Delete of one element of a list of intege
-/
import Derived.Deep.RegionLaw
import Derived.Lib.SliceRun
import Derived.Test.YtfmbebofllgmoaaGreatDoorSreplaysaf
set_option maxHeartbeats 4000000
set_option maxRecDepth 100000
namespace Go.Proofs.YtfmbebofllgmoaaGreatDoor
open Go.RowKit
theorem pJ (g e:Nat) (fr:Nat×Nat):∀(vs:List Value) (o:Nat) (w:World) (cur:Array Value),w.heap[g]?=some (.cells cur e fr)->
  ∃cur',(w.setCells g o vs).heap[g]?=some (.cells cur' e fr)/\cur'.size=cur.size
 | [],_,w,cur,h=>⟨cur,h,rfl⟩
 | v::vs,o,w,cur,h=>by
  have h1:(w.setCell ⟨g,o,none⟩ v).heap[g]?=some (.cells (cur.setIfInBounds o v) e fr):=by
   have h0:w.heap[g]?=some (.cells cur e fr):=h
   simp only [World.setCell,Array.getElem?_modify]
   rw [h0]
   simp
  obtain⟨cur',h2,h3⟩:=pJ g e fr vs (o+1) _ _ h1
  exact⟨cur',h2,by simpa using h3⟩
theorem pK (g:Nat):∀(vs:List Value) (o:Nat) (w:World) (q:Nat),q≠g->(w.setCells g o vs).heap[q]?=w.heap[q]?
 | [],_,_,_,_=>rfl
 | _::vs,o,_,q,h=>(pK g vs (o+1) _ q h).trans (zQ _ _ _ _ h)
theorem oE (g:Nat):∀(vs:List Value) (o:Nat) (w:World),(w.setCells g o vs).heap.size=w.heap.size/\(w.setCells g o vs).os=w.os/\(w.setCells g o vs).tape=w.tape/\(w.setCells g o vs).output=w.output
 | [],_,_=>⟨rfl,rfl,rfl,rfl⟩
 | v::vs,o,w=>by
  obtain⟨h1,h2,h3,h4⟩:=oE g vs (o+1) (w.setCell ⟨g,o,none⟩ v)
  exact⟨h1.trans (by simp [World.setCell]),h2,h3,h4⟩
theorem yM3 {w:World} {B g cap:Nat} {cur:Array Value} {l:List Int} (hb:w.heap[g]?=some (.cells cur 3 (0,0))) (hs:cur.size=cap) (hB:B<=g) (hl:l.length<=cap) (hm:cap<=maxLen)
  (hc:∀j,j<l.length->w.cell? ⟨g,j,none⟩=some (.int .i64 (l.getD j 0))):yZ w B (.slice (some ⟨g,0,none⟩) l.length cap) l:=by
 refine⟨by simp,.inr ⟨g,cap,cur,rfl,hB,hb,hl,hm,by omega,?_⟩⟩
 apply List.ext_getElem?
 intro j
 by_cases hj:j<l.length
 ·have h1:=hc j hj
  rw [cell_of_row w g j cur 3 (0,0) hb] at h1
  rw [List.getElem?_take]
  simp only [Nat.mul_one,hj,if_true]
  rw [Array.getElem?_toList,h1]
  simp [List.getD,hj]
 ·rw [List.getElem?_eq_none (by simp;omega),List.getElem?_eq_none (by simp;omega)]
theorem xI {w:World} {B:Nat} {v:Value} {l:List Int} (h:yZ w B v l) (hl:0<l.length):∃g cap cur,v=.slice (some ⟨g,0,none⟩) l.length cap/\B<=g/\w.heap[g]?=some (.cells cur 3 (0,0))/\l.length<=cap/\cap<=maxLen/\cur.size=cap/\
  (∀j,j<l.length->w.cell? ⟨g,j,none⟩=some (.int .i64 (l.getD j 0))):=by
 rcases h.2 with ⟨_,h0⟩ | ⟨g,cap,cur,hv,hB,hg,h1,h2,h3,h4⟩
 ·omega
 refine⟨g,cap,cur,hv,hB,hg,h1,h2,by omega,fun j hj=>?_⟩
 rw [cell_of_row w g j cur 3 (0,0) hg]
 have h5:=congrArg (fun q:List Value=>q[j]?) h4
 simp only [List.getElem?_take,Nat.mul_one,hj,if_true,Array.getElem?_toList] at h5
 rw [h5]
 simp [List.getD,hj]
def uR (l:List Int) (k:Nat):List Value:=(l.drop (k+1)).map (Value.int .i64)
theorem sE (l:List Int) (k:Nat):(uR l k).length=l.length-(k+1):=by simp [uR]
theorem eS (l:List Int) (k j:Nat) (hj:j<l.length-(k+1)):(uR l k)[j]?=some (.int .i64 (l.getD (k+1+j) 0)):=by
 simp [uR,List.getD,show k+1+j<l.length by omega]
theorem zero3 (w:World):(zeroValue 3).run Tryz.prog w=.ok (.int .i64 0) w:=by kernel_rfl
theorem eE {w:World} {g:Nat} {cur:Array Value} (hb:w.heap[g]?=some (.cells cur 3 (0,0))) (j:Nat):w.frozen? ⟨g,j,none⟩=false:=by simp [World.frozen?,hb]
theorem bX {w:World} {g cap k r:Nat} {cur:Array Value} {l:List Int} (hb:w.heap[g]?=some (.cells cur 3 (0,0))) (hs:cur.size=cap) (hL:l.length=k+1+r)
  (hc:∀j,j<l.length->w.cell? ⟨g,j,none⟩=some (.int .i64 (l.getD j 0))):∀W1,w.drew.setCells g k (uR l k)=W1->
  (∃cur',(W1.setCells g (k+r) [.int .i64 0]).heap[g]?=some (.cells cur' 3 (0,0))/\cur'.size=cap)/\
  (W1.cell? ⟨g,k+r,none⟩).isSome=true/\W1.frozen? ⟨g,k+r,none⟩=false/\
  (∀j,j<(l.eraseIdx k).length->(W1.setCells g (k+r) [.int .i64 0]).cell? ⟨g,j,none⟩=some (.int .i64 ((l.eraseIdx k).getD j 0)))/\
  w.grownBy (W1.setCells g (k+r) [.int .i64 0]) (some g):=by
 rintro W1 rfl
 have hml:(uR l k).length=r:=by rw [sE,hL];omega
 obtain⟨c1,hc1,hs1⟩:=pJ g 3 (0,0) (uR l k) k w.drew cur hb
 obtain⟨c2,hc2,hs2⟩:=pJ g 3 (0,0) [.int .i64 0] (k+r) _ _ hc1
 have hsome:∀j,j<(uR l k).length->(w.drew.cell? ⟨g,k+j,none⟩).isSome=true:=fun j hj=>by
  show (w.cell? _).isSome=true
  rw [hc (k+j) (by omega)];rfl
 refine⟨⟨c2,hc2,by omega⟩,?_,?_,?_,?_⟩
 ·rw [World.cell?_setCells_out g _ _ _ _ (fun _ _=>Or.inr (by show k+(uR l k).length<=k+r;omega))]
  show (w.cell? _).isSome=true
  rw [hc (k+r) (by omega)];rfl
 ·rw [World.frozen?_setCells]
  exact eE (w:=w.drew) hb _
 ·intro j hj
  rw [List.length_eraseIdx_of_lt (by omega)] at hj
  rw [World.cell?_setCells_out g _ _ _ _ (fun _ _=>Or.inl (by show j<k+r;omega))]
  by_cases hk:j<k
  ·rw [World.cell?_setCells_out g _ _ _ _ (fun _ _=>Or.inl (by show j<k;omega))]
   refine(hc j (by omega)).trans ?_
   simp [List.getD,List.getElem?_eraseIdx,hk]
  ·have h1:=World.cell?_setCells_in g (uR l k) k w.drew hsome (j-k) (by omega)
   rw [show k+(j-k)=j by omega] at h1
   rw [h1,<-List.getElem?_eq_getElem (by omega),eS l k (j-k) (by omega)]
   simp only [List.getD,List.getElem?_eraseIdx,hk,if_false,show k+1+(j-k)=j+1 by omega]
 ·obtain⟨a1,a2,a3,a4⟩:=oE g (uR l k) k w.drew
  obtain⟨b1,b2,b3,b4⟩:=oE g [.int .i64 0] (k+r) (w.drew.setCells g k (uR l k))
  exact⟨b2.trans (a2.trans rfl),b3.trans (a3.trans rfl),b4.trans (a4.trans rfl),Nat.le_of_eq (b1.trans a1).symm,fun q _ hq=>
   (pK g _ _ _ q (fun e=>hq (congrArg some e))).trans ((pK g _ _ _ q (fun e=>hq (congrArg some e))).trans rfl)⟩
theorem fU {w:World} {B:Nat} {v:Value} {l:List Int} (h:yZ w B v l) (k r:Nat) (hL:l.length=k+1+r) :
  Calls Tryz.prog 119 #[v,.int .i64 k,.int .i64 ((k:Int)+1)] w fun e w'=>∃v',e=.returned v'/\yZ w' B v' (l.eraseIdx k)/\w.grownBy w' v.ownBlock/\v'.ownBlock=v.ownBlock:=by
 obtain⟨g,cap,cur,rfl,hB,hg,hl,hm,hs,hc⟩:=xI h (by omega)
 obtain⟨i0,hi0,hz0,hz1,hz2⟩:=info3
 have hfr:=fun j=>eE hg j
 obtain⟨A,hA,hnews⟩ : ∃A:Addr,(if cap=k+1 then some (⟨g,0,none⟩ : Addr) else some ⟨g,k+1,none⟩)=some A/\Hid (∀j u,(uR l k)[j]?=some u->w.drew.cell? (A.add j)=some u):=by
  by_cases e:cap=k+1
  ·refine⟨⟨g,0,none⟩,by simp [e],fun j u hu=>?_⟩
   have h0:(uR l k).length=0:=by rw [sE];omega
   rw [List.length_eq_zero_iff.1 h0] at hu
   simp at hu
  ·refine⟨⟨g,k+1,none⟩,by simp [e],fun j u hu=>?_⟩
   have hj:j<l.length-(k+1):=by
    have:=(List.getElem?_eq_some_iff.1 hu).1
    rwa [sE] at this
   rw [eS l k j hj] at hu
   rw [Addr.add_lit]
   exact(hc (k+1+j) (by omega)).trans hu
 have s1:Hid ((uR l k).length=r*1):=by show (uR l k).length=r*1;rw [Nat.mul_one,sE l k,hL];omega
 have s2:Hid (∀u∈uR l k,u.oneCell'=true):=by
  intro u hu
  obtain⟨x,_,rfl⟩:=List.mem_map.1 hu
  rfl
 have s3:Hid (∀j,j<(uR l k).length->(w.drew.cell? ⟨g,0+k*1+j,none⟩).isSome=true/\w.drew.frozen? ⟨g,0+k*1+j,none⟩=false):=by
  intro j hj
  rw [sE] at hj
  rw [Nat.mul_one,Nat.zero_add]
  exact⟨by show (w.cell? _).isSome=true;rw [hc (k+j) (by omega)];rfl,hfr (k+j)⟩
 have HI:=zZ hi0
 have HC:=zZ hc
 have HG:=zZ hg
 have HM:=zZ hm
 have HL:=zZ hL
 have HS:=zZ hs
 rw [hL]
 rw [hL] at hl
 have hic:k<=cap:=by omega
 have hp0:(0:Int)<=(k:Int)+1:=by omega
 have hp1:(k:Int)+1<=((k+1+r:Nat):Int):=by omega
 have hp2:((k:Int)+1).toNat=k+1:=by omega
 have hp3:((k+1+r:Nat):Int)<=(cap:Int):=by omega
 have hp4:(k:Int)<=(k:Int)+1:=by omega
 have hp6:(k:Int)+1<=(k:Int)+1+(r:Int):=by omega
 have hp7:(k:Int)+1+(r:Int)<=(cap:Int):=by omega
 have hp5:k+r<=k+1+r:=by omega
 have hne:((k:Int)==(k:Int)+1)=false:=by simp;omega
 clear hc h hi0 hz0 hg hm hfr hL hs
 go_enter Tryz.func119,Tryz.ntmps119
 go_wp2_with fail
 go_region_law (refine step_append_room rfl (.tmp 22) (.tmp 25) 26 rfl 3 i0 1 Tryz.underlying26 (HI.out) hz1 g 0 k cap (by simp [Act.eval,Act.put]) A r (cap-(k+1)) (uR l k) (by simp [Act.eval,Act.put]) s1.out hnews.out s2.out (by omega) s3.out ?_)
 generalize hW1:w.drew.setCells g k (uR l k)=W1
 have DW:=zZ (bX HG.out HS.out HL.out HC.out W1 hW1)
 clear hW1
 have hclear:(Builtin.clear_ #[26] 0 #[.slice (some ⟨g,k+r,none⟩) 1 (cap-(k+r))]).run Tryz.prog W1=.ok (.tuple #[]) (W1.setCells g (k+r) [.int .i64 0]):=by
  refine Go.Lib.run_clear_slice W1 26 3 0 (.int .i64 0) Tryz.underlying26 zero3 rfl rfl g (k+r) 1 (cap-(k+r)) (by omega) ?_ ?_
  ·intro j hj
   obtain rfl:j=0:=by omega
   exact DW.out.2.1
  ·intro j hj
   obtain rfl:j=0:=by omega
   exact DW.out.2.2.1
 have hq0:(0:Int)<=(k:Int)+r:=by omega
 have hq1:(k:Int)+r<=(k:Int)+1+r:=by omega
 have hq2:((k:Int)+r).toNat=k+r:=by omega
 have hq3:k+1+r-(k+r)=1:=by omega
 have hq4:(cap=k+r)=False:=by simp;omega
 have hq5:((k:Int)+1+r).toNat=k+1+r:=by omega
 go_wp2_with fail
 obtain⟨⟨c2,d1,d2⟩,_,_,d3,d4⟩:=DW.out
 have hE:(l.eraseIdx k).length=k+r:=by rw [List.length_eraseIdx_of_lt (by have:=HL.out;omega),HL.out];omega
 go_ret
 refine⟨_,rfl,?_,d4,rfl⟩
 have h9:=yM3 d1 d2 hB (by omega) HM.out d3
 rwa [hE] at h9
end Go.Proofs.YtfmbebofllgmoaaGreatDoor
namespace Go.Proofs.YtfmbebofllgmoaaGreatDoor
open Go.RowKit
attribute [local go_sem ↓] Go.wp_at_zero Go.wp_at_succ
theorem yZ.weaken {w:World} {B B':Nat} {v:Value} {l:List Int} (h:yZ w B v l) (hB:B'<=B):yZ w B' v l:=by
 refine⟨h.1,?_⟩
 rcases h.2 with hn | ⟨g,cap,cur,hv,hb,r⟩
 ·exact .inl hn
 ·exact .inr ⟨g,cap,cur,hv,Nat.le_trans hB hb,r⟩
theorem yZ.fr {S S':Nat->Prop} {w w':World} {B:Nat} {v:Value} {l:List Int} (h:yZ w B v l) (hf:Fr S w w' S') (hq:∀q,v.ownBlock=some q->q<w.heap.size/\¬S q):yZ w' B v l:=
 yA h (fun q e=>hf.same q (hq q e).1 (hq q e).2)
theorem Fr.notIn {S S':Nat->Prop} {w w':World} {v:Value} (hf:Fr S w w' S') (hq:∀q,v.ownBlock=some q->q<w.heap.size/\¬S q):∀q,v.ownBlock=some q->¬S' q:=
 fun q e hs=>(hq q e).2 (hf.old q (hq q e).1 hs)
theorem yZ.len {w:World} {B:Nat} {v:Value} {l:List Int} (h:yZ w B v l):∃a c,v=.slice a l.length c:=by
 rcases h.2 with ⟨hv,h0⟩ | ⟨g,cap,cur,hv,_⟩
 ·have h1:l.length=0:=h0
  exact⟨none,0,by rw [h1];exact hv⟩
 ·exact⟨_,_,hv⟩
section
variable {σ:Type} {SA:(Nat->Prop)->World->σ->Prop} {ask:σ->Int->Int->Rep×σ} {may:Int->Int->Prop} {B:Nat} {S T:Nat->Prop} {w:World} {b:Nat} {pv:Nat->Value} {vt:Value} {s:PS} {x:σ}
theorem yF3 (L:xC SA) {rb tyS fnS:Nat} (K:uE SA ask may B rb tyS fnS) (hp:pv 3=.iface tyS (.pointer (some ⟨rb,0,none⟩))) (h:RI SA B S w b pv vt T s x) (n:Nat) (hm:∀n:Nat,2<=n->n<=8->may 3 n) (h1:1<=n) (h8:n<=8) :
  Calls Tryz.prog 118 #[.pointer (some ⟨b,0,none⟩),.int .i64 n] w fun e w'=>e=.returned (.tuple #[.int .i64 (pk ask n s x).1,.bool (pk ask n s x).2.1])/\∃S' T',RI SA B S' w' b pv vt T' (pk ask n s x).2.2.1 (pk ask n s x).2.2.2/\Fr S w w' S':=by
 by_cases e:n=1
 ·subst e
  have e0:pk ask 1 s x=(0,true,s,x):=rfl
  rw [e0]
  exact yF5.mono fun e w' ⟨he,hw⟩=>⟨he,S,T,by rw [hw];exact h,by rw [hw];exact Fr.refl S w⟩
 ·have e0:pk ask n s x=(if (ask x 3 n).1.e=0 then (ask x 3 n).1.n else 0,decide ((ask x 3 n).1.e=0),hdS s (ask x 3 n).1,(ask x 3 n).2):=if_neg e
  rw [e0]
  exact yF4 L K hp h n (hm n (by omega) h8) (by omega)
theorem yJ.alloc {w:World} {v:Value} {l:List Int} {P P':Nat->Prop} (h:yJ w v l P) (o:Obj) (hP:∀q,P q->q<w.heap.size/\P' q):yJ (w.alloc o) v l P':=by
 obtain⟨a,c,hv,hc⟩:=h
 refine⟨a,c,hv,?_⟩
 rcases hc with hc | ⟨q,off,ha,hp,hc⟩
 ·exact .inl hc
 ·exact .inr ⟨q,off,ha,(hP q hp).2,fun i hi=>(zO (w:=w) (a:=⟨q,off+i,none⟩) (zR _ _ _ (hP q hp).1)).trans (hc i hi)⟩
theorem jT (g:Int->PS->σ->PS×σ) (k:Nat) (l:List Int) (s:PS) (x:σ) (h:l=[]\/s.fin≠0):wkM ask g k l s x=(s,x):=by
 cases k with
 | zero=>rfl
 | succ k=>simp only [wkM];rw [if_pos h]
theorem cD (g:Int->PS->σ->PS×σ) (k:Nat) (l:List Int) (s:PS) (x:σ) (hl:l≠[]) (hf:s.fin=0) {n:Int} {ok:Bool} {s4:PS} {x4:σ} (hpk:pk ask l.length s x=(n,ok,s4,x4)) :
  wkM ask g (k+1) l s x=if ok then wkM ask g k (l.eraseIdx n.toNat) (wk1 g (l.getD n.toNat 0) s4 x4).1 (wk1 g (l.getD n.toNat 0) s4 x4).2 else (s4,x4):=by
 simp only [wkM]
 rw [if_neg (by simp [hl,hf]),hpk]
def WRel (SA:(Nat->Prop)->World->σ->Prop) (ask:σ->Int->Int->Rep×σ) (B:Nat) (S:Nat->Prop) (w:World) (b:Nat) (pv:Nat->Value) (g:Int->PS->σ->PS×σ) (nt nf N:Nat) (fin:PS×σ) (k:Nat) (u:Value) (wr:World):Prop:=
 ∃S' vt' T' s' x' l,RI SA B S' wr b pv vt' T' s' x'/\Fr S w wr S'/\yZ wr w.heap.size u l/\(∀q,u.ownBlock=some q->¬S' q)/\wkM ask g k l s' x'=fin/\uN N s'/\s'.trace.length+s'.fuel.toNat+l.length<=N/\vU nt nf s'/\(∀z,z∈l->0<=z/\z<8)/\l.length<=k/\k<=8
theorem qZ {w0 w5:World} {S5:Nat->Prop} (hbel:Below w0.heap.size w0 w) (hB:B=w0.heap.size) (hSB:∀k,S k->B<=k) (hBw:B<=w.heap.size) (f:Fr S w w5 S5):Below w0.heap.size w0 w5:=
 hbel.trans (hB▸f.below hSB hBw)
theorem bS {wr w3 w4:World} {S3 S4 S5 T5:Nat->Prop} {vt5:Value} {s5:PS} {x5:σ} {g:Int->PS->σ->PS×σ} {nt nf N k' i:Nat} {fin:PS×σ} {l:List Int} {v v4:Value} {w5:World}
  (r5:RI SA B S5 w5 b pv vt5 T5 s5 x5) (f3:Fr S w wr S3) (f4:Fr S3 wr w3 S4) (g4:w3.grownBy w4 v.ownBlock) (f5:Fr S4 w4 w5 S5) (hg1:∀q,v.ownBlock=some q->q<wr.heap.size/\¬S3 q) (ho:yZ wr w.heap.size v l)
  (o4:yZ w4 w.heap.size v4 (l.eraseIdx i)) (b4:v4.ownBlock=v.ownBlock) (hil:i<l.length) (e:wkM ask g k' (l.eraseIdx i) s5 x5=fin) (hq:uN (N-(l.length-1)) s5) (hw:vU nt nf s5) (hl:∀z,z∈l->0<=z/\z<8) (hlk:l.length<=k'+1) (hk8:k'+1<=8) (hN:8<=N) :
  WRel SA ask B S w b pv g nt nf N fin k' v4 w5:=by
 have hb4:∀q,v4.ownBlock=some q->q<w4.heap.size/\¬S4 q:=fun q hq'=>by
  rw [b4] at hq'
  exact⟨zT (hg1 q hq').1 (Nat.le_trans f4.size g4.size),f4.notIn hg1 q hq'⟩
 have hlen:(l.eraseIdx i).length=l.length-1:=List.length_eraseIdx_of_lt hil
 have h1:=hq.trace
 refine⟨S5,vt5,T5,s5,x5,l.eraseIdx i,r5,((f3.trans f4).grown g4 (fun q hq'=>(ho.lt q hq').1)).trans f5,o4.fr f5 hb4,f5.notIn hb4,e,⟨hq.fuel,hq.clock,hq.armings,by omega⟩,by rw [hlen];omega,hw,fun z hz=>hl z (List.mem_of_mem_eraseIdx hz),by rw [hlen];omega,by omega⟩
theorem yI0 (L:xC SA) {rb tyS fnS:Nat} (K:uE SA ask may B rb tyS fnS) (hp:pv 3=.iface tyS (.pointer (some ⟨rb,0,none⟩))) (hm:may 1 0) (hm2:may 2 0) (hm3:∀n:Nat,2<=n->n<=8->may 3 n) (hm4:∀v,1<=v->v<=1000000->may 4 v) (hk:nA ask) (hkp:zH7 ask)
  {w0:World} (hB:B=w0.heap.size) (hbel:Below w0.heap.size w0 w) (h:RI SA B S w b pv vt T s x) {N nt nf:Nat} {fl:Nat->Nat} {ff:Nat->Nat->O3} (hv:yV w0 (pv 2) nf fl ff) (hn:∀i,i<nf->fl i<=32) (hnt:nt<=8) (hnf:nf<=8) (hr:∀i,i<nf->∀j,j<fl i->rt (ff i j) nt nf=true)
  (hq:uN N s) (hN:N+8<=100000000) (hw:vU nt nf s) (hfil:∀z,z∈(ask x 2 0).1.files->0<=z/\z<8) (hfl8:(ask x 2 0).1.files.length<=8) :
  Calls Tryz.prog 97 #[.pointer (some ⟨b,0,none⟩)] w fun e w'=>e=.returned (.tuple #[])/\
   pU SA B S w b pv (if (ask x 2 0).1.e=0 then wkM ask (fun z s x=>hM ask (ff z.toNat) (fl z.toNat) (fl z.toNat) {s with next:=0} x) 8 ((ask x 2 0).1.files.filter fun z=>s.wat z.toNat) {s with heard:=wrap64 (s.heard+1)} (ask x 2 0).2 else ({s with fin:=(ask x 2 0).1.e},(ask x 2 0).2)).1
    (if (ask x 2 0).1.e=0 then wkM ask (fun z s x=>hM ask (ff z.toNat) (fl z.toNat) (fl z.toNat) {s with next:=0} x) 8 ((ask x 2 0).1.files.filter fun z=>s.wat z.toNat) {s with heard:=wrap64 (s.heard+1)} (ask x 2 0).2 else ({s with fin:=(ask x 2 0).1.e},(ask x 2 0).2)).2 w':=by
 have hc:=jG L K hp h 2 0 hm2
 generalize ask x 2 0=R at *
 obtain⟨⟨rk,ro,rn,rf,re⟩,x'⟩:=R
 have HSB:=zZ (fun k (hk:S k)=>(h.bound k hk).1)
 have HBW:=zZ (show B<=w.heap.size by have:=h.bound b h.inB;omega)
 have HBEL:=zZ hbel
 have HBE:=zZ hB
 have HV:=zZ hv
 have HR:=zZ hr
 have HC:=zZ hc
 have HN:=zZ hn
 simp only at hfil hfl8 ⊢
 have HQ:=zZ hq
 have HW:=zZ hw
 have HFI:=zZ hfil
 clear hc h hbel hB hv hr hn hq hw hfil
 by_cases hre:re=0
 ·rw [if_pos hre]
  generalize hfin:wkM ask (fun z s x=>hM ask (ff z.toNat) (fl z.toNat) (fl z.toNat) {s with next:=0} x) 8 (rf.filter fun z=>s.wat z.toNat) {s with heard:=wrap64 (s.heard+1)} x'=fin
  have HFIN:=zZ hfin
  have HRE:=zZ hre
  clear hre hfin
  go_enter Tryz.func97,Tryz.ntmps97
  go_wp2_with (first | (go_at_call 113;refine(zY HC).mono ?_;rintro e w1 ⟨S',T',fv,r1,r2,r3⟩;rw [if_pos (zY HRE)] at r1 r3;obtain⟨r3,ri⟩:=r3;have RIN:=zZ ri;obtain⟨fa,fc,rfl,_⟩:=ri;subst r3;have R1:=zZ r1;have R2:=zZ r2;clear r1 r2) | (go_at_call 117;refine(zW5 L ((zY R1).alloc L _) _ rf ((zY RIN).alloc _ (fun q hq=>⟨hq.2.1,by simp;omega,hq.2.2⟩)) hfl8 (zY HFI)).mono ?_;rintro e w2 ⟨v2,rfl,o2,q1,q2⟩;have O2:=zZ o2;have Q1:=zZ q1;have Q2:=zZ q2;clear o2 q1 q2))
  go_loopg [4] 8 (fun k u wr=>WRel SA ask B S w b pv (fun z s x=>hM ask (ff z.toNat) (fl z.toNat) (fl z.toNat) {s with next:=0} x) nt nf (N+8) fin k u wr)
  case atStart=>
   have o2:=zY O2
   have hsz:=((zY R2).alloc (.cells #[.int .i64 rk,.int .i64 ro,.int .i64 rn,.slice fa rf.length fc] 49)).size
   have hq:=zY HQ
   have hle:=List.length_filter_le (fun z=>s.wat z.toNat) rf
   have htr:=hq.trace
   refine⟨S',vt,T',_,x',_,zY Q1,((zY R2).alloc _).trans (zY Q2),o2.weaken hsz,?_,zY HFIN,⟨hq.fuel,hq.clock,hq.armings,by show s.trace.length+s.fuel.toNat<=N+8;omega⟩,?_,(zY HW).of rfl rfl rfl,?_,by show (rf.filter fun z=>s.wat z.toNat).length<=8;omega,Nat.le_refl 8⟩
   ·intro q hq hs
    have h1:=(o2.lt q hq).1
    have h2:=(((zY R1).alloc L (.cells #[.int .i64 rk,.int .i64 ro,.int .i64 rn,.slice fa rf.length fc] 49)).bound q hs).2
    omega
   ·show s.trace.length+s.fuel.toNat+(rf.filter fun z=>s.wat z.toNat).length<=N+8
    omega
   ·intro z hz
    exact zY HFI z (List.mem_filter.1 hz).1
  case round=>
   obtain⟨S3,vt3,T3,s3,x3,l,r1,r2,ho,hS3,hfin,hq3,htr,hw3,hl3,hlk,hk8⟩:=hrel
   have c66:=(r1.cell 66 (by omega)).trans (by rw [tU])
   obtain⟨la,lc,rfl⟩:=ho.len
   by_cases hl0:l=[]
   ·have e:=hfin.symm.trans (jT _ gk l s3 x3 (.inl hl0))
    have hlen:l.length=0:=by rw [hl0];rfl
    have R1':=zZ r1
    have R2':=zZ r2
    have E:=zZ e
    clear r1 r2 e hfin hq3 htr hw3 hl3 ho hS3
    rw [hlen]
    go_wp2
    go_end0
    rw [zY E]
    exact⟨rfl,S3,vt3,T3,zY R1',zY R2'⟩
   ·have hpos:0<l.length:=List.length_pos_iff.2 hl0
    by_cases hfi:s3.fin=0
    ·obtain⟨g,cap,cur,hval,hgB,hg,_,_,_,hcell⟩:=xI ho hpos
     injection hval with e1 e2 e3
     subst e1 e3
     obtain⟨k',rfl⟩ : ∃k',gk=k'+1:=⟨gk-1,by omega⟩
     have hgS:¬S3 g:=hS3 g rfl
     have hgl:g<wr.heap.size:=(ho.lt g rfl).2
     have h98:=yF3 L K hp r1 l.length hm3 hpos (by omega)
     have hlt:=pk_lt hkp (n:=l.length) s3 x3 hpos (by omega)
     obtain⟨p1,p2,p3,p4,p5,p6⟩:=fA (ask:=ask) l.length s3 x3
     have hst:=fun n ok s4 x4=>cD (ask:=ask) (fun z s x=>hM ask (ff z.toNat) (fl z.toNat) (fl z.toNat) {s with next:=0} x) k' l s3 x3 hl0 hfi (n:=n) (ok:=ok) (s4:=s4) (x4:=x4)
     generalize hpk:pk ask l.length s3 x3=P at *
     obtain⟨n,ok,s4,x4⟩:=P
     have hfin':=hfin.symm.trans (hst n ok s4 x4 rfl)
     simp only at p1 p2 p3 p4 p5 p6 hlt h98
     clear hst hfin hpk
     have hfb:(s3.fin==0)=true:=by simpa using hfi
     have R1':=zZ r1
     have R2':=zZ r2
     have HO:=zZ ho
     have H98:=zZ h98
     cases ok
     ·have E:=zZ hfin'
      clear r1 r2 ho h98 hfin' hcell hq3 htr hw3 hl3 hlt hS3 hg
      generalize s3.fin=fi at *
      go_wp2_with (go_at_call 118;refine(zY H98).mono ?_;rintro e w3 ⟨rfl,S4,T4,r4,f4⟩;have R4:=zZ r4;have F4:=zZ f4;clear r4 f4)
      refine bodyPost_ret (v:=.tuple #[]) (by simp [results,Tryz.results97,go_sem]) rfl ?_
      have e:=zY E
      simp only [Bool.false_eq_true,if_false] at e
      rw [e]
      exact⟨rfl,S4,vt3,T4,zY R4,(zY R2').trans (zY F4)⟩
     ·obtain⟨hn0,hn1⟩:=hlt rfl
      obtain⟨i,rfl⟩ : ∃i:Nat,n=i:=⟨n.toNat,by omega⟩
      rw [if_pos rfl,Int.toNat_natCast] at hfin'
      have hil:i<l.length:=by omega
      have hz:l.getD i 0∈l:=by simp [List.getD,hil]
      have hzb:=hl3 _ hz
      have hcz:=hcell i hil
      have hL:l.length=i+1+(l.length-(i+1)):=by omega
      generalize hgz:l.getD i 0=z at *
      have hg1:∀q,Value.ownBlock (.slice (some ⟨g,0,none⟩) l.length lc)=some q->q<wr.heap.size/\¬S3 q:=fun q hq=>⟨(ho.lt q hq).2,hS3 q hq⟩
      have HG1:=zZ hg1
      have HL:=zZ hL
      have E:=zZ hfin'
      have HQ3:=zZ hq3
      have HT3:=zZ htr
      have HW3:=zZ hw3
      have HL3:=zZ hl3
      have hi0:(0:Int)<=(i:Int):=by omega
      have hi1:(i:Int)<(l.length:Int):=by omega
      have hwr:IntKind.i64.wrap ((i:Int)+1)=(i:Int)+1:=by rw [IntKind.wrap_i64];omega
      have HP:=zZ (show s4.fuel=s3.fuel/\s4.clock=s3.clock/\s4.armings=s3.armings/\s4.trace=s3.trace/\s4.wat=s3.wat/\s4.tim=s3.tim from ⟨p1,p2,p3,p4,p5,p6⟩)
      clear p1 p2 p3 p4 p5 p6
      obtain⟨z0,z8⟩:=hzb
      cases hwz:s4.wat z.toNat
      ·clear r1 r2 ho h98 hcell hfin' hq3 htr hw3 hl3 hlt hS3 hg hL hg1 hz
       have HWZ:=zZ hwz
       clear hwz
       generalize s3.fin=fi at *
       go_wp2_with (first | (go_at_call 118;refine(zY H98).mono ?_;rintro e w3 ⟨rfl,S4,T4,r4,f4⟩;have R4:=zZ r4;have F4:=zZ f4;have cz:=(f4.cell g i hgl hgS).trans hcz;clear r4 f4) | (go_at_call 119;refine(fU ((zY HO).fr (zY F4) (zY HG1)) i _ (zY HL)).mono ?_;rintro e w4 ⟨v4,rfl,o4,g4,b4⟩;have q4:=(zY R4).grown L g4 ((zY F4).notIn (zY HG1));have cw:=(q4.cell (56+z.toNat) (by omega)).trans (by rw [qM _ _ _ _ (by omega),zY HWZ]);have Q4:=zZ q4;clear q4;have O4:=zZ o4;have G4:=zZ g4;have B4:=zZ b4;clear o4 g4 b4))
       go_roundg k'
       case rel=>
        obtain⟨p1,p2,p3,p4,p5,p6⟩:=zY HP
        have hq3:=zY HQ3
        have ht3:=zY HT3
        have e:wk1 (fun z s x=>hM ask (ff z.toNat) (fl z.toNat) (fl z.toNat) {s with next:=0} x) z s4 x4=(s4,x4):=by unfold wk1;rw [if_neg (by rw [zY HWZ];simp)]
        have E':=zY E
        rw [e] at E'
        exact bS (zY Q4) (zY R2') (zY F4) (zY G4) (Fr.refl S4 w4) (zY HG1) (zY HO) (zY O4) (zY B4) hil E'.symm
         ⟨by rw [p1];exact hq3.fuel,by rw [p2];exact hq3.clock,by rw [p1,p3];exact hq3.armings,by rw [p1,p4];omega⟩ ((zY HW3).of p5 p6 p3) (zY HL3) hlk hk8 (by omega)
       case measure=>omega
      ·have hznf:z.toNat<nf:=hw3.wat _ (by rw [<-(zY HP).2.2.2.2.1];exact hwz)
       obtain⟨ha,hcap,hpv,_,hh⟩:=zY HV
       rcases hh with hh | ⟨hb,hoff,rfl,hh⟩
       ·omega
       obtain⟨vi,hvi,hops⟩:=hh z.toNat hznf
       have hhb:hb<w0.heap.size:=zU w0 _ hvi
       have HVI:=zZ hvi
       have HOPS:=zZ hops
       have HWZ:=zZ hwz
       have HPV:=zZ hpv
       have hznf':z<(nf:Int):=by omega
       have hN5:N+8-(l.length-1)<=100000000:=by omega
       have HQ5:Hid (uN (N+8-(l.length-1)) {s4 with trace:=s4.trace++[(2,z,0)]}):=by
        obtain⟨p1,p2,p3,p4,p5,p6⟩:=zY HP
        have hf:=hq3.fuel
        exact zZ ⟨by show 0<=s4.fuel/\s4.fuel<=5000;rw [p1];exact hq3.fuel,by show 0<=s4.clock/\s4.clock<=1099511627776;rw [p2];exact hq3.clock,by show 0<=s4.armings/\s4.armings+s4.fuel<=5000;rw [p1,p3];exact hq3.armings,
         by show (s4.trace++[(2,z,0)]).length+s4.fuel.toNat<=_;rw [p1,p4,List.length_append];simp only [List.length_cons,List.length_nil];omega⟩
       have HSM:Hid (fL s4.trace.length):=by
        have p4:=(zY HP).2.2.2.1
        exact zZ (by unfold fL;rw [p4];omega)
       clear r1 r2 ho h98 hcell hfin' hq3 htr hw3 hl3 hlt hS3 hg hL hg1 hz hwz hh hvi hops hpv
       generalize s3.fin=fi at *
       go_wp2_with (first | (go_at_call 118;refine(zY H98).mono ?_;rintro e w3 ⟨rfl,S4,T4,r4,f4⟩;have R4:=zZ r4;have F4:=zZ f4;have cz:=(f4.cell g i hgl hgS).trans hcz;clear r4 f4) | (go_at_call 119;refine(fU ((zY HO).fr (zY F4) (zY HG1)) i _ (zY HL)).mono ?_;rintro e w4 ⟨v4,rfl,o4,g4,b4⟩;have q4:=(zY R4).grown L g4 ((zY F4).notIn (zY HG1));have cw:=(q4.cell (56+z.toNat) (by omega)).trans (by rw [qM _ _ _ _ (by omega),zY HWZ]);have Q4:=zZ q4;clear q4;have O4:=zZ o4;have G4:=zZ g4;have B4:=zZ b4;clear o4 g4 b4) | (go_at_call 114;refine(dR L (zY Q4) 2 z 0 (zY HSM)).mono ?_;rintro e w5 ⟨rfl,S5,vt5,r5,f5⟩;have bel:=qZ (zY HBEL) (zY HBE) (zY HSB) (zY HBW) (((((zY R2').trans (zY F4)).grown (zY G4) (fun q hq'=>((zY HO).lt q hq').1)).trans f5));have cvi:=(bel.cell (p:=⟨hb,hoff+z.toNat,none⟩) hhb).trans (zY HVI);have BEL:=zZ bel;clear bel;have c2:=(r5.cell 2 (by omega)).trans (by rw [kP _ _ _ _ (by omega),zY HPV]);have R5:=zZ r5;have F5:=zZ f5;clear r5 f5) | (go_at_call 54;refine(kO L K hp hm hm4 hk (zY HBE) (zY BEL) (zY R5) (zY HOPS) (zY HN _ hznf) hnt hnf (zY HR _ hznf) (zY HQ5) hN5).mono ?_;rintro e w6 ⟨rfl,S6,vt6,T6,r6,f6⟩;have R6:=zZ r6;have F6:=zZ f6;clear r6 f6))
       go_roundg k'
       case rel=>
        have hq5:=zY HQ5
        have e:wk1 (fun z s x=>hM ask (ff z.toNat) (fl z.toNat) (fl z.toNat) {s with next:=0} x) z s4 x4=hM ask (ff z.toNat) (fl z.toNat) (fl z.toNat) {s4 with trace:=s4.trace++[(2,z,0)],next:=0} x4:=by unfold wk1;rw [if_pos (zY HWZ)]
        have E':=zY E
        rw [e] at E'
        obtain⟨p1,p2,p3,p4,p5,p6⟩:=zY HP
        exact bS (zY R6) (zY R2') (zY F4) (zY G4) ((zY F5).trans (zY F6)) (zY HG1) (zY HO) (zY O4) (zY B4) hil E'.symm
         (aJ hk _ _ _ ⟨hq5.fuel,hq5.clock,hq5.armings,hq5.trace⟩) (nN (zY HR _ hznf) _ _ _ (Int.le_refl 0) ((zY HW3).of p5 p6 p3)) (zY HL3) hlk hk8 (by omega)
       case measure=>omega
    ·have e:=hfin.symm.trans (jT _ gk l s3 x3 (.inr hfi))
     have hfb:(s3.fin==0)=false:=by simpa using hfi
     have R1':=zZ r1
     have R2':=zZ r2
     have E:=zZ e
     clear r1 r2 e hfin hq3 htr hw3 hl3 ho hS3
     generalize s3.fin=fi at *
     go_wp2
     go_end0
     rw [zY E]
     exact⟨rfl,S3,vt3,T3,zY R1',zY R2'⟩
 ·rw [if_neg hre]
  have HRE:=zZ hre
  clear hre
  go_enter Tryz.func97,Tryz.ntmps97
  go_wp2_with (go_at_call 113;refine(zY HC).mono ?_;rintro e w1 ⟨S',T',fv,r1,r2,r3⟩;rw [if_neg (zY HRE)] at r1 r3;subst r3;have R1:=zZ r1;have R2:=zZ r2;clear r1 r2)
  refine bodyPost_ret (v:=.tuple #[]) (by simp [results,Tryz.results97,go_sem]) rfl ?_
  exact⟨rfl,S',vt,T',(zY R1).alloc L _,(zY R2).alloc _⟩
end
theorem bF (n of:Int) (h1:1<=of) (h2:of<=1000000):(wrap64 (n.tmod of+of)).tmod of=n % of:=by
 have b1:n.tmod of<of:=Int.tmod_lt_of_pos n (by omega)
 have b2:-of<n.tmod of:=by
  have:=Int.tmod_lt_of_pos (-n) (show 0<of by omega)
  rw [Int.neg_tmod] at this
  omega
 have e:wrap64 (n.tmod of+of)=n.tmod of+of:=by unfold wrap64;omega
 rw [e,Int.tmod_eq_emod_of_nonneg (by omega),Int.add_emod_right,Int.tmod_def,Int.sub_mul_emod_self_left]
theorem eQ (n of:Int) (w:World) (h1:1<=of) (h2:of<=1000000):Calls Tryz.prog 185 #[.int .i64 n,.int .i64 of] w fun e w'=>e=.returned (.int .i64 (n % of))/\w'=w:=by
 have hne:(of==0)=false:=by simp;omega
 have hne':of≠0:=by omega
 go_enter Tryz.func185,Tryz.ntmps185
 go_wp2
 go_ret
 rw [<-bF n of h1 h2]
 exact⟨rfl,rfl⟩
theorem lH (k o n:Int) (fv:Value) (a:Option Addr) (l c:Nat) (hfv:fv=.slice a l c) (ok:Bool) (w:World):Calls Tryz.prog 183 #[.agg #[.int .i64 k,.int .i64 o,.int .i64 n,fv],.bool ok] w fun e w'=>
  e=.returned (.tuple #[if ok then .agg #[.int .i64 k,.int .i64 o,.int .i64 n,fv] else .agg #[.int .i64 0,.int .i64 0,.int .i64 0,.slice none 0 0],.int .i64 (if ok then 0 else 5)])/\Fr (fun _=>False) w w' (fun _=>False):=by
 subst hfv
 cases ok
 ·go_enter Tryz.func183,Tryz.ntmps183
  go_wp2
  refine bodyPost_ret (v:=.tuple #[.agg #[.int .i64 0,.int .i64 0,.int .i64 0,.slice none 0 0],.int .i64 5]) (by simp [results,Tryz.results183,go_sem]) rfl ?_
  exact⟨rfl,((Fr.refl _ w).alloc _).alloc _⟩
 ·go_enter Tryz.func183,Tryz.ntmps183
  go_wp2
  refine bodyPost_ret (v:=.tuple #[.agg #[.int .i64 k,.int .i64 o,.int .i64 n,.slice a l c],.int .i64 0]) (by simp [results,Tryz.results183,go_sem]) rfl ?_
  exact⟨rfl,((Fr.refl _ w).alloc _).alloc _⟩
theorem zJ6 {w:World} {g e:Nat} {cur:Array Value} (hb:w.heap[g]?=some (.cells cur e (0,0))) (j:Nat):w.frozen? ⟨g,j,none⟩=false:=by simp [World.frozen?,hb]
def sY (f:Nat->Bool) (k:Nat):List Int:=((List.range k).filter f).map fun (j:Nat)=>(j:Int)
theorem iW (f:Nat->Bool) (k:Nat):sY f (k+1)=sY f k++(if f k then [(k:Int)] else []):=by
 unfold sY
 rw [List.range_succ,List.filter_append,List.map_append]
 congr 1
 cases h:f k<;>simp [h]
theorem oC (f:Nat->Bool) (k:Nat):(sY f k).length<=k:=by
 unfold sY
 have:=List.length_filter_le f (List.range k)
 simpa using this
theorem zJ2 (f:Nat->Bool) (k:Nat) (z:Int) (h:z∈sY f k):0<=z/\z<k:=by
 unfold sY at h
 obtain⟨j,hj,rfl⟩:=List.mem_map.1 h
 have:=List.mem_range.1 (List.mem_filter.1 hj).1
 omega
def tM (l:List Int) (j:Nat):Bool:=l.contains (j:Int)
def kY (f:Nat->Bool):List Value:=(List.range 8).map fun j=>.bool (f j)
theorem yC7 (f:Nat->Bool) (w:World):(Instr.index 128 (.agg (kY f).toArray) (.int .i64 0)).run Tryz.prog w=.ok (.bool (f 0)) w:=by kernel_rfl
theorem yC8 (f:Nat->Bool) (w:World):(Instr.index 128 (.agg (kY f).toArray) (.int .i64 1)).run Tryz.prog w=.ok (.bool (f 1)) w:=by kernel_rfl
theorem yC9 (f:Nat->Bool) (w:World):(Instr.index 128 (.agg (kY f).toArray) (.int .i64 2)).run Tryz.prog w=.ok (.bool (f 2)) w:=by kernel_rfl
theorem yD0 (f:Nat->Bool) (w:World):(Instr.index 128 (.agg (kY f).toArray) (.int .i64 3)).run Tryz.prog w=.ok (.bool (f 3)) w:=by kernel_rfl
theorem yD1 (f:Nat->Bool) (w:World):(Instr.index 128 (.agg (kY f).toArray) (.int .i64 4)).run Tryz.prog w=.ok (.bool (f 4)) w:=by kernel_rfl
theorem yD2 (f:Nat->Bool) (w:World):(Instr.index 128 (.agg (kY f).toArray) (.int .i64 5)).run Tryz.prog w=.ok (.bool (f 5)) w:=by kernel_rfl
theorem yD3 (f:Nat->Bool) (w:World):(Instr.index 128 (.agg (kY f).toArray) (.int .i64 6)).run Tryz.prog w=.ok (.bool (f 6)) w:=by kernel_rfl
theorem yD4 (f:Nat->Bool) (w:World):(Instr.index 128 (.agg (kY f).toArray) (.int .i64 7)).run Tryz.prog w=.ok (.bool (f 7)) w:=by kernel_rfl
theorem yK9 (f:Nat->Bool) (i:Nat) (hi:i<8) (w:World):(Instr.index 128 (.agg (kY f).toArray) (.int .i64 (i:Int))).run Tryz.prog w=.ok (.bool (f i)) w:=by
 have hc:i=0\/i=1\/i=2\/i=3\/i=4\/i=5\/i=6\/i=7:=by omega
 rcases hc with rfl | rfl | rfl | rfl | rfl | rfl | rfl | rfl
 ·exact yC7 f w
 ·exact yC8 f w
 ·exact yC9 f w
 ·exact yD0 f w
 ·exact yD1 f w
 ·exact yD2 f w
 ·exact yD3 f w
 ·exact yD4 f w
def nC (w:World) (b:Nat) (f:Nat->Bool):Prop:=∀j,j<8->w.cell? ⟨b,j,none⟩=some (.bool (f j))/\w.frozen? ⟨b,j,none⟩=false
theorem nC.set {w:World} {b:Nat} {f:Nat->Bool} (h:nC w b f) (z:Nat):nC (w.setCell ⟨b,z,none⟩ (.bool true)) b (upd f z true):=by
 intro j hj
 obtain⟨h1,h2⟩:=h j hj
 refine⟨?_,by simpa using h2⟩
 by_cases e:j=z
 ·subst e
  rw [World.cell?_setCell_same' _ _ _ (by rw [h1];rfl)]
  simp [upd]
 ·rw [zV _ _ _ _ (by intro he;injection he;omega),h1]
  simp [upd,e]
theorem nC.congr {w:World} {b:Nat} {f g:Nat->Bool} (h:nC w b f) (he:∀j,j<8->g j=f j):nC w b g:=fun j hj=>by rw [he j hj];exact h j hj
def vF (l:List Int):List Int:=sY (tM l) 8
theorem zT0 {w:World} {v:Value} {l:List Int} {P:Nat->Prop} (hP:∀q,P q->q<w.heap.size) (hl:yJ w v l P) (hn:l.length<=100000000) :
  Calls Tryz.prog 184 #[v] w fun e w'=>∃v',e=.returned v'/\yZ w' w.heap.size v' (vF l)/\Fr (fun _=>False) w w' (fun _=>False):=by
 obtain⟨a,c,rfl,hc⟩:=hl
 have HC:=zZ hc
 have HP:=zZ hP
 clear hc hP
 go_enter Tryz.func184,Tryz.ntmps184
 go_wp2
 go_loopw [11] (fun i wr=>∃k:Nat,k<=l.length/\i=.int .i64 k/\nC wr w.heap.size (tM (l.take k))/\Fr (fun _=>False) w wr (fun _=>False)/\w.heap.size<wr.heap.size) (fun i _=>l.length-(intOf i).toNat)
 case atStart=>
  have hrow:=heap_alloc_new w (.cells #[.bool false,.bool false,.bool false,.bool false,.bool false,.bool false,.bool false,.bool false] 128)
  refine⟨0,Nat.zero_le _,rfl,fun j hj=>⟨?_,zJ6 hrow j⟩,(Fr.refl _ w).alloc _,by simp⟩
  rw [cell_of_row _ _ j _ 128 (0,0) hrow]
  have hc:j=0\/j=1\/j=2\/j=3\/j=4\/j=5\/j=6\/j=7:=by omega
  rcases hc with rfl | rfl | rfl | rfl | rfl | rfl | rfl | rfl<;>rfl
 case round=>
  obtain⟨k,hk,rfl,hna,hf,hsz⟩:=hrel
  by_cases hlt:k<l.length
  ·rcases zY HC with hz | ⟨q,off,rfl,hq,hcell⟩
   ·rw [hz] at hlt;simp at hlt
   have cz:=(hf.cell q (off+k) (zY HP q hq) (fun h=>h)).trans (hcell k hlt)
   have hget:l.getD k 0=l[k]:=by simp [List.getD,hlt]
   rw [hget] at cz
   have htk:l.take (k+1)=l.take k++[l[k]]:=List.take_succ_eq_append_getElem hlt
   have HTK:=zZ htk
   have HNA:=zZ hna
   have HFR:=zZ hf
   clear hcell htk hget hf
   generalize l[k]=z at *
   by_cases hz:0<=z/\z<8
   ·obtain⟨z0,z8⟩:=hz
    obtain⟨cn,fz⟩:=hna z.toNat (by omega)
    clear hna
    go_wp2
    go_roundw
    case rel=>
     refine⟨k+1,by omega,by go_num,?_,(zY HFR).setCell _ _ (.inr (Nat.le_refl _)),by simpa [World.setCell] using hsz⟩
     rw [zY HTK]
     refine((zY HNA).set z.toNat).congr (fun j hj=>?_)
     unfold tM upd
     by_cases e:j=z.toNat
     ·have e':(j:Int)=z:=by omega
      simp [e]
      exact .inr (by omega)
     ·have e':(j:Int)≠z:=by omega
      simp [e,e']
    case measure=>simp [intOf];omega
   ·have hzb:(decide (0<=z) && decide (z<8))=false:=by
     by_cases h0:0<=z
     ·have h8:¬z<8:=fun h=>hz ⟨h0,h⟩
      simp [h8]
     ·simp [h0]
    clear hna
    by_cases h0:0<=z
    ·have h8:¬z<8:=fun h=>hz ⟨h0,h⟩
     go_wp2
     go_roundw
     case rel=>
      refine⟨k+1,by omega,by go_num,?_,zY HFR,hsz⟩
      rw [zY HTK]
      refine(zY HNA).congr (fun j hj=>?_)
      unfold tM
      have e':(j:Int)≠z:=by omega
      simp [e']
     case measure=>simp [intOf];omega
    ·go_wp2
     go_roundw
     case rel=>
      refine⟨k+1,by omega,by go_num,?_,zY HFR,hsz⟩
      rw [zY HTK]
      refine(zY HNA).congr (fun j hj=>?_)
      unfold tM
      have e':(j:Int)≠z:=by omega
      simp [e']
     case measure=>simp [intOf];omega
  ·have e:l.take k=l:=List.take_of_length_le (by omega)
   rw [e] at hna
   have hfl:vF l=sY (tM l) 8:=rfl
   generalize tM l=f at *
   have c0:=(hna 0 (by omega)).1
   have c1:=(hna 1 (by omega)).1
   have c2:=(hna 2 (by omega)).1
   have c3:=(hna 3 (by omega)).1
   have c4:=(hna 4 (by omega)).1
   have c5:=(hna 5 (by omega)).1
   have c6:=(hna 6 (by omega)).1
   have c7:=(hna 7 (by omega)).1
   have hix:∀i:Nat,i<8->∀w,(Instr.index 128 (.agg #[.bool (f 0),.bool (f 1),.bool (f 2),.bool (f 3),.bool (f 4),.bool (f 5),.bool (f 6),.bool (f 7)]) (.int .i64 (i:Int))).run Tryz.prog w=.ok (.bool (f i)) w:=fun i hi w=>yK9 f i hi w
   have HX:=zZ hix
   have HFL:=zZ hfl
   have HFR:=zZ hf
   clear hix hfl hf hna e
   go_wp2
   generalize hag:(#[.bool (f 0),.bool (f 1),.bool (f 2),.bool (f 3),.bool (f 4),.bool (f 5),.bool (f 6),.bool (f 7)]:Array Value)=A at *
   go_loopw [6,25] (fun u i wr'=>∃k:Nat,k<=8/\i=.int .i64 k/\yZ wr' w.heap.size u (sY f k)/\Fr (fun _=>False) w wr' (fun _=>False)) (fun _ i _=>8-(intOf i).toNat)
   case atStart=>exact⟨0,Nat.zero_le _,rfl,zX _ _ _ _,zY HFR⟩
   case round=>
    obtain⟨k,hk,rfl,ho,hf⟩:=hrel
    by_cases hlt:k<8
    ·have ix:=fun w=>zY HX k hlt w
     have HSU:=zZ (iW f k)
     have HLE:=zZ (show (sY f k).length<=1000 by have:=oC f k;omega)
     have hsz:w.heap.size<=wr.heap.size:=hf.size
     have HO:=zZ ho
     have HNE:=zZ ho.lt
     have HF:=zZ hf
     clear ho hf
     cases hfk:f k
     ·rw [hfk] at ix
      have HFK:=zZ hfk
      clear hfk
      go_wp2
      go_roundw
      case rel=>
       refine⟨k+1,by omega,by go_num,?_,zY HF⟩
       rw [zY HSU,zY HFK]
       simpa using zY HO
      case measure=>simp [intOf];omega
     ·rw [hfk] at ix
      have HFK:=zZ hfk
      clear hfk
      go_wp2_with (at_builtin;refine pN rfl (.tmp 30) (.tmp 32) rfl rfl rfl (zY HO) (zY HLE) hsz ?_;intro v' w' o' g')
      go_roundw
      case rel=>
       refine⟨k+1,by omega,by go_num,?_,((zY HF).alloc _).grown g' (fun j hj=>((zY HNE) j hj).1)⟩
       rw [zY HSU,zY HFK]
       simpa using o'
      case measure=>simp [intOf];omega
    ·obtain rfl:k=8:=by omega
     go_wp2
     go_ret
     rw [zY HFL]
     exact⟨_,rfl,ho,hf⟩
theorem zN1 (n of:Int) (h1:1<=of) (h2:of<=1000000):(n.tmod of<0->wrap64 (n.tmod of+of)=n % of)/\(¬n.tmod of<0->n.tmod of=n % of):=by
 have b1:n.tmod of<of:=Int.tmod_lt_of_pos n (by omega)
 have b2:-of<n.tmod of:=by
  have:=Int.tmod_lt_of_pos (-n) (show 0<of by omega)
  rw [Int.neg_tmod] at this
  omega
 have e:wrap64 (n.tmod of+of)=n.tmod of+of:=by unfold wrap64;omega
 have h3:=bF n of h1 h2
 rw [e] at h3
 constructor
 ·intro h
  have h5:=Int.tmod_eq_of_lt (a:=n.tmod of+of) (b:=of) (by omega) (by omega)
  rw [e]
  exact h5.symm.trans h3
 ·intro h
  have h4:n % of=(n.tmod of) % of:=by rw [Int.tmod_def,Int.sub_mul_emod_self_left]
  rw [h4,Int.emod_eq_of_lt (by omega) (by omega)]
theorem hZ (n of:Int) (w:World) (h1:1<=of) (h2:of<=1000000):Calls Tryz.prog 158 #[.int .i64 n,.int .i64 of] w fun e w'=>e=.returned (.int .i64 (n % of))/\w'=w:=by
 have hne:(of==0)=false:=by simp;omega
 have hne':of≠0:=by omega
 obtain⟨r1,r2⟩:=zN1 n of h1 h2
 have R1:=zZ r1
 have R2:=zZ r2
 clear r1 r2
 by_cases hlt:n.tmod of<0
 ·go_enter Tryz.func158,Tryz.ntmps158
  go_wp2
  go_ret
  rw [<-zY R1 hlt]
  exact⟨rfl,rfl⟩
 ·go_enter Tryz.func158,Tryz.ntmps158
  go_wp2
  go_ret
  rw [<-zY R2 hlt]
  exact⟨rfl,rfl⟩
theorem zE9 (l:List Int) (k j:Nat) (hk:k<l.length):tM (l.take (k+1)) j=(tM (l.take k) j || (l[k]==(j:Int))):=by
 unfold tM
 rw [List.take_succ_eq_append_getElem hk]
 simp only [List.contains_eq_any_beq,List.any_append,List.any_cons,List.any_nil,Bool.or_false]
 congr 1
 by_cases e:(j:Int)=l[k]
 ·simp [e]
 ·have e':l[k]≠(j:Int):=fun h=>e h.symm
  rw [beq_eq_false_iff_ne.2 e,beq_eq_false_iff_ne.2 e']
theorem zN0 {w:World} {v:Value} {l:List Int} {P:Nat->Prop} (hP:∀q,P q->q<w.heap.size) (hl:yJ w v l P) (hn:l.length<=100000000) :
  Calls Tryz.prog 157 #[v] w fun e w'=>∃v',e=.returned v'/\yZ w' w.heap.size v' (vF l)/\Fr (fun _=>False) w w' (fun _=>False):=by
 obtain⟨a,c,rfl,hc⟩:=hl
 have HC:=zZ hc
 have HP:=zZ hP
 clear hc hP
 go_enter Tryz.func157,Tryz.ntmps157
 go_wp2
 go_loopw [3,4] (fun u i wr=>∃k:Nat,k<=8/\i=.int .i64 k/\yZ wr w.heap.size u (sY (tM l) k)/\Fr (fun _=>False) w wr (fun _=>False)) (fun _ i _=>8-(intOf i).toNat)
 case atStart=>exact⟨0,Nat.zero_le _,rfl,zX _ _ _ _,Fr.refl _ w⟩
 case round=>
  obtain⟨k,hk,rfl,ho,hf⟩:=hrel
  by_cases hlt:k<8
  ·have HSU:=zZ (iW (tM l) k)
   have HLE:=zZ (show (sY (tM l) k).length<=1000 by have:=oC (tM l) k;omega)
   have hsz:w.heap.size<=wr.heap.size:=hf.size
   have HO:=zZ ho
   have HNE:=zZ ho.lt
   have HF:=zZ hf
   clear ho hf
   go_wp2
   go_loopw [5,6] (fun b i wr'=>wr'=wr/\∃m:Nat,m<=l.length/\i=.int .i64 m/\b=.bool (tM (l.take m) k)) (fun _ i _=>l.length-(intOf i).toNat)
   case atStart=>exact⟨rfl,0,Nat.zero_le _,rfl,rfl⟩
   case round=>
    obtain⟨rfl,m,hm,rfl,rfl⟩:=hrel
    by_cases hlm:m<l.length
    ·rcases zY HC with hz | ⟨q,off,rfl,hq,hcell⟩
     ·rw [hz] at hlm;simp at hlm
     have cz:=((zY HF).cell q (off+m) (zY HP q hq) (fun h=>h)).trans (hcell m hlm)
     have hget:l.getD m 0=l[m]:=by simp [List.getD,hlm]
     rw [hget] at cz
     have HNS:=zZ (zE9 l m k hlm)
     clear hcell hget
     generalize l[m]=z at *
     cases hb:tM (l.take m) k
     ·go_wp2
      go_roundw
      case rel=>
       refine⟨trivial,m+1,by omega,by go_num,?_⟩
       rw [zY HNS,hb]
       simp
      case measure=>simp [intOf];omega
     ·go_wp2
      go_roundw
      case rel=>
       refine⟨trivial,m+1,by omega,by go_num,?_⟩
       rw [zY HNS,hb]
       simp
      case measure=>simp [intOf];omega
    ·have e:l.take m=l:=List.take_of_length_le (by omega)
     rw [e]
     cases hfk:tM l k
     ·go_wp2
      go_roundw
      case rel=>
       refine⟨k+1,by omega,by go_num,?_,zY HF⟩
       rw [zY HSU,hfk]
       simpa using zY HO
      case measure=>simp [intOf];omega
     ·go_wp2_with (at_builtin;refine pN rfl (.tmp 27) (.tmp 29) rfl rfl rfl (zY HO) (zY HLE) hsz ?_;intro v' w' o' g')
      go_roundw
      case rel=>
       refine⟨k+1,by omega,by go_num,?_,((zY HF).alloc _).grown g' (fun j hj=>((zY HNE) j hj).1)⟩
       rw [zY HSU,hfk]
       simpa using o'
      case measure=>simp [intOf];omega
  ·obtain rfl:k=8:=by omega
   go_wp2
   go_ret
   exact⟨_,rfl,ho,hf⟩
