/-
  PROVED HERE: lists of one unit over and over: what an append 
-/
import Derived.Test.YtfmbebofllgmoaaGreatDoorSallbf
set_option maxHeartbeats 4000000
set_option maxRecDepth 20000
namespace Go.Proofs.YtfmbebofllgmoaaGreatDoor
open Go.RowKit
def oY (us:List Value) (w:World) (v:Value):Prop:=∃a n c,v=.slice a n c/\n<=1000000000/\(n=0\/∃q off,a=some ⟨q,off,none⟩/\∀i,i<n->∀j u,us[j]?=some u->w.cell? ⟨q,off+i*us.length+j,none⟩=some u)
def uC (n:Nat) (us:List Value):List Value:=(List.replicate n us).flatten
theorem iY (n:Nat) (us:List Value):uC (n+1) us=us++uC n us:=by unfold uC;rw [List.replicate_succ,List.flatten_cons]
theorem qO (n:Nat) (us:List Value):(uC n us).length=n*us.length:=by
 induction n with
 | zero=>simp [uC]
 | succ n ih=>rw [iY,List.length_append,ih,Nat.succ_mul];omega
theorem uR (n k:Nat) (us:List Value):uC n us++uC k us=uC (n+k) us:=by
 unfold uC;rw [<-List.flatten_append,List.replicate_append_replicate]
theorem dW (us:List Value) {j:Nat} {u:Value} (hj:us[j]?=some u):∀(n i:Nat),i<n->(uC n us)[i*us.length+j]?=some u
 | 0,i,h=>by omega
 | n+1,0,_=>by
  rw [iY,Nat.zero_mul,Nat.zero_add,List.getElem?_append_left (List.getElem?_eq_some_iff.1 hj).1]
  exact hj
 | n+1,i+1,h=>by
  rw [iY,List.getElem?_append_right (by rw [Nat.succ_mul];omega),show (i+1)*us.length+j-us.length=i*us.length+j by rw [Nat.succ_mul];omega]
  exact dW us hj n i (by omega)
section
variable {w W:World} {v:Value} {us:List Value} {K:Nat->Prop}
theorem oY.keep (h:oY us w v) (hl:yK v K) (hk:∀q,K q->W.heap[q]?=w.heap[q]?):oY us W v:=by
 obtain⟨a,n,c,rfl,hn,hc⟩:=h
 refine⟨a,n,c,rfl,hn,?_⟩
 rcases Nat.eq_zero_or_pos n with h0 | h0
 ·exact .inl h0
 rcases hc with h1 | ⟨q,off,rfl,hcell⟩
 ·omega
 have hq:=hk q (hl q off n c rfl h0)
 exact .inr ⟨q,off,rfl,fun i hi j u hj=>by rw [yW hq];exact hcell i hi j u hj⟩
theorem oY.row {B e n:Nat} (_hus:0<us.length) (h:w.ownsRow B e us.length v n (uC n us)) (hn:n<=1000000000):oY us w v:=by
 rcases Nat.eq_zero_or_pos n with h0 | h0
 ·obtain⟨a,c,hv⟩:=yM h
  exact⟨a,n,c,hv,hn,.inl h0⟩
 ·obtain⟨g,c,hv,_,_,hc⟩:=tU h h0
  exact⟨_,n,c,hv,hn,.inr ⟨g,0,rfl,fun i hi j u hj=>by rw [Nat.zero_add];exact hc _ _ (dW us hj n i hi)⟩⟩
theorem oY.toN {m:Int} (h:oY [.int .i64 0,.int .i64 0,.int .i64 m,.slice none 0 0] w v):uN w v m:=by
 obtain⟨a,n,c,hv,hn,hc⟩:=h
 exact⟨a,n,c,hv,hn,hc.imp id fun ⟨q,off,e,hcell⟩=>⟨q,off,e,fun i hi=>⟨hcell i hi 0 _ rfl,hcell i hi 1 _ rfl,hcell i hi 2 _ rfl,hcell i hi 3 _ rfl⟩⟩⟩
theorem oY.toE {m:Int} (h:oY [.int .i64 0,.int .i64 m,.int .i64 0] w v):uM w v m:=by
 obtain⟨a,n,c,hv,hn,hc⟩:=h
 exact⟨a,n,c,hv,hn,hc.imp id fun ⟨q,off,e,hcell⟩=>⟨q,off,e,fun i hi=>⟨hcell i hi 0 _ rfl,hcell i hi 1 _ rfl,hcell i hi 2 _ rfl⟩⟩⟩
end
def pM (us:List Value) (e:Nat) (w:World) (lv:Value) (n:Nat) (u:Value) (k:Nat):Prop:=
 oY us w u/\((∃g cp,lv=.slice (some ⟨g,0,none⟩) n cp/\u=.slice (some ⟨g,0,none⟩) (n+k) cp)\/(∀q,own u q->¬own lv q/\∃cur,w.heap[q]?=some (.cells cur e (0,0))))
section
variable {us:List Value} {e:Nat}
theorem pM.step {w w':World} {B:Nat} {lv u v':Value} {n k j:Nat} (_hus:0<us.length) (h:pM us e w lv n u k) (hk:k<=j) (hn:n+j<=1000000000) (hr:w'.ownsRow B e us.length v' (n+j) (uC (n+j) us))
  (hd:(∃g cp,lv=.slice (some ⟨g,0,none⟩) n cp/\v'=.slice (some ⟨g,0,none⟩) (n+j) cp/\n+j<=cp/\w.grownBy w' (some g))\/(w.grownBy w' none/\∀q,own v' q->w.heap.size<=q)):pM us e w' lv n u k:=by
 obtain⟨hf,hp⟩:=h
 rcases hd with ⟨g,cp,hlv,hv',hroom,hg⟩ | ⟨hg,_⟩
 ·rcases hp with ⟨g2,cp2,hlv2,hu⟩ | hp
  ·rw [hlv] at hlv2
   cases hlv2
   refine⟨?_,.inl ⟨g,cp,hlv,hu⟩⟩
   subst hv'
   rcases Nat.eq_zero_or_pos (n+j) with h0 | h0
   ·exact⟨_,_,_,hu,by omega,.inl (by omega)⟩
   obtain⟨g3,c3,hv3,_,_,hc3⟩:=tU hr h0
   cases hv3
   exact⟨some ⟨g,0,none⟩,n+k,cp,hu,by omega,.inr ⟨g,0,rfl,fun i hi j' u' hj'=>by rw [Nat.zero_add];exact hc3 _ _ (dW us hj' (n+j) i (by omega))⟩⟩
  ·have hk':∀q,own u q->w'.heap[q]?=w.heap[q]?:=fun q hq=>hg.block q (by obtain⟨cur,hcur⟩:=(hp q hq).2;exact(zN.1 hcur).1) (fun e=>(hp q hq).1 (by rw [hlv];simp only [own,Value.ownBlock];exact e.symm))
   exact⟨hf.keep vV hk',.inr (fun q hq=>⟨(hp q hq).1,by obtain⟨cur,hcur⟩:=(hp q hq).2;exact⟨cur,(hk' q hq).trans hcur⟩⟩)⟩
 ·have hall:∀q,q<w.heap.size->w'.heap[q]?=w.heap[q]?:=fun q hq=>hg.block q hq (by simp)
  refine⟨?_,hp.imp id (fun hp q hq=>⟨(hp q hq).1,by obtain⟨cur,hcur⟩:=(hp q hq).2;exact⟨cur,(hall q (zN.1 hcur).1).trans hcur⟩⟩)⟩
  obtain⟨a,nn,c,hv,hnn,hc⟩:=hf
  exact⟨a,nn,c,hv,hnn,hc.imp id fun ⟨q,off,e,hcell⟩=>⟨q,off,e,fun i hi j' u' hj'=>by rw [yW (hall q (zU w _ (hcell i hi j' u' hj')))];exact hcell i hi j' u' hj'⟩⟩
theorem pM.store {w:World} {lv u v:Value} {n k X j:Nat} {cX:Array Value} {t:Nat} (h:pM us e w lv n u k) (hX:w.heap[X]?=some (.cells cX t (0,0))) (he:t≠e) (hlv:¬own lv X):pM us e (w.setCell ⟨X,j,none⟩ v) lv n u k:=by
 obtain⟨hf,hp⟩:=h
 have hk:∀q,q≠X->(w.setCell ⟨X,j,none⟩ v).heap[q]?=w.heap[q]?:=fun q hq=>zQ _ _ _ _ hq
 rcases hp with ⟨g,cp,hl,hu⟩ | hp
 ·refine⟨hf.keep (K:=fun q=>q=g) (fun q off n' c hv _=>by rw [hu] at hv;cases hv;rfl) (fun q hq=>hk q (fun e=>hlv (by rw [hl,<-e,hq];rfl))),.inl ⟨g,cp,hl,hu⟩⟩
 ·have hne:∀q,own u q->q≠X:=fun q hq e'=>by
   obtain⟨cur,hcur⟩:=(hp q hq).2
   rw [e'] at hcur
   exact he (qU hX hcur)
  exact⟨hf.keep vV (fun q hq=>hk q (hne q hq)),.inr (fun q hq=>⟨(hp q hq).1,by obtain⟨cur,hcur⟩:=(hp q hq).2;exact⟨cur,(hk q (hne q hq)).trans hcur⟩⟩)⟩
theorem pM.fr {w W:World} {lv u:Value} {n k:Nat} (h:pM us e w lv n u k) (hf:Fr (fun _=>False) w W (fun _=>False)):pM us e W lv n u k:=by
 obtain⟨⟨a,nn,c,hv,hnn,hc⟩,hp⟩:=h
 have hall:∀q,q<w.heap.size->W.heap[q]?=w.heap[q]?:=fun q hq=>hf.same q hq (fun h=>h)
 exact⟨⟨a,nn,c,hv,hnn,hc.imp id fun ⟨q,off,e,hcell⟩=>⟨q,off,e,fun i hi j' u' hj'=>by rw [yW (hall q (zU w _ (hcell i hi j' u' hj')))];exact hcell i hi j' u' hj'⟩⟩,hp.imp id fun hp q hq=>⟨(hp q hq).1,by obtain⟨cur,hcur⟩:=(hp q hq).2;exact⟨cur,(hall q (zN.1 hcur).1).trans hcur⟩⟩⟩
theorem pM.ty {w:World} {lv u:Value} {B n k size m:Nat} {xs:List Value} (h:pM us e w lv n u k) (ho:w.ownsRow B e size lv m xs) {q:Nat} (hq:own u q):∃cur,w.heap[q]?=some (.cells cur e (0,0)):=by
 rcases h.2 with ⟨g,cp,hl,hu⟩ | hp
 ·exact tF ho (by rw [hl];rw [hu] at hq;exact hq)
 ·exact(hp q hq).2
theorem pH {U wa:World} {B X t:Nat} {lv va:Value} {n j k:Nat} {cX:Array Value} (hus:0<us.length) (hte:t≠e) (hn:n+j<=1000000000) (ho:U.ownsRow B e us.length lv n (uC n us)) (hX:U.heap[X]?=some (.cells cX t (0,0)))
  (ra:wa.ownsRow B e us.length va (n+j) (uC (n+j) us))
  (hd:(∃g cp,lv=.slice (some ⟨g,0,none⟩) n cp/\va=.slice (some ⟨g,0,none⟩) (n+j) cp/\n+j<=cp/\U.grownBy wa (some g))\/(U.grownBy wa none/\∀q,own va q->U.heap.size<=q)) :
  (wa.setCell ⟨X,k,none⟩ va).ownsRow B e us.length lv n (uC n us)/\(wa.setCell ⟨X,k,none⟩ va).heap[X]?=some (.cells (cX.setIfInBounds k va) t (0,0))/\pM us e (wa.setCell ⟨X,k,none⟩ va) lv n va j/\(∀u i,i<=j->pM us e U lv n u i->pM us e (wa.setCell ⟨X,k,none⟩ va) lv n u i)/\
   Fr (fun q=>own lv q\/q=X) U (wa.setCell ⟨X,k,none⟩ va) (fun q=>own lv q\/q=X)/\(∀q,own va q->own lv q\/U.heap.size<=q):=by
 have hXl:¬own lv X:=yP ho hX hte
 have old:∀q,q<U.heap.size->¬own lv q->wa.heap[q]?=U.heap[q]?:=fun q hq hn=>by
  rcases hd with ⟨g,cp,hl,_,_,hg⟩ | ⟨hg,_⟩
  ·exact hg.block q hq (fun e=>hn (by rw [hl];simp only [own,Value.ownBlock];exact e.symm))
  ·exact hg.block q hq (by simp)
 have hXlt:=(zN.1 hX).1
 have hXa:wa.heap[X]?=some (.cells cX t (0,0)):=(old X hXlt hXl).trans hX
 have hsz:U.heap.size<=wa.heap.size:=by rcases hd with ⟨_,_,_,_,_,hg⟩ | ⟨hg,_⟩<;>exact hg.size
 have hol:wa.ownsRow B e us.length lv n (uC n us):=by
  rcases hd with ⟨g,cp,hl,hv,hr,hg⟩ | ⟨hg,_⟩
  ·subst hl hv
   rw [<-uR] at ra
   exact cA ra (qO n us)
  ·exact yA ho (fun q hq=>hg.block q (zS ho q hq).2 (by simp))
 have hmade:pM us e wa lv n va j:=by
  refine⟨oY.row hus ra hn,?_⟩
  rcases hd with ⟨g,cp,hl,hv,_,_⟩ | ⟨_,hf⟩
  ·exact .inl ⟨g,cp,hl,hv⟩
  ·exact .inr (fun q hq=>⟨fun h=>by have h1:=hf q hq;have h2:=(zS ho q h).2;omega,tF ra hq⟩)
 refine⟨yA hol (fun q hq=>zQ _ _ _ _ (fun e=>hXl (by have e':q=X:=e;rw [<-e'];exact hq))),yD wa X k cX t va hXa,hmade.store hXa hte hXl,fun u i hi hu=>(hu.step hus hi hn ra hd).store hXa hte hXl,?_⟩
 have h3:wa.os=U.os/\wa.tape=U.tape/\wa.output=U.output:=by rcases hd with ⟨_,_,_,_,_,hg⟩ | ⟨hg,_⟩<;>exact⟨hg.os,hg.tape,hg.output⟩
 refine⟨⟨h3.1,h3.2.1,h3.2.2,by simpa [World.setCell] using hsz,fun q hq hn=>(zQ _ _ _ _ (fun e=>hn (.inr e))).trans (old q hq (fun h=>hn (.inl h))),fun _ _ h=>h⟩,fun q hq=>?_⟩
 rcases hd with ⟨g,cp,hl,hv,_,_⟩ | ⟨_,hf⟩
 ·left;rw [hl];rw [hv] at hq;exact hq
 ·exact .inr (hf q hq)
end
end Go.Proofs.YtfmbebofllgmoaaGreatDoor
namespace Go.Proofs.YtfmbebofllgmoaaGreatDoor
open Go.RowKit
attribute [local go_sem ↓] Go.wp_at_zero Go.wp_at_succ
theorem yI4 {w:World} {B:Nat} {a:Option Addr} {c:Nat} {l:List Int} (h:yR w B (.slice a l.length c) l) (j:Nat) (hj:j<l.length) (z:Int):∃g,a=some ⟨g,0,none⟩/\g<w.heap.size/\w.cell? ⟨g,j,none⟩=some (.int .i64 (l.getD j 0))/\w.frozen? ⟨g,j,none⟩=false/\yR (w.setCell ⟨g,j,none⟩ (.int .i64 z)) B (.slice a l.length c) (l.set j z):=by
 obtain⟨h0,h1⟩:=h
 rcases h1 with ⟨hv,h2⟩ | ⟨g,cap,cur,hv,hB,hg,hc1,hc2,hc3,hc4⟩
 ·omega
 ·cases hv
  have hcell:=cell_of_row w g j cur 3 (0,0) hg
  have hlt:j<cur.size:=by rw [hc3];omega
  have hcv:cur[j]?=some (.int .i64 (l.getD j 0)):=by
   have h5:=congrArg (·[j]?) hc4
   simp only [Nat.mul_one] at h5
   rw [List.getElem?_take_of_lt (by omega),List.getElem?_map,List.getElem?_eq_getElem hj] at h5
   rw [List.getD_eq_getElem?_getD,List.getElem?_eq_getElem hj]
   simpa using h5
  refine⟨g,rfl,(zN.1 hg).1,hcell.trans hcv,yB hg j,?_⟩
  refine⟨by simp,.inr ⟨g,c,cur.setIfInBounds j (.int .i64 z),by rw [List.length_set],hB,yD w g j cur 3 _ hg,by rw [List.length_set];exact hc1,hc2,by simpa using hc3,?_⟩⟩
  rw [List.length_set,Nat.mul_one,Array.toList_setIfInBounds,List.take_set,List.map_set]
  rw [Nat.mul_one] at hc4
  rw [hc4]
theorem zK2 {U wa:World} {B X n j:Nat} {lv va:Value} {rep:List Int} {cX:Array Value} (ho:yR U B lv rep) (hX:U.heap[X]?=some (.cells cX 105 (0,0))) (hd:(∃g cp,lv=.slice (some ⟨g,0,none⟩) n cp/\va=.slice (some ⟨g,0,none⟩) (n+j) cp/\n+j<=cp/\U.grownBy wa (some g))\/(U.grownBy wa none/\∀q,own va q->U.heap.size<=q)):wa.heap[X]?=some (.cells cX 105 (0,0)):=by
 have hXlt:=(zN.1 hX).1
 rcases hd with ⟨g,cp,hl,_,_,hg⟩ | ⟨hg,_⟩
 ·refine(hg.block X hXlt (fun e=>?_)).trans hX
  have hq:own lv X:=by rw [hl];simp only [own,Value.ownBlock];exact e.symm
  obtain⟨c,hc⟩:=tF ho hq
  rw [hX] at hc
  injection hc with hc
  injection hc with _ hc
  exact absurd hc (by decide)
 ·exact(hg.block X hXlt (by simp)).trans hX
theorem pL.fr {w W:World} {lv u:Value} {n k:Nat} {m:Int} (h:pL w lv n u k m) (hf:Fr (fun _=>False) w W (fun _=>False)):pL W lv n u k m:=
 ⟨h.1.fr hf,h.2.imp id fun hp q hq=>⟨(hp q hq).1,by obtain⟨cur,hcur⟩:=(hp q hq).2;exact⟨cur,(hf.same q (zN.1 hcur).1 (fun h=>h)).trans hcur⟩⟩⟩
def marks (l:List Int) (k:Nat) (m:Int):List Int:=List.replicate k m++l.drop k
theorem zY1 (l:List Int) (k:Nat) (m:Int) (h:k<l.length):(marks l k m).set k m=marks l (k+1) m:=by
 unfold marks
 rw [List.set_append_right _ _ (by simp),List.length_replicate,Nat.sub_self,List.drop_eq_getElem_cons h,List.set_cons_zero,List.replicate_succ',List.append_assoc]
 rfl
theorem zY0 (l:List Int) (k:Nat) (m:Int) (h:k<=l.length):(marks l k m).length=l.length:=by
 unfold marks;rw [List.length_append,List.length_replicate,List.length_drop];omega
theorem pL.ty {w:World} {lv u:Value} {B n k:Nat} {m:Int} {l:List Int} (h:pL w lv n u k m) (ho:yR w B lv l) {q:Nat} (hq:own u q):∃cur,w.heap[q]?=some (.cells cur 3 (0,0)):=by
 rcases h.2 with ⟨g,cp,hl,hu⟩ | hp
 ·exact tF ho (by rw [hl];rw [hu] at hq;exact hq)
 ·exact(hp q hq).2
theorem zR4:mU 61 105 5 104:=oM _ _ _ _ (.agg #[.slice none 0 0,.slice none 0 0,.slice none 0 0,.slice none 0 0,.int .i64 0]) Tryz.underlying61 (by kernel_rfl) rfl
def zQ4 (w w':World) (B bb:Nat) (n:Int) (vI vE vN:Value) (LI LE LN:List Ent) (K:Nat->Prop) (lv:Value):Prop:=
 ∃vI' e K',vK w' B bb n vI' vE vN (LI++[e]) LE LN K'/\(∀q,K' q->K q\/own lv q\/w.heap.size<=q)/\(∀q,own vI' q->own vI q\/w.heap.size<=q)/\Fr (fun q=>q=bb\/own vI q\/own lv q\/w.heap.size<=q) w w' (fun q=>q=bb\/own vI q\/own lv q\/w.heap.size<=q)
theorem zA9 {w:World} {B bb:Nat} {n:Int} {vI vE vN:Value} {LI LE LN:List Ent} {K:Nat->Prop} (h:vK w B bb n vI vE vN LI LE LN K) (hBw:B<=w.heap.size) {lv:Value} {l:List Int} (ho:yR w B lv l) (hk:∀q,own lv q->¬K q) (hl:l.length<=100000) (hL:LI.length<=900000000000) :
  Calls Tryz.prog 79 #[.pointer (some ⟨bb,0,none⟩),lv] w fun e w'=>e=.returned (.tuple #[])/\zQ4 w w' B bb (wrap64 (n+1)) vI vE vN LI LE LN K lv:=by
 obtain⟨a,c,rfl⟩:=xP ho
 obtain⟨aI,cI,rfl⟩:=yM h.bk.rI
 have hnb:¬own (.slice a l.length c) bb:=fun hq=>by
  obtain⟨cur,hcur⟩:=tF ho hq
  rw [h.bk.blk] at hcur
  cases hcur
 have y0:=yD w bb 0 _ 65 (.int .i64 (wrap64 (n+1))) h.bk.blk
 have cb:=fun j=>cell_of_row w _ j _ 65 (0,0) h.bk.blk
 have zb:=fun j=>yB h.bk.blk j
 have HB:=zZ h
 have HO:=zZ ho
 have HK:=zZ hk
 clear h ho hk
 go_enter Tryz.func79,Tryz.ntmps79
 go_wp2
 have o1:yR (w.setCell ⟨bb,0,none⟩ (.int .i64 (wrap64 (n+1)))) B (.slice a l.length c) (marks l 0 (wrap64 (1000+wrap64 (n+1)))):=by
  have e:marks l 0 (wrap64 (1000+wrap64 (n+1)))=l:=by unfold marks;simp
  rw [e]
  exact yA (zY HO) (fun q hq=>zQ _ _ _ _ (fun e=>hnb (by have e':q=bb:=e;rw [<-e'];exact hq)))
 have hf1:Fr (fun q=>q=bb) w (w.setCell ⟨bb,0,none⟩ (.int .i64 (wrap64 (n+1)))) (fun q=>q=bb):=(Fr.refl _ _).setCell _ _ (.inl rfl)
 obtain⟨m,hm⟩ : ∃m,wrap64 (1000+wrap64 (n+1))=m:=⟨_,rfl⟩
 rw [hm] at o1 ⊢
 generalize hw1:w.setCell ⟨bb,0,none⟩ (.int .i64 (wrap64 (n+1)))=w1 at *
 have O1:=zZ o1
 have Y0:=zZ y0
 have HF1:=zZ hf1
 clear o1 y0 hf1 hw1 hm cb zb
 go_loopw [5] (fun i wr=>∃j:Nat,j<=l.length/\i=.int .i64 j/\yR wr B (.slice a l.length c) (marks l j m)/\Fr (own (.slice a l.length c)) w1 wr (own (.slice a l.length c))) (fun i _=>l.length-(intOf i).toNat)
 case atStart=>exact⟨0,Nat.zero_le _,rfl,zY O1,Fr.refl _ _⟩
 case round=>
  obtain⟨j,hj,rfl,hoj,hfj⟩:=hrel
  have hml:=zY0 l j m hj
  by_cases hlt:j<l.length
  ·rw [<-hml] at hoj
   obtain⟨g,hg,hgl,hc,hz,hn⟩:=yI4 hoj j (by omega) m
   subst hg
   rw [hml,zY1 l j m hlt] at hn
   have HN:=zZ hn
   have HFJ:=zZ hfj
   have hk0:(0:Int)<=(j:Int):=by omega
   have hk1:(j:Int)<(l.length:Int):=by omega
   clear hoj hn hfj hml
   go_wp2
   go_roundw
   case rel=>exact⟨j+1,by omega,by go_num,zY HN,(zY HFJ).setCell _ _ (.inl rfl)⟩
   case measure=>simp [intOf];omega
  ·have hjl:j=l.length:=by omega
   subst hjl
   have hk1:¬(l.length:Int)<(l.length:Int):=by omega
   have hrepE:marks l l.length m=List.replicate l.length m:=by unfold marks;simp
   rw [hrepE] at hoj
   clear hml hrepE
   have C0n:=heap_alloc_new wr (.cells #[.slice a l.length c,.slice none 0 0,.slice none 0 0,.slice none 0 0,.int .i64 m] 105)
   have v0o:yR ((wr.alloc (.cells #[.slice a l.length c,.slice none 0 0,.slice none 0 0,.slice none 0 0,.int .i64 m] 105)).alloc (.cells #[.int .i64 m] 3)) B (.slice a l.length c) (List.replicate l.length m):=World.ownsRow.alloc (World.ownsRow.alloc hoj _) _
   have v0x:((wr.alloc (.cells #[.slice a l.length c,.slice none 0 0,.slice none 0 0,.slice none 0 0,.int .i64 m] 105)).alloc (.cells #[.int .i64 m] 3)).heap[wr.heap.size]?=some (.cells #[.slice a l.length c,.slice none 0 0,.slice none 0 0,.slice none 0 0,.int .i64 m] 105):=(zR _ _ _ (by simp)).trans C0n
   have v0n:((wr.alloc (.cells #[.slice a l.length c,.slice none 0 0,.slice none 0 0,.slice none 0 0,.int .i64 m] 105)).alloc (.cells #[.int .i64 m] 3)).heap[wr.heap.size+1]?=some (.cells #[.int .i64 m] 3):=by
    have h:=heap_alloc_new (wr.alloc (.cells #[.slice a l.length c,.slice none 0 0,.slice none 0 0,.slice none 0 0,.int .i64 m] 105)) (.cells #[.int .i64 m] 3)
    rwa [show (wr.alloc (.cells #[.slice a l.length c,.slice none 0 0,.slice none 0 0,.slice none 0 0,.int .i64 m] 105)).heap.size=wr.heap.size+1 by simp] at h
   have hB0:B<=((wr.alloc (.cells #[.slice a l.length c,.slice none 0 0,.slice none 0 0,.slice none 0 0,.int .i64 m] 105)).alloc (.cells #[.int .i64 m] 3)).heap.size:=by
    have h1:=(zY HF1).size
    have h2:=hfj.size
    simp;omega
   have V0O:=zZ v0o
   have V0X:=zZ v0x
   have V0N:=zZ v0n
   have HFJ:=zZ hfj
   clear hoj hfj C0n v0o v0x v0n
   go_wp2_with (at_builtin;first | (refine uS sK (by omega) (by omega) (B:=B) (n:=l.length) (m:=1) (xs:=(List.replicate l.length m).map fun z=>Value.int .i64 z) (news:=(List.replicate 1 m).map fun z=>Value.int .i64 z) rfl (.tmp 32) (.tmp 34) rfl (ad:=⟨wr.heap.size+1,0,none⟩) (cap:=1) rfl rfl (by have h:=zY V0O;unfold yR at h;rw [List.length_replicate] at h;exact h) rfl (World.news_of_block (zY V0N)) (by simp [Value.oneCell']) (by omega) (by omega) hB0 ?_;intro va wa sha ra da;obtain⟨aa,ca,rfl⟩:=sha;rw [<-List.map_append] at ra;have xa:=zK2 (zY V0O) (zY V0X) da;have kca:=fun i=>cell_of_row wa _ i _ 105 (0,0) xa;have kza:=fun i=>yB xa i;have K1:=zZ (dG (k:=1) (by simp) (fun z hz=>List.eq_of_mem_replicate hz) (by omega) (zY V0O) (zY V0X) ra da);clear ra da xa V0N;have V1O:=zZ (show yR ((wa.setCell ⟨wr.heap.size,1,none⟩ (.slice aa (l.length+1) ca)).alloc (.cells #[.int .i64 m,.int .i64 m] 3)) B (.slice a l.length c) (List.replicate l.length m) from World.ownsRow.alloc (zY K1).1 _);have V1X:=zZ (show ((wa.setCell ⟨wr.heap.size,1,none⟩ (.slice aa (l.length+1) ca)).alloc (.cells #[.int .i64 m,.int .i64 m] 3)).heap[wr.heap.size]?=some (.cells #[.slice a l.length c,.slice aa (l.length+1) ca,.slice none 0 0,.slice none 0 0,.int .i64 m] 105) from (zR _ _ _ (zN.1 (zY K1).2.1).1).trans (zY K1).2.1);have V1N:=zZ (show ((wa.setCell ⟨wr.heap.size,1,none⟩ (.slice aa (l.length+1) ca)).alloc (.cells #[.int .i64 m,.int .i64 m] 3)).heap[wa.heap.size]?=some (.cells #[.int .i64 m,.int .i64 m] 3) from (by have h:=heap_alloc_new (wa.setCell ⟨wr.heap.size,1,none⟩ (.slice aa (l.length+1) ca)) (.cells #[.int .i64 m,.int .i64 m] 3);rwa [show (wa.setCell ⟨wr.heap.size,1,none⟩ (.slice aa (l.length+1) ca)).heap.size=wa.heap.size by simp [World.setCell]] at h));have hB1:B<=((wa.setCell ⟨wr.heap.size,1,none⟩ (.slice aa (l.length+1) ca)).alloc (.cells #[.int .i64 m,.int .i64 m] 3)).heap.size:=(by have h:=(zY K1).2.2.2.2.1.size;have h0:=hB0;simp at h h0 ⊢;omega)) | (refine uS sK (by omega) (by omega) (B:=B) (n:=l.length) (m:=2) (xs:=(List.replicate l.length m).map fun z=>Value.int .i64 z) (news:=(List.replicate 2 m).map fun z=>Value.int .i64 z) rfl (.tmp 37) (.tmp 40) rfl (ad:=⟨wa.heap.size,0,none⟩) (cap:=2) rfl rfl (by have h:=zY V1O;unfold yR at h;rw [List.length_replicate] at h;exact h) rfl (World.news_of_block (zY V1N)) (by simp [Value.oneCell']) (by omega) (by omega) hB1 ?_;intro va wb sha ra da;obtain⟨ab,cb,rfl⟩:=sha;rw [<-List.map_append] at ra;have xa:=zK2 (zY V1O) (zY V1X) da;have kcb:=fun i=>cell_of_row wb _ i _ 105 (0,0) xa;have kzb:=fun i=>yB xa i;have K2:=zZ (dG (k:=2) (by simp) (fun z hz=>List.eq_of_mem_replicate hz) (by omega) (zY V1O) (zY V1X) ra da);clear ra da xa V1N;have V2O:=zZ (show yR ((wb.setCell ⟨wr.heap.size,2,none⟩ (.slice ab (l.length+2) cb)).alloc (.cells #[.int .i64 m,.int .i64 m,.int .i64 m] 3)) B (.slice a l.length c) (List.replicate l.length m) from World.ownsRow.alloc (zY K2).1 _);have V2X:=zZ (show ((wb.setCell ⟨wr.heap.size,2,none⟩ (.slice ab (l.length+2) cb)).alloc (.cells #[.int .i64 m,.int .i64 m,.int .i64 m] 3)).heap[wr.heap.size]?=some (.cells #[.slice a l.length c,.slice aa (l.length+1) ca,.slice ab (l.length+2) cb,.slice none 0 0,.int .i64 m] 105) from (zR _ _ _ (zN.1 (zY K2).2.1).1).trans (zY K2).2.1);have V2N:=zZ (show ((wb.setCell ⟨wr.heap.size,2,none⟩ (.slice ab (l.length+2) cb)).alloc (.cells #[.int .i64 m,.int .i64 m,.int .i64 m] 3)).heap[wb.heap.size]?=some (.cells #[.int .i64 m,.int .i64 m,.int .i64 m] 3) from (by have h:=heap_alloc_new (wb.setCell ⟨wr.heap.size,2,none⟩ (.slice ab (l.length+2) cb)) (.cells #[.int .i64 m,.int .i64 m,.int .i64 m] 3);rwa [show (wb.setCell ⟨wr.heap.size,2,none⟩ (.slice ab (l.length+2) cb)).heap.size=wb.heap.size by simp [World.setCell]] at h));have hB2:B<=((wb.setCell ⟨wr.heap.size,2,none⟩ (.slice ab (l.length+2) cb)).alloc (.cells #[.int .i64 m,.int .i64 m,.int .i64 m] 3)).heap.size:=(by have h:=(zY K2).2.2.2.2.1.size;have h0:=hB1;simp at h h0 ⊢;omega)) | (refine uS sK (by omega) (by omega) (B:=B) (n:=l.length) (m:=3) (xs:=(List.replicate l.length m).map fun z=>Value.int .i64 z) (news:=(List.replicate 3 m).map fun z=>Value.int .i64 z) rfl (.tmp 43) (.tmp 47) rfl (ad:=⟨wb.heap.size,0,none⟩) (cap:=3) rfl rfl (by have h:=zY V2O;unfold yR at h;rw [List.length_replicate] at h;exact h) rfl (World.news_of_block (zY V2N)) (by simp [Value.oneCell']) (by omega) (by omega) hB2 ?_;intro va wc sha ra da;obtain⟨ac,cc,rfl⟩:=sha;rw [<-List.map_append] at ra;have xa:=zK2 (zY V2O) (zY V2X) da;have kcc:=fun i=>cell_of_row wc _ i _ 105 (0,0) xa;have kzc:=fun i=>yB xa i;have K3:=zZ (dG (k:=3) (by simp) (fun z hz=>List.eq_of_mem_replicate hz) (by omega) (zY V2O) (zY V2X) ra da);clear ra da xa V2N;skip))
   have hXB:w.heap.size<=wr.heap.size:=Nat.le_trans (zY HF1).size (zY HFJ).size
   have f1:Fr (fun q=>own (.slice a l.length c) q\/q=wr.heap.size) w1 (wc.setCell ⟨wr.heap.size,3,none⟩ (.slice ac (l.length+3) cc)) (fun q=>own (.slice a l.length c) q\/q=wr.heap.size):=
    ((zY HFJ).widen (fun _ h=>.inl h)).trans ((((Fr.refl _ wr).alloc _).alloc _).trans ((zY K1).2.2.2.2.1.trans (((Fr.refl _ _).alloc _).trans ((zY K2).2.2.2.2.1.trans (((Fr.refl _ _).alloc _).trans (zY K3).2.2.2.2.1)))))
   have hbl:bb<w1.heap.size:=(zN.1 (zY Y0)).1
   have hbd:(wc.setCell ⟨wr.heap.size,3,none⟩ (.slice ac (l.length+3) cc)).heap[bb]?=some (.cells #[.int .i64 (wrap64 (n+1)),.slice aI LI.length cI,vE,vN] 65):=(f1.same bb hbl (fun h=>by
    rcases h with h | h
    ·exact hnb h
    ·have:=(zY HFJ).size;omega)).trans (zY Y0)
   have fT:Fr (fun q=>q=bb\/own (.slice a l.length c) q\/w.heap.size<=q) w (wc.setCell ⟨wr.heap.size,3,none⟩ (.slice ac (l.length+3) cc)) (fun q=>q=bb\/own (.slice a l.length c) q\/w.heap.size<=q):=
    ((
      zY HF1).widen (fun _ h=>.inl h)).trans (f1.widen (fun q h=>by
      rcases h with h | h
      ·exact .inr (.inl h)
      ·exact .inr (.inr (by omega))))
   have bk:=(zY HB).mid fT (fun q hq h=>by
    rcases h with h | h | h
    ·exact .inl h
    ·obtain⟨cur,hcur⟩:=tF (zY HO) h
     exact .inr ⟨zY HK q h,yP (zY HB).bk.rI hcur (by decide),yP (zY HB).bk.rE hcur (by decide),yP (zY HB).bk.rN hcur (by decide)⟩
    ·omega) hbd
   have m1:=(zY K3).2.2.2.1 _ 1 (by omega) (((zY K2).2.2.2.1 _ 1 (by omega) ((zY K1).2.2.1.fr ((Fr.refl _ _).alloc _))).fr ((Fr.refl _ _).alloc _))
   have m2:=(zY K3).2.2.2.1 _ 2 (by omega) ((zY K2).2.2.1.fr ((Fr.refl _ _).alloc _))
   have m3:=(zY K3).2.2.1
   have od:=(zY K3).1
   have xd:=(zY K3).2.1
   have g1:=(zY K1).2.2.2.2.2
   have g2:=(zY K2).2.2.2.2.2
   have g3:=(zY K3).2.2.2.2.2
   have s1:w.heap.size<=((wr.alloc (.cells #[.slice a l.length c,.slice none 0 0,.slice none 0 0,.slice none 0 0,.int .i64 m] 105)).alloc (.cells #[.int .i64 m] 3)).heap.size:=by simp;omega
   have s2:=Nat.le_trans (Nat.le_trans s1 (zY K1).2.2.2.2.1.size) (Fr.size ((Fr.refl (fun _=>False) _).alloc (.cells #[.int .i64 m,.int .i64 m] 3)))
   have s3:=Nat.le_trans (Nat.le_trans s2 (zY K2).2.2.2.2.1.size) (Fr.size ((Fr.refl (fun _=>False) _).alloc (.cells #[.int .i64 m,.int .i64 m,.int .i64 m] 3)))
   have fresh:∀q,(own (.slice a l.length c) q\/own (.slice aa (l.length+1) ca) q\/own (.slice ab (l.length+2) cb) q\/own (.slice ac (l.length+3) cc) q)->own (.slice a l.length c) q\/w.heap.size<=q:=fun q hq=>by
    rcases hq with h | h | h | h
    ·exact .inl h
    ·exact(g1 q h).imp id (fun h=>Nat.le_trans s1 h)
    ·exact(g2 q h).imp id (fun h=>Nat.le_trans s2 h)
    ·exact(g3 q h).imp id (fun h=>Nat.le_trans s3 h)
   have hRI:=(zY HB).bk.rI
   clear g1 g2 g3 s1 s2 s3 f1 hbd hbl K1 K2 K3 V0O V0X V1O V1X V2O V2X HB HO HK HF1 HFJ Y0 O1 hB0 hB1 hB2 kca kza kcb kzb kcc kzc
   have hwd:B<=(wc.setCell ⟨wr.heap.size,3,none⟩ (.slice ac (l.length+3) cc)).heap.size:=Nat.le_trans hBw fT.size
   generalize wc.setCell ⟨wr.heap.size,3,none⟩ (.slice ac (l.length+3) cc)=wd at *
   have ty:∀q,(own (.slice a l.length c) q\/own (.slice aa (l.length+1) ca) q\/own (.slice ab (l.length+2) cb) q\/own (.slice ac (l.length+3) cc) q)->∃cur,wd.heap[q]?=some (.cells cur 3 (0,0)):=fun q hq=>by
    rcases hq with h | h | h | h
    ·exact tF od h
    ·exact m1.ty od h
    ·exact m2.ty od h
    ·exact m3.ty od h
   have full:uD wd (.slice a l.length c) m/\uD wd (.slice aa (l.length+1) ca) m/\uD wd (.slice ab (l.length+2) cb) m/\uD wd (.slice ac (l.length+3) cc) m:=⟨od.full (by simp;omega) (fun z hz=>List.eq_of_mem_replicate hz),m1.1,m2.1,m3.1⟩
   have cbb:=fun j=>cell_of_row wd bb j _ 65 (0,0) bk.bk.blk
   have hXI:¬own (.slice aI LI.length cI) wr.heap.size:=fun hq=>by have:=(zS hRI _ hq).2;omega
   have FT:=zZ fT
   have BK:=zZ bk
   have TY:=zZ ty
   have FULL:=zZ full
   have FRESH:=zZ fresh
   have XD:=zZ xd
   clear fT bk ty full fresh m1 m2 m3 od
   have hE5:∀o,(wd.alloc o).drew.heap[wr.heap.size]?=some (.cells #[.slice a l.length c,.slice aa (l.length+1) ca,.slice ab (l.length+2) cb,.slice ac (l.length+3) cc,.int .i64 m] 105 (0,0)):=fun o=>(zR wd o _ (zN.1 (zY XD)).1).trans (zY XD)
   have cbq:∀o,(wd.alloc o).drew.cell? ⟨bb,1,none⟩=some (.slice aI LI.length cI):=fun o=>by
    have h:(wd.alloc o).drew.heap[bb]?=_:=(zR wd o _ (zN.1 (zY BK).bk.blk).1).trans (zY BK).bk.blk
    exact cell_of_row _ _ 1 _ 65 (0,0) h
   clear xd
   have hXb:wr.heap.size≠bb:=fun e=>by have h:=zY XD;rw [e] at h;exact absurd (qU h (zY BK).bk.blk) (by decide)
   have hX5:¬own (.slice aI LI.length cI) wr.heap.size:=fun hq=>by
    have h:=hXI;exact h hq
   have fin:∀v' w3,w3.ownsRow B 105 5 v' (LI.length+1) (uE LI++[.slice a l.length c,.slice aa (l.length+1) ca,.slice ab (l.length+2) cb,.slice ac (l.length+3) cc,.int .i64 m])->Fr (own (.slice aI LI.length cI)) (wd.alloc (.cells #[.slice a l.length c,.slice aa (l.length+1) ca,.slice ab (l.length+2) cb,.slice ac (l.length+3) cc,.int .i64 m] 105)).drew w3 (own v')->zQ4 w (w3.setCell ⟨bb,1,none⟩ v') B bb (wrap64 (n+1)) (.slice aI LI.length cI) vE vN LI LE LN K (.slice a l.length c):=fun v' w3 o3 f3=>by
    have fa:Fr (fun _=>False) wd (wd.alloc (.cells #[.slice a l.length c,.slice aa (l.length+1) ca,.slice ab (l.length+2) cb,.slice ac (l.length+3) cc,.int .i64 m] 105)).drew (fun _=>False):=((Fr.refl _ _).alloc _).drew
    have hall:∀q,q<wd.heap.size->(wd.alloc (.cells #[.slice a l.length c,.slice aa (l.length+1) ca,.slice ab (l.length+2) cb,.slice ac (l.length+3) cc,.int .i64 m] 105)).drew.heap[q]?=wd.heap[q]?:=fun q hq=>fa.same q hq (fun h=>h)
    have full:=zY FULL
    have hb:=((zY BK).fr fa).addI (e:=⟨.slice a l.length c,.slice aa (l.length+1) ca,.slice ab (l.length+2) cb,.slice ac (l.length+3) cc,m⟩) (K2:=fun q=>own (.slice a l.length c) q\/own (.slice aa (l.length+1) ca) q\/own (.slice ab (l.length+2) cb) q\/own (.slice ac (l.length+3) cc) q) ⟨full.1.fr fa,full.2.1.fr fa,full.2.2.1.fr fa,full.2.2.2.fr fa⟩ ⟨vV.mono (fun _ h=>.inl h),vV.mono (fun _ h=>.inr (.inl h)),vV.mono (fun _ h=>.inr (.inr (.inl h))),vV.mono (fun _ h=>.inr (.inr (.inr h)))⟩ (fun q hq=>by
     obtain⟨cur,hcur⟩:=zY TY q hq
     exact⟨cur,(hall q (zN.1 hcur).1).trans hcur⟩) o3 f3
    refine⟨v',_,_,hb,fun q hq=>?_,fun q hq=>?_,?_⟩
    ·rcases hq with h | h
     ·exact .inl h
     ·exact .inr (zY FRESH q h)
    ·by_cases hlt:q<w.heap.size
     ·exact .inl (f3.old q (zT hlt (Nat.le_trans (zY FT).size fa.size)) hq)
     ·exact .inr (by omega)
    ·refine Fr.setCell ?_ _ _ (.inl (.inl rfl))
     refine((zY FT).widen (fun q h=>?_)).trans ((fa.widen (fun q h=>h.elim)).trans (f3.widen (fun q h=>.inr (.inl h))))
     rcases h with h | h | h
     ·exact .inl h
     ·exact .inr (.inr (.inl h))
     ·exact .inr (.inr (.inr h))
   refine wp_region_held_drew (S:=fun w'=>w'.heap[wr.heap.size]?=some (.cells #[.slice a l.length c,.slice aa (l.length+1) ca,.slice ab (l.length+2) cb,.slice ac (l.length+3) cc,.int .i64 m] 105 (0,0))) (by kernel_rfl) ?_ (fun hHeld=>?_)
   ·exact zY XD
   refine zA (i:=0) (oi:={dst:=some 50,op:=.move (.tmp 0),type:=60,pos:= "law.go:101",after:=#[],guard:=none}) ?_
   simp only [Act.put,zC,zD,zE]
   refine zA (i:=1) (oi:={dst:=some 51,op:=.move (.tmp 0),type:=60,pos:= "law.go:101",after:=#[],guard:=none}) ?_
   simp only [Act.put,zC,zD,zE]
   refine zA (i:=2) (oi:={dst:=some 52,op:=.nilCheck (.tmp 51),type:=0,pos:= "law.go:101",after:=#[zG 1],guard:=none}) ?_
   simp only [Act.put,zC,zD,zE]
   refine zA (i:=3) (oi:={dst:=some 53,op:=.fieldAddr 65 (.tmp 52) 1,type:=0,pos:= "law.go:101",after:=#[zG 2],guard:=none}) ?_
   simp only [Act.put,zC,zD,zE]
   refine zB (i:=5) (oi:={dst:=some 55,op:=.load 105 (.tmp 6),type:=105,pos:= "law.go:101",after:=#[],guard:=none}) ?_
   simp only [Act.put,zC,zD,zE]
   refine wpAnyH_ready (rs:=[4,6]) (by kernel_rfl) (by simp) ?_
   refine AllReadyH.cons (o:={dst:=some 54,op:=.load 61 (.tmp 53),type:=61,pos:= "law.go:101",after:=#[zG 3],guard:=none}) rfl (fun K' hK'=>?_) (AllReadyH.cons (o:={dst:=some 56,op:=.buildSlice 61 1 #[(0,.tmp 55)],type:=61,pos:= "law.go:101",after:=#[zG 5],guard:=none}) rfl (fun K' hK'=>?_) AllReadyH.nil)
   focus
    go_simp
    refine hK'.out _ _ ?_ (fun hHeld=>?_)
    ·exact zY XD
    clear hK' K'
    try simp only [Act.put,zC,zD,zE]
    refine zL (i:=6) (o:={dst:=some 56,op:=.buildSlice 61 1 #[(0,.tmp 55)],type:=61,pos:= "law.go:101",after:=#[zG 5],guard:=none}) (fun K' hK'=>?_)
   rotate_left
   focus
    go_simp
    refine hK'.out _ _ ?_ (fun hHeld=>?_)
    ·exact hE5 _
    clear hK' K'
    try simp only [Act.put,zC,zD,zE]
    refine zL (i:=4) (o:={dst:=some 54,op:=.load 61 (.tmp 53),type:=61,pos:= "law.go:101",after:=#[zG 3],guard:=none}) (fun K' hK'=>?_)
   rotate_left
   all_goals
    go_simp
    refine hK'.out _ _ ?_ (fun hHeld=>?_)
    ·exact hE5 _
    clear hK' K'
    try simp only [Act.put,zC,zD,zE]
    refine zL (i:=7) (o:={dst:=some 57,op:=.call {callee:=.builtin .append,args:=#[.tmp 54,.tmp 56],argTypes:=#[61,61]},type:=61,pos:= "law.go:101",after:=#[zG 4,zG 6],guard:=none}) (fun K' hK'=>?_)
    refine xK (d:=57) rfl zR4 (by decide) (by decide) (v:=.slice aI LI.length cI) (n:=LI.length) (m:=1) (xs:=uE LI) (news:=[.slice a l.length c,.slice aa (l.length+1) ca,.slice ab (l.length+2) cb,.slice ac (l.length+3) cc,.int .i64 m]) (B:=B) (ad:=⟨wd.heap.size,0,none⟩) (cap:=1) rfl (.tmp 54) (.tmp 56) rfl rfl rfl ((zY BK).fr ((Fr.refl _ _).alloc (.cells #[.slice a l.length c,.slice aa (l.length+1) ca,.slice ab (l.length+2) cb,.slice ac (l.length+3) cc,.int .i64 m] 105)).drew).bk.rI rfl (World.news_of_block (heap_alloc_new wd _)) (by simp [Value.oneCell']) (by omega) (by omega) (by simp;omega) ?_
    intro v3 w3 o3 f3 sh3
    obtain⟨av,cv,rfl⟩:=sh3
    have pr:w3.heap[bb]?=some (.cells #[.int .i64 (wrap64 (n+1)),.slice aI LI.length cI,vE,vN] 65):=by
     have hb2:=((zY BK).fr ((Fr.refl _ _).alloc (.cells #[.slice a l.length c,.slice aa (l.length+1) ca,.slice ab (l.length+2) cb,.slice ac (l.length+3) cc,.int .i64 m] 105)).drew)
     exact(f3.same bb (zN.1 hb2.bk.blk).1 (yP hb2.bk.rI hb2.bk.blk (by decide))).trans hb2.bk.blk
    have pc:=fun j=>cell_of_row w3 bb j _ 65 (0,0) pr
    have pz:=fun j=>yB pr j
    have gg:w3.heap[wr.heap.size]?=some (.cells #[.slice a l.length c,.slice aa (l.length+1) ca,.slice ab (l.length+2) cb,.slice ac (l.length+3) cc,.int .i64 m] 105 (0,0)):=(f3.same _ (zN.1 (hE5 _)).1 (fun hq=>?_)).trans (hE5 (.cells #[.slice a l.length c,.slice aa (l.length+1) ca,.slice ab (l.length+2) cb,.slice ac (l.length+3) cc,.int .i64 m] 105))
    rotate_left
    ·exact hX5 hq
    have O3:=zZ o3
    have F3:=zZ f3
    clear o3 f3 pr
    refine hK'.out _ _ gg (fun hHeld=>?_)
    clear hK' K'
    simp only [zC,zD,zE]
    refine zA (i:=8) (oi:={dst:=some 58,op:=.nilCheck (.tmp 50),type:=0,pos:= "law.go:101",after:=#[zG 0,zF 0,zF 1,zF 2,zF 3,zF 4,zF 5,zF 6,zF 7],guard:=none}) ?_
    simp only [Act.put,zC,zD,zE]
    refine zA (i:=9) (oi:={dst:=some 59,op:=.fieldAddr 65 (.tmp 58) 1,type:=0,pos:= "law.go:101",after:=#[zG 8,zF 0,zF 1,zF 2,zF 3,zF 4,zF 5,zF 6,zF 7],guard:=none}) ?_
    simp only [Act.put,zC,zD,zE]
    refine zL (i:=10) (o:={dst:=none,op:=.store 61 (.tmp 59) (.tmp 57),type:=0,pos:= "law.go:101",after:=#[zG 9,zG 7,zM 7,zF 0,zF 1,zF 2,zF 3,zF 4,zF 5,zF 6,zF 7],guard:=none}) (fun K' hK'=>?_)
    go_simp
    refine hK'.out _ _ ?_ (fun hHeld=>?_)
    ·exact(zQ _ _ _ _ hXb).trans gg
    clear hK' K'
    try simp only [Act.put,zC,zD,zE]
    refine wpAnyH_done (by kernel_rfl) ?_ _
    go_wp2
    go_end0
    exact⟨rfl,fin _ w3 (zY O3) (zY F3)⟩
theorem uK {U wa:World} {B e s n j:Nat} {lv va:Value} {xs:List Value} (_ho:U.ownsRow B e s lv n xs) (hd:(∃g cp,lv=.slice (some ⟨g,0,none⟩) n cp/\va=.slice (some ⟨g,0,none⟩) (n+j) cp/\n+j<=cp/\U.grownBy wa (some g))\/(U.grownBy wa none/\∀q,own va q->U.heap.size<=q)) (q:Nat) (hq:q<U.heap.size) (hn:¬own lv q):wa.heap[q]?=U.heap[q]?:=by
 rcases hd with ⟨g,cp,hl,_,_,hg⟩ | ⟨hg,_⟩
 ·exact hg.block q hq (fun e=>hn (by rw [hl];simp only [own,Value.ownBlock];exact e.symm))
 ·exact hg.block q hq (by simp)
theorem yJ6 {w:World} {B e s n c:Nat} {a:Option Addr} {xs:List Value} (h:w.ownsRow B e s (.slice a n c) n xs) (hn:0<n):∃g,a=some ⟨g,0,none⟩/\g<w.heap.size/\(∀k,k<n*s->∃v,w.cell? ⟨g,k,none⟩=some v)/\∀k,w.frozen? ⟨g,k,none⟩=false:=by
 obtain⟨h0,h1⟩:=h
 rcases h1 with ⟨hv,h2⟩ | ⟨g,cap,cur,hv,hB,hg,hc1,hc2,hc3,hc4⟩
 ·omega
 ·cases hv
  refine⟨g,rfl,(zN.1 hg).1,fun k hk=>?_,fun k=>yB hg k⟩
  have hlt:k<cur.size:=by rw [hc3];exact zT hk (Nat.mul_le_mul_right s hc1)
  exact⟨cur[k],(cell_of_row w g k cur e (0,0) hg).trans (Array.getElem?_eq_getElem hlt)⟩
theorem mJ {w:World} {B e s n c g k:Nat} {xs:List Value} (h:w.ownsRow B e s (.slice (some ⟨g,0,none⟩) n c) n xs) (z:Value) (_hk:k<n*s):(w.setCell ⟨g,k,none⟩ z).ownsRow B e s (.slice (some ⟨g,0,none⟩) n c) n (xs.set k z):=by
 obtain⟨h0,h1⟩:=h
 rcases h1 with ⟨hv,h2⟩ | ⟨g',cap,cur,hv,hB,hg,hc1,hc2,hc3,hc4⟩
 ·cases hv
 ·cases hv
  refine⟨by simpa using h0,.inr ⟨g,c,cur.setIfInBounds k z,rfl,hB,yD w g k cur e _ hg,hc1,hc2,by simpa using hc3,?_⟩⟩
  rw [Array.toList_setIfInBounds,List.take_set,hc4]
theorem zI0 (us:List Value):uC 1 us=us:=by unfold uC;simp
theorem rY {l:List Value} {k:Nat} (h:k<l.length):∃d,l.drop k=d::l.drop (k+1):=⟨_,List.drop_eq_getElem_cons h⟩
theorem hU (p:List Value) {k i:Nat} (hk:p.length=k) (q:List Value) (z:Value):(p++q).set (k+i) z=p++q.set i z:=by
 rw [List.set_append_right _ _ (by omega),show k+i-p.length=i by omega]
theorem zT2 (p:List Value) {k:Nat} (hk:p.length=k) (q:List Value) (z:Value):(p++q).set k z=p++q.set 0 z:=hU p hk (i:=0) q z
theorem yB5 {w:World} {B e n c g j:Nat} {xs:List Value} {u0 u1 u2:Value} (h:w.ownsRow B e 3 (.slice (some ⟨g,0,none⟩) n c) n (uC j [u0,u1,u2]++xs.drop (j*3))) (hj:j<n) (z0 z1 z2:Value) (e0:z0=u0:=by rfl) (e1:z1=u1:=by rfl) (e2:z2=u2:=by rfl) :
  (((w.setCell ⟨g,j*3,none⟩ z0).setCell ⟨g,j*3+1,none⟩ z1).setCell ⟨g,j*3+2,none⟩ z2).ownsRow B e 3 (.slice (some ⟨g,0,none⟩) n c) n (uC (j+1) [u0,u1,u2]++xs.drop ((j+1)*3)):=by
 subst e0 e1 e2
 have hr:=mJ (mJ (mJ h z0 (k:=j*3) (by omega)) z1 (k:=j*3+1) (by omega)) z2 (k:=j*3+2) (by omega)
 have hl:=h.1
 rw [List.length_append,qO,List.length_drop] at hl
 simp only [List.length_cons,List.length_nil] at hl
 have hp:(uC j [z0,z1,z2]).length=j*3:=qO _ _
 obtain⟨d0,x0⟩:=rY (l:=xs) (k:=j*3) (by omega)
 obtain⟨d1,x1⟩:=rY (l:=xs) (k:=j*3+1) (by omega)
 obtain⟨d2,x2⟩:=rY (l:=xs) (k:=j*3+1+1) (by omega)
 rw [x0,x1,x2] at hr
 rw [zT2 _ hp,hU _ hp,hU _ hp] at hr
 rw [<-uR,zI0,List.append_assoc,show (j+1)*3=j*3+1+1+1 by omega]
 exact hr
theorem yB6 {w:World} {B e n c g j:Nat} {xs:List Value} {u0 u1 u2 u3:Value} (h:w.ownsRow B e 4 (.slice (some ⟨g,0,none⟩) n c) n (uC j [u0,u1,u2,u3]++xs.drop (j*4))) (hj:j<n) (z0 z1 z2 z3:Value) (e0:z0=u0:=by rfl) (e1:z1=u1:=by rfl) (e2:z2=u2:=by rfl) (e3:z3=u3:=by rfl) :
  ((((w.setCell ⟨g,j*4,none⟩ z0).setCell ⟨g,j*4+1,none⟩ z1).setCell ⟨g,j*4+2,none⟩ z2).setCell ⟨g,j*4+3,none⟩ z3).ownsRow B e 4 (.slice (some ⟨g,0,none⟩) n c) n (uC (j+1) [u0,u1,u2,u3]++xs.drop ((j+1)*4)):=by
 subst e0 e1 e2 e3
 have hr:=mJ (mJ (mJ (mJ h z0 (k:=j*4) (by omega)) z1 (k:=j*4+1) (by omega)) z2 (k:=j*4+2) (by omega)) z3 (k:=j*4+3) (by omega)
 have hl:=h.1
 rw [List.length_append,qO,List.length_drop] at hl
 simp only [List.length_cons,List.length_nil] at hl
 have hp:(uC j [z0,z1,z2,z3]).length=j*4:=qO _ _
 obtain⟨d0,x0⟩:=rY (l:=xs) (k:=j*4) (by omega)
 obtain⟨d1,x1⟩:=rY (l:=xs) (k:=j*4+1) (by omega)
 obtain⟨d2,x2⟩:=rY (l:=xs) (k:=j*4+1+1) (by omega)
 obtain⟨d3,x3⟩:=rY (l:=xs) (k:=j*4+1+1+1) (by omega)
 rw [x0,x1,x2,x3] at hr
 rw [zT2 _ hp,hU _ hp,hU _ hp,hU _ hp] at hr
 rw [<-uR,zI0,List.append_assoc,show (j+1)*4=j*4+1+1+1+1 by omega]
 exact hr
theorem zR6:mU 63 111 5 104:=oM _ _ _ _ (.agg #[.slice none 0 0,.slice none 0 0,.slice none 0 0,.slice none 0 0,.int .i64 0]) Tryz.underlying63 (by kernel_rfl) rfl
theorem zR5:mU 62 108 5 104:=oM _ _ _ _ (.agg #[.slice none 0 0,.slice none 0 0,.slice none 0 0,.slice none 0 0,.int .i64 0]) Tryz.underlying62 (by kernel_rfl) rfl
def yC5 (w w':World) (B bb:Nat) (n:Int) (vI vE vN:Value) (LI LE LN:List Ent) (K:Nat->Prop) (lv:Value):Prop:=
 ∃vX' e K',vK w' B bb n vI vE vX' LI LE (LN++[e]) K'/\(∀q,K' q->K q\/own lv q\/w.heap.size<=q)/\(∀q,own vX' q->own vN q\/w.heap.size<=q)/\Fr (fun q=>q=bb\/own vN q\/own lv q\/w.heap.size<=q) w w' (fun q=>q=bb\/own vN q\/own lv q\/w.heap.size<=q)
def bL (w w':World) (B bb:Nat) (n:Int) (vI vE vN:Value) (LI LE LN:List Ent) (K:Nat->Prop) (lv:Value):Prop:=
 ∃vX' e K',vK w' B bb n vI vX' vN LI (LE++[e]) LN K'/\(∀q,K' q->K q\/own lv q\/w.heap.size<=q)/\(∀q,own vX' q->own vE q\/w.heap.size<=q)/\Fr (fun q=>q=bb\/own vE q\/own lv q\/w.heap.size<=q) w w' (fun q=>q=bb\/own vE q\/own lv q\/w.heap.size<=q)
theorem lF {w2:World} {B bb:Nat} {n:Int} {vI vE vN:Value} {LI LE LN:List Ent} {K:Nat->Prop} (h:vK w2 B bb n vI vE vN LI LE LN K) (hBw:B<=w2.heap.size) {lv:Value} {nn:Nat} {xs:List Value} (ho:w2.ownsRow B 72 3 lv nn xs) (hk:∀q,own lv q->¬K q) (hl:nn<=500000000) (hL:LE.length<=900000000000) :
  Calls Tryz.prog 75 #[.pointer (some ⟨bb,0,none⟩),lv] w2 fun e w'=>e=.returned (.tuple #[])/\bL w2 w' B bb (wrap64 (n+1)) vI vE vN LI LE LN K lv:=by
 obtain⟨a,c,rfl⟩:=yM ho
 obtain⟨aX,cX,rfl⟩:=yM h.bk.rE
 have hnb:¬own (.slice a nn c) bb:=yP ho h.bk.blk (by decide)
 have close:∀w',bL w2 w' B bb (wrap64 (n+1)) vI (.slice aX LE.length cX) vN LI LE LN K (.slice a nn c)->bL w2 w' B bb (wrap64 (n+1)) vI (.slice aX LE.length cX) vN LI LE LN K (.slice a nn c):=fun _ h=>h
 have CLOSE:=zZ close
 clear close
 have HB:=zZ h
 have HO:=zZ ho
 have HK:=zZ hk
 clear h ho hk
 go_enter Tryz.func75,Tryz.ntmps75
 have HNB:=zZ hnb
 clear hnb
 have y0:=yD w2 bb 0 _ 65 (.int .i64 (wrap64 (n+1))) (zY HB).bk.blk
 have cb:=fun j=>cell_of_row w2 _ j _ 65 (0,0) (zY HB).bk.blk
 have zb:=fun j=>yB (zY HB).bk.blk j
 have hbw:bb<w2.heap.size:=(zN.1 (zY HB).bk.blk).1
 have Y0:=zZ y0
 clear y0
 go_wp2
 obtain⟨m,hm⟩ : ∃m,wrap64 (1000+wrap64 (n+1))=m:=⟨_,rfl⟩
 rw [hm]
 have z1:(w2.setCell ⟨bb,0,none⟩ (.int .i64 (wrap64 (n+1)))).heap.size=w2.heap.size:=by simp [World.setCell]
 have hf1:Fr (fun q=>q=bb) w2 ((w2.setCell ⟨bb,0,none⟩ (.int .i64 (wrap64 (n+1)))).alloc (.cells #[.int .i64 0,.int .i64 m,.int .i64 0] 72)) (fun q=>q=bb):=((Fr.refl (fun q=>q=bb) w2).setCell _ _ (.inl rfl)).alloc _
 have y1:((w2.setCell ⟨bb,0,none⟩ (.int .i64 (wrap64 (n+1)))).alloc (.cells #[.int .i64 0,.int .i64 m,.int .i64 0] 72)).heap[bb]?=some (.cells #[.int .i64 (wrap64 (n+1)),vI,.slice aX LE.length cX,vN] 65):=(zR _ _ _ (by rw [z1];exact hbw)).trans (zY Y0)
 have p1:((w2.setCell ⟨bb,0,none⟩ (.int .i64 (wrap64 (n+1)))).alloc (.cells #[.int .i64 0,.int .i64 m,.int .i64 0] 72)).heap[w2.heap.size]?=some (.cells #[.int .i64 0,.int .i64 m,.int .i64 0] 72):=by
  have h:=heap_alloc_new (w2.setCell ⟨bb,0,none⟩ (.int .i64 (wrap64 (n+1)))) (.cells #[.int .i64 0,.int .i64 m,.int .i64 0] 72)
  rwa [z1] at h
 have z2:w2.heap.size<((w2.setCell ⟨bb,0,none⟩ (.int .i64 (wrap64 (n+1)))).alloc (.cells #[.int .i64 0,.int .i64 m,.int .i64 0] 72)).heap.size:=(zN.1 p1).1
 have hnP:¬own (.slice a nn c) w2.heap.size:=fun hq=>by have:=(zS (zY HO) _ hq).2;omega
 have o1:((w2.setCell ⟨bb,0,none⟩ (.int .i64 (wrap64 (n+1)))).alloc (.cells #[.int .i64 0,.int .i64 m,.int .i64 0] 72)).ownsRow B 72 3 (.slice a nn c) nn (uC 0 [.int .i64 0,.int .i64 m,.int .i64 0]++xs.drop (0*3)):=by
  rw [Nat.zero_mul,List.drop_zero]
  exact yA (zY HO) (fun q hq=>hf1.same q (zS (zY HO) q hq).2 (fun e=>zY HNB (e▸hq)))
 generalize hw1:(w2.setCell ⟨bb,0,none⟩ (.int .i64 (wrap64 (n+1)))).alloc (.cells #[.int .i64 0,.int .i64 m,.int .i64 0] 72)=w1 at *
 have HNP:=zZ hnP
 have O1:=zZ o1
 have Y1:=zZ y1
 have HF1:=zZ hf1
 have P1:=zZ p1
 have Z2:=zZ z2
 clear o1 y1 hf1 p1 hw1 hm cb zb z1 z2 Y0 hnP
 go_loopw [6] (fun i wr=>∃j:Nat,j<=nn/\i=.int .i64 j/\Hid (wr.ownsRow B 72 3 (.slice a nn c) nn (uC j [.int .i64 0,.int .i64 m,.int .i64 0]++xs.drop (j*3)))/\Fr (own (.slice a nn c)) w1 wr (own (.slice a nn c))) (fun i _=>nn-(intOf i).toNat)
 case atStart=>exact⟨0,Nat.zero_le _,rfl,O1,Fr.refl _ _⟩
 case round=>
  obtain⟨j,hj,rfl,hoj,hfj⟩:=hrel
  have hpr:=(hfj.same w2.heap.size (zY Z2) (zY HNP)).trans (zY P1)
  have cP:=fun i=>cell_of_row wr _ i _ 72 (0,0) hpr
  by_cases hlt:j<nn
  ·obtain⟨g,hg,hgl,hcell,hfz⟩:=yJ6 (zY hoj) (by omega)
   subst hg
   obtain⟨c0,k0⟩:=hcell (j*3) (by omega)
   have f0:=hfz (j*3)
   obtain⟨c1,k1⟩:=hcell (j*3+1) (by omega)
   have f1:=hfz (j*3+1)
   obtain⟨c2,k2⟩:=hcell (j*3+2) (by omega)
   have f2:=hfz (j*3+2)
   have hon:=yB5 (zY hoj) hlt (.int .i64 0) (.int .i64 m) (.int .i64 0)
   have HN:=zZ hon
   have HFJ:=zZ hfj
   have hk0:(0:Int)<=(j:Int):=by omega
   have hk1:(j:Int)<(nn:Int):=by omega
   have hgP':¬w2.heap.size=g:=fun e=>zY HNP (by rw [e];rfl)
   clear hoj hon hfj hcell hfz hpr
   go_wp2
   go_roundw
   case rel=>
    refine⟨j+1,by omega,by go_num,HN,?_⟩
    refine(((zY HFJ).setCell ⟨g,j*3,none⟩ (.int .i64 0) (.inl rfl)).setCell ⟨g,j*3+1,none⟩ (.int .i64 m) (.inl rfl)).setCell ⟨g,j*3+2,none⟩ (.int .i64 0) (.inl rfl)
   case measure=>simp [intOf];omega
  ·have hjl:j=nn:=by omega
   subst hjl
   have hk1:¬(j:Int)<(j:Int):=by omega
   have hoe:wr.ownsRow B 72 3 (.slice a j c) j (uC j [.int .i64 0,.int .i64 m,.int .i64 0]):=by
    have h:=zY hoj
    rw [List.drop_eq_nil_of_le (Nat.le_of_eq (zY HO).1),List.append_nil] at h
    exact h
   have hpl:w2.heap.size<wr.heap.size:=(zN.1 hpr).1
   have hPX:w2.heap.size≠wr.heap.size:=by omega
   have hPX':¬wr.heap.size=w2.heap.size:=by omega
   have hrB:B<=wr.heap.size:=by omega
   have C0n:=heap_alloc_new wr (.cells #[.slice a j c,.slice none 0 0,.slice none 0 0,.slice none 0 0,.int .i64 m] 108)
   have v0o:((wr.alloc (.cells #[.slice a j c,.slice none 0 0,.slice none 0 0,.slice none 0 0,.int .i64 m] 108)).alloc (.cells #[.int .i64 0,.int .i64 m,.int .i64 0] 72)).ownsRow B 72 3 (.slice a j c) j (uC j [.int .i64 0,.int .i64 m,.int .i64 0]):=World.ownsRow.alloc (World.ownsRow.alloc hoe _) _
   have v0x:((wr.alloc (.cells #[.slice a j c,.slice none 0 0,.slice none 0 0,.slice none 0 0,.int .i64 m] 108)).alloc (.cells #[.int .i64 0,.int .i64 m,.int .i64 0] 72)).heap[wr.heap.size]?=some (.cells #[.slice a j c,.slice none 0 0,.slice none 0 0,.slice none 0 0,.int .i64 m] 108):=(zR _ _ _ (by simp)).trans C0n
   have v0p:((wr.alloc (.cells #[.slice a j c,.slice none 0 0,.slice none 0 0,.slice none 0 0,.int .i64 m] 108)).alloc (.cells #[.int .i64 0,.int .i64 m,.int .i64 0] 72)).heap[w2.heap.size]?=some (.cells #[.int .i64 0,.int .i64 m,.int .i64 0] 72):=(zR _ _ _ (by simp;omega)).trans ((zR _ _ _ hpl).trans hpr)
   have v0n:((wr.alloc (.cells #[.slice a j c,.slice none 0 0,.slice none 0 0,.slice none 0 0,.int .i64 m] 108)).alloc (.cells #[.int .i64 0,.int .i64 m,.int .i64 0] 72)).heap[wr.heap.size+1]?=some (.cells #[.int .i64 0,.int .i64 m,.int .i64 0] 72):=by
    have h:=heap_alloc_new (wr.alloc (.cells #[.slice a j c,.slice none 0 0,.slice none 0 0,.slice none 0 0,.int .i64 m] 108)) (.cells #[.int .i64 0,.int .i64 m,.int .i64 0] 72)
    rwa [show (wr.alloc (.cells #[.slice a j c,.slice none 0 0,.slice none 0 0,.slice none 0 0,.int .i64 m] 108)).heap.size=wr.heap.size+1 by simp] at h
   have hB0:B<=((wr.alloc (.cells #[.slice a j c,.slice none 0 0,.slice none 0 0,.slice none 0 0,.int .i64 m] 108)).alloc (.cells #[.int .i64 0,.int .i64 m,.int .i64 0] 72)).heap.size:=by simp;omega
   have V0O:=zZ v0o
   have V0X:=zZ v0x
   have V0P:=zZ v0p
   have V0N:=zZ v0n
   have HFJ:=zZ hfj
   clear hoj hoe hfj C0n v0o v0x v0n v0p hpr
   go_wp2_with (at_builtin;first | (refine uS kP (by omega) (by omega) (B:=B) (n:=j) (m:=1) (xs:=uC j [.int .i64 0,.int .i64 m,.int .i64 0]) (news:=[.int .i64 0,.int .i64 m,.int .i64 0]) rfl (.tmp 35) (.tmp 37) rfl (ad:=⟨wr.heap.size+1,0,none⟩) (cap:=1) rfl rfl (zY V0O) rfl (World.news_of_block (zY V0N)) (by simp [Value.oneCell']) (by omega) (by omega) hB0 ?_;intro va wa sha ra da;obtain⟨aa,ca,rfl⟩:=sha;have ra':wa.ownsRow B 72 3 (.slice aa (j+1) ca) (j+1) (uC (j+1) [.int .i64 0,.int .i64 m,.int .i64 0]):=(by rw [<-uR];exact ra);have xa:=(uK (zY V0O) da wr.heap.size (zN.1 (zY V0X)).1 (yP (zY V0O) (zY V0X) (by decide))).trans (zY V0X);have kca:=fun i=>cell_of_row wa _ i _ 108 (0,0) xa;have kza:=fun i=>yB xa i;have pa:=(uK (zY V0O) da w2.heap.size (zN.1 (zY V0P)).1 (zY HNP)).trans (zY V0P);have kpa:=fun i=>cell_of_row wa _ i _ 72 (0,0) pa;have K1:=zZ (pH (k:=1) (us:=[.int .i64 0,.int .i64 m,.int .i64 0]) (by simp) (by decide) (by omega) (zY V0O) (zY V0X) ra' da);have PP:=zZ pa;clear ra ra' da xa pa V0N;have V1O:=zZ (show ((wa.setCell ⟨wr.heap.size,1,none⟩ (.slice aa (j+1) ca)).alloc (.cells #[.int .i64 0,.int .i64 m,.int .i64 0,.int .i64 0,.int .i64 m,.int .i64 0] 72)).ownsRow B 72 3 (.slice a j c) j (uC j [.int .i64 0,.int .i64 m,.int .i64 0]) from World.ownsRow.alloc (zY K1).1 _);have V1X:=zZ (show ((wa.setCell ⟨wr.heap.size,1,none⟩ (.slice aa (j+1) ca)).alloc (.cells #[.int .i64 0,.int .i64 m,.int .i64 0,.int .i64 0,.int .i64 m,.int .i64 0] 72)).heap[wr.heap.size]?=some (.cells #[.slice a j c,.slice aa (j+1) ca,.slice none 0 0,.slice none 0 0,.int .i64 m] 108) from (zR _ _ _ (zN.1 (zY K1).2.1).1).trans (zY K1).2.1);have V1P:=zZ (show ((wa.setCell ⟨wr.heap.size,1,none⟩ (.slice aa (j+1) ca)).alloc (.cells #[.int .i64 0,.int .i64 m,.int .i64 0,.int .i64 0,.int .i64 m,.int .i64 0] 72)).heap[w2.heap.size]?=some (.cells #[.int .i64 0,.int .i64 m,.int .i64 0] 72) from (zR _ _ _ (by simp [World.setCell];exact(zN.1 (zY PP)).1)).trans ((zQ _ _ _ _ hPX).trans (zY PP)));have V1N:=zZ (show ((wa.setCell ⟨wr.heap.size,1,none⟩ (.slice aa (j+1) ca)).alloc (.cells #[.int .i64 0,.int .i64 m,.int .i64 0,.int .i64 0,.int .i64 m,.int .i64 0] 72)).heap[wa.heap.size]?=some (.cells #[.int .i64 0,.int .i64 m,.int .i64 0,.int .i64 0,.int .i64 m,.int .i64 0] 72) from (by have h:=heap_alloc_new (wa.setCell ⟨wr.heap.size,1,none⟩ (.slice aa (j+1) ca)) (.cells #[.int .i64 0,.int .i64 m,.int .i64 0,.int .i64 0,.int .i64 m,.int .i64 0] 72);rwa [show (wa.setCell ⟨wr.heap.size,1,none⟩ (.slice aa (j+1) ca)).heap.size=wa.heap.size by simp [World.setCell]] at h));have hB1:B<=((wa.setCell ⟨wr.heap.size,1,none⟩ (.slice aa (j+1) ca)).alloc (.cells #[.int .i64 0,.int .i64 m,.int .i64 0,.int .i64 0,.int .i64 m,.int .i64 0] 72)).heap.size:=(by have h:=(zY K1).2.2.2.2.1.size;have h0:=hB0;simp at h h0 ⊢;omega);clear PP) | (refine uS kP (by omega) (by omega) (B:=B) (n:=j) (m:=2) (xs:=uC j [.int .i64 0,.int .i64 m,.int .i64 0]) (news:=[.int .i64 0,.int .i64 m,.int .i64 0,.int .i64 0,.int .i64 m,.int .i64 0]) rfl (.tmp 40) (.tmp 43) rfl (ad:=⟨wa.heap.size,0,none⟩) (cap:=2) rfl rfl (zY V1O) rfl (World.news_of_block (zY V1N)) (by simp [Value.oneCell']) (by omega) (by omega) hB1 ?_;intro va wb sha ra da;obtain⟨ab,cb,rfl⟩:=sha;have ra':wb.ownsRow B 72 3 (.slice ab (j+2) cb) (j+2) (uC (j+2) [.int .i64 0,.int .i64 m,.int .i64 0]):=(by rw [<-uR];exact ra);have xa:=(uK (zY V1O) da wr.heap.size (zN.1 (zY V1X)).1 (yP (zY V1O) (zY V1X) (by decide))).trans (zY V1X);have kcb:=fun i=>cell_of_row wb _ i _ 108 (0,0) xa;have kzb:=fun i=>yB xa i;have pa:=(uK (zY V1O) da w2.heap.size (zN.1 (zY V1P)).1 (zY HNP)).trans (zY V1P);have kpb:=fun i=>cell_of_row wb _ i _ 72 (0,0) pa;have K2:=zZ (pH (k:=2) (us:=[.int .i64 0,.int .i64 m,.int .i64 0]) (by simp) (by decide) (by omega) (zY V1O) (zY V1X) ra' da);have PP:=zZ pa;clear ra ra' da xa pa V1N;have V2O:=zZ (show ((wb.setCell ⟨wr.heap.size,2,none⟩ (.slice ab (j+2) cb)).alloc (.cells #[.int .i64 0,.int .i64 m,.int .i64 0,.int .i64 0,.int .i64 m,.int .i64 0,.int .i64 0,.int .i64 m,.int .i64 0] 72)).ownsRow B 72 3 (.slice a j c) j (uC j [.int .i64 0,.int .i64 m,.int .i64 0]) from World.ownsRow.alloc (zY K2).1 _);have V2X:=zZ (show ((wb.setCell ⟨wr.heap.size,2,none⟩ (.slice ab (j+2) cb)).alloc (.cells #[.int .i64 0,.int .i64 m,.int .i64 0,.int .i64 0,.int .i64 m,.int .i64 0,.int .i64 0,.int .i64 m,.int .i64 0] 72)).heap[wr.heap.size]?=some (.cells #[.slice a j c,.slice aa (j+1) ca,.slice ab (j+2) cb,.slice none 0 0,.int .i64 m] 108) from (zR _ _ _ (zN.1 (zY K2).2.1).1).trans (zY K2).2.1);have V2P:=zZ (show ((wb.setCell ⟨wr.heap.size,2,none⟩ (.slice ab (j+2) cb)).alloc (.cells #[.int .i64 0,.int .i64 m,.int .i64 0,.int .i64 0,.int .i64 m,.int .i64 0,.int .i64 0,.int .i64 m,.int .i64 0] 72)).heap[w2.heap.size]?=some (.cells #[.int .i64 0,.int .i64 m,.int .i64 0] 72) from (zR _ _ _ (by simp [World.setCell];exact(zN.1 (zY PP)).1)).trans ((zQ _ _ _ _ hPX).trans (zY PP)));have V2N:=zZ (show ((wb.setCell ⟨wr.heap.size,2,none⟩ (.slice ab (j+2) cb)).alloc (.cells #[.int .i64 0,.int .i64 m,.int .i64 0,.int .i64 0,.int .i64 m,.int .i64 0,.int .i64 0,.int .i64 m,.int .i64 0] 72)).heap[wb.heap.size]?=some (.cells #[.int .i64 0,.int .i64 m,.int .i64 0,.int .i64 0,.int .i64 m,.int .i64 0,.int .i64 0,.int .i64 m,.int .i64 0] 72) from (by have h:=heap_alloc_new (wb.setCell ⟨wr.heap.size,2,none⟩ (.slice ab (j+2) cb)) (.cells #[.int .i64 0,.int .i64 m,.int .i64 0,.int .i64 0,.int .i64 m,.int .i64 0,.int .i64 0,.int .i64 m,.int .i64 0] 72);rwa [show (wb.setCell ⟨wr.heap.size,2,none⟩ (.slice ab (j+2) cb)).heap.size=wb.heap.size by simp [World.setCell]] at h));have hB2:B<=((wb.setCell ⟨wr.heap.size,2,none⟩ (.slice ab (j+2) cb)).alloc (.cells #[.int .i64 0,.int .i64 m,.int .i64 0,.int .i64 0,.int .i64 m,.int .i64 0,.int .i64 0,.int .i64 m,.int .i64 0] 72)).heap.size:=(by have h:=(zY K2).2.2.2.2.1.size;have h0:=hB1;simp at h h0 ⊢;omega);clear PP) | (refine uS kP (by omega) (by omega) (B:=B) (n:=j) (m:=3) (xs:=uC j [.int .i64 0,.int .i64 m,.int .i64 0]) (news:=[.int .i64 0,.int .i64 m,.int .i64 0,.int .i64 0,.int .i64 m,.int .i64 0,.int .i64 0,.int .i64 m,.int .i64 0]) rfl (.tmp 46) (.tmp 50) rfl (ad:=⟨wb.heap.size,0,none⟩) (cap:=3) rfl rfl (zY V2O) rfl (World.news_of_block (zY V2N)) (by simp [Value.oneCell']) (by omega) (by omega) hB2 ?_;intro va wc sha ra da;obtain⟨ac,cc,rfl⟩:=sha;have ra':wc.ownsRow B 72 3 (.slice ac (j+3) cc) (j+3) (uC (j+3) [.int .i64 0,.int .i64 m,.int .i64 0]):=(by rw [<-uR];exact ra);have xa:=(uK (zY V2O) da wr.heap.size (zN.1 (zY V2X)).1 (yP (zY V2O) (zY V2X) (by decide))).trans (zY V2X);have kcc:=fun i=>cell_of_row wc _ i _ 108 (0,0) xa;have kzc:=fun i=>yB xa i;have pa:=(uK (zY V2O) da w2.heap.size (zN.1 (zY V2P)).1 (zY HNP)).trans (zY V2P);have kpc:=fun i=>cell_of_row wc _ i _ 72 (0,0) pa;have K3:=zZ (pH (k:=3) (us:=[.int .i64 0,.int .i64 m,.int .i64 0]) (by simp) (by decide) (by omega) (zY V2O) (zY V2X) ra' da);have PP:=zZ pa;clear ra ra' da xa pa V2N;clear PP))
   have hXB:w2.heap.size<=wr.heap.size:=by omega
   have f1:Fr (fun q=>own (.slice a j c) q\/q=wr.heap.size) w1 (wc.setCell ⟨wr.heap.size,3,none⟩ (.slice ac (j+3) cc)) (fun q=>own (.slice a j c) q\/q=wr.heap.size):=
    ((zY HFJ).widen (fun _ h=>.inl h)).trans ((((Fr.refl _ wr).alloc _).alloc _).trans ((zY K1).2.2.2.2.1.trans (((Fr.refl _ _).alloc _).trans ((zY K2).2.2.2.2.1.trans (((Fr.refl _ _).alloc _).trans (zY K3).2.2.2.2.1)))))
   have hbl:bb<w1.heap.size:=(zN.1 (zY Y1)).1
   have hbd:(wc.setCell ⟨wr.heap.size,3,none⟩ (.slice ac (j+3) cc)).heap[bb]?=some (.cells #[.int .i64 (wrap64 (n+1)),vI,.slice aX LE.length cX,vN] 65):=(f1.same bb hbl (fun h=>by
    rcases h with h | h
    ·exact zY HNB h
    ·omega)).trans (zY Y1)
   have fT:Fr (fun q=>q=bb\/own (.slice a j c) q\/w2.heap.size<=q) w2 (wc.setCell ⟨wr.heap.size,3,none⟩ (.slice ac (j+3) cc)) (fun q=>q=bb\/own (.slice a j c) q\/w2.heap.size<=q):=
    ((
      zY HF1).widen (fun _ h=>.inl h)).trans (f1.widen (fun q h=>by
      rcases h with h | h
      ·exact .inr (.inl h)
      ·exact .inr (.inr (by omega))))
   have bk:=(zY HB).mid fT (fun q hq h=>by
    rcases h with h | h | h
    ·exact .inl h
    ·obtain⟨cur,hcur⟩:=tF (zY HO) h
     exact .inr ⟨zY HK q h,yP (zY HB).bk.rI hcur (by decide),yP (zY HB).bk.rE hcur (by decide),yP (zY HB).bk.rN hcur (by decide)⟩
    ·omega) hbd
   have m1:=(zY K3).2.2.2.1 _ 1 (by omega) (((zY K2).2.2.2.1 _ 1 (by omega) ((zY K1).2.2.1.fr ((Fr.refl _ _).alloc _))).fr ((Fr.refl _ _).alloc _))
   have m2:=(zY K3).2.2.2.1 _ 2 (by omega) ((zY K2).2.2.1.fr ((Fr.refl _ _).alloc _))
   have m3:=(zY K3).2.2.1
   have od:=(zY K3).1
   have xd:=(zY K3).2.1
   have g1:=(zY K1).2.2.2.2.2
   have g2:=(zY K2).2.2.2.2.2
   have g3:=(zY K3).2.2.2.2.2
   have s1:w2.heap.size<=((wr.alloc (.cells #[.slice a j c,.slice none 0 0,.slice none 0 0,.slice none 0 0,.int .i64 m] 108)).alloc (.cells #[.int .i64 0,.int .i64 m,.int .i64 0] 72)).heap.size:=by simp;omega
   have s2:=Nat.le_trans (Nat.le_trans s1 (zY K1).2.2.2.2.1.size) (Fr.size ((Fr.refl (fun _=>False) _).alloc (.cells #[.int .i64 0,.int .i64 m,.int .i64 0,.int .i64 0,.int .i64 m,.int .i64 0] 72)))
   have s3:=Nat.le_trans (Nat.le_trans s2 (zY K2).2.2.2.2.1.size) (Fr.size ((Fr.refl (fun _=>False) _).alloc (.cells #[.int .i64 0,.int .i64 m,.int .i64 0,.int .i64 0,.int .i64 m,.int .i64 0,.int .i64 0,.int .i64 m,.int .i64 0] 72)))
   have fresh:∀q,(own (.slice a j c) q\/own (.slice aa (j+1) ca) q\/own (.slice ab (j+2) cb) q\/own (.slice ac (j+3) cc) q)->own (.slice a j c) q\/w2.heap.size<=q:=fun q hq=>by
    rcases hq with h | h | h | h
    ·exact .inl h
    ·exact(g1 q h).imp id (fun h=>Nat.le_trans s1 h)
    ·exact(g2 q h).imp id (fun h=>Nat.le_trans s2 h)
    ·exact(g3 q h).imp id (fun h=>Nat.le_trans s3 h)
   have hXI:¬own (.slice aX LE.length cX) wr.heap.size:=fun hq=>by have:=(zS (zY HB).bk.rE _ hq).2;omega
   have hwd:B<=(wc.setCell ⟨wr.heap.size,3,none⟩ (.slice ac (j+3) cc)).heap.size:=Nat.le_trans hBw fT.size
   clear g1 g2 g3 s1 s2 s3 f1 hbd hbl K1 K2 K3 V0O V0X V0P V1O V1X V1P V2O V2X V2P HB HO HK HF1 HFJ Y1 O1 hB0 hB1 hB2 kca kza kpa kcb kzb kpb kcc kzc kpc P1 Z2 cP hpl hPX hPX'
   generalize (wc.setCell ⟨wr.heap.size,3,none⟩ (.slice ac (j+3) cc))=wd at *
   have ty:∀q,(own (.slice a j c) q\/own (.slice aa (j+1) ca) q\/own (.slice ab (j+2) cb) q\/own (.slice ac (j+3) cc) q)->∃cur,wd.heap[q]?=some (.cells cur 72 (0,0)):=fun q hq=>by
    rcases hq with h | h | h | h
    ·exact tF od h
    ·exact m1.ty od h
    ·exact m2.ty od h
    ·exact m3.ty od h
   have full:uM wd (.slice a j c) m/\uM wd (.slice aa (j+1) ca) m/\uM wd (.slice ab (j+2) cb) m/\uM wd (.slice ac (j+3) cc) m:=⟨(oY.row (by simp) od (by omega)).toE,m1.1.toE,m2.1.toE,m3.1.toE⟩
   have cbb:=fun i=>cell_of_row wd bb i _ 65 (0,0) bk.bk.blk
   have FT:=zZ fT
   have BK:=zZ bk
   have TY:=zZ ty
   have FULL:=zZ full
   have FRESH:=zZ fresh
   have XD:=zZ xd
   clear fT bk ty full fresh m1 m2 m3 od
   have hE5:∀o,(wd.alloc o).drew.heap[wr.heap.size]?=some (.cells #[.slice a j c,.slice aa (j+1) ca,.slice ab (j+2) cb,.slice ac (j+3) cc,.int .i64 m] 108 (0,0)):=fun o=>(zR wd o _ (zN.1 (zY XD)).1).trans (zY XD)
   have cbq:∀o,(wd.alloc o).drew.cell? ⟨bb,2,none⟩=some (.slice aX LE.length cX):=fun o=>by
    have h:(wd.alloc o).drew.heap[bb]?=_:=(zR wd o _ (zN.1 (zY BK).bk.blk).1).trans (zY BK).bk.blk
    exact cell_of_row _ _ 2 _ 65 (0,0) h
   clear xd
   have hXb:wr.heap.size≠bb:=fun e=>by have h:=zY XD;rw [e] at h;exact absurd (qU h (zY BK).bk.blk) (by decide)
   have fin:∀v' w3,w3.ownsRow B 108 5 v' (LE.length+1) (uE LE++[.slice a j c,.slice aa (j+1) ca,.slice ab (j+2) cb,.slice ac (j+3) cc,.int .i64 m])->Fr (own (.slice aX LE.length cX)) (wd.alloc (.cells #[.slice a j c,.slice aa (j+1) ca,.slice ab (j+2) cb,.slice ac (j+3) cc,.int .i64 m] 108)).drew w3 (own v')->bL w2 (w3.setCell ⟨bb,2,none⟩ v') B bb (wrap64 (n+1)) (vI) (.slice aX LE.length cX) (vN) LI LE LN K (.slice a j c):=fun v' w3 o3 f3=>by
    have fa:Fr (fun _=>False) wd (wd.alloc (.cells #[.slice a j c,.slice aa (j+1) ca,.slice ab (j+2) cb,.slice ac (j+3) cc,.int .i64 m] 108)).drew (fun _=>False):=((Fr.refl _ _).alloc _).drew
    have hall:∀q,q<wd.heap.size->(wd.alloc (.cells #[.slice a j c,.slice aa (j+1) ca,.slice ab (j+2) cb,.slice ac (j+3) cc,.int .i64 m] 108)).drew.heap[q]?=wd.heap[q]?:=fun q hq=>fa.same q hq (fun h=>h)
    have full:=zY FULL
    have hb:=((zY BK).fr fa).addE (e:=⟨.slice a j c,.slice aa (j+1) ca,.slice ab (j+2) cb,.slice ac (j+3) cc,m⟩) (K2:=fun q=>(own (.slice a j c) q\/own (.slice aa (j+1) ca) q\/own (.slice ab (j+2) cb) q\/own (.slice ac (j+3) cc) q)) ⟨full.1.fr fa,full.2.1.fr fa,full.2.2.1.fr fa,full.2.2.2.fr fa⟩ ⟨vV.mono (fun _ h=>.inl h),vV.mono (fun _ h=>.inr (.inl h)),vV.mono (fun _ h=>.inr (.inr (.inl h))),vV.mono (fun _ h=>.inr (.inr (.inr h)))⟩ (fun q hq=>by
     obtain⟨cur,hcur⟩:=zY TY q hq
     exact⟨cur,(hall q (zN.1 hcur).1).trans hcur⟩) o3 f3
    refine⟨v',_,_,hb,fun q hq=>?_,fun q hq=>?_,?_⟩
    ·rcases hq with h | h
     ·exact .inl h
     ·exact .inr (zY FRESH q h)
    ·by_cases hlt:q<w2.heap.size
     ·exact .inl (f3.old q (zT hlt (Nat.le_trans (zY FT).size fa.size)) hq)
     ·exact .inr (by omega)
    ·refine Fr.setCell ?_ _ _ (.inl (.inl rfl))
     refine((zY FT).widen (fun q h=>?_)).trans ((fa.widen (fun q h=>h.elim)).trans (f3.widen (fun q h=>.inr (.inl h))))
     rcases h with h | h | h
     ·exact .inl h
     ·exact .inr (.inr (.inl h))
     ·exact .inr (.inr (.inr h))
   refine wp_region_held_drew (S:=fun w'=>w'.heap[wr.heap.size]?=some (.cells #[.slice a j c,.slice aa (j+1) ca,.slice ab (j+2) cb,.slice ac (j+3) cc,.int .i64 m] 108 (0,0))) (by kernel_rfl) ?_ (fun hHeld=>?_)
   ·exact zY XD
   refine zA (i:=0) (oi:={dst:=some 53,op:=.move (.tmp 0),type:=60,pos:= "law.go:115",after:=#[],guard:=none}) ?_
   simp only [Act.put,zC,zD,zE]
   refine zA (i:=1) (oi:={dst:=some 54,op:=.move (.tmp 0),type:=60,pos:= "law.go:115",after:=#[],guard:=none}) ?_
   simp only [Act.put,zC,zD,zE]
   refine zA (i:=2) (oi:={dst:=some 55,op:=.nilCheck (.tmp 54),type:=0,pos:= "law.go:115",after:=#[zG 1],guard:=none}) ?_
   simp only [Act.put,zC,zD,zE]
   refine zA (i:=3) (oi:={dst:=some 56,op:=.fieldAddr 65 (.tmp 55) 2,type:=0,pos:= "law.go:115",after:=#[zG 2],guard:=none}) ?_
   simp only [Act.put,zC,zD,zE]
   refine zB (i:=5) (oi:={dst:=some 58,op:=.load 108 (.tmp 7),type:=108,pos:= "law.go:115",after:=#[],guard:=none}) ?_
   simp only [Act.put,zC,zD,zE]
   refine wpAnyH_ready (rs:=[4,6]) (by kernel_rfl) (by simp) ?_
   refine AllReadyH.cons (o:={dst:=some 57,op:=.load 62 (.tmp 56),type:=62,pos:= "law.go:115",after:=#[zG 3],guard:=none}) rfl (fun K' hK'=>?_) (AllReadyH.cons (o:={dst:=some 59,op:=.buildSlice 62 1 #[(0,.tmp 58)],type:=62,pos:= "law.go:115",after:=#[zG 5],guard:=none}) rfl (fun K' hK'=>?_) AllReadyH.nil)
   focus
    go_simp
    refine hK'.out _ _ ?_ (fun hHeld=>?_)
    ·exact zY XD
    clear hK' K'
    try simp only [Act.put,zC,zD,zE]
    refine zL (i:=6) (o:={dst:=some 59,op:=.buildSlice 62 1 #[(0,.tmp 58)],type:=62,pos:= "law.go:115",after:=#[zG 5],guard:=none}) (fun K' hK'=>?_)
   rotate_left
   focus
    go_simp
    refine hK'.out _ _ ?_ (fun hHeld=>?_)
    ·exact hE5 _
    clear hK' K'
    try simp only [Act.put,zC,zD,zE]
    refine zL (i:=4) (o:={dst:=some 57,op:=.load 62 (.tmp 56),type:=62,pos:= "law.go:115",after:=#[zG 3],guard:=none}) (fun K' hK'=>?_)
   rotate_left
   all_goals
    go_simp
    refine hK'.out _ _ ?_ (fun hHeld=>?_)
    ·exact hE5 _
    clear hK' K'
    try simp only [Act.put,zC,zD,zE]
    refine zL (i:=7) (o:={dst:=some 60,op:=.call {callee:=.builtin .append,args:=#[.tmp 57,.tmp 59],argTypes:=#[62,62]},type:=62,pos:= "law.go:115",after:=#[zG 4,zG 6],guard:=none}) (fun K' hK'=>?_)
    refine xK (d:=60) rfl zR5 (by decide) (by decide) (v:=(.slice aX LE.length cX)) (n:=LE.length) (m:=1) (xs:=uE LE) (news:=[.slice a j c,.slice aa (j+1) ca,.slice ab (j+2) cb,.slice ac (j+3) cc,.int .i64 m]) (B:=B) (ad:=⟨wd.heap.size,0,none⟩) (cap:=1) rfl (.tmp 57) (.tmp 59) rfl rfl rfl ((zY BK).fr ((Fr.refl _ _).alloc (.cells #[.slice a j c,.slice aa (j+1) ca,.slice ab (j+2) cb,.slice ac (j+3) cc,.int .i64 m] 108)).drew).bk.rE rfl (World.news_of_block (heap_alloc_new wd _)) (by simp [Value.oneCell']) (by omega) (by omega) (by simp;omega) ?_
    intro v3 w3 o3 f3 sh3
    obtain⟨av,cv,rfl⟩:=sh3
    have pr:w3.heap[bb]?=some (.cells #[.int .i64 (wrap64 (n+1)),vI,.slice aX LE.length cX,vN] 65):=by
     have hb2:=((zY BK).fr ((Fr.refl _ _).alloc (.cells #[.slice a j c,.slice aa (j+1) ca,.slice ab (j+2) cb,.slice ac (j+3) cc,.int .i64 m] 108)).drew)
     exact(f3.same bb (zN.1 hb2.bk.blk).1 (yP hb2.bk.rE hb2.bk.blk (by decide))).trans hb2.bk.blk
    have pc:=fun j=>cell_of_row w3 bb j _ 65 (0,0) pr
    have pz:=fun j=>yB pr j
    have gg:w3.heap[wr.heap.size]?=some (.cells #[.slice a j c,.slice aa (j+1) ca,.slice ab (j+2) cb,.slice ac (j+3) cc,.int .i64 m] 108 (0,0)):=(f3.same _ (zN.1 (hE5 _)).1 hXI).trans (hE5 (.cells #[.slice a j c,.slice aa (j+1) ca,.slice ab (j+2) cb,.slice ac (j+3) cc,.int .i64 m] 108))
    have O3:=zZ o3
    have F3:=zZ f3
    clear o3 f3 pr
    refine hK'.out _ _ gg (fun hHeld=>?_)
    clear hK' K'
    simp only [zC,zD,zE]
    refine zA (i:=8) (oi:={dst:=some 61,op:=.nilCheck (.tmp 53),type:=0,pos:= "law.go:115",after:=#[zG 0,zF 0,zF 1,zF 2,zF 3,zF 4,zF 5,zF 6,zF 7],guard:=none}) ?_
    simp only [Act.put,zC,zD,zE]
    refine zA (i:=9) (oi:={dst:=some 62,op:=.fieldAddr 65 (.tmp 61) 2,type:=0,pos:= "law.go:115",after:=#[zG 8,zF 0,zF 1,zF 2,zF 3,zF 4,zF 5,zF 6,zF 7],guard:=none}) ?_
    simp only [Act.put,zC,zD,zE]
    refine zL (i:=10) (o:={dst:=none,op:=.store 62 (.tmp 62) (.tmp 60),type:=0,pos:= "law.go:115",after:=#[zG 9,zG 7,zM 7,zF 0,zF 1,zF 2,zF 3,zF 4,zF 5,zF 6,zF 7],guard:=none}) (fun K' hK'=>?_)
    go_simp
    refine hK'.out _ _ ?_ (fun hHeld=>?_)
    ·exact(zQ _ _ _ _ hXb).trans gg
    clear hK' K'
    try simp only [Act.put,zC,zD,zE]
    refine wpAnyH_done (by kernel_rfl) ?_ _
    go_wp2
    go_end0
    exact⟨rfl,zY CLOSE _ (fin _ w3 (zY O3) (zY F3))⟩
