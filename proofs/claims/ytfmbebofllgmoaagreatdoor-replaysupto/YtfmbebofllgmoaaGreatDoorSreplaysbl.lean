/-
  PROVED HERE: lists of one unit over and over: what an append 
-/
import Derived.Test.YtfmbebofllgmoaaGreatDoorSreplaysbi
import Derived.Test.YtfmbebofllgmoaaGreatDoorSreplaysbp
set_option maxHeartbeats 4000000
set_option maxRecDepth 20000
namespace Go.Proofs.YtfmbebofllgmoaaGreatDoor
open Go.RowKit
def lZ (us:List Value) (w:World) (v:Value):Prop:=∃a n c,v=.slice a n c/\n<=1000000000/\(n=0\/∃q off,a=some ⟨q,off,none⟩/\∀i,i<n->∀j u,us[j]?=some u->w.cell? ⟨q,off+i*us.length+j,none⟩=some u)
def tX (n:Nat) (us:List Value):List Value:=(List.replicate n us).flatten
theorem iK (n:Nat) (us:List Value):tX (n+1) us=us++tX n us:=by unfold tX;rw [List.replicate_succ,List.flatten_cons]
theorem mR (n:Nat) (us:List Value):(tX n us).length=n*us.length:=by
 induction n with
 | zero=>simp [tX]
 | succ n ih=>rw [iK,List.length_append,ih,Nat.succ_mul];omega
theorem qB (n k:Nat) (us:List Value):tX n us++tX k us=tX (n+k) us:=by
 unfold tX;rw [<-List.flatten_append,List.replicate_append_replicate]
theorem dH (us:List Value) {j:Nat} {u:Value} (hj:us[j]?=some u):∀(n i:Nat),i<n->(tX n us)[i*us.length+j]?=some u
 | 0,i,h=>by omega
 | n+1,0,_=>by
  rw [iK,Nat.zero_mul,Nat.zero_add,List.getElem?_append_left (List.getElem?_eq_some_iff.1 hj).1]
  exact hj
 | n+1,i+1,h=>by
  rw [iK,List.getElem?_append_right (by rw [Nat.succ_mul];omega),show (i+1)*us.length+j-us.length=i*us.length+j by rw [Nat.succ_mul];omega]
  exact dH us hj n i (by omega)
section
variable {w W:World} {v:Value} {us:List Value} {K:Nat->Prop}
theorem lZ.keep (h:lZ us w v) (hl:yY v K) (hk:∀q,K q->W.heap[q]?=w.heap[q]?):lZ us W v:=by
 obtain⟨a,n,c,rfl,hn,hc⟩:=h
 refine⟨a,n,c,rfl,hn,?_⟩
 rcases Nat.eq_zero_or_pos n with h0 | h0
 ·exact .inl h0
 rcases hc with h1 | ⟨q,off,rfl,hcell⟩
 ·omega
 have hq:=hk q (hl q off n c rfl h0)
 exact .inr ⟨q,off,rfl,fun i hi j u hj=>by rw [yU hq];exact hcell i hi j u hj⟩
theorem lZ.row {B e n:Nat} (_hus:0<us.length) (h:w.ownsRow B e us.length v n (tX n us)) (hn:n<=1000000000):lZ us w v:=by
 rcases Nat.eq_zero_or_pos n with h0 | h0
 ·obtain⟨a,c,hv⟩:=yM h
  exact⟨a,n,c,hv,hn,.inl h0⟩
 ·obtain⟨g,c,hv,_,_,hc⟩:=sF h h0
  exact⟨_,n,c,hv,hn,.inr ⟨g,0,rfl,fun i hi j u hj=>by rw [Nat.zero_add];exact hc _ _ (dH us hj n i hi)⟩⟩
theorem lZ.toE {m:Int} (h:lZ [.int .i64 0,.int .i64 m,.int .i64 0] w v):uM w v m:=by
 obtain⟨a,n,c,hv,hn,hc⟩:=h
 exact⟨a,n,c,hv,hn,hc.imp id fun ⟨q,off,e,hcell⟩=>⟨q,off,e,fun i hi=>⟨hcell i hi 0 _ rfl,hcell i hi 1 _ rfl,hcell i hi 2 _ rfl⟩⟩⟩
end
def qW (us:List Value) (e:Nat) (w:World) (lv:Value) (n:Nat) (u:Value) (k:Nat):Prop:=
 lZ us w u/\((∃g cp,lv=.slice (some ⟨g,0,none⟩) n cp/\u=.slice (some ⟨g,0,none⟩) (n+k) cp)\/(∀q,own u q->¬own lv q/\∃cur,w.heap[q]?=some (.cells cur e (0,0))))
section
variable {us:List Value} {e:Nat}
theorem qW.step {w w':World} {B:Nat} {lv u v':Value} {n k j:Nat} (_hus:0<us.length) (h:qW us e w lv n u k) (hk:k<=j) (hn:n+j<=1000000000) (hr:w'.ownsRow B e us.length v' (n+j) (tX (n+j) us))
  (hd:(∃g cp,lv=.slice (some ⟨g,0,none⟩) n cp/\v'=.slice (some ⟨g,0,none⟩) (n+j) cp/\n+j<=cp/\w.grownBy w' (some g))\/(w.grownBy w' none/\∀q,own v' q->w.heap.size<=q)):qW us e w' lv n u k:=by
 obtain⟨hf,hp⟩:=h
 rcases hd with ⟨g,cp,hlv,hv',hroom,hg⟩ | ⟨hg,_⟩
 ·rcases hp with ⟨g2,cp2,hlv2,hu⟩ | hp
  ·rw [hlv] at hlv2
   cases hlv2
   refine⟨?_,.inl ⟨g,cp,hlv,hu⟩⟩
   subst hv'
   rcases Nat.eq_zero_or_pos (n+j) with h0 | h0
   ·exact⟨_,_,_,hu,by omega,.inl (by omega)⟩
   obtain⟨g3,c3,hv3,_,_,hc3⟩:=sF hr h0
   cases hv3
   exact⟨some ⟨g,0,none⟩,n+k,cp,hu,by omega,.inr ⟨g,0,rfl,fun i hi j' u' hj'=>by rw [Nat.zero_add];exact hc3 _ _ (dH us hj' (n+j) i (by omega))⟩⟩
  ·have hk':∀q,own u q->w'.heap[q]?=w.heap[q]?:=fun q hq=>hg.block q (by obtain⟨cur,hcur⟩:=(hp q hq).2;exact(zN.1 hcur).1) (fun e=>(hp q hq).1 (by rw [hlv];simp only [own,Value.ownBlock];exact e.symm))
   exact⟨hf.keep oP hk',.inr (fun q hq=>⟨(hp q hq).1,by obtain⟨cur,hcur⟩:=(hp q hq).2;exact⟨cur,(hk' q hq).trans hcur⟩⟩)⟩
 ·have hall:∀q,q<w.heap.size->w'.heap[q]?=w.heap[q]?:=fun q hq=>hg.block q hq (by simp)
  refine⟨?_,hp.imp id (fun hp q hq=>⟨(hp q hq).1,by obtain⟨cur,hcur⟩:=(hp q hq).2;exact⟨cur,(hall q (zN.1 hcur).1).trans hcur⟩⟩)⟩
  obtain⟨a,nn,c,hv,hnn,hc⟩:=hf
  exact⟨a,nn,c,hv,hnn,hc.imp id fun ⟨q,off,e,hcell⟩=>⟨q,off,e,fun i hi j' u' hj'=>by rw [yU (hall q (zU w _ (hcell i hi j' u' hj')))];exact hcell i hi j' u' hj'⟩⟩
theorem qW.store {w:World} {lv u v:Value} {n k X j:Nat} {cX:Array Value} {t:Nat} (h:qW us e w lv n u k) (hX:w.heap[X]?=some (.cells cX t (0,0))) (he:t≠e) (hlv:¬own lv X):qW us e (w.setCell ⟨X,j,none⟩ v) lv n u k:=by
 obtain⟨hf,hp⟩:=h
 have hk:∀q,q≠X->(w.setCell ⟨X,j,none⟩ v).heap[q]?=w.heap[q]?:=fun q hq=>zQ _ _ _ _ hq
 rcases hp with ⟨g,cp,hl,hu⟩ | hp
 ·refine⟨hf.keep (K:=fun q=>q=g) (fun q off n' c hv _=>by rw [hu] at hv;cases hv;rfl) (fun q hq=>hk q (fun e=>hlv (by rw [hl,<-e,hq];rfl))),.inl ⟨g,cp,hl,hu⟩⟩
 ·have hne:∀q,own u q->q≠X:=fun q hq e'=>by
   obtain⟨cur,hcur⟩:=(hp q hq).2
   rw [e'] at hcur
   exact he (zA7 hX hcur)
  exact⟨hf.keep oP (fun q hq=>hk q (hne q hq)),.inr (fun q hq=>⟨(hp q hq).1,by obtain⟨cur,hcur⟩:=(hp q hq).2;exact⟨cur,(hk q (hne q hq)).trans hcur⟩⟩)⟩
theorem qW.fr {w W:World} {lv u:Value} {n k:Nat} (h:qW us e w lv n u k) (hf:Fr (fun _=>False) w W (fun _=>False)):qW us e W lv n u k:=by
 obtain⟨⟨a,nn,c,hv,hnn,hc⟩,hp⟩:=h
 have hall:∀q,q<w.heap.size->W.heap[q]?=w.heap[q]?:=fun q hq=>hf.same q hq (fun h=>h)
 exact⟨⟨a,nn,c,hv,hnn,hc.imp id fun ⟨q,off,e,hcell⟩=>⟨q,off,e,fun i hi j' u' hj'=>by rw [yU (hall q (zU w _ (hcell i hi j' u' hj')))];exact hcell i hi j' u' hj'⟩⟩,hp.imp id fun hp q hq=>⟨(hp q hq).1,by obtain⟨cur,hcur⟩:=(hp q hq).2;exact⟨cur,(hall q (zN.1 hcur).1).trans hcur⟩⟩⟩
theorem qW.ty {w:World} {lv u:Value} {B n k size m:Nat} {xs:List Value} (h:qW us e w lv n u k) (ho:w.ownsRow B e size lv m xs) {q:Nat} (hq:own u q):∃cur,w.heap[q]?=some (.cells cur e (0,0)):=by
 rcases h.2 with ⟨g,cp,hl,hu⟩ | hp
 ·exact mT ho (by rw [hl];rw [hu] at hq;exact hq)
 ·exact(hp q hq).2
theorem iF {U wa:World} {B X t:Nat} {lv va:Value} {n j k:Nat} {cX:Array Value} (hus:0<us.length) (hte:t≠e) (hn:n+j<=1000000000) (ho:U.ownsRow B e us.length lv n (tX n us)) (hX:U.heap[X]?=some (.cells cX t (0,0)))
  (ra:wa.ownsRow B e us.length va (n+j) (tX (n+j) us))
  (hd:(∃g cp,lv=.slice (some ⟨g,0,none⟩) n cp/\va=.slice (some ⟨g,0,none⟩) (n+j) cp/\n+j<=cp/\U.grownBy wa (some g))\/(U.grownBy wa none/\∀q,own va q->U.heap.size<=q)) :
  (wa.setCell ⟨X,k,none⟩ va).ownsRow B e us.length lv n (tX n us)/\(wa.setCell ⟨X,k,none⟩ va).heap[X]?=some (.cells (cX.setIfInBounds k va) t (0,0))/\qW us e (wa.setCell ⟨X,k,none⟩ va) lv n va j/\(∀u i,i<=j->qW us e U lv n u i->qW us e (wa.setCell ⟨X,k,none⟩ va) lv n u i)/\
   Fr (fun q=>own lv q\/q=X) U (wa.setCell ⟨X,k,none⟩ va) (fun q=>own lv q\/q=X)/\(∀q,own va q->own lv q\/U.heap.size<=q):=by
 have hXl:¬own lv X:=uB ho hX hte
 have old:∀q,q<U.heap.size->¬own lv q->wa.heap[q]?=U.heap[q]?:=fun q hq hn=>by
  rcases hd with ⟨g,cp,hl,_,_,hg⟩ | ⟨hg,_⟩
  ·exact hg.block q hq (fun e=>hn (by rw [hl];simp only [own,Value.ownBlock];exact e.symm))
  ·exact hg.block q hq (by simp)
 have hXlt:=(zN.1 hX).1
 have hXa:wa.heap[X]?=some (.cells cX t (0,0)):=(old X hXlt hXl).trans hX
 have hsz:U.heap.size<=wa.heap.size:=by rcases hd with ⟨_,_,_,_,_,hg⟩ | ⟨hg,_⟩<;>exact hg.size
 have hol:wa.ownsRow B e us.length lv n (tX n us):=by
  rcases hd with ⟨g,cp,hl,hv,hr,hg⟩ | ⟨hg,_⟩
  ·subst hl hv
   rw [<-qB] at ra
   exact zN2 ra (mR n us)
  ·exact yA ho (fun q hq=>hg.block q (zS ho q hq).2 (by simp))
 have hmade:qW us e wa lv n va j:=by
  refine⟨lZ.row hus ra hn,?_⟩
  rcases hd with ⟨g,cp,hl,hv,_,_⟩ | ⟨_,hf⟩
  ·exact .inl ⟨g,cp,hl,hv⟩
  ·exact .inr (fun q hq=>⟨fun h=>by have h1:=hf q hq;have h2:=(zS ho q h).2;omega,mT ra hq⟩)
 refine⟨yA hol (fun q hq=>zQ _ _ _ _ (fun e=>hXl (by have e':q=X:=e;rw [<-e'];exact hq))),yE wa X k cX t va hXa,hmade.store hXa hte hXl,fun u i hi hu=>(hu.step hus hi hn ra hd).store hXa hte hXl,?_⟩
 have h3:wa.os=U.os/\wa.tape=U.tape/\wa.output=U.output:=by rcases hd with ⟨_,_,_,_,_,hg⟩ | ⟨hg,_⟩<;>exact⟨hg.os,hg.tape,hg.output⟩
 refine⟨⟨h3.1,h3.2.1,h3.2.2,by simpa [World.setCell] using hsz,fun q hq hn=>(zQ _ _ _ _ (fun e=>hn (.inr e))).trans (old q hq (fun h=>hn (.inl h))),fun _ _ h=>h⟩,fun q hq=>?_⟩
 rcases hd with ⟨g,cp,hl,hv,_,_⟩ | ⟨_,hf⟩
 ·left;rw [hl];rw [hv] at hq;exact hq
 ·exact .inr (hf q hq)
end
end Go.Proofs.YtfmbebofllgmoaaGreatDoor
namespace Go.Proofs.YtfmbebofllgmoaaGreatDoor
open Go.RowKit
attribute [local go_sem ↓] Go.wp_at_zero Go.wp_at_succ
theorem qS {U wa:World} {B e s n j:Nat} {lv va:Value} {xs:List Value} (_ho:U.ownsRow B e s lv n xs) (hd:(∃g cp,lv=.slice (some ⟨g,0,none⟩) n cp/\va=.slice (some ⟨g,0,none⟩) (n+j) cp/\n+j<=cp/\U.grownBy wa (some g))\/(U.grownBy wa none/\∀q,own va q->U.heap.size<=q)) (q:Nat) (hq:q<U.heap.size) (hn:¬own lv q):wa.heap[q]?=U.heap[q]?:=by
 rcases hd with ⟨g,cp,hl,_,_,hg⟩ | ⟨hg,_⟩
 ·exact hg.block q hq (fun e=>hn (by rw [hl];simp only [own,Value.ownBlock];exact e.symm))
 ·exact hg.block q hq (by simp)
theorem row_at {w:World} {B e s n c:Nat} {a:Option Addr} {xs:List Value} (h:w.ownsRow B e s (.slice a n c) n xs) (hn:0<n):∃g,a=some ⟨g,0,none⟩/\g<w.heap.size/\(∀k,k<n*s->∃v,w.cell? ⟨g,k,none⟩=some v)/\∀k,w.frozen? ⟨g,k,none⟩=false:=by
 obtain⟨h0,h1⟩:=h
 rcases h1 with ⟨hv,h2⟩ | ⟨g,cap,cur,hv,hB,hg,hc1,hc2,hc3,hc4⟩
 ·omega
 ·cases hv
  refine⟨g,rfl,(zN.1 hg).1,fun k hk=>?_,fun k=>yB hg k⟩
  have hlt:k<cur.size:=by rw [hc3];exact zT hk (Nat.mul_le_mul_right s hc1)
  exact⟨cur[k],(cell_of_row w g k cur e (0,0) hg).trans (Array.getElem?_eq_getElem hlt)⟩
theorem zA4 {w:World} {B e s n c g k:Nat} {xs:List Value} (h:w.ownsRow B e s (.slice (some ⟨g,0,none⟩) n c) n xs) (z:Value) (_hk:k<n*s):(w.setCell ⟨g,k,none⟩ z).ownsRow B e s (.slice (some ⟨g,0,none⟩) n c) n (xs.set k z):=by
 obtain⟨h0,h1⟩:=h
 rcases h1 with ⟨hv,h2⟩ | ⟨g',cap,cur,hv,hB,hg,hc1,hc2,hc3,hc4⟩
 ·cases hv
 ·cases hv
  refine⟨by simpa using h0,.inr ⟨g,c,cur.setIfInBounds k z,rfl,hB,yE w g k cur e _ hg,hc1,hc2,by simpa using hc3,?_⟩⟩
  rw [Array.toList_setIfInBounds,List.take_set,hc4]
theorem yG4 (us:List Value):tX 1 us=us:=by unfold tX;simp
theorem iA {l:List Value} {k:Nat} (h:k<l.length):∃d,l.drop k=d::l.drop (k+1):=⟨_,List.drop_eq_getElem_cons h⟩
theorem zN5 (p:List Value) {k i:Nat} (hk:p.length=k) (q:List Value) (z:Value):(p++q).set (k+i) z=p++q.set i z:=by
 rw [List.set_append_right _ _ (by omega),show k+i-p.length=i by omega]
theorem yN7 (p:List Value) {k:Nat} (hk:p.length=k) (q:List Value) (z:Value):(p++q).set k z=p++q.set 0 z:=zN5 p hk (i:=0) q z
theorem zY6 {w:World} {B e n c g j:Nat} {xs:List Value} {u0 u1 u2:Value} (h:w.ownsRow B e 3 (.slice (some ⟨g,0,none⟩) n c) n (tX j [u0,u1,u2]++xs.drop (j*3))) (hj:j<n) (z0 z1 z2:Value) (e0:z0=u0:=by rfl) (e1:z1=u1:=by rfl) (e2:z2=u2:=by rfl) :
  (((w.setCell ⟨g,j*3,none⟩ z0).setCell ⟨g,j*3+1,none⟩ z1).setCell ⟨g,j*3+2,none⟩ z2).ownsRow B e 3 (.slice (some ⟨g,0,none⟩) n c) n (tX (j+1) [u0,u1,u2]++xs.drop ((j+1)*3)):=by
 subst e0 e1 e2
 have hr:=zA4 (zA4 (zA4 h z0 (k:=j*3) (by omega)) z1 (k:=j*3+1) (by omega)) z2 (k:=j*3+2) (by omega)
 have hl:=h.1
 rw [List.length_append,mR,List.length_drop] at hl
 simp only [List.length_cons,List.length_nil] at hl
 have hp:(tX j [z0,z1,z2]).length=j*3:=mR _ _
 obtain⟨d0,x0⟩:=iA (l:=xs) (k:=j*3) (by omega)
 obtain⟨d1,x1⟩:=iA (l:=xs) (k:=j*3+1) (by omega)
 obtain⟨d2,x2⟩:=iA (l:=xs) (k:=j*3+1+1) (by omega)
 rw [x0,x1,x2] at hr
 rw [yN7 _ hp,zN5 _ hp,zN5 _ hp] at hr
 rw [<-qB,yG4,List.append_assoc,show (j+1)*3=j*3+1+1+1 by omega]
 exact hr
theorem zP3:kJ 62 108 5 104:=lD _ _ _ _ (.agg #[.slice none 0 0,.slice none 0 0,.slice none 0 0,.slice none 0 0,.int .i64 0]) Tryz.underlying62 (by kernel_rfl) rfl
def cT (w w':World) (B bb:Nat) (n:Int) (vI vE vN:Value) (LI LE LN:List Ent) (K:Nat->Prop) (lv:Value):Prop:=
 ∃vX' e K',rH w' B bb n vI vX' vN LI (LE++[e]) LN K'/\(∀q,K' q->K q\/own lv q\/w.heap.size<=q)/\(∀q,own vX' q->own vE q\/w.heap.size<=q)/\Fr (fun q=>q=bb\/own vE q\/own lv q\/w.heap.size<=q) w w' (fun q=>q=bb\/own vE q\/own lv q\/w.heap.size<=q)
theorem mM {w2:World} {B bb:Nat} {n:Int} {vI vE vN:Value} {LI LE LN:List Ent} {K:Nat->Prop} (h:rH w2 B bb n vI vE vN LI LE LN K) (hBw:B<=w2.heap.size) {lv:Value} {nn:Nat} {xs:List Value} (ho:w2.ownsRow B 72 3 lv nn xs) (hk:∀q,own lv q->¬K q) (hl:nn<=500000000) (hL:LE.length<=900000000000) :
  Calls Tryz.prog 75 #[.pointer (some ⟨bb,0,none⟩),lv] w2 fun e w'=>e=.returned (.tuple #[])/\cT w2 w' B bb (wrap64 (n+1)) vI vE vN LI LE LN K lv:=by
 obtain⟨a,c,rfl⟩:=yM ho
 obtain⟨aX,cX,rfl⟩:=yM h.bk.rE
 have hnb:¬own (.slice a nn c) bb:=uB ho h.bk.blk (by decide)
 have close:∀w',cT w2 w' B bb (wrap64 (n+1)) vI (.slice aX LE.length cX) vN LI LE LN K (.slice a nn c)->cT w2 w' B bb (wrap64 (n+1)) vI (.slice aX LE.length cX) vN LI LE LN K (.slice a nn c):=fun _ h=>h
 have CLOSE:=zZ close
 clear close
 have HB:=zZ h
 have HO:=zZ ho
 have HK:=zZ hk
 clear h ho hk
 go_enter Tryz.func75,Tryz.ntmps75
 have HNB:=zZ hnb
 clear hnb
 have y0:=yE w2 bb 0 _ 65 (.int .i64 (wrap64 (n+1))) (zY HB).bk.blk
 have cb:=fun j=>cell_of_row w2 _ j _ 65 (0,0) (zY HB).bk.blk
 have zb:=fun j=>yB (zY HB).bk.blk j
 have hbw:bb<w2.heap.size:=(zN.1 (zY HB).bk.blk).1
 have Y0:=zZ y0
 clear y0
 go_wp2
 obtain⟨m,hm⟩ : ∃m,wrap64 (1000+wrap64 (n+1))=m:=⟨_,rfl⟩
 rw [hm]
 have z1:(w2.setCell ⟨bb,0,none⟩ (.int .i64 (wrap64 (n+1)))).heap.size=w2.heap.size:=by simp [World.setCell]
 have hf1:Fr (fun q=>q=bb) w2 ((w2.setCell ⟨bb,0,none⟩ (.int .i64 (wrap64 (n+1)))).alloc (.cells #[.int .i64 0,.int .i64 m,.int .i64 0] 72)) (fun q=>q=bb):=((Fr.refl (fun q=>q=bb) w2).setCell _ _ (.inl rfl)).alloc _
 have y1:((w2.setCell ⟨bb,0,none⟩ (.int .i64 (wrap64 (n+1)))).alloc (.cells #[.int .i64 0,.int .i64 m,.int .i64 0] 72)).heap[bb]?=some (.cells #[.int .i64 (wrap64 (n+1)),vI,.slice aX LE.length cX,vN] 65):=(zR _ _ _ (by rw [z1];exact hbw)).trans (zY Y0)
 have p1:((w2.setCell ⟨bb,0,none⟩ (.int .i64 (wrap64 (n+1)))).alloc (.cells #[.int .i64 0,.int .i64 m,.int .i64 0] 72)).heap[w2.heap.size]?=some (.cells #[.int .i64 0,.int .i64 m,.int .i64 0] 72):=by
  have h:=heap_alloc_new (w2.setCell ⟨bb,0,none⟩ (.int .i64 (wrap64 (n+1)))) (.cells #[.int .i64 0,.int .i64 m,.int .i64 0] 72)
  rwa [z1] at h
 have z2:w2.heap.size<((w2.setCell ⟨bb,0,none⟩ (.int .i64 (wrap64 (n+1)))).alloc (.cells #[.int .i64 0,.int .i64 m,.int .i64 0] 72)).heap.size:=(zN.1 p1).1
 have hnP:¬own (.slice a nn c) w2.heap.size:=fun hq=>by have:=(zS (zY HO) _ hq).2;omega
 have o1:((w2.setCell ⟨bb,0,none⟩ (.int .i64 (wrap64 (n+1)))).alloc (.cells #[.int .i64 0,.int .i64 m,.int .i64 0] 72)).ownsRow B 72 3 (.slice a nn c) nn (tX 0 [.int .i64 0,.int .i64 m,.int .i64 0]++xs.drop (0*3)):=by
  rw [Nat.zero_mul,List.drop_zero]
  exact yA (zY HO) (fun q hq=>hf1.same q (zS (zY HO) q hq).2 (fun e=>zY HNB (e▸hq)))
 generalize hw1:(w2.setCell ⟨bb,0,none⟩ (.int .i64 (wrap64 (n+1)))).alloc (.cells #[.int .i64 0,.int .i64 m,.int .i64 0] 72)=w1 at *
 have HNP:=zZ hnP
 have O1:=zZ o1
 have Y1:=zZ y1
 have HF1:=zZ hf1
 have P1:=zZ p1
 have Z2:=zZ z2
 clear o1 y1 hf1 p1 hw1 hm cb zb z1 z2 Y0 hnP
 go_loopw [6] (fun i wr=>∃j:Nat,j<=nn/\i=.int .i64 j/\Hid (wr.ownsRow B 72 3 (.slice a nn c) nn (tX j [.int .i64 0,.int .i64 m,.int .i64 0]++xs.drop (j*3)))/\Fr (own (.slice a nn c)) w1 wr (own (.slice a nn c))) (fun i _=>nn-(intOf i).toNat)
 case atStart=>exact⟨0,Nat.zero_le _,rfl,O1,Fr.refl _ _⟩
 case round=>
  obtain⟨j,hj,rfl,hoj,hfj⟩:=hrel
  have hpr:=(hfj.same w2.heap.size (zY Z2) (zY HNP)).trans (zY P1)
  have cP:=fun i=>cell_of_row wr _ i _ 72 (0,0) hpr
  by_cases hlt:j<nn
  ·obtain⟨g,hg,hgl,hcell,hfz⟩:=row_at (zY hoj) (by omega)
   subst hg
   obtain⟨c0,k0⟩:=hcell (j*3) (by omega)
   have f0:=hfz (j*3)
   obtain⟨c1,k1⟩:=hcell (j*3+1) (by omega)
   have f1:=hfz (j*3+1)
   obtain⟨c2,k2⟩:=hcell (j*3+2) (by omega)
   have f2:=hfz (j*3+2)
   have hon:=zY6 (zY hoj) hlt (.int .i64 0) (.int .i64 m) (.int .i64 0)
   have HN:=zZ hon
   have HFJ:=zZ hfj
   have hk0:(0:Int)<=(j:Int):=by omega
   have hk1:(j:Int)<(nn:Int):=by omega
   have hgP':¬w2.heap.size=g:=fun e=>zY HNP (by rw [e];rfl)
   clear hoj hon hfj hcell hfz hpr
   go_wp2
   go_roundw
   case rel=>
    refine⟨j+1,by omega,by go_num,HN,?_⟩
    refine(((zY HFJ).setCell ⟨g,j*3,none⟩ (.int .i64 0) (.inl rfl)).setCell ⟨g,j*3+1,none⟩ (.int .i64 m) (.inl rfl)).setCell ⟨g,j*3+2,none⟩ (.int .i64 0) (.inl rfl)
   case measure=>simp [intOf];omega
  ·have hjl:j=nn:=by omega
   subst hjl
   have hk1:¬(j:Int)<(j:Int):=by omega
   have hoe:wr.ownsRow B 72 3 (.slice a j c) j (tX j [.int .i64 0,.int .i64 m,.int .i64 0]):=by
    have h:=zY hoj
    rw [List.drop_eq_nil_of_le (Nat.le_of_eq (zY HO).1),List.append_nil] at h
    exact h
   have hpl:w2.heap.size<wr.heap.size:=(zN.1 hpr).1
   have hPX:w2.heap.size≠wr.heap.size:=by omega
   have hPX':¬wr.heap.size=w2.heap.size:=by omega
   have hrB:B<=wr.heap.size:=by omega
   have C0n:=heap_alloc_new wr (.cells #[.slice a j c,.slice none 0 0,.slice none 0 0,.slice none 0 0,.int .i64 m] 108)
   have v0o:((wr.alloc (.cells #[.slice a j c,.slice none 0 0,.slice none 0 0,.slice none 0 0,.int .i64 m] 108)).alloc (.cells #[.int .i64 0,.int .i64 m,.int .i64 0] 72)).ownsRow B 72 3 (.slice a j c) j (tX j [.int .i64 0,.int .i64 m,.int .i64 0]):=World.ownsRow.alloc (World.ownsRow.alloc hoe _) _
   have v0x:((wr.alloc (.cells #[.slice a j c,.slice none 0 0,.slice none 0 0,.slice none 0 0,.int .i64 m] 108)).alloc (.cells #[.int .i64 0,.int .i64 m,.int .i64 0] 72)).heap[wr.heap.size]?=some (.cells #[.slice a j c,.slice none 0 0,.slice none 0 0,.slice none 0 0,.int .i64 m] 108):=(zR _ _ _ (by simp)).trans C0n
   have v0p:((wr.alloc (.cells #[.slice a j c,.slice none 0 0,.slice none 0 0,.slice none 0 0,.int .i64 m] 108)).alloc (.cells #[.int .i64 0,.int .i64 m,.int .i64 0] 72)).heap[w2.heap.size]?=some (.cells #[.int .i64 0,.int .i64 m,.int .i64 0] 72):=(zR _ _ _ (by simp;omega)).trans ((zR _ _ _ hpl).trans hpr)
   have v0n:((wr.alloc (.cells #[.slice a j c,.slice none 0 0,.slice none 0 0,.slice none 0 0,.int .i64 m] 108)).alloc (.cells #[.int .i64 0,.int .i64 m,.int .i64 0] 72)).heap[wr.heap.size+1]?=some (.cells #[.int .i64 0,.int .i64 m,.int .i64 0] 72):=by
    have h:=heap_alloc_new (wr.alloc (.cells #[.slice a j c,.slice none 0 0,.slice none 0 0,.slice none 0 0,.int .i64 m] 108)) (.cells #[.int .i64 0,.int .i64 m,.int .i64 0] 72)
    rwa [show (wr.alloc (.cells #[.slice a j c,.slice none 0 0,.slice none 0 0,.slice none 0 0,.int .i64 m] 108)).heap.size=wr.heap.size+1 by simp] at h
   have hB0:B<=((wr.alloc (.cells #[.slice a j c,.slice none 0 0,.slice none 0 0,.slice none 0 0,.int .i64 m] 108)).alloc (.cells #[.int .i64 0,.int .i64 m,.int .i64 0] 72)).heap.size:=by simp;omega
   have V0O:=zZ v0o
   have V0X:=zZ v0x
   have V0P:=zZ v0p
   have V0N:=zZ v0n
   have HFJ:=zZ hfj
   clear hoj hoe hfj C0n v0o v0x v0n v0p hpr
   go_wp2_with (at_builtin;first | (refine lA kC (by omega) (by omega) (B:=B) (n:=j) (m:=1) (xs:=tX j [.int .i64 0,.int .i64 m,.int .i64 0]) (news:=[.int .i64 0,.int .i64 m,.int .i64 0]) rfl (.tmp 35) (.tmp 37) rfl (ad:=⟨wr.heap.size+1,0,none⟩) (cap:=1) rfl rfl (zY V0O) rfl (World.news_of_block (zY V0N)) (by simp [Value.oneCell']) (by omega) (by omega) hB0 ?_;intro va wa sha ra da;obtain⟨aa,ca,rfl⟩:=sha;have ra':wa.ownsRow B 72 3 (.slice aa (j+1) ca) (j+1) (tX (j+1) [.int .i64 0,.int .i64 m,.int .i64 0]):=(by rw [<-qB];exact ra);have xa:=(qS (zY V0O) da wr.heap.size (zN.1 (zY V0X)).1 (uB (zY V0O) (zY V0X) (by decide))).trans (zY V0X);have kca:=fun i=>cell_of_row wa _ i _ 108 (0,0) xa;have kza:=fun i=>yB xa i;have pa:=(qS (zY V0O) da w2.heap.size (zN.1 (zY V0P)).1 (zY HNP)).trans (zY V0P);have kpa:=fun i=>cell_of_row wa _ i _ 72 (0,0) pa;have K1:=zZ (iF (k:=1) (us:=[.int .i64 0,.int .i64 m,.int .i64 0]) (by simp) (by decide) (by omega) (zY V0O) (zY V0X) ra' da);have PP:=zZ pa;clear ra ra' da xa pa V0N;have V1O:=zZ (show ((wa.setCell ⟨wr.heap.size,1,none⟩ (.slice aa (j+1) ca)).alloc (.cells #[.int .i64 0,.int .i64 m,.int .i64 0,.int .i64 0,.int .i64 m,.int .i64 0] 72)).ownsRow B 72 3 (.slice a j c) j (tX j [.int .i64 0,.int .i64 m,.int .i64 0]) from World.ownsRow.alloc (zY K1).1 _);have V1X:=zZ (show ((wa.setCell ⟨wr.heap.size,1,none⟩ (.slice aa (j+1) ca)).alloc (.cells #[.int .i64 0,.int .i64 m,.int .i64 0,.int .i64 0,.int .i64 m,.int .i64 0] 72)).heap[wr.heap.size]?=some (.cells #[.slice a j c,.slice aa (j+1) ca,.slice none 0 0,.slice none 0 0,.int .i64 m] 108) from (zR _ _ _ (zN.1 (zY K1).2.1).1).trans (zY K1).2.1);have V1P:=zZ (show ((wa.setCell ⟨wr.heap.size,1,none⟩ (.slice aa (j+1) ca)).alloc (.cells #[.int .i64 0,.int .i64 m,.int .i64 0,.int .i64 0,.int .i64 m,.int .i64 0] 72)).heap[w2.heap.size]?=some (.cells #[.int .i64 0,.int .i64 m,.int .i64 0] 72) from (zR _ _ _ (by simp [World.setCell];exact(zN.1 (zY PP)).1)).trans ((zQ _ _ _ _ hPX).trans (zY PP)));have V1N:=zZ (show ((wa.setCell ⟨wr.heap.size,1,none⟩ (.slice aa (j+1) ca)).alloc (.cells #[.int .i64 0,.int .i64 m,.int .i64 0,.int .i64 0,.int .i64 m,.int .i64 0] 72)).heap[wa.heap.size]?=some (.cells #[.int .i64 0,.int .i64 m,.int .i64 0,.int .i64 0,.int .i64 m,.int .i64 0] 72) from (by have h:=heap_alloc_new (wa.setCell ⟨wr.heap.size,1,none⟩ (.slice aa (j+1) ca)) (.cells #[.int .i64 0,.int .i64 m,.int .i64 0,.int .i64 0,.int .i64 m,.int .i64 0] 72);rwa [show (wa.setCell ⟨wr.heap.size,1,none⟩ (.slice aa (j+1) ca)).heap.size=wa.heap.size by simp [World.setCell]] at h));have hB1:B<=((wa.setCell ⟨wr.heap.size,1,none⟩ (.slice aa (j+1) ca)).alloc (.cells #[.int .i64 0,.int .i64 m,.int .i64 0,.int .i64 0,.int .i64 m,.int .i64 0] 72)).heap.size:=(by have h:=(zY K1).2.2.2.2.1.size;have h0:=hB0;simp at h h0 ⊢;omega);clear PP) | (refine lA kC (by omega) (by omega) (B:=B) (n:=j) (m:=2) (xs:=tX j [.int .i64 0,.int .i64 m,.int .i64 0]) (news:=[.int .i64 0,.int .i64 m,.int .i64 0,.int .i64 0,.int .i64 m,.int .i64 0]) rfl (.tmp 40) (.tmp 43) rfl (ad:=⟨wa.heap.size,0,none⟩) (cap:=2) rfl rfl (zY V1O) rfl (World.news_of_block (zY V1N)) (by simp [Value.oneCell']) (by omega) (by omega) hB1 ?_;intro va wb sha ra da;obtain⟨ab,cb,rfl⟩:=sha;have ra':wb.ownsRow B 72 3 (.slice ab (j+2) cb) (j+2) (tX (j+2) [.int .i64 0,.int .i64 m,.int .i64 0]):=(by rw [<-qB];exact ra);have xa:=(qS (zY V1O) da wr.heap.size (zN.1 (zY V1X)).1 (uB (zY V1O) (zY V1X) (by decide))).trans (zY V1X);have kcb:=fun i=>cell_of_row wb _ i _ 108 (0,0) xa;have kzb:=fun i=>yB xa i;have pa:=(qS (zY V1O) da w2.heap.size (zN.1 (zY V1P)).1 (zY HNP)).trans (zY V1P);have kpb:=fun i=>cell_of_row wb _ i _ 72 (0,0) pa;have K2:=zZ (iF (k:=2) (us:=[.int .i64 0,.int .i64 m,.int .i64 0]) (by simp) (by decide) (by omega) (zY V1O) (zY V1X) ra' da);have PP:=zZ pa;clear ra ra' da xa pa V1N;have V2O:=zZ (show ((wb.setCell ⟨wr.heap.size,2,none⟩ (.slice ab (j+2) cb)).alloc (.cells #[.int .i64 0,.int .i64 m,.int .i64 0,.int .i64 0,.int .i64 m,.int .i64 0,.int .i64 0,.int .i64 m,.int .i64 0] 72)).ownsRow B 72 3 (.slice a j c) j (tX j [.int .i64 0,.int .i64 m,.int .i64 0]) from World.ownsRow.alloc (zY K2).1 _);have V2X:=zZ (show ((wb.setCell ⟨wr.heap.size,2,none⟩ (.slice ab (j+2) cb)).alloc (.cells #[.int .i64 0,.int .i64 m,.int .i64 0,.int .i64 0,.int .i64 m,.int .i64 0,.int .i64 0,.int .i64 m,.int .i64 0] 72)).heap[wr.heap.size]?=some (.cells #[.slice a j c,.slice aa (j+1) ca,.slice ab (j+2) cb,.slice none 0 0,.int .i64 m] 108) from (zR _ _ _ (zN.1 (zY K2).2.1).1).trans (zY K2).2.1);have V2P:=zZ (show ((wb.setCell ⟨wr.heap.size,2,none⟩ (.slice ab (j+2) cb)).alloc (.cells #[.int .i64 0,.int .i64 m,.int .i64 0,.int .i64 0,.int .i64 m,.int .i64 0,.int .i64 0,.int .i64 m,.int .i64 0] 72)).heap[w2.heap.size]?=some (.cells #[.int .i64 0,.int .i64 m,.int .i64 0] 72) from (zR _ _ _ (by simp [World.setCell];exact(zN.1 (zY PP)).1)).trans ((zQ _ _ _ _ hPX).trans (zY PP)));have V2N:=zZ (show ((wb.setCell ⟨wr.heap.size,2,none⟩ (.slice ab (j+2) cb)).alloc (.cells #[.int .i64 0,.int .i64 m,.int .i64 0,.int .i64 0,.int .i64 m,.int .i64 0,.int .i64 0,.int .i64 m,.int .i64 0] 72)).heap[wb.heap.size]?=some (.cells #[.int .i64 0,.int .i64 m,.int .i64 0,.int .i64 0,.int .i64 m,.int .i64 0,.int .i64 0,.int .i64 m,.int .i64 0] 72) from (by have h:=heap_alloc_new (wb.setCell ⟨wr.heap.size,2,none⟩ (.slice ab (j+2) cb)) (.cells #[.int .i64 0,.int .i64 m,.int .i64 0,.int .i64 0,.int .i64 m,.int .i64 0,.int .i64 0,.int .i64 m,.int .i64 0] 72);rwa [show (wb.setCell ⟨wr.heap.size,2,none⟩ (.slice ab (j+2) cb)).heap.size=wb.heap.size by simp [World.setCell]] at h));have hB2:B<=((wb.setCell ⟨wr.heap.size,2,none⟩ (.slice ab (j+2) cb)).alloc (.cells #[.int .i64 0,.int .i64 m,.int .i64 0,.int .i64 0,.int .i64 m,.int .i64 0,.int .i64 0,.int .i64 m,.int .i64 0] 72)).heap.size:=(by have h:=(zY K2).2.2.2.2.1.size;have h0:=hB1;simp at h h0 ⊢;omega);clear PP) | (refine lA kC (by omega) (by omega) (B:=B) (n:=j) (m:=3) (xs:=tX j [.int .i64 0,.int .i64 m,.int .i64 0]) (news:=[.int .i64 0,.int .i64 m,.int .i64 0,.int .i64 0,.int .i64 m,.int .i64 0,.int .i64 0,.int .i64 m,.int .i64 0]) rfl (.tmp 46) (.tmp 50) rfl (ad:=⟨wb.heap.size,0,none⟩) (cap:=3) rfl rfl (zY V2O) rfl (World.news_of_block (zY V2N)) (by simp [Value.oneCell']) (by omega) (by omega) hB2 ?_;intro va wc sha ra da;obtain⟨ac,cc,rfl⟩:=sha;have ra':wc.ownsRow B 72 3 (.slice ac (j+3) cc) (j+3) (tX (j+3) [.int .i64 0,.int .i64 m,.int .i64 0]):=(by rw [<-qB];exact ra);have xa:=(qS (zY V2O) da wr.heap.size (zN.1 (zY V2X)).1 (uB (zY V2O) (zY V2X) (by decide))).trans (zY V2X);have kcc:=fun i=>cell_of_row wc _ i _ 108 (0,0) xa;have kzc:=fun i=>yB xa i;have pa:=(qS (zY V2O) da w2.heap.size (zN.1 (zY V2P)).1 (zY HNP)).trans (zY V2P);have kpc:=fun i=>cell_of_row wc _ i _ 72 (0,0) pa;have K3:=zZ (iF (k:=3) (us:=[.int .i64 0,.int .i64 m,.int .i64 0]) (by simp) (by decide) (by omega) (zY V2O) (zY V2X) ra' da);have PP:=zZ pa;clear ra ra' da xa pa V2N;clear PP))
   have hXB:w2.heap.size<=wr.heap.size:=by omega
   have f1:Fr (fun q=>own (.slice a j c) q\/q=wr.heap.size) w1 (wc.setCell ⟨wr.heap.size,3,none⟩ (.slice ac (j+3) cc)) (fun q=>own (.slice a j c) q\/q=wr.heap.size):=
    ((zY HFJ).widen (fun _ h=>.inl h)).trans ((((Fr.refl _ wr).alloc _).alloc _).trans ((zY K1).2.2.2.2.1.trans (((Fr.refl _ _).alloc _).trans ((zY K2).2.2.2.2.1.trans (((Fr.refl _ _).alloc _).trans (zY K3).2.2.2.2.1)))))
   have hbl:bb<w1.heap.size:=(zN.1 (zY Y1)).1
   have hbd:(wc.setCell ⟨wr.heap.size,3,none⟩ (.slice ac (j+3) cc)).heap[bb]?=some (.cells #[.int .i64 (wrap64 (n+1)),vI,.slice aX LE.length cX,vN] 65):=(f1.same bb hbl (fun h=>by
    rcases h with h | h
    ·exact zY HNB h
    ·omega)).trans (zY Y1)
   have fT:Fr (fun q=>q=bb\/own (.slice a j c) q\/w2.heap.size<=q) w2 (wc.setCell ⟨wr.heap.size,3,none⟩ (.slice ac (j+3) cc)) (fun q=>q=bb\/own (.slice a j c) q\/w2.heap.size<=q):=
    ((
      zY HF1).widen (fun _ h=>.inl h)).trans (f1.widen (fun q h=>by
      rcases h with h | h
      ·exact .inr (.inl h)
      ·exact .inr (.inr (by omega))))
   have bk:=(zY HB).mid fT (fun q hq h=>by
    rcases h with h | h | h
    ·exact .inl h
    ·obtain⟨cur,hcur⟩:=mT (zY HO) h
     exact .inr ⟨zY HK q h,uB (zY HB).bk.rI hcur (by decide),uB (zY HB).bk.rE hcur (by decide),uB (zY HB).bk.rN hcur (by decide)⟩
    ·omega) hbd
   have m1:=(zY K3).2.2.2.1 _ 1 (by omega) (((zY K2).2.2.2.1 _ 1 (by omega) ((zY K1).2.2.1.fr ((Fr.refl _ _).alloc _))).fr ((Fr.refl _ _).alloc _))
   have m2:=(zY K3).2.2.2.1 _ 2 (by omega) ((zY K2).2.2.1.fr ((Fr.refl _ _).alloc _))
   have m3:=(zY K3).2.2.1
   have od:=(zY K3).1
   have xd:=(zY K3).2.1
   have g1:=(zY K1).2.2.2.2.2
   have g2:=(zY K2).2.2.2.2.2
   have g3:=(zY K3).2.2.2.2.2
   have s1:w2.heap.size<=((wr.alloc (.cells #[.slice a j c,.slice none 0 0,.slice none 0 0,.slice none 0 0,.int .i64 m] 108)).alloc (.cells #[.int .i64 0,.int .i64 m,.int .i64 0] 72)).heap.size:=by simp;omega
   have s2:=Nat.le_trans (Nat.le_trans s1 (zY K1).2.2.2.2.1.size) (Fr.size ((Fr.refl (fun _=>False) _).alloc (.cells #[.int .i64 0,.int .i64 m,.int .i64 0,.int .i64 0,.int .i64 m,.int .i64 0] 72)))
   have s3:=Nat.le_trans (Nat.le_trans s2 (zY K2).2.2.2.2.1.size) (Fr.size ((Fr.refl (fun _=>False) _).alloc (.cells #[.int .i64 0,.int .i64 m,.int .i64 0,.int .i64 0,.int .i64 m,.int .i64 0,.int .i64 0,.int .i64 m,.int .i64 0] 72)))
   have fresh:∀q,(own (.slice a j c) q\/own (.slice aa (j+1) ca) q\/own (.slice ab (j+2) cb) q\/own (.slice ac (j+3) cc) q)->own (.slice a j c) q\/w2.heap.size<=q:=fun q hq=>by
    rcases hq with h | h | h | h
    ·exact .inl h
    ·exact(g1 q h).imp id (fun h=>Nat.le_trans s1 h)
    ·exact(g2 q h).imp id (fun h=>Nat.le_trans s2 h)
    ·exact(g3 q h).imp id (fun h=>Nat.le_trans s3 h)
   have hXI:¬own (.slice aX LE.length cX) wr.heap.size:=fun hq=>by have:=(zS (zY HB).bk.rE _ hq).2;omega
   have hwd:B<=(wc.setCell ⟨wr.heap.size,3,none⟩ (.slice ac (j+3) cc)).heap.size:=Nat.le_trans hBw fT.size
   clear g1 g2 g3 s1 s2 s3 f1 hbd hbl K1 K2 K3 V0O V0X V0P V1O V1X V1P V2O V2X V2P HB HO HK HF1 HFJ Y1 O1 hB0 hB1 hB2 kca kza kpa kcb kzb kpb kcc kzc kpc P1 Z2 cP hpl hPX hPX'
   generalize (wc.setCell ⟨wr.heap.size,3,none⟩ (.slice ac (j+3) cc))=wd at *
   have ty:∀q,(own (.slice a j c) q\/own (.slice aa (j+1) ca) q\/own (.slice ab (j+2) cb) q\/own (.slice ac (j+3) cc) q)->∃cur,wd.heap[q]?=some (.cells cur 72 (0,0)):=fun q hq=>by
    rcases hq with h | h | h | h
    ·exact mT od h
    ·exact m1.ty od h
    ·exact m2.ty od h
    ·exact m3.ty od h
   have full:uM wd (.slice a j c) m/\uM wd (.slice aa (j+1) ca) m/\uM wd (.slice ab (j+2) cb) m/\uM wd (.slice ac (j+3) cc) m:=⟨(lZ.row (by simp) od (by omega)).toE,m1.1.toE,m2.1.toE,m3.1.toE⟩
   have cbb:=fun i=>cell_of_row wd bb i _ 65 (0,0) bk.bk.blk
   have FT:=zZ fT
   have BK:=zZ bk
   have TY:=zZ ty
   have FULL:=zZ full
   have FRESH:=zZ fresh
   have XD:=zZ xd
   clear fT bk ty full fresh m1 m2 m3 od
   have hE5:∀o,(wd.alloc o).drew.heap[wr.heap.size]?=some (.cells #[.slice a j c,.slice aa (j+1) ca,.slice ab (j+2) cb,.slice ac (j+3) cc,.int .i64 m] 108 (0,0)):=fun o=>(zR wd o _ (zN.1 (zY XD)).1).trans (zY XD)
   have cbq:∀o,(wd.alloc o).drew.cell? ⟨bb,2,none⟩=some (.slice aX LE.length cX):=fun o=>by
    have h:(wd.alloc o).drew.heap[bb]?=_:=(zR wd o _ (zN.1 (zY BK).bk.blk).1).trans (zY BK).bk.blk
    exact cell_of_row _ _ 2 _ 65 (0,0) h
   clear xd
   have hXb:wr.heap.size≠bb:=fun e=>by have h:=zY XD;rw [e] at h;exact absurd (zA7 h (zY BK).bk.blk) (by decide)
   have fin:∀v' w3,w3.ownsRow B 108 5 v' (LE.length+1) (sA LE++[.slice a j c,.slice aa (j+1) ca,.slice ab (j+2) cb,.slice ac (j+3) cc,.int .i64 m])->Fr (own (.slice aX LE.length cX)) (wd.alloc (.cells #[.slice a j c,.slice aa (j+1) ca,.slice ab (j+2) cb,.slice ac (j+3) cc,.int .i64 m] 108)).drew w3 (own v')->cT w2 (w3.setCell ⟨bb,2,none⟩ v') B bb (wrap64 (n+1)) (vI) (.slice aX LE.length cX) (vN) LI LE LN K (.slice a j c):=fun v' w3 o3 f3=>by
    have fa:Fr (fun _=>False) wd (wd.alloc (.cells #[.slice a j c,.slice aa (j+1) ca,.slice ab (j+2) cb,.slice ac (j+3) cc,.int .i64 m] 108)).drew (fun _=>False):=((Fr.refl _ _).alloc _).drew
    have hall:∀q,q<wd.heap.size->(wd.alloc (.cells #[.slice a j c,.slice aa (j+1) ca,.slice ab (j+2) cb,.slice ac (j+3) cc,.int .i64 m] 108)).drew.heap[q]?=wd.heap[q]?:=fun q hq=>fa.same q hq (fun h=>h)
    have full:=zY FULL
    have hb:=((zY BK).fr fa).addE (e:=⟨.slice a j c,.slice aa (j+1) ca,.slice ab (j+2) cb,.slice ac (j+3) cc,m⟩) (K2:=fun q=>(own (.slice a j c) q\/own (.slice aa (j+1) ca) q\/own (.slice ab (j+2) cb) q\/own (.slice ac (j+3) cc) q)) ⟨full.1.fr fa,full.2.1.fr fa,full.2.2.1.fr fa,full.2.2.2.fr fa⟩ ⟨oP.mono (fun _ h=>.inl h),oP.mono (fun _ h=>.inr (.inl h)),oP.mono (fun _ h=>.inr (.inr (.inl h))),oP.mono (fun _ h=>.inr (.inr (.inr h)))⟩ (fun q hq=>by
     obtain⟨cur,hcur⟩:=zY TY q hq
     exact⟨cur,(hall q (zN.1 hcur).1).trans hcur⟩) o3 f3
    refine⟨v',_,_,hb,fun q hq=>?_,fun q hq=>?_,?_⟩
    ·rcases hq with h | h
     ·exact .inl h
     ·exact .inr (zY FRESH q h)
    ·by_cases hlt:q<w2.heap.size
     ·exact .inl (f3.old q (zT hlt (Nat.le_trans (zY FT).size fa.size)) hq)
     ·exact .inr (by omega)
    ·refine Fr.setCell ?_ _ _ (.inl (.inl rfl))
     refine((zY FT).widen (fun q h=>?_)).trans ((fa.widen (fun q h=>h.elim)).trans (f3.widen (fun q h=>.inr (.inl h))))
     rcases h with h | h | h
     ·exact .inl h
     ·exact .inr (.inr (.inl h))
     ·exact .inr (.inr (.inr h))
   refine wp_region_held_drew (S:=fun w'=>w'.heap[wr.heap.size]?=some (.cells #[.slice a j c,.slice aa (j+1) ca,.slice ab (j+2) cb,.slice ac (j+3) cc,.int .i64 m] 108 (0,0))) (by kernel_rfl) ?_ (fun hHeld=>?_)
   ·exact zY XD
   refine zA (i:=0) (oi:={dst:=some 53,op:=.move (.tmp 0),type:=60,pos:= "law.go:115",after:=#[],guard:=none}) ?_
   simp only [Act.put,zC,zD,zE]
   refine zA (i:=1) (oi:={dst:=some 54,op:=.move (.tmp 0),type:=60,pos:= "law.go:115",after:=#[],guard:=none}) ?_
   simp only [Act.put,zC,zD,zE]
   refine zA (i:=2) (oi:={dst:=some 55,op:=.nilCheck (.tmp 54),type:=0,pos:= "law.go:115",after:=#[zG 1],guard:=none}) ?_
   simp only [Act.put,zC,zD,zE]
   refine zA (i:=3) (oi:={dst:=some 56,op:=.fieldAddr 65 (.tmp 55) 2,type:=0,pos:= "law.go:115",after:=#[zG 2],guard:=none}) ?_
   simp only [Act.put,zC,zD,zE]
   refine zB (i:=5) (oi:={dst:=some 58,op:=.load 108 (.tmp 7),type:=108,pos:= "law.go:115",after:=#[],guard:=none}) ?_
   simp only [Act.put,zC,zD,zE]
   refine wpAnyH_ready (rs:=[4,6]) (by kernel_rfl) (by simp) ?_
   refine AllReadyH.cons (o:={dst:=some 57,op:=.load 62 (.tmp 56),type:=62,pos:= "law.go:115",after:=#[zG 3],guard:=none}) rfl (fun K' hK'=>?_) (AllReadyH.cons (o:={dst:=some 59,op:=.buildSlice 62 1 #[(0,.tmp 58)],type:=62,pos:= "law.go:115",after:=#[zG 5],guard:=none}) rfl (fun K' hK'=>?_) AllReadyH.nil)
   focus
    go_simp
    refine hK'.out _ _ ?_ (fun hHeld=>?_)
    ·exact zY XD
    clear hK' K'
    try simp only [Act.put,zC,zD,zE]
    refine zL (i:=6) (o:={dst:=some 59,op:=.buildSlice 62 1 #[(0,.tmp 58)],type:=62,pos:= "law.go:115",after:=#[zG 5],guard:=none}) (fun K' hK'=>?_)
   rotate_left
   focus
    go_simp
    refine hK'.out _ _ ?_ (fun hHeld=>?_)
    ·exact hE5 _
    clear hK' K'
    try simp only [Act.put,zC,zD,zE]
    refine zL (i:=4) (o:={dst:=some 57,op:=.load 62 (.tmp 56),type:=62,pos:= "law.go:115",after:=#[zG 3],guard:=none}) (fun K' hK'=>?_)
   rotate_left
   all_goals
    go_simp
    refine hK'.out _ _ ?_ (fun hHeld=>?_)
    ·exact hE5 _
    clear hK' K'
    try simp only [Act.put,zC,zD,zE]
    refine zL (i:=7) (o:={dst:=some 60,op:=.call {callee:=.builtin .append,args:=#[.tmp 57,.tmp 59],argTypes:=#[62,62]},type:=62,pos:= "law.go:115",after:=#[zG 4,zG 6],guard:=none}) (fun K' hK'=>?_)
    refine xX (d:=60) rfl zP3 (by decide) (by decide) (v:=(.slice aX LE.length cX)) (n:=LE.length) (m:=1) (xs:=sA LE) (news:=[.slice a j c,.slice aa (j+1) ca,.slice ab (j+2) cb,.slice ac (j+3) cc,.int .i64 m]) (B:=B) (ad:=⟨wd.heap.size,0,none⟩) (cap:=1) rfl (.tmp 57) (.tmp 59) rfl rfl rfl ((zY BK).fr ((Fr.refl _ _).alloc (.cells #[.slice a j c,.slice aa (j+1) ca,.slice ab (j+2) cb,.slice ac (j+3) cc,.int .i64 m] 108)).drew).bk.rE rfl (World.news_of_block (heap_alloc_new wd _)) (by simp [Value.oneCell']) (by omega) (by omega) (by simp;omega) ?_
    intro v3 w3 o3 f3 sh3
    obtain⟨av,cv,rfl⟩:=sh3
    have pr:w3.heap[bb]?=some (.cells #[.int .i64 (wrap64 (n+1)),vI,.slice aX LE.length cX,vN] 65):=by
     have hb2:=((zY BK).fr ((Fr.refl _ _).alloc (.cells #[.slice a j c,.slice aa (j+1) ca,.slice ab (j+2) cb,.slice ac (j+3) cc,.int .i64 m] 108)).drew)
     exact(f3.same bb (zN.1 hb2.bk.blk).1 (uB hb2.bk.rE hb2.bk.blk (by decide))).trans hb2.bk.blk
    have pc:=fun j=>cell_of_row w3 bb j _ 65 (0,0) pr
    have pz:=fun j=>yB pr j
    have gg:w3.heap[wr.heap.size]?=some (.cells #[.slice a j c,.slice aa (j+1) ca,.slice ab (j+2) cb,.slice ac (j+3) cc,.int .i64 m] 108 (0,0)):=(f3.same _ (zN.1 (hE5 _)).1 hXI).trans (hE5 (.cells #[.slice a j c,.slice aa (j+1) ca,.slice ab (j+2) cb,.slice ac (j+3) cc,.int .i64 m] 108))
    have O3:=zZ o3
    have F3:=zZ f3
    clear o3 f3 pr
    refine hK'.out _ _ gg (fun hHeld=>?_)
    clear hK' K'
    simp only [zC,zD,zE]
    refine zA (i:=8) (oi:={dst:=some 61,op:=.nilCheck (.tmp 53),type:=0,pos:= "law.go:115",after:=#[zG 0,zF 0,zF 1,zF 2,zF 3,zF 4,zF 5,zF 6,zF 7],guard:=none}) ?_
    simp only [Act.put,zC,zD,zE]
    refine zA (i:=9) (oi:={dst:=some 62,op:=.fieldAddr 65 (.tmp 61) 2,type:=0,pos:= "law.go:115",after:=#[zG 8,zF 0,zF 1,zF 2,zF 3,zF 4,zF 5,zF 6,zF 7],guard:=none}) ?_
    simp only [Act.put,zC,zD,zE]
    refine zL (i:=10) (o:={dst:=none,op:=.store 62 (.tmp 62) (.tmp 60),type:=0,pos:= "law.go:115",after:=#[zG 9,zG 7,zM 7,zF 0,zF 1,zF 2,zF 3,zF 4,zF 5,zF 6,zF 7],guard:=none}) (fun K' hK'=>?_)
    go_simp
    refine hK'.out _ _ ?_ (fun hHeld=>?_)
    ·exact(zQ _ _ _ _ hXb).trans gg
    clear hK' K'
    try simp only [Act.put,zC,zD,zE]
    refine wpAnyH_done (by kernel_rfl) ?_ _
    go_wp2
    go_end0
    exact⟨rfl,zY CLOSE _ (fin _ w3 (zY O3) (zY F3))⟩
theorem yM6 (l:List Nat) (x:Inp) (k:Nat) (h:rcL l=.inr (x,k)):2<=k:=by
 cases l with
 | nil=>simp [rcL] at h
 | cons n t=>
  simp only [rcL] at h
  split at h
  ·cases h
  split at h
  ·cases h
  split at h
  ·cases h
  split at h
  ·cases h
  split at h
  ·cases h
  ·injection h with h
   injection h with _ h
   omega
theorem zF8:∀(f:Nat) (l:List Nat) (a:Nat),2*(rdL f l a).1.length<=l.length
 | 0,l,a=>by simp [rdL]
 | f+1,l,a=>by
  simp only [rdL]
  cases h:rcL l with
  | inl w=>simp
  | inr q=>
   obtain⟨x,k⟩:=q
   have h1:=yM6 l x k h
   have h2:=jM l x k h
   simp only
   split
   ·simp;omega
   ·have ih:=zF8 f (l.drop k) (a+k)
    rw [List.length_drop] at ih
    simp only [List.length_cons]
    omega
theorem dE (l:List Nat):2*(yR l).1.length<=l.length:=by
 unfold yR
 split
 ·have h:=zF8 (l.length+1) (l.drop 3) 3
  rw [List.length_drop] at h
  omega
 ·split<;>simp
structure oH (w:World) (v:Value) (ps:List (Inp×Value)) (P:Nat->Prop):Prop where
 at_:∃a c,v=.slice a ps.length c/\ps.length<=c/\(ps=[]\/∃q off,a=some ⟨q,off,none⟩/\P q/\∀i y,ps[i]?=some y->
  w.cell? ⟨q,off+i*4,none⟩=some (.int .i64 (y.1.1:Nat))/\w.cell? ⟨q,off+i*4+1,none⟩=some (.int .i64 (y.1.2.1:Nat))/\w.cell? ⟨q,off+i*4+2,none⟩=some (.int .i64 (y.1.2.2.1:Nat))/\w.cell? ⟨q,off+i*4+3,none⟩=some y.2)
 fl:∀y,y∈ps->yJ w y.2 (zs y.1.2.2.2) P
theorem oH.keep {w w':World} {v:Value} {ps:List (Inp×Value)} {P:Nat->Prop} (h:oH w v ps P) (hk:∀q,P q->w'.heap[q]?=w.heap[q]?):oH w' v ps P:=by
 obtain⟨⟨a,c,hv,hc,hl⟩,hf⟩:=h
 refine⟨⟨a,c,hv,hc,hl.imp id ?_⟩,fun y hy=>yN (hf y hy) hk (fun _ h=>h)⟩
 rintro ⟨q,off,ha,hq,hcc⟩
 exact⟨q,off,ha,hq,fun i y hy=>⟨(zO (w:=w) (a:=⟨q,_,none⟩) (hk q hq)).trans (hcc i y hy).1,(zO (w:=w) (a:=⟨q,_,none⟩) (hk q hq)).trans (hcc i y hy).2.1,
  (zO (w:=w) (a:=⟨q,_,none⟩) (hk q hq)).trans (hcc i y hy).2.2.1,(zO (w:=w) (a:=⟨q,_,none⟩) (hk q hq)).trans (hcc i y hy).2.2.2⟩⟩
theorem oH.cons {w:World} {v:Value} {y:Inp×Value} {r:List (Inp×Value)} {P:Nat->Prop} (h:oH w v (y::r) P):∃q off c,v=.slice (some ⟨q,off,none⟩) (r.length+1) c/\r.length+1<=c/\P q/\
  (w.cell? ⟨q,off,none⟩=some (.int .i64 (y.1.1:Nat))/\w.cell? ⟨q,off+1,none⟩=some (.int .i64 (y.1.2.1:Nat))/\w.cell? ⟨q,off+2,none⟩=some (.int .i64 (y.1.2.2.1:Nat))/\w.cell? ⟨q,off+3,none⟩=some y.2)/\yJ w y.2 (zs y.1.2.2.2) P/\
  oH w (.slice (if c=1 then some ⟨q,off,none⟩ else some ⟨q,off+4,none⟩) r.length (c-1)) r P:=by
 obtain⟨⟨a,c,hv,hc,hl⟩,hf⟩:=h
 rcases hl with h0 | ⟨q,off,rfl,hq,hcc⟩
 ·cases h0
 simp only [List.length_cons] at hv hc
 have h0:=hcc 0 y rfl
 rw [Nat.zero_mul,Nat.add_zero] at h0
 refine⟨q,off,c,hv,hc,hq,h0,hf y (by simp),⟨_,c-1,rfl,by omega,?_⟩,fun z hz=>hf z (List.mem_cons_of_mem _ hz)⟩
 by_cases h1:c=1
 ·left
  exact List.eq_nil_of_length_eq_zero (by omega)
 ·right
  refine⟨q,off+4,by rw [if_neg h1],hq,fun i z hz=>?_⟩
  have:=hcc (i+1) z hz
  rw [show off+(i+1)*4=off+4+i*4 by omega] at this
  exact this
theorem nB.inps {w:World} {B:Nat} {v:Value} {ps:List (Inp×Value)} (h:nB w B v ps):oH w v ps (fun q=>q<w.heap.size):=by
 refine⟨?_,fun y hy=>yN (h.fl y hy) (fun _ _=>rfl) (fun _ hq=>hq.2.1)⟩
 rcases h.row.2 with ⟨hv,h0⟩ | ⟨g,cap,cur,hv,hB,hg,h1,h2,h3,h4⟩
 ·exact⟨none,0,by rw [hv,h0],by omega,.inl (List.eq_nil_of_length_eq_zero h0)⟩
 ·refine⟨_,cap,hv,h1,?_⟩
  by_cases h0:ps.length=0
  ·exact .inl (List.eq_nil_of_length_eq_zero h0)
  right
  refine⟨g,0,rfl,(zN.1 hg).1,fun i y hy=>?_⟩
  have hi:i<ps.length:=(List.getElem?_eq_some_iff.1 hy).1
  obtain⟨g',c',x,fv,e1,_,e2,k0,k1,k2,k3,_⟩:=h.cells hi
  rw [hy] at e2
  obtain rfl:y=(x,fv):=Option.some.inj e2
  rw [hv] at e1
  injection e1 with e1
  injection e1 with e1
  injection e1 with e1
  subst e1
  rw [Nat.zero_add]
  exact⟨k0,k1,k2,k3⟩
def xT (y:VL) (k o:Int):Rep×VL:=(vW y.1 k o,if (vW y.1 k o).e=0 then y.tail else y)
theorem dG:uF xT (fun y=>y.1.length):=by
 have h:=iJ
 refine⟨fun y k o=>?_,fun y he=>?_,h.clock,h.pick,h.files,h.most⟩
 ·show (if (vW y.1 k o).e=0 then y.tail else y).1.length<=y.1.length
  split
  ·exact h.le y k o
  ·exact Nat.le_refl _
 ·show (if (vW y.1 1 0).e=0 then y.tail else y).1.length<y.1.length
  have he':(vW y.1 1 0).e=0:=he
  rw [if_pos he']
  exact h.lt y he
theorem zM8 (may:Int->Int->Prop):pQ xT mQ may (fun _=>True) (fun _ x y=>x=y) (fun e _ _ _=>e=5\/e=6) (fun _ _=>False):=by
 refine⟨fun _ _ _ _=>trivial,fun h x y k o _ hxy _=>?_,fun _ _ _ hp _ _=>hp.elim⟩
 subst hxy
 refine .inl ⟨rfl,fun he=>?_,fun he=>?_⟩
 ·have he':(vW x.1 k o).e=0:=he
  show (if (vW x.1 k o).e=0 then x.tail else x)=x.tail
  rw [if_pos he']
 ·rcases jO x.1 k o with h0 | h0 | h0
  ·exact absurd h0 he
  ·left;show (vW x.1 k o).e=5;rw [h0];rfl
  ·right;show (vW x.1 k o).e=6;rw [h0];rfl
theorem yG3 {p:Pg} (ok:tY p) (f:Int) (y:VL):(uS xT p (y.1.length+1) f y).1=(jN p f y).1/\oB (jN p f y).1.fin (uS xT p (y.1.length+1) f y).2.1=oB (jN p f y).1.fin (jN p f y).2.1:=by
 have h:=zG3 (zM8 aS) lL dG.most ok (y.1.length+1) f (x:=y) (y:=y) rfl trivial
 rcases h with ⟨e,q⟩ | ⟨_,h⟩
 ·refine⟨e,?_⟩
  rcases q with q | ⟨_,q⟩
  ·show oB _ (uS xT p (y.1.length+1) f y).2.1=oB _ (uS mQ p (y.1.length+1) f y).2.1
   rw [q]
  ·rw [e] at q
   change (jN p f y).1.fin=5\/(jN p f y).1.fin=6 at q
   unfold oB
   rw [if_pos q,if_pos q]
 ·exact h.elim
structure SQP (B:Nat) (pv:Nat->Value) (T:Nat->Prop) (w:World) (y:VL):Prop where
 rep:pv 7=.bool true
 ins:∃ps,oH w (pv 8) ps (fun q=>q<B)/\ps.map (·.1)=y.1
 hd:∃H:List (Inp×Value),w.ownsRow B 49 4 (pv 9) H.length (xS H)/\(∀q,own (pv 9) q->T q)/\H.length+y.1.length<=20000000
theorem SQP.law (B:Nat):sW (SQP B) B:=⟨fun h hk hb _=>
 ⟨h.rep,by obtain⟨ps,h1,h2⟩:=h.ins;exact⟨ps,h1.keep hb,h2⟩,by
  obtain⟨H,h1,h2,h3⟩:=h.hd
  exact⟨H,yA h1 (fun q hq=>hk q (h2 q hq)),h2,h3⟩⟩⟩
section
variable {B:Nat} {S T:Nat->Prop} {w:World} {b:Nat} {pv:Nat->Value} {vt va:Value} {s:PS} {A:List AT} {tn sq:Int} {y:VL}
theorem zT9 (h:LQ (SQP B) B S w b pv vt va T s A tn sq y) (k o:Int) (he:y.1=[]\/∃x r,y.1=x::r/\x.1=5/\x.2.2.1=5) :
  Calls Tryz.prog 141 #[.pointer (some ⟨b,0,none⟩),.int .i64 k,.int .i64 o] w fun e w'=>e=.returned (.agg #[.int .i64 0,.int .i64 0,.int .i64 0,.slice none 0 0])/\rL (SQP B) B S w b pv vt va A tn sq {s with fin:=5} y w':=by
 have hb:=h.blt
 have k7:=(h.cell 7 (by omega)).trans (by rw [xA _ _ _ _ _ _ (by omega),h.src.rep])
 have k8:=(h.cell 8 (by omega)).trans (by rw [xA _ _ _ _ _ _ (by omega)])
 have c27:=h.cell 27 (by omega)
 have z27:=h.free 27 (by omega)
 generalize xP pv vt va s tn 27=o27 at c27
 obtain⟨ps,hin,hps⟩:=h.src.ins
 have hB6:=h.below
 have hfin:rL (SQP B) B S w b pv vt va A tn sq {s with fin:=5} y (((w.setCell ⟨b,27,none⟩ (.int .i64 5)).alloc (.cells #[.int .i64 0,.int .i64 0,.int .i64 0,.slice none 0 0] 49)).alloc (.cells #[.int .i64 0,.int .i64 0,.int .i64 0,.slice none 0 0] 49)):=by
  refine⟨S,pv,T,?_,fun _ _=>rfl,?_⟩
  ·exact((h.set (SQP.law B) 27 (.int .i64 5) {s with fin:=5} (by omega) (rZ 5) rfl (h.rel.of rfl rfl) rfl).alloc (SQP.law B) _).alloc (SQP.law B) _
  ·exact(((Fr.refl S w).setCell ⟨b,27,none⟩ _ (.inl h.inB)).alloc _).alloc _
 have HFIN:=zZ hfin
 clear hfin h
 rcases he with he | ⟨x,r,he,h5,hn5⟩
 ·obtain rfl:ps=[]:=by rw [he] at hps;exact List.map_eq_nil_iff.1 hps
  obtain⟨⟨a,c,hv,_⟩,_⟩:=hin
  rw [hv] at k8
  clear hv he hps
  go_enter Tryz.func141,Tryz.ntmps141
  go_wp2
  exact bodyPost_ret (v:=.agg #[.int .i64 0,.int .i64 0,.int .i64 0,.slice none 0 0]) (by simp [results,Tryz.results141,go_sem]) rfl ⟨rfl,zY HFIN⟩
 ·obtain⟨⟨i,fv⟩,rs,rfl⟩ : ∃y rs,ps=y::rs:=by
   cases ps with
   | nil=>rw [he] at hps;cases hps
   | cons y rs=>exact⟨y,rs,rfl⟩
  rw [he] at hps
  obtain rfl:i=x:=(List.cons.inj hps).1
  obtain⟨q,off,c,hv,hc,hq,⟨q0,_,q2,_⟩,_,_⟩:=hin.cons
  rw [hv] at k8
  have g0:w.cell? ⟨q,off,none⟩=some (.int .i64 5):=by rw [q0,h5];rfl
  have g2:w.cell? ⟨q,off+2,none⟩=some (.int .i64 5):=by rw [q2,hn5];rfl
  have hqw:q<w.heap.size:=by omega
  obtain⟨m,hm⟩ : ∃m,m=rs.length:=⟨_,rfl⟩
  rw [<-hm] at k8
  clear hv he hps hin q0 q2 hm hc h5 hn5
  go_enter Tryz.func141,Tryz.ntmps141
  go_wp2
  exact bodyPost_ret (v:=.agg #[.int .i64 0,.int .i64 0,.int .i64 0,.slice none 0 0]) (by simp [results,Tryz.results141,go_sem]) rfl ⟨rfl,zY HFIN⟩
end
section
variable {B:Nat} {S T:Nat->Prop} {w:World} {b:Nat} {pv:Nat->Value} {vt va:Value} {s:PS} {A:List AT} {tn sq:Int} {y:VL}
theorem zT8 (h:LQ (SQP B) B S w b pv vt va T s A tn sq y) (k o:Int) {x:Inp} {r:List Inp} (he:y.1=x::r) (h5:¬(x.1=5/\x.2.2.1=5)) (hk5:k≠5) (hd:(x.1:Int)≠k\/(x.2.1:Int)≠o) :
  Calls Tryz.prog 141 #[.pointer (some ⟨b,0,none⟩),.int .i64 k,.int .i64 o] w fun e w'=>e=.returned (.agg #[.int .i64 0,.int .i64 0,.int .i64 0,.slice none 0 0])/\rL (SQP B) B S w b pv vt va A tn sq {s with fin:=6} y w':=by
 have hb:=h.blt
 have k7:=(h.cell 7 (by omega)).trans (by rw [xA _ _ _ _ _ _ (by omega),h.src.rep])
 have k8:=(h.cell 8 (by omega)).trans (by rw [xA _ _ _ _ _ _ (by omega)])
 have c27:=h.cell 27 (by omega)
 have z27:=h.free 27 (by omega)
 generalize xP pv vt va s tn 27=o27 at c27
 obtain⟨ps,hin,hps⟩:=h.src.ins
 obtain⟨⟨i,fv⟩,rs,rfl⟩ : ∃y rs,ps=y::rs:=by
  cases ps with
  | nil=>rw [he] at hps;cases hps
  | cons y rs=>exact⟨y,rs,rfl⟩
 rw [he] at hps
 obtain rfl:i=x:=(List.cons.inj hps).1
 obtain⟨q,off,c,hv,hc,hq,⟨g0,g1,g2,g3⟩,hfi,_⟩:=hin.cons
 rw [hv] at k8
 obtain⟨fa,fc,hfe,_⟩:=hfi
 dsimp only at g0 g1 g2 g3 hfe
 rw [hfe] at g3
 obtain⟨kx,hkx⟩ : ∃kx:Int,kx=(i.1:Nat):=⟨_,rfl⟩
 obtain⟨ox,hox⟩ : ∃ox:Int,ox=(i.2.1:Nat):=⟨_,rfl⟩
 obtain⟨nx,hnx⟩ : ∃nx:Int,nx=(i.2.2.1:Nat):=⟨_,rfl⟩
 obtain⟨fn,hfn⟩ : ∃fn:Nat,fn=(zs i.2.2.2).length:=⟨_,rfl⟩
 obtain⟨m,hm⟩ : ∃m,m=rs.length:=⟨_,rfl⟩
 rw [<-hm] at k8
 rw [<-hkx] at g0 hd
 rw [<-hox] at g1 hd
 rw [<-hnx] at g2
 rw [<-hfn] at g3
 have hc5:(kx=5/\¬nx=5)\/¬kx=5:=by omega
 have hB6:=h.below
 have hqw:q<w.heap.size:=by omega
 have hqb:¬q=b:=by have:=(h.bound b h.inB).1;omega
 have hfin:rL (SQP B) B S w b pv vt va A tn sq {s with fin:=6} y (((w.setCell ⟨b,27,none⟩ (.int .i64 6)).alloc (.cells #[.int .i64 0,.int .i64 0,.int .i64 0,.slice none 0 0] 49)).alloc (.cells #[.int .i64 kx,.int .i64 ox,.int .i64 nx,.slice fa fn fc] 49)):=by
  refine⟨S,pv,T,?_,fun _ _=>rfl,?_⟩
  ·exact((h.set (SQP.law B) 27 (.int .i64 6) {s with fin:=6} (by omega) (rZ 6) rfl (h.rel.of rfl rfl) rfl).alloc (SQP.law B) _).alloc (SQP.law B) _
  ·exact(((Fr.refl S w).setCell ⟨b,27,none⟩ _ (.inl h.inB)).alloc _).alloc _
 have HFIN:=zZ hfin
 clear hfin h hv he hps hin h5 hkx hox hnx hfn hfe hm hc
 rcases hc5 with ⟨rfl,hn5⟩ | h5
 ·have hdk:¬(5:Int)=k:=fun e=>hk5 e.symm
  have hnb:(nx==5)=false:=by simpa using hn5
  clear hd hk5
  go_enter Tryz.func141,Tryz.ntmps141
  go_wp2
  exact bodyPost_ret (v:=.agg #[.int .i64 0,.int .i64 0,.int .i64 0,.slice none 0 0]) (by simp [results,Tryz.results141,go_sem]) rfl ⟨rfl,zY HFIN⟩
 ·by_cases hdk:kx=k
  ·have hdo:¬ox=o:=by omega
   clear hd
   subst hdk
   go_enter Tryz.func141,Tryz.ntmps141
   go_wp2
   exact bodyPost_ret (v:=.agg #[.int .i64 0,.int .i64 0,.int .i64 0,.slice none 0 0]) (by simp [results,Tryz.results141,go_sem]) rfl ⟨rfl,zY HFIN⟩
  ·clear hd
   go_enter Tryz.func141,Tryz.ntmps141
   go_wp2
   exact bodyPost_ret (v:=.agg #[.int .i64 0,.int .i64 0,.int .i64 0,.slice none 0 0]) (by simp [results,Tryz.results141,go_sem]) rfl ⟨rfl,zY HFIN⟩
end
section
variable {B:Nat} {S T:Nat->Prop} {w:World} {b:Nat} {pv:Nat->Value} {vt va:Value} {s:PS} {A:List AT} {tn sq:Int} {y:VL}
theorem lG {W4 w5:World} {ob:Obj} {v8 v9 fv vh:Value} {H:List (Inp×Value)} {i:Inp} {ps:List (Inp×Value)} {y':VL} (h:LQ (SQP B) B S w b pv vt va T s A tn sq y) (hin:oH w v8 ps (fun q=>q<B)) (hps:ps.map (·.1)=y'.1) (hleft:y'.1.length+1=y.1.length)
  (hrow:w.ownsRow B 49 4 vh H.length (xS H)) (hown:∀q,own vh q->T q) (hcnt:H.length+y.1.length<=20000000) (hnh:(H.length:Int)=s.heard) (hfl:yJ w fv (zs i.2.2.2) (fun q=>q<B))
  (c4:LAt W4 b (yP (xP pv vt va s tn) 8 v8)) (f04:Fr (fun q=>q=b) w W4 (fun q=>q=b)) (hz4:w.heap.size+2<=W4.heap.size) (o5:w5.ownsRow B 49 4 v9 (H.length+1) (xS H++[.int .i64 (i.1:Nat),.int .i64 (i.2.1:Nat),.int .i64 (i.2.2.1:Nat),fv])) (hv9:∃a c,v9=.slice a (H.length+1) c) (f5:Fr (own vh) (W4.alloc ob).drew w5 (own v9)) (u0 u1 u2 u3:Value) :
  rL (SQP B) B S w b pv vt va A tn sq {s with heard:=wrap64 (s.heard+1)} y' (((((w5.setCell ⟨b,9,none⟩ v9).setCell ⟨w.heap.size,0,none⟩ u0).setCell ⟨w.heap.size,1,none⟩ u1).setCell ⟨w.heap.size,2,none⟩ u2).setCell ⟨w.heap.size,3,none⟩ u3)/\yJ (((((w5.setCell ⟨b,9,none⟩ v9).setCell ⟨w.heap.size,0,none⟩ u0).setCell ⟨w.heap.size,1,none⟩ u1).setCell ⟨w.heap.size,2,none⟩ u2).setCell ⟨w.heap.size,3,none⟩ u3) fv (zs i.2.2.2) (fun q=>q<(((((w5.setCell ⟨b,9,none⟩ v9).setCell ⟨w.heap.size,0,none⟩ u0).setCell ⟨w.heap.size,1,none⟩ u1).setCell ⟨w.heap.size,2,none⟩ u2).setCell ⟨w.heap.size,3,none⟩ u3).heap.size):=by
 have hb:=h.blt
 have hBw:=h.below
 have hbB:=(h.bound b h.inB).1
 have hbT:¬T b:=fun e=>(h.inT b e).2 rfl
 have hTl:∀q,T q->B<=q/\q<w.heap.size:=fun q hq=>h.bound q (h.inT q hq).1
 generalize hW:(((((w5.setCell ⟨b,9,none⟩ v9).setCell ⟨w.heap.size,0,none⟩ u0).setCell ⟨w.heap.size,1,none⟩ u1).setCell ⟨w.heap.size,2,none⟩ u2).setCell ⟨w.heap.size,3,none⟩ u3)=W
 have hWz:W.heap.size=w5.heap.size:=by subst hW;simp [World.setCell]
 have hz4a:(W4.alloc ob).drew.heap.size=W4.heap.size+1:=by show (W4.alloc ob).heap.size=_;simp
 have hz5:W4.heap.size+1<=w5.heap.size:=by have h1:=f5.size;omega
 have keep5:∀q,q≠b->q≠w.heap.size->W.heap[q]?=w5.heap[q]?:=fun q h1 h2=>by
  subst hW
  exact(zQ _ _ _ _ h2).trans ((zQ _ _ _ _ h2).trans ((zQ _ _ _ _ h2).trans ((zQ _ _ _ _ h2).trans (zQ _ _ _ _ h1))))
 have keep45:∀q,q<W4.heap.size->¬own vh q->w5.heap[q]?=W4.heap[q]?:=fun q h1 h2=>(f5.same q (by show q<(W4.alloc ob).heap.size;simp;omega) h2).trans (zR W4 ob q h1)
 have keepw:∀q,q<w.heap.size->q≠b->¬own vh q->W.heap[q]?=w.heap[q]?:=fun q h1 h2 h3=>(keep5 q h2 (by omega)).trans ((keep45 q (by omega) h3).trans (f04.same q h1 h2))
 have hvb:¬own vh b:=fun e=>hbT (hown b e)
 have hvl:∀q,own vh q->q<w.heap.size:=fun q e=>(zS hrow q e).2
 have hv9o:∀q,own v9 q->own vh q\/W4.heap.size<=q:=fun q hq=>by
  by_cases hl:q<W4.heap.size
  ·exact .inl (f5.old q (by show q<(W4.alloc ob).heap.size;simp;omega) hq)
  ·exact .inr (by omega)
 have hcells:LAt W b (xP (yP (yP pv 8 v8) 9 v9) vt va {s with heard:=wrap64 (s.heard+1)} tn):=by
  have e5:LAt w5 b (yP (xP pv vt va s tn) 8 v8):=c4.block (keep45 b (by omega) hvb)
  have e6:=e5.set 9 v9 (by omega)
  have e7:LAt W b (yP (yP (xP pv vt va s tn) 8 v8) 9 v9):=by
   subst hW
   exact(((e6.other (show ¬b=w.heap.size by omega)).other (show ¬b=w.heap.size by omega)).other (show ¬b=w.heap.size by omega)).other (show ¬b=w.heap.size by omega)
  refine e7.congr (fun k _=>?_)
  rw [nO (by omega)]
  unfold yP
  by_cases e9:k=9
  ·rw [if_pos e9,if_pos e9]
  ·rw [if_neg e9,if_neg e9]
   have:=nO (pv:=pv) (vt:=vt) (va:=va) (s:={s with heard:=wrap64 (s.heard+1)}) (tn:=tn) (j:=8) (v:=v8) (by omega) k
   unfold yP at this
   rw [this]
   rfl
 have hrow':W.ownsRow B 49 4 v9 (H++[(i,fv)]).length (xS (H++[(i,fv)])):=by
  rw [List.length_append,qK]
  refine yA o5 (fun q hq=>keep5 q (fun e=>?_) (fun e=>?_))
  ·rcases hv9o q hq with h1 | h1
   ·exact hvb (e▸h1)
   ·omega
  ·rcases hv9o q hq with h1 | h1
   ·have:=hvl q h1;omega
   ·omega
 have hT':∀q,(own v9 q\/(T q/\¬own vh q))->q<W.heap.size/\q≠b:=fun q hq=>by
  rw [hWz]
  rcases hq with h1 | ⟨h1,_⟩
  ·refine⟨(zS o5 q h1).2,fun e=>?_⟩
   rcases hv9o q h1 with h2 | h2
   ·exact hvb (e▸h2)
   ·omega
  ·have:=hTl q h1
   exact⟨by omega,fun e=>hbT (e▸h1)⟩
 have hf:Fr (fun q=>q=b\/T q) w W (fun q=>q=b\/(own v9 q\/(T q/\¬own vh q))):=by
  have g1:W.os=w.os/\W.tape=w.tape/\W.output=w.output:=by
   have g0:=(((((Fr.refl (fun _=>True) w5).setCell ⟨b,9,none⟩ v9 (.inl trivial)).setCell ⟨w.heap.size,0,none⟩ u0 (.inl trivial)).setCell ⟨w.heap.size,1,none⟩ u1 (.inl trivial)).setCell ⟨w.heap.size,2,none⟩ u2 (.inl trivial)).setCell ⟨w.heap.size,3,none⟩ u3 (.inl trivial)
   rw [hW] at g0
   exact⟨g0.os.trans (f5.os.trans f04.os),g0.tape.trans (f5.tape.trans f04.tape),g0.output.trans (f5.output.trans f04.output)⟩
  refine⟨g1.1,g1.2.1,g1.2.2,by rw [hWz];omega,fun k hk hn=>keepw k hk (fun e=>hn (.inl e)) (fun e=>hn (.inr (hown k e))),fun k hk hq=>?_⟩
  rcases hq with h1 | h1 | ⟨h1,_⟩
  ·exact .inl h1
  ·rcases hv9o k h1 with h2 | h2
   ·exact .inr (hown k h2)
   ·omega
  ·exact .inr h1
 have hbelow:∀q,q<B->W.heap[q]?=w.heap[q]?:=fun q hq=>keepw q (by omega) (by omega) (fun e=>by have:=(zS hrow q e).1;omega)
 have hpv:∀k,k≠9->yP (yP pv 8 v8) 9 v9 k=yP pv 8 v8 k:=fun k hk=>by show (if k=9 then v9 else yP pv 8 v8 k)=_;rw [if_neg hk]
 have h9:yP (yP pv 8 v8) 9 v9 9=v9:=by show (if 9=9 then v9 else yP pv 8 v8 9)=v9;rw [if_pos rfl]
 have h8:yP (yP pv 8 v8) 9 v9 8=v8:=by rw [hpv 8 (by omega)];show (if 8=8 then v8 else pv 8)=v8;rw [if_pos rfl]
 have hsrc:SQP B (yP (yP pv 8 v8) 9 v9) (fun q=>own v9 q\/(T q/\¬own vh q)) W y':=by
  refine⟨?_,⟨ps,by rw [h8];exact hin.keep hbelow,hps⟩,H++[(i,fv)],?_,?_,?_⟩
  ·rw [hpv 7 (by omega)]
   show (if 7=8 then v8 else pv 7)=_
   rw [if_neg (by omega)]
   exact h.src.rep
  ·rw [h9];exact hrow'
  ·rw [h9];exact fun q hq=>.inl hq
  ·rw [List.length_append];simp only [List.length_cons,List.length_nil];omega
 obtain⟨a9,c9,e9⟩:=hv9
 have hreb:=h.rebuild (s':={s with heard:=wrap64 (s.heard+1)}) hf hcells hsrc hT' rfl (h.rel.of rfl rfl) ⟨a9,H.length+1,c9,by rw [h9];exact e9,by show _=wrap64 (s.heard+1);rw [<-hnh];unfold wrap64;omega⟩
 refine⟨⟨_,_,_,hreb.1,fun k hk=>?_,hreb.2⟩,?_⟩
 ·rw [hpv k (by omega)]
  show (if k=8 then v8 else pv k)=_
  rw [if_neg (by omega)]
 ·exact yN hfl hbelow (fun q hq=>by rw [hWz];omega)
end
