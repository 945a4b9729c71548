/-
  PROVED HERE: how the loop's run struct lies in memory, and wh
-/
import Derived.Laws.EntriesVeiled
import Derived.Test.YtfmbebofllgmoaaGreatDoorSallac
namespace Go.Proofs.YtfmbebofllgmoaaGreatDoor
open Go.RowKit
abbrev TM:=Bool×Int×Int×Int
structure PS where
 fuel:Int
 next:Int
 reg:Nat->Int
 clock:Int
 tim:Nat->TM
 armings:Int
 wat:Nat->Bool
 trace:List O3
 heard:Int
 fin:Int
def iP (j:Nat):Value:=if j=0 then .nilFunc else .func (Fn.func (82+j)) #[] #[]
def mS (t:TM) (c:Nat):Value:=if c=0 then .bool t.1 else if c=1 then .int .i64 t.2.1 else if c=2 then .int .i64 t.2.2.1 else .int .i64 t.2.2.2
def img (pv:Nat->Value) (vt:Value) (s:PS) (k:Nat):Value:=
 if k<4 then pv k else if k<16 then iP (k-4) else if k=16 then .int .i64 s.fuel else if k=17 then .int .i64 s.next else if k<22 then .int .i64 (s.reg (k-18)) else if k=22 then .int .i64 s.clock
 else if k<55 then mS (s.tim ((k-23) / 4)) ((k-23) % 4) else if k=55 then .int .i64 s.armings else if k<64 then .bool (s.wat (k-56)) else if k=64 then vt else if k=65 then .int .i64 s.heard else .int .i64 s.fin
def yV (c:Nat->Value) (k:Nat) (v:Value):Nat->Value:=fun j=>if j=k then v else c j
def kN (w:World) (b:Nat) (c:Nat->Value):Prop:=∀k,k<67->w.cell? ⟨b,k,none⟩=some (c k)/\w.frozen? ⟨b,k,none⟩=false
theorem kN.set {w:World} {b:Nat} {c:Nat->Value} (h:kN w b c) (k:Nat) (v:Value) (hk:k<67):kN (w.setCell ⟨b,k,none⟩ v) b (yV c k v):=by
 intro j hj
 obtain⟨h1,h2⟩:=h j hj
 refine⟨?_,by simpa using h2⟩
 by_cases e:j=k
 ·subst e
  rw [World.cell?_setCell_same' _ _ _ (by rw [h1];rfl)]
  simp [yV]
 ·rw [zV _ _ _ _ (by intro he;injection he;omega),h1]
  simp [yV,e]
theorem kN.congr {w:World} {b:Nat} {c c':Nat->Value} (h:kN w b c) (he:∀k,k<67->c' k=c k):kN w b c':=fun k hk=>by rw [he k hk];exact h k hk
theorem kN.block {w w':World} {b:Nat} {c:Nat->Value} (h:kN w b c) (he:w'.heap[b]?=w.heap[b]?):kN w' b c:=fun k hk=>by
 rw [zO (w:=w) (a:=⟨b,k,none⟩) he,zP (w:=w) (a:=⟨b,k,none⟩) he]
 exact h k hk
structure Fr (S:Nat->Prop) (w w':World) (S':Nat->Prop):Prop where
 os:w'.os=w.os
 tape:w'.tape=w.tape
 output:w'.output=w.output
 size:w.heap.size<=w'.heap.size
 same:∀k,k<w.heap.size->¬S k->w'.heap[k]?=w.heap[k]?
 old:∀k,k<w.heap.size->S' k->S k
theorem Fr.refl (S:Nat->Prop) (w:World):Fr S w w S:=⟨rfl,rfl,rfl,Nat.le_refl _,fun _ _ _=>rfl,fun _ _ h=>h⟩
theorem Fr.trans {S S' S'':Nat->Prop} {w w' w'':World} (h:Fr S w w' S') (h':Fr S' w' w'' S''):Fr S w w'' S'':=
 ⟨h'.os.trans h.os,h'.tape.trans h.tape,h'.output.trans h.output,Nat.le_trans h.size h'.size,
  fun k hk hn=>(h'.same k (zT hk h.size) (fun hs=>hn (h.old k hk hs))).trans (h.same k hk hn),fun k hk hs=>h.old k hk (h'.old k (zT hk h.size) hs)⟩
theorem Fr.alloc {S S':Nat->Prop} {w w':World} (h:Fr S w w' S') (o:Obj):Fr S w (w'.alloc o) S':=
 ⟨h.os,h.tape,h.output,Nat.le_trans h.size (by simp),fun k hk hn=>(zR _ _ _ (zT hk h.size)).trans (h.same k hk hn),h.old⟩
theorem Fr.drew {S S':Nat->Prop} {w w':World} (h:Fr S w w' S'):Fr S w w'.drew S':=⟨h.os,h.tape,h.output,h.size,h.same,h.old⟩
theorem Fr.drewN {S S':Nat->Prop} {w w':World} (h:Fr S w w' S') (n:Nat):Fr S w (w'.drewN n) S':=⟨h.os,h.tape,h.output,h.size,h.same,h.old⟩
theorem Fr.setCell {S S':Nat->Prop} {w w':World} (h:Fr S w w' S') (a:Addr) (v:Value) (ha:S a.block\/w.heap.size<=a.block):Fr S w (w'.setCell a v) S':=
 ⟨h.os,h.tape,h.output,by simpa [World.setCell] using h.size,fun k hk hn=>by
  rw [zQ _ _ _ _ (by intro e;subst e;rcases ha with ha | ha<;>first | exact hn ha | omega)];exact h.same k hk hn,h.old⟩
theorem Fr.cell {S S':Nat->Prop} {w w':World} (h:Fr S w w' S') (b o:Nat) (hb:b<w.heap.size) (hn:¬S b):w'.cell? ⟨b,o,none⟩=w.cell? ⟨b,o,none⟩:=
 zO (w:=w) (a:=⟨b,o,none⟩) (h.same b hb hn)
theorem Fr.frozen {S S':Nat->Prop} {w w':World} (h:Fr S w w' S') (b o:Nat) (hb:b<w.heap.size) (hn:¬S b):w'.frozen? ⟨b,o,none⟩=w.frozen? ⟨b,o,none⟩:=
 zP (w:=w) (a:=⟨b,o,none⟩) (h.same b hb hn)
theorem Fr.below {S S':Nat->Prop} {w w':World} {B:Nat} (h:Fr S w w' S') (hS:∀k,S k->B<=k) (hB:B<=w.heap.size):Below B w w':=
 ⟨h.os,h.tape,h.output,h.size,fun k hk=>h.same k (by omega) (fun hs=>by have:=hS k hs;omega)⟩
def vD:List O3->List Value
 | []=>[]
 | x::r=>.int .i64 x.1::.int .i64 x.2.1::.int .i64 x.2.2::vD r
theorem jR (a b:List O3):vD (a++b)=vD a++vD b:=by
 induction a with
 | nil=>rfl
 | cons x r ih=>simp [vD,ih]
structure xD {σ:Type} (SA:(Nat->Prop)->World->σ->Prop):Prop where
 keep:∀{S:Nat->Prop} {w w':World} {x:σ},SA S w x->(∀k,S k->w'.heap[k]?=w.heap[k]?)->w.heap.size<=w'.heap.size->SA S w' x
structure RI {σ:Type} (SA:(Nat->Prop)->World->σ->Prop) (B:Nat) (S:Nat->Prop) (w:World) (b:Nat) (pv:Nat->Value) (vt:Value) (T:Nat->Prop) (s:PS) (x:σ):Prop where
 bound:∀k,S k->B<=k/\k<w.heap.size
 cells:kN w b (img pv vt s)
 row:w.ownsRow B 72 3 vt s.trace.length (vD s.trace)
 src:SA T w x
 inB:S b
 inV:∀q,vt.ownBlock=some q->S q/\q≠b/\¬T q
 inT:∀k,T k->S k/\k≠b
theorem yA {w w':World} {B e size n:Nat} {v:Value} {xs:List Value} (h:w.ownsRow B e size v n xs) (hb:∀q,v.ownBlock=some q->w'.heap[q]?=w.heap[q]?):w'.ownsRow B e size v n xs:=by
 refine⟨h.1,?_⟩
 rcases h.2 with hn | ⟨g,cap,cur,rfl,hB,hg,r⟩
 ·exact .inl hn
 ·exact .inr ⟨g,cap,cur,rfl,hB,(hb g rfl).trans hg,r⟩
section
variable {σ:Type} {SA:(Nat->Prop)->World->σ->Prop} {B:Nat} {S T:Nat->Prop} {w:World} {b:Nat} {pv:Nat->Value} {vt:Value} {s:PS} {x:σ}
theorem RI.kept (L:xD SA) (h:RI SA B S w b pv vt T s x) {w':World} (hs:∀k,S k->w'.heap[k]?=w.heap[k]?) (hz:w.heap.size<=w'.heap.size):RI SA B S w' b pv vt T s x:=
 ⟨fun k hk=>⟨(h.bound k hk).1,zT (h.bound k hk).2 hz⟩,h.cells.block (hs b h.inB),yA h.row (fun q hq=>hs q (h.inV q hq).1),L.keep h.src (fun k hk=>hs k (h.inT k hk).1) hz,h.inB,h.inV,h.inT⟩
theorem RI.alloc (L:xD SA) (h:RI SA B S w b pv vt T s x) (o:Obj):RI SA B S (w.alloc o) b pv vt T s x:=
 h.kept L (fun k hk=>zR _ _ _ (h.bound k hk).2) (by simp)
theorem RI.drew (L:xD SA) (h:RI SA B S w b pv vt T s x):RI SA B S w.drew b pv vt T s x:=h.kept L (fun _ _=>rfl) (Nat.le_refl _)
theorem RI.drewN (L:xD SA) (h:RI SA B S w b pv vt T s x) (n:Nat):RI SA B S (w.drewN n) b pv vt T s x:=h.kept L (fun _ _=>rfl) (Nat.le_refl _)
theorem RI.setOther (L:xD SA) (h:RI SA B S w b pv vt T s x) (a:Addr) (v:Value) (ha:¬S a.block):RI SA B S (w.setCell a v) b pv vt T s x:=
 h.kept L (fun k hk=>zQ _ _ _ _ (by intro e;subst e;exact ha hk)) (by simp [World.setCell])
theorem RI.set (L:xD SA) (h:RI SA B S w b pv vt T s x) (k:Nat) (v:Value) (s':PS) (hk:k<67) (he:∀j,j<67->img pv vt s' j=yV (img pv vt s) k v j) (ht:s'.trace=s.trace) :
  RI SA B S (w.setCell ⟨b,k,none⟩ v) b pv vt T s' x:=by
 have hsame:∀q,q≠b->(w.setCell ⟨b,k,none⟩ v).heap[q]?=w.heap[q]?:=fun q hq=>zQ _ _ _ _ hq
 have hz:w.heap.size=(w.setCell ⟨b,k,none⟩ v).heap.size:=by simp [World.setCell]
 exact⟨fun k hk=>⟨(h.bound k hk).1,by rw [<-hz];exact(h.bound k hk).2⟩,(h.cells.set k v hk).congr he,by rw [ht];exact yA h.row (fun q hq=>hsame q (h.inV q hq).2.1),
  L.keep h.src (fun q hq=>hsame q (h.inT q hq).2) (Nat.le_of_eq hz),h.inB,h.inV,h.inT⟩
theorem RI.cell (h:RI SA B S w b pv vt T s x) (k:Nat) (hk:k<67):w.cell? ⟨b,k,none⟩=some (img pv vt s k):=(h.cells k hk).1
theorem RI.free (h:RI SA B S w b pv vt T s x) (k:Nat) (hk:k<67):w.frozen? ⟨b,k,none⟩=false:=(h.cells k hk).2
end
section
variable (pv:Nat->Value) (vt:Value) (s:PS)
theorem jA (i:Nat) (h:i<4):img pv vt s i=pv i:=by simp [img,h]
theorem jX (i:Nat) (h:i<12):img pv vt s (4+i)=iP i:=by
 have e1:¬4+i<4:=by omega
 have e2:4+i<16:=by omega
 have e3:4+i-4=i:=by omega
 simp only [img,e1,e2,e3,if_true,if_false]
theorem nF:img pv vt s 16=.int .i64 s.fuel:=by simp [img]
theorem pS:img pv vt s 17=.int .i64 s.next:=by simp [img]
theorem tX (i:Nat) (h:i<4):img pv vt s (18+i)=.int .i64 (s.reg i):=by
 have e1:¬18+i<4:=by omega
 have e2:¬18+i<16:=by omega
 have e3:¬18+i=16:=by omega
 have e4:¬18+i=17:=by omega
 have e5:18+i<22:=by omega
 have e6:18+i-18=i:=by omega
 simp only [img,e1,e2,e3,e4,e5,e6,if_true,if_false]
theorem tC:img pv vt s 22=.int .i64 s.clock:=by simp [img]
theorem rS (i c:Nat) (h:i<8) (hc:c<4):img pv vt s (23+i*4+c)=mS (s.tim i) c:=by
 have e1:¬23+i*4+c<4:=by omega
 have e2:¬23+i*4+c<16:=by omega
 have e3:¬23+i*4+c=16:=by omega
 have e4:¬23+i*4+c=17:=by omega
 have e5:¬23+i*4+c<22:=by omega
 have e6:¬23+i*4+c=22:=by omega
 have e7:23+i*4+c<55:=by omega
 have e8:(23+i*4+c-23) / 4=i:=by omega
 have e9:(23+i*4+c-23) % 4=c:=by omega
 simp only [img,e1,e2,e3,e4,e5,e6,e7,e8,e9,if_true,if_false]
theorem rG:img pv vt s 55=.int .i64 s.armings:=by simp [img]
theorem pB (i:Nat) (h:i<8):img pv vt s (56+i)=.bool (s.wat i):=by
 have e1:¬56+i<4:=by omega
 have e2:¬56+i<16:=by omega
 have e3:¬56+i=16:=by omega
 have e4:¬56+i=17:=by omega
 have e5:¬56+i<22:=by omega
 have e6:¬56+i=22:=by omega
 have e7:¬56+i<55:=by omega
 have e8:¬56+i=55:=by omega
 have e9:56+i<64:=by omega
 have e0:56+i-56=i:=by omega
 simp only [img,e1,e2,e3,e4,e5,e6,e7,e8,e9,e0,if_true,if_false]
theorem pG:img pv vt s 64=vt:=by simp [img]
theorem qA:img pv vt s 65=.int .i64 s.heard:=by simp [img]
theorem sI:img pv vt s 66=.int .i64 s.fin:=by simp [img]
end
def upd {α:Type} (f:Nat->α) (i:Nat) (v:α):Nat->α:=fun j=>if j=i then v else f j
theorem idx (j:Nat) (h:j<67):j<4\/(∃i,i<12/\j=4+i)\/j=16\/j=17\/(∃i,i<4/\j=18+i)\/j=22\/(∃i c,i<8/\c<4/\j=23+i*4+c)\/j=55\/(∃i,i<8/\j=56+i)\/j=64\/j=65\/j=66:=by
 by_cases h1:j<4
 ·exact .inl h1
 by_cases h2:j<16
 ·exact .inr (.inl ⟨j-4,by omega,by omega⟩)
 by_cases h3:j=16
 ·exact .inr (.inr (.inl h3))
 by_cases h4:j=17
 ·exact .inr (.inr (.inr (.inl h4)))
 by_cases h5:j<22
 ·exact .inr (.inr (.inr (.inr (.inl ⟨j-18,by omega,by omega⟩))))
 by_cases h6:j=22
 ·exact .inr (.inr (.inr (.inr (.inr (.inl h6)))))
 by_cases h7:j<55
 ·exact .inr (.inr (.inr (.inr (.inr (.inr (.inl ⟨(j-23) / 4,(j-23) % 4,by omega,by omega,by omega⟩))))))
 by_cases h8:j=55
 ·exact .inr (.inr (.inr (.inr (.inr (.inr (.inr (.inl h8)))))))
 by_cases h9:j<64
 ·exact .inr (.inr (.inr (.inr (.inr (.inr (.inr (.inr (.inl ⟨j-56,by omega,by omega⟩))))))))
 by_cases h10:j=64
 ·exact .inr (.inr (.inr (.inr (.inr (.inr (.inr (.inr (.inr (.inl h10)))))))))
 by_cases h11:j=65
 ·exact .inr (.inr (.inr (.inr (.inr (.inr (.inr (.inr (.inr (.inr (.inl h11))))))))))
 ·exact .inr (.inr (.inr (.inr (.inr (.inr (.inr (.inr (.inr (.inr (.inr (by omega)))))))))))
theorem qH (pv:Nat->Value) (vt:Value) (s s':PS) (k:Nat) (v:Value) (hk:img pv vt s' k=v) (h16:k≠16->s'.fuel=s.fuel) (h17:k≠17->s'.next=s.next) (hreg:∀i,i<4->k≠18+i->s'.reg i=s.reg i)
  (h22:k≠22->s'.clock=s.clock) (htim:∀i c,i<8->c<4->k≠23+i*4+c->mS (s'.tim i) c=mS (s.tim i) c) (h55:k≠55->s'.armings=s.armings) (hwat:∀i,i<8->k≠56+i->s'.wat i=s.wat i)
  (h65:k≠65->s'.heard=s.heard) (h66:k≠66->s'.fin=s.fin) (j:Nat) (hj:j<67):img pv vt s' j=yV (img pv vt s) k v j:=by
 unfold yV
 by_cases e:j=k
 ·subst e;rw [if_pos rfl];exact hk
 rw [if_neg e]
 rcases idx j hj with h | ⟨i,hi,rfl⟩ | rfl | rfl | ⟨i,hi,rfl⟩ | rfl | ⟨i,c,hi,hc,rfl⟩ | rfl | ⟨i,hi,rfl⟩ | rfl | rfl | rfl
 ·rw [jA _ _ _ _ h,jA _ _ _ _ h]
 ·rw [jX _ _ _ _ hi,jX _ _ _ _ hi]
 ·rw [nF,nF,h16 (Ne.symm e)]
 ·rw [pS,pS,h17 (Ne.symm e)]
 ·rw [tX _ _ _ _ hi,tX _ _ _ _ hi,hreg i hi (Ne.symm e)]
 ·rw [tC,tC,h22 (Ne.symm e)]
 ·rw [rS _ _ _ _ _ hi hc,rS _ _ _ _ _ hi hc,htim i c hi hc (Ne.symm e)]
 ·rw [rG,rG,h55 (Ne.symm e)]
 ·rw [pB _ _ _ _ hi,pB _ _ _ _ hi,hwat i hi (Ne.symm e)]
 ·rw [pG,pG]
 ·rw [qA,qA,h65 (Ne.symm e)]
 ·rw [sI,sI,h66 (Ne.symm e)]
section
variable (pv:Nat->Value) (vt:Value) (s:PS)
theorem fX (i:Nat) (v:Int) (h:i<4):∀j,j<67->img pv vt {s with reg:=upd s.reg i v} j=yV (img pv vt s) (18+i) (.int .i64 v) j:=
 qH _ _ _ _ _ _ (by rw [tX _ _ _ _ h];simp [upd]) (fun _=>rfl) (fun _=>rfl) (fun j _ hne=>by simp only [upd];rw [if_neg (by omega)]) (fun _=>rfl) (fun _ _ _ _ _=>rfl) (fun _=>rfl) (fun _ _ _=>rfl) (fun _=>rfl) (fun _=>rfl)
theorem zT3 (i:Nat) (v:Bool) (h:i<8):∀j,j<67->img pv vt {s with wat:=upd s.wat i v} j=yV (img pv vt s) (56+i) (.bool v) j:=
 qH _ _ _ _ _ _ (by rw [pB _ _ _ _ h];simp [upd]) (fun _=>rfl) (fun _=>rfl) (fun _ _ _=>rfl) (fun _=>rfl) (fun _ _ _ _ _=>rfl) (fun _=>rfl) (fun j _ hne=>by simp only [upd];rw [if_neg (by omega)]) (fun _=>rfl) (fun _=>rfl)
theorem yJ7 (v:Int):∀j,j<67->img pv vt {s with fuel:=v} j=yV (img pv vt s) 16 (.int .i64 v) j:=
 qH _ _ _ _ _ _ (by rw [nF]) (fun h=>absurd rfl h) (fun _=>rfl) (fun _ _ _=>rfl) (fun _=>rfl) (fun _ _ _ _ _=>rfl) (fun _=>rfl) (fun _ _ _=>rfl) (fun _=>rfl) (fun _=>rfl)
theorem cD (v:Int):∀j,j<67->img pv vt {s with next:=v} j=yV (img pv vt s) 17 (.int .i64 v) j:=
 qH _ _ _ _ _ _ (by rw [pS]) (fun _=>rfl) (fun h=>absurd rfl h) (fun _ _ _=>rfl) (fun _=>rfl) (fun _ _ _ _ _=>rfl) (fun _=>rfl) (fun _ _ _=>rfl) (fun _=>rfl) (fun _=>rfl)
theorem yA5 (v:Int):∀j,j<67->img pv vt {s with clock:=v} j=yV (img pv vt s) 22 (.int .i64 v) j:=
 qH _ _ _ _ _ _ (by rw [tC]) (fun _=>rfl) (fun _=>rfl) (fun _ _ _=>rfl) (fun h=>absurd rfl h) (fun _ _ _ _ _=>rfl) (fun _=>rfl) (fun _ _ _=>rfl) (fun _=>rfl) (fun _=>rfl)
theorem zI4 (v:Int):∀j,j<67->img pv vt {s with armings:=v} j=yV (img pv vt s) 55 (.int .i64 v) j:=
 qH _ _ _ _ _ _ (by rw [rG]) (fun _=>rfl) (fun _=>rfl) (fun _ _ _=>rfl) (fun _=>rfl) (fun _ _ _ _ _=>rfl) (fun h=>absurd rfl h) (fun _ _ _=>rfl) (fun _=>rfl) (fun _=>rfl)
theorem yA6 (v:Int):∀j,j<67->img pv vt {s with heard:=v} j=yV (img pv vt s) 65 (.int .i64 v) j:=
 qH _ _ _ _ _ _ (by rw [qA]) (fun _=>rfl) (fun _=>rfl) (fun _ _ _=>rfl) (fun _=>rfl) (fun _ _ _ _ _=>rfl) (fun _=>rfl) (fun _ _ _=>rfl) (fun h=>absurd rfl h) (fun _=>rfl)
theorem iH (v:Int):∀j,j<67->img pv vt {s with fin:=v} j=yV (img pv vt s) 66 (.int .i64 v) j:=
 qH _ _ _ _ _ _ (by rw [sI]) (fun _=>rfl) (fun _=>rfl) (fun _ _ _=>rfl) (fun _=>rfl) (fun _ _ _ _ _=>rfl) (fun _=>rfl) (fun _ _ _=>rfl) (fun _=>rfl) (fun h=>absurd rfl h)
theorem aG (i:Nat) (v:Bool) (h:i<8):∀j,j<67->img pv vt {s with tim:=upd s.tim i (v,(s.tim i).2)} j=yV (img pv vt s) (23+i*4) (.bool v) j:=
 qH _ _ _ _ _ _ (by have:=rS pv vt {s with tim:=upd s.tim i (v,(s.tim i).2)} i 0 h (by omega);rw [Nat.add_zero] at this;rw [this];simp [upd,mS]) (fun _=>rfl) (fun _=>rfl) (fun _ _ _=>rfl) (fun _=>rfl) (fun j c hj hc hne=>by
  by_cases e:j=i
  ·subst e
   have hc0:c≠0:=by omega
   simp [upd,mS,hc0]
  ·simp [upd,e]) (fun _=>rfl) (fun _ _ _=>rfl) (fun _=>rfl) (fun _=>rfl)
end
