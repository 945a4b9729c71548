/-
  PROVED HERE: what a script looks like in memory, its worlds w
-/
import Derived.Test.YtfmbebofllgmoaaGreatDoorSreplaysbm
import Derived.Test.YtfmbebofllgmoaaGreatDoorSreplaysbn
import Derived.Test.YtfmbebofllgmoaaGreatDoorSreplaysbr
set_option maxHeartbeats 1000000
namespace Go.Proofs.YtfmbebofllgmoaaGreatDoor
open Go.ChangeShapes Go.WideShapes Go.ChangeAt Go.RowKit Go.Deep
def yI7 (N:Nat) (w:World) (b o:Nat):Prop:=
 ∃(kd:Int) (p1 p2 p3 p4 p5 p6 p7:Option Addr) (n1 c1 n2 c2 n3 c3 n4 c4 n5 c5 n6 c6 n7 c7:Nat) (lg:ByteArray) (fu:Int) (p:Pg) (lc:List Int) (bs:List (Value×List Int)) (lp ll:List Int),
  (w.cell? ⟨b,o,none⟩=some (.int .i64 kd)/\w.cell? ⟨b,o+1,none⟩=some (.slice p1 n1 c1)/\w.cell? ⟨b,o+2,none⟩=some (.slice p2 n2 c2)/\w.cell? ⟨b,o+3,none⟩=some (.slice p3 n3 c3)/\w.cell? ⟨b,o+4,none⟩=some (.slice p4 n4 c4)/\
   w.cell? ⟨b,o+5,none⟩=some (.slice p5 n5 c5)/\w.cell? ⟨b,o+6,none⟩=some (.slice p6 n6 c6)/\w.cell? ⟨b,o+7,none⟩=some (.slice p7 n7 c7)/\w.cell? ⟨b,o+8,none⟩=some (.string lg)/\w.cell? ⟨b,o+9,none⟩=some (.int .i64 fu))/\
  oI w (oQ (.slice p1 n1 c1) (.slice p2 n2 c2) (.slice p3 n3 c3) undef) p/\oA w (.slice p4 n4 c4) (.slice p5 n5 c5) (.slice p6 n6 c6) (.slice p7 n7 c7) lc bs lp ll/\lc.length+bs.length+lp.length+ll.length<=N/\lg.size<=N
def jX (N:Nat) (w:World) (v:Value) (n:Nat):Prop:=
 ∃a c,v=.slice a n c/\n<=N/\(n=0\/∃b off,a=some ⟨b,off,none⟩/\∀i,i<n->yI7 N w b (off+i*10))
section
variable {H:Type} {enc:TypeId×Value->H} {w:World} {spare:Nat->Bool} {held:Bool}
theorem nL {fuel:Nat} {cs:List Value} {x:DataW H×List MemPlace} (h:DataW.trod enc Tryz.prog w 0 spare held fuel 26 cs=some x) :
  ∃v l,cs=[v]/\vO w v l (fun q=>q<w.heap.size)/\l.length<=Rows.uptoBulk x.1:=by
 rcases open_slice Tryz.underlying26 h with ⟨rfl,rfl⟩ | ⟨a,len,cap,m,n,D,Pl,rfl,_,hlc,_,hm,rfl,hx⟩
 ·exact⟨_,[],rfl,⟨none,0,rfl,Nat.le_refl _,.inl rfl⟩,Nat.zero_le _⟩
 have hml:len<=m:=by rw [hm];split<;>omega
 rw [kc3] at hx
 have hall:∀i,i<len->∃z:Int,w.cells? 0 (a.add (i*1)) 1=some [.int .i64 z]:=by
  intro i hi
  obtain⟨cs',h1,h2⟩:=hx i (by omega)
  obtain⟨z,rfl,_,hw⟩:=DataW.trod_int Tryz.underlying3 h2
  exact⟨z,h1⟩
 obtain⟨f,hf⟩:=choose_lt (α:=Int) hall
 refine⟨_,(List.range len).map f,rfl,⟨some a,cap,by simp,by simpa using hlc,?_⟩,?_⟩
 ·by_cases h0:len=0
  ·left;subst h0;rfl
  right
  obtain⟨b,off,rfl⟩:=yD7 (hf 0 (by omega)) (by omega)
  have key:∀i,i<len->w.cell? ⟨b,off+i,none⟩=some (.int .i64 (f i)):=fun i hi=>by
   obtain⟨_,_,hc⟩:=World.cells?_some (hf i hi)
   rw [Go.WideShapes.add_plain] at hc
   have g0:=hc 0 (by omega)
   rw [Go.WideShapes.add_plain] at g0
   simpa using g0
  refine⟨b,off,rfl,zU w _ (key 0 (by omega)),fun i hi=>?_⟩
  have hi':i<len:=by simpa using hi
  rw [key i hi']
  simp [List.getD,hi']
 ·have h1:=jZ ((List.range len).map D) ((List.range (m-len)).map fun j=>D (len+j))
  simp only [List.length_map,List.length_range] at h1 ⊢
  omega
theorem zJ0 {fuel:Nat} {cs:List Value} {x:DataW H×List MemPlace} (h:DataW.trod enc Tryz.prog w 0 spare held fuel 27 cs=some x) :
  ∃v,∃l:List (Value×List Int),cs=[v]/\uJ w v (l.map (·.1)) (fun q=>q<w.heap.size)/\(∀b,b∈l->yJ w b.1 b.2 (fun q=>q<w.heap.size)/\b.2.length<=Rows.uptoBulk x.1)/\l.length<=Rows.uptoBulk x.1:=by
 rcases open_slice1 Tryz.underlying27 kc26 h with ⟨rfl,rfl⟩ | ⟨a,len,cap,m,n,V,D,Pl,rfl,_,hlc,_,hm,rfl,hx⟩
 ·exact⟨_,[],rfl,⟨none,0,rfl,Nat.le_refl _,.inl rfl⟩,fun b hb=>(List.not_mem_nil hb).elim,Nat.zero_le _⟩
 have hml:len<=m:=by rw [hm];split<;>omega
 have hall:∀i,i<len->∃l:List Int,yJ w (V i) l (fun q=>q<w.heap.size)/\l.length<=Rows.uptoBulk (D i):=by
  intro i hi
  obtain⟨_,h2⟩:=hx i (by omega)
  obtain⟨v,l,e,ho,h3⟩:=nL h2
  simp only [List.cons.injEq,and_true] at e
  subst e
  exact⟨l,ho.ints,h3⟩
 obtain⟨L,hL⟩:=choose_lt (α:=List Int) hall
 refine⟨_,(List.range len).map (fun i=>(V i,L i)),rfl,⟨some a,cap,by simp,by simpa using hlc,?_⟩,fun b hb=>?_,?_⟩
 ·by_cases h0:len=0
  ·left;subst h0;rfl
  right
  obtain⟨b,off,spot⟩:=a
  have hspot:spot=none:=by simpa [Addr.add] using World.cell?_spot (hx 0 (by omega)).1
  subst hspot
  have key:∀i,i<len->w.cell? ⟨b,off+i,none⟩=some (V i):=fun i hi=>by
   rw [<-Go.WideShapes.add_plain]
   exact(hx i (by omega)).1
  refine⟨b,off,rfl,zU w _ (key 0 (by omega)),fun i hi=>?_⟩
  have hi':i<len:=by simpa using hi
  rw [key i hi']
  simp [List.getD,hi']
 ·obtain⟨i,hi,rfl⟩:=List.mem_map.1 hb
  have hi':=List.mem_range.1 hi
  refine⟨(hL i hi').1,Nat.le_trans (hL i hi').2 ?_⟩
  have h1:Rows.uptoBulk (D i)<=Rows.uptoBulkAll ((List.range len).map D):=mC (List.mem_map.2 ⟨i,hi,rfl⟩)
  have h2:Rows.uptoBulkAll ((List.range len).map D)<=Rows.uptoBulk (DataW.slice ((List.range len).map D) ((List.range (m-len)).map fun j=>D (len+j))):=by simp only [Rows.uptoBulk];omega
  exact Nat.le_trans h1 h2
 ·have h1:=jZ ((List.range len).map D) ((List.range (m-len)).map fun j=>D (len+j))
  simp only [List.length_map,List.length_range] at h1 ⊢
  omega
theorem zJ1 {fuel:Nat} {cs:List Value} {x:DataW H×List MemPlace} (h:DataW.trod enc Tryz.prog w 0 spare held fuel 67 cs=some x) (hw:Wt 67 x.1) (hN:Rows.uptoBulk x.1<=1048576) :
  ∃(kd:Int) (p1 p2 p3 p4 p5 p6 p7:Option Addr) (n1 c1 n2 c2 n3 c3 n4 c4 n5 c5 n6 c6 n7 c7:Nat) (lg:ByteArray) (fu:Int) (p:Pg) (lc:List Int) (bs:List (Value×List Int)) (lp ll:List Int),
   cs=[.int .i64 kd,.slice p1 n1 c1,.slice p2 n2 c2,.slice p3 n3 c3,.slice p4 n4 c4,.slice p5 n5 c5,.slice p6 n6 c6,.slice p7 n7 c7,.string lg,.int .i64 fu]/\
   oI w (oQ (.slice p1 n1 c1) (.slice p2 n2 c2) (.slice p3 n3 c3) undef) p/\oA w (.slice p4 n4 c4) (.slice p5 n5 c5) (.slice p6 n6 c6) (.slice p7 n7 c7) lc bs lp ll/\lc.length+bs.length+lp.length+ll.length<=Rows.uptoBulk x.1/\lg.size<=Rows.uptoBulk x.1:=by
 obtain⟨xs,n,_,rfl,hl,hlen,hf⟩:=DataW.trod_struct Tryz.underlying67 h
 rw [zO9] at hl
 obtain⟨z0,z1,z2,z3,z4,rfl⟩:=list5 hlen
 have f0:DataW.trod enc Tryz.prog w 0 spare held n 3 ((cs.drop 0).take (Tryz.prog.cellsOf 3))=some z0:=hf 0 _ rfl
 have f1:DataW.trod enc Tryz.prog w 0 spare held n 33 ((cs.drop 1).take (Tryz.prog.cellsOf 33))=some z1:=hf 1 _ rfl
 have f2:DataW.trod enc Tryz.prog w 0 spare held n 29 ((cs.drop 4).take (Tryz.prog.cellsOf 29))=some z2:=hf 2 _ rfl
 have f3:DataW.trod enc Tryz.prog w 0 spare held n 9 ((cs.drop 8).take (Tryz.prog.cellsOf 9))=some z3:=hf 3 _ rfl
 have f4:DataW.trod enc Tryz.prog w 0 spare held n 3 ((cs.drop 9).take (Tryz.prog.cellsOf 3))=some z4:=hf 4 _ rfl
 rw [yA9] at f0 f4
 rw [yJ8] at f1
 rw [yK1] at f2
 rw [cells9] at f3
 obtain⟨k0,k1,k2,k3,k4,k5,k6,k7,k8,k9,rfl⟩:=list10 hl
 simp at f0 f1 f2 f3 f4
 obtain⟨kd,e0,_,_⟩:=DataW.trod_int Tryz.underlying3 f0
 obtain⟨fu,e4,_,_⟩:=DataW.trod_int Tryz.underlying3 f4
 obtain⟨lg,e3,hx3,_⟩:=DataW.trod_string Tryz.underlying9 f3
 obtain⟨y0,y1,y2,n',hz1,_,g0,g1,g2⟩:=trod_struct3 Tryz.underlying33 f1
 simp only [zO8,yJ7] at g0 g1 g2
 simp at g0 g1 g2
 obtain⟨u0,u1,u2,u3,n'',hz2,_,q0,q1,q2,q3⟩:=Go.Joins.trod_struct4 Tryz.underlying29 f2
 simp only [yJ9,yK0] at q0 q1 q2 q3
 simp at q0 q1 q2 q3
 have hw1:Wt 33 z1.1:=hw.field (j:=1) Tryz.underlying67 rfl rfl
 rw [hz1] at hw1
 have w0:Wt 31 y0.1:=hw1.field (j:=0) Tryz.underlying33 rfl rfl
 have w1:Wt 25 y1.1:=hw1.field (j:=1) Tryz.underlying33 rfl rfl
 have w2:Wt 25 y2.1:=hw1.field (j:=2) Tryz.underlying33 rfl rfl
 obtain⟨v1,ns,s,a1,o1⟩:=zC6 g0 w0
 obtain⟨v2,nt,tl,t,a2,o2⟩:=fV g1 w1
 obtain⟨v3,nf,fl,f,a3,o3⟩:=fV g2 w2
 obtain⟨v4,lc,a4,i4,m4⟩:=nL q0
 obtain⟨v5,bs,a5,i5,ib,m5⟩:=zJ0 q1
 obtain⟨v6,lp,a6,i6,m6⟩:=nL q2
 obtain⟨v7,ll,a7,i7,m7⟩:=nL q3
 simp only [List.cons.injEq,and_true] at e0 e3 e4 a1 a2 a3 a4 a5 a6 a7
 subst e0 e3 e4 a1 a2 a3 a4 a5 a6 a7
 have hall:Rows.uptoBulk (DataW.agg [z0.1,z1.1,z2.1,z3.1,z4.1])=Rows.uptoBulkAll [z0.1,z1.1,z2.1,z3.1,z4.1]+1:=by simp only [Rows.uptoBulk];try omega
 have hb2:Rows.uptoBulk z2.1<=Rows.uptoBulkAll [z0.1,z1.1,z2.1,z3.1,z4.1]:=mC (by simp)
 have hb3:Rows.uptoBulk z3.1<=Rows.uptoBulkAll [z0.1,z1.1,z2.1,z3.1,z4.1]:=mC (by simp)
 have hz3:Rows.uptoBulk z3.1=lg.size+1:=by rw [hx3];simp [Rows.uptoBulk]
 have hu:Rows.uptoBulk u0.1+Rows.uptoBulk u1.1+Rows.uptoBulk u2.1+Rows.uptoBulk u3.1<=Rows.uptoBulk z2.1:=by
  have e:Rows.uptoBulk (DataW.agg [u0.1,u1.1,u2.1,u3.1])=Rows.uptoBulkAll [u0.1,u1.1,u2.1,u3.1]+1:=by simp only [Rows.uptoBulk];try omega
  rw [hz2,e]
  simp only [Rows.uptoBulkAll]
  omega
 change Rows.uptoBulk (DataW.agg [z0.1,z1.1,z2.1,z3.1,z4.1])<=_ at hN
 obtain⟨a1,c1,rfl,o1'⟩:=id o1
 obtain⟨a2,c2,rfl,o2'⟩:=id o2
 obtain⟨a3,c3,rfl,o3'⟩:=id o3
 obtain⟨a4,c4,rfl,i4'⟩:=id i4
 obtain⟨a5,c5,rfl,i5'⟩:=id i5
 obtain⟨a6,c6,rfl,i6'⟩:=id i6
 obtain⟨a7,c7,rfl,i7'⟩:=id i7
 refine⟨kd,a1,a2,a3,a4,a5,a6,a7,_,c1,_,c2,_,c3,_,c4,_,c5,_,c6,_,c7,lg,fu,⟨ns,s,nt,tl,t,nf,fl,f⟩,lc,bs,lp,ll,rfl,⟨o1,o2,o3⟩,⟨i4,i5,i6,i7,fun b hb=>⟨(ib b hb).1,?_⟩,?_,?_,?_,?_⟩,?_,?_⟩
 ·have:=(ib b hb).2;omega
 ·omega
 ·omega
 ·omega
 ·omega
 ·show _<=Rows.uptoBulk (DataW.agg [z0.1,z1.1,z2.1,z3.1,z4.1]);omega
 ·show _<=Rows.uptoBulk (DataW.agg [z0.1,z1.1,z2.1,z3.1,z4.1]);omega
theorem bY {fuel:Nat} {cs:List Value} {x:DataW H×List MemPlace} (h:DataW.trod enc Tryz.prog w 0 spare held fuel 22 cs=some x) (hw:Wt 22 x.1) (hN:Rows.uptoBulk x.1<=1048576):∃v n,cs=[v]/\jX (Rows.uptoBulk x.1) w v n:=by
 rcases open_slice Tryz.underlying22 h with ⟨rfl,rfl⟩ | ⟨a,len,cap,m,n,D,Pl,rfl,_,hlc,_,hm,rfl,hx⟩
 ·exact⟨_,0,rfl,none,0,rfl,Nat.zero_le _,.inl rfl⟩
 have hml:len<=m:=by rw [hm];split<;>omega
 have hbk:=jZ ((List.range len).map D) ((List.range (m-len)).map fun j=>D (len+j))
 simp only [List.length_map,List.length_range] at hbk
 have hb':len<=Rows.uptoBulk (DataW.slice ((List.range len).map D) ((List.range (m-len)).map fun j=>D (len+j))):=by omega
 rw [zO9] at hx
 refine⟨_,len,rfl,some a,cap,rfl,hb',?_⟩
 by_cases h0:len=0
 ·exact .inl h0
 right
 have ha:∃b off,a=⟨b,off,none⟩:=by
  obtain⟨cs',h1,_⟩:=hx 0 (by omega)
  rw [Nat.zero_mul] at h1
  exact zO6 h1 (by omega)
 obtain⟨b,off,rfl⟩:=ha
 refine⟨b,off,rfl,fun i hi=>?_⟩
 obtain⟨cs',h1,h2⟩:=hx i (by omega)
 have hwi:Wt 67 (D i):=hw.elem Tryz.underlying22 (List.mem_map.2 ⟨i,List.mem_range.2 hi,rfl⟩)
 have hle:Rows.uptoBulk (D i)<=Rows.uptoBulk (DataW.slice ((List.range len).map D) ((List.range (m-len)).map fun j=>D (len+j))):=by
  have h1:Rows.uptoBulk (D i)<=Rows.uptoBulkAll ((List.range len).map D):=mC (List.mem_map.2 ⟨i,List.mem_range.2 hi,rfl⟩)
  have h2:Rows.uptoBulkAll ((List.range len).map D)<=Rows.uptoBulk (DataW.slice ((List.range len).map D) ((List.range (m-len)).map fun j=>D (len+j))):=by simp only [Rows.uptoBulk];omega
  exact Nat.le_trans h1 h2
 obtain⟨kd,p1,p2,p3,p4,p5,p6,p7,n1,c1,n2,c2,n3,c3,n4,c4,n5,c5,n6,c6,n7,c7,lg,fu,p,lc,bs,lp,ll,rfl,o1,o2,o3,hlg⟩:=zJ1 h2 hwi (Nat.le_trans hle hN)
 obtain⟨_,_,hc⟩:=World.cells?_some h1
 rw [Go.WideShapes.add_plain] at hc
 have hc':∀j,j<10->w.cell? ⟨b,off+i*10+j,none⟩=([.int .i64 kd,.slice p1 n1 c1,.slice p2 n2 c2,.slice p3 n3 c3,.slice p4 n4 c4,.slice p5 n5 c5,.slice p6 n6 c6,.slice p7 n7 c7,.string lg,.int .i64 fu]:List Value)[j]?:=fun j hj=>by rw [<-Go.WideShapes.add_plain];exact hc j hj
 exact⟨kd,p1,p2,p3,p4,p5,p6,p7,n1,c1,n2,c2,n3,c3,n4,c4,n5,c5,n6,c6,n7,c7,lg,fu,p,lc,bs,lp,ll,
  ⟨by exact hc' 0 (by omega),by exact hc' 1 (by omega),by exact hc' 2 (by omega),by exact hc' 3 (by omega),by exact hc' 4 (by omega),by exact hc' 5 (by omega),by exact hc' 6 (by omega),by exact hc' 7 (by omega),by exact hc' 8 (by omega),by exact hc' 9 (by omega)⟩,o1,o2,Nat.le_trans o3 hle,Nat.le_trans hlg hle⟩
end
end Go.Proofs.YtfmbebofllgmoaaGreatDoor
namespace Go.Proofs.YtfmbebofllgmoaaGreatDoor
open Go.RowKit
attribute [local go_sem ↓] Go.wp_at_zero Go.wp_at_succ
def nV (wr:World) (B k:Nat):Prop:=∃n vI vE vN LI LE LN K,rH wr B B n vI vE vN LI LE LN K/\2*LI.length<=1048576*k/\LE.length<=2*k/\LN.length<=k
theorem nV.fr {w W:World} {B k:Nat} (h:nV w B k) (hf:Fr (fun _=>False) w W (fun _=>False)):nV W B k:=by
 obtain⟨n,vI,vE,vN,LI,LE,LN,K,h1,h2⟩:=h
 exact⟨n,vI,vE,vN,LI,LE,LN,K,h1.fr hf,h2⟩
theorem nV.more {w:World} {B k:Nat} (h:nV w B k):nV w B (k+1):=by
 obtain⟨n,vI,vE,vN,LI,LE,LN,K,h1,h2,h3,h4⟩:=h
 exact⟨n,vI,vE,vN,LI,LE,LN,K,h1,by omega,by omega,by omega⟩
theorem zS5 (w:World):nV (w.alloc (.cells #[.int .i64 0,.slice none 0 0,.slice none 0 0,.slice none 0 0] 65)) w.heap.size 0:=
 ⟨0,_,_,_,[],[],[],fun _=>False,⟨⟨heap_alloc_new _ _,zX _ _ _ _,zX _ _ _ _,zX _ _ _ _,fun _ h=>absurd h (by simp),fun _ h=>absurd h (by simp),fun _ h=>absurd h (by simp)⟩,fun _ h=>absurd h (by simp),fun _ h=>absurd h (by simp),fun _ h=>absurd h (by simp),fun _ h=>h.elim⟩,by simp,by simp,by simp⟩
theorem nV.looks {W:World} {B k:Nat} (h:nV W B k) (hk:k<=1048577):Calls Tryz.prog 24 #[.pointer (some ⟨B,0,none⟩)] W fun e w'=>e=.returned (.bool true)/\Fr (fun _=>False) W w' (fun _=>False):=by
 obtain⟨n,vI,vE,vN,LI,LE,LN,K,h1,h2,h3,h4⟩:=h
 exact zU7 h1.bk (by omega) (by omega) (by omega)
structure StepD (N:Nat) (w0:World) (p1 p2 p3 q0 q1 q2 q3:Value) (lg:ByteArray) (p:Pg) (lc:List Int) (bs:List (Value×List Int)) (lp ll:List Int):Prop where
 pg:oI w0 (oQ p1 p2 p3 undef) p
 wo:oA w0 q0 q1 q2 q3 lc bs lp ll
 sum:lc.length+bs.length+lp.length+ll.length<=N
 lgn:lg.size<=N
def Steps (lo hi:Int) (w0:World):Prop:=
 ∀(W:World) (k:Nat) (kd:Int) (p1 p2 p3 q0 q1 q2 q3:Value) (lg:ByteArray) (fu:Int) (p:Pg) (lc:List Int) (bs:List (Value×List Int)) (lp ll:List Int),k<=1048576->nV W w0.heap.size k->Below w0.heap.size w0 W->StepD 1048576 w0 p1 p2 p3 q0 q1 q2 q3 lg p lc bs lp ll->lo<=kd->kd<=hi->
  Calls Tryz.prog 23 #[.pointer (some ⟨w0.heap.size,0,none⟩),.agg #[.int .i64 kd,p1,p2,p3,q0,q1,q2,q3,.string lg,.int .i64 fu]] W fun e w'=>e=.returned (.bool true)/\Below w0.heap.size W w'/\nV w' w0.heap.size (k+1)
theorem yH8 {N:Nat} (hN:N<=1048576) {lo hi:Int} (v:Value) (n:Nat) (w:World) (hst:Steps lo hi w) (hv:jX N w v n) :
  Calls Tryz.prog 12 #[v,.int .i64 lo,.int .i64 hi] w fun e w'=>e=.returned (.bool true)/\Below w.heap.size w w':=by
 obtain⟨a,c,rfl,hn,hf⟩:=hv
 have HF:=zZ hf
 have HST:=zZ (zS5 w)
 have HSS:=zZ hst
 clear hf hst
 go_enter Tryz.func12,Tryz.ntmps12
 go_wp2
 go_loopw [8] (fun i wr=>∃k:Nat,k<=n/\i=.int .i64 k/\Below w.heap.size w wr/\w.heap.size<wr.heap.size/\Hid (nV wr w.heap.size k)) (fun i _=>n-(intOf i).toNat)
 case atStart=>exact⟨0,Nat.zero_le _,rfl,(Below.refl _ _).alloc (Nat.le_refl _) _,by simp,HST⟩
 case round=>
  obtain⟨k,hk,rfl,hb,hsz,hbk⟩:=hrel
  by_cases hlt:k<n
  ·rcases zY HF with hz | ⟨b,off,rfl,hf⟩
   ·omega
   obtain⟨kd,p1,p2,p3,p4,p5,p6,p7,n1,c1,n2,c2,n3,c3,n4,c4,n5,c5,n6,c6,n7,c7,lg,fu,p,lc,bs,lp,ll,⟨d0,d1,d2,d3,d4,d5,d6,d7,d8,d9⟩,hpg,hwo,hsum,hlg⟩:=hf k hlt
   have hlb:b<w.heap.size:=zU _ _ d0
   rw [<-vD hb b _ hlb] at d0 d1 d2 d3 d4 d5 d6 d7 d8 d9
   have hlb':b<wr.heap.size:=by have:=hb.size;omega
   clear hf
   obtain⟨W1,hW⟩ : ∃W1,W1=wr.alloc (.cells #[.int .i64 kd,.slice p1 n1 c1,.slice p2 n2 c2,.slice p3 n3 c3,.slice p4 n4 c4,.slice p5 n5 c5,.slice p6 n6 c6,.slice p7 n7 c7,.string lg,.int .i64 fu] 67):=⟨_,rfl⟩
   have fr1:Fr (fun _=>False) wr W1 (fun _=>False):=by subst hW;exact(Fr.refl _ _).alloc _
   have hb1:Below w.heap.size w W1:=hb.trans (fr1.below (fun k hk=>hk.elim) (Nat.le_of_lt hsz))
   have hsw:w.heap.size<W1.heap.size:=zT hsz fr1.size
   have hbk1:=(zY hbk).fr fr1
   by_cases hk1:lo<=kd
   ·by_cases hk2:kd<=hi
    ·have HP:=zZ (zY HSS W1 k kd _ _ _ _ _ _ _ lg fu p lc bs lp ll (by omega) hbk1 hb1 ⟨hpg,hwo,by omega,by omega⟩ hk1 hk2)
     have HW:=zZ hW
     have HB1:=zZ hb1
     clear hW hbk hbk1 fr1 hb1 hpg hwo hsum
     go_wp2_with fail
     rw [<-zY HW]
     refine(zY HP).mono ?_
     rintro e w2 ⟨rfl,hb2,hbk2⟩
     have HL:=zZ (hbk2.looks (by omega))
     have HBK:=zZ hbk2
     have HB2:=zZ ((zY HB1).trans hb2)
     have hs2:w.heap.size<w2.heap.size:=zT hsw hb2.size
     clear HP HW hb2 hbk2 HB1
     go_wp2_with fail
     refine(zY HL).mono ?_
     rintro e w3 ⟨rfl,f3⟩
     have HBK3:=zZ ((zY HBK).fr f3)
     have hb3:Below w.heap.size w w3:=(zY HB2).trans (f3.below (fun k hk=>hk.elim) (Nat.le_of_lt hs2))
     have hs3:w.heap.size<w3.heap.size:=zT hs2 f3.size
     clear HL f3 HBK HB2
     go_wp2
     go_roundw
     case rel=>exact⟨k+1,by omega,by go_num,hb3,hs3,HBK3⟩
     case measure=>simp [intOf];omega
    ·have HM:=zZ hbk1.more
     have HW:=zZ hW
     clear hW hbk hbk1 fr1 hpg hwo hsum
     go_wp2
     rw [<-zY HW]
     go_roundw
     case rel=>exact⟨k+1,by omega,by go_num,hb1,hsw,HM⟩
     case measure=>simp [intOf];omega
   ·have HM:=zZ hbk1.more
    have HW:=zZ hW
    clear hW hbk hbk1 fr1 hpg hwo hsum
    go_wp2
    rw [<-zY HW]
    go_roundw
    case rel=>exact⟨k+1,by omega,by go_num,hb1,hsw,HM⟩
    case measure=>simp [intOf];omega
  ·go_wp2
   go_ret
   exact⟨rfl,hb⟩
theorem zA6 {w0:World} (ht:pV w0):Steps 4 5 w0:=by
 intro W k kd p1 p2 p3 q0 q1 q2 q3 lg fu p lc bs lp ll hk hbk hb hd h1 h2
 obtain⟨n,vI,vE,vN,LI,LE,LN,K,b1,b2,b3,b4⟩:=hbk
 rcases (show kd=4\/kd=5 by omega) with rfl | rfl
 ·refine(aU b1 (Nat.le_refl _) hb ht hd.pg q0 q1 q2 q3 lg hd.lgn fu (by omega)).mono ?_
  rintro e w' ⟨rfl,n',vE',LE',K',c1,c2,c3⟩
  exact⟨rfl,c3,n',vI,vE',vN,LI,LE',LN,K',c1,by omega,by omega,by omega⟩
 ·refine(zF5 b1 (Nat.le_refl _) hb ht hd.pg hd.wo hd.sum (.string lg) fu (by omega)).mono ?_
  rintro e w' ⟨rfl,n',vE',LE',K',c1,c2,c3⟩
  exact⟨rfl,c3,n',vI,vE',vN,LI,LE',LN,K',c1,by omega,by omega,by omega⟩
theorem zG1 {N:Nat} (hN:N<=1048576) (v:Value) (n:Nat) (w:World) (ht:pV w) (hv:jX N w v n) :
  Calls Tryz.prog 6 #[v] w fun e w'=>e=.returned (.bool true)/\Below w.heap.size w w':=by
 have HU:=zZ (yH8 hN v n w (zA6 ht) hv)
 clear hv ht
 go_enter Tryz.func6,Tryz.ntmps6
 go_wp2_with fail
 refine(zY HU).mono ?_
 rintro e w1 ⟨rfl,hb⟩
 go_wp2
 go_ret
 exact⟨rfl,hb⟩
