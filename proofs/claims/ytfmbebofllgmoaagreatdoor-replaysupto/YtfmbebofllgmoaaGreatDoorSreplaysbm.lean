/-
  PROVED HERE: what a script, its programs and their handlers l
-/
import Derived.ProofKit
import Derived.OpenShut
import Derived.SizedLaws
import Derived.Deep.Slices
import Derived.Deep.Strs
import Derived.Lib.SmallJoins
import Derived.Test.YtfmbebofllgmoaaGreatDoorSreplaysac
namespace Go.Proofs.YtfmbebofllgmoaaGreatDoor
open Go.ChangeShapes Go.WideShapes Go.ChangeAt Go.RowKit Go.Deep
theorem zP0:Tryz.prog.cellsOf 70=3:=by kernel_rfl
theorem zO8:Tryz.prog.cellsOf 31=1:=by kernel_rfl
theorem yJ7:Tryz.prog.cellsOf 25=1:=by kernel_rfl
theorem yJ8:Tryz.prog.cellsOf 33=3:=by kernel_rfl
theorem yJ9:Tryz.prog.cellsOf 26=1:=by kernel_rfl
theorem yK0:Tryz.prog.cellsOf 27=1:=by kernel_rfl
theorem yK1:Tryz.prog.cellsOf 29=4:=by kernel_rfl
theorem zO9:Tryz.prog.cellsOf 67=10:=by kernel_rfl
theorem yA9:Tryz.prog.cellsOf 3=1:=by kernel_rfl
theorem cells9:Tryz.prog.cellsOf 9=1:=by kernel_rfl
theorem yJ5:Tryz.prog.bytesOf 70=24:=by kernel_rfl
theorem yJ4:Tryz.prog.bytesOf 31=24:=by kernel_rfl
def Wt {H:Type} (t:TypeId) (d:DataW H):Prop:=∀n∈d.weights Tryz.prog t,n<=reachBytes
section
variable {H:Type} {enc:TypeId×Value->H} {w:World} {spare:Nat->Bool} {held:Bool}
theorem mZ {e:TypeId} {d:DataW H}:∀{l:List (DataW H)},d∈l->∀n∈d.weights Tryz.prog e,n∈DataW.weightsAll Tryz.prog e l
 | x::r,h,n,hn=>by
  rw [DataW.weightsAll,List.mem_append]
  rcases List.mem_cons.1 h with rfl | h
  ·exact .inl hn
  ·exact .inr (mZ h n hn)
theorem Wt.len {t e:TypeId} {elems sp:List (DataW H)} (h:Wt t (.slice elems sp)) (hu:Tryz.prog.underlying t=some (.slice e)):(elems.length+sp.length)*Tryz.prog.bytesOf e<=reachBytes:=
 h _ (by simp [DataW.weights,hu])
theorem Wt.elem {t e:TypeId} {elems sp:List (DataW H)} (h:Wt t (.slice elems sp)) (hu:Tryz.prog.underlying t=some (.slice e)) {d:DataW H} (hd:d∈elems):Wt e d:=fun n hn=>
 h n (by simp only [DataW.weights,hu,List.mem_cons,List.mem_append];exact .inr (.inl (mZ hd n hn)))
theorem Wt.field {t:TypeId} {fs:Array Field} {parts:List (DataW H)} (h:Wt t (.agg parts)) (hu:Tryz.prog.underlying t=some (.struct fs)) {j:Nat} {tj:TypeId} {d:DataW H} (hj:(fs.toList.map (·.type))[j]?=some tj) (hd:parts[j]?=some d):Wt tj d:=fun n hn=>
 h n (by simp only [DataW.weights,hu];exact DataW.weights_mem_each hj hd n hn)
theorem zO6 {a:Addr} {n:Nat} {cs:List Value} (h:w.cells? 0 (a.add 0) n=some cs) (hn:0<n):∃b off,a=⟨b,off,none⟩:=by
 obtain⟨_,hl,hc⟩:=World.cells?_some h
 obtain⟨b,off,spot⟩:=a
 have h0:=hc 0 hn
 rw [List.getElem?_eq_getElem (by omega)] at h0
 have hspot:spot=none:=by simpa [Addr.add] using World.cell?_spot h0
 subst hspot
 exact⟨b,off,rfl⟩
theorem yK2 {fuel:Nat} {cs:List Value} {x:DataW H×List MemPlace} (h:DataW.trod enc Tryz.prog w 0 spare held fuel 70 cs=some x):∃o:O3,cs=[.int .i64 o.1,.int .i64 o.2.1,.int .i64 o.2.2]:=by
 obtain⟨y0,y1,y2,n,rfl,hl,h0,h1,h2⟩:=trod_struct3 Tryz.underlying70 h
 rw [zP0] at hl
 simp only [yA9] at h0 h1 h2
 match cs,hl with
 | [c0,c1,c2],_=>
  obtain⟨a,e0,_,_⟩:=DataW.trod_int Tryz.underlying3 h0
  obtain⟨b,e1,_,_⟩:=DataW.trod_int Tryz.underlying3 h1
  obtain⟨c,e2,_,_⟩:=DataW.trod_int Tryz.underlying3 h2
  simp at e0 e1 e2
  subst e0 e1 e2
  exact⟨(a,b,c),rfl⟩
theorem zC6 {fuel:Nat} {cs:List Value} {x:DataW H×List MemPlace} (h:DataW.trod enc Tryz.prog w 0 spare held fuel 31 cs=some x) (hw:Wt 31 x.1):∃v n f,cs=[v]/\vQ w v n f:=by
 rcases open_slice Tryz.underlying31 h with ⟨rfl,rfl⟩ | ⟨a,len,cap,m,n,D,Pl,rfl,_,hlc,_,hm,rfl,hx⟩
 ·exact⟨_,0,fun _=>(0,0,0),rfl,none,0,rfl,by omega,.inl rfl⟩
 have hml:len<=m:=by rw [hm];split<;>omega
 have hb:=hw.len Tryz.underlying31
 rw [yJ5,List.length_map,List.length_range] at hb
 have hb':len*24<=140737488351232:=Nat.le_trans (Nat.mul_le_mul_right 24 (Nat.le_add_right _ _)) hb
 rw [zP0] at hx
 have hall:∀i,i<len->∃o:O3,w.cells? 0 (a.add (i*3)) 3=some [.int .i64 o.1,.int .i64 o.2.1,.int .i64 o.2.2]:=by
  intro i hi
  obtain⟨cs',h1,h2⟩:=hx i (by omega)
  obtain⟨o,rfl⟩:=yK2 h2
  exact⟨o,h1⟩
 obtain⟨f,hf⟩:=choose_lt (α:=O3) hall
 refine⟨_,len,f,rfl,some a,cap,rfl,hb',?_⟩
 by_cases h0:len=0
 ·exact .inl h0
 right
 obtain⟨b,off,rfl⟩:=zO6 (hf 0 (by omega)) (by omega)
 refine⟨b,off,rfl,fun i hi=>?_⟩
 obtain⟨_,_,hc⟩:=World.cells?_some (hf i hi)
 rw [Go.WideShapes.add_plain] at hc
 have g0:=hc 0 (by omega)
 have g1:=hc 1 (by omega)
 have g2:=hc 2 (by omega)
 rw [Go.WideShapes.add_plain] at g0 g1 g2
 exact⟨by simpa using g0,by simpa using g1,by simpa using g2⟩
theorem fV {fuel:Nat} {cs:List Value} {x:DataW H×List MemPlace} (h:DataW.trod enc Tryz.prog w 0 spare held fuel 25 cs=some x) (hw:Wt 25 x.1):∃v n l f,cs=[v]/\yV w v n l f:=by
 rcases open_slice1 Tryz.underlying25 zO8 h with ⟨rfl,rfl⟩ | ⟨a,len,cap,m,n,V,D,Pl,rfl,_,hlc,_,hm,rfl,hx⟩
 ·exact⟨_,0,fun _=>0,fun _ _=>(0,0,0),rfl,none,0,rfl,by omega,.inl rfl⟩
 have hml:len<=m:=by rw [hm];split<;>omega
 have hb:=hw.len Tryz.underlying25
 rw [yJ4,List.length_map,List.length_range] at hb
 have hb':len*24<=140737488351232:=Nat.le_trans (Nat.mul_le_mul_right 24 (Nat.le_add_right _ _)) hb
 have hall:∀i,i<len->∃p:Nat×(Nat->O3),vQ w (V i) p.1 p.2:=by
  intro i hi
  obtain⟨_,h2⟩:=hx i (by omega)
  have hwi:Wt 31 (D i):=hw.elem Tryz.underlying25 (List.mem_map.2 ⟨i,List.mem_range.2 hi,rfl⟩)
  obtain⟨v,k,f,e,ho⟩:=zC6 h2 hwi
  simp only [List.cons.injEq,and_true] at e
  subst e
  exact⟨(k,f),ho⟩
 obtain⟨p,hp⟩:=choose_lt (α:=Nat×(Nat->O3)) hall
 refine⟨_,len,fun i=>(p i).1,fun i=>(p i).2,rfl,some a,cap,rfl,hb',?_⟩
 by_cases h0:len=0
 ·exact .inl h0
 right
 obtain⟨b,off,spot⟩:=a
 have hspot:spot=none:=by simpa [Addr.add] using World.cell?_spot (hx 0 (by omega)).1
 subst hspot
 refine⟨b,off,rfl,fun i hi=>⟨V i,?_,hp i hi⟩⟩
 rw [<-Go.WideShapes.add_plain]
 exact(hx i (by omega)).1
theorem list10:∀{cs:List Value},cs.length=10->∃k0 k1 k2 k3 k4 k5 k6 k7 k8 k9,cs=[k0,k1,k2,k3,k4,k5,k6,k7,k8,k9]
 | k0::k1::k2::k3::k4::k5::k6::k7::k8::k9::r,h=>by
  have:r=[]:=List.eq_nil_of_length_eq_zero (by simpa using h)
  subst this
  exact⟨k0,k1,k2,k3,k4,k5,k6,k7,k8,k9,rfl⟩
theorem list5 {α:Type}:∀{cs:List α},cs.length=5->∃k0 k1 k2 k3 k4,cs=[k0,k1,k2,k3,k4]
 | k0::k1::k2::k3::k4::r,h=>by
  have:r=[]:=List.eq_nil_of_length_eq_zero (by simpa using h)
  subst this
  exact⟨k0,k1,k2,k3,k4,rfl⟩
end
