/- Parts of the proof: Du -/
import Derived.Deep.CutRange
import Derived.Deep.RegionHeld3
import Derived.Stop.RegionWithIn
import Derived.Sort.CutIn
import Derived.Test.YtaiebhhommgnbaaGreatDoorZ11
namespace Go.Proofs.YtaiebhhommgnbaaGreatDoor
set_option linter.unusedSimpArgs false
set_option linter.unusedVariables false
set_option maxRecDepth 100000
set_option maxHeartbeats 16000000
open Go.RowKit
section
open Go.RowKit Go.Shelf
attribute [local go_sem] Oper.semAt_some
namespace Tw
theorem atFn_seqK {P : Program} {f : FuncId} {x y : Code} {Q : Exit → Act → World → Prop} {a : Act} {w : World} (h : ∀ K : Act → World → Prop, (∀ a w, AtFn f P y Q a w → K a w) → x.wp P (Exit.then K Q) a w) : AtFn f P (.seq x y) Q a w :=
 atFn_seq (n := 0) (wpIn_wide.2 (h _ fun _ _ h => h))
def SelOut (w : World) (r : Except Nat Int) (x : Ending) (w' : World) : Prop := Below w.heap.size w w' ∧ match r with
 | .ok z => ∃ v, x = .returned (.agg #[.int .i64 1, v, .int .i64 0]) ∧ w'.ownsRow w.heap.size 24 3 v 1 [.int .i64 16, .int .i64 z, .string ⟨#[]⟩]
 | .error c => x = Flt 0 c
theorem Blk.set1 {w : World} {b : Nat} {u v : Value} {t : TypeId} (h : Blk w b #[u] t) : Blk (w.setCell ⟨b, 0, none⟩ v) b #[v] t := by simpa using h.set 0 v
theorem Blk.newE {w : World} {b : Nat} {cs : Array Value} {t : TypeId} (h : w.heap.size = b) : Blk (w.alloc (.cells cs t)) b cs t := h ▸ Blk.new w cs t
theorem cell_far {w : World} {p a : Addr} {v u : Value} (h : p.block ≠ a.block) (hc : w.cell? a = some u) : (w.setCell p v).cell? a = some u := (World.cell?_setCell_far w p a v h).trans hc
theorem cell_new {w : World} {a : Addr} {o : Obj} {u : Value} (hc : w.cell? a = some u) : (w.alloc o).cell? a = some u := by simp [*, World.cell?_alloc_some]
theorem Apart.below {a b B : Nat} {W W' : World} (h : Apart a b W W') (h1 : B ≤ a) (h2 : B ≤ W.heap.size) : Below B W W' :=
 ⟨h.os, h.tape, h.output, h.size, fun k hk => h.block k (.inl (by omega)) (by omega)⟩
theorem own_far {w : World} {B : Nat} {T : TypeId} {s : Nat} {v : Value} {n : Nat} {xs : List Value} (h : w.ownsRow B T s v n xs) {p : Addr} (x : Value) (hp : p.block < B) : (w.setCell p x).ownsRow B T s v n xs := by
 refine ⟨h.1, ?_⟩
 rcases h.2 with h2 | ⟨g, cap, cur, h0, h1, h2, h3⟩
 · exact .inl h2
 · exact .inr ⟨g, cap, cur, h0, h1, (Below.heap_setCell _ _ _ _ (by omega)).trans h2, h3⟩
theorem own_put {w : World} {B : Nat} {T : TypeId} {s : Nat} {v : Value} {n : Nat} {xs : List Value} (h : w.ownsRow B T s v n xs) {l : Nat} (o : Obj) (hp : l < B) : (w.putObj l o).ownsRow B T s v n xs := by
 refine ⟨h.1, ?_⟩
 rcases h.2 with h2 | ⟨g, cap, cur, h0, h1, h2, h3⟩
 · exact .inl h2
 · exact .inr ⟨g, cap, cur, h0, h1, (World.putObj_heap_other (by omega)).trans h2, h3⟩
structure Sl (w W : World) (p gi ci : Nat) (tn : ByteArray) (ao : Option Addr) (co : Nat) (et : TypeId) (ex : Value) (b5 b6 gx cx : Nat) : Prop where
 low : Below w.heap.size w W
 k0 : Blk W w.heap.size #[.pointer (some ⟨p, 0, none⟩)] 81
 k1 : Blk W (w.heap.size + 1) #[.slice (some ⟨gi, 0, none⟩) 1 ci, .string tn, .nilIface, .slice ao 0 co, .bool false, .int .i64 0] 96
 k2 : Blk W (w.heap.size + 1 + 1) #[.int .i64 0, .slice none 0 0, .int .i64 0] 33
 k5 : Blk W b5 #[.slice (some ⟨gx, 0, none⟩) 1 cx] 148
 k6 : Blk W b6 #[.slice none 0 0] 148
 hx : gx < W.heap.size
 cx : W.cell? ⟨gx, 0, none⟩ = some (.iface et ex)
theorem Sl.below {w W W' : World} {p gi ci : Nat} {tn : ByteArray} {ao : Option Addr} {co : Nat} {et : TypeId} {ex : Value} {b5 b6 gx cx : Nat} (h : Sl w W p gi ci tn ao co et ex b5 b6 gx cx) (hb : Below W.heap.size W W') : Sl w W' p gi ci tn ao co et ex b5 b6 gx cx :=
 ⟨h.low.trans (hb.mono h.low.size), h.k0.below hb h.k0.lt, h.k1.below hb h.k1.lt, h.k2.below hb h.k2.lt, h.k5.below hb h.k5.lt, h.k6.below hb h.k6.lt, Nat.lt_of_lt_of_le h.hx hb.size, (hb.cell (p := ⟨gx, 0, none⟩) h.hx).trans h.cx⟩
theorem Sl.upto {w W W' : World} {p gi ci : Nat} {tn : ByteArray} {ao : Option Addr} {co : Nat} {et : TypeId} {ex : Value} {b5 b6 gx cx B : Nat} (h : Sl w W p gi ci tn ao co et ex b5 b6 gx cx) (hb : Below B W W') (hl : w.heap.size + 1 + 1 < B ∧ b5 < B ∧ b6 < B ∧ gx < B) : Sl w W' p gi ci tn ao co et ex b5 b6 gx cx :=
 ⟨h.low.trans (hb.mono (by omega)), h.k0.below hb (by omega), h.k1.below hb (by omega), h.k2.below hb hl.1, h.k5.below hb hl.2.1, h.k6.below hb hl.2.2.1, Nat.lt_of_lt_of_le h.hx hb.size, (hb.cell (p := ⟨gx, 0, none⟩) hl.2.2.2).trans h.cx⟩
theorem rowAt_block {W W' : World} {gw : Nat} {z : Int} (h : Tb.RowAt W gw z) (hs : W.heap.size ≤ W'.heap.size) (hb : W'.heap[gw]? = W.heap[gw]?) : Tb.RowAt W' gw z :=
 ⟨Nat.lt_of_lt_of_le h.lt hs, (World.cell?_of_block (w := W) hb).trans h.c0, (World.cell?_of_block (w := W) hb).trans h.c1, (World.cell?_of_block (w := W) hb).trans h.c2⟩
theorem Tryz.info172 : (Tryz.prog.info? 172).map (fun i => (i.zero, i.size, i.bytes)) = some (some (.agg #[.slice none 0 0, .slice none 0 0]), 2, 48) := by kernel_rfl
theorem Sl.set7 {w W : World} {p gi ci : Nat} {tn : ByteArray} {ao : Option Addr} {co : Nat} {et : TypeId} {ex : Value} {b5 b6 gx cx b7 : Nat} {v : Value} (h : Sl w W p gi ci tn ao co et ex b5 b6 gx cx) (hb : w.heap.size + 1 + 1 < b7 ∧ b5 < b7 ∧ b6 < b7 ∧ gx < b7) : Sl w (W.setCell ⟨b7, 0, none⟩ v) p gi ci tn ao co et ex b5 b6 gx cx :=
 ⟨h.low.setCell (by show w.heap.size ≤ b7; omega) _, h.k0.far _ _ (by show b7 ≠ _; omega), h.k1.far _ _ (by show b7 ≠ _; omega), h.k2.far _ _ (by show b7 ≠ _; omega), h.k5.far _ _ (by show b7 ≠ _; omega), h.k6.far _ _ (by show b7 ≠ _; omega), by simpa using h.hx, cell_far (by show b7 ≠ gx; omega) h.cx⟩
theorem selection_one (e : Px.E) (he : Mg.Ar e) (ao : Option Addr) (co : Nat) (tn : ByteArray) (p g cap ge ce gv cv gi ci : Nat) (nm : ByteArray) (cs : Array Value) (w : World) (h : Tb.OneCol w p g cap nm cs) (hr : OneRow w p ge ce gv cv) (hgi : gi < w.heap.size) (i0 : w.cell? ⟨gi, 0, none⟩ = some (.bool false)) (i1 : w.cell? ⟨gi, 1, none⟩ = some (ev e)) :
   Calls Tryz.prog 29 #[.pointer (some ⟨p, 0, none⟩), .agg #[.slice (some ⟨gi, 0, none⟩) 1 ci, .string tn, .nilIface, .slice ao 0 co, .bool false, .int .i64 0]] w (SelOut w (Mg.val e)) := by
 obtain ⟨et, ex, hev⟩ := ev_iface e
 have HEV := hd hev
 have HE := hd he
 rw [hev] at i1
 have HC := hd h
 have HR := hd hr
 clear h hr he hev
 refine (callsIn_wide (n := 0)).1 (calls_of_atFn Tryz.func29 rfl ?_)
 simp only [Tryz.ntmps29, List.size_toArray, List.length_cons, List.length_nil, Nat.reduceAdd, Nat.reduceSub, Array.replicate_succ, Array.replicate_zero, List.push_toArray, List.append_toArray, List.nil_append, List.cons_append]
 have HB0 : Hid (Below w.heap.size w (((w.alloc (.cells #[.pointer (some ⟨p, 0, none⟩)] 81)).alloc (.cells #[.slice (some ⟨gi, 0, none⟩) 1 ci, .string tn, .nilIface, .slice ao 0 co, .bool false, .int .i64 0] 96)).alloc (.cells #[.int .i64 0, .slice none 0 0, .int .i64 0] 33))) := by show Below _ _ _; go_grown
 have HK0 := hd (((Blk.new w #[.pointer (some ⟨p, 0, none⟩)] 81).alloc (.cells #[.slice (some ⟨gi, 0, none⟩) 1 ci, .string tn, .nilIface, .slice ao 0 co, .bool false, .int .i64 0] 96)).alloc (.cells #[.int .i64 0, .slice none 0 0, .int .i64 0] 33))
 have HK1 := hd ((Blk.new (w.alloc (.cells #[.pointer (some ⟨p, 0, none⟩)] 81)) #[.slice (some ⟨gi, 0, none⟩) 1 ci, .string tn, .nilIface, .slice ao 0 co, .bool false, .int .i64 0] 96).alloc (.cells #[.int .i64 0, .slice none 0 0, .int .i64 0] 33))
 have HK2 := hd (Blk.new ((w.alloc (.cells #[.pointer (some ⟨p, 0, none⟩)] 81)).alloc (.cells #[.slice (some ⟨gi, 0, none⟩) 1 ci, .string tn, .nilIface, .slice ao 0 co, .bool false, .int .i64 0] 96)) #[.int .i64 0, .slice none 0 0, .int .i64 0] 33)
 refine atFn_seqK fun K hK => ?_
 go_wp2_with fail
 simp only [World.size_alloc] at HK1 HK2
 generalize ((w.alloc (.cells #[.pointer (some ⟨p, 0, none⟩)] 81)).alloc (.cells #[.slice (some ⟨gi, 0, none⟩) 1 ci, .string tn, .nilIface, .slice ao 0 co, .bool false, .int .i64 0] 96)).alloc (.cells #[.int .i64 0, .slice none 0 0, .int .i64 0] 33) = V at *
 refine atFn_seqK fun K hK => ?_
 have v0 := HK0.out.cell 0
 have v1 := HK1.out.cell 0
 have v2 := HK1.out.cell 3
 simp at v0 v1 v2
 have hv0 := HK0.out.lt
 have hv1 := HK1.out.lt
 have hv2 := HK2.out.lt
 have n0 : V.heap.size ≠ w.heap.size := by omega
 have n1 : V.heap.size ≠ w.heap.size + 1 := by omega
 have n2 : V.heap.size + 1 ≠ w.heap.size := by omega
 have n3 : V.heap.size + 1 ≠ w.heap.size + 1 := by omega
 have HIE : Hid (∀ W, Below w.heap.size w W → Calls Tryz.prog 72 #[.pointer (some ⟨p, 0, none⟩), .slice (some ⟨gi, 0, none⟩) 1 ci] W fun x w' => Below W.heap.size W w' ∧ ∃ v, x = .returned v ∧ w'.ownsRow W.heap.size 85 1 v 1 [.iface et ex]) := fun W hW =>
  Tq.itemExprs_one et ex (.pointer (some ⟨p, 0, none⟩)) gi ci W (Nat.lt_of_lt_of_le hgi hW.size) ((hW.cell (p := ⟨gi, 0, none⟩) hgi).trans i0) ((hW.cell (p := ⟨gi, 1, none⟩) hgi).trans i1)
 go_cut [5, 6] from 14 to 34 (fun s5 s6 wx => ∃ b5 b6 gx cx, s5 = .pointer (some ⟨b5, 0, none⟩) ∧ s6 = .pointer (some ⟨b6, 0, none⟩) ∧ Sl w wx p gi ci tn ao co et ex b5 b6 gx cx)
 case first =>
  go_region_held3 (fun w' => w'.cell? ⟨w.heap.size, 0, none⟩ = some (.pointer (some ⟨p, 0, none⟩)) ∧ w'.cell? ⟨w.heap.size + 1, 0, none⟩ = some (.slice (some ⟨gi, 0, none⟩) 1 ci) ∧ w'.cell? ⟨w.heap.size + 1, 3, none⟩ = some (.slice ao 0 co)) (go_keep)
    (first
     | (go_at_call 72
        refine (HIE.out (World.drew V) HB0.out.drew).mono ?_
        rintro x w1 ⟨hb1, v, rfl, hown⟩
        obtain ⟨gx, cx, rfl, hgl, hgx, _, _, hcx⟩ := Tb.own_open hown (by decide)
        have HB1 : Hid (Below w.heap.size w w1) := HB0.out.drew.trans (hb1.mono HB0.out.drew.size)
        have K0 := HK0.out.drew.below hb1 hv0
        have K1 := HK1.out.drew.below hb1 hv1
        have K2 := HK2.out.drew.below hb1 hv2
        have hl1 : V.heap.size ≤ gx := hgl
        have HX : Hid True := trivial
        have HY : Hid True := trivial
        have q0 := K0.cell 0
        have q1 := K1.cell 0
        have q2 := K1.cell 3
        simp at q0 q1 q2
        have hx0 := hcx 0 _ rfl
        have hle : w.heap.size + 1 + 1 < w1.heap.size := K2.lt
        have m0 : w1.heap.size ≠ w.heap.size := by omega
        have m1 : w1.heap.size ≠ w.heap.size + 1 := by omega
        have m2 : w1.heap.size + 1 ≠ w.heap.size := by omega
        have m3 : w1.heap.size + 1 ≠ w.heap.size + 1 := by omega
        have HL0 := hd K0
        have HL1 := hd K1
        have HL2 := hd K2
        clear hb1 hown K0 K1 K2 hcx hgl)
     | (go_at_call 72
        refine (HIE.out (World.alloc (World.drew V) _) (HB0.out.drew.alloc HB0.out.drew.size _)).mono ?_
        rintro x w1 ⟨hb1, v, rfl, hown⟩
        obtain ⟨gx, cx, rfl, hgl, hgx, _, _, hcx⟩ := Tb.own_open hown (by decide)
        have hbb := HB0.out.drew.alloc HB0.out.drew.size (.cells #[.slice none 0 0] 148)
        have HB1 : Hid (Below w.heap.size w w1) := hbb.trans (hb1.mono hbb.size)
        have K0 := (HK0.out.drew.alloc _).below hb1 (HK0.out.drew.alloc _).lt
        have K1 := (HK1.out.drew.alloc _).below hb1 (HK1.out.drew.alloc _).lt
        have K2 := (HK2.out.drew.alloc _).below hb1 (HK2.out.drew.alloc _).lt
        have K3 := (Blk.new (World.drew V) _ _).below hb1 (Blk.new (World.drew V) _ _).lt
        have hl1 : V.heap.size + 1 ≤ gx := by have := hgl; simp at this; omega
        have HX : Hid (Blk w1 V.heap.size #[.slice none 0 0] 148) := K3
        have HY : Hid True := trivial
        have hl2 : V.heap.size < w1.heap.size := K3.lt
        have q0 := K0.cell 0
        have q1 := K1.cell 0
        have q2 := K1.cell 3
        have q3 := K3.cell 0
        have q4 := K3.free 0
        simp at q0 q1 q2 q3 q4
        have hx0 := hcx 0 _ rfl
        have hle : w.heap.size + 1 + 1 < w1.heap.size := K2.lt
        have m0 : w1.heap.size ≠ w.heap.size := by omega
        have m1 : w1.heap.size ≠ w.heap.size + 1 := by omega
        have m2 : w1.heap.size + 1 ≠ w.heap.size := by omega
        have m3 : w1.heap.size + 1 ≠ w.heap.size + 1 := by omega
        have HL0 := hd K0
        have HL1 := hd K1
        have HL2 := hd K2
        clear hb1 hown K0 K1 K2 K3 hcx hgl hbb)
     | (go_at_call 72
        refine (HIE.out (World.alloc (World.alloc (World.drew V) _) _) ((HB0.out.drew.alloc HB0.out.drew.size _).alloc (HB0.out.drew.alloc HB0.out.drew.size _).size _)).mono ?_
        rintro x w1 ⟨hb1, v, rfl, hown⟩
        obtain ⟨gx, cx, rfl, hgl, hgx, _, _, hcx⟩ := Tb.own_open hown (by decide)
        have hbb := (HB0.out.drew.alloc HB0.out.drew.size (.cells #[.slice none 0 0] 148)).alloc (HB0.out.drew.alloc HB0.out.drew.size _).size (.cells #[.slice none 0 0] 148)
        have HB1 : Hid (Below w.heap.size w w1) := hbb.trans (hb1.mono hbb.size)
        have K0 := ((HK0.out.drew.alloc _).alloc _).below hb1 ((HK0.out.drew.alloc _).alloc _).lt
        have K1 := ((HK1.out.drew.alloc _).alloc _).below hb1 ((HK1.out.drew.alloc _).alloc _).lt
        have K2 := ((HK2.out.drew.alloc _).alloc _).below hb1 ((HK2.out.drew.alloc _).alloc _).lt
        have K3 := ((Blk.new (World.drew V) _ _).alloc _).below hb1 ((Blk.new (World.drew V) _ _).alloc _).lt
        have K4 := (Blk.new (World.alloc (World.drew V) _) _ _).below hb1 (Blk.new (World.alloc (World.drew V) _) _ _).lt
        have hl1 : V.heap.size + 2 ≤ gx := by have := hgl; simp at this; omega
        have HX : Hid (Blk w1 V.heap.size #[.slice none 0 0] 148) := K3
        have HY : Hid (Blk w1 (V.heap.size + 1) #[.slice none 0 0] 148) := by rw [World.size_alloc] at K4; exact K4
        have hl2 : V.heap.size < w1.heap.size := K3.lt
        have hl3 : V.heap.size + 1 < w1.heap.size := HY.out.lt
        have q0 := K0.cell 0
        have q1 := K1.cell 0
        have q2 := K1.cell 3
        have q3 := K3.cell 0
        have q4 := K3.free 0
        have q5 := HY.out.cell 0
        have q6 := HY.out.free 0
        simp at q0 q1 q2 q3 q4 q5 q6
        have hx0 := hcx 0 _ rfl
        have hle : w.heap.size + 1 + 1 < w1.heap.size := K2.lt
        have m0 : w1.heap.size ≠ w.heap.size := by omega
        have m1 : w1.heap.size ≠ w.heap.size + 1 := by omega
        have m2 : w1.heap.size + 1 ≠ w.heap.size := by omega
        have m3 : w1.heap.size + 1 ≠ w.heap.size + 1 := by omega
        have HL0 := hd K0
        have HL1 := hd K1
        have HL2 := hd K2
        clear hb1 hown K0 K1 K2 K3 K4 hcx hgl hbb)
     | (go_at_call 73
        refine (Tq.orderExprs_none _).mono ?_
        rintro x w1 ⟨rfl, rfl⟩))
  all_goals
   go_wp2_with fail
   go_meet
   refine ⟨_, _, gx, cx, rfl, rfl, ?_, ?_, ?_, ?_, ?_, ?_, ?_, ?_⟩
   · repeat' (first | exact HB1.out | refine Below.alloc ?_ ?_ _ | refine Below.setCell ?_ ?_ _ | omega | (simp; omega) | (simp; done))
   · repeat' (first | exact HL0.out | refine Blk.alloc ?_ _ | refine Blk.far ?_ _ _ ?_ | omega | (simp; omega) | (simp; done))
   · repeat' (first | exact HL1.out | refine Blk.alloc ?_ _ | refine Blk.far ?_ _ _ ?_ | omega | (simp; omega) | (simp; done))
   · repeat' (first | exact HL2.out | refine Blk.alloc ?_ _ | refine Blk.far ?_ _ _ ?_ | omega | (simp; omega) | (simp; done))
   · repeat' (first | exact HX.out | exact HY.out | exact Blk.newE (by first | rfl | (simp; done)) | refine Blk.set1 (u := .slice none 0 0) ?_ | refine Blk.alloc ?_ _ | refine Blk.far ?_ _ _ ?_ | omega | (simp; omega) | (simp; done))
   · repeat' (first | exact HX.out | exact HY.out | exact Blk.newE (by first | rfl | (simp; done)) | refine Blk.set1 (u := .slice none 0 0) ?_ | refine Blk.alloc ?_ _ | refine Blk.far ?_ _ _ ?_ | omega | (simp; omega) | (simp; done))
   · first | omega | (simp; omega)
   · repeat' (first | exact hx0 | refine cell_far ?_ ?_ | refine cell_new ?_ | omega | (simp; omega) | (simp; done))
 case rest =>
  obtain ⟨b5, b6, gx, cx, rfl, rfl, hS⟩ := hcut
  refine hK _ _ ?_
  clear hK K HK0 HK1 HK2 HB0 v0 v1 v2 hv0 hv1 hv2 n0 n1 n2 n3 HIE
  have HS := hd hS
  clear hS
  have HC1 := hd (HC.out.below HS.out.low)
  refine atFn_seqK fun K hK => ?_
  have d0 := HS.out.k0.cell 0
  have d1 := HS.out.k1.cell 2
  have d5 := HS.out.k5.cell 0
  have d6 := HS.out.k6.cell 0
  have dp := (HC1.out.blk.cell 0).trans HC1.out.cols
  simp at d0 d1 d5 d6
  have hp := HC1.out.blk.lt
  have HDM := hd (Tq.demands_one et ex 0 gx cx (World.drew wc) HS.out.hx HS.out.cx)
  go_region_held3 (fun w' => w'.cell? ⟨w.heap.size, 0, none⟩ = some (.pointer (some ⟨p, 0, none⟩)) ∧ w'.cell? ⟨w.heap.size + 1, 2, none⟩ = some .nilIface ∧ w'.cell? ⟨b5, 0, none⟩ = some (.slice (some ⟨gx, 0, none⟩) 1 cx) ∧ w'.cell? ⟨b6, 0, none⟩ = some (.slice none 0 0) ∧ w'.cell? ⟨p, 0, none⟩ = some (.slice (some ⟨g, 0, none⟩) 1 cap)) (go_keep)
    (first
     | (go_at_call 75
        with_reducible refine HDM.out.mono ?_
        rintro x w1 ⟨hb1, v, rfl, hown⟩
        obtain ⟨gd, cd, rfl, hgl, hgd, _, _, hcd⟩ := Tb.own_open hown (by decide)
        have HS1 := hd (HS.out.below ((Below.refl _ wc).drew.trans hb1))
        have HC2 := hd (HC.out.below HS1.out.low)
        have q0 := HS1.out.k0.cell 0
        have q1 := HS1.out.k1.cell 2
        have q5 := HS1.out.k5.cell 0
        have q6 := HS1.out.k6.cell 0
        have qp := (HC2.out.blk.cell 0).trans HC2.out.cols
        simp at q0 q1 q5 q6
        have hp1 := HC2.out.blk.lt
        have HD0 := hd (hcd 0 _ rfl)
        have HD1 := hd (hcd 1 _ rfl)
        have HGD := hd hgd
        clear hb1 hown hcd hgl hgd)
     | (go_at_call 66
        refine (Tq.where_nil _).mono ?_
        rintro x w1 ⟨rfl, rfl⟩)
     | (go_at_call 75
        with_reducible refine (Tq.demands_none 0 _).mono ?_
        rintro x w1 ⟨rfl, rfl⟩)
     | (go_at_call 74
        refine (Tq.concat_one (.iface et ex) (.int .i64 0) rfl rfl w1.heap.size 3 gd cd _ (Blk.new w1 _ _).lt ((Blk.new w1 _ _).cell 0) ((Blk.new w1 _ _).cell 1) ((Blk.new w1 _ _).cell 2) (Nat.lt_of_lt_of_le HGD.out (by simp)) (cell_new HD0.out) (cell_new HD1.out)).mono ?_
        rintro x w2 ⟨hb2, v, rfl, hown⟩
        obtain ⟨gf, cf, rfl, hgl, hgf, _, _, hcf⟩ := Tb.own_open hown (by decide)
        have HS2 := hd (HS1.out.below (((Below.refl _ w1).alloc (Nat.le_refl _) _).trans (hb2.mono (by simp))))
        have HC3 := hd (HC.out.below HS2.out.low)
        have z0 := HS2.out.k0.cell 0
        have z1 := HS2.out.k1.cell 2
        have z5 := HS2.out.k5.cell 0
        have z6 := HS2.out.k6.cell 0
        have zp := (HC3.out.blk.cell 0).trans HC3.out.cols
        simp at z0 z1 z5 z6
        have hp2 := HC3.out.blk.lt
        have hf0 := hcf 0 _ rfl
        have hf1 := hcf 1 _ rfl
        rw [← HEV.out] at hf0
        have HCK := hd (Tb.check_one e HE.out 0 (.inl rfl) (.slice (some ⟨g, 0, none⟩) 1 cap) gf cf w2 hgf hf0 hf1)
        clear hb2 hown hcf hgl hf0 hf1)
     | (go_at_call 60
        refine HCK.out.mono ?_
        rintro x w3 ⟨rfl, hb3⟩
        have HS3 := hd (HS2.out.below hb3)
        have HC4 := hd (HC.out.below HS3.out.low)
        have y0 := HS3.out.k0.cell 0
        have y1 := HS3.out.k1.cell 2
        have y5 := HS3.out.k5.cell 0
        have y6 := HS3.out.k6.cell 0
        have yp := (HC4.out.blk.cell 0).trans HC4.out.cols
        simp at y0 y1 y5 y6
        clear hb3))
  go_wp2_with fail
  clear HDM HCK d0 d1 d5 d6 dp hp q0 q1 q5 q6 qp hp1 z0 z1 z5 z6 zp hp2 y0 y1 y5 y6 yp HS HS1 HS2 HC1 HC2 HC3 HD0 HD1 HGD
  have HS4 := hd (HS3.out.below ((Below.refl _ w3).alloc (Nat.le_refl _) (.cells #[.slice none 0 0] 170)))
  have HK7 := hd (Blk.new w3 #[.slice none 0 0] 170)
  have HC5 := hd (HC.out.below HS4.out.low)
  clear HC4
  refine atFn_seqK fun K hK => ?_
  go_wp2_with fail
  generalize hV4 : w3.alloc (.cells #[.slice none 0 0] 170) = V4 at *
  generalize hb7 : w3.heap.size = b7 at *
  refine atFn_seq2 ?_
  refine atFn_seqK fun K hK => ?_
  have d0 := HS4.out.k0.cell 0
  have d1 := HS4.out.k1.cell 2
  simp at d0 d1
  have hl0 := HS4.out.k0.lt
  have hl1 := HS4.out.k1.lt
  go_wp2_with fail
  refine (Tq.chosen_any _ _).mono ?_
  rintro x w4 ⟨rfl, rfl⟩
  go_wp2_with fail
  have HLT : Hid (w.heap.size + 1 + 1 < b7 ∧ b5 < b7 ∧ b6 < b7 ∧ gx < b7 ∧ p < b7) := by rw [← hb7]; exact ⟨HS3.out.k2.lt, HS3.out.k5.lt, HS3.out.k6.lt, HS3.out.hx, Nat.lt_of_lt_of_le HR.out.hp HS3.out.low.size⟩
  have hbb : Below V4.heap.size V4 ((V4.alloc (.cells #[.pointer (some ⟨p, 0, none⟩)] 81)).alloc (.cells #[.nilIface] 85)) := by go_grown
  have HS6 := hd (HS4.out.below hbb)
  have HK8 := hd (HK7.out.below hbb HK7.out.lt)
  have HT0 := hd ((Blk.new V4 #[.pointer (some ⟨p, 0, none⟩)] 81).alloc (.cells #[.nilIface] 85))
  have HT1 : Hid (Blk ((V4.alloc (.cells #[.pointer (some ⟨p, 0, none⟩)] 81)).alloc (.cells #[.nilIface] 85)) (V4.heap.size + 1) #[.nilIface] 85) := Blk.newE (by simp)
  have h54 : V4.heap.size + 2 = ((V4.alloc (.cells #[.pointer (some ⟨p, 0, none⟩)] 81)).alloc (.cells #[.nilIface] 85)).heap.size := by simp
  clear hbb HS4 HK7 hV4 hb7 d0 d1 hl0 hl1 HS3 HC5
  generalize (V4.alloc (.cells #[.pointer (some ⟨p, 0, none⟩)] 81)).alloc (.cells #[.nilIface] 85) = V5 at *
  refine atFn_block (atFn_range1 (n := 0) (gf := 125) (lb := #[.pointer (some ⟨V4.heap.size, 0, none⟩), .pointer (some ⟨V4.heap.size + 1, 0, none⟩)]) rfl (enters_of Tryz.func125 (by kernel_rfl) rfl) ?_)
  intro W1 hrec hdef hb1 hs1
  have HREC := hd hrec
  have HDEF := hd hdef
  have HB1 := hd hb1
  have HS7 := hd (HS6.out.below hb1)
  clear hrec hdef
  have hk8 := HK8.out.lt
  show CallsIn Fence.wide (0 - 1) Tryz.prog 125 #[.func (.yield (V5.heap.size + 1)) #[] #[], .pointer (some ⟨V4.heap.size, 0, none⟩), .pointer (some ⟨V4.heap.size + 1, 0, none⟩)] W1 _
  refine (chosen1_one (0 - 1) (V5.heap.size + 1) V4.heap.size (V4.heap.size + 1) p ge ce gv cv W1 (by omega) ((hb1.cell (p := ⟨V4.heap.size, 0, none⟩) HT0.out.lt).trans (HT0.out.cell 0)) (by omega) ((hb1.cell (p := ⟨V4.heap.size + 1, 0, none⟩) HT1.out.lt).trans (HT1.out.cell 0)) (HR.out.below HS7.out.low)
    (fun W => ∃ z gw cw gf cf, Mg.val e = .ok z ∧ Sl w W p gi ci tn ao co et ex b5 b6 gx cx ∧ Blk W b7 #[.slice (some ⟨gf, 0, none⟩) 1 cf] 170 ∧ (W1.heap.size + 4 ≤ gf ∧ gf < W.heap.size) ∧ W.cell? ⟨gf, 0, none⟩ = some (.slice (some ⟨gw, 0, none⟩) 1 cw) ∧ W.cell? ⟨gf, 1, none⟩ = some (.slice none 0 0) ∧ W1.heap.size + 4 ≤ gw ∧ Tb.RowAt W gw z ∧ W.heap[V5.heap.size + 1]? = W1.heap[V5.heap.size + 1]? ∧ W.heap[V5.heap.size]? = W1.heap[V5.heap.size]?)
    (fun c W => ∃ k, Mg.val e = .error k ∧ Flt 0 k = .panicked c ∧ Below w.heap.size w W ∧ W.heap[V5.heap.size]? = W1.heap[V5.heap.size]? ∧ W1.heap.size ≤ W.heap.size)
    (fun W ⟨z, gw, cw, gf, cf, _, hs, _⟩ => ⟨HR.out.below hs.low, Nat.lt_of_lt_of_le HR.out.hp HS7.out.low.size, Nat.lt_of_lt_of_le HR.out.hg HS7.out.low.size⟩) ?_).mono ?_
  · intro m W hW hs4
    have hrW := (hW.block (V5.heap.size + 1) (by omega)).trans HREC.out
    have hdW := hW.block V5.heap.size (by omega)
    refine ⟨_, _, _, _, run_yield hrW rfl, roundIn_p trivial ⟨_, Tryz.func29⟩ ?_⟩
    simp only [loopRec]
    gi_wp2
    refine ⟨_, run_beginRound hrW rfl, ?_⟩
    generalize hW2 : W.putObj (V5.heap.size + 1) _ = W2
    have HP : Hid (∀ k, k ≠ V5.heap.size + 1 → W2.heap[k]? = W.heap[k]?) := fun k hk => by rw [← hW2]; exact World.putObj_heap_other hk
    have HB52 : Hid (Below V5.heap.size V5 W2) := by rw [← hW2]; exact hb1.trans ((hW.mono (by omega)).trans (putObj_below (by omega)))
    have HR2 : Hid (∃ r : Loop, W1.heap[V5.heap.size + 1]? = some (.loop r) ∧ r.pending = none ∧ r.state = .ready ∧ W2.heap[V5.heap.size + 1]? = some (.loop { r with state := .busy })) := ⟨_, HREC.out, rfl, rfl, by rw [← hW2]; exact World.putObj_heap_same (by omega)⟩
    have hs2 : W.heap.size = W2.heap.size := by rw [← hW2]; simp [World.putObj]
    clear hW2
    have HS8 := hd (HS6.out.below HB52.out)
    have HK9 := hd (HK8.out.below HB52.out hk8)
    have HC8 := hd (HC.out.below HS8.out.low)
    have e0 := HS8.out.k0.cell 0
    have e5 := HS8.out.k5.cell 0
    have ep := (HC8.out.blk.cell 0).trans HC8.out.cols
    simp at e0 e5
    have g0 := HS8.out.k0.lt
    have g5 := HS8.out.k5.lt
    have gp := HC8.out.blk.lt
    have hgx := HS8.out.cx
    rw [← HEV.out] at hgx
    have HVL := hd (Tb.values_one e HE.out (.slice (some ⟨g, 0, none⟩) 1 cap) (.slice (some ⟨gv, 0, none⟩) 1 cv) gx cx (World.drew W2) HS8.out.hx hgx)
    have HCA : Hid ((∃ k, Mg.val e = .error k) ∨ (∃ z, Mg.val e = .ok z)) := by
     show _ ∨ _
     cases Mg.val e with
     | error k => exact .inl ⟨k, rfl⟩
     | ok z => exact .inr ⟨z, rfl⟩
    clear hrW hgx
    gi_wp2
    gi_cut [10] from 41 (fun s10 wx => ∃ z gw cw, s10 = .slice (some ⟨gw, 0, none⟩) 1 cw ∧ Mg.val e = .ok z ∧ W2.heap.size ≤ gw ∧ Tb.RowAt wx gw z ∧ Below W2.heap.size W2 wx)
    case first =>
     gi_region_with (
       refine ⟨trivial, (fun h => by cases h), (CallsIn.inRound _ (callsIn_wide.2 HVL.out)).mono ?_⟩
       rintro x W3 ⟨hb3, hx⟩
       have HB3 : Hid (Below W2.heap.size W2 W3) := ((Below.refl _ W2).drew).trans hb3
       rcases HCA.out with ⟨k, hk⟩ | ⟨z, hz⟩
       · rw [hk] at hx
         obtain rfl := hx
         refine ⟨rfl, ⟨?_, ?_⟩, .inr ⟨_, rfl, k, hk, rfl, HS8.out.low.trans (HB3.out.mono HS8.out.low.size), ?_, ?_⟩⟩
         · have := HB3.out.size; omega
         · intro j h1 h2
           rw [HB3.out.block j (by omega), HP.out j (by omega)]
         · rw [HB3.out.block _ (by omega), HP.out _ (by omega), hdW]
         · have := HB3.out.size; omega
       rw [hz] at hx
       obtain ⟨v, rfl, hown⟩ := hx
       obtain ⟨gw, cw, rfl, hgl, hgw, _, _, hcw⟩ := Tb.own_open hown (by decide)
       have HRW : Hid (Tb.RowAt W3 gw z) := ⟨hgw, hcw 0 _ rfl, hcw 1 _ rfl, hcw 2 _ rfl⟩
       have hgl2 : W2.heap.size ≤ gw := hgl
       have HZ := hd hz
       clear hb3 hown hcw hgl hgw hz)
     all_goals
      gi_wp2
      gi_meet
      exact ⟨z, gw, cw, rfl, HZ.out, hgl2, HRW.out, HB3.out⟩
    case rest =>
     obtain ⟨z, gw, cw, rfl, hz, hgl2, hRW, hb3⟩ := hcut
     have HZ := hd hz
     have HRW := hd hRW
     have HB3 := hd hb3
     clear hz hRW hb3 HVL HCA e0 e5 ep g0 g5 gp
     have HS9 := hd (HS8.out.below HB3.out)
     have HC9 := hd (HC.out.below HS9.out.low)
     have HK10 := hd (HK9.out.below HB3.out HK9.out.lt)
     have e0 := HS9.out.k0.cell 0
     have e6 := HS9.out.k6.cell 0
     have e7 := HK10.out.cell 0
     have f7 := HK10.out.free 0
     have ep := (HC9.out.blk.cell 0).trans HC9.out.cols
     simp at e0 e6 e7
     have g0 := HS9.out.k0.lt
     have g6 := HS9.out.k6.lt
     have g7 := HK10.out.lt
     have gp := HC9.out.blk.lt
     gi_wp2
     refine region_round (S := fun w' => w'.cell? ⟨w.heap.size, 0, none⟩ = some (.pointer (some ⟨p, 0, none⟩)) ∧ w'.cell? ⟨p, 0, none⟩ = some (.slice (some ⟨g, 0, none⟩) 1 cap) ∧ w'.cell? ⟨b6, 0, none⟩ = some (.slice none 0 0)) (by kernel_rfl) ?hL (by kernel_rfl) ?hS (fun hHeld => ?_)
     case hL => rintro ⟨a, w, h⟩; exact h
     case hS => exact ⟨e0, ep, e6⟩
     refine wpAnyH_take (i := 1) (v := (.slice (some ⟨gw, 0, none⟩) 1 cw)) rfl (by kernel_rfl) (by kernel_rfl) (by kernel_rfl) (fun _ _ _ h => h) (Or.inl ⟨by rfl, ?_⟩) (by assumption) ?_
     · intro w hSw
       try dsimp only at hSw
       go_simp
     simp only [Act.put, List.setIfInBounds_toArray, List.set_cons_zero, List.set_cons_succ]
     refine wpAnyH_take (i := 2) (v := (.pointer (some ⟨p, 0, none⟩))) rfl (by kernel_rfl) (by kernel_rfl) (by kernel_rfl) (fun _ _ _ h => h) (Or.inl ⟨by rfl, ?_⟩) (by assumption) ?_
     · intro w hSw
       try dsimp only at hSw
       go_simp
     simp only [Act.put, List.setIfInBounds_toArray, List.set_cons_zero, List.set_cons_succ]
     refine wpAnyH_take (i := 3) (v := (.pointer (some ⟨p, 0, none⟩))) rfl (by kernel_rfl) (by kernel_rfl) (by kernel_rfl) (fun _ _ _ h => h) (Or.inl ⟨by rfl, ?_⟩) (by assumption) ?_
     · intro w hSw
       try dsimp only at hSw
       go_simp
     simp only [Act.put, List.setIfInBounds_toArray, List.set_cons_zero, List.set_cons_succ]
     refine wpAnyH_take (i := 4) (v := (.pointer (some ⟨p, 0, none⟩))) rfl (by kernel_rfl) (by kernel_rfl) (by kernel_rfl) (fun _ _ _ h => h) (Or.inl ⟨by rfl, ?_⟩) (by assumption) ?_
     · intro w hSw
       try dsimp only at hSw
       go_simp
     simp only [Act.put, List.setIfInBounds_toArray, List.set_cons_zero, List.set_cons_succ]
     refine wpAnyH_take (i := 5) (v := (.slice (some ⟨g, 0, none⟩) 1 cap)) rfl (by kernel_rfl) (by kernel_rfl) (by kernel_rfl) (fun _ _ _ h => h) (Or.inl ⟨by rfl, ?_⟩) (by assumption) ?_
     · intro w hSw
       try dsimp only at hSw
       go_simp
     simp only [Act.put, List.setIfInBounds_toArray, List.set_cons_zero, List.set_cons_succ]
     refine wpAnyH_take (i := 6) (v := (.slice none 0 0)) rfl (by kernel_rfl) (by kernel_rfl) (by kernel_rfl) (fun _ _ _ h => h) (Or.inl ⟨by rfl, ?_⟩) (by assumption) ?_
     · intro w hSw
       try dsimp only at hSw
       go_simp
     simp only [Act.put, List.setIfInBounds_toArray, List.set_cons_zero, List.set_cons_succ]
     refine wpAnyH_take (i := 7) (v := (.slice (some ⟨gv, 0, none⟩) 1 cv)) rfl (by kernel_rfl) (by kernel_rfl) (by kernel_rfl) (fun _ _ _ h => h) (Or.inl ⟨by rfl, ?_⟩) (by assumption) ?_
     · intro w hSw
       try dsimp only at hSw
       go_simp
     simp only [Act.put, List.setIfInBounds_toArray, List.set_cons_zero, List.set_cons_succ]
     obtain ⟨j0, hj, hy0, hy1, hy2⟩ := info_parts Tryz.info172
     refine wpAnyH_ready (rs := [0, 8]) (by kernel_rfl) (by simp) ?_
     refine AllReadyH.cons rfl (fun K hK => ?_) (AllReadyH.cons rfl (fun K hK => ?_) AllReadyH.nil)
     · go_simp
       refine hK.out _ _ ⟨e0, ep, e6⟩ (fun hHeld => ?_)
       clear hK K
       try simp only [Act.put, List.setIfInBounds_toArray, List.set_cons_zero, List.set_cons_succ]
       refine wpAnyH_ready (rs := [8]) (by kernel_rfl) (by simp) ?_
       refine AllReadyH.cons rfl (fun K hK => ?_) AllReadyH.nil
       go_simp
       refine (Tq.values_none _ _ _).mono ?_
       rintro x wz ⟨rfl, rfl⟩
       refine hK.out _ _ ⟨e0, ep, e6⟩ (fun hHeld => ?_)
       clear hK K
       try simp only [Act.put, List.setIfInBounds_toArray, List.set_cons_zero, List.set_cons_succ]
       refine wpAnyH_take (i := 9) (v := (.agg #[.slice (some ⟨gw, 0, none⟩) 1 cw, .slice none 0 0])) rfl (by kernel_rfl) (by kernel_rfl) (by kernel_rfl) (fun _ _ _ h => h) (Or.inl ⟨by rfl, ?_⟩) (by assumption) ?_
       · intro w hSw
         try dsimp only at hSw
         go_simp
       try simp only [Act.put, List.setIfInBounds_toArray, List.set_cons_zero, List.set_cons_succ]
       refine wpAnyH_ready (rs := [10]) (by kernel_rfl) (by simp) ?_
       refine AllReadyH.cons rfl (fun K hK => ?_) AllReadyH.nil
       go_simp
       refine hK.out _ _ ⟨cell_new e0, cell_new ep, cell_new e6⟩ (fun hHeld => ?_)
       clear hK K
       try simp only [Act.put, List.setIfInBounds_toArray, List.set_cons_zero, List.set_cons_succ]
       refine wpAnyH_ready (rs := [11]) (by kernel_rfl) (by simp) ?_
       refine AllReadyH.cons rfl (fun K hK => ?_) AllReadyH.nil
       rw [if_pos (by rfl)]
       refine wp_append_own _ _ _ 170 rfl wc.heap.size 172 j0 (.agg #[.slice none 0 0, .slice none 0 0]) 2 48 Tryz.underlying170 hj hy0 hy1 hy2 rfl (by decide) (.slice none 0 0) 0 [] rfl (World.ownsRow_nil _ _ _ _) ⟨wc.heap.size, 0, none⟩ 1 1 [.slice (some ⟨gw, 0, none⟩) 1 cw, .slice none 0 0] rfl rfl (Tb.twoNews (World.drew wc) _ _ _) (by intro u hu; simp at hu; rcases hu with rfl | rfl <;> rfl) (by simp [maxLen]) (by omega) (by simp) ?_
       intro v' w5 hown hgrow _
       obtain ⟨gf', cf', rfl, hgl5, hgf5, _, _, hcf5⟩ := Tb.own_open hown (by decide)
       have HB5 : Hid (Below wc.heap.size wc w5) := by
        have h1 := (Below.refl wc.heap.size wc).drew.alloc (Nat.le_refl _) (.cells #[.slice (some ⟨gw, 0, none⟩) 1 cw, .slice none 0 0] 172)
        exact ⟨hgrow.os.trans h1.os, hgrow.tape.trans h1.tape, hgrow.output.trans h1.output, Nat.le_trans h1.size hgrow.size, fun k hk => (hgrow.block k (Nat.lt_of_lt_of_le hk h1.size) (by simp [Value.ownBlock])).trans (h1.block k hk)⟩
       have HF0 := hd (hcf5 0 _ rfl)
       have HF1 := hd (hcf5 1 _ rfl)
       have HS10 := hd (HS9.out.below HB5.out)
       have HC10 := hd (HC.out.below HS10.out.low)
       have HK11 := hd (HK10.out.below HB5.out g7)
       have x0 := HS10.out.k0.cell 0
       have x6 := HS10.out.k6.cell 0
       have x7 := HK11.out.cell 0
       have y7 := HK11.out.free 0
       have xp := (HC10.out.blk.cell 0).trans HC10.out.cols
       simp at x0 x6 x7
       have h7 := HK11.out.lt
       clear hown hgrow hcf5
       refine hK.out _ _ ⟨x0, xp, x6⟩ (fun hHeld => ?_)
       clear hK K
       try simp only [Act.put, List.setIfInBounds_toArray, List.set_cons_zero, List.set_cons_succ]
       refine wpAnyH_ready (rs := [12]) (by kernel_rfl) (by simp) ?_
       refine AllReadyH.cons rfl (fun K hK => ?_) AllReadyH.nil
       go_simp
       have hlt := HLT.out
       refine hK.out _ _ ⟨cell_far (by show b7 ≠ w.heap.size; omega) x0, cell_far (by show b7 ≠ p; omega) xp, cell_far (by show b7 ≠ b6; omega) x6⟩ (fun hHeld => ?_)
       clear hK K
       refine wpAnyH_done (by kernel_rfl) ?_ _
       obtain ⟨r, hr1, hp1, hs1', hr2⟩ := HR2.out
       have hsz2 := HB3.out.size
       have hsz5 := HB5.out.size
       have hr4 : (w5.setCell ⟨b7, 0, none⟩ (.slice (some ⟨gf', 0, none⟩) 1 cf')).heap[V5.heap.size + 1]? = some (.loop { r with state := .busy }) := by
        rw [Below.heap_setCell _ _ _ _ (by show V5.heap.size + 1 ≠ b7; omega), HB5.out.block _ (by omega), HB3.out.block _ (by omega), hr2]
       refine ⟨_, _, run_endRound none hr4, ⟨?_, ?_⟩, .inl ⟨rfl, z, gw, cw, gf', cf', HZ.out, (HS10.out.set7 ⟨hlt.1, hlt.2.1, hlt.2.2.1, hlt.2.2.2.1⟩).upto (B := V5.heap.size) (putObj_below (by omega)) (by omega), (Blk.set1 (u := .slice none 0 0) HK11.out).below (B := V5.heap.size) (putObj_below (by omega)) hk8, ⟨by omega, ?_⟩, ?_, ?_, by omega, ?_, ?_, ?_⟩⟩
       · simp [World.putObj]; omega
       · intro j h1 h2
         rw [World.putObj_heap_other (by omega), Below.heap_setCell _ _ _ _ (by show j ≠ b7; omega), HB5.out.block _ (by omega), HB3.out.block _ (by omega), HP.out _ (by omega)]
       · simp [World.putObj]; omega
       · exact (World.cell?_of_block (w := w5) ((World.putObj_heap_other (by show gf' ≠ _; omega)).trans (Below.heap_setCell _ _ _ _ (by show gf' ≠ b7; omega)))).trans HF0.out
       · exact (World.cell?_of_block (w := w5) ((World.putObj_heap_other (by show gf' ≠ _; omega)).trans (Below.heap_setCell _ _ _ _ (by show gf' ≠ b7; omega)))).trans HF1.out
       · refine rowAt_block HRW.out (by simp [World.putObj]; omega) ?_
         have hgw := HRW.out.lt
         rw [World.putObj_heap_other (by omega), Below.heap_setCell _ _ _ _ (by show gw ≠ b7; omega), HB5.out.block _ (by omega)]
       · rw [World.putObj_heap_same (by simp; omega), hr1]
         cases r
         cases hp1
         cases hs1'
         rfl
       · rw [World.putObj_heap_other (by omega), Below.heap_setCell _ _ _ _ (by show V5.heap.size ≠ b7; omega), HB5.out.block _ (by omega), HB3.out.block _ (by omega), HP.out _ (by omega), hdW]
     · go_simp
       refine (Tq.values_none _ _ _).mono ?_
       rintro x wz ⟨rfl, rfl⟩
       refine hK.out _ _ ⟨e0, ep, e6⟩ (fun hHeld => ?_)
       clear hK K
       try simp only [Act.put, List.setIfInBounds_toArray, List.set_cons_zero, List.set_cons_succ]
       refine wpAnyH_take (i := 9) (v := (.agg #[.slice (some ⟨gw, 0, none⟩) 1 cw, .slice none 0 0])) rfl (by kernel_rfl) (by kernel_rfl) (by kernel_rfl) (fun _ _ _ h => h) (Or.inl ⟨by rfl, ?_⟩) (by assumption) ?_
       · intro w hSw
         try dsimp only at hSw
         go_simp
       try simp only [Act.put, List.setIfInBounds_toArray, List.set_cons_zero, List.set_cons_succ]
       refine wpAnyH_ready (rs := [0, 10]) (by kernel_rfl) (by simp) ?_
       refine AllReadyH.cons rfl (fun K hK => ?_) (AllReadyH.cons rfl (fun K hK => ?_) AllReadyH.nil)
       · go_simp
         refine hK.out _ _ ⟨e0, ep, e6⟩ (fun hHeld => ?_)
         clear hK K
         try simp only [Act.put, List.setIfInBounds_toArray, List.set_cons_zero, List.set_cons_succ]
         refine wpAnyH_ready (rs := [10]) (by kernel_rfl) (by simp) ?_
         refine AllReadyH.cons rfl (fun K hK => ?_) AllReadyH.nil
         go_simp
         refine hK.out _ _ ⟨cell_new e0, cell_new ep, cell_new e6⟩ (fun hHeld => ?_)
         clear hK K
         try simp only [Act.put, List.setIfInBounds_toArray, List.set_cons_zero, List.set_cons_succ]
         refine wpAnyH_ready (rs := [11]) (by kernel_rfl) (by simp) ?_
         refine AllReadyH.cons rfl (fun K hK => ?_) AllReadyH.nil
         rw [if_pos (by rfl)]
         refine wp_append_own _ _ _ 170 rfl wc.heap.size 172 j0 (.agg #[.slice none 0 0, .slice none 0 0]) 2 48 Tryz.underlying170 hj hy0 hy1 hy2 rfl (by decide) (.slice none 0 0) 0 [] rfl (World.ownsRow_nil _ _ _ _) ⟨wc.heap.size, 0, none⟩ 1 1 [.slice (some ⟨gw, 0, none⟩) 1 cw, .slice none 0 0] rfl rfl (Tb.twoNews (World.drew wc) _ _ _) (by intro u hu; simp at hu; rcases hu with rfl | rfl <;> rfl) (by simp [maxLen]) (by omega) (by simp) ?_
         intro v' w5 hown hgrow _
         obtain ⟨gf', cf', rfl, hgl5, hgf5, _, _, hcf5⟩ := Tb.own_open hown (by decide)
         have HB5 : Hid (Below wc.heap.size wc w5) := by
          have h1 := (Below.refl wc.heap.size wc).drew.alloc (Nat.le_refl _) (.cells #[.slice (some ⟨gw, 0, none⟩) 1 cw, .slice none 0 0] 172)
          exact ⟨hgrow.os.trans h1.os, hgrow.tape.trans h1.tape, hgrow.output.trans h1.output, Nat.le_trans h1.size hgrow.size, fun k hk => (hgrow.block k (Nat.lt_of_lt_of_le hk h1.size) (by simp [Value.ownBlock])).trans (h1.block k hk)⟩
         have HF0 := hd (hcf5 0 _ rfl)
         have HF1 := hd (hcf5 1 _ rfl)
         have HS10 := hd (HS9.out.below HB5.out)
         have HC10 := hd (HC.out.below HS10.out.low)
         have HK11 := hd (HK10.out.below HB5.out g7)
         have x0 := HS10.out.k0.cell 0
         have x6 := HS10.out.k6.cell 0
         have x7 := HK11.out.cell 0
         have y7 := HK11.out.free 0
         have xp := (HC10.out.blk.cell 0).trans HC10.out.cols
         simp at x0 x6 x7
         have h7 := HK11.out.lt
         clear hown hgrow hcf5
         refine hK.out _ _ ⟨x0, xp, x6⟩ (fun hHeld => ?_)
         clear hK K
         try simp only [Act.put, List.setIfInBounds_toArray, List.set_cons_zero, List.set_cons_succ]
         refine wpAnyH_ready (rs := [12]) (by kernel_rfl) (by simp) ?_
         refine AllReadyH.cons rfl (fun K hK => ?_) AllReadyH.nil
         go_simp
         have hlt := HLT.out
         refine hK.out _ _ ⟨cell_far (by show b7 ≠ w.heap.size; omega) x0, cell_far (by show b7 ≠ p; omega) xp, cell_far (by show b7 ≠ b6; omega) x6⟩ (fun hHeld => ?_)
         clear hK K
         refine wpAnyH_done (by kernel_rfl) ?_ _
         obtain ⟨r, hr1, hp1, hs1', hr2⟩ := HR2.out
         have hsz2 := HB3.out.size
         have hsz5 := HB5.out.size
         have hr4 : (w5.setCell ⟨b7, 0, none⟩ (.slice (some ⟨gf', 0, none⟩) 1 cf')).heap[V5.heap.size + 1]? = some (.loop { r with state := .busy }) := by
          rw [Below.heap_setCell _ _ _ _ (by show V5.heap.size + 1 ≠ b7; omega), HB5.out.block _ (by omega), HB3.out.block _ (by omega), hr2]
         refine ⟨_, _, run_endRound none hr4, ⟨?_, ?_⟩, .inl ⟨rfl, z, gw, cw, gf', cf', HZ.out, (HS10.out.set7 ⟨hlt.1, hlt.2.1, hlt.2.2.1, hlt.2.2.2.1⟩).upto (B := V5.heap.size) (putObj_below (by omega)) (by omega), (Blk.set1 (u := .slice none 0 0) HK11.out).below (B := V5.heap.size) (putObj_below (by omega)) hk8, ⟨by omega, ?_⟩, ?_, ?_, by omega, ?_, ?_, ?_⟩⟩
         · simp [World.putObj]; omega
         · intro j h1 h2
           rw [World.putObj_heap_other (by omega), Below.heap_setCell _ _ _ _ (by show j ≠ b7; omega), HB5.out.block _ (by omega), HB3.out.block _ (by omega), HP.out _ (by omega)]
         · simp [World.putObj]; omega
         · exact (World.cell?_of_block (w := w5) ((World.putObj_heap_other (by show gf' ≠ _; omega)).trans (Below.heap_setCell _ _ _ _ (by show gf' ≠ b7; omega)))).trans HF0.out
         · exact (World.cell?_of_block (w := w5) ((World.putObj_heap_other (by show gf' ≠ _; omega)).trans (Below.heap_setCell _ _ _ _ (by show gf' ≠ b7; omega)))).trans HF1.out
         · refine rowAt_block HRW.out (by simp [World.putObj]; omega) ?_
           have hgw := HRW.out.lt
           rw [World.putObj_heap_other (by omega), Below.heap_setCell _ _ _ _ (by show gw ≠ b7; omega), HB5.out.block _ (by omega)]
         · rw [World.putObj_heap_same (by simp; omega), hr1]
           cases r
           cases hp1
           cases hs1'
           rfl
         · rw [World.putObj_heap_other (by omega), Below.heap_setCell _ _ _ _ (by show V5.heap.size ≠ b7; omega), HB5.out.block _ (by omega), HB3.out.block _ (by omega), HP.out _ (by omega), hdW]
       · go_simp
         refine hK.out _ _ ⟨cell_new e0, cell_new ep, cell_new e6⟩ (fun hHeld => ?_)
         clear hK K
         try simp only [Act.put, List.setIfInBounds_toArray, List.set_cons_zero, List.set_cons_succ]
         refine wpAnyH_ready (rs := [0]) (by kernel_rfl) (by simp) ?_
         refine AllReadyH.cons rfl (fun K hK => ?_) AllReadyH.nil
         go_simp
         refine hK.out _ _ hHeld (fun hHeld => ?_)
         clear hK K
         try simp only [Act.put, List.setIfInBounds_toArray, List.set_cons_zero, List.set_cons_succ]
         refine wpAnyH_ready (rs := [11]) (by kernel_rfl) (by simp) ?_
         refine AllReadyH.cons rfl (fun K hK => ?_) AllReadyH.nil
         rw [if_pos (by rfl)]
         refine wp_append_own _ _ _ 170 rfl wc.heap.size 172 j0 (.agg #[.slice none 0 0, .slice none 0 0]) 2 48 Tryz.underlying170 hj hy0 hy1 hy2 rfl (by decide) (.slice none 0 0) 0 [] rfl (World.ownsRow_nil _ _ _ _) ⟨wc.heap.size, 0, none⟩ 1 1 [.slice (some ⟨gw, 0, none⟩) 1 cw, .slice none 0 0] rfl rfl (Tb.twoNews (World.drew wc) _ _ _) (by intro u hu; simp at hu; rcases hu with rfl | rfl <;> rfl) (by simp [maxLen]) (by omega) (by simp) ?_
         intro v' w5 hown hgrow _
         obtain ⟨gf', cf', rfl, hgl5, hgf5, _, _, hcf5⟩ := Tb.own_open hown (by decide)
         have HB5 : Hid (Below wc.heap.size wc w5) := by
          have h1 := (Below.refl wc.heap.size wc).drew.alloc (Nat.le_refl _) (.cells #[.slice (some ⟨gw, 0, none⟩) 1 cw, .slice none 0 0] 172)
          exact ⟨hgrow.os.trans h1.os, hgrow.tape.trans h1.tape, hgrow.output.trans h1.output, Nat.le_trans h1.size hgrow.size, fun k hk => (hgrow.block k (Nat.lt_of_lt_of_le hk h1.size) (by simp [Value.ownBlock])).trans (h1.block k hk)⟩
         have HF0 := hd (hcf5 0 _ rfl)
         have HF1 := hd (hcf5 1 _ rfl)
         have HS10 := hd (HS9.out.below HB5.out)
         have HC10 := hd (HC.out.below HS10.out.low)
         have HK11 := hd (HK10.out.below HB5.out g7)
         have x0 := HS10.out.k0.cell 0
         have x6 := HS10.out.k6.cell 0
         have x7 := HK11.out.cell 0
         have y7 := HK11.out.free 0
         have xp := (HC10.out.blk.cell 0).trans HC10.out.cols
         simp at x0 x6 x7
         have h7 := HK11.out.lt
         clear hown hgrow hcf5
         refine hK.out _ _ ⟨x0, xp, x6⟩ (fun hHeld => ?_)
         clear hK K
         try simp only [Act.put, List.setIfInBounds_toArray, List.set_cons_zero, List.set_cons_succ]
         refine wpAnyH_ready (rs := [12]) (by kernel_rfl) (by simp) ?_
         refine AllReadyH.cons rfl (fun K hK => ?_) AllReadyH.nil
         go_simp
         have hlt := HLT.out
         refine hK.out _ _ ⟨cell_far (by show b7 ≠ w.heap.size; omega) x0, cell_far (by show b7 ≠ p; omega) xp, cell_far (by show b7 ≠ b6; omega) x6⟩ (fun hHeld => ?_)
         clear hK K
         refine wpAnyH_done (by kernel_rfl) ?_ _
         obtain ⟨r, hr1, hp1, hs1', hr2⟩ := HR2.out
         have hsz2 := HB3.out.size
         have hsz5 := HB5.out.size
         have hr4 : (w5.setCell ⟨b7, 0, none⟩ (.slice (some ⟨gf', 0, none⟩) 1 cf')).heap[V5.heap.size + 1]? = some (.loop { r with state := .busy }) := by
          rw [Below.heap_setCell _ _ _ _ (by show V5.heap.size + 1 ≠ b7; omega), HB5.out.block _ (by omega), HB3.out.block _ (by omega), hr2]
         refine ⟨_, _, run_endRound none hr4, ⟨?_, ?_⟩, .inl ⟨rfl, z, gw, cw, gf', cf', HZ.out, (HS10.out.set7 ⟨hlt.1, hlt.2.1, hlt.2.2.1, hlt.2.2.2.1⟩).upto (B := V5.heap.size) (putObj_below (by omega)) (by omega), (Blk.set1 (u := .slice none 0 0) HK11.out).below (B := V5.heap.size) (putObj_below (by omega)) hk8, ⟨by omega, ?_⟩, ?_, ?_, by omega, ?_, ?_, ?_⟩⟩
         · simp [World.putObj]; omega
         · intro j h1 h2
           rw [World.putObj_heap_other (by omega), Below.heap_setCell _ _ _ _ (by show j ≠ b7; omega), HB5.out.block _ (by omega), HB3.out.block _ (by omega), HP.out _ (by omega)]
         · simp [World.putObj]; omega
         · exact (World.cell?_of_block (w := w5) ((World.putObj_heap_other (by show gf' ≠ _; omega)).trans (Below.heap_setCell _ _ _ _ (by show gf' ≠ b7; omega)))).trans HF0.out
         · exact (World.cell?_of_block (w := w5) ((World.putObj_heap_other (by show gf' ≠ _; omega)).trans (Below.heap_setCell _ _ _ _ (by show gf' ≠ b7; omega)))).trans HF1.out
         · refine rowAt_block HRW.out (by simp [World.putObj]; omega) ?_
           have hgw := HRW.out.lt
           rw [World.putObj_heap_other (by omega), Below.heap_setCell _ _ _ _ (by show gw ≠ b7; omega), HB5.out.block _ (by omega)]
         · rw [World.putObj_heap_same (by simp; omega), hr1]
           cases r
           cases hp1
           cases hs1'
           rfl
         · rw [World.putObj_heap_other (by omega), Below.heap_setCell _ _ _ _ (by show V5.heap.size ≠ b7; omega), HB5.out.block _ (by omega), HB3.out.block _ (by omega), HP.out _ (by omega), hdW]
  · rintro e0 W' (⟨rfl, W0, ⟨z, gw, cw, gf, cf, hz, hs, hk7, ⟨hg1, hg2⟩, hf0, hf1, hgw, hrow, hrec', hdef'⟩, b0⟩ | ⟨c, rfl, W0, ⟨k, hk, hflt, hlow, hdef', hsz0⟩, b0⟩)
    · have hlt := HLT.out
      have hbW : Below V5.heap.size W0 W' := b0.below (by omega) (by omega)
      have hr2 := ((b0.block (V5.heap.size + 1) (.inl (by omega)) (by omega)).trans hrec').trans HREC.out
      have hd2 := ((b0.block V5.heap.size (.inl (by omega)) (by omega)).trans hdef').trans HDEF.out
      refine ⟨_, _, run_endLoop hr2 (by simp [loopRec]), ?_⟩
      generalize hW8 : W'.putObj (V5.heap.size + 1) _ = W8
      have HS11 : Hid (Sl w W8 p gi ci tn ao co et ex b5 b6 gx cx) := by rw [← hW8]; exact (hs.upto hbW (by omega)).upto (B := V5.heap.size) (putObj_below (by omega)) (by omega)
      have HK12 : Hid (Blk W8 b7 #[.slice (some ⟨gf, 0, none⟩) 1 cf] 170) := by rw [← hW8]; exact (hk7.below hbW hk8).below (B := V5.heap.size) (putObj_below (by omega)) hk8
      have HD8 : Hid (W8.heap[V5.heap.size]? = some (.deferred (some []))) := by rw [← hW8]; exact (World.putObj_heap_other (by omega)).trans hd2
      have hbg : W8.heap[gf]? = W0.heap[gf]? := by rw [← hW8]; exact (World.putObj_heap_other (by omega)).trans (b0.block gf (.inr (by omega)) hg2)
      have q0 := (World.cell?_of_block (w := W0) (a := ⟨gf, 0, none⟩) hbg).trans hf0
      have q1 := (World.cell?_of_block (w := W0) (a := ⟨gf, 1, none⟩) hbg).trans hf1
      have hsz : W0.heap.size ≤ W8.heap.size := by rw [← hW8]; simp [World.putObj]; exact b0.size
      have HRW8 : Hid (Tb.RowAt W8 gw z) := rowAt_block hrow hsz (by have := hrow.lt; rw [← hW8]; exact (World.putObj_heap_other (by omega)).trans (b0.block gw (.inr (by omega)) this))
      have hgf8 : gf < W8.heap.size := by omega
      have HZ := hd hz
      have HL : Hid (V5.heap.size < W8.heap.size ∧ w.heap.size ≤ gw) := ⟨by omega, by omega⟩
      clear hW8 hr2 hd2 hs hk7 hf0 hf1 hrow hrec' hdef' b0 hbW HREC HDEF HB1 HS7 HT0 HT1 HS6 HK8 hb1
      refine atFn_of (n := 0) (wpIn_wide.2 ?_)
      have k7 := HK12.out.cell 0
      have k4 := HS11.out.k1.cell 4
      have k5 := HS11.out.k5.cell 0
      simp at k7 k4 k5
      have l7 := HK12.out.lt
      have l1 := HS11.out.k1.lt
      have l5 := HS11.out.k5.lt
      go_wp2_with fail
      refine (Tq.sort_one _ _ _ _ _).mono ?_
      rintro x W8 ⟨rfl, rfl⟩
      go_wp2_with fail
      clear k7 k4 k5 l7 l1 l5
      obtain ⟨j0, hj, hy0, hy1, hy2⟩ := info_parts Tb.Tryz.info24
      go_loopw [77] (fun i wr => (i = .int .i64 0 ∧ wr = W8.alloc (.cells #[.int .i64 1, .slice none 0 0, .int .i64 0] 33)) ∨ (i = .int .i64 1 ∧ ∃ v, Hid (Below W8.heap.size W8 wr) ∧ Hid (Blk wr W8.heap.size #[.int .i64 1, v, .int .i64 0] 33) ∧ Hid (wr.ownsRow (W8.heap.size + 2) 24 3 v 1 [.int .i64 16, .int .i64 z, .string ⟨#[]⟩]))) (fun i _ => 1 - (intOf i).toNat)
      case atStart => exact .inl ⟨rfl, rfl⟩
      case round =>
       obtain ⟨rfl, rfl⟩ | ⟨rfl, v, HBv, HKv, HOv⟩ := hrel
       · have r0 := cell_new (o := .cells #[.int .i64 1, .slice none 0 0, .int .i64 0] 33) q0
         have r1 := cell_new (o := .cells #[.int .i64 1, .slice none 0 0, .int .i64 0] 33) q1
         have hb0 : Below W8.heap.size W8 ((W8.alloc (.cells #[.int .i64 1, .slice none 0 0, .int .i64 0] 33)).alloc (.cells #[.slice (some ⟨gw, 0, none⟩) 1 cw, .slice none 0 0] 172)) := by go_grown
         have HB0 := hd hb0
         have HRX := hd (HRW8.out.below hb0)
         have HKX := hd ((Blk.new W8 #[.int .i64 1, .slice none 0 0, .int .i64 0] 33).alloc (.cells #[.slice (some ⟨gw, 0, none⟩) 1 cw, .slice none 0 0] 172))
         have a1 := (Blk.new W8 #[.int .i64 1, .slice none 0 0, .int .i64 0] 33).cell 1
         simp at a1
         clear hb0
         go_wp2_with (first
          | (at_builtin; refine wpList_append_own _ rfl _ _ 31 rfl (W8.heap.size + 2) 24 j0 (.agg #[.int .i64 0, .int .i64 0, .string ⟨#[]⟩]) 3 32 Tryz.underlying31 hj hy0 hy1 hy2 rfl (by decide) _ _ _ rfl (World.ownsRow_nil _ _ _ _) ⟨gw, 0, none⟩ 1 cw [.int .i64 16, .int .i64 z, .string ⟨#[]⟩] rfl rfl ?c1 ?c2 ?c3 ?c4 ?c5 ?_)
          | fail)
         case c1 =>
          intro j u hu
          rw [Addr.add_lit, Nat.zero_add]
          match j, hu with
          | 0, hu => rw [HRX.out.c0]; simpa using hu
          | 1, hu => rw [HRX.out.c1]; simpa using hu
          | 2, hu => rw [HRX.out.c2]; simpa using hu
          | j + 3, hu => simp at hu
         case c2 => intro u hu; simp at hu; rcases hu with rfl | rfl | rfl <;> rfl
         case c3 => simp [maxLen]
         case c4 => omega
         case c5 => simp
         intro v' w3 hown hgrow _
         have hb3 : Below ((W8.alloc (.cells #[.int .i64 1, .slice none 0 0, .int .i64 0] 33)).alloc (.cells #[.slice (some ⟨gw, 0, none⟩) 1 cw, .slice none 0 0] 172)).heap.size ((W8.alloc (.cells #[.int .i64 1, .slice none 0 0, .int .i64 0] 33)).alloc (.cells #[.slice (some ⟨gw, 0, none⟩) 1 cw, .slice none 0 0] 172)) w3 :=
          ⟨hgrow.os, hgrow.tape, hgrow.output, hgrow.size, fun k hk => hgrow.block k hk (by simp [Value.ownBlock])⟩
         have HB3 : Hid (Below W8.heap.size W8 w3) := HB0.out.trans (hb3.mono HB0.out.size)
         have HK3 := hd (HKX.out.below hb3 HKX.out.lt)
         have c1 := HK3.out.cell 1
         have f1 := HK3.out.free 1
         simp at c1
         have l3 := HK3.out.lt
         have HO3 := hd hown
         have hne : w.heap.size ≤ W8.heap.size := HS11.out.low.size
         obtain ⟨g9, c9, rfl, hge9, _⟩ := Tb.own_open hown (by decide)
         clear hown hgrow hb3
         go_wp2_with fail
         go_roundw
         case rel => exact .inr ⟨rfl, _, HB3.out.setCell (Nat.le_refl _) _, hd (by simpa using HK3.out.set 1 (.slice (some ⟨g9, 0, none⟩) 1 c9)), own_far HO3.out _ (by show W8.heap.size < _; omega)⟩
         case measure => simp [intOf]
       · obtain ⟨g9, c9, rfl, hge9, hlt9, _⟩ := Tb.own_open HOv.out (by decide)
         have HS12 := hd (HS11.out.below HBv.out)
         have c0 := HKv.out.cell 0
         have c1 := HKv.out.cell 1
         have c2 := HKv.out.cell 2
         have d0 := HS12.out.k2.cell 0
         have d1 := HS12.out.k2.cell 1
         have d2 := HS12.out.k2.cell 2
         have f0 := HS12.out.k2.free 0
         have f1 := HS12.out.k2.free 1
         have f2 := HS12.out.k2.free 2
         simp at c0 c1 c2 d0 d1 d2
         have lv := HKv.out.lt
         have l2 := HS12.out.k2.lt
         go_wp2_with fail
         have K9 := ((HS12.out.k2.set 0 (.int .i64 1)).set 1 (.slice (some ⟨g9, 0, none⟩) 1 c9)).set 2 (.int .i64 0)
         simp at K9
         have hl := HLT.out
         have hl8 := HL.out
         have hs9 := HBv.out.size
         have HLW := ((HS12.out.low.setCell (p := ⟨w.heap.size + 1 + 1, 0, none⟩) (by show _ ≤ w.heap.size + 1 + 1; omega) (.int .i64 1)).setCell (p := ⟨w.heap.size + 1 + 1, 1, none⟩) (by show _ ≤ w.heap.size + 1 + 1; omega) (.slice (some ⟨g9, 0, none⟩) 1 c9)).setCell (p := ⟨w.heap.size + 1 + 1, 2, none⟩) (by show _ ≤ w.heap.size + 1 + 1; omega) (.int .i64 0)
         have HOW := own_far (own_far (own_far HOv.out (p := ⟨w.heap.size + 1 + 1, 0, none⟩) (.int .i64 1) (by show w.heap.size + 1 + 1 < _; omega)) (p := ⟨w.heap.size + 1 + 1, 1, none⟩) (.slice (some ⟨g9, 0, none⟩) 1 c9) (by show w.heap.size + 1 + 1 < _; omega)) (p := ⟨w.heap.size + 1 + 1, 2, none⟩) (.int .i64 0) (by show w.heap.size + 1 + 1 < _; omega)
         have HDW : (((wr.setCell ⟨w.heap.size + 1 + 1, 0, none⟩ (.int .i64 1)).setCell ⟨w.heap.size + 1 + 1, 1, none⟩ (.slice (some ⟨g9, 0, none⟩) 1 c9)).setCell ⟨w.heap.size + 1 + 1, 2, none⟩ (.int .i64 0)).heap[V5.heap.size]? = some (.deferred (some [])) := by
          rw [Below.heap_setCell _ _ _ _ (by show V5.heap.size ≠ w.heap.size + 1 + 1; omega), Below.heap_setCell _ _ _ _ (by show V5.heap.size ≠ w.heap.size + 1 + 1; omega), Below.heap_setCell _ _ _ _ (by show V5.heap.size ≠ w.heap.size + 1 + 1; omega), HBv.out.block _ hl8.1]
          exact HD8.out
         generalize ((wr.setCell ⟨w.heap.size + 1 + 1, 0, none⟩ (.int .i64 1)).setCell ⟨w.heap.size + 1 + 1, 1, none⟩ (.slice (some ⟨g9, 0, none⟩) 1 c9)).setCell ⟨w.heap.size + 1 + 1, 2, none⟩ (.int .i64 0) = W9 at *
         refine ⟨by simp, .inl ⟨_, _, rfl, run_takeDeferred HDW, ?_⟩⟩
         have K10 := K9.below (putObj_below (o := .deferred none) (Nat.le_refl V5.heap.size)) (by omega)
         have LW := HLW.trans ((putObj_below (o := .deferred none) (Nat.le_refl V5.heap.size)).mono (by omega))
         have OW := own_put HOW (l := V5.heap.size) (.deferred none) (by omega)
         generalize W9.putObj V5.heap.size (.deferred none) = W10 at *
         have r0 := K10.cell 0
         have r1 := K10.cell 1
         have r2 := K10.cell 2
         simp at r0 r1 r2
         refine ⟨.agg #[.int .i64 1, .slice (some ⟨g9, 0, none⟩) 1 c9, .int .i64 0], ?_, LW, ?_⟩
         · simp [results, Tryz.results29, go_sem, r0, r1, r2]
         · rw [HZ.out]
           exact ⟨_, rfl, Ts.own_lower0 OW (by have := HS12.out.low.size; have := HS11.out.low.size; omega)⟩
    · have hd2 := ((b0.block V5.heap.size (.inl (by omega)) (by omega)).trans hdef').trans HDEF.out
      refine ⟨by simp, .inl ⟨_, _, rfl, run_takeDeferred hd2, ?_⟩⟩
      have hw1 := HS7.out.low.size
      have hw5 := HS6.out.low.size
      refine ⟨hlow.trans ((b0.below (by omega) (by omega)).trans (putObj_below (by omega))), ?_⟩
      rw [hk]
      exact hflt.symm
end Tw
end
end Go.Proofs.YtaiebhhommgnbaaGreatDoor
