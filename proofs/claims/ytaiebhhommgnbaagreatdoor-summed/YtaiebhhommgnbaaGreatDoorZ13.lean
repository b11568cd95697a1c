/- Parts of the proof: Eb CpU CpV CpW Ec Ef Ei -/
import Derived.Test.YtaiebhhommgnbaaGreatDoorZ11
import Derived.Test.YtaiebhhommgnbaaGreatDoorZ7
import Derived.Test.YtaiebhhommgnbaaGreatDoorZ10
import Derived.Deep.RegionHeld3
import Derived.Test.YtaiebhhommgnbaaGreatDoorZ12
namespace Go.Proofs.YtaiebhhommgnbaaGreatDoor
set_option linter.unusedSimpArgs false
set_option linter.unusedVariables false
set_option maxRecDepth 100000
set_option maxHeartbeats 16000000
open Go.RowKit
section
namespace Tx
open Tb Tw
def sCs (l : Int) (v : Value) (n : Int) : Array Value := #[.int .i32 l, .int .u32 0, v, .slice none 0 0, .int .i64 n]
def tCs (c r : Value) (n : Int) : Array Value := #[c, r, .slice none 0 0, .int .i64 n, .int .i64 n]
structure One (w : World) (b : Nat) (l : Int) (p g cap ge ce : Nat) (r : Value) (n : Int) : Prop where
 blk : Blk w b (sCs l (.slice (some ⟨ge, 0, none⟩) 1 ce) 1) 52
 hge : ge < w.heap.size
 e0 : w.cell? ⟨ge, 0, none⟩ = some (.string ⟨#[111]⟩)
 e1 : w.cell? ⟨ge, 1, none⟩ = some (.pointer (some ⟨p, 0, none⟩))
 col : OneCol w p g cap ⟨#[97]⟩ (tCs (.slice (some ⟨g, 0, none⟩) 1 cap) r n)
theorem blk_block {w w' : World} {b : Nat} {cs : Array Value} {T : TypeId} (h : Blk w b cs T) (hs : w.heap.size ≤ w'.heap.size) (hb : w'.heap[b]? = w.heap[b]?) : Blk w' b cs T := by
 unfold Blk at *
 first | exact hb.trans h | (obtain ⟨fr, h1⟩ := h; exact ⟨fr, hb.trans h1⟩)
theorem below_apart {a c : Nat} {w w' : World} (h : Below w.heap.size w w') : Apart a c w w' := ⟨h.os, h.tape, h.output, h.size, fun k _ hl => h.block k hl⟩
theorem set_apart {w : World} {b i : Nat} {v : Value} : Apart b (b + 1) w (w.setCell ⟨b, i, none⟩ v) :=
 ⟨rfl, rfl, rfl, by simp, fun k hk _ => Below.heap_setCell _ _ _ _ (by show k ≠ b; omega)⟩
theorem One.apart {w w' : World} {a c b : Nat} {l : Int} {p g cap ge ce : Nat} {r : Value} {n : Int} (h : One w b l p g cap ge ce r n) (ha : Apart a c w w') (hb : b < a ∨ c ≤ b) (hp : p < a ∨ c ≤ p) (hg : g < a ∨ c ≤ g) (hge : ge < a ∨ c ≤ ge) : One w' b l p g cap ge ce r n :=
 ⟨blk_block h.blk ha.size (ha.block b hb h.blk.lt), Nat.lt_of_lt_of_le h.hge ha.size, (ha.cell (p := ⟨ge, 0, none⟩) hge h.hge).trans h.e0, (ha.cell (p := ⟨ge, 1, none⟩) hge h.hge).trans h.e1,
  ⟨blk_block h.col.blk ha.size (ha.block p hp h.col.blk.lt), h.col.cols, Nat.lt_of_lt_of_le h.col.hg ha.size, (ha.cell (p := ⟨g, 0, none⟩) hg h.col.hg).trans h.col.name, (ha.cell (p := ⟨g, 1, none⟩) hg h.col.hg).trans h.col.type⟩⟩
theorem One.below {w w' : World} {b : Nat} {l : Int} {p g cap ge ce : Nat} {r : Value} {n : Int} (h : One w b l p g cap ge ce r n) (ha : Below w.heap.size w w') : One w' b l p g cap ge ce r n :=
 h.apart (a := 0) (c := 0) (below_apart ha) (.inr (Nat.zero_le _)) (.inr (Nat.zero_le _)) (.inr (Nat.zero_le _)) (.inr (Nat.zero_le _))
theorem row_apart {w w' : World} {a c p g cap gv cv : Nat} (h : OneRow w p g cap gv cv) (hb : Apart a c w w') (hp : p < a ∨ c ≤ p) (hg : g < a ∨ c ≤ g) : OneRow w' p g cap gv cv :=
 ⟨Nat.lt_of_lt_of_le h.hp hb.size, Nat.lt_of_lt_of_le h.hg hb.size, (hb.cell (p := ⟨p, 1, none⟩) hp h.hp).trans h.ents, (hb.cell (p := ⟨p, 2, none⟩) hp h.hp).trans h.kids, (hb.cell (p := ⟨g, 0, none⟩) hg h.hg).trans h.key, (hb.cell (p := ⟨g, 1, none⟩) hg h.hg).trans h.row⟩
theorem One.lock {w : World} {b : Nat} {l : Int} {p g cap ge ce : Nat} {r : Value} {n : Int} (h : One w b l p g cap ge ce r n) (l' : Int) (hp : p ≠ b) (hg : g ≠ b) (hge : ge ≠ b) : One (w.setCell ⟨b, 0, none⟩ (.int .i32 l')) b l' p g cap ge ce r n := by
 refine ⟨by simpa [sCs] using h.blk.set 0 (.int .i32 l'), by simpa using h.hge, ?_, ?_, ?_⟩
 · exact (World.cell?_setCell_far w _ _ _ (by show b ≠ ge; omega)).trans h.e0
 · exact (World.cell?_setCell_far w _ _ _ (by show b ≠ ge; omega)).trans h.e1
 · exact ⟨h.col.blk.far _ _ (by show b ≠ p; omega), h.col.cols, by simpa using h.col.hg, (World.cell?_setCell_far w _ _ _ (by show b ≠ g; omega)).trans h.col.name, (World.cell?_setCell_far w _ _ _ (by show b ≠ g; omega)).trans h.col.type⟩
theorem row_lock {w : World} {b : Nat} {p g cap gv cv : Nat} (h : OneRow w p g cap gv cv) (x : Value) (i : Nat) (hp : p ≠ b) (hg : g ≠ b) : OneRow (w.setCell ⟨b, i, none⟩ x) p g cap gv cv :=
 row_apart h set_apart (by omega) (by omega)
theorem own_apart {w : World} {base : Nat} {T T' : TypeId} {s g n cap p : Nat} {xs : List Value} {cs : Array Value} (h : w.ownsRow base T s (.slice (some ⟨g, 0, none⟩) n cap) n xs) (hn : n ≠ 0) (hP : Blk w p cs T') (hT : T ≠ T') : p ≠ g := by
 rintro rfl
 rcases h.2 with ⟨_, h0⟩ | ⟨g', cap', cur, hv, hb, hg, _⟩
 · exact hn h0
 · injection hv with e1 e2 e3
   injection e1 with e1
   injection e1 with e1
   subst e1
   have := hP.symm.trans hg
   injection this with this
   injection this with a1 a2
   exact hT a2.symm
theorem created {w w1 : World} {b g cap p : Nat} {l : Int} {v : Value} (hb : Blk w b (sCs l (.slice none 0 0) 0) 52) (hg : g < w.heap.size) (hgb : g ≠ b) (c0 : w.cell? ⟨g, 0, none⟩ = some (.string ⟨#[97]⟩)) (c1 : w.cell? ⟨g, 1, none⟩ = some (.int .i64 1))
   (hB : Below w.heap.size w w1) (hp : w.heap.size ≤ p) (hP : Blk w1 p #[.slice (some ⟨g, 0, none⟩) 1 cap, .slice none 0 0, .slice none 0 0, .int .i64 0, .int .i64 0] 142) (ho : w1.ownsRow w.heap.size 220 2 v 1 [.string ⟨#[111]⟩, .pointer (some ⟨p, 0, none⟩)]) :
   ∃ ge ce, w.heap.size ≤ ge ∧ p ≠ ge ∧ One ((w1.setCell ⟨b, 2, none⟩ v).setCell ⟨b, 4, none⟩ (.int .i64 1)) b l p g cap ge ce (.slice none 0 0) 0 ∧ Apart b (b + 1) w ((w1.setCell ⟨b, 2, none⟩ v).setCell ⟨b, 4, none⟩ (.int .i64 1)) := by
 obtain ⟨ge, ce, rfl, h1, h2, _, _, h3⟩ := own_open ho (by omega)
 have hpe := own_apart ho (by omega) hP (by decide)
 have hlb := hb.lt
 have kb := hb.below hB hb.lt
 have kb2 := (kb.set 2 (.slice (some ⟨ge, 0, none⟩) 1 ce)).set 4 (.int .i64 1)
 have hA : Apart b (b + 1) w1 ((w1.setCell ⟨b, 2, none⟩ (.slice (some ⟨ge, 0, none⟩) 1 ce)).setCell ⟨b, 4, none⟩ (.int .i64 1)) := set_apart.trans set_apart
 refine ⟨ge, ce, h1, hpe, ⟨by simpa [sCs] using kb2, Nat.lt_of_lt_of_le h2 hA.size, ?_, ?_, ?_⟩, (below_apart hB).trans hA⟩
 · exact (hA.cell (p := ⟨ge, 0, none⟩) (by show ge < b ∨ b + 1 ≤ ge; omega) h2).trans (h3 0 _ rfl)
 · exact (hA.cell (p := ⟨ge, 1, none⟩) (by show ge < b ∨ b + 1 ≤ ge; omega) h2).trans (h3 1 _ rfl)
 · refine ⟨blk_block hP hA.size (hA.block p (by omega) hP.lt), by simp [tCs], Nat.lt_of_lt_of_le (Nat.lt_of_lt_of_le hg hB.size) hA.size, ?_, ?_⟩
   · exact (hA.cell (p := ⟨g, 0, none⟩) (by show g < b ∨ b + 1 ≤ g; omega) (Nat.lt_of_lt_of_le hg hB.size)).trans ((hB.cell (p := ⟨g, 0, none⟩) hg).trans c0)
   · exact (hA.cell (p := ⟨g, 1, none⟩) (by show g < b ∨ b + 1 ≤ g; omega) (Nat.lt_of_lt_of_le hg hB.size)).trans ((hB.cell (p := ⟨g, 1, none⟩) hg).trans c1)
theorem inserted {w w1 : World} {b g cap p ge ce gv cv : Nat} {l : Int} {v : Value} (h : One w b l p g cap ge ce (.slice none 0 0) 0) (hpb : p ≠ b) (hpg : p ≠ g) (hpe : p ≠ ge)
   (hB : Below w.heap.size w w1) (ho : w1.ownsRow w.heap.size 229 2 v 1 [.int .i64 0, .slice (some ⟨gv, 0, none⟩) 1 cv]) :
   ∃ gr cr, w.heap.size ≤ gr ∧ One (((w1.setCell ⟨p, 1, none⟩ v).setCell ⟨p, 3, none⟩ (.int .i64 1)).setCell ⟨p, 4, none⟩ (.int .i64 1)) b l p g cap ge ce (.slice (some ⟨gr, 0, none⟩) 1 cr) 1 ∧
     OneRow (((w1.setCell ⟨p, 1, none⟩ v).setCell ⟨p, 3, none⟩ (.int .i64 1)).setCell ⟨p, 4, none⟩ (.int .i64 1)) p gr cr gv cv ∧ Apart p (p + 1) w (((w1.setCell ⟨p, 1, none⟩ v).setCell ⟨p, 3, none⟩ (.int .i64 1)).setCell ⟨p, 4, none⟩ (.int .i64 1)) := by
 obtain ⟨gr, cr, rfl, h1, h2, _, _, h3⟩ := own_open ho (by omega)
 have hl := h.col.blk.lt
 have k := h.below hB
 have kp := ((k.col.blk.set 1 (.slice (some ⟨gr, 0, none⟩) 1 cr)).set 3 (.int .i64 1)).set 4 (.int .i64 1)
 have hA : Apart p (p + 1) w1 (((w1.setCell ⟨p, 1, none⟩ (.slice (some ⟨gr, 0, none⟩) 1 cr)).setCell ⟨p, 3, none⟩ (.int .i64 1)).setCell ⟨p, 4, none⟩ (.int .i64 1)) := (set_apart.trans set_apart).trans set_apart
 have kp' : Blk (((w1.setCell ⟨p, 1, none⟩ (.slice (some ⟨gr, 0, none⟩) 1 cr)).setCell ⟨p, 3, none⟩ (.int .i64 1)).setCell ⟨p, 4, none⟩ (.int .i64 1)) p (tCs (.slice (some ⟨g, 0, none⟩) 1 cap) (.slice (some ⟨gr, 0, none⟩) 1 cr) 1) 142 := by simpa [tCs] using kp
 have hgr : gr < p ∨ p + 1 ≤ gr := by omega
 refine ⟨gr, cr, h1, ⟨blk_block k.blk hA.size (hA.block b (by omega) k.blk.lt), Nat.lt_of_lt_of_le k.hge hA.size, ?_, ?_, ?_⟩, ?_, (below_apart hB).trans hA⟩
 · exact (hA.cell (p := ⟨ge, 0, none⟩) (by show ge < p ∨ p + 1 ≤ ge; omega) k.hge).trans k.e0
 · exact (hA.cell (p := ⟨ge, 1, none⟩) (by show ge < p ∨ p + 1 ≤ ge; omega) k.hge).trans k.e1
 · refine ⟨kp', by simp [tCs], Nat.lt_of_lt_of_le k.col.hg hA.size, ?_, ?_⟩
   · exact (hA.cell (p := ⟨g, 0, none⟩) (by show g < p ∨ p + 1 ≤ g; omega) k.col.hg).trans k.col.name
   · exact (hA.cell (p := ⟨g, 1, none⟩) (by show g < p ∨ p + 1 ≤ g; omega) k.col.hg).trans k.col.type
 · refine ⟨kp'.lt, Nat.lt_of_lt_of_le h2 hA.size, ?_, ?_, ?_, ?_⟩
   · exact kp'.cell 1
   · exact kp'.cell 2
   · exact (hA.cell (p := ⟨gr, 0, none⟩) hgr h2).trans (h3 0 _ rfl)
   · exact (hA.cell (p := ⟨gr, 1, none⟩) hgr h2).trans (h3 1 _ rfl)
end Tx
end
structure Grow2 (w w' : World) (B C : Nat) : Prop where
 os : w'.os = w.os
 tape : w'.tape = w.tape
 output : w'.output = w.output
 size : w.heap.size ≤ w'.heap.size
 block : ∀ k, k < w.heap.size → k ≠ B → k ≠ C → w'.heap[k]? = w.heap[k]?
theorem Grow2.trans {w w1 w2 : World} {B C : Nat} (h : Grow2 w w1 B C) (k : Grow2 w1 w2 B C) : Grow2 w w2 B C :=
 ⟨k.os.trans h.os, k.tape.trans h.tape, k.output.trans h.output, Nat.le_trans h.size k.size, fun i hi h1 h2 => (k.block i (Nat.lt_of_lt_of_le hi h.size) h1 h2).trans (h.block i hi h1 h2)⟩
theorem Grow2.of {w w' : World} {B C : Nat} (h : w.grownBy w' (some B)) : Grow2 w w' B C := ⟨h.os, h.tape, h.output, h.size, fun k hk h1 _ => h.block k hk (by simpa using h1)⟩
theorem Grow2.of2 {w w' : World} {B C : Nat} (h : w.grownBy w' (some C)) : Grow2 w w' B C := ⟨h.os, h.tape, h.output, h.size, fun k hk _ h2 => h.block k hk (by simpa using h2)⟩
theorem Grow2.blk {w w' : World} {b B C : Nat} {cs : Array Value} {t : TypeId} (hg : Grow2 w w' B C) (h : Blk w b cs t) (h1 : b ≠ B) (h2 : b ≠ C) : Blk w' b cs t := by
 unfold Blk at h ⊢
 rw [hg.block b (Array.getElem?_eq_some_iff.1 h).1 h1 h2]
 exact h
theorem Grow2.own {w w' : World} {B C base : Nat} {e : TypeId} {size : Nat} {v : Value} {n : Nat} {xs : List Value} (hg : Grow2 w w' B C) (h : w.ownsRow base e size v n xs) (h1 : B < base) (h2 : C < base) : w'.ownsRow base e size v n xs := by
 refine ⟨h.1, ?_⟩
 rcases h.2 with hn | ⟨g, cap, cur, rfl, hb, hh, r⟩
 · exact .inl hn
 · refine .inr ⟨g, cap, cur, rfl, hb, ?_, r⟩
   rw [hg.block g (Array.getElem?_eq_some_iff.1 hh).1 (by omega) (by omega)]
   exact hh
def OutC (w : World) (B C D : Nat) (lv : Value) (ts : List Lx.Tok) (sz : Nat) (dp : Bool) (i : Nat) (q : List Lx.Tok) (x : Ending) (w' : World) : Prop :=
 Grow2 w w' B C ∧ ((∃ p c, Px.colR sz i q (.error (p, c)) ∧ x = Flt p c) ∨ ∃ n k q', Px.colR sz i q (.ok ((n, k), q')) ∧ x = .returned (.agg #[.string ⟨n.toArray⟩, .int .i64 (k : Int)]) ∧ Cx w' B lv ts sz q' dp ∧ Blk w' C #[.int .i64 ((i : Int) + 1)] 3 ∧ Blk w' D #[.pointer (some ⟨B, 0, none⟩)] 111)
theorem c_create1_any (B C D : Nat) (lv : Value) (ts : List Lx.Tok) (sz : Nat) (dp dp0 : Bool) (w0 w : World) (q0 q : List Lx.Tok) (h0 : Cx w0 B lv ts sz q0 dp0) (hC0 : w0.heap.size ≤ C) (hD0 : w0.heap.size ≤ D) (hCD : C ≠ D) (h : Cx w B lv ts sz q dp) (i : Nat) (hi : i ≤ 3000) (hC : Blk w C #[.int .i64 (i : Int)] 3) (hD : Blk w D #[.pointer (some ⟨B, 0, none⟩)] 111) :
   Calls Tryz.prog 92 #[.pointer (some ⟨C, 0, none⟩), .pointer (some ⟨D, 0, none⟩)] w (OutC w B C D lv ts sz dp i q) := by
 have hBlt := h0.lt
 have hClt := hC.lt
 have hDlt := hD.lt
 have x1 : ¬ C = w.heap.size := by omega
 have x2 : ¬ w.heap.size = C := by omega
 have x3 : ¬ D = w.heap.size := by omega
 have x4 : ¬ w.heap.size = D := by omega
 have x5 : ¬ C = D := hCD
 have x6 : ¬ D = C := fun e => hCD e.symm
 have c0 : w.cell? ⟨C, 0, none⟩ = some (.int .i64 (i : Int)) := hC.cell 0
 have f0 := hC.free 0
 have d0 : w.cell? ⟨D, 0, none⟩ = some (.pointer (some ⟨B, 0, none⟩)) := hD.cell 0
 have HC := hd hC
 have HD := hd hD
 have HX := hd h
 have H0 := hd h0
 clear hC hD h h0
 go_enter Tryz.func92, Tryz.ntmps92
 go_wp2_with fail
 have HE : Hid (Cx ((w.setCell ⟨C, 0, none⟩ (.int .i64 ((i : Int) + 1))).alloc (.cells #[.string ⟨#[]⟩, .int .i64 0] 192)) B lv ts sz q dp) := (HX.out.far H0.out hC0 0 _).below ((Below.refl _ _).alloc (Nat.le_refl _) _)
 refine (c_column_any B lv ts sz dp _ q HE.out i (by omega)).mono ?_
 rintro x w2 ho
 have KC := (HC.out.set 0 (.int .i64 ((i : Int) + 1))).alloc (.cells #[.string ⟨#[]⟩, .int .i64 0] 192)
 have KD := (HD.out.far ⟨C, 0, none⟩ (.int .i64 ((i : Int) + 1)) x5).alloc (.cells #[.string ⟨#[]⟩, .int .i64 0] 192)
 have KR := Blk.new (w.setCell ⟨C, 0, none⟩ (.int .i64 ((i : Int) + 1))) #[.string ⟨#[]⟩, .int .i64 0] 192
 have hsc : (w.setCell ⟨C, 0, none⟩ (.int .i64 ((i : Int) + 1))).heap.size = w.heap.size := by simp [World.setCell]
 rw [hsc] at KR
 obtain ⟨hg, hcase⟩ := ho.cases
 have HG : Hid (Grow2 w w2 B C) := (Grow2.of2 (grownBy_alloc (grownBy_set w C 0 (.int .i64 ((i : Int) + 1))) (.cells #[.string ⟨#[]⟩, .int .i64 0] 192))).trans (Grow2.of hg)
 rcases hcase with ⟨p, c, hr, rfl⟩ | ⟨⟨n, k⟩, q1, v, hr, rfl, hv, hx⟩
 · exact ⟨rfl, HG.out, .inl ⟨p, c, hr, rfl⟩⟩
 · cases hv
   have HR1 := hd hr
   have HX1 : Hid (Cx w2 B lv ts sz q1 dp) := hx
   have HC2 := hd (KC.grown hg (by omega))
   have HD2 := hd (KD.grown hg (by omega))
   have HK2 := hd (KR.grown hg (by omega))
   have m0 : w2.cell? ⟨w.heap.size, 0, none⟩ = some (.string ⟨#[]⟩) := HK2.out.cell 0
   have m1 : w2.cell? ⟨w.heap.size, 1, none⟩ = some (.int .i64 0) := HK2.out.cell 1
   have g0 := HK2.out.free 0
   have g1 := HK2.out.free 1
   have hw0 : w0.heap.size ≤ w.heap.size := by omega
   clear hr hx hg ho KC KD KR hsc HE
   go_wp2_with fail
   have KF := (HK2.out.set 0 (.string ⟨n.toArray⟩)).set 1 (.int .i64 (k : Int))
   have e0 := KF.cell 0
   have e1 := KF.cell 1
   simp at e0 e1
   refine bodyPost_ret (v := .agg #[.string ⟨n.toArray⟩, .int .i64 (k : Int)]) (by simp [results, Tryz.results92, go_sem, e0, e1]) rfl ?_
   refine ⟨?_, .inr ⟨n, k, q1, HR1.out, rfl, (HX1.out.far H0.out hw0 0 _).far H0.out hw0 1 _, (HC2.out.far ⟨w.heap.size, 0, none⟩ _ x2).far ⟨w.heap.size, 1, none⟩ _ x2, (HD2.out.far ⟨w.heap.size, 0, none⟩ _ x4).far ⟨w.heap.size, 1, none⟩ _ x4⟩⟩
   refine ⟨HG.out.os, HG.out.tape, HG.out.output, by simpa [World.setCell] using HG.out.size, fun j hj h1 h2 => ?_⟩
   rw [Below.heap_setCell _ _ _ _ (by show j ≠ w.heap.size; omega), Below.heap_setCell _ _ _ _ (by show j ≠ w.heap.size; omega)]
   exact HG.out.block j hj h1 h2
theorem Tryz.info192 : (Tryz.prog.info? 192).map (fun i => (i.zero, i.size, i.bytes)) = some (some (.agg #[.string ⟨#[]⟩, .int .i64 0]), 2, 24) := by kernel_rfl
def OutCL (w : World) (B C : Nat) (lv : Value) (ts : List Lx.Tok) (sz : Nat) (dp : Bool) (q : List Lx.Tok) (x : Ending) (w' : World) : Prop :=
 Grow2 w w' B C ∧ ((∃ p c, Px.Sep (Px.colR sz) q (.error (p, c)) ∧ x = Flt p c) ∨ ∃ l q' v, Px.Sep (Px.colR sz) q (.ok (l, q')) ∧ x = .returned v ∧ w'.ownsRow w.heap.size 192 2 v l.length (l.flatMap colC) ∧ Cx w' B lv ts sz q' dp)
theorem c_listColumn_any (B C D : Nat) (lv : Value) (ts : List Lx.Tok) (sz : Nat) (dp dp0 : Bool) (w0 w : World) (q0 q : List Lx.Tok) (h0 : Cx w0 B lv ts sz q0 dp0) (hC0 : w0.heap.size ≤ C) (hD0 : w0.heap.size ≤ D) (hCD : C ≠ D) (h : Cx w B lv ts sz q dp) (hC : Blk w C #[.int .i64 0] 3) (hD : Blk w D #[.pointer (some ⟨B, 0, none⟩)] 111) :
   Calls Tryz.prog 91 #[.pointer (some ⟨B, 0, none⟩), .func (.func 92) #[] #[.pointer (some ⟨C, 0, none⟩), .pointer (some ⟨D, 0, none⟩)]] w (OutCL w B C lv ts sz dp q) := by
 obtain ⟨i0, hi, hz0, hz1, hz2⟩ := info_parts Tryz.info192
 have HX := hd h
 have H0 := hd h0
 have hlt := h.lt
 have hBlt := h0.lt
 have hClt := hC.lt
 have hDlt := hD.lt
 have hq2000 : q.length ≤ 2000 := by
  obtain ⟨k, rfl, h⟩ := h
  have := h.len
  simp; omega
 have HC := hd hC
 have HD := hd hD
 clear h h0 hC hD
 go_enter Tryz.func91, Tryz.ntmps91
 go_wp2_with fail
 refine (c_create1_any B C D lv ts sz dp dp0 w0 w q0 q H0.out hC0 hD0 hCD HX.out 0 (by omega) HC.out HD.out).mono ?_
 rintro x w1 ⟨hg, ⟨p, c, hr, rfl⟩ | ⟨n, k, q1, hr, rfl, hx, kC, kD⟩⟩
 · exact ⟨rfl, hg, .inl ⟨p, c, Px.Sep.err0 hr, rfl⟩⟩
 · have HR1 := hd (Px.Reach.first (x := Px.colR sz) hr)
   have hs1 := hg.size
   have HO1 := hd (ownBase (own_new2 w1 (.string ⟨n.toArray⟩) (.int .i64 (k : Int)) 192) hs1)
   have HX1' := hd (hx.below ((Below.refl _ _).alloc (Nat.le_refl _) (.cells #[.string ⟨n.toArray⟩, .int .i64 (k : Int)] 192)))
   have HG1' : Hid (Grow2 w (w1.alloc (.cells #[.string ⟨n.toArray⟩, .int .i64 (k : Int)] 192)) B C) := hg.trans (Grow2.of (grownBy_alloc (grownBy_refl w1 _) _))
   have HC1 := hd (kC.alloc (.cells #[.string ⟨n.toArray⟩, .int .i64 (k : Int)] 192))
   have HD1 := hd (kD.alloc (.cells #[.string ⟨n.toArray⟩, .int .i64 (k : Int)] 192))
   clear hr hx hg kC kD HC HD
   go_wp2_with fail
   go_loopw [5] (fun v wr => ∃ (l : List (Lx.Bs × Nat)) (q1 : List Lx.Tok), Hid (wr.ownsRow w.heap.size 192 2 v l.length (l.flatMap colC)) ∧ Hid (Cx wr B lv ts sz q1 dp) ∧ Hid (Grow2 w wr B C) ∧ Hid (Px.Reach (Px.colR sz) q l q1) ∧ Hid (Blk wr C #[.int .i64 (l.length : Int)] 3) ∧ Hid (Blk wr D #[.pointer (some ⟨B, 0, none⟩)] 111)) (fun _ wr => ts.length - atC wr B)
   case atStart => exact ⟨[(n, k)], q1, HO1, HX1', HG1', HR1, HC1, HD1⟩
   case round =>
    clear HR1 HX1' HG1' HO1 HC1 HD1
    obtain ⟨l, q1, HO, HX1, HG1, HRe, HC1, HD1⟩ := hrel
    have hll : q1.length + l.length ≤ q.length + 1 := HRe.out.len (fun _ => Px.col_shrinks sz _)
    cases hs : Px.sees Px.gComma q1 with
    | false =>
     go_wp2_with fail
     refine (c_accept_no ⟨#[44]⟩ wr B lv ts sz q1 _ HX1.out hs (by simp)).mono ?_
     rintro x w2 ⟨rfl, hb⟩
     have HO2 := hd (owns_below HO.out hb)
     have HB := hd hb
     clear hb
     go_wp2_with fail
     go_ret
     exact ⟨HG1.out.trans (Grow2.of (Below.grownBy HB.out)), .inr ⟨l, q1, _, Px.Sep.stop HRe.out hs, rfl, HO2.out, HX1.out.below HB.out⟩⟩
    | true =>
     have hcl := Px.sees_len hs
     go_wp2_with fail
     refine (c_accept_yes ⟨#[44]⟩ wr B lv ts sz q1 _ HX1.out hs (by simp)).mono ?_
     rintro x w2 ⟨rfl, hx2, hg2⟩
     have HX2 := hd hx2
     have HG2 := hd (HG1.out.trans (Grow2.of hg2))
     have HO2 := hd (HO.out.kept hg2 (by
      cases hv : u5.ownBlock with
      | none => exact .inl rfl
      | some g => right; have := (HO.out.lt g hv).1; simp; omega))
     have HC2 := hd (HC1.out.grown hg2 (by omega))
     have HD2 := hd (HD1.out.grown hg2 (by omega))
     have hl1 := HX1.out.atC
     clear hx2 hg2 HG1 HO HC1 HD1
     go_wp2_with fail
     refine (c_create1_any B C D lv ts sz dp dp0 w0 w2 q0 q1.tail H0.out hC0 hD0 hCD HX2.out l.length (by omega) HC2.out HD2.out).mono ?_
     rintro x w3 ⟨hg, ⟨p, c, hr, rfl⟩ | ⟨n, k, q2, hr, rfl, hx, kC, kD⟩⟩
     · exact ⟨rfl, HG2.out.trans hg, .inl ⟨p, c, Px.Sep.err HRe.out hs hr, rfl⟩⟩
     · have HR3 := hd (HRe.out.step hs hr)
       have hsh := Px.col_shrinks sz _ _ _ _ hr
       have HG3 := hd (HG2.out.trans hg)
       have HO3 := hd (hg.own HO2.out (by omega) (by omega))
       have hs3 := HG3.out.size
       have HX3' := hd (hx.below ((Below.refl _ _).alloc (Nat.le_refl _) (.cells #[.string ⟨n.toArray⟩, .int .i64 (k : Int)] 192)))
       have HG3' : Hid (Grow2 w (w3.alloc (.cells #[.string ⟨n.toArray⟩, .int .i64 (k : Int)] 192)) B C) := HG3.out.trans (Grow2.of (grownBy_alloc (grownBy_refl w3 _) _))
       have HC3 := hd (kC.alloc (.cells #[.string ⟨n.toArray⟩, .int .i64 (k : Int)] 192))
       have HD3 := hd (kD.alloc (.cells #[.string ⟨n.toArray⟩, .int .i64 (k : Int)] 192))
       clear hr hx hg kC kD HG2 HO2 HX1 HX2 HG3 HC2 HD2
       go_wp2_with (first
        | (at_builtin; refine wpList_append_own _ rfl _ _ 71 rfl w.heap.size 192 i0 (.agg #[.string ⟨#[]⟩, .int .i64 0]) 2 24 Tryz.underlying71 hi hz0 hz1 hz2 rfl (by decide) _ _ _ rfl (HO3.out.alloc _) ⟨w3.heap.size, 0, none⟩ 1 1 [.string ⟨n.toArray⟩, .int .i64 (k : Int)] rfl rfl ?c1 ?c2 ?c3 ?c4 ?c5 ?_)
        | fail)
       case c1 => exact two_news w3 (.string ⟨n.toArray⟩) (.int .i64 (k : Int)) 192
       case c2 => intro u hu; simp at hu; rcases hu with rfl | rfl <;> rfl
       case c3 => unfold maxLen; omega
       case c4 => omega
       case c5 => simp; omega
       intro v' w4 hown' hgrow _
       have HO4 : Hid (w4.ownsRow w.heap.size 192 2 v' (l ++ [(n, k)]).length ((l ++ [(n, k)]).flatMap colC)) := by
        rw [List.length_append, List.length_singleton, flat_snoc]
        exact hown'
       have hrow : ∀ o, u5.ownBlock = some o → w.heap.size ≤ o := fun o ho => (HO3.out.lt o ho).1
       have HX4 := hd (HX3'.out.kept HX.out hgrow hrow)
       have keepB : ∀ (b : Nat) (cs : Array Value) (t : TypeId), b < w.heap.size → Blk (w3.alloc (.cells #[.string ⟨n.toArray⟩, .int .i64 (k : Int)] 192)) b cs t → Blk w4 b cs t := by
        intro b cs t hb hB
        unfold Blk at hB ⊢
        rw [hgrow.block b (Array.getElem?_eq_some_iff.1 hB).1 (by intro e; have := hrow b e.symm; omega)]
        exact hB
       have HC4 : Hid (Blk w4 C #[.int .i64 ((l ++ [(n, k)]).length : Int)] 3) := by
        have := keepB C _ _ hClt HC3.out
        show Blk _ _ _ _
        rw [List.length_append, List.length_singleton, show ((l.length + 1 : Nat) : Int) = (l.length : Int) + 1 by omega]
        exact this
       have HD4 := hd (keepB D _ _ hDlt HD3.out)
       have HG4 : Hid (Grow2 w w4 B C) := by
        refine ⟨hgrow.os.trans HG3'.out.os, hgrow.tape.trans HG3'.out.tape, hgrow.output.trans HG3'.out.output, Nat.le_trans HG3'.out.size hgrow.size, fun j hj h1 h2 => ?_⟩
        rw [hgrow.block j (Nat.lt_of_lt_of_le hj HG3'.out.size) (by
         intro e
         have := hrow j e.symm
         omega)]
        exact HG3'.out.block j hj h1 h2
       have hl4 := HX4.out.atC
       clear hown' hgrow HX3' HG3' HO3 keepB hrow HC3 HD3
       go_wp2_with fail
       go_roundw
       case rel => exact ⟨l ++ [(n, k)], q2, HO4, HX4, HG4, HR3, HC4, HD4⟩
       case measure => omega
def stV (B : Nat) : Px.St → Value → World → Prop
 | .create t c, v, w => ∃ u, v = .iface 73 (.agg #[.string ⟨t.toArray⟩, u]) ∧ lsV B 192 2 colC c u w
 | .drop t, v, _ => v = .iface 76 (.agg #[.string ⟨t.toArray⟩])
 | .insert t r, v, w => ∃ u, v = .iface 80 (.agg #[.string ⟨t.toArray⟩, u]) ∧ rowsV B r u w
 | .delete t o, v, _ => v = .iface 87 (.agg #[.string ⟨t.toArray⟩, ev? o])
 | .update t s o, v, w => ∃ u, v = .iface 91 (.agg #[.string ⟨t.toArray⟩, u, ev? o]) ∧ lsV B 202 2 setC s u w
 | .select i t o r l, v, w => ∃ u u', v = .iface 96 (.agg #[u, .string ⟨t.toArray⟩, ev? o, u', .bool l.isSome, .int .i64 ((l.getD 0 : Nat) : Int)]) ∧ lsV B 206 2 itemC i u w ∧ lsV B 210 2 orderC r u' w
def partV (B : Nat) (T : TypeId) (s : Px.St) (v : Value) (w : World) : Prop := stV B s (.iface T v) w
def deepSt (s : Px.St) : Bool := s.exprs.any deepE
theorem c_expect_at (s : ByteArray) (w : World) (g : Nat) (hgs : g = w.heap.size) (B : Nat) (lv : Value) (ts : List Lx.Tok) (sz : Nat) (q : List Lx.Tok) (dp : Bool) (h : Cx w B lv ts sz q dp) (hne : s.data.toList ≠ []) :
   Calls Tryz.prog 38 #[.pointer (some ⟨B, 0, none⟩), .slice (some ⟨g, 0, none⟩) 1 1] (w.alloc (.cells #[.string s] 9)) (OutR w B lv ts sz dp (Px.mustR sz s.data.toList) q unitV noDeep) := by
 subst hgs
 exact c_expect_new s w B lv ts sz q dp h hne
theorem ev?_one (o : Option Px.E) : ev? o = .nilIface ∨ ∃ t x, ev? o = .iface t x := by
 cases o with
 | none => exact .inl rfl
 | some e => exact .inr (ev_iface e)
theorem c_delete_any (B : Nat) (lv : Value) (ts : List Lx.Tok) (sz : Nat) (dp : Bool) (w : World) (q : List Lx.Tok) (h : Cx w B lv ts sz q dp) :
   Calls Tryz.prog 41 #[.pointer (some ⟨B, 0, none⟩)] w (OutR w B lv ts sz dp (Px.deleteR sz) q (partV B 87) deepSt) := by
 have HX := hd h
 have hlt := h.lt
 have HB0 : Hid (Below w.heap.size w (w.alloc (.cells #[.string ⟨#[]⟩, .nilIface] 87))) := (Below.refl _ _).alloc (Nat.le_refl _) _
 have HKR := hd (Blk.new w #[.string ⟨#[]⟩, .nilIface] 87)
 clear h
 go_enter Tryz.func41, Tryz.ntmps41
 go_wp2_with fail
 refine (c_expect_at ⟨#[70, 82, 79, 77]⟩ (w.alloc (.cells #[.string ⟨#[]⟩, .nilIface] 87)) _ (by simp) B lv ts sz q dp (HX.out.below HB0.out) (by simp)).mono ?_
 rintro x w1 ho
 obtain ⟨hg, ⟨p, c, hr, rfl⟩ | ⟨_, q1, v, hr, rfl, hv, hx⟩⟩ := ho.cases
 · exact ⟨rfl, OutR.err (grownBy_trans (Below.grownBy HB0.out) hg) (Px.Rg.err hr)⟩
 · cases hv
   have HR1 := hd hr
   have HX1 : Hid (Cx w1 B lv ts sz q1 dp) := hx
   have HG1 := hd (grownBy_trans (Below.grownBy HB0.out) hg)
   have HK1 := hd (HKR.out.grown hg (by omega))
   clear hr hx hg ho HB0 HKR
   go_wp2_with fail
   refine (c_name_any w1 B lv ts sz q1 dp HX1.out).mono ?_
   rintro x w2 ho
   obtain ⟨hg, ⟨p, c, hr, rfl⟩ | ⟨n, q2, v, hr, rfl, hv, hx⟩⟩ := ho.cases
   · exact ⟨rfl, OutR.err (grownBy_trans HG1.out hg) (Px.Rg.go HR1.out (Px.Rg.err hr))⟩
   · cases hv
     have HR2 := hd hr
     have HX2 : Hid (Cx w2 B lv ts sz q2 dp) := hx
     have HG2 := hd (grownBy_trans HG1.out hg)
     have HK2 := hd (HK1.out.grown hg (by omega))
     clear hr hx hg ho HG1 HK1
     go_wp2_with fail
     refine (c_where_any B lv ts sz dp w2 q2 HX2.out).mono ?_
     rintro x w3 ho
     obtain ⟨hg, ⟨p, c, hr, rfl⟩ | ⟨o, q3, v, hr, rfl, hv, hx⟩⟩ := ho.cases
     · exact ⟨rfl, OutR.err (grownBy_trans HG2.out hg) (Px.Rg.go HR1.out (Px.Rg.go HR2.out (Px.Rg.err hr)))⟩
     · have HR3 := hd hr
       have HX3 : Hid (Cx w3 B lv ts sz q3 (deepSt (.delete n o) || dp)) := by
        show Cx _ _ _ _ _ _ _
        have : deepSt (.delete n o) = deepO o := by cases o <;> simp [deepSt, Px.St.exprs, deepO]
        rw [this]; exact hx
       have HG3 := hd (grownBy_trans HG2.out hg)
       have HK3 := hd (HK2.out.grown hg (by omega))
       have HV := hd hv
       have hv1 : v = .nilIface ∨ ∃ t x, v = .iface t x := by
        have := ev?_one o
        rwa [← show v = ev? o from hv] at this
       have m0 : w3.cell? ⟨w.heap.size, 0, none⟩ = some (.string ⟨#[]⟩) := HK3.out.cell 0
       have m1 : w3.cell? ⟨w.heap.size, 1, none⟩ = some .nilIface := HK3.out.cell 1
       have g0 := HK3.out.free 0
       have g1 := HK3.out.free 1
       clear hr hx hg ho HG2 HK2 hv
       rcases hv1 with rfl | ⟨et, ex, rfl⟩
       all_goals
        go_wp2_with fail
       · have KF := (HK3.out.set 0 (.string ⟨n.toArray⟩)).set 1 .nilIface
         have e0 := KF.cell 0
         have e1 := KF.cell 1
         simp at e0 e1
         refine bodyPost_ret (v := .agg #[.string ⟨n.toArray⟩, .nilIface]) (by simp [results, Tryz.results41, go_sem, e0, e1]) rfl ?_
         exact OutR.ok (a := Px.St.delete n o) (q' := q3) (grown_away (grown_away HG3.out (Nat.le_refl _) 0 _) (Nat.le_refl _) 1 _) (Px.Rg.go HR1.out (Px.Rg.go HR2.out (Px.Rg.go HR3.out rfl))) (by show _ = Value.iface _ (.agg #[_, ev? o]); rw [← show (Value.nilIface) = ev? o from HV.out]) ((HX3.out.far HX.out (Nat.le_refl _) 0 _).far HX.out (Nat.le_refl _) 1 _)
       · have KF := (HK3.out.set 0 (.string ⟨n.toArray⟩)).set 1 (.iface et ex)
         have e0 := KF.cell 0
         have e1 := KF.cell 1
         simp at e0 e1
         refine bodyPost_ret (v := .agg #[.string ⟨n.toArray⟩, .iface et ex]) (by simp [results, Tryz.results41, go_sem, e0, e1]) rfl ?_
         exact OutR.ok (a := Px.St.delete n o) (q' := q3) (grown_away (grown_away HG3.out (Nat.le_refl _) 0 _) (Nat.le_refl _) 1 _) (Px.Rg.go HR1.out (Px.Rg.go HR2.out (Px.Rg.go HR3.out rfl))) (by show _ = Value.iface _ (.agg #[_, ev? o]); rw [← show (Value.iface et ex) = ev? o from HV.out]) ((HX3.out.far HX.out (Nat.le_refl _) 0 _).far HX.out (Nat.le_refl _) 1 _)
theorem tbCreateCreate (a b : Value) (w : World) : (Instr.typeAssert (.iface 73 (.agg #[a, b])) 56 73 true).run Tryz.prog w = .ok (.tuple #[.agg #[a, b], .bool true]) w := by kernel_rfl
theorem tbInsertCreate (a b : Value) (w : World) : (Instr.typeAssert (.iface 80 (.agg #[a, b])) 56 73 true).run Tryz.prog w = .ok (.tuple #[.agg #[.string ⟨#[]⟩, .slice none 0 0], .bool false]) w := by kernel_rfl
theorem tbInsertDrop (a b : Value) (w : World) : (Instr.typeAssert (.iface 80 (.agg #[a, b])) 56 76 true).run Tryz.prog w = .ok (.tuple #[.agg #[.string ⟨#[]⟩], .bool false]) w := by kernel_rfl
theorem tbInsertInsert (a b : Value) (w : World) : (Instr.typeAssert (.iface 80 (.agg #[a, b])) 56 80 true).run Tryz.prog w = .ok (.tuple #[.agg #[a, b], .bool true]) w := by kernel_rfl
theorem tbSelectCreate (a b c d e f : Value) (w : World) : (Instr.typeAssert (.iface 96 (.agg #[a, b, c, d, e, f])) 56 73 true).run Tryz.prog w = .ok (.tuple #[.agg #[.string ⟨#[]⟩, .slice none 0 0], .bool false]) w := by kernel_rfl
theorem tbSelectDrop (a b c d e f : Value) (w : World) : (Instr.typeAssert (.iface 96 (.agg #[a, b, c, d, e, f])) 56 76 true).run Tryz.prog w = .ok (.tuple #[.agg #[.string ⟨#[]⟩], .bool false]) w := by kernel_rfl
theorem tbSelectInsert (a b c d e f : Value) (w : World) : (Instr.typeAssert (.iface 96 (.agg #[a, b, c, d, e, f])) 56 80 true).run Tryz.prog w = .ok (.tuple #[.agg #[.string ⟨#[]⟩, .slice none 0 0], .bool false]) w := by kernel_rfl
theorem tbSelectDelete (a b c d e f : Value) (w : World) : (Instr.typeAssert (.iface 96 (.agg #[a, b, c, d, e, f])) 56 87 true).run Tryz.prog w = .ok (.tuple #[.agg #[.string ⟨#[]⟩, .nilIface], .bool false]) w := by kernel_rfl
theorem tbSelectUpdate (a b c d e f : Value) (w : World) : (Instr.typeAssert (.iface 96 (.agg #[a, b, c, d, e, f])) 56 91 true).run Tryz.prog w = .ok (.tuple #[.agg #[.string ⟨#[]⟩, .slice none 0 0, .nilIface], .bool false]) w := by kernel_rfl
theorem tbSelectSelect (a b c d e f : Value) (w : World) : (Instr.typeAssert (.iface 96 (.agg #[a, b, c, d, e, f])) 56 96 true).run Tryz.prog w = .ok (.tuple #[.agg #[a, b, c, d, e, f], .bool true]) w := by kernel_rfl
section
namespace Tx
open Tb Tw
theorem Apart.over {a c A C : Nat} {w W W' : World} (h : Apart a c w W) (h2 : Apart A C W W') (hA : w.heap.size ≤ A) : Apart a c w W' :=
 ⟨h2.os.trans h.os, h2.tape.trans h.tape, h2.output.trans h.output, Nat.le_trans h.size h2.size, fun k hk hl => (h2.block k (.inl (by omega)) (Nat.lt_of_lt_of_le hl h.size)).trans (h.block k hk hl)⟩
theorem table_one {b p g cap ge ce : Nat} {l : Int} {r : Value} {n : Int} (w : World) (h : One w b l p g cap ge ce r n) :
   Calls Tryz.prog 25 #[.pointer (some ⟨b, 2, none⟩), .string ⟨#[111]⟩] w fun x w' => x = .returned (.pointer (some ⟨p, 0, none⟩)) ∧ Below w.heap.size w w' := by
 have HG := hd (Ts.get_one ⟨#[111]⟩ (some ⟨p, 0, none⟩) ge ce b 2 w h.blk.lt (by simpa [sCs] using h.blk.cell 2) h.hge h.e0 h.e1)
 have hb := h.blk.lt
 clear h
 go_enter Tryz.func25, Tryz.ntmps25
 go_wp2_with fail
 refine HG.out.mono ?_
 rintro x w1 ⟨rfl, hb1⟩
 have HB := hd hb1
 clear hb1 HG
 go_wp2_with fail
 refine (Tb.must_true _ _).mono ?_
 rintro x w1 ⟨rfl, rfl⟩
 go_wp2_with fail
 go_ret
 exact ⟨rfl, HB.out⟩
theorem dRun_create (b g cap : Nat) (w : World) (hb : Blk w b (sCs 1 (.slice none 0 0) 0) 52) (hg : g < w.heap.size) (hgb : g ≠ b) (c0 : w.cell? ⟨g, 0, none⟩ = some (.string ⟨#[97]⟩)) (c1 : w.cell? ⟨g, 1, none⟩ = some (.int .i64 1)) (hc : 1 ≤ cap) :
   Calls Tryz.prog 16 #[.pointer (some ⟨b, 2, none⟩), .iface 73 (.agg #[.string ⟨#[111]⟩, .slice (some ⟨g, 0, none⟩) 1 cap])] w fun x w' =>
    x = .returned (.agg #[.int .i64 0, .slice none 0 0, .int .i64 0]) ∧ Apart b (b + 1) w w' ∧ ∃ p ge ce, w.heap.size ≤ p ∧ w.heap.size ≤ ge ∧ p ≠ ge ∧ One w' b 1 p g cap ge ce (.slice none 0 0) 0 := by
 have hta := tbCreateCreate (.string ⟨#[111]⟩) (.slice (some ⟨g, 0, none⟩) 1 cap)
 have HBK := hd hb
 have hbl := hb.lt
 clear hb
 have hB0 : Below w.heap.size w ((w.alloc (.cells #[.int .i64 0, .slice none 0 0, .int .i64 0] 33)).alloc (.cells #[.string ⟨#[111]⟩, .slice (some ⟨g, 0, none⟩) 1 cap] 73)) := ((Below.refl _ _).alloc (Nat.le_refl _) _).alloc (by simp) _
 have HV := hd ((HBK.out.alloc (.cells #[.int .i64 0, .slice none 0 0, .int .i64 0] 33)).alloc (.cells #[.string ⟨#[111]⟩, .slice (some ⟨g, 0, none⟩) 1 cap] 73))
 have HKA := hd ((Blk.new w #[.int .i64 0, .slice none 0 0, .int .i64 0] 33).alloc (.cells #[.string ⟨#[111]⟩, .slice (some ⟨g, 0, none⟩) 1 cap] 73))
 have hg2 := Nat.lt_of_lt_of_le hg hB0.size
 have d0 := (hB0.cell (p := ⟨g, 0, none⟩) hg).trans c0
 have d1 := (hB0.cell (p := ⟨g, 1, none⟩) hg).trans c1
 have HC := hd (Tb.create_none ⟨#[111]⟩ ⟨#[97]⟩ 1 g cap b _ _ _ ⟨HV.out, rfl, rfl, rfl⟩ hg2 d0 d1 hc)
 have HBV := hd hB0
 have hsv : w.heap.size + 2 = ((w.alloc (.cells #[.int .i64 0, .slice none 0 0, .int .i64 0] 33)).alloc (.cells #[.string ⟨#[111]⟩, .slice (some ⟨g, 0, none⟩) 1 cap] 73)).heap.size := by simp
 clear hB0
 go_enter Tryz.func16, Tryz.ntmps16
 go_wp2_with fail
 refine HC.out.mono ?_
 rintro x w' ⟨rfl, v, w1, p, hb1, hp, hP, hown, rfl⟩
 obtain ⟨ge, ce, h1, hpe, hO, hA⟩ := created HV.out hg2 hgb d0 d1 hb1 hp hP hown
 have K2 := blk_block HKA.out hA.size (hA.block w.heap.size (by omega) HKA.out.lt)
 have HO2 := hd hO
 have HA2 : Hid (Apart b (b + 1) w _) := (below_apart HBV.out).trans hA
 have HPE : Hid (w.heap.size + 2 ≤ p ∧ w.heap.size + 2 ≤ ge ∧ p ≠ ge) := ⟨by omega, by omega, hpe⟩
 clear hb1 hp hP hown hO hA h1 hpe HC HV HKA HBV d0 d1 hg2 hsv
 generalize ((w1.setCell ⟨b, 2, none⟩ v).setCell ⟨b, 4, none⟩ (.int .i64 1)) = W2 at *
 have a0 := K2.cell 0
 have a1 := K2.cell 1
 have a2 := K2.cell 2
 simp at a0 a1 a2
 have fa0 := K2.free 0
 have fa1 := K2.free 1
 have fa2 := K2.free 2
 have hl2 := K2.lt
 have K5 := ((K2.set 0 (.int .i64 0)).set 1 (.slice none 0 0)).set 2 (.int .i64 0)
 have g0 := K5.cell 0
 have g1 := K5.cell 1
 have g2 := K5.cell 2
 simp at g0 g1 g2
 have HS : Hid (Apart w.heap.size (w.heap.size + 1) W2 (((W2.setCell ⟨w.heap.size, 0, none⟩ (.int .i64 0)).setCell ⟨w.heap.size, 1, none⟩ (.slice none 0 0)).setCell ⟨w.heap.size, 2, none⟩ (.int .i64 0))) := (set_apart.trans set_apart).trans set_apart
 clear K5 K2
 go_wp2
 have hpe := HPE.out
 refine ⟨rfl, .agg #[.int .i64 0, .slice none 0 0, .int .i64 0], by simp [results, Tryz.results16, go_sem, g0, g1, g2], ?_⟩
 exact ⟨rfl, Apart.over HA2.out HS.out (Nat.le_refl _), p, ge, ce, by omega, by omega, hpe.2.2, HO2.out.apart HS.out (by omega) (by omega) (by omega) (by omega)⟩
theorem dRun_insert {b p g cap ge ce gr cr gy cy : Nat} (w : World) (h : One w b 1 p g cap ge ce (.slice none 0 0) 0) (hpb : p ≠ b) (hpg : p ≠ g) (hpe : p ≠ ge) (hgr : gr < w.heap.size) (r0 : w.cell? ⟨gr, 0, none⟩ = some (.slice (some ⟨gy, 0, none⟩) 1 cy)) (hgy : gy < w.heap.size) (y0 : w.cell? ⟨gy, 0, none⟩ = some (ev (.num 0))) :
   Calls Tryz.prog 16 #[.pointer (some ⟨b, 2, none⟩), .iface 80 (.agg #[.string ⟨#[111]⟩, .slice (some ⟨gr, 0, none⟩) 1 cr])] w fun x w' =>
    x = .returned (.agg #[.int .i64 0, .slice none 0 0, .int .i64 1]) ∧ Apart p (p + 1) w w' ∧ ∃ g2 c2 gv cv, w.heap.size ≤ g2 ∧ One w' b 1 p g cap ge ce (.slice (some ⟨g2, 0, none⟩) 1 c2) 1 ∧ OneRow w' p g2 c2 gv cv := by
 have hta1 := tbInsertCreate (.string ⟨#[111]⟩) (.slice (some ⟨gr, 0, none⟩) 1 cr)
 have hta2 := tbInsertDrop (.string ⟨#[111]⟩) (.slice (some ⟨gr, 0, none⟩) 1 cr)
 have hta3 := tbInsertInsert (.string ⟨#[111]⟩) (.slice (some ⟨gr, 0, none⟩) 1 cr)
 have HO := hd h
 have hbl := h.blk.lt
 clear h
 have hB0 : Below w.heap.size w ((w.alloc (.cells #[.int .i64 0, .slice none 0 0, .int .i64 0] 33)).alloc (.cells #[.string ⟨#[111]⟩, .slice (some ⟨gr, 0, none⟩) 1 cr] 80)) := ((Below.refl _ _).alloc (Nat.le_refl _) _).alloc (by simp) _
 have HKA := hd ((Blk.new w #[.int .i64 0, .slice none 0 0, .int .i64 0] 33).alloc (.cells #[.string ⟨#[111]⟩, .slice (some ⟨gr, 0, none⟩) 1 cr] 80))
 have HKS : Hid (Blk ((w.alloc (.cells #[.int .i64 0, .slice none 0 0, .int .i64 0] 33)).alloc (.cells #[.string ⟨#[111]⟩, .slice (some ⟨gr, 0, none⟩) 1 cr] 80)) (w.heap.size + 1) #[.string ⟨#[111]⟩, .slice (some ⟨gr, 0, none⟩) 1 cr] 80) := (by have h := Blk.new (w.alloc (.cells #[.int .i64 0, .slice none 0 0, .int .i64 0] 33)) #[.string ⟨#[111]⟩, .slice (some ⟨gr, 0, none⟩) 1 cr] 80; rw [World.size_alloc] at h; exact h)
 have HBV := hd hB0
 have hsv : ((w.alloc (.cells #[.int .i64 0, .slice none 0 0, .int .i64 0] 33)).alloc (.cells #[.string ⟨#[111]⟩, .slice (some ⟨gr, 0, none⟩) 1 cr] 80)).heap.size = w.heap.size + 2 := by simp
 have hpl := HO.out.col.blk.lt
 clear hB0
 go_enter Tryz.func16, Tryz.ntmps16
 go_wp2_with fail
 generalize ((w.alloc (.cells #[.int .i64 0, .slice none 0 0, .int .i64 0] 33)).alloc (.cells #[.string ⟨#[111]⟩, .slice (some ⟨gr, 0, none⟩) 1 cr] 80)) = V at *
 have HD : Hid (Below V.heap.size V (World.drew V)) := (Below.refl _ V).drew
 have HOV := hd (HO.out.below HBV.out)
 have HTB := hd (table_one (World.drew V) (HOV.out.below HD.out))
 have HIN : Hid (∀ W1, Below V.heap.size V W1 → _) := fun W1 hW => Tb.insert_one (.num 0) ⟨by omega, by omega⟩ 0 rfl ⟨#[111]⟩ p g cap gr cr gy cy ⟨#[97]⟩ _ W1 (HOV.out.below hW).col rfl rfl rfl rfl (Nat.lt_of_lt_of_le hgr (HBV.out.trans (hW.mono HBV.out.size)).size) (((HBV.out.trans (hW.mono HBV.out.size)).cell (p := ⟨gr, 0, none⟩) hgr).trans r0) (Nat.lt_of_lt_of_le hgy (HBV.out.trans (hW.mono HBV.out.size)).size) (((HBV.out.trans (hW.mono HBV.out.size)).cell (p := ⟨gy, 0, none⟩) hgy).trans y0)
 have s0 := HKS.out.cell 0
 have s1 := HKS.out.cell 1
 have a0 := HKA.out.cell 0
 have a1 := HKA.out.cell 1
 have a2 := HKA.out.cell 2
 simp at s0 s1 a0 a1 a2
 have fa0 := HKA.out.free 0
 have fa1 := HKA.out.free 1
 have fa2 := HKA.out.free 2
 have hl1 := HKS.out.lt
 go_region_held3 (fun w' => w'.cell? ⟨w.heap.size + 1, 0, none⟩ = some (.string ⟨#[111]⟩) ∧ w'.cell? ⟨w.heap.size + 1, 1, none⟩ = some (.slice (some ⟨gr, 0, none⟩) 1 cr)) (go_keep)
   (first
    | (go_at_call 25
       refine HTB.out.mono ?_
       rintro x w1 ⟨rfl, hb1⟩
       have HB1 : Hid (Below V.heap.size V w1) := HD.out.trans hb1
       have K1 := HKS.out.below HB1.out HKS.out.lt
       have t0 := K1.cell 0
       have t1 := K1.cell 1
       simp at t0 t1
       have HI1 := hd (HIN.out w1 HB1.out)
       have hl3 := K1.lt
       clear hb1 K1)
    | (go_at_call 26
       refine HI1.out.mono ?_
       rintro x w2 ⟨rfl, v, w3, gv, cv, hb3, hgv, hrow, hown, rfl⟩
       have hO1 := HOV.out.below HB1.out
       obtain ⟨g2, c2, h2, hO2, hR2, hA2⟩ := inserted hO1 hpb hpg hpe hb3 hown
       have hA3 : Apart p (p + 1) V _ := (below_apart HB1.out).trans hA2
       have K3 := blk_block HKS.out hA3.size (hA3.block (w.heap.size + 1) (by omega) HKS.out.lt)
       have K4 := blk_block HKA.out hA3.size (hA3.block w.heap.size (by omega) HKA.out.lt)
       have HO3 := hd hO2
       have HR3 := hd hR2
       have HA3 := hd hA3
       have HG2 : Hid (w.heap.size + 2 ≤ g2) := by show _ ≤ _; have := HB1.out.size; omega
       clear hb3 hgv hrow hown hO1 h2 hO2 hR2 hA2 hA3
       generalize (((w3.setCell ⟨p, 1, none⟩ v).setCell ⟨p, 3, none⟩ (.int .i64 1)).setCell ⟨p, 4, none⟩ (.int .i64 1)) = W2 at *
       have u0 := K3.cell 0
       have u1 := K3.cell 1
       have b0 := K4.cell 0
       have b1 := K4.cell 1
       have b2 := K4.cell 2
       simp at u0 u1 b0 b1 b2
       have fb0 := K4.free 0
       have fb1 := K4.free 1
       have fb2 := K4.free 2
       have hl4 := K4.lt))
 have K5 := ((K4.set 0 (.int .i64 0)).set 1 (.slice none 0 0)).set 2 (.int .i64 1)
 have g0 := K5.cell 0
 have g1 := K5.cell 1
 have g3 := K5.cell 2
 simp at g0 g1 g3
 have HS : Hid (Apart w.heap.size (w.heap.size + 1) W2 (((W2.setCell ⟨w.heap.size, 0, none⟩ (.int .i64 0)).setCell ⟨w.heap.size, 1, none⟩ (.slice none 0 0)).setCell ⟨w.heap.size, 2, none⟩ (.int .i64 1))) := (set_apart.trans set_apart).trans set_apart
 have hge := HO.out.hge
 have hgl := HO.out.col.hg
 have hx2 : w.heap.size + 1 ≤ g2 := by have := HG2.out; omega
 clear K5 K4 K3
 go_wp2
 refine ⟨rfl, .agg #[.int .i64 0, .slice none 0 0, .int .i64 1], by simp [results, Tryz.results16, go_sem, g0, g1, g3], ?_⟩
 exact ⟨rfl, Apart.over ((below_apart HBV.out).trans HA3.out) HS.out (Nat.le_refl _), g2, c2, gv, cv, by omega, HO3.out.apart HS.out (by omega) (by omega) (by omega) (by omega), row_apart HR3.out HS.out (by omega) (by omega)⟩
end Tx
end
section
namespace Tx
open Tb Tw
theorem dRun_select {b p g cap ge ce gr cr gv cv gi ci co : Nat} {l : Int} {n : Int} {rv : Value} {ao : Option Addr} (e : Px.E) (hE : Mg.Ar e) (w : World) (h : One w b l p g cap ge ce rv n) (hr : OneRow w p gr cr gv cv) (hgi : gi < w.heap.size) (i0 : w.cell? ⟨gi, 0, none⟩ = some (.bool false)) (i1 : w.cell? ⟨gi, 1, none⟩ = some (ev e)) :
   Calls Tryz.prog 16 #[.pointer (some ⟨b, 2, none⟩), .iface 96 (.agg #[.slice (some ⟨gi, 0, none⟩) 1 ci, .string ⟨#[111]⟩, .nilIface, .slice ao 0 co, .bool false, .int .i64 0])] w (SelOut w (Mg.val e)) := by
 have hta1 := tbSelectCreate (.slice (some ⟨gi, 0, none⟩) 1 ci) (.string ⟨#[111]⟩) .nilIface (.slice ao 0 co) (.bool false) (.int .i64 0)
 have hta2 := tbSelectDrop (.slice (some ⟨gi, 0, none⟩) 1 ci) (.string ⟨#[111]⟩) .nilIface (.slice ao 0 co) (.bool false) (.int .i64 0)
 have hta3 := tbSelectInsert (.slice (some ⟨gi, 0, none⟩) 1 ci) (.string ⟨#[111]⟩) .nilIface (.slice ao 0 co) (.bool false) (.int .i64 0)
 have hta4 := tbSelectDelete (.slice (some ⟨gi, 0, none⟩) 1 ci) (.string ⟨#[111]⟩) .nilIface (.slice ao 0 co) (.bool false) (.int .i64 0)
 have hta5 := tbSelectUpdate (.slice (some ⟨gi, 0, none⟩) 1 ci) (.string ⟨#[111]⟩) .nilIface (.slice ao 0 co) (.bool false) (.int .i64 0)
 have hta6 := tbSelectSelect (.slice (some ⟨gi, 0, none⟩) 1 ci) (.string ⟨#[111]⟩) .nilIface (.slice ao 0 co) (.bool false) (.int .i64 0)
 have HO := hd h
 have HRW := hd hr
 have HE := hd hE
 have hbl := h.blk.lt
 clear h hr hE
 have hB0 : Below w.heap.size w ((w.alloc (.cells #[.int .i64 0, .slice none 0 0, .int .i64 0] 33)).alloc (.cells #[.slice (some ⟨gi, 0, none⟩) 1 ci, .string ⟨#[111]⟩, .nilIface, .slice ao 0 co, .bool false, .int .i64 0] 96)) := ((Below.refl _ _).alloc (Nat.le_refl _) _).alloc (by simp) _
 have HKA := hd ((Blk.new w #[.int .i64 0, .slice none 0 0, .int .i64 0] 33).alloc (.cells #[.slice (some ⟨gi, 0, none⟩) 1 ci, .string ⟨#[111]⟩, .nilIface, .slice ao 0 co, .bool false, .int .i64 0] 96))
 have HKS : Hid (Blk ((w.alloc (.cells #[.int .i64 0, .slice none 0 0, .int .i64 0] 33)).alloc (.cells #[.slice (some ⟨gi, 0, none⟩) 1 ci, .string ⟨#[111]⟩, .nilIface, .slice ao 0 co, .bool false, .int .i64 0] 96)) (w.heap.size + 1) #[.slice (some ⟨gi, 0, none⟩) 1 ci, .string ⟨#[111]⟩, .nilIface, .slice ao 0 co, .bool false, .int .i64 0] 96) := (by have h := Blk.new (w.alloc (.cells #[.int .i64 0, .slice none 0 0, .int .i64 0] 33)) #[.slice (some ⟨gi, 0, none⟩) 1 ci, .string ⟨#[111]⟩, .nilIface, .slice ao 0 co, .bool false, .int .i64 0] 96; rw [World.size_alloc] at h; exact h)
 have HBV := hd hB0
 have hsv : ((w.alloc (.cells #[.int .i64 0, .slice none 0 0, .int .i64 0] 33)).alloc (.cells #[.slice (some ⟨gi, 0, none⟩) 1 ci, .string ⟨#[111]⟩, .nilIface, .slice ao 0 co, .bool false, .int .i64 0] 96)).heap.size = w.heap.size + 2 := by simp
 clear hB0
 go_enter Tryz.func16, Tryz.ntmps16
 go_wp2_with fail
 generalize ((w.alloc (.cells #[.int .i64 0, .slice none 0 0, .int .i64 0] 33)).alloc (.cells #[.slice (some ⟨gi, 0, none⟩) 1 ci, .string ⟨#[111]⟩, .nilIface, .slice ao 0 co, .bool false, .int .i64 0] 96)) = V at *
 have HD : Hid (Below V.heap.size V (World.drew V)) := (Below.refl _ V).drew
 have HOV := hd (HO.out.below HBV.out)
 have HRV := hd (HRW.out.below HBV.out)
 have HTB := hd (table_one (World.drew V) (HOV.out.below HD.out))
 have HIN : Hid (∀ W1, Below V.heap.size V W1 → _) := fun W1 hW => Tw.selection_one e HE.out ao co ⟨#[111]⟩ p g cap gr cr gv cv gi ci ⟨#[97]⟩ _ W1 (HOV.out.below hW).col (HRV.out.below hW) (Nat.lt_of_lt_of_le hgi (HBV.out.trans (hW.mono HBV.out.size)).size) (((HBV.out.trans (hW.mono HBV.out.size)).cell (p := ⟨gi, 0, none⟩) hgi).trans i0) (((HBV.out.trans (hW.mono HBV.out.size)).cell (p := ⟨gi, 1, none⟩) hgi).trans i1)
 have s0 := HKS.out.cell 0
 have s1 := HKS.out.cell 1
 have s2 := HKS.out.cell 2
 have s3 := HKS.out.cell 3
 have s4 := HKS.out.cell 4
 have s5 := HKS.out.cell 5
 have a0 := HKA.out.cell 0
 have a1 := HKA.out.cell 1
 have a2 := HKA.out.cell 2
 simp at s0 s1 s2 s3 s4 s5 a0 a1 a2
 have fa0 := HKA.out.free 0
 have fa1 := HKA.out.free 1
 have fa2 := HKA.out.free 2
 have hl1 := HKS.out.lt
 cases hv : Mg.val e with
 | ok z =>
  have HVE := hd hv
  clear hv
  go_region_held3 (fun w' => w'.cell? ⟨w.heap.size + 1, 0, none⟩ = some (.slice (some ⟨gi, 0, none⟩) 1 ci) ∧ w'.cell? ⟨w.heap.size + 1, 1, none⟩ = some (.string ⟨#[111]⟩) ∧ w'.cell? ⟨w.heap.size + 1, 2, none⟩ = some .nilIface ∧ w'.cell? ⟨w.heap.size + 1, 3, none⟩ = some (.slice ao 0 co) ∧ w'.cell? ⟨w.heap.size + 1, 4, none⟩ = some (.bool false) ∧ w'.cell? ⟨w.heap.size + 1, 5, none⟩ = some (.int .i64 0)) (go_keep)
    (first
     | (go_at_call 25
        refine HTB.out.mono ?_
        rintro x w1 ⟨rfl, hb1⟩
        have HB1 : Hid (Below V.heap.size V w1) := HD.out.trans hb1
        have K1 := HKS.out.below HB1.out HKS.out.lt
        have t0 := K1.cell 0
        have t1 := K1.cell 1
        have t2 := K1.cell 2
        have t3 := K1.cell 3
        have t4 := K1.cell 4
        have t5 := K1.cell 5
        simp at t0 t1 t2 t3 t4 t5
        have HI1 := hd (HIN.out w1 HB1.out)
        have hl3 := K1.lt
        clear hb1 K1)
     | (go_at_call 29
        refine HI1.out.mono ?_
        rintro x W2 ⟨hb2, hx⟩
        rw [HVE.out] at hx
        obtain ⟨v, rfl, hown⟩ := hx
        obtain ⟨vo, vn, vc, rfl⟩ := own_slice hown
        have HB2 : Hid (Below V.heap.size V W2) := HB1.out.trans (hb2.mono HB1.out.size)
        have HOW := hd (ownBase hown HB1.out.size)
        have K3 := HKS.out.below HB2.out HKS.out.lt
        have K4 := HKA.out.below HB2.out HKA.out.lt
        clear hb2 hown
        have u0 := K3.cell 0
        have u1 := K3.cell 1
        have u2 := K3.cell 2
        have u3 := K3.cell 3
        have u4 := K3.cell 4
        have u5 := K3.cell 5
        have b0 := K4.cell 0
        have b1 := K4.cell 1
        have b2 := K4.cell 2
        simp at u0 u1 u2 u3 u4 u5 b0 b1 b2
        have fb0 := K4.free 0
        have fb1 := K4.free 1
        have fb2 := K4.free 2
        have hl4 := K4.lt))
  have K5 := ((K4.set 0 (.int .i64 1)).set 1 (.slice vo vn vc)).set 2 (.int .i64 0)
  have g0 := K5.cell 0
  have g1 := K5.cell 1
  have g3 := K5.cell 2
  simp at g0 g1 g3
  clear K5 K4 K3
  go_wp2
  refine ⟨rfl, .agg #[.int .i64 1, .slice vo vn vc, .int .i64 0], by simp [results, Tryz.results16, go_sem, g0, g1, g3], ?_⟩
  refine ⟨(((HBV.out.trans (HB2.out.mono HBV.out.size)).setCell (p := ⟨w.heap.size, 0, none⟩) (Nat.le_refl _) _).setCell (p := ⟨w.heap.size, 1, none⟩) (Nat.le_refl _) _).setCell (p := ⟨w.heap.size, 2, none⟩) (Nat.le_refl _) _, ?_⟩
  have ho := Tw.own_far (Tw.own_far (Tw.own_far HOW.out (p := ⟨w.heap.size, 0, none⟩) (.int .i64 1) (by show w.heap.size < _; omega)) (p := ⟨w.heap.size, 1, none⟩) (.slice vo vn vc) (by show w.heap.size < _; omega)) (p := ⟨w.heap.size, 2, none⟩) (.int .i64 0) (by show w.heap.size < _; omega)
  rw [HVE.out]
  exact ⟨_, rfl, ownBase ho (by omega)⟩
 | error c =>
  have HVE := hd hv
  clear hv
  have r0 := HKS.out.drew.cell 0
  have r1 := HKS.out.drew.cell 1
  have r2 := HKS.out.drew.cell 2
  have r3 := HKS.out.drew.cell 3
  have r4 := HKS.out.drew.cell 4
  have r5 := HKS.out.drew.cell 5
  simp at r0 r1 r2 r3 r4 r5
  refine wp_region_any (by kernel_rfl) ?_
  refine wpAny_take (i := 0) (v := (.pointer (some ⟨b, 2, none⟩))) rfl (by kernel_rfl) (by kernel_rfl) (by kernel_rfl) (fun _ _ _ h => h) (Or.inl ⟨by rfl, ?_⟩) ?_
  · intro w
    go_simp
  simp only [Act.put, List.setIfInBounds_toArray, List.set_cons_zero, List.set_cons_succ]
  refine wpAny_take (i := 1) (v := (.pointer (some ⟨w.heap.size + 1, 1, none⟩))) rfl (by kernel_rfl) (by kernel_rfl) (by kernel_rfl) (fun _ _ _ h => h) (Or.inl ⟨by rfl, ?_⟩) ?_
  · intro w
    go_simp
  simp only [Act.put, List.setIfInBounds_toArray, List.set_cons_zero, List.set_cons_succ]
  show wpAny _ _ _ _ _ _ _ (World.drew V)
  refine wpAny_ready (rs := [2, 4]) (by kernel_rfl) (by simp) ?_
  refine AllReady.cons rfl (fun K hK => ?_) (AllReady.cons rfl (fun K hK => ?_) AllReady.nil)
  · go_simp
    refine hK _ _ ?_
    clear hK K
    try simp only [Act.put, List.setIfInBounds_toArray, List.set_cons_zero, List.set_cons_succ]
    refine wpAny_ready (rs := [3, 4]) (by kernel_rfl) (by simp) ?_
    refine AllReady.cons rfl (fun K hK => ?_) (AllReady.cons rfl (fun K hK => ?_) AllReady.nil)
    · go_simp
      refine HTB.out.mono ?_
      rintro x w1 ⟨rfl, hb1⟩
      have HB1 : Hid (Below V.heap.size V w1) := HD.out.trans hb1
      have K1 := HKS.out.below HB1.out HKS.out.lt
      have t0 := K1.cell 0
      have t1 := K1.cell 1
      have t2 := K1.cell 2
      have t3 := K1.cell 3
      have t4 := K1.cell 4
      have t5 := K1.cell 5
      simp at t0 t1 t2 t3 t4 t5
      have HI1 := hd (HIN.out w1 HB1.out)
      have hl3 := K1.lt
      clear hb1 K1
      refine hK _ _ ?_
      clear hK K
      try simp only [Act.put, List.setIfInBounds_toArray, List.set_cons_zero, List.set_cons_succ]
      refine wpAny_ready (rs := [4]) (by kernel_rfl) (by simp) ?_
      refine AllReady.cons rfl (fun K hK => ?_) AllReady.nil
      go_simp
      refine hK _ _ ?_
      clear hK K
      try simp only [Act.put, List.setIfInBounds_toArray, List.set_cons_zero, List.set_cons_succ]
      refine wpAny_ready (rs := [5]) (by kernel_rfl) (by simp) ?_
      refine AllReady.cons rfl (fun K hK => ?_) AllReady.nil
      go_simp
      refine HI1.out.mono ?_
      rintro x W2 ⟨hb2, hx⟩
      rw [HVE.out] at hx
      have hx' : x = Flt 0 c := hx
      subst hx'
      exact ⟨rfl, HBV.out.trans ((HB1.out.trans (hb2.mono HB1.out.size)).mono HBV.out.size), rfl⟩
    · go_simp
      refine hK _ _ ?_
      clear hK K
      try simp only [Act.put, List.setIfInBounds_toArray, List.set_cons_zero, List.set_cons_succ]
      refine wpAny_ready (rs := [3]) (by kernel_rfl) (by simp) ?_
      refine AllReady.cons rfl (fun K hK => ?_) AllReady.nil
      go_simp
      refine HTB.out.mono ?_
      rintro x w1 ⟨rfl, hb1⟩
      have HB1 : Hid (Below V.heap.size V w1) := HD.out.trans hb1
      have K1 := HKS.out.below HB1.out HKS.out.lt
      have t0 := K1.cell 0
      have t1 := K1.cell 1
      have t2 := K1.cell 2
      have t3 := K1.cell 3
      have t4 := K1.cell 4
      have t5 := K1.cell 5
      simp at t0 t1 t2 t3 t4 t5
      have HI1 := hd (HIN.out w1 HB1.out)
      have hl3 := K1.lt
      clear hb1 K1
      refine hK _ _ ?_
      clear hK K
      try simp only [Act.put, List.setIfInBounds_toArray, List.set_cons_zero, List.set_cons_succ]
      refine wpAny_ready (rs := [5]) (by kernel_rfl) (by simp) ?_
      refine AllReady.cons rfl (fun K hK => ?_) AllReady.nil
      go_simp
      refine HI1.out.mono ?_
      rintro x W2 ⟨hb2, hx⟩
      rw [HVE.out] at hx
      have hx' : x = Flt 0 c := hx
      subst hx'
      exact ⟨rfl, HBV.out.trans ((HB1.out.trans (hb2.mono HB1.out.size)).mono HBV.out.size), rfl⟩
  · go_simp
    refine hK _ _ ?_
    clear hK K
    try simp only [Act.put, List.setIfInBounds_toArray, List.set_cons_zero, List.set_cons_succ]
    refine wpAny_ready (rs := [2]) (by kernel_rfl) (by simp) ?_
    refine AllReady.cons rfl (fun K hK => ?_) AllReady.nil
    go_simp
    refine hK _ _ ?_
    clear hK K
    try simp only [Act.put, List.setIfInBounds_toArray, List.set_cons_zero, List.set_cons_succ]
    refine wpAny_ready (rs := [3]) (by kernel_rfl) (by simp) ?_
    refine AllReady.cons rfl (fun K hK => ?_) AllReady.nil
    go_simp
    refine HTB.out.mono ?_
    rintro x w1 ⟨rfl, hb1⟩
    have HB1 : Hid (Below V.heap.size V w1) := HD.out.trans hb1
    have K1 := HKS.out.below HB1.out HKS.out.lt
    have t0 := K1.cell 0
    have t1 := K1.cell 1
    have t2 := K1.cell 2
    have t3 := K1.cell 3
    have t4 := K1.cell 4
    have t5 := K1.cell 5
    simp at t0 t1 t2 t3 t4 t5
    have HI1 := hd (HIN.out w1 HB1.out)
    have hl3 := K1.lt
    clear hb1 K1
    refine hK _ _ ?_
    clear hK K
    try simp only [Act.put, List.setIfInBounds_toArray, List.set_cons_zero, List.set_cons_succ]
    refine wpAny_ready (rs := [5]) (by kernel_rfl) (by simp) ?_
    refine AllReady.cons rfl (fun K hK => ?_) AllReady.nil
    go_simp
    refine HI1.out.mono ?_
    rintro x W2 ⟨hb2, hx⟩
    rw [HVE.out] at hx
    have hx' : x = Flt 0 c := hx
    subst hx'
    exact ⟨rfl, HBV.out.trans ((HB1.out.trans (hb2.mono HB1.out.size)).mono HBV.out.size), rfl⟩
end Tx
end
end Go.Proofs.YtaiebhhommgnbaaGreatDoor
