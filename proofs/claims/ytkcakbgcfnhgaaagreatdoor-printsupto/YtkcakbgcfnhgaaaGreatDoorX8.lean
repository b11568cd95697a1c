/- Parts of the proof: Tf Ul Tg Sg Sj Ui Tt -/
import Derived.Test.YtkcakbgcfnhgaaaGreatDoorX7
namespace Go.Proofs.YtkcakbgcfnhgaaaGreatDoor
set_option linter.unusedSimpArgs false
set_option linter.unusedVariables false
set_option maxRecDepth 100000
set_option maxHeartbeats 16000000
open Go.RowKit
namespace Rf
theorem valueText_any (x : Px.Nd) (w : World) (hk : x.kind = 14 ∨ x.kind = 15 ∨ x.kind = 16 ∨ x.kind = 17) (hz : -9223372036854775808 ≤ x.num ∧ x.num ≤ 9223372036854775807) (ht : x.text.length ≤ 100000000) :
   Calls Tryz.prog 166 #[.agg #[.int .i64 x.kind, .int .i64 x.num, .string ⟨x.text.toArray⟩]] w (TxOut w (Px.atomT x)) := by
 obtain ⟨kd, tx, nu, ks⟩ := x
 simp only at hk hz ht
 have hts : (⟨tx.toArray⟩ : ByteArray).size = tx.length := by show tx.toArray.size = _; simp
 have HB0 : Hid (Below w.heap.size w (w.alloc (.cells #[.int .i64 kd, .int .i64 nu, .string ⟨tx.toArray⟩] 216))) := by show Below _ _ _; go_grown
 have hsz0 := HB0.out.size
 rcases hk with rfl | rfl | rfl | rfl
 · go_enter Tryz.func166, Tryz.ntmps166
   go_wp2_with fail
   go_ret
   exact ⟨_, rfl, by simp [Px.atomT, Px.kNULL], HB0.out⟩
 · by_cases h1 : nu = 1
   · subst h1
     go_enter Tryz.func166, Tryz.ntmps166
     go_wp2_with fail
     go_ret
     exact ⟨_, rfl, by simp [Px.atomT, Px.kTRUE], HB0.out⟩
   · have hb : (nu == 1) = false := by simpa using h1
     go_enter Tryz.func166, Tryz.ntmps166
     go_wp2_with fail
     go_ret
     exact ⟨_, rfl, by simp [Px.atomT, Px.kFALSE, h1], HB0.out⟩
 · have HD := hd (fun w => decimal_any 19 nu w (by omega) (by omega) (by omega) (by omega) (by omega))
   go_enter Tryz.func166, Tryz.ntmps166
   go_wp2_with fail
   refine (HD.out _).mono ?_
   rintro e w1 ⟨t, rfl, ht', _, hb⟩
   have HB1 : Hid (Below w.heap.size w w1) := HB0.out.trans (hb.mono hsz0)
   have HT := hd ht'
   clear hb ht'
   go_wp2_with fail
   go_ret
   exact ⟨t, rfl, by rw [HT.out]; simp [Px.atomT], HB1.out⟩
 · have HD := hd (fun w => doubled_any ⟨tx.toArray⟩ 39 w (by omega))
   go_enter Tryz.func166, Tryz.ntmps166
   go_wp2_with fail
   refine (HD.out _).mono ?_
   rintro e w1 ⟨⟨t, rfl, ht'⟩, rfl⟩
   have HT := hd ht'
   clear ht'
   go_wp2_with fail
   go_ret
   exact ⟨t, rfl, by rw [HT.out]; simp [Px.atomT], HB0.out⟩
theorem signOf_any (k : Nat) (w : World) (h1 : 23 ≤ k) (h2 : k ≤ 36) : Calls Tryz.prog 168 #[.int .i64 (k : Int)] w fun e w' => ∃ t : ByteArray, e = .returned (.tuple #[.string t, .int .i64 ((Px.sgnT k).2 : Int)]) ∧ t.data.toList = (Px.sgnT k).1 ∧ t.size ≤ 3 ∧ Below w.heap.size w w' := by
 rcases Px.sgn_cases h1 h2 with rfl | rfl | rfl | rfl | rfl | rfl | rfl | rfl | rfl | rfl | rfl | rfl | rfl | rfl
 all_goals
  go_enter Tryz.func168, Tryz.ntmps168
  go_wp2
  go_region
  all_goals
   go_wp2
   go_ret2
   exact ⟨_, rfl, by decide, by decide, by go_grown⟩
end Rf
namespace Px
def E.kidsL : E → List E
 | .un _ e => [e]
 | .bin _ a b => [a, b]
 | _ => []
def sizes (l : List E) : Nat := (l.map E.size).sum
theorem e_split (e : E) : ∃ x, e.nodes = x :: e.kidsL.flatMap E.nodes ∧ x.kids = (e.kidsL.length : Int) ∧ e.kidsL.length ≤ 2 ∧ (∀ k ∈ e.kidsL, k.size < e.size) ∧ e.size = 1 + sizes e.kidsL := by
 cases e with
 | un k e => exact ⟨⟨k, [], 0, 1⟩, by simp [E.nodes, over1, E.kidsL], rfl, by simp [E.kidsL], fun k hk => by simp [E.kidsL] at hk; subst hk; simp [E.size], by simp [E.size, sizes, E.kidsL]; omega⟩
 | bin k a b =>
  refine ⟨⟨k, [], 0, 2⟩, by simp [E.nodes, over2, E.kidsL], rfl, by simp [E.kidsL], fun k hk => ?_, by simp [E.size, sizes, E.kidsL]; omega⟩
  simp [E.kidsL] at hk
  rcases hk with rfl | rfl <;> simp [E.size] <;> omega
 | _ => exact ⟨_, rfl, rfl, by simp [E.kidsL], fun k hk => by simp [E.kidsL] at hk, by simp [E.size, sizes, E.kidsL]⟩
theorem drop_app {l a b : List Nd} {p : Nat} (h : l.drop p = a ++ b) : l.drop (p + a.length) = b := by
 rw [← List.drop_drop, h, List.drop_left]
theorem drop_len {l a b : List Nd} {p : Nat} (h : l.drop p = a ++ b) (ha : a ≠ []) : p + a.length + b.length = l.length := by
 have := congrArg List.length h
 simp only [List.length_drop, List.length_append] at this
 have : 0 < a.length := List.length_pos_iff.2 ha
 omega
end Px
namespace Rf
def NdL (w : World) (ao : Option Addr) (L : List Px.Nd) : Prop := ∀ k, (hk : k < L.length) → ∃ g off, ao = some ⟨g, off, none⟩ ∧ g < w.heap.size ∧ w.cell? ⟨g, off + k * 4, none⟩ = some (.int .i64 L[k].kind) ∧ w.cell? ⟨g, off + k * 4 + 1, none⟩ = some (.string ⟨L[k].text.toArray⟩) ∧ w.cell? ⟨g, off + k * 4 + 2, none⟩ = some (.int .i64 L[k].num) ∧ w.cell? ⟨g, off + k * 4 + 3, none⟩ = some (.int .i64 L[k].kids)
theorem NdL.below {w w' : World} {ao : Option Addr} {L : List Px.Nd} (h : NdL w ao L) (hb : Below w.heap.size w w') : NdL w' ao L := by
 intro k hk
 obtain ⟨g, off, h1, h2, h3, h4, h5, h6⟩ := h k hk
 refine ⟨g, off, h1, Nat.lt_of_lt_of_le h2 hb.size, ?_, ?_, ?_, ?_⟩
 · rw [hb.cell (p := ⟨g, _, none⟩) h2]; exact h3
 · rw [hb.cell (p := ⟨g, _, none⟩) h2]; exact h4
 · rw [hb.cell (p := ⟨g, _, none⟩) h2]; exact h5
 · rw [hb.cell (p := ⟨g, _, none⟩) h2]; exact h6
theorem NdL.head {w : World} {ao : Option Addr} {L r : List Px.Nd} {x : Px.Nd} {p : Nat} (h : NdL w ao L) (hd : L.drop p = x :: r) : p < L.length ∧ ∃ g off, ao = some ⟨g, off, none⟩ ∧ g < w.heap.size ∧ w.cell? ⟨g, off + p * 4, none⟩ = some (.int .i64 x.kind) ∧ w.cell? ⟨g, off + p * 4 + 1, none⟩ = some (.string ⟨x.text.toArray⟩) ∧ w.cell? ⟨g, off + p * 4 + 2, none⟩ = some (.int .i64 x.num) ∧ w.cell? ⟨g, off + p * 4 + 3, none⟩ = some (.int .i64 x.kids) := by
 have hp : p < L.length := by
  rcases Nat.lt_or_ge p L.length with h1 | h1
  · exact h1
  · rw [List.drop_eq_nil_of_le h1] at hd; cases hd
 have e : L[p] = x := by
  rw [List.drop_eq_getElem_cons hp] at hd
  exact (List.cons.inj hd).1
 have := h p hp
 rw [e] at this
 exact ⟨hp, this⟩
theorem after_e (ao : Option Addr) (cap : Nat) (L : List Px.Nd) (hL : L.length ≤ 16777216) : ∀ (n : Nat) (e : Px.E), e.size ≤ n → ∀ (p : Nat) (r : List Px.Nd) (w : World), L.drop p = e.nodes ++ r → NdL w ao L →
   Calls Tryz.prog 62 #[.slice ao L.length cap, .int .i64 (p : Int)] w fun x w' => x = .returned (.int .i64 ((p + e.size : Nat) : Int)) ∧ Below w.heap.size w w' := by
 intro n
 induction n with
 | zero => intro e he; have := e.size_pos; omega
 | succ n ih =>
  intro e he p r w hdrop hN
  obtain ⟨x, hx, hkid, hk2, hsm, hsz⟩ := Px.e_split e
  have hdr : L.drop p = x :: (e.kidsL.flatMap Px.E.nodes ++ r) := by rw [hdrop, hx]; rfl
  have hdr1 : L.drop (p + 1) = e.kidsL.flatMap Px.E.nodes ++ r := by rw [← List.drop_drop, hdr]; rfl
  obtain ⟨hp, g, off, rfl, hg, _, _, _, c3⟩ := hN.head hdr
  have hsum := Px.drop_len hdrop (by rw [hx]; simp)
  rw [Px.E.nodes_length] at hsum
  rw [hkid] at c3
  rw [hsz]
  rw [hsz] at hsum
  have HN := hd hN
  have HIH := hd ih
  have HSM := hd hsm
  have HDR := hd hdr1
  have hes : e.size = 1 + Px.sizes e.kidsL := hsz
  clear hN ih hsm hdrop hdr hdr1 hx hkid
  generalize e.kidsL = ks at *
  have z1 : (0 : Int) ≤ (p : Int) := by omega
  have z2 : (p : Int) < (L.length : Int) := by omega
  have z4 : decide ((L.length : Int) ≤ (p : Int)) = false := decide_eq_false (by omega)
  have z5 : decide ((p : Int) < 0) = false := decide_eq_false (by omega)
  have z6 : decide (L.length ≤ p) = false := decide_eq_false (by omega)
  have z7 : (L.length ≤ p) = False := eq_false (by omega)
  go_enter Tryz.func62, Tryz.ntmps62
  go_wp2_with fail
  go_loopw [1, 6] (fun at' i wr => ∃ (k q : Nat), k ≤ ks.length ∧ i = .int .i64 k ∧ at' = .int .i64 q ∧ Hid (q = p + 1 + Px.sizes (ks.take k)) ∧ Hid (L.drop q = (ks.drop k).flatMap Px.E.nodes ++ r) ∧ Hid (Below w.heap.size w wr)) (fun _ i _ => ks.length - (intOf i).toNat)
  case atStart => exact ⟨0, p + 1, by omega, rfl, by go_num, by show _ = _; simp [Px.sizes], HDR, Below.refl _ _⟩
  case round =>
   obtain ⟨k, q, hk, rfl, rfl, HSQ, HQ, HW⟩ := hrel
   have hpn : p ≤ 16777216 := by omega
   clear z2 hp hsum
   by_cases hlt : k < ks.length
   · have hmem : ks[k] ∈ ks := List.getElem_mem hlt
     have hkz := HSM.out _ hmem
     have hdk : ks.drop k = ks[k] :: ks.drop (k + 1) := List.drop_eq_getElem_cons hlt
     have hq2 : L.drop q = ks[k].nodes ++ ((ks.drop (k + 1)).flatMap Px.E.nodes ++ r) := by rw [HQ.out, hdk, List.flatMap_cons, List.append_assoc]
     have hq3 := Px.drop_app hq2
     rw [Px.E.nodes_length] at hq3
     have hqs := Px.drop_len hq2 (by have := ks[k].size_pos; intro e0; have h1 := ks[k].nodes_length; rw [e0] at h1; simp at h1; omega)
     rw [Px.E.nodes_length] at hqs
     have htk : Px.sizes (ks.take (k + 1)) = Px.sizes (ks.take k) + ks[k].size := by
      unfold Px.sizes
      rw [List.take_succ_eq_append_getElem hlt, List.map_append, List.sum_append]
      simp
     have HTK := hd htk
     clear htk
     have HC := hd (HIH.out ks[k] (by omega) q _ wr hq2 (HN.out.below HW.out))
     have HQ3 := hd hq3
     clear hq2 hq3 hdk HQ
     generalize ks[k].size = sz at *
     go_wp2_with fail
     refine HC.out.mono ?_
     rintro e w1 ⟨rfl, hb⟩
     have HW1 : Hid (Below w.heap.size w w1) := HW.out.trans (hb.mono HW.out.size)
     clear hb
     go_wp2_with fail
     go_roundw
     case rel => exact ⟨k + 1, q + sz, by omega, by go_num, rfl, by show _ = _; have := HSQ.out; rw [HTK.out]; omega, HQ3, HW1⟩
     case measure => simp [intOf]; omega
   · have hkc : k = ks.length := by omega
     have HSQ2 : Hid (q = p + 1 + Px.sizes ks) := by have h := HSQ.out; rw [hkc, List.take_length] at h; exact h
     clear HSQ
     have z3 : (ks.length : Int) ≤ (k : Int) := by omega
     go_wp2_with fail
     go_ret
     exact ⟨ret_int (by have := HSQ2.out; omega), HW.out⟩
end Rf
section
namespace Px
open Lx (Bs Tok)
theorem opT_len (k : Nat) : (opT k).out.length = (sgnT k).1.length := by unfold opT; split <;> rfl
end Px
end
section
namespace Px
open Lx (Bs Tok)
def wid : List Nd → Nat
 | [] => 0
 | x :: r => 40 + 2 * x.text.length + wid r
theorem wid_app (a b : List Nd) : wid (a ++ b) = wid a + wid b := by
 induction a with
 | nil => simp [wid]
 | cons t a ih => simp only [List.cons_append, wid, ih]; omega
theorem dbl_le (m : UInt8) (s : Bs) : (dbl m s).length ≤ 2 * s.length + 2 := by
 have := flat_le m s
 rw [dbl_len]
 omega
theorem name_le (s : Bs) : (nameT s).length ≤ 2 * s.length + 2 := Nat.le_trans (nameT_le s) (dbl_le 34 s)
theorem brk_le (a b : Nat) (l : List PT) : pls (brkT a b l) ≤ pls l + 4 := by
 unfold brkT
 split
 · simp only [pls, pls_app, sgT, List.length_cons, List.length_nil]; omega
 · omega
theorem sgn_len {k : Nat} (h1 : 23 ≤ k) (h2 : k ≤ 36) : (sgnT k).1.length ≤ 3 := by
 rcases sgn_cases h1 h2 with rfl | rfl | rfl | rfl | rfl | rfl | rfl | rfl | rfl | rfl | rfl | rfl | rfl | rfl <;> decide
theorem dg_len (n : Nat) (h : n ≤ 9223372036854775808) : (dgT n).out.length ≤ 19 := by
 show (decF 20 n).length ≤ 19
 exact decF_len 20 n 19 (by omega) (by omega)
end Px
end
section
namespace Px
open Lx (Bs Tok)
def E.tx : E → Bs × Nat
 | .null => (kNULL, 9)
 | .bool b => (if b = true then kTRUE else kFALSE, 9)
 | .num z => (dec z, if z < 0 then 8 else 9)
 | .str s => (dbl 39 s, 9)
 | .nm s => (nameT s, 9)
 | .un k e => pre1 k e.tx.1 e.tx.2
 | .bin k a b => pre2 k a.tx.1 a.tx.2 b.tx.1 b.tx.2
theorem ext_tx : ∀ (e : E) (f : Nat) (r : List Nd), e.kd → e.depth ≤ f → ext f (e.nodes ++ r) = (e.tx, r)
 | .null, f, r, _, hd => by
  obtain ⟨g, rfl⟩ : ∃ g, f = g + 1 := ⟨f - 1, by simp only [E.depth] at hd; omega⟩
  simp [E.nodes, leaf, ext, atomT, E.tx]
 | .bool b, f, r, _, hd => by
  obtain ⟨g, rfl⟩ : ∃ g, f = g + 1 := ⟨f - 1, by simp only [E.depth] at hd; omega⟩
  cases b <;> simp [E.nodes, leaf, ext, atomT, E.tx]
 | .num z, f, r, _, hd => by
  obtain ⟨g, rfl⟩ : ∃ g, f = g + 1 := ⟨f - 1, by simp only [E.depth] at hd; omega⟩
  simp [E.nodes, leaf, ext, atomT, E.tx]
 | .str s, f, r, _, hd => by
  obtain ⟨g, rfl⟩ : ∃ g, f = g + 1 := ⟨f - 1, by simp only [E.depth] at hd; omega⟩
  simp [E.nodes, leaf, ext, atomT, E.tx]
 | .nm s, f, r, _, hd => by
  obtain ⟨g, rfl⟩ : ∃ g, f = g + 1 := ⟨f - 1, by simp only [E.depth] at hd; omega⟩
  simp [E.nodes, leaf, ext, atomT, E.tx]
 | .un k e, f, r, hk, hd => by
  obtain ⟨g, rfl⟩ : ∃ g, f = g + 1 := ⟨f - 1, by simp only [E.depth] at hd; omega⟩
  have ih := ext_tx e g r hk.2.2 (by simp only [E.depth] at hd; omega)
  have h1 := hk.1
  have h2 := hk.2.1
  simp only [E.nodes, over1, List.cons_append, ext]
  rw [if_neg (by omega), if_pos (by omega), ih]
  rfl
 | .bin k a b, f, r, hk, hd => by
  obtain ⟨g, rfl⟩ : ∃ g, f = g + 1 := ⟨f - 1, by simp only [E.depth] at hd; omega⟩
  have iha := ext_tx a g (b.nodes ++ r) hk.2.2.1 (by simp only [E.depth] at hd; omega)
  have ihb := ext_tx b g r hk.2.2.2 (by simp only [E.depth] at hd; omega)
  have h1 := hk.1
  have h2 := hk.2.1
  simp only [E.nodes, over2, List.cons_append, List.append_assoc, ext]
  rw [if_neg (by omega), if_neg (by omega), iha, ihb]
  rfl
theorem tx_is {N f : Nat} {e : E} (h : EW N f e) : e.tx = (render e.pt, e.lvl) := by
 have h1 := ext_tx e f [] (E.kd_of e h.ok) h.dep
 have h2 := ext_nodes e f [] h
 rw [h1] at h2
 exact congrArg Prod.fst h2
theorem e_widN {N : Nat} : ∀ e : E, e.ok N → pls e.pt + 6 ≤ wid e.nodes
 | .null, _ => by decide
 | .bool b, _ => by cases b <;> decide
 | .num z, h => by
  simp only [E.ok] at h
  have := dg_len z.natAbs (by omega)
  simp only [E.nodes, leaf, wid, E.pt, List.length_nil]
  split <;> simp only [pls, mnT, List.length_cons, List.length_nil] <;> omega
 | .str s, _ => by
  have := dbl_le 39 s
  simp only [E.nodes, leaf, wid, E.pt, pls, stT]; omega
 | .nm s, _ => by
  have := name_le s
  simp only [E.nodes, leaf, wid, E.pt, pls, nmT]; omega
 | .un k e, h => by
  have ih := e_widN e h.2.2.2
  have b1 := brk_le e.lvl 3 e.pt
  have b2 := brk_le e.lvl 8 e.pt
  have b3 := brk_le e.lvl 5 e.pt
  simp only [E.nodes, over1, wid, E.pt, List.length_nil]
  have l1 : kNOT.length = 3 := rfl
  have l2 : kNULL.length = 4 := rfl
  have l3 : kIS.length = 2 := rfl
  split
  · simp only [pls, kwT]; omega
  · split
    · simp only [pls, mnT, List.length_cons, List.length_nil]; omega
    · split
      · simp only [pls, pls_app, kwT]; omega
      · simp only [pls, pls_app, kwT]; omega
 | .bin k a b, h => by
  have iha := e_widN a h.2.2.1
  have ihb := e_widN b h.2.2.2
  have b1 := brk_le a.lvl (leftOf k) a.pt
  have b2 := brk_le b.lvl ((sgnT k).2 + 1) b.pt
  have b3 := sgn_len h.1 h.2.1
  simp only [E.nodes, over2, wid, wid_app, E.pt, List.length_nil, pls_app, pls, opT_len]
  omega
theorem tx_len {N f : Nat} {e : E} (h : EW N f e) : e.tx.1.length ≤ wid e.nodes ∧ e.tx.2 ≤ 9 ∧ e.tx.1 ≠ [] := by
 have h1 := e_widN e h.ok
 have h2 := render_pls e.pt
 rw [tx_is h]
 refine ⟨by simp only; omega, ?_, render_ne (e_ends e (E.kd_of e h.ok)).1⟩
 have hk := E.kd_of e h.ok
 cases e with
 | num z => simp only [E.lvl]; split <;> omega
 | un k e => simp only [E.lvl]; repeat' split
             all_goals omega
 | bin k a b =>
  have hk1 := hk.1
  have hk2 := hk.2.1
  show (sgnT k).2 ≤ 9
  clear h h1 h2 hk
  rcases sgn_cases hk1 hk2 with rfl | rfl | rfl | rfl | rfl | rfl | rfl | rfl | rfl | rfl | rfl | rfl | rfl | rfl <;> decide
 | _ => simp [E.lvl]
theorem EW.un {N f k : Nat} {e : E} (h : EW N f (.un k e)) : EW N f e := ⟨h.ok.2.2.2, h.good, by have := h.dep; simp only [E.depth] at this; omega⟩
theorem EW.left {N f k : Nat} {a b : E} (h : EW N f (.bin k a b)) : EW N f a := ⟨h.ok.2.2.1, h.good.1, by have := h.dep; simp only [E.depth] at this; omega⟩
theorem EW.right {N f k : Nat} {a b : E} (h : EW N f (.bin k a b)) : EW N f b := ⟨h.ok.2.2.2, h.good.2, by have := h.dep; simp only [E.depth] at this; omega⟩
theorem wid_drop (l : List Nd) : ∀ p, wid (l.drop p) ≤ wid l := by
 intro p
 have := wid_app (l.take p) (l.drop p)
 rw [List.take_append_drop] at this
 omega
theorem wid_in {l a b : List Nd} {p : Nat} (h : l.drop p = a ++ b) : wid a ≤ wid l := by
 have := wid_drop l p
 rw [h, wid_app] at this
 omega
end Px
end
namespace Rf
def ExOut (w : World) (e : Px.E) (y : Ending) (w' : World) : Prop := ∃ t : ByteArray, y = .returned (.tuple #[.string t, .int .i64 (e.tx.2 : Int)]) ∧ t.data.toList = e.tx.1 ∧ Below w.heap.size w w'
theorem size_len (t : ByteArray) : t.size = t.data.toList.length := by simp
theorem brk_size (s : Lx.Bs) (a b : Nat) : (Px.brk s a b).length ≤ s.length + 2 := by
 unfold Px.brk; split <;> simp
theorem exprText_nm (ao : Option Addr) (cap : Nat) (L : List Px.Nd) (hL : L.length ≤ 16777216) (s : Lx.Bs) (hs : Px.isName s = true) (p : Nat) (r : List Px.Nd) (w : World) (hdr : L.drop p = (Px.E.nm s).nodes ++ r) (hN : NdL w ao L) :
   Calls Tryz.prog 102 #[.slice ao L.length cap, .int .i64 (p : Int)] w (ExOut w (.nm s)) := by
 have hdr' : L.drop p = ⟨18, s, 0, 0⟩ :: r := hdr
 obtain ⟨hp, g, off, rfl, hg, c0, c1, c2, c3⟩ := hN.head hdr'
 simp only at c0 c1 c2 c3
 have h0 : 0 < (⟨s.toArray⟩ : ByteArray).size ∧ (⟨s.toArray⟩ : ByteArray).size ≤ 30 := by
  simp only [Px.isName, Bool.and_eq_true, decide_eq_true_eq, Bool.not_eq_true', List.isEmpty_eq_false_iff] at hs
  have h1 : (⟨s.toArray⟩ : ByteArray).size = s.length := by show s.toArray.size = _; simp
  have h2 : 0 < s.length := List.length_pos_iff.2 hs.1.2
  omega
 have hB0 : Below w.heap.size w (w.alloc (.cells #[.int .i64 18, .string ⟨s.toArray⟩, .int .i64 0, .int .i64 0] 43)) := by go_grown
 have HB0 := hd hB0
 have hs0 := hB0.size
 have hV := nameText_any ⟨s.toArray⟩ (w.alloc (.cells #[.int .i64 18, .string ⟨s.toArray⟩, .int .i64 0, .int .i64 0] 43)) h0.1 h0.2
 rw [show (⟨s.toArray⟩ : ByteArray).data.toList = s by simp] at hV
 have HV := hd hV
 clear hdr hdr' hN hB0 hV
 go_enter Tryz.func102, Tryz.ntmps102
 go_wp2_with fail
 refine HV.out.mono ?_
 rintro y w1 ⟨t, rfl, ht, hb⟩
 have HB1 : Hid (Below w.heap.size w w1) := HB0.out.trans (hb.mono hs0)
 have HT := hd ht
 clear hb ht
 go_wp2_with fail
 go_ret2
 exact ⟨t, rfl, HT.out, HB1.out⟩
theorem exprText_lit (ao : Option Addr) (cap : Nat) (L : List Px.Nd) (hL : L.length ≤ 16777216) (e : Px.E) (kd : Int) (xt : Lx.Bs) (xn : Int) (hk : kd = 14 ∨ kd = 15 ∨ kd = 16 ∨ kd = 17) (hz : -9223372036854775808 ≤ xn ∧ xn ≤ 9223372036854775807) (ht : xt.length ≤ 100000000) (p : Nat) (r : List Px.Nd) (w : World) (hdr : L.drop p = ⟨kd, xt, xn, 0⟩ :: r) (hN : NdL w ao L)
   (he : e.tx = (Px.atomT ⟨kd, xt, xn, 0⟩, if kd = 16 ∧ xn < 0 then 8 else 9)) :
   Calls Tryz.prog 102 #[.slice ao L.length cap, .int .i64 (p : Int)] w (ExOut w e) := by
 obtain ⟨hp, g, off, rfl, hg, c0, c1, c2, c3⟩ := hN.head hdr
 simp only at c0 c1 c2 c3
 have hB0 : Below w.heap.size w (w.alloc (.cells #[.int .i64 kd, .string ⟨xt.toArray⟩, .int .i64 xn, .int .i64 0] 43)) := by go_grown
 have HB0 := hd hB0
 have hs0 := hB0.size
 have HK0 := hd (Blk.new w #[.int .i64 kd, .string ⟨xt.toArray⟩, .int .i64 xn, .int .i64 0] 43)
 have hl0 := HK0.out.lt
 have HV := hd (valueText_any ⟨kd, xt, xn, 0⟩ (w.alloc (.cells #[.int .i64 kd, .string ⟨xt.toArray⟩, .int .i64 xn, .int .i64 0] 43)) hk hz ht)
 have HE := hd he
 clear hdr hN hB0 he
 rcases hk with rfl | rfl | rfl | rfl
 · go_enter Tryz.func102, Tryz.ntmps102
   go_wp2_with fail
   refine HV.out.mono ?_
   rintro y w1 ⟨t, rfl, ht, hb⟩
   have HB1 : Hid (Below w.heap.size w w1) := HB0.out.trans (hb.mono hs0)
   have K1 := HK0.out.below hb hl0
   have b0 := K1.cell 0
   simp at b0
   have hl1 := K1.lt
   have HT := hd ht
   clear hb ht K1
   go_wp2_with fail
   go_ret2
   exact ⟨t, by rw [HE.out]; rfl, by rw [HE.out]; exact HT.out, HB1.out⟩
 · go_enter Tryz.func102, Tryz.ntmps102
   go_wp2_with fail
   refine HV.out.mono ?_
   rintro y w1 ⟨t, rfl, ht, hb⟩
   have HB1 : Hid (Below w.heap.size w w1) := HB0.out.trans (hb.mono hs0)
   have K1 := HK0.out.below hb hl0
   have b0 := K1.cell 0
   simp at b0
   have hl1 := K1.lt
   have HT := hd ht
   clear hb ht K1
   go_wp2_with fail
   go_ret2
   exact ⟨t, by rw [HE.out]; rfl, by rw [HE.out]; exact HT.out, HB1.out⟩
 · go_enter Tryz.func102, Tryz.ntmps102
   go_wp2_with fail
   refine HV.out.mono ?_
   rintro y w1 ⟨t, rfl, ht, hb⟩
   have HB1 : Hid (Below w.heap.size w w1) := HB0.out.trans (hb.mono hs0)
   have K1 := HK0.out.below hb hl0
   have b0 := K1.cell 0
   have b2 := K1.cell 2
   simp at b0 b2
   have hl1 := K1.lt
   have HT := hd ht
   clear hb ht K1
   rcases Int.lt_or_le xn 0 with hn | hn
   · go_wp2_with fail
     go_ret2
     exact ⟨t, by rw [HE.out]; simp [hn], by rw [HE.out]; exact HT.out, HB1.out⟩
   · have hz1 : decide (xn < 0) = false := decide_eq_false (by omega)
     go_wp2_with fail
     go_ret2
     exact ⟨t, by rw [HE.out, if_neg (by omega)]; rfl, by rw [HE.out]; exact HT.out, HB1.out⟩
 · go_enter Tryz.func102, Tryz.ntmps102
   go_wp2_with fail
   refine HV.out.mono ?_
   rintro y w1 ⟨t, rfl, ht, hb⟩
   have HB1 : Hid (Below w.heap.size w w1) := HB0.out.trans (hb.mono hs0)
   have K1 := HK0.out.below hb hl0
   have b0 := K1.cell 0
   simp at b0
   have hl1 := K1.lt
   have HT := hd ht
   clear hb ht K1
   go_wp2_with fail
   go_ret2
   exact ⟨t, by rw [HE.out]; rfl, by rw [HE.out]; exact HT.out, HB1.out⟩
theorem exprText_un (ao : Option Addr) (cap : Nat) (L : List Px.Nd) (hL : L.length ≤ 16777216) (k : Nat) (e : Px.E) (hk : k = 19 ∨ k = 20 ∨ k = 21 ∨ k = 22) (p : Nat) (r : List Px.Nd) (w : World) (hdr : L.drop p = (Px.E.un k e).nodes ++ r) (hN : NdL w ao L) (hsz : e.tx.1.length ≤ 100000000) (hlv : e.tx.2 ≤ 9) (hne : e.tx.1 ≠ [])
   (ih : ∀ w, NdL w ao L → Calls Tryz.prog 102 #[.slice ao L.length cap, .int .i64 ((p : Int) + 1)] w (ExOut w e)) :
   Calls Tryz.prog 102 #[.slice ao L.length cap, .int .i64 (p : Int)] w (ExOut w (.un k e)) := by
 have hdr' : L.drop p = ⟨k, [], 0, 1⟩ :: (e.nodes ++ r) := hdr
 obtain ⟨hp, g, off, rfl, hg, c0, c1, c2, c3⟩ := hN.head hdr'
 simp only at c0 c1 c2 c3
 have hpn : p < 16777216 := by omega
 have hB0 : Below w.heap.size w (w.alloc (.cells #[.int .i64 (k : Int), .string ⟨([] : Lx.Bs).toArray⟩, .int .i64 0, .int .i64 1] 43)) := by go_grown
 have HB0 := hd hB0
 have hs0 := hB0.size
 have HK0 := hd (Blk.new w #[.int .i64 (k : Int), .string ⟨([] : Lx.Bs).toArray⟩, .int .i64 0, .int .i64 1] 43)
 have hl0 := HK0.out.lt
 have HV := hd (ih _ (hN.below hB0))
 have HX : Hid ((Px.E.un k e).tx = Px.pre1 k e.tx.1 e.tx.2) := rfl
 have HSZ := hd hsz
 have HLV := hd hlv
 have HNE := hd hne
 clear hdr hdr' hN hB0 ih hsz hlv hne
 rcases hk with rfl | rfl | rfl | rfl
 all_goals
  go_enter Tryz.func102, Tryz.ntmps102
  go_wp2_with fail
  refine HV.out.mono ?_
  rintro y w1 ⟨t, rfl, ht, hb⟩
  have HB1 : Hid (Below w.heap.size w w1) := HB0.out.trans (hb.mono hs0)
  have K1 := HK0.out.below hb hl0
  have b0 := K1.cell 0
  simp at b0
  have hl1 := K1.lt
  have hts : t.size ≤ 100000000 := by rw [size_len, ht]; exact HSZ.out
  have HT := hd ht
  clear hb ht K1
  go_wp2_with fail
  skip
 rotate_left
 · refine (inside_any t e.tx.2 3 w1 (by have := HLV.out; omega) (by omega) (by omega)).mono ?_
   rintro y w2 ⟨⟨u, rfl, hu⟩, rfl⟩
   have hus : u.size ≤ 100000002 := by rw [size_len, hu, HT.out]; have := brk_size e.tx.1 e.tx.2 3; have := HSZ.out; omega
   have HU := hd hu
   clear hu
   go_wp2_with fail
   go_ret2
   exact ⟨_, by rw [HX.out]; rfl, by rw [HX.out, app_l, HU.out, HT.out]; rfl, HB1.out⟩
 · refine (inside_any t e.tx.2 5 w1 (by have := HLV.out; omega) (by omega) (by omega)).mono ?_
   rintro y w2 ⟨⟨u, rfl, hu⟩, rfl⟩
   have hus : u.size ≤ 100000002 := by rw [size_len, hu, HT.out]; have := brk_size e.tx.1 e.tx.2 5; have := HSZ.out; omega
   have HU := hd hu
   clear hu
   go_wp2_with fail
   go_ret2
   exact ⟨_, by rw [HX.out]; rfl, by rw [HX.out, app_l, HU.out, HT.out]; rfl, HB1.out⟩
 · refine (inside_any t e.tx.2 5 w1 (by have := HLV.out; omega) (by omega) (by omega)).mono ?_
   rintro y w2 ⟨⟨u, rfl, hu⟩, rfl⟩
   have hus : u.size ≤ 100000002 := by rw [size_len, hu, HT.out]; have := brk_size e.tx.1 e.tx.2 5; have := HSZ.out; omega
   have HU := hd hu
   clear hu
   go_wp2_with fail
   go_ret2
   exact ⟨_, by rw [HX.out]; rfl, by rw [HX.out, app_l, HU.out, HT.out]; rfl, HB1.out⟩
 · refine (inside_any t e.tx.2 8 w1 (by have := HLV.out; omega) (by omega) (by omega)).mono ?_
   rintro y w2 ⟨⟨u, rfl, hu⟩, rfl⟩
   rw [HT.out] at hu
   have hus : u.size ≤ 100000002 := by rw [size_len, hu]; have := brk_size e.tx.1 e.tx.2 8; have := HSZ.out; omega
   have hbn : Px.brk e.tx.1 e.tx.2 8 ≠ [] := by unfold Px.brk; split <;> simp [HNE.out]
   have hu0 : 0 < u.size := by rw [size_len, hu]; exact List.length_pos_iff.2 hbn
   have hdu := drop_at u 0 hu0
   rw [List.drop_zero] at hdu
   have HDU := hd hdu
   have HU := hd hu
   have HMT : Hid (∀ c s, c ≠ 45 → Px.minusT (c :: s) = 45 :: c :: s) := fun c s hc => by
    unfold Px.minusT
    split
    · rename_i e; exact absurd (List.cons.inj e).1 hc
    · rfl
   clear hu hdu hbn
   by_cases h45 : u[0] = 45
   · have hb45 : ((u[0].toNat : Int) == 45) = true := by rw [h45]; rfl
     have s1 : (⟨#[32]⟩ ++ u : ByteArray).size ≤ 100000003 := by rw [ByteArray.size_append]; show 1 + u.size ≤ _; omega
     have HQ := hd h45
     clear h45
     go_wp2_with fail
     go_ret2
     refine ⟨_, by rw [HX.out]; rfl, ?_, HB1.out⟩
     rw [HX.out, app_l, app_l]
     show _ = Px.minusT _
     rw [← HU.out, HDU.out, HQ.out]
     rfl
   · have hb45 : ((u[0].toNat : Int) == 45) = false := by
      refine beq_eq_false_iff_ne.2 fun e => h45 ?_
      have e2 : u[0].toNat = 45 := by omega
      exact UInt8.toNat_inj.1 e2
     have HQ := hd h45
     clear h45
     go_wp2_with fail
     go_ret2
     refine ⟨_, by rw [HX.out]; rfl, ?_, HB1.out⟩
     rw [HX.out, app_l]
     show _ = Px.minusT _
     rw [← HU.out, HDU.out, HMT.out _ _ HQ.out]
     rfl
end Rf
end Go.Proofs.YtkcakbgcfnhgaaaGreatDoor
