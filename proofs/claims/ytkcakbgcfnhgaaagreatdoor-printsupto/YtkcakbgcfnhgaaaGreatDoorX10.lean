/- Parts of the proof: Tz -/
import Derived.Test.YtkcakbgcfnhgaaaGreatDoorX9
import Derived.Deep.CutRange
namespace Go.Proofs.YtkcakbgcfnhgaaaGreatDoor
set_option linter.unusedSimpArgs false
set_option linter.unusedVariables false
set_option maxRecDepth 100000
set_option maxHeartbeats 16000000
open Go.RowKit
namespace Rf
theorem col_sz {s : Lx.Bs} (hs : Px.isName s = true) {u : ByteArray} (hu : u.data.toList = Px.nameT s) : u.size ≤ 62 ∧ (u ++ ⟨#[32]⟩ : ByteArray).size ≤ 63 ∧ ∀ v : ByteArray, v.size ≤ 7 → (u ++ ⟨#[32]⟩ ++ v : ByteArray).size ≤ 70 := by
 have h : u.size ≤ 62 := by rw [size_len, hu]; exact nameT_sz hs
 have h2 : (u ++ ⟨#[32]⟩ : ByteArray).size ≤ 63 := by
  rw [ByteArray.size_append]
  show u.size + 1 ≤ _
  omega
 refine ⟨h, h2, fun v hv => ?_⟩
 rw [ByteArray.size_append]
 omega
theorem partText_colz (ao : Option Addr) (cap : Nat) (L : List Px.Nd) (hL : L.length ≤ 16777216) (s : Lx.Bs) (hs : Px.isName s = true) (z : Int) (m : Nat) (hm : m < 4) (hz : z.tmod 4 = (m : Int)) (ty : ByteArray) (hty : (#[.string ⟨#[]⟩, .string ⟨#[73, 78, 84, 69, 71, 69, 82]⟩, .string ⟨#[84, 69, 88, 84]⟩, .string ⟨#[66, 79, 79, 76, 69, 65, 78]⟩] : Array Value)[m]? = some (.string ty)) (hts : ty.size ≤ 7) (p : Nat) (r : List Px.Nd) (w : World) (hdr : L.drop p = ⟨2, s, z, 0⟩ :: r) (hN : NdL w ao L) :
   Calls Tryz.prog 61 #[.slice ao L.length cap, .int .i64 (p : Int)] w (TxOut w (Px.nameT s ++ [32] ++ ty.data.toList ++ (if 4 < z then [32, 78, 79, 84, 32, 78, 85, 76, 76] else []))) := by
 obtain ⟨hp, g, off, rfl, hg, c0, c1, c2, c3⟩ := hN.head hdr
 simp only at c0 c1 c2 c3
 have hB0 : Below w.heap.size w (w.alloc (.cells #[.int .i64 2, .string ⟨s.toArray⟩, .int .i64 z, .int .i64 0] 43)) := by go_grown
 have HB0 := hd hB0
 have hs0 := hB0.size
 have HK0 := hd (Blk.new w #[.int .i64 2, .string ⟨s.toArray⟩, .int .i64 z, .int .i64 0] 43)
 have HK1 := hd (Blk.new (w.alloc (.cells #[.int .i64 2, .string ⟨s.toArray⟩, .int .i64 z, .int .i64 0] 43)) #[.string ⟨#[]⟩, .string ⟨#[73, 78, 84, 69, 71, 69, 82]⟩, .string ⟨#[84, 69, 88, 84]⟩, .string ⟨#[66, 79, 79, 76, 69, 65, 78]⟩] 9)
 have hl0 := HK0.out.lt
 have hl1 := HK1.out.lt
 have HS := hd hs
 have HTY := hd hty
 have HB1 : Hid (Below w.heap.size w ((w.alloc (.cells #[.int .i64 2, .string ⟨s.toArray⟩, .int .i64 z, .int .i64 0] 43)).alloc (.cells #[.string ⟨#[]⟩, .string ⟨#[73, 78, 84, 69, 71, 69, 82]⟩, .string ⟨#[84, 69, 88, 84]⟩, .string ⟨#[66, 79, 79, 76, 69, 65, 78]⟩] 9))) := by show Below _ _ _; go_grown
 have hgl : ([.string ⟨#[]⟩, .string ⟨#[73, 78, 84, 69, 71, 69, 82]⟩, .string ⟨#[84, 69, 88, 84]⟩, .string ⟨#[66, 79, 79, 76, 69, 65, 78]⟩] : List Value)[m]'(by simpa using hm) = .string ty := by
  rw [List.getElem?_toArray, List.getElem?_eq_getElem (by simpa using hm)] at hty
  exact Option.some.inj hty
 generalize hR : (Px.nameT s ++ [32] ++ ty.data.toList ++ (if 4 < z then [32, 78, 79, 84, 32, 78, 85, 76, 76] else [])) = R
 have HR := hd hR
 clear hdr hN hB0 hs hR
 go_enter Tryz.func61, Tryz.ntmps61
 go_upto_region 4 with fail
 go_cut [6] from 27 to 128 (fun s6 wx => ∃ u : ByteArray, s6 = .string (u ++ ⟨#[32]⟩ ++ ty) ∧ u.data.toList = Px.nameT s ∧ wx.cell? ⟨w.heap.size, 2, none⟩ = some (.int .i64 z) ∧ w.heap.size < wx.heap.size ∧ Below w.heap.size w wx)
 case first =>
  go_region_with (first
   | (go_at_call 63
      refine (nameOf HS.out (World.drew (World.alloc w _))).mono ?_
      rintro y w2 ⟨u, rfl, hu, hb⟩
      have hus : u.size ≤ 62 := (col_sz HS.out hu).1
      have s1 : (u ++ ⟨#[32]⟩ : ByteArray).size ≤ 63 := (col_sz HS.out hu).2.1
      have K1 := HK0.out.drew.below hb hl0
      have q2 := K1.cell 2
      simp at q2
      have hl2 := K1.lt
      have HB2 := hd (HB0.out.drew.trans (hb.mono hs0))
      have HU := hd hu
      clear hb hu K1)
   | (go_at_call 63
      refine (nameOf HS.out _).mono ?_
      rintro y w2 ⟨u, rfl, hu, hb⟩
      have hus : u.size ≤ 62 := (col_sz HS.out hu).1
      have s1 : (u ++ ⟨#[32]⟩ : ByteArray).size ≤ 63 := (col_sz HS.out hu).2.1
      have K1 := (HK0.out.alloc _).drew.below hb (HK0.out.alloc _).lt
      have K2 := HK1.out.drew.below hb hl1
      have q2 := K1.cell 2
      have q3 := K2.cell m
      rw [HTY.out] at q3
      simp at q2 q3
      have hl2 := K1.lt
      have HB2 := hd (HB1.out.drew.trans (hb.mono HB1.out.size))
      have HU := hd hu
      clear hb hu K1 K2))
  all_goals
   go_wp2_with fail
   go_meet
   first
    | exact ⟨u, rfl, HU.out, q2, hl2, HB2.out⟩
    | exact ⟨u, rfl, HU.out, (World.cell?_of_block (w := w2) (Below.heap_alloc w2 _ _ hl2)).trans q2, Nat.lt_of_lt_of_le hl2 (by simp), HB2.out.alloc HB2.out.size _⟩
 case rest =>
  obtain ⟨u, rfl, hu, hc2, hlx, hbx⟩ := hcut
  have HBX := hd hbx
  have HU := hd hu
  have s3 := (col_sz HS.out hu).2.2 ty hts
  have hus := (col_sz HS.out hu).1
  clear hbx hu
  by_cases h4 : 4 < z
  · have z1 : decide (4 < z) = true := decide_eq_true h4
    have H4 := hd h4
    clear h4
    go_wp2_with fail
    go_ret
    exact ⟨_, rfl, by rw [← HR.out, if_pos (by have := H4.out; omega), app_l, app_l, app_l, HU.out], HBX.out⟩
  · have z1 : decide (4 < z) = false := decide_eq_false h4
    have H4 := hd h4
    clear h4
    go_wp2_with fail
    go_ret
    exact ⟨_, rfl, by rw [← HR.out, if_neg (by have := H4.out; omega), app_l, app_l, HU.out, List.append_nil], HBX.out⟩
end Rf
end Go.Proofs.YtkcakbgcfnhgaaaGreatDoor
