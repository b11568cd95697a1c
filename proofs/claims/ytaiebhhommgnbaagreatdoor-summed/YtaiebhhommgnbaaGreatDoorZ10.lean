/- Parts of the proof: Dj Dk Di Dl Dm Rnd Do -/
import Derived.Test.YtaiebhhommgnbaaGreatDoorZ7
import Derived.Test.YtaiebhhommgnbaaGreatDoorZ9
import Derived.RangeFuncIn
import Derived.RangeFuncLeaves
import Derived.RangeFuncRecord
import Derived.Below
import Derived.Laws.World
import Derived.Test.YtaiebhhommgnbaaGreatDoorZ1
import Derived.RangeFuncNested
import Derived.RangeFuncBound
import Derived.RangeFuncCalls
import Derived.Shelf.Abstract
import Derived.Shelf.RegionOpen
import Derived.WalkKit
import Derived.OwnWalkIn
import Derived.TacticsInMore
import Derived.LoopNIn
import Derived.LoopIn
namespace Go.Proofs.YtaiebhhommgnbaaGreatDoor
set_option linter.unusedSimpArgs false
set_option linter.unusedVariables false
set_option maxRecDepth 100000
set_option maxHeartbeats 16000000
open Go.RowKit
namespace Tb
theorem must1_true (c : Int) (w : World) : Calls Tryz.prog 55 #[.bool true, .int .i64 c] w fun x w' => x = .returned (.tuple #[]) ∧ w' = w := by
 go_enter Tryz.func55, Tryz.ntmps55
 go_wp2
 go_end0
 exact ⟨rfl, rfl⟩
theorem fits_10 (wt : Int) (h : wt = 0 ∨ wt = 1) (w : World) : Calls Tryz.prog 118 #[.int .i64 1, .int .i64 wt] w fun x w' => x = .returned (.bool true) ∧ w' = w := by
 rcases h with rfl | rfl
 · go_enter Tryz.func118, Tryz.ntmps118
   go_wp2_with fail
   go_ret
   exact ⟨rfl, rfl⟩
 · exact Mn.fits_1 w
theorem Tryz.info24 : (Tryz.prog.info? 24).map (fun i => (i.zero, i.size, i.bytes)) = some (some (.agg #[.int .i64 0, .int .i64 0, .string ⟨#[]⟩]), 3, 32) := by kernel_rfl
theorem valNews (w : World) (a b c : Value) (t : TypeId) : ∀ j u, ([a, b, c] : List Value)[j]? = some u → (w.alloc (.cells #[a, b, c] t)).cell? ((⟨w.heap.size, 0, none⟩ : Addr).add j) = some u := by
 intro j u hu
 rw [Addr.add_lit, Nat.zero_add, (Blk.new w #[a, b, c] t).cell]
 simpa using hu
def VlsOut (w : World) (r : Except Nat Int) (x : Ending) (w' : World) : Prop := Below w.heap.size w w' ∧ match r with
 | .ok z => ∃ v, x = .returned v ∧ w'.ownsRow w.heap.size 24 3 v 1 [.int .i64 16, .int .i64 z, .string ⟨#[]⟩]
 | .error c => x = Flt 0 c
theorem values_one (e : Px.E) (he : Mg.Ar e) (sv rv : Value) (g cap : Nat) (w : World) (hg : g < w.heap.size) (c0 : w.cell? ⟨g, 0, none⟩ = some (ev e)) :
   Calls Tryz.prog 62 #[sv, .slice (some ⟨g, 0, none⟩) 1 cap, rv] w (VlsOut w (Mg.val e)) := by
 obtain ⟨i0, hi, hz0, hz1, hz2⟩ := info_parts Tryz.info24
 obtain ⟨et, ex, hev⟩ := ev_iface e
 have hV := Mn.value_ar e he sv rv
 rw [hev] at c0 hV
 have HV := hd hV
 clear hV hev he
 go_enter Tryz.func62, Tryz.ntmps62
 go_wp2_with fail
 go_loopw [7, 12] (fun v i wr => Hid (Below w.heap.size w wr) ∧ ((i = .int .i64 0 ∧ v = .slice none 0 0) ∨ (i = .int .i64 1 ∧ ∃ z, Hid (Mg.val e = .ok z) ∧ Hid (wr.ownsRow w.heap.size 24 3 v 1 [.int .i64 16, .int .i64 z, .string ⟨#[]⟩])))) (fun _ i _ => 1 - (intOf i).toNat)
 case atStart => exact ⟨Below.refl _ _, .inl ⟨rfl, rfl⟩⟩
 case round =>
  obtain ⟨HW, ⟨rfl, rfl⟩ | ⟨rfl, z, HZ, HO⟩⟩ := hrel
  · have d0 := (HW.out.cell (p := ⟨g, 0, none⟩) hg).trans c0
    have hg2 := Nat.lt_of_lt_of_le hg HW.out.size
    go_wp2_with fail
    refine (HV.out _).mono ?_
    rintro x w1 ⟨hb, hx⟩
    have HW1 : Hid (Below w.heap.size w w1) := HW.out.trans (hb.mono HW.out.size)
    have HX := hd hx
    clear hb hx
    cases hv : Mg.val e with
    | error c =>
     rw [hv] at HX
     obtain rfl := HX.out
     exact ⟨rfl, HW1.out, by rw [hv]; rfl⟩
    | ok z =>
     rw [hv] at HX
     have HZ := hd hv
     obtain rfl := HX.out
     clear HX hv HV
     go_wp2_with (first
      | (at_builtin; refine wpList_append_own _ rfl _ _ 31 rfl w.heap.size 24 i0 (.agg #[.int .i64 0, .int .i64 0, .string ⟨#[]⟩]) 3 32 Tryz.underlying31 hi hz0 hz1 hz2 rfl (by decide) _ _ _ rfl (World.ownsRow_nil _ _ _ _) ⟨w1.heap.size, 0, none⟩ 1 1 [.int .i64 16, .int .i64 z, .string ⟨#[]⟩] rfl rfl ?c1 ?c2 ?c3 ?c4 ?c5 ?_)
      | fail)
     case c1 => exact valNews w1 _ _ _ _
     case c2 => intro u hu; simp at hu; rcases hu with rfl | rfl | rfl <;> rfl
     case c3 => simp [maxLen]
     case c4 => omega
     case c5 => have := HW1.out.size; simp; omega
     intro v' w3 hown hgrow _
     have HB3 : Hid (Below w.heap.size w w3) := by
      have h1 := HW1.out.alloc HW1.out.size (.cells #[.int .i64 16, .int .i64 z, .string ⟨#[]⟩] 24)
      exact ⟨hgrow.os.trans h1.os, hgrow.tape.trans h1.tape, hgrow.output.trans h1.output, Nat.le_trans h1.size hgrow.size, fun k hk => (hgrow.block k (Nat.lt_of_lt_of_le hk h1.size) (by simp [Value.ownBlock])).trans (h1.block k hk)⟩
     have HO3 := hd hown
     clear hown hgrow
     go_wp2_with fail
     go_roundw
     case rel => exact ⟨HB3, .inr ⟨rfl, z, HZ, HO3⟩⟩
     case measure => simp [intOf]
  · go_wp2_with fail
    go_ret
    exact ⟨HW.out, by rw [HZ.out]; exact ⟨_, rfl, HO.out⟩⟩
end Tb
namespace Tb
theorem check_one (e : Px.E) (he : Mg.Ar e) (wt : Int) (hwt : wt = 0 ∨ wt = 1) (sv : Value) (g cap : Nat) (w : World) (hg : g < w.heap.size) (c0 : w.cell? ⟨g, 0, none⟩ = some (ev e)) (c1 : w.cell? ⟨g, 1, none⟩ = some (.int .i64 wt)) :
   Calls Tryz.prog 60 #[sv, .slice (some ⟨g, 0, none⟩) 1 cap] w fun x w' => x = .returned (.tuple #[]) ∧ Below w.heap.size w w' := by
 obtain ⟨et, ex, hev⟩ := ev_iface e
 have hK := Mn.knows_ar e he sv
 have hT := Mn.type_ar e he sv
 rw [hev] at c0 hK hT
 have HK := hd hK
 have HT := hd hT
 have HF := hd (fits_10 wt hwt)
 clear hK hT hev he hwt
 go_enter Tryz.func60, Tryz.ntmps60
 go_wp2_with fail
 go_loopw [10] (fun i wr => (i = .int .i64 0 ∨ i = .int .i64 1) ∧ Hid (Below w.heap.size w wr)) (fun i _ => 1 - (intOf i).toNat)
 case atStart => exact ⟨.inl rfl, Below.refl _ _⟩
 case round =>
  obtain ⟨hi, HW⟩ := hrel
  have d0 := (HW.out.cell (p := ⟨g, 0, none⟩) hg).trans c0
  have d1 := (HW.out.cell (p := ⟨g, 1, none⟩) hg).trans c1
  have hg2 := Nat.lt_of_lt_of_le hg HW.out.size
  rcases hi with rfl | rfl
  · have HW1 : Hid (Below w.heap.size w (wr.alloc (.cells #[.iface et ex, .int .i64 wt] 168))) := HW.out.alloc HW.out.size _
    go_wp2_with fail
    refine (HK.out _).mono ?_
    rintro x w1 ⟨rfl, hb⟩
    have HW2 : Hid (Below w.heap.size w w1) := HW1.out.trans (hb.mono HW1.out.size)
    clear hb
    go_wp2_with fail
    refine (must1_true _ _).mono ?_
    rintro x w1 ⟨rfl, rfl⟩
    go_wp2_with fail
    go_roundw
    case rel => exact ⟨.inr rfl, HW2⟩
    case measure => simp [intOf]
  · go_wp2_with fail
    go_loopw [22] (fun i wr' => (i = .int .i64 0 ∨ i = .int .i64 1) ∧ Hid (Below w.heap.size w wr')) (fun i _ => 1 - (intOf i).toNat)
    case atStart => exact ⟨.inl rfl, HW⟩
    case round =>
     obtain ⟨hi, HV⟩ := hrel
     have d2 := (HV.out.cell (p := ⟨g, 0, none⟩) hg).trans c0
     have d3 := (HV.out.cell (p := ⟨g, 1, none⟩) hg).trans c1
     have hg3 := Nat.lt_of_lt_of_le hg HV.out.size
     rcases hi with rfl | rfl
     · have HBX := hd (Blk.new wr #[.iface et ex, .int .i64 wt] 168)
       have HV1 : Hid (Below w.heap.size w (World.drew (wr.alloc (.cells #[.iface et ex, .int .i64 wt] 168)))) := (HV.out.alloc HV.out.size _).drew
       have hlx := HBX.out.lt
       go_wp2_with fail
       go_region_held3 (fun w' => w'.cell? ⟨wr.heap.size, 0, none⟩ = some (.iface et ex) ∧ w'.cell? ⟨wr.heap.size, 1, none⟩ = some (.int .i64 wt)) (go_keep)
         (first
          | (go_at_call 119
             refine (HT.out _).mono ?_
             rintro x w1 ⟨rfl, hb1⟩
             have K1 := HBX.out.drew.below hb1 hlx
             have q0 := K1.cell 0
             have q1 := K1.cell 1
             simp at q0 q1)
          | (go_at_call 118
             refine (HF.out _).mono ?_
             rintro x w1 ⟨rfl, rfl⟩)
          | (go_at_call 55
             refine (must1_true _ _).mono ?_
             rintro x w1 ⟨rfl, rfl⟩))
       all_goals
        go_wp2_with fail
        go_roundw
        case rel => exact ⟨.inr rfl, HV1.out.trans (hb1.mono HV1.out.size)⟩
        case measure => simp [intOf]
     · go_wp2_with fail
       go_end0
       exact ⟨rfl, HV.out⟩
end Tb
namespace Tb
theorem must_true (c : Int) (w : World) : Calls Tryz.prog 55 #[.bool true, .int .i64 c] w fun x w' => x = .returned (.tuple #[]) ∧ w' = w := by
 go_enter Tryz.func55, Tryz.ntmps55
 go_wp2
 go_end0
 exact ⟨rfl, rfl⟩
theorem apart_one (nm : ByteArray) (ty : Int) (g cap : Nat) (w : World) (hg : g < w.heap.size) (c0 : w.cell? ⟨g, 0, none⟩ = some (.string nm)) (c1 : w.cell? ⟨g, 1, none⟩ = some (.int .i64 ty)) (hc : 1 ≤ cap) :
   Calls Tryz.prog 56 #[.slice (some ⟨g, 0, none⟩) 1 cap] w fun x w' => x = .returned (.bool true) ∧ Below w.heap.size w w' := by
 go_enter Tryz.func56, Tryz.ntmps56
 go_wp2_with fail
 go_loopw [9] (fun i wr => ∃ k : Nat, k ≤ 1 ∧ i = .int .i64 k ∧ Hid (Below w.heap.size w wr)) (fun i _ => 1 - (intOf i).toNat)
 case atStart => exact ⟨0, by omega, rfl, Below.refl _ _⟩
 case round =>
  obtain ⟨k, hk, rfl, HW⟩ := hrel
  have d0 := (HW.out.cell (p := ⟨g, 0, none⟩) hg).trans c0
  have d1 := (HW.out.cell (p := ⟨g, 1, none⟩) hg).trans c1
  have hg2 := Nat.lt_of_lt_of_le hg HW.out.size
  rcases (show k = 0 ∨ k = 1 by omega) with rfl | rfl
  · have HW1 : Hid (Below w.heap.size w (wr.alloc (.cells #[.string nm, .int .i64 ty] 192))) := HW.out.alloc HW.out.size _
    go_wp2_with fail
    go_loopw [18] (fun i wr' => i = .int .i64 0 ∧ wr' = wr.alloc (.cells #[.string nm, .int .i64 ty] 192)) (fun _ _ => 0)
    case atStart => exact ⟨rfl, rfl⟩
    case round =>
     obtain ⟨rfl, rfl⟩ := hrel
     go_wp2_with fail
     go_roundw
     case rel => exact ⟨1, by omega, rfl, HW1⟩
     case measure => simp [intOf]
  · go_wp2_with fail
    go_ret
    exact ⟨rfl, HW.out⟩
structure NoTab (w : World) (b : Nat) (cs : Array Value) (T : TypeId) : Prop where
 blk : Blk w b cs T
 ents : cs[2]? = some (.slice none 0 0)
 kids : cs[3]? = some (.slice none 0 0)
 cnt : cs[4]? = some (.int .i64 0)
theorem NoTab.below {w w' : World} {b : Nat} {cs : Array Value} {T : TypeId} (h : NoTab w b cs T) (hb : Below w.heap.size w w') : NoTab w' b cs T := ⟨h.blk.below hb h.blk.lt, h.ents, h.kids, h.cnt⟩
theorem create_none (t nm : ByteArray) (ty : Int) (g cap b : Nat) (cs : Array Value) (T : TypeId) (w : World) (hN : NoTab w b cs T) (hg : g < w.heap.size) (c0 : w.cell? ⟨g, 0, none⟩ = some (.string nm)) (c1 : w.cell? ⟨g, 1, none⟩ = some (.int .i64 ty)) (hc : 1 ≤ cap) :
   Calls Tryz.prog 23 #[.pointer (some ⟨b, 2, none⟩), .agg #[.string t, .slice (some ⟨g, 0, none⟩) 1 cap]] w fun x w' => x = .returned (.tuple #[]) ∧ ∃ v w1 p, Below w.heap.size w w1 ∧ w.heap.size ≤ p ∧ Blk w1 p #[.slice (some ⟨g, 0, none⟩) 1 cap, .slice none 0 0, .slice none 0 0, .int .i64 0, .int .i64 0] 142 ∧
     w1.ownsRow w.heap.size 220 2 v 1 [.string t, .pointer (some ⟨p, 0, none⟩)] ∧ w' = (w1.setCell ⟨b, 2, none⟩ v).setCell ⟨b, 4, none⟩ (.int .i64 1) := by
 have HN := hd hN
 have hb := hN.blk.lt
 have HB0 : Hid (Below w.heap.size w (w.alloc (.cells #[.string t, .slice (some ⟨g, 0, none⟩) 1 cap] 73))) := by show Below _ _ _; go_grown
 have HK0 := hd (Blk.new w #[.string t, .slice (some ⟨g, 0, none⟩) 1 cap] 73)
 have HN0 := hd (hN.below HB0.out)
 have HG0 := hd (Ts.get_none t b 2 (World.drew (w.alloc (.cells #[.string t, .slice (some ⟨g, 0, none⟩) 1 cap] 73))) HN0.out.blk.drew.lt ((HN0.out.blk.drew.cell 2).trans HN0.out.ents) ((HN0.out.blk.drew.cell 3).trans HN0.out.kids))
 have hl0 := HK0.out.lt
 clear hN
 go_enter Tryz.func23, Tryz.ntmps23
 go_wp2_with fail
 go_region_with (
   go_at_call 54
   refine HG0.out.mono ?_
   rintro x w1 ⟨rfl, rfl⟩)
 have HB1 : Hid (Below w.heap.size w (World.drew (w.alloc (.cells #[.string t, .slice (some ⟨g, 0, none⟩) 1 cap] 73)))) := HB0.out.drew
 have HK1 : Hid (Blk (World.drew (w.alloc (.cells #[.string t, .slice (some ⟨g, 0, none⟩) 1 cap] 73))) w.heap.size #[.string t, .slice (some ⟨g, 0, none⟩) 1 cap] 73) := HK0.out.drew
 have HN1 : Hid (NoTab (World.drew (w.alloc (.cells #[.string t, .slice (some ⟨g, 0, none⟩) 1 cap] 73))) b cs T) := ⟨HN0.out.blk.drew, HN0.out.ents, HN0.out.kids, HN0.out.cnt⟩
 clear HB0 HK0 HN0 HG0 HN hl0
 generalize World.drew (w.alloc (.cells #[.string t, .slice (some ⟨g, 0, none⟩) 1 cap] 73)) = W at *
 have k1 := HK1.out.cell 1
 simp at k1
 have hlk := HK1.out.lt
 go_wp2_with fail
 refine (must_true _ _).mono ?_
 rintro x w1 ⟨rfl, rfl⟩
 go_wp2_with fail
 refine (apart_one nm ty g cap _ (Nat.lt_of_lt_of_le hg HB1.out.size) ((HB1.out.cell (p := ⟨g, 0, none⟩) hg).trans c0) ((HB1.out.cell (p := ⟨g, 1, none⟩) hg).trans c1) hc).mono ?_
 rintro x w2 ⟨rfl, hb2⟩
 have HB2 : Hid (Below w.heap.size w w2) := HB1.out.trans (hb2.mono HB1.out.size)
 have HK2 := hd (HK1.out.below hb2 HK1.out.lt)
 have HN2 := hd (HN1.out.below hb2)
 clear hb2 HB1 HK1 HN1 k1 hlk
 go_wp2_with fail
 refine (must_true _ _).mono ?_
 rintro x w2 ⟨rfl, rfl⟩
 go_wp2_with fail
 refine (Ts.len_any b 2 0 _ HN2.out.blk.lt ((HN2.out.blk.cell 4).trans HN2.out.cnt)).mono ?_
 rintro x w2 ⟨rfl, rfl⟩
 go_wp2_with fail
 refine (must_true _ _).mono ?_
 rintro x w2 ⟨rfl, rfl⟩
 have k0 := HK2.out.cell 0
 have k1 := HK2.out.cell 1
 simp at k0 k1
 have hlk := HK2.out.lt
 have HT := hd (Blk.new w2 #[.slice (some ⟨g, 0, none⟩) 1 cap, .slice none 0 0, .slice none 0 0, .int .i64 0, .int .i64 0] 142)
 have HB3 : Hid (Below w.heap.size w (World.drew (w2.alloc (.cells #[.slice (some ⟨g, 0, none⟩) 1 cap, .slice none 0 0, .slice none 0 0, .int .i64 0, .int .i64 0] 142)))) := (HB2.out.alloc HB2.out.size _).drew
 have HPT := hd (Ts.treePut_none t (some ⟨w2.heap.size, 0, none⟩) b 2 cs T (World.drew (w2.alloc (.cells #[.slice (some ⟨g, 0, none⟩) 1 cap, .slice none 0 0, .slice none 0 0, .int .i64 0, .int .i64 0] 142))) (HN2.out.blk.alloc _).drew HN2.out.ents HN2.out.kids HN2.out.cnt)
 have hle : w.heap.size ≤ (World.drew (w2.alloc (.cells #[.slice (some ⟨g, 0, none⟩) 1 cap, .slice none 0 0, .slice none 0 0, .int .i64 0, .int .i64 0] 142))).heap.size := HB3.out.size
 go_wp2_with fail
 go_region_with (
   go_at_call 58
   refine HPT.out.mono ?_
   rintro x w5 ⟨rfl, v, w4, hb4, hown, rfl⟩)
 all_goals
  go_wp2_with fail
  go_end0
  exact ⟨rfl, v, w4, w2.heap.size, HB3.out.trans (hb4.mono hle), HB2.out.size, HT.out.drew.below hb4 HT.out.drew.lt, Ts.own_lower0 hown hle, rfl⟩
end Tb
namespace Tb
structure OneCol (w : World) (p g cap : Nat) (nm : ByteArray) (cs : Array Value) : Prop where
 blk : Blk w p cs 142
 cols : cs[0]? = some (.slice (some ⟨g, 0, none⟩) 1 cap)
 hg : g < w.heap.size
 name : w.cell? ⟨g, 0, none⟩ = some (.string nm)
 type : w.cell? ⟨g, 1, none⟩ = some (.int .i64 1)
theorem OneCol.below {w w' : World} {p g cap : Nat} {nm : ByteArray} {cs : Array Value} (h : OneCol w p g cap nm cs) (hb : Below w.heap.size w w') : OneCol w' p g cap nm cs :=
 ⟨h.blk.below hb h.blk.lt, h.cols, Nat.lt_of_lt_of_le h.hg hb.size, (hb.cell (p := ⟨g, 0, none⟩) h.hg).trans h.name, (hb.cell (p := ⟨g, 1, none⟩) h.hg).trans h.type⟩
theorem typeAt_one (p g cap : Nat) (nm : ByteArray) (cs : Array Value) (w : World) (h : OneCol w p g cap nm cs) :
   Calls Tryz.prog 120 #[.pointer (some ⟨p, 0, none⟩), .int .i64 0] w fun x w' => x = .returned (.int .i64 1) ∧ w' = w := by
 have c0 := (h.blk.cell 0).trans h.cols
 have c1 := h.type
 have hp := h.blk.lt
 have hg := h.hg
 clear h
 go_enter Tryz.func120, Tryz.ntmps120
 go_wp2_with fail
 go_ret
 exact ⟨rfl, rfl⟩
theorem Tryz.info168 : (Tryz.prog.info? 168).map (fun i => (i.zero, i.size, i.bytes)) = some (some (.agg #[.nilIface, .int .i64 0]), 2, 24) := by kernel_rfl
theorem twoNews (w : World) (a b : Value) (t : TypeId) : ∀ j u, ([a, b] : List Value)[j]? = some u → (w.alloc (.cells #[a, b] t)).cell? ((⟨w.heap.size, 0, none⟩ : Addr).add j) = some u := by
 intro j u hu
 rw [Addr.add_lit, Nat.zero_add, (Blk.new w #[a, b] t).cell]
 simpa using hu
theorem demandsOfRows_one (et : TypeId) (ex : Value) (p g cap gu cu gr cr : Nat) (nm : ByteArray) (cs : Array Value) (w : World) (h : OneCol w p g cap nm cs) (hgu : gu < w.heap.size) (cu0 : w.cell? ⟨gu, 0, none⟩ = some (.slice (some ⟨gr, 0, none⟩) 1 cr)) (hgr : gr < w.heap.size) (cr0 : w.cell? ⟨gr, 0, none⟩ = some (.iface et ex)) :
   Calls Tryz.prog 61 #[.pointer (some ⟨p, 0, none⟩), .slice (some ⟨gu, 0, none⟩) 1 cu] w fun x w' => Below w.heap.size w w' ∧ ∃ v, x = .returned v ∧ w'.ownsRow w.heap.size 168 2 v 1 [.iface et ex, .int .i64 1] := by
 obtain ⟨i0, hi, hz0, hz1, hz2⟩ := info_parts Tryz.info168
 have HC := hd h
 clear h
 go_enter Tryz.func61, Tryz.ntmps61
 go_wp2_with fail
 go_loopw [5, 12] (fun v i wr => Hid (Below w.heap.size w wr) ∧ ((i = .int .i64 0 ∧ v = .slice none 0 0) ∨ (i = .int .i64 1 ∧ Hid (wr.ownsRow w.heap.size 168 2 v 1 [.iface et ex, .int .i64 1])))) (fun _ i _ => 1 - (intOf i).toNat)
 case atStart => exact ⟨Below.refl _ _, .inl ⟨rfl, rfl⟩⟩
 case round =>
  obtain ⟨HW, ⟨rfl, rfl⟩ | ⟨rfl, HO⟩⟩ := hrel
  · have d0 := (HW.out.cell (p := ⟨gu, 0, none⟩) hgu).trans cu0
    have hgu2 := Nat.lt_of_lt_of_le hgu HW.out.size
    have HC1 := hd (HC.out.below HW.out)
    have c0 := (HC1.out.blk.cell 0).trans HC1.out.cols
    have hp := HC1.out.blk.lt
    go_wp2_with fail
    refine (must_true _ _).mono ?_
    rintro x wr ⟨rfl, rfl⟩
    go_wp2_with fail
    go_loopw [5, 27] (fun v i wr' => Hid (Below w.heap.size w wr') ∧ ((i = .int .i64 0 ∧ v = .slice none 0 0) ∨ (i = .int .i64 1 ∧ Hid (wr'.ownsRow w.heap.size 168 2 v 1 [.iface et ex, .int .i64 1])))) (fun _ i _ => 1 - (intOf i).toNat)
    case atStart => exact ⟨HW, .inl ⟨rfl, rfl⟩⟩
    case round =>
     obtain ⟨HV, ⟨rfl, rfl⟩ | ⟨rfl, HO⟩⟩ := hrel
     · have e0 := (HV.out.cell (p := ⟨gr, 0, none⟩) hgr).trans cr0
       have hgr2 := Nat.lt_of_lt_of_le hgr HV.out.size
       have HC2 := hd (HC.out.below HV.out)
       go_wp2_with fail
       refine (typeAt_one p g cap nm cs _ HC2.out).mono ?_
       rintro x wr ⟨rfl, rfl⟩
       go_wp2_with (first
        | (at_builtin; refine wpList_append_own _ rfl _ _ 145 rfl w.heap.size 168 i0 (.agg #[.nilIface, .int .i64 0]) 2 24 Tryz.underlying145 hi hz0 hz1 hz2 rfl (by decide) _ _ _ rfl (World.ownsRow_nil _ _ _ _) ⟨wr.heap.size, 0, none⟩ 1 1 [.iface et ex, .int .i64 1] rfl rfl ?c1 ?c2 ?c3 ?c4 ?c5 ?_)
        | fail)
       case c1 => exact twoNews wr _ _ _
       case c2 => intro u hu; simp at hu; rcases hu with rfl | rfl <;> rfl
       case c3 => simp [maxLen]
       case c4 => omega
       case c5 => have := HV.out.size; simp; omega
       intro v' w3 hown hgrow _
       have HB3 : Hid (Below w.heap.size w w3) := by
        have h1 := HV.out.alloc HV.out.size (.cells #[.iface et ex, .int .i64 1] 168)
        exact ⟨hgrow.os.trans h1.os, hgrow.tape.trans h1.tape, hgrow.output.trans h1.output, Nat.le_trans h1.size hgrow.size, fun k hk => (hgrow.block k (Nat.lt_of_lt_of_le hk h1.size) (by simp [Value.ownBlock])).trans (h1.block k hk)⟩
       have HO3 := hd hown
       clear hown hgrow
       go_wp2_with fail
       go_roundw
       case rel => exact ⟨HB3, .inr ⟨rfl, HO3⟩⟩
       case measure => simp [intOf]
     · go_wp2_with fail
       go_roundw
       case rel => exact ⟨HV, .inr ⟨rfl, HO⟩⟩
       case measure => simp [intOf]
  · go_wp2_with fail
    go_ret
    exact ⟨HW.out, _, rfl, HO.out⟩
theorem checkNulls_one (z : Int) (p g cap gv cv : Nat) (nm : ByteArray) (cs : Array Value) (w : World) (h : OneCol w p g cap nm cs) (hgv : gv < w.heap.size) (v0 : w.cell? ⟨gv, 0, none⟩ = some (.int .i64 16)) (v1 : w.cell? ⟨gv, 1, none⟩ = some (.int .i64 z)) (v2 : w.cell? ⟨gv, 2, none⟩ = some (.string ⟨#[]⟩)) :
   Calls Tryz.prog 63 #[.pointer (some ⟨p, 0, none⟩), .slice (some ⟨gv, 0, none⟩) 1 cv] w fun x w' => x = .returned (.tuple #[]) ∧ Below w.heap.size w w' := by
 go_enter Tryz.func63, Tryz.ntmps63
 go_wp2_with fail
 go_loopw [8] (fun i wr => (i = .int .i64 0 ∨ i = .int .i64 1) ∧ Hid (Below w.heap.size w wr)) (fun i _ => 1 - (intOf i).toNat)
 case atStart => exact ⟨.inl rfl, Below.refl _ _⟩
 case round =>
  obtain ⟨hi, HW⟩ := hrel
  rcases hi with rfl | rfl
  · have d0 := (HW.out.cell (p := ⟨gv, 0, none⟩) hgv).trans v0
    have d1 := (HW.out.cell (p := ⟨gv, 1, none⟩) hgv).trans v1
    have d2 := (HW.out.cell (p := ⟨gv, 2, none⟩) hgv).trans v2
    have hg2 := Nat.lt_of_lt_of_le hgv HW.out.size
    have HW1 : Hid (Below w.heap.size w (wr.alloc (.cells #[.int .i64 16, .int .i64 z, .string ⟨#[]⟩] 24))) := HW.out.alloc HW.out.size _
    go_wp2_with fail
    refine (Mn.isNull_any _ _ _ _).mono ?_
    rintro x w1 ⟨rfl, hb⟩
    have HW2 : Hid (Below w.heap.size w w1) := HW1.out.trans (hb.mono HW1.out.size)
    clear hb
    go_wp2_with fail
    refine (must_true _ _).mono ?_
    rintro x w1 ⟨rfl, rfl⟩
    go_wp2_with fail
    go_roundw
    case rel => exact ⟨.inr rfl, HW2⟩
    case measure => simp [intOf]
  · go_wp2_with fail
    go_end0
    exact ⟨rfl, HW.out⟩
end Tb
namespace Tb
theorem own_open {w : World} {base : Nat} {e : TypeId} {size : Nat} {v : Value} {n : Nat} {xs : List Value} (h : w.ownsRow base e size v n xs) (hn : n ≠ 0) : ∃ g cap, v = .slice (some ⟨g, 0, none⟩) n cap ∧ base ≤ g ∧ g < w.heap.size ∧ n ≤ cap ∧ cap ≤ maxLen ∧ ∀ j u, xs[j]? = some u → w.cell? ⟨g, j, none⟩ = some u := by
 rcases h.2 with ⟨_, h0⟩ | ⟨g, cap, cur, rfl, hb, hg, h1, h2, _⟩
 · exact absurd h0 hn
 · refine ⟨g, cap, rfl, hb, (Array.getElem?_eq_some_iff.1 hg).1, h1, h2, fun j u hu => ?_⟩
   have := h.cells (g := g) rfl j u hu
   simpa only [Addr.add_lit, Nat.zero_add] using this
theorem Tryz.info31 : (Tryz.prog.info? 31).map (fun i => (i.zero, i.size, i.bytes)) = some (some (.slice none 0 0), 1, 24) := by kernel_rfl
theorem oneNew (w : World) (a : Value) (t : TypeId) : ∀ j u, ([a] : List Value)[j]? = some u → (w.alloc (.cells #[a] t)).cell? ((⟨w.heap.size, 0, none⟩ : Addr).add j) = some u := by
 intro j u hu
 rw [Addr.add_lit, Nat.zero_add, (Blk.new w #[a] t).cell]
 simpa using hu
structure RowAt (w : World) (gv : Nat) (z : Int) : Prop where
 lt : gv < w.heap.size
 c0 : w.cell? ⟨gv, 0, none⟩ = some (.int .i64 16)
 c1 : w.cell? ⟨gv, 1, none⟩ = some (.int .i64 z)
 c2 : w.cell? ⟨gv, 2, none⟩ = some (.string ⟨#[]⟩)
theorem RowAt.below {w w' : World} {gv : Nat} {z : Int} (h : RowAt w gv z) (hb : Below w.heap.size w w') : RowAt w' gv z :=
 ⟨Nat.lt_of_lt_of_le h.lt hb.size, (hb.cell (p := ⟨gv, 0, none⟩) h.lt).trans h.c0, (hb.cell (p := ⟨gv, 1, none⟩) h.lt).trans h.c1, (hb.cell (p := ⟨gv, 2, none⟩) h.lt).trans h.c2⟩
theorem insert_one (e : Px.E) (he : Mg.Ar e) (z : Int) (hz : Mg.val e = .ok z) (tn : ByteArray) (p g cap gu cu gr cr : Nat) (nm : ByteArray) (cs : Array Value) (w : World) (h : OneCol w p g cap nm cs) (h1 : cs[1]? = some (.slice none 0 0)) (h2 : cs[2]? = some (.slice none 0 0)) (h3 : cs[3]? = some (.int .i64 0)) (h4 : cs[4]? = some (.int .i64 0))
   (hgu : gu < w.heap.size) (cu0 : w.cell? ⟨gu, 0, none⟩ = some (.slice (some ⟨gr, 0, none⟩) 1 cr)) (hgr : gr < w.heap.size) (cr0 : w.cell? ⟨gr, 0, none⟩ = some (ev e)) :
   Calls Tryz.prog 26 #[.pointer (some ⟨p, 0, none⟩), .agg #[.string tn, .slice (some ⟨gu, 0, none⟩) 1 cu]] w fun x w' => x = .returned (.int .i64 1) ∧ ∃ v w1 gv cv, Below w.heap.size w w1 ∧ w.heap.size ≤ gv ∧ RowAt w1 gv z ∧ w1.ownsRow w.heap.size 229 2 v 1 [.int .i64 0, .slice (some ⟨gv, 0, none⟩) 1 cv] ∧
     w' = ((w1.setCell ⟨p, 1, none⟩ v).setCell ⟨p, 3, none⟩ (.int .i64 1)).setCell ⟨p, 4, none⟩ (.int .i64 1) := by
 obtain ⟨i0, hi, hz0, hz1, hz2⟩ := info_parts Tryz.info31
 obtain ⟨et, ex, hev⟩ := ev_iface e
 have HEV := hd hev
 have HC := hd h
 have HB0 : Hid (Below w.heap.size w (w.alloc (.cells #[.string tn, .slice (some ⟨gu, 0, none⟩) 1 cu] 80))) := by show Below _ _ _; go_grown
 have HK0 := hd (Blk.new w #[.string tn, .slice (some ⟨gu, 0, none⟩) 1 cu] 80)
 have HZ := hd hz
 have HE := hd he
 have H1 := hd h1
 have H2 := hd h2
 have H3 := hd h3
 have H4 := hd h4
 rw [hev] at cr0
 have HDR := hd (demandsOfRows_one et ex p g cap gu cu gr cr nm cs (w.alloc (.cells #[.string tn, .slice (some ⟨gu, 0, none⟩) 1 cu] 80)) (h.below HB0.out) (Nat.lt_of_lt_of_le hgu HB0.out.size) ((HB0.out.cell (p := ⟨gu, 0, none⟩) hgu).trans cu0) (Nat.lt_of_lt_of_le hgr HB0.out.size) ((HB0.out.cell (p := ⟨gr, 0, none⟩) hgr).trans cr0))
 have hl0 := HK0.out.lt
 clear h h1 h2 h3 h4 hz he hev
 go_enter Tryz.func26, Tryz.ntmps26
 go_wp2_with fail
 refine HDR.out.mono ?_
 rintro x w1 ⟨hb1, v, rfl, hown⟩
 have HB1 : Hid (Below w.heap.size w w1) := HB0.out.trans (hb1.mono HB0.out.size)
 have HK1 := hd (HK0.out.below hb1 hl0)
 obtain ⟨gd, cd, rfl, _, hgd, _, _, hcd⟩ := own_open hown (by decide)
 have hq0 := hcd 0 _ rfl
 have hq1 := hcd 1 _ rfl
 rw [← HEV.out] at hq0
 have HCK := hd (check_one e HE.out 1 (.inr rfl) (.slice none 0 0) gd cd w1 hgd hq0 hq1)
 clear hb1 hown hcd hq0 hq1 HDR HK0 HB0
 go_wp2_with fail
 refine HCK.out.mono ?_
 rintro x w2 ⟨rfl, hb2⟩
 have HB2 : Hid (Below w.heap.size w w2) := HB1.out.trans (hb2.mono HB1.out.size)
 have HK2 := hd (HK1.out.below hb2 HK1.out.lt)
 clear hb2 HCK HB1 HK1
 have k1 := HK2.out.cell 1
 simp at k1
 have hlk := HK2.out.lt
 go_wp2_with fail
 go_loopw [5, 19] (fun v i wr => Hid (Below w.heap.size w wr) ∧ ((i = .int .i64 0 ∧ v = .slice none 0 0) ∨ (i = .int .i64 1 ∧ ∃ gv cv, Hid (w.heap.size ≤ gv ∧ RowAt wr gv z) ∧ Hid (wr.ownsRow w.heap.size 31 1 v 1 [.slice (some ⟨gv, 0, none⟩) 1 cv])))) (fun _ i _ => 1 - (intOf i).toNat)
 case atStart => exact ⟨HB2, .inl ⟨rfl, rfl⟩⟩
 case round =>
  obtain ⟨HW, ⟨rfl, rfl⟩ | ⟨rfl, gv, cv, HR, HO⟩⟩ := hrel
  · have d0 := (HW.out.cell (p := ⟨gu, 0, none⟩) hgu).trans cu0
    have hgu2 := Nat.lt_of_lt_of_le hgu HW.out.size
    have hrc := (HW.out.cell (p := ⟨gr, 0, none⟩) hgr).trans cr0
    rw [← HEV.out] at hrc
    have HVL := hd (values_one e HE.out (.slice none 0 0) (.slice none 0 0) gr cr wr (Nat.lt_of_lt_of_le hgr HW.out.size) hrc)
    clear hrc
    go_wp2_with fail
    refine HVL.out.mono ?_
    rintro x w3 ⟨hb3, hx⟩
    rw [HZ.out] at hx
    obtain ⟨v3, rfl, hown⟩ := hx
    have HB3 : Hid (Below w.heap.size w w3) := HW.out.trans (hb3.mono HW.out.size)
    obtain ⟨gv, cv, rfl, hge, hgv, _, _, hcv⟩ := own_open hown (by decide)
    have HRW : Hid (RowAt w3 gv z) := ⟨hgv, hcv 0 _ rfl, hcv 1 _ rfl, hcv 2 _ rfl⟩
    have HGE : Hid (w.heap.size ≤ gv) := Nat.le_trans HW.out.size hge
    have HCN := hd (checkNulls_one z p g cap gv cv nm cs w3 (HC.out.below HB3.out) hgv HRW.out.c0 HRW.out.c1 HRW.out.c2)
    clear hb3 hown hge hgv hcv HVL
    go_wp2_with fail
    refine HCN.out.mono ?_
    rintro x w4 ⟨rfl, hb4⟩
    have HB4 : Hid (Below w.heap.size w w4) := HB3.out.trans (hb4.mono HB3.out.size)
    have HRW4 := hd (HRW.out.below hb4)
    clear hb4 HCN HRW HB3
    go_wp2_with (first
     | (at_builtin; refine wpList_append_own _ rfl _ _ 147 rfl w.heap.size 31 i0 (.slice none 0 0) 1 24 Tryz.underlying147 hi hz0 hz1 hz2 rfl (by decide) _ _ _ rfl (World.ownsRow_nil _ _ _ _) ⟨w4.heap.size, 0, none⟩ 1 1 [.slice (some ⟨gv, 0, none⟩) 1 cv] rfl rfl ?c1 ?c2 ?c3 ?c4 ?c5 ?_)
     | fail)
    case c1 => exact oneNew w4 _ _
    case c2 => intro u hu; simp at hu; subst hu; rfl
    case c3 => simp [maxLen]
    case c4 => omega
    case c5 => have := HB4.out.size; simp; omega
    intro v' w5 hown hgrow _
    have hb5 : Below w4.heap.size w4 w5 := by
     have h1 := (Below.refl w4.heap.size w4).alloc (Nat.le_refl _) (.cells #[.slice (some ⟨gv, 0, none⟩) 1 cv] 31)
     exact ⟨hgrow.os.trans h1.os, hgrow.tape.trans h1.tape, hgrow.output.trans h1.output, Nat.le_trans h1.size hgrow.size, fun k hk => (hgrow.block k (Nat.lt_of_lt_of_le hk h1.size) (by simp [Value.ownBlock])).trans (h1.block k hk)⟩
    have HB5 : Hid (Below w.heap.size w w5) := HB4.out.trans (hb5.mono HB4.out.size)
    have HRW5 := hd (HRW4.out.below hb5)
    have HO5 := hd hown
    clear hown hgrow hb5
    go_wp2_with fail
    go_roundw
    case rel => exact ⟨HB5, .inr ⟨rfl, gv, cv, ⟨HGE.out, HRW5.out⟩, HO5⟩⟩
    case measure => simp [intOf]
  · have HC2 := hd (HC.out.below HW.out)
    have hp := HC2.out.blk.lt
    obtain ⟨gl, cl, rfl, _, hgl, _, _, hcl⟩ := own_open HO.out (by decide)
    have l0 := hcl 0 _ rfl
    clear hcl HO
    go_wp2_with fail
    refine (Ti.len_any p 1 0 _ hp ((HC2.out.blk.cell 3).trans H3.out)).mono ?_
    rintro x wr ⟨rfl, rfl⟩
    go_wp2_with fail
    refine (must_true _ _).mono ?_
    rintro x wr ⟨rfl, rfl⟩
    have n4 := (HC2.out.blk.cell 4).trans H4.out
    have HPT := hd (Ti.treePut_none 0 (some ⟨gv, 0, none⟩) 1 cv p 1 cs _ (World.drew wr) HC2.out.blk.drew H1.out H2.out H3.out)
    go_wp2_with fail
    go_loopw [44] (fun i wr' => (i = .int .i64 0 ∧ wr' = wr) ∨ (i = .int .i64 1 ∧ ∃ ve w4, Hid (Below wr.heap.size wr w4) ∧ Hid (w4.ownsRow wr.heap.size 229 2 ve 1 [.int .i64 0, .slice (some ⟨gv, 0, none⟩) 1 cv]) ∧ Hid (wr' = ((w4.setCell ⟨p, 1, none⟩ ve).setCell ⟨p, 3, none⟩ (.int .i64 1)).setCell ⟨p, 4, none⟩ (.int .i64 1)))) (fun i _ => 1 - (intOf i).toNat)
    case atStart => exact .inl ⟨rfl, rfl⟩
    case round =>
     obtain ⟨rfl, rfl⟩ | ⟨rfl, ve, w4, HB4, HO4, HE4⟩ := hrel
     · go_wp2_with fail
       go_region_with (
         go_at_call 65
         refine HPT.out.mono ?_
         rintro x w6 ⟨rfl, ve, w4, hb4, hown, rfl⟩
         have K4 := ((HC2.out.blk.drew.below hb4 HC2.out.blk.lt).set 1 ve).set 3 (.int .i64 1)
         have m4 := K4.cell 4
         rw [Array.getElem?_setIfInBounds_ne (by decide), Array.getElem?_setIfInBounds_ne (by decide), H4.out] at m4
         have f4 := K4.free 4
         have hl4 := K4.lt
         have HB4 : Hid (Below wr.heap.size wr w4) := ((Below.refl wr.heap.size wr).drew).trans hb4
         have HO4 := hd hown
         clear K4 hb4 hown)
       all_goals
        go_wp2_with fail
        go_roundw
        case rel => exact .inr ⟨rfl, ve, w4, HB4, HO4, rfl⟩
        case measure => simp [intOf]
     · go_wp2_with fail
       go_ret
       exact ⟨rfl, ve, w4, gv, cv, HW.out.trans (HB4.out.mono HW.out.size), HR.out.1, HR.out.2.below HB4.out, Ts.own_lower0 HO4.out HW.out.size, HE4.out⟩
end Tb
section
open Go Go.RowKit
variable {F : Fence} {n : Nat} {P : Program}
def roundPostP (P : Program) (l : Nat) (R : Ending → World → Prop) (e : Exit) (a : Act) (w : World) : Prop :=
 match e with
 | .panic chain => a.defers = [] ∧ R (.panicked chain) w
 | e => roundPost P l R e a w
theorem roundIn_p {l : Nat} {f : FuncId} {tmps : Array Value} {assign body : Code} {w : World} {R : Ending → World → Prop} (hF : F.fn f) (hfn : ∃ fn, P.funcs[f]? = some fn)
   (h : assign.wpIn (F.inRound l) n P (Exit.then (fun a₁ w₁ => ∃ w₂, (Instr.beginRound l).run P w₁ = .ok () w₂ ∧ body.wpIn (F.inRound l) n P (roundPostP P l R) a₁ w₂) (fun _ _ _ => False))
     { tmps := tmps, defers := [] } w) : RoundIn F n P l f tmps assign body w R := by
 refine ⟨hF, fun c cs hr => ?_⟩
 obtain ⟨b, hb⟩ : ∃ b : Frame, b = { (default : Frame) with fn := f, kind := .normal, roundOf := some l } := ⟨_, rfl⟩
 have hbf : b.fn = f := by rw [hb]
 have hbr : b.roundOf = some l := by rw [hb]
 have hstart : Frame.round l f tmps assign body .normal = b.atR { tmps := tmps, defers := [] } [.code assign, .beginRound, .code body] := by
  rw [hb]; simp [Frame.round, Frame.atR]
 have hroom : (F.inRound l).room ((c :: cs).length + 1 + n) := hr
 have hin : (F.inRound l).fn b.fn := by rw [hbf]; exact hF
 obtain ⟨e1, a1, w1, q1, g1⟩ := h b [.beginRound, .code body] (c :: cs) hbr hin hroom
 rw [← hstart] at g1
 cases e1 with
 | normal =>
  obtain ⟨w2, hbegin, hbody⟩ := q1
  have go1 := StepsIn.trans g1 (.one (fenced_calm (fr := b.atR a1 [.beginRound, .code body]) hin hroom rfl) (stepR_beginRound hbr hbegin))
  obtain ⟨e2, a2, w3, q2, g2⟩ := hbody b [] (c :: cs) hbr hin hroom
  have hsome : b.roundOf.isSome = true := by rw [hbr]; rfl
  have hkind : b.kind = .normal := by rw [hb]
  cases e2 with
  | normal =>
   obtain ⟨v, w4, hend, hR⟩ := q2
   exact ⟨.returned v, w4, hR, go1.trans (StepsIn.trans g2 (.one (fenced_calm (fr := b.atR a2 []) hin hroom rfl) (stepR_round_end hbr hkind hend)))⟩
  | ret =>
   obtain ⟨v, w4, hend, hR⟩ := q2
   obtain ⟨k, hs⟩ := g2.2 hsome
   exact ⟨.returned v, w4, hR, go1.trans (StepsIn.trans hs (.one (fenced_calm (fr := b.atR a2 (.code .ret :: k)) hin hroom rfl) (stepR_round_ret hbr hkind hend)))⟩
  | exit id =>
   obtain ⟨v, w4, hend, hR⟩ := q2
   obtain ⟨k, hk, hs⟩ := g2.2 hsome rfl
   exact ⟨.returned v, w4, hR, go1.trans (StepsIn.trans hs (.one (fenced_calm (fr := b.atR a2 (.code (.exit id) :: k)) hin hroom rfl) (stepR_round_exit hbr hkind hk hend)))⟩
  | goto t =>
   obtain ⟨v, w4, hend, hR⟩ := q2
   obtain ⟨k, hk, hs⟩ := g2.2 hsome rfl
   exact ⟨.returned v, w4, hR, go1.trans (StepsIn.trans hs (.one (fenced_calm (fr := b.atR a2 (.code (.goto t) :: k)) hin hroom rfl) (stepR_round_goto hbr hkind hk hend)))⟩
  | panic chain =>
   obtain ⟨hd, hR⟩ := q2
   obtain ⟨todo, hs⟩ := g2
   obtain ⟨fn, hfn⟩ := hfn
   have hleave : Frame.leaving P { b.atR a2 todo with mode := .panicking chain } w3 (.panicked chain) := ⟨rfl, hd, fn, by show P.funcs[b.fn]? = _; rw [hbf]; exact hfn⟩
   exact ⟨.panicked chain, w3, hR, go1.trans (StepsIn.trans hs (.one (fenced_leaving (F := F.inRound l) hin hroom hleave) (step_leave_panicked hleave)))⟩
  | outgrown => exact q2.elim
 | exit id => exact q1.elim
 | goto t => exact q1.elim
 | ret => exact q1.elim
 | panic chain => exact q1.elim
 | outgrown => exact q1.elim
def AtFn (f : FuncId) (P : Program) (c : Code) (Q : Exit → Act → World → Prop) (a : Act) (w : World) : Prop :=
 ∀ (b : Frame) (k : List Item) (cs : List Frame), b.fn = f → b.roundOf = none →
   ∃ e a' w', Q e a' w' ∧ ArrivesIn (Machine.fenced P Fence.wide) P (lone (b.atR a (.code c :: k)) cs w) b k cs e a' w'
theorem atFn_of {f : FuncId} {n : Nat} {c : Code} {Q : Exit → Act → World → Prop} {a : Act} {w : World} (h : c.wpIn Fence.wide n P Q a w) : AtFn f P c Q a w :=
 fun b k cs _ hr => h b k cs hr trivial (room_wide _)
theorem atFn_seq {f : FuncId} {n : Nat} {x y : Code} {Q : Exit → Act → World → Prop} {a : Act} {w : World} (h : x.wpIn Fence.wide n P (Exit.then (fun a w => AtFn f P y Q a w) Q) a w) : AtFn f P (.seq x y) Q a w := by
 intro b k cs hb hr
 have h0 : (lone (b.atR a (.code (.seq x y) :: k)) cs w).fenced P Fence.wide := fenced_wide _ _
 obtain ⟨e, a1, w1, q, g⟩ := h b (.code y :: k) cs hr trivial (room_wide _)
 cases e with
 | normal =>
  obtain ⟨e2, a2, w2, q2, g2⟩ := q b k cs hb hr
  exact ⟨e2, a2, w2, q2, .of_steps (.head h0 stepR_seq g) g2⟩
 | exit id => exact ⟨_, a1, w1, q, .of_steps (.one h0 stepR_seq) (.pass (x := .code y) rfl (fun _ _ => .inl (by simp)) g)⟩
 | goto l => exact ⟨_, a1, w1, q, .of_steps (.one h0 stepR_seq) (.pass (x := .code y) rfl (fun _ _ => .inl (by simp)) g)⟩
 | ret => exact ⟨_, a1, w1, q, .of_steps (.one h0 stepR_seq) (.pass (x := .code y) rfl (fun _ _ => .inl (by simp)) g)⟩
 | panic ch => exact ⟨_, a1, w1, q, .of_steps (.one h0 stepR_seq) (.pass (x := .code y) rfl (fun _ _ => .inl (by simp)) g)⟩
 | outgrown => exact ⟨_, a1, w1, q, .of_steps (.one h0 stepR_seq) (.pass (x := .code y) rfl (fun _ _ => .inl (by simp)) g)⟩
theorem atFn_seq2 {f : FuncId} {x y : Code} {Q : Exit → Act → World → Prop} {a : Act} {w : World} (h : AtFn f P x (Exit.then (fun a w => AtFn f P y Q a w) Q) a w) : AtFn f P (.seq x y) Q a w := by
 intro b k cs hb hr
 have h0 : (lone (b.atR a (.code (.seq x y) :: k)) cs w).fenced P Fence.wide := fenced_wide _ _
 obtain ⟨e, a1, w1, q, g⟩ := h b (.code y :: k) cs hb hr
 cases e with
 | normal =>
  obtain ⟨e2, a2, w2, q2, g2⟩ := q b k cs hb hr
  exact ⟨e2, a2, w2, q2, .of_steps (.head h0 stepR_seq g) g2⟩
 | exit id => exact ⟨_, a1, w1, q, .of_steps (.one h0 stepR_seq) (.pass (x := .code y) rfl (fun _ _ => .inl (by simp)) g)⟩
 | goto l => exact ⟨_, a1, w1, q, .of_steps (.one h0 stepR_seq) (.pass (x := .code y) rfl (fun _ _ => .inl (by simp)) g)⟩
 | ret => exact ⟨_, a1, w1, q, .of_steps (.one h0 stepR_seq) (.pass (x := .code y) rfl (fun _ _ => .inl (by simp)) g)⟩
 | panic ch => exact ⟨_, a1, w1, q, .of_steps (.one h0 stepR_seq) (.pass (x := .code y) rfl (fun _ _ => .inl (by simp)) g)⟩
 | outgrown => exact ⟨_, a1, w1, q, .of_steps (.one h0 stepR_seq) (.pass (x := .code y) rfl (fun _ _ => .inl (by simp)) g)⟩
theorem atFn_block {f : FuncId} {id : Nat} {c : Code} {Q : Exit → Act → World → Prop} {a : Act} {w : World} (h : AtFn f P c (Exit.inBlock id Q) a w) : AtFn f P (.block id c) Q a w := by
 intro b k cs hb hr
 have h0 : (lone (b.atR a (.code (.block id c) :: k)) cs w).fenced P Fence.wide := fenced_wide _ _
 obtain ⟨e, a1, w1, q, g⟩ := h b (.inBlock id :: k) cs hb hr
 cases e with
 | normal => exact ⟨.normal, a1, w1, q, .head h0 stepR_block (StepsIn.trans g (.one (fenced_wide _ _) stepR_inBlock))⟩
 | exit j =>
  by_cases hj : j = id
  · simp only [Exit.inBlock, hj, if_true] at q
    exact ⟨.normal, a1, w1, q, .head h0 stepR_block (g.1 k (by simp [exitTo, hj]))⟩
  · simp only [Exit.inBlock, hj, if_false] at q
    have hne : (id == j) = false := by simp; exact fun h => hj h.symm
    have hx : exitTo j (.inBlock id :: k) = exitTo j k := by simp [exitTo, hne]
    exact ⟨.exit j, a1, w1, q, fun k' hk => .head h0 stepR_block (g.1 k' (by rw [hx]; exact hk)), fun hr' hk => let ⟨k1, p1, p2⟩ := g.2 hr' (by rw [hx]; exact hk); ⟨k1, p1, .head h0 stepR_block p2⟩⟩
 | goto t =>
  have hx : gotoIn t (.inBlock id :: k) = gotoIn t k := by simp [gotoIn]
  exact ⟨_, a1, w1, q, fun k' hk => .head h0 stepR_block (g.1 k' (by rw [hx]; exact hk)), fun hr' hk => let ⟨k1, p1, p2⟩ := g.2 hr' (by rw [hx]; exact hk); ⟨k1, p1, .head h0 stepR_block p2⟩⟩
 | ret => exact ⟨_, a1, w1, q, .of_steps (.one h0 stepR_block) g⟩
 | panic ch => exact ⟨_, a1, w1, q, .of_steps (.one h0 stepR_block) g⟩
 | outgrown => exact ⟨_, a1, w1, q, .of_steps (.one h0 stepR_block) g⟩
def loopRec (f : FuncId) (a : Act) (ps : Array Tmp) (assign body : Code) (d : Nat) : Loop := { state := .ready, pending := none, fn := f, tmps := a.tmps, params := ps, assign := assign, body := body, defers := d }
def loopW (f : FuncId) (a : Act) (ps : Array Tmp) (assign body : Code) (w : World) : World := (w.alloc (.deferred (some []))).alloc (.loop (loopRec f a ps assign body w.heap.size))
theorem loopW_rec (f : FuncId) (a : Act) (ps : Array Tmp) (assign body : Code) (w : World) : (loopW f a ps assign body w).heap[w.heap.size + 1]? = some (.loop (loopRec f a ps assign body w.heap.size)) := by
 have := World.alloc_heap_new (w.alloc (.deferred (some []))) (.loop (loopRec f a ps assign body w.heap.size))
 rwa [World.size_alloc] at this
theorem loopW_def (f : FuncId) (a : Act) (ps : Array Tmp) (assign body : Code) (w : World) : (loopW f a ps assign body w).heap[w.heap.size]? = some (.deferred (some [])) :=
 (Below.heap_alloc _ _ _ (by simp)).trans (World.alloc_heap_new w _)
theorem loopW_below (f : FuncId) (a : Act) (ps : Array Tmp) (assign body : Code) (w : World) : Below w.heap.size w (loopW f a ps assign body w) :=
 ((Below.refl _ w).alloc (Nat.le_refl _) _).alloc (by simp) _
theorem loopW_size (f : FuncId) (a : Act) (ps : Array Tmp) (assign body : Code) (w : World) : (loopW f a ps assign body w).heap.size = w.heap.size + 2 := by simp [loopW]
theorem atFn_range {f : FuncId} {n : Nat} {g : Operand} {ps : Array Tmp} {assign body : Code} {Q : Exit → Act → World → Prop} {a : Act} {w : World} {gf : Nat} {lb : Array Value}
   (hg : a.eval g = .func (.func gf) #[] lb) (eg : ∀ args w, (callFunc gf args).run P w = .ok (.enter gf args) w)
   (h : CallsIn Fence.wide (n - 1) P gf (#[.func (.yield (w.heap.size + 1)) #[] #[]] ++ lb) (loopW f a ps assign body w) (rangePost Fence.wide n P (w.heap.size + 1) Q { a with defers := { target := .collected w.heap.size, args := #[] } :: a.defers })) :
   AtFn f P (.rangeFunc g ps assign body) Q a w := by
 intro b k cs hb hr
 have he : (Instr.enterLoop b.fn a.tmps ps assign body b.roundOf).run P w = .ok (w.heap.size + 1, [{ target := .collected w.heap.size, args := #[] }]) (loopW f a ps assign body w) := by
  rw [hb, hr]; exact run_enterLoop_outer _ _ _ _ _
 have hres : (resolve a.eval (rangeCall g (w.heap.size + 1)) 0).run P (loopW f a ps assign body w) = .ok { target := .fn (.func gf) lb, args := #[.func (.yield (w.heap.size + 1)) #[] #[]] } (loopW f a ps assign body w) := by
  simp only [resolve, hg]
  simp [go_sem]
 have hinv : (invoke (.fn (.func gf) lb) #[.func (.yield (w.heap.size + 1)) #[] #[]]).run P (loopW f a ps assign body w) = .ok (.enter gf (#[.func (.yield (w.heap.size + 1)) #[] #[]] ++ lb)) (loopW f a ps assign body w) := by
  simp [invoke, go_sem, eg]
 have henter := stepR_rangeFunc (P := P) (b := b) (a := a) (k := k) (cs := cs) (w := w) he hres hinv
 have h0 : (lone (b.atR a (.code (.rangeFunc g ps assign body) :: k)) cs w).fenced P Fence.wide := fenced_wide _ _
 obtain ⟨e, w3, fr, hR, hsteps, _, hleave⟩ := h.2 (b.atR { a with defers := [{ target := .collected w.heap.size, args := #[] }] ++ a.defers } (.inRangeFunc (w.heap.size + 1) :: k) :: cs) (room_wide _)
 cases e with
 | outgrown =>
  obtain ⟨a0, w0, hq⟩ := hR
  exact ⟨.outgrown, a0, w0, hq, .inr (Outgrown.of_steps (.one henter) hsteps)⟩
 | returned v =>
  obtain ⟨jump, w4, hend, hj⟩ := hR
  have back : StepsIn (Machine.fenced P Fence.wide) P (lone (b.atR a (.code (.rangeFunc g ps assign body) :: k)) cs w) (lone (b.atR { a with defers := [{ target := .collected w.heap.size, args := #[] }] ++ a.defers } ((jump.map Item.code).toList ++ k)) cs w4) := by
   refine .head h0 henter (StepsIn.trans hsteps (.head (fenced_wide _ _) ?_ (.one (fenced_wide _ _) (stepR_endRangeFunc hend))))
   rw [← finish_atR_inRangeFunc (w.heap.size + 1) v]; exact step_leave_returned hleave
  cases jump with
  | none => exact ⟨.normal, _, w4, hj, back⟩
  | some c =>
   obtain ⟨e', a'', w5, hq, harr⟩ := hj b k cs hr trivial (room_wide _)
   exact ⟨e', a'', w5, hq, .of_steps back harr⟩
 | panicked chain =>
  refine ⟨.panic chain, _, w3, hR, .inRangeFunc (w.heap.size + 1) :: k, .head h0 henter (StepsIn.trans hsteps (.one (fenced_wide _ _) ?_))⟩
  rw [← Frame.raise_atR]; exact step_leave_panicked hleave
theorem atFn_range1 {f : FuncId} {n : Nat} {g : Operand} {ps : Array Tmp} {assign body : Code} {Q : Exit → Act → World → Prop} {a : Act} {w : World} {gf : Nat} {lb : Array Value}
   (hg : a.eval g = .func (.func gf) #[] lb) (eg : ∀ args w, (callFunc gf args).run P w = .ok (.enter gf args) w)
   (h : ∀ W1, W1.heap[w.heap.size + 1]? = some (.loop (loopRec f a ps assign body w.heap.size)) → W1.heap[w.heap.size]? = some (.deferred (some [])) → Below w.heap.size w W1 → W1.heap.size = w.heap.size + 2 →
     CallsIn Fence.wide (n - 1) P gf (#[.func (.yield (w.heap.size + 1)) #[] #[]] ++ lb) W1 (rangePost Fence.wide n P (w.heap.size + 1) Q { a with defers := { target := .collected w.heap.size, args := #[] } :: a.defers })) :
   AtFn f P (.rangeFunc g ps assign body) Q a w :=
 atFn_range hg eg (h _ (loopW_rec _ _ _ _ _ _) (loopW_def _ _ _ _ _ _) (loopW_below _ _ _ _ _ _) (loopW_size _ _ _ _ _ _))
theorem calls_of_atFn {f : FuncId} {fn : Func} {n : Nat} {c : Code} {args : Array Value} {w : World} {R : Ending → World → Prop} (hf : P.funcs[f]? = some fn) (hb : fn.body = some c)
   (h : AtFn f P c (bodyPostM Fence.wide n P fn R) { tmps := args ++ Array.replicate (fn.ntmps - args.size) undef, defers := [] } w) : CallsIn Fence.wide n P f args w R := by
 refine ⟨trivial, fun cs hr => ?_⟩
 obtain ⟨b, hB⟩ : ∃ b : Frame, b = { (default : Frame) with fn := f, kind := .normal, roundOf := none } := ⟨_, rfl⟩
 have hbf : b.fn = f := by rw [hB]
 have hbr : b.roundOf = none := by rw [hB]
 have hbk : b.kind = .normal := by rw [hB]
 have hstart : Frame.enter P f args .normal = b.atR { tmps := args ++ Array.replicate (fn.ntmps - args.size) undef, defers := [] } [.code c] := by
  rw [hB]; simp [Frame.enter, Frame.atR, hf, hb]
 obtain ⟨e, a', w', q, g⟩ := h b [] cs hbf hbr
 rw [← hstart] at g
 have hff : P.funcs[b.fn]? = some fn := by rw [hbf]; exact hf
 cases e with
 | normal =>
  obtain ⟨e', w'', fr', hR, hs, hfn, hl⟩ := leaves_stepsInM (F := Fence.wide) (n := n) a'.defers .returning w' { b.atR a' [] with mode := .returning } cs rfl rfl rfl hff hbk trivial hr q
  exact ⟨e', w'', fr', hR, ComesIn.of_steps (StepsIn.trans g (.one (fenced_wide _ _) (stepR_end hbr))) hs, hfn.trans hbf, hl⟩
 | ret =>
  obtain ⟨todo, hs0⟩ := g.1 hbr
  obtain ⟨e', w'', fr', hR, hs, hfn, hl⟩ := leaves_stepsInM (F := Fence.wide) (n := n) a'.defers .returning w' { b.atR a' todo with mode := .returning } cs rfl rfl rfl hff hbk trivial hr q
  exact ⟨e', w'', fr', hR, ComesIn.of_steps hs0 hs, hfn.trans hbf, hl⟩
 | panic chain =>
  obtain ⟨todo, hs0⟩ := g
  obtain ⟨e', w'', fr', hR, hs, hfn, hl⟩ := leaves_stepsInM (F := Fence.wide) (n := n) a'.defers (.panicking chain) w' { b.atR a' todo with mode := .panicking chain } cs rfl rfl rfl hff hbk trivial hr q
  exact ⟨e', w'', fr', hR, ComesIn.of_steps hs0 hs, hfn.trans hbf, hl⟩
 | exit id => exact q.elim
 | goto l => exact q.elim
 | outgrown => exact ⟨.outgrown, w', b, q, g.resolve_left (by rw [hbk]; simp), hbf, trivial⟩
end
section
open Go.RowKit Go.Shelf
attribute [local go_sem] Oper.semAt_some
namespace Tw
structure OneRow (w : World) (p g cap gv cv : Nat) : Prop where
 hp : p < w.heap.size
 hg : g < w.heap.size
 ents : w.cell? ⟨p, 1, none⟩ = some (.slice (some ⟨g, 0, none⟩) 1 cap)
 kids : w.cell? ⟨p, 2, none⟩ = some (.slice none 0 0)
 key : w.cell? ⟨g, 0, none⟩ = some (.int .i64 0)
 row : w.cell? ⟨g, 1, none⟩ = some (.slice (some ⟨gv, 0, none⟩) 1 cv)
theorem OneRow.below {w w' : World} {p g cap gv cv : Nat} (h : OneRow w p g cap gv cv) (hb : Below w.heap.size w w') : OneRow w' p g cap gv cv :=
 ⟨Nat.lt_of_lt_of_le h.hp hb.size, Nat.lt_of_lt_of_le h.hg hb.size, (hb.cell (p := ⟨p, 1, none⟩) h.hp).trans h.ents, (hb.cell (p := ⟨p, 2, none⟩) h.hp).trans h.kids, (hb.cell (p := ⟨g, 0, none⟩) h.hg).trans h.key, (hb.cell (p := ⟨g, 1, none⟩) h.hg).trans h.row⟩
theorem walkKid_leaf (k : Int) (yv : Value) (p : Nat) (w : World) (hp : p < w.heap.size) (c : w.cell? ⟨p, 2, none⟩ = some (.slice none 0 0)) (l : Nat) (hy : yv = .func (.yield l) #[] #[]) :
   Calls Tryz.prog 230 #[.pointer (some ⟨p, 1, none⟩), .int .i64 k, yv] w fun x w' => x = .returned (.bool true) ∧ w' = w := by
 subst hy
 go_enter Tryz.func230, Tryz.ntmps230
 go_wp2_with fail
 refine (Ti.isLeaf_any p 1 _ hp c).mono ?_
 rintro x w1 ⟨rfl, rfl⟩
 go_wp2_with fail
 go_ret
 exact ⟨rfl, rfl⟩
theorem walk_one (n l : Nat) (p g cap gv cv : Nat) (w : World) (h : OneRow w p g cap gv cv) (G : World → Prop) (X : List PanicEntry → World → Prop) (hG : ∀ W, G W → OneRow W p g cap gv cv)
   (hY : ∀ W, Below w.heap.size w W → YieldAt Fence.wide (n - 1) Tryz.prog l #[.int .i64 0, .slice (some ⟨gv, 0, none⟩) 1 cv] W fun e W' => (e = .returned (.bool true) ∧ G W') ∨ (∃ c, e = .panicked c ∧ X c W')) :
   CallsIn Fence.wide n Tryz.prog 177 #[.pointer (some ⟨p, 1, none⟩), .func (.yield l) #[] #[]] w fun e W' => (e = .returned (.bool true) ∧ G W') ∨ (∃ c, e = .panicked c ∧ X c W') := by
 refine callsIn_of_wp Tryz.func177 rfl trivial ?_ rfl
 simp only [Tryz.ntmps177, List.size_toArray, List.length_cons, List.length_nil, Nat.reduceAdd, Nat.reduceSub, Array.replicate_succ, Array.replicate_zero, List.push_toArray, List.append_toArray, List.nil_append, List.cons_append]
 have c1 := h.ents
 have hp := h.hp
 have hg := h.hg
 gi_wp2
 gi_loopw [12] (fun i wr => (i = .int .i64 0 ∧ wr = w) ∨ (i = .int .i64 1 ∧ G wr)) (fun i _ => 1 - (intOf i).toNat)
 case atStart => exact .inl ⟨rfl, rfl⟩
 case round =>
  obtain ⟨rfl, rfl⟩ | ⟨rfl, hGw⟩ := hrel
  · have c2 := h.kids
    have c3 := h.key
    have c4 := h.row
    have HB0 : Hid (Below wr.heap.size wr (wr.alloc (.cells #[.int .i64 0, .slice (some ⟨gv, 0, none⟩) 1 cv] 229))) := by show Below _ _ _; go_grown
    have hp2 := Nat.lt_of_lt_of_le hp HB0.out.size
    have d2 := (HB0.out.cell (p := ⟨p, 2, none⟩) hp).trans c2
    obtain ⟨fn, tmps, assign, body, hy, hR⟩ := hY _ HB0.out
    gi_wp2
    refine ⟨trivial, (fun h => by cases h), (callsIn_wide.2 (walkKid_leaf 0 _ p _ hp2 d2 l rfl)).mono ?_⟩
    rintro x w1 ⟨rfl, rfl⟩
    gi_wp2
    refine ⟨(fun h => by cases h), hR.mono ?_⟩
    rintro e W3 (⟨rfl, hG3⟩ | ⟨c, rfl, hX⟩)
    · gi_wp2
      go_roundw
      case rel => exact .inr ⟨rfl, hG3⟩
      case measure => simp [intOf]
    · exact ⟨rfl, .inr ⟨c, rfl, hX⟩⟩
  · have h1 := hG _ hGw
    have c2 := h1.kids
    have c1' := h1.ents
    have hp1 := h1.hp
    gi_wp2
    refine ⟨trivial, (fun h => by cases h), (callsIn_wide.2 (walkKid_leaf 1 _ p _ hp1 c2 l rfl)).mono ?_⟩
    rintro x w1 ⟨rfl, rfl⟩
    gi_wp2
    go_ret
    exact .inl ⟨rfl, hGw⟩
theorem all1_one (n l : Nat) (bx p g cap gv cv : Nat) (w : World) (hbx : w.cell? ⟨bx, 0, none⟩ = some (.pointer (some ⟨p, 1, none⟩))) (hb : bx < w.heap.size) (h : OneRow w p g cap gv cv) (G : World → Prop) (X : List PanicEntry → World → Prop) (hG : ∀ W, G W → OneRow W p g cap gv cv)
   (hY : ∀ W, Below w.heap.size w W → YieldAt Fence.wide (n - 1 - 1) Tryz.prog l #[.int .i64 0, .slice (some ⟨gv, 0, none⟩) 1 cv] W fun e W' => (e = .returned (.bool true) ∧ G W') ∨ (∃ c, e = .panicked c ∧ X c W')) :
   CallsIn Fence.wide n Tryz.prog 176 #[.func (.yield l) #[] #[], .pointer (some ⟨bx, 0, none⟩)] w fun e W' => (e = .returned (.tuple #[]) ∧ G W') ∨ (∃ c, e = .panicked c ∧ X c W') := by
 have HW := hd (walk_one (n - 1) l p g cap gv cv w h G X hG hY)
 clear hY
 refine callsIn_of_wp Tryz.func176 rfl trivial ?_ rfl
 simp only [Tryz.ntmps176, List.size_toArray, List.length_cons, List.length_nil, Nat.reduceAdd, Nat.reduceSub, Array.replicate_succ, Array.replicate_zero, List.push_toArray, List.append_toArray, List.nil_append, List.cons_append]
 have hp := h.hp
 gi_wp2
 refine ⟨trivial, (fun h => by cases h), HW.out.mono ?_⟩
 rintro e W3 (⟨rfl, hG3⟩ | ⟨c, rfl, hX⟩)
 · gi_wp2
   go_end0
   exact .inl ⟨rfl, hG3⟩
 · exact ⟨rfl, .inr ⟨c, rfl, hX⟩⟩
end Tw
end
end Go.Proofs.YtaiebhhommgnbaaGreatDoor
