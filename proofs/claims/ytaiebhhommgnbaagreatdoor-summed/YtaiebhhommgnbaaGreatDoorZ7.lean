/- Parts of the proof: CpT Df Dg Dh -/
import Derived.Test.YtaiebhhommgnbaaGreatDoorZ6
namespace Go.Proofs.YtaiebhhommgnbaaGreatDoor
set_option linter.unusedSimpArgs false
set_option linter.unusedVariables false
set_option maxRecDepth 100000
set_option maxHeartbeats 16000000
open Go.RowKit
def RowsIs (w : World) (base : Nat) : List (List Px.E) → List Value → Prop
 | [], [] => True
 | r :: l, v :: vs => w.ownsRow base 85 1 v r.length (r.flatMap exC) ∧ RowsIs w base l vs
 | _, _ => False
theorem RowsIs.map {w w' : World} {base : Nat} (f : ∀ (r : List Px.E) (v : Value), w.ownsRow base 85 1 v r.length (r.flatMap exC) → w'.ownsRow base 85 1 v r.length (r.flatMap exC)) : ∀ {l : List (List Px.E)} {vs : List Value}, RowsIs w base l vs → RowsIs w' base l vs
 | [], [], _ => trivial
 | r :: l, v :: vs, h => ⟨f r v h.1, RowsIs.map f h.2⟩
 | [], _ :: _, h => h.elim
 | _ :: _, [], h => h.elim
theorem RowsIs.snoc {w : World} {base : Nat} {r : List Px.E} {v : Value} (hr : w.ownsRow base 85 1 v r.length (r.flatMap exC)) : ∀ {l : List (List Px.E)} {vs : List Value}, RowsIs w base l vs → RowsIs w base (l ++ [r]) (vs ++ [v])
 | [], [], _ => ⟨hr, trivial⟩
 | _ :: _, _ :: _, h => ⟨h.1, RowsIs.snoc hr h.2⟩
 | [], _ :: _, h => h.elim
 | _ :: _, [], h => h.elim
def rowsV (B : Nat) (l : List (List Px.E)) (v : Value) (w : World) : Prop := ∃ vs, w.ownsRow (B + 1) 148 1 v l.length vs ∧ RowsIs w (B + 1) l vs
theorem own_slice {w : World} {base : Nat} {e : TypeId} {size : Nat} {v : Value} {n : Nat} {xs : List Value} (h : w.ownsRow base e size v n xs) : ∃ ao n cp, v = .slice ao n cp := by
 rcases h.2 with ⟨rfl, _⟩ | ⟨g, cap, cur, rfl, _⟩
 · exact ⟨_, _, _, rfl⟩
 · exact ⟨_, _, _, rfl⟩
theorem own_alloc {w : World} {base : Nat} {e : TypeId} {size : Nat} {v : Value} {n : Nat} {xs : List Value} (h : w.ownsRow base e size v n xs) (o : Obj) : (w.alloc o).ownsRow base e size v n xs := h.alloc o
theorem own_far {w w' : World} {B : Nat} {e : TypeId} {size : Nat} {v : Value} {n : Nat} {xs : List Value} (h : w.ownsRow (B + 1) e size v n xs) (hg : w.grownBy w' (some B)) : w'.ownsRow (B + 1) e size v n xs :=
 h.kept hg (by
  cases hv : v.ownBlock with
  | none => exact .inl rfl
  | some g => right; have := (h.lt g hv).1; simp; omega)
theorem own_type {w : World} {base : Nat} {e : TypeId} {size : Nat} {v : Value} {n : Nat} {xs : List Value} (h : w.ownsRow base e size v n xs) : ∀ g, v.ownBlock = some g → ∃ cur, w.heap[g]? = some (.cells cur e (0, 0)) := by
 intro g hg
 rcases h.2 with ⟨rfl, _⟩ | ⟨g', cap, cur, rfl, _, hh, _⟩
 · simp [Value.ownBlock] at hg
 · simp [Value.ownBlock] at hg
   subst hg
   exact ⟨cur, hh⟩
theorem own_apart {w : World} {b1 b2 : Nat} {e1 e2 : TypeId} {s1 s2 : Nat} {v1 v2 : Value} {n1 n2 : Nat} {x1 x2 : List Value} (h1 : w.ownsRow b1 e1 s1 v1 n1 x1) (h2 : w.ownsRow b2 e2 s2 v2 n2 x2) (hne : e1 ≠ e2) : v1.ownBlock = none ∨ v1.ownBlock ≠ v2.ownBlock := by
 cases hv : v1.ownBlock with
 | none => exact .inl rfl
 | some g =>
  right
  intro e
  obtain ⟨c1, k1⟩ := own_type h1 g hv
  obtain ⟨c2, k2⟩ := own_type h2 g e.symm
  rw [k1] at k2
  simp only [Option.some.injEq, Obj.cells.injEq] at k2
  exact hne k2.2.1
theorem Tryz.info148 : (Tryz.prog.info? 148).map (fun i => (i.zero, i.size, i.bytes)) = some (some (.slice none 0 0), 1, 24) := by kernel_rfl
theorem c_listRow_any (B : Nat) (lv : Value) (ts : List Lx.Tok) (sz : Nat) (dp : Bool) (w : World) (q : List Lx.Tok) (h : Cx w B lv ts sz q dp) :
   Calls Tryz.prog 95 #[.pointer (some ⟨B, 0, none⟩), .func (.func 96) #[.pointer (some ⟨B, 0, none⟩)] #[]] w (OutR w B lv ts sz dp (Px.Sep fun _ => Px.rowR sz) q (rowsV B) fun l => l.any deepL) := by
 obtain ⟨i0, hi, hz0, hz1, hz2⟩ := info_parts Tryz.info148
 have HX := hd h
 have hlt := h.lt
 have hq2000 : q.length ≤ 2000 := by
  obtain ⟨k, rfl, h⟩ := h
  have := h.len
  simp; omega
 clear h
 go_enter Tryz.func95, Tryz.ntmps95
 go_wp2_with fail
 refine (c_row_any B lv ts sz dp w q HX.out).mono ?_
 rintro x w1 ho
 obtain ⟨hg, ⟨p, c, hr, rfl⟩ | ⟨a, q1, v, hr, rfl, hv, hx⟩⟩ := ho.cases
 · exact ⟨rfl, OutR.err hg (Px.Sep.err0 hr)⟩
 · have HR1 := hd (Px.Reach.first (x := fun _ => Px.rowR sz) hr)
   have HX1 := hd hx
   have HG1 := hd hg
   have hs1 := hg.size
   clear hr hx hg ho
   have HV1 := hd hv
   obtain ⟨ao, n, cp, rfl⟩ := own_slice hv
   clear hv
   have HO1 := hd (ownBase (own_new1 w1 (.slice ao n cp) 148) hs1)
   have HX1' := hd (HX1.out.below ((Below.refl _ _).alloc (Nat.le_refl _) (.cells #[.slice ao n cp] 148)))
   have HG1' := hd (grownBy_alloc HG1.out (.cells #[.slice ao n cp] 148))
   clear HX1 HG1
   go_wp2_with fail
   go_loopw [5] (fun v wr => ∃ (l : List (List Px.E)) (vs : List Value) (q1 : List Lx.Tok), Hid (wr.ownsRow w.heap.size 148 1 v l.length vs) ∧ Hid (RowsIs wr (B + 1) l vs) ∧ Hid (Cx wr B lv ts sz q1 (l.any deepL || dp)) ∧ Hid (w.grownBy wr (some B)) ∧ Hid (Px.Reach (fun _ => Px.rowR sz) q l q1)) (fun _ wr => ts.length - atC wr B)
   case atStart => exact ⟨[a], [.slice ao n cp], q1, HO1, ⟨(own_alloc HV1.out _), trivial⟩, (by show Cx _ _ _ _ _ _ _; have := HX1'.out; simpa using this), HG1', HR1⟩
   case round =>
    clear HR1 HX1' HG1' HO1 HV1
    obtain ⟨l, vs, q1, HO, HRo, HX1, HG1, HRe⟩ := hrel
    have hll : q1.length + l.length ≤ q.length + 1 := HRe.out.len (fun _ => Px.row_shrinks sz)
    cases hs : Px.sees Px.gComma q1 with
    | false =>
     go_wp2_with fail
     refine (c_accept_no ⟨#[44]⟩ wr B lv ts sz q1 _ HX1.out hs (by simp)).mono ?_
     rintro x w2 ⟨rfl, hb⟩
     have HO2 := hd (owns_below HO.out hb)
     have HRo2 := hd (HRo.out.map fun r v hr => owns_below hr hb)
     have HB := hd hb
     clear hb
     go_wp2_with fail
     go_ret
     exact OutR.ok (a := l) (grownBy_trans HG1.out (Below.grownBy HB.out)) (Px.Sep.stop HRe.out hs) ⟨vs, ownBase HO2.out (by omega), HRo2.out⟩ (HX1.out.below HB.out)
    | true =>
     have hcl := Px.sees_len hs
     go_wp2_with fail
     refine (c_accept_yes ⟨#[44]⟩ wr B lv ts sz q1 _ HX1.out hs (by simp)).mono ?_
     rintro x w2 ⟨rfl, hx2, hg2⟩
     have HX2 := hd hx2
     have HG2 := hd (grownBy_trans HG1.out hg2)
     have HO2 := hd (HO.out.kept hg2 (by
      cases hv : u5.ownBlock with
      | none => exact .inl rfl
      | some g => right; have := (HO.out.lt g hv).1; simp; omega))
     have HRo2 := hd (HRo.out.map fun r v hr => own_far hr hg2)
     have hl1 := HX1.out.atC
     clear hx2 hg2 HG1 HO HRo
     go_wp2_with fail
     refine (c_row_any B lv ts sz _ w2 q1.tail HX2.out).mono ?_
     rintro x w3 ho
     obtain ⟨hg, ⟨p, c, hr, rfl⟩ | ⟨a, q2, v, hr, rfl, hv, hx⟩⟩ := ho.cases
     · exact ⟨rfl, OutR.err (grownBy_trans HG2.out hg) (Px.Sep.err HRe.out hs hr)⟩
     · have HR3 := hd (HRe.out.step hs hr)
       have hsh := Px.row_shrinks sz _ _ _ hr
       have HX3 := hd hx
       have HG3 := hd (grownBy_trans HG2.out hg)
       have HO3 := hd (HO2.out.kept hg (by
        cases hv : u5.ownBlock with
        | none => exact .inl rfl
        | some g => right; have := (HO2.out.lt g hv).1; simp; omega))
       have HRo3 := hd (HRo2.out.map fun r v hr => own_far hr hg)
       have hs3 := HG3.out.size
       clear hr hx hg ho HG2 HO2 HX1 HX2 HRo2
       have HV3 := hd hv
       obtain ⟨ao, n, cp, rfl⟩ := own_slice hv
       clear hv
       have HX3' := hd (HX3.out.below ((Below.refl _ _).alloc (Nat.le_refl _) (.cells #[.slice ao n cp] 148)))
       have HG3' := hd (grownBy_alloc HG3.out (.cells #[.slice ao n cp] 148))
       clear HX3 HG3
       go_wp2_with (first
        | (at_builtin; refine wpList_append_own _ rfl _ _ 78 rfl w.heap.size 148 i0 (.slice none 0 0) 1 24 Tryz.underlying78 hi hz0 hz1 hz2 rfl (by decide) _ _ _ rfl (HO3.out.alloc _) ⟨w3.heap.size, 0, none⟩ 1 1 [.slice ao n cp] rfl rfl ?c1 ?c2 ?c3 ?c4 ?c5 ?_)
        | fail)
       case c1 => exact one_news w3 (.slice ao n cp) 148
       case c2 => intro u hu; rw [List.mem_singleton] at hu; subst hu; rfl
       case c3 => unfold maxLen; omega
       case c4 => omega
       case c5 => simp; omega
       intro v' w4 hown' hgrow _
       have HO4 : Hid (w4.ownsRow w.heap.size 148 1 v' (l ++ [a]).length (vs ++ [.slice ao n cp])) := by
        rw [List.length_append, List.length_singleton]
        exact hown'
       have HRo4 : Hid (RowsIs w4 (B + 1) (l ++ [a]) (vs ++ [.slice ao n cp])) := by
        refine RowsIs.snoc ?_ (HRo3.out.map fun r v hr => ?_)
        · exact (own_alloc HV3.out _).kept hgrow (own_apart (own_alloc HV3.out (.cells #[.slice ao n cp] 148)) (HO3.out.alloc (.cells #[.slice ao n cp] 148)) (by decide))
        · exact (own_alloc hr _).kept hgrow (own_apart (own_alloc hr (.cells #[.slice ao n cp] 148)) (HO3.out.alloc (.cells #[.slice ao n cp] 148)) (by decide))
       have HX4 := hd (HX3'.out.kept HX.out hgrow (fun o ho => (HO3.out.lt o ho).1))
       have HG4 : Hid (w.grownBy w4 (some B)) := by
        refine ⟨hgrow.os.trans HG3'.out.os, hgrow.tape.trans HG3'.out.tape, hgrow.output.trans HG3'.out.output, Nat.le_trans HG3'.out.size hgrow.size, fun k hk hne => ?_⟩
        rw [hgrow.block k (Nat.lt_of_lt_of_le hk HG3'.out.size) (by
         intro e
         have := (HO3.out.lt k e.symm).1
         omega)]
        exact HG3'.out.block k hk hne
       have hl4 := HX4.out.atC
       clear hown' hgrow HX3' HG3' HO3 HRo3 HV3
       go_wp2_with fail
       go_roundw
       case rel => exact ⟨l ++ [a], vs ++ [.slice ao n cp], q2, HO4, HRo4, (by have := HX4.out; rw [any_snoc]; exact this), HG4, HR3⟩
       case measure => omega
namespace Ts
theorem isNaN_any (s : ByteArray) (w : World) : Calls Tryz.prog 201 #[.string s] w fun x w' => x = .returned (.bool false) ∧ w' = w := by
 go_enter Tryz.func201, Tryz.ntmps201
 go_wp2_with fail
 go_ret
 exact ⟨rfl, rfl⟩
theorem less_irr : ∀ l : List UInt8, Op.bytesLess l l = false
 | [] => rfl
 | b :: l => by
  have := less_irr l
  simp [Op.bytesLess, this]
theorem compare_same (s : ByteArray) (w : World) : Calls Tryz.prog 154 #[.string s, .string s] w fun x w' => x = .returned (.int .i64 0) ∧ w' = w := by
 have hl := less_irr s.toList
 go_enter Tryz.func154, Tryz.ntmps154
 go_wp2_with fail
 refine (isNaN_any _ _).mono ?_
 rintro x w1 ⟨rfl, rfl⟩
 go_wp2_with fail
 refine (isNaN_any _ _).mono ?_
 rintro x w1 ⟨rfl, rfl⟩
 go_wp2_with fail
 go_ret
 exact ⟨rfl, rfl⟩
theorem find1_same (s : ByteArray) (v : Value) (po : Option Addr) (w : World) (hv : v = .pointer po) : Calls Tryz.prog 153 #[.agg #[.string s, v], .string s] w fun x w' => x = .returned (.int .i64 0) ∧ Below w.heap.size w w' := by
 subst hv
 have HB : Hid (Below w.heap.size w (w.alloc (.cells #[.string s, .pointer po] 220))) := by show Below _ _ _; go_grown
 go_enter Tryz.func153, Tryz.ntmps153
 go_wp2_with fail
 refine (compare_same _ _).mono ?_
 rintro x w1 ⟨rfl, rfl⟩
 go_wp2_with fail
 go_ret
 exact ⟨rfl, HB.out⟩
theorem search_none (s : ByteArray) (w : World) : Calls Tryz.prog 152 #[.slice none 0 0, .string s, .func (.func 153) #[] #[]] w fun x w' => x = .returned (.tuple #[.int .i64 0, .bool false]) ∧ w' = w := by
 go_enter Tryz.func152, Tryz.ntmps152
 go_wp2_with fail
 go_loopw [9, 10] (fun i j wr => i = .int .i64 0 ∧ j = .int .i64 0 ∧ wr = w) (fun _ _ _ => 0)
 case atStart => exact ⟨rfl, rfl, rfl⟩
 case round =>
  obtain ⟨rfl, rfl, rfl⟩ := hrel
  go_wp2_with fail
  go_ret2
  exact ⟨rfl, rfl⟩
theorem search_one (s : ByteArray) (po : Option Addr) (g cap : Nat) (w : World) (hg : g < w.heap.size) (c0 : w.cell? ⟨g, 0, none⟩ = some (.string s)) (c1 : w.cell? ⟨g, 1, none⟩ = some (.pointer po)) :
   Calls Tryz.prog 152 #[.slice (some ⟨g, 0, none⟩) 1 cap, .string s, .func (.func 153) #[] #[]] w fun x w' => x = .returned (.tuple #[.int .i64 0, .bool true]) ∧ Below w.heap.size w w' := by
 go_enter Tryz.func152, Tryz.ntmps152
 go_wp2_with fail
 go_loopw [9, 10] (fun i j wr => ∃ k : Nat, k ≤ 1 ∧ i = .int .i64 0 ∧ j = .int .i64 k ∧ Hid (Below w.heap.size w wr)) (fun _ j _ => (intOf j).toNat)
 case atStart => exact ⟨1, by omega, rfl, rfl, Below.refl _ _⟩
 case round =>
  obtain ⟨k, hk, rfl, rfl, HW⟩ := hrel
  have d0 := (HW.out.cell (p := ⟨g, 0, none⟩) hg).trans c0
  have d1 := (HW.out.cell (p := ⟨g, 1, none⟩) hg).trans c1
  have hg2 := Nat.lt_of_lt_of_le hg HW.out.size
  rcases (show k = 0 ∨ k = 1 by omega) with rfl | rfl
  · go_wp2_with fail
    refine (find1_same s _ po _ rfl).mono ?_
    rintro x w1 ⟨rfl, hb⟩
    have HW1 : Hid (Below w.heap.size w w1) := HW.out.trans (hb.mono HW.out.size)
    clear hb
    go_wp2_with fail
    go_ret2
    exact ⟨rfl, HW1.out⟩
  · go_wp2_with fail
    refine (find1_same s _ po _ rfl).mono ?_
    rintro x w1 ⟨rfl, hb⟩
    have HW1 : Hid (Below w.heap.size w w1) := HW.out.trans (hb.mono HW.out.size)
    clear hb
    go_wp2_with fail
    go_roundw
    case rel => exact ⟨0, by omega, rfl, rfl, HW1⟩
    case measure => simp [intOf]
end Ts
namespace Ts
theorem find_none (s : ByteArray) (b off : Nat) (w : World) (hb : b < w.heap.size) (c0 : w.cell? ⟨b, off, none⟩ = some (.slice none 0 0)) :
   Calls Tryz.prog 112 #[.pointer (some ⟨b, off, none⟩), .string s] w fun x w' => x = .returned (.tuple #[.int .i64 0, .bool false]) ∧ w' = w := by
 go_enter Tryz.func112, Tryz.ntmps112
 go_wp2_with fail
 refine (search_none s _).mono ?_
 rintro x w1 ⟨rfl, rfl⟩
 go_wp2_with fail
 go_ret2
 exact ⟨rfl, rfl⟩
theorem find_one (s : ByteArray) (po : Option Addr) (g cap b off : Nat) (w : World) (hb : b < w.heap.size) (c0 : w.cell? ⟨b, off, none⟩ = some (.slice (some ⟨g, 0, none⟩) 1 cap)) (hg : g < w.heap.size) (e0 : w.cell? ⟨g, 0, none⟩ = some (.string s)) (e1 : w.cell? ⟨g, 1, none⟩ = some (.pointer po)) :
   Calls Tryz.prog 112 #[.pointer (some ⟨b, off, none⟩), .string s] w fun x w' => x = .returned (.tuple #[.int .i64 0, .bool true]) ∧ Below w.heap.size w w' := by
 have HS := hd (search_one s po g cap w hg e0 e1)
 go_enter Tryz.func112, Tryz.ntmps112
 go_wp2_with fail
 refine HS.out.mono ?_
 rintro x w1 ⟨rfl, h1⟩
 have HB := hd h1
 clear h1
 go_wp2_with fail
 go_ret2
 exact ⟨rfl, HB.out⟩
theorem isLeaf_any (b off : Nat) (w : World) (hb : b < w.heap.size) (c1 : w.cell? ⟨b, off + 1, none⟩ = some (.slice none 0 0)) :
   Calls Tryz.prog 113 #[.pointer (some ⟨b, off, none⟩)] w fun x w' => x = .returned (.bool true) ∧ w' = w := by
 go_enter Tryz.func113, Tryz.ntmps113
 go_wp2_with fail
 go_ret
 exact ⟨rfl, rfl⟩
theorem get_none (s : ByteArray) (b off : Nat) (w : World) (hb : b < w.heap.size) (c0 : w.cell? ⟨b, off, none⟩ = some (.slice none 0 0)) (c1 : w.cell? ⟨b, off + 1, none⟩ = some (.slice none 0 0)) :
   Calls Tryz.prog 54 #[.pointer (some ⟨b, off, none⟩), .string s] w fun x w' => x = .returned (.tuple #[.pointer none, .bool false]) ∧ w' = w := by
 go_enter Tryz.func54, Tryz.ntmps54
 go_wp2_with fail
 go_loopw [6] (fun n wr => n = .pointer (some ⟨b, off, none⟩) ∧ wr = w) (fun _ _ => 0)
 case atStart => exact ⟨rfl, rfl⟩
 case round =>
  obtain ⟨rfl, rfl⟩ := hrel
  go_wp2_with fail
  refine (find_none s b off _ hb c0).mono ?_
  rintro x w1 ⟨rfl, rfl⟩
  go_wp2_with fail
  refine (isLeaf_any b off _ hb c1).mono ?_
  rintro x w1 ⟨rfl, rfl⟩
  go_wp2_with fail
  go_ret2
  exact ⟨rfl, rfl⟩
theorem get_one (s : ByteArray) (po : Option Addr) (g cap b off : Nat) (w : World) (hb : b < w.heap.size) (c0 : w.cell? ⟨b, off, none⟩ = some (.slice (some ⟨g, 0, none⟩) 1 cap)) (hg : g < w.heap.size) (e0 : w.cell? ⟨g, 0, none⟩ = some (.string s)) (e1 : w.cell? ⟨g, 1, none⟩ = some (.pointer po)) :
   Calls Tryz.prog 54 #[.pointer (some ⟨b, off, none⟩), .string s] w fun x w' => x = .returned (.tuple #[.pointer po, .bool true]) ∧ Below w.heap.size w w' := by
 have HF := hd (find_one s po g cap b off w hb c0 hg e0 e1)
 go_enter Tryz.func54, Tryz.ntmps54
 go_wp2_with fail
 go_loopw [6] (fun n wr => n = .pointer (some ⟨b, off, none⟩) ∧ wr = w) (fun _ _ => 0)
 case atStart => exact ⟨rfl, rfl⟩
 case round =>
  obtain ⟨rfl, rfl⟩ := hrel
  go_wp2_with fail
  refine HF.out.mono ?_
  rintro x w1 ⟨rfl, h1⟩
  have d0 := (h1.cell (p := ⟨b, off, none⟩) hb).trans c0
  have d1 := (h1.cell (p := ⟨g, 1, none⟩) hg).trans e1
  have hb1 := Nat.lt_of_lt_of_le hb h1.size
  have hg1 := Nat.lt_of_lt_of_le hg h1.size
  have HB := hd h1
  clear h1
  go_wp2_with fail
  go_ret2
  exact ⟨rfl, HB.out⟩
theorem len_any (b off : Nat) (n : Int) (w : World) (hb : b < w.heap.size) (c2 : w.cell? ⟨b, off + 2, none⟩ = some (.int .i64 n)) :
   Calls Tryz.prog 57 #[.pointer (some ⟨b, off, none⟩)] w fun x w' => x = .returned (.int .i64 n) ∧ w' = w := by
 go_enter Tryz.func57, Tryz.ntmps57
 go_wp2_with fail
 go_ret
 exact ⟨rfl, rfl⟩
theorem own_lower0 {w : World} {b b' : Nat} {T : TypeId} {s : Nat} {v : Value} {n : Nat} {xs : List Value} (h : w.ownsRow b T s v n xs) (hb : b' ≤ b) : w.ownsRow b' T s v n xs := by
 refine ⟨h.1, ?_⟩
 rcases h.2 with h2 | ⟨g, cap, cur, h0, h1, h2⟩
 · exact .inl h2
 · exact .inr ⟨g, cap, cur, h0, Nat.le_trans hb h1, h2⟩
theorem Tryz.info220 : (Tryz.prog.info? 220).map (fun i => (i.zero, i.size, i.bytes)) = some (some (.agg #[.string ⟨#[]⟩, .pointer none]), 2, 24) := by kernel_rfl
theorem insert_none (s : ByteArray) (po : Option Addr) (g : Nat) (w : World) (hg : g < w.heap.size) (e0 : w.cell? ⟨g, 0, none⟩ = some (.string s)) (e1 : w.cell? ⟨g, 1, none⟩ = some (.pointer po)) :
   Calls Tryz.prog 155 #[.slice none 0 0, .int .i64 0, .slice (some ⟨g, 0, none⟩) 1 1] w fun x w' => Below w.heap.size w w' ∧ ∃ v, x = .returned v ∧ w'.ownsRow w.heap.size 220 2 v 1 [.string s, .pointer po] := by
 obtain ⟨i0, hi, hz0, hz1, hz2⟩ := info_parts Tryz.info220
 have HC : Hid (∀ j u, ([.string s, .pointer po] : List Value)[j]? = some u → w.cell? ((⟨g, 0, none⟩ : Addr).add j) = some u) := fun j u hu => by
  rw [Addr.add_lit, Nat.zero_add]
  match j, hu with
  | 0, hu => simp at hu; rw [← hu]; exact e0
  | 1, hu => simp at hu; rw [← hu]; exact e1
 go_enter Tryz.func155, Tryz.ntmps155
 go_wp2_with (first
  | (at_builtin; refine wpList_append_own _ rfl _ _ 43 rfl w.heap.size 220 i0 (.agg #[.string ⟨#[]⟩, .pointer none]) 2 24 Tryz.underlying43 hi hz0 hz1 hz2 rfl (by decide) _ _ _ rfl (World.ownsRow_nil _ _ _ _) ⟨g, 0, none⟩ 1 1 [.string s, .pointer po] rfl rfl ?c1 ?c2 ?c3 ?c4 ?c5 ?_)
  | fail)
 case c1 => exact HC.out
 case c2 => intro u hu; simp at hu; rcases hu with rfl | rfl <;> rfl
 case c3 => simp [maxLen]
 case c4 => omega
 case c5 => exact Nat.le_refl _
 intro v' w3 hown hgrow _
 have HB : Hid (Below w.heap.size w w3) := ⟨hgrow.os, hgrow.tape, hgrow.output, hgrow.size, fun k hk => hgrow.block k hk (by simp [Value.ownBlock])⟩
 obtain ⟨ao', n', cp', rfl⟩ := own_slice hown
 have HO := hd hown
 clear hown hgrow
 go_wp2_with fail
 go_ret
 exact ⟨HB.out, _, rfl, HO.out⟩
theorem put_none (s : ByteArray) (po : Option Addr) (b off : Nat) (cs : Array Value) (T : TypeId) (w : World) (hB : Blk w b cs T) (h0 : cs[off]? = some (.slice none 0 0)) (h1 : cs[off + 1]? = some (.slice none 0 0)) :
   Calls Tryz.prog 114 #[.pointer (some ⟨b, off, none⟩), .agg #[.string s, .pointer po]] w fun x w' => x = .returned (.bool true) ∧ ∃ v w1, Below w.heap.size w w1 ∧ w1.ownsRow w.heap.size 220 2 v 1 [.string s, .pointer po] ∧ w' = w1.setCell ⟨b, off, none⟩ v := by
 have HBK := hd hB
 have HC0 := hd h0
 have hb := hB.lt
 have c0 := (hB.cell off).trans h0
 have c1 := (hB.cell (off + 1)).trans h1
 have HB0 : Hid (Below w.heap.size w (w.alloc (.cells #[.string s, .pointer po] 220))) := by show Below _ _ _; go_grown
 have HK0 := hd (Blk.new w #[.string s, .pointer po] 220)
 have hl0 := HK0.out.lt
 have d0 := (HB0.out.cell (p := ⟨b, off, none⟩) hb).trans c0
 have d1 := (HB0.out.cell (p := ⟨b, off + 1, none⟩) hb).trans c1
 have hb0 := Nat.lt_of_lt_of_le hb HB0.out.size
 have HFN := hd (find_none s b off _ hb0 d0)
 have HLF := hd (isLeaf_any b off _ hb0 d1)
 have HE1 := hd (Blk.new (w.alloc (.cells #[.string s, .pointer po] 220)) #[.string s, .pointer po] 220)
 have HB1 : Hid (Below w.heap.size w ((w.alloc (.cells #[.string s, .pointer po] 220)).alloc (.cells #[.string s, .pointer po] 220))) := by show Below _ _ _; go_grown
 have hl1 := HE1.out.lt
 have hsz : (w.alloc (.cells #[.string s, .pointer po] 220)).heap.size = w.heap.size + 1 := by simp
 rw [hsz] at HE1 hl1
 have HIN := hd (insert_none s po (w.heap.size + 1) (World.drew ((w.alloc (.cells #[.string s, .pointer po] 220)).alloc (.cells #[.string s, .pointer po] 220))) hl1 ((HE1.out.drew.cell 0).trans rfl) ((HE1.out.drew.cell 1).trans rfl))
 have hle : w.heap.size ≤ (World.drew ((w.alloc (.cells #[.string s, .pointer po] 220)).alloc (.cells #[.string s, .pointer po] 220))).heap.size := HB1.out.size
 clear hB h0 h1
 go_enter Tryz.func114, Tryz.ntmps114
 go_wp2_with fail
 refine HFN.out.mono ?_
 rintro x w1 ⟨rfl, rfl⟩
 go_wp2_with fail
 refine HLF.out.mono ?_
 rintro x w1 ⟨rfl, rfl⟩
 go_wp2_with fail
 go_region_with (
   go_at_call 155
   refine HIN.out.mono ?_
   rintro x w2 ⟨hb2, v, rfl, hown⟩
   have HB2 := hd (HB1.out.drew.trans (hb2.mono HB1.out.size))
   have K2 := HBK.out.below HB2.out hb
   have g0 := (K2.cell off).trans HC0.out
   have g1 := K2.free off
   have hb3 := K2.lt
   obtain ⟨ao', n', cp', rfl⟩ := own_slice hown
   have HO := hd (own_lower0 hown hle)
   clear hb2 hown K2)
 all_goals
  go_wp2_with fail
  go_ret
  exact ⟨rfl, _, _, HB2.out, HO.out, rfl⟩
theorem treePut_none (s : ByteArray) (po : Option Addr) (b off : Nat) (cs : Array Value) (T : TypeId) (w : World) (hB : Blk w b cs T) (h0 : cs[off]? = some (.slice none 0 0)) (h1 : cs[off + 1]? = some (.slice none 0 0)) (h2 : cs[off + 2]? = some (.int .i64 0)) :
   Calls Tryz.prog 58 #[.pointer (some ⟨b, off, none⟩), .string s, .pointer po] w fun x w' => x = .returned (.tuple #[]) ∧ ∃ v w1, Below w.heap.size w w1 ∧ w1.ownsRow w.heap.size 220 2 v 1 [.string s, .pointer po] ∧ w' = (w1.setCell ⟨b, off, none⟩ v).setCell ⟨b, off + 2, none⟩ (.int .i64 1) := by
 have HBK := hd hB
 have HP := hd (put_none s po b off cs T w hB h0 h1)
 have H0 := hd h0
 have H2 := hd h2
 have hb := hB.lt
 clear hB h0 h1 h2
 go_enter Tryz.func58, Tryz.ntmps58
 go_wp2_with fail
 refine HP.out.mono ?_
 rintro x w2 ⟨rfl, v, w1, hb1, hown, rfl⟩
 have HB1 := hd hb1
 have HO := hd hown
 have K1 := (HBK.out.below hb1 hb).set off v
 obtain ⟨ao', n', cp', rfl⟩ := own_slice hown
 have hn : n' = 1 := by
  rcases hown.2 with ⟨_, h⟩ | ⟨g, cap, cur, e, _⟩
  · simp at h
  · cases e; rfl
 subst hn
 have hoff : off < cs.size := (Array.getElem?_eq_some_iff.1 H0.out).1
 have c2 : (w1.setCell ⟨b, off, none⟩ (.slice ao' 1 cp')).cell? ⟨b, off + 2, none⟩ = some (.int .i64 0) := by
  rw [K1.cell, Array.getElem?_setIfInBounds_ne (by omega)]
  exact H2.out
 have c0 : (w1.setCell ⟨b, off, none⟩ (.slice ao' 1 cp')).cell? ⟨b, off, none⟩ = some (.slice ao' 1 cp') := by
  rw [K1.cell, Array.getElem?_setIfInBounds_self, if_pos hoff]
 have f2 := K1.free (off + 2)
 have hl := K1.lt
 have hne : ¬ (off = off + 2) := by omega
 clear hown hb1 K1
 generalize hW : w1.setCell ⟨b, off, none⟩ (.slice ao' 1 cp') = W at *
 have HW := hd hW
 clear hW
 go_wp2_with fail
 go_end0
 exact ⟨rfl, _, w1, HB1.out, HO.out, by rw [HW.out]⟩
end Ts
namespace Ti
theorem search_none (z : Int) (w : World) : Calls Tryz.prog 220 #[.slice none 0 0, .int .i64 z, .func (.func 221) #[] #[]] w fun x w' => x = .returned (.tuple #[.int .i64 0, .bool false]) ∧ w' = w := by
 go_enter Tryz.func220, Tryz.ntmps220
 go_wp2_with fail
 go_loopw [9, 10] (fun i j wr => i = .int .i64 0 ∧ j = .int .i64 0 ∧ wr = w) (fun _ _ _ => 0)
 case atStart => exact ⟨rfl, rfl, rfl⟩
 case round =>
  obtain ⟨rfl, rfl, rfl⟩ := hrel
  go_wp2_with fail
  go_ret2
  exact ⟨rfl, rfl⟩
theorem find_none (z : Int) (b off : Nat) (w : World) (hb : b < w.heap.size) (c0 : w.cell? ⟨b, off, none⟩ = some (.slice none 0 0)) :
   Calls Tryz.prog 170 #[.pointer (some ⟨b, off, none⟩), .int .i64 z] w fun x w' => x = .returned (.tuple #[.int .i64 0, .bool false]) ∧ w' = w := by
 go_enter Tryz.func170, Tryz.ntmps170
 go_wp2_with fail
 refine (search_none z _).mono ?_
 rintro x w1 ⟨rfl, rfl⟩
 go_wp2_with fail
 go_ret2
 exact ⟨rfl, rfl⟩
theorem isLeaf_any (b off : Nat) (w : World) (hb : b < w.heap.size) (c1 : w.cell? ⟨b, off + 1, none⟩ = some (.slice none 0 0)) :
   Calls Tryz.prog 129 #[.pointer (some ⟨b, off, none⟩)] w fun x w' => x = .returned (.bool true) ∧ w' = w := by
 go_enter Tryz.func129, Tryz.ntmps129
 go_wp2_with fail
 go_ret
 exact ⟨rfl, rfl⟩
theorem len_any (b off : Nat) (n : Int) (w : World) (hb : b < w.heap.size) (c2 : w.cell? ⟨b, off + 2, none⟩ = some (.int .i64 n)) :
   Calls Tryz.prog 64 #[.pointer (some ⟨b, off, none⟩)] w fun x w' => x = .returned (.int .i64 n) ∧ w' = w := by
 go_enter Tryz.func64, Tryz.ntmps64
 go_wp2_with fail
 go_ret
 exact ⟨rfl, rfl⟩
theorem Tryz.info229 : (Tryz.prog.info? 229).map (fun i => (i.zero, i.size, i.bytes)) = some (some (.agg #[.int .i64 0, .slice none 0 0]), 2, 32) := by kernel_rfl
theorem insert_none (z : Int) (ra : Option Addr) (rn rc : Nat) (g : Nat) (w : World) (hg : g < w.heap.size) (e0 : w.cell? ⟨g, 0, none⟩ = some (.int .i64 z)) (e1 : w.cell? ⟨g, 1, none⟩ = some (.slice ra rn rc)) :
   Calls Tryz.prog 171 #[.slice none 0 0, .int .i64 0, .slice (some ⟨g, 0, none⟩) 1 1] w fun x w' => Below w.heap.size w w' ∧ ∃ v, x = .returned v ∧ w'.ownsRow w.heap.size 229 2 v 1 [.int .i64 z, .slice ra rn rc] := by
 obtain ⟨i0, hi, hz0, hz1, hz2⟩ := info_parts Tryz.info229
 have HC : Hid (∀ j u, ([.int .i64 z, .slice ra rn rc] : List Value)[j]? = some u → w.cell? ((⟨g, 0, none⟩ : Addr).add j) = some u) := fun j u hu => by
  rw [Addr.add_lit, Nat.zero_add]
  match j, hu with
  | 0, hu => simp at hu; rw [← hu]; exact e0
  | 1, hu => simp at hu; rw [← hu]; exact e1
 go_enter Tryz.func171, Tryz.ntmps171
 go_wp2_with (first
  | (at_builtin; refine wpList_append_own _ rfl _ _ 135 rfl w.heap.size 229 i0 (.agg #[.int .i64 0, .slice none 0 0]) 2 32 Tryz.underlying135 hi hz0 hz1 hz2 rfl (by decide) _ _ _ rfl (World.ownsRow_nil _ _ _ _) ⟨g, 0, none⟩ 1 1 [.int .i64 z, .slice ra rn rc] rfl rfl ?c1 ?c2 ?c3 ?c4 ?c5 ?_)
  | fail)
 case c1 => exact HC.out
 case c2 => intro u hu; simp at hu; rcases hu with rfl | rfl <;> rfl
 case c3 => simp [maxLen]
 case c4 => omega
 case c5 => exact Nat.le_refl _
 intro v' w3 hown hgrow _
 have HB : Hid (Below w.heap.size w w3) := ⟨hgrow.os, hgrow.tape, hgrow.output, hgrow.size, fun k hk => hgrow.block k hk (by simp [Value.ownBlock])⟩
 obtain ⟨ao', n', cp', rfl⟩ := own_slice hown
 have HO := hd hown
 clear hown hgrow
 go_wp2_with fail
 go_ret
 exact ⟨HB.out, _, rfl, HO.out⟩
theorem put_none (z : Int) (ra : Option Addr) (rn rc : Nat) (b off : Nat) (cs : Array Value) (T : TypeId) (w : World) (hB : Blk w b cs T) (h0 : cs[off]? = some (.slice none 0 0)) (h1 : cs[off + 1]? = some (.slice none 0 0)) :
   Calls Tryz.prog 123 #[.pointer (some ⟨b, off, none⟩), .agg #[.int .i64 z, .slice ra rn rc]] w fun x w' => x = .returned (.bool true) ∧ ∃ v w1, Below w.heap.size w w1 ∧ w1.ownsRow w.heap.size 229 2 v 1 [.int .i64 z, .slice ra rn rc] ∧ w' = w1.setCell ⟨b, off, none⟩ v := by
 have HBK := hd hB
 have HC0 := hd h0
 have hb := hB.lt
 have c0 := (hB.cell off).trans h0
 have c1 := (hB.cell (off + 1)).trans h1
 have HB0 : Hid (Below w.heap.size w (w.alloc (.cells #[.int .i64 z, .slice ra rn rc] 229))) := by show Below _ _ _; go_grown
 have HK0 := hd (Blk.new w #[.int .i64 z, .slice ra rn rc] 229)
 have hl0 := HK0.out.lt
 have d0 := (HB0.out.cell (p := ⟨b, off, none⟩) hb).trans c0
 have d1 := (HB0.out.cell (p := ⟨b, off + 1, none⟩) hb).trans c1
 have hb0 := Nat.lt_of_lt_of_le hb HB0.out.size
 have HFN := hd (find_none z b off _ hb0 d0)
 have HLF := hd (isLeaf_any b off _ hb0 d1)
 have HE1 := hd (Blk.new (w.alloc (.cells #[.int .i64 z, .slice ra rn rc] 229)) #[.int .i64 z, .slice ra rn rc] 229)
 have HB1 : Hid (Below w.heap.size w ((w.alloc (.cells #[.int .i64 z, .slice ra rn rc] 229)).alloc (.cells #[.int .i64 z, .slice ra rn rc] 229))) := by show Below _ _ _; go_grown
 have hl1 := HE1.out.lt
 have hsz : (w.alloc (.cells #[.int .i64 z, .slice ra rn rc] 229)).heap.size = w.heap.size + 1 := by simp
 rw [hsz] at HE1 hl1
 have HIN := hd (insert_none z ra rn rc (w.heap.size + 1) (World.drew ((w.alloc (.cells #[.int .i64 z, .slice ra rn rc] 229)).alloc (.cells #[.int .i64 z, .slice ra rn rc] 229))) hl1 ((HE1.out.drew.cell 0).trans rfl) ((HE1.out.drew.cell 1).trans rfl))
 have hle : w.heap.size ≤ (World.drew ((w.alloc (.cells #[.int .i64 z, .slice ra rn rc] 229)).alloc (.cells #[.int .i64 z, .slice ra rn rc] 229))).heap.size := HB1.out.size
 clear hB h0 h1
 go_enter Tryz.func123, Tryz.ntmps123
 go_wp2_with fail
 refine HFN.out.mono ?_
 rintro x w1 ⟨rfl, rfl⟩
 go_wp2_with fail
 refine HLF.out.mono ?_
 rintro x w1 ⟨rfl, rfl⟩
 go_wp2_with fail
 go_region_with (
   go_at_call 171
   refine HIN.out.mono ?_
   rintro x w2 ⟨hb2, v, rfl, hown⟩
   have HB2 := hd (HB1.out.drew.trans (hb2.mono HB1.out.size))
   have K2 := HBK.out.below HB2.out hb
   have g0 := (K2.cell off).trans HC0.out
   have g1 := K2.free off
   have hb3 := K2.lt
   obtain ⟨ao', n', cp', rfl⟩ := own_slice hown
   have HO := hd (Ts.own_lower0 hown hle)
   clear hb2 hown K2)
 all_goals
  go_wp2_with fail
  go_ret
  exact ⟨rfl, _, _, HB2.out, HO.out, rfl⟩
theorem treePut_none (z : Int) (ra : Option Addr) (rn rc : Nat) (b off : Nat) (cs : Array Value) (T : TypeId) (w : World) (hB : Blk w b cs T) (h0 : cs[off]? = some (.slice none 0 0)) (h1 : cs[off + 1]? = some (.slice none 0 0)) (h2 : cs[off + 2]? = some (.int .i64 0)) :
   Calls Tryz.prog 65 #[.pointer (some ⟨b, off, none⟩), .int .i64 z, .slice ra rn rc] w fun x w' => x = .returned (.tuple #[]) ∧ ∃ v w1, Below w.heap.size w w1 ∧ w1.ownsRow w.heap.size 229 2 v 1 [.int .i64 z, .slice ra rn rc] ∧ w' = (w1.setCell ⟨b, off, none⟩ v).setCell ⟨b, off + 2, none⟩ (.int .i64 1) := by
 have HBK := hd hB
 have HP := hd (put_none z ra rn rc b off cs T w hB h0 h1)
 have H0 := hd h0
 have H2 := hd h2
 have hb := hB.lt
 clear hB h0 h1 h2
 go_enter Tryz.func65, Tryz.ntmps65
 go_wp2_with fail
 refine HP.out.mono ?_
 rintro x w2 ⟨rfl, v, w1, hb1, hown, rfl⟩
 have HB1 := hd hb1
 have HO := hd hown
 have K1 := (HBK.out.below hb1 hb).set off v
 obtain ⟨ao', n', cp', rfl⟩ := own_slice hown
 have hn : n' = 1 := by
  rcases hown.2 with ⟨_, h⟩ | ⟨g, cap, cur, e, _⟩
  · simp at h
  · cases e; rfl
 subst hn
 have hoff : off < cs.size := (Array.getElem?_eq_some_iff.1 H0.out).1
 have c2 : (w1.setCell ⟨b, off, none⟩ (.slice ao' 1 cp')).cell? ⟨b, off + 2, none⟩ = some (.int .i64 0) := by
  rw [K1.cell, Array.getElem?_setIfInBounds_ne (by omega)]
  exact H2.out
 have c0 : (w1.setCell ⟨b, off, none⟩ (.slice ao' 1 cp')).cell? ⟨b, off, none⟩ = some (.slice ao' 1 cp') := by
  rw [K1.cell, Array.getElem?_setIfInBounds_self, if_pos hoff]
 have f2 := K1.free (off + 2)
 have hl := K1.lt
 have hne : ¬ (off = off + 2) := by omega
 clear hown hb1 K1
 generalize hW : w1.setCell ⟨b, off, none⟩ (.slice ao' 1 cp') = W at *
 have HW := hd hW
 clear hW
 go_wp2_with fail
 go_end0
 exact ⟨rfl, _, w1, HB1.out, HO.out, by rw [HW.out]⟩
end Ti
end Go.Proofs.YtaiebhhommgnbaaGreatDoor
