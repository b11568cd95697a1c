/- Parts of the proof: Yu Un Pr Vd Vc -/
import Derived.Test.YtkcakbgcfnhgaaaGreatDoorX16
import Derived.Test.YtkcakbgcfnhgaaaGreatDoorX19
import Derived.Test.YtkcakbgcfnhgaaaGreatDoorX9
import Derived.Test.YtkcakbgcfnhgaaaGreatDoorX7
import Derived.Test.YtkcakbgcfnhgaaaGreatDoorX8
import Derived.Test.YtkcakbgcfnhgaaaGreatDoorX3
import Derived.ProofKit
import Derived.OpenShut
import Derived.Deep.Slices
import Derived.Lib.SmallJoins
import Derived.Test.YtkcakbgcfnhgaaaGreatDoorX13
namespace Go.Proofs.YtkcakbgcfnhgaaaGreatDoor
set_option linter.unusedSimpArgs false
set_option linter.unusedVariables false
set_option maxRecDepth 100000
set_option maxHeartbeats 16000000
open Go.RowKit
theorem print_catch (b1 : Nat) (y p c : Int) (older : List PanicEntry) (w : World) (h1 : Blk w b1 #[.int .i64 y] 29) :
   CallsD Tryz.prog 26 #[.pointer (some ⟨b1, 0, none⟩)] (.panicking ({ v := .iface 70 (.agg #[.int .i64 p, .int .i64 c]), recovered := false } :: older)) w fun e u' w' =>
    e = .returned (.tuple #[]) ∧ u' = .panicking ({ v := .iface 70 (.agg #[.int .i64 p, .int .i64 c]), recovered := true } :: older) ∧ ∃ w1, Below w.heap.size w w1 ∧ w' = w1.setCell ⟨b1, 0, none⟩ (.int .i64 c) := by
 refine callsD_of_wpS Tryz.func26 rfl fun c₀ cs hu => ?_
 apply wpS_seq
 apply wpS_region
 simp [wpOpsS, go_sem, recoverD, hu, Tryz.ntmps26, Exit.thenS]
 apply wpS_seq
 apply wpS_region
 simp [wpOpsS, go_sem, recoverD, hu, Tryz.ntmps26, Exit.thenS]
 refine wpS_cond (t := true) (by simp [Act.eval, Array.replicate]) ?_
 simp only [if_true]
 refine wpS_of_wp ?_
 simp only [Array.replicate, List.replicate, List.toArray_replicate]
 go_wp2_with fail
 refine (told_any p c w).mono ?_
 rintro e w1 ⟨rfl, hb1⟩
 have k1 := h1.below hb1 h1.lt
 have c1 : w1.cell? ⟨b1, 0, none⟩ = some (.int .i64 y) := k1.cell 0
 have f1 := k1.free 0
 go_wp2
 refine ⟨rfl, _, rfl, .tuple #[], by simp [results, Tryz.results26], rfl, rfl, w1, hb1, rfl⟩
theorem print_idle (q : Addr) (w : World) :
   CallsD Tryz.prog 26 #[.pointer (some q)] .returning w fun e u' w' => e = .returned (.tuple #[]) ∧ u' = .returning ∧ w' = w := by
 refine callsD_of_wpS Tryz.func26 rfl fun c₀ cs hu => ?_
 apply wpS_seq
 apply wpS_region
 simp [wpOpsS, go_sem, recoverD, hu, Tryz.ntmps26, Exit.thenS]
 apply wpS_seq
 apply wpS_region
 simp [wpOpsS, go_sem, recoverD, hu, Tryz.ntmps26, Exit.thenS]
 refine wpS_cond (t := false) (by simp [Act.eval, Array.replicate]) ?_
 simp only [Bool.false_eq_true, if_false]
 refine wpS_of_wp (wp_skip ?_)
 cases c₀
 simp_all [bodyPostS, results, Tryz.results26]
def printR (l : List Px.Nd) : Lx.Bs × Nat := match Px.rS l with
 | none => ([], 7)
 | some s => if (Px.render s.pt).length ≤ 2000 then (Px.render s.pt, 0) else ([], 1)
theorem cPrint_any (w : World) (l : List Px.Nd) (v : Value) (hv : ∃ ao cap, v = .slice ao l.length cap ∧ l.length ≤ cap ∧ cap ≤ maxLen ∧ (∀ x ∈ l, NdFit x) ∧ (l ≠ [] → ∃ g off, ao = some ⟨g, off, none⟩ ∧ g < w.heap.size ∧ TreeIn w g off l)) (he : EnvV w) (hl : l.length ≤ 16777216) (hps : ∀ s, Px.rS l = some s → PS s) :
   Calls Tryz.prog 9 #[v] w fun e w' => e = .returned (.tuple #[.string ⟨(printR l).1.toArray⟩, .int .i64 ((printR l).2 : Int)]) ∧ Below w.heap.size w w' := by
 have hmf : ∀ (fn : Fn) (first cap : Array Value) (w : World), (Instr.makeFunc fn first cap).run Tryz.prog w = .ok (.func fn first cap) w := fun _ _ _ _ => rfl
 have HE := hd he
 have hb0 : Below w.heap.size w (w.alloc (.cells #[.int .i64 0] 29)) := (Below.refl _ _).alloc (Nat.le_refl _) _
 have HT := hd (y_Read_any (w.alloc (.cells #[.int .i64 0] 29)) l v (by
  obtain ⟨ao, cap, h1, h2, h3, h4, h5⟩ := hv
  refine ⟨ao, cap, h1, h2, h3, h4, fun hne => ?_⟩
  obtain ⟨g, off, e, hg, ht⟩ := h5 hne
  exact ⟨g, off, e, by simp; omega, ht.keep (Below.heap_alloc w _ g hg)⟩) (he.envw.below hb0) hl)
 have K1 : Blk (w.alloc (.cells #[.int .i64 0] 29)) w.heap.size #[.int .i64 0] 29 := Blk.new w _ _
 obtain ⟨ao, cap, rfl, _⟩ := hv
 clear he
 go_enter_defers Tryz.func9, Tryz.ntmps9
 go_wp2_with fail
 refine HT.out.mono ?_
 rintro e w1 ⟨hb1, ht⟩
 have K1' := K1.below hb1 (by simp)
 have HB1 : Hid (Below w.heap.size w w1) := hb0.trans (hb1.mono (by simp))
 have HE1 := hd (HE.out.below HB1.out)
 clear hb1 K1 hb0
 cases hrs : Px.rS l with
 | none =>
  rw [hrs] at ht
  have ht : e = Flt 0 7 := ht
  subst ht
  have HPR : printR l = ([], 7) := by unfold printR; rw [hrs]
  refine leaves_cons (f := 26) (args := #[.pointer (some ⟨w.heap.size, 0, none⟩)]) (by simp) (by simp [go_sem]) ?_
  refine (print_catch w.heap.size 0 ((0 : Nat) : Int) ((7 : Nat) : Int) [] _ K1').mono ?_
  rintro e u' w'' ⟨rfl, rfl, w3, hb3, rfl⟩
  have k1 := (K1'.below hb3 K1'.lt).set 0 (.int .i64 ((7 : Nat) : Int))
  have d1 := k1.cell 0
  simp at d1
  rw [HPR]
  simp [Leaves, settle, results, Tryz.results9, go_sem, d1]
  exact (HB1.out.trans (hb3.mono HB1.out.size)).setCell (p := ⟨w.heap.size, 0, none⟩) (Nat.le_refl _) _
 | some s =>
  rw [hrs] at ht
  obtain ⟨u, rfl, hst⟩ := ht
  have HTX := hd (d_Text_any _ s (hps s hrs) u w1 HE1.out hst)
  have HPR0 : Hid (printR l = if (Px.render s.pt).length ≤ 2000 then (Px.render s.pt, 0) else ([], 1)) := by show _ = _; unfold printR; rw [hrs]
  obtain ⟨tv, xv, hvf⟩ := stV_form hst
  subst hvf
  clear hst hrs
  go_wp2_with fail
  refine HTX.out.mono ?_
  rintro x w2 ⟨hb2, ⟨hle, rfl⟩ | ⟨hgt, rfl⟩⟩
  · have HPR : printR l = (Px.render s.pt, 0) := by rw [HPR0.out, if_pos hle]
    have K2 := K1'.below hb2 K1'.lt
    have HB2 : Hid (Below w.heap.size w w2) := HB1.out.trans (hb2.mono HB1.out.size)
    have c1 : w2.cell? ⟨w.heap.size, 0, none⟩ = some (.int .i64 0) := K2.cell 0
    have f1 := K2.free 0
    have HK2 := hd K2
    have HPRH := hd HPR
    clear hb2 K1' K2 hle HPR
    generalize Px.render s.pt = rt at *
    go_wp2
    refine leaves_cons (f := 26) (args := #[.pointer (some ⟨w.heap.size, 0, none⟩)]) (by simp) (by simp [go_sem]) ?_
    refine (print_idle ⟨w.heap.size, 0, none⟩ _).mono ?_
    rintro e u' w'' ⟨rfl, rfl, rfl⟩
    have k1 := HK2.out.set 0 (.int .i64 0)
    have d1 := k1.cell 0
    simp at d1
    rw [HPRH.out]
    simp [Leaves, settle, results, Tryz.results9, go_sem, d1]
    exact HB2.out.setCell (p := ⟨w.heap.size, 0, none⟩) (Nat.le_refl _) _
  · have HPR : printR l = ([], 1) := by rw [HPR0.out, if_neg (by omega)]
    have K2 := K1'.below hb2 K1'.lt
    have HB2 : Hid (Below w.heap.size w w2) := HB1.out.trans (hb2.mono HB1.out.size)
    refine leaves_cons (f := 26) (args := #[.pointer (some ⟨w.heap.size, 0, none⟩)]) (by simp) (by simp [go_sem]) ?_
    refine (print_catch w.heap.size 0 ((0 : Nat) : Int) ((1 : Nat) : Int) [] _ K2).mono ?_
    rintro e u' w'' ⟨rfl, rfl, w3, hb3, rfl⟩
    have k1 := (K2.below hb3 K2.lt).set 0 (.int .i64 ((1 : Nat) : Int))
    have d1 := k1.cell 0
    simp at d1
    rw [HPR]
    simp [Leaves, settle, results, Tryz.results9, go_sem, d1]
    exact (HB2.out.trans (hb3.mono HB2.out.size)).setCell (p := ⟨w.heap.size, 0, none⟩) (Nat.le_refl _) _
theorem PE_ew {N f : Nat} (hN : N ≤ 1000000000) : ∀ e : Px.E, Px.EW N f e → PE e
 | .null, _ => trivial
 | .bool b, _ => trivial
 | .num z, h => h.ok
 | .str s, h => by have := h.ok; simp only [Px.E.ok] at this; simp only [PE]; omega
 | .nm s, h => h.good
 | .un k e, h => ⟨⟨h.ok.1, h.ok.2.1⟩, PE_ew hN e h.un⟩
 | .bin k a b, h => ⟨⟨h.ok.1, h.ok.2.1⟩, PE_ew hN a h.left, PE_ew hN b h.right⟩
theorem flatW_len {α β : Type} (f : α → List β) (hf : ∀ a, 1 ≤ (f a).length) : ∀ l : List α, l.length ≤ (l.flatMap f).length
 | [] => by simp
 | a :: l => by
  have := flatW_len f hf l
  have := hf a
  simp only [List.flatMap_cons, List.length_append, List.length_cons]; omega
theorem flatW_mem {α β : Type} (f : α → List β) : ∀ (l : List α) (a : α), a ∈ l → (f a).length ≤ (l.flatMap f).length
 | b :: l, a, h => by
  simp only [List.flatMap_cons, List.length_append]
  rcases List.mem_cons.1 h with rfl | h
  · omega
  · have := flatW_mem f l a h; omega
theorem nodes_1 (e : Px.E) : 1 ≤ e.nodes.length := by rw [Px.E.nodes_length]; exact e.size_pos
theorem PS_wf {N : Nat} (hN : N ≤ 1000000000) (s : Px.St) (h : Px.Wf N s) (hn : s.nodes.length ≤ 16777216) : PS s := by
 have he : ∀ e ∈ s.exprs, PE e := fun e m => PE_ew hN e (h.exprs e m)
 have hp := h.parts
 cases s with
 | create t c => exact ⟨hp.1, hp.2.2.2, by have := hp.2.2.1; omega⟩
 | drop t => exact hp
 | insert t r =>
  have h1 : r.length ≤ (r.flatMap Px.rowN).length := flatW_len _ (fun a => by simp [Px.rowN]) r
  simp only [Px.St.nodes, List.length_cons] at hn
  refine ⟨hp.1, fun x hx => ⟨fun e hex => he e (List.mem_flatten.2 ⟨x, hx, hex⟩), ?_⟩, by omega⟩
  have h2 := flatW_mem Px.rowN r x hx
  have h3 : x.length ≤ (x.flatMap Px.E.nodes).length := flatW_len _ nodes_1 x
  simp only [Px.rowN, List.length_cons] at h2
  omega
 | delete t o => exact ⟨hp, fun e h => he e h⟩
 | update t s o =>
  have h1 : s.length ≤ (s.flatMap Px.setN).length := flatW_len _ (fun a => by simp [Px.setN]) s
  simp only [Px.St.nodes, List.length_cons, List.length_append] at hn
  refine ⟨hp.1, fun x hx => ⟨hp.2.2 x hx, he _ ?_⟩, by omega, fun e h => he e ?_⟩
  · simp only [Px.St.exprs, List.mem_append, List.mem_map]; exact .inl ⟨x, hx, rfl⟩
  · simp only [Px.St.exprs, List.mem_append]; exact .inr h
 | select i t o r l =>
  have h1 : i.length ≤ (i.flatMap Px.itemN).length := flatW_len _ (fun a => by
   cases a with
   | none => simp [Px.itemN]
   | some e => exact nodes_1 e) i
  have h2 : r.length ≤ (r.flatMap Px.orderN).length := flatW_len _ (fun a => by simp [Px.orderN]) r
  simp only [Px.St.nodes, List.length_cons, List.length_append] at hn
  refine ⟨hp.1, fun x hx e hex => he e ?_, by omega, fun e h => he e ?_, fun x hx => he _ ?_, by omega, hp.2.2⟩
  · simp only [Px.St.exprs, List.mem_append, List.mem_filterMap, id]
    cases x with
    | none => simp at hex
    | some e' => simp at hex; subst hex; exact .inl (.inl ⟨some e, hx, rfl⟩)
  · simp only [Px.St.exprs, List.mem_append]; exact .inl (.inr h)
  · simp only [Px.St.exprs, List.mem_append, List.mem_map]; exact .inr ⟨x, hx, rfl⟩
theorem print_is {N : Nat} (l : List Px.Nd) (h : Px.Rng N l) : Px.print l = printR l := by
 unfold Px.print printR
 rw [Px.well_rS]
 cases hr : Px.rS l with
 | none => rfl
 | some s =>
  obtain ⟨h1, h2⟩ := Px.rS_ok hr h
  have ht := Px.text_nodes s h2
  rw [h1] at ht
  rw [ht]
  simp only [Option.isSome_some, Bool.true_eq_false, if_false]
  by_cases hl : (Px.render s.pt).length ≤ 2000
  · rw [if_neg (by omega), if_pos hl]
  · rw [if_pos (by omega), if_neg hl]
namespace Pr
theorem same_any (a1 a2 : Option Addr) (c1 c2 : Nat) (l : List Px.Nd) (w : World) (hn : l.length ≤ 16777216) (h1 : Rf.NdL w a1 l) (h2 : Rf.NdL w a2 l) :
   Calls Tryz.prog 16 #[.slice a1 l.length c1, .slice a2 l.length c2] w fun e w' => e = .returned (.bool true) ∧ w'.heap = w.heap ∧ Below w.heap.size w w' := by
 have HK1 := hd h1
 have HK2 := hd h2
 clear h1 h2
 go_enter Tryz.func16, Tryz.ntmps16
 go_wp2
 go_loopw [5] (fun i wr => ∃ k : Nat, k ≤ l.length ∧ i = .int .i64 k ∧ Hid (wr.heap = w.heap ∧ Below w.heap.size w wr)) (fun i _ => l.length - (intOf i).toNat)
 case atStart => exact ⟨0, by omega, rfl, rfl, Below.refl _ _⟩
 case round =>
  obtain ⟨k, hk, rfl, HW⟩ := hrel
  by_cases hlt : k < l.length
  · obtain ⟨g1, o1, hg1, _, p0, p1, p2, p3⟩ := HK1.out k hlt
    obtain ⟨g2, o2, hg2, _, q0, q1, q2, q3⟩ := HK2.out k hlt
    have hcc : ∀ a, wr.cell? a = w.cell? a := fun a => by simp only [World.cell?, HW.out.1]
    rw [← hcc] at p0 p1 p2 p3 q0 q1 q2 q3
    rw [hg1, hg2]
    clear hcc hg1 hg2
    generalize l[k] = t at *
    obtain ⟨tk, tt, tn, tc⟩ := t
    simp only at p0 p1 p2 p3 q0 q1 q2 q3
    have z1 : (0 : Int) ≤ (k : Int) := by omega
    go_wp2
    go_region
    all_goals
     go_wp2
     go_roundw
     case rel => exact ⟨k + 1, by omega, by go_num, HW.out.1, HW.out.2.drew⟩
     case measure => simp [intOf]; omega
  · go_wp2
    go_ret
    exact ⟨rfl, HW.out⟩
theorem num_any (c : Int) (w : World) : Calls Tryz.prog 17 #[.int .i64 c] w fun e w' => e = .returned (.int .i64 c) ∧ w' = w := by
 go_enter Tryz.func17, Tryz.ntmps17
 go_wp2
 go_ret
 exact ⟨rfl, rfl⟩
theorem nodeNews (w : World) (a b c d : Value) (t : TypeId) : ∀ j u, ([a, b, c, d] : List Value)[j]? = some u → (w.alloc (.cells #[a, b, c, d] t)).cell? ((⟨w.heap.size, 0, none⟩ : Addr).add j) = some u := by
 intro j u hu
 rw [Addr.add_lit, Nat.zero_add, (Blk.new w #[a, b, c, d] t).cell]
 simpa using hu
theorem lies_of_own {w : World} {b : Nat} {v : Value} {l : List Px.Nd} (h : w.ownsRow b 43 4 v l.length (ndsV l)) : ∃ ao cap, v = .slice ao l.length cap ∧ l.length ≤ cap ∧ cap ≤ maxLen ∧ Rf.NdL w ao l ∧ (l ≠ [] → ∃ g off, ao = some ⟨g, off, none⟩ ∧ g < w.heap.size ∧ TreeIn w g off l) := by
 rcases NdIs.of_own h with ⟨rfl, rfl⟩ | ⟨g, cap, rfl, h1, h2, h3, h4, h5⟩
 · exact ⟨none, 0, rfl, by simp, by simp [maxLen], fun k hk => absurd hk (by simp), fun h => absurd rfl h⟩
 · refine ⟨_, cap, rfl, h3, h4, fun k hk => ?_, fun _ => ⟨g, 0, rfl, h2, fun j u hu => by rw [Nat.zero_add]; exact h5 j u hu⟩⟩
   obtain ⟨q0, q1, q2, q3⟩ := ndsV_at l k hk
   refine ⟨g, 0, rfl, h2, ?_, ?_, ?_, ?_⟩
   · rw [Nat.zero_add]; exact h5 _ _ q0
   · rw [Nat.zero_add]; exact h5 _ _ q1
   · rw [Nat.zero_add]; exact h5 _ _ q2
   · rw [Nat.zero_add]; exact h5 _ _ q3
theorem printed_of (W : World) (ao : Option Addr) (cap : Nat) (L : List Px.Nd) (he : EnvV W) (hLL : L.length ≤ 1000000) (hfit : ∀ x ∈ L, NdFit x) (hps : ∀ s, Px.rS L = some s → PS s) (hN : Rf.NdL W ao L)
   (hrp : ∀ w, Rf.NdL w ao L → Calls Tryz.prog 15 #[.slice ao L.length cap] w fun e w' => ∃ t : ByteArray, e = .returned (.tuple #[.string t, .int .i64 ((printR L).2 : Int)]) ∧ t.data.toList = (printR L).1 ∧ Below w.heap.size w w') :
   Calls Tryz.prog 7 #[.slice ao L.length cap] W fun e w' => e = .returned (.bool true) ∧ Below W.heap.size W w' := by
 have HRP := hd hrp
 have HPS := hd hps
 have HFIT := hd hfit
 have HE := hd he
 have HN := hd hN
 obtain ⟨i0, hi, hz0, hz1, hz2⟩ := info_parts Tryz.info43
 clear hrp hps hfit hN he
 go_enter Tryz.func7, Tryz.ntmps7
 go_wp2_with fail
 go_loopw [3, 4] (fun v i wr => ∃ k : Nat, k ≤ L.length ∧ i = .int .i64 k ∧ Hid (wr.ownsRow W.heap.size 43 4 v k (ndsV (L.take k))) ∧ Hid (Below W.heap.size W wr)) (fun _ i _ => L.length - (intOf i).toNat)
 case atStart => exact ⟨0, by omega, rfl, World.ownsRow_nil _ _ _ _, Below.refl _ _⟩
 case round =>
  obtain ⟨k, hk, rfl, HO, HW⟩ := hrel
  by_cases hlt : k < L.length
  · obtain ⟨g, off, hg, hgl, p0, p1, p2, p3⟩ := (HN.out.below HW.out) k hlt
    have HTK : Hid (ndsV (L.take (k + 1)) = ndsV (L.take k) ++ ndV L[k]) := by show _ = _; rw [List.take_succ_eq_append_getElem hlt, ndsV_append, ndsV_one]
    rw [hg]
    clear hg
    generalize L[k] = x at *
    obtain ⟨kd, tx, nu, ks⟩ := x
    simp only at p0 p1 p2 p3
    obtain ⟨ao', n', cp', rfl⟩ := own_slice HO.out
    have z1 : (0 : Int) ≤ (k : Int) := by omega
    go_wp2_with (first
     | (at_builtin; refine wpList_append_own _ rfl _ _ 22 rfl W.heap.size 43 i0 (.agg #[.int .i64 0, .string ⟨#[]⟩, .int .i64 0, .int .i64 0]) 4 40 Tryz.underlying22 hi hz0 hz1 hz2 rfl (by decide) _ _ _ rfl (HO.out.alloc _) ⟨wr.heap.size, 0, none⟩ 1 1 [.int .i64 kd, .string ⟨tx.toArray⟩, .int .i64 nu, .int .i64 ks] rfl rfl ?c1 ?c2 ?c3 ?c4 ?c5 ?_)
     | fail)
    case c1 => exact nodeNews wr (.int .i64 kd) (.string ⟨tx.toArray⟩) (.int .i64 nu) (.int .i64 ks) 43
    case c2 => intro u hu; simp at hu; rcases hu with rfl | rfl | rfl | rfl <;> rfl
    case c3 => unfold maxLen; omega
    case c4 => omega
    case c5 => have := HW.out.size; simp; omega
    intro v' w3 hown' hgrow _
    have HO3 := hd hown'
    have HB3 : Hid (Below W.heap.size W w3) := by
     have h1 : Below W.heap.size W (wr.alloc (.cells #[.int .i64 kd, .string ⟨tx.toArray⟩, .int .i64 nu, .int .i64 ks] 43)) := HW.out.alloc HW.out.size _
     refine ⟨hgrow.os.trans h1.os, hgrow.tape.trans h1.tape, hgrow.output.trans h1.output, Nat.le_trans h1.size hgrow.size, fun k hk => ?_⟩
     rw [hgrow.block k (Nat.lt_of_lt_of_le hk h1.size) (fun e => by have := (HO.out.lt k e.symm).1; omega)]
     exact h1.block k hk
    clear hown' hgrow
    go_wp2_with fail
    go_roundw
    case rel => exact ⟨k + 1, by omega, by go_num, by show World.ownsRow _ _ _ _ _ _ _; rw [HTK.out]; exact HO3.out, HB3⟩
    case measure => simp [intOf]; omega
  · have hkc : k = L.length := by omega
    have hown := HO.out
    rw [hkc, List.take_length] at hown
    obtain ⟨a1, cp1, rfl, e1, e2, hN1, ht1⟩ := lies_of_own hown
    have HN1 := hd hN1
    have HPC := hd (cPrint_any wr L _ ⟨a1, cp1, rfl, e1, e2, HFIT.out, ht1⟩ (HE.out.below HW.out) (by omega) HPS.out)
    have z3 : decide ((k : Int) < (L.length : Int)) = false := decide_eq_false (by omega)
    have z4 : decide (k < L.length) = false := decide_eq_false (by omega)
    have z5 : (k < L.length) = False := eq_false (by omega)
    clear hown hN1 ht1 HO hkc
    generalize printR L = pr at *
    go_wp2_with fail
    refine HPC.out.mono ?_
    rintro y w1 ⟨rfl, hb⟩
    have HB1 : Hid (Below W.heap.size W w1) := HW.out.trans (hb.mono HW.out.size)
    have HN2 := hd (HN1.out.below hb)
    clear hb
    go_wp2_with fail
    refine (HRP.out w1 (HN.out.below HB1.out)).mono ?_
    rintro y w2 ⟨t, rfl, ht, hb⟩
    have HB2 : Hid (Below W.heap.size W w2) := HB1.out.trans (hb.mono HB1.out.size)
    have HN3 := hd (HN2.out.below hb)
    have htt : t = ⟨pr.1.toArray⟩ := by cases t; simp at ht; rw [← ht]
    subst htt
    clear hb ht
    go_wp2_with fail
    refine (same_any a1 ao cp1 cap L w2 (by omega) HN3.out (HN.out.below HB2.out)).mono ?_
    rintro y w3 ⟨rfl, hh, hb⟩
    have HB3 : Hid (Below W.heap.size W w3) := HB2.out.trans (hb.mono HB2.out.size)
    clear hb hh
    go_wp2_with (first
     | (go_at_call 17; refine (num_any _ _).mono ?_; rintro y w4 ⟨rfl, rfl⟩)
     | fail)
    go_ret
    exact ⟨rfl, HB3.out⟩
end Pr
section
open Go.ChangeShapes Go.WideShapes Go.ChangeAt Go.RowKit Go.Lib
namespace Pr
theorem wid_len (l : List Px.Nd) : 40 * l.length ≤ Px.wid l := by
 induction l with
 | nil => simp [Px.wid]
 | cons x l ih => simp only [Px.wid, List.length_cons]; omega
theorem wid_mem : ∀ (l : List Px.Nd) (x : Px.Nd), x ∈ l → x.text.length ≤ Px.wid l
 | y :: l, x, hx => by
  simp only [Px.wid]
  rcases List.mem_cons.1 hx with rfl | hx
  · omega
  · have := wid_mem l x hx; omega
end Pr
theorem block_lt {w : World} {p : Addr} {v : Value} (h : w.cell? p = some v) : p.block < w.heap.size := by
 unfold World.cell? at h
 split at h
 · rename_i hb
   exact (Array.getElem?_eq_some_iff.1 hb).1
 all_goals simp at h
def ndD {H : Type} (x : Px.Nd) : DataW H := .agg [.lit (.int .i64 x.kind), .lit (.string x.text), .lit (.int .i64 x.num), .lit (.int .i64 x.kids)]
theorem bulk_nd {H : Type} (l : List Px.Nd) : 5 * Px.wid l ≤ 40 * Rows.uptoBulkAll (l.map (ndD (H := H))) := by
 induction l with
 | nil => simp [Px.wid]
 | cons x l ih =>
  simp only [List.map_cons, Rows.uptoBulkAll, Rows.uptoBulk, ndD, Px.wid] at ih ⊢
  omega
instance : Inhabited Px.Nd := ⟨⟨0, [], 0, 0⟩⟩
theorem i64_of {n : Int} (h : (Lit.int .i64 n).wf = true) : -9223372036854775808 ≤ n ∧ n ≤ 9223372036854775807 := by
 simp only [Lit.wf, Bool.and_eq_true, decide_eq_true_eq] at h
 have m1 : IntKind.i64.min = -9223372036854775808 := by decide
 have m2 : IntKind.i64.max = 9223372036854775807 := by decide
 rw [m1, m2] at h
 exact h
theorem open_nodes {H : Type} {enc : TypeId × Value → H} {W : World} {ao : Option Addr} {len cap fuel : Nat} {d : DataW H} {ps : List MemPlace}
   (hf : DataW.trod enc Tryz.prog W 0 (fun _ => true) true fuel 22 [.slice ao len cap] = some (d, ps)) (hk : Rows.uptoBulkAll [d] ≤ 1048576) :
   ∃ L : List Px.Nd, L.length = len ∧ L.length ≤ cap ∧ cap ≤ maxLen ∧ Px.wid L ≤ 8388608 ∧ (∀ x ∈ L, NdFit x) ∧ Rf.NdL W ao L := by
 rcases Go.Deep.open_slice Tryz.underlying22 hf with ⟨hcs, hx⟩ | ⟨a, len', cap', m, n, D, Pl, hcs, _, hl, hm, hmm, hx, hel⟩
 · simp at hcs
   obtain ⟨rfl, rfl, rfl⟩ := hcs
   exact ⟨[], rfl, by simp, by simp [maxLen], by simp [Px.wid], (fun x hx => by cases hx), (fun k hk => absurd hk (by simp))⟩
 · simp at hcs
   obtain ⟨rfl, rfl, rfl⟩ := hcs
   simp only [if_true] at hmm
   cases hx
   have ce : Tryz.prog.cellsOf 43 = 4 := by kernel_rfl
   have c0 : Tryz.prog.cellsOf 3 = 1 := by kernel_rfl
   have c1 : Tryz.prog.cellsOf 9 = 1 := by kernel_rfl
   obtain ⟨b, off, spot⟩ := a
   have hsp : 0 < len → spot = none := fun h0 => by
    obtain ⟨cs', h1, _⟩ := hel 0 (by omega)
    rw [ce] at h1
    obtain ⟨_, hlen, hcell⟩ := World.cells?_some h1
    have q0 := hcell 0 (by omega)
    rw [List.getElem?_eq_getElem (show 0 < cs'.length by omega)] at q0
    simpa [Addr.add] using World.cell?_spot q0
   have each : ∀ i, i < len → ∃ x : Px.Nd, D i = ndD x ∧ ((-9223372036854775808 ≤ x.num ∧ x.num ≤ 9223372036854775807) ∧ (-9223372036854775808 ≤ x.kind ∧ x.kind ≤ 9223372036854775807) ∧ (-9223372036854775808 ≤ x.kids ∧ x.kids ≤ 9223372036854775807)) ∧ spot = none ∧ W.cell? ⟨b, off + i * 4, none⟩ = some (.int .i64 x.kind) ∧ W.cell? ⟨b, off + i * 4 + 1, none⟩ = some (.string ⟨x.text.toArray⟩) ∧ W.cell? ⟨b, off + i * 4 + 2, none⟩ = some (.int .i64 x.num) ∧ W.cell? ⟨b, off + i * 4 + 3, none⟩ = some (.int .i64 x.kids) := by
    intro i hi
    obtain ⟨cs', h1, h2⟩ := hel i (by omega)
    rw [ce] at h1
    obtain ⟨_, hlen, hcell⟩ := World.cells?_some h1
    obtain ⟨y0, y1, y2, y3, k, hy, _, g0, g1, g2, g3⟩ := Go.Joins.trod_struct4 Tryz.underlying43 h2
    simp only [c0, c1] at g0 g1 g2 g3
    match cs', hlen with
    | [v0, v1, v2, v3], _ =>
     obtain ⟨z0, e0, rfl, f0⟩ := DataW.trod_int Tryz.underlying3 g0
     obtain ⟨s1, e1, rfl, f1⟩ := DataW.trod_string Tryz.underlying9 g1
     obtain ⟨z2, e2, rfl, f2⟩ := DataW.trod_int Tryz.underlying3 g2
     obtain ⟨z3, e3, rfl, f3⟩ := DataW.trod_int Tryz.underlying3 g3
     simp at e0 e1 e2 e3
     subst e0 e1 e2 e3
     have q0 := hcell 0 (by omega)
     have q1 := hcell 1 (by omega)
     have q2 := hcell 2 (by omega)
     have q3 := hcell 3 (by omega)
     rw [Go.Deep.add_add] at q0 q1 q2 q3
     have hspot := hsp (by omega)
     subst hspot
     rw [Go.WideShapes.add_plain] at q0 q1 q2 q3
     have hs1 : (⟨s1.data.toList.toArray⟩ : ByteArray) = s1 := by cases s1; simp
     refine ⟨⟨z0, s1.data.toList, z2, z3⟩, ?_, ⟨i64_of f2, i64_of f0, i64_of f3⟩, rfl, by simpa using q0, ?_, by simpa [Nat.add_assoc] using q2, by simpa [Nat.add_assoc] using q3⟩
     · have := congrArg Prod.fst hy
       exact this
     · rw [hs1]; simpa [Nat.add_assoc] using q1
   obtain ⟨f, hf'⟩ := Go.Deep.choose_lt each
   have hw : Px.wid ((List.range len).map f) ≤ 8388608 := by
    have hD : (List.range len).map D = ((List.range len).map f).map ndD := by
     rw [List.map_map]
     exact List.map_congr_left fun i hi => (hf' i (List.mem_range.1 hi)).1
    have := bulk_nd (H := H) ((List.range len).map f)
    simp only [Rows.uptoBulkAll, Rows.uptoBulk] at hk
    rw [hD] at hk
    omega
   refine ⟨(List.range len).map f, by simp, by simpa using hl, hm, hw, fun x hx => ?_, fun k hk => ?_⟩
   · have hx2 := Pr.wid_mem _ x hx
     obtain ⟨i, hi, rfl⟩ := List.mem_map.1 hx
     obtain ⟨n1, n2, n3⟩ := (hf' i (List.mem_range.1 hi)).2.1
     exact ⟨n1, n2, n3, by omega⟩
   · have hk' : k < len := by simpa using hk
     obtain ⟨_, _, rfl, q0, q1, q2, q3⟩ := hf' k hk'
     have he : ((List.range len).map f)[k] = f k := by simp
     rw [he]
     exact ⟨b, off, rfl, block_lt q0, q0, q1, q2, q3⟩
end
namespace Pr
theorem printed_any (W : World) (ao : Option Addr) (cap : Nat) (L : List Px.Nd) (he : EnvV W) (hwid : Px.wid L ≤ 8388608) (hfit : ∀ x ∈ L, NdFit x) (hN : Rf.NdL W ao L) :
   Calls Tryz.prog 7 #[.slice ao L.length cap] W fun e w' => e = .returned (.bool true) ∧ Below W.heap.size W w' := by
 have hLL : L.length ≤ 1000000 := by have := wid_len L; omega
 have htx : ∀ x ∈ L, x.text.length ≤ 8388608 := fun x hx => Nat.le_trans (wid_mem L x hx) hwid
 have hrng : Px.Rng 8388608 L := fun x hx => ⟨htx x hx, (hfit x hx).1.1, (hfit x hx).1.2⟩
 refine printed_of W ao cap L he hLL hfit (fun s hs => ?_) hN (fun w h => ?_)
 · obtain ⟨h1, h2⟩ := Px.rS_ok hs hrng
   exact PS_wf (by omega) s h2 (by rw [h1]; omega)
 · have := Rf.rPrint_any ao cap L (by omega) (by omega) (fun x hx => by have := htx x hx; omega) (fun x hx => (hfit x hx).2.2.1.2) hrng w h
   rw [print_is L hrng] at this
   exact this
theorem prints_any (W : World) (ao : Option Addr) (cap : Nat) (L : List Px.Nd) (he : EnvV W) (hl1 : L.length ≤ cap) (hl2 : cap ≤ maxLen) (hwid : Px.wid L ≤ 8388608) (hfit : ∀ x ∈ L, NdFit x) (hN : Rf.NdL W ao L) :
   Calls Tryz.prog 3 #[.slice ao L.length cap] W fun e w' => e = .returned (.bool true) ∧ Below W.heap.size W w' := by
 have HP := hd (printed_any W ao cap L he hwid hfit hN)
 clear he hfit hN hwid
 go_enter Tryz.func3, Tryz.ntmps3
 go_wp2_with fail
 refine HP.out.mono ?_
 rintro y w1 ⟨rfl, hb⟩
 have HB := hd hb
 clear hb
 go_wp2_with fail
 go_ret
 exact ⟨rfl, HB.out⟩
end Pr
end Go.Proofs.YtkcakbgcfnhgaaaGreatDoor
