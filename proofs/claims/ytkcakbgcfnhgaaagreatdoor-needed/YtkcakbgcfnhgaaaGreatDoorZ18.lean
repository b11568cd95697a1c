/- Parts of the proof: Ki Kj CodeI Kh -/
import Derived.Test.YtkcakbgcfnhgaaaGreatDoorZ16
import Derived.Test.YtkcakbgcfnhgaaaGreatDoorZ14
import Derived.Test.YtkcakbgcfnhgaaaGreatDoorZ15
import Derived.Test.YtkcakbgcfnhgaaaGreatDoorZ5
import Derived.Defers
import Derived.Recover
import Derived.Test.YtkcakbgcfnhgaaaGreatDoorZ17
namespace Go.Proofs.YtkcakbgcfnhgaaaGreatDoor
set_option linter.unusedSimpArgs false
set_option linter.unusedVariables false
set_option maxRecDepth 100000
set_option maxHeartbeats 16000000
open Go.RowKit
namespace Kl
theorem ext_list (s : ByteArray) (a b : Nat) : (s.extract a b).data.toList = (s.data.toList.drop a).take (b - a) := by
 rw [← Lib.toList_data, Lib.extract_toList]
theorem app_list (a b : ByteArray) : (a ++ b).data.toList = a.data.toList ++ b.data.toList := by simp
theorem strike_list (s : ByteArray) (p q : Nat) : (s.extract 0 p ++ ⟨#[32]⟩ ++ s.extract (p + 1) q ++ ⟨#[32]⟩ ++ s.extract (q + 1) s.size).data.toList = s.data.toList.take p ++ 32 :: ((s.data.toList.drop (p + 1)).take (q - (p + 1)) ++ 32 :: s.data.toList.drop (q + 1)) := by
 simp only [app_list, ext_list, List.drop_zero, Nat.sub_zero]
 have e : (s.data.toList.drop (q + 1)).take (s.size - (q + 1)) = s.data.toList.drop (q + 1) := by
  apply List.take_of_length_le
  simp
 rw [e]
 simp
theorem strike_size (s : ByteArray) (p q : Nat) (h : p < q) (hq : q < s.size) : (s.extract 0 p ++ ⟨#[32]⟩ ++ s.extract (p + 1) q ++ ⟨#[32]⟩ ++ s.extract (q + 1) s.size).size ≤ s.size := by
 simp only [ByteArray.size_append, ByteArray.size_extract]
 have e : (⟨#[32]⟩ : ByteArray).size = 1 := rfl
 rw [e]
 omega
theorem whole_list {L : Lx.Bs} {p q : Nat} (h : p < q) {r1 r2 : Lx.Bs} (h1 : L.drop p = 40 :: r1) (h2 : L.drop q = 41 :: r2) : L = L.take p ++ 40 :: ((L.drop (p + 1)).take (q - (p + 1)) ++ 41 :: L.drop (q + 1)) := by
 have e1 : L.drop (p + 1) = r1 := by rw [← List.drop_drop, h1]; rfl
 have e2 : L.drop (q + 1) = r2 := by rw [← List.drop_drop, h2]; rfl
 have e3 : (L.drop (p + 1)).drop (q - (p + 1)) = 41 :: r2 := by
  rw [List.drop_drop, show p + 1 + (q - (p + 1)) = q by omega, h2]
 have e4 : (L.drop (p + 1)).take (q - (p + 1)) ++ 41 :: r2 = r1 := by
  rw [← e3, List.take_append_drop, e1]
 rw [e2, e4, ← h1, List.take_append_drop]
theorem strike_other {st st' : Px.St} (hs : Px.Sok st) (s : ByteArray) (hr : s.data.toList = Px.render st.pt) {ts : List Lx.Tok} (hl : Lx.lex s.data.toList = .ok ts) (hsame : Px.Same ts st.pt) {i k : Nat} (hik : i < k) {ti tk : Lx.Tok}
   (hi : ts[i]? = some ti) (hi1 : ti.kind = 51) (hi2 : ti.text = [40]) (hk : ts[k]? = some tk) (hk1 : tk.kind = 51) (hk2 : tk.text = [41])
   (hp : Px.ParseR (s.extract 0 ti.pos ++ ⟨#[32]⟩ ++ s.extract (ti.pos + 1) tk.pos ++ ⟨#[32]⟩ ++ s.extract (tk.pos + 1) s.size).data.toList (.ok st')) : st'.nodes ≠ st.nodes := by
 obtain ⟨q1, q2, q3⟩ := Lx.lex_pos hl
 have hmi : ti ∈ ts := List.mem_of_getElem? hi
 have hmk : tk ∈ ts := List.mem_of_getElem? hk
 have hlt : ti.pos < tk.pos := by
  have li := (List.getElem?_eq_some_iff.1 hi)
  have lk := (List.getElem?_eq_some_iff.1 hk)
  have := List.pairwise_iff_getElem.1 q2 i k li.1 lk.1 hik
  rw [li.2, lk.2] at this
  exact this
 obtain ⟨n1, o1⟩ := q3 ti hmi
 obtain ⟨n2, o2⟩ := q3 tk hmk
 rw [hi1, hi2] at o1
 rw [hk1, hk2] at o2
 obtain ⟨r1, d1⟩ := Lx.sign_at o1
 obtain ⟨r2, d2⟩ := Lx.sign_at o2
 have hw := whole_list hlt d1 d2
 rw [strike_list] at hp
 have hpl := q1 ti hmi
 have hpk := q1 tk hmk
 have hxl : (s.data.toList.take ti.pos).length = ti.pos := by rw [List.length_take]; omega
 have hyl : ((s.data.toList.drop (ti.pos + 1)).take (tk.pos - (ti.pos + 1))).length = tk.pos - (ti.pos + 1) := by rw [List.length_take, List.length_drop]; omega
 intro hnodes
 have f := Px.parse_fit hp
 have e1 := Px.rS_nodes st' f.1 f.2.1 f.2.2
 have e2 := Px.rS_nodes st hs.fit hs.good hs.deep
 rw [hnodes, e2] at e1
 refine Px.needed (st := st) (by rw [← hw]; exact hl) (Px.same_ob hsame) ⟨ti, hmi, hi1, hi2, by rw [hxl]⟩ ⟨tk, hmk, by rw [hxl, hyl]; omega⟩ hp (Option.some.inj e1).symm
end Kl
namespace Kl
theorem same_not (v u : Value) (l r : List Px.Nd) (b1 b2 : Nat) (w : World) (hn : l.length ≤ 100000) (hn2 : r.length ≤ 100000) (hne : l ≠ r) (h1 : NdIs w b1 v l) (h2 : NdIs w b2 u r) :
   Calls Tryz.prog 12 #[v, u] w fun e w' => e = .returned (.bool false) ∧ Below w.heap.size w w' := by
 obtain ⟨a1, c1, rfl, hk1⟩ := nd_slice h1
 obtain ⟨a2, c2, rfl, hk2⟩ := nd_slice h2
 have HK1 := hd hk1
 have HK2 := hd hk2
 have HNE := hd hne
 clear hk1 hk2 h1 h2 hne
 by_cases hll : l.length = r.length
 rotate_left
 · have hb : ((l.length : Int) == (r.length : Int)) = false := by simp; omega
   go_enter Tryz.func12, Tryz.ntmps12
   go_wp2
   go_ret
   exact ⟨rfl, Below.refl _ _⟩
 have HLL := hd hll
 rw [← hll]
 clear hll
 go_enter Tryz.func12, Tryz.ntmps12
 go_wp2
 go_loopw [5] (fun i wr => ∃ k : Nat, k ≤ l.length ∧ i = .int .i64 k ∧ Hid (l.take k = r.take k) ∧ Hid (wr.heap = w.heap ∧ Below w.heap.size w wr)) (fun i _ => l.length - (intOf i).toNat)
 case atStart => exact ⟨0, by omega, rfl, rfl, rfl, Below.refl _ _⟩
 case round =>
  obtain ⟨k, hk, rfl, HQ, HW⟩ := hrel
  by_cases hlt : k < l.length
  · obtain ⟨g1, hg1, _, p0, p1, p2, p3⟩ := HK1.out k hlt
    obtain ⟨g2, hg2, _, q0, q1, q2, q3⟩ := HK2.out k (by have := HLL.out; omega)
    have hcc : ∀ a, wr.cell? a = w.cell? a := fun a => by simp only [World.cell?, HW.out.1]
    rw [← hcc] at p0 p1 p2 p3 q0 q1 q2 q3
    rw [hg1, hg2]
    have HX : Hid (l[k] = r[k]'(by have := HLL.out; omega) → l.take (k + 1) = r.take (k + 1)) := by
     intro e
     rw [List.take_succ_eq_append_getElem hlt, List.take_succ_eq_append_getElem (by have := HLL.out; omega), HQ.out, e]
    clear hcc hg1 hg2
    generalize (r[k]'(by have := HLL.out; omega)) = y at *
    generalize l[k] = x at *
    have z1 : (0 : Int) ≤ (k : Int) := by omega
    by_cases hxy : x = y
    · have HT := hd (HX.out hxy)
      subst hxy
      obtain ⟨tk, tt, tn, tc⟩ := x
      simp only at p0 p1 p2 p3 q0 q1 q2 q3
      go_wp2
      go_region
      all_goals
       go_wp2
       go_roundw
       case rel => exact ⟨k + 1, by omega, by go_num, HT, HW.out.1, HW.out.2.drew⟩
       case measure => simp [intOf]; omega
    obtain ⟨tk, tt, tn, tc⟩ := x
    obtain ⟨sk, ss, sn, sc⟩ := y
    simp only at p0 p1 p2 p3 q0 q1 q2 q3
    by_cases e0 : tk = sk
    · subst e0
      by_cases e1 : tt = ss
      · subst e1
        by_cases e2 : tn = sn
        · subst e2
          have e3 : tc ≠ sc := by rintro rfl; exact hxy rfl
          have hb : (tc == sc) = false := by simpa using e3
          go_wp2
          go_region
          all_goals
           go_wp2
           go_ret
           exact ⟨rfl, HW.out.2.drew⟩
        have hb : (tn == sn) = false := by simpa using e2
        go_wp2
        go_region
        all_goals
         go_wp2
         go_ret
         exact ⟨rfl, HW.out.2.drew⟩
      have hb : (tt == ss) = false := by simpa using e1
      go_wp2
      go_region
      all_goals
       go_wp2
       go_ret
       exact ⟨rfl, HW.out.2.drew⟩
    have hb : (tk == sk) = false := by simpa using e0
    go_wp2
    go_region
    all_goals
     go_wp2
     go_ret
     exact ⟨rfl, HW.out.2.drew⟩
  have hkc : k = l.length := by omega
  exfalso
  have h1 := HQ.out
  rw [hkc, List.take_length, HLL.out, List.take_length] at h1
  exact HNE.out h1
end Kl
theorem catch_panicking (b0 b1 : Nat) (x y p c : Int) (older : List PanicEntry) (w : World) (h0 : Blk w b0 #[.int .i64 x] 3) (h1 : Blk w b1 #[.int .i64 y] 29) (hne : b0 ≠ b1) :
   CallsD Tryz.prog 33 #[.pointer (some ⟨b0, 0, none⟩), .pointer (some ⟨b1, 0, none⟩)] (.panicking ({ v := .iface 70 (.agg #[.int .i64 p, .int .i64 c]), recovered := false } :: older)) w fun e u' w' =>
    e = .returned (.tuple #[]) ∧ u' = .panicking ({ v := .iface 70 (.agg #[.int .i64 p, .int .i64 c]), recovered := true } :: older) ∧ ∃ w1, Below w.heap.size w w1 ∧ w' = (w1.setCell ⟨b0, 0, none⟩ (.int .i64 p)).setCell ⟨b1, 0, none⟩ (.int .i64 c) := by
 refine callsD_of_wpS Tryz.func33 rfl fun c₀ cs hu => ?_
 apply wpS_seq
 apply wpS_region
 simp [wpOpsS, go_sem, recoverD, hu, Tryz.ntmps33, Exit.thenS]
 apply wpS_seq
 apply wpS_region
 simp [wpOpsS, go_sem, recoverD, hu, Tryz.ntmps33, Exit.thenS]
 refine wpS_cond (t := true) (by simp [Act.eval, Array.replicate]) ?_
 simp only [if_true]
 refine wpS_of_wp ?_
 simp only [Array.replicate, List.replicate, List.toArray_replicate]
 go_wp2_with fail
 refine (told_any p c w).mono ?_
 rintro e w1 ⟨rfl, hb1⟩
 have k0 := h0.below hb1 h0.lt
 have k1 := h1.below hb1 h1.lt
 have c0 : w1.cell? ⟨b0, 0, none⟩ = some (.int .i64 x) := k0.cell 0
 have c1 : w1.cell? ⟨b1, 0, none⟩ = some (.int .i64 y) := k1.cell 0
 have f0 := k0.free 0
 have f1 := k1.free 0
 have hne' : ¬ b0 = b1 := hne
 have hne'' : ¬ b1 = b0 := fun e => hne e.symm
 go_wp2
 refine ⟨rfl, _, rfl, .tuple #[], by simp [results, Tryz.results33], rfl, rfl, w1, hb1, rfl⟩
theorem catch_idle (p q : Addr) (w : World) :
   CallsD Tryz.prog 33 #[.pointer (some p), .pointer (some q)] .returning w fun e u' w' => e = .returned (.tuple #[]) ∧ u' = .returning ∧ w' = w := by
 refine callsD_of_wpS Tryz.func33 rfl fun c₀ cs hu => ?_
 apply wpS_seq
 apply wpS_region
 simp [wpOpsS, go_sem, recoverD, hu, Tryz.ntmps33, Exit.thenS]
 apply wpS_seq
 apply wpS_region
 simp [wpOpsS, go_sem, recoverD, hu, Tryz.ntmps33, Exit.thenS]
 refine wpS_cond (t := false) (by simp [Act.eval, Array.replicate]) ?_
 simp only [Bool.false_eq_true, if_false]
 refine wpS_of_wp (wp_skip ?_)
 cases c₀
 simp_all [bodyPostS, results, Tryz.results33]
theorem cTokens_any (s : ByteArray) (w : World) (he : Env w) (hm : s.size ≤ maxLen) :
   Calls Tryz.prog 13 #[.string s] w fun e w' => ∃ (v : Value) (n c : Int), e = .returned (.tuple #[v, .int .i64 n, .int .i64 c]) ∧ TokV (Lx.lex s.data.toList) w.heap.size w' v n c ∧ Below w.heap.size w w' := by
 have hmf : ∀ (fn : Fn) (first cap : Array Value) (w : World), (Instr.makeFunc fn first cap).run Tryz.prog w = .ok (.func fn first cap) w := fun _ _ _ _ => rfl
 have HE := hd he
 clear he
 have hb0 : Below w.heap.size w ((w.alloc (.cells #[.int .i64 0] 3)).alloc (.cells #[.int .i64 0] 29)) := ((Below.refl _ _).alloc (nlr _) _).alloc (by simp) _
 have HT := hd (rdTokens_any s ((w.alloc (.cells #[.int .i64 0] 3)).alloc (.cells #[.int .i64 0] 29)) (HE.out.below hb0) hm)
 have K0 : Blk ((w.alloc (.cells #[.int .i64 0] 3)).alloc (.cells #[.int .i64 0] 29)) w.heap.size #[.int .i64 0] 3 := (Blk.new w _ _).alloc _
 have K1 : Blk ((w.alloc (.cells #[.int .i64 0] 3)).alloc (.cells #[.int .i64 0] 29)) (w.heap.size + 1) #[.int .i64 0] 29 := (by have h := Blk.new (w.alloc (.cells #[.int .i64 0] 3)) #[.int .i64 0] 29; rwa [World.size_alloc] at h)
 generalize Lx.lex s.data.toList = r at *
 go_enter_defers Tryz.func13, Tryz.ntmps13
 go_wp2_with fail
 refine HT.out.mono ?_
 rintro e w1 ⟨hb1, ht⟩
 have K0' := K0.below hb1 (by simp; omega)
 have K1' := K1.below hb1 (by simp)
 have HB1 : Hid (Below w.heap.size w w1) := hb0.trans (hb1.mono (by simp; omega))
 clear hb1 K0 K1 hb0
 have c0 : w1.cell? ⟨w.heap.size, 0, none⟩ = some (.int .i64 0) := K0'.cell 0
 have c1 : w1.cell? ⟨w.heap.size + 1, 0, none⟩ = some (.int .i64 0) := K1'.cell 0
 have f0 := K0'.free 0
 have f1 := K1'.free 0
 rcases hr : r with ⟨p, c⟩ | ts
 · rw [hr] at ht
   simp only at ht
   subst ht
   refine leaves_cons (f := 33) (args := #[.pointer (some ⟨w.heap.size, 0, none⟩), .pointer (some ⟨w.heap.size + 1, 0, none⟩)]) (by simp) (by simp [go_sem]) ?_
   refine (catch_panicking w.heap.size (w.heap.size + 1) 0 0 (p : Int) (c : Int) [] w1 K0' K1' (by omega)).mono ?_
   rintro e u' w'' ⟨rfl, rfl, w2, hb2, rfl⟩
   have k0 := ((K0'.below hb2 K0'.lt).set 0 (.int .i64 (p : Int))).far ⟨w.heap.size + 1, 0, none⟩ (.int .i64 (c : Int)) (by simp)
   have k1 := ((K1'.below hb2 K1'.lt).far ⟨w.heap.size, 0, none⟩ (.int .i64 (p : Int)) (by simp)).set 0 (.int .i64 (c : Int))
   have d0 := k0.cell 0
   have d1 := k1.cell 0
   simp at d0 d1
   simp [Leaves, settle, results, Tryz.results13, go_sem, d0, d1]
   refine ⟨_, _, _, ⟨rfl, rfl, rfl⟩, ?_, ?_⟩
   · rw [hr]; exact ⟨rfl, rfl, rfl⟩
   exact ((HB1.out.trans (hb2.mono HB1.out.size)).setCell (p := ⟨w.heap.size, 0, none⟩) (nlr _) _).setCell (p := ⟨w.heap.size + 1, 0, none⟩) (Nat.le_succ _) _
 rw [hr] at ht
 obtain ⟨v, rfl, hown⟩ := ht
 go_wp2
 refine leaves_cons (f := 33) (args := #[.pointer (some ⟨w.heap.size, 0, none⟩), .pointer (some ⟨w.heap.size + 1, 0, none⟩)]) (by simp) (by simp [go_sem]) ?_
 refine (catch_idle ⟨w.heap.size, 0, none⟩ ⟨w.heap.size + 1, 0, none⟩ _).mono ?_
 rintro e u' w'' ⟨rfl, rfl, rfl⟩
 have k0 := (K0'.set 0 (.int .i64 0)).far ⟨w.heap.size + 1, 0, none⟩ (.int .i64 0) (by simp)
 have k1 := (K1'.far ⟨w.heap.size, 0, none⟩ (.int .i64 0) (by simp)).set 0 (.int .i64 0)
 have d0 := k0.cell 0
 have d1 := k1.cell 0
 simp at d0 d1
 simp [Leaves, settle, results, Tryz.results13, go_sem, d0, d1]
 refine ⟨_, _, _, ⟨rfl, rfl, rfl⟩, ?_, ?_⟩
 · rw [hr]
   simp only [World.size_alloc] at hown
   exact ⟨owns_base (ownsRow_setCell_below (ownsRow_setCell_below hown (by show w.heap.size < _; omega) _) (by show w.heap.size + 1 < _; omega) _) (by omega), rfl, rfl⟩
 exact (HB1.out.setCell (p := ⟨w.heap.size, 0, none⟩) (nlr _) _).setCell (p := ⟨w.heap.size + 1, 0, none⟩) (Nat.le_succ _) _
namespace Kl
theorem tk_of {w : World} {base : Nat} {v : Value} {ts : List Lx.Tok} (h : w.ownsRow base 41 3 v ts.length (toksV ts)) : ∃ ao cap, v = .slice ao ts.length cap ∧ TkIs w ao ts := by
 rcases h.2 with ⟨rfl, hn⟩ | ⟨g, cap, cur, rfl, hb, hg, _, _, _, htake⟩
 · refine ⟨none, 0, by rw [hn], ⟨fun k hk => by omega⟩⟩
 refine ⟨_, cap, rfl, ⟨fun k hk => ⟨g, rfl, (Array.getElem?_eq_some_iff.1 hg).1, ?_⟩⟩⟩
 obtain ⟨q0, q1, q2⟩ := toksV_nth ts k hk
 have e := fun j u (hu : (toksV ts)[j]? = some u) => h.cells (g := g) rfl j u hu
 simp only [Addr.add_lit, Nat.zero_add] at e
 exact ⟨e _ _ q0, e _ _ q1, e _ _ q2⟩
theorem pt_ne (st : Px.St) (h : st.Fit) : 1 ≤ st.pt.length := by
 cases st <;> simp [Px.St.pt]
theorem needed_any (w : World) (ao bo : Option Addr) (n c m d : Nat) (he : EnvQ w) (hp : Mk.Pln w w.heap.size ao n bo m) :
   Calls Tryz.prog 5 #[.agg #[.slice ao n c, .slice bo m d]] w fun e w' => e = .returned (.bool true) ∧ Below w.heap.size w w' := by
 have hb0 : Below w.heap.size w (w.alloc (.cells #[.slice ao n c, .slice bo m d] 27)) := by go_grown
 have HP := hd (hp.mono (w' := w.alloc (.cells #[.slice ao n c, .slice bo m d] 27)) (b' := (w.alloc (.cells #[.slice ao n c, .slice bo m d] 27)).heap.size) (by simp) (fun g off v hg hc => by rw [hb0.cell (p := ⟨g, off, none⟩) hg]; exact hc))
 have HE := hd (he.below hb0)
 have HB0 := hd hb0
 have hsz0 := hb0.size
 clear hp he hb0
 go_enter Tryz.func5, Tryz.ntmps5
 go_wp2_with fail
 generalize w.alloc (.cells #[.slice ao n c, .slice bo m d] 27) = w0 at *
 refine (Mk.kBuild_any HP.out).mono ?_
 rintro e w1 ⟨st, v, hs, rfl, ho, hb⟩
 have HS := hd hs
 have hfit := fit_nodes st hs.fit hs.few
 have hpr := sok_print hs
 have hsz1 := hb.size
 have HB1 : Hid (Below w.heap.size w w1) := HB0.out.trans (hb.mono hsz0)
 have HE1 := hd (HE.out.below hb)
 have N1 : NdIs w1 w0.heap.size v st.nodes := NdIs.of_own ho
 have HPC := hd (cPrint_any w1 st.nodes v (tree_of N1 hfit) HE1.out (by have := hs.few; omega) (fun s' h => by rw [Px.rS_nodes st hs.fit hs.good hs.deep] at h; cases h; exact PS_of st hs.fit hs.good hs.few))
 rw [hpr] at HPC
 obtain ⟨a1, p1, rfl, _⟩ := nd_slice N1
 have HN1 := hd N1
 have HW := hd (Px.st_wid st hs.fit)
 have HTX := hd (sok_texts hs)
 have hfew := hs.few
 clear hs ho hb N1 hfit hpr
 go_wp2_with fail
 refine HPC.out.mono ?_
 rintro e w2 ⟨rfl, hb2⟩
 have HB2 : Hid (Below w.heap.size w w2) := HB1.out.trans (hb2.mono (by omega))
 have hsz2 := hb2.size
 have HE2 := hd (HE1.out.below hb2)
 have HN2 := hd (HN1.out.below hb2)
 clear hb2 HPC
 by_cases hle : (Px.render st.pt).length ≤ 2000
 rotate_left
 · rw [if_neg hle]
   have hwid : 2000 < Px.wid st.nodes := by have := HW.out; omega
   simp only
   go_wp2_with fail
   refine (long_any _ st.nodes _ w2 (by omega) HTX.out HN2.out).mono ?_
   rintro e w3 ⟨rfl, hb3⟩
   have HB3 : Hid (Below w.heap.size w w3) := HB2.out.trans (hb3.mono (by omega))
   clear hb3
   rw [decide_eq_true hwid]
   go_wp2_with fail
   go_ret
   exact ⟨by simp, HB3.out⟩
 rw [if_pos hle]
 have HLE := hd hle
 obtain ⟨ts, hlex, hsame⟩ := Px.lex_text st.pt (st.pt_ok HS.out.fit HS.out.good) hle
 have hlen : ts.length = st.pt.length := by simpa using congrArg List.length hsame
 have hpt := pt_ne st HS.out.fit
 have htl := (Lx.lex_ok hlex).2.1
 have HSM := hd hsame
 obtain ⟨sb, hsb⟩ : ∃ sb : ByteArray, sb = ⟨(Px.render st.pt).toArray⟩ := ⟨_, rfl⟩
 have hsl : sb.data.toList = Px.render st.pt := by rw [hsb]
 have hss : sb.size = (Px.render st.pt).length := by rw [← hsl]; simp
 have HSL := hd hsl
 have HLX : Hid (Lx.lex sb.data.toList = .ok ts) := by show _ = _; rw [hsl]; exact hlex
 have hsz : sb.size ≤ 2000 := by omega
 have htn : ts.length ≤ 2000 := by omega
 have ht1 : 1 ≤ ts.length := by omega
 have hml : sb.size ≤ maxLen := by simp [maxLen]; omega
 simp only
 rw [← hsb]
 clear hle hlex hsame hlen hpt htl hsb hsl hss
 go_wp2_with fail
 refine (cTokens_any sb w2 HE2.out.envp.env hml).mono ?_
 rintro e w3 ⟨v3, n3, c3, rfl, ht3, hb3⟩
 rw [HLX.out] at ht3
 obtain ⟨o3, rfl, rfl⟩ := ht3
 have HB3 : Hid (Below w.heap.size w w3) := HB2.out.trans (hb3.mono (by omega))
 have hsz3 := hb3.size
 have HE3 := hd (HE2.out.below hb3)
 have HN3 := hd (HN2.out.below hb3)
 obtain ⟨ao3, cap3, rfl, htk⟩ := tk_of o3
 obtain ⟨g3, rfl, hg3, _⟩ := htk.cells 0 (by omega)
 have HT3 := hd htk
 have hne0 : ((ts.length : Int) == 0) = false := by rw [beq_eq_false_iff_ne]; omega
 clear o3 hb3 htk
 go_wp2_with fail
 go_loopw [9] (fun i wr => ∃ k : Nat, k ≤ ts.length ∧ i = .int .i64 k ∧ Hid (Below w3.heap.size w3 wr)) (fun i _ => ts.length - (intOf i).toNat)
 case atStart => exact ⟨0, by omega, rfl, Below.refl _ _⟩
 case round =>
  obtain ⟨k, hk, rfl, HWR⟩ := hrel
  have hszr := HWR.out.size
  by_cases hlt : k < ts.length
  · go_wp2_with fail
    refine (open_any (some ⟨g3, 0, none⟩) cap3 ts k wr (by omega) hlt (HT3.out.below HWR.out)).mono ?_
    rintro e w4 ⟨z, rfl, HZ, hb4⟩
    have HW4 : Hid (Below w3.heap.size w3 w4) := HWR.out.trans (hb4.mono hszr)
    have hsz4 := HW4.out.size
    clear hb4
    rcases HZ.out with rfl | ⟨k2, hk2, rfl, ⟨ti, hti, hi1, hi2⟩, ⟨tk, htk, hk1, hk2'⟩⟩
    · go_wp2_with fail
      go_roundw
      case rel => exact ⟨k + 1, by omega, by go_num, HW4⟩
      case measure => simp [intOf]; omega
    obtain ⟨hkl, ek⟩ := List.getElem?_eq_some_iff.1 hti
    obtain ⟨hkl2, ek2⟩ := List.getElem?_eq_some_iff.1 htk
    obtain ⟨g, hg, hgl, p0, p1, p2⟩ := (HT3.out.below HW4.out).cells k hkl
    obtain ⟨g', hg', _, q0, q1, q2⟩ := (HT3.out.below HW4.out).cells k2 hkl2
    have hgg : g3 = g := by
     simp only [Option.some.injEq, Addr.mk.injEq, and_true] at hg
     exact hg
    have hgg' : g3 = g' := by
     simp only [Option.some.injEq, Addr.mk.injEq, and_true] at hg'
     exact hg'
    rw [← hgg] at p2
    rw [← hgg'] at q2
    clear hg hg' hgg hgg' hgl
    rw [ek] at p2
    rw [ek2] at q2
    obtain ⟨l1, l2, l3⟩ := Lx.lex_pos HLX.out
    have hpq : ti.pos < tk.pos := by
     have := List.pairwise_iff_getElem.1 l2 k k2 hkl hkl2 hk2
     rw [ek, ek2] at this
     exact this
    have hqs : tk.pos < sb.size := by
     have := l1 tk (List.mem_of_getElem? htk)
     simpa using this
    have HOT : Hid (∀ st', Px.ParseR (sb.extract 0 ti.pos ++ ⟨#[32]⟩ ++ sb.extract (ti.pos + 1) tk.pos ++ ⟨#[32]⟩ ++ sb.extract (tk.pos + 1) sb.size).data.toList (.ok st') → st'.nodes ≠ st.nodes) :=
     fun st' h => strike_other HS.out sb HSL.out HLX.out HSM.out hk2 hti hi1 hi2 htk hk1 hk2' h
    have HZS := hd (strike_size sb ti.pos tk.pos hpq hqs)
    have HE4 := hd (HE3.out.below HW4.out)
    have HN4 := hd (HN3.out.below HW4.out)
    clear l1 l2 l3 p0 p1 q0 q1 hi1 hi2 hk1 hk2' hti htk ek ek2 HZ
    generalize ti.pos = p at *
    generalize tk.pos = q at *
    have z1 : (0 : Int) ≤ (k : Int) := by omega
    have z2 : (k : Int) < (ts.length : Int) := by omega
    have z3 : (0 : Int) ≤ (k2 : Int) := by omega
    have z4 : (k2 : Int) < (ts.length : Int) := by omega
    go_wp2_with fail
    go_region
    all_goals
     go_wp2_with fail
     have HE4' := hd (HE4.out.below ((Below.refl _ _).drew))
     have HN4' := hd (HN4.out.below ((Below.refl _ _).drew))
     have HW4' : Hid (Below w3.heap.size w3 w4.drew) := HW4.out.drew
     have hsz4' : w3.heap.size ≤ w4.drew.heap.size := HW4'.out.size
     clear HE4 HN4 HW4 hsz4
     generalize w4.drew = w5 at *
     generalize hE : (sb.extract 0 p ++ ⟨#[32]⟩ ++ sb.extract (p + 1) q ++ ⟨#[32]⟩ ++ sb.extract (q + 1) sb.size) = E at *
     clear hE
     have hml2 : E.size ≤ maxLen := Nat.le_trans HZS.out hml
     refine (cParse_any E w5 HE4'.out.envp hml2).mono ?_
     rintro e w6 ⟨v6, n6, c6, rfl, ⟨r6, hr6, ht6⟩, hb6⟩
     have HW6 : Hid (Below w3.heap.size w3 w6) := HW4'.out.trans (hb6.mono hsz4')
     have hsz6 := HW6.out.size
     match r6, hr6, ht6 with
     | .error (pp, cc), hr6, ht6 =>
      obtain ⟨rfl, rfl, rfl⟩ := ht6
      obtain ⟨_, hc⟩ := Px.parse_err hr6
      have hc0 : ((cc : Int) == 0) = false := by rw [beq_eq_false_iff_ne]; omega
      clear hr6 hb6
      go_wp2_with fail
      go_roundw
      case rel => exact ⟨k + 1, by omega, by go_num, HW6⟩
      case measure => simp [intOf]; omega
     | .ok st', hr6, ht6 =>
      obtain ⟨o6, rfl, rfl⟩ := ht6
      have hne := HOT.out st' hr6
      have hl6 := (parsed hr6).2.2.1
      have M6 : NdIs w6 w5.heap.size v6 st'.nodes := NdIs.of_own o6
      have HN6 := hd (HN4'.out.below hb6)
      have HCS := hd (same_not v6 _ st'.nodes st.nodes _ _ w6 (Nat.le_trans hl6 (by decide)) (Nat.le_trans hfew (by decide)) hne M6 HN6.out)
      obtain ⟨a6, p6, rfl, _⟩ := nd_slice M6
      clear hr6 hb6 o6 M6 hne
      go_wp2_with fail
      refine HCS.out.mono ?_
      rintro e w7 ⟨rfl, hb7⟩
      have HW7 : Hid (Below w3.heap.size w3 w7) := HW6.out.trans (hb7.mono hsz6)
      clear hb7 HCS
      go_wp2_with fail
      go_roundw
      case rel => exact ⟨k + 1, by omega, by go_num, HW7⟩
      case measure => simp [intOf]; omega
  go_wp2_with fail
  go_ret
  exact ⟨rfl, HB3.out.trans (HWR.out.mono (by have := HB3.out.size; omega))⟩
end Kl
end Go.Proofs.YtkcakbgcfnhgaaaGreatDoor
