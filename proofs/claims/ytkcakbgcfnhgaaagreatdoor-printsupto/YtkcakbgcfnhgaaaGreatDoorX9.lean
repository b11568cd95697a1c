/- Parts of the proof: Tu Uj Uk Tv Tw Tx Ty -/
import Derived.Test.YtkcakbgcfnhgaaaGreatDoorX8
namespace Go.Proofs.YtkcakbgcfnhgaaaGreatDoor
set_option linter.unusedSimpArgs false
set_option linter.unusedVariables false
set_option maxRecDepth 100000
set_option maxHeartbeats 16000000
open Go.RowKit
namespace Rf
theorem exprText_bin (ao : Option Addr) (cap : Nat) (L : List Px.Nd) (hL : L.length ≤ 16777216) (k : Nat) (a b : Px.E) (h1 : 23 ≤ k) (h2 : k ≤ 36) (p : Nat) (r : List Px.Nd) (w : World) (hdr : L.drop p = (Px.E.bin k a b).nodes ++ r) (hN : NdL w ao L) (hsa : a.tx.1.length ≤ 100000000) (hla : a.tx.2 ≤ 9) (hsb : b.tx.1.length ≤ 100000000) (hlb : b.tx.2 ≤ 9)
   (iha : ∀ w, NdL w ao L → Calls Tryz.prog 102 #[.slice ao L.length cap, .int .i64 ((p : Int) + 1)] w (ExOut w a))
   (ihb : ∀ w, NdL w ao L → Calls Tryz.prog 102 #[.slice ao L.length cap, .int .i64 ((p + 1 + a.size : Nat) : Int)] w (ExOut w b)) :
   Calls Tryz.prog 102 #[.slice ao L.length cap, .int .i64 (p : Int)] w (ExOut w (.bin k a b)) := by
 have hdr' : L.drop p = ⟨k, [], 0, 2⟩ :: (a.nodes ++ (b.nodes ++ r)) := by rw [hdr]; simp [Px.E.nodes, Px.over2]
 have hdr1 : L.drop (p + 1) = a.nodes ++ (b.nodes ++ r) := by rw [← List.drop_drop, hdr']; rfl
 obtain ⟨hp, g, off, rfl, hg, c0, c1, c2, c3⟩ := hN.head hdr'
 simp only at c0 c1 c2 c3
 have hpn : p < 16777216 := by omega
 have hB0 : Below w.heap.size w (w.alloc (.cells #[.int .i64 (k : Int), .string ⟨([] : Lx.Bs).toArray⟩, .int .i64 0, .int .i64 2] 43)) := by go_grown
 have HB0 := hd hB0
 have hs0 := hB0.size
 have HK0 := hd (Blk.new w #[.int .i64 (k : Int), .string ⟨([] : Lx.Bs).toArray⟩, .int .i64 0, .int .i64 2] 43)
 have hl0 := HK0.out.lt
 have HV := hd (iha _ (hN.below hB0))
 have HA : Hid (∀ w, NdL w (some ⟨g, off, none⟩) L → Calls Tryz.prog 62 #[.slice (some ⟨g, off, none⟩) L.length cap, .int .i64 ((p : Int) + 1)] w fun x w' => x = .returned (.int .i64 ((p + 1 + a.size : Nat) : Int)) ∧ Below w.heap.size w w') := fun w h => by
  have := after_e (some ⟨g, off, none⟩) cap L hL a.size a (Nat.le_refl _) (p + 1) (b.nodes ++ r) w hdr1 h
  rw [show ((p + 1 : Nat) : Int) = (p : Int) + 1 by omega] at this
  exact this
 have HIB := hd ihb
 have HN := hd hN
 have HX : Hid ((Px.E.bin k a b).tx = Px.pre2 k a.tx.1 a.tx.2 b.tx.1 b.tx.2) := rfl
 have HSA := hd hsa
 have HSB := hd hsb
 have HLA := hd hla
 have HLB := hd hlb
 have b14 : ((k : Int) == 14) = false := by simp; omega
 have b15 : ((k : Int) == 15) = false := by simp; omega
 have b16 : ((k : Int) == 16) = false := by simp; omega
 have b17 : ((k : Int) == 17) = false := by simp; omega
 have b18 : ((k : Int) == 18) = false := by simp; omega
 have b19 : ((k : Int) == 19) = false := by simp; omega
 have b20 : ((k : Int) == 20) = false := by simp; omega
 have b21 : ((k : Int) == 21) = false := by simp; omega
 have b22 : ((k : Int) == 22) = false := by simp; omega
 clear hdr hdr' hdr1 hN hB0 iha ihb hsa hla hsb hlb
 generalize p + 1 + a.size = q at *
 go_enter Tryz.func102, Tryz.ntmps102
 go_wp2_with fail
 refine HV.out.mono ?_
 rintro y w1 ⟨t, rfl, ht, hb⟩
 have HB1 : Hid (Below w.heap.size w w1) := HB0.out.trans (hb.mono hs0)
 have HK1 := hd (HK0.out.below hb hl0)
 have e0 := HK1.out.cell 0
 simp at e0
 have hl1 := HK1.out.lt
 have hts : t.size ≤ 100000000 := by rw [size_len, ht]; exact HSA.out
 have HT := hd ht
 clear hb ht HB0 HK0 hs0 hl0
 go_wp2_with fail
 refine (signOf_any k w1 h1 h2).mono ?_
 rintro y w2 ⟨sg, rfl, hsg, hsgs, hb⟩
 have HB2 : Hid (Below w.heap.size w w2) := HB1.out.trans (hb.mono HB1.out.size)
 have HSG := hd hsg
 have how : (Px.sgnT k).2 ≤ 7 := by rcases Px.sgn_cases h1 h2 with rfl | rfl | rfl | rfl | rfl | rfl | rfl | rfl | rfl | rfl | rfl | rfl | rfl | rfl <;> decide
 have HOW : Hid (Px.pre2 k a.tx.1 a.tx.2 b.tx.1 b.tx.2 = (Px.brk a.tx.1 a.tx.2 (if (Px.sgnT k).2 = 4 then 5 else (Px.sgnT k).2) ++ [32] ++ (Px.sgnT k).1 ++ [32] ++ Px.brk b.tx.1 b.tx.2 ((Px.sgnT k).2 + 1), (Px.sgnT k).2)) := rfl
 clear hb hsg
 generalize (Px.sgnT k).2 = ow at *
 go_wp2_with fail
 refine (HA.out w2 (HN.out.below HB2.out)).mono ?_
 rintro y w3 ⟨rfl, hb⟩
 have HB3 : Hid (Below w.heap.size w w3) := HB2.out.trans (hb.mono HB2.out.size)
 clear hb
 go_wp2_with fail
 refine (HIB.out w3 (HN.out.below HB3.out)).mono ?_
 rintro y w4 ⟨u, rfl, hu, hb⟩
 have HB4 : Hid (Below w.heap.size w w4) := HB3.out.trans (hb.mono HB3.out.size)
 have hus : u.size ≤ 100000000 := by rw [size_len, hu]; exact HSB.out
 have HU := hd hu
 clear hb hu
 have HI2 : Hid (∀ w, Calls Tryz.prog 167 #[.string u, .int .i64 (b.tx.2 : Int), .int .i64 ((ow : Int) + 1)] w fun e w' => (∃ t, e = .returned (.string t) ∧ t.data.toList = Px.brk u.data.toList b.tx.2 (ow + 1)) ∧ w' = w) := fun w => by
  have := inside_any u b.tx.2 (ow + 1) w (by have := HLB.out; omega) (by omega) (by omega)
  rw [show ((ow + 1 : Nat) : Int) = (ow : Int) + 1 by omega] at this
  exact this
 by_cases h4 : ow = 4
 · have HI1 : Hid (∀ w, Calls Tryz.prog 167 #[.string t, .int .i64 (a.tx.2 : Int), .int .i64 5] w fun e w' => (∃ t', e = .returned (.string t') ∧ t'.data.toList = Px.brk t.data.toList a.tx.2 5) ∧ w' = w) := fun w => inside_any t a.tx.2 5 w (by have := HLA.out; omega) (by omega) (by omega)
   have q1 : ((ow : Int) == 4) = true := by simp; omega
   have H4 := hd h4
   clear h4
   go_wp2_with fail
   refine (HI1.out _).mono ?_
   rintro y w5 ⟨⟨x1, rfl, hx1⟩, rfl⟩
   have hx1s : x1.size ≤ 100000002 := by rw [size_len, hx1, HT.out]; have := brk_size a.tx.1 a.tx.2 5; have := HSA.out; omega
   have s1 : (x1 ++ ⟨#[32]⟩ : ByteArray).size ≤ 100000003 := by rw [ByteArray.size_append]; show x1.size + 1 ≤ _; omega
   have s2 : (x1 ++ ⟨#[32]⟩ ++ sg : ByteArray).size ≤ 100000006 := by rw [ByteArray.size_append]; omega
   have s3 : (x1 ++ ⟨#[32]⟩ ++ sg ++ ⟨#[32]⟩ : ByteArray).size ≤ 100000007 := by rw [ByteArray.size_append]; show (x1 ++ ⟨#[32]⟩ ++ sg : ByteArray).size + 1 ≤ _; omega
   have HX1 := hd hx1
   clear hx1
   go_wp2_with fail
   refine (HI2.out _).mono ?_
   rintro y w6 ⟨⟨x2, rfl, hx2⟩, rfl⟩
   have hx2s : x2.size ≤ 100000002 := by rw [size_len, hx2, HU.out]; have := brk_size b.tx.1 b.tx.2 (ow + 1); have := HSB.out; omega
   have HX2 := hd hx2
   clear hx2
   go_wp2_with fail
   go_ret2
   refine ⟨_, by rw [HX.out, HOW.out]; rfl, ?_, HB4.out⟩
   rw [HX.out, HOW.out, if_pos H4.out]
   simp only [app_l, HX1.out, HX2.out, HT.out, HU.out, HSG.out]
 · have HI1 : Hid (∀ w, Calls Tryz.prog 167 #[.string t, .int .i64 (a.tx.2 : Int), .int .i64 (ow : Int)] w fun e w' => (∃ t', e = .returned (.string t') ∧ t'.data.toList = Px.brk t.data.toList a.tx.2 ow) ∧ w' = w) := fun w => inside_any t a.tx.2 ow w (by have := HLA.out; omega) (by omega) (by omega)
   have q1 : ((ow : Int) == 4) = false := by simp; omega
   have H4 := hd h4
   clear h4
   go_wp2_with fail
   refine (HI1.out _).mono ?_
   rintro y w5 ⟨⟨x1, rfl, hx1⟩, rfl⟩
   have hx1s : x1.size ≤ 100000002 := by rw [size_len, hx1, HT.out]; have := brk_size a.tx.1 a.tx.2 ow; have := HSA.out; omega
   have s1 : (x1 ++ ⟨#[32]⟩ : ByteArray).size ≤ 100000003 := by rw [ByteArray.size_append]; show x1.size + 1 ≤ _; omega
   have s2 : (x1 ++ ⟨#[32]⟩ ++ sg : ByteArray).size ≤ 100000006 := by rw [ByteArray.size_append]; omega
   have s3 : (x1 ++ ⟨#[32]⟩ ++ sg ++ ⟨#[32]⟩ : ByteArray).size ≤ 100000007 := by rw [ByteArray.size_append]; show (x1 ++ ⟨#[32]⟩ ++ sg : ByteArray).size + 1 ≤ _; omega
   have HX1 := hd hx1
   clear hx1
   go_wp2_with fail
   refine (HI2.out _).mono ?_
   rintro y w6 ⟨⟨x2, rfl, hx2⟩, rfl⟩
   have hx2s : x2.size ≤ 100000002 := by rw [size_len, hx2, HU.out]; have := brk_size b.tx.1 b.tx.2 (ow + 1); have := HSB.out; omega
   have HX2 := hd hx2
   clear hx2
   go_wp2_with fail
   go_ret2
   refine ⟨_, by rw [HX.out, HOW.out]; rfl, ?_, HB4.out⟩
   rw [HX.out, HOW.out, if_neg H4.out]
   simp only [app_l, HX1.out, HX2.out, HT.out, HU.out, HSG.out]
theorem one_k {k : Nat} (h1 : 19 ≤ k) (h2 : k ≤ 22) : k = 19 ∨ k = 20 ∨ k = 21 ∨ k = 22 := by omega
theorem exprText_any (ao : Option Addr) (cap : Nat) (L : List Px.Nd) (hL : L.length ≤ 16777216) (hwid : Px.wid L ≤ 100000000) (N f : Nat) : ∀ (e : Px.E), Px.EW N f e → ∀ (p : Nat) (r : List Px.Nd) (w : World), L.drop p = e.nodes ++ r → NdL w ao L →
   Calls Tryz.prog 102 #[.slice ao L.length cap, .int .i64 (p : Int)] w (ExOut w e) := by
 intro e
 induction e with
 | null => intro h p r w hdr hN; exact exprText_lit ao cap L hL .null 14 [] 0 (by omega) (by omega) (by simp) p r w hdr hN rfl
 | bool b => intro h p r w hdr hN; exact exprText_lit ao cap L hL (.bool b) 15 [] (if b = true then 1 else 0) (by omega) (by cases b <;> decide) (by simp) p r w hdr hN (by cases b <;> rfl)
 | num z =>
  intro h p r w hdr hN
  have hz := h.ok
  simp only [Px.E.ok] at hz
  exact exprText_lit ao cap L hL (.num z) 16 [] z (by omega) hz (by simp) p r w hdr hN (by simp [Px.E.tx, Px.atomT])
 | str s =>
  intro h p r w hdr hN
  have := Px.wid_in hdr
  simp only [Px.E.nodes, Px.leaf, Px.wid] at this
  exact exprText_lit ao cap L hL (.str s) 17 s 0 (by omega) (by omega) (by omega) p r w hdr hN (by simp [Px.E.tx, Px.atomT])
 | nm s =>
  intro h p r w hdr hN
  exact exprText_nm ao cap L hL s h.good p r w hdr hN
 | un k e ih =>
  intro h p r w hdr hN
  have hk := h.ok
  have he := h.un
  have hl := Px.tx_len he
  have hdr1 : L.drop (p + 1) = e.nodes ++ r := by rw [← List.drop_drop, hdr]; rfl
  have hw := Px.wid_in hdr1
  refine exprText_un ao cap L hL k e (one_k hk.1 hk.2.1) p r w hdr hN (by omega) hl.2.1 hl.2.2 fun w hN => ?_
  have := ih he (p + 1) r w hdr1 hN
  rw [show ((p + 1 : Nat) : Int) = (p : Int) + 1 by omega] at this
  exact this
 | bin k a b iha ihb =>
  intro h p r w hdr hN
  have hk := h.ok
  have ha := h.left
  have hb := h.right
  have la := Px.tx_len ha
  have lb := Px.tx_len hb
  have hdr1 : L.drop (p + 1) = a.nodes ++ (b.nodes ++ r) := by rw [← List.drop_drop, hdr]; simp [Px.E.nodes, Px.over2]
  have hdr2 := Px.drop_app hdr1
  rw [Px.E.nodes_length] at hdr2
  have wa := Px.wid_in hdr1
  have wb := Px.wid_in hdr2
  refine exprText_bin ao cap L hL k a b hk.1 hk.2.1 p r w hdr hN (by omega) la.2.1 (by omega) lb.2.1 (fun w hN => ?_) (fun w hN => ?_)
  · have := iha ha (p + 1) (b.nodes ++ r) w hdr1 hN
    rw [show ((p + 1 : Nat) : Int) = (p : Int) + 1 by omega] at this
    exact this
  · exact ihb hb (p + 1 + a.size) r w hdr2 hN
end Rf
section
namespace Px
open Lx (Bs Tok)
inductive Part
 | col (c : Bs × Nat)
 | row (a : List E)
 | set (x : Bs × E)
 | star
 | ex (e : E)
 | whr (e : E)
 | ord (e : E) (b : Bool)
 | lim (n : Nat)
def typeB (k : Nat) : Bs := if k % 4 = 1 then kINTEGER else if k % 4 = 2 then kTEXT else kBOOLEAN
namespace Part
def nodes : Part → List Nd
 | col c => [colN c]
 | row a => rowN a
 | set x => setN x
 | star => [⟨10, [], 0, 0⟩]
 | ex e => e.nodes
 | whr e => ⟨11, [], 0, 1⟩ :: e.nodes
 | ord e b => ⟨12, [], if b = true then 1 else 0, 1⟩ :: e.nodes
 | lim n => [⟨13, [], n, 0⟩]
def wf (N : Nat) : Part → Prop
 | col c => isName c.1 = true ∧ 1 ≤ c.2 ∧ c.2 ≤ 7 ∧ c.2 ≠ 4
 | row a => RowW N a
 | set x => isName x.1 = true ∧ EW N 40 x.2
 | star => True
 | ex e => EW N 40 e
 | whr e => EW N 40 e
 | ord e _ => EW N 40 e
 | lim n => n ≤ 1000000000
def tx : Part → Bs
 | col c => nameT c.1 ++ [32] ++ typeB c.2 ++ (if 4 < c.2 then [32] ++ kNOT ++ [32] ++ kNULL else [])
 | row a => 40 :: (joinB (a.map fun e => e.tx.1) ++ [41])
 | set x => nameT x.1 ++ [32, 61, 32] ++ x.2.tx.1
 | star => [42]
 | ex e => e.tx.1
 | whr e => [32] ++ kWHERE ++ [32] ++ e.tx.1
 | ord e b => e.tx.1 ++ (if b = true then [32] ++ kDESC else [])
 | lim n => [32] ++ kLIMIT ++ [32] ++ dec n
def rk : Part → Nat
 | whr _ => 2
 | ord _ _ => 3
 | lim _ => 4
 | _ => 1
def kidsL : Part → List E
 | row a => a
 | set x => [x.2]
 | ex e => e.kidsL
 | whr e => [e]
 | ord e _ => [e]
 | _ => []
end Part
theorem ext40 {N : Nat} {e : E} (h : EW N 40 e) (r : List Nd) : ext 40 (e.nodes ++ r) = (e.tx, r) := ext_tx e 40 r (E.kd_of e h.ok) h.dep
theorem part_split {N : Nat} {p : Part} (h : p.wf N) : ∃ x, p.nodes = x :: p.kidsL.flatMap E.nodes ∧ x.kids = (p.kidsL.length : Int) ∧ rank x.kind = p.rk := by
 cases p with
 | col c => exact ⟨colN c, rfl, rfl, rfl⟩
 | row a => exact ⟨⟨5, [], 0, (a.length : Int)⟩, rfl, rfl, rfl⟩
 | set x => exact ⟨⟨8, x.1, 0, 1⟩, by simp [Part.nodes, setN, Part.kidsL], rfl, rfl⟩
 | star => exact ⟨_, rfl, rfl, rfl⟩
 | ex e =>
  obtain ⟨x, h1, h2, _⟩ := e_split e
  obtain ⟨y, q, e1, h3, h4⟩ := e_head e N h.ok []
  rw [List.append_nil, h1] at e1
  cases e1
  exact ⟨x, h1, h2, rank_1 (by omega) (by omega) (by omega)⟩
 | whr e => exact ⟨⟨11, [], 0, 1⟩, by simp [Part.nodes, Part.kidsL], rfl, rfl⟩
 | ord e b => exact ⟨⟨12, [], if b = true then 1 else 0, 1⟩, by simp [Part.nodes, Part.kidsL], rfl, rfl⟩
 | lim n => exact ⟨⟨13, [], n, 0⟩, rfl, rfl, rfl⟩
theorem part_tx {N : Nat} {p : Part} (h : p.wf N) (r : List Nd) : partT (p.nodes ++ r) = (p.tx, r) := by
 cases p with
 | col c =>
  obtain ⟨n, k⟩ := c
  obtain ⟨_, h1, h2, h3⟩ := h
  simp only at h1 h2 h3
  have hk : k = 1 ∨ k = 2 ∨ k = 3 ∨ k = 5 ∨ k = 6 ∨ k = 7 := by omega
  rcases hk with rfl | rfl | rfl | rfl | rfl | rfl <;> simp [Part.nodes, colN, partT, Part.tx, typeB]
 | row a =>
  have hx := exts_ok a r h.2
  have he : (a.map fun e => render e.pt) = a.map fun e => e.tx.1 := List.map_congr_left fun e m => by rw [tx_is (h.2 e m)]
  rw [he] at hx
  have hk : ((a.length : Nat) : Int).toNat = a.length := by omega
  show partT (⟨5, [], 0, (a.length : Int)⟩ :: (a.flatMap E.nodes ++ r)) = _
  simp only [partT]
  rw [if_neg (by omega), if_pos trivial, hk, hx]
  rfl
 | set x =>
  show partT (⟨8, x.1, 0, 1⟩ :: (x.2.nodes ++ r)) = _
  simp only [partT]
  rw [if_neg (by omega), if_neg (by omega), if_pos trivial, ext40 h.2]
  rfl
 | star => rfl
 | ex e =>
  obtain ⟨y, q, e1, h1, h2⟩ := e_head e N h.ok r
  have hx := ext40 h r
  show partT (e.nodes ++ r) = _
  rw [e1] at hx ⊢
  simp only [partT]
  rw [if_neg (by omega), if_neg (by omega), if_neg (by omega), if_neg (by omega), if_neg (by omega), if_neg (by omega), if_neg (by omega), hx]
  rfl
 | whr e =>
  show partT (⟨11, [], 0, 1⟩ :: (e.nodes ++ r)) = _
  simp only [partT]
  rw [if_neg (by omega), if_neg (by omega), if_neg (by omega), if_neg (by omega), if_pos trivial, ext40 h]
  rfl
 | ord e b =>
  show partT (⟨12, [], if b = true then 1 else 0, 1⟩ :: (e.nodes ++ r)) = _
  simp only [partT]
  rw [if_neg (by omega), if_neg (by omega), if_neg (by omega), if_neg (by omega), if_neg (by omega), if_pos trivial, ext40 h]
  cases b <;> simp [Part.tx]
 | lim n => rfl
theorem tx_len2 {N f : Nat} {e : E} (h : EW N f e) : e.tx.1.length + 6 ≤ wid e.nodes := by
 have h1 := e_widN e h.ok
 have h2 := render_pls e.pt
 rw [tx_is h]
 simp only; omega
theorem joinB_len : ∀ (l : List Bs), (joinB l).length ≤ (l.map fun s => s.length + 2).sum
 | [] => by simp [joinB]
 | [a] => by simp [joinB]
 | a :: b :: r => by
  have := joinB_len (b :: r)
  simp only [joinB, List.length_append, List.length_cons, List.length_nil, List.map_cons, List.sum_cons] at this ⊢
  omega
theorem wid_flat : ∀ (a : List E) {N : Nat}, (∀ e ∈ a, EW N 40 e) → ((a.map fun e => e.tx.1).map fun s => s.length + 2).sum ≤ wid (a.flatMap E.nodes)
 | [], _, _ => by simp [wid]
 | e :: a, N, h => by
  have h1 := tx_len2 (h e (by simp))
  have h2 := wid_flat a (N := N) (fun x hx => h x (by simp [hx]))
  simp only [List.map_cons, List.sum_cons, List.flatMap_cons, wid_app]
  omega
theorem part_wid {N : Nat} {p : Part} (h : p.wf N) : p.tx.length + 2 ≤ wid p.nodes ∧ 40 ≤ wid p.nodes := by
 have l1 : kNOT.length = 3 := rfl
 have l2 : kNULL.length = 4 := rfl
 have l3 : kWHERE.length = 5 := rfl
 have l4 : kDESC.length = 4 := rfl
 have l5 : kLIMIT.length = 5 := rfl
 cases p with
 | col c =>
  have h1 := name_le c.1
  have h2 : (typeB c.2).length ≤ 7 := by unfold typeB; repeat' split
                                         all_goals decide
  simp only [Part.tx, Part.nodes, colN, wid, List.length_append, List.length_cons, List.length_nil]
  split <;> simp only [List.length_append, List.length_cons, List.length_nil] <;> omega
 | row a =>
  have h1 := joinB_len (a.map fun e => e.tx.1)
  have h2 := wid_flat a h.2
  simp only [Part.tx, Part.nodes, rowN, wid, List.length_append, List.length_cons, List.length_nil]
  omega
 | set x =>
  have h1 := name_le x.1
  have h2 := tx_len2 h.2
  simp only [Part.tx, Part.nodes, setN, wid, List.length_append, List.length_cons, List.length_nil]
  omega
 | star => exact ⟨by decide, by decide⟩
 | ex e =>
  have h2 := tx_len2 h
  obtain ⟨x, h1, _⟩ := e_split e
  refine ⟨by simp only [Part.tx, Part.nodes]; omega, ?_⟩
  show 40 ≤ wid e.nodes
  rw [h1]
  simp only [wid]; omega
 | whr e =>
  have h2 := tx_len2 h
  simp only [Part.tx, Part.nodes, wid, List.length_append, List.length_cons, List.length_nil]
  omega
 | ord e b =>
  have h2 := tx_len2 h
  simp only [Part.tx, Part.nodes, wid, List.length_append, List.length_cons, List.length_nil]
  split <;> simp only [List.length_append, List.length_cons, List.length_nil] <;> omega
 | lim n =>
  have h3 : (dec (n : Int)).length ≤ 19 := by
   unfold dec
   rw [if_neg (by omega)]
   simp only [Part.wf] at h
   exact decF_len 20 _ 19 (by omega) (by omega)
  simp only [Part.tx, Part.nodes, wid, List.length_append, List.length_cons, List.length_nil]
  omega
def gathP (g : Gath) (ps : List Part) : Gath := ps.foldl (fun g p => match p.rk with
 | 1 => { g with things := (if g.things = [] then [] else g.things ++ [44, 32]) ++ p.tx }
 | 2 => { g with where_ := p.tx }
 | 3 => { g with orders := (if g.orders = [] then [32] ++ kORDER ++ [32] ++ kBY ++ [32] else g.orders ++ [44, 32]) ++ p.tx }
 | _ => { g with limit := p.tx }) g
theorem gath_parts {N : Nat} : ∀ (ps : List Part) (g : Gath), (∀ p ∈ ps, p.wf N) → gath ps.length g (ps.flatMap Part.nodes) = gathP g ps
 | [], g, _ => rfl
 | p :: ps, g, h => by
  have hp := h p (by simp)
  have h1 := part_tx hp (ps.flatMap Part.nodes)
  obtain ⟨x, hx, _, hr⟩ := part_split hp
  rw [List.flatMap_cons]
  rw [hx, List.cons_append] at h1 ⊢
  simp only [List.length_cons, gath]
  rw [h1]
  simp only
  rw [gath_parts ps _ (fun q hq => h q (by simp [hq]))]
  simp only [gathP, List.foldl_cons]
  congr 1
  unfold gath1
  rw [hr]
  cases p <;> rfl
theorem gathP_snoc (g : Gath) (ps : List Part) (p : Part) : gathP g (ps ++ [p]) = gathP (gathP g ps) [p] := by
 simp [gathP]
def St.parts : St → List Part
 | .create _ c => c.map .col
 | .drop _ => []
 | .insert _ r => r.map .row
 | .delete _ w => w.toList.map .whr
 | .update _ s w => s.map .set ++ w.toList.map .whr
 | .select i _ w o l => i.map (fun x => match x with | none => .star | some e => .ex e) ++ w.toList.map .whr ++ o.map (fun x => .ord x.1 x.2) ++ l.toList.map .lim
def St.kd : St → Nat
 | .create _ _ => 1
 | .drop _ => 3
 | .insert _ _ => 4
 | .delete _ _ => 6
 | .update _ _ _ => 7
 | .select _ _ _ _ _ => 9
def St.tab : St → Bs
 | .create t _ => t
 | .drop t => t
 | .insert t _ => t
 | .delete t _ => t
 | .update t _ _ => t
 | .select _ t _ _ _ => t
theorem where_parts (w : Option E) : (w.toList.map Part.whr).flatMap Part.nodes = whereN w := by
 cases w <;> simp [Part.nodes, whereN, over1]
theorem lim_parts (w : Option Nat) : (w.toList.map Part.lim).flatMap Part.nodes = limN w := by
 cases w <;> simp [Part.nodes, limN]
theorem one_len {α : Type} (w : Option α) : w.toList.length = one? w := by cases w <;> rfl
theorem st_nodes (s : St) : s.nodes = ⟨s.kd, s.tab, 0, (s.parts.length : Int)⟩ :: s.parts.flatMap Part.nodes := by
 cases s with
 | create t c => simp [St.nodes, St.kd, St.tab, St.parts, List.flatMap_map, Part.nodes, List.flatMap_singleton']; induction c with
  | nil => rfl
  | cons x c ih => simp [List.flatMap_cons, ih]
 | drop t => rfl
 | insert t r => simp [St.nodes, St.kd, St.tab, St.parts, List.flatMap_map, Part.nodes]
 | delete t w => simp only [St.nodes, St.kd, St.tab, St.parts, where_parts, List.length_map, one_len]; rfl
 | update t s w =>
  have hs : (s.map Part.set).flatMap Part.nodes = s.flatMap setN := by
   rw [List.flatMap_map]
   rfl
  simp only [St.nodes, St.kd, St.tab, St.parts, List.flatMap_append, hs, where_parts, List.length_append, List.length_map, one_len]
  simp
 | select i t w o l =>
  have hi : (i.map (fun x => match x with | none => Part.star | some e => Part.ex e)).flatMap Part.nodes = i.flatMap itemN := by
   rw [List.flatMap_map]
   congr 1
   funext x
   cases x <;> rfl
  have ho : (o.map (fun x => Part.ord x.1 x.2)).flatMap Part.nodes = o.flatMap orderN := by
   rw [List.flatMap_map]
   rfl
  simp only [St.nodes, St.kd, St.tab, St.parts, List.flatMap_append, hi, ho, where_parts, lim_parts, List.length_append, List.length_map, one_len]
  simp
theorem st_parts {N : Nat} {s : St} (h : Wf N s) : isName s.tab = true ∧ ∀ p ∈ s.parts, p.wf N := by
 have he := h.exprs
 have hp := h.parts
 cases s with
 | create t c =>
  obtain ⟨ht, _, _, h3⟩ := hp
  refine ⟨ht, fun p hp => ?_⟩
  obtain ⟨x, hx, rfl⟩ := List.mem_map.1 hp
  exact ⟨(h3 x hx).1, (h3 x hx).2⟩
 | drop t => exact ⟨hp, fun p hp => by cases hp⟩
 | insert t r =>
  obtain ⟨ht, _, h3⟩ := hp
  refine ⟨ht, fun p hp => ?_⟩
  obtain ⟨x, hx, rfl⟩ := List.mem_map.1 hp
  exact ⟨h3 x hx, fun e h => he e (List.mem_flatten.2 ⟨x, hx, h⟩)⟩
 | delete t w =>
  refine ⟨hp, fun p hp => ?_⟩
  obtain ⟨x, hx, rfl⟩ := List.mem_map.1 hp
  exact he x hx
 | update t s w =>
  obtain ⟨ht, _, h3⟩ := hp
  refine ⟨ht, fun p hp => ?_⟩
  simp only [St.parts, List.mem_append] at hp
  rcases hp with hp | hp
  · obtain ⟨x, hx, rfl⟩ := List.mem_map.1 hp
    exact ⟨h3 x hx, he _ (by simp only [St.exprs, List.mem_append, List.mem_map]; exact .inl ⟨x, hx, rfl⟩)⟩
  · obtain ⟨x, hx, rfl⟩ := List.mem_map.1 hp
    exact he x (by simp only [St.exprs, List.mem_append]; exact .inr hx)
 | select i t w o l =>
  obtain ⟨ht, _, h3⟩ := hp
  refine ⟨ht, fun p hp => ?_⟩
  simp only [St.parts, List.mem_append] at hp
  rcases hp with ((hp | hp) | hp) | hp
  · obtain ⟨x, hx, rfl⟩ := List.mem_map.1 hp
    cases x with
    | none => trivial
    | some e => exact he e (by simp only [St.exprs, List.mem_append, List.mem_filterMap, id]; exact .inl (.inl ⟨some e, hx, rfl⟩))
  · obtain ⟨x, hx, rfl⟩ := List.mem_map.1 hp
    exact he x (by simp only [St.exprs, List.mem_append]; exact .inl (.inr hx))
  · obtain ⟨x, hx, rfl⟩ := List.mem_map.1 hp
    exact he _ (by simp only [St.exprs, List.mem_append, List.mem_map]; exact .inr ⟨x, hx, rfl⟩)
  · obtain ⟨x, hx, rfl⟩ := List.mem_map.1 hp
    exact h3 x (by cases l with | none => cases hx | some y => simp at hx; rw [hx])
end Px
end
section
namespace Px
open Lx (Bs Tok)
def g0 : Gath := ⟨[], [], [], []⟩
def txtS (k : Nat) (t : Bs) (g : Gath) : Bs :=
 if k = 1 then kCREATE ++ [32] ++ kTABLE ++ [32] ++ nameT t ++ [32, 40] ++ g.things ++ [41]
 else if k = 3 then kDROP ++ [32] ++ kTABLE ++ [32] ++ nameT t
 else if k = 4 then kINSERT ++ [32] ++ kINTO ++ [32] ++ nameT t ++ [32] ++ kVALUES ++ [32] ++ g.things
 else if k = 6 then kDELETE ++ [32] ++ kFROM ++ [32] ++ nameT t ++ g.where_
 else if k = 7 then kUPDATE ++ [32] ++ nameT t ++ [32] ++ kSET ++ [32] ++ g.things ++ g.where_
 else kSELECT ++ [32] ++ g.things ++ [32] ++ kFROM ++ [32] ++ nameT t ++ g.where_ ++ g.orders ++ g.limit
theorem kd_cases (s : St) : s.kd = 1 ∨ s.kd = 3 ∨ s.kd = 4 ∨ s.kd = 6 ∨ s.kd = 7 ∨ s.kd = 9 := by cases s <;> simp [St.kd]
theorem st_text {N : Nat} {s : St} (h : Wf N s) : text s.nodes = txtS s.kd s.tab (gathP g0 s.parts) := by
 have hp := (st_parts h).2
 have hg := gath_parts s.parts g0 hp
 rw [st_nodes]
 have hk : ((s.parts.length : Nat) : Int).toNat = s.parts.length := by omega
 simp only [text]
 rw [hk]
 unfold g0 at hg ⊢
 rw [hg]
 unfold txtS
 rcases kd_cases s with h | h | h | h | h | h <;> rw [h] <;> rfl
def gsz (g : Gath) : Nat := g.things.length + g.where_.length + g.orders.length + g.limit.length
theorem g1_things (g : Gath) {p : Part} (h : p.rk = 1) : gathP g [p] = { g with things := (if g.things = [] then [] else g.things ++ [44, 32]) ++ p.tx } := by simp [gathP, h]
theorem g1_where (g : Gath) {p : Part} (h : p.rk = 2) : gathP g [p] = { g with where_ := p.tx } := by simp [gathP, h]
theorem g1_orders (g : Gath) {p : Part} (h : p.rk = 3) : gathP g [p] = { g with orders := (if g.orders = [] then [32] ++ kORDER ++ [32] ++ kBY ++ [32] else g.orders ++ [44, 32]) ++ p.tx } := by simp [gathP, h]
theorem g1_limit (g : Gath) {p : Part} (h : p.rk = 4) : gathP g [p] = { g with limit := p.tx } := by simp [gathP, h]
theorem rk_cases (p : Part) : p.rk = 1 ∨ p.rk = 2 ∨ p.rk = 3 ∨ p.rk = 4 := by cases p <;> simp [Part.rk]
theorem g1_len {N : Nat} (g : Gath) {p : Part} (h : p.wf N) : gsz (gathP g [p]) ≤ gsz g + 2 * wid p.nodes := by
 have := part_wid h
 have l1 : kORDER.length = 5 := rfl
 have l2 : kBY.length = 2 := rfl
 rcases rk_cases p with hr | hr | hr | hr
 · rw [g1_things g hr]; simp only [gsz, List.length_append]; split <;> simp only [List.length_append, List.length_nil, List.length_cons] <;> omega
 · rw [g1_where g hr]; simp only [gsz]; omega
 · rw [g1_orders g hr]; simp only [gsz, List.length_append]; split <;> simp only [List.length_append, List.length_nil, List.length_cons] <;> omega
 · rw [g1_limit g hr]; simp only [gsz]; omega
theorem gath_len {N : Nat} (ps : List Part) (h : ∀ p ∈ ps, p.wf N) : ∀ k, k ≤ ps.length → gsz (gathP g0 (ps.take k)) ≤ 2 * wid ((ps.take k).flatMap Part.nodes) := by
 intro k
 induction k with
 | zero => intro _; simp [gathP, g0, gsz]
 | succ k ih =>
  intro hk
  have i := ih (by omega)
  have hlt : k < ps.length := by omega
  rw [List.take_succ_eq_append_getElem hlt, gathP_snoc, List.flatMap_append, wid_app]
  have := g1_len (gathP g0 (ps.take k)) (h ps[k] (List.getElem_mem hlt))
  simp only [List.flatMap_cons, List.flatMap_nil, List.append_nil]
  omega
theorem gath_le {N : Nat} (ps : List Part) (h : ∀ p ∈ ps, p.wf N) (k : Nat) (hk : k ≤ ps.length) : gsz (gathP g0 (ps.take k)) ≤ 2 * wid (ps.flatMap Part.nodes) := by
 have h1 := gath_len ps h k hk
 have h2 : wid (ps.flatMap Part.nodes) = wid ((ps.take k).flatMap Part.nodes) + wid ((ps.drop k).flatMap Part.nodes) := by
  rw [← wid_app, ← List.flatMap_append, List.take_append_drop]
 omega
def psz (ps : List Part) : Nat := (ps.flatMap Part.nodes).length
theorem psz_succ (ps : List Part) (k : Nat) (h : k < ps.length) : psz (ps.take (k + 1)) = psz (ps.take k) + ps[k].nodes.length := by
 unfold psz
 rw [List.take_succ_eq_append_getElem h, List.flatMap_append, List.length_append]
 simp
theorem parts_at {l : List Nd} {x : Nd} {ps : List Part} (h : l = x :: ps.flatMap Part.nodes) (k : Nat) (hk : k < ps.length) : l.drop (1 + psz (ps.take k)) = ps[k].nodes ++ (ps.drop (k + 1)).flatMap Part.nodes := by
 have e1 : ps.flatMap Part.nodes = (ps.take k).flatMap Part.nodes ++ (ps.drop k).flatMap Part.nodes := by rw [← List.flatMap_append, List.take_append_drop]
 rw [h, Nat.add_comm, List.drop_succ_cons, e1]
 unfold psz
 rw [List.drop_left, List.drop_eq_getElem_cons hk, List.flatMap_cons]
theorem kids_len : ∀ (a : List E), (a.flatMap E.nodes).length = sizes a
 | [] => rfl
 | e :: a => by
  have := kids_len a
  simp only [List.flatMap_cons, List.length_append, E.nodes_length, sizes, List.map_cons, List.sum_cons] at this ⊢
  omega
theorem joinB_snoc : ∀ (l : List Bs) (x : Bs), l ≠ [] → joinB (l ++ [x]) = joinB l ++ [44, 32] ++ x
 | [], x, h => absurd rfl h
 | [a], x, _ => by simp [joinB]
 | a :: b :: r, x, _ => by
  have := joinB_snoc (b :: r) x (by simp)
  simp only [List.cons_append, joinB] at this ⊢
  rw [this]
  simp
theorem join_take (a : List E) (k : Nat) (h : k < a.length) : joinB ((a.take (k + 1)).map fun e => e.tx.1) = (if k = 0 then [] else joinB ((a.take k).map fun e => e.tx.1) ++ [44, 32]) ++ a[k].tx.1 := by
 rw [List.take_succ_eq_append_getElem h, List.map_append]
 by_cases hk : k = 0
 · subst hk; simp [joinB]
 · rw [if_neg hk]
   exact joinB_snoc _ _ (by intro e; have h2 := congrArg List.length e; rw [List.length_map, List.length_take, List.length_nil] at h2; omega)
theorem join_le {N : Nat} (a : List E) (ha : ∀ e ∈ a, EW N 40 e) (k : Nat) : (joinB ((a.take k).map fun e => e.tx.1)).length ≤ wid (a.flatMap E.nodes) := by
 have h1 := joinB_len ((a.take k).map fun e => e.tx.1)
 have h2 := wid_flat (a.take k) (N := N) (fun e he => ha e (List.mem_of_mem_take he))
 have h3 : wid (a.flatMap E.nodes) = wid ((a.take k).flatMap E.nodes) + wid ((a.drop k).flatMap E.nodes) := by
  rw [← wid_app, ← List.flatMap_append, List.take_append_drop]
 omega
theorem sizes_len (a : List E) : a.length ≤ sizes a := by
 induction a with
 | nil => simp [sizes]
 | cons e a ih =>
  have := e.size_pos
  simp only [sizes, List.map_cons, List.sum_cons, List.length_cons] at ih ⊢
  omega
theorem sizes_succ (a : List E) (k : Nat) (h : k < a.length) : sizes (a.take (k + 1)) = sizes (a.take k) + a[k].size := by
 unfold sizes
 rw [List.take_succ_eq_append_getElem h, List.map_append, List.sum_append]
 simp
end Px
end
namespace Rf
theorem after_node (ao : Option Addr) (cap : Nat) (L : List Px.Nd) (hL : L.length ≤ 16777216) (x : Px.Nd) (ks : List Px.E) (hkid : x.kids = (ks.length : Int)) (p : Nat) (r : List Px.Nd) (w : World) (hdr : L.drop p = x :: (ks.flatMap Px.E.nodes ++ r)) (hN : NdL w ao L) :
   Calls Tryz.prog 62 #[.slice ao L.length cap, .int .i64 (p : Int)] w fun x w' => x = .returned (.int .i64 ((p + (1 + Px.sizes ks) : Nat) : Int)) ∧ Below w.heap.size w w' := by
 have hdr1 : L.drop (p + 1) = ks.flatMap Px.E.nodes ++ r := by rw [← List.drop_drop, hdr]; rfl
 obtain ⟨hp, g, off, rfl, hg, _, _, _, c3⟩ := hN.head hdr
 have hsum : p + (1 + Px.sizes ks) ≤ L.length := by
  have := congrArg List.length hdr
  simp only [List.length_drop, List.length_append, List.length_cons, Px.kids_len] at this
  omega
 have hksl : ks.length ≤ Px.sizes ks := by
  clear hkid hdr hdr1 hsum
  induction ks with
  | nil => simp [Px.sizes]
  | cons e ks ih =>
   have := e.size_pos
   simp only [Px.sizes, List.map_cons, List.sum_cons, List.length_cons] at ih ⊢
   omega
 rw [hkid] at c3
 have HN := hd hN
 have HDR := hd hdr1
 have hkl : ks.length ≤ 16777216 := by omega
 clear hN hdr hdr1 hkid
 have z1 : (0 : Int) ≤ (p : Int) := by omega
 have z2 : (p : Int) < (L.length : Int) := by omega
 have z4 : decide ((L.length : Int) ≤ (p : Int)) = false := decide_eq_false (by omega)
 have z5 : decide ((p : Int) < 0) = false := decide_eq_false (by omega)
 have z6 : decide (L.length ≤ p) = false := decide_eq_false (by omega)
 have z7 : (L.length ≤ p) = False := eq_false (by omega)
 go_enter Tryz.func62, Tryz.ntmps62
 go_wp2_with fail
 go_loopw [1, 6] (fun at' i wr => ∃ (k q : Nat), k ≤ ks.length ∧ i = .int .i64 k ∧ at' = .int .i64 q ∧ Hid (q = p + 1 + Px.sizes (ks.take k)) ∧ Hid (L.drop q = (ks.drop k).flatMap Px.E.nodes ++ r) ∧ Hid (Below w.heap.size w wr)) (fun _ i _ => ks.length - (intOf i).toNat)
 case atStart => exact ⟨0, p + 1, by omega, rfl, by go_num, by show _ = _; simp [Px.sizes], HDR, Below.refl _ _⟩
 case round =>
  obtain ⟨k, q, hk, rfl, rfl, HSQ, HQ, HW⟩ := hrel
  have hpn : p ≤ 16777216 := by omega
  clear z2 hp hsum hksl
  by_cases hlt : k < ks.length
  · have hdk : ks.drop k = ks[k] :: ks.drop (k + 1) := List.drop_eq_getElem_cons hlt
    have hq2 : L.drop q = ks[k].nodes ++ ((ks.drop (k + 1)).flatMap Px.E.nodes ++ r) := by rw [HQ.out, hdk, List.flatMap_cons, List.append_assoc]
    have hq3 := Px.drop_app hq2
    rw [Px.E.nodes_length] at hq3
    have hqs := Px.drop_len hq2 (by have := ks[k].size_pos; intro e0; have h1 := ks[k].nodes_length; rw [e0] at h1; simp at h1; omega)
    rw [Px.E.nodes_length] at hqs
    have htk : Px.sizes (ks.take (k + 1)) = Px.sizes (ks.take k) + ks[k].size := by
     unfold Px.sizes
     rw [List.take_succ_eq_append_getElem hlt, List.map_append, List.sum_append]
     simp
    have HTK := hd htk
    clear htk
    have HC := hd (after_e (some ⟨g, off, none⟩) cap L hL ks[k].size ks[k] (Nat.le_refl _) q _ wr hq2 (HN.out.below HW.out))
    have HQ3 := hd hq3
    clear hq2 hq3 hdk HQ
    generalize ks[k].size = sz at *
    go_wp2_with fail
    refine HC.out.mono ?_
    rintro e w1 ⟨rfl, hb⟩
    have HW1 : Hid (Below w.heap.size w w1) := HW.out.trans (hb.mono HW.out.size)
    clear hb
    go_wp2_with fail
    go_roundw
    case rel => exact ⟨k + 1, q + sz, by omega, by go_num, rfl, by show _ = _; have := HSQ.out; rw [HTK.out]; omega, HQ3, HW1⟩
    case measure => simp [intOf]; omega
  · have hkc : k = ks.length := by omega
    have HSQ2 : Hid (q = p + 1 + Px.sizes ks) := by have h := HSQ.out; rw [hkc, List.take_length] at h; exact h
    clear HSQ
    have z3 : (ks.length : Int) ≤ (k : Int) := by omega
    go_wp2_with fail
    go_ret
    exact ⟨ret_int (by have := HSQ2.out; omega), HW.out⟩
theorem after_part (ao : Option Addr) (cap : Nat) (L : List Px.Nd) (hL : L.length ≤ 16777216) {N : Nat} {pt : Px.Part} (hp : pt.wf N) (p : Nat) (r : List Px.Nd) (w : World) (hdr : L.drop p = pt.nodes ++ r) (hN : NdL w ao L) :
   Calls Tryz.prog 62 #[.slice ao L.length cap, .int .i64 (p : Int)] w fun x w' => x = .returned (.int .i64 ((p + pt.nodes.length : Nat) : Int)) ∧ Below w.heap.size w w' := by
 obtain ⟨x, h1, h2, h3⟩ := Px.part_split hp
 have hl : pt.nodes.length = 1 + Px.sizes pt.kidsL := by rw [h1, List.length_cons, Px.kids_len, Nat.add_comm]
 rw [hl]
 exact after_node ao cap L hL x pt.kidsL h2 p r w (by rw [hdr, h1]; rfl) hN
end Rf
namespace Rf
theorem ex_at (ao : Option Addr) (cap : Nat) (L : List Px.Nd) (hL : L.length ≤ 16777216) (hwid : Px.wid L ≤ 100000000) {N : Nat} {e : Px.E} (he : Px.EW N 40 e) {x : Px.Nd} {p : Nat} {r : List Px.Nd} (hdr : L.drop p = x :: (e.nodes ++ r)) :
   (∀ w, NdL w ao L → Calls Tryz.prog 102 #[.slice ao L.length cap, .int .i64 ((p : Int) + 1)] w (ExOut w e)) ∧ e.tx.1.length ≤ 100000000 := by
 have hdr1 : L.drop (p + 1) = e.nodes ++ r := by rw [← List.drop_drop, hdr]; rfl
 refine ⟨fun w hN => ?_, ?_⟩
 · have := exprText_any ao cap L hL hwid N 40 e he (p + 1) r w hdr1 hN
   rw [show ((p + 1 : Nat) : Int) = (p : Int) + 1 by omega] at this
   exact this
 · have := Px.wid_in hdr1
   have := (Px.tx_len he).1
   omega
theorem name_sz {s : Lx.Bs} (hs : Px.isName s = true) : 0 < (⟨s.toArray⟩ : ByteArray).size ∧ (⟨s.toArray⟩ : ByteArray).size ≤ 30 := by
 simp only [Px.isName, Bool.and_eq_true, decide_eq_true_eq, Bool.not_eq_true', List.isEmpty_eq_false_iff] at hs
 have h1 : (⟨s.toArray⟩ : ByteArray).size = s.length := by show s.toArray.size = _; simp
 have h2 : 0 < s.length := List.length_pos_iff.2 hs.1.2
 omega
theorem nameOf {s : Lx.Bs} (hs : Px.isName s = true) (w : World) : Calls Tryz.prog 63 #[.string ⟨s.toArray⟩] w (TxOut w (Px.nameT s)) := by
 have hV := nameText_any ⟨s.toArray⟩ w (name_sz hs).1 (name_sz hs).2
 rw [show (⟨s.toArray⟩ : ByteArray).data.toList = s by simp] at hV
 exact hV
theorem nameT_sz {s : Lx.Bs} (hs : Px.isName s = true) : (Px.nameT s).length ≤ 62 := by
 have h1 := Px.name_le s
 simp only [Px.isName, Bool.and_eq_true, decide_eq_true_eq] at hs
 omega
theorem partText_star (ao : Option Addr) (cap : Nat) (L : List Px.Nd) (hL : L.length ≤ 16777216) (p : Nat) (r : List Px.Nd) (w : World) (hdr : L.drop p = ⟨10, [], 0, 0⟩ :: r) (hN : NdL w ao L) :
   Calls Tryz.prog 61 #[.slice ao L.length cap, .int .i64 (p : Int)] w (TxOut w [42]) := by
 obtain ⟨hp, g, off, rfl, hg, c0, c1, c2, c3⟩ := hN.head hdr
 simp only at c0 c1 c2 c3
 have HB0 : Hid (Below w.heap.size w (w.alloc (.cells #[.int .i64 10, .string ⟨([] : Lx.Bs).toArray⟩, .int .i64 0, .int .i64 0] 43))) := by show Below _ _ _; go_grown
 clear hdr hN
 go_enter Tryz.func61, Tryz.ntmps61
 go_wp2_with fail
 go_ret
 exact ⟨_, rfl, by simp, HB0.out⟩
theorem partText_lim (ao : Option Addr) (cap : Nat) (L : List Px.Nd) (hL : L.length ≤ 16777216) (n : Nat) (hn : n ≤ 1000000000) (p : Nat) (r : List Px.Nd) (w : World) (hdr : L.drop p = ⟨13, [], n, 0⟩ :: r) (hN : NdL w ao L) :
   Calls Tryz.prog 61 #[.slice ao L.length cap, .int .i64 (p : Int)] w (TxOut w ([32] ++ Px.kLIMIT ++ [32] ++ Px.dec n)) := by
 obtain ⟨hp, g, off, rfl, hg, c0, c1, c2, c3⟩ := hN.head hdr
 simp only at c0 c1 c2 c3
 have hB0 : Below w.heap.size w (w.alloc (.cells #[.int .i64 13, .string ⟨([] : Lx.Bs).toArray⟩, .int .i64 (n : Int), .int .i64 0] 43)) := by go_grown
 have HB0 := hd hB0
 have hs0 := hB0.size
 have HD := hd (fun w => decimal_any 19 (n : Int) w (by omega) (by omega) (by omega) (by omega) (by omega))
 have HDL : Hid ((Px.dec (n : Int)).length ≤ 19) := by
  show _ ≤ _
  unfold Px.dec
  rw [if_neg (by omega)]
  exact Px.decF_len 20 _ 19 (by omega) (by omega)
 clear hdr hN hB0
 go_enter Tryz.func61, Tryz.ntmps61
 go_wp2_with fail
 refine (HD.out _).mono ?_
 rintro y w1 ⟨t, rfl, ht, _, hb⟩
 have HB1 : Hid (Below w.heap.size w w1) := HB0.out.trans (hb.mono hs0)
 have hts : t.size ≤ 19 := by rw [size_len, ht]; exact HDL.out
 have HT := hd ht
 clear hb ht
 go_wp2_with fail
 go_ret
 exact ⟨_, rfl, by rw [app_l, HT.out]; rfl, HB1.out⟩
theorem partText_set (ao : Option Addr) (cap : Nat) (L : List Px.Nd) (hL : L.length ≤ 16777216) (hwid : Px.wid L ≤ 100000000) {N : Nat} (s : Lx.Bs) (e : Px.E) (hs : Px.isName s = true) (he : Px.EW N 40 e) (p : Nat) (r : List Px.Nd) (w : World) (hdr : L.drop p = ⟨8, s, 0, 1⟩ :: (e.nodes ++ r)) (hN : NdL w ao L) :
   Calls Tryz.prog 61 #[.slice ao L.length cap, .int .i64 (p : Int)] w (TxOut w (Px.nameT s ++ [32, 61, 32] ++ e.tx.1)) := by
 obtain ⟨hp, g, off, rfl, hg, c0, c1, c2, c3⟩ := hN.head hdr
 simp only at c0 c1 c2 c3
 have hpn : p < 16777216 := by omega
 have hB0 : Below w.heap.size w (w.alloc (.cells #[.int .i64 8, .string ⟨s.toArray⟩, .int .i64 0, .int .i64 1] 43)) := by go_grown
 have HB0 := hd hB0
 have hs0 := hB0.size
 have HK0 := hd (Blk.new w #[.int .i64 8, .string ⟨s.toArray⟩, .int .i64 0, .int .i64 1] 43)
 have hl0 := HK0.out.lt
 have hx := ex_at (some ⟨g, off, none⟩) cap L hL hwid he hdr
 have HV := hd (hx.1 _ (hN.below hB0))
 have HSZ := hd hx.2
 have HS := hd hs
 clear hdr hN hB0 hx hs he
 go_enter Tryz.func61, Tryz.ntmps61
 go_wp2_with fail
 refine HV.out.mono ?_
 rintro y w1 ⟨t, rfl, ht, hb⟩
 have HB1 : Hid (Below w.heap.size w w1) := HB0.out.trans (hb.mono hs0)
 have K1 := HK0.out.below hb hl0
 have b1 := K1.cell 1
 simp at b1
 have hl1 := K1.lt
 have hts : t.size ≤ 100000000 := by rw [size_len, ht]; exact HSZ.out
 have HT := hd ht
 clear hb ht K1
 go_wp2_with fail
 refine (nameOf HS.out w1).mono ?_
 rintro y w2 ⟨u, rfl, hu, hb⟩
 have HB2 : Hid (Below w.heap.size w w2) := HB1.out.trans (hb.mono HB1.out.size)
 have hus : u.size ≤ 62 := by rw [size_len, hu]; exact nameT_sz HS.out
 have s1 : (u ++ ⟨#[32, 61, 32]⟩ : ByteArray).size ≤ 65 := by rw [ByteArray.size_append]; show u.size + 3 ≤ _; omega
 have HU := hd hu
 clear hb hu
 go_wp2_with fail
 go_ret
 exact ⟨_, rfl, by simp only [app_l, HT.out, HU.out], HB2.out⟩
theorem partText_whr (ao : Option Addr) (cap : Nat) (L : List Px.Nd) (hL : L.length ≤ 16777216) (hwid : Px.wid L ≤ 100000000) {N : Nat} (e : Px.E) (he : Px.EW N 40 e) (p : Nat) (r : List Px.Nd) (w : World) (hdr : L.drop p = ⟨11, [], 0, 1⟩ :: (e.nodes ++ r)) (hN : NdL w ao L) :
   Calls Tryz.prog 61 #[.slice ao L.length cap, .int .i64 (p : Int)] w (TxOut w ([32] ++ Px.kWHERE ++ [32] ++ e.tx.1)) := by
 obtain ⟨hp, g, off, rfl, hg, c0, c1, c2, c3⟩ := hN.head hdr
 simp only at c0 c1 c2 c3
 have hpn : p < 16777216 := by omega
 have hB0 : Below w.heap.size w (w.alloc (.cells #[.int .i64 11, .string ⟨([] : Lx.Bs).toArray⟩, .int .i64 0, .int .i64 1] 43)) := by go_grown
 have HB0 := hd hB0
 have hs0 := hB0.size
 have hx := ex_at (some ⟨g, off, none⟩) cap L hL hwid he hdr
 have HV := hd (hx.1 _ (hN.below hB0))
 have HSZ := hd hx.2
 clear hdr hN hB0 hx he
 go_enter Tryz.func61, Tryz.ntmps61
 go_wp2_with fail
 refine HV.out.mono ?_
 rintro y w1 ⟨t, rfl, ht, hb⟩
 have HB1 : Hid (Below w.heap.size w w1) := HB0.out.trans (hb.mono hs0)
 have hts : t.size ≤ 100000000 := by rw [size_len, ht]; exact HSZ.out
 have HT := hd ht
 clear hb ht
 go_wp2_with fail
 go_ret
 exact ⟨_, rfl, by rw [app_l, HT.out]; rfl, HB1.out⟩
theorem partText_ord (ao : Option Addr) (cap : Nat) (L : List Px.Nd) (hL : L.length ≤ 16777216) (hwid : Px.wid L ≤ 100000000) {N : Nat} (e : Px.E) (b : Bool) (he : Px.EW N 40 e) (p : Nat) (r : List Px.Nd) (w : World) (hdr : L.drop p = ⟨12, [], if b = true then 1 else 0, 1⟩ :: (e.nodes ++ r)) (hN : NdL w ao L) :
   Calls Tryz.prog 61 #[.slice ao L.length cap, .int .i64 (p : Int)] w (TxOut w (e.tx.1 ++ (if b = true then [32] ++ Px.kDESC else []))) := by
 obtain ⟨hp, g, off, rfl, hg, c0, c1, c2, c3⟩ := hN.head hdr
 simp only at c0 c1 c2 c3
 have hpn : p < 16777216 := by omega
 have hx := ex_at (some ⟨g, off, none⟩) cap L hL hwid he hdr
 have HSZ := hd hx.2
 cases b with
 | true =>
  simp only [if_true] at c2 ⊢
  have hB0 : Below w.heap.size w (w.alloc (.cells #[.int .i64 12, .string ⟨([] : Lx.Bs).toArray⟩, .int .i64 1, .int .i64 1] 43)) := by go_grown
  have HB0 := hd hB0
  have hs0 := hB0.size
  have HK0 := hd (Blk.new w #[.int .i64 12, .string ⟨([] : Lx.Bs).toArray⟩, .int .i64 1, .int .i64 1] 43)
  have hl0 := HK0.out.lt
  have HV := hd (hx.1 _ (hN.below hB0))
  clear hdr hN hB0 hx he
  go_enter Tryz.func61, Tryz.ntmps61
  go_wp2_with fail
  refine HV.out.mono ?_
  rintro y w1 ⟨t, rfl, ht, hb⟩
  have HB1 : Hid (Below w.heap.size w w1) := HB0.out.trans (hb.mono hs0)
  have K1 := HK0.out.below hb hl0
  have b2 := K1.cell 2
  simp at b2
  have hl1 := K1.lt
  have hts : t.size ≤ 100000000 := by rw [size_len, ht]; exact HSZ.out
  have HT := hd ht
  clear hb ht K1
  go_wp2_with fail
  go_ret
  exact ⟨_, rfl, by rw [app_l, HT.out]; rfl, HB1.out⟩
 | false =>
  simp only [Bool.false_eq_true, if_false, List.append_nil] at c2 ⊢
  have hB0 : Below w.heap.size w (w.alloc (.cells #[.int .i64 12, .string ⟨([] : Lx.Bs).toArray⟩, .int .i64 0, .int .i64 1] 43)) := by go_grown
  have HB0 := hd hB0
  have hs0 := hB0.size
  have HK0 := hd (Blk.new w #[.int .i64 12, .string ⟨([] : Lx.Bs).toArray⟩, .int .i64 0, .int .i64 1] 43)
  have hl0 := HK0.out.lt
  have HV := hd (hx.1 _ (hN.below hB0))
  clear hdr hN hB0 hx he
  go_enter Tryz.func61, Tryz.ntmps61
  go_wp2_with fail
  refine HV.out.mono ?_
  rintro y w1 ⟨t, rfl, ht, hb⟩
  have HB1 : Hid (Below w.heap.size w w1) := HB0.out.trans (hb.mono hs0)
  have K1 := HK0.out.below hb hl0
  have b2 := K1.cell 2
  simp at b2
  have hl1 := K1.lt
  have HT := hd ht
  clear hb ht K1
  go_wp2_with fail
  go_ret
  exact ⟨_, rfl, HT.out, HB1.out⟩
theorem partText_ex (ao : Option Addr) (cap : Nat) (L : List Px.Nd) (hL : L.length ≤ 16777216) (hwid : Px.wid L ≤ 100000000) {N : Nat} (e : Px.E) (he : Px.EW N 40 e) (p : Nat) (r : List Px.Nd) (w : World) (hdr : L.drop p = e.nodes ++ r) (hN : NdL w ao L) :
   Calls Tryz.prog 61 #[.slice ao L.length cap, .int .i64 (p : Int)] w (TxOut w e.tx.1) := by
 obtain ⟨⟨kd, xt, xn, xc⟩, q, e1, h1, h2⟩ := Px.e_head e N he.ok r
 simp only at h1 h2
 have hdr' := hdr.trans e1
 obtain ⟨hp, g, off, rfl, hg, c0, c1, c2, c3⟩ := hN.head hdr'
 simp only at c0 c1 c2 c3
 have hB0 : Below w.heap.size w (w.alloc (.cells #[.int .i64 kd, .string ⟨xt.toArray⟩, .int .i64 xn, .int .i64 xc] 43)) := by go_grown
 have HB0 := hd hB0
 have hs0 := hB0.size
 have HV := hd (exprText_any (some ⟨g, off, none⟩) cap L hL hwid N 40 e he p r _ hdr (hN.below hB0))
 have k2 : (kd == 2) = false := by simp; omega
 have k5 : (kd == 5) = false := by simp; omega
 have k8 : (kd == 8) = false := by simp; omega
 have k10 : (kd == 10) = false := by simp; omega
 have k11 : (kd == 11) = false := by simp; omega
 have k12 : (kd == 12) = false := by simp; omega
 have k13 : (kd == 13) = false := by simp; omega
 clear hdr hdr' hN hB0 he e1
 go_enter Tryz.func61, Tryz.ntmps61
 go_wp2_with fail
 refine HV.out.mono ?_
 rintro y w1 ⟨t, rfl, ht, hb⟩
 have HB1 : Hid (Below w.heap.size w w1) := HB0.out.trans (hb.mono hs0)
 have HT := hd ht
 clear hb ht
 go_wp2_with fail
 go_ret
 exact ⟨_, rfl, HT.out, HB1.out⟩
end Rf
namespace Rf
theorem partText_row (ao : Option Addr) (cap : Nat) (L : List Px.Nd) (hL : L.length ≤ 16777216) (hwid : Px.wid L ≤ 100000000) {N : Nat} (a : List Px.E) (ha : ∀ e ∈ a, Px.EW N 40 e) (p : Nat) (r : List Px.Nd) (w : World) (hdr : L.drop p = ⟨5, [], 0, (a.length : Int)⟩ :: (a.flatMap Px.E.nodes ++ r)) (hN : NdL w ao L) :
   Calls Tryz.prog 61 #[.slice ao L.length cap, .int .i64 (p : Int)] w (TxOut w (40 :: (Px.joinB (a.map fun e => e.tx.1) ++ [41]))) := by
 have hdr1 : L.drop (p + 1) = a.flatMap Px.E.nodes ++ r := by rw [← List.drop_drop, hdr]; rfl
 obtain ⟨hp, g, off, rfl, hg, c0, c1, c2, c3⟩ := hN.head hdr
 simp only at c0 c1 c2 c3
 have hsum : p + (1 + Px.sizes a) ≤ L.length := by
  have := congrArg List.length hdr
  simp only [List.length_drop, List.length_append, List.length_cons, Px.kids_len] at this
  omega
 have hal := Px.sizes_len a
 have hpn : p < 16777216 := by omega
 have hka : a.length ≤ 16777216 := by omega
 have hwf : Px.wid (a.flatMap Px.E.nodes) ≤ 100000000 := by have := Px.wid_in hdr1; omega
 have hB0 : Below w.heap.size w (w.alloc (.cells #[.int .i64 5, .string ⟨([] : Lx.Bs).toArray⟩, .int .i64 0, .int .i64 (a.length : Int)] 43)) := by go_grown
 have HB0 := hd hB0
 have hs0 := hB0.size
 have HK0 := hd (Blk.new w #[.int .i64 5, .string ⟨([] : Lx.Bs).toArray⟩, .int .i64 0, .int .i64 (a.length : Int)] 43)
 have hl0 := HK0.out.lt
 have HN := hd hN
 have HDR := hd hdr1
 have HA := hd ha
 have HWF := hd hwf
 have HWI := hd hwid
 have HLL := hd hL
 have HSUM := hd hsum
 clear hN hdr hdr1 ha hwf hwid hsum hal hB0
 go_enter Tryz.func61, Tryz.ntmps61
 go_wp2_with fail
 generalize (w.alloc (.cells #[.int .i64 5, .string ⟨([] : Lx.Bs).toArray⟩, .int .i64 0, .int .i64 (a.length : Int)] 43)) = w1 at *
 go_loopw [1, 7, 8] (fun at' s i wr => ∃ (k q : Nat) (t : ByteArray), k ≤ a.length ∧ i = .int .i64 k ∧ at' = .int .i64 q ∧ s = .string t ∧ Hid (q = p + 1 + Px.sizes (a.take k)) ∧ Hid (L.drop q = (a.drop k).flatMap Px.E.nodes ++ r) ∧ Hid (t.data.toList = Px.joinB ((a.take k).map fun e => e.tx.1)) ∧ Hid (Below w1.heap.size w1 wr)) (fun _ _ i _ => a.length - (intOf i).toNat)
 case atStart => exact ⟨0, p + 1, ⟨#[]⟩, by omega, rfl, by go_num, rfl, by show _ = _; simp [Px.sizes], HDR, by show _ = _; simp [Px.joinB], Below.refl _ _⟩
 case round =>
  obtain ⟨k, q, t, hk, rfl, rfl, rfl, HSQ, HQ, HTX, HW⟩ := hrel
  have K1 := HK0.out.below HW.out hl0
  have b3 := K1.cell 3
  simp at b3
  have hl1 := K1.lt
  have HBW : Hid (Below w.heap.size w wr) := HB0.out.trans (HW.out.mono hs0)
  have hts : t.size ≤ 100000000 := by rw [size_len, HTX.out]; have := Px.join_le a HA.out k; have := HWF.out; omega
  clear K1
  by_cases hlt : k < a.length
  · have hdk : a.drop k = a[k] :: a.drop (k + 1) := List.drop_eq_getElem_cons hlt
    have hq2 : L.drop q = a[k].nodes ++ ((a.drop (k + 1)).flatMap Px.E.nodes ++ r) := by rw [HQ.out, hdk, List.flatMap_cons, List.append_assoc]
    have hq3 := Px.drop_app hq2
    rw [Px.E.nodes_length] at hq3
    have hqs := Px.drop_len hq2 (by have := a[k].size_pos; intro e0; have h1 := a[k].nodes_length; rw [e0] at h1; simp at h1; omega)
    rw [Px.E.nodes_length] at hqs
    have hqn : q + a[k].size ≤ 16777216 := by have := HLL.out; omega
    have HTK := hd (Px.sizes_succ a k hlt)
    have HJ := hd (Px.join_take a k hlt)
    have he := HA.out a[k] (List.getElem_mem hlt)
    have HXT := hd (fun w h => exprText_any (some ⟨g, off, none⟩) cap L HLL.out HWI.out N 40 a[k] he q _ w hq2 h)
    have HAF := hd (fun w h => after_e (some ⟨g, off, none⟩) cap L HLL.out a[k].size a[k] (Nat.le_refl _) q _ w hq2 h)
    have HES : Hid (a[k].tx.1.length ≤ 100000000) := by
     have h1 := Px.wid_in hq2
     have h2 := (Px.tx_len he).1
     have := HWI.out
     show _ ≤ _
     omega
    have HQ3 := hd hq3
    clear hq2 hq3 hdk HQ hqs he
    have hkn : k < 16777216 := by omega
    by_cases hk0 : k = 0
    · have z1 : decide (0 < (k : Int)) = false := decide_eq_false (by omega)
      have z2 : decide (0 < k) = false := decide_eq_false (by omega)
      have HJ2 : Hid (Px.joinB ((a.take (k + 1)).map fun e => e.tx.1) = t.data.toList ++ a[k].tx.1) := by
       have ht0 : t.data.toList = [] := by rw [HTX.out, hk0]; rfl
       show _ = _
       rw [HJ.out, if_pos hk0, ht0]
      clear hk0 HJ
      generalize a[k] = ek at *
      go_wp2_with fail
      refine (HXT.out wr (HN.out.below HBW.out)).mono ?_
      rintro y w2 ⟨u, rfl, hu, hb⟩
      have HW2 : Hid (Below w1.heap.size w1 w2) := HW.out.trans (hb.mono HW.out.size)
      have HBW2 : Hid (Below w.heap.size w w2) := HB0.out.trans (HW2.out.mono hs0)
      have hus : u.size ≤ 100000000 := by rw [size_len, hu]; exact HES.out
      have HU := hd hu
      clear hb hu b3 hl1
      go_wp2_with fail
      refine (HAF.out w2 (HN.out.below HBW2.out)).mono ?_
      rintro y w3 ⟨rfl, hb⟩
      have HW3 : Hid (Below w1.heap.size w1 w3) := HW2.out.trans (hb.mono HW2.out.size)
      clear hb
      go_wp2_with fail
      go_roundw
      case rel => exact ⟨k + 1, q + ek.size, t ++ u, by omega, by go_num, rfl, rfl, by show _ = _; have := HSQ.out; rw [HTK.out]; omega, HQ3, by show _ = _; rw [HJ2.out, app_l, HU.out], HW3⟩
      case measure => simp [intOf]; omega
    · have z1 : decide (0 < (k : Int)) = true := decide_eq_true (by omega)
      have z2 : decide (0 < k) = true := decide_eq_true (by omega)
      have HJ2 : Hid (Px.joinB ((a.take (k + 1)).map fun e => e.tx.1) = t.data.toList ++ [44, 32] ++ a[k].tx.1) := by
       show _ = _
       rw [HJ.out, if_neg hk0, HTX.out]
      have s1 : (t ++ ⟨#[44, 32]⟩ : ByteArray).size ≤ 100000002 := by rw [ByteArray.size_append]; show t.size + 2 ≤ _; omega
      clear hk0 HJ
      generalize a[k] = ek at *
      go_wp2_with fail
      refine (HXT.out wr (HN.out.below HBW.out)).mono ?_
      rintro y w2 ⟨u, rfl, hu, hb⟩
      have HW2 : Hid (Below w1.heap.size w1 w2) := HW.out.trans (hb.mono HW.out.size)
      have HBW2 : Hid (Below w.heap.size w w2) := HB0.out.trans (HW2.out.mono hs0)
      have hus : u.size ≤ 100000000 := by rw [size_len, hu]; exact HES.out
      have HU := hd hu
      clear hb hu b3 hl1
      go_wp2_with fail
      refine (HAF.out w2 (HN.out.below HBW2.out)).mono ?_
      rintro y w3 ⟨rfl, hb⟩
      have HW3 : Hid (Below w1.heap.size w1 w3) := HW2.out.trans (hb.mono HW2.out.size)
      clear hb
      go_wp2_with fail
      go_roundw
      case rel => exact ⟨k + 1, q + ek.size, t ++ ⟨#[44, 32]⟩ ++ u, by omega, by go_num, rfl, rfl, by show _ = _; have := HSQ.out; rw [HTK.out]; omega, HQ3, by show _ = _; rw [HJ2.out, app_l, app_l, HU.out], HW3⟩
      case measure => simp [intOf]; omega
  · have hkc : k = a.length := by omega
    have HTX2 : Hid (t.data.toList = Px.joinB (a.map fun e => e.tx.1)) := by have h := HTX.out; rw [hkc, List.take_length] at h; exact h
    have s1 : (⟨#[40]⟩ ++ t : ByteArray).size ≤ 100000001 := by rw [ByteArray.size_append]; show 1 + t.size ≤ _; omega
    clear HSQ HQ HTX hkc
    have z3 : decide ((k : Int) < (a.length : Int)) = false := decide_eq_false (by omega)
    have z4 : decide (k < a.length) = false := decide_eq_false (by omega)
    have z5 : (k < a.length) = False := eq_false (by omega)
    go_wp2_with fail
    go_ret
    exact ⟨_, rfl, by rw [app_l, app_l, HTX2.out]; rfl, HBW.out⟩
end Rf
namespace Rf
theorem parts_len {N : Nat} (ps : List Px.Part) (h : ∀ p ∈ ps, p.wf N) : ps.length ≤ (ps.flatMap Px.Part.nodes).length := by
 induction ps with
 | nil => simp
 | cons x ps ih =>
  obtain ⟨y, hy, _⟩ := Px.part_split (h x (by simp))
  have hy1 : 1 ≤ x.nodes.length := by rw [hy]; simp
  have ih := ih (fun p hp => h p (by simp [hp]))
  simp only [List.flatMap_cons, List.length_append, List.length_cons]
  omega
theorem text_of (ao : Option Addr) (cap : Nat) (L : List Px.Nd) (hL : L.length ≤ 16777216) (hwid : Px.wid L ≤ 100000000) {N : Nat} (s : Px.St) (hs : Px.Wf N s) (hLs : s.nodes = L)
   (hpt : ∀ pt : Px.Part, pt.wf N → ∀ (p : Nat) (r : List Px.Nd) (w : World), L.drop p = pt.nodes ++ r → NdL w ao L → Calls Tryz.prog 61 #[.slice ao L.length cap, .int .i64 (p : Int)] w (TxOut w pt.tx)) (w : World) (hN : NdL w ao L) :
   Calls Tryz.prog 37 #[.slice ao L.length cap] w (TxOut w (Px.text L)) := by
 obtain ⟨hnm, hpw⟩ := Px.st_parts hs
 have htx := Px.st_text hs
 have hnd := Px.st_nodes s
 have hkd := Px.kd_cases s
 rw [hLs] at htx hnd
 rw [htx]
 clear htx hs hLs
 generalize s.kd = kd at *
 generalize s.tab = tb at *
 generalize s.parts = ps at *
 have hd0 : L.drop 0 = ⟨(kd : Int), tb, 0, (ps.length : Int)⟩ :: ps.flatMap Px.Part.nodes := hnd
 obtain ⟨hp, g, off, rfl, hg, c0, c1, c2, c3⟩ := hN.head hd0
 simp only [Nat.zero_mul, Nat.add_zero] at c0 c1 c2 c3
 have hpl : ps.length ≤ 16777216 := by
  have h1 := congrArg List.length hnd
  simp only [List.length_cons] at h1
  have h2 := parts_len ps hpw
  omega
 have hwf : Px.wid (ps.flatMap Px.Part.nodes) ≤ 100000000 := by
  rw [hnd] at hwid
  simp only [Px.wid] at hwid
  omega
 have HGL : Hid (∀ k, k ≤ ps.length → Px.gsz (Px.gathP Px.g0 (ps.take k)) ≤ 200000000) := fun k hk => by have := Px.gath_le ps hpw k hk; omega
 have HN := hd hN
 have HPTX := hd hpt
 have HND := hd hnd
 have HPW := hd hpw
 have HNM := hd hnm
 have HWI := hd hwid
 have HLL := hd hL
 have h0L : 0 < L.length := hp
 have z0 : (0 : Int) < (L.length : Int) := by omega
 clear hN hpt hnd hpw hnm hwid hwf hd0 hp
 go_enter Tryz.func37, Tryz.ntmps37
 go_wp2_with fail
 go_loopw [3, 4, 5, 6, 7, 8] (fun s3 s4 s5 s6 at' i wr => ∃ (k q : Nat) (t1 t2 t3 t4 : ByteArray), k ≤ ps.length ∧ i = .int .i64 k ∧ at' = .int .i64 q ∧ s3 = .string t1 ∧ s4 = .string t2 ∧ s5 = .string t3 ∧ s6 = .string t4 ∧ Hid (q = 1 + Px.psz (ps.take k)) ∧ Hid (Px.gathP Px.g0 (ps.take k) = ⟨t1.data.toList, t3.data.toList, t2.data.toList, t4.data.toList⟩) ∧ Hid (Below w.heap.size w wr)) (fun _ _ _ _ _ i _ => ps.length - (intOf i).toNat)
 case atStart => exact ⟨0, 1, ⟨#[]⟩, ⟨#[]⟩, ⟨#[]⟩, ⟨#[]⟩, by omega, rfl, rfl, rfl, rfl, rfl, rfl, by show _ = _; simp [Px.psz], by show _ = _; simp [Px.gathP, Px.g0], Below.refl _ _⟩
 case round =>
  obtain ⟨k, q, t1, t2, t3, t4, hk, rfl, rfl, rfl, rfl, rfl, rfl, HQ, HG, HW⟩ := hrel
  have e0 := HW.out.cell (p := ⟨g, off, none⟩) hg
  have e1 := HW.out.cell (p := ⟨g, off + 1, none⟩) hg
  have e3 := HW.out.cell (p := ⟨g, off + 3, none⟩) hg
  rw [c0] at e0
  rw [c1] at e1
  rw [c3] at e3
  have hgr : g < wr.heap.size := Nat.lt_of_lt_of_le hg HW.out.size
  have hsz : t1.size ≤ 200000000 ∧ t2.size ≤ 200000000 ∧ t3.size ≤ 200000000 ∧ t4.size ≤ 200000000 := by
   have h := HGL.out k hk
   rw [HG.out] at h
   simp only [Px.gsz] at h
   simp only [size_len]
   omega
  obtain ⟨hz1, hz2, hz3, hz4⟩ := hsz
  by_cases hlt : k < ps.length
  · have hq2 : L.drop q = ps[k].nodes ++ (ps.drop (k + 1)).flatMap Px.Part.nodes := by rw [HQ.out]; exact Px.parts_at HND.out k hlt
    have hwf := HPW.out ps[k] (List.getElem_mem hlt)
    obtain ⟨x, hx, _, hrk⟩ := Px.part_split hwf
    have hq4 : L.drop q = x :: (ps[k].kidsL.flatMap Px.E.nodes ++ (ps.drop (k + 1)).flatMap Px.Part.nodes) := by rw [hq2, hx]; rfl
    have hqs := Px.drop_len hq2 (by rw [hx]; simp)
    have hqn : q + ps[k].nodes.length ≤ 16777216 := by have := HLL.out; omega
    have hql : q < L.length := by have := congrArg List.length hx; simp at this; omega
    have HQ3 : Hid (q + ps[k].nodes.length = 1 + Px.psz (ps.take (k + 1))) := by show _ = _; rw [Px.psz_succ ps k hlt, HQ.out]; omega
    have HGS : Hid (Px.gathP Px.g0 (ps.take (k + 1)) = Px.gathP (Px.gathP Px.g0 (ps.take k)) [ps[k]]) := by show _ = _; rw [List.take_succ_eq_append_getElem hlt, Px.gathP_snoc]
    have HPT := hd (fun w h => HPTX.out ps[k] hwf q _ w hq2 h)
    have HAF := hd (fun w h => after_part (some ⟨g, off, none⟩) cap L HLL.out hwf q _ w hq2 h)
    have HXL : Hid (ps[k].tx.length ≤ 100000000) := by
     have h1 := Px.wid_in hq2
     have h2 := (Px.part_wid hwf).1
     have := HWI.out
     show _ ≤ _
     omega
    have hrc := Px.rk_cases ps[k]
    have HC : Hid (∀ w, NdL w (some ⟨g, off, none⟩) L → w.cell? ⟨g, off + q * 4, none⟩ = some (.int .i64 x.kind)) := fun w h => by
     obtain ⟨_, g', off', e, _, h0, _⟩ := h.head hq4
     cases e
     exact h0
    have HRK : Hid (∀ w, Calls Tryz.prog 58 #[.int .i64 x.kind] w fun e w' => e = .returned (.int .i64 ((ps[k].rk : Nat) : Int)) ∧ w' = w) := fun w => by
     have := rank_any x.kind w
     rw [hrk] at this
     exact this
    generalize x.kind = xk at *
    clear hq2 hq4 hqs hx hrk hwf HQ
    generalize ps[k].nodes.length = nl at *
    generalize ps[k] = pk at *
    go_wp2_with fail
    refine (HPT.out wr (HN.out.below HW.out)).mono ?_
    rintro y w2 ⟨u, rfl, hu, hb⟩
    have HW2 : Hid (Below w.heap.size w w2) := HW.out.trans (hb.mono HW.out.size)
    have f0 := HC.out w2 (HN.out.below HW2.out)
    have hus : u.size ≤ 100000000 := by rw [size_len, hu]; exact HXL.out
    have hg2 : g < w2.heap.size := Nat.lt_of_lt_of_le hg HW2.out.size
    have HU := hd hu
    clear hb hu e0 e1 e3
    go_wp2_with fail
    refine (HRK.out w2).mono ?_
    rintro y w2 ⟨rfl, rfl⟩
    rcases hrc with hr | hr | hr | hr
    · have HR := hd hr
      rw [hr]
      clear hr
      by_cases hemp : t1.data.toList = []
      · have q1 : (t1.toList == []) = true := by rw [Lib.toList_data, hemp]; rfl
        have q2 : (t1.toList != []) = false := by rw [Lib.toList_data, hemp]; rfl
        have HEM := hd hemp
        clear hemp
        go_wp2_with fail
        refine (HAF.out w2 (HN.out.below HW2.out)).mono ?_
        rintro y w3 ⟨rfl, hb⟩
        have HW3 : Hid (Below w.heap.size w w3) := HW2.out.trans (hb.mono HW2.out.size)
        clear hb
        go_wp2_with fail
        go_roundw
        case rel => exact ⟨k + 1, q + nl, t1 ++ u, t2, t3, t4, by omega, by go_num, rfl, rfl, rfl, rfl, rfl, HQ3, by show _ = _; rw [HGS.out, HG.out, Px.g1_things _ HR.out]; simp [app_l, HU.out, HEM.out, Px.kORDER, Px.kBY], HW3⟩
        case measure => simp [intOf]; omega
      · have q1 : (t1.toList == []) = false := by rw [Lib.toList_data]; exact beq_eq_false_iff_ne.2 hemp
        have q2 : (t1.toList != []) = true := by rw [Lib.toList_data]; exact bne_iff_ne.2 hemp
        have s1 : (t1 ++ ⟨#[44, 32]⟩ : ByteArray).size ≤ 200000002 := by rw [ByteArray.size_append]; show t1.size + 2 ≤ _; omega
        have HEM := hd hemp
        clear hemp
        go_wp2_with fail
        refine (HAF.out w2 (HN.out.below HW2.out)).mono ?_
        rintro y w3 ⟨rfl, hb⟩
        have HW3 : Hid (Below w.heap.size w w3) := HW2.out.trans (hb.mono HW2.out.size)
        clear hb
        go_wp2_with fail
        go_roundw
        case rel => exact ⟨k + 1, q + nl, t1 ++ ⟨#[44, 32]⟩ ++ u, t2, t3, t4, by omega, by go_num, rfl, rfl, rfl, rfl, rfl, HQ3, by show _ = _; rw [HGS.out, HG.out, Px.g1_things _ HR.out]; simp [app_l, HU.out, HEM.out, Px.kORDER, Px.kBY], HW3⟩
        case measure => simp [intOf]; omega
    · have HR := hd hr
      rw [hr]
      clear hr
      go_wp2_with fail
      refine (HAF.out w2 (HN.out.below HW2.out)).mono ?_
      rintro y w3 ⟨rfl, hb⟩
      have HW3 : Hid (Below w.heap.size w w3) := HW2.out.trans (hb.mono HW2.out.size)
      clear hb
      go_wp2_with fail
      go_roundw
      case rel => exact ⟨k + 1, q + nl, t1, t2, u, t4, by omega, by go_num, rfl, rfl, rfl, rfl, rfl, HQ3, by show _ = _; rw [HGS.out, HG.out, Px.g1_where _ HR.out, HU.out], HW3⟩
      case measure => simp [intOf]; omega
    · have HR := hd hr
      rw [hr]
      clear hr
      by_cases hemp : t2.data.toList = []
      · have q1 : (t2.toList == []) = true := by rw [Lib.toList_data, hemp]; rfl
        have q2 : (t2.toList != []) = false := by rw [Lib.toList_data, hemp]; rfl
        have HEM := hd hemp
        clear hemp
        go_wp2_with fail
        refine (HAF.out w2 (HN.out.below HW2.out)).mono ?_
        rintro y w3 ⟨rfl, hb⟩
        have HW3 : Hid (Below w.heap.size w w3) := HW2.out.trans (hb.mono HW2.out.size)
        clear hb
        go_wp2_with fail
        go_roundw
        case rel => exact ⟨k + 1, q + nl, t1, ⟨#[32, 79, 82, 68, 69, 82, 32, 66, 89, 32]⟩ ++ u, t3, t4, by omega, by go_num, rfl, rfl, rfl, rfl, rfl, HQ3, by show _ = _; rw [HGS.out, HG.out, Px.g1_orders _ HR.out]; simp [app_l, HU.out, HEM.out, Px.kORDER, Px.kBY], HW3⟩
        case measure => simp [intOf]; omega
      · have q1 : (t2.toList == []) = false := by rw [Lib.toList_data]; exact beq_eq_false_iff_ne.2 hemp
        have q2 : (t2.toList != []) = true := by rw [Lib.toList_data]; exact bne_iff_ne.2 hemp
        have s1 : (t2 ++ ⟨#[44, 32]⟩ : ByteArray).size ≤ 200000002 := by rw [ByteArray.size_append]; show t2.size + 2 ≤ _; omega
        have HEM := hd hemp
        clear hemp
        go_wp2_with fail
        refine (HAF.out w2 (HN.out.below HW2.out)).mono ?_
        rintro y w3 ⟨rfl, hb⟩
        have HW3 : Hid (Below w.heap.size w w3) := HW2.out.trans (hb.mono HW2.out.size)
        clear hb
        go_wp2_with fail
        go_roundw
        case rel => exact ⟨k + 1, q + nl, t1, t2 ++ ⟨#[44, 32]⟩ ++ u, t3, t4, by omega, by go_num, rfl, rfl, rfl, rfl, rfl, HQ3, by show _ = _; rw [HGS.out, HG.out, Px.g1_orders _ HR.out]; simp [app_l, HU.out, HEM.out, Px.kORDER, Px.kBY], HW3⟩
        case measure => simp [intOf]; omega
    · have HR := hd hr
      rw [hr]
      clear hr
      go_wp2_with fail
      refine (HAF.out w2 (HN.out.below HW2.out)).mono ?_
      rintro y w3 ⟨rfl, hb⟩
      have HW3 : Hid (Below w.heap.size w w3) := HW2.out.trans (hb.mono HW2.out.size)
      clear hb
      go_wp2_with fail
      go_roundw
      case rel => exact ⟨k + 1, q + nl, t1, t2, t3, u, by omega, by go_num, rfl, rfl, rfl, rfl, rfl, HQ3, by show _ = _; rw [HGS.out, HG.out, Px.g1_limit _ HR.out, HU.out], HW3⟩
      case measure => simp [intOf]; omega
  · have hkc : k = ps.length := by omega
    have HG2 : Hid (Px.gathP Px.g0 ps = ⟨t1.data.toList, t3.data.toList, t2.data.toList, t4.data.toList⟩) := by have h := HG.out; rw [hkc, List.take_length] at h; exact h
    clear HQ HG hkc
    have z3 : decide ((k : Int) < (ps.length : Int)) = false := decide_eq_false (by omega)
    have z4 : decide (k < ps.length) = false := decide_eq_false (by omega)
    have z5 : (k < ps.length) = False := eq_false (by omega)
    go_wp2_with fail
    refine (nameOf HNM.out wr).mono ?_
    rintro y w2 ⟨u, rfl, hu, hb⟩
    have HW2 : Hid (Below w.heap.size w w2) := HW.out.trans (hb.mono HW.out.size)
    have hus : u.size ≤ 62 := by rw [size_len, hu]; exact nameT_sz HNM.out
    have d0 := HW2.out.cell (p := ⟨g, off, none⟩) hg
    rw [c0] at d0
    have hg2 : g < w2.heap.size := Nat.lt_of_lt_of_le hg HW2.out.size
    have HU := hd hu
    clear hb hu e0 e1 e3 c0 c1 c3
    rcases hkd with rfl | rfl | rfl | rfl | rfl | rfl
    · have s1 : (⟨#[67, 82, 69, 65, 84, 69, 32, 84, 65, 66, 76, 69, 32]⟩ ++ u : ByteArray).size ≤ 75 := by rw [ByteArray.size_append]; show 13 + u.size ≤ _; omega
      have s2 : (⟨#[67, 82, 69, 65, 84, 69, 32, 84, 65, 66, 76, 69, 32]⟩ ++ u ++ ⟨#[32, 40]⟩ : ByteArray).size ≤ 77 := by rw [ByteArray.size_append]; show (⟨#[67, 82, 69, 65, 84, 69, 32, 84, 65, 66, 76, 69, 32]⟩ ++ u : ByteArray).size + 2 ≤ _; omega
      have s3 : (⟨#[67, 82, 69, 65, 84, 69, 32, 84, 65, 66, 76, 69, 32]⟩ ++ u ++ ⟨#[32, 40]⟩ ++ t1 : ByteArray).size ≤ 200000077 := by rw [ByteArray.size_append]; show (⟨#[67, 82, 69, 65, 84, 69, 32, 84, 65, 66, 76, 69, 32]⟩ ++ u ++ ⟨#[32, 40]⟩ : ByteArray).size + t1.size ≤ _; omega
      go_wp2_with fail
      go_ret
      exact ⟨_, rfl, by simp [app_l, HU.out, HG2.out, Px.txtS, Px.kCREATE, Px.kTABLE, Px.kDROP, Px.kINSERT, Px.kINTO, Px.kVALUES, Px.kDELETE, Px.kFROM, Px.kUPDATE, Px.kSET, Px.kSELECT], HW2.out⟩
    · go_wp2_with fail
      go_ret
      exact ⟨_, rfl, by simp [app_l, HU.out, HG2.out, Px.txtS, Px.kCREATE, Px.kTABLE, Px.kDROP, Px.kINSERT, Px.kINTO, Px.kVALUES, Px.kDELETE, Px.kFROM, Px.kUPDATE, Px.kSET, Px.kSELECT], HW2.out⟩
    · have s1 : (⟨#[73, 78, 83, 69, 82, 84, 32, 73, 78, 84, 79, 32]⟩ ++ u : ByteArray).size ≤ 74 := by rw [ByteArray.size_append]; show 12 + u.size ≤ _; omega
      have s2 : (⟨#[73, 78, 83, 69, 82, 84, 32, 73, 78, 84, 79, 32]⟩ ++ u ++ ⟨#[32, 86, 65, 76, 85, 69, 83, 32]⟩ : ByteArray).size ≤ 82 := by rw [ByteArray.size_append]; show (⟨#[73, 78, 83, 69, 82, 84, 32, 73, 78, 84, 79, 32]⟩ ++ u : ByteArray).size + 8 ≤ _; omega
      go_wp2_with fail
      go_ret
      exact ⟨_, rfl, by simp [app_l, HU.out, HG2.out, Px.txtS, Px.kCREATE, Px.kTABLE, Px.kDROP, Px.kINSERT, Px.kINTO, Px.kVALUES, Px.kDELETE, Px.kFROM, Px.kUPDATE, Px.kSET, Px.kSELECT], HW2.out⟩
    · have s1 : (⟨#[68, 69, 76, 69, 84, 69, 32, 70, 82, 79, 77, 32]⟩ ++ u : ByteArray).size ≤ 74 := by rw [ByteArray.size_append]; show 12 + u.size ≤ _; omega
      go_wp2_with fail
      go_ret
      exact ⟨_, rfl, by simp [app_l, HU.out, HG2.out, Px.txtS, Px.kCREATE, Px.kTABLE, Px.kDROP, Px.kINSERT, Px.kINTO, Px.kVALUES, Px.kDELETE, Px.kFROM, Px.kUPDATE, Px.kSET, Px.kSELECT], HW2.out⟩
    · have s1 : (⟨#[85, 80, 68, 65, 84, 69, 32]⟩ ++ u : ByteArray).size ≤ 69 := by rw [ByteArray.size_append]; show 7 + u.size ≤ _; omega
      have s2 : (⟨#[85, 80, 68, 65, 84, 69, 32]⟩ ++ u ++ ⟨#[32, 83, 69, 84, 32]⟩ : ByteArray).size ≤ 74 := by rw [ByteArray.size_append]; show (⟨#[85, 80, 68, 65, 84, 69, 32]⟩ ++ u : ByteArray).size + 5 ≤ _; omega
      have s3 : (⟨#[85, 80, 68, 65, 84, 69, 32]⟩ ++ u ++ ⟨#[32, 83, 69, 84, 32]⟩ ++ t1 : ByteArray).size ≤ 200000074 := by rw [ByteArray.size_append]; show (⟨#[85, 80, 68, 65, 84, 69, 32]⟩ ++ u ++ ⟨#[32, 83, 69, 84, 32]⟩ : ByteArray).size + t1.size ≤ _; omega
      go_wp2_with fail
      go_ret
      exact ⟨_, rfl, by simp [app_l, HU.out, HG2.out, Px.txtS, Px.kCREATE, Px.kTABLE, Px.kDROP, Px.kINSERT, Px.kINTO, Px.kVALUES, Px.kDELETE, Px.kFROM, Px.kUPDATE, Px.kSET, Px.kSELECT], HW2.out⟩
    · have s1 : (⟨#[83, 69, 76, 69, 67, 84, 32]⟩ ++ t1 : ByteArray).size ≤ 200000007 := by rw [ByteArray.size_append]; show 7 + t1.size ≤ _; omega
      have s2 : (⟨#[83, 69, 76, 69, 67, 84, 32]⟩ ++ t1 ++ ⟨#[32, 70, 82, 79, 77, 32]⟩ : ByteArray).size ≤ 200000013 := by rw [ByteArray.size_append]; show (⟨#[83, 69, 76, 69, 67, 84, 32]⟩ ++ t1 : ByteArray).size + 6 ≤ _; omega
      have s3 : (⟨#[83, 69, 76, 69, 67, 84, 32]⟩ ++ t1 ++ ⟨#[32, 70, 82, 79, 77, 32]⟩ ++ u : ByteArray).size ≤ 200000075 := by rw [ByteArray.size_append]; show (⟨#[83, 69, 76, 69, 67, 84, 32]⟩ ++ t1 ++ ⟨#[32, 70, 82, 79, 77, 32]⟩ : ByteArray).size + u.size ≤ _; omega
      have s4 : (⟨#[83, 69, 76, 69, 67, 84, 32]⟩ ++ t1 ++ ⟨#[32, 70, 82, 79, 77, 32]⟩ ++ u ++ t3 : ByteArray).size ≤ 400000075 := by rw [ByteArray.size_append]; show (⟨#[83, 69, 76, 69, 67, 84, 32]⟩ ++ t1 ++ ⟨#[32, 70, 82, 79, 77, 32]⟩ ++ u : ByteArray).size + t3.size ≤ _; omega
      have s5 : (⟨#[83, 69, 76, 69, 67, 84, 32]⟩ ++ t1 ++ ⟨#[32, 70, 82, 79, 77, 32]⟩ ++ u ++ t3 ++ t2 : ByteArray).size ≤ 600000075 := by rw [ByteArray.size_append]; show (⟨#[83, 69, 76, 69, 67, 84, 32]⟩ ++ t1 ++ ⟨#[32, 70, 82, 79, 77, 32]⟩ ++ u ++ t3 : ByteArray).size + t2.size ≤ _; omega
      go_wp2_with fail
      go_ret
      exact ⟨_, rfl, by simp [app_l, HU.out, HG2.out, Px.txtS, Px.kCREATE, Px.kTABLE, Px.kDROP, Px.kINSERT, Px.kINTO, Px.kVALUES, Px.kDELETE, Px.kFROM, Px.kUPDATE, Px.kSET, Px.kSELECT], HW2.out⟩
end Rf
end Go.Proofs.YtkcakbgcfnhgaaaGreatDoor
