/- Parts of the proof: Rc Rd Sa Sb Sc Se Sf Sg Sh Si Bas Utf Val Dig -/
import Derived.Test.YtkcakbgcfnhgaaaGreatDoorX1
import Derived.Test.YtkcakbgcfnhgaaaGreatDoorRows
import Derived.WalkKit
import Derived.WalkSpells
import Derived.WalkLawsBesides
import Derived.Deep.Light
import Derived.Lib.Strings
import Derived.Lib.IndexBytes
import Derived.Laws.IdiomStrings
import Derived.BigQuiet
import Derived.Deep.QuietTactic
import Derived.Handy
import Derived.Lib.DecodeN
import Derived.Lib.RuneBytes
import Derived.Lib.ValidLaws
import Derived.Lib.IndexAny
import Derived.Lib.ItoaMem
import Derived.Lib.Replace
import Derived.Lib.CountLaws
namespace Go.Proofs.YtkcakbgcfnhgaaaGreatDoor
set_option linter.unusedSimpArgs false
set_option linter.unusedVariables false
set_option maxRecDepth 100000
set_option maxHeartbeats 16000000
open Go.RowKit
section
namespace Px
variable {α : Type}
def NAt (x : List Nd → Option (α × List Nd)) (n : Nat) (l0 : List Nd) (acc : List α) (k : Nat) (l : List Nd) : Prop := rN x n l0 = (rN x k l).map fun z => (acc ++ z.1, z.2)
theorem NAt.start (x : List Nd → Option (α × List Nd)) (n : Nat) (l : List Nd) : NAt x n l [] n l := by
 unfold NAt
 cases rN x n l <;> simp
theorem NAt.step {x : List Nd → Option (α × List Nd)} {n : Nat} {l0 : List Nd} {acc : List α} {k : Nat} {l l' : List Nd} {a : α} (h : NAt x n l0 acc (k + 1) l) (ha : x l = some (a, l')) : NAt x n l0 (acc ++ [a]) k l' := by
 unfold NAt at *
 rw [h]
 simp only [rN, ha, Option.bind_some]
 cases rN x k l' <;> simp
theorem NAt.fail {x : List Nd → Option (α × List Nd)} {n : Nat} {l0 : List Nd} {acc : List α} {k : Nat} {l : List Nd} (h : NAt x n l0 acc (k + 1) l) (ha : x l = none) : rN x n l0 = none := by
 unfold NAt at h
 rw [h]
 simp [rN, ha]
theorem NAt.done {x : List Nd → Option (α × List Nd)} {n : Nat} {l0 : List Nd} {acc : List α} {l : List Nd} (h : NAt x n l0 acc 0 l) : rN x n l0 = some (acc, l) := by
 unfold NAt at h
 rw [h]
 simp [rN]
def WAt (is : Int → Bool) (x : List Nd → Option (α × List Nd)) (n : Nat) (l0 : List Nd) (acc : List α) (k : Nat) (l : List Nd) : Prop := rW is x n l0 = (rW is x k l).map fun z => (acc ++ z.1, z.2)
theorem WAt.start (is : Int → Bool) (x : List Nd → Option (α × List Nd)) (n : Nat) (l : List Nd) : WAt is x n l [] n l := by
 unfold WAt
 cases rW is x n l <;> simp
theorem WAt.step {is : Int → Bool} {x : List Nd → Option (α × List Nd)} {n : Nat} {l0 : List Nd} {acc : List α} {k : Nat} {l l' : List Nd} {a : α} (h : WAt is x n l0 acc (k + 1) l) (hi : is (pkN l) = true) (ha : x l = some (a, l')) : WAt is x n l0 (acc ++ [a]) k l' := by
 unfold WAt at *
 rw [h]
 simp only [rW, hi, if_true, ha, Option.bind_some]
 cases rW is x k l' <;> simp
theorem WAt.fail {is : Int → Bool} {x : List Nd → Option (α × List Nd)} {n : Nat} {l0 : List Nd} {acc : List α} {k : Nat} {l : List Nd} (h : WAt is x n l0 acc (k + 1) l) (hi : is (pkN l) = true) (ha : x l = none) : rW is x n l0 = none := by
 unfold WAt at h
 rw [h]
 simp [rW, hi, ha]
theorem WAt.done {is : Int → Bool} {x : List Nd → Option (α × List Nd)} {n : Nat} {l0 : List Nd} {acc : List α} {k : Nat} {l : List Nd} (h : WAt is x n l0 acc k l) (hi : k = 0 ∨ is (pkN l) = false) : rW is x n l0 = some (acc, k, l) := by
 unfold WAt at h
 rw [h]
 cases k with
 | zero => simp [rW]
 | succ k =>
   have : is (pkN l) = false := by rcases hi with h | h; · cases h
                                   · exact h
   simp [rW, this]
end Px
end
section
namespace Px
open Lx (Bs)
def Eats {α : Type} (x : List Nd → Option (α × List Nd)) : Prop := ∀ l a r, x l = some (a, r) → r.length < l.length
theorem eats_E : ∀ f, Eats (rE f)
 | 0 => fun l a r h => by simp [rE] at h
 | f + 1 => fun l a r h => by
   match l, h with
   | [], h => simp [rE] at h
   | x :: q, h =>
     have ih := eats_E f
     unfold rE at h
     split at h
     · split at h
       · simp only [Option.map_eq_some_iff] at h
         obtain ⟨⟨e, r'⟩, h1, h2⟩ := h
         cases h2
         have := ih _ _ _ h1
         simp only [List.length_cons]
         omega
       · cases h
     · split at h
       · split at h
         · simp only [Option.bind_eq_some_iff, Option.map_eq_some_iff] at h
           obtain ⟨⟨e1, r1⟩, h1, ⟨e2, r2⟩, h2, h3⟩ := h
           cases h3
           have q1 := ih _ _ _ h1
           have q2 := ih _ _ _ h2
           simp only [List.length_cons] at *
           omega
         · cases h
       · simp only [Option.map_eq_some_iff] at h
         obtain ⟨e, _, h2⟩ := h
         cases h2
         simp
theorem rN_len {α : Type} {x : List Nd → Option (α × List Nd)} (hx : Eats x) : ∀ (n : Nat) (l : List Nd) (a : List α) (r : List Nd), rN x n l = some (a, r) → r.length + a.length ≤ l.length
 | 0, l, a, r, h => by
   simp only [rN, Option.some.injEq] at h
   cases h
   simp
 | n + 1, l, a, r, h => by
   simp only [rN, Option.bind_eq_some_iff, Option.map_eq_some_iff] at h
   obtain ⟨⟨e1, r1⟩, h1, ⟨e2, r2⟩, h2, h3⟩ := h
   cases h3
   have q1 := hx _ _ _ h1
   have q2 := rN_len hx n _ _ _ h2
   simp only [List.length_cons] at *
   omega
theorem eats_Row : Eats rRow := fun l a r h => by
 match l, h with
 | [], h => simp [rRow] at h
 | x :: q, h =>
   unfold rRow at h
   simp only at h
   split at h
   · have := rN_len (eats_E 40) _ _ _ _ h
     simp only [List.length_cons]
     omega
   · cases h
theorem eats_Set : Eats rSet := fun l a r h => by
 match l, h with
 | [], h => simp [rSet] at h
 | x :: q, h =>
   unfold rSet at h
   simp only at h
   split at h
   · simp only [Option.map_eq_some_iff] at h
     obtain ⟨⟨e, r'⟩, h1, h2⟩ := h
     cases h2
     have := eats_E 40 _ _ _ h1
     simp only [List.length_cons]
     omega
   · cases h
theorem eats_Order : Eats rOrder := fun l a r h => by
 match l, h with
 | [], h => simp [rOrder] at h
 | x :: q, h =>
   unfold rOrder at h
   simp only at h
   split at h
   · simp only [Option.map_eq_some_iff] at h
     obtain ⟨⟨e, r'⟩, h1, h2⟩ := h
     cases h2
     have := eats_E 40 _ _ _ h1
     simp only [List.length_cons]
     omega
   · cases h
theorem eats_Item : Eats rItem := fun l a r h => by
 match l, h with
 | [], h => simp [rItem] at h
 | x :: q, h =>
   unfold rItem at h
   simp only at h
   split at h
   · split at h
     · cases h; simp
     · cases h
   · simp only [Option.map_eq_some_iff] at h
     obtain ⟨⟨e, r'⟩, h1, h2⟩ := h
     cases h2
     exact eats_E 40 _ _ _ h1
end Px
end
namespace Lx
theorem valid_ascii : ∀ l : Bs, (∀ b ∈ l, 0 < b.toNat ∧ b.toNat < 128) → validN l = true
 | [], _ => rfl
 | b :: r, h => by
   have hb := h b (by simp)
   have hc : charN (b :: r) = 1 := by unfold charN; simp only; rw [if_pos hb.2]
   rw [validN_cons, hc, if_neg (by omega)]
   exact valid_ascii r (fun x hx => h x (by simp [hx]))
structure TokVal (t : Tok) : Prop where
 str : t.kind = 17 → validN t.text = true
 name : t.kind = 18 → validN t.text = true ∧ t.text ≠ []
theorem wd_low (b : UInt8) (h : isWd b = true) : 0 < (lowB b).toNat ∧ (lowB b).toNat < 128 := by
 simp only [isWd, isDig, isLet, Bool.or_eq_true, decide_eq_true_eq] at h
 unfold lowB
 split
 · rename_i h1
   have : (b + 32).toNat = b.toNat + 32 := by
     rw [UInt8.toNat_add]
     show (b.toNat + 32) % 256 = _
     omega
   omega
 · omega
theorem oneT_val {l : Bs} {k : Nat} {t : Bs} {n : Nat} (h : oneT l = .ok (k, t, n)) (p : Nat) : TokVal ⟨k, t, p⟩ := by
 unfold oneT at h
 split at h
 · simp at h
 · rename_i b r
   split at h
   · rename_i hlet
     split at h
     · simp only [Except.ok.injEq, Prod.mk.injEq] at h
       obtain ⟨rfl, rfl, rfl⟩ := h
       exact ⟨fun e => by simp at e, fun e => by simp at e⟩
     · simp only [Except.ok.injEq, Prod.mk.injEq] at h
       obtain ⟨rfl, rfl, rfl⟩ := h
       refine ⟨fun e => by simp at e, fun _ => ⟨?_, ?_⟩⟩
       · apply valid_ascii
         intro x hx
         obtain ⟨y, hy, rfl⟩ := List.mem_map.1 hx
         exact wd_low y (cnt_all isWd (b :: r) y hy)
       · have hw : isWd b = true := by unfold isWd; rw [hlet]; simp
         have := cnt_pos (r := r) hw
         intro e
         have e2 := congrArg List.length e
         simp only [List.length_map, List.length_take, List.length_nil, List.length_cons] at e2
         omega
   · split at h
     · split at h
       · simp at h
       · split at h
         · simp at h
         · simp only [Except.ok.injEq, Prod.mk.injEq] at h
           obtain ⟨rfl, rfl, rfl⟩ := h
           exact ⟨fun e => by simp at e, fun e => by simp at e⟩
     · split at h
       · split at h
         · simp at h
         · split at h
           · simp at h
           · rename_i hv
             simp only [Except.ok.injEq, Prod.mk.injEq] at h
             obtain ⟨rfl, rfl, rfl⟩ := h
             rename_i t' n' _
             have hv1 : validN t' = true := by
               cases hh : validN t' with
               | true => rfl
               | false => exact absurd (.inl hh) hv
             refine ⟨fun _ => hv1, fun e => ⟨hv1, fun e2 => ?_⟩⟩
             by_cases h34 : b.toNat = 34
             · exact hv (.inr ⟨h34, e2⟩)
             · simp only at e
               rw [if_neg h34] at e
               simp at e
       · split at h
         · simp only [Except.ok.injEq, Prod.mk.injEq] at h
           obtain ⟨rfl, rfl, rfl⟩ := h
           exact ⟨fun e => by simp at e, fun e => by simp at e⟩
         · split at h
           · simp only [Except.ok.injEq, Prod.mk.injEq] at h
             obtain ⟨rfl, rfl, rfl⟩ := h
             exact ⟨fun e => by simp at e, fun e => by simp at e⟩
           · simp at h
theorem lexM_val : ∀ (m : Nat) (l : Bs) (pos : Nat) (ts : List Tok), l.length ≤ m → lexM 0 pos l = .ok ts → ∀ t ∈ ts, TokVal t := by
 intro m
 induction m with
 | zero =>
   intro l pos ts hl h
   obtain rfl := List.length_eq_zero_iff.1 (Nat.le_zero.1 hl)
   simp only [lexM, Except.ok.injEq] at h
   subst h
   exact fun t ht => by cases ht
 | succ m ih =>
   intro l pos ts hl h
   cases l with
   | nil =>
     simp only [lexM, Except.ok.injEq] at h
     subst h
     exact fun t ht => by cases ht
   | cons b r =>
     rw [lexM_cons] at h
     split at h
     · simp at h
     · rename_i k t n h1
       have hn := oneT_len h1
       split at h
       · rename_i us h2
         simp only [Except.ok.injEq] at h
         subst h
         intro x hx
         rcases List.mem_cons.1 hx with rfl | hx
         · exact oneT_val h1 pos
         · refine ih _ _ _ ?_ h2 x hx
           simp only [List.length_drop, List.length_cons] at hl hn ⊢
           omega
       · simp at h
theorem lex_val {l : Bs} {ts : List Tok} (h : lex l = .ok ts) : ∀ t ∈ ts, TokVal t := by
 unfold lex at h
 split at h
 · simp at h
 · exact lexM_val _ _ _ _ (Nat.le_refl _) h
end Lx
section
namespace Px
open Lx (Bs Tok TokVal)
def NdGood (x : Nd) : Prop := (x.kind = 17 → Lx.validN x.text = true) ∧ (x.kind = 18 → isName x.text = true)
def AllV (ts : List Tok) : Prop := ∀ t ∈ ts, TokVal t
def AllG (l : List Nd) : Prop := ∀ x ∈ l, NdGood x
theorem AllV.tail {ts : List Tok} (h : AllV ts) : AllV ts.tail := fun t ht => h t (List.mem_of_mem_tail ht)
theorem AllG.over1 {k : Int} {l : List Nd} (h : AllG l) (hk : k ≠ 18) : AllG (over1 k l) := by
 intro x hx
 rcases List.mem_cons.1 hx with rfl | hx
 · exact ⟨fun _ => rfl, fun e => absurd e hk⟩
 · exact h x hx
theorem AllG.over2 {k : Int} {a b : List Nd} (ha : AllG a) (hb : AllG b) (hk : k ≠ 18) : AllG (over2 k a b) := by
 intro x hx
 rcases List.mem_cons.1 hx with rfl | hx
 · exact ⟨fun _ => rfl, fun e => absurd e hk⟩
 · rcases List.mem_append.1 hx with hx | hx
   · exact ha x hx
   · exact hb x hx
theorem AllG.num (z : Int) : AllG (leaf 16 [] z) := by
 intro x hx
 simp [leaf] at hx
 subst hx
 exact ⟨fun e => by simp at e, fun e => by simp at e⟩
theorem opIn_ne (lv : Nat) (s : Bs) : ∀ l : List (Nat × Bs × Nat), (∀ o ∈ l, o.2.2 ≠ 18) → opIn l lv s ≠ 18
 | [], _ => by simp [opIn]
 | o :: r, h => by
   unfold opIn
   split
   · exact h o (by simp)
   · exact opIn_ne lv s r (fun x hx => h x (by simp [hx]))
theorem oper_ne (l : Nat) (ts : List Tok) : ((oper l ts : Nat) : Int) ≠ 18 := by
 have : oper l ts ≠ 18 := by
   unfold oper
   split
   · simp
   · split
     · exact opIn_ne l _ opTab (by decide)
     · simp
 omega
theorem atom_good {sz : Nat} {ts q : List Tok} {b : List Nd} (h : atom sz ts = some (.ok (b, q))) (hv : AllV ts) : AllG b ∧ AllV q := by
 match ts, h, hv with
 | [], h, _ => simp [atom] at h
 | t :: r, h, hv =>
   have ht := hv t (by simp)
   have hr : AllV r := fun x hx => hv x (by simp [hx])
   unfold atom at h
   simp only at h
   repeat' split at h
   all_goals first
     | (cases h; done)
     | (cases h
        refine ⟨?_, hr⟩
        intro x hx
        simp [leaf] at hx
        subst hx
        refine ⟨fun e => ?_, fun e => ?_⟩
        all_goals first
          | (simp at e; done)
          | exact ht.str (by assumption)
          | skip
        all_goals
          have h18 := ht.name (by assumption)
          unfold isName
          rw [h18.1]
          have h30 : t.text.length ≤ 30 := by omega
          cases hh : t.text with
          | nil => exact absurd hh h18.2
          | cons c r' => rw [hh] at h30; simp at h30 ⊢; exact h30)
theorem ex_good {sz : Nat} : ∀ n m a ts b q, ex sz n m a ts = some (.ok (b, q)) → AllV ts → AllG a → AllG b ∧ AllV q := by
 intro n
 induction n with
 | zero => intro m a ts b q h; cases h
 | succ n ih =>
   intro m a ts b q h hv ha
   have nil : AllG [] := fun x hx => by cases hx
   unfold ex at h
   split at h
   · split at h
     · cases h; exact ⟨ha, hv⟩
     · rcases obind_some h with ⟨e, _, h2⟩ | ⟨b1, q1, h1, h2⟩
       · cases h2
       · have i1 := ih _ _ _ _ _ h1 hv.tail nil
         exact ih _ _ _ _ _ h2 i1.2 (ha.over2 i1.1 (oper_ne _ _))
   · split at h
     · split at h
       · rcases obind_some h with ⟨e, _, h2⟩ | ⟨b1, q1, h1, h2⟩
         · cases h2
         · cases h2
           have i1 := ih _ _ _ _ _ h1 hv.tail nil
           exact ⟨i1.1.over1 (by decide), i1.2⟩
       · exact ih _ _ _ _ _ h hv nil
     · split at h
       · rcases obind_some h with ⟨e, _, h2⟩ | ⟨b1, q1, h1, h2⟩
         · cases h2
         · have i1 := ih _ _ _ _ _ h1 hv nil
           unfold tail4 at h2
           split at h2
           · split at h2
             · rcases obind_some h2 with ⟨e, _, h3⟩ | ⟨b2, q2, h3, h4⟩
               · cases h3
               · cases h4
                 rcases must_some h3 with ⟨c6, h6⟩ | ⟨_, h6⟩
                 · cases h6
                   exact ⟨i1.1.over1 (by decide), i1.2.tail.tail.tail⟩
                 · cases h6
             · rcases obind_some h2 with ⟨e, _, h3⟩ | ⟨b2, q2, h3, h4⟩
               · cases h3
               · cases h4
                 rcases must_some h3 with ⟨c6, h6⟩ | ⟨_, h6⟩
                 · cases h6
                   exact ⟨i1.1.over1 (by decide), i1.2.tail.tail⟩
                 · cases h6
           · split at h2
             · cases h2; exact i1
             · rcases obind_some h2 with ⟨e, _, h3⟩ | ⟨b2, q2, h3, h4⟩
               · cases h3
               · cases h4
                 have i2 := ih _ _ _ _ _ h3 i1.2.tail nil
                 exact ⟨i1.1.over2 i2.1 (oper_ne _ _), i2.2⟩
       · split at h
         · split at h
           · split at h
             · cases h
               exact ⟨AllG.num _, hv.tail.tail⟩
             · rcases obind_some h with ⟨e, _, h2⟩ | ⟨b1, q1, h1, h2⟩
               · cases h2
               · have i1 := ih _ _ _ _ _ h1 hv.tail nil
                 unfold negate at h2
                 split at h2
                 · cases h2
                   exact ⟨i1.1.over1 (by decide), i1.2⟩
                 · split at h2
                   · cases h2
                     exact ⟨i1.1.over1 (by decide), i1.2⟩
                   · split at h2
                     · cases h2
                     · cases h2
                       exact ⟨AllG.num _, i1.2⟩
           · exact ih _ _ _ _ _ h hv nil
         · split at h
           · split at h
             · rcases obind_some h with ⟨e, _, h2⟩ | ⟨b1, q1, h1, h2⟩
               · cases h2
               · have i1 := ih _ _ _ _ _ h1 hv.tail nil
                 rcases obind_some h2 with ⟨e, _, h3⟩ | ⟨b2, q2, h3, h4⟩
                 · cases h3
                 · cases h4
                   rcases must_some h3 with ⟨c7, h7⟩ | ⟨_, h7⟩
                   · cases h7
                     exact ⟨i1.1, i1.2.tail⟩
                   · cases h7
             · exact atom_good h hv
           · rcases obind_some h with ⟨e, _, h2⟩ | ⟨b1, q1, h1, h2⟩
             · cases h2
             · have i1 := ih _ _ _ _ _ h1 hv nil
               exact ih _ _ _ _ _ h2 i1.2 i1.1
theorem E.good_of : ∀ e : E, AllG e.nodes → e.good
 | .null, _ => trivial
 | .bool _, _ => trivial
 | .num _, _ => trivial
 | .str s, h => (h ⟨17, s, 0, 0⟩ (by simp [E.nodes, leaf])).1 rfl
 | .nm s, h => (h ⟨18, s, 0, 0⟩ (by simp [E.nodes, leaf])).2 rfl
 | .un k e, h => E.good_of e (fun x hx => h x (by simp [E.nodes, over1, hx]))
 | .bin k a b, h => ⟨E.good_of a (fun x hx => h x (by simp [E.nodes, over2, hx])), E.good_of b (fun x hx => h x (by simp [E.nodes, over2, hx]))⟩
theorem exR_good {sz : Nat} {ts q : List Tok} {e : E} (h : exR sz ts (.ok (e, q))) (hv : AllV ts) : e.good ∧ AllV q ∧ e.ok 2000 := by
 obtain ⟨⟨n, hn⟩, h2⟩ := h
 have := ex_good n 1 [] ts e.nodes q hn hv (fun x hx => by cases hx)
 exact ⟨E.good_of e this.1, this.2, (h2 e q rfl).1⟩
theorem nameR_good {sz : Nat} {ts q : List Tok} {s : Bs} (h : nameR sz ts (.ok (s, q))) (hv : AllV ts) : isName s = true ∧ AllV q := by
 unfold nameR name at h
 split at h
 · cases h
 · rename_i t r
   split at h
   · cases h
   · rename_i hk
     split at h
     · cases h
     · rename_i hl
       cases h
       have h18 := (hv t (by simp)).name (by simpa using hk)
       refine ⟨?_, fun x hx => hv x (by simp [hx])⟩
       unfold isName
       rw [h18.1]
       cases hh : t.text with
       | nil => exact absurd hh h18.2
       | cons c r' => rw [hh] at hl; simp at hl ⊢; omega
end Px
end
section
namespace Px
open Lx (Bs Tok TokVal)
variable {α β : Type}
def RgP (x : Rg α) (P : α → Prop) : Prop := ∀ ts a q, x ts (.ok (a, q)) → AllV ts → P a ∧ AllV q
theorem RgP.seq {x : Rg α} {f : α → Rg β} {P : α → Prop} {Q : β → Prop} (hx : RgP x P) (hf : ∀ a, P a → RgP (f a) Q) : RgP (Rg.seq x f) Q := by
 rintro ts b q ⟨r1, h1, h2⟩ hv
 match r1, h1, h2 with
 | .error e, h1, h2 => cases h2
 | .ok (a, q1), h1, h2 =>
   obtain ⟨p1, p2⟩ := hx ts a q1 h1 hv
   exact hf a p1 q1 b q h2 p2
theorem RgP.ret {a : α} {P : α → Prop} (h : P a) : RgP (Rg.ret a) P := by
 intro ts b q h1 hv
 cases h1
 exact ⟨h, hv⟩
theorem RgP.must (sz : Nat) (s : Bs) : RgP (mustR sz s) fun _ => True := by
 intro ts a q h hv
 rcases must_some h with ⟨_, h2⟩ | ⟨_, h2⟩
 · cases h2; exact ⟨trivial, hv.tail⟩
 · cases h2
theorem RgP.name (sz : Nat) : RgP (nameR sz) fun s => isName s = true := fun ts a q h hv => nameR_good h hv
theorem RgP.ex (sz : Nat) : RgP (exR sz) fun e => e.good ∧ e.ok 2000 := fun ts a q h hv => by
 have := exR_good h hv
 exact ⟨⟨this.1, this.2.2⟩, this.2.1⟩
theorem reach_good {x : Nat → Rg α} {P : α → Prop} (hx : ∀ i, RgP (x i) P) {ts : List Tok} {l : List α} {q : List Tok} (h : Reach x ts l q) (hv : AllV ts) : (l ≠ [] ∧ ∀ a ∈ l, P a) ∧ AllV q := by
 induction h with
 | first h1 =>
   have := hx 0 _ _ _ h1 hv
   exact ⟨⟨by simp, fun a ha => by simp at ha; subst ha; exact this.1⟩, this.2⟩
 | step h1 h2 h3 ih =>
   have := hx _ _ _ _ h3 ih.2.tail
   refine ⟨⟨by simp, fun a ha => ?_⟩, this.2⟩
   rcases List.mem_append.1 ha with ha | ha
   · exact ih.1.2 a ha
   · simp at ha; subst ha; exact this.1
theorem RgP.sep {x : Nat → Rg α} {P : α → Prop} (hx : ∀ i, RgP (x i) P) : RgP (Sep x) fun l => l ≠ [] ∧ ∀ a ∈ l, P a := by
 intro ts l q h hv
 cases h with
 | stop h1 h2 => exact reach_good hx h1 hv
def WhOk (o : Option E) : Prop := ∀ e ∈ o.toList, e.good ∧ e.ok 2000
theorem RgP.where (sz : Nat) : RgP (whereR sz) WhOk := by
 intro ts a q h hv
 unfold whereR at h
 split at h
 · exact (RgP.seq (RgP.ex sz) (fun e he => RgP.ret (P := WhOk) (by intro e' h'; simp at h'; subst h'; exact he))) _ _ _ h hv.tail
 · cases h
   exact ⟨fun e he => (by simp at he), hv⟩
theorem RgP.mono {x : Rg α} {P Q : α → Prop} (hx : RgP x P) (h : ∀ a, P a → Q a) : RgP x Q := fun ts a q h1 hv => ⟨h a (hx ts a q h1 hv).1, (hx ts a q h1 hv).2⟩
theorem RgP.kind (sz : Nat) : RgP (kindR sz) fun k => 1 ≤ k ∧ k ≤ 3 := by
 intro ts a q h hv
 unfold kindR at h
 split at h
 · cases h; exact ⟨by omega, hv.tail⟩
 · split at h
   · cases h; exact ⟨by omega, hv.tail⟩
   · exact (RgP.seq (RgP.must sz _) (fun _ _ => RgP.ret (P := fun k => 1 ≤ k ∧ k ≤ 3) (by omega))) _ _ _ h hv
def ColOk (x : Bs × Nat) : Prop := isName x.1 = true ∧ 1 ≤ x.2 ∧ x.2 ≤ 7 ∧ x.2 ≠ 4
theorem RgP.null (sz : Nat) (n : Bs) (k : Nat) (hn : isName n = true) (hk : 1 ≤ k ∧ k ≤ 3) : RgP (nullR sz n k) ColOk := by
 intro ts a q h hv
 unfold nullR at h
 split at h
 · exact (RgP.seq (RgP.must sz _) (fun _ _ => RgP.ret (P := ColOk) ⟨hn, by simp only; omega, by simp only; omega, by simp only; omega⟩)) _ _ _ h hv.tail
 · cases h
   exact ⟨⟨hn, by simp only; omega, by simp only; omega, by simp only; omega⟩, hv⟩
theorem RgP.col (sz i : Nat) : RgP (colR sz i) fun x => ColOk x ∧ i < 6 := by
 intro ts a q h hv
 unfold colR at h
 refine (RgP.seq (Q := fun x => ColOk x ∧ i < 6) (f := fun n q r => if 6 ≤ i then r = .error (plc sz ts, 4) else Rg.seq (kindR sz) (nullR sz n) q r) (RgP.name sz) (fun n hn => ?_)) _ _ _ h hv
 intro ts2 b q2 h2 hv2
 split at h2
 · cases h2
 · rename_i hi
   have := (RgP.seq (RgP.kind sz) (fun k hk => RgP.null sz n k hn hk)) _ _ _ h2 hv2
   exact ⟨⟨this.1, by omega⟩, this.2⟩
def StOk (s : St) : Prop := s.Fit ∧ ∀ e ∈ s.exprs, e.good
theorem RgP.colsep (sz : Nat) : RgP (Sep (colR sz)) fun l => (l ≠ [] ∧ ∀ a ∈ l, ColOk a) ∧ l.length ≤ 6 := by
 intro ts l q h hv
 cases h with
 | stop h1 h2 =>
   have := reach_good (P := ColOk) (fun i => (RgP.col sz i).mono fun a ha => ha.1) h1 hv
   refine ⟨⟨this.1, ?_⟩, this.2⟩
   have key : ∀ {l : List (Bs × Nat)} {q : List Tok}, Reach (colR sz) ts l q → l.length ≤ 6 := by
     intro l q h
     induction h with
     | first _ => simp
     | step h1 h2 h3 ih =>
       rename_i l' q' a' q''
       have hv' := (reach_good (P := ColOk) (fun i => (RgP.col sz i).mono fun a ha => ha.1) h1 hv).2
       have := (RgP.col sz _ _ _ _ h3 hv'.tail).1.2
       simp only [List.length_append, List.length_singleton]
       omega
   exact key h1
theorem stmtR_ok (sz : Nat) : RgP (stmtR sz) StOk := by
 intro ts s q h hv
 unfold stmtR at h
 split at h
 · exact (RgP.seq (RgP.must sz _) fun _ _ => RgP.seq (RgP.name sz) fun t ht => RgP.seq (RgP.must sz _) fun _ _ => RgP.seq (RgP.colsep sz) fun l hl => RgP.seq (RgP.must sz _) fun _ _ => RgP.ret (a := St.create t l) (P := StOk)
     ⟨⟨fun e he => (by simp [St.exprs] at he), ht, List.length_pos_iff.2 hl.1.1, hl.2, hl.1.2⟩, fun e he => (by simp [St.exprs] at he)⟩) _ _ _ h hv.tail
 · split at h
   · exact (RgP.seq (RgP.must sz _) fun _ _ => RgP.seq (RgP.name sz) fun t ht => RgP.ret (a := St.drop t) (P := StOk) ⟨⟨fun e he => (by simp [St.exprs] at he), ht⟩, fun e he => (by simp [St.exprs] at he)⟩) _ _ _ h hv.tail
   · split at h
     · have hrow : RgP (rowR sz) fun l => l ≠ [] ∧ ∀ e ∈ l, e.good ∧ e.ok 2000 := RgP.seq (RgP.must sz _) fun _ _ => RgP.seq (RgP.sep fun _ => RgP.ex sz) fun l hl => RgP.seq (RgP.must sz _) fun _ _ => RgP.ret hl
       refine (RgP.seq (RgP.must sz _) fun _ _ => RgP.seq (RgP.name sz) fun t ht => RgP.seq (RgP.must sz _) fun _ _ => RgP.seq (RgP.sep fun _ => hrow) fun l hl => RgP.ret (a := St.insert t l) (P := StOk) ⟨⟨?_, ht, hl.1, fun x hx => (hl.2 x hx).1⟩, ?_⟩) _ _ _ h hv.tail
       · intro e he
         obtain ⟨r, hr, her⟩ := List.mem_flatten.1 he
         exact ((hl.2 r hr).2 e her).2
       · intro e he
         obtain ⟨r, hr, her⟩ := List.mem_flatten.1 he
         exact ((hl.2 r hr).2 e her).1
     · split at h
       · exact (RgP.seq (RgP.must sz _) fun _ _ => RgP.seq (RgP.name sz) fun t ht => RgP.seq (RgP.where sz) fun w hw => RgP.ret (a := St.delete t w) (P := StOk) ⟨⟨fun e he => (hw e he).2, ht⟩, fun e he => (hw e he).1⟩) _ _ _ h hv.tail
       · split at h
         · have hset : RgP (setR sz) fun x => isName x.1 = true ∧ x.2.good ∧ x.2.ok 2000 := RgP.seq (RgP.name sz) fun n hn => RgP.seq (RgP.must sz _) fun _ _ => RgP.seq (RgP.ex sz) fun e he => RgP.ret ⟨hn, he⟩
           refine (RgP.seq (RgP.name sz) fun t ht => RgP.seq (RgP.must sz _) fun _ _ => RgP.seq (RgP.sep fun _ => hset) fun l hl => RgP.seq (RgP.where sz) fun w hw => RgP.ret (a := St.update t l w) (P := StOk) ⟨⟨?_, ht, hl.1, fun x hx => (hl.2 x hx).1⟩, ?_⟩) _ _ _ h hv.tail
           · intro e he
             rcases List.mem_append.1 he with he | he
             · obtain ⟨x, hx, rfl⟩ := List.mem_map.1 he
               exact (hl.2 x hx).2.2
             · exact (hw e he).2
           · intro e he
             rcases List.mem_append.1 he with he | he
             · obtain ⟨x, hx, rfl⟩ := List.mem_map.1 he
               exact (hl.2 x hx).2.1
             · exact (hw e he).1
         · have hitem : RgP (itemR sz) WhOk := by
             intro ts a q h hv
             unfold itemR at h
             split at h
             · cases h
               exact ⟨fun e he => (by simp at he), hv.tail⟩
             · exact (RgP.seq (RgP.ex sz) (fun e he => RgP.ret (P := WhOk) (by intro e' h'; simp at h'; subst h'; exact he))) _ _ _ h hv
           have hdesc : ∀ e : E, (e.good ∧ e.ok 2000) → RgP (descR e) fun x => x.1.good ∧ x.1.ok 2000 := by
             intro e he ts a q h hv
             unfold descR at h
             split at h
             · cases h; exact ⟨he, hv.tail⟩
             · split at h
               · cases h; exact ⟨he, hv.tail⟩
               · cases h; exact ⟨he, hv⟩
           have hords : RgP (ordersR sz) fun l => ∀ x ∈ l, x.1.good ∧ x.1.ok 2000 := by
             intro ts a q h hv
             unfold ordersR at h
             split at h
             · exact ((RgP.seq (RgP.must sz _) fun _ _ => (RgP.sep fun _ => RgP.seq (RgP.ex sz) hdesc).mono fun l hl => hl.2)) _ _ _ h hv.tail
             · cases h
               exact ⟨fun x hx => (by cases hx), hv⟩
           have hlim : RgP (limR sz) fun l => ∀ n, l = some n → n ≤ 1000000000 := by
             intro ts a q h hv
             unfold limR at h
             split at h
             · refine (RgP.seq (P := fun n => n ≤ 1000000000) (Q := fun l => ∀ n, l = some n → n ≤ 1000000000) (x := fun ts r => limit sz ts = some r) ?_ fun n hn => RgP.ret (by intro m hm; cases hm; exact hn)) _ _ _ h hv.tail
               intro ts2 n q2 h2 hv2
               unfold limit at h2
               split at h2
               · cases h2
               · split at h2
                 · cases h2
                 · split at h2
                   · cases h2
                   · rename_i hx
                     cases h2
                     exact ⟨by omega, fun x hx => hv2 x (by simp [hx])⟩
             · cases h
               exact ⟨fun n hn => (by cases hn), hv⟩
           refine (RgP.seq (RgP.must sz _) fun _ _ => RgP.seq (RgP.sep fun _ => hitem) fun i hi => RgP.seq (RgP.must sz _) fun _ _ => RgP.seq (RgP.name sz) fun t ht => RgP.seq (RgP.where sz) fun w hw => RgP.seq hords fun o ho => RgP.seq hlim fun l hl => RgP.ret (a := St.select i t w o l) (P := StOk) ⟨⟨?_, ht, hi.1, hl⟩, ?_⟩) _ _ _ h hv
           · intro e he
             simp only [St.exprs, List.mem_append, List.mem_filterMap, id, List.mem_map] at he
             rcases he with (⟨x, hx, rfl⟩ | he) | ⟨x, hx, rfl⟩
             · exact (hi.2 (some e) hx e (by simp)).2
             · exact (hw e he).2
             · exact (ho x hx).2
           · intro e he
             simp only [St.exprs, List.mem_append, List.mem_filterMap, id, List.mem_map] at he
             rcases he with (⟨x, hx, rfl⟩ | he) | ⟨x, hx, rfl⟩
             · exact (hi.2 (some e) hx e (by simp)).1
             · exact (hw e he).1
             · exact (ho x hx).1
theorem parse_fit {s : Bs} {st : St} (h : ParseR s (.ok st)) : st.Fit ∧ (∀ e ∈ st.exprs, e.good) ∧ deepest st.exprs ≤ 40 := by
 unfold ParseR at h
 cases hl : Lx.lex s with
 | error e => rw [hl] at h; cases h
 | ok ts =>
   rw [hl] at h
   obtain ⟨q, h1, h2⟩ := h
   match q, h1, h2 with
   | .error e, h1, h2 => cases h2
   | .ok (a, u), h1, h2 =>
     have hs := (stmtR_ok s.length ts a u h1 (Lx.lex_val hl)).1
     simp only at h2
     split at h2
     · split at h2
       · cases h2
       · rename_i hd
         cases h2
         exact ⟨hs.1, hs.2, by omega⟩
     · cases h2
end Px
end
section
namespace Px
open Lx (Bs Tok)
def rl (t : Tok) : Nat := if t.kind = 17 then (dbl 39 t.text).length else if t.kind = 18 then (nameT t.text).length else t.text.length
def rls : List Tok → Nat
 | [] => 0
 | t :: r => rl t + rls r
theorem betw_flat (m : UInt8) : ∀ (l t : Bs) (n : Nat), Lx.betw m l = some (t, n) → (t.flatMap fun b => if b = m then [b, b] else [b]).length + 1 = n
 | [], t, n, h => by simp [Lx.betw] at h
 | [b], t, n, h => by
   simp only [Lx.betw] at h
   split at h
   · simp at h; obtain ⟨rfl, rfl⟩ := h; simp
   · simp at h
 | b :: c :: r, t, n, h => by
   unfold Lx.betw at h
   split at h
   · split at h
     · simp only [Option.map_eq_some_iff, Prod.exists, Prod.mk.injEq] at h
       obtain ⟨t', n', h1, rfl, rfl⟩ := h
       have := betw_flat m r t' n' h1
       rw [List.flatMap_cons, if_pos rfl, List.length_append]
       simp only [List.length_cons, List.length_nil]
       omega
     · simp at h; obtain ⟨rfl, rfl⟩ := h; simp
   · rename_i hb
     simp only [Option.map_eq_some_iff, Prod.exists, Prod.mk.injEq] at h
     obtain ⟨t', n', h1, rfl, rfl⟩ := h
     have := betw_flat m (c :: r) t' n' h1
     rw [List.flatMap_cons, if_neg hb, List.length_append]
     simp only [List.length_cons, List.length_nil]
     omega
theorem nameT_le (s : Bs) : (nameT s).length ≤ (dbl 34 s).length := by
 unfold nameT
 split
 · rw [dbl_len]
   have : ∀ s : Bs, s.length ≤ (s.flatMap fun b => if b = 34 then [b, b] else [b]).length := by
     intro s
     induction s with
     | nil => simp
     | cons b s ih =>
       rw [List.flatMap_cons, List.length_append, List.length_cons]
       have : 1 ≤ (if b = 34 then [b, b] else [b]).length := by split <;> simp
       omega
   have := this s
   omega
 · exact Nat.le_refl _
theorem low_low (b : UInt8) : Lx.lowB (Lx.lowB b) = Lx.lowB b := by
 have : ∀ n : Fin 256, Lx.lowB (Lx.lowB (UInt8.ofNat n.val)) = Lx.lowB (UInt8.ofNat n.val) := by decide +kernel
 have h := this ⟨b.toNat, b.toNat_lt⟩
 simpa using h
theorem up_low (b : UInt8) : Lx.upB (Lx.lowB b) = Lx.upB b := by
 have : ∀ n : Fin 256, Lx.upB (Lx.lowB (UInt8.ofNat n.val)) = Lx.upB (UInt8.ofNat n.val) := by decide +kernel
 have h := this ⟨b.toNat, b.toNat_lt⟩
 simpa using h
theorem wd_lowB (b : UInt8) : Lx.isWd (Lx.lowB b) = Lx.isWd b ∧ Lx.isLet (Lx.lowB b) = Lx.isLet b := by
 have : ∀ n : Fin 256, Lx.isWd (Lx.lowB (UInt8.ofNat n.val)) = Lx.isWd (UInt8.ofNat n.val) ∧ Lx.isLet (Lx.lowB (UInt8.ofNat n.val)) = Lx.isLet (UInt8.ofNat n.val) := by decide +kernel
 have h := this ⟨b.toNat, b.toNat_lt⟩
 simpa using h
theorem cnt_full' (p : UInt8 → Bool) : ∀ l : Bs, (∀ b ∈ l, p b = true) → Lx.cnt p l = l.length
 | [], _ => rfl
 | b :: l, h => by
   simp only [Lx.cnt, List.length_cons]
   rw [if_pos (h b (by simp)), cnt_full' p l (fun x hx => h x (by simp [hx]))]
theorem bare_low (b : UInt8) (r : Bs) (hl : Lx.isLet b = true) (hk : Lx.hasB Lx.keys (((b :: r).take (Lx.cnt Lx.isWd (b :: r))).map Lx.upB) = false) : lowWord (((b :: r).take (Lx.cnt Lx.isWd (b :: r))).map Lx.lowB) = true := by
 have hw : Lx.isWd b = true := by unfold Lx.isWd; rw [hl]; simp
 have hp := Lx.cnt_pos (r := r) hw
 have hall := Lx.cnt_all Lx.isWd (b :: r)
 generalize hx : (b :: r).take (Lx.cnt Lx.isWd (b :: r)) = x at *
 obtain ⟨y, hy⟩ : ∃ y, x = b :: y := by
   rw [← hx]
   obtain ⟨k, hk⟩ : ∃ k, Lx.cnt Lx.isWd (b :: r) = k + 1 := ⟨_, (Nat.succ_pred_eq_of_pos hp).symm⟩
   rw [hk, List.take_succ_cons]
   exact ⟨_, rfl⟩
 have e1 : (x.map Lx.lowB).map Lx.upB = x.map Lx.upB := by rw [List.map_map]; exact List.map_congr_left fun c _ => up_low c
 have e2 : (x.map Lx.lowB).map Lx.lowB = x.map Lx.lowB := by rw [List.map_map]; exact List.map_congr_left fun c _ => low_low c
 have e3 : Lx.cnt Lx.isWd (x.map Lx.lowB) = (x.map Lx.lowB).length := cnt_full' _ _ (fun c hc => by
   obtain ⟨z, hz, rfl⟩ := List.mem_map.1 hc
   rw [(wd_lowB z).1]
   exact hall z hz)
 unfold lowWord
 rw [e1, e2, e3, hk]
 subst hy
 simp [(wd_lowB b).2, hl]
theorem oneT_rl {l : Bs} {k : Nat} {t : Bs} {n : Nat} (h : Lx.oneT l = .ok (k, t, n)) (p : Nat) : rl ⟨k, t, p⟩ ≤ n := by
 unfold Lx.oneT at h
 split at h
 · simp at h
 · rename_i b r
   split at h
   · rename_i hlet
     split at h
     · simp only [Except.ok.injEq, Prod.mk.injEq] at h
       obtain ⟨rfl, rfl, rfl⟩ := h
       simp [rl]
       omega
     · rename_i hk
       simp only [Except.ok.injEq, Prod.mk.injEq] at h
       obtain ⟨rfl, rfl, rfl⟩ := h
       have hb := bare_low b r hlet (by simpa using hk)
       unfold rl
       simp only
       rw [if_neg (by decide), if_pos (by trivial)]
       unfold nameT
       rw [if_pos hb]
       simp
       omega
   · split at h
     · split at h
       · simp at h
       · split at h
         · simp at h
         · simp only [Except.ok.injEq, Prod.mk.injEq] at h
           obtain ⟨rfl, rfl, rfl⟩ := h
           have := Lx.leastB_le ((b :: r).take (Lx.cnt Lx.isDig (b :: r)))
           simp [rl] at this ⊢
           omega
     · split at h
       · rename_i hq
         split at h
         · simp at h
         · rename_i t' n' hbt
           split at h
           · simp at h
           · simp only [Except.ok.injEq, Prod.mk.injEq] at h
             obtain ⟨rfl, rfl, rfl⟩ := h
             have hf := betw_flat b r _ _ hbt
             unfold rl
             simp only
             by_cases h34 : b.toNat = 34
             · have : b = 34 := UInt8.toNat_inj.1 h34
               subst this
               rw [if_neg (by simp), if_pos (by simp)]
               have := nameT_le t'
               rw [dbl_len] at this
               omega
             · have : b = 39 := UInt8.toNat_inj.1 (by simp; omega)
               subst this
               rw [if_pos (by simp), dbl_len]
               omega
       · split at h
         · simp only [Except.ok.injEq, Prod.mk.injEq] at h
           obtain ⟨rfl, rfl, rfl⟩ := h
           simp [rl]
           omega
         · split at h
           · simp only [Except.ok.injEq, Prod.mk.injEq] at h
             obtain ⟨rfl, rfl, rfl⟩ := h
             simp [rl]
           · simp at h
theorem lexM_rl : ∀ (m : Nat) (l : Bs) (pos : Nat) (ts : List Tok), l.length ≤ m → Lx.lexM 0 pos l = .ok ts → rls ts ≤ l.length := by
 intro m
 induction m with
 | zero =>
   intro l pos ts hl h
   obtain rfl := List.length_eq_zero_iff.1 (Nat.le_zero.1 hl)
   simp only [Lx.lexM, Except.ok.injEq] at h
   subst h
   simp [rls]
 | succ m ih =>
   intro l pos ts hl h
   cases l with
   | nil =>
     simp only [Lx.lexM, Except.ok.injEq] at h
     subst h
     simp [rls]
   | cons b r =>
     rw [Lx.lexM_cons] at h
     split at h
     · simp at h
     · rename_i k t n h1
       have hn := Lx.oneT_len h1
       have hr := oneT_rl h1 pos
       split at h
       · rename_i us h2
         simp only [Except.ok.injEq] at h
         subst h
         have := ih _ _ _ (by simp only [List.length_drop, List.length_cons] at hl hn ⊢; omega) h2
         simp only [rls, List.length_drop, List.length_cons] at this hl hn ⊢
         omega
       · simp at h
theorem lex_rl {l : Bs} {ts : List Tok} (h : Lx.lex l = .ok ts) : rls ts ≤ l.length := by
 unfold Lx.lex at h
 split at h
 · simp at h
 · have := lexM_rl _ _ _ _ (Nat.le_refl _) h
   simp only [List.length_drop] at this
   omega
def pls : List PT → Nat
 | [] => 0
 | t :: r => t.out.length + 1 + pls r
theorem pls_app (a b : List PT) : pls (a ++ b) = pls a + pls b := by
 induction a with
 | nil => simp [pls]
 | cons t a ih => simp only [List.cons_append, pls, ih]; omega
theorem render_pls : ∀ l : List PT, (render l).length ≤ pls l
 | [] => by simp [render, pls]
 | [a] => by simp [render, pls]
 | a :: b :: r => by
   have := render_pls (b :: r)
   simp only [render, pls, List.length_append] at this ⊢
   have : (gap a b).length ≤ 1 := by unfold gap; split <;> simp
   omega
end Px
end
section
namespace Px
open Lx (Bs Tok)
def E.kd : E → Prop
 | .un k e => 19 ≤ k ∧ k ≤ 22 ∧ e.kd
 | .bin k a b => 23 ≤ k ∧ k ≤ 36 ∧ a.kd ∧ b.kd
 | _ => True
theorem E.kd_of {n : Nat} : ∀ e : E, e.ok n → e.kd
 | .un k e, h => ⟨h.1, h.2.1, E.kd_of e h.2.2.2⟩
 | .bin k a b, h => ⟨h.1, h.2.1, E.kd_of a h.2.2.1, E.kd_of b h.2.2.2⟩
 | .null, _ => trivial
 | .bool _, _ => trivial
 | .num _, _ => trivial
 | .str _, _ => trivial
 | .nm _, _ => trivial
theorem E.nodes_inj (a : E) : ∀ (b : E) (r s : List Nd), a.kd → b.kd → a.nodes ++ r = b.nodes ++ s → a = b ∧ r = s := by
 induction a with
 | un k a ih =>
   intro b r s ha hb h
   have := ha.1; have := ha.2.1
   cases b with
   | un k' b =>
     simp [E.nodes, over1] at h
     obtain ⟨h1, h2⟩ := ih b r s ha.2.2 hb.2.2 h.2
     have : k = k' := by omega
     exact ⟨by rw [this, h1], h2⟩
   | bin k' x y => have := hb.1; simp [E.nodes, over1, over2] at h
   | _ => simp [E.nodes, over1, leaf] at h
 | bin k a1 a2 ih1 ih2 =>
   intro b r s ha hb h
   have := ha.1; have := ha.2.1
   cases b with
   | un k' b => have := hb.2.1; simp [E.nodes, over1, over2] at h
   | bin k' x y =>
     simp [E.nodes, over2] at h
     obtain ⟨h1, h2⟩ := ih1 x _ _ ha.2.2.1 hb.2.2.1 h.2
     obtain ⟨h3, h4⟩ := ih2 y _ _ ha.2.2.2 hb.2.2.2 h2
     have : k = k' := by omega
     exact ⟨by rw [this, h1, h3], h4⟩
   | _ => simp [E.nodes, over2, leaf] at h
 | bool x =>
   intro b r s ha hb h
   cases b with
   | bool y =>
     simp [E.nodes, leaf] at h
     refine ⟨?_, h.2⟩
     cases x <;> cases y <;> simp at h ⊢
   | _ => simp [E.nodes, leaf, over1, over2] at h
 | _ =>
   intro b r s ha hb h
   cases b <;> simp [E.nodes, leaf, over1, over2] at h ⊢ <;> first | exact h | (obtain ⟨h1, h2⟩ := h; exact ⟨h1, h2⟩)
def cst (e : E) (m : Nat) : Nat := pls (brkT e.lvl m e.pt)
theorem cst_is (e : E) (m : Nat) : cst e m = pls e.pt + (if e.lvl < m then 4 else 0) := by
 unfold cst brkT
 split
 · simp [pls, pls_app, sgT]; omega
 · simp
theorem cst_mono (e : E) {m n : Nat} (h : m ≤ n) : cst e m ≤ cst e n := by
 rw [cst_is, cst_is]
 split <;> split <;> omega
theorem sees_rls {s : Bs} {ts : List Tok} (h : sees s ts = true) : rls ts = s.length + rls ts.tail := by
 cases ts with
 | nil => simp [sees] at h
 | cons t r =>
   simp only [sees, Bool.and_eq_true, Bool.or_eq_true, decide_eq_true_eq, beq_iff_eq] at h
   obtain ⟨h1, rfl⟩ := h
   simp only [rls, List.tail_cons, rl]
   rw [if_neg (by omega), if_neg (by omega)]
theorem opIn_is (L : Nat) (s : Bs) (h : opIn opTab L s ≠ 0) : 23 ≤ opIn opTab L s ∧ opIn opTab L s ≤ 36 ∧ (sgnT (opIn opTab L s : Nat)).1 = s ∧ (sgnT (opIn opTab L s : Nat)).2 = L := by
 have key : ∀ l : List (Nat × Bs × Nat), (∀ o ∈ l, 23 ≤ o.2.2 ∧ o.2.2 ≤ 36 ∧ (sgnT (o.2.2 : Nat)).1 = o.2.1 ∧ (sgnT (o.2.2 : Nat)).2 = o.1) → opIn l L s ≠ 0 → 23 ≤ opIn l L s ∧ opIn l L s ≤ 36 ∧ (sgnT (opIn l L s : Nat)).1 = s ∧ (sgnT (opIn l L s : Nat)).2 = L := by
   intro l
   induction l with
   | nil => intro _ h; simp [opIn] at h
   | cons o l ih =>
     intro ho h
     unfold opIn at h ⊢
     split
     · rename_i hc
       have := ho o (by simp)
       rw [hc.1, hc.2] at this
       exact this
     · rename_i hc
       rw [if_neg hc] at h
       exact ih (fun x hx => ho x (by simp [hx])) h
 exact key opTab (by decide) h
theorem oper_is {L : Nat} {ts : List Tok} (h : oper L ts ≠ 0) : 23 ≤ oper L ts ∧ oper L ts ≤ 36 ∧ (sgnT (oper L ts : Nat)).2 = L ∧ rls ts = (sgnT (oper L ts : Nat)).1.length + rls ts.tail := by
 cases ts with
 | nil => simp [oper] at h
 | cons t r =>
   unfold oper at h ⊢
   simp only at h ⊢
   split at h
   · rename_i hk
     rw [if_pos hk]
     obtain ⟨h1, h2, h3, h4⟩ := opIn_is L t.text h
     refine ⟨h1, h2, h4, ?_⟩
     rw [h3]
     simp only [rls, List.tail_cons, rl]
     rw [if_neg (by omega), if_neg (by omega)]
   · exact absurd rfl h
theorem decF_len : ∀ (f n k : Nat), n < 10 ^ k → 1 ≤ k → (decF f n).length ≤ k
 | 0, n, k, _, _ => by simp [decF]
 | f + 1, n, k, h, hk => by
   unfold decF
   split
   · simp; omega
   · rename_i hn
     obtain ⟨k', rfl⟩ : ∃ k', k = k' + 1 := ⟨k - 1, by omega⟩
     have hk' : 1 ≤ k' := by
       rcases Nat.eq_zero_or_pos k' with rfl | h'
       · simp at h; omega
       · exact h'
     have := decF_len f (n / 10) k' (by rw [Nat.pow_succ] at h; omega) hk'
     simp only [List.length_append, List.length_singleton]
     omega
theorem dig_len {s : Bs} (hn : s ≠ []) (hd : ∀ b ∈ s, Lx.isDig b = true) : (decF 20 (dval s)).length ≤ s.length := by
 have := dfold_pow s 0 hd
 rw [← dval_fold] at this
 exact decF_len 20 _ _ (by omega) (by cases s with
   | nil => exact absurd rfl hn
   | cons => simp)
abbrev AllT (ts : List Tok) : Prop := ∀ t ∈ ts, Lx.TokOk t
theorem AllT.tail {ts : List Tok} (h : AllT ts) : AllT ts.tail := fun t ht => h t (List.mem_of_mem_tail ht)
theorem nameT_pos (s : Bs) : 1 ≤ (nameT s).length := by
 unfold nameT
 split
 · rename_i h
   cases s with
   | nil => simp [lowWord] at h
   | cons => simp
 · rw [dbl_len]; omega
theorem rl_50 {t : Tok} (h : t.kind = 50) : rl t = t.text.length := by
 unfold rl
 rw [if_neg (by omega), if_neg (by omega)]
theorem rl_16 {t : Tok} (h : t.kind = 16) : rl t = t.text.length := by
 unfold rl
 rw [if_neg (by omega), if_neg (by omega)]
theorem atom_len4 {sz : Nat} {ts q : List Tok} {b : List Nd} (h : atom sz ts = some (.ok (b, q))) (hv : AllT ts) : ∃ e : E, e.kd ∧ b = e.nodes ∧ cst e 9 + 2 + 4 * rls q ≤ 4 * rls ts := by
 match ts, h, hv with
 | [], h, _ => simp [atom] at h
 | t :: r, h, hv =>
   have ht := hv t (by simp)
   unfold atom at h
   simp only at h
   split at h
   · rename_i hk
     split at h
     · cases h
     · cases h
       obtain ⟨h1, h2, h3⟩ := ht.digs hk
       refine ⟨.num (dval t.text), trivial, rfl, ?_⟩
       have hl : (E.num (dval t.text : Nat)).lvl = 9 := by simp only [E.lvl]; rw [if_neg (by omega)]
       have hp : pls (E.num (dval t.text : Nat)).pt = (decF 20 (dval t.text)).length + 1 := by
         simp only [E.pt]
         rw [if_neg (by omega)]
         simp [pls, dgT]
       rw [cst_is, hl, hp]
       have := dig_len h1 h2
       have h4 : 1 ≤ t.text.length := by cases hh : t.text with
         | nil => exact absurd hh h1
         | cons => simp
       simp only [rls, rl_16 hk]
       rw [if_neg (by omega)]
       omega
   · split at h
     · rename_i hk
       cases h
       refine ⟨.str t.text, trivial, rfl, ?_⟩
       rw [cst_is]
       simp only [rls, rl, E.lvl, E.pt, pls, stT]
       rw [if_pos hk, dbl_len]
       simp
       omega
     · split at h
       · rename_i hk
         split at h
         · cases h
         · cases h
           refine ⟨.nm t.text, trivial, rfl, ?_⟩
           rw [cst_is]
           have := nameT_pos t.text
           simp only [rls, rl, E.lvl, E.pt, pls, nmT]
           rw [if_neg (by omega), if_pos hk]
           simp
           omega
       · split at h
         · split at h
           · rename_i hk hx
             cases h
             refine ⟨.null, trivial, rfl, ?_⟩
             rw [cst_is]
             simp only [rls, rl_50 hk, hx, E.lvl, E.pt, pls, kwT]
             simp [kNULL]
             omega
           · split at h
             · rename_i hk _ hx
               cases h
               refine ⟨.bool true, trivial, rfl, ?_⟩
               rw [cst_is]
               simp only [rls, rl_50 hk, hx, E.lvl, E.pt, pls, kwT]
               simp [kTRUE]
               omega
             · split at h
               · rename_i hk _ _ hx
                 cases h
                 refine ⟨.bool false, trivial, rfl, ?_⟩
                 rw [cst_is]
                 simp only [rls, rl_50 hk, hx, E.lvl, E.pt, pls, kwT]
                 simp [kFALSE]
                 omega
               · cases h
         · cases h
end Px
end
section
namespace Px
open Lx (Bs Tok)
theorem opT_len (k : Nat) : (opT k).out.length = (sgnT k).1.length := by unfold opT; split <;> rfl
theorem cst_bin (k : Nat) (a b : E) (m : Nat) (h : m ≤ (sgnT k).2) : cst (.bin k a b) m = cst a (leftOf k) + ((sgnT k).1.length + 1) + cst b ((sgnT k).2 + 1) := by
 rw [cst_is]
 have hl : (E.bin k a b).lvl = (sgnT k).2 := rfl
 rw [hl, if_neg (by omega)]
 simp only [E.pt, pls_app, pls, opT_len]
 show pls (brkT a.lvl (leftOf k) a.pt) + _ + 0 = pls (brkT a.lvl (leftOf k) a.pt) + _ + pls (brkT b.lvl ((sgnT k).2 + 1) b.pt)
 omega
theorem negate_len4 {p : Nat} {b b' : List Nd} {q q' : List Tok} (h : negate p b q = some (.ok (b', q'))) (e : E) (hk : e.kd) (hb : b = e.nodes) : q' = q ∧ ∃ e' : E, e'.kd ∧ b' = e'.nodes ∧ cst e' 8 ≤ cst e 8 + 2 := by
 have other : e.isNum = false → q' = q ∧ ∃ e' : E, e'.kd ∧ b' = e'.nodes ∧ cst e' 8 ≤ cst e 8 + 2 := by
   intro hn
   have hne : negate p e.nodes q = some (.ok ((E.un 19 e).nodes, q)) := by
     cases e with
     | num z => simp [E.isNum] at hn
     | un k e =>
       have := hk.1; have := hk.2.1
       simp only [E.nodes, over1, negate]
       rw [if_pos (by omega)]; rfl
     | bin k a b =>
       have := hk.1; have := hk.2.1
       simp only [E.nodes, over2, negate]
       rw [if_pos (by omega)]; rfl
     | _ =>
       simp only [E.nodes, leaf, negate]
       rw [if_pos (by decide)]; rfl
   rw [hb, hne] at h
   cases h
   refine ⟨rfl, .un 19 e, ⟨by omega, by omega, hk⟩, rfl, ?_⟩
   rw [cst_is]
   have hl : (E.un 19 e).lvl = 8 := rfl
   rw [hl, if_neg (by omega)]
   show pls (mnT :: brkT e.lvl 8 e.pt) + 0 ≤ pls (brkT e.lvl 8 e.pt) + 2
   simp [pls, mnT]
   omega
 cases e with
 | num z =>
   subst hb
   rw [negate_num] at h
   split at h
   · cases h
   · cases h
     refine ⟨rfl, .num (-z), trivial, rfl, ?_⟩
     have e8 : ∀ z : Int, cst (.num z) 8 = pls (E.num z).pt := by
       intro z
       rw [cst_is]
       have : ¬ (E.num z).lvl < 8 := by simp only [E.lvl]; split <;> omega
       rw [if_neg this]; rfl
     rw [e8, e8]
     simp only [E.pt, Int.natAbs_neg]
     split <;> split <;> simp [pls, mnT] <;> omega
 | _ => exact other rfl
theorem ex_len4 {sz : Nat} : ∀ n m a ts b q, ex sz n m a ts = some (.ok (b, q)) → AllT ts → AllT q ∧
   (1 ≤ m → m ≤ 9 → ∃ e : E, e.kd ∧ b = e.nodes ∧ cst e m + 2 + 4 * rls q ≤ 4 * rls ts) ∧
   (10 ≤ m → LeftL (m - 10) → ∀ ea : E, ea.kd → a = ea.nodes → ∃ e : E, e.kd ∧ b = e.nodes ∧ cst e (m - 10) + 4 * rls q ≤ cst ea (m - 10) + 4 * rls ts) := by
 intro n
 induction n with
 | zero => intro m a ts b q h; cases h
 | succ n ih =>
   intro m a ts b q h hv
   unfold ex at h
   split at h
   · rename_i hm
     split at h
     · cases h
       exact ⟨hv, fun _ _ => by omega, fun _ _ ea hk he => ⟨ea, hk, he, Nat.le_refl _⟩⟩
     · rename_i hop
       rcases obind_some h with ⟨e, _, h2⟩ | ⟨b1, q1, h1, h2⟩
       · cases h2
       · have i1 := ih _ _ _ _ _ h1 hv.tail
         have i2 := ih _ _ _ _ _ h2 i1.1
         refine ⟨i2.1, fun _ _ => by omega, fun _ hL ea hk he => ?_⟩
         obtain ⟨e1, k1, n1, c1⟩ := i1.2.1 (by omega) (by unfold LeftL at hL; omega)
         obtain ⟨o1, o2, o3, o4⟩ := oper_is hop
         obtain ⟨e2, k2, n2, c2⟩ := i2.2.2 hm hL (.bin (oper (m - 10) ts) ea e1) ⟨o1, o2, hk, k1⟩ (by rw [he, n1]; rfl)
         refine ⟨e2, k2, n2, ?_⟩
         rw [cst_bin _ _ _ _ (by omega)] at c2
         have hl : leftOf (oper (m - 10) ts) = m - 10 := by unfold leftOf; rw [o3, if_neg (by unfold LeftL at hL; omega)]
         rw [hl, o3] at c2
         have : m - 9 = m - 10 + 1 := by omega
         rw [this] at c1
         omega
   · rename_i hm
     suffices hx : AllT q ∧ (1 ≤ m → ∃ e : E, e.kd ∧ b = e.nodes ∧ cst e m + 2 + 4 * rls q ≤ 4 * rls ts) from ⟨hx.1, fun a _ => hx.2 a, fun h10 => absurd h10 hm⟩
     refine ⟨?_, fun h1 => ?_⟩
     all_goals
       split at h
       · rename_i m3
         subst m3
         split at h
         · rename_i hs
           rcases obind_some h with ⟨e, _, h2⟩ | ⟨b1, q1, h1, h2⟩
           · cases h2
           · cases h2
             have i1 := ih _ _ _ _ _ h1 hv.tail
             first
               | exact i1.1
               | (obtain ⟨e1, k1, n1, c1⟩ := i1.2.1 (by omega) (by omega)
                  have := sees_rls hs
                  refine ⟨.un 20 e1, ⟨by omega, by omega, k1⟩, by rw [n1]; rfl, ?_⟩
                  rw [cst_is]
                  have hl : (E.un 20 e1).lvl = 3 := rfl
                  have hp : pls (E.un 20 e1).pt = 4 + cst e1 3 := rfl
                  rw [hl, hp, if_neg (by omega)]
                  have : kNOT.length = 3 := rfl
                  omega)
         · have i1 := ih _ _ _ _ _ h hv
           first
             | exact i1.1
             | (obtain ⟨e1, k1, n1, c1⟩ := i1.2.1 (by omega) (by omega)
                have := cst_mono e1 (m := 3) (n := 4) (by omega)
                exact ⟨e1, k1, n1, by omega⟩)
       · split at h
         · rename_i m4
           subst m4
           rcases obind_some h with ⟨e, _, h2⟩ | ⟨b1, q1, h1, h2⟩
           · cases h2
           · have i1 := ih _ _ _ _ _ h1 hv
             unfold tail4 at h2
             split at h2
             · rename_i hi
               split at h2
               · rename_i hn
                 rcases obind_some h2 with ⟨e, _, h3⟩ | ⟨b2, q2, h3, h4⟩
                 · cases h3
                 · cases h4
                   rcases must_some h3 with ⟨c6, h6⟩ | ⟨_, h6⟩
                   · cases h6
                     first
                       | exact i1.1.tail.tail.tail
                       | (obtain ⟨e1, k1, n1, c1⟩ := i1.2.1 (by omega) (by omega)
                          have r1 := sees_rls hi
                          have r2 := sees_rls hn
                          have r3 := sees_rls c6
                          refine ⟨.un 22 e1, ⟨by omega, by omega, k1⟩, by rw [n1]; rfl, ?_⟩
                          rw [cst_is]
                          have hl : (E.un 22 e1).lvl = 4 := rfl
                          have hp : pls (E.un 22 e1).pt = cst e1 5 + 12 := by
                            show pls (brkT e1.lvl 5 e1.pt ++ _) = _
                            rw [pls_app]; rfl
                          rw [hl, hp, if_neg (by omega)]
                          have : kNOT.length = 3 := rfl
                          have : kIS.length = 2 := rfl
                          have : kNULL.length = 4 := rfl
                          omega)
                   · cases h6
               · rcases obind_some h2 with ⟨e, _, h3⟩ | ⟨b2, q2, h3, h4⟩
                 · cases h3
                 · cases h4
                   rcases must_some h3 with ⟨c6, h6⟩ | ⟨_, h6⟩
                   · cases h6
                     first
                       | exact i1.1.tail.tail
                       | (obtain ⟨e1, k1, n1, c1⟩ := i1.2.1 (by omega) (by omega)
                          have r1 := sees_rls hi
                          have r3 := sees_rls c6
                          refine ⟨.un 21 e1, ⟨by omega, by omega, k1⟩, by rw [n1]; rfl, ?_⟩
                          rw [cst_is]
                          have hl : (E.un 21 e1).lvl = 4 := rfl
                          have hp : pls (E.un 21 e1).pt = cst e1 5 + 8 := by
                            show pls (brkT e1.lvl 5 e1.pt ++ _) = _
                            rw [pls_app]; rfl
                          rw [hl, hp, if_neg (by omega)]
                          have : kIS.length = 2 := rfl
                          have : kNULL.length = 4 := rfl
                          omega)
                   · cases h6
             · split at h2
               · cases h2
                 first
                   | exact i1.1
                   | (obtain ⟨e1, k1, n1, c1⟩ := i1.2.1 (by omega) (by omega)
                      have := cst_mono e1 (m := 4) (n := 5) (by omega)
                      exact ⟨e1, k1, n1, by omega⟩)
               · rename_i hop
                 rcases obind_some h2 with ⟨e, _, h3⟩ | ⟨b2, q2, h3, h4⟩
                 · cases h3
                 · cases h4
                   have i2 := ih _ _ _ _ _ h3 i1.1.tail
                   first
                     | exact i2.1
                     | (obtain ⟨e1, k1, n1, c1⟩ := i1.2.1 (by omega) (by omega)
                        obtain ⟨e2, k2, n2, c2⟩ := i2.2.1 (by omega) (by omega)
                        obtain ⟨o1, o2, o3, o4⟩ := oper_is hop
                        refine ⟨.bin (oper 4 q1) e1 e2, ⟨o1, o2, k1, k2⟩, by rw [n1, n2]; rfl, ?_⟩
                        rw [cst_bin _ _ _ _ (by omega)]
                        have hl : leftOf (oper 4 q1) = 5 := by unfold leftOf; rw [o3, if_pos rfl]
                        rw [hl, o3]
                        have c2 : cst e2 (4 + 1) + 2 + 4 * rls q ≤ 4 * rls q1.tail := c2
                        omega)
         · split at h
           · rename_i m8
             subst m8
             split at h
             · rename_i hs
               have r1 := sees_rls hs
               have : gMinus.length = 1 := rfl
               split at h
               · rename_i ht
                 cases h
                 first
                   | exact hv.tail.tail
                   | (refine ⟨.num bot, trivial, rfl, ?_⟩
                      have hc : cst (.num bot) 8 = 22 := by decide
                      rw [hc]
                      have h2 : rls ts.tail = 19 + rls ts.tail.tail := by
                        cases hh : ts.tail with
                        | nil => rw [hh] at ht; simp [isTop] at ht
                        | cons t r =>
                          rw [hh] at ht
                          simp only [isTop, Bool.and_eq_true, decide_eq_true_eq, beq_iff_eq] at ht
                          simp only [rls, List.tail_cons, rl_16 ht.1, ht.2]
                          rfl
                      omega)
               · rcases obind_some h with ⟨e, _, h2⟩ | ⟨b1, q1, h1, h2⟩
                 · cases h2
                 · have i1 := ih _ _ _ _ _ h1 hv.tail
                   obtain ⟨e1, k1, n1, c1⟩ := i1.2.1 (by omega) (by omega)
                   obtain ⟨rfl, e2, k2, n2, c2⟩ := negate_len4 h2 e1 k1 n1
                   first
                     | exact i1.1
                     | exact ⟨e2, k2, n2, by omega⟩
             · have i1 := ih _ _ _ _ _ h hv
               first
                 | exact i1.1
                 | (obtain ⟨e1, k1, n1, c1⟩ := i1.2.1 (by omega) (by omega)
                    have := cst_mono e1 (m := 8) (n := 9) (by omega)
                    exact ⟨e1, k1, n1, by omega⟩)
           · split at h
             · rename_i m9
               subst m9
               split at h
               · rename_i hs
                 rcases obind_some h with ⟨e, _, h2⟩ | ⟨b1, q1, h1, h2⟩
                 · cases h2
                 · have i1 := ih _ _ _ _ _ h1 hv.tail
                   rcases obind_some h2 with ⟨e, _, h3⟩ | ⟨b2, q2, h3, h4⟩
                   · cases h3
                   · cases h4
                     rcases must_some h3 with ⟨c7, h7⟩ | ⟨_, h7⟩
                     · cases h7
                       first
                         | exact i1.1.tail
                         | (obtain ⟨e1, k1, n1, c1⟩ := i1.2.1 (by omega) (by omega)
                            have r1 := sees_rls hs
                            have r2 := sees_rls c7
                            have : gOpen.length = 1 := rfl
                            have : gShut.length = 1 := rfl
                            refine ⟨e1, k1, n1, ?_⟩
                            rw [cst_is] at c1 ⊢
                            split <;> split at c1 <;> omega)
                     · cases h7
               · first
                   | exact atom_len4 h hv
                   | (unfold atom at h
                      cases ts with
                      | nil => simp at h
                      | cons t r =>
                        have hr : AllT r := hv.tail
                        simp only at h
                        repeat' split at h
                        all_goals first | (cases h; done) | (cases h; exact hr))
             · rcases obind_some h with ⟨e, _, h2⟩ | ⟨b1, q1, h1', h2⟩
               · cases h2
               · have i1 := ih _ _ _ _ _ h1' hv
                 have i2 := ih _ _ _ _ _ h2 i1.1
                 rename_i m3 m4 m8 m9
                 clear h h2 h1'
                 first
                   | exact i2.1
                   | (have hm9 : m + 1 ≤ 9 := by clear i1 i2; omega
                      have hLL : LeftL m := by clear i1 i2; unfold LeftL; omega
                      obtain ⟨e1, k1, n1, c1⟩ := i1.2.1 (Nat.le_add_left 1 m) hm9
                      obtain ⟨e2, k2, n2, c2⟩ := i2.2.2 (Nat.le_add_left 10 m) (by rw [Nat.add_sub_cancel]; exact hLL) e1 k1 n1
                      have e10 : m + 10 - 10 = m := Nat.add_sub_cancel m 10
                      rw [e10] at c2
                      have := cst_mono e1 (m := m) (n := m + 1) (Nat.le_succ m)
                      exact ⟨e2, k2, n2, by clear i1 i2; omega⟩)
end Px
end
section
namespace Px
open Lx (Bs Tok)
variable {α : Type}
def RgL (x : Rg α) (f : α → Nat) : Prop := ∀ ts a q, x ts (.ok (a, q)) → AllT ts → AllT q ∧ f a + 4 * rls q ≤ 4 * rls ts
theorem RgL.ex (sz : Nat) : RgL (exR sz) fun e => pls e.pt + 2 := by
 intro ts e q h hv
 obtain ⟨⟨n, hn⟩, h2⟩ := h
 have i := ex_len4 n 1 [] ts e.nodes q hn hv
 obtain ⟨e', k', n', c'⟩ := i.2.1 (by omega) (by omega)
 have := (E.nodes_inj e e' [] [] (E.kd_of e (h2 e q rfl).1) k' (by rw [n'])).1
 subst this
 refine ⟨i.1, ?_⟩
 rw [cst_is] at c'
 clear i
 show pls e.pt + 2 + 4 * rls q ≤ 4 * rls ts
 omega
theorem RgL.name (sz : Nat) : RgL (nameR sz) fun s => (nameT s).length + 3 := by
 intro ts s q h hv
 unfold nameR Px.name at h
 split at h
 · cases h
 · rename_i t r
   split at h
   · cases h
   · rename_i hk
     split at h
     · cases h
     · cases h
       refine ⟨hv.tail, ?_⟩
       have := nameT_pos t.text
       simp only [rls, rl]
       rw [if_neg (by omega), if_pos (by omega)]
       omega
theorem must_l4 {sz : Nat} {s : Bs} {ts q : List Tok} {u : Unit} (h : mustR sz s ts (.ok (u, q))) (hv : AllT ts) : AllT q ∧ rls ts = s.length + rls q := by
 rcases must_some h with ⟨c, h2⟩ | ⟨_, h2⟩
 · cases h2; exact ⟨hv.tail, sees_rls c⟩
 · cases h2
theorem sepT_snoc (a : List PT) : ∀ l : List (List PT), l ≠ [] → pls (sepT (l ++ [a])) = pls (sepT l) + 2 + pls a
 | [x], _ => by simp [sepT, pls, pls_app, sgT]; omega
 | x :: y :: r, _ => by
   have := sepT_snoc a (y :: r) (by simp)
   simp only [List.cons_append, sepT, pls_app, pls] at this ⊢
   omega
theorem reach_l4 {x : Nat → Rg α} {pt : α → List PT} (hx : ∀ i, RgL (x i) fun a => pls (pt a) + 2) {ts : List Tok} {l : List α} {q : List Tok} (h : Reach x ts l q) (hv : AllT ts) : AllT q ∧ l ≠ [] ∧ pls (sepT (l.map pt)) + 2 + 4 * rls q ≤ 4 * rls ts := by
 induction h with
 | first h1 =>
   have := hx 0 _ _ _ h1 hv
   exact ⟨this.1, by simp, by simp only [List.map_cons, List.map_nil, sepT]; exact this.2⟩
 | step h1 h2 h3 ih =>
   have i2 := hx _ _ _ _ h3 ih.1.tail
   have r := sees_rls h2
   refine ⟨i2.1, by simp, ?_⟩
   rw [List.map_append, List.map_singleton, sepT_snoc _ _ (by simp [ih.2.1])]
   have := ih.2.2
   have := i2.2
   have : gComma.length = 1 := rfl
   simp only at *
   omega
theorem RgL.sep {x : Nat → Rg α} {pt : α → List PT} (hx : ∀ i, RgL (x i) fun a => pls (pt a) + 2) : RgL (Sep x) fun l => pls (sepT (l.map pt)) + 2 := by
 intro ts l q h hv
 cases h with
 | stop h1 h2 =>
   have := reach_l4 hx h1 hv
   exact ⟨this.1, this.2.2⟩
theorem RgL.row (sz : Nat) : RgL (rowR sz) fun l => pls (rowT l) + 2 := by
 intro ts l q h hv
 obtain ⟨u1, q1, h1, h⟩ := seq_okk h
 obtain ⟨v1, r1⟩ := must_l4 h1 hv
 obtain ⟨l', q2, h2, h⟩ := seq_okk h
 obtain ⟨v2, r2⟩ := RgL.sep (pt := E.pt) (fun _ => RgL.ex sz) _ _ _ h2 v1
 obtain ⟨u3, q3, h3, h⟩ := seq_okk h
 obtain ⟨v3, r3⟩ := must_l4 h3 v2
 cases h
 refine ⟨v3, ?_⟩
 simp only [rowT, pls, pls_app, sgT, List.length_cons, List.length_nil, gOpen, gShut] at *
 omega
theorem RgL.where (sz : Nat) : RgL (whereR sz) fun o => pls (whereT o) := by
 intro ts o q h hv
 unfold whereR at h
 split at h
 · rename_i hs
   have r1 := sees_rls hs
   obtain ⟨e, q1, h1, h⟩ := seq_okk h
   obtain ⟨v1, r2⟩ := RgL.ex sz _ _ _ h1 hv.tail
   cases h
   refine ⟨v1, ?_⟩
   simp only [whereT, pls, kwT, kWHERE, List.length_cons, List.length_nil] at *
   omega
 · cases h
   exact ⟨hv, by simp [whereT, pls]⟩
theorem RgL.set (sz : Nat) : RgL (setR sz) fun x => pls (setT x) + 2 := by
 intro ts x q h hv
 obtain ⟨s, q1, h1, h⟩ := seq_okk h
 obtain ⟨v1, r1⟩ := RgL.name sz _ _ _ h1 hv
 obtain ⟨u2, q2, h2, h⟩ := seq_okk h
 obtain ⟨v2, r2⟩ := must_l4 h2 v1
 obtain ⟨e, q3, h3, h⟩ := seq_okk h
 obtain ⟨v3, r3⟩ := RgL.ex sz _ _ _ h3 v2
 cases h
 refine ⟨v3, ?_⟩
 simp only [setT, pls, nmT, sgT, gEq, List.length_cons, List.length_nil] at *
 omega
theorem RgL.item (sz : Nat) : RgL (itemR sz) fun x => pls (itemT x) + 2 := by
 intro ts x q h hv
 unfold itemR at h
 split at h
 · rename_i hs
   have r1 := sees_rls hs
   cases h
   refine ⟨hv.tail, ?_⟩
   simp only [itemT, pls, sgT, gStar, List.length_cons, List.length_nil] at *
   omega
 · obtain ⟨e, q1, h1, h⟩ := seq_okk h
   obtain ⟨v1, r2⟩ := RgL.ex sz _ _ _ h1 hv
   cases h
   exact ⟨v1, r2⟩
theorem RgL.order (sz : Nat) : RgL (orderR sz) fun x => pls (orderT x) + 2 := by
 intro ts x q h hv
 obtain ⟨e, q1, h1, h⟩ := seq_okk h
 obtain ⟨v1, r1⟩ := RgL.ex sz _ _ _ h1 hv
 unfold descR at h
 split at h
 · rename_i hs
   have r2 := sees_rls hs
   cases h
   refine ⟨v1.tail, ?_⟩
   simp only [orderT, pls, pls_app, kwT, kDESC, List.length_cons, List.length_nil, if_true] at *
   omega
 · split at h
   · rename_i hs
     have r2 := sees_rls hs
     cases h
     refine ⟨v1.tail, ?_⟩
     simp only [orderT, pls, pls_app, kASC, List.length_cons, List.length_nil, Bool.false_eq_true, if_false] at *
     omega
   · cases h
     refine ⟨v1, ?_⟩
     simp only [orderT, pls, pls_app, Bool.false_eq_true, if_false] at *
     omega
theorem RgL.orders (sz : Nat) : RgL (ordersR sz) fun l => pls (ordersT l) := by
 intro ts l q h hv
 unfold ordersR at h
 split at h
 · rename_i hs
   have r1 := sees_rls hs
   obtain ⟨u2, q2, h2, h⟩ := seq_okk h
   obtain ⟨v2, r2⟩ := must_l4 h2 hv.tail
   obtain ⟨v3, r3⟩ := RgL.sep (pt := orderT) (fun _ => RgL.order sz) _ _ _ h v2
   refine ⟨v3, ?_⟩
   cases l with
   | nil => simp only [ordersT, pls, kORDER, kBY, List.length_cons, List.length_nil] at *; omega
   | cons o l =>
     simp only [ordersT, pls, kwT, kORDER, kBY, List.length_cons, List.length_nil] at *
     omega
 · cases h
   exact ⟨hv, by simp [ordersT, pls]⟩
theorem RgL.lim (sz : Nat) : RgL (limR sz) fun l => pls (limT l) := by
 intro ts l q h hv
 unfold limR at h
 split at h
 · rename_i hs
   have r1 := sees_rls hs
   obtain ⟨n, q1, h1, h⟩ := seq_okk h
   cases h
   have hv' := hv.tail
   generalize ts.tail = ts' at *
   unfold limit at h1
   split at h1
   · cases h1
   · rename_i t r
     split at h1
     · cases h1
     · rename_i hk
       split at h1
       · cases h1
       · cases h1
         refine ⟨hv'.tail, ?_⟩
         have hk : t.kind = 16 := by omega
         obtain ⟨d1, d2, d3⟩ := (hv' t (by simp)).digs hk
         have := dig_len d1 d2
         have h4 : 1 ≤ t.text.length := by cases hh : t.text with
           | nil => exact absurd hh d1
           | cons => simp
         simp only [rls, rl_16 hk] at r1
         simp only [limT, pls, kwT, dgT, kLIMIT, List.length_cons, List.length_nil] at *
         omega
 · cases h
   exact ⟨hv, by simp [limT, pls]⟩
theorem RgL.kind (sz : Nat) : RgL (kindR sz) fun k => (typeT k).length + 1 := by
 intro ts k q h hv
 unfold kindR at h
 split at h
 · rename_i hs
   have r1 := sees_rls hs
   cases h
   refine ⟨hv.tail, ?_⟩
   have : (typeT 1).length = 7 := rfl
   have : kINTEGER.length = 7 := rfl
   show (typeT 1).length + 1 + _ ≤ _
   omega
 · split at h
   · rename_i hs
     have r1 := sees_rls hs
     cases h
     refine ⟨hv.tail, ?_⟩
     have : (typeT 2).length = 4 := rfl
     have : kTEXT.length = 4 := rfl
     show (typeT 2).length + 1 + _ ≤ _
     omega
   · obtain ⟨u, q1, h1, h⟩ := seq_okk h
     obtain ⟨v1, r1⟩ := must_l4 h1 hv
     cases h
     refine ⟨v1, ?_⟩
     have : (typeT 3).length = 7 := rfl
     have : kBOOLEAN.length = 7 := rfl
     show (typeT 3).length + 1 + _ ≤ _
     omega
theorem kind_le {sz : Nat} {ts q : List Tok} {k : Nat} (h : kindR sz ts (.ok (k, q))) : 1 ≤ k ∧ k ≤ 3 := by
 unfold kindR at h
 split at h
 · cases h; omega
 · split at h
   · cases h; omega
   · obtain ⟨u, q1, h1, h⟩ := seq_okk h
     cases h; omega
theorem RgL.col (sz i : Nat) : RgL (colR sz i) fun x => pls (colT x) + 2 := by
 intro ts x q h hv
 unfold colR at h
 obtain ⟨s, q1, h1, h⟩ := seq_okk h
 obtain ⟨v1, r1⟩ := RgL.name sz _ _ _ h1 hv
 split at h
 · cases h
 · obtain ⟨k, q2, h2, h⟩ := seq_okk h
   obtain ⟨v2, r2⟩ := RgL.kind sz _ _ _ h2 v1
   have hk := kind_le h2
   unfold nullR at h
   split at h
   · rename_i hs
     have r3 := sees_rls hs
     obtain ⟨u, q3, h3, h⟩ := seq_okk h
     obtain ⟨v3, r4⟩ := must_l4 h3 v2.tail
     cases h
     refine ⟨v3, ?_⟩
     have ht : typeT (k + 4) = typeT k := by unfold typeT; rw [Nat.add_mod_right]
     simp only [colT]
     rw [if_pos (by omega), ht]
     simp only [pls, nmT, kwT, kNOT, kNULL, List.length_cons, List.length_nil] at *
     omega
   · cases h
     refine ⟨v2, ?_⟩
     simp only [colT]
     rw [if_neg (by omega)]
     simp only [pls, nmT, kwT] at *
     omega
theorem stmtR_l4 (sz : Nat) : RgL (stmtR sz) fun s => pls s.pt := by
 intro ts s q h hv
 unfold stmtR at h
 split at h
 · rename_i hs
   have r0 := sees_rls hs
   obtain ⟨u1, q1, h1, h⟩ := seq_okk h
   obtain ⟨v1, r1⟩ := must_l4 h1 hv.tail
   obtain ⟨t, q2, h2, h⟩ := seq_okk h
   obtain ⟨v2, r2⟩ := RgL.name sz _ _ _ h2 v1
   obtain ⟨u3, q3, h3, h⟩ := seq_okk h
   obtain ⟨v3, r3⟩ := must_l4 h3 v2
   obtain ⟨l, q4, h4, h⟩ := seq_okk h
   obtain ⟨v4, r4⟩ := RgL.sep (pt := colT) (fun i => RgL.col sz i) _ _ _ h4 v3
   obtain ⟨u5, q5, h5, h⟩ := seq_okk h
   obtain ⟨v5, r5⟩ := must_l4 h5 v4
   cases h
   refine ⟨v5, ?_⟩
   simp only [St.pt, pls, pls_app, kwT, sgT, nmT, kCREATE, kTABLE, gOpen, gShut, List.length_cons, List.length_nil] at *
   omega
 · split at h
   · rename_i hs
     have r0 := sees_rls hs
     obtain ⟨u1, q1, h1, h⟩ := seq_okk h
     obtain ⟨v1, r1⟩ := must_l4 h1 hv.tail
     obtain ⟨t, q2, h2, h⟩ := seq_okk h
     obtain ⟨v2, r2⟩ := RgL.name sz _ _ _ h2 v1
     cases h
     refine ⟨v2, ?_⟩
     simp only [St.pt, pls, pls_app, kwT, sgT, nmT, kDROP, kTABLE, List.length_cons, List.length_nil] at *
     omega
   · split at h
     · rename_i hs
       have r0 := sees_rls hs
       obtain ⟨u1, q1, h1, h⟩ := seq_okk h
       obtain ⟨v1, r1⟩ := must_l4 h1 hv.tail
       obtain ⟨t, q2, h2, h⟩ := seq_okk h
       obtain ⟨v2, r2⟩ := RgL.name sz _ _ _ h2 v1
       obtain ⟨u3, q3, h3, h⟩ := seq_okk h
       obtain ⟨v3, r3⟩ := must_l4 h3 v2
       obtain ⟨l, q4, h4, h⟩ := seq_okk h
       obtain ⟨v4, r4⟩ := RgL.sep (pt := rowT) (fun i => RgL.row sz) _ _ _ h4 v3
       cases h
       refine ⟨v4, ?_⟩
       simp only [St.pt, pls, pls_app, kwT, sgT, nmT, kINSERT, kINTO, kVALUES, List.length_cons, List.length_nil] at *
       omega
     · split at h
       · rename_i hs
         have r0 := sees_rls hs
         obtain ⟨u1, q1, h1, h⟩ := seq_okk h
         obtain ⟨v1, r1⟩ := must_l4 h1 hv.tail
         obtain ⟨t, q2, h2, h⟩ := seq_okk h
         obtain ⟨v2, r2⟩ := RgL.name sz _ _ _ h2 v1
         obtain ⟨o, q3, h3, h⟩ := seq_okk h
         obtain ⟨v3, r3⟩ := RgL.where sz _ _ _ h3 v2
         cases h
         refine ⟨v3, ?_⟩
         simp only [St.pt, pls, pls_app, kwT, sgT, nmT, kDELETE, kFROM, List.length_cons, List.length_nil] at *
         omega
       · split at h
         · rename_i hs
           have r0 := sees_rls hs
           obtain ⟨t, q2, h2, h⟩ := seq_okk h
           obtain ⟨v2, r2⟩ := RgL.name sz _ _ _ h2 hv.tail
           obtain ⟨u1, q1, h1, h⟩ := seq_okk h
           obtain ⟨v1, r1⟩ := must_l4 h1 v2
           obtain ⟨l, q4, h4, h⟩ := seq_okk h
           obtain ⟨v4, r4⟩ := RgL.sep (pt := setT) (fun i => RgL.set sz) _ _ _ h4 v1
           obtain ⟨o, q3, h3, h⟩ := seq_okk h
           obtain ⟨v3, r3⟩ := RgL.where sz _ _ _ h3 v4
           cases h
           refine ⟨v3, ?_⟩
           simp only [St.pt, pls, pls_app, kwT, sgT, nmT, kUPDATE, kSET, List.length_cons, List.length_nil] at *
           omega
         · obtain ⟨u0, q0, h0, h⟩ := seq_okk h
           obtain ⟨v0, r0⟩ := must_l4 h0 hv
           obtain ⟨l, q4, h4, h⟩ := seq_okk h
           obtain ⟨v4, r4⟩ := RgL.sep (pt := itemT) (fun i => RgL.item sz) _ _ _ h4 v0
           obtain ⟨u1, q1, h1, h⟩ := seq_okk h
           obtain ⟨v1, r1⟩ := must_l4 h1 v4
           obtain ⟨t, q2, h2, h⟩ := seq_okk h
           obtain ⟨v2, r2⟩ := RgL.name sz _ _ _ h2 v1
           obtain ⟨o, q3, h3, h⟩ := seq_okk h
           obtain ⟨v3, r3⟩ := RgL.where sz _ _ _ h3 v2
           obtain ⟨os, q5, h5, h⟩ := seq_okk h
           obtain ⟨v5, r5⟩ := RgL.orders sz _ _ _ h5 v3
           obtain ⟨lm, q6, h6, h⟩ := seq_okk h
           obtain ⟨v6, r6⟩ := RgL.lim sz _ _ _ h6 v5
           cases h
           refine ⟨v6, ?_⟩
           simp only [St.pt, pls, pls_app, kwT, sgT, nmT, kSELECT, kFROM, List.length_cons, List.length_nil] at *
           omega
theorem parse_l4 {s : Bs} {st : St} (h : ParseR s (.ok st)) : (render st.pt).length ≤ 4 * s.length := by
 unfold ParseR at h
 cases hl : Lx.lex s with
 | error e => rw [hl] at h; cases h
 | ok ts =>
   rw [hl] at h
   obtain ⟨q, h1, h2⟩ := h
   match q, h1, h2 with
   | .error e, h1, h2 => cases h2
   | .ok (a, u), h1, h2 =>
     have hs := (stmtR_l4 s.length ts a u h1 (fun t ht => ((Lx.lex_ok hl).2.2 t ht).1)).2
     have hr := lex_rl hl
     have hp := render_pls a.pt
     simp only at h2 hs
     split at h2
     · split at h2
       · cases h2
       · cases h2
         omega
     · cases h2
end Px
end
section
namespace Px
open Lx (Bs Tok)
variable {α β : Type}
abbrev Pos (sz : Nat) (ts : List Tok) : Prop := ∀ t ∈ ts, t.pos ≤ sz
theorem Pos.tail {sz : Nat} {ts : List Tok} (h : Pos sz ts) : Pos sz ts.tail := fun t ht => h t (List.mem_of_mem_tail ht)
theorem Pos.plc {sz : Nat} {ts : List Tok} (h : Pos sz ts) : plc sz ts ≤ sz := by
 cases ts with
 | nil => exact Nat.le_refl _
 | cons t r => exact h t (by simp)
def OE (sz : Nat) (x : Out α) : Prop := (∀ p c, x = some (.error (p, c)) → p ≤ sz ∧ 1 ≤ c) ∧ ∀ a q, x = some (.ok (a, q)) → Pos sz q
theorem OE.bind {sz : Nat} {x : Out α} {f : α → List Tok → Out β} (hx : OE sz x) (hf : ∀ a q, Pos sz q → OE sz (f a q)) : OE sz (obind x f) := by
 refine ⟨fun p c h => ?_, fun b q h => ?_⟩
 · rcases obind_some h with ⟨e, h1, h2⟩ | ⟨a, q, h1, h2⟩
   · cases h2; exact hx.1 p c h1
   · exact (hf a q (hx.2 a q h1)).1 p c h2
 · rcases obind_some h with ⟨e, h1, h2⟩ | ⟨a, q', h1, h2⟩
   · cases h2
   · exact (hf a q' (hx.2 a q' h1)).2 b q h2
theorem OE.ok {sz : Nat} {a : α} {q : List Tok} (h : Pos sz q) : OE sz (some (.ok (a, q)) : Out α) := ⟨fun p c h => (by cases h), fun b q' h' => by cases h'; exact h⟩
theorem OE.err {sz p c : Nat} (h : p ≤ sz) (hc : 1 ≤ c) : OE sz (some (.error (p, c)) : Out α) := ⟨fun p c h => by cases h; exact ⟨by assumption, by assumption⟩, fun b q' h' => by cases h'⟩
theorem OE.none {sz : Nat} : OE sz (Option.none : Out α) := ⟨fun p c h => (by cases h), fun b q' h' => by cases h'⟩
theorem OE.must {sz : Nat} {s : Bs} {ts : List Tok} (h : Pos sz ts) : OE sz (must sz s ts) := by
 unfold Px.must
 split
 · exact OE.ok h.tail
 · exact OE.err h.plc (by omega)
theorem OE.atom {sz : Nat} {ts : List Tok} (h : Pos sz ts) : OE sz (atom sz ts) := by
 cases ts with
 | nil => exact OE.err (Nat.le_refl _) (by omega)
 | cons t r =>
   have hr : Pos sz r := h.tail
   have ht : t.pos ≤ sz := h t (by simp)
   unfold Px.atom
   simp only
   repeat' split
   all_goals first | exact OE.ok hr | exact OE.err ht (by omega)
theorem OE.negate {sz p : Nat} {a : List Nd} {q : List Tok} (hp : p ≤ sz) (h : Pos sz q) : OE sz (negate p a q) := by
 unfold Px.negate
 repeat' split
 all_goals first | exact OE.ok h | exact OE.err hp (by omega)
theorem OE.ex {sz : Nat} : ∀ n m a ts, Pos sz ts → OE sz (ex sz n m a ts) := by
 intro n
 induction n with
 | zero => intro m a ts h; exact OE.none
 | succ n ih =>
   intro m a ts h
   unfold Px.ex
   split
   · split
     · exact OE.ok h
     · exact (ih _ _ _ h.tail).bind fun b q hq => ih _ _ _ hq
   · split
     · split
       · exact (ih _ _ _ h.tail).bind fun b q hq => OE.ok hq
       · exact ih _ _ _ h
     · split
       · refine (ih _ _ _ h).bind fun b q hq => ?_
         unfold tail4
         split
         · split
           · exact (OE.must hq.tail.tail).bind fun _ q hq => OE.ok hq
           · exact (OE.must hq.tail).bind fun _ q hq => OE.ok hq
         · split
           · exact OE.ok hq
           · exact (ih _ _ _ hq.tail).bind fun b q hq => OE.ok hq
       · split
         · split
           · split
             · exact OE.ok h.tail.tail
             · exact (ih _ _ _ h.tail).bind fun b q hq => OE.negate h.plc hq
           · exact ih _ _ _ h
         · split
           · split
             · exact (ih _ _ _ h.tail).bind fun b q hq => (OE.must hq).bind fun _ q hq => OE.ok hq
             · exact OE.atom h
           · exact (ih _ _ _ h).bind fun b q hq => ih _ _ _ hq
def RgE (sz : Nat) (x : Rg α) : Prop := ∀ ts, Pos sz ts → (∀ p c, x ts (.error (p, c)) → p ≤ sz ∧ 1 ≤ c) ∧ ∀ a q, x ts (.ok (a, q)) → Pos sz q
theorem RgE.seq {sz : Nat} {x : Rg α} {f : α → Rg β} (hx : RgE sz x) (hf : ∀ a, RgE sz (f a)) : RgE sz (Rg.seq x f) := by
 intro ts hv
 refine ⟨fun p c h => ?_, fun b q h => ?_⟩
 · rcases seq_ok h with ⟨e, h1, h2⟩ | ⟨a, q, h1, h2⟩
   · cases h2; exact (hx ts hv).1 p c h1
   · exact (hf a q ((hx ts hv).2 a q h1)).1 p c h2
 · rcases seq_ok h with ⟨e, h1, h2⟩ | ⟨a, q', h1, h2⟩
   · cases h2
   · exact (hf a q' ((hx ts hv).2 a q' h1)).2 b q h2
theorem RgE.ret {sz : Nat} (a : α) : RgE sz (Rg.ret a) := fun ts hv => ⟨fun p c h => (by cases h), fun b q h => by cases h; exact hv⟩
theorem RgE.of {sz : Nat} {f : List Tok → Out α} (h : ∀ ts, Pos sz ts → OE sz (f ts)) : RgE sz fun ts r => f ts = some r := fun ts hv => ⟨fun p c hh => (h ts hv).1 p c hh, fun a q hh => (h ts hv).2 a q hh⟩
theorem RgE.must (sz : Nat) (s : Bs) : RgE sz (mustR sz s) := RgE.of fun ts h => OE.must h
theorem RgE.name (sz : Nat) : RgE sz (nameR sz) := RgE.of fun ts h => by
 cases ts with
 | nil => exact OE.err (Nat.le_refl _) (by omega)
 | cons t r =>
   unfold Px.name
   simp only
   repeat' split
   all_goals first | exact OE.ok h.tail | exact OE.err (h t (by simp)) (by omega)
theorem RgE.ex (sz : Nat) : RgE sz (exR sz) := by
 intro ts hv
 refine ⟨fun p c h => ?_, fun e q h => ?_⟩
 · obtain ⟨⟨n, hn⟩, _⟩ := h
   exact (OE.ex n 1 [] ts hv).1 p c hn
 · obtain ⟨⟨n, hn⟩, _⟩ := h
   exact (OE.ex n 1 [] ts hv).2 _ q hn
theorem RgE.ite {sz : Nat} {x y : Rg α} {p : List Tok → Bool} (hx : ∀ ts, Pos sz ts → (∀ p c, x ts (.error (p, c)) → p ≤ sz ∧ 1 ≤ c) ∧ ∀ a q, x ts (.ok (a, q)) → Pos sz q) (hy : RgE sz y) : RgE sz fun ts r => if p ts = true then x ts r else y ts r := by
 intro ts hv
 by_cases hp : p ts = true
 · simp only [if_pos hp]
   exact hx ts hv
 · simp only [if_neg hp]
   exact hy ts hv
theorem RgE.tail {sz : Nat} {x : Rg α} (hx : RgE sz x) : RgE sz fun ts r => x ts.tail r := fun ts hv => hx ts.tail hv.tail
theorem RgE.skip {sz : Nat} (a : α) : RgE sz fun ts r => r = .ok (a, ts.tail) := fun ts hv => ⟨fun p c h => (by cases h), fun b q h => by cases h; exact hv.tail⟩
theorem RgE.stay {sz : Nat} (a : α) : RgE sz fun ts r => r = .ok (a, ts) := fun ts hv => ⟨fun p c h => (by cases h), fun b q h => by cases h; exact hv⟩
theorem RgE.reach {sz : Nat} {x : Nat → Rg α} (hx : ∀ i, RgE sz (x i)) {ts : List Tok} {l : List α} {q : List Tok} (h : Reach x ts l q) (hv : Pos sz ts) : Pos sz q := by
 induction h with
 | first h1 => exact (hx 0 _ hv).2 _ _ h1
 | step h1 h2 h3 ih => exact (hx _ _ ih.tail).2 _ _ h3
theorem RgE.sep {sz : Nat} {x : Nat → Rg α} (hx : ∀ i, RgE sz (x i)) : RgE sz (Sep x) := by
 intro ts hv
 refine ⟨fun p c h => ?_, fun e q h => ?_⟩
 · cases h with
   | err0 h1 => exact (hx 0 _ hv).1 _ _ h1
   | err h1 h2 h3 => exact (hx _ _ (RgE.reach hx h1 hv).tail).1 _ _ h3
 · cases h with
   | stop h1 h2 => exact RgE.reach hx h1 hv
theorem RgE.where (sz : Nat) : RgE sz (whereR sz) := RgE.ite (RgE.tail ((RgE.ex sz).seq fun _ => RgE.ret _)) (RgE.stay _)
theorem RgE.kind (sz : Nat) : RgE sz (kindR sz) := RgE.ite (RgE.skip _) (RgE.ite (RgE.skip _) ((RgE.must sz _).seq fun _ => RgE.ret _))
theorem RgE.null (sz : Nat) (n : Bs) (k : Nat) : RgE sz (nullR sz n k) := RgE.ite (RgE.tail ((RgE.must sz _).seq fun _ => RgE.ret _)) (RgE.stay _)
theorem RgE.col (sz i : Nat) : RgE sz (colR sz i) := by
 intro ts hv
 have h0 : RgE sz (Rg.seq (nameR sz) (fun n q r => if 6 ≤ i then r = .error (plc sz ts, 4) else Rg.seq (kindR sz) (nullR sz n) q r)) := (RgE.name sz).seq fun n => by
   by_cases h6 : 6 ≤ i
   · simp only [if_pos h6]
     exact fun q hq => ⟨fun p c h => by cases h; exact ⟨hv.plc, by omega⟩, fun a q h => by cases h⟩
   · simp only [if_neg h6]
     exact (RgE.kind sz).seq fun k => RgE.null sz n k
 exact h0 ts hv
theorem RgE.stmt (sz : Nat) : RgE sz (stmtR sz) := by
 refine RgE.ite (RgE.tail ?_) (RgE.ite (RgE.tail ?_) (RgE.ite (RgE.tail ?_) (RgE.ite (RgE.tail ?_) (RgE.ite (RgE.tail ?_) ?_))))
 · exact (RgE.must sz _).seq fun _ => (RgE.name sz).seq fun _ => (RgE.must sz _).seq fun _ => (RgE.sep fun i => RgE.col sz i).seq fun _ => (RgE.must sz _).seq fun _ => RgE.ret _
 · exact (RgE.must sz _).seq fun _ => (RgE.name sz).seq fun _ => RgE.ret _
 · exact (RgE.must sz _).seq fun _ => (RgE.name sz).seq fun _ => (RgE.must sz _).seq fun _ => (RgE.sep fun _ => (RgE.must sz _).seq fun _ => (RgE.sep fun _ => RgE.ex sz).seq fun _ => (RgE.must sz _).seq fun _ => RgE.ret _).seq fun _ => RgE.ret _
 · exact (RgE.must sz _).seq fun _ => (RgE.name sz).seq fun _ => (RgE.where sz).seq fun _ => RgE.ret _
 · exact (RgE.name sz).seq fun _ => (RgE.must sz _).seq fun _ => (RgE.sep fun _ => (RgE.name sz).seq fun _ => (RgE.must sz _).seq fun _ => (RgE.ex sz).seq fun _ => RgE.ret _).seq fun _ => (RgE.where sz).seq fun _ => RgE.ret _
 · refine (RgE.must sz _).seq fun _ => (RgE.sep fun _ => ?_).seq fun _ => (RgE.must sz _).seq fun _ => (RgE.name sz).seq fun _ => (RgE.where sz).seq fun _ => RgE.seq ?_ fun _ => RgE.seq ?_ fun _ => RgE.ret _
   · exact RgE.ite (RgE.skip _) ((RgE.ex sz).seq fun _ => RgE.ret _)
   · exact RgE.ite (RgE.tail ((RgE.must sz _).seq fun _ => RgE.sep fun _ => (RgE.ex sz).seq fun e => RgE.ite (RgE.skip _) (RgE.ite (RgE.skip _) (RgE.stay _)))) (RgE.stay _)
   · refine RgE.ite (RgE.tail (RgE.seq (RgE.of fun ts h => ?_) fun _ => RgE.ret _)) (RgE.stay _)
     cases ts with
     | nil => exact OE.err (Nat.le_refl _) (by omega)
     | cons t r =>
       unfold limit
       simp only
       repeat' split
       all_goals first | exact OE.ok h.tail | exact OE.err (h t (by simp)) (by omega)
theorem oneT_err {l : Bs} {c : Nat} (h : Lx.oneT l = .error c) : 1 ≤ c := by
 unfold Lx.oneT at h
 repeat' split at h
 all_goals first | (cases h; done) | (cases h; omega)
theorem lexM_err : ∀ (m : Nat) (l : Bs) (pos p c : Nat), l.length ≤ m → Lx.lexM 0 pos l = .error (p, c) → p ≤ pos + l.length ∧ 1 ≤ c := by
 intro m
 induction m with
 | zero =>
   intro l pos p c hl h
   obtain rfl := List.length_eq_zero_iff.1 (Nat.le_zero.1 hl)
   simp [Lx.lexM] at h
 | succ m ih =>
   intro l pos p c hl h
   cases l with
   | nil => simp [Lx.lexM] at h
   | cons b r =>
     rw [Lx.lexM_cons] at h
     split at h
     · rename_i e h1
       cases h
       exact ⟨by omega, oneT_err h1⟩
     · rename_i k t n h1
       have hn := Lx.oneT_len h1
       split at h
       · cases h
       · rename_i e h2
         cases h
         have := ih _ _ _ _ (by simp only [List.length_drop, List.length_cons] at hl hn ⊢; omega) h2
         have hk := Lx.skipM_le false ((b :: r).drop n)
         simp only [List.length_drop, List.length_cons, Lx.skipN] at this hl hn hk ⊢
         omega
theorem parse_err {s : Bs} {p c : Nat} (h : ParseR s (.error (p, c))) : p ≤ s.length ∧ 1 ≤ c := by
 unfold ParseR at h
 cases hl : Lx.lex s with
 | error e =>
   rw [hl] at h
   cases h
   unfold Lx.lex at hl
   split at hl
   · cases hl; omega
   · have := lexM_err _ _ _ _ _ (Nat.le_refl _) hl
     have hk := Lx.skipM_le false s
     simp only [List.length_drop, Lx.skipN] at this hk
     omega
 | ok ts =>
   rw [hl] at h
   obtain ⟨q, h1, h2⟩ := h
   have hv : Pos s.length ts := fun t ht => Nat.le_of_lt ((Lx.lex_ok hl).2.2 t ht).2.1
   match q, h1, h2 with
   | .error e, h1, h2 => cases h2; exact (RgE.stmt s.length ts hv).1 p c h1
   | .ok (a, u), h1, h2 =>
     have hu := (RgE.stmt s.length ts hv).2 a u h1
     simp only at h2
     split at h2
     · split at h2
       · cases h2; omega
       · cases h2
     · cases h2
       exact ⟨hu.plc, by omega⟩
end Px
end
theorem hd {p : Prop} (h : p) : Hid p := h
theorem ret_bool {a b : Bool} (h : a = b) : Ending.returned (.bool a) = .returned (.bool b) := by rw [h]
theorem drop_at (s : ByteArray) (k : Nat) (h : k < s.size) : s.data.toList.drop k = s[k] :: s.data.toList.drop (k + 1) := by
 rw [List.drop_eq_getElem_cons (by simpa using h)]; rfl
theorem cnt_at (p : UInt8 → Bool) (s : ByteArray) (k : Nat) (h : k < s.size) : Lx.cnt p (s.data.toList.drop k) = if p s[k] = true then Lx.cnt p (s.data.toList.drop (k + 1)) + 1 else 0 := by
 rw [drop_at s k h]; rfl
theorem cnt_end (p : UInt8 → Bool) (s : ByteArray) (k : Nat) (h : s.size ≤ k) : Lx.cnt p (s.data.toList.drop k) = 0 := by
 rw [List.drop_eq_nil_of_le (by simpa using h)]; rfl
theorem folB_drop (l : Lx.Bs) (a i lo hi : Nat) : Lx.folB (l.drop a) i lo hi = Lx.folB l (a + i) lo hi := by
 unfold Lx.folB; rw [List.getElem?_drop]
def charB (b : Nat) (two near three four : Bool) : Nat :=
 if b < 128 then 1
 else if (194 ≤ b ∧ b ≤ 223) ∧ two = true then 2
 else if (224 ≤ b ∧ b ≤ 239) ∧ near = true ∧ three = true then 3
 else if (240 ≤ b ∧ b ≤ 244) ∧ near = true ∧ three = true ∧ four = true then 4
 else 0
theorem charN_at (s : ByteArray) (a : Nat) (h : a < s.size) : Lx.charN (s.data.toList.drop a) =
   charB s[a].toNat (Lx.folB s.data.toList (a + 1) 128 191) (Lx.folB s.data.toList (a + 1) (Lx.loOf s[a].toNat) (Lx.hiOf s[a].toNat)) (Lx.folB s.data.toList (a + 2) 128 191) (Lx.folB s.data.toList (a + 3) 128 191) := by
 have e := drop_at s a h
 have f : ∀ i lo hi, Lx.folB (s[a] :: s.data.toList.drop (a + 1)) i lo hi = Lx.folB s.data.toList (a + i) lo hi := by
   intro i lo hi; rw [← e, folB_drop]
 rw [e]
 simp only [Lx.charN, charB, f]
def strSize : Value → Nat | .string t => t.size | _ => 0
theorem contains_at (ss : List Lx.Bs) (x : Lx.Bs) (k : Nat) (h : k < ss.length) : Lx.hasB (ss.drop k) x = (ss.getD k [] == x || Lx.hasB (ss.drop (k + 1)) x) := by
 rw [List.drop_eq_getElem_cons h, List.getD_eq_getElem?_getD, List.getElem?_eq_getElem h]
 rfl
def strRow (ss : List Lx.Bs) : Array Value := (ss.map fun x => Value.string ⟨x.toArray⟩).toArray
def Cased (f : UInt8 → UInt8) (s : ByteArray) (g k : Nat) (wr : World) : Prop :=
 ∀ j, (h : j < s.size) → wr.cell? ⟨g, j, none⟩ = some (.int .u8 ((if j < k then f s[j] else s[j]).toNat : Int)) ∧ wr.frozen? ⟨g, j, none⟩ = false
def byteV (b : UInt8) : Value := .int .u8 (b.toNat : Int)
theorem betw_other (m : UInt8) (b : UInt8) (r : Lx.Bs) (h : b ≠ m) : Lx.betw m (b :: r) = (Lx.betw m r).map (fun x => (b :: x.1, x.2 + 1)) := by
 cases r with
 | nil => simp [Lx.betw, h]
 | cons c r => simp [Lx.betw, h]
def BetwAt (m : UInt8) (l : Lx.Bs) (k : Nat) (acc : Lx.Bs) : Prop :=
 Lx.betw m l = (Lx.betw m (l.drop k)).map (fun x => (acc ++ x.1, x.2 + k)) ∧ acc.length ≤ k
theorem BetwAt.start (m : UInt8) (l : Lx.Bs) : BetwAt m l 0 [] := by
 unfold BetwAt
 simp
theorem BetwAt.other {m : UInt8} {l : Lx.Bs} {k : Nat} {acc : Lx.Bs} {b : UInt8} {r : Lx.Bs} (h : BetwAt m l k acc) (e : l.drop k = b :: r) (hb : b ≠ m) : BetwAt m l (k + 1) (acc ++ [b]) := by
 unfold BetwAt at *
 have e2 : l.drop (k + 1) = r := by rw [← List.drop_drop, e]; rfl
 refine ⟨?_, by simp; omega⟩
 rw [h.1, e, betw_other m b r hb, e2, Option.map_map]
 congr 1
 funext x
 simp; omega
theorem BetwAt.double {m : UInt8} {l : Lx.Bs} {k : Nat} {acc : Lx.Bs} {r : Lx.Bs} (h : BetwAt m l k acc) (e : l.drop k = m :: m :: r) : BetwAt m l (k + 2) (acc ++ [m]) := by
 unfold BetwAt at *
 have e2 : l.drop (k + 2) = r := by rw [← List.drop_drop, e]; rfl
 refine ⟨?_, by simp; omega⟩
 rw [h.1, e, e2]
 simp only [Lx.betw, if_true, Option.map_map]
 congr 1
 funext x
 simp; omega
theorem BetwAt.last {m : UInt8} {l : Lx.Bs} {k : Nat} {acc : Lx.Bs} {r : Lx.Bs} (h : BetwAt m l k acc) (e : l.drop k = m :: r) (hr : r.head? ≠ some m) : Lx.betw m l = some (acc, k + 1) := by
 unfold BetwAt at *
 rw [h.1, e]
 cases r with
 | nil => simp [Lx.betw]; omega
 | cons c r =>
   have : c ≠ m := by simpa using hr
   simp [Lx.betw, this]; omega
def betwV (r : Option (Lx.Bs × Nat)) (a : Nat) (t : ByteArray) (n : Int) : Prop :=
 match r with
 | some (x, k) => t.data.toList = x ∧ n = (a + 1 + k : Nat)
 | none => t.data.toList = [] ∧ n = -1
def Blk (w : World) (b : Nat) (cs : Array Value) (t : TypeId) : Prop := w.heap[b]? = some (.cells cs t (0, 0))
theorem Blk.cell {w : World} {b : Nat} {cs : Array Value} {t : TypeId} (h : Blk w b cs t) (i : Nat) : w.cell? ⟨b, i, none⟩ = cs[i]? := cell_of_row w b i cs t (0, 0) h
theorem Blk.free {w : World} {b : Nat} {cs : Array Value} {t : TypeId} (h : Blk w b cs t) (i : Nat) : w.frozen? ⟨b, i, none⟩ = false := by
 unfold Blk at h
 simp [World.frozen?, h]
theorem Blk.lt {w : World} {b : Nat} {cs : Array Value} {t : TypeId} (h : Blk w b cs t) : b < w.heap.size := (Array.getElem?_eq_some_iff.1 h).1
theorem Blk.new (w : World) (cs : Array Value) (t : TypeId) : Blk (w.alloc (.cells cs t)) w.heap.size cs t := heap_alloc_new w _
theorem Blk.alloc {w : World} {b : Nat} {cs : Array Value} {t : TypeId} (h : Blk w b cs t) (o : Obj) : Blk (w.alloc o) b cs t := by
 unfold Blk at *
 show (w.heap.push o)[b]? = _
 rw [Array.getElem?_push_lt (Array.getElem?_eq_some_iff.1 h).1, ← Array.getElem?_eq_getElem]; exact h
theorem Blk.below {W w1 : World} {b B : Nat} {cs : Array Value} {t : TypeId} (h : Blk W b cs t) (hb : Below B W w1) (hlt : b < B) : Blk w1 b cs t := by
 unfold Blk at *
 rw [hb.block b hlt]; exact h
theorem Blk.drew {w : World} {b : Nat} {cs : Array Value} {t : TypeId} (h : Blk w b cs t) : Blk w.drew b cs t := h
theorem Blk.set {w : World} {b : Nat} {cs : Array Value} {t : TypeId} (h : Blk w b cs t) (i : Nat) (v : Value) : Blk (w.setCell ⟨b, i, none⟩ v) b (cs.setIfInBounds i v) t := by
 unfold Blk at *
 simp only [World.setCell, Array.getElem?_modify, if_true, h]
 rfl
theorem Blk.far {w : World} {b : Nat} {cs : Array Value} {t : TypeId} (h : Blk w b cs t) (p : Addr) (v : Value) (hp : p.block ≠ b) : Blk (w.setCell p v) b cs t := by
 unfold Blk at *
 rw [Below.heap_setCell _ _ _ _ (Ne.symm hp)]; exact h
theorem Blk.three {w : World} {b : Nat} {x y z : Value} {t : TypeId} (h : Blk w b #[x, y, z] t) :
   (w.cell? ⟨b, 0, none⟩ = some x ∧ w.cell? ⟨b, 1, none⟩ = some y ∧ w.cell? ⟨b, 2, none⟩ = some z) ∧ w.frozen? ⟨b, 0, none⟩ = false ∧ w.frozen? ⟨b, 1, none⟩ = false ∧ w.frozen? ⟨b, 2, none⟩ = false :=
 ⟨⟨h.cell 0, h.cell 1, h.cell 2⟩, h.free 0, h.free 1, h.free 2⟩
def OneV (r : Except Nat (Nat × Lx.Bs × Nat)) (a : Nat) (kv : Int) (tv : ByteArray) (pv en ec : Int) : Prop :=
 match r with
 | .error c => ec = (c : Int) ∧ c ≠ 0
 | .ok (k, t, n) => ec = 0 ∧ kv = (k : Int) ∧ tv.data.toList = t ∧ pv = (a : Int) ∧ en = ((a + n : Nat) : Int)
theorem oneT_letter (s : ByteArray) (a : Nat) (h : a < s.size) (hl : Lx.isLet s[a] = true) : Lx.oneT (s.data.toList.drop a) =
   if Lx.hasB Lx.keys (((s.data.toList.drop a).take (Lx.cnt Lx.isWd (s.data.toList.drop a))).map Lx.upB) then .ok (50, ((s.data.toList.drop a).take (Lx.cnt Lx.isWd (s.data.toList.drop a))).map Lx.upB, Lx.cnt Lx.isWd (s.data.toList.drop a))
   else .ok (18, ((s.data.toList.drop a).take (Lx.cnt Lx.isWd (s.data.toList.drop a))).map Lx.lowB, Lx.cnt Lx.isWd (s.data.toList.drop a)) := by
 have e := drop_at s a h
 rw [e]
 simp only [Lx.oneT, hl, if_true]
theorem oneT_digit (s : ByteArray) (a : Nat) (h : a < s.size) (hl : Lx.isLet s[a] = false) (hd : Lx.isDig s[a] = true) : Lx.oneT (s.data.toList.drop a) =
   if Lx.cnt Lx.isDig (s.data.toList.drop a) < Lx.cnt Lx.isWd (s.data.toList.drop a) then .error 2
   else if Lx.overTop (Lx.leastB ((s.data.toList.drop a).take (Lx.cnt Lx.isDig (s.data.toList.drop a)))) then .error 3
   else .ok (16, Lx.leastB ((s.data.toList.drop a).take (Lx.cnt Lx.isDig (s.data.toList.drop a))), Lx.cnt Lx.isDig (s.data.toList.drop a)) := by
 have e := drop_at s a h
 rw [e]
 simp only [Lx.oneT, hl, hd, if_true, if_false, Bool.false_eq_true]
theorem oneT_quote (s : ByteArray) (a : Nat) (h : a < s.size) (hl : Lx.isLet s[a] = false) (hd : Lx.isDig s[a] = false) (hq : s[a].toNat = 39 ∨ s[a].toNat = 34) : Lx.oneT (s.data.toList.drop a) =
   match Lx.betw s[a] (s.data.toList.drop (a + 1)) with
     | none => .error 2
     | some (t, n) =>
       if Lx.validN t = false ∨ (s[a].toNat = 34 ∧ t = []) then .error 2
       else .ok (if s[a].toNat = 34 then 18 else 17, t, n + 1) := by
 have e := drop_at s a h
 rw [e]
 simp only [Lx.oneT, hl, hd, if_true, if_false, Bool.false_eq_true]
 rw [if_pos hq]
 rcases Lx.betw s[a] (s.data.toList.drop (a + 1)) with _ | ⟨t, n⟩ <;> rfl
theorem oneT_sign (s : ByteArray) (a : Nat) (h : a < s.size) (hl : Lx.isLet s[a] = false) (hd : Lx.isDig s[a] = false) (hq : ¬ (s[a].toNat = 39 ∨ s[a].toNat = 34)) : Lx.oneT (s.data.toList.drop a) =
   if 2 ≤ s.size - a ∧ Lx.hasB Lx.twos ((s.data.toList.drop a).take 2) = true then .ok (51, (s.data.toList.drop a).take 2, 2)
   else if Lx.hasB Lx.ones ((s.data.toList.drop a).take 1) = true then .ok (51, (s.data.toList.drop a).take 1, 1)
   else .error 2 := by
 have e := drop_at s a h
 have el : (s.data.toList.drop a).length = s.size - a := by simp
 rw [← el, e]
 simp only [Lx.oneT, hl, hd, if_true, if_false, Bool.false_eq_true]
 rw [if_neg hq]
def tokV (t : Lx.Tok) : List Value := [.int .i64 (t.kind : Int), .string ⟨t.text.toArray⟩, .int .i64 (t.pos : Int)]
def toksV : List Lx.Tok → List Value
 | [] => []
 | t :: ts => tokV t ++ toksV ts
theorem toksV_append : ∀ a b : List Lx.Tok, toksV (a ++ b) = toksV a ++ toksV b
 | [], b => rfl
 | t :: a, b => by simp [toksV, toksV_append a b]
theorem toksV_one (t : Lx.Tok) : toksV [t] = tokV t := by simp [toksV]
def TokV (r : Except (Nat × Nat) (List Lx.Tok)) (base : Nat) (w : World) (v : Value) (n c : Int) : Prop :=
 match r with
 | .error (p, e) => v = .slice none 0 0 ∧ n = (p : Int) ∧ c = (e : Int)
 | .ok ts => w.ownsRow base 41 3 v ts.length (toksV ts) ∧ n = 0 ∧ c = 0
def LexAt (l : Lx.Bs) (k : Nat) (ts : List Lx.Tok) : Prop :=
 ts.length ≤ k ∧ Lx.lexM 0 (Lx.skipN l) (l.drop (Lx.skipN l)) = match Lx.lexM 0 k (l.drop k) with
   | .ok r => .ok (ts ++ r)
   | .error e => .error e
theorem LexAt.start (l : Lx.Bs) : LexAt l (Lx.skipN l) [] := by
 refine ⟨by simp, ?_⟩
 cases Lx.lexM 0 (Lx.skipN l) (l.drop (Lx.skipN l)) <;> simp
theorem LexAt.done {l : Lx.Bs} {k : Nat} {ts : List Lx.Tok} (h : LexAt l k ts) (hk : l.length ≤ k) : Lx.lexM 0 (Lx.skipN l) (l.drop (Lx.skipN l)) = .ok ts := by
 rw [h.2, List.drop_eq_nil_of_le hk]
 simp [Lx.lexM]
theorem LexAt.fail {l : Lx.Bs} {k e : Nat} {ts : List Lx.Tok} (h : LexAt l k ts) (hk : k < l.length) (h1 : Lx.oneT (l.drop k) = .error e) : Lx.lexM 0 (Lx.skipN l) (l.drop (Lx.skipN l)) = .error (k, e) := by
 rw [h.2]
 have e1 := List.drop_eq_getElem_cons hk
 rw [e1] at h1 ⊢
 rw [Lx.lexM_cons, h1]
theorem LexAt.step {l : Lx.Bs} {k c n : Nat} {t : Lx.Bs} {ts : List Lx.Tok} (h : LexAt l k ts) (hk : k < l.length) (h1 : Lx.oneT (l.drop k) = .ok (c, t, n)) : LexAt l (k + n + Lx.skipN (l.drop (k + n))) (ts ++ [⟨c, t, k⟩]) := by
 have hl := Lx.oneT_len h1
 refine ⟨by have := h.1; simp; omega, ?_⟩
 rw [h.2]
 have e1 := List.drop_eq_getElem_cons hk
 rw [e1] at h1 ⊢
 rw [Lx.lexM_cons, h1]
 dsimp only
 rw [← e1, List.drop_drop, List.drop_drop]
 cases Lx.lexM 0 (k + n + Lx.skipN (l.drop (k + n))) (l.drop (k + n + Lx.skipN (l.drop (k + n)))) <;> simp
theorem Below.grownBy {w w' : World} {row : Option Nat} (h : Below w.heap.size w w') : w.grownBy w' row := ⟨h.os, h.tape, h.output, h.size, fun k hk _ => h.block k hk⟩
theorem owns_below {w w1 : World} {base : Nat} {e : TypeId} {size : Nat} {v : Value} {n : Nat} {xs : List Value} (h : w.ownsRow base e size v n xs) (hb : Below w.heap.size w w1) : w1.ownsRow base e size v n xs :=
 h.kept (row := none) (Below.grownBy hb) (by cases v.ownBlock <;> simp)
theorem Tryz.info41 : (Tryz.prog.info? 41).map (fun i => (i.zero, i.size, i.bytes)) = some (some (.agg #[.int .i64 0, .string ⟨#[]⟩, .int .i64 0]), 3, 32) := by kernel_rfl
theorem three_news (w : World) (x y z : Value) (T : TypeId) (g : Nat) (hg : g = w.heap.size) : ∀ j u, [x, y, z][j]? = some u → (w.alloc (.cells #[x, y, z] T)).cell? ((⟨g, 0, none⟩ : Addr).add j) = some u := by
 intro j u hj
 subst hg
 rw [Addr.add_lit, Nat.zero_add, (Blk.new w #[x, y, z] T).cell j]
 rw [← hj]
 simp
def ndV (x : Px.Nd) : List Value := [.int .i64 x.kind, .string ⟨x.text.toArray⟩, .int .i64 x.num, .int .i64 x.kids]
def ndsV : List Px.Nd → List Value
 | [] => []
 | x :: r => ndV x ++ ndsV r
theorem ndsV_append : ∀ a b : List Px.Nd, ndsV (a ++ b) = ndsV a ++ ndsV b
 | [], b => rfl
 | x :: a, b => by simp [ndsV, ndsV_append a b]
theorem ndsV_one (x : Px.Nd) : ndsV [x] = ndV x := by simp [ndsV]
theorem ndsV_at : ∀ (l : List Px.Nd) (k : Nat) (h : k < l.length), (ndsV l)[k * 4]? = some (.int .i64 l[k].kind) ∧ (ndsV l)[k * 4 + 1]? = some (.string ⟨l[k].text.toArray⟩) ∧ (ndsV l)[k * 4 + 2]? = some (.int .i64 l[k].num) ∧ (ndsV l)[k * 4 + 3]? = some (.int .i64 l[k].kids)
 | x :: l, 0, _ => ⟨rfl, rfl, rfl, rfl⟩
 | x :: l, k + 1, h => by
   have ih := ndsV_at l k (by simpa using h)
   have e : ∀ j, (ndsV (x :: l))[j + 4]? = (ndsV l)[j]? := by
     intro j
     show (ndV x ++ ndsV l)[j + 4]? = _
     rw [List.getElem?_append_right (by simp [ndV])]
     simp [ndV]
   rw [show (k + 1) * 4 = k * 4 + 4 from by omega, show k * 4 + 4 + 1 = (k * 4 + 1) + 4 from by omega, show k * 4 + 4 + 2 = (k * 4 + 2) + 4 from by omega, show k * 4 + 4 + 3 = (k * 4 + 3) + 4 from by omega, e, e, e, e]
   simpa using ih
theorem Tryz.info43 : (Tryz.prog.info? 43).map (fun i => (i.zero, i.size, i.bytes)) = some (some (.agg #[.int .i64 0, .string ⟨#[]⟩, .int .i64 0, .int .i64 0]), 4, 40) := by kernel_rfl
def NdIs (w : World) (b0 : Nat) (v : Value) (l : List Px.Nd) : Prop :=
 (v = .slice none 0 0 ∧ l = []) ∨ ∃ g cap, v = .slice (some ⟨g, 0, none⟩) l.length cap ∧ b0 ≤ g ∧ g < w.heap.size ∧ l.length ≤ cap ∧ cap ≤ maxLen ∧ ∀ j u, (ndsV l)[j]? = some u → w.cell? ⟨g, j, none⟩ = some u
theorem NdIs.below {w w' : World} {b0 : Nat} {v : Value} {l : List Px.Nd} (h : NdIs w b0 v l) (hg : Below w.heap.size w w') : NdIs w' b0 v l := by
 rcases h with h | ⟨g, cap, rfl, h1, h2, h3, h4, h5⟩
 · exact .inl h
 · refine .inr ⟨g, cap, rfl, h1, Nat.lt_of_lt_of_le h2 hg.size, h3, h4, fun j u hu => ?_⟩
   rw [World.cell?_of_block (w := w) (hg.block g h2)]
   exact h5 j u hu
theorem NdIs.of_own {w : World} {b0 : Nat} {v : Value} {l : List Px.Nd} (h : w.ownsRow b0 43 4 v l.length (ndsV l)) : NdIs w b0 v l := by
 rcases h.2 with ⟨rfl, hn⟩ | ⟨g, cap, cur, rfl, hb, hg, h1, h2, h3, h4⟩
 · exact .inl ⟨rfl, List.length_eq_zero_iff.1 hn⟩
 · refine .inr ⟨g, cap, rfl, hb, (Array.getElem?_eq_some_iff.1 hg).1, h1, h2, fun j u hu => ?_⟩
   have := h.cells (g := g) rfl j u hu
   simpa only [Addr.add_lit, Nat.zero_add] using this
theorem toksV_nth : ∀ (ts : List Lx.Tok) (k : Nat) (h : k < ts.length), (toksV ts)[k * 3]? = some (.int .i64 (ts[k].kind : Int)) ∧ (toksV ts)[k * 3 + 1]? = some (.string ⟨ts[k].text.toArray⟩) ∧ (toksV ts)[k * 3 + 2]? = some (.int .i64 (ts[k].pos : Int))
 | t :: ts, 0, _ => ⟨rfl, rfl, rfl⟩
 | t :: ts, k + 1, h => by
   have ih := toksV_nth ts k (by simpa using h)
   have e : ∀ j, (toksV (t :: ts))[j + 3]? = (toksV ts)[j]? := by
     intro j
     show (tokV t ++ toksV ts)[j + 3]? = _
     rw [List.getElem?_append_right (by simp [tokV])]
     simp [tokV]
   rw [show (k + 1) * 3 = k * 3 + 3 from by omega, show k * 3 + 3 + 1 = (k * 3 + 1) + 3 from by omega, show k * 3 + 3 + 2 = (k * 3 + 2) + 3 from by omega, e, e, e]
   simpa using ih
def hereT (ts : List Lx.Tok) (sz k : Nat) : Lx.Tok := (ts[k]?).getD ⟨0, [], sz⟩
def tokA (t : Lx.Tok) : Value := .agg #[.int .i64 (t.kind : Int), .string ⟨t.text.toArray⟩, .int .i64 (t.pos : Int)]
theorem folB_get (s : ByteArray) (k lo hi : Nat) : Lx.folB s.data.toList k lo hi = decide (k < s.size ∧ lo ≤ (s.get! k).toNat ∧ (s.get! k).toNat ≤ hi) := by
 unfold Lx.folB
 by_cases h : k < s.size
 · rw [List.getElem?_eq_getElem (by simpa using h)]
   have e : s.get! k = s[k] := by
     simp [ByteArray.get!, getElem!_pos, h]
     rfl
   rw [e]
   simp [h]
   rfl
 · rw [List.getElem?_eq_none (by simpa using h)]
   simp [h]
theorem get_here (s : ByteArray) (k : Nat) (h : k < s.size) : s.get! k = s[k] := by
 simp [ByteArray.get!, getElem!_pos, h]
 rfl
def clsN (n b0 b1 b2 b3 : Nat) : Nat :=
 if b0 < 128 then 1
 else if (194 ≤ b0 ∧ b0 ≤ 223) ∧ (1 < n ∧ 128 ≤ b1 ∧ b1 ≤ 191) then 2
 else if (224 ≤ b0 ∧ b0 ≤ 239) ∧ (1 < n ∧ Lx.loOf b0 ≤ b1 ∧ b1 ≤ Lx.hiOf b0) ∧ (2 < n ∧ 128 ≤ b2 ∧ b2 ≤ 191) then 3
 else if (240 ≤ b0 ∧ b0 ≤ 244) ∧ (1 < n ∧ Lx.loOf b0 ≤ b1 ∧ b1 ≤ Lx.hiOf b0) ∧ (2 < n ∧ 128 ≤ b2 ∧ b2 ≤ 191) ∧ (3 < n ∧ 128 ≤ b3 ∧ b3 ≤ 191) then 4
 else 0
theorem charN_cls (s : ByteArray) (i : Nat) (h : i < s.size) : Lx.charN (s.data.toList.drop i) = clsN (s.size - i) (s.get! i).toNat (s.get! (i + 1)).toNat (s.get! (i + 2)).toNat (s.get! (i + 3)).toNat := by
 rw [charN_at s i h, get_here s i h]
 unfold charB clsN
 simp only [folB_get, decide_eq_true_eq]
 have c1 : (i + 1 < s.size) = (1 < s.size - i) := propext ⟨fun h => by omega, fun h => by omega⟩
 have c2 : (i + 2 < s.size) = (2 < s.size - i) := propext ⟨fun h => by omega, fun h => by omega⟩
 have c3 : (i + 3 < s.size) = (3 < s.size - i) := propext ⟨fun h => by omega, fun h => by omega⟩
 simp only [c1, c2, c3]
theorem cls_bad (n b0 b1 b2 b3 : Nat) (h0 : b0 < 256) (h1 : b1 < 256) (h2 : b2 < 256) (h3 : b3 < 256) (h : clsN n b0 b1 b2 b3 = 0) : Lib.decodeN n b0 b1 b2 b3 = (65533, 1) ∧ 128 ≤ b0 := by
 unfold clsN Lx.loOf Lx.hiOf at h
 unfold Lib.decodeN
 repeat' split at h
 all_goals (try (exfalso; omega))
 all_goals
   refine ⟨?_, by omega⟩
   repeat' split
   all_goals first | rfl | (exfalso; omega)
theorem cls_one (n b0 b1 b2 b3 : Nat) (h : clsN n b0 b1 b2 b3 = 1) : b0 < 128 ∧ Lib.decodeN n b0 b1 b2 b3 = (b0, 1) := by
 unfold clsN at h
 repeat' split at h
 all_goals (try (exfalso; omega))
 rename_i hb
 exact ⟨hb, by simp [Lib.decodeN, hb]⟩
theorem cls_two (n b0 b1 b2 b3 : Nat) (h : clsN n b0 b1 b2 b3 = 2) : (194 ≤ b0 ∧ b0 ≤ 223) ∧ (1 < n ∧ 128 ≤ b1 ∧ b1 ≤ 191) ∧ Lib.decodeN n b0 b1 b2 b3 = (b0 % 32 * 64 + b1 % 64, 2) := by
 unfold clsN at h
 repeat' split at h
 all_goals (try (exfalso; omega))
 rename_i hb
 refine ⟨hb.1, hb.2, ?_⟩
 unfold Lib.decodeN
 rw [if_neg (by omega), if_pos (by omega), if_pos (by omega)]
theorem cls_three (n b0 b1 b2 b3 : Nat) (h : clsN n b0 b1 b2 b3 = 3) : (224 ≤ b0 ∧ b0 ≤ 239) ∧ (1 < n ∧ Lx.loOf b0 ≤ b1 ∧ b1 ≤ Lx.hiOf b0) ∧ (2 < n ∧ 128 ≤ b2 ∧ b2 ≤ 191) ∧ Lib.decodeN n b0 b1 b2 b3 = (b0 % 16 * 4096 + b1 % 64 * 64 + b2 % 64, 3) := by
 unfold clsN at h
 repeat' split at h
 all_goals (try (exfalso; omega))
 rename_i hb
 refine ⟨hb.1, hb.2.1, hb.2.2, ?_⟩
 have hl := hb.2.1
 unfold Lx.loOf Lx.hiOf at hl
 unfold Lib.decodeN
 repeat' split at hl
 all_goals rw [if_neg (by omega), if_neg (by omega), if_pos (by omega), if_pos (by omega)]
theorem cls_four (n b0 b1 b2 b3 : Nat) (h : clsN n b0 b1 b2 b3 = 4) : (240 ≤ b0 ∧ b0 ≤ 244) ∧ (1 < n ∧ Lx.loOf b0 ≤ b1 ∧ b1 ≤ Lx.hiOf b0) ∧ (2 < n ∧ 128 ≤ b2 ∧ b2 ≤ 191) ∧ (3 < n ∧ 128 ≤ b3 ∧ b3 ≤ 191) ∧ Lib.decodeN n b0 b1 b2 b3 = (b0 % 8 * 262144 + b1 % 64 * 4096 + b2 % 64 * 64 + b3 % 64, 4) := by
 unfold clsN at h
 repeat' split at h
 all_goals (try (exfalso; omega))
 rename_i hb
 refine ⟨hb.1, hb.2.1, hb.2.2.1, hb.2.2.2, ?_⟩
 have hl := hb.2.1
 unfold Lx.loOf Lx.hiOf at hl
 unfold Lib.decodeN
 repeat' split at hl
 all_goals rw [if_neg (by omega), if_neg (by omega), if_neg (by omega), if_pos (by omega), if_pos (by omega)]
theorem byte_back (b : UInt8) (x : Int) (h : x = (b.toNat : Int)) : x.toNat.toUInt8 = b := by
 subst h
 simp
theorem dec_bad (s : ByteArray) (i : Nat) (h : i < s.size) (hc : Lx.charN (s.data.toList.drop i) = 0) : Utf8.decode s i = (65533, 1) ∧ 128 ≤ s[i].toNat := by
 rw [charN_cls s i h] at hc
 have := cls_bad _ _ _ _ _ (UInt8.toNat_lt _) (UInt8.toNat_lt _) (UInt8.toNat_lt _) (UInt8.toNat_lt _) hc
 rw [get_here s i h] at this
 rw [Lib.decode_at, get_here s i h]
 exact this
theorem drop_take (s : ByteArray) (i n : Nat) (h : i + n ≤ s.size) (l : Lx.Bs) (hl : l.length = n) (hg : ∀ k, k < n → l[k]? = some (s.get! (i + k))) : (s.data.toList.drop i).take n = l := by
 apply List.ext_getElem?
 intro k
 by_cases hk : k < n
 · rw [List.getElem?_take_of_lt hk, List.getElem?_drop, hg k hk, get_here s (i + k) (by omega), List.getElem?_eq_getElem (by simp; have : s.data.size = s.size := rfl; omega)]
   rfl
 · rw [List.getElem?_eq_none (by simp; omega), List.getElem?_eq_none (by omega)]
theorem dec_good (s : ByteArray) (i : Nat) (h : i < s.size) (hc : Lx.charN (s.data.toList.drop i) ≠ 0) :
   (Utf8.decode s i).2 = Lx.charN (s.data.toList.drop i) ∧ Lib.encodeRune ((Utf8.decode s i).1 : Int) = (s.data.toList.drop i).take (Lx.charN (s.data.toList.drop i)) ∧
     ((Lx.charN (s.data.toList.drop i) = 1 ∧ (Utf8.decode s i).1 = s[i].toNat ∧ s[i].toNat < 128) ∨ (1 < Lx.charN (s.data.toList.drop i) ∧ 128 ≤ (Utf8.decode s i).1 ∧ 128 ≤ s[i].toNat)) := by
 have hle := Lx.charN_le (s.data.toList.drop i)
 rw [List.length_drop, show s.data.toList.length = s.size from by simp] at hle
 have hcls := charN_cls s i h
 rw [Lib.decode_at]
 rw [get_here s i h] at hcls ⊢
 have B0 := s[i].toNat_lt
 have hcase : Lx.charN (s.data.toList.drop i) = 1 ∨ Lx.charN (s.data.toList.drop i) = 2 ∨ Lx.charN (s.data.toList.drop i) = 3 ∨ Lx.charN (s.data.toList.drop i) = 4 := by
   have : ∀ n b0 b1 b2 b3, clsN n b0 b1 b2 b3 = 0 ∨ clsN n b0 b1 b2 b3 = 1 ∨ clsN n b0 b1 b2 b3 = 2 ∨ clsN n b0 b1 b2 b3 = 3 ∨ clsN n b0 b1 b2 b3 = 4 := by
     intro n b0 b1 b2 b3
     unfold clsN
     repeat' split
     all_goals omega
   have := this (s.size - i) s[i].toNat (s.get! (i + 1)).toNat (s.get! (i + 2)).toNat (s.get! (i + 3)).toNat
   rw [← hcls] at this
   omega
 rcases hcase with e | e | e | e
 · rw [e] at hcls hle ⊢
   obtain ⟨q, d⟩ := cls_one _ _ _ _ _ hcls.symm
   rw [d]
   refine ⟨rfl, ?_, .inl ⟨rfl, rfl, q⟩⟩
   rw [drop_take s i 1 (by omega) [s.get! i] rfl (by intro k hk; have : k = 0 := by omega
                                                     subst this; rfl)]
   unfold Lib.encodeRune
   rw [Lib.encodeRuneZ_one (by omega) (by simp; omega)]
   simp only [List.map_cons, List.map_nil]
   rw [byte_back s[i] _ rfl, get_here s i h]
 · rw [e] at hcls hle ⊢
   obtain ⟨q, q1, d⟩ := cls_two _ _ _ _ _ hcls.symm
   rw [d]
   refine ⟨rfl, ?_, .inr ⟨by omega, by simp only; omega, by omega⟩⟩
   rw [drop_take s i 2 (by omega) [s.get! i, s.get! (i + 1)] rfl (by intro k hk; have : k = 0 ∨ k = 1 := by omega
                                                                     rcases this with rfl | rfl <;> rfl)]
   unfold Lib.encodeRune
   rw [Lib.encodeRuneZ_two (by simp only; omega) (by simp only; omega)]
   simp only [List.map_cons, List.map_nil]
   rw [byte_back s[i] _ (by omega), byte_back (s.get! (i + 1)) _ (by omega), get_here s i h]
 · rw [e] at hcls hle ⊢
   obtain ⟨q, q1, q2, d⟩ := cls_three _ _ _ _ _ hcls.symm
   unfold Lx.loOf Lx.hiOf at q1
   have B1 := (s.get! (i + 1)).toNat_lt
   have hr : ((2048 : Int) ≤ ((s[i].toNat % 16 * 4096 + (s.get! (i + 1)).toNat % 64 * 64 + (s.get! (i + 2)).toNat % 64 : Nat) : Int) ∧ ((s[i].toNat % 16 * 4096 + (s.get! (i + 1)).toNat % 64 * 64 + (s.get! (i + 2)).toNat % 64 : Nat) : Int) < 55296) ∨ ((57343 : Int) < ((s[i].toNat % 16 * 4096 + (s.get! (i + 1)).toNat % 64 * 64 + (s.get! (i + 2)).toNat % 64 : Nat) : Int) ∧ ((s[i].toNat % 16 * 4096 + (s.get! (i + 1)).toNat % 64 * 64 + (s.get! (i + 2)).toNat % 64 : Nat) : Int) ≤ 65535) := by
     repeat' split at q1
     all_goals omega
   have hb1 : 128 ≤ (s.get! (i + 1)).toNat ∧ (s.get! (i + 1)).toNat ≤ 191 := by
     repeat' split at q1
     all_goals omega
   rw [d]
   refine ⟨rfl, ?_, .inr ⟨by omega, by simp only; omega, by omega⟩⟩
   rw [drop_take s i 3 (by omega) [s.get! i, s.get! (i + 1), s.get! (i + 2)] rfl (by intro k hk; have : k = 0 ∨ k = 1 ∨ k = 2 := by omega
                                                                                     rcases this with rfl | rfl | rfl <;> rfl)]
   unfold Lib.encodeRune
   rw [Lib.encodeRuneZ_three hr]
   simp only [List.map_cons, List.map_nil]
   rw [byte_back s[i] _ (by omega), byte_back (s.get! (i + 1)) _ (by omega), byte_back (s.get! (i + 2)) _ (by omega), get_here s i h]
 · rw [e] at hcls hle ⊢
   obtain ⟨q, q1, q2, q3, d⟩ := cls_four _ _ _ _ _ hcls.symm
   unfold Lx.loOf Lx.hiOf at q1
   have B1 := (s.get! (i + 1)).toNat_lt
   have hb1 : 128 ≤ (s.get! (i + 1)).toNat ∧ (s.get! (i + 1)).toNat ≤ 191 := by
     repeat' split at q1
     all_goals omega
   have hr : (65536 : Int) ≤ ((s[i].toNat % 8 * 262144 + (s.get! (i + 1)).toNat % 64 * 4096 + (s.get! (i + 2)).toNat % 64 * 64 + (s.get! (i + 3)).toNat % 64 : Nat) : Int) ∧ ((s[i].toNat % 8 * 262144 + (s.get! (i + 1)).toNat % 64 * 4096 + (s.get! (i + 2)).toNat % 64 * 64 + (s.get! (i + 3)).toNat % 64 : Nat) : Int) ≤ 1114111 := by
     repeat' split at q1
     all_goals omega
   rw [d]
   refine ⟨rfl, ?_, .inr ⟨by omega, by simp only; omega, by omega⟩⟩
   rw [drop_take s i 4 (by omega) [s.get! i, s.get! (i + 1), s.get! (i + 2), s.get! (i + 3)] rfl (by intro k hk; have : k = 0 ∨ k = 1 ∨ k = 2 ∨ k = 3 := by omega
                                                                                                     rcases this with rfl | rfl | rfl | rfl <;> rfl)]
   unfold Lib.encodeRune
   rw [Lib.encodeRuneZ_four hr.1 hr.2]
   simp only [List.map_cons, List.map_nil]
   rw [byte_back s[i] _ (by omega), byte_back (s.get! (i + 1)) _ (by omega), byte_back (s.get! (i + 2)) _ (by omega), byte_back (s.get! (i + 3)) _ (by omega), get_here s i h]
theorem folB_some {l : Lx.Bs} {i lo hi : Nat} (h : Lx.folB l i lo hi = true) (hl : 128 ≤ lo) : ∃ c, l[i]? = some c ∧ 128 ≤ c.toNat := by
 unfold Lx.folB at h
 split at h
 · rename_i b hb
   simp only [decide_eq_true_eq] at h
   exact ⟨b, hb, by omega⟩
 · cases h
theorem loOf_ge (b : Nat) : 128 ≤ Lx.loOf b := by
 unfold Lx.loOf
 split
 · omega
 · split <;> omega
theorem char_nz (b : UInt8) (r : Lx.Bs) (hb : b.toNat ≠ 0) : (0 : UInt8) ∉ (b :: r).take (Lx.charN (b :: r)) := by
 intro hm
 obtain ⟨i, hi⟩ := List.mem_iff_getElem?.1 hm
 rw [List.getElem?_take] at hi
 split at hi
 case isFalse => cases hi
 case isTrue hlt =>
   have one : ∀ j lo hi', Lx.folB (b :: r) j lo hi' = true → 128 ≤ lo → i = j → False := by
     intro j lo hi' hf hlo e
     subst e
     obtain ⟨c, hc, hc'⟩ := folB_some hf hlo
     rw [hi] at hc
     cases hc
     simp at hc'
   have zero : i = 0 → False := by
     rintro rfl
     simp at hi
     exact hb (by rw [hi]; rfl)
   have lo := loOf_ge b.toNat
   unfold Lx.charN at hlt
   simp only at hlt
   split at hlt
   · exact zero (by omega)
   · split at hlt
     · rename_i h
       rcases (by omega : i = 0 ∨ i = 1) with e | e
       · exact zero e
       · exact one 1 _ _ h.2 (by omega) e
     · split at hlt
       · rename_i h
         rcases (by omega : i = 0 ∨ i = 1 ∨ i = 2) with e | e | e
         · exact zero e
         · exact one 1 _ _ h.2.1 lo e
         · exact one 2 _ _ h.2.2 (by omega) e
       · split at hlt
         · rename_i h
           rcases (by omega : i = 0 ∨ i = 1 ∨ i = 2 ∨ i = 3) with e | e | e | e
           · exact zero e
           · exact one 1 _ _ h.2.1 lo e
           · exact one 2 _ _ h.2.2.1 (by omega) e
           · exact one 3 _ _ h.2.2.2 (by omega) e
         · omega
theorem valid_zero : ∀ (n : Nat) (l : Lx.Bs), l.length ≤ n → Lx.validN l = (Lib.validD l && !l.contains 0)
 | 0, l, h => by
   have : l = [] := List.eq_nil_of_length_eq_zero (by omega)
   subst this
   rfl
 | n + 1, [], _ => rfl
 | n + 1, b :: r, h => by
   rw [Lx.validN_cons, Lib.validD_step _ (by simp)]
   have hsz : (⟨(b :: r).toArray⟩ : ByteArray).size = r.length + 1 := by simp [ByteArray.size]
   have hd0 : (⟨(b :: r).toArray⟩ : ByteArray).data.toList.drop 0 = b :: r := by simp
   by_cases hc : Lx.charN (b :: r) = 0
   · have := (dec_bad ⟨(b :: r).toArray⟩ 0 (by omega) (by rw [hd0]; exact hc)).1
     rw [if_pos (.inl hc), if_pos (by show (Utf8.decode _ 0).1 = _ ∧ (Utf8.decode _ 0).2 = _; rw [this]; exact ⟨rfl, rfl⟩)]
     simp
   · obtain ⟨h2, _, h3⟩ := dec_good ⟨(b :: r).toArray⟩ 0 (by omega) (by rw [hd0]; exact hc)
     rw [hd0] at h2 h3
     have hne : ¬ ((Lib.decodeL (b :: r)).1 = 65533 ∧ (Lib.decodeL (b :: r)).2 = 1) := by
       rintro ⟨e1, e2⟩
       have e1' : (Utf8.decode ⟨(b :: r).toArray⟩ 0).1 = 65533 := e1
       have e2' : (Utf8.decode ⟨(b :: r).toArray⟩ 0).2 = 1 := e2
       rcases h3 with ⟨_, q1, q2⟩ | ⟨q1, _⟩
       · rw [e1'] at q1; omega
       · omega
     have h2' : (Lib.decodeL (b :: r)).2 = Lx.charN (b :: r) := h2
     rw [if_neg hne, h2']
     have hle := Lx.charN_le (b :: r)
     simp only [List.length_cons] at hle h
     by_cases hb : b.toNat = 0
     · have : b = 0 := UInt8.toNat_inj.1 hb
       subst this
       rw [if_pos (.inr hb)]
       simp
     · rw [if_neg (by omega), valid_zero n _ (by rw [List.length_drop, List.length_cons]; omega)]
       congr 2
       have hz := char_nz b r hb
       rw [Bool.eq_iff_iff]
       simp only [List.contains_iff_mem]
       constructor
       · intro hm; exact List.mem_of_mem_drop hm
       · intro hm
         rw [← List.take_append_drop (Lx.charN (b :: r)) (b :: r)] at hm
         rcases List.mem_append.1 hm with hm | hm
         · exact absurd hm hz
         · exact hm
theorem valid_lib (l : Lx.Bs) : Lx.validN l = (Lib.validD l && !decide (0 ≤ Lib.indexByte l 0)) := by
 rw [valid_zero l.length l (Nat.le_refl _), Lib.contains_iff_indexByte]
section
open Lx (Bs)
theorem decF_lib : ∀ (f n : Nat), n < 10 ^ (f + 1) → Px.decF (f + 1) n = Lib.decDigits n
 | 0, n, h => by
   have h1 : n < 10 := by simpa using h
   rw [Px.decF, Lib.decDigits, if_pos h1, dif_pos h1]
 | f + 1, n, h => by
   rw [Px.decF, Lib.decDigits]
   by_cases h1 : n < 10
   · rw [if_pos h1, dif_pos h1]
   · rw [if_neg h1, dif_neg h1, decF_lib f (n / 10) (by rw [Nat.pow_succ] at h; omega)]
theorem itoa_pos (n : Nat) (h : n ≤ 9223372036854775808) : Lib.itoa (n : Int) = Px.decF 20 n := by
 rw [Lib.itoa_nonneg, decF_lib 19 n (by omega)]
theorem itoa_min (n : Nat) (h0 : 1 ≤ n) (h : n ≤ 9223372036854775808) : Lib.itoa (-(n : Int)) = 45 :: Px.decF 20 n := by
 rw [Lib.itoa_neg n h0, decF_lib 19 n (by omega)]
theorem decF_ne (n : Nat) : Px.decF 20 n ≠ [] := by
 rw [Px.decF]
 split <;> simp
def dblIn (m : UInt8) (s : Bs) : Bs := s.flatMap fun b => if b = m then [b, b] else [b]
theorem index_here (m : UInt8) (r : Bs) : Lib.index (m :: r) [m] = ((0 : Nat) : Int) := by
 rw [Lib.index_one, Lib.indexByte]; simp
theorem index_later (b m : UInt8) (r : Bs) (h : b ≠ m) : Lib.index (b :: r) [m] = if Lib.index r [m] = -1 then -1 else Lib.index r [m] + 1 := by
 rw [Lib.index_one, Lib.index_one, Lib.indexByte, if_neg (by simpa using h)]
 by_cases h1 : Lib.indexByte r m = -1
 · rw [if_pos (by simpa using h1), if_pos h1]
 · rw [if_neg (by simpa using h1), if_neg h1]
theorem count_later (b m : UInt8) (r : Bs) (h : b ≠ m) : Lib.count (b :: r) [m] = Lib.count r [m] := by
 have hi := index_later b m r h
 by_cases h1 : Lib.index r [m] = -1
 · rw [if_pos h1] at hi
   rw [Lib.count_miss hi, Lib.count_miss h1]
 · rw [if_neg h1] at hi
   have hge := Lib.index_ge r [m]
   obtain ⟨i, hi'⟩ : ∃ i : Nat, Lib.index r [m] = i := ⟨(Lib.index r [m]).toNat, by omega⟩
   rw [Lib.count_hit (by simp) hi', Lib.count_hit (i := i + 1) (by simp) (by rw [hi, hi']; omega)]
   rfl
theorem replaceK_later (b m : UInt8) (new r : Bs) (h : b ≠ m) : ∀ k, Lib.replaceK [m] new k (b :: r) = b :: Lib.replaceK [m] new k r
 | 0 => rfl
 | k + 1 => by
   have hi := index_later b m r h
   by_cases h1 : Lib.index r [m] = -1
   · rw [if_pos h1] at hi
     rw [Lib.replaceK, if_pos (by rw [hi]; rfl), Lib.replaceK, if_pos (by rw [h1]; rfl)]
   · rw [if_neg h1] at hi
     have hge := Lib.index_ge r [m]
     obtain ⟨i, hi'⟩ : ∃ i : Nat, Lib.index r [m] = i := ⟨(Lib.index r [m]).toNat, by omega⟩
     rw [Lib.replaceK_hit _ _ k r i hi', Lib.replaceK_hit _ _ k (b :: r) (i + 1) (by rw [hi, hi']; omega)]
     rw [List.length_singleton, show i + 1 + 1 = (i + 1) + 1 from rfl, List.drop_succ_cons, List.take_succ_cons]
     simp
theorem replaceK_dbl (m : UInt8) : ∀ s : Bs, Lib.replaceK [m] [m, m] (Lib.count s [m]) s = dblIn m s
 | [] => by rw [Lib.count_miss (by rfl)]; rfl
 | b :: r => by
   have ih := replaceK_dbl m r
   by_cases h : b = m
   · subst h
     rw [Lib.count_hit (by simp) (index_here b r), Nat.add_comm, Lib.replaceK_hit _ _ _ _ 0 (index_here b r)]
     simp only [List.length_singleton, Nat.zero_add, List.drop_succ_cons, List.drop_zero, List.take_zero, List.nil_append]
     rw [ih]
     simp [dblIn]
   · rw [count_later b m r h, replaceK_later b m _ r h, ih]
     simp [dblIn, h]
theorem replaceAll_dbl (m : UInt8) (s : Bs) : Lib.replaceAll s [m] [m, m] = dblIn m s := by
 unfold Lib.replaceAll Lib.replace
 rw [if_neg (by simp)]
 unfold Lib.replaceNum
 rw [if_pos (.inl (by decide))]
 exact replaceK_dbl m s
theorem dbl_in (m : UInt8) (s : Bs) : Px.dbl m s = [m] ++ dblIn m s ++ [m] := rfl
theorem count_le (m : UInt8) : ∀ s : Bs, Lib.count s [m] ≤ s.length
 | [] => by rw [Lib.count_miss (by rfl)]; simp
 | b :: r => by
   have ih := count_le m r
   by_cases h : b = m
   · subst h
     rw [Lib.count_hit (by simp) (index_here b r)]
     show 1 + Lib.count r [b] ≤ r.length + 1
     omega
   · rw [count_later b m r h, List.length_cons]; omega
end
end Go.Proofs.YtkcakbgcfnhgaaaGreatDoor
