/-
  Parts of the proof, joined: DpllLm.
-/
import Derived.Test.YtpmdnbdmocdngaaGreatMh49

namespace Go.Proofs.YtpmdnbdmocdngaaGreat
set_option linter.unusedVariables false
set_option linter.unusedSimpArgs false

theorem one_len {α : Type} [DecidableEq α] {m : α} : ∀ {l : List α}, l.Nodup → m ∈ l → (l.filter fun x => decide (x = m)).length = 1
  | [], _, h => by cases h
  | a :: l, hn, h => by
    obtain ⟨h1, h2⟩ := List.nodup_cons.1 hn
    rw [List.filter_cons]
    by_cases e : a = m
    · subst e
      rw [if_pos (by simp)]
      have : (l.filter fun x => decide (x = a)) = [] := List.filter_eq_nil_iff.2 fun x hx hd => h1 (by rw [← of_decide_eq_true hd]; exact hx)
      rw [this]; rfl
    · rw [if_neg (by simpa using e)]
      exact one_len h2 ((List.mem_cons.1 h).resolve_left (fun k => e k.symm))
end Go.Proofs.YtpmdnbdmocdngaaGreat
