import Derived.Test.YtmmijcmlnhmooaaEF
import Derived.Test.YtmmijcmlnhmooaaE9
namespace Go.Proofs.Ytmmijcmlnhmooaa
open Go.ChangeShapes Go.WideShapes Go.ChangeAt Go.RowKit Num

/-- the read that the words which were loaded make -/
def rdD (p c s : Int) : List Int → Rd
  | [] => newR p c s
  | [a] => ⟨p, c, s, if s < a then 3 else 1, a, 0, 0, 1, false⟩
  | [a, b] => if s < a then ⟨p, c, s, 4, a, 0, fixB b.toNat, 2, false⟩ else ⟨p, c, s, 2, a, fixB b.toNat, 0, 2, false⟩
  | [a, b, d] => if d = a then ⟨p, c, s, 4, a, fixB b.toNat, fixB b.toNat, 3, false⟩ else ⟨p, c, s, 3, a, fixB b.toNat, 0, 3, true⟩
  | [a, b, _, f] => ⟨p, c, s, 4, a, fixB b.toNat, fixB f.toNat, 4, true⟩
  | _ => newR p c s
/-- may these words have been loaded -/
def okL (s : Int) : List Int → Prop
  | [] => True
  | [_] => True
  | [_, _] => True
  | [a, _, _] => ¬ s < a
  | [a, _, d, _] => ¬ s < a ∧ ¬ d = a
  | _ => False
theorem okL_len {s : Int} {L : List Int} (h : okL s L) : L.length ≤ 4 := by
  match L, h with
  | [], _ => simp
  | [_], _ => simp
  | [_, _], _ => simp
  | [_, _, _], _ => simp
  | [_, _, _, _], _ => simp
theorem rd_next (p c : Int) {s : Int} {L : List Int} (h : okL s L) : nextD s L = (if (rdD p c s L).k < 4 then wrd (rdD p c s L).k else -1) := by
  match L, h with
  | [], _ => rfl
  | [a], _ => by_cases q : s < a <;> simp [nextD, rdD, q, wrd]
  | [a, b], _ =>
    by_cases q : s < a
    · have q' : ¬ a ≤ s := by omega
      simp [nextD, rdD, q, q']
    · have q' : a ≤ s := by omega
      simp [nextD, rdD, q, q', wrd]
  | [a, b, d], _ => by_cases q : d = a <;> simp [nextD, rdD, q, wrd]
  | [a, b, d, f], _ => simp [nextD, rdD]
theorem rd_told (p c : Int) {s : Int} {L : List Int} (h : okL s L) : valD s L = (rdD p c s L).y ∧ tornD L = (rdD p c s L).t ∧ (L.length : Int) = (rdD p c s L).n := by
  match L, h with
  | [], _ => exact ⟨rfl, rfl, rfl⟩
  | [a], _ => by_cases q : s < a <;> simp [valD, nextD, tornD, rdD, q]
  | [a, b], _ =>
    by_cases q : s < a
    · have q' : ¬ a ≤ s := by omega
      simp [valD, nextD, tornD, rdD, q, q']
    · have q' : a ≤ s := by omega
      simp [valD, nextD, tornD, rdD, q, q']
  | [a, b, d], _ => by_cases q : d = a <;> simp [valD, nextD, tornD, rdD, q]
  | [a, b, d, f], h => simp [valD, nextD, tornD, rdD, h.2]
theorem rd_pcs (p c s : Int) (L : List Int) : (rdD p c s L).p = p ∧ (rdD p c s L).c = c ∧ (rdD p c s L).s = s := by
  unfold rdD
  split <;> (try split) <;> exact ⟨rfl, rfl, rfl⟩
theorem rd_more (p c : Int) {s : Int} {L : List Int} (h : okL s L) (hk : (rdD p c s L).k < 4) (u : Int) : okL s (L ++ [u]) ∧ rdD p c s (L ++ [u]) = nxt (rdD p c s L) u := by
  have u1 : up 0 = 1 := by decide +kernel
  have u2 : up 1 = 2 := by decide +kernel
  have u3 : up 2 = 3 := by decide +kernel
  have u4 : up 3 = 4 := by decide +kernel
  match L, h with
  | [], _ => exact ⟨trivial, by by_cases q : s < u <;> simp [rdD, nxt, nx0, newR, u1, q]⟩
  | [a], _ => by_cases q : s < a <;> exact ⟨trivial, by simp [rdD, nxt, nx0, q, u2]⟩
  | [a, b], _ =>
    by_cases q : s < a
    · simp [rdD, q] at hk
    · refine ⟨q, ?_⟩
      by_cases e : u = a <;> simp [rdD, nxt, nx0, q, e, u3]
  | [a, b, d], h =>
    by_cases q : d = a
    · simp [rdD, q] at hk
    · exact ⟨⟨h, q⟩, by simp [rdD, nxt, nx0, q, u4]⟩
  | [a, b, d, f], _ => simp [rdD] at hk
/-- a step of both reads -/
theorem rd_step {p c s : Int} {L ws : List Int} {o : Bool} (h : okL s L) : errD s p c L ws o = errR (rdD p c s L) ws o ∧ endD s p c L ws o = endR (rdD p c s L) ws o ∧ okL s (stepD s p c L ws o) ∧ rdD p c s (stepD s p c L ws o) = stepR (rdD p c s L) ws o ∧ (0 ≤ nextD s L → L.length ≤ 3) ∧ (nextD s L = -1 → 0 < L.length) := by
  have hn := rd_next p c h
  obtain ⟨e1, e2, _⟩ := rd_pcs p c s L
  have hE : errD s p c L ws o = errR (rdD p c s L) ws o := by
    unfold errD errR
    rw [hn, e1, e2]
    by_cases hk : (rdD p c s L).k < 4
    · have := wrd_in (rdD p c s L).k
      rw [if_pos hk, if_neg (by omega), if_pos hk]
    · rw [if_neg hk, if_pos (by omega), if_neg hk]
  have hS : okL s (stepD s p c L ws o) ∧ rdD p c s (stepD s p c L ws o) = stepR (rdD p c s L) ws o := by
    unfold stepD stepR
    rw [hE]
    by_cases he : errR (rdD p c s L) ws o = 0
    · have hk : (rdD p c s L).k < 4 := by
        by_cases q : (rdD p c s L).k < 4
        · exact q
        · simp [errR, q] at he
      rw [if_pos he, if_pos he, hn, if_pos hk, e1, e2]
      exact rd_more p c h hk _
    · rw [if_neg he, if_neg he]
      exact ⟨h, rfl⟩
  refine ⟨hE, ?_, hS.1, hS.2, ?_, ?_⟩
  · unfold endD endR
    rw [hE, rd_next p c hS.1, hS.2]
    congr 1
    rw [decide_eq_decide]
    by_cases hk : (stepR (rdD p c s L) ws o).k < 4
    · have := wrd_in (stepR (rdD p c s L) ws o).k
      rw [if_pos hk]
      omega
    · rw [if_neg hk]
      omega
  · match L, h with
    | [], _ => intro _; simp
    | [_], _ => intro _; simp
    | [_, _], _ => intro _; simp
    | [_, _, _], _ => intro _; simp
    | [_, _, _, _], _ => intro q; simp [nextD] at q
  · match L, h with
    | [], _ => intro q; simp [nextD] at q
    | [_], _ => intro _; simp
    | [_, _], _ => intro _; simp
    | [_, _, _], _ => intro _; simp
    | [_, _, _, _], _ => intro _; simp
end Go.Proofs.Ytmmijcmlnhmooaa
