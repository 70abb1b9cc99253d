import Derived.Test.YtffgnfbfifooeabDoorT20
namespace Go.Proofs.YtffgnfbfifooeabDoor
open Go.ChangeShapes Go.WideShapes Go.ChangeAt Go.RowKit Num

/-! words put together -/
def joinR : List (List UInt8) → List UInt8
  | [] => []
  | w :: r => 32 :: (w ++ joinR r)
def joinT : List (List UInt8) → List UInt8
  | [] => []
  | w :: r => w ++ joinR r
theorem joinR_snoc (w : List UInt8) : ∀ l : List (List UInt8), joinR (l ++ [w]) = joinR l ++ 32 :: w
  | [] => by simp [joinR]
  | x :: l => by
    show 32 :: (x ++ joinR (l ++ [w])) = 32 :: (x ++ joinR l) ++ 32 :: w
    rw [joinR_snoc w l]
    simp
theorem joinT_snoc (w : List UInt8) (l : List (List UInt8)) : joinT (l ++ [w]) = (if l = [] then [] else joinT l ++ [32]) ++ w := by
  cases l with
  | nil => simp [joinT, joinR]
  | cons x l =>
    show x ++ joinR (l ++ [w]) = _
    rw [joinR_snoc, if_neg (by simp)]
    show _ = x ++ joinR l ++ [32] ++ w
    simp
def goodW (w : List UInt8) : Prop := w ≠ [] ∧ ∀ c ∈ w, isSep c = false
theorem cut_good : ∀ (l : List UInt8) (acc : List (List UInt8)) (cur : List UInt8), (∀ w ∈ acc, goodW w) → (∀ c ∈ cur, isSep c = false) → ∀ w ∈ cutA isSep pushW l acc cur, goodW w
  | [], acc, cur, ha, hc => by
    show ∀ w ∈ pushW acc cur, goodW w
    unfold pushW
    split
    · exact ha
    · rename_i hne
      intro w hw
      rcases List.mem_append.1 hw with q | q
      · exact ha w q
      · rw [List.mem_singleton.1 q]
        exact ⟨hne, hc⟩
  | c :: l, acc, cur, ha, hc => by
    show ∀ w ∈ (if isSep c then cutA isSep pushW l (pushW acc cur) [] else cutA isSep pushW l acc (cur ++ [c])), goodW w
    split
    · exact cut_good l (pushW acc cur) [] (cut_good [] acc cur ha hc) (fun d hd => by cases hd)
    · rename_i hs
      exact cut_good l acc (cur ++ [c]) ha (fun d hd => by
        rcases List.mem_append.1 hd with q | q
        · exact hc d q
        · rw [List.mem_singleton.1 q]
          simpa using hs)
theorem words_good (l : List UInt8) : ∀ w ∈ wordsOf l, goodW w := cut_good l [] [] (fun w hw => by cases hw) (fun c hc => by cases hc)
theorem cut_join : ∀ (r acc : List (List UInt8)) (cur : List UInt8), (∀ w ∈ r, goodW w) → cur ≠ [] → cutA isSep pushW (joinR r) acc cur = acc ++ cur :: r
  | [], acc, cur, _, hc => by
    show pushW acc cur = _
    unfold pushW
    rw [if_neg hc]
  | w :: r, acc, cur, hr, hc => by
    show (if isSep 32 then cutA isSep pushW (w ++ joinR r) (pushW acc cur) [] else _) = _
    rw [if_pos (by decide), cutA_skip _ _ _ _ _ _ (hr w (by simp)).2]
    have := cut_join r (pushW acc cur) ([] ++ w) (fun x hx => hr x (by simp [hx])) (by simpa using (hr w (by simp)).1)
    rw [this]
    unfold pushW
    rw [if_neg hc]
    simp
theorem words_join : ∀ ws : List (List UInt8), (∀ w ∈ ws, goodW w) → wordsOf (joinT ws) = ws
  | [], _ => rfl
  | w :: r, h => by
    show cutA isSep pushW (w ++ joinR r) [] [] = _
    rw [cutA_skip _ _ _ _ _ _ (h w (by simp)).2, cut_join r [] ([] ++ w) (fun x hx => h x (by simp [hx])) (by simpa using (h w (by simp)).1)]
    simp
def sumW : List (List UInt8) → Nat
  | [] => 0
  | w :: r => w.length + 1 + sumW r
theorem sumW_snoc (w : List UInt8) : ∀ l : List (List UInt8), sumW (l ++ [w]) = sumW l + w.length + 1
  | [] => by simp [sumW]
  | x :: l => by
    show x.length + 1 + sumW (l ++ [w]) = x.length + 1 + sumW l + w.length + 1
    rw [sumW_snoc w l]
    omega
theorem sumW_push (acc : List (List UInt8)) (cur : List UInt8) : sumW (pushW acc cur) ≤ sumW acc + cur.length + 1 := by
  unfold pushW
  split
  · omega
  · rw [sumW_snoc]
    omega
theorem cut_sum : ∀ (l : List UInt8) (acc : List (List UInt8)) (cur : List UInt8), sumW (cutA isSep pushW l acc cur) ≤ sumW acc + cur.length + l.length + 1
  | [], acc, cur => by
    have := sumW_push acc cur
    show sumW (pushW acc cur) ≤ _
    simp
    omega
  | c :: l, acc, cur => by
    show sumW (if isSep c then cutA isSep pushW l (pushW acc cur) [] else cutA isSep pushW l acc (cur ++ [c])) ≤ _
    rw [List.length_cons]
    split
    · have h1 := cut_sum l (pushW acc cur) []
      have h2 := sumW_push acc cur
      simp at h1
      omega
    · have h1 := cut_sum l acc (cur ++ [c])
      rw [List.length_append, List.length_singleton] at h1
      omega
theorem joinR_length : ∀ l : List (List UInt8), (joinR l).length = sumW l
  | [] => rfl
  | w :: r => by
    show (32 :: (w ++ joinR r)).length = w.length + 1 + sumW r
    rw [List.length_cons, List.length_append, joinR_length r]
    omega
theorem joinT_length (l : List (List UInt8)) : (joinT l).length ≤ sumW l - 1 ∨ l = [] := by
  cases l with
  | nil => exact .inr rfl
  | cons w r =>
    left
    show (w ++ joinR r).length ≤ w.length + 1 + sumW r - 1
    rw [List.length_append, joinR_length]
    omega
theorem join_le (l : List UInt8) : (joinT (wordsOf l)).length ≤ l.length := by
  have h := cut_sum l [] []
  rcases joinT_length (wordsOf l) with q | q
  · have e : sumW (wordsOf l) ≤ l.length + 1 := by
      have : sumW ([] : List (List UInt8)) = 0 := rfl
      unfold wordsOf
      simp at h
      omega
    omega
  · rw [q]
    exact Nat.zero_le _
theorem joinT_take_le : ∀ (ws : List (List UInt8)) (i : Nat), (joinT (ws.take i)).length ≤ sumW ws := by
  intro ws i
  have h2 : ∀ (ws : List (List UInt8)) (i : Nat), sumW (ws.take i) ≤ sumW ws := by
    intro ws
    induction ws with
    | nil => intro i; simp
    | cons w r ih =>
      intro i
      cases i with
      | zero => exact Nat.zero_le _
      | succ i =>
        show w.length + 1 + sumW (r.take i) ≤ w.length + 1 + sumW r
        have := ih i
        omega
  rcases joinT_length (ws.take i) with q | q
  · have := h2 ws i
    omega
  · rw [q]
    exact Nat.zero_le _
theorem words_sum (l : List UInt8) : sumW (wordsOf l) ≤ l.length + 1 := by
  have h := cut_sum l [] []
  have : sumW ([] : List (List UInt8)) = 0 := rfl
  unfold wordsOf
  simp at h
  omega

/-! lines put together -/
def joinL : List (List UInt8) → List UInt8
  | [] => []
  | w :: r => w ++ 10 :: joinL r
theorem joinL_snoc (w : List UInt8) : ∀ l : List (List UInt8), joinL (l ++ [w]) = joinL l ++ w ++ [10]
  | [] => by simp [joinL]
  | x :: l => by
    show x ++ 10 :: joinL (l ++ [w]) = x ++ 10 :: joinL l ++ w ++ [10]
    rw [joinL_snoc w l]
    simp
theorem cut_lines : ∀ (l : List UInt8) (acc : List (List UInt8)) (cur : List UInt8), joinL (cutA isEnd addL l acc cur) = joinL acc ++ (cur ++ l) ∨ (joinL (cutA isEnd addL l acc cur) = joinL acc ++ (cur ++ l) ++ [10] ∧ cur ++ l ≠ [])
  | [], acc, cur => by
    show joinL (pushW acc cur) = _ ∨ (joinL (pushW acc cur) = _ ∧ _)
    unfold pushW
    split
    · rename_i h
      left
      rw [h]
      simp
    · rename_i h
      right
      rw [joinL_snoc]
      exact ⟨by simp, by simpa using h⟩
  | c :: l, acc, cur => by
    show joinL (if isEnd c then cutA isEnd addL l (addL acc cur) [] else cutA isEnd addL l acc (cur ++ [c])) = _ ∨ (joinL (if isEnd c then cutA isEnd addL l (addL acc cur) [] else cutA isEnd addL l acc (cur ++ [c])) = _ ∧ _)
    split
    · rename_i h
      have hc : c = 10 := UInt8.toNat_inj.1 (of_decide_eq_true h)
      subst hc
      have e : joinL (addL acc cur) ++ ([] ++ l) = joinL acc ++ (cur ++ 10 :: l) := by
        unfold addL
        rw [joinL_snoc]
        simp
      rcases cut_lines l (addL acc cur) [] with q | ⟨q, q2⟩
      · left
        rw [q, e]
      · right
        refine ⟨?_, by simp⟩
        rw [q, e]
    · rcases cut_lines l acc (cur ++ [c]) with q | ⟨q, q2⟩
      · left
        rw [q]
        simp
      · right
        refine ⟨?_, by simp⟩
        rw [q]
        simp
theorem lines_join (l : List UInt8) : joinL (linesOf l) = l ∨ (joinL (linesOf l) = l ++ [10] ∧ l ≠ []) := by
  have h := cut_lines l [] []
  have e : joinL ([] : List (List UInt8)) ++ ([] ++ l) = l := rfl
  rw [e] at h
  simpa [linesOf] using h
theorem cut_clean : ∀ (l : List UInt8) (acc : List (List UInt8)) (cur : List UInt8), (∀ w ∈ acc, ∀ c ∈ w, isEnd c = false) → (∀ c ∈ cur, isEnd c = false) → ∀ w ∈ cutA isEnd addL l acc cur, ∀ c ∈ w, isEnd c = false
  | [], acc, cur, ha, hc => by
    show ∀ w ∈ pushW acc cur, ∀ c ∈ w, isEnd c = false
    unfold pushW
    split
    · exact ha
    · intro w hw
      rcases List.mem_append.1 hw with q | q
      · exact ha w q
      · rw [List.mem_singleton.1 q]
        exact hc
  | c :: l, acc, cur, ha, hc => by
    show ∀ w ∈ (if isEnd c then cutA isEnd addL l (addL acc cur) [] else cutA isEnd addL l acc (cur ++ [c])), ∀ d ∈ w, isEnd d = false
    split
    · refine cut_clean l (addL acc cur) [] (fun w hw => ?_) (fun d hd => by cases hd)
      rcases List.mem_append.1 hw with q | q
      · exact ha w q
      · rw [List.mem_singleton.1 q]
        exact hc
    · rename_i hs
      exact cut_clean l acc (cur ++ [c]) ha (fun d hd => by
        rcases List.mem_append.1 hd with q | q
        · exact hc d q
        · rw [List.mem_singleton.1 q]
          simpa using hs)
theorem lines_clean (l : List UInt8) : ∀ w ∈ linesOf l, ∀ c ∈ w, isEnd c = false := cut_clean l [] [] (fun w hw => by cases hw) (fun c hc => by cases hc)
theorem joinL_take_le : ∀ (ls : List (List UInt8)) (i : Nat), (joinL (ls.take i)).length ≤ (joinL ls).length := by
  intro ls
  induction ls with
  | nil => intro i; simp
  | cons w r ih =>
    intro i
    cases i with
    | zero => exact Nat.zero_le _
    | succ i =>
      show (w ++ 10 :: joinL (r.take i)).length ≤ (w ++ 10 :: joinL r).length
      have := ih i
      simp
      omega
end Go.Proofs.YtffgnfbfifooeabDoor
