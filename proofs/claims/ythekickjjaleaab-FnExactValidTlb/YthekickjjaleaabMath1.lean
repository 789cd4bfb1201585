/- Plain mathematics of chapter 1: numbers out of bytes, bytes out of numbers. No program, no memory. -/
namespace Go.Proofs.Ythekickjjaleaab
set_option linter.unusedVariables false

theorem copy_step (k : Nat) (ys zs : List Int) (hy : k < ys.length) (hz : k < zs.length) (h : ∀ j, j < k → ys[j]? = zs[j]?) : ∀ j, j < k + 1 → (ys.set k zs[k])[j]? = zs[j]? := by
  intro j hj
  by_cases e : j = k
  · subst e; simp [hy, hz]
  · rw [List.getElem?_set_ne (by omega)]; exact h j (by omega)

/-- All of the n bytes from addr on lie in a memory of 'len' bytes. -/
def insB (len : Nat) (addr n : Int) : Bool := decide (n ≤ len ∧ addr ≤ len - n)
def goodB (len : Nat) (addr n : Int) : Bool := decide ((n = 1 ∨ n = 2 ∨ n = 4 ∨ n = 8) ∧ n ≤ len ∧ addr ≤ len - n)

/-- The number that bytes make, lowest first. -/
def num : List Int → Int
  | [] => 0
  | b :: r => b + 256 * num r

theorem goodB_ins (len : Nat) (addr n : Int) (h : n = 1 ∨ n = 2 ∨ n = 4 ∨ n = 8) : insB len addr n = goodB len addr n := by
  simp [insB, goodB, h]

theorem num_bd : ∀ (zs : List Int) (k : Nat), (∀ z ∈ zs, 0 ≤ z ∧ z ≤ 255) → zs.length ≤ k → 0 ≤ num zs ∧ num zs < 256 ^ k
  | [], k, _, _ => by simp [num]; exact Int.pow_pos (by omega)
  | b :: r, 0, _, h => by simp at h
  | b :: r, k + 1, hz, h => by
    have ih := num_bd r k (fun z hz' => hz z (by simp [hz'])) (by simpa using h)
    have hb := hz b (by simp)
    have e : (256 : Int) ^ (k + 1) = 256 ^ k * 256 := Int.pow_succ _ _
    simp only [num]
    omega

theorem byt_mem {z : Int} {r : List Int} (h : ∀ i : Nat, 0 ≤ (z :: r)[i]?.getD 0 ∧ (z :: r)[i]?.getD 0 ≤ 255) : ∀ x ∈ r, 0 ≤ x ∧ x ≤ 255 := by
  intro x hx
  obtain ⟨i, hi, rfl⟩ := List.getElem_of_mem hx
  simpa [hi] using h (i + 1)

theorem num_append (xs ys : List Int) : num (xs ++ ys) = num xs + 256 ^ xs.length * num ys := by
  induction xs with
  | nil => simp [num]
  | cons x r ih =>
    simp only [List.cons_append, num, ih, List.length_cons, Int.pow_succ]
    rw [Int.mul_add, Int.add_assoc, Int.mul_comm (256 ^ r.length) 256, Int.mul_assoc]

theorem num_two (zs : List Int) (k : Nat) (h : k + 2 ≤ zs.length) : num ((zs.drop k).take 2) = zs[k]?.getD 0 + zs[k + 1]?.getD 0 * 256 := by
  rw [List.drop_eq_getElem_cons (by omega), List.take_succ_cons, List.drop_eq_getElem_cons (by omega), List.take_succ_cons]
  simp [num, show k < zs.length by omega, show k + 1 < zs.length by omega, Int.mul_comm]

theorem num_one (zs : List Int) (k : Nat) (h : k + 1 ≤ zs.length) : num ((zs.drop k).take 1) = zs[k]?.getD 0 := by
  rw [List.drop_eq_getElem_cons (by omega), List.take_succ_cons]
  simp [num, show k < zs.length by omega]

theorem num_join (zs : List Int) (k m : Nat) (h : k + 2 * m ≤ zs.length) : num ((zs.drop k).take (2 * m)) = num ((zs.drop k).take m) + num ((zs.drop (k + m)).take m) * 256 ^ m := by
  have e : (zs.drop k).take (2 * m) = (zs.drop k).take m ++ (zs.drop (k + m)).take m := by
    rw [show 2 * m = m + m by omega, List.take_add, List.drop_drop]
  rw [e, num_append, List.length_take, List.length_drop, Nat.min_eq_left (by omega), Int.mul_comm]

theorem num_sub_bd (zs : List Int) (k m : Nat) (h2 : ∀ i : Nat, 0 ≤ zs[i]?.getD 0 ∧ zs[i]?.getD 0 ≤ 255) : 0 ≤ num ((zs.drop k).take m) ∧ num ((zs.drop k).take m) < 256 ^ m := by
  refine num_bd _ m (fun z hz => ?_) (by simp; omega)
  have hz' := List.mem_of_mem_drop (List.mem_of_mem_take hz)
  obtain ⟨i, hi, rfl⟩ := List.getElem_of_mem hz'
  simpa [hi] using h2 i

/-- What ReadMem answers. -/
def rdV (zs : List Int) (addr n : Int) : Int := if goodB zs.length addr n then num ((zs.drop addr.toNat).take n.toNat) else 0

/-- The lowest n bytes of x, lowest first. -/
def byts : Int → Nat → List Int
  | _, 0 => []
  | x, n + 1 => x % 256 :: byts (x / 256) n

theorem byts_len : ∀ (n : Nat) (x : Int), (byts x n).length = n
  | 0, _ => rfl
  | n + 1, x => by simp [byts, byts_len n]

theorem byts_bd : ∀ (n : Nat) (x : Int) (z : Int), z ∈ byts x n → 0 ≤ z ∧ z ≤ 255
  | 0, _, _, h => by simp [byts] at h
  | n + 1, x, z, h => by
    simp [byts] at h
    rcases h with rfl | h
    · omega
    · exact byts_bd n _ z h

theorem bd_of_mem {zs : List Int} (h : ∀ z ∈ zs, 0 ≤ z ∧ z ≤ 255) (i : Nat) : 0 ≤ zs[i]?.getD 0 ∧ zs[i]?.getD 0 ≤ 255 := by
  by_cases hi : i < zs.length
  · simpa [hi] using h _ (List.getElem_mem hi)
  · simp [List.getElem?_eq_none (Nat.le_of_not_lt hi)]

/-- What WriteMem answers. -/
def wrL (zs : List Int) (addr n val : Int) : List Int :=
  if goodB zs.length addr n then zs.take addr.toNat ++ byts val n.toNat ++ zs.drop (addr.toNat + n.toNat) else zs

/-- zs with ys laid at place k. -/
def put (zs : List Int) (k : Nat) (ys : List Int) : List Int := zs.take k ++ ys ++ zs.drop (k + ys.length)

theorem put_len (zs : List Int) (k : Nat) (ys : List Int) (h : k + ys.length ≤ zs.length) : (put zs k ys).length = zs.length := by
  simp [put]; omega

theorem put_one (zs : List Int) (k : Nat) (z : Int) (h : k < zs.length) : zs.set k z = put zs k [z] := by
  rw [List.set_eq_take_append_cons_drop, if_pos h]; simp [put]

theorem put_put (zs : List Int) (k : Nat) (xs ys : List Int) (h : k + xs.length + ys.length ≤ zs.length) : put (put zs k xs) (k + xs.length) ys = put zs k (xs ++ ys) := by
  have e1 : (zs.take k ++ xs).length = k + xs.length := by simp; omega
  have t1 : (put zs k xs).take (k + xs.length) = zs.take k ++ xs := by
    unfold put
    rw [List.take_append_of_le_length (by omega), List.take_of_length_le (by omega)]
  have t2 : (put zs k xs).drop (k + xs.length + ys.length) = zs.drop (k + xs.length + ys.length) := by
    unfold put
    rw [List.drop_append, List.drop_of_length_le (by omega), e1, List.drop_drop, List.nil_append]
    congr 1; omega
  show (put zs k xs).take (k + xs.length) ++ ys ++ (put zs k xs).drop (k + xs.length + ys.length) = _
  rw [t1, t2]
  simp [put, Nat.add_assoc]

theorem byts_add (m : Nat) : ∀ (n : Nat) (x : Int), byts x (m + n) = byts x m ++ byts (x / 256 ^ m) n := by
  induction m with
  | zero => intro n x; simp [byts]
  | succ m ih =>
    intro n x
    rw [show m + 1 + n = (m + n) + 1 by omega]
    simp only [byts, ih, List.cons_append]
    rw [Int.pow_succ, Int.mul_comm, ← Int.ediv_ediv_of_nonneg (by omega : (0:Int) ≤ 256)]

theorem put_byts (zs : List Int) (k m n : Nat) (x : Int) (h : k + m + n ≤ zs.length) : put (put zs k (byts x m)) (k + m) (byts (x / 256 ^ m) n) = put zs k (byts x (m + n)) := by
  have := put_put zs k (byts x m) (byts (x / 256 ^ m) n) (by simp [byts_len]; omega)
  rw [byts_len] at this
  rw [this, ← byts_add]

/-- The marks k, k + 1, .. as bytes. -/
def mks (k : Int) : Nat → List Int
  | 0 => []
  | n + 1 => mks k n ++ [(k + n) % 256]

theorem mks_len (k : Int) : ∀ n, (mks k n).length = n
  | 0 => rfl
  | n + 1 => by simp [mks, mks_len k n]

theorem mks_at (k : Int) : ∀ (n i : Nat), i < n → (mks k n)[i]? = some ((k + i) % 256)
  | 0, i, h => by omega
  | n + 1, i, h => by
    by_cases e : i < n
    · rw [mks, List.getElem?_append_left (by rw [mks_len]; exact e)]
      exact mks_at k n i e
    · have e' : i = n := by omega
      subst e'
      rw [mks, List.getElem?_append_right (by rw [mks_len]; exact Nat.le_refl _), mks_len]
      simp

theorem mark_step (k0 : Int) (len j : Nat) (ys : List Int) (hy : ys.length = len) (hj : j < len) (h : ∀ t, t < j → ys[t]? = (mks k0 len)[t]?) : ∀ t, t < j + 1 → (ys.set j ((k0 + j) % 256))[t]? = (mks k0 len)[t]? := by
  intro t ht
  by_cases e : t = j
  · subst e; rw [mks_at k0 len t hj]; simp [hy, hj]
  · rw [List.getElem?_set_ne (by omega)]; exact h t (by omega)

theorem wrL_len (zs : List Int) (a n v : Int) (len : Nat) (h : zs.length = len) (h0 : 0 ≤ a) : (wrL zs a n v).length = len := by
  unfold wrL
  split
  · next hg =>
    simp only [goodB, decide_eq_true_eq] at hg
    simp [byts_len]
    omega
  · exact h

theorem mem_of_bd {zs : List Int} (h : ∀ i : Nat, 0 ≤ zs[i]?.getD 0 ∧ zs[i]?.getD 0 ≤ 255) : ∀ z ∈ zs, 0 ≤ z ∧ z ≤ 255 := by
  intro z hz
  obtain ⟨i, hi, rfl⟩ := List.getElem_of_mem hz
  simpa [hi] using h i

theorem wrL_bd (zs : List Int) (a n v : Int) (h : ∀ i : Nat, 0 ≤ zs[i]?.getD 0 ∧ zs[i]?.getD 0 ≤ 255) : ∀ i : Nat, 0 ≤ (wrL zs a n v)[i]?.getD 0 ∧ (wrL zs a n v)[i]?.getD 0 ≤ 255 := by
  have hm := mem_of_bd h
  refine bd_of_mem ?_
  unfold wrL
  split
  · intro z hz
    simp only [List.mem_append] at hz
    rcases hz with (hz | hz) | hz
    · exact hm z (List.mem_of_mem_take hz)
    · exact byts_bd _ _ z hz
    · exact hm z (List.mem_of_mem_drop hz)
  · exact hm

theorem num_byts : ∀ (n : Nat) (x : Int), 0 ≤ x → num (byts x n) = x % 256 ^ n
  | 0, x, h => by simp [byts, num, Int.emod_one]
  | n + 1, x, h => by
    simp only [byts, num]
    rw [num_byts n (x / 256) (by omega), Int.pow_succ, Int.mul_comm (256 ^ n) 256, Int.mul_comm 256 ((x / 256) % 256 ^ n)]
    have h1 := Int.emod_add_mul_ediv x (256 * 256 ^ n)
    have h2 := Int.emod_add_mul_ediv x 256
    have h3 := Int.emod_add_mul_ediv (x / 256) (256 ^ n)
    have h4 : x / (256 * 256 ^ n) = x / 256 / 256 ^ n := (Int.ediv_ediv_of_nonneg (by omega : (0:Int) ≤ 256)).symm
    rw [h4, Int.mul_assoc] at h1
    generalize 256 ^ n * (x / 256 / 256 ^ n) = t at *
    omega

theorem wrL_same (zs : List Int) (a n x : Int) (i : Nat) (h0 : 0 ≤ a) (h : goodB zs.length a n = true) (hi : (i : Int) < a ∨ a + n ≤ i) : (wrL zs a n x)[i]?.getD 0 = zs[i]?.getD 0 := by
  have hg := h
  simp only [goodB, decide_eq_true_eq] at hg
  have hl : (zs.take a.toNat).length = a.toNat := by simp; omega
  have hm : (zs.take a.toNat ++ byts x n.toNat).length = a.toNat + n.toNat := by simp [byts_len]; omega
  rw [wrL, if_pos h]
  rcases hi with hi | hi
  · rw [List.append_assoc, List.getElem?_append_left (by omega), List.getElem?_take, if_pos (by omega)]
  · rw [List.getElem?_append_right (by omega), hm, List.getElem?_drop]
    congr 2; omega

theorem rd_wr (zs : List Int) (a n x : Int) (h0 : 0 ≤ a) (hx : 0 ≤ x) (h : goodB zs.length a n = true) : rdV (wrL zs a n x) a n = x % 256 ^ n.toNat := by
  have hg := h
  simp only [goodB, decide_eq_true_eq] at hg
  rw [rdV, wrL_len zs a n x _ rfl h0, if_pos h, wrL, if_pos h, ← num_byts _ x hx]
  have hl : (zs.take a.toNat).length = a.toNat := by simp; omega
  rw [List.append_assoc, List.drop_append, List.drop_of_length_le (by omega), List.nil_append, hl, Nat.sub_self, List.drop_zero, List.take_append_of_le_length (by rw [byts_len]; exact Nat.le_refl _), List.take_of_length_le (by rw [byts_len]; exact Nat.le_refl _)]

end Go.Proofs.Ythekickjjaleaab
