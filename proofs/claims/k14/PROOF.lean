import PyProof.Rows.All
import Wide.All
import OpenK.AllK
import Wide.FinOn
import HandS.ForMost
import KE.GoesEnum
import KE.GoesMore
import HandS.Wide
import HandS.IsInst
import HandS.Defaults
import HandS.EndBits
import HandS.TupAny
import HandS.Property
import HandS.ClsMeth
import HandS.Star
import HandS.Gcd
import HandS.Evl
import HandS.RaiseMore
import KE.KMathGC
import PySem.Challenge.RW_everyname_k14_sizes_from_rows_and_values
set_option Elab.async false
set_option linter.all false
set_option maxRecDepth 100000
set_option maxHeartbeats 4000000
namespace EN.M
/-! ### falling products, binomials over all integers -/
def ff (n : Int) : Nat → Int
  | 0 => 1
  | k + 1 => ff n k * (n - k)
def fac : Nat → Int
  | 0 => 1
  | k + 1 => fac k * (k + 1)
theorem fac_pos : ∀ k, 0 < fac k
  | 0 => by decide
  | k + 1 => Int.mul_pos (fac_pos k) (by omega)
theorem ff_up (n : Int) : ∀ k, ff (n + 1) (k + 1) = (n + 1) * ff n k
  | 0 => by simp [ff]
  | k + 1 => by
    have ih := ff_up n k
    rw [ff, ih, ff, Int.mul_assoc]
    have e : n + 1 - ((k + 1 : Nat) : Int) = n - (k : Int) := by omega
    rw [e]
theorem ff_step (n : Int) (k : Nat) : ff (n + 1) (k + 1) = ff n (k + 1) + (k + 1) * ff n k := by
  rw [ff_up, show ff n (k + 1) = ff n k * (n - k) from rfl, Int.mul_comm (ff n k), ← Int.add_mul]
  have e : n - (k : Int) + ((k : Int) + 1) = n + 1 := by omega
  rw [e]
theorem ff_zero : ∀ k, ff 0 (k + 1) = 0
  | 0 => by simp [ff]
  | k + 1 => by rw [ff, ff_zero k, Int.zero_mul]
/-- up and down from 0 -/
theorem int_ind {p : Int → Prop} (h0 : p 0) (up : ∀ n, p n → p (n + 1)) (down : ∀ n, p (n + 1) → p n) : ∀ n, p n := by
  have a : ∀ m : Nat, p (m : Int) := fun m => by
    induction m with
    | zero => exact h0
    | succ m ih => exact up _ ih
  have b : ∀ m : Nat, p (-(m : Int)) := fun m => by
    induction m with
    | zero => exact h0
    | succ m ih =>
      refine down _ ?_
      have e : -((m + 1 : Nat) : Int) + 1 = -(m : Int) := by omega
      rw [e]
      exact ih
  intro n
  by_cases h : 0 ≤ n
  · have := a n.toNat
    rwa [Int.toNat_of_nonneg h] at this
  · have := b (-n).toNat
    rwa [Int.toNat_of_nonneg (by omega), Int.neg_neg] at this
theorem dvd_ff : ∀ (k : Nat) (n : Int), fac k ∣ ff n k
  | 0, n => ⟨1, by simp [ff, fac]⟩
  | k + 1, n => by
    have part : ∀ n : Int, fac (k + 1) ∣ (k + 1) * ff n k := fun n => by
      obtain ⟨q, e⟩ := dvd_ff k n
      exact ⟨q, by rw [e, fac, ← Int.mul_assoc, Int.mul_comm ((k : Int) + 1)]⟩
    refine int_ind (p := fun n => fac (k + 1) ∣ ff n (k + 1)) ⟨0, by rw [ff_zero, Int.mul_zero]⟩ (fun n h => ?_) (fun n h => ?_) n
    · rw [ff_step]
      exact Int.dvd_add h (part n)
    · rw [ff_step] at h
      exact (Int.dvd_add_left (part n)).mp h
def C (n : Int) (k : Nat) : Int := ff n k / fac k
theorem C_mul (n : Int) (k : Nat) : C n k * fac k = ff n k := Int.ediv_mul_cancel (dvd_ff k n)
theorem fac_cancel {k : Nat} {a b : Int} (h : a * fac k = b * fac k) : a = b := Int.eq_of_mul_eq_mul_right (Int.ne_of_gt (fac_pos k)) h
theorem C_zero (n : Int) : C n 0 = 1 := by simp [C, ff, fac]
theorem C_rec (n : Int) (k : Nat) : C n (k + 1) * (k + 1) = C n k * (n - k) := by
  refine fac_cancel (k := k) ?_
  rw [Int.mul_assoc, Int.mul_comm ((k : Int) + 1), show fac k * ((k : Int) + 1) = fac (k + 1) from rfl, C_mul, ff, ← C_mul n k, Int.mul_right_comm]
theorem C_next (n : Int) (k : Nat) : C n k * (n - k) / ((k : Int) + 1) = C n (k + 1) := by
  rw [← C_rec]
  exact Int.mul_ediv_cancel _ (by omega)
theorem pascal (n : Int) (k : Nat) : C (n + 1) (k + 1) = C n (k + 1) + C n k := by
  refine fac_cancel (k := k + 1) ?_
  rw [Int.add_mul, C_mul, C_mul, ff_step, show fac (k + 1) = fac k * ((k : Int) + 1) from rfl, ← Int.mul_assoc, C_mul, Int.mul_comm (ff n k)]
theorem C_at0 (k : Nat) : C 0 (k + 1) = 0 := by rw [C, ff_zero, Int.zero_ediv]
/-! ### rows -/
def valF : Nat → List Int → Int → Int
  | _, [], _ => 0
  | j, a :: r, n => a * C n j + valF (j + 1) r n
def val (r : List Int) (n : Int) : Int := valF 0 r n
theorem valF_step : ∀ (r : List Int) (j : Nat) (n : Int), valF (j + 1) r (n + 1) = valF (j + 1) r n + valF j r n
  | [], j, n => rfl
  | a :: r, j, n => by
    rw [valF, valF, valF, valF_step r (j + 1) n, pascal, Int.mul_add]
    omega
theorem valF_at0 : ∀ (r : List Int) (j : Nat), valF (j + 1) r 0 = 0
  | [], _ => rfl
  | a :: r, j => by rw [valF, C_at0, Int.mul_zero, valF_at0 r (j + 1), Int.zero_add]
theorem val_cons (a : Int) (r : List Int) (n : Int) : val (a :: r) n = a + valF 1 r n := by
  show a * C n 0 + valF 1 r n = _
  rw [C_zero, Int.mul_one]
theorem valF1_step (r : List Int) (n : Int) : valF 1 r (n + 1) = valF 1 r n + val r n := valF_step r 0 n
/-! ### through values -/
def diffs : List Int → List Int
  | a :: b :: r => (b - a) :: diffs (b :: r)
  | _ => []
theorem diffs_len : ∀ l : List Int, (diffs l).length = l.length - 1
  | [] => rfl
  | [_] => rfl
  | a :: b :: r => by
    have ih := diffs_len (b :: r)
    rw [diffs, List.length_cons, ih]
    simp
theorem diffs_get : ∀ (l : List Int) (k : Nat) (x y : Int), l[k]? = some x → l[k + 1]? = some y → (diffs l)[k]? = some (y - x)
  | [], k, x, y, h, _ => by simp at h
  | [a], k, x, y, h, h2 => by simp at h2
  | a :: b :: r, 0, x, y, h, h2 => by
    simp at h h2
    simp [diffs, h, h2]
  | a :: b :: r, k + 1, x, y, h, h2 => by
    have ih := diffs_get (b :: r) k x y (by simpa using h) (by simpa using h2)
    simpa [diffs] using ih
def thrN : Nat → List Int → List Int
  | m + 1, a :: r => a :: thrN m (diffs (a :: r))
  | _, _ => []
def thr (l : List Int) : List Int := thrN l.length l
theorem thr_nil : thr [] = [] := rfl
theorem thr_cons (a : Int) (r : List Int) : thr (a :: r) = a :: thr (diffs (a :: r)) := by
  show a :: thrN r.length (diffs (a :: r)) = a :: thrN (diffs (a :: r)).length (diffs (a :: r))
  rw [diffs_len]
  rfl
theorem thr_len (l : List Int) : (thr l).length = l.length := by
  have h : ∀ m (l : List Int), l.length = m → (thr l).length = m := by
    intro m
    induction m with
    | zero => intro l h; cases l with
      | nil => rfl
      | cons a r => simp at h
    | succ m ih => intro l h; cases l with
      | nil => simp at h
      | cons a r =>
        rw [thr_cons, List.length_cons, ih _ (by rw [diffs_len, h]; rfl)]
  exact h _ l rfl
theorem thr_val (l : List Int) : ∀ k : Nat, k < l.length → l[k]? = some (val (thr l) (k : Int)) := by
  have h : ∀ m (l : List Int), l.length = m → ∀ k : Nat, k < m → l[k]? = some (val (thr l) (k : Int)) := by
    intro m
    induction m with
    | zero => intro l h k hk; omega
    | succ m ih => intro l h; cases l with
      | nil => simp at h
      | cons a r =>
        intro k
        induction k with
        | zero =>
          intro _
          rw [thr_cons, val_cons, show ((0 : Nat) : Int) = 0 from rfl, valF_at0, Int.add_zero]
          rfl
        | succ k ihk =>
          intro hk
          have h1 := ihk (by omega)
          have hd := ih (diffs (a :: r)) (by rw [diffs_len, h]; rfl) k (by omega)
          obtain ⟨y, hy⟩ : ∃ y, (a :: r)[k + 1]? = some y := ⟨_, List.getElem?_eq_getElem (by omega)⟩
          have h2 := diffs_get _ k _ _ h1 hy
          rw [h2] at hd
          rw [hy]
          have e := Option.some.inj hd
          rw [thr_cons, val_cons] at e ⊢
          rw [show ((k + 1 : Nat) : Int) = (k : Int) + 1 from rfl, valF1_step, ← e]
          congr 1
          omega
  exact h _ l rfl
theorem row_unique : ∀ (r r' : List Int), r.length = r'.length → (∀ k : Nat, k < r.length → val r (k : Int) = val r' (k : Int)) → r = r'
  | [], [], _, _ => rfl
  | [], _ :: _, h, _ => by simp at h
  | _ :: _, [], h, _ => by simp at h
  | a :: r, b :: s, h, hv => by
    have h0 := hv 0 (by simp)
    rw [val_cons, val_cons, show ((0 : Nat) : Int) = 0 from rfl, valF_at0, valF_at0, Int.add_zero, Int.add_zero] at h0
    subst h0
    have hl : r.length = s.length := by simpa using h
    congr 1
    refine row_unique r s hl fun k hk => ?_
    have h1 := hv k (by rw [List.length_cons]; omega)
    have h2 := hv (k + 1) (by rw [List.length_cons]; omega)
    rw [val_cons, val_cons] at h1 h2
    rw [show ((k + 1 : Nat) : Int) = (k : Int) + 1 from rfl, valF1_step, valF1_step] at h2
    omega
def vals (f : Int → Int) (m : Nat) : List Int := (List.range m).map fun k : Nat => f (k : Int)
theorem vals_len (f : Int → Int) (m : Nat) : (vals f m).length = m := by simp [vals]
theorem vals_get (f : Int → Int) (m k : Nat) (h : k < m) : (vals f m)[k]? = some (f (k : Int)) := by
  simp [vals, h]
theorem thr_vals (r : List Int) : thr (vals (val r) r.length) = r := by
  refine row_unique _ _ (by rw [thr_len, vals_len]) fun k hk => ?_
  rw [thr_len, vals_len] at hk
  have h := thr_val (vals (val r) r.length) k (by rw [vals_len]; exact hk)
  rw [vals_get _ _ _ hk] at h
  exact (Option.some.inj h).symm
theorem vals_congr {f g : Int → Int} {m : Nat} (h : ∀ k : Nat, k < m → f (k : Int) = g (k : Int)) : vals f m = vals g m := by
  unfold vals
  exact List.map_congr_left fun k hk => h k (List.mem_range.mp hk)
/-! ### ahead -/
def ah : List Int → Int → List Int
  | [], _ => []
  | a :: r, k => val (a :: r) k :: ah r k
theorem ah_len (k : Int) : ∀ r : List Int, (ah r k).length = r.length
  | [] => rfl
  | a :: r => by rw [ah, List.length_cons, ah_len k r, List.length_cons]
theorem ah_val (k : Int) : ∀ (r : List Int) (n : Int), val (ah r k) n = val r (n + k)
  | [], n => rfl
  | a :: r, n => by
    have ih := ah_val k r
    rw [ah, val_cons, val_cons, val_cons]
    refine int_ind (p := fun n => a + valF 1 r k + valF 1 (ah r k) n = a + valF 1 r (n + k)) ?_ (fun n h => ?_) (fun n h => ?_) n
    · rw [valF_at0, Int.zero_add, Int.add_zero]
    · rw [valF1_step, ih, show n + 1 + k = n + k + 1 by omega, valF1_step]
      omega
    · rw [valF1_step, ih, show n + 1 + k = n + k + 1 by omega, valF1_step] at h
      omega
theorem ah_get (k : Int) : ∀ (r : List Int) (j : Nat), j < r.length → (ah r k)[j]? = some (val (r.drop j) k)
  | [], j, h => by simp at h
  | a :: r, 0, h => rfl
  | a :: r, j + 1, h => by
    have ih := ah_get k r j (by simpa using h)
    simpa [ah] using ih
theorem ah_eq (r : List Int) (k : Int) : (List.range r.length).map (fun j => val (r.drop j) k) = ah r k := by
  refine List.ext_getElem? fun j => ?_
  by_cases h : j < r.length
  · rw [ah_get k r j h]
    simp [h]
  · have h1 : (ah r k)[j]? = none := List.getElem?_eq_none_iff.mpr (by rw [ah_len]; omega)
    rw [h1]
    simp; omega
/-! ### without the zeros at the end -/
def cutN (r : List Int) : Nat → Nat
  | 0 => 0
  | e + 1 => if r[e]? = some 0 then cutN r e else e + 1
def cut (r : List Int) : List Int := r.take (cutN r r.length)
theorem cutN_le (r : List Int) : ∀ e, cutN r e ≤ e
  | 0 => Nat.le_refl _
  | e + 1 => by
    unfold cutN
    split
    · exact Nat.le_succ_of_le (cutN_le r e)
    · exact Nat.le_refl _
theorem valF_append : ∀ (r s : List Int) (j : Nat) (n : Int), valF j (r ++ s) n = valF j r n + valF (j + r.length) s n
  | [], s, j, n => by simp [valF]
  | a :: r, s, j, n => by
    rw [List.cons_append, valF, valF, valF_append r s (j + 1) n, List.length_cons, show j + 1 + r.length = j + (r.length + 1) by omega]
    omega
theorem val_take (r : List Int) (n : Int) : ∀ e, e ≤ r.length → val (r.take (cutN r e)) n = val (r.take e) n
  | 0, _ => rfl
  | e + 1, h => by
    unfold cutN
    split
    · rename_i z
      rw [val_take r n e (by omega)]
      have hx : e < r.length := by omega
      rw [List.take_succ_eq_append_getElem hx, val, val, valF_append]
      have e0 : r[e] = 0 := by
        rw [List.getElem?_eq_getElem hx] at z
        exact Option.some.inj z
      rw [e0]
      simp [valF]
    · rfl
theorem cut_val (r : List Int) (n : Int) : val (cut r) n = val r n := by
  rw [cut, val_take r n _ (Nat.le_refl _), List.take_length]
/-! ### the falling product as a row -/
def fallRow (m : Nat) : List Int := List.replicate m 0 ++ [fac m]
theorem valF_zeros (n : Int) : ∀ (m j : Nat), valF j (List.replicate m 0) n = 0
  | 0, _ => rfl
  | m + 1, j => by rw [List.replicate_succ, valF, valF_zeros n m (j + 1), Int.zero_mul, Int.zero_add]
theorem fall_val (m : Nat) (n : Int) : val (fallRow m) n = ff n m := by
  rw [fallRow, val, valF_append, valF_zeros, List.length_replicate]
  show 0 + (fac m * C n (0 + m) + 0) = _
  rw [Nat.zero_add, Int.zero_add, Int.add_zero, Int.mul_comm, C_mul]
theorem fall_len (m : Nat) : (fallRow m).length = m + 1 := by simp [fallRow]
/-! ### what the law wishes -/
theorem through_law (vs : List Int) (o : Int) : cut (ah (thr vs) (-o)) = cut (thr (vals (fun n => val (cut (thr vs)) (n - o)) vs.length)) := by
  have h : vals (fun n => val (cut (thr vs)) (n - o)) vs.length = vals (val (ah (thr vs) (-o))) (ah (thr vs) (-o)).length := by
    rw [ah_len, thr_len]
    refine vals_congr fun k _ => ?_
    rw [ah_val, cut_val]
    rfl
  rw [h, thr_vals]
theorem through_back (vs : List Int) (o : Int) (k : Nat) (h : k < vs.length) : vs[k]? = some (val (cut (ah (thr vs) (-o))) (o + k)) := by
  rw [cut_val, ah_val, show o + (k : Int) + -o = (k : Int) by omega]
  exact thr_val vs k h
theorem falling_law (m : Nat) (o : Int) : cut (ah (fallRow m) (-o)) = cut (thr (vals (fun n => ff (n - o) m) (m + 1))) := by
  have h : vals (fun n => ff (n - o) m) (m + 1) = vals (val (ah (fallRow m) (-o))) (ah (fallRow m) (-o)).length := by
    rw [ah_len, fall_len]
    refine vals_congr fun k _ => ?_
    rw [ah_val, fall_val]
    rfl
  rw [h, thr_vals]
end EN.M

namespace EN.M
theorem valF_sum (n : Int) : ∀ (r : List Int) (j : Nat), valF j r n = ((List.range r.length).map fun k => r.getD k 0 * C n (j + k)).sum
  | [], j => rfl
  | a :: r, j => by
    rw [valF, valF_sum n r (j + 1), List.length_cons, List.range_succ_eq_map, List.map_cons, List.map_map, List.sum_cons]
    congr 1
    congr 1
    refine List.map_congr_left fun k _ => ?_
    show r.getD k 0 * C n (j + 1 + k) = (a :: r).getD (k + 1) 0 * C n (j + (k + 1))
    rw [List.getD_cons_succ, show j + 1 + k = j + (k + 1) by omega]
theorem val_sum (n : Int) (r : List Int) : val r n = ((List.range r.length).map fun k => r.getD k 0 * C n k).sum := by
  have h := valF_sum n r 0
  simp only [Nat.zero_add] at h
  exact h
theorem diffs_eq (l : List Int) : diffs l = (List.range (l.length - 1)).map fun k => l.getD (k + 1) 0 - l.getD k 0 := by
  refine List.ext_getElem? fun k => ?_
  by_cases h : k < l.length - 1
  · have h0 : k < l.length := by omega
    have h1 : k + 1 < l.length := by omega
    rw [diffs_get l k _ _ (List.getElem?_eq_getElem h0) (List.getElem?_eq_getElem h1)]
    simp [h, List.getD_eq_getElem?_getD, List.getElem?_eq_getElem h0, List.getElem?_eq_getElem h1]
  · have e1 : (diffs l)[k]? = none := List.getElem?_eq_none_iff.mpr (by rw [diffs_len]; omega)
    have e2 : ((List.range (l.length - 1)).map fun k => l.getD (k + 1) 0 - l.getD k 0)[k]? = none := List.getElem?_eq_none_iff.mpr (by rw [List.length_map, List.length_range]; omega)
    rw [e1, e2]
theorem cutN_zero (r : List Int) (e : Nat) (h : r[e]? = some 0) : cutN r (e + 1) = cutN r e := by
  show (if r[e]? = some 0 then cutN r e else e + 1) = _
  rw [if_pos h]
theorem cutN_stop (r : List Int) (e : Nat) (h : r[e]? ≠ some 0) : cutN r (e + 1) = e + 1 := by
  show (if r[e]? = some 0 then cutN r e else e + 1) = _
  rw [if_neg h]
end EN.M

/-! zip of two and of three, each a list or a tuple; comprehensions over any iterator -/
namespace ZK
open PySem PySem.Spec PyProof.Rows L2
inductive Kd where | l | t
def SqK (K : PySem.W.Frag) (H : Hp) (a : Addr) (xs : List V) : Kd → Prop
  | .l => SqL K H a xs
  | .t => SqT K H a xs
def IterK (h : Heap) (it a : Addr) (i : Nat) : Kd → Prop
  | .l => h.IsListIter it a i
  | .t => h.IsTupleIter it a i
def ArrK (h : Heap) (a : Addr) (items : Array Value) : Kd → Prop
  | .l => h.IsList a items
  | .t => h.IsTuple a items
def firstO (a : Addr) : Kd → Obj
  | .l => { cls := .type "list_iterator", data := .fields #[.ref a, .int 0 0] }
  | .t => { cls := .type "tuple_iterator", data := .fields #[.ref a, .int 0 0] }
theorem iterK_at {h h' : Heap} {it a : Addr} {i : Nat} : ∀ {k : Kd}, IterK h it a i k → (∀ o, h.get? it = some o → h'.get? it = some o) → IterK h' it a i k
  | .l, x, e => Heap.IsListIter.at x e
  | .t, x, e => Heap.IsTupleIter.at x e
theorem iterK_obj {h : Heap} {it a : Addr} {i : Nat} : ∀ {k : Kd}, IterK h it a i k → ∃ o, h.get? it = some o ∧ ∀ v, o.data ≠ .cell v
  | .l, ⟨o, e, _, d⟩ => ⟨o, e, fun v q => by rw [d] at q; cases q⟩
  | .t, ⟨o, e, _, d⟩ => ⟨o, e, fun v q => by rw [d] at q; cases q⟩
theorem iterK_first {h : Heap} {it a : Addr} : ∀ {k : Kd}, h.get? it = some (firstO a k) → IterK h it a 0 k
  | .l, e => ⟨_, e, rfl, rfl⟩
  | .t, e => ⟨_, e, rfl, rfl⟩
theorem drawsK {prog : Program} {w : World} {A : Around} (hh : A.handled = none) (it a : Addr) (hne : a ≠ it) (items : Array Value) :
    ∀ k : Kd, Draws prog w A it [it, a] items.size (fun i v => items[i]? = some v) (fun i h => IterK h it a i k ∧ ArrK h a items k)
  | .l => Draws.list hh it a hne items
  | .t => Draws.tuple hh it a hne items
theorem beginsK (a : Addr) (items : Array Value) : ∀ k : Kd, Begins (.ref a) (firstO a k) fun h => ArrK h a items k
  | .l => begins_list a items
  | .t => begins_tuple a items
section
variable {X : Cx} {pins : List (Addr × Obj)} {σ : L2.St} {H : Hp} {s : Shared} {a : Addr} {xs ys : List V}
theorem invK (I : Inv X pins σ H s) : ∀ {k : Kd}, SqK X.K H a xs k → ∃ its : List Value, Vals xs its ∧ ArrK s.heap a its.toArray k ∧ xs.length ≤ sizeLine ∧ a < s.heap.objs.size
  | .l, h => by
    obtain ⟨its, r, p, z⟩ := I.list h
    exact ⟨its, r, p.isList, z, p.lt⟩
  | .t, h => by
    obtain ⟨its, r, p, z⟩ := I.tuple h
    exact ⟨its, r, p, z, p.lt⟩
theorem injK (I : Inv X pins σ H s) : ∀ {k : Kd}, SqK X.K H a xs k → SqK X.K H a ys k → xs = ys
  | .l, h, h' => I.list_inj h h'
  | .t, h, h' => I.tuple_inj h h'
end
theorem SqK.same {K : PySem.W.Frag} {H H' : Hp} {a : Addr} {xs : List V} (s : Same H H') : ∀ {k : Kd}, SqK K H a xs k → SqK K H' a xs k
  | .l, h => s.seq h
  | .t, h => by
    rcases h with (h | ⟨o, h⟩) | h
    · exact .inl (.inl (s _ _ h))
    · exact .inl (.inr ⟨o, s _ _ h⟩)
    · exact .inr h

/-! ### zip of two -/
def Itz2 (K : PySem.W.Frag) (k1 k2 : Kd) (a b : Addr) : It :=
  ⟨fun i H => ∃ (xs ys : List V) (x y : V), SqK K H a xs k1 ∧ SqK K H b ys k2 ∧ xs[i]? = some x ∧ ys[i]? = some y,
    fun i H v H' => ∃ T x y, v = .ref T ∧ H T = none ∧ H' = upd H T (.tup [x, y]) ∧ (∀ xs, SqK K H a xs k1 → xs[i]? = some x) ∧ ∀ ys, SqK K H b ys k2 → ys[i]? = some y,
    fun i H => ∃ xs ys : List V, SqK K H a xs k1 ∧ SqK K H b ys k2 ∧ i ≤ xs.length ∧ i ≤ ys.length ∧ (i = xs.length ∨ i = ys.length)⟩
theorem turn_z2 {P : Program} {w : World} {K : PySem.W.Frag} {elts : List Expr} {kk : Nat} {tpos : Pos} {k1 k2 : Kd} {a b z TI TO i1 i2 : Addr} (S : ZipSep2 z TI TO i1 i2 [i1, a] [i2, b]) (n1 : a ≠ i1) (n2 : b ≠ i2) :
    Turn P w K (.Tuple elts kk tpos) (Itz2 K k1 k2 a b) [z, TI, TO, i1, i2] z
      (fun i h => IsZip h z TI TO .none ∧ IsTupOf2 h TI (.ref i1) (.ref i2) ∧ (∃ x y, IsTupOf2 h TO x y) ∧ IterK h i1 a i k1 ∧ IterK h i2 b i k2) where
  mem := by simp
  obj := fun i h st c hc => by
    obtain ⟨hz, hTI, ⟨x, y, hTO⟩, h1, h2⟩ := st
    simp only [List.mem_cons, List.mem_nil_iff, or_false] at hc
    rcases hc with rfl | rfl | rfl | rfl | rfl
    · exact ⟨_, hz, fun v q => nomatch q⟩
    · exact ⟨_, hTI, fun v q => nomatch q⟩
    · exact ⟨_, hTO, fun v q => nomatch q⟩
    · exact iterK_obj h1
    · exact iterK_obj h2
  keep := fun i h h' st k => by
    obtain ⟨hz, hTI, ⟨x, y, hTO⟩, h1, h2⟩ := st
    exact ⟨k z (by simp) _ hz, k TI (by simp) _ hTI, ⟨x, y, k TO (by simp) _ hTO⟩, iterK_at h1 fun o q => k i1 (by simp) o q, iterK_at h2 fun o q => k i2 (by simp) o q⟩
  item := by
    intro X hP hw hK hc i pins s σ H E I hf st hg
    subst hP hw hK
    obtain ⟨hz, hTI, ⟨x0, y0, hTO⟩, h1, h2⟩ := st
    obtain ⟨xs, ys, x, y, qx, qy, hx, hy⟩ := hg
    obtain ⟨its1, rv1, p1, _, _⟩ := invK I qx
    obtain ⟨its2, rv2, p2, _, _⟩ := invK I qy
    obtain ⟨u1, hu1, ru1⟩ := rv1.get hx
    obtain ⟨u2, hu2, ru2⟩ := rv2.get hy
    have hh : X.A.in1.handled = none := I.ok.hd hc
    have l1 : i < its1.toArray.size := by simpa using (List.getElem?_eq_some_iff.mp hu1).1
    have l2 : i < its2.toArray.size := by simpa using (List.getElem?_eq_some_iff.mp hu2).1
    have zlt : z < s.heap.objs.size := Heap.lt_size hz
    refine wpAny_pyNext_zipD2_item S (drawsK hh i1 a n1 its1.toArray k1) (drawsK hh i2 b n2 its2.toArray k2) hz hTI hTO ⟨h1, p1⟩ ⟨h2, p2⟩ l1 l2 fun v1 v2 h' tk pv1 pv2 z' TO' s1 s2 hT hsz hk => ?_
    have e1 : v1 = u1 := by simpa [hu1] using pv1.symm
    have e2 : v2 = u2 := by simpa [hu2] using pv2.symm
    subst e1 e2
    refine ⟨_, rfl, wpAny_letOwnedTupleGo_zip (s := { s with heap := h', toks := tk }) z' fun h'' z'' sb => ?_⟩
    have hT2 := (sb.2 _ (Nat.ne_of_gt zlt)).trans hT
    have new : ObjOk X.prog X.w (upd H s.heap.objs.size (.tup [x, y])) h'' s.heap.objs.size (.tup [x, y]) :=
      ⟨by show 2 ≤ sizeLine; decide, [v1, v2], .cons ru1 (.cons ru2 .nil), ⟨_, hT2, rfl, _, rfl⟩⟩
    have stay : ∀ c o, c ∉ [z, TI, TO, i1, i2] → s.heap.get? c = some o → h''.get? c = some o := fun c o hc q => by
      simp only [List.mem_cons, List.mem_nil_iff, or_false, not_or] at hc
      exact (sb.2 c hc.1).trans (hk c o hc.1 hc.2.2.1 hc.2.2.2.1 hc.2.2.2.2 q)
    have I1 := I.turnedNew (t' := tk) (ch := [z, TI, TO, i1, i2]) stay hf (Nat.le_refl _) new
    refine ⟨.ref s.heap.objs.size, _, I1, rfl, ⟨_, x, y, rfl, I.hok.fresh (Nat.le_refl _), rfl, fun l hl => by rw [injK I hl qx]; exact hx, fun l hl => by rw [injK I hl qy]; exact hy⟩, ⟨z'', ?_, ⟨v1, v2, ?_⟩, ?_, ?_⟩, fun c hcm => ?_⟩
    · exact (sb.2 _ S.TIz).trans (hk _ _ S.TIz S.TITO S.TIi1 S.TIi2 hTI)
    · exact (sb.2 _ S.TOz).trans TO'
    · exact iterK_at s1.1 fun o q => (sb.2 _ S.zi1.symm).trans q
    · exact iterK_at s2.1 fun o q => (sb.2 _ S.zi2.symm).trans q
    · have hlt : c < s.heap.objs.size := by
        simp only [List.mem_cons, List.mem_nil_iff, or_false] at hcm
        rcases hcm with rfl | rfl | rfl | rfl | rfl
        · exact zlt
        · exact Heap.lt_size hTI
        · exact Heap.lt_size hTO
        · obtain ⟨_, e, _⟩ := iterK_obj h1; exact Heap.lt_size e
        · obtain ⟨_, e, _⟩ := iterK_obj h2; exact Heap.lt_size e
      rw [upd_ne (Nat.ne_of_lt hlt)]
      exact (hf c hcm).1
  done := by
    intro X hP hw hK hc i pins s σ H E I hf st hg
    subst hP hw hK
    obtain ⟨hz, hTI, ⟨x0, y0, hTO⟩, h1, h2⟩ := st
    obtain ⟨xs, ys, qx, qy, le1, le2, hend⟩ := hg
    obtain ⟨its1, rv1, p1, _, _⟩ := invK I qx
    obtain ⟨its2, rv2, p2, _, _⟩ := invK I qy
    have hh : X.A.in1.handled = none := I.ok.hd hc
    have e1 := rv1.length
    have e2 := rv2.length
    refine wpAny_pyNext_zipD2_end S (drawsK hh i1 a n1 its1.toArray k1) (drawsK hh i2 b n2 its2.toArray k2) hz hTI hTO ⟨h1, p1⟩ ⟨h2, p2⟩ (by simp; omega) (by simp; omega) (by simp; omega) fun h' tk hk => ⟨rfl, ?_⟩
    refine I.turnedL (t' := tk) (ch := [z, TI, TO, i1, i2]) (fun c o hc q => ?_) hf
    simp only [List.mem_cons, List.mem_nil_iff, or_false, not_or] at hc
    exact hk c o hc.1 hc.2.2.1 hc.2.2.2.1 hc.2.2.2.2 q
  self := fun A i s Q E st h => wpAny_pyIter_zip st.1 h
def iZip2 (K : PySem.W.Frag) (k1 k2 : Kd) (ta : TA) : TI := fun σ H R => ta σ H fun vs H1 => ∃ a b xs ys, vs = [.ref a, .ref b] ∧ SqK K H1 a xs k1 ∧ SqK K H1 b ys k2 ∧ R (Itz2 K k1 k2 a b) H1
theorem pi_zip2 {X : Cx} {e e2 : Expr} {ta : TA} {p pos tpos : Pos} {elts : List Expr} {kk : Nat} (k1 k2 : Kd) (hg : Gl X "zip") (hm : X.mg "zip" = none) (ha : PA X [e, e2] ta)
    (hs : starEach [e, e2] X.env = (false, eval e X.env) :: starEach [e2] X.env := by rfl) (hpl : (backTo pos (starEach [e2] X.env)).any (·.1) = false := by rfl) :
    PI X (.Tuple elts kk tpos) (.Call (.Name "zip" p) [e, e2] [] pos) (iZip2 X.K k1 k2 ta) := by
  refine ⟨fun pins s σ H R I h => ?_⟩
  refine Call_ (ld_blt I hg hm PyProof.Rows.boot_zip (PyProof.Rows.callWith_type1 (thn (ha.run pos pins s σ H _ I h) fun us s1 ⟨vs, H1, I1, r1, q1⟩ => ?_) hs hpl))
  obtain ⟨a, b, xs, ys, ex, qx, qy, q⟩ := q1
  subst ex
  obtain ⟨u1, u2, rfl, ra, rb⟩ := vals2 r1
  cases (show u1 = Value.ref a from ra)
  cases (show u2 = Value.ref b from rb)
  obtain ⟨its1, rv1, p1, _, la⟩ := invK I1 qx
  obtain ⟨its2, rv2, p2, _, lb⟩ := invK I1 qy
  generalize hN : s1.heap.objs.size = N at la lb
  have fresh : ∀ c, c ∈ [N + 4, N + 2, N + 3, N, N + 1] → FpOk X pins H1 c := fun c hc => by
    have hle : s1.heap.objs.size ≤ c := by
      simp only [List.mem_cons, List.mem_nil_iff, or_false] at hc
      omega
    exact I1.fpOk hle (I1.hok.fresh hle)
  refine zip_begins2 (beginsK a its1.toArray k1) (beginsK b its2.toArray k2) p1 p2 fun h' hz hTI hTO g1 g2 hsz hk => wpAny_pyIter_zip hz ?_
  rw [hN] at hz hTI hTO g1 g2 ⊢
  have I2 : Inv X pins σ H1 { s1 with heap := h' } := I1.kept (t' := s1.toks) hk
  exact ⟨N + 4, [N + 4, N + 2, N + 3, N, N + 1], _, _, H1, rfl, I2, turn_z2 (zip_sep2 (fp1 := [a]) (fp2 := [b]) (by simpa using la) (by simpa using lb)) (Nat.ne_of_lt la) (Nat.ne_of_lt (Nat.lt_succ_of_lt lb)), ⟨hz, hTI, ⟨_, _, hTO⟩, iterK_first g1, iterK_first g2⟩, fresh, q⟩

/-! ### comprehensions over any iterator of n turns -/
theorem lc_any {J : It} {g : TG} {tt : TT} {te : TE} {vs : List Nat} {σ : L2.St} {H1 : Hp} {D : Addr} {Qd : Hp → Prop} (n : Nat) (Pv : Nat → Hp → Prop) (h0 : Pv 0 (upd H1 D (.lst [])))
    (hgo : ∀ i H, i < n → Pv i H → J.go i H) (hstop : ∀ H, Pv n H → J.stop n H)
    (hs : ∀ i H x H', i < n → Pv i H → J.yld i H x H' → g x (wipe σ vs) H' fun σ2 H2 => wipe σ2 vs = wipe σ vs ∧ tt σ2 H2 fun b H3 =>
      if b = true then te σ2 H3 fun y H4 => ∃ acc, H4 D = some (.lst acc) ∧ acc.length < sizeLine ∧ Pv (i + 1) (upd H4 D (.lst (acc ++ [y]))) else Pv (i + 1) H3) (hd : ∀ H, Pv n H → Qd H) :
    ∃ W : Nat → Nat → Hp → Prop, (∃ m, W 0 m (upd H1 D (.lst []))) ∧ ∀ i m H, W i m H →
      (J.stop i H ∧ Qd H) ∨ (J.go i H ∧ ∃ Nx : Hp → Prop, (∀ H', Nx H' → ∃ m', m' < m ∧ W (i + 1) m' H') ∧ ∀ x H', J.yld i H x H' → g x (wipe σ vs) H' fun σ2 H2 => wipe σ2 vs = wipe σ vs ∧ tt σ2 H2 fun b H3 =>
        if b = true then te σ2 H3 fun y H4 => ∃ acc, H4 D = some (.lst acc) ∧ acc.length < sizeLine ∧ Nx (upd H4 D (.lst (acc ++ [y]))) else Nx H3) := by
  refine ⟨fun i m H => i + m = n ∧ Pv i H, ⟨n, Nat.zero_add _, h0⟩, fun i m H ⟨e, p⟩ => ?_⟩
  by_cases hi : i < n
  · exact .inr ⟨hgo i H hi p, Pv (i + 1), fun H' p' => ⟨m - 1, by omega, by omega, p'⟩, fun x H' y => hs i H x H' hi p y⟩
  · obtain rfl : i = n := by omega
    exact .inl ⟨hstop H p, hd H p⟩
/-- one new member a turn: R i y is known of the i-th; I i of the heap ahead of turn i -/
theorem lc_grow {J : It} {g : TG} {te : TE} {vs : List Nat} {σ : L2.St} {H1 : Hp} {D : Addr} {Qd : Hp → Prop} (n : Nat) (hn : n < sizeLine) (I : Nat → Hp → Prop) (R : Nat → V → Prop) (h0 : I 0 (upd H1 D (.lst [])))
    (hgo : ∀ i H, i < n → I i H → J.go i H) (hstop : ∀ H, I n H → J.stop n H)
    (hs : ∀ i H x H' acc, i < n → I i H → H D = some (.lst acc) → acc.length = i → (∀ j y, acc[j]? = some y → R j y) → J.yld i H x H' → ∀ Qn : VK,
      (∀ y H4, R i y → H4 D = some (.lst acc) → I (i + 1) (upd H4 D (.lst (acc ++ [y]))) → Qn y H4) → g x (wipe σ vs) H' fun σ2 H2 => wipe σ2 vs = wipe σ vs ∧ te σ2 H2 Qn)
    (hd : ∀ H acc, I n H → H D = some (.lst acc) → acc.length = n → (∀ i y, acc[i]? = some y → R i y) → Qd H) :
    ∃ W : Nat → Nat → Hp → Prop, (∃ m, W 0 m (upd H1 D (.lst []))) ∧ ∀ i m H, W i m H →
      (J.stop i H ∧ Qd H) ∨ (J.go i H ∧ ∃ Nx : Hp → Prop, (∀ H', Nx H' → ∃ m', m' < m ∧ W (i + 1) m' H') ∧ ∀ x H', J.yld i H x H' → g x (wipe σ vs) H' fun σ2 H2 => wipe σ2 vs = wipe σ vs ∧ tYes σ2 H2 fun b H3 =>
        if b = true then te σ2 H3 fun y H4 => ∃ acc, H4 D = some (.lst acc) ∧ acc.length < sizeLine ∧ Nx (upd H4 D (.lst (acc ++ [y]))) else Nx H3) := by
  refine lc_any n (fun i H => I i H ∧ ∃ acc, H D = some (.lst acc) ∧ acc.length = i ∧ ∀ j y, acc[j]? = some y → R j y) ⟨h0, [], upd_same, rfl, fun j y h => by simp at h⟩ (fun i H hi p => hgo i H hi p.1) (fun H p => hstop H p.1) (fun i H x H' hi p y => ?_) (fun H p => ?_)
  · obtain ⟨pI, acc, hD, hl, hR⟩ := p
    have z := hs i H x H' acc hi pI hD hl hR y (fun y H4 => ∃ acc, H4 D = some (.lst acc) ∧ acc.length < sizeLine ∧ I (i + 1) (upd H4 D (.lst (acc ++ [y]))) ∧ ∃ acc', (upd H4 D (.lst (acc ++ [y]))) D = some (.lst acc') ∧ acc'.length = i + 1 ∧ ∀ j y, acc'[j]? = some y → R j y) fun z H4 hr h4 hi4 => by
      refine ⟨acc, h4, by omega, hi4, acc ++ [z], upd_same, by simp [hl], fun j u hj => ?_⟩
      by_cases hja : j < acc.length
      · rw [List.getElem?_append_left hja] at hj
        exact hR j u hj
      · have hj2 : j = i := by
          have := (List.getElem?_eq_some_iff.mp hj).1
          simp at this
          omega
        subst hj2
        rw [List.getElem?_append_right (by omega), hl] at hj
        simp at hj
        rw [← hj]
        exact hr
    have e : ∀ (A : TE) (B : Hp → Prop) (Q : VK), (fun (σ2 : L2.St) (H2 : Hp) => wipe σ2 vs = wipe σ vs ∧ A σ2 H2 Q) = fun σ2 H2 => wipe σ2 vs = wipe σ vs ∧ tYes σ2 H2 fun b H3 => if b = true then A σ2 H3 Q else B H3 := fun A B Q => by
      funext σ2 H2
      simp [tYes]
    rw [e te (fun H3 => I (i + 1) H3 ∧ ∃ acc', H3 D = some (.lst acc') ∧ acc'.length = i + 1 ∧ ∀ j y, acc'[j]? = some y → R j y)] at z
    exact z
  · obtain ⟨pI, acc, hD, hl, hR⟩ := p
    exact hd H acc pI hD hl hR
/-- over range(n) -/
theorem lc_growR {g : TG} {te : TE} {vs : List Nat} {σ : L2.St} {H1 : Hp} {D : Addr} {Qd : Hp → Prop} {lo : Int} (n : Nat) (hn : n < sizeLine) (I : Nat → Hp → Prop) (R : Nat → V → Prop) (h0 : I 0 (upd H1 D (.lst [])))
    (hs : ∀ i H acc, i < n → I i H → H D = some (.lst acc) → acc.length = i → (∀ j y, acc[j]? = some y → R j y) → ∀ Qn : VK,
      (∀ y H4, R i y → H4 D = some (.lst acc) → I (i + 1) (upd H4 D (.lst (acc ++ [y]))) → Qn y H4) → g (.int (lo + i)) (wipe σ vs) H fun σ2 H2 => wipe σ2 vs = wipe σ vs ∧ te σ2 H2 Qn)
    (hd : ∀ H acc, I n H → H D = some (.lst acc) → acc.length = n → (∀ i y, acc[i]? = some y → R i y) → Qd H) :
    ∃ W : Nat → Nat → Hp → Prop, (∃ m, W 0 m (upd H1 D (.lst []))) ∧ ∀ i m H, W i m H →
      ((Itr lo n).stop i H ∧ Qd H) ∨ ((Itr lo n).go i H ∧ ∃ Nx : Hp → Prop, (∀ H', Nx H' → ∃ m', m' < m ∧ W (i + 1) m' H') ∧ ∀ x H', (Itr lo n).yld i H x H' → g x (wipe σ vs) H' fun σ2 H2 => wipe σ2 vs = wipe σ vs ∧ tYes σ2 H2 fun b H3 =>
        if b = true then te σ2 H3 fun y H4 => ∃ acc, H4 D = some (.lst acc) ∧ acc.length < sizeLine ∧ Nx (upd H4 D (.lst (acc ++ [y]))) else Nx H3) := by
  refine lc_grow n hn I R h0 (fun i H hi _ => hi) (fun H _ => Nat.le_refl n) (fun i H x H' acc hi pI hD hl hR y Qn hq => ?_) hd
  obtain ⟨e1, e2⟩ := y
  subst e1 e2
  exact hs i H' acc hi pI hD hl hR Qn hq
/-- over a list that stays -/
theorem lc_growL {K : PySem.W.Frag} {a : Addr} {xs : List V} {g : TG} {te : TE} {vs : List Nat} {σ : L2.St} {H1 : Hp} {D : Addr} {Qd : Hp → Prop} (hn : xs.length < sizeLine) (I : Nat → Hp → Prop) (R : Nat → V → Prop) (h0 : I 0 (upd H1 D (.lst [])))
    (hl : ∀ i H, I i H → SqL K H a xs)
    (hs : ∀ i x H acc, xs[i]? = some x → I i H → H D = some (.lst acc) → acc.length = i → (∀ j y, acc[j]? = some y → R j y) → ∀ Qn : VK,
      (∀ y H4, R i y → H4 D = some (.lst acc) → I (i + 1) (upd H4 D (.lst (acc ++ [y]))) → Qn y H4) → g x (wipe σ vs) H fun σ2 H2 => wipe σ2 vs = wipe σ vs ∧ te σ2 H2 Qn)
    (hd : ∀ H acc, I xs.length H → H D = some (.lst acc) → acc.length = xs.length → (∀ i y, acc[i]? = some y → R i y) → Qd H) :
    ∃ W : Nat → Nat → Hp → Prop, (∃ m, W 0 m (upd H1 D (.lst []))) ∧ ∀ i m H, W i m H →
      ((Itl K a).stop i H ∧ Qd H) ∨ ((Itl K a).go i H ∧ ∃ Nx : Hp → Prop, (∀ H', Nx H' → ∃ m', m' < m ∧ W (i + 1) m' H') ∧ ∀ x H', (Itl K a).yld i H x H' → g x (wipe σ vs) H' fun σ2 H2 => wipe σ2 vs = wipe σ vs ∧ tYes σ2 H2 fun b H3 =>
        if b = true then te σ2 H3 fun y H4 => ∃ acc, H4 D = some (.lst acc) ∧ acc.length < sizeLine ∧ Nx (upd H4 D (.lst (acc ++ [y]))) else Nx H3) := by
  refine lc_grow xs.length hn I R h0 (fun i H hi p => ⟨xs, xs[i], hl i H p, List.getElem?_eq_getElem hi⟩) (fun H p => ⟨xs, hl _ H p, Nat.le_refl _⟩) (fun i H x H' acc hi pI hD hla hR y Qn hq => ?_) hd
  obtain ⟨e1, e2⟩ := y
  subst e1
  exact hs i x H' acc (e2 _ (hl i H' pI)) pI hD hla hR Qn hq
/-- over a tuple that stays -/
theorem lc_growT {K : PySem.W.Frag} {a : Addr} {xs : List V} {g : TG} {te : TE} {vs : List Nat} {σ : L2.St} {H1 : Hp} {D : Addr} {Qd : Hp → Prop} (hn : xs.length < sizeLine) (I : Nat → Hp → Prop) (R : Nat → V → Prop) (h0 : I 0 (upd H1 D (.lst [])))
    (hl : ∀ i H, I i H → SqT K H a xs)
    (hs : ∀ i x H acc, xs[i]? = some x → I i H → H D = some (.lst acc) → acc.length = i → (∀ j y, acc[j]? = some y → R j y) → ∀ Qn : VK,
      (∀ y H4, R i y → H4 D = some (.lst acc) → I (i + 1) (upd H4 D (.lst (acc ++ [y]))) → Qn y H4) → g x (wipe σ vs) H fun σ2 H2 => wipe σ2 vs = wipe σ vs ∧ te σ2 H2 Qn)
    (hd : ∀ H acc, I xs.length H → H D = some (.lst acc) → acc.length = xs.length → (∀ i y, acc[i]? = some y → R i y) → Qd H) :
    ∃ W : Nat → Nat → Hp → Prop, (∃ m, W 0 m (upd H1 D (.lst []))) ∧ ∀ i m H, W i m H →
      ((Itt K a).stop i H ∧ Qd H) ∨ ((Itt K a).go i H ∧ ∃ Nx : Hp → Prop, (∀ H', Nx H' → ∃ m', m' < m ∧ W (i + 1) m' H') ∧ ∀ x H', (Itt K a).yld i H x H' → g x (wipe σ vs) H' fun σ2 H2 => wipe σ2 vs = wipe σ vs ∧ tYes σ2 H2 fun b H3 =>
        if b = true then te σ2 H3 fun y H4 => ∃ acc, H4 D = some (.lst acc) ∧ acc.length < sizeLine ∧ Nx (upd H4 D (.lst (acc ++ [y]))) else Nx H3) := by
  refine lc_grow xs.length hn I R h0 (fun i H hi p => ⟨xs, xs[i], hl i H p, List.getElem?_eq_getElem hi⟩) (fun H p => ⟨xs, hl _ H p, Nat.le_refl _⟩) (fun i H x H' acc hi pI hD hla hR y Qn hq => ?_) hd
  obtain ⟨e1, e2⟩ := y
  subst e1
  exact hs i x H' acc (e2 _ (hl i H' pI)) pI hD hla hR Qn hq
/-- what is known of every member, as an equation of lists -/
theorem eq_map {acc : List V} {n : Nat} {f : Nat → V} (hl : acc.length = n) (h : ∀ i y, acc[i]? = some y → y = f i) : acc = (List.range n).map f := by
  refine List.ext_getElem? fun i => ?_
  by_cases hi : i < n
  · have e : acc[i]? = some acc[i] := List.getElem?_eq_getElem (by omega)
    rw [e, h i _ e]
    simp [hi]
  · have h1 : acc[i]? = none := List.getElem?_eq_none_iff.mpr (by omega)
    have h2 : ((List.range n).map f)[i]? = none := List.getElem?_eq_none_iff.mpr (by rw [List.length_map, List.length_range]; omega)
    rw [h1, h2]
end ZK

namespace EN
open PySem L2 PyProof.Rows
def top (i : Nat) : Stmt := PySem.Challenge.pw_everyname_k14_sizes_from_rows_and_values.main.body.getD i (.Pass ⟨0, 0, 0, 0⟩)

/-! ### a def by its module name -/
/-- the module's x is a def that keeps the promise sp by level k -/
structure Has (P : Program) (w : World) (K : PySem.W.Frag) (mg : Str → Option Value) (base : Heap) (k : Nat) (x : Str) (ps : List Str) (sp : Sp) : Prop where
  ex : ∃ (f : Addr) (fd : FuncData), FnOk P w K mg base CX0 k f fd ps sp ∧ mg x = some (.ref f) ∧ PySem.W.keepIn K (.ref f) = true ∧ Binds K fd ps []
section
variable {X : Cx} {k : Nat} {x : Str} {ps : List Str} {sp : Sp} {p pos : Pos} {e : Expr} {es : List Expr} {t : TA}
theorem pe_has (O : Has X.prog X.w X.K X.mg X.base k x ps sp) (hr : Room k X.A) (ha : PA X (e :: es) t) (hg : Gl X x := by rfl) (hdb : (x == ("__debug__" : Str)) = false := by decide)
    (he : starEach (e :: es) X.env = (false, eval e X.env) :: starEach es X.env := by rfl) (hpl : (backTo pos (starEach es X.env)).any (·.1) = false := by rfl) :
    PE X (.Call (.Name x p) (e :: es) [] pos) (tCall sp [] E0 t) := by
  obtain ⟨f, fd, F, hm, hk, hb⟩ := O.ex
  exact pe_call F hr hg hm hk hb .nil pass0 ha hdb he hpl
end

/-! ### built-ins whose reading names the written part -/
def rLenQ (K : PySem.W.Frag) : List V → Hp → VK → Prop := fun xs H Q => ∃ p ys, xs = [.ref p] ∧ (SqL K H p ys ∨ SqT K H p ys) ∧ Q (.int ys.length) H
theorem c_len {X : Cx} : CallR X (.builtin "len") (rLenQ X.K) := call_len_seq
def rListQ (K : PySem.W.Frag) : List V → Hp → VK → Prop := fun xs H Q => ∃ p ys, xs = [.ref p] ∧ (SqL K H p ys ∨ SqT K H p ys) ∧ ∀ l, H l = none → Q (.ref l) (upd H l (.lst ys))
theorem c_list {X : Cx} : CallR X (.type "list") (rListQ X.K) := call_list_of
def rTupQ (K : PySem.W.Frag) : List V → Hp → VK → Prop := fun xs H Q => ∃ p ys, xs = [.ref p] ∧ ((SqL K H p ys ∧ ∀ l, H l = none → Q (.ref l) (upd H l (.tup ys))) ∨ (SqT K H p ys ∧ Q (.ref p) H))
theorem c_tuple {X : Cx} : CallR X (.type "tuple") (rTupQ X.K) := call_tuple_of

/-! ### heaps -/
/-- what stood stands, but at p -/
def But (p : Addr) (H H' : Hp) : Prop := ∀ b o, H b = some o → b ≠ p → H' b = some o
theorem But.refl (p : Addr) (H : Hp) : But p H H := fun _ _ h _ => h
theorem But.trans {p : Addr} {H H1 H2 : Hp} (a : But p H H1) (b : But p H1 H2) : But p H H2 := fun c o h n => b c o (a c o h n) n
theorem But.upd {p : Addr} {H H1 : Hp} (a : But p H H1) (u : HO) : But p H (upd H1 p u) := fun c o h n => by
  rw [upd_ne n]; exact a c o h n
theorem But.new {p q : Addr} {H H1 : Hp} (a : But p H H1) (u : HO) (hq : H1 q = none) : But p H (L2.upd H1 q u) := fun c o h n => by
  rw [upd_ne (ne_of_none (a c o h n) hq)]; exact a c o h n
theorem same_but {p : Addr} {H H' : Hp} (a : Same H H') : But p H H' := fun c o h _ => a c o h
theorem same_new {q : Addr} {H H1 : Hp} (a : Same H H1) (u : HO) (hq : H1 q = none) : Same H (upd H1 q u) := fun c o h => by
  rw [upd_ne (ne_of_none (a c o h) hq)]; exact a c o h

/-- an object that came later is changed -/
theorem same_but_new {q : Addr} {H H1 : Hp} {u : HO} (a : Same H H1) (hq : H q = none) : Same H (upd H1 q u) := fun c o h => by
  rw [upd_ne (ne_of_none h hq)]; exact a c o h
theorem but_new {p q : Addr} {H H1 : Hp} {u : HO} (a : But p H H1) (hq : H q = none) : But p H (upd H1 q u) := fun c o h n => by
  rw [upd_ne (ne_of_none h hq)]; exact a c o h n

/-! ### the pen -/
abbrev kC : Key := Sum.inr "cells"
abbrev kB : Key := Sum.inr "begun"
abbrev kR : Key := Sum.inr "rest"
def penO (c : Addr) (b r : Int) : HO := .dK [(kC, .ref c), (kB, .int b), (kR, .int r)]
theorem pen_c (c : Addr) (b r : Int) : valV [(kC, V.ref c), (kB, .int b), (kR, .int r)] kC = some (.ref c) := by simp [valV]
theorem pen_b (c : Addr) (b r : Int) : valV [(kC, V.ref c), (kB, .int b), (kR, .int r)] kB = some (.int b) := by
  rw [valV_neg (show ¬ (kC = kB) by decide +kernel), valV_pos rfl]
theorem pen_r (c : Addr) (b r : Int) : valV [(kC, V.ref c), (kB, .int b), (kR, .int r)] kR = some (.int r) := by
  rw [valV_neg (show ¬ (kC = kR) by decide +kernel), valV_neg (show ¬ (kB = kR) by decide +kernel), valV_pos rfl]
theorem pen_pb (c : Addr) (b r : Int) (y : V) : putK [(kC, V.ref c), (kB, .int b), (kR, .int r)] kB y = [(kC, V.ref c), (kB, y), (kR, .int r)] := by
  have h1 : ¬ (kC = kB) := by decide +kernel
  have h2 : ¬ (kR = kB) := by decide +kernel
  unfold putK
  simp [h1, h2]
theorem pen_pr (c : Addr) (b r : Int) (y : V) : putK [(kC, V.ref c), (kB, .int b), (kR, .int r)] kR y = [(kC, V.ref c), (kB, .int b), (kR, y)] := by
  have h1 : ¬ (kC = kR) := by decide +kernel
  have h2 : ¬ (kB = kR) := by decide +kernel
  unfold putK
  simp [h1, h2]
/-- the pen at p over the cells ns at c; at most B cells were begun -/
structure Pen (H : Hp) (p c : Addr) (ns : List Int) (B : Nat) : Prop where
  at_ : ∃ b r : Int, H p = some (penO c b r) ∧ 0 ≤ b ∧ b ≤ B ∧ 0 ≤ r
  cells : H c = some (.lst (ns.map V.int))
  few : ns.length ≤ 63
  small : B ≤ 1000000000
theorem Pen.ne {H : Hp} {p c : Addr} {ns : List Int} {B : Nat} (h : Pen H p c ns B) : c ≠ p := by
  obtain ⟨b, r, e, _⟩ := h.at_
  exact ne_of h.cells e (by intro z; cases z)
theorem Pen.more {H : Hp} {p c : Addr} {ns : List Int} {B B' : Nat} (h : Pen H p c ns B) (hb : B ≤ B') (hs : B' ≤ 1000000000) : Pen H p c ns B' := by
  obtain ⟨b, r, e, h0, h1, h2⟩ := h.at_
  exact ⟨⟨b, r, e, h0, by omega, h2⟩, h.cells, h.few, hs⟩
/-- other objects may come, or change -/
theorem Pen.stay {H H' : Hp} {p c : Addr} {ns : List Int} {B : Nat} (h : Pen H p c ns B) (hp : H' p = H p) (hc : H' c = H c) : Pen H' p c ns B := by
  obtain ⟨b, r, e, z⟩ := h.at_
  exact ⟨⟨b, r, hp.trans e, z⟩, hc.trans h.cells, h.few, h.small⟩
theorem Pen.same {H H' : Hp} {p c : Addr} {ns : List Int} {B : Nat} (h : Pen H p c ns B) (s : Same H H') : Pen H' p c ns B := by
  obtain ⟨b, r, e, z⟩ := h.at_
  exact ⟨⟨b, r, s _ _ e, z⟩, s _ _ h.cells, h.few, h.small⟩
theorem Pen.new {H : Hp} {p c q : Addr} {ns : List Int} {B : Nat} {u : HO} (h : Pen H p c ns B) (hq : H q = none) : Pen (upd H q u) p c ns B := by
  obtain ⟨b, r, e, z⟩ := h.at_
  exact h.stay (upd_ne (ne_of_none e hq)) (upd_ne (ne_of_none h.cells hq))
theorem Pen.nep {H : Hp} {p c q : Addr} {ns : List Int} {B : Nat} (h : Pen H p c ns B) (hq : H q = none) : q ≠ p := by
  obtain ⟨b, r, e, z⟩ := h.at_
  exact (ne_of_none e hq).symm
theorem Pen.nec {H : Hp} {p c q : Addr} {ns : List Int} {B : Nat} (h : Pen H p c ns B) (hq : H q = none) : q ≠ c := (ne_of_none h.cells hq).symm

/-! ### the promises of the pen -/
def spPen (K : PySem.W.Frag) : Sp := fun vs H Q _ => ∃ (a : Addr) (ns : List Int), vs = [.ref a] ∧ SqL K H a (ns.map V.int) ∧ ns.length ≤ 63 ∧
  ∀ (p c : Addr) (H' : Hp), Same H H' → H p = none → H c = none → Pen H' p c ns 0 → Q (.ref p) H'
def spDraw : Sp := fun vs H Q _ => ∃ (p c : Addr) (ns : List Int) (B : Nat) (m : Int), vs = [.ref p, .int m] ∧ Pen H p c ns B ∧ B < 1000000000 ∧ 0 < m ∧ m.natAbs < 2 ^ 8000 ∧
  ∀ (d : Int) (H' : Hp), 0 ≤ d → d < m → Pen H' p c ns (B + 1) → But p H H' → Q (.int d) H'
/-- what the walk asks of the built-in names -/
structure Blt (mg : Str → Option Value) : Prop where
  list_ : mg "list" = none
  len_ : mg "len" = none
  int_ : mg "int" = none
  abs_ : mg "abs" = none
  range_ : mg "range" = none
  tuple_ : mg "tuple" = none
  isinstance_ : mg "isinstance" = none
  bool_ : mg "bool" = none
  all_ : mg "all" = none
  sum_ : mg "sum" = none
  zip_ : mg "zip" = none
  min_ : mg "min" = none
end EN

namespace EN
open PySem L2 PyProof.Rows
section
variable {P : Program} {w : World} {K : PySem.W.Frag} {mg : Str → Option Value} {base : Heap} {f : Addr} {fd : FuncData}
abbrev s_pen : Stmt := top 37
abbrev N_pen : List Str := ["_law_script"]
theorem sc_pen : FnScope N_pen ["_law_script"] (defScope s_pen) := ⟨rfl, rfl, rfl, by decide +kernel, rfl, by decide +kernel, by decide +kernel⟩

theorem cut63 {xs : List V} (h : xs.length ≤ 63) : cutV xs none (some 63) = xs := by
  unfold cutV
  rw [show HT.sIx xs.length 0 none = 0 from rfl, show (63 : Int) = ((63 : Nat) : Int) from rfl, HT.sIx_nat, List.drop_zero, Nat.sub_zero, Nat.min_eq_right h, List.take_length]
theorem pen_mk (c : Addr) : mergeK [] [(kC, V.ref c), (kB, .int 0), (kR, .int 0)] = [(kC, V.ref c), (kB, .int 0), (kR, .int 0)] := by
  have h1 : ¬ (kC = kB) := by decide +kernel
  have h2 : ¬ (kC = kR) := by decide +kernel
  have h3 : ¬ (kB = kR) := by decide +kernel
  simp [mergeK, putK, h1, h2, h3]
theorem ok_pen (F : Fun K "_law_pen" "_law_pen" s_pen f fd) (T : Blt mg) : FnOk P w K mg base CX0 1 f fd ["_law_script"] (spPen K) := by
  refine F.ok sc_pen (fun vs H Q E h => ?_) (fun cdv A outer s H vs Q E hr h => ?_)
  · obtain ⟨a, ns, rfl, _⟩ := h
    rfl
  · obtain ⟨a, ns, rfl, hS, hl, k⟩ := h
    have hu := hu_of hr
    refine ⟨_, (pss_one (ps_ret (pe_disp (pps_cons pe_str (pe_callTy (show CallR _ _ (rListQ K) from c_list) (by rfl) T.list_ (by decide +kernel) (pa_cons (pe_slice (show SlR _ (rSlL K) from sl_list) (pv 0) po_none (po_some pe_int)) pa_nil)) (pps_cons pe_str pe_int (pps_cons pe_str pe_int pps_nil))) (by rfl) (by rfl) (fun z => by cases z) (by decide)))), ?_⟩
    intro p hp
    have s1 : Same H (upd H p (.dK [])) := same_new (Same.refl H) _ hp
    refine ⟨_, rfl, _, rfl, a, _, rfl, s1.seq hS, fun q hq => ?_⟩
    refine ⟨q, _, rfl, .inl (SqL.of upd_same), fun c hc => ?_⟩
    have ec := cut63 (xs := ns.map V.int) (by rw [List.length_map]; exact hl)
    rw [ec] at hc ⊢
    have npq : p ≠ q := ne_of_none upd_same hq
    have npc : p ≠ c := ne_of_none (by rw [upd_ne npq]; exact upd_same) hc
    have nqc : q ≠ c := ne_of_none upd_same hc
    refine ⟨by rw [upd_ne npc, upd_ne npq, upd_same], [(kC, V.ref c), (kB, .int 0), (kR, .int 0)], rfl, (by show 3 ≤ 15; decide), ?_⟩
    rw [pen_mk]
    refine k p c _ (fun b o e => ?_) hp ?_ ⟨⟨0, 0, upd_same, Int.le_refl _, by decide, Int.le_refl _⟩, by rw [upd_ne npc.symm, upd_same], hl, by decide⟩
    · have nb : b ≠ p := ne_of_none e hp
      have e1 := s1 b o e
      rw [upd_ne nb]
      exact same_new (same_new (Same.refl _) _ hq) _ hc b o e1
    · have e1 : (upd H p (HO.dK [])) c = none := (same_new (Same.refl _) _ hq).free hc
      exact s1.free e1
end
end EN

namespace EN
open PySem L2 PyProof.Rows
section
variable {P : Program} {w : World} {K : PySem.W.Frag} {mg : Str → Option Value} {base : Heap} {f : Addr} {fd : FuncData}
abbrev s_draw : Stmt := top 38
abbrev N_draw : List Str := ["_law_pen_here", "_law_many", "_law_digit", "_law_spot", "_law_size", "_law_cell", "_law_stir"]
theorem sc_draw : FnScope N_draw ["_law_pen_here", "_law_many"] (defScope s_draw) := ⟨rfl, rfl, rfl, by decide +kernel, rfl, by decide +kernel, by decide +kernel⟩

/-! sizes of numbers -/
theorem lt_wide {x : Int} {n : Nat} (h : x.natAbs < 2 ^ n) : x.natAbs.log2 < n + 1 := by
  by_cases z : x.natAbs = 0
  · rw [z]
    exact Nat.succ_pos n
  · exact Nat.lt_succ_of_lt ((Nat.log2_lt z).mpr h)
theorem mulW {i j : Int} (a b : Nat) (ha : i.natAbs < 2 ^ a) (hb : j.natAbs < 2 ^ b) (h : a + b ≤ 999990) : CMulW i j := by
  have h1 := lt_wide ha
  have h2 := lt_wide hb
  show i.natAbs.log2 + j.natAbs.log2 < 1000000
  omega
theorem divW {i j : Int} (b : Nat) (h : 0 < j) (hb : j.natAbs < 2 ^ b) (h9 : b ≤ 8990) : CDivW i j := ⟨h, by have := lt_wide hb; omega⟩
theorem pm {x y : Int} (h : 0 < y) : (fun _ j : Int => 0 < j) x y := h
theorem add_small {x : Int} (h : x.natAbs < 2 ^ 32) : (x + 32771).natAbs < 2 ^ 33 := by omega
theorem at_some {xs : List Int} {i : Int} (h0 : 0 ≤ i) (h1 : i < xs.length) : ∃ z, atI (xs.map V.int) i = some (V.int z) := by
  obtain ⟨n, rfl⟩ := Int.eq_ofNat_of_zero_le h0
  have hn : n < xs.length := by omega
  exact ⟨xs[n], atI_nat (by rw [List.getElem?_map, List.getElem?_eq_getElem hn]; rfl)⟩
theorem ok_draw (F : Fun K "_law_draw" "_law_draw" s_draw f fd) (T : Blt mg) : FnOk P w K mg base CX0 1 f fd ["_law_pen_here", "_law_many"] spDraw := by
  refine F.ok sc_draw (fun vs H Q E h => ?_) (fun cdv A outer s H vs Q E hr h => ?_)
  · obtain ⟨p, c, ns, B, m, rfl, _⟩ := h
    rfl
  · obtain ⟨p, c, ns, B, m, rfl, hP, hB, hm, hmb, k⟩ := h
    have hu := hu_of hr
    obtain ⟨b, r, e, hb0, hbB, hr0⟩ := hP.at_
    have ncp := hP.ne
    refine ⟨_, (pss_cons (ps_if (pt_cmpR op_gt (pe_dget hu (pv 0) pe_str (fun _ _ => rfl)) pe_int (nomark _))
      (pss_cons (ps_set (i := 2) sc_draw.nd rfl (Or.inl rfl) (pe_op op_mod (pe_callTy call_int1 (by rfl) T.int_ (by decide +kernel) (pa_cons (pe_dget hu (pv 0) pe_str (fun _ _ => rfl)) pa_nil)) (pv 1)))
      (pss_cons (ps_dput hu (pv 0) pe_str (pe_op op_fdivW (pe_dget hu (pv 0) pe_str (fun _ _ => rfl)) (pv 1)) rfl)
      (pss_one (ps_ret (pv 2)))))
      pss_nil)
    (pss_cons (ps_par (i := 3) (j := 4) (by rfl) sc_draw.nd rfl rfl (by decide) rfl rfl (pa_cons (pe_dget hu (pv 0) pe_str (fun _ _ => rfl)) (pa_cons (pe_callB (show CallR _ _ (rLenQ K) from c_len) (by rfl) T.len_ (by decide +kernel) (pa_cons (pe_dget hu (pv 0) pe_str (fun _ _ => rfl)) pa_nil)) pa_nil)) (by rfl))
    (pss_cons (ps_dput hu (pv 0) pe_str (pe_op op_add (pv 3) pe_int) rfl)
    (pss_cons (ps_set (i := 5) sc_draw.nd rfl (Or.inl rfl) (pe_op op_add (pe_op op_mulW pe_int (pv 3)) pe_int))
    (Evl.pss_cut (ps_if (pt_cmpR op_gt (pv 4) pe_int (nomark _))
      (pss_one (ps_set (i := 5) sc_draw.nd rfl (Or.inl rfl) (pe_ix (show IxR _ (rIxL K) from ix_list) (pe_dget hu (pv 0) pe_str (fun _ _ => rfl)) (pe_op op_mod (pe_callTy call_int1 (by rfl) T.int_ (by decide +kernel) (pa_cons (pv 3) pa_nil)) (pv 4)) (fun _ _ => rfl))))
      pss_nil)
    (Evl.pss_cut (ps_if (PW.pt (pw_and (pt_cmpR op_lt (pv 3) (pv 4) (nomark _)) (pw_and1 (pt_cmpR op_ge (pe_callB call_abs (by rfl) T.abs_ (by decide +kernel) (pa_cons (pv 5) pa_nil)) (pe_op op_pow pe_int pe_int) (nomark _)))))
      (pss_cons (ps_dput hu (pv 0) pe_str (pe_op op_fdivW (pe_op op_sub (pe_callB call_abs (by rfl) T.abs_ (by decide +kernel) (pa_cons (pv 5) pa_nil)) (pe_op op_pow pe_int pe_int)) (pv 1)) rfl)
      (pss_one (ps_ret (pe_op op_mod (pe_op op_sub (pe_callB call_abs (by rfl) T.abs_ (by decide +kernel) (pa_cons (pv 5) pa_nil)) (pe_op op_pow pe_int pe_int)) (pv 1)))))
      pss_nil)
    (pss_cons (ps_set (i := 6) sc_draw.nd rfl (Or.inl rfl) (pe_op op_mod (pe_callTy call_int1 (by rfl) T.int_ (by decide +kernel) (pa_cons (pe_op op_add (pe_op op_add (pe_op op_mulW (pe_op op_mod (pe_callTy call_int1 (by rfl) T.int_ (by decide +kernel) (pa_cons (pv 5) pa_nil)) pe_int) pe_int) (pe_op op_mulW (pe_op op_mulW pe_int (pv 3)) (pv 3))) pe_int) pa_nil)) pe_int))
    (pss_cons (ps_set (i := 6) sc_draw.nd rfl (Or.inl rfl) (pe_op op_mod (pe_callTy call_int1 (by rfl) T.int_ (by decide +kernel) (pa_cons (pe_op op_add (pe_op op_add (pe_op op_add (pe_op op_mulW (pv 6) (pv 6)) (pe_op op_mulW pe_int (pv 6))) (pe_op op_mulW pe_int (pv 3))) pe_int) pa_nil)) pe_int))
    (pss_cons (ps_set (i := 6) sc_draw.nd rfl (Or.inl rfl) (pe_op op_fdivW (pe_op op_mod (pe_callTy call_int1 (by rfl) T.int_ (by decide +kernel) (pa_cons (pe_op op_mulW (pv 6) (pe_op op_add (pv 6) pe_int)) pa_nil)) pe_int) pe_int))
    (pss_one (ps_ret (pe_op op_mod (pe_callTy call_int1 (by rfl) T.int_ (by decide +kernel) (pa_cons (pv 6) pa_nil)) (pv 1))))))))))))), ?_⟩
    have gC : ∀ {H : Hp} {b r : Int}, H p = some (penO c b r) → DGet H p (.str "cells") (some (.ref c)) := fun e => by
      have z := DGet.k (k := kC) e
      rw [pen_c] at z
      exact z
    have gB : ∀ {H : Hp} {b r : Int}, H p = some (penO c b r) → DGet H p (.str "begun") (some (.int b)) := fun e => by
      have z := DGet.k (k := kB) e
      rw [pen_b] at z
      exact z
    have gR : ∀ {H : Hp} {b r : Int}, H p = some (penO c b r) → DGet H p (.str "rest") (some (.int r)) := fun e => by
      have z := DGet.k (k := kR) e
      rw [pen_r] at z
      exact z
    have pB : ∀ {H : Hp} {b r : Int} (y : Int), H p = some (penO c b r) → DPut H p (.str "begun") (.int y) (upd H p (penO c y r)) := fun y e => by
      have z := DPut.k (k := kB) (v := .int y) e (by show 3 < sizeLine; decide)
      rw [pen_pb] at z
      exact z
    have pR : ∀ {H : Hp} {b r : Int} (y : Int), H p = some (penO c b r) → DPut H p (.str "rest") (.int y) (upd H p (penO c b y)) := fun y e => by
      have z := DPut.k (k := kR) (v := .int y) e (by show 3 < sizeLine; decide)
      rw [pen_pr] at z
      exact z
    have cut : CDivW r m := divW 8000 hm hmb (by decide)
    -- if rest > 0
    refine ⟨_, rfl, p, _, rfl, gR e, _, _, rfl, rfl, _, rfl, ?_⟩
    refine ite2 (fun h1 => ?_) (fun h1 => ?_)
    · -- the digit
      refine ⟨_, rfl, p, _, rfl, gR e, .inl ⟨_, rfl, _, rfl, _, _, rfl, rfl, hm, ?_⟩⟩
      refine ⟨_, rfl, p, _, rfl, gR e, _, rfl, _, _, rfl, rfl, divW 8000 hm hmb (by decide), _, rfl, p, _, rfl, pR _ e, _, rfl, ?_⟩
      refine k _ _ (Int.emod_nonneg _ (by omega)) (Int.emod_lt_of_pos _ hm) ⟨⟨_, _, upd_same, hb0, by omega, Int.ediv_nonneg hr0 (by omega)⟩, by rw [upd_ne ncp]; exact hP.cells, hP.few, by omega⟩ ((But.refl _ _).upd _)
    · -- a new cell
      have hl := hP.few
      refine ⟨_, rfl, p, _, rfl, gB e, _, rfl, p, _, rfl, gC e, c, _, rfl, .inl (SqL.of hP.cells), _, _, rfl, ?_⟩
      refine ⟨_, rfl, _, _, rfl, rfl, _, rfl, p, _, rfl, pB _ e, ?_⟩
      have e1 : (upd H p (penO c (b + 1) r)) p = some (penO c (b + 1) r) := upd_same
      have hc1 : (upd H p (penO c (b + 1) r)) c = some (.lst (ns.map V.int)) := by rw [upd_ne ncp]; exact hP.cells
      generalize hH1 : upd H p (penO c (b + 1) r) = H1 at e1 hc1 ⊢
      have but1 : But p H H1 := by rw [← hH1]; exact (But.refl _ _).upd _
      have bnd : b.natAbs < 2 ^ 30 := by omega
      refine ⟨_, rfl, _, _, rfl, rfl, mulW 10 30 (by decide) bnd (by decide), _, _, rfl, rfl, ?_⟩
      -- the cell
      rw [List.length_map]
      refine ⟨fun σ H' => H1 = H' ∧ ∃ cell : Int, σ = [some (.ref p), some (.int m), none, some (.int b), some (.int (ns.length : Int)), some (.int cell), none], ?_, ?_⟩
      · refine ⟨_, rfl, _, _, rfl, rfl, _, rfl, ?_⟩
        refine ite2 (fun h2 => ?_) (fun h2 => ?_)
        · have h3 : 0 < (ns.length : Int) := of_decide_eq_true h2
          obtain ⟨z, hz⟩ := at_some (xs := ns) (i := b % (ns.length : Int)) (Int.emod_nonneg _ (by omega)) (Int.emod_lt_of_pos _ h3)
          exact ⟨_, rfl, p, _, rfl, gC e1, _, rfl, .inl ⟨_, rfl, _, rfl, _, _, rfl, rfl, h3, c, _, _, _, rfl, rfl, SqL.of hc1, hz, rfl, z, rfl⟩⟩
        · exact ⟨rfl, _, rfl⟩
      · rintro _ _ ⟨rfl, cell, rfl⟩
        have pen1 : Pen H1 p c ns (B + 1) := ⟨⟨_, _, e1, by omega, by omega, hr0⟩, hc1, hl, by omega⟩
        refine ⟨fun σ H' => H1 = H' ∧ σ = [some (.ref p), some (.int m), none, some (.int b), some (.int (ns.length : Int)), some (.int cell), none], ?_, ?_⟩
        · refine ⟨_, rfl, _, rfl, _, _, rfl, rfl, _, rfl, ?_⟩
          refine ite2 (fun h2 => ?_) (fun h2 => ⟨rfl, rfl⟩)
          refine ⟨_, rfl, cell, rfl, 10, 18, rfl, rfl, ⟨by decide, by decide, by decide⟩, _, _, rfl, rfl, _, rfl, ?_⟩
          refine ite2 (fun h4 => ?_) (fun h4 => ⟨rfl, rfl⟩)
          have h5 : (10 : Int) ^ (18 : Int).toNat ≤ (if cell < 0 then -cell else cell) := of_decide_eq_true h4
          refine ⟨_, rfl, cell, rfl, 10, 18, rfl, rfl, ⟨by decide, by decide, by decide⟩, _, _, rfl, rfl, _, rfl, _, _, rfl, rfl, divW 8000 hm hmb (by decide), _, rfl, p, _, rfl, pR _ e1, ?_⟩
          refine ⟨_, rfl, cell, rfl, 10, 18, rfl, rfl, ⟨by decide, by decide, by decide⟩, _, _, rfl, rfl, _, rfl, _, _, rfl, rfl, hm, ?_⟩
          exact k _ _ (Int.emod_nonneg _ (by omega)) (Int.emod_lt_of_pos _ hm) ⟨⟨_, _, upd_same, by omega, by omega, Int.ediv_nonneg (by omega) (by omega)⟩, by rw [upd_ne ncp]; exact hc1, hl, by omega⟩ (but1.upd _)
        · rintro _ _ ⟨rfl, rfl⟩
          -- the stir
          have m1 : ∀ x y : Int, 0 < y → y < 2 ^ 32 → (x % y).natAbs < 2 ^ 32 := fun x y h0 h1 => by
            have := Int.emod_nonneg x (show y ≠ 0 by omega)
            have := Int.emod_lt_of_pos x h0
            omega
          have M : ∀ x y : Int, 0 < y → y < 2 ^ 32 → (x % y).natAbs < 2 ^ 32 := m1
          refine ⟨_, rfl, .inl ⟨_, rfl, _, _, rfl, rfl, (show (0 : Int) < 4294967231 by decide), _, _, rfl, rfl, mulW 32 16 (M _ _ (by decide) (by decide)) (by decide) (by decide), _, rfl, _, _, rfl, rfl, mulW 16 30 (by decide) bnd (by decide), _, rfl, _, _, rfl, rfl, mulW 46 30 ?_ bnd (by decide), _, _, rfl, rfl, _, _, rfl, rfl, .inl ⟨_, rfl, _, _, rfl, rfl, (show (0 : Int) < 4294967279 by decide), ?_⟩⟩⟩
          · rw [Int.natAbs_mul]
            exact Nat.lt_of_lt_of_le (Nat.mul_lt_mul_of_le_of_lt (Nat.le_refl _) bnd (by decide)) (by decide)
          refine ⟨_, rfl, _, rfl, _, _, rfl, rfl, mulW 32 32 (M _ _ (by decide) (by decide)) (M _ _ (by decide) (by decide)) (by decide), _, rfl, _, _, rfl, rfl, mulW 17 32 (by decide) (M _ _ (by decide) (by decide)) (by decide), _, _, rfl, rfl, _, rfl, _, _, rfl, rfl, mulW 5 30 (by decide) bnd (by decide), _, _, rfl, rfl, _, _, rfl, rfl, .inl ⟨_, rfl, _, _, rfl, rfl, (show (0 : Int) < 4294967291 by decide), ?_⟩⟩
          refine ⟨_, rfl, _, rfl, _, _, rfl, rfl, _, _, rfl, rfl, mulW 32 33 (M _ _ (by decide) (by decide)) (add_small (M _ _ (by decide) (by decide))) (by decide), .inl ⟨_, rfl, _, _, rfl, rfl, (show (0 : Int) < 4294967197 by decide), _, _, rfl, rfl, divW 7 (by decide) (by decide) (by decide), ?_⟩⟩
          refine ⟨_, rfl, .inl ⟨_, rfl, _, rfl, _, _, rfl, rfl, hm, ?_⟩⟩
          exact k _ _ (Int.emod_nonneg _ (by omega)) (Int.emod_lt_of_pos _ hm) pen1 but1
end
end EN

namespace EN
open PySem L2 PyProof.Rows
section
variable {P : Program} {w : World} {K : PySem.W.Frag} {mg : Str → Option Value} {base : Heap} {f : Addr} {fd : FuncData}
/-! ### sizes of numbers -/
def Sz (b : Nat) (x : Int) : Prop := x.natAbs < 2 ^ b
theorem Sz.mono {a b : Nat} {x : Int} (h : Sz a x) (hab : a ≤ b) : Sz b x := Nat.lt_of_lt_of_le h (Nat.pow_le_pow_right (by decide) hab)
theorem Sz.add {a : Nat} {x y : Int} (h : Sz a x) (g : Sz a y) : Sz (a + 1) (x + y) := by
  unfold Sz at *
  have := Int.natAbs_add_le x y
  rw [Nat.pow_succ]
  omega
theorem Sz.neg {a : Nat} {x : Int} (h : Sz a x) : Sz a (-x) := by
  unfold Sz at *
  rwa [Int.natAbs_neg]
theorem Sz.sub {a : Nat} {x y : Int} (h : Sz a x) (g : Sz a y) : Sz (a + 1) (x - y) := by
  have := h.add g.neg
  rwa [← Int.sub_eq_add_neg] at this
theorem Sz.mul {a b : Nat} {x y : Int} (h : Sz a x) (g : Sz b y) : Sz (a + b) (x * y) := by
  unfold Sz at *
  rw [Int.natAbs_mul, Nat.pow_add]
  exact Nat.mul_lt_mul_of_lt_of_le h (Nat.le_of_lt g) (Nat.two_pow_pos b)
theorem Sz.mulOk {a b : Nat} {x y : Int} (h : Sz a x) (g : Sz b y) (hab : a + b ≤ 999990) : CMulW x y := mulW a b h g hab
theorem Sz.le {a : Nat} {x : Int} {m : Nat} (h0 : x.natAbs ≤ m) (hm : m < 2 ^ a) : Sz a x := Nat.lt_of_le_of_lt h0 hm
theorem Sz.div {a : Nat} {x y : Int} (h : Sz a x) : Sz a (x / y) := by
  unfold Sz at *
  exact Nat.lt_of_le_of_lt (Int.natAbs_ediv_le_natAbs x y) h

/-! ### promises -/
def spPick (K : PySem.W.Frag) : Sp := fun vs H Q _ => ∃ (p c : Addr) (ns : List Int) (B : Nat) (l : Addr) (xs : List V), vs = [.ref p, .ref l] ∧ Pen H p c ns B ∧ B < 1000000000 ∧ (SqL K H l xs ∨ SqT K H l xs) ∧ 0 < xs.length ∧ xs.length ≤ 1000 ∧
  ∀ x ∈ xs, ∀ H' : Hp, Pen H' p c ns (B + 1) → But p H H' → Q x H'
def spWhole : Sp := fun vs H Q _ => ∃ i : Int, vs = [.int i] ∧ Q (.bl true) H
def spGreat : Sp := fun vs H Q _ => ∃ (p c : Addr) (ns : List Int) (B : Nat) (m : Int), vs = [.ref p, .int m] ∧ Pen H p c ns B ∧ B + 20 ≤ 1000000000 ∧ 0 < m ∧ Sz 300 m ∧
  ∀ (d : Int) (H' : Hp), 0 ≤ d → d < m → Pen H' p c ns (B + 20) → But p H H' → Q (.int d) H'
def spInteger : Sp := fun vs H Q _ => ∃ (p c : Addr) (ns : List Int) (B : Nat), vs = [.ref p] ∧ Pen H p c ns B ∧ B + 30 ≤ 1000000000 ∧
  ∀ (z : Int) (H' : Hp), Sz 200 z → Pen H' p c ns (B + 30) → But p H H' → Q (.int z) H'
def spFar : Sp := fun vs H Q _ => ∃ (p c : Addr) (ns : List Int) (B : Nat), vs = [.ref p] ∧ Pen H p c ns B ∧ B + 30 ≤ 1000000000 ∧
  ∀ (z : Int) (H' : Hp), 0 ≤ z → Sz 340 z → Pen H' p c ns (B + 30) → But p H H' → Q (.int z) H'
abbrev s_pick : Stmt := top 39
abbrev N_pick : List Str := ["_law_pen_here", "_law_options"]
theorem sc_pick : FnScope N_pick ["_law_pen_here", "_law_options"] (defScope s_pick) := ⟨rfl, rfl, rfl, by decide +kernel, rfl, by decide +kernel, by decide +kernel⟩

theorem at_any {xs : List V} {i : Int} (h0 : 0 ≤ i) (h1 : i < xs.length) : ∃ x, x ∈ xs ∧ atI xs i = some x := by
  obtain ⟨n, rfl⟩ := Int.eq_ofNat_of_zero_le h0
  have hn : n < xs.length := by omega
  exact ⟨xs[n], List.getElem_mem hn, atI_nat (List.getElem?_eq_getElem hn)⟩
theorem sqT_same {H H' : Hp} {a : Addr} {xs : List V} (s : Same H H') (h : SqT K H a xs) : SqT K H' a xs := ZK.SqK.same (k := .t) s h
theorem sqL_but {H H' : Hp} {p a : Addr} {xs : List V} (s : But p H H') (np : ∀ o, H p = some o → o ≠ .lst xs ∧ ∀ u, o ≠ .frz u (.lst xs)) (h : SqL K H a xs) : SqL K H' a xs := by
  rcases h with (h | ⟨o, h⟩) | h
  · refine .inl (.inl (s _ _ h fun e => ?_))
    subst e
    exact (np _ h).1 rfl
  · refine .inl (.inr ⟨o, s _ _ h fun e => ?_⟩)
    subst e
    exact (np _ h).2 o rfl
  · exact .inr h
theorem sqT_but {H H' : Hp} {p a : Addr} {xs : List V} (s : But p H H') (np : ∀ o, H p = some o → o ≠ .tup xs ∧ ∀ u, o ≠ .frz u (.tup xs)) (h : SqT K H a xs) : SqT K H' a xs := by
  rcases h with (h | ⟨o, h⟩) | h
  · refine .inl (.inl (s _ _ h fun e => ?_))
    subst e
    exact (np _ h).1 rfl
  · refine .inl (.inr ⟨o, s _ _ h fun e => ?_⟩)
    subst e
    exact (np _ h).2 o rfl
  · exact .inr h
theorem Pen.sqL {H H' : Hp} {p c a : Addr} {ns : List Int} {B : Nat} {xs : List V} (P : Pen H p c ns B) (s : But p H H') (h : SqL K H a xs) : SqL K H' a xs := by
  obtain ⟨b, r, e, _⟩ := P.at_
  exact sqL_but s (fun o z => by rw [e] at z; cases z; exact ⟨(by intro q; cases q), (by intro u q; cases q)⟩) h
theorem Pen.sqT {H H' : Hp} {p c a : Addr} {ns : List Int} {B : Nat} {xs : List V} (P : Pen H p c ns B) (s : But p H H') (h : SqT K H a xs) : SqT K H' a xs := by
  obtain ⟨b, r, e, _⟩ := P.at_
  exact sqT_but s (fun o z => by rw [e] at z; cases z; exact ⟨(by intro q; cases q), (by intro u q; cases q)⟩) h
theorem ok_pick (F : Fun K "_law_pick" "_law_pick" s_pick f fd) (T : Blt mg) (G_draw : Has P w K mg base 1 "_law_draw" ["_law_pen_here", "_law_many"] spDraw) : FnOk P w K mg base CX0 2 f fd ["_law_pen_here", "_law_options"] (spPick K) := by
  refine F.ok sc_pick (fun vs H Q E h => ?_) (fun cdv A outer s H vs Q E hr h => ?_)
  · obtain ⟨p, c, ns, B, l, xs, rfl, _⟩ := h
    rfl
  · obtain ⟨p, c, ns, B, l, xs, rfl, hP, hB, hS, h0, hl, k⟩ := h
    refine ⟨_, (pss_one (ps_ret (pe_ix (show IxR _ (rIx K) from ix_seq) (pv 1) (pe_has G_draw (hr.mono (by decide)) (pa_cons (pv 0) (pa_cons (pe_callB (show CallR _ _ (rLenQ K) from c_len) (by rfl) T.len_ (by decide +kernel) (pa_cons (pv 1) pa_nil)) pa_nil))) (fun _ _ => rfl)))), ?_⟩
    refine ⟨_, rfl, _, rfl, _, rfl, l, xs, rfl, hS, p, c, ns, B, (xs.length : Int), rfl, hP, hB, by omega, ?_, fun d H1 d0 d1 P1 s1 => ?_⟩
    · exact Nat.lt_of_le_of_lt (by omega : (xs.length : Int).natAbs ≤ 1000) (Nat.lt_of_lt_of_le (by decide : 1000 < 2 ^ 10) (Nat.pow_le_pow_right (by decide) (by decide)))
    · obtain ⟨x, hx, hat⟩ := at_any (xs := xs) d0 d1
      rcases hS with hS | hS
      · exact .inl ⟨l, xs, d, x, rfl, rfl, hP.sqL s1 hS, hat, k x hx H1 P1 s1⟩
      · exact .inr (.inl ⟨l, xs, d, x, rfl, rfl, hP.sqT s1 hS, hat, k x hx H1 P1 s1⟩)
abbrev s_lwhole : Stmt := top 40
abbrev N_lwhole : List Str := ["_law_value"]
theorem sc_lwhole : FnScope N_lwhole ["_law_value"] (defScope s_lwhole) := ⟨rfl, rfl, rfl, by decide +kernel, rfl, by decide +kernel, by decide +kernel⟩

theorem ok_lwhole (F : Fun K "_law_whole" "_law_whole" s_lwhole f fd) (T : Blt mg) : FnOk P w K mg base CX0 1 f fd ["_law_value"] spWhole := by
  refine F.ok sc_lwhole (fun vs H Q E h => ?_) (fun cdv A outer s H vs Q E hr h => ?_)
  · obtain ⟨i, rfl, _⟩ := h
    rfl
  · obtain ⟨i, rfl, k⟩ := h
    refine ⟨_, (pss_one (ps_ret (pe_and (pe_callB (show CallR _ _ (rIsi K) from call_isi) (by rfl) T.isinstance_ (by decide +kernel) (pa_cons (pv 0) (pa_cons (pe_bltn (v := .ty "int") (u := .type "int") (by rfl) T.int_ (by decide +kernel) rfl) pa_nil))) (pe_one (pe_not (pe_callB (show CallR _ _ (rIsi K) from call_isi) (by rfl) T.isinstance_ (by decide +kernel) (pa_cons (pv 0) (pa_cons (pe_bltn (v := .ty "bool") (u := .type "bool") (by rfl) T.bool_ (by decide +kernel) rfl) pa_nil)))))))), ?_⟩
    refine ⟨_, rfl, .int i, .ty "int", .type "int", .type "int", true, rfl, .ty _, .base (.int _), kit_ty (by decide +kernel), true, rfl, iteT ?_⟩
    refine ⟨_, rfl, .int i, .ty "bool", .type "int", .type "bool", false, rfl, .ty _, .base (.int _), kit_ty (by decide +kernel), false, rfl, k⟩
abbrev s_great : Stmt := top 41
abbrev N_great : List Str := ["_law_pen_here", "_law_many", "_law_amount", "_law_size"]
theorem sc_great : FnScope N_great ["_law_pen_here", "_law_many"] (defScope s_great) := ⟨rfl, rfl, rfl, by decide +kernel, rfl, by decide +kernel, by decide +kernel⟩

theorem ok_great (F : Fun K "_law_great" "_law_great" s_great f fd) (T : Blt mg) (G_draw : Has P w K mg base 1 "_law_draw" ["_law_pen_here", "_law_many"] spDraw) : FnOk P w K mg base CX0 2 f fd ["_law_pen_here", "_law_many"] spGreat := by
  refine F.ok sc_great (fun vs H Q E h => ?_) (fun cdv A outer s H vs Q E hr h => ?_)
  · obtain ⟨p, c, ns, B, m, rfl, _⟩ := h
    rfl
  · obtain ⟨p, c, ns, B, m, rfl, hP, hB, hm, hs, k⟩ := h
    refine ⟨_, (pss_cons (ps_asg (pe_tup (pa_cons pe_int (pa_cons pe_int pa_nil))) (pg_tup rfl (pgs_cons (pg_name (i := 2) sc_great.nd rfl (Or.inl rfl)) (pgs_cons (pg_name (i := 3) sc_great.nd rfl (Or.inl rfl)) pgs_nil))))
    (pss_cons (ps_while PassesOwn.never (pt_cmpR op_lt (pv 3) (pv 1) (nomark _))
      (pss_one (ps_par (i := 2) (j := 3) (by rfl) sc_great.nd rfl rfl (by decide) rfl rfl (pa_cons (pe_op op_add (pe_op op_mulW (pv 2) (pe_op op_pow pe_int pe_int)) (pe_has G_draw (hr.mono (by decide)) (pa_cons (pv 0) (pa_cons (pe_op op_pow pe_int pe_int) pa_nil)))) (pa_cons (pe_op op_mulW (pv 3) (pe_op op_pow pe_int pe_int)) pa_nil)) (by rfl))))
    (pss_one (ps_ret (pe_op op_mod (pe_callTy call_int1 (by rfl) T.int_ (by decide +kernel) (pa_cons (pv 2) pa_nil)) (pv 1)))))), ?_⟩
    refine ⟨(by show 2 ≤ sizeLine; decide), fun t ht => ⟨t, _, rfl, SqT.of upd_same, rfl, _, _, rfl, _, _, rfl, rfl, ?_⟩⟩
    have hP0 : Pen (upd H t (.tup [.int 0, .int 1])) p c ns B := hP.new ht
    have hb0 : But p H (upd H t (.tup [.int 0, .int 1])) := (But.refl _ _).new _ ht
    generalize upd H t (.tup [.int 0, .int 1]) = H0 at hP0 hb0
    -- at most ten turns
    have lim : ∀ j : Nat, ((1000000000 ^ j : Nat) : Int) < m → j ≤ 10 := fun j h => by
      by_cases q : j ≤ 10
      · exact q
      · exfalso
        have h2 : 1000000000 ^ 11 ≤ 1000000000 ^ j := Nat.pow_le_pow_right (by decide) (by omega)
        have h5 : 2 ^ 300 ≤ 1000000000 ^ 11 := by decide +kernel
        have h6 : m.natAbs < 1000000000 ^ j := Nat.lt_of_lt_of_le hs (Nat.le_trans h5 h2)
        omega
    let W : Nat → L2.St → Hp → Prop := fun n σ H' => ∃ (i : Nat) (a z : Int), σ = [some (.ref p), some (.int m), some (.int a), some (.int z)] ∧ n = (m - z).toNat ∧ 0 ≤ a ∧ a < z ∧ z = ((1000000000 ^ i : Nat) : Int) ∧ (i = 0 ∨ ((1000000000 ^ (i - 1) : Nat) : Int) < m) ∧ Pen H' p c ns (B + i) ∧ But p H H'
    refine ⟨W, ⟨_, 0, 0, 1, rfl, rfl, by decide, by decide, rfl, .inl rfl, hP0, hb0⟩, ?_⟩
    rintro n σ H' ⟨i, a, z, rfl, rfl, ha, haz, hz, hi, hP', hb⟩
    refine ⟨_, rfl, _, rfl, _, _, rfl, rfl, _, rfl, ?_⟩
    refine ite2 (fun h1 => ?_) (fun h1 => ?_)
    · have h2 : z < m := of_decide_eq_true h1
      have hi10 := lim i (by rw [← hz]; exact h2)
      have sm : Sz 300 z := Nat.lt_of_le_of_lt (by omega : z.natAbs ≤ m.natAbs) hs
      have sa : Sz 300 a := Nat.lt_of_le_of_lt (by omega : a.natAbs ≤ m.natAbs) hs
      have s9 : Sz 30 ((10 : Int) ^ (9 : Int).toNat) := by unfold Sz; decide
      refine ⟨fun σ' H' => ∃ n', n' < (m - z).toNat ∧ W n' σ' H', fun σ' H' h => h, ?_⟩
      refine ⟨_, rfl, 10, 9, rfl, rfl, ⟨by decide, by decide, by decide⟩, _, _, rfl, rfl, sa.mulOk s9 (by decide), _, rfl, 10, 9, rfl, rfl, ⟨by decide, by decide, by decide⟩, ?_⟩
      refine ⟨p, c, ns, B + i, (10 : Int) ^ (9 : Int).toNat, rfl, hP', by omega, by decide, Nat.lt_of_lt_of_le s9 (Nat.pow_le_pow_right (by decide) (by decide)), fun d H1 d0 d1 P1 s1 => ?_⟩
      refine ⟨_, _, rfl, rfl, _, rfl, 10, 9, rfl, rfl, ⟨by decide, by decide, by decide⟩, _, _, rfl, rfl, sm.mulOk s9 (by decide), _, _, rfl, ?_⟩
      have e9 : (10 : Int) ^ (9 : Int).toNat = 1000000000 := by decide
      rw [e9] at d1 ⊢
      have zpos : 0 < z := by omega
      refine ⟨(m - z * 1000000000).toNat, by omega, i + 1, a * 1000000000 + d, z * 1000000000, rfl, rfl, by omega, by omega, ?_, .inr (by rw [Nat.add_sub_cancel, ← hz]; exact h2), P1, hb.trans s1⟩
      rw [Nat.pow_succ, hz]
      omega
    · refine ⟨_, rfl, .inl ⟨_, rfl, _, rfl, _, _, rfl, rfl, hm, ?_⟩⟩
      have hi20 : i ≤ 20 := by
        rcases hi with h | h
        · omega
        · have := lim _ h
          omega
      exact k _ _ (Int.emod_nonneg _ (by omega)) (Int.emod_lt_of_pos _ hm) (hP'.more (by omega) (by omega)) hb
abbrev s_integer : Stmt := top 42
abbrev N_integer : List Str := ["_law_pen_here", "_law_way", "_law_side"]
theorem sc_integer : FnScope N_integer ["_law_pen_here"] (defScope s_integer) := ⟨rfl, rfl, rfl, by decide +kernel, rfl, by decide +kernel, by decide +kernel⟩

theorem side_ok {d y : Int} (h0 : 0 ≤ d) (h1 : d < 2) (y0 : Sz 200 y) : CMulW (1 - 2 * d) y ∧ Sz 200 ((1 - 2 * d) * y) := by
  have hd : d = 0 ∨ d = 1 := by omega
  rcases hd with rfl | rfl
  · refine ⟨Sz.mulOk (a := 2) (by unfold Sz; decide) y0 (by decide), ?_⟩
    have e : (1 - 2 * 0 : Int) * y = y := by omega
    rw [e]; exact y0
  · refine ⟨Sz.mulOk (a := 2) (by unfold Sz; decide) y0 (by decide), ?_⟩
    have e : (1 - 2 * 1 : Int) * y = -y := by omega
    rw [e]; exact y0.neg
theorem ok_integer (F : Fun K "_law_integer" "_law_integer" s_integer f fd) (T : Blt mg) (G_draw : Has P w K mg base 1 "_law_draw" ["_law_pen_here", "_law_many"] spDraw) (G_great : Has P w K mg base 2 "_law_great" ["_law_pen_here", "_law_many"] spGreat) : FnOk P w K mg base CX0 3 f fd ["_law_pen_here"] spInteger := by
  refine F.ok sc_integer (fun vs H Q E h => ?_) (fun cdv A outer s H vs Q E hr h => ?_)
  · obtain ⟨p, c, ns, B, rfl, _⟩ := h
    rfl
  · obtain ⟨p, c, ns, B, rfl, hP, hB, k⟩ := h
    refine ⟨_, (pss_cons (ps_par (i := 1) (j := 2) (by rfl) sc_integer.nd rfl rfl (by decide) rfl rfl (pa_cons (pe_has G_draw (hr.mono (by decide)) (pa_cons (pv 0) (pa_cons pe_int pa_nil))) (pa_cons (pe_op op_sub pe_int (pe_op op_mulW pe_int (pe_has G_draw (hr.mono (by decide)) (pa_cons (pv 0) (pa_cons pe_int pa_nil))))) pa_nil)) (by rfl))
    (pss_cons (ps_if (pt_cmpR op_eq (pv 1) pe_int (nomark _))
      (pss_one (ps_ret pe_int))
      pss_nil)
    (pss_cons (ps_if (pt_cmpR op_lt (pv 1) pe_int (nomark _))
      (pss_one (ps_ret (pe_op op_mulW (pv 2) (pe_has G_draw (hr.mono (by decide)) (pa_cons (pv 0) (pa_cons pe_int pa_nil))))))
      pss_nil)
    (pss_cons (ps_if (pt_cmpR op_eq (pv 1) pe_int (nomark _))
      (pss_one (ps_ret (pe_op op_mulW (pv 2) (pe_has G_draw (hr.mono (by decide)) (pa_cons (pv 0) (pa_cons pe_int pa_nil))))))
      pss_nil)
    (pss_one (ps_ret (pe_op op_mulW (pv 2) (pe_ifExp (pt_cmpR op_eq (pv 1) pe_int (nomark _)) (pe_op op_sub (pe_op op_pow pe_int pe_int) (pe_has G_draw (hr.mono (by decide)) (pa_cons (pv 0) (pa_cons pe_int pa_nil)))) (pe_has G_great (hr.mono (by decide)) (pa_cons (pv 0) (pa_cons (pe_op op_pow pe_int pe_int) pa_nil))))))))))), ?_⟩
    have lit : ∀ m : Int, 0 < m → m < 5000 → m.natAbs < 2 ^ 8000 := fun m h0 h1 => Nat.lt_of_lt_of_le (by omega : m.natAbs < 2 ^ 13) (Nat.pow_le_pow_right (by decide) (by decide))
    have s60 : Sz 200 ((10 : Int) ^ (60 : Int).toNat) := by unfold Sz; decide +kernel
    refine ⟨_, rfl, p, c, ns, B, 9, rfl, hP, by omega, by decide, lit _ (by decide) (by decide), fun way H1 w0 w1 P1 b1 => ?_⟩
    refine ⟨_, rfl, p, c, ns, B + 1, 2, rfl, P1, by omega, by decide, lit _ (by decide) (by decide), fun d H2 d0 d1 P2 b2 => ?_⟩
    refine ⟨2, d, rfl, rfl, Sz.mulOk (a := 2) (b := 2) (by unfold Sz; decide) (by unfold Sz; omega) (by decide), 1, _, rfl, rfl, _, _, rfl, ?_⟩
    have b2' := b1.trans b2
    refine ⟨_, rfl, rfl, _, rfl, ?_⟩
    refine ite2 (fun h1 => ?_) (fun h1 => ?_)
    · exact k 0 _ (by unfold Sz; decide +kernel) (P2.more (by omega) (by omega)) b2'
    refine ⟨_, rfl, _, _, rfl, rfl, _, rfl, ?_⟩
    refine ite2 (fun h2 => ?_) (fun h2 => ?_)
    · refine ⟨_, rfl, _, rfl, p, c, ns, B + 1 + 1, 9, rfl, P2, by omega, by decide, lit _ (by decide) (by decide), fun y H3 y0 y1 P3 b3 => ?_⟩
      have q := side_ok (y := y) d0 d1 (Sz.mono (a := 5) (by unfold Sz; omega) (by decide))
      exact ⟨_, _, rfl, rfl, q.1, k _ _ q.2 (P3.more (by omega) (by omega)) (b2'.trans b3)⟩
    refine ⟨_, rfl, rfl, _, rfl, ?_⟩
    refine ite2 (fun h3 => ?_) (fun h3 => ?_)
    · refine ⟨_, rfl, _, rfl, p, c, ns, B + 1 + 1, 3000, rfl, P2, by omega, by decide, lit _ (by decide) (by decide), fun y H3 y0 y1 P3 b3 => ?_⟩
      have q := side_ok (y := y) d0 d1 (Sz.mono (a := 15) (by unfold Sz; omega) (by decide))
      exact ⟨_, _, rfl, rfl, q.1, k _ _ q.2 (P3.more (by omega) (by omega)) (b2'.trans b3)⟩
    refine ⟨_, rfl, _, rfl, rfl, _, rfl, ?_⟩
    have e60 : (10 : Int) ^ (60 : Int).toNat < 2 ^ 200 := by decide +kernel
    have p60 : 3 < (10 : Int) ^ (60 : Int).toNat := by decide +kernel
    refine ite2 (fun h4 => ?_) (fun h4 => ?_)
    · refine ⟨10, 60, rfl, rfl, ⟨by decide, by decide, by decide⟩, _, rfl, p, c, ns, B + 1 + 1, 3, rfl, P2, by omega, by decide, lit _ (by decide) (by decide), fun y H3 y0 y1 P3 b3 => ?_⟩
      have q := side_ok (y := (10 : Int) ^ (60 : Int).toNat - y) d0 d1 (Nat.lt_of_le_of_lt (by omega : ((10 : Int) ^ (60 : Int).toNat - y).natAbs ≤ ((10 : Int) ^ (60 : Int).toNat).natAbs) s60)
      exact ⟨_, _, rfl, rfl, _, _, rfl, rfl, q.1, k _ _ q.2 (P3.more (by omega) (by omega)) (b2'.trans b3)⟩
    · refine ⟨_, rfl, 10, 60, rfl, rfl, ⟨by decide, by decide, by decide⟩, p, c, ns, B + 1 + 1, _, rfl, P2, by omega, by omega, s60.mono (by decide), fun y H3 y0 y1 P3 b3 => ?_⟩
      have q := side_ok (y := y) d0 d1 (Nat.lt_of_le_of_lt (by omega : y.natAbs ≤ ((10 : Int) ^ (60 : Int).toNat).natAbs) s60)
      exact ⟨_, _, rfl, rfl, q.1, k _ _ q.2 (P3.more (by omega) (by omega)) (b2'.trans b3)⟩
abbrev s_far : Stmt := top 43
abbrev N_far : List Str := ["_law_pen_here", "_law_way"]
theorem sc_far : FnScope N_far ["_law_pen_here"] (defScope s_far) := ⟨rfl, rfl, rfl, by decide +kernel, rfl, by decide +kernel, by decide +kernel⟩

theorem ok_far (F : Fun K "_law_far" "_law_far" s_far f fd) (T : Blt mg) (G_draw : Has P w K mg base 1 "_law_draw" ["_law_pen_here", "_law_many"] spDraw) (G_great : Has P w K mg base 2 "_law_great" ["_law_pen_here", "_law_many"] spGreat) : FnOk P w K mg base CX0 3 f fd ["_law_pen_here"] spFar := by
  refine F.ok sc_far (fun vs H Q E h => ?_) (fun cdv A outer s H vs Q E hr h => ?_)
  · obtain ⟨p, c, ns, B, rfl, _⟩ := h
    rfl
  · obtain ⟨p, c, ns, B, rfl, hP, hB, k⟩ := h
    refine ⟨_, (pss_cons (ps_set (i := 1) sc_far.nd rfl (Or.inl rfl) (pe_has G_draw (hr.mono (by decide)) (pa_cons (pv 0) (pa_cons pe_int pa_nil))))
    (pss_cons (ps_if (pt_cmpR op_lt (pv 1) pe_int (nomark _))
      (pss_one (ps_ret (pe_has G_draw (hr.mono (by decide)) (pa_cons (pv 0) (pa_cons pe_int pa_nil)))))
      pss_nil)
    (pss_one (ps_ret (pe_ifExp (pt_cmpR op_eq (pv 1) pe_int (nomark _)) (pe_has G_great (hr.mono (by decide)) (pa_cons (pv 0) (pa_cons (pe_op op_pow pe_int pe_int) pa_nil))) (pe_op op_sub (pe_op op_mulW (pe_op op_pow pe_int pe_int) (pe_op op_pow pe_int pe_int)) (pe_has G_draw (hr.mono (by decide)) (pa_cons (pv 0) (pa_cons pe_int pa_nil))))))))), ?_⟩
    have lit : ∀ m : Int, 0 < m → m < 5000 → m.natAbs < 2 ^ 8000 := fun m h0 h1 => Nat.lt_of_lt_of_le (by omega : m.natAbs < 2 ^ 13) (Nat.pow_le_pow_right (by decide) (by decide))
    refine ⟨_, rfl, p, c, ns, B, 5, rfl, hP, by omega, by decide, lit _ (by decide) (by decide), fun way H1 w0 w1 P1 b1 => ?_⟩
    refine ⟨_, rfl, _, _, rfl, rfl, _, rfl, ?_⟩
    refine ite2 (fun h1 => ?_) (fun h1 => ?_)
    · refine ⟨_, rfl, p, c, ns, B + 1, 14, rfl, P1, by omega, by decide, lit _ (by decide) (by decide), fun y H2 y0 y1 P2 b2 => ?_⟩
      exact k y _ y0 (Sz.mono (a := 5) (by unfold Sz; omega) (by decide)) (P2.more (by omega) (by omega)) (b1.trans b2)
    refine ⟨_, rfl, rfl, _, rfl, ?_⟩
    have s60 : Sz 200 ((10 : Int) ^ (60 : Int).toNat) := by unfold Sz; decide +kernel
    have p60 : 0 < (10 : Int) ^ (60 : Int).toNat := by decide +kernel
    refine ite2 (fun h2 => ?_) (fun h2 => ?_)
    · refine ⟨_, rfl, 10, 60, rfl, rfl, ⟨by decide, by decide, by decide⟩, p, c, ns, B + 1, _, rfl, P1, by omega, p60, s60.mono (by decide), fun y H2 y0 y1 P2 b2 => ?_⟩
      exact k y _ y0 (Sz.mono (Nat.lt_of_le_of_lt (by omega : y.natAbs ≤ ((10 : Int) ^ (60 : Int).toNat).natAbs) s60) (by decide)) (P2.more (by omega) (by omega)) (b1.trans b2)
    · have s50 : Sz 170 ((10 : Int) ^ (50 : Int).toNat) := by unfold Sz; decide +kernel
      refine ⟨10, 50, rfl, rfl, ⟨by decide, by decide, by decide⟩, 10, 50, rfl, rfl, ⟨by decide, by decide, by decide⟩, _, _, rfl, rfl, s50.mulOk s50 (by decide), _, rfl, p, c, ns, B + 1, 3, rfl, P1, by omega, by decide, lit _ (by decide) (by decide), fun y H2 y0 y1 P2 b2 => ?_⟩
      have e100 : 3 < (10 : Int) ^ (50 : Int).toNat * (10 : Int) ^ (50 : Int).toNat := by decide +kernel
      have s100 := s50.mul s50
      refine ⟨_, _, rfl, rfl, k _ _ (by omega) (Nat.lt_of_le_of_lt (by omega : ((10 : Int) ^ (50 : Int).toNat * (10 : Int) ^ (50 : Int).toNat - y).natAbs ≤ ((10 : Int) ^ (50 : Int).toNat * (10 : Int) ^ (50 : Int).toNat).natAbs) s100) (P2.more (by omega) (by omega)) (b1.trans b2)⟩
end
end EN

namespace EN
open PySem L2 PyProof.Rows
section
variable {P : Program} {w : World} {K : PySem.W.Frag} {mg : Str → Option Value} {base : Heap} {f : Addr} {fd : FuncData}
def spChoose : Sp := fun vs H Q _ => ∃ (n : Int) (k : Nat), vs = [.int n, .int (k : Int)] ∧ k ≤ 16 ∧ Sz 400 n ∧ ∀ H' : Hp, Same H H' → Q (.int (M.C n k)) H'
def spAt (K : PySem.W.Frag) : Sp := fun vs H Q _ => ∃ (a : Addr) (r : List Int) (n : Int), vs = [.ref a, .int n] ∧ (SqL K H a (r.map V.int) ∨ SqT K H a (r.map V.int)) ∧ r.length ≤ 12 ∧ (∀ x ∈ r, Sz 400 x) ∧ Sz 400 n ∧
  ∀ H' : Hp, Same H H' → Q (.int (M.val r n)) H'
def spCut (K : PySem.W.Frag) : Sp := fun vs H Q _ => ∃ (a : Addr) (r : List Int), vs = [.ref a] ∧ SqL K H a (r.map V.int) ∧ r.length ≤ 1000 ∧
  ∀ (t : Addr) (H' : Hp), Same H H' → H t = none → H' t = some (.tup ((M.cut r).map V.int)) → Q (.ref t) H'
def spRowOf (K : PySem.W.Frag) : Sp := fun vs H Q _ => ∃ (a : Addr) (r : List Int), vs = [.ref a] ∧ SqL K H a (r.map V.int) ∧ r.length ≤ 1000 ∧
  ∀ (t : Addr) (H' : Hp), Same H H' → H t = none → H' t = some (.tup ((M.cut (M.thr r)).map V.int)) → Q (.ref t) H'
theorem ff_sz {n : Int} (h : Sz 400 n) : ∀ k : Nat, k ≤ 16 → Sz (401 * k + 1) (M.ff n k)
  | 0, _ => by show (1 : Int).natAbs < 2 ^ 1; decide
  | k + 1, hk => by
    have h1 := (ff_sz h k (by omega)).mul (Sz.sub h (Sz.mono (a := 5) (b := 400) (x := (k : Int)) (by unfold Sz; omega) (by decide)))
    exact h1.mono (by omega)
theorem fac_sz : ∀ k : Nat, k ≤ 16 → Sz (5 * k + 1) (M.fac k)
  | 0, _ => by show (1 : Int).natAbs < 2 ^ 1; decide
  | k + 1, hk => by
    have h1 := (fac_sz k (by omega)).mul (show Sz 5 ((k : Int) + 1) by unfold Sz; omega)
    exact h1.mono (by omega)
theorem C_sz {n : Int} (h : Sz 400 n) {k : Nat} (hk : k ≤ 16) : Sz 6500 (M.C n k) := (Sz.div (ff_sz h k hk)).mono (by omega)
abbrev s_choose : Stmt := top 44
abbrev N_choose : List Str := ["_law_n", "_law_k", "_law_above", "_law_below", "_law_j"]
theorem sc_choose : FnScope N_choose ["_law_n", "_law_k"] (defScope s_choose) := ⟨rfl, rfl, rfl, by decide +kernel, rfl, by decide +kernel, by decide +kernel⟩

theorem ok_choose (F : Fun K "_law_choose" "_law_choose" s_choose f fd) (T : Blt mg) : FnOk P w K mg base CX0 1 f fd ["_law_n", "_law_k"] spChoose := by
  refine F.ok sc_choose (fun vs H Q E h => ?_) (fun cdv A outer s H vs Q E hr h => ?_)
  · obtain ⟨n, k, rfl, _⟩ := h
    rfl
  · obtain ⟨n, k, rfl, hk, hn, q2⟩ := h
    refine ⟨_, (pss_cons (ps_asg (pe_tup (pa_cons pe_int (pa_cons pe_int pa_nil))) (pg_tup rfl (pgs_cons (pg_name (i := 2) sc_choose.nd rfl (Or.inl rfl)) (pgs_cons (pg_name (i := 3) sc_choose.nd rfl (Or.inl rfl)) pgs_nil))))
    (pss_cons (ps_for PassesOwn.never rfl (pi_range1 (by rfl) T.range_ (pa_cons (pv 1) pa_nil)) (pg_name (i := 4) sc_choose.nd rfl (Or.inl rfl))
      (pss_one (ps_par (i := 2) (j := 3) (by rfl) sc_choose.nd rfl rfl (by decide) rfl rfl (pa_cons (pe_op op_mulW (pv 2) (pe_op op_sub (pv 0) (pv 4))) (pa_cons (pe_op op_mulW (pv 3) (pe_op op_add (pv 4) pe_int)) pa_nil)) (by rfl))))
    (pss_one (ps_ret (pe_op op_fdivW (pv 2) (pv 3)))))), ?_⟩
    refine ⟨(by show 2 ≤ sizeLine; decide), fun t ht => ⟨t, _, rfl, SqT.of upd_same, rfl, _, _, rfl, _, _, rfl, rfl, ?_⟩⟩
    refine ⟨_, rfl, (k : Int), rfl, by omega, by omega, ?_⟩
    rw [show (k : Int).toNat = k by omega]
    refine for_range (lo := 0) (n := k) (fun i σ H' => ∃ v : Option V, H' = upd H t (.tup [.int 1, .int 1]) ∧ σ = [some (.int n), some (.int (k : Int)), some (.int (M.ff n i)), some (.int (M.fac i)), v]) ⟨none, rfl, rfl⟩ ?_ ?_
    · rintro i σ H' hi ⟨v, rfl, rfl⟩
      have s1 : Sz 401 (n - (0 + (i : Int))) := Sz.sub hn (Sz.mono (a := 5) (by unfold Sz; omega) (by decide))
      have s2 : Sz 6 (0 + (i : Int) + 1) := by unfold Sz; omega
      refine ⟨_, rfl, _, rfl, _, rfl, _, _, rfl, rfl, _, _, rfl, rfl, (ff_sz hn i (by omega)).mulOk s1 (by omega), _, rfl, _, rfl, _, _, rfl, rfl, _, _, rfl, rfl, (fac_sz i (by omega)).mulOk s2 (by omega), _, _, rfl, ?_⟩
      refine ⟨some (.int (0 + (i : Int))), rfl, ?_⟩
      rw [Int.zero_add]
      rfl
    · rintro σ H' ⟨v, rfl, rfl⟩
      refine ⟨_, rfl, _, rfl, _, _, rfl, rfl, divW 100 (M.fac_pos k) ((fac_sz k hk).mono (by omega)) (by decide), ?_⟩
      exact q2 _ (same_new (Same.refl H) _ ht)
abbrev s_lat : Stmt := top 45
abbrev N_lat : List Str := ["_law_row_here", "_law_n", "_law_k"]
theorem sc_lat : FnScope N_lat ["_law_row_here", "_law_n"] (defScope s_lat) := ⟨rfl, rfl, rfl, by decide +kernel, rfl, by decide +kernel, by decide +kernel⟩

theorem ok_lat (F : Fun K "_law_at" "_law_at" s_lat f fd) (T : Blt mg) (G_choose : Has P w K mg base 1 "_law_choose" ["_law_n", "_law_k"] spChoose) : FnOk P w K mg base CX0 2 f fd ["_law_row_here", "_law_n"] (spAt K) := by
  refine F.ok sc_lat (fun vs H Q E h => ?_) (fun cdv A outer s H vs Q E hr h => ?_)
  · obtain ⟨a, r, n, rfl, _⟩ := h
    rfl
  · obtain ⟨a, r, n, rfl, hS, hl, hx, hn, q⟩ := h
    refine ⟨_, (pss_one (ps_ret (pe_callB (show CallR _ _ (rSum K) from cr_sum rfl) (by rfl) T.sum_ (by decide +kernel) (pa_cons (pe_lc (own := [("_law_k", 2)]) (g := gName 2) (tt := tYes) (by rfl) sc_lat.nd (pi_range1 (by rfl) T.range_ (pa_cons (pe_callB (show CallR _ _ (rLenQ K) from c_len) (by rfl) T.len_ (by decide +kernel) (pa_cons (pv 0) pa_nil)) pa_nil)) (blkOk_by (own := [("_law_k", 2)]) (N := N_lat) (sc := defScope s_lat) (by decide +kernel)) (fun _ _ _ _ _ => (pg_name (i := 2) sc_lat.nd rfl (by first | exact Or.inl rfl | exact Or.inr rfl))) (fun _ _ _ _ _ => pts_nil) (fun _ _ _ _ _ => (pe_op op_mulW (pe_ix (show IxR _ (rIx K) from ix_seq) (pv 0) (pv 2) (fun _ _ => rfl)) (pe_has G_choose (hr.mono (by decide)) (pa_cons (pv 1) (pa_cons (pv 2) pa_nil)))))) pa_nil)))), ?_⟩
    refine ⟨_, rfl, a, _, rfl, hS, (r.length : Int), ?_, by omega, by omega, fun D hD => ?_⟩
    · rw [List.length_map]
    refine ZK.lc_growR r.length (Nat.lt_of_le_of_lt hl (by decide)) (fun _ H' => Same H H') (fun i y => y = .int (r.getD i 0 * M.C n i)) (same_new (Same.refl H) _ hD) ?_ ?_
    · intro i H1 acc hi s1 hacc hal hR Qn hq
      refine ⟨rfl, ?_⟩
      have hg : (r.map V.int)[i]? = some (.int (r.getD i 0)) := by
        rw [List.getElem?_map, List.getElem?_eq_getElem hi, List.getD_eq_getElem?_getD, List.getElem?_eq_getElem hi]
        rfl
      have hmem : r.getD i 0 ∈ r := by
        rw [List.getD_eq_getElem?_getD, List.getElem?_eq_getElem hi]
        exact List.getElem_mem hi
      have at_ : atI (r.map V.int) (0 + (i : Int)) = some (.int (r.getD i 0)) := by
        rw [Int.zero_add]
        exact atI_nat hg
      refine ⟨_, rfl, _, rfl, ?_⟩
      rcases hS with hS | hS
      · refine .inl ⟨a, _, _, _, rfl, rfl, s1.seq hS, at_, _, rfl, _, rfl, n, i, by rw [Int.zero_add]; rfl, by omega, hn, fun H2 s2 => ⟨_, _, rfl, rfl, (hx _ hmem).mulOk (C_sz hn (by omega)) (by decide), hq _ _ rfl (s2 _ _ hacc) (same_but_new (s1.trans s2) hD)⟩⟩
      · refine .inr (.inl ⟨a, _, _, _, rfl, rfl, sqT_same s1 hS, at_, _, rfl, _, rfl, n, i, by rw [Int.zero_add]; rfl, by omega, hn, fun H2 s2 => ⟨_, _, rfl, rfl, (hx _ hmem).mulOk (C_sz hn (by omega)) (by decide), hq _ _ rfl (s2 _ _ hacc) (same_but_new (s1.trans s2) hD)⟩⟩)
    · intro H1 acc s1 hacc hal hR
      have e := ZK.eq_map hal hR
      refine ⟨D, (List.range r.length).map (fun k => r.getD k 0 * M.C n k), rfl, SqL.of ?_, ?_⟩
      · rw [hacc, e, List.map_map]
        rfl
      · rw [← M.val_sum]
        exact q _ s1
abbrev s_cut : Stmt := top 46
abbrev N_cut : List Str := ["_law_row_here", "_law_many"]
theorem sc_cut : FnScope N_cut ["_law_row_here"] (defScope s_cut) := ⟨rfl, rfl, rfl, by decide +kernel, rfl, by decide +kernel, by decide +kernel⟩

theorem get_int {r : List Int} {e : Nat} (h : e < r.length) : (r.map V.int)[e]? = some (.int (r.getD e 0)) ∧ r[e]? = some (r.getD e 0) := by
  rw [List.getElem?_map, List.getElem?_eq_getElem h, List.getD_eq_getElem?_getD, List.getElem?_eq_getElem h]
  exact ⟨rfl, rfl⟩
theorem cut_take {r : List Int} (n : Nat) (h : n ≤ r.length) : cutV (r.map V.int) none (some (n : Int)) = (r.take n).map V.int := by
  unfold cutV
  rw [show HT.sIx (r.map V.int).length 0 none = 0 from rfl, HT.sIx_nat, List.drop_zero, Nat.sub_zero, List.length_map, Nat.min_eq_left h, List.map_take]
theorem ok_cut (F : Fun K "_law_cut" "_law_cut" s_cut f fd) (T : Blt mg) : FnOk P w K mg base CX0 1 f fd ["_law_row_here"] (spCut K) := by
  refine F.ok sc_cut (fun vs H Q E h => ?_) (fun cdv A outer s H vs Q E hr h => ?_)
  · obtain ⟨a, r, rfl, _⟩ := h
    rfl
  · obtain ⟨a, r, rfl, hS, hl, q⟩ := h
    refine ⟨_, (pss_cons (ps_set (i := 1) sc_cut.nd rfl (Or.inl rfl) (pe_callB (show CallR _ _ (rLenQ K) from c_len) (by rfl) T.len_ (by decide +kernel) (pa_cons (pv 0) pa_nil)))
    (pss_cons (ps_while PassesOwn.never (PW.pt (pw_and (pt_cmpR op_gt (pv 1) pe_int (nomark _)) (pw_and1 (pt_cmpR op_eq (pe_ix (show IxR _ (rIxL K) from ix_list) (pv 0) (pe_op op_sub (pv 1) pe_int) (fun _ _ => rfl)) pe_int (nomark _)))))
      (pss_one (ps_set (i := 1) sc_cut.nd rfl (Or.inl rfl) (pe_op op_sub (pv 1) pe_int))))
    (pss_one (ps_ret (pe_callTy (show CallR _ _ (rTupQ K) from c_tuple) (by rfl) T.tuple_ (by decide +kernel) (pa_cons (pe_slice (show SlR _ (rSlL K) from sl_list) (pv 0) po_none (po_some (pv 1))) pa_nil)))))), ?_⟩
    refine ⟨_, rfl, a, _, rfl, .inl hS, ?_⟩
    rw [List.length_map]
    let W : Nat → L2.St → Hp → Prop := fun n σ H' => H' = H ∧ n ≤ r.length ∧ σ = [some (.ref a), some (.int (n : Int))] ∧ M.cutN r n = M.cutN r r.length
    refine ⟨W, ⟨_, rfl, Nat.le_refl _, rfl, rfl⟩, ?_⟩
    rintro n σ H' ⟨rfl, hn, rfl, hc⟩
    have out : M.cutN r r.length = n → tRet (tCB (rTupQ K) (tCons (tSl (rSlL K) (tVar 0) tNoPart (tPart (tVar 1))) tNil)) { nx := fun _ H' => Q .non H', rt := Q } [some (.ref a), some (.int (n : Int))] H' := fun e => by
      refine ⟨_, rfl, _, rfl, _, rfl, a, _, rfl, hS, fun l hll => ?_⟩
      refine ⟨l, _, rfl, .inl ⟨SqL.of upd_same, fun t ht => ?_⟩⟩
      have hlt : t ≠ l := (ne_of_none upd_same ht).symm
      refine q t _ (same_new (same_new (Same.refl _) _ hll) _ ht) ((same_new (Same.refl _) _ hll).free ht) ?_
      rw [upd_same, cut_take n hn]
      unfold M.cut
      rw [e]
    refine ⟨_, rfl, _, _, rfl, rfl, _, rfl, ?_⟩
    refine ite2 (fun h1 => ?_) (fun h1 => ?_)
    · have h2 : 0 < (n : Int) := of_decide_eq_true h1
      obtain ⟨e, rfl⟩ : ∃ e, n = e + 1 := ⟨n - 1, by omega⟩
      obtain ⟨g1, g2⟩ := get_int (r := r) (e := e) (by omega)
      refine ⟨_, rfl, _, rfl, _, _, rfl, rfl, a, _, _, _, rfl, rfl, hS, at_of (by omega) g1, rfl, _, rfl, ?_⟩
      refine ite2 (fun h3 => ?_) (fun h3 => ?_)
      · have h4 : r.getD e 0 = 0 := by
          have z := of_decide_eq_true h3
          exact V.int.inj z
        refine ⟨fun σ' H'' => ∃ n', n' < e + 1 ∧ W n' σ' H'', fun σ' H' h => h, ?_⟩
        refine ⟨_, rfl, _, _, rfl, rfl, e, Nat.lt_succ_self e, rfl, by omega, ?_, ?_⟩
        · show [some (V.ref a), some (V.int (((e + 1 : Nat) : Int) - 1))] = _
          rw [show ((e + 1 : Nat) : Int) - 1 = (e : Int) by omega]
        · rw [← hc, M.cutN_zero r e (by rw [g2, h4])]
      · refine out ?_
        rw [← hc]
        refine M.cutN_stop r e fun z => h3 (decide_eq_true ?_)
        rw [g2] at z
        rw [Option.some.inj z]
    · have h2 : n = 0 := by
        have : ¬ (0 < (n : Int)) := fun z => h1 (decide_eq_true z)
        omega
      subst h2
      exact out hc.symm
end
end EN

namespace EN
open PySem L2 PyProof.Rows
section
variable {P : Program} {w : World} {K : PySem.W.Frag} {mg : Str → Option Value} {base : Heap} {f : Addr} {fd : FuncData}
abbrev s_lrowof : Stmt := top 47
abbrev N_lrowof : List Str := ["_law_amounts", "_law_rest", "_law_found", "_law_k"]
theorem sc_lrowof : FnScope N_lrowof ["_law_amounts"] (defScope s_lrowof) := ⟨rfl, rfl, rfl, by decide +kernel, rfl, by decide +kernel, by decide +kernel⟩

/-- lists and tuples of ints as data -/
theorem dpAll_ints {H : Hp} : ∀ r : List Int, DpAll K H (r.map V.int) (r.map PyData.int)
  | [] => .nil
  | a :: r => .cons (.int a) (dpAll_ints r)
theorem dp_lst {H : Hp} {a : Addr} {r : List Int} (h : SqL K H a (r.map V.int)) : Dp K H (.ref a) (.list (r.map PyData.int)) := .lst h (dpAll_ints r)
theorem dp_tup {H : Hp} {a : Addr} {r : List Int} (h : SqT K H a (r.map V.int)) : Dp K H (.ref a) (.tuple (r.map PyData.int)) := .tup h (dpAll_ints r)
theorem shaped_lst (r : List Int) : SeqAt.shaped (.list (r.map PyData.int)) = true := PySem.W.ke_shaped_ints r
theorem shaped_tup (r : List Int) : SeqAt.shaped (.tuple (r.map PyData.int)) = true := by
  simp [SeqAt.shaped, PyData.canLay0, PyData.depth, PySem.W.ke_canLayAll0, PySem.W.ke_depthAll]
theorem eqvAll_ints : ∀ r s : List Int, PyData.eqvAll (r.map PyData.int) (s.map PyData.int) = decide (r = s)
  | [], [] => by simp [PyData.eqvAll]
  | [], b :: s => by simp [PyData.eqvAll]
  | a :: r, [] => by simp [PyData.eqvAll]
  | a :: r, b :: s => by
    simp only [List.map_cons, PyData.eqvAll, PyData.eqv, eqvAll_ints r s]
    by_cases h : a = b <;> by_cases h' : r = s <;> simp [h, h']
theorem eqv_lst (r s : List Int) : PyData.eqv (.list (r.map PyData.int)) (.list (s.map PyData.int)) = decide (r = s) := by
  simp only [PyData.eqv]; exact eqvAll_ints r s
theorem eqv_tup (r s : List Int) : PyData.eqv (.tuple (r.map PyData.int)) (.tuple (s.map PyData.int)) = decide (r = s) := by
  simp only [PyData.eqv]; exact eqvAll_ints r s
theorem ok_lrowof (F : Fun K "_law_row_of" "_law_row_of" s_lrowof f fd) (T : Blt mg) (G_cut : Has P w K mg base 1 "_law_cut" ["_law_row_here"] (spCut K)) : FnOk P w K mg base CX0 2 f fd ["_law_amounts"] (spRowOf K) := by
  refine F.ok sc_lrowof (fun vs H Q E h => ?_) (fun cdv A outer s H vs Q E hr h => ?_)
  · obtain ⟨a, r, rfl, _⟩ := h
    rfl
  · obtain ⟨a, r, rfl, hS, hl, q⟩ := h
    refine ⟨_, (pss_cons (ps_asg (pe_tup (pa_cons (pe_callTy (show CallR _ _ (rListQ K) from c_list) (by rfl) T.list_ (by decide +kernel) (pa_cons (pv 0) pa_nil)) (pa_cons (pe_lst pa_nil) pa_nil))) (pg_tup rfl (pgs_cons (pg_name (i := 1) sc_lrowof.nd rfl (Or.inr rfl)) (pgs_cons (pg_name (i := 2) sc_lrowof.nd rfl (Or.inl rfl)) pgs_nil))))
    (pss_cons (ps_while PassesOwn.never (pt_cmpR (show OpR _ _ (rNeD K) from op_neD hr.units) (pv 1) (pe_lst pa_nil) (nomark _))
      (pss_cons (ps_expr (pe_bm PySem.F.plainAttrs_list PySem.F.slot_list_append PySem.F.type_list_append mt_append (pv 2) (pa_cons (pe_ix (show IxR _ (rIxL K) from ix_list) (pv 1) pe_int (fun _ _ => rfl)) pa_nil)))
      (pss_one (ps_set (i := 1) sc_lrowof.nd rfl (Or.inr rfl) (pe_lc (own := [("_law_k", 3)]) (g := gName 3) (tt := tYes) (by rfl) sc_lrowof.nd (pi_range1 (by rfl) T.range_ (pa_cons (pe_op op_sub (pe_callB (show CallR _ _ (rLenQ K) from c_len) (by rfl) T.len_ (by decide +kernel) (pa_cons (pv 1) pa_nil)) pe_int) pa_nil)) (blkOk_by (own := [("_law_k", 3)]) (N := N_lrowof) (sc := defScope s_lrowof) (by decide +kernel)) (fun _ _ _ _ _ => (pg_name (i := 3) sc_lrowof.nd rfl (by first | exact Or.inl rfl | exact Or.inr rfl))) (fun _ _ _ _ _ => pts_nil) (fun _ _ _ _ _ => (pe_op op_sub (pe_ix (show IxR _ (rIxL K) from ix_list) (pv 1) (pe_op op_add (pv 3) pe_int) (fun _ _ => rfl)) (pe_ix (show IxR _ (rIxL K) from ix_list) (pv 1) (pv 3) (fun _ _ => rfl)))))))))
    (pss_one (ps_ret (pe_has G_cut (hr.mono (by decide)) (pa_cons (pv 2) pa_nil)))))), ?_⟩
    refine ⟨_, rfl, a, _, rfl, .inl hS, fun l hll => ⟨(by show 0 ≤ sizeLine; decide), fun d hd => ⟨(by show 2 ≤ sizeLine; decide), fun t ht => ?_⟩⟩⟩
    refine ⟨t, _, rfl, SqT.of upd_same, rfl, _, _, rfl, _, _, rfl, rfl, ?_⟩
    have nld : l ≠ d := ne_of_none upd_same hd
    have ntd : d ≠ t := ne_of_none upd_same ht
    have nlt : l ≠ t := ne_of_none (by rw [upd_ne nld]; exact upd_same) ht
    have hd0 : H d = none := (same_new (Same.refl H) _ hll).free hd
    let W : Nat → L2.St → Hp → Prop := fun n σ H' => ∃ (l' : Addr) (cur fnd : List Int), σ = [some (.ref a), some (.ref l'), some (.ref d), none] ∧ n = cur.length ∧ H' l' = some (.lst (cur.map V.int)) ∧ H' d = some (.lst (fnd.map V.int)) ∧ l' ≠ d ∧
      fnd ++ M.thr cur = M.thr r ∧ Same H H' ∧ cur.length + fnd.length ≤ 1000
    refine ⟨W, ⟨_, l, r, [], rfl, rfl, by rw [upd_ne nlt, upd_ne nld, upd_same], by rw [upd_ne ntd, upd_same]; rfl, nld, rfl, same_new (same_new (same_new (Same.refl H) _ hll) _ hd) _ ht, by simpa using hl⟩, ?_⟩
    rintro n σ H' ⟨l', cur, fnd, rfl, rfl, h1, h2, ne, hthr, sm, hlen⟩
    refine ⟨_, rfl, (by show 0 ≤ sizeLine; decide), fun e he => ?_⟩
    have sme : Same H' (upd H' e (.lst [])) := same_new (Same.refl _) _ he
    refine ⟨.list (cur.map PyData.int), .list (([] : List Int).map PyData.int), dp_lst (sme.seq (SqL.of h1)), dp_lst (SqL.of upd_same), shaped_lst _, shaped_lst _, _, rfl, ?_⟩
    rw [eqv_lst]
    have h1e := sme _ _ h1
    have h2e := sme _ _ h2
    have smE := sm.trans sme
    generalize upd H' e (.lst []) = H1 at h1e h2e smE
    cases cur with
    | nil =>
      refine iteF ?_
      refine ⟨_, rfl, d, fnd, rfl, SqL.of h2e, by simpa using hlen, fun t H2 s2 ht2 hres => ?_⟩
      rw [M.thr_nil, List.append_nil] at hthr
      rw [hthr] at hres
      exact q t H2 (smE.trans s2) (smE.free ht2) hres
    | cons x xs =>
      refine iteT ?_
      refine ⟨fun σ' H'' => ∃ n', n' < (x :: xs).length ∧ W n' σ' H'', fun σ' H' h => h, ?_⟩
      refine ⟨_, rfl, .inl ⟨rfl, _, .inl (.inl h2e)⟩, _, rfl, l', _, 0, .int x, rfl, rfl, SqL.of h1e, at_of (j := 0) rfl rfl, d, _, _, rfl, rfl, h2e, ?_, ?_⟩
      · rw [List.length_map]
        exact small1000 (by omega)
      have h3 : (upd H1 d (.lst (fnd.map V.int ++ [.int x]))) l' = some (.lst ((x :: xs).map V.int)) := by rw [upd_ne ne]; exact h1e
      have h4 : (upd H1 d (.lst (fnd.map V.int ++ [.int x]))) d = some (.lst ((fnd ++ [x]).map V.int)) := by rw [upd_same, List.map_append]; rfl
      have sm4 : Same H (upd H1 d (.lst (fnd.map V.int ++ [.int x]))) := same_but_new smE hd0
      generalize upd H1 d (.lst (fnd.map V.int ++ [.int x])) = H2 at h3 h4 sm4 ⊢
      refine ⟨_, rfl, l', _, rfl, .inl (SqL.of h3), _, _, rfl, rfl, (xs.length : Int), ?_, by omega, ?_, fun D hD => ?_⟩
      · rw [List.length_map, List.length_cons]
        exact congrArg (fun z => [V.int z]) (show ((xs.length + 1 : Nat) : Int) - 1 = (xs.length : Int) by omega)
      · simp only [List.length_cons] at hlen
        omega
      rw [show (xs.length : Int).toNat = xs.length by omega]
      refine ZK.lc_growR xs.length (small1000 (by simp only [List.length_cons] at hlen; omega)) (fun _ H' => Same H2 H') (fun i y => y = .int ((x :: xs).getD (i + 1) 0 - (x :: xs).getD i 0)) (same_new (Same.refl _) _ hD) ?_ ?_
      · intro i H3 acc hi s3 hacc hal hR Qn hq
        have g0 := (get_int (r := x :: xs) (e := i) (by rw [List.length_cons]; omega)).1
        have g1 := (get_int (r := x :: xs) (e := i + 1) (by rw [List.length_cons]; omega)).1
        refine ⟨rfl, _, rfl, _, rfl, _, _, rfl, rfl, l', _, _, _, rfl, rfl, SqL.of (s3 _ _ h3), at_of (by omega) g1, _, rfl, _, rfl, l', _, _, _, rfl, rfl, SqL.of (s3 _ _ h3), at_of (by omega) g0, _, _, rfl, rfl, ?_⟩
        exact hq _ _ rfl hacc (same_but_new s3 hD)
      · intro H3 acc s3 hacc hal hR
        have e := ZK.eq_map hal hR
        have hdiff := M.diffs_eq (x :: xs)
        rw [show (x :: xs).length - 1 = xs.length by simp] at hdiff
        refine ⟨xs.length, by simp, D, M.diffs (x :: xs), fnd ++ [x], rfl, by rw [M.diffs_len]; simp, ?_, s3 _ _ h4, (ne_of_none h4 hD).symm, ?_, sm4.trans s3, ?_⟩
        · rw [hacc, e, hdiff, List.map_map]
          rfl
        · rw [← hthr, M.thr_cons, List.append_assoc]
          rfl
        · rw [M.diffs_len, List.length_append]
          simp only [List.length_cons, List.length_nil] at hlen ⊢
          omega
end
end EN

namespace EN
open PySem L2 PyProof.Rows
section
variable {P : Program} {w : World} {K : PySem.W.Frag} {mg : Str → Option Value} {base : Heap} {f : Addr} {fd : FuncData}
/-- a Size at s: its row is the tuple of the ints ms -/
def SizeAt (K : PySem.W.Frag) (C : Addr) (H : Hp) (s : Addr) (ms : List Int) : Prop := ∃ dx t : Addr, H s = some (.ins C dx [("row", .ref t)]) ∧ SqT K H t (ms.map V.int) ∧ ms.length ≤ 1000
theorem SizeAt.same {C : Addr} {H H' : Hp} {s : Addr} {ms : List Int} (h : SizeAt K C H s ms) (e : Same H H') : SizeAt K C H' s ms := by
  obtain ⟨dx, t, h1, h2, h3⟩ := h
  exact ⟨dx, t, e _ _ h1, sqT_same e h2, h3⟩
theorem Pen.size {C : Addr} {H H' : Hp} {p c s : Addr} {ns : List Int} {B : Nat} {ms : List Int} (P : Pen H p c ns B) (e : But p H H') (h : SizeAt K C H s ms) : SizeAt K C H' s ms := by
  obtain ⟨dx, t, h1, h2, h3⟩ := h
  obtain ⟨b, r, z, _⟩ := P.at_
  exact ⟨dx, t, e _ _ h1 (ne_of h1 z (by intro q; cases q)), P.sqT e h2, h3⟩
/-- the type of a list, of a tuple, wherever it stands -/
theorem tyx_lst {H : Hp} {a : Addr} {xs : List V} (h : SqL K H a xs) : TyX K H (.ref a) (.type "list") := by
  rcases h with (h | ⟨o, h⟩) | ⟨o, its, n, e, c, _⟩
  · exact .base (.lst h)
  · exact .base (.frz h)
  · exact .kList e c
theorem tyx_tup {H : Hp} {a : Addr} {xs : List V} (h : SqT K H a xs) : TyX K H (.ref a) (.type "tuple") := by
  rcases h with (h | ⟨o, h⟩) | ⟨o, its, n, e, c, _⟩
  · exact .base (.tup h)
  · exact .fTuple h
  · exact .kTuple e c
def spRow : Sp := fun vs H Q _ => ∃ (p c : Addr) (ns : List Int) (B : Nat) (m : Int), vs = [.ref p, .int m] ∧ Pen H p c ns B ∧ 0 < m ∧ m ≤ 10 ∧ B + 500 ≤ 1000000000 ∧
  ∀ (l : Addr) (r : List Int) (H' : Hp), r.length ≤ m → (∀ x ∈ r, Sz 200 x) → Pen H' p c ns (B + 500) → But p H H' → H l = none → H' l = some (.lst (r.map V.int)) → Q (.ref l) H'
def spSizeIs (K : PySem.W.Frag) (C : Addr) : Sp := fun vs H Q _ => ∃ (s u : Addr) (ms : List Int), vs = [.ref s, .ref u] ∧ SizeAt K C H s ms ∧ SqT K H u (ms.map V.int) ∧ ∀ H' : Hp, Same H H' → Q (.bl true) H'
def spFRow : Sp := fun vs H Q _ => ∃ (m : Nat) (o : Int), vs = [.int (m : Int), .int o] ∧ m ≤ 10 ∧ Sz 300 o ∧
  ∀ (t : Addr) (H' : Hp), Same H H' → H t = none → H' t = some (.tup ((M.cut (M.thr (M.vals (fun n => M.ff (n - o) m) (m + 1)))).map V.int)) → Q (.ref t) H'
theorem look1 {f : Str} {v : V} : List.lookup f [(f, v)] = some v := by simp [List.lookup]
theorem ints_of {P : Int → Prop} : ∀ acc : List V, (∀ (i : Nat) (y : V), acc[i]? = some y → ∃ z, y = V.int z ∧ P z) → ∃ zs : List Int, acc = zs.map V.int ∧ ∀ z ∈ zs, P z
  | [], _ => ⟨[], rfl, fun z h => by simp at h⟩
  | a :: r, h => by
    obtain ⟨z, rfl, hz⟩ := h 0 a rfl
    obtain ⟨zs, rfl, hzs⟩ := ints_of r fun i y e => h (i + 1) y (by simpa using e)
    refine ⟨z :: zs, rfl, fun x hx => ?_⟩
    rcases List.mem_cons.mp hx with e | e
    · rw [e]; exact hz
    · exact hzs x e
abbrev s_lrow : Stmt := top 48
abbrev N_lrow : List Str := ["_law_pen_here", "_law_most", "_law_k"]
theorem sc_lrow : FnScope N_lrow ["_law_pen_here", "_law_most"] (defScope s_lrow) := ⟨rfl, rfl, rfl, by decide +kernel, rfl, by decide +kernel, by decide +kernel⟩

theorem ok_lrow (F : Fun K "_law_row" "_law_row" s_lrow f fd) (T : Blt mg) (G_draw : Has P w K mg base 1 "_law_draw" ["_law_pen_here", "_law_many"] spDraw) (G_integer : Has P w K mg base 3 "_law_integer" ["_law_pen_here"] spInteger) : FnOk P w K mg base CX0 4 f fd ["_law_pen_here", "_law_most"] spRow := by
  refine F.ok sc_lrow (fun vs H Q E h => ?_) (fun cdv A outer s H vs Q E hr h => ?_)
  · obtain ⟨p, c, ns, B, m, rfl, _⟩ := h
    rfl
  · obtain ⟨p, c, ns, B, m, rfl, hP, hm, hm10, hB, k⟩ := h
    refine ⟨_, (pss_one (ps_ret (pe_op op_cat (pe_lc (own := [("_law_k", 2)]) (g := gName 2) (tt := tYes) (by rfl) sc_lrow.nd (pi_range1 (by rfl) T.range_ (pa_cons (pe_has G_draw (hr.mono (by decide)) (pa_cons (pv 0) (pa_cons (pv 1) pa_nil))) pa_nil)) (blkOk_by (own := [("_law_k", 2)]) (N := N_lrow) (sc := defScope s_lrow) (by decide +kernel)) (fun _ _ _ _ _ => (pg_name (i := 2) sc_lrow.nd rfl (by first | exact Or.inl rfl | exact Or.inr rfl))) (fun _ _ _ _ _ => pts_nil) (fun _ _ _ _ _ => (pe_has G_integer (hr.mono (by decide)) (pa_cons (pv 0) pa_nil)))) (pe_op op_rep (pe_lst (pa_cons pe_int pa_nil)) (pe_op op_fdivW (pe_has G_draw (hr.mono (by decide)) (pa_cons (pv 0) (pa_cons pe_int pa_nil))) pe_int))))), ?_⟩
    have lit : ∀ m : Int, 0 < m → m < 5000 → m.natAbs < 2 ^ 8000 := fun m h0 h1 => Nat.lt_of_lt_of_le (by omega : m.natAbs < 2 ^ 13) (Nat.pow_le_pow_right (by decide) (by decide))
    refine ⟨_, rfl, _, rfl, p, c, ns, B, m, rfl, hP, by omega, hm, lit _ hm (by omega), fun d H1 d0 d1 P1 b1 => ⟨d, rfl, by omega, by omega, fun D hD => ?_⟩⟩
    obtain ⟨n, rfl⟩ := Int.eq_ofNat_of_zero_le d0
    have nDp := P1.nep hD
    have nDc := P1.nec hD
    rw [show (n : Int).toNat = n by omega]
    refine ZK.lc_growR n (small1000 (by omega)) (fun i H' => Pen H' p c ns (B + 1 + 30 * i) ∧ But p H1 H') (fun i y => ∃ z, y = V.int z ∧ Sz 200 z) ⟨P1.new hD, (But.refl _ _).new _ hD⟩ ?_ ?_
    · rintro i H2 acc hi ⟨P2, b2⟩ hacc hal hR Qn hq
      refine ⟨rfl, _, rfl, p, c, ns, B + 1 + 30 * i, rfl, P2, by omega, fun z H3 hz P3 b3 => hq _ _ ⟨z, rfl, hz⟩ (b3 _ _ hacc nDp) ⟨?_, but_new (b2.trans b3) hD⟩⟩
      exact (P3.stay (upd_ne nDp.symm) (upd_ne nDc.symm)).more (by omega) (by omega)
    · rintro H2 acc ⟨P2, b2⟩ hacc hal hR
      obtain ⟨zs, rfl, hzs⟩ := ints_of acc fun i y e => hR i y e
      rw [List.length_map] at hal
      refine ⟨(by show 1 ≤ sizeLine; decide), fun e he => ?_⟩
      have P2e := P2.new (u := .lst [.int 0]) he
      have hacce : (upd H2 e (.lst [.int 0])) D = some (.lst (zs.map V.int)) := by rw [upd_ne (ne_of_none hacc he)]; exact hacc
      have he2 : (upd H2 e (.lst [.int 0])) e = some (.lst [.int 0]) := upd_same
      have b2e : But p H (upd H2 e (.lst [.int 0])) := (b1.trans b2).new _ he
      generalize upd H2 e (.lst [.int 0]) = H3 at P2e hacce he2 b2e
      have nep : e ≠ p := by
        intro z
        obtain ⟨b, r, q, _⟩ := P2e.at_
        rw [← z, he2] at q
        cases q
      refine ⟨_, rfl, p, c, ns, B + 1 + 30 * n, 4, rfl, P2e, by omega, by decide, lit _ (by decide) (by decide), fun d2 H4 e0 e1 P4 b4 => ?_⟩
      have h4e := b4 _ _ he2 nep
      have h4D := b4 _ _ hacce nDp
      refine ⟨_, _, rfl, rfl, divW 3 (by decide) (by decide) (by decide), e, _, _, rfl, rfl, h4e, by omega, by omega, ?_, fun u hu => ?_⟩
      · have : (d2 / 2).toNat ≤ 1 := by omega
        show 1 * (d2 / 2).toNat ≤ sizeLine
        exact Nat.le_trans (by omega) (show 1 ≤ sizeLine by decide)
      have fl : (List.replicate (d2 / 2).toNat [V.int 0]).flatten = (List.replicate (d2 / 2).toNat (0 : Int)).map V.int := by
        have : (d2 / 2).toNat = 0 ∨ (d2 / 2).toNat = 1 := by omega
        rcases this with q | q <;> rw [q] <;> rfl
      rw [fl]
      have nuD : D ≠ u := ne_of_none h4D hu
      refine ⟨D, u, _, _, rfl, rfl, (by rw [upd_ne nuD]; exact h4D), upd_same, ?_, fun v hv => ?_⟩
      · rw [List.length_map, List.length_map, List.length_replicate]
        exact Nat.le_of_lt (small1000 (by omega))
      rw [← List.map_append]
      have b5 := ((b2e.trans b4).new _ hu).new (.lst ((zs ++ List.replicate (d2 / 2).toNat (0 : Int)).map V.int)) hv
      refine k v _ _ ?_ ?_ (((P4.new hu).new hv).more (by omega) (by omega)) b5 ?_ upd_same
      · rw [List.length_append, List.length_replicate]
        omega
      · intro x hx
        rcases List.mem_append.mp hx with z | z
        · exact hzs x z
        · rw [List.eq_of_mem_replicate z]
          unfold Sz; decide +kernel
      · cases q : H v with
        | none => rfl
        | some o =>
          exfalso
          by_cases hvp : v = p
          · obtain ⟨b, r, q2, _⟩ := (P4.new (u := .lst ((List.replicate (d2 / 2).toNat (0 : Int)).map V.int)) hu).at_
            rw [← hvp, hv] at q2
            cases q2
          · have := ((b2e.trans b4).new (.lst ((List.replicate (d2 / 2).toNat (0 : Int)).map V.int)) hu) v o q hvp
            rw [hv] at this
            cases this
abbrev s_sizeis : Stmt := top 49
abbrev N_sizeis : List Str := ["_law_size", "_law_row_here", "_law_told", "_law_amount"]
theorem sc_sizeis : FnScope N_sizeis ["_law_size", "_law_row_here"] (defScope s_sizeis) := ⟨rfl, rfl, rfl, by decide +kernel, rfl, by decide +kernel, by decide +kernel⟩

theorem ok_sizeis {C : Addr} (F : Fun K "_law_size_is" "_law_size_is" s_sizeis f fd) (T : Blt mg) (cl : Cls K C) (nR : NoAttr K C "row") (G_lwhole : Has P w K mg base 1 "_law_whole" ["_law_value"] spWhole) : FnOk P w K mg base CX0 2 f fd ["_law_size", "_law_row_here"] (spSizeIs K C) := by
  refine F.ok sc_sizeis (fun vs H Q E h => ?_) (fun cdv A outer s H vs Q E hr h => ?_)
  · obtain ⟨s, u, ms, rfl, _⟩ := h
    rfl
  · obtain ⟨z, u, ms, rfl, ⟨dx, t, h1, h2, h3⟩, hu, k⟩ := h
    refine ⟨_, (pss_cons (ps_set (i := 2) sc_sizeis.nd rfl (Or.inl rfl) (pe_fld (pv 0) rfl))
    (pss_one (ps_ret (pe_and (pe_callB (show CallR _ _ (rIsi K) from call_isi) (by rfl) T.isinstance_ (by decide +kernel) (pa_cons (pv 2) (pa_cons (pe_bltn (v := .ty "tuple") (u := .type "tuple") (by rfl) T.tuple_ (by decide +kernel) rfl) pa_nil))) (pe_and (pe_cmpR (show OpR _ _ (rEqD K) from op_eqD hr.units) (pv 2) (pv 1) (nomark _)) (pe_one (pe_callB (show CallR _ _ (rAll K) from cr_all rfl) (by rfl) T.all_ (by decide +kernel) (pa_cons (pe_lc (own := [("_law_amount", 3)]) (g := gName 3) (tt := tYes) (by rfl) sc_sizeis.nd (pi_tup (pv 2)) (blkOk_by (own := [("_law_amount", 3)]) (N := N_sizeis) (sc := defScope s_sizeis) (by decide +kernel)) (fun _ _ _ _ _ => (pg_name (i := 3) sc_sizeis.nd rfl (by first | exact Or.inl rfl | exact Or.inr rfl))) (fun _ _ _ _ _ => pts_nil) (fun _ _ _ _ _ => (pe_has G_lwhole (hr.mono (by decide)) (pa_cons (pv 3) pa_nil)))) pa_nil)))))))), ?_⟩
    refine ⟨_, rfl, z, C, dx, _, _, rfl, h1, cl, nR, look1, ?_⟩
    refine ⟨_, rfl, .ref t, .ty "tuple", .type "tuple", .type "tuple", true, rfl, .ty _, tyx_tup h2, kit_ty (by decide +kernel), true, rfl, iteT ?_⟩
    refine ⟨_, rfl, _, rfl, _, _, dp_tup h2, dp_tup hu, shaped_tup _, shaped_tup _, true, ?_, iteT ?_⟩
    · rw [eqv_tup, decide_eq_true rfl]
    refine ⟨_, rfl, t, rfl, ⟨_, h2⟩, fun D hD => ?_⟩
    refine ZK.lc_growT (K := K) (a := t) (xs := ms.map V.int) (small1000 (by rw [List.length_map]; exact h3)) (fun _ H' => Same H H') (fun i y => y = .bl true) (same_new (Same.refl _) _ hD) (fun i H' s' => sqT_same s' h2) ?_ ?_
    · intro i x H1 acc hx s1 hacc hal hR Qn hq
      obtain ⟨j, rfl⟩ : ∃ j, x = V.int j := by
        rw [List.getElem?_map] at hx
        cases e : ms[i]? with
        | none => rw [e] at hx; cases hx
        | some j => rw [e] at hx; exact ⟨j, (Option.some.inj hx).symm⟩
      exact ⟨rfl, _, rfl, j, rfl, hq _ _ rfl hacc (same_but_new s1 hD)⟩
    · intro H1 acc s1 hacc hal hR
      have e := ZK.eq_map hal hR
      refine ⟨D, (List.range ms.length).map fun _ => true, rfl, SqL.of ?_, ?_⟩
      · rw [hacc, e, List.length_map, List.map_map]
        rfl
      · have : ((List.range ms.length).map fun _ => true).all id = true := by simp
        rw [this]
        exact k _ s1
abbrev s_frow : Stmt := top 50
abbrev N_frow : List Str := ["_law_count", "_law_origin", "_law_found", "_law_n", "_law_amount", "_law_k"]
theorem sc_frow : FnScope N_frow ["_law_count", "_law_origin"] (defScope s_frow) := ⟨rfl, rfl, rfl, by decide +kernel, rfl, by decide +kernel, by decide +kernel⟩

theorem ffp_sz {o : Int} (ho : Sz 300 o) {n : Nat} (hn : n ≤ 20) : ∀ k : Nat, k ≤ 10 → Sz (302 * k + 1) (M.ff ((n : Int) - o) k)
  | 0, _ => by show (1 : Int).natAbs < 2 ^ 1; decide
  | k + 1, hk => by
    have h1 := Sz.sub (Sz.mono (a := 5) (b := 300) (x := (n : Int)) (by unfold Sz; omega) (by decide)) ho
    have h2 := Sz.sub h1 (Sz.mono (a := 5) (b := 301) (x := (k : Int)) (by unfold Sz; omega) (by decide))
    exact ((ffp_sz ho hn k (by omega)).mul h2).mono (by omega)
theorem ok_frow (F : Fun K "_law_falling_row" "_law_falling_row" s_frow f fd) (T : Blt mg) (G_lrowof : Has P w K mg base 2 "_law_row_of" ["_law_amounts"] (spRowOf K)) : FnOk P w K mg base CX0 3 f fd ["_law_count", "_law_origin"] spFRow := by
  refine F.ok sc_frow (fun vs H Q E h => ?_) (fun cdv A outer s H vs Q E hr h => ?_)
  · obtain ⟨m, o, rfl, _⟩ := h
    rfl
  · obtain ⟨m, o, rfl, hm, ho, k⟩ := h
    refine ⟨_, (pss_cons (ps_set (i := 2) sc_frow.nd rfl (Or.inl rfl) (pe_lst pa_nil))
    (pss_cons (ps_for PassesOwn.never rfl (pi_range1 (by rfl) T.range_ (pa_cons (pe_op op_add (pv 0) pe_int) pa_nil)) (pg_name (i := 3) sc_frow.nd rfl (Or.inl rfl))
      (pss_cons (ps_set (i := 4) sc_frow.nd rfl (Or.inl rfl) pe_int)
      (pss_cons (ps_for PassesOwn.never rfl (pi_range1 (by rfl) T.range_ (pa_cons (pv 0) pa_nil)) (pg_name (i := 5) sc_frow.nd rfl (Or.inl rfl))
        (pss_one (ps_set (i := 4) sc_frow.nd rfl (Or.inl rfl) (pe_op op_mulW (pv 4) (pe_op op_sub (pe_op op_sub (pv 3) (pv 1)) (pv 5))))))
      (pss_one (ps_expr (pe_bm PySem.F.plainAttrs_list PySem.F.slot_list_append PySem.F.type_list_append mt_append (pv 2) (pa_cons (pv 4) pa_nil)))))))
    (pss_one (ps_ret (pe_has G_lrowof (hr.mono (by decide)) (pa_cons (pv 2) pa_nil)))))), ?_⟩
    refine ⟨(by show 0 ≤ sizeLine; decide), fun d hd => ?_⟩
    refine ⟨_, rfl, _, _, rfl, rfl, ((m + 1 : Nat) : Int), rfl, by omega, by omega, ?_⟩
    rw [show (((m + 1 : Nat) : Int)).toNat = m + 1 by omega]
    refine for_range (lo := 0) (n := m + 1) (fun i σ H' => ∃ v1 v2 v3 : Option V, Same H H' ∧ H' d = some (.lst ((M.vals (fun n => M.ff (n - o) m) i).map V.int)) ∧ σ = [some (.int (m : Int)), some (.int o), some (.ref d), v1, v2, v3]) ⟨none, none, none, same_new (Same.refl H) _ hd, upd_same, rfl⟩ ?_ ?_
    · rintro i σ H1 hi ⟨v1, v2, v3, s1, hd1, rfl⟩
      rw [Int.zero_add]
      refine ⟨_, rfl, (m : Int), rfl, by omega, by omega, ?_⟩
      rw [show ((m : Int)).toNat = m by omega]
      refine for_range (lo := 0) (n := m) (fun j σ H' => ∃ v3 : Option V, H' = H1 ∧ σ = [some (.int (m : Int)), some (.int o), some (.ref d), some (.int (i : Int)), some (.int (M.ff ((i : Int) - o) j)), v3]) ⟨v3, rfl, rfl⟩ ?_ ?_
      · rintro j σ H2 hj ⟨v, rfl, rfl⟩
        rw [Int.zero_add]
        have h1 := Sz.sub (Sz.mono (a := 5) (b := 300) (x := (i : Int)) (by unfold Sz; omega) (by decide)) ho
        have h2 := Sz.sub h1 (Sz.mono (a := 5) (b := 301) (x := (j : Int)) (by unfold Sz; omega) (by decide))
        refine ⟨_, rfl, _, rfl, _, rfl, _, _, rfl, rfl, _, rfl, _, _, rfl, rfl, _, _, rfl, rfl, (ffp_sz ho (n := i) (by omega) j (by omega)).mulOk h2 (by omega), ?_⟩
        exact ⟨_, rfl, rfl⟩
      · rintro σ H2 ⟨v, rfl, rfl⟩
        refine ⟨_, rfl, .inl ⟨rfl, _, .inl (.inl hd1)⟩, _, rfl, d, _, _, rfl, rfl, hd1, ?_, ?_⟩
        · rw [List.length_map, M.vals_len]
          exact small1000 (by omega)
        · refine ⟨_, _, _, same_but_new s1 hd, ?_, rfl⟩
          rw [upd_same]
          have e : M.vals (fun n => M.ff (n - o) m) (i + 1) = M.vals (fun n => M.ff (n - o) m) i ++ [M.ff ((i : Int) - o) m] := by
            unfold M.vals
            rw [List.range_succ, List.map_append]
            rfl
          rw [e, List.map_append]
          rfl
    · rintro σ H1 ⟨v1, v2, v3, s1, hd1, rfl⟩
      refine ⟨_, rfl, d, _, rfl, SqL.of hd1, ?_, fun t H2 s2 ht hres => k t H2 (s1.trans s2) (s1.free ht) hres⟩
      rw [M.vals_len]
      omega
end
end EN

namespace EN
open PySem L2 PyProof.Rows
section
variable {P : Program} {w : World} {K : PySem.W.Frag} {mg : Str → Option Value} {base : Heap} {f : Addr} {fd : FuncData}
def spIsWhole : Sp := fun vs H Q _ => ∃ i : Int, vs = [.int i] ∧ Q (.bl true) H
def spCheckWhole : Sp := fun vs H Q _ => ∃ i : Int, vs = [.int i] ∧ Q .non H
def spCheckFrom : Sp := fun vs H Q _ => ∃ i b : Int, vs = [.int i, .int b] ∧ b ≤ i ∧ Q .non H
abbrev SeqI (K : PySem.W.Frag) (H : Hp) (a : Addr) (r : List Int) : Prop := SqL K H a (r.map V.int) ∨ SqT K H a (r.map V.int)
def spCheckWholes (K : PySem.W.Frag) : Sp := fun vs H Q _ => ∃ (a : Addr) (r : List Int), vs = [.ref a] ∧ SeqI K H a r ∧ r.length ≤ 1000 ∧ ∀ H' : Hp, Same H H' → Q .non H'
def spChooses : Sp := fun vs H Q _ => ∃ (n : Int) (m : Nat), vs = [.int n, .int (m : Int)] ∧ m ≤ 16 ∧ Sz 400 n ∧ ∀ (l : Addr) (H' : Hp), Same H H' → H l = none → H' l = some (.lst (((List.range m).map fun k => M.C n k).map V.int)) → Q (.ref l) H'
def spRowValue (K : PySem.W.Frag) : Sp := fun vs H Q _ => ∃ (a : Addr) (r : List Int) (n : Int), vs = [.ref a, .int n] ∧ SqT K H a (r.map V.int) ∧ r.length ≤ 12 ∧ (∀ x ∈ r, Sz 9000 x) ∧ Sz 400 n ∧ ∀ H' : Hp, Same H H' → Q (.int (M.val r n)) H'
theorem int_at {r : List Int} {i : Nat} {x : V} (h : (r.map V.int)[i]? = some x) : i < r.length ∧ x = V.int (r.getD i 0) := by
  rw [List.getElem?_map] at h
  cases e : r[i]? with
  | none => rw [e] at h; cases h
  | some j =>
    rw [e] at h
    refine ⟨(List.getElem?_eq_some_iff.mp e).1, ?_⟩
    rw [List.getD_eq_getElem?_getD, e]
    exact (Option.some.inj h).symm
abbrev s_is_whole : Stmt := top 7
abbrev N_is_whole : List Str := ["value"]
theorem sc_is_whole : FnScope N_is_whole ["value"] (defScope s_is_whole) := ⟨rfl, rfl, rfl, by decide +kernel, rfl, by decide +kernel, by decide +kernel⟩

theorem ok_is_whole (F : Fun K "is_whole" "is_whole" s_is_whole f fd) (T : Blt mg) : FnOk P w K mg base CX0 1 f fd ["value"] spIsWhole := by
  refine F.ok sc_is_whole (fun vs H Q E h => ?_) (fun cdv A outer s H vs Q E hr h => ?_)
  · obtain ⟨i, rfl, _⟩ := h
    rfl
  · obtain ⟨i, rfl, k⟩ := h
    refine ⟨_, (pss_one (ps_ret (pe_and (pe_callB (show CallR _ _ (rIsi K) from call_isi) (by rfl) T.isinstance_ (by decide +kernel) (pa_cons (pv 0) (pa_cons (pe_bltn (v := .ty "int") (u := .type "int") (by rfl) T.int_ (by decide +kernel) rfl) pa_nil))) (pe_one (pe_not (pe_callB (show CallR _ _ (rIsi K) from call_isi) (by rfl) T.isinstance_ (by decide +kernel) (pa_cons (pv 0) (pa_cons (pe_bltn (v := .ty "bool") (u := .type "bool") (by rfl) T.bool_ (by decide +kernel) rfl) pa_nil)))))))), ?_⟩
    refine ⟨_, rfl, .int i, .ty "int", .type "int", .type "int", true, rfl, .ty _, .base (.int _), kit_ty (by decide +kernel), true, rfl, iteT ?_⟩
    refine ⟨_, rfl, .int i, .ty "bool", .type "int", .type "bool", false, rfl, .ty _, .base (.int _), kit_ty (by decide +kernel), false, rfl, k⟩
abbrev s_check_whole : Stmt := top 8
abbrev N_check_whole : List Str := ["value"]
theorem sc_check_whole : FnScope N_check_whole ["value"] (defScope s_check_whole) := ⟨rfl, rfl, rfl, by decide +kernel, rfl, by decide +kernel, by decide +kernel⟩

theorem ok_check_whole (F : Fun K "check_whole" "check_whole" s_check_whole f fd) (T : Blt mg) (G_is_whole : Has P w K mg base 1 "is_whole" ["value"] spIsWhole) : FnOk P w K mg base CX0 2 f fd ["value"] spCheckWhole := by
  refine F.ok sc_check_whole (fun vs H Q E h => ?_) (fun cdv A outer s H vs Q E hr h => ?_)
  · obtain ⟨i, rfl, _⟩ := h
    rfl
  · obtain ⟨i, rfl, k⟩ := h
    refine ⟨_, (pss_one (ps_if (pt_not (pt_val (pe_has G_is_whole (hr.mono (by decide)) (pa_cons (pv 0) pa_nil))))
      (pss_one ps_never)
      pss_nil)), ?_⟩
    exact ⟨_, rfl, i, rfl, _, rfl, iteF k⟩
abbrev s_check_from : Stmt := top 9
abbrev N_check_from : List Str := ["value", "bound"]
theorem sc_check_from : FnScope N_check_from ["value", "bound"] (defScope s_check_from) := ⟨rfl, rfl, rfl, by decide +kernel, rfl, by decide +kernel, by decide +kernel⟩

theorem ok_check_from (F : Fun K "check_from" "check_from" s_check_from f fd) (T : Blt mg) (G_is_whole : Has P w K mg base 1 "is_whole" ["value"] spIsWhole) : FnOk P w K mg base CX0 2 f fd ["value", "bound"] spCheckFrom := by
  refine F.ok sc_check_from (fun vs H Q E h => ?_) (fun cdv A outer s H vs Q E hr h => ?_)
  · obtain ⟨i, b, rfl, _⟩ := h
    rfl
  · obtain ⟨i, b, rfl, hb, k⟩ := h
    refine ⟨_, (pss_one (ps_if (PW.pt (pw_or (pt_not (pt_val (pe_has G_is_whole (hr.mono (by decide)) (pa_cons (pv 0) pa_nil)))) (pw_or1 (pt_cmpR op_lt (pv 0) (pv 1) (nomark _)))))
      (pss_one ps_never)
      pss_nil)), ?_⟩
    refine ⟨_, rfl, i, rfl, _, rfl, iteF ⟨_, rfl, _, rfl, _, _, rfl, rfl, _, rfl, ?_⟩⟩
    refine ite2 (fun h => ?_) (fun _ => k)
    have := of_decide_eq_true h
    omega
abbrev s_check_wholes : Stmt := top 10
abbrev N_check_wholes : List Str := ["values", "value"]
theorem sc_check_wholes : FnScope N_check_wholes ["values"] (defScope s_check_wholes) := ⟨rfl, rfl, rfl, by decide +kernel, rfl, by decide +kernel, by decide +kernel⟩

theorem all_true (n : Nat) : ((List.range n).map fun _ => true).all id = true := by simp
theorem ok_check_wholes (F : Fun K "check_wholes" "check_wholes" s_check_wholes f fd) (T : Blt mg) (G_is_whole : Has P w K mg base 1 "is_whole" ["value"] spIsWhole) : FnOk P w K mg base CX0 2 f fd ["values"] (spCheckWholes K) := by
  refine F.ok sc_check_wholes (fun vs H Q E h => ?_) (fun cdv A outer s H vs Q E hr h => ?_)
  · obtain ⟨a, r, rfl, _⟩ := h
    rfl
  · obtain ⟨a, r, rfl, hS | hS, hl, k⟩ := h
    · refine ⟨_, (pss_one (ps_if (PW.pt (pw_or (pt_not (pt_val (pe_callB (show CallR _ _ (rIsiT K) from call_isiT) (by rfl) T.isinstance_ (by decide +kernel) (pa_cons (pv 0) (pa_cons (pe_tup (pa_cons (pe_bltn (v := .ty "list") (u := .type "list") (by rfl) T.list_ (by decide +kernel) rfl) (pa_cons (pe_bltn (v := .ty "tuple") (u := .type "tuple") (by rfl) T.tuple_ (by decide +kernel) rfl) pa_nil))) pa_nil))))) (pw_or1 (pt_not (pt_val (pe_callB (show CallR _ _ (rAll K) from cr_all rfl) (by rfl) T.all_ (by decide +kernel) (pa_cons (pe_lc (own := [("value", 1)]) (g := gName 1) (tt := tYes) (by rfl) sc_check_wholes.nd (pi_list (pv 0)) (blkOk_by (own := [("value", 1)]) (N := N_check_wholes) (sc := defScope s_check_wholes) (by decide +kernel)) (fun _ _ _ _ _ => (pg_name (i := 1) sc_check_wholes.nd rfl (by first | exact Or.inl rfl | exact Or.inr rfl))) (fun _ _ _ _ _ => pts_nil) (fun _ _ _ _ _ => (pe_has G_is_whole (hr.mono (by decide)) (pa_cons (pv 1) pa_nil)))) pa_nil)))))))
      (pss_one ps_never)
      pss_nil)), ?_⟩
      refine ⟨_, rfl, (by show 2 ≤ sizeLine; decide), fun tp htp => ?_⟩
      have s1 := same_new (Same.refl H) (.tup [.ty "list", .ty "tuple"]) htp
      refine ⟨.ref a, tp, _, .type "list", [.type "list", .type "tuple"], true, rfl, upd_same, .cons (.ty _) (.cons (.ty _) .nil), tyx_lst (s1.seq hS), kitAny_cons (b := true) (kit_ty (by decide +kernel)) (fun z => nomatch z) (fun _ => rfl), true, rfl, iteF ?_⟩
      refine ⟨_, rfl, a, rfl, ⟨_, s1.seq hS⟩, fun D hD => ?_⟩
      refine ZK.lc_growL (K := K) (a := a) (xs := r.map V.int) (small1000 (by rw [List.length_map]; exact hl)) (fun _ H' => Same H H') (fun i y => y = .bl true) (same_new s1 _ hD) (fun i H' s' => s'.seq hS) ?_ ?_
      · intro i x H1 acc hx s2 hacc hal hR Qn hq
        obtain ⟨_, rfl⟩ := int_at hx
        exact ⟨rfl, _, rfl, _, rfl, hq _ _ rfl hacc (same_but_new s2 (s1.free hD))⟩
      · intro H1 acc s2 hacc hal hR
        have e := ZK.eq_map hal hR
        refine ⟨D, (List.range r.length).map fun _ => true, rfl, SqL.of ?_, _, rfl, ?_⟩
        · rw [hacc, e, List.length_map, List.map_map]
          rfl
        · rw [all_true]
          exact iteF (k _ s2)
    · refine ⟨_, (pss_one (ps_if (PW.pt (pw_or (pt_not (pt_val (pe_callB (show CallR _ _ (rIsiT K) from call_isiT) (by rfl) T.isinstance_ (by decide +kernel) (pa_cons (pv 0) (pa_cons (pe_tup (pa_cons (pe_bltn (v := .ty "list") (u := .type "list") (by rfl) T.list_ (by decide +kernel) rfl) (pa_cons (pe_bltn (v := .ty "tuple") (u := .type "tuple") (by rfl) T.tuple_ (by decide +kernel) rfl) pa_nil))) pa_nil))))) (pw_or1 (pt_not (pt_val (pe_callB (show CallR _ _ (rAll K) from cr_all rfl) (by rfl) T.all_ (by decide +kernel) (pa_cons (pe_lc (own := [("value", 1)]) (g := gName 1) (tt := tYes) (by rfl) sc_check_wholes.nd (pi_tup (pv 0)) (blkOk_by (own := [("value", 1)]) (N := N_check_wholes) (sc := defScope s_check_wholes) (by decide +kernel)) (fun _ _ _ _ _ => (pg_name (i := 1) sc_check_wholes.nd rfl (by first | exact Or.inl rfl | exact Or.inr rfl))) (fun _ _ _ _ _ => pts_nil) (fun _ _ _ _ _ => (pe_has G_is_whole (hr.mono (by decide)) (pa_cons (pv 1) pa_nil)))) pa_nil)))))))
      (pss_one ps_never)
      pss_nil)), ?_⟩
      refine ⟨_, rfl, (by show 2 ≤ sizeLine; decide), fun tp htp => ?_⟩
      have s1 := same_new (Same.refl H) (.tup [.ty "list", .ty "tuple"]) htp
      refine ⟨.ref a, tp, _, .type "tuple", [.type "list", .type "tuple"], true, rfl, upd_same, .cons (.ty _) (.cons (.ty _) .nil), tyx_tup (sqT_same s1 hS), kitAny_cons (b := false) (kit_ty (by decide +kernel)) (fun _ => kitAny_cons (b := true) (kit_ty (by decide +kernel)) (fun z => nomatch z) (fun _ => rfl)) (fun z => nomatch z), true, rfl, iteF ?_⟩
      refine ⟨_, rfl, a, rfl, ⟨_, sqT_same s1 hS⟩, fun D hD => ?_⟩
      refine ZK.lc_growT (K := K) (a := a) (xs := r.map V.int) (small1000 (by rw [List.length_map]; exact hl)) (fun _ H' => Same H H') (fun i y => y = .bl true) (same_new s1 _ hD) (fun i H' s' => sqT_same s' hS) ?_ ?_
      · intro i x H1 acc hx s2 hacc hal hR Qn hq
        obtain ⟨_, rfl⟩ := int_at hx
        exact ⟨rfl, _, rfl, _, rfl, hq _ _ rfl hacc (same_but_new s2 (s1.free hD))⟩
      · intro H1 acc s2 hacc hal hR
        have e := ZK.eq_map hal hR
        refine ⟨D, (List.range r.length).map fun _ => true, rfl, SqL.of ?_, _, rfl, ?_⟩
        · rw [hacc, e, List.length_map, List.map_map]
          rfl
        · rw [all_true]
          exact iteF (k _ s2)
end
end EN

namespace EN
open PySem L2 PyProof.Rows
section
variable {P : Program} {w : World} {K : PySem.W.Frag} {mg : Str → Option Value} {base : Heap} {f : Addr} {fd : FuncData}
abbrev s_chooses : Stmt := top 12
abbrev N_chooses : List Str := ["n", "many", "found", "worth", "k"]
theorem sc_chooses : FnScope N_chooses ["n", "many"] (defScope s_chooses) := ⟨rfl, rfl, rfl, by decide +kernel, rfl, by decide +kernel, by decide +kernel⟩

theorem fdivI {i j : Int} (h : 0 < j) : i.fdiv j = i / j := Int.fdiv_eq_ediv_of_nonneg i (by omega)
theorem ok_chooses (F : Fun K "chooses" "chooses" s_chooses f fd) (T : Blt mg) : FnOk P w K mg base CX0 1 f fd ["n", "many"] spChooses := by
  refine F.ok sc_chooses (fun vs H Q E h => ?_) (fun cdv A outer s H vs Q E hr h => ?_)
  · obtain ⟨n, m, rfl, _⟩ := h
    rfl
  · obtain ⟨n, m, rfl, hm, hn, k⟩ := h
    refine ⟨_, (pss_cons (ps_set (i := 2) sc_chooses.nd rfl (Or.inl rfl) (pe_lst pa_nil))
    (pss_cons (ps_set (i := 3) sc_chooses.nd rfl (Or.inl rfl) pe_int)
    (pss_cons (ps_for PassesOwn.never rfl (pi_range1 (by rfl) T.range_ (pa_cons (pv 1) pa_nil)) (pg_name (i := 4) sc_chooses.nd rfl (Or.inl rfl))
      (pss_cons (ps_if (pt_cmpR op_gt (pv 4) pe_int (nomark _))
        (pss_one (ps_set (i := 3) sc_chooses.nd rfl (Or.inl rfl) (pe_op op_fdivW (pe_op op_mulW (pv 3) (pe_op op_add (pe_op op_sub (pv 0) (pv 4)) pe_int)) (pv 4))))
        pss_nil)
      (pss_one (ps_expr (pe_bm PySem.F.plainAttrs_list PySem.F.slot_list_append PySem.F.type_list_append mt_append (pv 2) (pa_cons (pv 3) pa_nil))))))
    (pss_one (ps_ret (pv 2)))))), ?_⟩
    refine ⟨(by show 0 ≤ sizeLine; decide), fun d hd => ?_⟩
    refine ⟨_, rfl, (m : Int), rfl, by omega, by omega, ?_⟩
    rw [show ((m : Int)).toNat = m by omega]
    refine for_range (lo := 0) (n := m) (fun i σ H' => ∃ v : Option V, Same H H' ∧ H' d = some (.lst (((List.range i).map fun k => M.C n k).map V.int)) ∧ σ = [some (.int n), some (.int (m : Int)), some (.ref d), some (.int (M.C n (i - 1))), v]) ⟨none, same_new (Same.refl H) _ hd, upd_same, by rw [M.C_zero]; rfl⟩ ?_ ?_
    · rintro i σ H1 hi ⟨v, s1, h1, rfl⟩
      rw [Int.zero_add]
      have fin : ∀ σ', σ' = [some (.int n), some (.int (m : Int)), some (.ref d), some (.int (M.C n i)), some (V.int (i : Int))] → ∃ v : Option V, Same H (upd H1 d (.lst (((List.range i).map fun k => M.C n k).map V.int ++ [.int (M.C n i)]))) ∧
          (upd H1 d (.lst (((List.range i).map fun k => M.C n k).map V.int ++ [.int (M.C n i)]))) d = some (.lst (((List.range (i + 1)).map fun k => M.C n k).map V.int)) ∧ σ' = [some (.int n), some (.int (m : Int)), some (.ref d), some (.int (M.C n (i + 1 - 1))), v] := fun σ' e => by
        refine ⟨_, same_but_new s1 hd, ?_, e⟩
        rw [upd_same, List.range_succ, List.map_append, List.map_append]
        rfl
      refine ⟨_, rfl, _, _, rfl, rfl, _, rfl, ?_⟩
      have hlen : (((List.range i).map fun k => M.C n k).map V.int).length < sizeLine := small1000 (by rw [List.length_map, List.length_map, List.length_range]; omega)
      refine ite2 (fun h2 => ?_) (fun h2 => ?_)
      · have h3 : 0 < (i : Int) := of_decide_eq_true h2
        obtain ⟨j, rfl⟩ : ∃ j, i = j + 1 := ⟨i - 1, by omega⟩
        have hs := C_sz hn (k := j) (by omega)
        have s2 : Sz 402 (n - ((j + 1 : Nat) : Int) + 1) := Sz.add (a := 401) (Sz.sub hn (Sz.mono (a := 5) (by unfold Sz; omega) (by decide))) (Sz.mono (a := 1) (by unfold Sz; decide) (by decide))
        refine ⟨_, rfl, _, rfl, _, rfl, _, _, rfl, rfl, _, _, rfl, rfl, _, _, rfl, rfl, hs.mulOk s2 (by decide), _, rfl, _, _, rfl, rfl, divW 10 h3 (by show ((j + 1 : Nat) : Int).natAbs < 2 ^ 10; omega) (by decide), ?_⟩
        have e : M.C n j * (n - ((j + 1 : Nat) : Int) + 1) / ((j + 1 : Nat) : Int) = M.C n (j + 1) := by
          have := M.C_next n j
          rw [show n - ((j + 1 : Nat) : Int) + 1 = n - (j : Int) by omega]
          exact this
        rw [← e] at fin
        exact ⟨_, rfl, .inl ⟨rfl, _, .inl (.inl h1)⟩, _, rfl, d, _, _, rfl, rfl, h1, hlen, fin _ rfl⟩
      · obtain rfl : i = 0 := by
          have : ¬ (0 < (i : Int)) := fun z => h2 (decide_eq_true z)
          omega
        exact ⟨_, rfl, .inl ⟨rfl, _, .inl (.inl h1)⟩, _, rfl, d, _, _, rfl, rfl, h1, hlen, fin _ rfl⟩
    · rintro σ H1 ⟨v, s1, h1, rfl⟩
      exact ⟨_, rfl, k d H1 s1 hd h1⟩
abbrev s_row_value : Stmt := top 13
abbrev N_row_value : List Str := ["row", "n", "count", "worth"]
theorem sc_row_value : FnScope N_row_value ["row", "n"] (defScope s_row_value) := ⟨rfl, rfl, rfl, by decide +kernel, rfl, by decide +kernel, by decide +kernel⟩

theorem get_C {n : Int} {m i : Nat} (h : i < m) : (((List.range m).map fun k => M.C n k).map V.int)[i]? = some (.int (M.C n i)) := by
  rw [List.getElem?_map, List.getElem?_map, List.getElem?_range h]
  rfl
theorem ok_row_value (F : Fun K "row_value" "row_value" s_row_value f fd) (T : Blt mg) (G_chooses : Has P w K mg base 1 "chooses" ["n", "many"] spChooses) : FnOk P w K mg base CX0 2 f fd ["row", "n"] (spRowValue K) := by
  refine F.ok sc_row_value (fun vs H Q E h => ?_) (fun cdv A outer s H vs Q E hr h => ?_)
  · obtain ⟨a, r, n, rfl, _⟩ := h
    rfl
  · obtain ⟨a, r, n, rfl, hS, hl, hx, hn, k⟩ := h
    refine ⟨_, (pss_one (ps_ret (pe_callB (show CallR _ _ (rSum K) from cr_sum rfl) (by rfl) T.sum_ (by decide +kernel) (pa_cons (pe_lc (own := [("count", 2), ("worth", 3)]) (g := gTup K 2 (gCons (gName 2) (gCons (gName 3) gNil))) (tt := tYes) (by rfl) sc_row_value.nd (ZK.pi_zip2 .t .l (by rfl) T.zip_ (pa_cons (pv 0) (pa_cons (pe_has G_chooses (hr.mono (by decide)) (pa_cons (pv 1) (pa_cons (pe_callB (show CallR _ _ (rLenQ K) from c_len) (by rfl) T.len_ (by decide +kernel) (pa_cons (pv 0) pa_nil)) pa_nil))) pa_nil))) (blkOk_by (own := [("count", 2), ("worth", 3)]) (N := N_row_value) (sc := defScope s_row_value) (by decide +kernel)) (fun _ _ _ _ _ => (pg_tup rfl (pgs_cons (pg_name (i := 2) sc_row_value.nd rfl (by first | exact Or.inl rfl | exact Or.inr rfl)) (pgs_cons (pg_name (i := 3) sc_row_value.nd rfl (by first | exact Or.inl rfl | exact Or.inr rfl)) pgs_nil)))) (fun _ _ _ _ _ => pts_nil) (fun _ _ _ _ _ => (pe_op op_mulW (pv 2) (pv 3)))) pa_nil)))), ?_⟩
    refine ⟨_, rfl, _, rfl, _, rfl, a, _, rfl, .inr hS, n, r.length, by rw [List.length_map]; rfl, by omega, hn, fun l H1 s1 hl1 h1 => ?_⟩
    refine ⟨a, l, _, _, rfl, sqT_same s1 hS, SqL.of h1, fun D hD => ?_⟩
    refine ZK.lc_grow (J := ZK.Itz2 K .t .l a l) r.length (small1000 (by omega)) (fun _ H' => Same H1 H') (fun i y => y = .int (r.getD i 0 * M.C n i)) (same_new (Same.refl _) _ hD) ?_ ?_ ?_ ?_
    · intro i H2 hi s2
      refine ⟨_, _, _, _, sqT_same s2 (sqT_same s1 hS), SqL.of (s2 _ _ h1), (get_int hi).1, get_C hi⟩
    · intro H2 s2
      refine ⟨_, _, sqT_same s2 (sqT_same s1 hS), SqL.of (s2 _ _ h1), ?_⟩
      simp
    · rintro i H2 x H3 acc hi s2 hacc hal hR ⟨t, u, v, rfl, ht, rfl, gu, gv⟩ Qn hq
      have eu := gu _ (sqT_same s2 (sqT_same s1 hS))
      have ev := gv _ (SqL.of (s2 _ _ h1))
      rw [(get_int hi).1] at eu
      cases eu
      rw [get_C hi] at ev
      cases ev
      have nD : D ≠ t := ne_of_none hacc ht
      refine ⟨t, _, rfl, SqT.of upd_same, rfl, _, _, rfl, _, _, rfl, rfl, rfl, ?_⟩
      have hm : r.getD i 0 ∈ r := by
        rw [List.getD_eq_getElem?_getD, List.getElem?_eq_getElem hi]
        exact List.getElem_mem hi
      refine ⟨_, rfl, _, rfl, _, _, rfl, rfl, (hx _ hm).mulOk (C_sz hn (by omega)) (by decide), hq _ _ rfl (by rw [upd_ne nD]; exact hacc) ?_⟩
      exact same_but_new (same_new s2 _ ht) hD
    · intro H2 acc s2 hacc hal hR
      have e := ZK.eq_map hal hR
      refine ⟨D, (List.range r.length).map (fun k => r.getD k 0 * M.C n k), rfl, SqL.of ?_, ?_⟩
      · rw [hacc, e, List.map_map]
        rfl
      · rw [← M.val_sum]
        exact k _ (s1.trans s2)
end
end EN

namespace EN
open PySem L2 PyProof.Rows
section
variable {P : Program} {w : World} {K : PySem.W.Frag} {mg : Str → Option Value} {base : Heap} {f : Addr} {fd : FuncData}
/-- places within a text -/
def lcScope : Expr → Scope
  | .ListComp _ _ sc _ => sc
  | _ => { kind := .function, names := [], isGenerator := false, isCoroutine := false }
def retE : Stmt → Expr
  | .Return (some e) _ => e
  | _ => .Constant .none 0 ⟨0, 0, 0, 0⟩
/-- a comprehension's scope within a def's -/
def relab (sc d : Scope) : Scope := { sc with names := sc.names.map fun (n, k) => if (k == .free && d.kind == .function && d.names.lookup n == some .cell) then (n, .cell) else (n, k) }
def spRowThrough (K : PySem.W.Frag) : Sp := fun vs H Q _ => ∃ (a : Addr) (r : List Int), vs = [.ref a] ∧ SeqI K H a r ∧ r.length ≤ 1000 ∧ ∀ (l : Addr) (H' : Hp), Same H H' → H l = none → H' l = some (.lst ((M.thr r).map V.int)) → Q (.ref l) H'
def spRowAhead (K : PySem.W.Frag) : Sp := fun vs H Q _ => ∃ (a : Addr) (r : List Int) (k : Int), vs = [.ref a, .int k] ∧ SqL K H a (r.map V.int) ∧ r.length ≤ 12 ∧ (∀ x ∈ r, Sz 1000 x) ∧ Sz 400 k ∧ ∀ (l : Addr) (H' : Hp), Same H H' → H l = none → H' l = some (.lst ((M.ah r k).map V.int)) → Q (.ref l) H'
def spTrimmed (K : PySem.W.Frag) : Sp := fun vs H Q _ => ∃ (a : Addr) (r : List Int), vs = [.ref a] ∧ SeqI K H a r ∧ r.length ≤ 1000 ∧ ∀ (t : Addr) (H' : Hp), Same H H' → SqT K H' t ((M.cut r).map V.int) → Q (.ref t) H'
theorem valF_sz {n : Int} (hn : Sz 400 n) : ∀ (r : List Int) (j : Nat), j + r.length ≤ 16 → (∀ x ∈ r, Sz 1000 x) → Sz (7500 + r.length) (M.valF j r n)
  | [], j, _, _ => by unfold M.valF Sz; exact Nat.two_pow_pos _
  | a :: r, j, h, hx => by
    rw [List.length_cons] at h
    have h1 := (hx a List.mem_cons_self).mul (C_sz hn (k := j) (by omega))
    have h2 := valF_sz hn r (j + 1) (by omega) (fun x hx' => hx x (List.mem_cons_of_mem _ hx'))
    exact ((h1.mono (b := 7500 + r.length) (by omega)).add h2).mono (by rw [List.length_cons]; omega)
theorem val_sz {n : Int} (hn : Sz 400 n) {r : List Int} (hl : r.length ≤ 12) (hx : ∀ x ∈ r, Sz 1000 x) : Sz 8000 (M.val r n) := (valF_sz hn r 0 (by omega) hx).mono (by omega)
theorem diffs_sz {b : Nat} : ∀ l : List Int, (∀ x ∈ l, Sz b x) → ∀ x ∈ M.diffs l, Sz (b + 1) x
  | [], _, x, h => by simp [M.diffs] at h
  | [_], _, x, h => by simp [M.diffs] at h
  | a :: c :: r, hx, x, h => by
    rcases List.mem_cons.mp (show x ∈ (c - a) :: M.diffs (c :: r) from h) with e | e
    · rw [e]
      exact Sz.sub (hx c (by simp)) (hx a (by simp))
    · exact diffs_sz (c :: r) (fun y hy => hx y (List.mem_cons_of_mem _ hy)) x e
theorem thr_sz : ∀ (m : Nat) (l : List Int) (b : Nat), l.length = m → (∀ x ∈ l, Sz b x) → ∀ x ∈ M.thr l, Sz (b + m) x
  | 0, [], b, _, hx, x, h => by simp [M.thr_nil] at h
  | 0, _ :: _, b, e, _, _, _ => by simp at e
  | m + 1, [], b, e, _, _, _ => by simp at e
  | m + 1, a :: r, b, e, hx, x, h => by
    rw [M.thr_cons] at h
    rcases List.mem_cons.mp h with z | z
    · rw [z]; exact (hx a List.mem_cons_self).mono (by omega)
    · exact (thr_sz m (M.diffs (a :: r)) (b + 1) (by rw [M.diffs_len, e]; rfl) (diffs_sz _ hx) x z).mono (by omega)
abbrev s_row_through : Stmt := top 16
abbrev N_row_through : List Str := ["values", "found", "rest", "k"]
theorem sc_row_through : FnScope N_row_through ["values"] (defScope s_row_through) := ⟨rfl, rfl, rfl, by decide +kernel, rfl, by decide +kernel, by decide +kernel⟩

theorem ok_row_through (F : Fun K "row_through" "row_through" s_row_through f fd) (T : Blt mg) : FnOk P w K mg base CX0 1 f fd ["values"] (spRowThrough K) := by
  refine F.ok sc_row_through (fun vs H Q E h => ?_) (fun cdv A outer s H vs Q E hr h => ?_)
  · obtain ⟨a, r, rfl, _⟩ := h
    rfl
  · obtain ⟨a, r, rfl, hS, hl, q⟩ := h
    refine ⟨_, (pss_cons (ps_set (i := 1) sc_row_through.nd rfl (Or.inl rfl) (pe_lst pa_nil))
    (pss_cons (ps_set (i := 2) sc_row_through.nd rfl (Or.inr rfl) (pe_callTy (show CallR _ _ (rListQ K) from c_list) (by rfl) T.list_ (by decide +kernel) (pa_cons (pv 0) pa_nil)))
    (pss_cons (ps_while PassesOwn.never (pt_truth (pv 2) (by intro _; rfl))
      (pss_cons (ps_expr (pe_bm PySem.F.plainAttrs_list PySem.F.slot_list_append PySem.F.type_list_append mt_append (pv 1) (pa_cons (pe_ix (show IxR _ (rIxL K) from ix_list) (pv 2) pe_int (fun _ _ => rfl)) pa_nil)))
      (pss_one (ps_set (i := 2) sc_row_through.nd rfl (Or.inr rfl) (pe_lc (own := [("k", 3)]) (g := gName 3) (tt := tYes) (by rfl) sc_row_through.nd (pi_range1 (by rfl) T.range_ (pa_cons (pe_op op_sub (pe_callB (show CallR _ _ (rLenQ K) from c_len) (by rfl) T.len_ (by decide +kernel) (pa_cons (pv 2) pa_nil)) pe_int) pa_nil)) (blkOk_by (own := [("k", 3)]) (N := N_row_through) (sc := defScope s_row_through) (by decide +kernel)) (fun _ _ _ _ _ => (pg_name (i := 3) sc_row_through.nd rfl (by first | exact Or.inl rfl | exact Or.inr rfl))) (fun _ _ _ _ _ => pts_nil) (fun _ _ _ _ _ => (pe_op op_sub (pe_ix (show IxR _ (rIxL K) from ix_list) (pv 2) (pe_op op_add (pv 3) pe_int) (fun _ _ => rfl)) (pe_ix (show IxR _ (rIxL K) from ix_list) (pv 2) (pv 3) (fun _ _ => rfl)))))))))
    (pss_one (ps_ret (pv 1)))))), ?_⟩
    refine ⟨(by show 0 ≤ sizeLine; decide), fun d hd => ?_⟩
    have s0 := same_new (Same.refl H) (.lst []) hd
    refine ⟨_, rfl, a, _, rfl, hS.elim (fun h => .inl (s0.seq h)) (fun h => .inr (sqT_same s0 h)), fun l hll => ?_⟩
    have ndl : d ≠ l := ne_of_none upd_same hll
    let W : Nat → L2.St → Hp → Prop := fun n σ H' => ∃ (l' : Addr) (cur fnd : List Int), σ = [some (.ref a), some (.ref d), some (.ref l'), none] ∧ n = cur.length ∧ H' l' = some (.lst (cur.map V.int)) ∧ H' d = some (.lst (fnd.map V.int)) ∧ l' ≠ d ∧
      fnd ++ M.thr cur = M.thr r ∧ Same H H' ∧ cur.length + fnd.length ≤ 1000
    refine ⟨W, ⟨_, l, r, [], rfl, rfl, upd_same, by rw [upd_ne ndl, upd_same]; rfl, ndl.symm, rfl, same_new s0 _ hll, by simpa using hl⟩, ?_⟩
    rintro n σ H1 ⟨l', cur, fnd, rfl, rfl, h1, h2, ne, hthr, sm, hlen⟩
    refine ⟨_, rfl, _, .inl ⟨_, SqL.of h1, rfl⟩, ?_⟩
    cases cur with
    | nil =>
      refine iteF ⟨_, rfl, ?_⟩
      rw [M.thr_nil, List.append_nil] at hthr
      rw [hthr] at h2
      exact q d H1 sm hd h2
    | cons x xs =>
      refine iteT ?_
      refine ⟨fun σ' H'' => ∃ n', n' < (x :: xs).length ∧ W n' σ' H'', fun σ' H' h => h, ?_⟩
      refine ⟨_, rfl, .inl ⟨rfl, _, .inl (.inl h2)⟩, _, rfl, l', _, 0, .int x, rfl, rfl, SqL.of h1, at_of (j := 0) rfl rfl, d, _, _, rfl, rfl, h2, ?_, ?_⟩
      · rw [List.length_map]
        exact small1000 (by omega)
      have h3 : (upd H1 d (.lst (fnd.map V.int ++ [.int x]))) l' = some (.lst ((x :: xs).map V.int)) := by rw [upd_ne ne]; exact h1
      have h4 : (upd H1 d (.lst (fnd.map V.int ++ [.int x]))) d = some (.lst ((fnd ++ [x]).map V.int)) := by rw [upd_same, List.map_append]; rfl
      have sm4 : Same H (upd H1 d (.lst (fnd.map V.int ++ [.int x]))) := same_but_new sm hd
      generalize upd H1 d (.lst (fnd.map V.int ++ [.int x])) = H2 at h3 h4 sm4 ⊢
      refine ⟨_, rfl, l', _, rfl, .inl (SqL.of h3), _, _, rfl, rfl, (xs.length : Int), ?_, by omega, ?_, fun D hD => ?_⟩
      · rw [List.length_map, List.length_cons]
        exact congrArg (fun z => [V.int z]) (show ((xs.length + 1 : Nat) : Int) - 1 = (xs.length : Int) by omega)
      · simp only [List.length_cons] at hlen
        omega
      rw [show (xs.length : Int).toNat = xs.length by omega]
      refine ZK.lc_growR xs.length (small1000 (by simp only [List.length_cons] at hlen; omega)) (fun _ H' => Same H2 H') (fun i y => y = .int ((x :: xs).getD (i + 1) 0 - (x :: xs).getD i 0)) (same_new (Same.refl _) _ hD) ?_ ?_
      · intro i H3 acc hi s3 hacc hal hR Qn hq
        have g0 := (get_int (r := x :: xs) (e := i) (by rw [List.length_cons]; omega)).1
        have g1 := (get_int (r := x :: xs) (e := i + 1) (by rw [List.length_cons]; omega)).1
        refine ⟨rfl, _, rfl, _, rfl, _, _, rfl, rfl, l', _, _, _, rfl, rfl, SqL.of (s3 _ _ h3), at_of (by omega) g1, _, rfl, _, rfl, l', _, _, _, rfl, rfl, SqL.of (s3 _ _ h3), at_of (by omega) g0, _, _, rfl, rfl, ?_⟩
        exact hq _ _ rfl hacc (same_but_new s3 hD)
      · intro H3 acc s3 hacc hal hR
        have e := ZK.eq_map hal hR
        have hdiff := M.diffs_eq (x :: xs)
        rw [show (x :: xs).length - 1 = xs.length by simp] at hdiff
        refine ⟨xs.length, by simp, D, M.diffs (x :: xs), fnd ++ [x], rfl, by rw [M.diffs_len]; simp, ?_, s3 _ _ h4, (ne_of_none h4 hD).symm, ?_, sm4.trans s3, ?_⟩
        · rw [hacc, e, hdiff, List.map_map]
          rfl
        · rw [← hthr, M.thr_cons, List.append_assoc]
          rfl
        · rw [M.diffs_len, List.length_append]
          simp only [List.length_cons, List.length_nil] at hlen ⊢
          omega
abbrev s_row_ahead : Stmt := top 18
abbrev N_row_ahead : List Str := ["row", "k", "worths", "j", "i"]
theorem sc_row_ahead : FnScope N_row_ahead ["row", "k"] (defScope s_row_ahead) := ⟨rfl, rfl, rfl, by decide +kernel, rfl, by decide +kernel, by decide +kernel⟩

theorem drop_get {r : List Int} {j i : Nat} : (r.drop j).getD i 0 = r.getD (j + i) 0 := by
  rw [List.getD_eq_getElem?_getD, List.getD_eq_getElem?_getD, List.getElem?_drop]
theorem ok_row_ahead (F : Fun K "row_ahead" "row_ahead" s_row_ahead f fd) (T : Blt mg) (G_chooses : Has P w K mg base 1 "chooses" ["n", "many"] spChooses) : FnOk P w K mg base CX0 2 f fd ["row", "k"] (spRowAhead K) := by
  refine F.ok sc_row_ahead (fun vs H Q E h => ?_) (fun cdv A outer s H vs Q E hr h => ?_)
  · obtain ⟨a, r, n, rfl, _⟩ := h
    rfl
  · obtain ⟨a, r, n, rfl, hS, hl, hx, hn, k⟩ := h
    refine ⟨_, (pss_cons (ps_set (i := 2) sc_row_ahead.nd rfl (Or.inr rfl) (pe_has G_chooses (hr.mono (by decide)) (pa_cons (pv 1) (pa_cons (pe_callB (show CallR _ _ (rLenQ K) from c_len) (by rfl) T.len_ (by decide +kernel) (pa_cons (pv 0) pa_nil)) pa_nil))))
    (pss_one (ps_ret (pe_lc (own := [("j", 3)]) (g := gName 3) (tt := tYes) (by rfl) sc_row_ahead.nd (pi_range1 (by rfl) T.range_ (pa_cons (pe_callB (show CallR _ _ (rLenQ K) from c_len) (by rfl) T.len_ (by decide +kernel) (pa_cons (pv 0) pa_nil)) pa_nil)) (blkOk_by (own := [("j", 3)]) (N := N_row_ahead) (sc := defScope s_row_ahead) (by decide +kernel)) (fun _ _ _ _ _ => (pg_name (i := 3) sc_row_ahead.nd rfl (by first | exact Or.inl rfl | exact Or.inr rfl))) (fun _ _ _ _ _ => pts_nil) (fun _ _ _ _ _ => (pe_callB (show CallR _ _ (rSum K) from cr_sum rfl) (by rfl) T.sum_ (by decide +kernel) (pa_cons (pe_lc (own := [("i", 4)]) (g := gName 4) (tt := tYes) (by rfl) sc_row_ahead.nd (pi_range2 (by rfl) T.range_ (pa_cons (pv 3) (pa_cons (pe_callB (show CallR _ _ (rLenQ K) from c_len) (by rfl) T.len_ (by decide +kernel) (pa_cons (pv 0) pa_nil)) pa_nil))) (blkOk_by (own := [("i", 4)]) (N := N_row_ahead) (sc := relab (lcScope (retE ((defBody s_row_ahead).getD 1 (.Pass ⟨0, 0, 0, 0⟩)))) (defScope s_row_ahead)) (by decide +kernel)) (fun _ _ _ _ _ => (pg_name (i := 4) sc_row_ahead.nd rfl (by first | exact Or.inl rfl | exact Or.inr rfl))) (fun _ _ _ _ _ => pts_nil) (fun _ _ _ _ _ => (pe_op op_mulW (pe_ix (show IxR _ (rIxL K) from ix_list) (pv 0) (pv 4) (fun _ _ => rfl)) (pe_ix (show IxR _ (rIxL K) from ix_list) (pv 2) (pe_op op_sub (pv 4) (pv 3)) (fun _ _ => rfl))))) pa_nil))))))), ?_⟩
    refine ⟨_, rfl, _, rfl, a, _, rfl, .inl hS, n, r.length, by rw [List.length_map]; rfl, by omega, hn, fun l H1 s1 hl1 h1 => ?_⟩
    refine ⟨_, rfl, a, _, rfl, .inl (s1.seq hS), (r.length : Int), by rw [List.length_map], by omega, by omega, fun D hD => ?_⟩
    rw [show (r.length : Int).toNat = r.length by omega]
    refine ZK.lc_growR r.length (small1000 (by omega)) (fun _ H' => Same H1 H') (fun j y => y = .int (M.val (r.drop j) n)) (same_new (Same.refl _) _ hD) ?_ ?_
    · intro j H2 acc hj s2 hacc hal hR Qn hq
      refine ⟨rfl, _, rfl, _, rfl, a, _, rfl, .inl (s2.seq (s1.seq hS)), (0 : Int) + (j : Int), (r.length : Int), by rw [List.length_map], ⟨by omega, by omega, by omega, by omega⟩, fun E2 hE => ?_⟩
      rw [show ((r.length : Int) - (0 + (j : Int))).toNat = r.length - j by omega]
      have nDE : D ≠ E2 := ne_of_none hacc hE
      refine ZK.lc_growR (r.length - j) (small1000 (by omega)) (fun _ H' => Same H2 H') (fun i y => y = .int ((r.drop j).getD i 0 * M.C n i)) (same_new (Same.refl _) _ hE) ?_ ?_
      · intro i H3 acc3 hi s3 hacc3 hal3 hR3 Qn3 hq3
        have g0 := (get_int (r := r) (e := j + i) (by omega)).1
        have hm : r.getD (j + i) 0 ∈ r := by
          rw [List.getD_eq_getElem?_getD, List.getElem?_eq_getElem (by omega)]
          exact List.getElem_mem _
        have hl3 := s3 _ _ (s2 _ _ h1)
        refine ⟨rfl, _, rfl, _, rfl, a, _, _, _, rfl, rfl, s3.seq (s2.seq (s1.seq hS)), at_of (by omega) g0, _, rfl, _, rfl, _, rfl, _, _, rfl, rfl, l, _, _, _, rfl, rfl, SqL.of hl3, at_of (by omega) (get_C (n := n) (i := i) (by omega)), _, _, rfl, rfl, (hx _ hm).mulOk (C_sz hn (by omega)) (by decide), ?_⟩
        refine hq3 _ _ (by rw [drop_get]) hacc3 (same_but_new s3 hE)
      · intro H3 acc3 s3 hacc3 hal3 hR3
        have e := ZK.eq_map hal3 hR3
        refine ⟨E2, (List.range (r.drop j).length).map (fun k => (r.drop j).getD k 0 * M.C n k), rfl, SqL.of ?_, ?_⟩
        · rw [hacc3, e, List.map_map, List.length_drop]
          rfl
        · rw [← M.val_sum]
          exact hq _ _ rfl (s3 _ _ hacc) (same_but_new (s2.trans s3) hD)
    · intro H2 acc s2 hacc hal hR
      have e := ZK.eq_map hal hR
      refine k D H2 (s1.trans s2) (s1.free hD) ?_
      rw [hacc, e, ← M.ah_eq, List.map_map]
      rfl
end
end EN

namespace EN
open PySem L2 PyProof.Rows
section
variable {P : Program} {w : World} {K : PySem.W.Frag} {mg : Str → Option Value} {base : Heap} {f : Addr} {fd : FuncData}
/-! ### trimmed -/
abbrev s_trimmed : Stmt := top 19
abbrev N_trimmed : List Str := ["row", "end"]
theorem sc_trimmed : FnScope N_trimmed ["row"] (defScope s_trimmed) := ⟨rfl, rfl, rfl, by decide +kernel, rfl, by decide +kernel, by decide +kernel⟩

theorem cutN_eq_len {r : List Int} (h : M.cutN r r.length = r.length) : M.cut r = r := by
  unfold M.cut
  rw [h, List.take_length]
theorem ok_trimmed (F : Fun K "trimmed" "trimmed" s_trimmed f fd) (T : Blt mg) : FnOk P w K mg base CX0 1 f fd ["row"] (spTrimmed K) := by
  refine F.ok sc_trimmed (fun vs H Q E h => ?_) (fun cdv A outer s H vs Q E hr h => ?_)
  · obtain ⟨a, r, rfl, _⟩ := h
    rfl
  · obtain ⟨a, r, rfl, hS | hS, hl, q⟩ := h
    · refine ⟨_, (pss_cons (ps_set (i := 1) sc_trimmed.nd rfl (Or.inl rfl) (pe_callB (show CallR _ _ (rLenQ K) from c_len) (by rfl) T.len_ (by decide +kernel) (pa_cons (pv 0) pa_nil)))
    (pss_cons (ps_while PassesOwn.never (PW.pt (pw_and (pt_cmpR op_gt (pv 1) pe_int (nomark _)) (pw_and1 (pt_cmpR op_eq (pe_ix (show IxR _ (rIxL K) from ix_list) (pv 0) (pe_op op_sub (pv 1) pe_int) (fun _ _ => rfl)) pe_int (nomark _)))))
      (pss_one (ps_set (i := 1) sc_trimmed.nd rfl (Or.inl rfl) (pe_op op_sub (pv 1) pe_int))))
    (pss_one (ps_ret (pe_callTy (show CallR _ _ (rTupQ K) from c_tuple) (by rfl) T.tuple_ (by decide +kernel) (pa_cons (pe_slice (show SlR _ (rSlL K) from sl_list) (pv 0) po_none (po_some (pv 1))) pa_nil)))))), ?_⟩
      refine ⟨_, rfl, a, _, rfl, .inl hS, ?_⟩
      rw [List.length_map]
      let W : Nat → L2.St → Hp → Prop := fun n σ H' => H' = H ∧ n ≤ r.length ∧ σ = [some (.ref a), some (.int (n : Int))] ∧ M.cutN r n = M.cutN r r.length
      refine ⟨W, ⟨_, rfl, Nat.le_refl _, rfl, rfl⟩, ?_⟩
      rintro n σ H' ⟨rfl, hn, rfl, hc⟩
      have out : M.cutN r r.length = n → tRet (tCB (rTupQ K) (tCons (tSl (rSlL K) (tVar 0) tNoPart (tPart (tVar 1))) tNil)) { nx := fun _ H' => Q .non H', rt := Q } [some (.ref a), some (.int (n : Int))] H' := fun e => by
        refine ⟨_, rfl, _, rfl, _, rfl, a, _, rfl, hS, fun l hll => ?_⟩
        refine ⟨l, _, rfl, .inl ⟨SqL.of upd_same, fun t ht => ?_⟩⟩
        refine q t _ (same_new (same_new (Same.refl _) _ hll) _ ht) (SqT.of ?_)
        rw [upd_same, cut_take n hn]
        unfold M.cut
        rw [e]
      refine ⟨_, rfl, _, _, rfl, rfl, _, rfl, ?_⟩
      refine ite2 (fun h1 => ?_) (fun h1 => ?_)
      · have h2 : 0 < (n : Int) := of_decide_eq_true h1
        obtain ⟨e, rfl⟩ : ∃ e, n = e + 1 := ⟨n - 1, by omega⟩
        obtain ⟨g1, g2⟩ := get_int (r := r) (e := e) (by omega)
        refine ⟨_, rfl, _, rfl, _, _, rfl, rfl, a, _, _, _, rfl, rfl, hS, at_of (by omega) g1, rfl, _, rfl, ?_⟩
        refine ite2 (fun h3 => ?_) (fun h3 => ?_)
        · have h4 : r.getD e 0 = 0 := V.int.inj (of_decide_eq_true h3)
          refine ⟨fun σ' H'' => ∃ n', n' < e + 1 ∧ W n' σ' H'', fun σ' H' h => h, ?_⟩
          refine ⟨_, rfl, _, _, rfl, rfl, e, Nat.lt_succ_self e, rfl, by omega, ?_, ?_⟩
          · show [some (V.ref a), some (V.int (((e + 1 : Nat) : Int) - 1))] = _
            rw [show ((e + 1 : Nat) : Int) - 1 = (e : Int) by omega]
          · rw [← hc, M.cutN_zero r e (by rw [g2, h4])]
        · refine out ?_
          rw [← hc]
          refine M.cutN_stop r e fun z => h3 (decide_eq_true ?_)
          rw [g2] at z
          rw [Option.some.inj z]
      · obtain rfl : n = 0 := by
          have : ¬ (0 < (n : Int)) := fun z => h1 (decide_eq_true z)
          omega
        exact out hc.symm
    · refine ⟨_, (pss_cons (ps_set (i := 1) sc_trimmed.nd rfl (Or.inl rfl) (pe_callB (show CallR _ _ (rLenQ K) from c_len) (by rfl) T.len_ (by decide +kernel) (pa_cons (pv 0) pa_nil)))
    (pss_cons (ps_while PassesOwn.never (PW.pt (pw_and (pt_cmpR op_gt (pv 1) pe_int (nomark _)) (pw_and1 (pt_cmpR op_eq (pe_ix (show IxR _ (rIxT K) from ix_tup) (pv 0) (pe_op op_sub (pv 1) pe_int) (fun _ _ => rfl)) pe_int (nomark _)))))
      (pss_one (ps_set (i := 1) sc_trimmed.nd rfl (Or.inl rfl) (pe_op op_sub (pv 1) pe_int))))
    (pss_one (ps_ret (pe_callTy (show CallR _ _ (rTupQ K) from c_tuple) (by rfl) T.tuple_ (by decide +kernel) (pa_cons (pe_slice (show SlR _ (rSlA K) from sl_tupA) (pv 0) po_none (po_some (pv 1))) pa_nil)))))), ?_⟩
      refine ⟨_, rfl, a, _, rfl, .inr hS, ?_⟩
      rw [List.length_map]
      let W : Nat → L2.St → Hp → Prop := fun n σ H' => H' = H ∧ n ≤ r.length ∧ σ = [some (.ref a), some (.int (n : Int))] ∧ M.cutN r n = M.cutN r r.length
      refine ⟨W, ⟨_, rfl, Nat.le_refl _, rfl, rfl⟩, ?_⟩
      rintro n σ H' ⟨rfl, hn, rfl, hc⟩
      have out : M.cutN r r.length = n → tRet (tCB (rTupQ K) (tCons (tSl (rSlA K) (tVar 0) tNoPart (tPart (tVar 1))) tNil)) { nx := fun _ H' => Q .non H', rt := Q } [some (.ref a), some (.int (n : Int))] H' := fun e => by
        refine ⟨_, rfl, _, rfl, _, rfl, a, _, rfl, hS, fun full => ?_, fun part p hp => ?_⟩
        · have hn2 : n = r.length := by
            have h2 := full.2
            rw [HT.sIx_nat, List.length_map] at h2
            omega
          refine ⟨a, _, rfl, .inr ⟨hS, q a _ (Same.refl _) ?_⟩⟩
          rw [cutN_eq_len (by omega)]
          exact hS
        · refine ⟨p, _, rfl, .inr ⟨SqT.of upd_same, q p _ (same_new (Same.refl _) _ hp) (SqT.of ?_)⟩⟩
          rw [upd_same, cut_take n hn]
          unfold M.cut
          rw [e]
      refine ⟨_, rfl, _, _, rfl, rfl, _, rfl, ?_⟩
      refine ite2 (fun h1 => ?_) (fun h1 => ?_)
      · have h2 : 0 < (n : Int) := of_decide_eq_true h1
        obtain ⟨e, rfl⟩ : ∃ e, n = e + 1 := ⟨n - 1, by omega⟩
        obtain ⟨g1, g2⟩ := get_int (r := r) (e := e) (by omega)
        refine ⟨_, rfl, _, rfl, _, _, rfl, rfl, a, _, _, _, rfl, rfl, hS, at_of (by omega) g1, rfl, _, rfl, ?_⟩
        refine ite2 (fun h3 => ?_) (fun h3 => ?_)
        · have h4 : r.getD e 0 = 0 := V.int.inj (of_decide_eq_true h3)
          refine ⟨fun σ' H'' => ∃ n', n' < e + 1 ∧ W n' σ' H'', fun σ' H' h => h, ?_⟩
          refine ⟨_, rfl, _, _, rfl, rfl, e, Nat.lt_succ_self e, rfl, by omega, ?_, ?_⟩
          · show [some (V.ref a), some (V.int (((e + 1 : Nat) : Int) - 1))] = _
            rw [show ((e + 1 : Nat) : Int) - 1 = (e : Int) by omega]
          · rw [← hc, M.cutN_zero r e (by rw [g2, h4])]
        · refine out ?_
          rw [← hc]
          refine M.cutN_stop r e fun z => h3 (decide_eq_true ?_)
          rw [g2] at z
          rw [Option.some.inj z]
      · obtain rfl : n = 0 := by
          have : ¬ (0 < (n : Int)) := fun z => h1 (decide_eq_true z)
          omega
        exact out hc.symm
end
end EN

/-! calls through a class: its staticmethods, the class held by a local name, math.factorial -/
namespace EN
open PySem L2 PyProof.Rows
/-- C.m is a staticmethod: its record at p, its def at g -/
structure SMet (K : PySem.W.Frag) (C : Addr) (mc : Value) (m : Str) (p g : Addr) : Prop where
  at_ : PySem.W.findCls K (.ref C) mc m = some (.get (.builtin "staticmethod.__get__") (.ref p) .none (.ref C))
  rc : ∃ rest, PySem.W.recIn K p "staticmethod" = some (.ref g :: rest)
  kp : PySem.W.keepIn K (.ref g) = true
def tSMeth (C : Addr) (sp : Sp) (dvs : List V) (E : XK) (ta : TE) (t : TA) : TE := fun σ H Q => ta σ H fun x H1 => x = .ref C ∧ t σ H1 fun vs H2 => sp (vs ++ dvs) H2 Q E
section
variable {X : Cx} {CX : CXT} {k : Nat} {C p g f : Addr} {mc : Value} {sp : Sp} {E : XK} {o e : Expr} {es : List Expr} {m x : Str} {pos apos np : Pos} {ta : TE} {t : TA} {pl : Sem Bool} {fd : FuncData} {ps : List Str} {dvs : List V} {ds : List Value}
theorem pe_smeth (he : PE X o ta) (r : ClX.CRead X.K C mc) (c : SMet X.K C mc m p g) (F : FnOk X.prog X.w X.K X.mg X.base CX k g fd ps sp) (hr : Room k X.A) (hb : Binds X.K fd ps ds) (hd : Vals dvs ds) (hx : Passes CX X E) (ha : PA X (e :: es) t)
    (hst : starEach (e :: es) X.env = (false, eval e X.env) :: starEach es X.env := by rfl) (hpl : (backTo pos (starEach es X.env)).any (·.1) = false := by rfl)
    (ht : eval (.Call (.Attribute o m apos) (e :: es) [] pos) X.env = (do
      let ov ← eval o X.env
      standAt apos.atName
      let (f, first) ← holding [ov] (getMethod ov m pl)
      callWith pos f first (backTo pos (starEach (e :: es) X.env)) (backToKw pos (keywordEach [] X.env))) := by rfl) :
    PE X (.Call (.Attribute o m apos) (e :: es) [] pos) (tSMeth C sp dvs E ta t) := by
  refine ⟨fun pins s σ H Q I h => PySem.W.methodCall_KW (pl := pl) (thn (he.run pins s σ H _ I h) fun u s1 ⟨y, H1, I1, ry, ey, q⟩ => ?_) ht⟩
  subst ey
  obtain rfl : u = Value.ref C := ry
  obtain ⟨rest, hp⟩ := c.rc
  refine PySem.W.method_cls I1.kIn r.ga (PySem.W.cls_bind I1.kIn r.rd c.at_ (wpAny_call (PySem.W.sm_get (s := { s1 with toks := s1.toks + 1 }) I1.kIn hp (PySem.W.handed_on rfl ?_))))
  have I2 := I1.tok (s1.toks + 1)
  refine PySem.W.callWith_K (h₀ := X.base) I2.ok.mod.kin c.kp (thn (ha.run pos pins _ σ H1 _ I2 q) fun us s2 ⟨vs, H2, I3, rv, q2⟩ => ⟨I3.kIn, ?_⟩) hst hpl
  exact run_fn F hr hb hd hx I3 rv q2
/-- x(e, ..), the local name x holds the class at C -/
def tMakeL (i : Nat) (C : Addr) (sp : Sp) (dvs : List V) (E : XK) (t : TA) : TE := fun σ H Q => σ[i]? = some (some (.ref C)) ∧ tMake C sp dvs E t σ H Q
theorem pe_makeL {i : Nat} (M : Mk X.K C f) (F : FnOk X.prog X.w X.K X.mg X.base CX k f fd ps sp) (hr : Room (k + 1) X.A) (hN : X.N[i]? = some x) (hv : Vis X.env.scope x) (hb : Binds X.K fd ps ds) (hd : Vals dvs ds) (hx : Passes CX X E) (ha : PA X (e :: es) t)
    (hdb : (x == ("__debug__" : Str)) = false := by decide) (hcd : (x == ("__classdict__" : Str)) = false := by decide)
    (he : starEach (e :: es) X.env = (false, eval e X.env) :: starEach es X.env := by rfl) (hpl : (backTo pos (starEach es X.env)).any (·.1) = false := by rfl) : PE X (.Call (.Name x np) (e :: es) [] pos) (tMakeL i C sp dvs E t) := by
  refine ⟨fun pins s σ H Q I ⟨hs, h⟩ => wpAny_Call_Name_kw (thn ((pe_var (pos := np) hN hv hdb hcd).run pins s σ H (fun v H1 => v = .ref C ∧ H1 = H) I ⟨.ref C, hs, rfl, rfl⟩) fun u s1 ⟨v, H1, I1, r1, q1⟩ => ?_)⟩
  obtain ⟨rfl, rfl⟩ := q1
  cases r1
  refine PySem.W.callWith_K (h₀ := X.base) I.ok.mod.kin M.kp (thn (ha.run pos pins s1 σ _ _ I1 h) fun us s2 ⟨vs, H2, I2, rv, q⟩ => ⟨I2.kIn, ?_⟩) he hpl
  exact run_make M F hr hb hd hx I2 rv q
def rFactorial : List V → Hp → VK → Prop := fun vs H Q => ∃ n : Nat, vs = [.int (n : Int)] ∧ n ≤ 1000 ∧ Q (.int (M.fac n)) H
theorem facN : ∀ n : Nat, ((Builtin.Math.factorialNat n : Nat) : Int) = M.fac n
  | 0 => by decide +kernel
  | n + 1 => by
    rw [PySem.W.mc_fac_succ, Int.natCast_mul, facN n]
    rfl
theorem cr_factorial : CallR X (.builtin "math.factorial") rFactorial := by
  intro pins s σ H vs us Q I r h
  obtain ⟨n, rfl, hn, q⟩ := h
  obtain ⟨u, rfl, ru⟩ := vals1 r
  obtain ⟨tk, rfl⟩ := ru
  refine PySem.W.mc_factorial (by omega) (by omega) fun _ => ⟨.int _, H, I.tok _, ⟨_, rfl⟩, ?_⟩
  rw [show ((n : Int)).toNat = n by omega, facN]
  exact q
end
end EN

namespace EN
open PySem L2 PyProof.Rows
section
variable {P : Program} {w : World} {K : PySem.W.Frag} {mg : Str → Option Value} {base : Heap} {f : Addr} {fd : FuncData}
/-! ### making a Size, its methods, as what the callers have -/
structure MkH (P : Program) (w : World) (K : PySem.W.Frag) (mg : Str → Option Value) (base : Heap) (k : Nat) (C : Addr) (dvs : List V) (sp : Sp) : Prop where
  ex : ∃ (f : Addr) (fd : FuncData) (ps : List Str) (ds : List Value), Mk K C f ∧ FnOk P w K mg base CX0 k f fd ps sp ∧ Binds K fd ps ds ∧ Vals dvs ds
structure SmH (P : Program) (w : World) (K : PySem.W.Frag) (mg : Str → Option Value) (base : Heap) (k : Nat) (C : Addr) (m : Str) (dvs : List V) (sp : Sp) : Prop where
  ex : ∃ (mc : Value) (p g : Addr) (fd : FuncData) (ps : List Str) (ds : List Value), ClX.CRead K C mc ∧ SMet K C mc m p g ∧ FnOk P w K mg base CX0 k g fd ps sp ∧ Binds K fd ps ds ∧ Vals dvs ds
structure CmH (P : Program) (w : World) (K : PySem.W.Frag) (mg : Str → Option Value) (base : Heap) (k : Nat) (C : Addr) (m : Str) (sp : Sp) : Prop where
  ex : ∃ (mc : Value) (p g : Addr), ClX.CRead K C mc ∧ ClX.CMet K C mc m p g ∧ FnR P w K mg base CX0 k g sp
structure CallH (P : Program) (w : World) (K : PySem.W.Frag) (mg : Str → Option Value) (base : Heap) (k : Nat) (C : Addr) (sp : Sp) : Prop where
  ex : ∃ g : Addr, StX.CallO K C g ∧ FnR P w K mg base CX0 k g sp
structure PropH (P : Program) (w : World) (K : PySem.W.Frag) (mg : Str → Option Value) (base : Heap) (k : Nat) (C : Addr) (m : Str) (sp : Sp) : Prop where
  ex : ∃ (p g : Addr) (fd : FuncData) (ps : List Str), Cls K C ∧ PropOf K C m p g ∧ FnOk P w K mg base CX0 k g fd ps sp ∧ Binds K fd ps []
section
variable {X : Cx} {k : Nat} {C : Addr} {dvs : List V} {sp : Sp} {x m : Str} {p pos apos : Pos} {o e : Expr} {es : List Expr} {t : TA} {ta : TE} {pl : Sem Bool}
theorem pe_mkH (O : MkH X.prog X.w X.K X.mg X.base k C dvs sp) (hr : Room (k + 1) X.A) (hg : Gl X x) (hm : X.mg x = some (.ref C)) (ha : PA X (e :: es) t) (hdb : (x == ("__debug__" : Str)) = false := by decide)
    (he : starEach (e :: es) X.env = (false, eval e X.env) :: starEach es X.env := by rfl) (hpl : (backTo pos (starEach es X.env)).any (·.1) = false := by rfl) : PE X (.Call (.Name x p) (e :: es) [] pos) (tMake C sp dvs E0 t) := by
  obtain ⟨f, fd, ps, ds, M, F, hb, hd⟩ := O.ex
  exact pe_make M F hr hg hm hb hd pass0 ha hdb he hpl
theorem pe_mkH0 (O : MkH X.prog X.w X.K X.mg X.base k C dvs sp) (hr : Room (k + 1) X.A) (hg : Gl X x) (hm : X.mg x = some (.ref C)) (hdb : (x == ("__debug__" : Str)) = false := by decide) : PE X (.Call (.Name x p) [] [] pos) (tMake C sp dvs E0 tNil) := by
  obtain ⟨f, fd, ps, ds, M, F, hb, hd⟩ := O.ex
  exact pe_make0 M F hr hg hm hb hd pass0 hdb
theorem pe_mkL {i : Nat} (O : MkH X.prog X.w X.K X.mg X.base k C dvs sp) (hr : Room (k + 1) X.A) (ha : PA X (e :: es) t) (hN : X.N[i]? = some x := by rfl) (hv : Vis X.env.scope x := by first | exact Or.inl rfl | exact Or.inr (Or.inl rfl) | exact Or.inr (Or.inr rfl))
    (hdb : (x == ("__debug__" : Str)) = false := by decide) (hcd : (x == ("__classdict__" : Str)) = false := by decide)
    (he : starEach (e :: es) X.env = (false, eval e X.env) :: starEach es X.env := by rfl) (hpl : (backTo pos (starEach es X.env)).any (·.1) = false := by rfl) : PE X (.Call (.Name x p) (e :: es) [] pos) (tMakeL i C sp dvs E0 t) := by
  obtain ⟨f, fd, ps, ds, M, F, hb, hd⟩ := O.ex
  exact pe_makeL M F hr hN hv hb hd pass0 ha hdb hcd he hpl
theorem pe_smH (O : SmH X.prog X.w X.K X.mg X.base k C m dvs sp) (hr : Room k X.A) (ho : PE X o ta) (ha : PA X (e :: es) t)
    (hst : starEach (e :: es) X.env = (false, eval e X.env) :: starEach es X.env := by rfl) (hpl : (backTo pos (starEach es X.env)).any (·.1) = false := by rfl)
    (ht : eval (.Call (.Attribute o m apos) (e :: es) [] pos) X.env = (do
      let ov ← eval o X.env
      standAt apos.atName
      let (f, first) ← holding [ov] (getMethod ov m pl)
      callWith pos f first (backTo pos (starEach (e :: es) X.env)) (backToKw pos (keywordEach [] X.env))) := by rfl) :
    PE X (.Call (.Attribute o m apos) (e :: es) [] pos) (tSMeth C sp dvs E0 ta t) := by
  obtain ⟨mc, q, g, fd, ps, ds, r, c, F, hb, hd⟩ := O.ex
  exact pe_smeth ho r c F hr hb hd pass0 ha hst hpl ht
theorem pe_cmH (O : CmH X.prog X.w X.K X.mg X.base k C m sp) (hr : Room k X.A) (ho : PE X o ta) (ha : PA X (e :: es) t)
    (hst : starEach (e :: es) X.env = (false, eval e X.env) :: starEach es X.env := by rfl) (hpl : (backTo pos (starEach es X.env)).any (·.1) = false := by rfl)
    (ht : eval (.Call (.Attribute o m apos) (e :: es) [] pos) X.env = (do
      let ov ← eval o X.env
      standAt apos.atName
      let (f, first) ← holding [ov] (getMethod ov m pl)
      callWith pos f first (backTo pos (starEach (e :: es) X.env)) (backToKw pos (keywordEach [] X.env))) := by rfl) :
    PE X (.Call (.Attribute o m apos) (e :: es) [] pos) (ClX.tCMeth C sp E0 ta t) := by
  obtain ⟨mc, q, g, r, c, F⟩ := O.ex
  exact ClX.pe_cmeth ho r c F hr pass0 ha hst hpl ht
theorem pe_callH {fe : Expr} {tf : TE} (hf : PE X fe tf) (O : CallH X.prog X.w X.K X.mg X.base k C sp) (hr : Room k X.A) (ha : PA X (e :: es) t)
    (ht : eval (.Call fe (e :: es) [] pos) X.env = (do callWith pos (← eval fe X.env) [] (backTo pos (starEach (e :: es) X.env)) (backToKw pos (keywordEach [] X.env))) := by rfl)
    (he : starEach (e :: es) X.env = (false, eval e X.env) :: starEach es X.env := by rfl) (hpl : (backTo pos (starEach es X.env)).any (·.1) = false := by rfl) :
    PE X (.Call fe (e :: es) [] pos) (fun σ H Q => tf σ H fun y H1 => ∃ a dx fs, y = V.ref a ∧ t σ H1 fun vs H2 => H2 a = some (.ins C dx fs) ∧ sp (V.ref a :: vs) H2 Q E0) := by
  obtain ⟨g, c, F⟩ := O.ex
  refine ⟨fun pins s σ H Q I h => ?_⟩
  refine Call_ (thn (hf.run pins s σ H _ I h) fun u s1 ⟨y, H1, I1, ry, a, dx, fs, ey, q⟩ => ?_) ht
  subst ey
  obtain rfl : u = Value.ref a := ry
  refine StX.callO_with (thn (ha.run pos pins s1 σ H1 _ I1 q) fun us s2 ⟨vs, H2, I2, r, hi, q2⟩ => ?_) he hpl
  obtain ⟨ox, od, J, hd⟩ := StX.insC_at (C := C) I2 (.inr ⟨dx, fs, hi⟩)
  exact ⟨⟨C, ox, od, J, hd⟩, StX.run_callO c F hr pass0 I2 (.inr ⟨dx, fs, hi⟩) r q2⟩
theorem pe_propH {f : Str} (he : PE X e ta) (O : PropH X.prog X.w X.K X.mg X.base k C f sp) (hr : Room (k + 1) X.A) (hb : attributeBase e f X.env (eval e X.env) = eval e X.env := by rfl) : PE X (.Attribute e f pos) (tProp C sp [] E0 ta) := by
  obtain ⟨q, g, fd, ps, c, hp, F, hbd⟩ := O.ex
  exact pe_prop he c hp F hr hbd .nil pass0 hb
end
end
end EN

namespace EN
open PySem L2 PyProof.Rows
section
variable {P : Program} {w : World} {K : PySem.W.Frag} {mg : Str → Option Value} {base : Heap} {f : Addr} {fd : FuncData}
theorem okD {x qual : Str} {params : Arguments} {body : List Stmt} {scope : Scope} {dvs : List V} {kws : List (Str × V)} {N ps : List Str} {k : Nat} {sp : Sp} (F : FunD K x qual params body scope dvs kws f fd) (S : FnScope N ps scope) (len : ∀ vs H Q E, sp vs H Q E → vs.length = ps.length)
    (hbody : ∀ (cdv : Value) (A : Around) (outer : List Env) (s : Shared) (H : Hp) (vs : List V) (Q : VK) (E : XK), Room k (A.deeper (envOfC qual scope s.heap.objs.size f cdv)) → sp vs H Q E →
      ∃ t, PSs (cxOf CX0 P w K mg base N qual scope f cdv A outer s H E).nox body t ∧ t { nx := fun _ H' => Q .non H', rt := Q } (start N vs) H) : FnOk P w K mg base CX0 (k + 1) f fd ps sp :=
  F.ok S len fun cdv A outer s H vs Q E hr hs => by
    obtain ⟨t, h, q⟩ := hbody cdv A outer s H vs Q E hr hs
    exact ⟨t, h.nox, q⟩
theorem sqT_upd {H : Hp} {t x C dx : Addr} {fs : List (Str × V)} {xs : List V} {o : HO} (h : SqT K H t xs) (hx : H x = some (.ins C dx fs)) : SqT K (upd H x o) t xs :=
  sqT_but (p := x) (fun b u e n => by rw [upd_ne n]; exact e) (fun u e => by rw [hx] at e; cases e; exact ⟨(by intro q; cases q), (by intro u q; cases q)⟩) h
def spSInit (K : PySem.W.Frag) (C : Addr) : Sp := fun vs H Q _ => ∃ (x dx a : Addr) (r : List Int), vs = [.ref x, .ref a] ∧ H x = some (.ins C dx []) ∧ SeqI K H a r ∧ r.length ≤ 1000 ∧
  ∀ H' : Hp, (∀ b o, H b = some o → b ≠ x → H' b = some o) → SizeAt K C H' x (M.cut r) → Q .non H'
def spThrough (K : PySem.W.Frag) (C : Addr) : Sp := fun vs H Q _ => ∃ (st : Int) (a : Addr) (r : List Int), vs = [.ref C, .int st, .ref a] ∧ SeqI K H a r ∧ r.length ≤ 12 ∧ (∀ x ∈ r, Sz 300 x) ∧ Sz 390 st ∧
  ∀ (z : Addr) (H' : Hp), Same H H' → H z = none → SizeAt K C H' z (M.cut (M.ah (M.thr r) (-st))) → Q (.ref z) H'
def spFalling (K : PySem.W.Frag) (C : Addr) : Sp := fun vs H Q _ => ∃ (m : Nat) (st : Int), vs = [.int (m : Int), .int st] ∧ m ≤ 10 ∧ Sz 390 st ∧
  ∀ (z : Addr) (H' : Hp), Same H H' → H z = none → SizeAt K C H' z (M.cut (M.ah (M.fallRow m) (-st))) → Q (.ref z) H'
def spDegree (K : PySem.W.Frag) (C : Addr) : Sp := fun vs H Q _ => ∃ (x : Addr) (ms : List Int), vs = [.ref x] ∧ SizeAt K C H x ms ∧ Q (.int ((ms.length : Int) - 1)) H
def spCall (K : PySem.W.Frag) (C : Addr) : Sp := fun vs H Q _ => ∃ (x : Addr) (ms : List Int) (n : Int), vs = [.ref x, .int n] ∧ SizeAt K C H x ms ∧ ms.length ≤ 12 ∧ (∀ y ∈ ms, Sz 9000 y) ∧ Sz 400 n ∧ ∀ H' : Hp, Same H H' → Q (.int (M.val ms n)) H'
theorem cut_len (r : List Int) : (M.cut r).length ≤ r.length := by
  unfold M.cut
  rw [List.length_take]
  omega
abbrev s_sinit : Stmt := inClass (top 35) 0
abbrev N_sinit : List Str := ["self", "row"]
theorem sc_sinit : FnScope N_sinit ["self", "row"] (defScope s_sinit) := ⟨rfl, rfl, rfl, by decide +kernel, rfl, by decide +kernel, by decide +kernel⟩

theorem ok_sinit {C : Addr} {dvs : List V} {kws : List (Str × V)} (F : FunD K "__init__" "Size.__init__" (defArgs s_sinit) (defBody s_sinit) (defScope s_sinit) dvs kws f fd) (cl : Cls K C) (nR : NoAttr K C "row") (G_check_wholes : Has P w K mg base 2 "check_wholes" ["values"] (spCheckWholes K)) (G_trimmed : Has P w K mg base 1 "trimmed" ["row"] (spTrimmed K)) :
    FnOk P w K mg base CX0 3 f fd ["self", "row"] (spSInit K C) := by
  refine okD F sc_sinit (fun vs H Q E h => ?_) (fun cdv A outer s H vs Q E hr h => ?_)
  · obtain ⟨x, dx, a, r, rfl, _⟩ := h
    rfl
  · obtain ⟨x, dx, a, r, rfl, hx, hS, hl, k⟩ := h
    refine ⟨_, (pss_cons (ps_expr (pe_has G_check_wholes (hr.mono (by decide)) (pa_cons (pv 1) pa_nil)))
    (pss_one (ps_fld (pv 0) (pe_has G_trimmed (hr.mono (by decide)) (pa_cons (pv 1) pa_nil)) rfl))), ?_⟩
    refine ⟨_, rfl, a, r, rfl, hS, hl, fun H1 s1 => ?_⟩
    refine ⟨_, rfl, a, r, rfl, hS.elim (fun z => .inl (s1.seq z)) (fun z => .inr (sqT_same s1 z)), hl, fun t H2 s2 ht => ?_⟩
    have hx2 := s2 _ _ (s1 _ _ hx)
    refine ⟨_, rfl, x, C, dx, [], rfl, hx2, cl, nR, (by show 0 < 1000; decide), ?_⟩
    refine k _ (fun b o e n => ?_) ⟨dx, t, upd_same, sqT_upd ht hx2, ?_⟩
    · rw [upd_ne n]
      exact s2 _ _ (s1 _ _ e)
    · exact Nat.le_trans (cut_len r) hl
/-- a new Size is made -/
theorem made {C : Addr} {H1 : Hp} {a : Addr} {r : List Int} {Q : VK} (hS : SeqI K H1 a r) (hl : r.length ≤ 1000) (k : ∀ (z : Addr) (H' : Hp), Same H1 H' → H1 z = none → SizeAt K C H' z (M.cut r) → Q (.ref z) H') :
    ∀ x dx, H1 x = none → H1 dx = none → dx ≠ x → spSInit K C [.ref x, .ref a] (upd (upd H1 dx (.own x)) x (.ins C dx [])) (fun v H2 => v = .non ∧ Q (.ref x) H2) E0 := fun x dx nx nd ne => by
  have s1 : Same H1 (upd (upd H1 dx (.own x)) x (.ins C dx [])) := fun b o e => by
    rw [upd_ne (ne_of_none e nx), upd_ne (ne_of_none e nd)]
    exact e
  refine ⟨x, dx, a, r, rfl, upd_same, hS.elim (fun z => .inl (s1.seq z)) (fun z => .inr (sqT_same s1 z)), hl, fun H2 keep hz => ⟨rfl, k x H2 (fun b o e => keep b o (s1 b o e) (ne_of_none e nx)) nx hz⟩⟩
abbrev s_sthrough : Stmt := inClass (top 35) 1
abbrev N_sthrough : List Str := ["cls", "start", "values"]
theorem sc_sthrough : FnScope N_sthrough ["cls", "start", "values"] (defScope s_sthrough) := ⟨rfl, rfl, rfl, by decide +kernel, rfl, by decide +kernel, by decide +kernel⟩

theorem ok_sthrough {C : Addr} (F : Fun K "through" "Size.through" s_sthrough f fd) (T : Blt mg) (G_check_whole : Has P w K mg base 2 "check_whole" ["value"] spCheckWhole) (G_check_wholes : Has P w K mg base 2 "check_wholes" ["values"] (spCheckWholes K)) (G_row_through : Has P w K mg base 1 "row_through" ["values"] (spRowThrough K))
    (G_row_ahead : Has P w K mg base 2 "row_ahead" ["row", "k"] (spRowAhead K)) (G_Size : MkH P w K mg base 3 C [] (spSInit K C)) : FnOk P w K mg base CX0 5 f fd ["cls", "start", "values"] (spThrough K C) := by
  refine F.ok sc_sthrough (fun vs H Q E h => ?_) (fun cdv A outer s H vs Q E hr h => ?_)
  · obtain ⟨st, a, r, rfl, _⟩ := h
    rfl
  · obtain ⟨st, a, r, rfl, hS, hl, hx, hst, k⟩ := h
    refine ⟨_, (pss_cons (ps_expr (pe_has G_check_whole (hr.mono (by decide)) (pa_cons (pv 1) pa_nil)))
    (pss_cons (ps_expr (pe_has G_check_wholes (hr.mono (by decide)) (pa_cons (pv 2) pa_nil)))
    (pss_one (ps_ret (pe_mkL G_Size (hr.mono (by decide)) (i := 0) (pa_cons (pe_has G_row_ahead (hr.mono (by decide)) (pa_cons (pe_has G_row_through (hr.mono (by decide)) (pa_cons (pv 2) pa_nil)) (pa_cons (pe_un un_neg (pv 1)) pa_nil))) pa_nil)))))), ?_⟩
    refine ⟨_, rfl, st, rfl, _, rfl, a, r, rfl, hS, by omega, fun H1 s1 => ?_⟩
    refine ⟨rfl, _, rfl, a, r, rfl, hS.elim (fun z => .inl (s1.seq z)) (fun z => .inr (sqT_same s1 z)), by omega, fun l H2 s2 hl2 h2 => ?_⟩
    have hth : (M.thr r).length = r.length := M.thr_len r
    refine ⟨_, rfl, st, rfl, l, M.thr r, -st, rfl, SqL.of h2, by omega, fun x hx' => (thr_sz r.length r 300 rfl hx x hx').mono (by omega), hst.neg.mono (by decide), fun l3 H3 s3 hl3 h3 => ?_⟩
    refine made (.inl (SqL.of h3)) (by rw [M.ah_len]; omega) fun z H4 s4 hz hsz => ?_
    exact k z H4 (s1.trans (s2.trans (s3.trans s4))) (s1.free (s2.free (s3.free hz))) hsz
abbrev s_sfalling : Stmt := inClass (top 35) 2
abbrev N_sfalling : List Str := ["many", "start"]
theorem sc_sfalling : FnScope N_sfalling ["many", "start"] (defScope s_sfalling) := ⟨rfl, rfl, rfl, by decide +kernel, rfl, by decide +kernel, by decide +kernel⟩

theorem ok_sfalling {C : Addr} {dvs : List V} {kws : List (Str × V)} (F : FunD K "falling" "Size.falling" (defArgs s_sfalling) (defBody s_sfalling) (defScope s_sfalling) dvs kws f fd) (T : Blt mg) (g_Size : mg "Size" = some (.ref C)) (g_factorial : mg "factorial" = some (.builtin "math.factorial"))
    (G_check_whole : Has P w K mg base 2 "check_whole" ["value"] spCheckWhole) (G_check_from : Has P w K mg base 2 "check_from" ["value", "bound"] spCheckFrom) (G_row_ahead : Has P w K mg base 2 "row_ahead" ["row", "k"] (spRowAhead K)) (G_Size : MkH P w K mg base 3 C [] (spSInit K C)) :
    FnOk P w K mg base CX0 5 f fd ["many", "start"] (spFalling K C) := by
  refine okD F sc_sfalling (fun vs H Q E h => ?_) (fun cdv A outer s H vs Q E hr h => ?_)
  · obtain ⟨m, st, rfl, _⟩ := h
    rfl
  · obtain ⟨m, st, rfl, hm, hst, k⟩ := h
    refine ⟨_, (pss_cons (ps_expr (pe_has G_check_from (hr.mono (by decide)) (pa_cons (pv 0) (pa_cons pe_int pa_nil))))
    (pss_cons (ps_expr (pe_has G_check_whole (hr.mono (by decide)) (pa_cons (pv 1) pa_nil)))
    (pss_one (ps_ret (pe_mkH G_Size (hr.mono (by decide)) (by rfl) g_Size (pa_cons (pe_has G_row_ahead (hr.mono (by decide)) (pa_cons (pe_op op_cat (pe_op op_rep (pe_lst (pa_cons pe_int pa_nil)) (pv 0)) (pe_lst (pa_cons (pe_callBfun cr_factorial (by rfl) g_factorial (pa_cons (pv 0) pa_nil)) pa_nil))) (pa_cons (pe_un un_neg (pv 1)) pa_nil))) pa_nil)))))), ?_⟩
    refine ⟨_, rfl, (m : Int), 0, rfl, by omega, _, rfl, st, rfl, (by show 1 ≤ sizeLine; decide), fun l1 h1 => ?_⟩
    refine ⟨_, rfl, l1, _, _, rfl, rfl, upd_same, by omega, by omega, ?_, fun l2 h2 => ?_⟩
    · show 1 * ((m : Int)).toNat ≤ sizeLine
      exact Nat.le_trans (by omega : 1 * ((m : Int)).toNat ≤ 1000) (Nat.le_of_lt (small1000 (Nat.le_refl _)))
    refine ⟨_, rfl, m, rfl, by omega, (by show 1 ≤ sizeLine; decide), fun l3 h3 => ?_⟩
    have e2 : (List.replicate ((m : Int)).toNat [V.int 0]).flatten = (List.replicate m (0 : Int)).map V.int := by
      rw [show ((m : Int)).toNat = m by omega]
      clear k h1 h2 h3 hm
      induction m with
      | zero => rfl
      | succ m ih => rw [List.replicate_succ, List.flatten_cons, ih, List.replicate_succ]; rfl
    rw [e2] at h3 ⊢
    have s1 : Same H (upd H l1 (.lst [.int 0])) := same_new (Same.refl H) _ h1
    have s2 := same_new s1 (.lst ((List.replicate m (0 : Int)).map V.int)) h2
    have s3 := same_new s2 (.lst [.int (M.fac m)]) h3
    have n23 : l2 ≠ l3 := ne_of_none upd_same h3
    refine ⟨l2, l3, _, _, rfl, rfl, (by rw [upd_ne n23]; exact upd_same), upd_same, ?_, fun l4 h4 => ?_⟩
    · rw [List.length_map, List.length_replicate]
      exact Nat.le_of_lt (small1000 (by show m + 1 ≤ 1000; omega))
    have e4 : (List.replicate m (0 : Int)).map V.int ++ [V.int (M.fac m)] = (M.fallRow m).map V.int := by
      unfold M.fallRow
      rw [List.map_append]
      rfl
    rw [e4]
    have s4 := same_new s3 (.lst ((M.fallRow m).map V.int)) h4
    refine ⟨_, rfl, st, rfl, l4, M.fallRow m, -st, rfl, SqL.of upd_same, by rw [M.fall_len]; omega, fun x hx => ?_, hst.neg.mono (by decide), fun l5 H5 s5 hl5 h5 => ?_⟩
    · rcases List.mem_append.mp hx with z | z
      · rw [List.eq_of_mem_replicate z]
        exact Nat.two_pow_pos _
      · rw [List.mem_singleton.mp z]
        exact (fac_sz m (by omega)).mono (by omega)
    refine made (.inl (SqL.of h5)) (by rw [M.ah_len, M.fall_len]; omega) fun z H6 s6 hz hsz => ?_
    exact k z H6 (s4.trans (s5.trans s6)) (s4.free (s5.free hz)) hsz
abbrev s_sdegree : Stmt := inClass (top 35) 3
abbrev N_sdegree : List Str := ["self"]
theorem sc_sdegree : FnScope N_sdegree ["self"] (defScope s_sdegree) := ⟨rfl, rfl, rfl, by decide +kernel, rfl, by decide +kernel, by decide +kernel⟩

theorem ok_sdegree {C : Addr} (F : Fun K "degree" "Size.degree" s_sdegree f fd) (T : Blt mg) (cl : Cls K C) (nR : NoAttr K C "row") : FnOk P w K mg base CX0 1 f fd ["self"] (spDegree K C) := by
  refine F.ok sc_sdegree (fun vs H Q E h => ?_) (fun cdv A outer s H vs Q E hr h => ?_)
  · obtain ⟨x, ms, rfl, _⟩ := h
    rfl
  · obtain ⟨x, ms, rfl, ⟨dx, t, h1, h2, h3⟩, k⟩ := h
    refine ⟨_, (pss_one (ps_ret (pe_op op_sub (pe_callB (show CallR _ _ (rLenQ K) from c_len) (by rfl) T.len_ (by decide +kernel) (pa_cons (pe_fld (pv 0) rfl) pa_nil)) pe_int))), ?_⟩
    refine ⟨_, rfl, x, C, dx, _, _, rfl, h1, cl, nR, look1, t, _, rfl, .inr h2, _, _, rfl, rfl, ?_⟩
    rw [List.length_map]
    exact k
abbrev s_scall : Stmt := inClass (top 35) 4
abbrev N_scall : List Str := ["self", "n"]
theorem sc_scall : FnScope N_scall ["self", "n"] (defScope s_scall) := ⟨rfl, rfl, rfl, by decide +kernel, rfl, by decide +kernel, by decide +kernel⟩

theorem ok_scall {C : Addr} (F : Fun K "__call__" "Size.__call__" s_scall f fd) (T : Blt mg) (cl : Cls K C) (nR : NoAttr K C "row") (G_check_whole : Has P w K mg base 2 "check_whole" ["value"] spCheckWhole) (G_row_value : Has P w K mg base 2 "row_value" ["row", "n"] (spRowValue K)) : FnOk P w K mg base CX0 3 f fd ["self", "n"] (spCall K C) := by
  refine F.ok sc_scall (fun vs H Q E h => ?_) (fun cdv A outer s H vs Q E hr h => ?_)
  · obtain ⟨x, ms, n, rfl, _⟩ := h
    rfl
  · obtain ⟨x, ms, n, rfl, ⟨dx, t, h1, h2, h3⟩, hl, hy, hn, k⟩ := h
    refine ⟨_, (pss_cons (ps_expr (pe_has G_check_whole (hr.mono (by decide)) (pa_cons (pv 1) pa_nil)))
    (pss_one (ps_ret (pe_has G_row_value (hr.mono (by decide)) (pa_cons (pe_fld (pv 0) rfl) (pa_cons (pv 1) pa_nil)))))), ?_⟩
    exact ⟨_, rfl, n, rfl, _, rfl, x, C, dx, _, _, rfl, h1, cl, nR, look1, _, rfl, t, ms, n, rfl, h2, hl, hy, hn, k⟩
end
end EN

namespace EN
open PySem L2 PyProof.Rows
section
variable {P : Program} {w : World} {K : PySem.W.Frag} {mg : Str → Option Value} {base : Heap} {f : Addr} {fd : FuncData}
/-! ### the law -/
def spLawH (K : PySem.W.Frag) : Sp := fun vs H Q _ => ∃ (a : Addr) (ns : List Int), vs = [.ref a] ∧ SqL K H a (ns.map V.int) ∧ ns.length ≤ 63 ∧ ∀ H' : Hp, Q (.bl true) H'
theorem madeQ {C : Addr} {H1 : Hp} {a x dx : Addr} {r : List Int} (hS : SeqI K H1 a r) (hl : r.length ≤ 1000) (nx : H1 x = none) (nd : H1 dx = none) (ne : dx ≠ x) {Q2 : VK} (k : ∀ H' : Hp, Same H1 H' → SizeAt K C H' x (M.cut r) → Q2 .non H') :
    spSInit K C [.ref x, .ref a] (upd (upd H1 dx (.own x)) x (.ins C dx [])) Q2 E0 := by
  have s1 : Same H1 (upd (upd H1 dx (.own x)) x (.ins C dx [])) := fun b o e => by
    rw [upd_ne (ne_of_none e nx), upd_ne (ne_of_none e nd)]
    exact e
  refine ⟨x, dx, a, r, rfl, upd_same, hS.elim (fun z => .inl (s1.seq z)) (fun z => .inr (sqT_same s1 z)), hl, fun H2 keep hz => k H2 (fun b o e => keep b o (s1 b o e) (ne_of_none e nx)) hz⟩
theorem lit (m : Int) (h0 : 0 < m) (h1 : m < 5000) : m.natAbs < 2 ^ 8000 := Nat.lt_of_lt_of_le (by omega : m.natAbs < 2 ^ 13) (Nat.pow_le_pow_right (by decide) (by decide))
abbrev s_law : Stmt := top 51
abbrev N_law : List Str := ["_law_script", "_law_pen_here", "_law_again", "_law_row_here", "_law_origin", "_law_count", "_law_due", "_law_size", "_law_n", "_law_passed", "_law_near", "_law_k"]
theorem sc_law : FnScope N_law ["_law_script"] (defScope s_law) := ⟨rfl, rfl, rfl, by decide +kernel, rfl, by decide +kernel, by decide +kernel⟩

theorem ok_law {C_Size T0 : Addr} (F : Fun K "law" "law" s_law f fd) (T : Blt mg) (cl : Cls K C_Size) (nR : NoAttr K C_Size "row") (hT0 : ∀ H : Hp, SqT K H T0 []) (g_Size : mg "Size" = some (.ref C_Size))
    (G_pen : Has P w K mg base 1 "_law_pen" ["_law_script"] (spPen K)) (G_far : Has P w K mg base 3 "_law_far" ["_law_pen_here"] spFar) (G_lrow : Has P w K mg base 4 "_law_row" ["_law_pen_here", "_law_most"] spRow) (G_integer : Has P w K mg base 3 "_law_integer" ["_law_pen_here"] spInteger)
    (G_draw : Has P w K mg base 1 "_law_draw" ["_law_pen_here", "_law_many"] spDraw) (G_cut : Has P w K mg base 1 "_law_cut" ["_law_row_here"] (spCut K)) (G_pick : Has P w K mg base 2 "_law_pick" ["_law_pen_here", "_law_options"] (spPick K)) (G_sizeis : Has P w K mg base 2 "_law_size_is" ["_law_size", "_law_row_here"] (spSizeIs K C_Size))
    (G_lwhole : Has P w K mg base 1 "_law_whole" ["_law_value"] spWhole) (G_lat : Has P w K mg base 2 "_law_at" ["_law_row_here", "_law_n"] (spAt K)) (G_lrowof : Has P w K mg base 2 "_law_row_of" ["_law_amounts"] (spRowOf K)) (G_frow : Has P w K mg base 3 "_law_falling_row" ["_law_count", "_law_origin"] spFRow)
    (G_Size : MkH P w K mg base 3 C_Size [] (spSInit K C_Size)) (G_Size0 : MkH P w K mg base 3 C_Size [.ref T0] (spSInit K C_Size)) (G_Size_degree : PropH P w K mg base 1 C_Size "degree" (spDegree K C_Size)) (G_call_Size : CallH P w K mg base 3 C_Size (spCall K C_Size))
    (G_Size_through : CmH P w K mg base 5 C_Size "through" (spThrough K C_Size)) (G_Size_falling : SmH P w K mg base 5 C_Size "falling" [] (spFalling K C_Size)) (G_Size_falling1 : SmH P w K mg base 5 C_Size "falling" [.int 0] (spFalling K C_Size)) :
    FnOk P w K mg base CX0 6 f fd ["_law_script"] (spLawH K) := by
  refine F.ok sc_law (fun vs H Q E h => ?_) (fun cdv A outer s H vs Q E hr h => ?_)
  · obtain ⟨a, ns, rfl, _⟩ := h
    rfl
  · obtain ⟨a, ns, rfl, hS, hn, k⟩ := h
    refine ⟨_, (pss_cons (ps_set (i := 1) sc_law.nd rfl (Or.inl rfl) (pe_has G_pen (hr.mono (by decide)) (pa_cons (pv 0) pa_nil)))
    (pss_cons (ps_if (PW.pt (pw_or (pt_cmpR (show OpR _ _ (rNeD K) from op_neD hr.units) (pe_fld (pe_mkH0 G_Size0 (hr.mono (by decide)) (by rfl) g_Size) rfl) (pe_tup pa_nil) (nomark _)) (pw_or (pt_cmpR op_ne (pe_propH (pe_mkH0 G_Size0 (hr.mono (by decide)) (by rfl) g_Size) G_Size_degree (hr.mono (by decide))) (pe_un un_neg pe_int) (nomark _)) (pw_or (pt_cmpR op_ne (pe_callH (pe_mkH0 G_Size0 (hr.mono (by decide)) (by rfl) g_Size) G_call_Size (hr.mono (by decide)) (pa_cons (pe_has G_far (hr.mono (by decide)) (pa_cons (pv 1) pa_nil)) pa_nil)) pe_int (nomark _)) (pw_or1 (pt_cmpR (show OpR _ _ (rNeD K) from op_neD hr.units) (pe_fld (pe_cmH G_Size_through (hr.mono (by decide)) (pe_glob (v := .ref C_Size) (by rfl) g_Size rfl) (pa_cons pe_int (pa_cons (pe_lst pa_nil) pa_nil))) rfl) (pe_tup pa_nil) (nomark _)))))))
      (pss_one (ps_ret pe_bl))
      pss_nil)
    (pss_cons (ps_for PassesOwn.never rfl (pi_range1 (by rfl) T.range_ (pa_cons (pe_op op_add pe_int (pe_callB (call_min2 rfl) (by rfl) T.min_ (by decide +kernel) (pa_cons pe_int (pa_cons (pe_callB (show CallR _ _ (rLenQ K) from c_len) (by rfl) T.len_ (by decide +kernel) (pa_cons (pv 0) pa_nil)) pa_nil)))) pa_nil)) (pg_name (i := 2) sc_law.nd rfl (Or.inl rfl))
      (pss_cons (ps_asg (pe_tup (pa_cons (pe_has G_lrow (hr.mono (by decide)) (pa_cons (pv 1) (pa_cons pe_int pa_nil))) (pa_cons (pe_has G_integer (hr.mono (by decide)) (pa_cons (pv 1) pa_nil)) (pa_cons (pe_has G_draw (hr.mono (by decide)) (pa_cons (pv 1) (pa_cons pe_int pa_nil))) pa_nil)))) (pg_tup rfl (pgs_cons (pg_name (i := 3) sc_law.nd rfl (Or.inl rfl)) (pgs_cons (pg_name (i := 4) sc_law.nd rfl (Or.inr rfl)) (pgs_cons (pg_name (i := 5) sc_law.nd rfl (Or.inl rfl)) pgs_nil)))))
      (pss_cons (ps_set (i := 6) sc_law.nd rfl (Or.inl rfl) (pe_has G_cut (hr.mono (by decide)) (pa_cons (pv 3) pa_nil)))
      (pss_cons (ps_set (i := 7) sc_law.nd rfl (Or.inl rfl) (pe_mkH G_Size (hr.mono (by decide)) (by rfl) g_Size (pa_cons (pe_has G_pick (hr.mono (by decide)) (pa_cons (pv 1) (pa_cons (pe_lst (pa_cons (pe_callTy (show CallR _ _ (rListQ K) from c_list) (by rfl) T.list_ (by decide +kernel) (pa_cons (pv 3) pa_nil)) (pa_cons (pe_callTy (show CallR _ _ (rTupQ K) from c_tuple) (by rfl) T.tuple_ (by decide +kernel) (pa_cons (pv 3) pa_nil)) pa_nil))) pa_nil))) pa_nil)))
      (pss_cons (ps_if (PW.pt (pw_or (pt_not (pt_val (pe_has G_sizeis (hr.mono (by decide)) (pa_cons (pv 7) (pa_cons (pv 6) pa_nil))))) (pw_or (pt_not (pt_val (pe_has G_lwhole (hr.mono (by decide)) (pa_cons (pe_propH (pv 7) G_Size_degree (hr.mono (by decide))) pa_nil)))) (pw_or1 (pt_cmpR op_ne (pe_propH (pv 7) G_Size_degree (hr.mono (by decide))) (pe_op op_sub (pe_callB (show CallR _ _ (rLenQ K) from c_len) (by rfl) T.len_ (by decide +kernel) (pa_cons (pv 6) pa_nil)) pe_int) (nomark _))))))
        (pss_one (ps_ret pe_bl))
        pss_nil)
      (pss_cons (ps_for PassesOwn.never rfl (pi_list (pe_lst (pa_cons (pe_has G_far (hr.mono (by decide)) (pa_cons (pv 1) pa_nil)) (pa_cons (pe_un un_neg (pe_has G_far (hr.mono (by decide)) (pa_cons (pv 1) pa_nil))) (pa_cons (pe_has G_draw (hr.mono (by decide)) (pa_cons (pv 1) (pa_cons pe_int pa_nil))) (pa_cons (pv 4) pa_nil)))))) (pg_name (i := 8) sc_law.nd rfl (Or.inl rfl))
        (pss_one (ps_if (PW.pt (pw_or (pt_not (pt_val (pe_has G_lwhole (hr.mono (by decide)) (pa_cons (pe_callH (pv 7) G_call_Size (hr.mono (by decide)) (pa_cons (pv 8) pa_nil)) pa_nil)))) (pw_or1 (pt_cmpR op_ne (pe_callH (pv 7) G_call_Size (hr.mono (by decide)) (pa_cons (pv 8) pa_nil)) (pe_has G_lat (hr.mono (by decide)) (pa_cons (pv 3) (pa_cons (pv 8) pa_nil))) (nomark _)))))
          (pss_one (ps_ret pe_bl))
          pss_nil)))
      (pss_cons (ps_set (i := 9) sc_law.nd rfl (Or.inr rfl) (pe_cmH G_Size_through (hr.mono (by decide)) (pe_glob (v := .ref C_Size) (by rfl) g_Size rfl) (pa_cons (pv 4) (pa_cons (pe_has G_pick (hr.mono (by decide)) (pa_cons (pv 1) (pa_cons (pe_lst (pa_cons (pe_callTy (show CallR _ _ (rListQ K) from c_list) (by rfl) T.list_ (by decide +kernel) (pa_cons (pv 3) pa_nil)) (pa_cons (pe_callTy (show CallR _ _ (rTupQ K) from c_tuple) (by rfl) T.tuple_ (by decide +kernel) (pa_cons (pv 3) pa_nil)) pa_nil))) pa_nil))) pa_nil))))
      (pss_cons (ps_set (i := 10) sc_law.nd rfl (Or.inr rfl) (pe_has G_lrowof (hr.mono (by decide)) (pa_cons (pv 3) pa_nil)))
      (pss_cons (ps_if (pt_not (pt_val (pe_has G_sizeis (hr.mono (by decide)) (pa_cons (pv 9) (pa_cons (pe_has G_lrowof (hr.mono (by decide)) (pa_cons (pe_lc (own := [("_law_n", 8)]) (g := gName 8) (tt := tYes) (by rfl) sc_law.nd (pi_range1 (by rfl) T.range_ (pa_cons (pe_callB (show CallR _ _ (rLenQ K) from c_len) (by rfl) T.len_ (by decide +kernel) (pa_cons (pv 3) pa_nil)) pa_nil)) (blkOk_by (own := [("_law_n", 8)]) (N := N_law) (sc := defScope s_law) (by decide +kernel)) (fun _ _ _ _ _ => (pg_name (i := 8) sc_law.nd rfl (by first | exact Or.inl rfl | exact Or.inr rfl))) (fun _ _ _ _ _ => pts_nil) (fun _ _ _ _ _ => (pe_has G_lat (hr.mono (by decide)) (pa_cons (pv 10) (pa_cons (pe_op op_sub (pv 8) (pv 4)) pa_nil))))) pa_nil)) pa_nil)))))
        (pss_one (ps_ret pe_bl))
        pss_nil)
      (pss_cons (ps_if (pt_cmpR (show OpR _ _ (rNeD K) from op_neD hr.units) (pe_lc (own := [("_law_k", 11)]) (g := gName 11) (tt := tYes) (by rfl) sc_law.nd (pi_range1 (by rfl) T.range_ (pa_cons (pe_callB (show CallR _ _ (rLenQ K) from c_len) (by rfl) T.len_ (by decide +kernel) (pa_cons (pv 3) pa_nil)) pa_nil)) (blkOk_by (own := [("_law_k", 11)]) (N := N_law) (sc := defScope s_law) (by decide +kernel)) (fun _ _ _ _ _ => (pg_name (i := 11) sc_law.nd rfl (by first | exact Or.inl rfl | exact Or.inr rfl))) (fun _ _ _ _ _ => pts_nil) (fun _ _ _ _ _ => (pe_callH (pv 9) G_call_Size (hr.mono (by decide)) (pa_cons (pe_op op_add (pv 4) (pv 11)) pa_nil)))) (pv 3) (nomark _))
        (pss_one (ps_ret pe_bl))
        pss_nil)
      (pss_cons (ps_if (pt_not (pt_val (pe_has G_sizeis (hr.mono (by decide)) (pa_cons (pe_smH G_Size_falling (hr.mono (by decide)) (pe_glob (v := .ref C_Size) (by rfl) g_Size rfl) (pa_cons (pv 5) (pa_cons (pv 4) pa_nil))) (pa_cons (pe_has G_frow (hr.mono (by decide)) (pa_cons (pv 5) (pa_cons (pv 4) pa_nil))) pa_nil)))))
        (pss_one (ps_ret pe_bl))
        pss_nil)
      (pss_one (ps_if (pt_not (pt_val (pe_has G_sizeis (hr.mono (by decide)) (pa_cons (pe_smH G_Size_falling1 (hr.mono (by decide)) (pe_glob (v := .ref C_Size) (by rfl) g_Size rfl) (pa_cons (pv 5) pa_nil)) (pa_cons (pe_has G_frow (hr.mono (by decide)) (pa_cons (pv 5) (pa_cons pe_int pa_nil))) pa_nil)))))
        (pss_one (ps_ret pe_bl))
        pss_nil)))))))))))))
    (pss_one (ps_ret pe_bl))))), ?_⟩
    refine ⟨_, rfl, a, ns, rfl, hS, hn, fun p c H1 s1 np nc P1 => ?_⟩
    refine fun z1 d1 nx nd ne => madeQ (a := T0) (r := []) (.inr (hT0 _)) (Nat.zero_le _) nx nd ne fun H2 s2 ⟨dx1, t1, g1, g2, _⟩ => ⟨rfl, ?_⟩
    refine ⟨z1, C_Size, dx1, _, _, rfl, g1, cl, nR, look1, (by show 0 ≤ sizeLine; decide), fun t2 ht2 => ?_⟩
    have s3 := same_new (Same.refl H2) (.tup []) ht2
    refine ⟨_, _, dp_tup (sqT_same s3 g2), dp_tup (r := []) (SqT.of upd_same), shaped_tup _, shaped_tup _, false, rfl, iteF ?_⟩
    refine fun z4 d4 nx4 nd4 ne4 => madeQ (a := T0) (r := []) (.inr (hT0 _)) (Nat.zero_le _) nx4 nd4 ne4 fun H4 s4 hs4 => ⟨rfl, ?_⟩
    obtain ⟨dx4, t4, g4, g4t, _⟩ := hs4
    refine ⟨z4, dx4, _, rfl, g4, z4, [], rfl, ⟨dx4, t4, g4, g4t, Nat.zero_le _⟩, 1, rfl, rfl, false, rfl, iteF ?_⟩
    refine fun z5 d5 nx5 nd5 ne5 => madeQ (a := T0) (r := []) (.inr (hT0 _)) (Nat.zero_le _) nx5 nd5 ne5 fun H5 s5 hs5 => ⟨rfl, ?_⟩
    have P5 := (((P1.same s2).same s3).same s4).same s5
    obtain ⟨dx5, t5, g5, g5t, _⟩ := hs5
    have z5p : z5 ≠ p := by
      obtain ⟨b, r, q, _⟩ := P5.at_
      exact ne_of g5 q (by intro q; cases q)
    refine ⟨z5, dx5, _, rfl, _, rfl, p, c, ns, 0, rfl, P5, by decide, fun nf H6 hf0 hf P6 b6 => ⟨b6 _ _ g5 z5p, z5, [], nf, rfl, P5.size b6 ⟨dx5, t5, g5, g5t, Nat.zero_le _⟩, Nat.zero_le _, (fun y hy => by cases hy), hf.mono (by decide), fun H7 s7 => ⟨rfl, false, rfl, iteF ?_⟩⟩⟩
    refine ⟨rfl, (by show 0 ≤ sizeLine; decide), fun l8 hl8 => ?_⟩
    refine ⟨3, l8, [], rfl, .inl (SqL.of upd_same), Nat.zero_le _, (fun y hy => by cases hy), (by unfold Sz; decide), fun z9 H9 s9 hz9 ⟨dx9, t9, g9, g9t, _⟩ => ?_⟩
    refine ⟨z9, C_Size, dx9, _, _, rfl, g9, cl, nR, look1, (by show 0 ≤ sizeLine; decide), fun t10 ht10 => ?_⟩
    have s10 := same_new (Same.refl H9) (.tup []) ht10
    refine ⟨_, _, dp_tup (sqT_same s10 g9t), dp_tup (r := []) (SqT.of upd_same), shaped_tup _, shaped_tup _, false, rfl, iteF ?_⟩
    have P10 := (((P6.same s7).new (u := .lst []) hl8).same s9).same s10
    have S10 : SqL K (upd H9 t10 (.tup [])) a (ns.map V.int) := s10.seq (s9.seq ((same_new (Same.refl H7) (.lst []) hl8).seq (s7.seq (P5.sqL b6 (s5.seq (s4.seq (s3.seq (s2.seq (s1.seq hS)))))))))
    generalize upd H9 t10 (.tup []) = H10 at P10 S10 ⊢
    refine ⟨_, rfl, a, _, rfl, .inl S10, 6, _, rfl, 4, _, rfl, rfl, _, rfl, ?_, ?_, ?_⟩
    · split <;> omega
    · rw [List.length_map]
      split <;> omega
    have hm10 : (4 + if ((ns.map V.int).length : Int) < 6 then ((ns.map V.int).length : Int) else 6).toNat ≤ 10 := by split <;> omega
    generalize (4 + if ((ns.map V.int).length : Int) < 6 then ((ns.map V.int).length : Int) else 6).toNat = m at hm10
    refine for_range (lo := 0) (n := m) (fun i σ H' => ∃ v2 v3 v4 v5 v6 v7 v8 v9 v10 v11 : Option V, Pen H' p c ns (100 + 3000 * i) ∧ σ = [some (.ref a), some (.ref p), v2, v3, v4, v5, v6, v7, v8, v9, v10, v11]) ⟨none, none, none, none, none, none, none, none, none, none, P10.more (by omega) (by omega), rfl⟩ ?_ ?_
    · rintro i σ H11 hi ⟨v2, v3, v4, v5, v6, v7, v8, v9, v10, v11, P11, rfl⟩
      refine ⟨_, rfl, p, c, ns, _, 6, rfl, P11, by decide, by decide, by omega, fun l r H12 hrl hrx P12 b12 nl hl12 => ?_⟩
      refine ⟨_, rfl, p, c, ns, _, rfl, P12, by omega, fun st H13 hst P13 b13 => ?_⟩
      refine ⟨_, rfl, p, c, ns, _, 6, rfl, P13, by omega, by decide, lit _ (by decide) (by decide), fun d H14 d0 d6 P14 b14 => ?_⟩
      refine ⟨(by show 3 ≤ sizeLine; decide), fun t3 ht3 => ⟨t3, _, rfl, SqT.of upd_same, rfl, _, _, rfl, _, _, rfl, _, _, rfl, rfl, ?_⟩⟩
      obtain ⟨cn, rfl⟩ := Int.eq_ofNat_of_zero_le d0
      have nlp : l ≠ p := P11.nep nl
      have P15 := P14.new (u := .tup [.ref l, .int st, .int (cn : Int)]) ht3
      have hl15 : (upd H14 t3 (.tup [.ref l, .int st, .int (cn : Int)])) l = some (.lst (r.map V.int)) := same_new (Same.refl _) _ ht3 _ _ (b14 _ _ (b13 _ _ hl12 nlp) nlp)
      generalize upd H14 t3 (.tup [.ref l, .int st, .int (cn : Int)]) = H15 at P15 hl15
      clear hl12 P12 b12 P13 b13 P14 b14 nl ht3 P11
      refine ⟨_, rfl, l, r, rfl, SqL.of hl15, by omega, fun du H16 s16 nd16 hdu16 => ?_⟩
      -- the size
      refine ⟨_, rfl, _, rfl, l, _, rfl, .inl (SqL.of (s16 _ _ hl15)), fun l1 hl1 => ?_⟩
      have sA := same_new (Same.refl H16) (.lst (r.map V.int)) hl1
      refine ⟨_, rfl, l, _, rfl, .inl ⟨SqL.of (sA _ _ (s16 _ _ hl15)), fun t1 ht1 => ?_⟩⟩
      have sB := same_new (Same.refl (upd H16 l1 (.lst (r.map V.int)))) (.tup (r.map V.int)) ht1
      refine ⟨(by show 2 ≤ sizeLine; decide), fun o1 ho1 => ?_⟩
      have sC := same_new (Same.refl (upd (upd H16 l1 (.lst (r.map V.int))) t1 (.tup (r.map V.int)))) (.lst [.ref l1, .ref t1]) ho1
      have P17 := (((P15.same s16).same sA).same sB).same sC
      refine ⟨p, c, ns, _, o1, [.ref l1, .ref t1], rfl, P17, by omega, .inl (SqL.of upd_same), Nat.succ_pos _, (by show 2 ≤ 1000; decide), fun x hx H18 P18 b18 => ?_⟩
      obtain ⟨b, rfl, hb⟩ : ∃ b, x = .ref b ∧ SeqI K H18 b r := by
        rcases List.mem_cons.mp hx with q | q
        · exact ⟨l1, q, .inl (P17.sqL b18 (SqL.of (sC _ _ (sB _ _ upd_same))))⟩
        · exact ⟨t1, List.mem_singleton.mp q, .inr (P17.sqT b18 (SqT.of (sC _ _ upd_same)))⟩
      have hl18 : SqL K H18 l (r.map V.int) := P17.sqL b18 (SqL.of (sC _ _ (sB _ _ (sA _ _ (s16 _ _ hl15)))))
      have hdu18 : SqT K H18 du ((M.cut r).map V.int) := P17.sqT b18 (SqT.of (sC _ _ (sB _ _ (sA _ _ hdu16))))
      clear hdu16 hl15 P15 s16 sA sB sC P17 b18 nd16 hx hl1 ht1 ho1
      refine fun sz dsz nxz ndz nez => madeQ hb (by omega) nxz ndz nez fun H19 s19 hsz => ⟨rfl, ?_⟩
      have P19 := P18.same s19
      have hl19 := s19.seq hl18
      have hdu19 := sqT_same s19 hdu18
      clear hl18 hdu18 hb P18 s19 nxz ndz nez
      refine ⟨_, rfl, _, rfl, sz, du, _, rfl, hsz, hdu19, fun H20 s20 => ⟨true, rfl, iteF ?_⟩⟩
      have P20 := P19.same s20
      have hl20 := s20.seq hl19
      have hdu20 := sqT_same s20 hdu19
      have hsz20 := hsz.same s20
      clear hsz hl19 hdu19 P19 s20
      obtain ⟨dxs, ts, gs, gst, gsl⟩ := id hsz20
      refine ⟨_, rfl, sz, dxs, _, rfl, gs, sz, _, rfl, hsz20, _, rfl, true, rfl, iteF ?_⟩
      refine ⟨_, rfl, sz, dxs, _, rfl, gs, sz, _, rfl, hsz20, _, rfl, du, _, rfl, .inr hdu20, _, _, rfl, rfl, rfl, false, ?_, iteF ?_⟩
      · rw [List.length_map]
        simp
      have P20' := P20
      refine ⟨_, rfl, p, c, ns, _, rfl, P20, by omega, fun f1 H21 f10 hf1 P21 b21 => ?_⟩
      refine ⟨_, rfl, p, c, ns, _, rfl, P21, by omega, fun f2 H22 f20 hf2 P22 b22 => ⟨f2, rfl, ?_⟩⟩
      refine ⟨_, rfl, p, c, ns, _, 4, rfl, P22, by omega, by decide, lit _ (by decide) (by decide), fun d2 H23 e0 e4 P23 b23 => ?_⟩
      refine ⟨_, rfl, (by show 4 ≤ sizeLine; decide), fun o2 ho2 => ?_⟩
      have P24 := P23.new (u := .lst [.int f1, .int (-f2), .int d2, .int st]) ho2
      have sO := same_new (Same.refl H23) (.lst [.int f1, .int (-f2), .int d2, .int st]) ho2
      have b24 : But p H20 (upd H23 o2 (.lst [.int f1, .int (-f2), .int d2, .int st])) := ((b21.trans b22).trans b23).trans (same_but sO)
      have hl24 := P20.sqL b24 hl20
      have hsz24 := P20.size b24 hsz20
      have ho24 : (upd H23 o2 (.lst [.int f1, .int (-f2), .int d2, .int st])) o2 = some (.lst [.int f1, .int (-f2), .int d2, .int st]) := upd_same
      generalize upd H23 o2 (.lst [.int f1, .int (-f2), .int d2, .int st]) = H24 at P24 hl24 hsz24 ho24
      clear sO b24 P23 b23 P22 b22 P21 b21 P20 P20' hl20 hsz20 hdu20 gs gst gsl ho2
      refine ⟨o2, rfl, ⟨_, SqL.of ho24⟩, ?_⟩
      have hr6 : r.length ≤ 6 := by omega
      have hcl : (M.cut r).length ≤ 6 := Nat.le_trans (cut_len r) hr6
      have hcx : ∀ y ∈ M.cut r, Sz 9000 y := fun y hy => (hrx y (List.mem_of_mem_take hy)).mono (by decide)
      refine for_list (K := K) (a := o2) (xs := [.int f1, .int (-f2), .int d2, .int st]) (fun j σ H' => ∃ v8 : Option V, Same H24 H' ∧ σ = [some (.ref a), some (.ref p), some (.int (0 + (i : Int))), some (.ref l), some (.int st), some (.int (cn : Int)), some (.ref du), some (.ref sz), v8, v9, v10, v11]) ⟨v8, Same.refl _, rfl⟩ ?_ ?_ ?_
      · rintro j σ H' hj ⟨w8, s25, rfl⟩
        exact s25.seq (SqL.of ho24)
      · rintro j x σ H25 hx ⟨w8, s25, rfl⟩
        obtain ⟨n, rfl, hn⟩ : ∃ n, x = .int n ∧ Sz 400 n := by
          have hm := List.mem_of_getElem? hx
          rcases List.mem_cons.mp hm with q | hm
          · exact ⟨f1, q, hf1.mono (by decide)⟩
          rcases List.mem_cons.mp hm with q | hm
          · exact ⟨-f2, q, hf2.neg.mono (by decide)⟩
          rcases List.mem_cons.mp hm with q | hm
          · exact ⟨d2, q, by unfold Sz; exact Nat.lt_of_lt_of_le (by omega : d2.natAbs < 2 ^ 2) (Nat.pow_le_pow_right (by decide) (by decide))⟩
          · exact ⟨st, List.mem_singleton.mp hm, hst.mono (by decide)⟩
        have hsz25 := hsz24.same s25
        obtain ⟨dy, ty, gy, _, _⟩ := id hsz25
        refine ⟨_, rfl, sz, dy, _, rfl, _, rfl, gy, sz, _, n, rfl, hsz25, by omega, hcx, hn, fun H26 s26 => ⟨_, rfl, true, rfl, iteF ?_⟩⟩
        refine ⟨_, rfl, sz, dy, _, rfl, _, rfl, s26 _ _ gy, sz, _, n, rfl, hsz25.same s26, by omega, hcx, hn, fun H27 s27 => ?_⟩
        refine ⟨_, rfl, _, rfl, l, r, n, rfl, .inl (s27.seq (s26.seq (s25.seq hl24))), by omega, fun y hy => (hrx y hy).mono (by decide), hn, fun H28 s28 => ⟨rfl, false, ?_, iteF ?_⟩⟩
        · rw [M.cut_val]
          simp
        · exact ⟨_, ((s25.trans s26).trans s27).trans s28, rfl⟩
      rintro σ H25 ⟨w8, s25, rfl⟩
      have P25 := P24.same s25
      have hl25 := s25.seq hl24
      clear s25 P24 hl24 hsz24 ho24 hcx hcl hf1 hf2
      -- through
      refine ⟨rfl, _, rfl, _, rfl, _, rfl, l, _, rfl, .inl hl25, fun l2 hl2 => ?_⟩
      have sA := same_new (Same.refl H25) (.lst (r.map V.int)) hl2
      refine ⟨_, rfl, l, _, rfl, .inl ⟨sA.seq hl25, fun t2 ht2 => ?_⟩⟩
      have sB := same_new (Same.refl (upd H25 l2 (.lst (r.map V.int)))) (.tup (r.map V.int)) ht2
      refine ⟨(by show 2 ≤ sizeLine; decide), fun o3 ho3 => ?_⟩
      have sC := same_new (Same.refl (upd (upd H25 l2 (.lst (r.map V.int))) t2 (.tup (r.map V.int)))) (.lst [.ref l2, .ref t2]) ho3
      have P26 := ((P25.same sA).same sB).same sC
      refine ⟨p, c, ns, _, o3, [.ref l2, .ref t2], rfl, P26, by omega, .inl (SqL.of upd_same), Nat.succ_pos _, (by show 2 ≤ 1000; decide), fun x hx H27 P27 b27 => ?_⟩
      obtain ⟨b, rfl, hb⟩ : ∃ b, x = .ref b ∧ SeqI K H27 b r := by
        rcases List.mem_cons.mp hx with q | q
        · exact ⟨l2, q, .inl (P26.sqL b27 (SqL.of (sC _ _ (sB _ _ upd_same))))⟩
        · exact ⟨t2, List.mem_singleton.mp q, .inr (P26.sqT b27 (SqT.of (sC _ _ upd_same)))⟩
      have hl27 : SqL K H27 l (r.map V.int) := P26.sqL b27 (sC.seq (sB.seq (sA.seq hl25)))
      clear hl25 P25 sA sB sC P26 b27 hx hl2 ht2 ho3
      refine ⟨st, b, r, rfl, hb, by omega, fun y hy => (hrx y hy).mono (by decide), hst.mono (by decide), fun zp H28 s28 _ hzp => ?_⟩
      have P28 := P27.same s28
      have hl28 := s28.seq hl27
      clear hl27 P27 s28 hb
      refine ⟨_, rfl, l, r, rfl, hl28, by omega, fun nr H29 s29 _ hnr => ?_⟩
      have P29 := P28.same s29
      have hl29 := s29.seq hl28
      have hzp29 := hzp.same s29
      clear hl28 P28 s29 hzp
      have hthl : (M.thr r).length ≤ 6 := by rw [M.thr_len]; exact hr6
      have hthx : ∀ y ∈ M.thr r, Sz 206 y := fun y hy => (thr_sz r.length r 200 rfl hrx y hy).mono (by omega)
      have hnl : (M.cut (M.thr r)).length ≤ 6 := Nat.le_trans (cut_len _) hthl
      have szk : ∀ k : Nat, k < r.length → Sz 5 (k : Int) := fun k hk => by unfold Sz; omega
      refine ⟨_, rfl, _, rfl, l, _, rfl, .inl hl29, (r.length : Int), ?_, by omega, by omega, fun D hD => ?_⟩
      · rw [List.length_map]
      rw [show (r.length : Int).toNat = r.length by omega]
      refine ZK.lc_growR r.length (small1000 (by omega)) (fun _ H' => Same H29 H') (fun i y => y = .int (M.val (M.cut (M.thr r)) ((i : Int) - st))) (same_new (Same.refl _) _ hD) ?_ ?_
      · intro k H30 acc hk s30 hacc hal hR Qn hq
        refine ⟨rfl, _, rfl, _, rfl, _, rfl, _, _, rfl, rfl, nr, M.cut (M.thr r), (k : Int) - st, ?_, .inr (sqT_same s30 (SqT.of hnr)), by omega, fun y hy => (hthx y (List.mem_of_mem_take hy)).mono (by decide), ((szk k hk).mono (by decide)).sub hst |>.mono (by decide), fun H31 s31 => hq _ _ rfl (s31 _ _ hacc) (same_but_new (s30.trans s31) hD)⟩
        rw [Int.zero_add]
        rfl
      intro H30 acc s30 hacc hal hR
      have e30 := ZK.eq_map hal hR
      refine ⟨D, M.vals (fun n => M.val (M.cut (M.thr r)) (n - st)) r.length, rfl, SqL.of ?_, ?_, fun t4 H31 s31 _ ht4 => ?_⟩
      · rw [hacc, e30]
        unfold M.vals
        rw [List.map_map]
        rfl
      · rw [M.vals_len]
        omega
      have hzp31 := (hzp29.same s30).same s31
      refine ⟨zp, t4, _, rfl, hzp31, SqT.of ?_, fun H32 s32 => ⟨true, rfl, iteF ?_⟩⟩
      · rw [M.through_law]
        exact ht4
      have P32 := ((P29.same s30).same s31).same s32
      have hl32 := s32.seq (s31.seq (s30.seq hl29))
      have hzp32 := hzp31.same s32
      clear P29 hl29 hzp29 hzp31 ht4 s30 s31 s32 e30 hR hacc hnr hD hal
      -- its values
      have hms : (M.cut (M.ah (M.thr r) (-st))).length ≤ 6 := by
        refine Nat.le_trans (cut_len _) ?_
        rw [M.ah_len]
        exact hthl
      have hmx : ∀ y ∈ M.cut (M.ah (M.thr r) (-st)), Sz 9000 y := fun y hy => by
        have hy2 := List.mem_of_mem_take hy
        rw [← M.ah_eq] at hy2
        obtain ⟨j, _, rfl⟩ := List.mem_map.mp hy2
        refine (val_sz (hst.neg.mono (by decide)) (by rw [List.length_drop]; omega) fun x hx => (hthx x (List.mem_of_mem_drop hx)).mono (by decide)).mono (by decide)
      obtain ⟨dz, tz, gz, gzt, gzl⟩ := id hzp32
      refine ⟨_, rfl, l, _, rfl, .inl hl32, (r.length : Int), ?_, by omega, by omega, fun D hD => ?_⟩
      · rw [List.length_map]
      rw [show (r.length : Int).toNat = r.length by omega]
      refine ZK.lc_growR (te := fun σ H Q => tVar 9 σ H fun y H1 => ∃ a dx fs, y = .ref a ∧ tCons (tOp (rI0 fun i j => V.int (i + j)) (tVar 4) (tVar 11)) tNil σ H1 fun vs H2 => H2 a = some (.ins C_Size dx fs) ∧ spCall K C_Size (.ref a :: vs) H2 Q E0) r.length (small1000 (by omega)) (fun _ H' => Same H32 H') (fun i y => y = .int (M.val (M.cut (M.ah (M.thr r) (-st))) (st + (i : Int)))) (same_new (Same.refl _) _ hD) ?_ ?_
      · intro k H33 acc hk s33 hacc hal hR Qn hq
        refine ⟨rfl, _, rfl, zp, dz, _, rfl, _, rfl, _, rfl, _, _, rfl, rfl, s33 _ _ gz, zp, _, st + (k : Int), ?_, hzp32.same s33, by omega, hmx, (hst.add ((szk k hk).mono (b := 200) (by decide))).mono (by decide), fun H34 s34 => hq _ _ rfl (s34 _ _ hacc) (same_but_new (s33.trans s34) hD)⟩
        rw [Int.zero_add]
      intro H33 acc s33 hacc hal hR
      have e33 := ZK.eq_map hal hR
      have e34 : acc = r.map V.int := by
        rw [e33]
        refine List.ext_getElem? fun k => ?_
        by_cases hk : k < r.length
        · rw [List.getElem?_map, List.getElem?_map, List.getElem?_range hk, M.through_back r st k hk]
          rfl
        · rw [List.getElem?_eq_none (by simp; omega), List.getElem?_eq_none (by simp; omega)]
      refine ⟨_, rfl, _, _, dp_lst (r := r) (SqL.of (by rw [hacc, e34])), dp_lst (s33.seq hl32), shaped_lst _, shaped_lst _, false, ?_, iteF ?_⟩
      · rw [eqv_lst, decide_eq_true rfl]
        rfl
      have P33 := P32.same s33
      clear P32 hl32 hzp32 gz gzt gzl e33 e34 s33 hacc hal hR hD
      -- falling
      refine ⟨rfl, _, rfl, _, rfl, cn, st, rfl, by omega, hst.mono (by decide), fun z1 H34 s34 _ hz1 => ?_⟩
      refine ⟨_, rfl, _, rfl, cn, st, rfl, by omega, hst.mono (by decide), fun t5 H35 s35 _ ht5 => ?_⟩
      refine ⟨z1, t5, _, rfl, hz1.same s35, SqT.of ?_, fun H36 s36 => ⟨true, rfl, iteF ?_⟩⟩
      · rw [M.falling_law]
        exact ht5
      have P36 := ((P33.same s34).same s35).same s36
      clear P33 hz1 ht5 s34 s35 s36
      refine ⟨rfl, _, rfl, cn, 0, rfl, by omega, (by unfold Sz; exact Nat.two_pow_pos _), fun z2 H37 s37 _ hz2 => ?_⟩
      refine ⟨_, rfl, cn, 0, rfl, by omega, (by unfold Sz; exact Nat.two_pow_pos _), fun t6 H38 s38 _ ht6 => ?_⟩
      refine ⟨z2, t6, _, rfl, hz2.same s38, SqT.of ?_, fun H39 s39 => ⟨true, rfl, iteF ?_⟩⟩
      · rw [M.falling_law]
        exact ht6
      exact ⟨_, _, _, _, _, _, _, _, _, _, (((P36.same s37).same s38).same s39).more (by omega) (by omega), rfl⟩
    · rintro σ H11 ⟨v2, v3, v4, v5, v6, v7, v8, v9, v10, v11, P11, rfl⟩
      exact k _
end
end EN

namespace EN
open PySem L2 PyProof.Rows
section
variable {P : Program} {w : World} {K : PySem.W.Frag} {mg : Str → Option Value} {base : Heap} {f : Addr} {fd : FuncData}
theorem has_of {h : Heap} {x : Str} {st : Stmt} {k : Nat} {ps : List Str} {sp : Sp} (X : K.In h) (G : h.Ns mainGlobals mg) (F : Fun K x x st f fd) (a : PySem.W.nsIn K mainGlobals x = some (some (.ref f))) (ok : FnOk P w K mg base CX0 k f fd ps sp) (b : Binds K fd ps []) : Has P w K mg base k x ps sp := ⟨f, fd, ok, PySem.W.mg_of X G a, F.kp, b⟩
theorem rawN {k : Nat} {ps : List Str} {sp : Sp} (ok : FnOk P w K mg base CX0 k f fd ps sp) (b : Binds K fd ps []) : FnR P w K mg base CX0 k f sp := by
  have r := ok.raw b .nil
  refine FnR.imp r fun vs H Q E hs => ?_
  rw [List.append_nil]
  exact hs
end
section
theorem all_mk {l : PySem.W.OpenLaw} {w : World} {K : PySem.W.Frag} {h : Heap} {mg : Str → Option Value} {fa C T0 TI TF pP pT pF : Addr} (X : K.In h) (G : h.Ns mainGlobals mg) (hfa : mg "law" = some (.ref fa))
    {f_pen f_draw f_pick f_lwhole f_great f_integer f_far f_choose f_lat f_cut f_lrowof f_lrow f_sizeis f_frow f_is_whole f_check_whole f_check_from f_check_wholes f_chooses f_row_value f_row_through f_row_ahead f_trimmed f_law f_sinit f_sthrough f_sfalling f_sdegree f_scall : Addr} {odT0 odTI odTF od_pen an_pen od_draw an_draw od_pick an_pick od_lwhole an_lwhole od_great an_great od_integer an_integer od_far an_far od_choose an_choose od_lat an_lat od_cut an_cut od_lrowof an_lrowof od_lrow an_lrow od_sizeis an_sizeis od_frow an_frow od_is_whole an_is_whole od_check_whole an_check_whole od_check_from an_check_from od_check_wholes an_check_wholes od_chooses an_chooses od_row_value an_row_value od_row_through an_row_through od_row_ahead an_row_ahead od_trimmed an_trimmed od_law an_law od_sinit an_sinit od_sthrough an_sthrough od_sfalling an_sfalling od_sdegree an_sdegree od_scall an_scall : Option Addr} {slT0 slTI slTF sl_pen sl_draw sl_pick sl_lwhole sl_great sl_integer sl_far sl_choose sl_lat sl_cut sl_lrowof sl_lrow sl_sizeis sl_frow sl_is_whole sl_check_whole sl_check_from sl_check_wholes sl_chooses sl_row_value sl_row_through sl_row_ahead sl_trimmed sl_law sl_sinit sl_sthrough sl_sfalling sl_sdegree sl_scall : Array (Option Value)}
    {ocTI ocTF oc_pen kV_pen dc_pen pm_pen cd_pen ct_pen oc_draw kV_draw dc_draw pm_draw cd_draw ct_draw oc_pick kV_pick dc_pick pm_pick cd_pick ct_pick oc_lwhole kV_lwhole dc_lwhole pm_lwhole cd_lwhole ct_lwhole oc_great kV_great dc_great pm_great cd_great ct_great oc_integer kV_integer dc_integer pm_integer cd_integer ct_integer oc_far kV_far dc_far pm_far cd_far ct_far oc_choose kV_choose dc_choose pm_choose cd_choose ct_choose oc_lat kV_lat dc_lat pm_lat cd_lat ct_lat oc_cut kV_cut dc_cut pm_cut cd_cut ct_cut oc_lrowof kV_lrowof dc_lrowof pm_lrowof cd_lrowof ct_lrowof oc_lrow kV_lrow dc_lrow pm_lrow cd_lrow ct_lrow oc_sizeis kV_sizeis dc_sizeis pm_sizeis cd_sizeis ct_sizeis oc_frow kV_frow dc_frow pm_frow cd_frow ct_frow oc_is_whole kV_is_whole dc_is_whole pm_is_whole cd_is_whole ct_is_whole oc_check_whole kV_check_whole dc_check_whole pm_check_whole cd_check_whole ct_check_whole oc_check_from kV_check_from dc_check_from pm_check_from cd_check_from ct_check_from oc_check_wholes kV_check_wholes dc_check_wholes pm_check_wholes cd_check_wholes ct_check_wholes oc_chooses kV_chooses dc_chooses pm_chooses cd_chooses ct_chooses oc_row_value kV_row_value dc_row_value pm_row_value cd_row_value ct_row_value oc_row_through kV_row_through dc_row_through pm_row_through cd_row_through ct_row_through oc_row_ahead kV_row_ahead dc_row_ahead pm_row_ahead cd_row_ahead ct_row_ahead oc_trimmed kV_trimmed dc_trimmed pm_trimmed cd_trimmed ct_trimmed oc_law kV_law dc_law pm_law cd_law ct_law oc_sinit kV_sinit dc_sinit pm_sinit cd_sinit ct_sinit oc_sthrough kV_sthrough dc_sthrough pm_sthrough cd_sthrough ct_sthrough oc_sfalling kV_sfalling dc_sfalling pm_sfalling cd_sfalling ct_sfalling oc_sdegree kV_sdegree dc_sdegree pm_sdegree cd_sdegree ct_sdegree oc_scall kV_scall dc_scall pm_scall cd_scall ct_scall : Value} {nT0 nTI nTF : Nat} {kF : Tok} {rP rT rF : List Value}
    (aC : PySem.W.nsIn K mainGlobals "Size" = some (some (.ref C)))
    (a_pen : PySem.W.nsIn K mainGlobals "_law_pen" = some (some (.ref f_pen)))
    (l_pen : K.lookup f_pen = some ⟨oc_pen, od_pen, .func (PySem.W.fnOf "_law_pen" "_law_pen" (defArgs s_pen) (defBody s_pen) (defScope s_pen) .none kV_pen dc_pen pm_pen an_pen cd_pen ct_pen), sl_pen⟩)
    (c_pen : PySem.W.codeIn K cd_pen "_law_pen" = true)
    (k_pen : PySem.W.keepIn K (.ref f_pen) = true)
    (a_draw : PySem.W.nsIn K mainGlobals "_law_draw" = some (some (.ref f_draw)))
    (l_draw : K.lookup f_draw = some ⟨oc_draw, od_draw, .func (PySem.W.fnOf "_law_draw" "_law_draw" (defArgs s_draw) (defBody s_draw) (defScope s_draw) .none kV_draw dc_draw pm_draw an_draw cd_draw ct_draw), sl_draw⟩)
    (c_draw : PySem.W.codeIn K cd_draw "_law_draw" = true)
    (k_draw : PySem.W.keepIn K (.ref f_draw) = true)
    (a_pick : PySem.W.nsIn K mainGlobals "_law_pick" = some (some (.ref f_pick)))
    (l_pick : K.lookup f_pick = some ⟨oc_pick, od_pick, .func (PySem.W.fnOf "_law_pick" "_law_pick" (defArgs s_pick) (defBody s_pick) (defScope s_pick) .none kV_pick dc_pick pm_pick an_pick cd_pick ct_pick), sl_pick⟩)
    (c_pick : PySem.W.codeIn K cd_pick "_law_pick" = true)
    (k_pick : PySem.W.keepIn K (.ref f_pick) = true)
    (a_lwhole : PySem.W.nsIn K mainGlobals "_law_whole" = some (some (.ref f_lwhole)))
    (l_lwhole : K.lookup f_lwhole = some ⟨oc_lwhole, od_lwhole, .func (PySem.W.fnOf "_law_whole" "_law_whole" (defArgs s_lwhole) (defBody s_lwhole) (defScope s_lwhole) .none kV_lwhole dc_lwhole pm_lwhole an_lwhole cd_lwhole ct_lwhole), sl_lwhole⟩)
    (c_lwhole : PySem.W.codeIn K cd_lwhole "_law_whole" = true)
    (k_lwhole : PySem.W.keepIn K (.ref f_lwhole) = true)
    (a_great : PySem.W.nsIn K mainGlobals "_law_great" = some (some (.ref f_great)))
    (l_great : K.lookup f_great = some ⟨oc_great, od_great, .func (PySem.W.fnOf "_law_great" "_law_great" (defArgs s_great) (defBody s_great) (defScope s_great) .none kV_great dc_great pm_great an_great cd_great ct_great), sl_great⟩)
    (c_great : PySem.W.codeIn K cd_great "_law_great" = true)
    (k_great : PySem.W.keepIn K (.ref f_great) = true)
    (a_integer : PySem.W.nsIn K mainGlobals "_law_integer" = some (some (.ref f_integer)))
    (l_integer : K.lookup f_integer = some ⟨oc_integer, od_integer, .func (PySem.W.fnOf "_law_integer" "_law_integer" (defArgs s_integer) (defBody s_integer) (defScope s_integer) .none kV_integer dc_integer pm_integer an_integer cd_integer ct_integer), sl_integer⟩)
    (c_integer : PySem.W.codeIn K cd_integer "_law_integer" = true)
    (k_integer : PySem.W.keepIn K (.ref f_integer) = true)
    (a_far : PySem.W.nsIn K mainGlobals "_law_far" = some (some (.ref f_far)))
    (l_far : K.lookup f_far = some ⟨oc_far, od_far, .func (PySem.W.fnOf "_law_far" "_law_far" (defArgs s_far) (defBody s_far) (defScope s_far) .none kV_far dc_far pm_far an_far cd_far ct_far), sl_far⟩)
    (c_far : PySem.W.codeIn K cd_far "_law_far" = true)
    (k_far : PySem.W.keepIn K (.ref f_far) = true)
    (a_choose : PySem.W.nsIn K mainGlobals "_law_choose" = some (some (.ref f_choose)))
    (l_choose : K.lookup f_choose = some ⟨oc_choose, od_choose, .func (PySem.W.fnOf "_law_choose" "_law_choose" (defArgs s_choose) (defBody s_choose) (defScope s_choose) .none kV_choose dc_choose pm_choose an_choose cd_choose ct_choose), sl_choose⟩)
    (c_choose : PySem.W.codeIn K cd_choose "_law_choose" = true)
    (k_choose : PySem.W.keepIn K (.ref f_choose) = true)
    (a_lat : PySem.W.nsIn K mainGlobals "_law_at" = some (some (.ref f_lat)))
    (l_lat : K.lookup f_lat = some ⟨oc_lat, od_lat, .func (PySem.W.fnOf "_law_at" "_law_at" (defArgs s_lat) (defBody s_lat) (defScope s_lat) .none kV_lat dc_lat pm_lat an_lat cd_lat ct_lat), sl_lat⟩)
    (c_lat : PySem.W.codeIn K cd_lat "_law_at" = true)
    (k_lat : PySem.W.keepIn K (.ref f_lat) = true)
    (a_cut : PySem.W.nsIn K mainGlobals "_law_cut" = some (some (.ref f_cut)))
    (l_cut : K.lookup f_cut = some ⟨oc_cut, od_cut, .func (PySem.W.fnOf "_law_cut" "_law_cut" (defArgs s_cut) (defBody s_cut) (defScope s_cut) .none kV_cut dc_cut pm_cut an_cut cd_cut ct_cut), sl_cut⟩)
    (c_cut : PySem.W.codeIn K cd_cut "_law_cut" = true)
    (k_cut : PySem.W.keepIn K (.ref f_cut) = true)
    (a_lrowof : PySem.W.nsIn K mainGlobals "_law_row_of" = some (some (.ref f_lrowof)))
    (l_lrowof : K.lookup f_lrowof = some ⟨oc_lrowof, od_lrowof, .func (PySem.W.fnOf "_law_row_of" "_law_row_of" (defArgs s_lrowof) (defBody s_lrowof) (defScope s_lrowof) .none kV_lrowof dc_lrowof pm_lrowof an_lrowof cd_lrowof ct_lrowof), sl_lrowof⟩)
    (c_lrowof : PySem.W.codeIn K cd_lrowof "_law_row_of" = true)
    (k_lrowof : PySem.W.keepIn K (.ref f_lrowof) = true)
    (a_lrow : PySem.W.nsIn K mainGlobals "_law_row" = some (some (.ref f_lrow)))
    (l_lrow : K.lookup f_lrow = some ⟨oc_lrow, od_lrow, .func (PySem.W.fnOf "_law_row" "_law_row" (defArgs s_lrow) (defBody s_lrow) (defScope s_lrow) .none kV_lrow dc_lrow pm_lrow an_lrow cd_lrow ct_lrow), sl_lrow⟩)
    (c_lrow : PySem.W.codeIn K cd_lrow "_law_row" = true)
    (k_lrow : PySem.W.keepIn K (.ref f_lrow) = true)
    (a_sizeis : PySem.W.nsIn K mainGlobals "_law_size_is" = some (some (.ref f_sizeis)))
    (l_sizeis : K.lookup f_sizeis = some ⟨oc_sizeis, od_sizeis, .func (PySem.W.fnOf "_law_size_is" "_law_size_is" (defArgs s_sizeis) (defBody s_sizeis) (defScope s_sizeis) .none kV_sizeis dc_sizeis pm_sizeis an_sizeis cd_sizeis ct_sizeis), sl_sizeis⟩)
    (c_sizeis : PySem.W.codeIn K cd_sizeis "_law_size_is" = true)
    (k_sizeis : PySem.W.keepIn K (.ref f_sizeis) = true)
    (a_frow : PySem.W.nsIn K mainGlobals "_law_falling_row" = some (some (.ref f_frow)))
    (l_frow : K.lookup f_frow = some ⟨oc_frow, od_frow, .func (PySem.W.fnOf "_law_falling_row" "_law_falling_row" (defArgs s_frow) (defBody s_frow) (defScope s_frow) .none kV_frow dc_frow pm_frow an_frow cd_frow ct_frow), sl_frow⟩)
    (c_frow : PySem.W.codeIn K cd_frow "_law_falling_row" = true)
    (k_frow : PySem.W.keepIn K (.ref f_frow) = true)
    (a_is_whole : PySem.W.nsIn K mainGlobals "is_whole" = some (some (.ref f_is_whole)))
    (l_is_whole : K.lookup f_is_whole = some ⟨oc_is_whole, od_is_whole, .func (PySem.W.fnOf "is_whole" "is_whole" (defArgs s_is_whole) (defBody s_is_whole) (defScope s_is_whole) .none kV_is_whole dc_is_whole pm_is_whole an_is_whole cd_is_whole ct_is_whole), sl_is_whole⟩)
    (c_is_whole : PySem.W.codeIn K cd_is_whole "is_whole" = true)
    (k_is_whole : PySem.W.keepIn K (.ref f_is_whole) = true)
    (a_check_whole : PySem.W.nsIn K mainGlobals "check_whole" = some (some (.ref f_check_whole)))
    (l_check_whole : K.lookup f_check_whole = some ⟨oc_check_whole, od_check_whole, .func (PySem.W.fnOf "check_whole" "check_whole" (defArgs s_check_whole) (defBody s_check_whole) (defScope s_check_whole) .none kV_check_whole dc_check_whole pm_check_whole an_check_whole cd_check_whole ct_check_whole), sl_check_whole⟩)
    (c_check_whole : PySem.W.codeIn K cd_check_whole "check_whole" = true)
    (k_check_whole : PySem.W.keepIn K (.ref f_check_whole) = true)
    (a_check_from : PySem.W.nsIn K mainGlobals "check_from" = some (some (.ref f_check_from)))
    (l_check_from : K.lookup f_check_from = some ⟨oc_check_from, od_check_from, .func (PySem.W.fnOf "check_from" "check_from" (defArgs s_check_from) (defBody s_check_from) (defScope s_check_from) .none kV_check_from dc_check_from pm_check_from an_check_from cd_check_from ct_check_from), sl_check_from⟩)
    (c_check_from : PySem.W.codeIn K cd_check_from "check_from" = true)
    (k_check_from : PySem.W.keepIn K (.ref f_check_from) = true)
    (a_check_wholes : PySem.W.nsIn K mainGlobals "check_wholes" = some (some (.ref f_check_wholes)))
    (l_check_wholes : K.lookup f_check_wholes = some ⟨oc_check_wholes, od_check_wholes, .func (PySem.W.fnOf "check_wholes" "check_wholes" (defArgs s_check_wholes) (defBody s_check_wholes) (defScope s_check_wholes) .none kV_check_wholes dc_check_wholes pm_check_wholes an_check_wholes cd_check_wholes ct_check_wholes), sl_check_wholes⟩)
    (c_check_wholes : PySem.W.codeIn K cd_check_wholes "check_wholes" = true)
    (k_check_wholes : PySem.W.keepIn K (.ref f_check_wholes) = true)
    (a_chooses : PySem.W.nsIn K mainGlobals "chooses" = some (some (.ref f_chooses)))
    (l_chooses : K.lookup f_chooses = some ⟨oc_chooses, od_chooses, .func (PySem.W.fnOf "chooses" "chooses" (defArgs s_chooses) (defBody s_chooses) (defScope s_chooses) .none kV_chooses dc_chooses pm_chooses an_chooses cd_chooses ct_chooses), sl_chooses⟩)
    (c_chooses : PySem.W.codeIn K cd_chooses "chooses" = true)
    (k_chooses : PySem.W.keepIn K (.ref f_chooses) = true)
    (a_row_value : PySem.W.nsIn K mainGlobals "row_value" = some (some (.ref f_row_value)))
    (l_row_value : K.lookup f_row_value = some ⟨oc_row_value, od_row_value, .func (PySem.W.fnOf "row_value" "row_value" (defArgs s_row_value) (defBody s_row_value) (defScope s_row_value) .none kV_row_value dc_row_value pm_row_value an_row_value cd_row_value ct_row_value), sl_row_value⟩)
    (c_row_value : PySem.W.codeIn K cd_row_value "row_value" = true)
    (k_row_value : PySem.W.keepIn K (.ref f_row_value) = true)
    (a_row_through : PySem.W.nsIn K mainGlobals "row_through" = some (some (.ref f_row_through)))
    (l_row_through : K.lookup f_row_through = some ⟨oc_row_through, od_row_through, .func (PySem.W.fnOf "row_through" "row_through" (defArgs s_row_through) (defBody s_row_through) (defScope s_row_through) .none kV_row_through dc_row_through pm_row_through an_row_through cd_row_through ct_row_through), sl_row_through⟩)
    (c_row_through : PySem.W.codeIn K cd_row_through "row_through" = true)
    (k_row_through : PySem.W.keepIn K (.ref f_row_through) = true)
    (a_row_ahead : PySem.W.nsIn K mainGlobals "row_ahead" = some (some (.ref f_row_ahead)))
    (l_row_ahead : K.lookup f_row_ahead = some ⟨oc_row_ahead, od_row_ahead, .func (PySem.W.fnOf "row_ahead" "row_ahead" (defArgs s_row_ahead) (defBody s_row_ahead) (defScope s_row_ahead) .none kV_row_ahead dc_row_ahead pm_row_ahead an_row_ahead cd_row_ahead ct_row_ahead), sl_row_ahead⟩)
    (c_row_ahead : PySem.W.codeIn K cd_row_ahead "row_ahead" = true)
    (k_row_ahead : PySem.W.keepIn K (.ref f_row_ahead) = true)
    (a_trimmed : PySem.W.nsIn K mainGlobals "trimmed" = some (some (.ref f_trimmed)))
    (l_trimmed : K.lookup f_trimmed = some ⟨oc_trimmed, od_trimmed, .func (PySem.W.fnOf "trimmed" "trimmed" (defArgs s_trimmed) (defBody s_trimmed) (defScope s_trimmed) .none kV_trimmed dc_trimmed pm_trimmed an_trimmed cd_trimmed ct_trimmed), sl_trimmed⟩)
    (c_trimmed : PySem.W.codeIn K cd_trimmed "trimmed" = true)
    (k_trimmed : PySem.W.keepIn K (.ref f_trimmed) = true)
    (a_law : PySem.W.nsIn K mainGlobals "law" = some (some (.ref f_law)))
    (l_law : K.lookup f_law = some ⟨oc_law, od_law, .func (PySem.W.fnOf "law" "law" (defArgs s_law) (defBody s_law) (defScope s_law) .none kV_law dc_law pm_law an_law cd_law ct_law), sl_law⟩)
    (c_law : PySem.W.codeIn K cd_law "law" = true)
    (k_law : PySem.W.keepIn K (.ref f_law) = true)
    (rd : PySem.W.readsIn K C (.type "type") = true)
    (ga : PySem.W.specialIn K (.ref C) "__getattribute__" = some (some (.builtin "type.__getattribute__")))
    (a_sinit : PySem.W.findIn K (.ref C) "__init__" = some (some (.ref f_sinit)))
    (i_sinit : PySem.W.isFn K (.ref f_sinit) = true)
    (a_scall : PySem.W.findIn K (.ref C) "__call__" = some (some (.ref f_scall)))
    (i_scall : PySem.W.isFn K (.ref f_scall) = true)
    (fi_scall : PySem.W.fnIn K f_scall = true)
    (pP_at : PySem.W.findIn K (.ref C) "degree" = some (some (.ref pP)))
    (pP_get : PySem.W.specialIn K (.ref pP) "__get__" = some (some (.builtin "property.__get__")))
    (pP_tak : PySem.W.takesIn K (.ref pP) = some true)
    (pP_rec : PySem.W.recIn K pP "property" = some (.ref f_sdegree :: rP))
    (pT_at : PySem.W.findCls K (.ref C) (.type "type") "through" = some (.get (.builtin "classmethod.__get__") (.ref pT) .none (.ref C)))
    (pT_rec : PySem.W.recIn K pT "classmethod" = some (.ref f_sthrough :: rT))
    (pT_fi : PySem.W.fnIn K f_sthrough = true)
    (pF_at : PySem.W.findCls K (.ref C) (.type "type") "falling" = some (.get (.builtin "staticmethod.__get__") (.ref pF) .none (.ref C)))
    (pF_rec : PySem.W.recIn K pF "staticmethod" = some (.ref f_sfalling :: rF))
    (l_sinit : K.lookup f_sinit = some ⟨oc_sinit, od_sinit, .func (PySem.W.fnOf "__init__" "Size.__init__" (defArgs s_sinit) (defBody s_sinit) (defScope s_sinit) (.ref TI) kV_sinit dc_sinit pm_sinit an_sinit cd_sinit ct_sinit), sl_sinit⟩)
    (c_sinit : PySem.W.codeIn K cd_sinit "Size.__init__" = true)
    (k_sinit : PySem.W.keepIn K (.ref f_sinit) = true)
    (l_sthrough : K.lookup f_sthrough = some ⟨oc_sthrough, od_sthrough, .func (PySem.W.fnOf "through" "Size.through" (defArgs s_sthrough) (defBody s_sthrough) (defScope s_sthrough) .none kV_sthrough dc_sthrough pm_sthrough an_sthrough cd_sthrough ct_sthrough), sl_sthrough⟩)
    (c_sthrough : PySem.W.codeIn K cd_sthrough "Size.through" = true)
    (k_sthrough : PySem.W.keepIn K (.ref f_sthrough) = true)
    (l_sfalling : K.lookup f_sfalling = some ⟨oc_sfalling, od_sfalling, .func (PySem.W.fnOf "falling" "Size.falling" (defArgs s_sfalling) (defBody s_sfalling) (defScope s_sfalling) (.ref TF) kV_sfalling dc_sfalling pm_sfalling an_sfalling cd_sfalling ct_sfalling), sl_sfalling⟩)
    (c_sfalling : PySem.W.codeIn K cd_sfalling "Size.falling" = true)
    (k_sfalling : PySem.W.keepIn K (.ref f_sfalling) = true)
    (l_sdegree : K.lookup f_sdegree = some ⟨oc_sdegree, od_sdegree, .func (PySem.W.fnOf "degree" "Size.degree" (defArgs s_sdegree) (defBody s_sdegree) (defScope s_sdegree) .none kV_sdegree dc_sdegree pm_sdegree an_sdegree cd_sdegree ct_sdegree), sl_sdegree⟩)
    (c_sdegree : PySem.W.codeIn K cd_sdegree "Size.degree" = true)
    (k_sdegree : PySem.W.keepIn K (.ref f_sdegree) = true)
    (l_scall : K.lookup f_scall = some ⟨oc_scall, od_scall, .func (PySem.W.fnOf "__call__" "Size.__call__" (defArgs s_scall) (defBody s_scall) (defScope s_scall) .none kV_scall dc_scall pm_scall an_scall cd_scall ct_scall), sl_scall⟩)
    (c_scall : PySem.W.codeIn K cd_scall "Size.__call__" = true)
    (k_scall : PySem.W.keepIn K (.ref f_scall) = true)
    (lTI : K.lookup TI = some ⟨ocTI, odTI, .seq #[.ref T0] nTI, slTI⟩)
    (lT0 : K.lookup T0 = some ⟨.type "tuple", odT0, .seq #[] nT0, slT0⟩)
    (lTF : K.lookup TF = some ⟨ocTF, odTF, .seq #[.int 0 kF] nTF, slTF⟩)
    (pg : PySem.W.plainGet K C Str.empty = true)
    (hd : PySem.W.hasDictIn K C = true)
    (po : PySem.W.plainOver K C = true)
    (sa : PySem.W.findIn K (.ref C) "__setattr__" = some (some (.builtin "object.__setattr__")))
    (mk : PySem.W.makesIn K C = true)
    (kC : PySem.W.keepIn K (.ref C) = true)
    (nR : PySem.W.findIn K (.ref C) "row" = some none)
    (aFac : PySem.W.nsIn K mainGlobals "factorial" = some (some (.builtin "math.factorial")))
    (z_list : PySem.W.nsIn K mainGlobals "list" = some none)
    (z_len : PySem.W.nsIn K mainGlobals "len" = some none)
    (z_int : PySem.W.nsIn K mainGlobals "int" = some none)
    (z_abs : PySem.W.nsIn K mainGlobals "abs" = some none)
    (z_range : PySem.W.nsIn K mainGlobals "range" = some none)
    (z_tuple : PySem.W.nsIn K mainGlobals "tuple" = some none)
    (z_isinstance : PySem.W.nsIn K mainGlobals "isinstance" = some none)
    (z_bool : PySem.W.nsIn K mainGlobals "bool" = some none)
    (z_all : PySem.W.nsIn K mainGlobals "all" = some none)
    (z_sum : PySem.W.nsIn K mainGlobals "sum" = some none)
    (z_zip : PySem.W.nsIn K mainGlobals "zip" = some none)
    (z_min : PySem.W.nsIn K mainGlobals "min" = some none)
    : ∃ fd : FuncData, (∀ (s : Shared) (v : Value), BindsTo s fd ⟨[v], []⟩ [("_law_script", v)]) ∧ ∀ base : Heap, K.In base → base.Ns mainGlobals mg → FnOk l.prog w K mg base CX0 6 fa fd ["_law_script"] (spLawH K) := by
  have e := hfa.symm.trans (PySem.W.mg_of X G a_law)
  cases e
  have T : Blt mg := ⟨PySem.W.mg_none_of X G z_list, PySem.W.mg_none_of X G z_len, PySem.W.mg_none_of X G z_int, PySem.W.mg_none_of X G z_abs, PySem.W.mg_none_of X G z_range, PySem.W.mg_none_of X G z_tuple, PySem.W.mg_none_of X G z_isinstance, PySem.W.mg_none_of X G z_bool, PySem.W.mg_none_of X G z_all, PySem.W.mg_none_of X G z_sum, PySem.W.mg_none_of X G z_zip, PySem.W.mg_none_of X G z_min⟩
  have cl : Cls K C := ⟨pg, hd, po, sa⟩
  have F_pen := fun_mk (st := s_pen) l_pen c_pen k_pen
  have b_pen := F_pen.binds (ps := ["_law_script"]) fun _ _ _ _ _ _ us hl => match us, hl with | [_], _ => rfl
  have F_draw := fun_mk (st := s_draw) l_draw c_draw k_draw
  have b_draw := F_draw.binds (ps := ["_law_pen_here", "_law_many"]) fun _ _ _ _ _ _ us hl => match us, hl with | [_, _], _ => rfl
  have F_pick := fun_mk (st := s_pick) l_pick c_pick k_pick
  have b_pick := F_pick.binds (ps := ["_law_pen_here", "_law_options"]) fun _ _ _ _ _ _ us hl => match us, hl with | [_, _], _ => rfl
  have F_lwhole := fun_mk (st := s_lwhole) l_lwhole c_lwhole k_lwhole
  have b_lwhole := F_lwhole.binds (ps := ["_law_value"]) fun _ _ _ _ _ _ us hl => match us, hl with | [_], _ => rfl
  have F_great := fun_mk (st := s_great) l_great c_great k_great
  have b_great := F_great.binds (ps := ["_law_pen_here", "_law_many"]) fun _ _ _ _ _ _ us hl => match us, hl with | [_, _], _ => rfl
  have F_integer := fun_mk (st := s_integer) l_integer c_integer k_integer
  have b_integer := F_integer.binds (ps := ["_law_pen_here"]) fun _ _ _ _ _ _ us hl => match us, hl with | [_], _ => rfl
  have F_far := fun_mk (st := s_far) l_far c_far k_far
  have b_far := F_far.binds (ps := ["_law_pen_here"]) fun _ _ _ _ _ _ us hl => match us, hl with | [_], _ => rfl
  have F_choose := fun_mk (st := s_choose) l_choose c_choose k_choose
  have b_choose := F_choose.binds (ps := ["_law_n", "_law_k"]) fun _ _ _ _ _ _ us hl => match us, hl with | [_, _], _ => rfl
  have F_lat := fun_mk (st := s_lat) l_lat c_lat k_lat
  have b_lat := F_lat.binds (ps := ["_law_row_here", "_law_n"]) fun _ _ _ _ _ _ us hl => match us, hl with | [_, _], _ => rfl
  have F_cut := fun_mk (st := s_cut) l_cut c_cut k_cut
  have b_cut := F_cut.binds (ps := ["_law_row_here"]) fun _ _ _ _ _ _ us hl => match us, hl with | [_], _ => rfl
  have F_lrowof := fun_mk (st := s_lrowof) l_lrowof c_lrowof k_lrowof
  have b_lrowof := F_lrowof.binds (ps := ["_law_amounts"]) fun _ _ _ _ _ _ us hl => match us, hl with | [_], _ => rfl
  have F_lrow := fun_mk (st := s_lrow) l_lrow c_lrow k_lrow
  have b_lrow := F_lrow.binds (ps := ["_law_pen_here", "_law_most"]) fun _ _ _ _ _ _ us hl => match us, hl with | [_, _], _ => rfl
  have F_sizeis := fun_mk (st := s_sizeis) l_sizeis c_sizeis k_sizeis
  have b_sizeis := F_sizeis.binds (ps := ["_law_size", "_law_row_here"]) fun _ _ _ _ _ _ us hl => match us, hl with | [_, _], _ => rfl
  have F_frow := fun_mk (st := s_frow) l_frow c_frow k_frow
  have b_frow := F_frow.binds (ps := ["_law_count", "_law_origin"]) fun _ _ _ _ _ _ us hl => match us, hl with | [_, _], _ => rfl
  have F_is_whole := fun_mk (st := s_is_whole) l_is_whole c_is_whole k_is_whole
  have b_is_whole := F_is_whole.binds (ps := ["value"]) fun _ _ _ _ _ _ us hl => match us, hl with | [_], _ => rfl
  have F_check_whole := fun_mk (st := s_check_whole) l_check_whole c_check_whole k_check_whole
  have b_check_whole := F_check_whole.binds (ps := ["value"]) fun _ _ _ _ _ _ us hl => match us, hl with | [_], _ => rfl
  have F_check_from := fun_mk (st := s_check_from) l_check_from c_check_from k_check_from
  have b_check_from := F_check_from.binds (ps := ["value", "bound"]) fun _ _ _ _ _ _ us hl => match us, hl with | [_, _], _ => rfl
  have F_check_wholes := fun_mk (st := s_check_wholes) l_check_wholes c_check_wholes k_check_wholes
  have b_check_wholes := F_check_wholes.binds (ps := ["values"]) fun _ _ _ _ _ _ us hl => match us, hl with | [_], _ => rfl
  have F_chooses := fun_mk (st := s_chooses) l_chooses c_chooses k_chooses
  have b_chooses := F_chooses.binds (ps := ["n", "many"]) fun _ _ _ _ _ _ us hl => match us, hl with | [_, _], _ => rfl
  have F_row_value := fun_mk (st := s_row_value) l_row_value c_row_value k_row_value
  have b_row_value := F_row_value.binds (ps := ["row", "n"]) fun _ _ _ _ _ _ us hl => match us, hl with | [_, _], _ => rfl
  have F_row_through := fun_mk (st := s_row_through) l_row_through c_row_through k_row_through
  have b_row_through := F_row_through.binds (ps := ["values"]) fun _ _ _ _ _ _ us hl => match us, hl with | [_], _ => rfl
  have F_row_ahead := fun_mk (st := s_row_ahead) l_row_ahead c_row_ahead k_row_ahead
  have b_row_ahead := F_row_ahead.binds (ps := ["row", "k"]) fun _ _ _ _ _ _ us hl => match us, hl with | [_, _], _ => rfl
  have F_trimmed := fun_mk (st := s_trimmed) l_trimmed c_trimmed k_trimmed
  have b_trimmed := F_trimmed.binds (ps := ["row"]) fun _ _ _ _ _ _ us hl => match us, hl with | [_], _ => rfl
  have F_law := fun_mk (st := s_law) l_law c_law k_law
  have b_law := F_law.binds (ps := ["_law_script"]) fun _ _ _ _ _ _ us hl => match us, hl with | [_], _ => rfl
  have F_sthrough := fun_mk (st := s_sthrough) l_sthrough c_sthrough k_sthrough
  have b_sthrough := F_sthrough.binds (ps := ["cls", "start", "values"]) fun _ _ _ _ _ _ us hl => match us, hl with | [_, _, _], _ => rfl
  have F_sdegree := fun_mk (st := s_sdegree) l_sdegree c_sdegree k_sdegree
  have b_sdegree := F_sdegree.binds (ps := ["self"]) fun _ _ _ _ _ _ us hl => match us, hl with | [_], _ => rfl
  have F_scall := fun_mk (st := s_scall) l_scall c_scall k_scall
  have b_scall := F_scall.binds (ps := ["self", "n"]) fun _ _ _ _ _ _ us hl => match us, hl with | [_, _], _ => rfl
  have F_sinit : FunD K "__init__" "Size.__init__" (defArgs s_sinit) (defBody s_sinit) (defScope s_sinit) [.ref T0] [] f_sinit _ := ⟨⟨_, _, _, _, _, _, _, _, _, _, rfl, l_sinit, c_sinit, .inr ⟨(fun z => nomatch z), TI, _, [.ref T0], nTI, rfl, lTI, rfl, .cons rfl .nil⟩, .inl rfl⟩, k_sinit⟩
  have F_sfalling : FunD K "falling" "Size.falling" (defArgs s_sfalling) (defBody s_sfalling) (defScope s_sfalling) [.int 0] [] f_sfalling _ := ⟨⟨_, _, _, _, _, _, _, _, _, _, rfl, l_sfalling, c_sfalling, .inr ⟨(fun z => nomatch z), TF, _, [.int 0 kF], nTF, rfl, lTF, rfl, .cons ⟨_, rfl⟩ .nil⟩, .inl rfl⟩, k_sfalling⟩
  obtain ⟨ds2_sinit, v2_sinit, b2_sinit⟩ := F_sinit.binds1 (ps := ["self", "row"]) 2 1 (fun z => nomatch z) rfl fun T kV doc pm an cdv ct us its hu hi => match us, its, hu, hi with | [_, _], [_], _, _ => ⟨_, rfl, rfl⟩
  obtain ⟨ds1_sinit, v1_sinit, b1_sinit⟩ := F_sinit.binds1 (ps := ["self", "row"]) 1 0 (fun z => nomatch z) rfl fun T kV doc pm an cdv ct us its hu hi => match us, its, hu, hi with | [_], [_], _, _ => ⟨_, rfl, rfl⟩
  obtain ⟨ds2_sfalling, v2_sfalling, b2_sfalling⟩ := F_sfalling.binds1 (ps := ["many", "start"]) 2 1 (fun z => nomatch z) rfl fun T kV doc pm an cdv ct us its hu hi => match us, its, hu, hi with | [_, _], [_], _, _ => ⟨_, rfl, rfl⟩
  obtain ⟨ds1_sfalling, v1_sfalling, b1_sfalling⟩ := F_sfalling.binds1 (ps := ["many", "start"]) 1 0 (fun z => nomatch z) rfl fun T kV doc pm an cdv ct us its hu hi => match us, its, hu, hi with | [_], [_], _, _ => ⟨_, rfl, rfl⟩
  have hT0 : ∀ H : Hp, SqT K H T0 [] := fun H => .inr ⟨_, _, _, lT0, rfl, rfl, Nat.zero_le _, .nil⟩
  refine ⟨PySem.W.fnOf "law" "law" (defArgs s_law) (defBody s_law) (defScope s_law) .none kV_law dc_law pm_law an_law cd_law ct_law, fun s v => .of_eq rfl, fun base _ _ => ?_⟩
  have H_pen : Has l.prog w K mg base 1 "_law_pen" ["_law_script"] (spPen K) := has_of X G F_pen a_pen (ok_pen F_pen T) b_pen
  have H_draw : Has l.prog w K mg base 1 "_law_draw" ["_law_pen_here", "_law_many"] spDraw := has_of X G F_draw a_draw (ok_draw F_draw T) b_draw
  have H_pick : Has l.prog w K mg base 2 "_law_pick" ["_law_pen_here", "_law_options"] (spPick K) := has_of X G F_pick a_pick (ok_pick F_pick T H_draw) b_pick
  have H_lwhole : Has l.prog w K mg base 1 "_law_whole" ["_law_value"] spWhole := has_of X G F_lwhole a_lwhole (ok_lwhole F_lwhole T) b_lwhole
  have H_great : Has l.prog w K mg base 2 "_law_great" ["_law_pen_here", "_law_many"] spGreat := has_of X G F_great a_great (ok_great F_great T H_draw) b_great
  have H_integer : Has l.prog w K mg base 3 "_law_integer" ["_law_pen_here"] spInteger := has_of X G F_integer a_integer (ok_integer F_integer T H_draw H_great) b_integer
  have H_far : Has l.prog w K mg base 3 "_law_far" ["_law_pen_here"] spFar := has_of X G F_far a_far (ok_far F_far T H_draw H_great) b_far
  have H_choose : Has l.prog w K mg base 1 "_law_choose" ["_law_n", "_law_k"] spChoose := has_of X G F_choose a_choose (ok_choose F_choose T) b_choose
  have H_lat : Has l.prog w K mg base 2 "_law_at" ["_law_row_here", "_law_n"] (spAt K) := has_of X G F_lat a_lat (ok_lat F_lat T H_choose) b_lat
  have H_cut : Has l.prog w K mg base 1 "_law_cut" ["_law_row_here"] (spCut K) := has_of X G F_cut a_cut (ok_cut F_cut T) b_cut
  have H_lrowof : Has l.prog w K mg base 2 "_law_row_of" ["_law_amounts"] (spRowOf K) := has_of X G F_lrowof a_lrowof (ok_lrowof F_lrowof T H_cut) b_lrowof
  have H_lrow : Has l.prog w K mg base 4 "_law_row" ["_law_pen_here", "_law_most"] spRow := has_of X G F_lrow a_lrow (ok_lrow F_lrow T H_draw H_integer) b_lrow
  have H_sizeis : Has l.prog w K mg base 2 "_law_size_is" ["_law_size", "_law_row_here"] (spSizeIs K C) := has_of X G F_sizeis a_sizeis (ok_sizeis F_sizeis T cl nR H_lwhole) b_sizeis
  have H_frow : Has l.prog w K mg base 3 "_law_falling_row" ["_law_count", "_law_origin"] spFRow := has_of X G F_frow a_frow (ok_frow F_frow T H_lrowof) b_frow
  have H_is_whole : Has l.prog w K mg base 1 "is_whole" ["value"] spIsWhole := has_of X G F_is_whole a_is_whole (ok_is_whole F_is_whole T) b_is_whole
  have H_check_whole : Has l.prog w K mg base 2 "check_whole" ["value"] spCheckWhole := has_of X G F_check_whole a_check_whole (ok_check_whole F_check_whole T H_is_whole) b_check_whole
  have H_check_from : Has l.prog w K mg base 2 "check_from" ["value", "bound"] spCheckFrom := has_of X G F_check_from a_check_from (ok_check_from F_check_from T H_is_whole) b_check_from
  have H_check_wholes : Has l.prog w K mg base 2 "check_wholes" ["values"] (spCheckWholes K) := has_of X G F_check_wholes a_check_wholes (ok_check_wholes F_check_wholes T H_is_whole) b_check_wholes
  have H_chooses : Has l.prog w K mg base 1 "chooses" ["n", "many"] spChooses := has_of X G F_chooses a_chooses (ok_chooses F_chooses T) b_chooses
  have H_row_value : Has l.prog w K mg base 2 "row_value" ["row", "n"] (spRowValue K) := has_of X G F_row_value a_row_value (ok_row_value F_row_value T H_chooses) b_row_value
  have H_row_through : Has l.prog w K mg base 1 "row_through" ["values"] (spRowThrough K) := has_of X G F_row_through a_row_through (ok_row_through F_row_through T) b_row_through
  have H_row_ahead : Has l.prog w K mg base 2 "row_ahead" ["row", "k"] (spRowAhead K) := has_of X G F_row_ahead a_row_ahead (ok_row_ahead F_row_ahead T H_chooses) b_row_ahead
  have H_trimmed : Has l.prog w K mg base 1 "trimmed" ["row"] (spTrimmed K) := has_of X G F_trimmed a_trimmed (ok_trimmed F_trimmed T) b_trimmed
  have Oi := ok_sinit (P := l.prog) (w := w) (mg := mg) (base := base) F_sinit cl nR H_check_wholes H_trimmed
  have S2 : MkH l.prog w K mg base 3 C [] (spSInit K C) := ⟨_, _, _, _, ⟨mk, a_sinit, i_sinit, kC⟩, Oi, b2_sinit, v2_sinit⟩
  have S1 : MkH l.prog w K mg base 3 C [.ref T0] (spSInit K C) := ⟨_, _, _, _, ⟨mk, a_sinit, i_sinit, kC⟩, Oi, b1_sinit, v1_sinit⟩
  have gS := PySem.W.mg_of X G aC
  have Of := ok_sfalling (P := l.prog) (w := w) (base := base) F_sfalling T gS (PySem.W.mg_of X G aFac) H_check_whole H_check_from H_row_ahead S2
  have Pd : PropH l.prog w K mg base 1 C "degree" (spDegree K C) := ⟨_, _, _, _, cl, ⟨pP_at, pP_get, pP_tak, _, pP_rec⟩, ok_sdegree F_sdegree T cl nR, b_sdegree⟩
  have Cc : CallH l.prog w K mg base 3 C (spCall K C) := ⟨_, ⟨a_scall, i_scall, fi_scall⟩, rawN (ok_scall F_scall T cl nR H_check_whole H_row_value) b_scall⟩
  have Ct : CmH l.prog w K mg base 5 C "through" (spThrough K C) := ⟨_, pT, _, ⟨rd, ga⟩, ⟨pT_at, ⟨_, pT_rec⟩, pT_fi⟩, rawN (ok_sthrough F_sthrough T H_check_whole H_check_wholes H_row_through H_row_ahead S2) b_sthrough⟩
  have Sf2 : SmH l.prog w K mg base 5 C "falling" [] (spFalling K C) := ⟨_, pF, _, _, _, _, ⟨rd, ga⟩, ⟨pF_at, ⟨_, pF_rec⟩, k_sfalling⟩, Of, b2_sfalling, v2_sfalling⟩
  have Sf1 : SmH l.prog w K mg base 5 C "falling" [.int 0] (spFalling K C) := ⟨_, pF, _, _, _, _, ⟨rd, ga⟩, ⟨pF_at, ⟨_, pF_rec⟩, k_sfalling⟩, Of, b1_sfalling, v1_sfalling⟩
  exact ok_law F_law T cl nR hT0 gS H_pen H_far H_lrow H_integer H_draw H_cut H_pick H_sizeis H_lwhole H_lat H_lrowof H_frow S2 S1 Pd Cc Ct Sf2 Sf1
theorem walk {l : PySem.W.OpenLaw} {q : Program} {loose : List Str} {XP : (Str → Option Value) → Heap → Prop} {YP : World → Heap → Prop} {d : DefRec} {K : Params → PySem.W.Frag} (hn : l.most = some 63) (hdf : d.params.defaults = []) (hY : ∀ (w : World) (h : Heap), YP w h → (K w.params).In h)
    (F : ∀ (w : World) (mg : Str → Option Value) (fa : Addr) (h : Heap), (K w.params).In h → h.Ns mainGlobals mg → mg d.name = some (.ref fa) →
      ∃ fd : FuncData, (∀ (s : Shared) (u : Value), BindsTo s fd ⟨[u], []⟩ [("_law_script", u)]) ∧ ∀ base : Heap, (K w.params).In base → base.Ns mainGlobals mg → FnOk l.prog w (K w.params) mg base CX0 6 fa fd ["_law_script"] (spLawH (K w.params))) :
    PySem.W.WalkO q loose XP YP l.row.toRowW d [] (fun f vs => PySem.call f vs) := L2.walk_of (n := 63) (k := 6) (x := "_law_script") (CX := fun _ => CX0) (sp := fun w => spLawH (K w.params)) hn (by decide) hdf ⟨rfl, by decide, by decide⟩ hY F (fun _ _ a ns hl _ hS => ⟨a, ns, rfl, hS, hl, fun _ => rfl⟩) fun _ _ _ _ _ z => z
end
end EN

open PySem PySem.W PyProof.Rows
set_option maxRecDepth 100000 in
set_option maxHeartbeats 0 in
theorem PySem.Challenge.cw_everyname_k14_sizes_from_rows_and_values_holds : PySem.Challenge.rw_everyname_k14_sizes_from_rows_and_values.Holds := by
  w_on; o_law; k_head; (case hw => w_witness2)
  k_fill
  refine EN.walk (l := PySem.Challenge.rw_everyname_k14_sizes_from_rows_and_values) rfl rfl (fun w h Y => PySem.W.kIn_of Y) ?F
  case F =>
    intro w mg fa h KX G hmg
    refine' EN.all_mk KX G hmg ?aC ?a_pen ?l_pen ?c_pen ?k_pen ?a_draw ?l_draw ?c_draw ?k_draw ?a_pick ?l_pick ?c_pick ?k_pick ?a_lwhole ?l_lwhole ?c_lwhole ?k_lwhole ?a_great ?l_great ?c_great ?k_great ?a_integer ?l_integer ?c_integer ?k_integer ?a_far ?l_far ?c_far ?k_far ?a_choose ?l_choose ?c_choose ?k_choose ?a_lat ?l_lat ?c_lat ?k_lat ?a_cut ?l_cut ?c_cut ?k_cut ?a_lrowof ?l_lrowof ?c_lrowof ?k_lrowof ?a_lrow ?l_lrow ?c_lrow ?k_lrow ?a_sizeis ?l_sizeis ?c_sizeis ?k_sizeis ?a_frow ?l_frow ?c_frow ?k_frow ?a_is_whole ?l_is_whole ?c_is_whole ?k_is_whole ?a_check_whole ?l_check_whole ?c_check_whole ?k_check_whole ?a_check_from ?l_check_from ?c_check_from ?k_check_from ?a_check_wholes ?l_check_wholes ?c_check_wholes ?k_check_wholes ?a_chooses ?l_chooses ?c_chooses ?k_chooses ?a_row_value ?l_row_value ?c_row_value ?k_row_value ?a_row_through ?l_row_through ?c_row_through ?k_row_through ?a_row_ahead ?l_row_ahead ?c_row_ahead ?k_row_ahead ?a_trimmed ?l_trimmed ?c_trimmed ?k_trimmed ?a_law ?l_law ?c_law ?k_law ?rd ?ga ?a_sinit ?i_sinit ?a_scall ?i_scall ?fi_scall ?pP_at ?pP_get ?pP_tak ?pP_rec ?pT_at ?pT_rec ?pT_fi ?pF_at ?pF_rec ?l_sinit ?c_sinit ?k_sinit ?l_sthrough ?c_sthrough ?k_sthrough ?l_sfalling ?c_sfalling ?k_sfalling ?l_sdegree ?c_sdegree ?k_sdegree ?l_scall ?c_scall ?k_scall ?lTI ?lT0 ?lTF ?pg ?hd ?po ?sa ?mk ?kC ?nR ?aFac ?z_list ?z_len ?z_int ?z_abs ?z_range ?z_tuple ?z_isinstance ?z_bool ?z_all ?z_sum ?z_zip ?z_min
    (case aC => k_is); (case a_pen => k_is); (case l_pen => k_is); (case c_pen => k_is)
    (case k_pen => k_is); (case a_draw => k_is); (case l_draw => k_is); (case c_draw => k_is)
    (case k_draw => k_is); (case a_pick => k_is); (case l_pick => k_is); (case c_pick => k_is)
    (case k_pick => k_is); (case a_lwhole => k_is); (case l_lwhole => k_is); (case c_lwhole => k_is)
    (case k_lwhole => k_is); (case a_great => k_is); (case l_great => k_is); (case c_great => k_is)
    (case k_great => k_is); (case a_integer => k_is); (case l_integer => k_is); (case c_integer => k_is)
    (case k_integer => k_is); (case a_far => k_is); (case l_far => k_is); (case c_far => k_is)
    (case k_far => k_is); (case a_choose => k_is); (case l_choose => k_is); (case c_choose => k_is)
    (case k_choose => k_is); (case a_lat => k_is); (case l_lat => k_is); (case c_lat => k_is)
    (case k_lat => k_is); (case a_cut => k_is); (case l_cut => k_is); (case c_cut => k_is)
    (case k_cut => k_is); (case a_lrowof => k_is); (case l_lrowof => k_is); (case c_lrowof => k_is)
    (case k_lrowof => k_is); (case a_lrow => k_is); (case l_lrow => k_is); (case c_lrow => k_is)
    (case k_lrow => k_is); (case a_sizeis => k_is); (case l_sizeis => k_is); (case c_sizeis => k_is)
    (case k_sizeis => k_is); (case a_frow => k_is); (case l_frow => k_is); (case c_frow => k_is)
    (case k_frow => k_is); (case a_is_whole => k_is); (case l_is_whole => k_is); (case c_is_whole => k_is)
    (case k_is_whole => k_is); (case a_check_whole => k_is); (case l_check_whole => k_is); (case c_check_whole => k_is)
    (case k_check_whole => k_is); (case a_check_from => k_is); (case l_check_from => k_is); (case c_check_from => k_is)
    (case k_check_from => k_is); (case a_check_wholes => k_is); (case l_check_wholes => k_is); (case c_check_wholes => k_is)
    (case k_check_wholes => k_is); (case a_chooses => k_is); (case l_chooses => k_is); (case c_chooses => k_is)
    (case k_chooses => k_is); (case a_row_value => k_is); (case l_row_value => k_is); (case c_row_value => k_is)
    (case k_row_value => k_is); (case a_row_through => k_is); (case l_row_through => k_is); (case c_row_through => k_is)
    (case k_row_through => k_is); (case a_row_ahead => k_is); (case l_row_ahead => k_is); (case c_row_ahead => k_is)
    (case k_row_ahead => k_is); (case a_trimmed => k_is); (case l_trimmed => k_is); (case c_trimmed => k_is)
    (case k_trimmed => k_is); (case a_law => k_is); (case l_law => k_is); (case c_law => k_is)
    (case k_law => k_is); (case rd => k_is); (case ga => k_is); (case a_sinit => k_is)
    (case i_sinit => k_is); (case a_scall => k_is); (case i_scall => k_is); (case fi_scall => k_is)
    (case pP_at => k_is); (case pP_get => k_is); (case pP_tak => k_is); (case pP_rec => k_is)
    (case pT_at => k_is); (case pT_rec => k_is); (case pT_fi => k_is); (case pF_at => k_is)
    (case pF_rec => k_is); (case l_sinit => k_is); (case c_sinit => k_is); (case k_sinit => k_is)
    (case l_sthrough => k_is); (case c_sthrough => k_is); (case k_sthrough => k_is); (case l_sfalling => k_is)
    (case c_sfalling => k_is); (case k_sfalling => k_is); (case l_sdegree => k_is); (case c_sdegree => k_is)
    (case k_sdegree => k_is); (case l_scall => k_is); (case c_scall => k_is); (case k_scall => k_is)
    (case lTI => k_is); (case lT0 => k_is); (case lTF => k_is); (case pg => k_is)
    (case hd => k_is); (case po => k_is); (case sa => k_is); (case mk => k_is)
    (case kC => k_is); (case nR => k_is); (case aFac => k_is); (case z_list => k_is)
    (case z_len => k_is); (case z_int => k_is); (case z_abs => k_is); (case z_range => k_is)
    (case z_tuple => k_is); (case z_isinstance => k_is); (case z_bool => k_is); (case z_all => k_is)
    (case z_sum => k_is); (case z_zip => k_is); (case z_min => k_is)

