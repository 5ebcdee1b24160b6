import PyProof.Rows.All
import Wide.All
import OpenK.AllK
import Wide.FinOn
import HandS.ForMost
import KE.GoesEnum
import KE.GoesMore
import HandS.Deep
import HandS.SortInts
import HandS.SetFor
import HandS.Strs
import HandS.Style
import HandS.Flow
import HandS.Wide
import HandS.IsInst
import HandS.Defaults
import HandS.EndBits
import HandS.TupAny
import HandS.Property
import HandS.ClsMeth
import HandS.Star
import HandS.Gcd
import HandS.Evl
import HandS.RaiseMore
import KE.KMathGC
import HandS.TryMany
import HandS.ExcInit
import HandS.ExcField
import HandS.ExcIs
import HandS.Lambda
import KE.KExcIs
import HandS.More
import KE.KOpsOwn
import HandS.WordsExc
import HandS.CallSlots
import HandS.Conv
import HandS.Iter
import HandS.DictComp
import HandS.List
import HandS.Text
import HandS.StrMore
import HandS.Comp
import HandS.Dict
import HandS.DictTup
import KE.KDictDisplayH
import PySem.Challenge.RW_everyname_k58_groups_made_conjugate
set_option Elab.async false
set_option linter.all false
set_option maxRecDepth 100000
set_option maxHeartbeats 4000000
/-! zip of two and of three, each a list or a tuple; comprehensions over any iterator -/
namespace ZK
open PySem PySem.Spec PyProof.Rows L2
inductive Kd where | l | t
def SqK (K : PySem.W.Frag) (H : Hp) (a : Addr) (xs : List V) : Kd → Prop
  | .l => SqL K H a xs
  | .t => SqT K H a xs
def IterK (h : Heap) (it a : Addr) (i : Nat) : Kd → Prop
  | .l => h.IsListIter it a i
  | .t => h.IsTupleIter it a i
def ArrK (h : Heap) (a : Addr) (items : Array Value) : Kd → Prop
  | .l => h.IsList a items
  | .t => h.IsTuple a items
def firstO (a : Addr) : Kd → Obj
  | .l => { cls := .type "list_iterator", data := .fields #[.ref a, .int 0 0] }
  | .t => { cls := .type "tuple_iterator", data := .fields #[.ref a, .int 0 0] }
theorem iterK_at {h h' : Heap} {it a : Addr} {i : Nat} : ∀ {k : Kd}, IterK h it a i k → (∀ o, h.get? it = some o → h'.get? it = some o) → IterK h' it a i k
  | .l, x, e => Heap.IsListIter.at x e
  | .t, x, e => Heap.IsTupleIter.at x e
theorem iterK_obj {h : Heap} {it a : Addr} {i : Nat} : ∀ {k : Kd}, IterK h it a i k → ∃ o, h.get? it = some o ∧ ∀ v, o.data ≠ .cell v
  | .l, ⟨o, e, _, d⟩ => ⟨o, e, fun v q => by rw [d] at q; cases q⟩
  | .t, ⟨o, e, _, d⟩ => ⟨o, e, fun v q => by rw [d] at q; cases q⟩
theorem iterK_first {h : Heap} {it a : Addr} : ∀ {k : Kd}, h.get? it = some (firstO a k) → IterK h it a 0 k
  | .l, e => ⟨_, e, rfl, rfl⟩
  | .t, e => ⟨_, e, rfl, rfl⟩
theorem drawsK {prog : Program} {w : World} {A : Around} (hh : A.handled = none) (it a : Addr) (hne : a ≠ it) (items : Array Value) :
    ∀ k : Kd, Draws prog w A it [it, a] items.size (fun i v => items[i]? = some v) (fun i h => IterK h it a i k ∧ ArrK h a items k)
  | .l => Draws.list hh it a hne items
  | .t => Draws.tuple hh it a hne items
theorem beginsK (a : Addr) (items : Array Value) : ∀ k : Kd, Begins (.ref a) (firstO a k) fun h => ArrK h a items k
  | .l => begins_list a items
  | .t => begins_tuple a items
section
variable {X : Cx} {pins : List (Addr × Obj)} {σ : L2.St} {H : Hp} {s : Shared} {a : Addr} {xs ys : List V}
theorem invK (I : Inv X pins σ H s) : ∀ {k : Kd}, SqK X.K H a xs k → ∃ its : List Value, Vals xs its ∧ ArrK s.heap a its.toArray k ∧ xs.length ≤ sizeLine ∧ a < s.heap.objs.size
  | .l, h => by
    obtain ⟨its, r, p, z⟩ := I.list h
    exact ⟨its, r, p.isList, z, p.lt⟩
  | .t, h => by
    obtain ⟨its, r, p, z⟩ := I.tuple h
    exact ⟨its, r, p, z, p.lt⟩
theorem injK (I : Inv X pins σ H s) : ∀ {k : Kd}, SqK X.K H a xs k → SqK X.K H a ys k → xs = ys
  | .l, h, h' => I.list_inj h h'
  | .t, h, h' => I.tuple_inj h h'
end
theorem SqK.same {K : PySem.W.Frag} {H H' : Hp} {a : Addr} {xs : List V} (s : Same H H') : ∀ {k : Kd}, SqK K H a xs k → SqK K H' a xs k
  | .l, h => s.seq h
  | .t, h => by
    rcases h with (h | ⟨o, h⟩) | h
    · exact .inl (.inl (s _ _ h))
    · exact .inl (.inr ⟨o, s _ _ h⟩)
    · exact .inr h

/-! ### zip of two -/
def Itz2 (K : PySem.W.Frag) (k1 k2 : Kd) (a b : Addr) : It :=
  ⟨fun i H => ∃ (xs ys : List V) (x y : V), SqK K H a xs k1 ∧ SqK K H b ys k2 ∧ xs[i]? = some x ∧ ys[i]? = some y,
    fun i H v H' => ∃ T x y, v = .ref T ∧ H T = none ∧ H' = upd H T (.tup [x, y]) ∧ (∀ xs, SqK K H a xs k1 → xs[i]? = some x) ∧ ∀ ys, SqK K H b ys k2 → ys[i]? = some y,
    fun i H => ∃ xs ys : List V, SqK K H a xs k1 ∧ SqK K H b ys k2 ∧ i ≤ xs.length ∧ i ≤ ys.length ∧ (i = xs.length ∨ i = ys.length)⟩
theorem turn_z2 {P : Program} {w : World} {K : PySem.W.Frag} {elts : List Expr} {kk : Nat} {tpos : Pos} {k1 k2 : Kd} {a b z TI TO i1 i2 : Addr} (S : ZipSep2 z TI TO i1 i2 [i1, a] [i2, b]) (n1 : a ≠ i1) (n2 : b ≠ i2) :
    Turn P w K (.Tuple elts kk tpos) (Itz2 K k1 k2 a b) [z, TI, TO, i1, i2] z
      (fun i h => IsZip h z TI TO .none ∧ IsTupOf2 h TI (.ref i1) (.ref i2) ∧ (∃ x y, IsTupOf2 h TO x y) ∧ IterK h i1 a i k1 ∧ IterK h i2 b i k2) where
  mem := by simp
  obj := fun i h st c hc => by
    obtain ⟨hz, hTI, ⟨x, y, hTO⟩, h1, h2⟩ := st
    simp only [List.mem_cons, List.mem_nil_iff, or_false] at hc
    rcases hc with rfl | rfl | rfl | rfl | rfl
    · exact ⟨_, hz, fun v q => nomatch q⟩
    · exact ⟨_, hTI, fun v q => nomatch q⟩
    · exact ⟨_, hTO, fun v q => nomatch q⟩
    · exact iterK_obj h1
    · exact iterK_obj h2
  keep := fun i h h' st k => by
    obtain ⟨hz, hTI, ⟨x, y, hTO⟩, h1, h2⟩ := st
    exact ⟨k z (by simp) _ hz, k TI (by simp) _ hTI, ⟨x, y, k TO (by simp) _ hTO⟩, iterK_at h1 fun o q => k i1 (by simp) o q, iterK_at h2 fun o q => k i2 (by simp) o q⟩
  item := by
    intro X hP hw hK hc i pins s σ H E I hf st hg
    subst hP hw hK
    obtain ⟨hz, hTI, ⟨x0, y0, hTO⟩, h1, h2⟩ := st
    obtain ⟨xs, ys, x, y, qx, qy, hx, hy⟩ := hg
    obtain ⟨its1, rv1, p1, _, _⟩ := invK I qx
    obtain ⟨its2, rv2, p2, _, _⟩ := invK I qy
    obtain ⟨u1, hu1, ru1⟩ := rv1.get hx
    obtain ⟨u2, hu2, ru2⟩ := rv2.get hy
    have hh : X.A.in1.handled = none := I.ok.hd hc
    have l1 : i < its1.toArray.size := by simpa using (List.getElem?_eq_some_iff.mp hu1).1
    have l2 : i < its2.toArray.size := by simpa using (List.getElem?_eq_some_iff.mp hu2).1
    have zlt : z < s.heap.objs.size := Heap.lt_size hz
    refine wpAny_pyNext_zipD2_item S (drawsK hh i1 a n1 its1.toArray k1) (drawsK hh i2 b n2 its2.toArray k2) hz hTI hTO ⟨h1, p1⟩ ⟨h2, p2⟩ l1 l2 fun v1 v2 h' tk pv1 pv2 z' TO' s1 s2 hT hsz hk => ?_
    have e1 : v1 = u1 := by simpa [hu1] using pv1.symm
    have e2 : v2 = u2 := by simpa [hu2] using pv2.symm
    subst e1 e2
    refine ⟨_, rfl, wpAny_letOwnedTupleGo_zip (s := { s with heap := h', toks := tk }) z' fun h'' z'' sb => ?_⟩
    have hT2 := (sb.2 _ (Nat.ne_of_gt zlt)).trans hT
    have new : ObjOk X.prog X.w (upd H s.heap.objs.size (.tup [x, y])) h'' s.heap.objs.size (.tup [x, y]) :=
      ⟨by show 2 ≤ sizeLine; decide, [v1, v2], .cons ru1 (.cons ru2 .nil), ⟨_, hT2, rfl, _, rfl⟩⟩
    have stay : ∀ c o, c ∉ [z, TI, TO, i1, i2] → s.heap.get? c = some o → h''.get? c = some o := fun c o hc q => by
      simp only [List.mem_cons, List.mem_nil_iff, or_false, not_or] at hc
      exact (sb.2 c hc.1).trans (hk c o hc.1 hc.2.2.1 hc.2.2.2.1 hc.2.2.2.2 q)
    have I1 := I.turnedNew (t' := tk) (ch := [z, TI, TO, i1, i2]) stay hf (Nat.le_refl _) new
    refine ⟨.ref s.heap.objs.size, _, I1, rfl, ⟨_, x, y, rfl, I.hok.fresh (Nat.le_refl _), rfl, fun l hl => by rw [injK I hl qx]; exact hx, fun l hl => by rw [injK I hl qy]; exact hy⟩, ⟨z'', ?_, ⟨v1, v2, ?_⟩, ?_, ?_⟩, fun c hcm => ?_⟩
    · exact (sb.2 _ S.TIz).trans (hk _ _ S.TIz S.TITO S.TIi1 S.TIi2 hTI)
    · exact (sb.2 _ S.TOz).trans TO'
    · exact iterK_at s1.1 fun o q => (sb.2 _ S.zi1.symm).trans q
    · exact iterK_at s2.1 fun o q => (sb.2 _ S.zi2.symm).trans q
    · have hlt : c < s.heap.objs.size := by
        simp only [List.mem_cons, List.mem_nil_iff, or_false] at hcm
        rcases hcm with rfl | rfl | rfl | rfl | rfl
        · exact zlt
        · exact Heap.lt_size hTI
        · exact Heap.lt_size hTO
        · obtain ⟨_, e, _⟩ := iterK_obj h1; exact Heap.lt_size e
        · obtain ⟨_, e, _⟩ := iterK_obj h2; exact Heap.lt_size e
      rw [upd_ne (Nat.ne_of_lt hlt)]
      exact (hf c hcm).1
  done := by
    intro X hP hw hK hc i pins s σ H E I hf st hg
    subst hP hw hK
    obtain ⟨hz, hTI, ⟨x0, y0, hTO⟩, h1, h2⟩ := st
    obtain ⟨xs, ys, qx, qy, le1, le2, hend⟩ := hg
    obtain ⟨its1, rv1, p1, _, _⟩ := invK I qx
    obtain ⟨its2, rv2, p2, _, _⟩ := invK I qy
    have hh : X.A.in1.handled = none := I.ok.hd hc
    have e1 := rv1.length
    have e2 := rv2.length
    refine wpAny_pyNext_zipD2_end S (drawsK hh i1 a n1 its1.toArray k1) (drawsK hh i2 b n2 its2.toArray k2) hz hTI hTO ⟨h1, p1⟩ ⟨h2, p2⟩ (by simp; omega) (by simp; omega) (by simp; omega) fun h' tk hk => ⟨rfl, ?_⟩
    refine I.turnedL (t' := tk) (ch := [z, TI, TO, i1, i2]) (fun c o hc q => ?_) hf
    simp only [List.mem_cons, List.mem_nil_iff, or_false, not_or] at hc
    exact hk c o hc.1 hc.2.2.1 hc.2.2.2.1 hc.2.2.2.2 q
  self := fun A i s Q E st h => wpAny_pyIter_zip st.1 h
def iZip2 (K : PySem.W.Frag) (k1 k2 : Kd) (ta : TA) : TI := fun σ H R => ta σ H fun vs H1 => ∃ a b xs ys, vs = [.ref a, .ref b] ∧ SqK K H1 a xs k1 ∧ SqK K H1 b ys k2 ∧ R (Itz2 K k1 k2 a b) H1
theorem pi_zip2 {X : Cx} {e e2 : Expr} {ta : TA} {p pos tpos : Pos} {elts : List Expr} {kk : Nat} (k1 k2 : Kd) (hg : Gl X "zip") (hm : X.mg "zip" = none) (ha : PA X [e, e2] ta)
    (hs : starEach [e, e2] X.env = (false, eval e X.env) :: starEach [e2] X.env := by rfl) (hpl : (backTo pos (starEach [e2] X.env)).any (·.1) = false := by rfl) :
    PI X (.Tuple elts kk tpos) (.Call (.Name "zip" p) [e, e2] [] pos) (iZip2 X.K k1 k2 ta) := by
  refine ⟨fun pins s σ H R I h => ?_⟩
  refine Call_ (ld_blt I hg hm PyProof.Rows.boot_zip (PyProof.Rows.callWith_type1 (thn (ha.run pos pins s σ H _ I h) fun us s1 ⟨vs, H1, I1, r1, q1⟩ => ?_) hs hpl))
  obtain ⟨a, b, xs, ys, ex, qx, qy, q⟩ := q1
  subst ex
  obtain ⟨u1, u2, rfl, ra, rb⟩ := vals2 r1
  cases (show u1 = Value.ref a from ra)
  cases (show u2 = Value.ref b from rb)
  obtain ⟨its1, rv1, p1, _, la⟩ := invK I1 qx
  obtain ⟨its2, rv2, p2, _, lb⟩ := invK I1 qy
  generalize hN : s1.heap.objs.size = N at la lb
  have fresh : ∀ c, c ∈ [N + 4, N + 2, N + 3, N, N + 1] → FpOk X pins H1 c := fun c hc => by
    have hle : s1.heap.objs.size ≤ c := by
      simp only [List.mem_cons, List.mem_nil_iff, or_false] at hc
      omega
    exact I1.fpOk hle (I1.hok.fresh hle)
  refine zip_begins2 (beginsK a its1.toArray k1) (beginsK b its2.toArray k2) p1 p2 fun h' hz hTI hTO g1 g2 hsz hk => wpAny_pyIter_zip hz ?_
  rw [hN] at hz hTI hTO g1 g2 ⊢
  have I2 : Inv X pins σ H1 { s1 with heap := h' } := I1.kept (t' := s1.toks) hk
  exact ⟨N + 4, [N + 4, N + 2, N + 3, N, N + 1], _, _, H1, rfl, I2, turn_z2 (zip_sep2 (fp1 := [a]) (fp2 := [b]) (by simpa using la) (by simpa using lb)) (Nat.ne_of_lt la) (Nat.ne_of_lt (Nat.lt_succ_of_lt lb)), ⟨hz, hTI, ⟨_, _, hTO⟩, iterK_first g1, iterK_first g2⟩, fresh, q⟩

/-! ### comprehensions over any iterator of n turns -/
theorem lc_any {J : It} {g : TG} {tt : TT} {te : TE} {vs : List Nat} {σ : L2.St} {H1 : Hp} {D : Addr} {Qd : Hp → Prop} (n : Nat) (Pv : Nat → Hp → Prop) (h0 : Pv 0 (upd H1 D (.lst [])))
    (hgo : ∀ i H, i < n → Pv i H → J.go i H) (hstop : ∀ H, Pv n H → J.stop n H)
    (hs : ∀ i H x H', i < n → Pv i H → J.yld i H x H' → g x (wipe σ vs) H' fun σ2 H2 => wipe σ2 vs = wipe σ vs ∧ tt σ2 H2 fun b H3 =>
      if b = true then te σ2 H3 fun y H4 => ∃ acc, H4 D = some (.lst acc) ∧ acc.length < sizeLine ∧ Pv (i + 1) (upd H4 D (.lst (acc ++ [y]))) else Pv (i + 1) H3) (hd : ∀ H, Pv n H → Qd H) :
    ∃ W : Nat → Nat → Hp → Prop, (∃ m, W 0 m (upd H1 D (.lst []))) ∧ ∀ i m H, W i m H →
      (J.stop i H ∧ Qd H) ∨ (J.go i H ∧ ∃ Nx : Hp → Prop, (∀ H', Nx H' → ∃ m', m' < m ∧ W (i + 1) m' H') ∧ ∀ x H', J.yld i H x H' → g x (wipe σ vs) H' fun σ2 H2 => wipe σ2 vs = wipe σ vs ∧ tt σ2 H2 fun b H3 =>
        if b = true then te σ2 H3 fun y H4 => ∃ acc, H4 D = some (.lst acc) ∧ acc.length < sizeLine ∧ Nx (upd H4 D (.lst (acc ++ [y]))) else Nx H3) := by
  refine ⟨fun i m H => i + m = n ∧ Pv i H, ⟨n, Nat.zero_add _, h0⟩, fun i m H ⟨e, p⟩ => ?_⟩
  by_cases hi : i < n
  · exact .inr ⟨hgo i H hi p, Pv (i + 1), fun H' p' => ⟨m - 1, by omega, by omega, p'⟩, fun x H' y => hs i H x H' hi p y⟩
  · obtain rfl : i = n := by omega
    exact .inl ⟨hstop H p, hd H p⟩
/-- one new member a turn: R i y is known of the i-th; I i of the heap ahead of turn i -/
theorem lc_grow {J : It} {g : TG} {te : TE} {vs : List Nat} {σ : L2.St} {H1 : Hp} {D : Addr} {Qd : Hp → Prop} (n : Nat) (hn : n < sizeLine) (I : Nat → Hp → Prop) (R : Nat → V → Prop) (h0 : I 0 (upd H1 D (.lst [])))
    (hgo : ∀ i H, i < n → I i H → J.go i H) (hstop : ∀ H, I n H → J.stop n H)
    (hs : ∀ i H x H' acc, i < n → I i H → H D = some (.lst acc) → acc.length = i → (∀ j y, acc[j]? = some y → R j y) → J.yld i H x H' → ∀ Qn : VK,
      (∀ y H4, R i y → H4 D = some (.lst acc) → I (i + 1) (upd H4 D (.lst (acc ++ [y]))) → Qn y H4) → g x (wipe σ vs) H' fun σ2 H2 => wipe σ2 vs = wipe σ vs ∧ te σ2 H2 Qn)
    (hd : ∀ H acc, I n H → H D = some (.lst acc) → acc.length = n → (∀ i y, acc[i]? = some y → R i y) → Qd H) :
    ∃ W : Nat → Nat → Hp → Prop, (∃ m, W 0 m (upd H1 D (.lst []))) ∧ ∀ i m H, W i m H →
      (J.stop i H ∧ Qd H) ∨ (J.go i H ∧ ∃ Nx : Hp → Prop, (∀ H', Nx H' → ∃ m', m' < m ∧ W (i + 1) m' H') ∧ ∀ x H', J.yld i H x H' → g x (wipe σ vs) H' fun σ2 H2 => wipe σ2 vs = wipe σ vs ∧ tYes σ2 H2 fun b H3 =>
        if b = true then te σ2 H3 fun y H4 => ∃ acc, H4 D = some (.lst acc) ∧ acc.length < sizeLine ∧ Nx (upd H4 D (.lst (acc ++ [y]))) else Nx H3) := by
  refine lc_any n (fun i H => I i H ∧ ∃ acc, H D = some (.lst acc) ∧ acc.length = i ∧ ∀ j y, acc[j]? = some y → R j y) ⟨h0, [], upd_same, rfl, fun j y h => by simp at h⟩ (fun i H hi p => hgo i H hi p.1) (fun H p => hstop H p.1) (fun i H x H' hi p y => ?_) (fun H p => ?_)
  · obtain ⟨pI, acc, hD, hl, hR⟩ := p
    have z := hs i H x H' acc hi pI hD hl hR y (fun y H4 => ∃ acc, H4 D = some (.lst acc) ∧ acc.length < sizeLine ∧ I (i + 1) (upd H4 D (.lst (acc ++ [y]))) ∧ ∃ acc', (upd H4 D (.lst (acc ++ [y]))) D = some (.lst acc') ∧ acc'.length = i + 1 ∧ ∀ j y, acc'[j]? = some y → R j y) fun z H4 hr h4 hi4 => by
      refine ⟨acc, h4, by omega, hi4, acc ++ [z], upd_same, by simp [hl], fun j u hj => ?_⟩
      by_cases hja : j < acc.length
      · rw [List.getElem?_append_left hja] at hj
        exact hR j u hj
      · have hj2 : j = i := by
          have := (List.getElem?_eq_some_iff.mp hj).1
          simp at this
          omega
        subst hj2
        rw [List.getElem?_append_right (by omega), hl] at hj
        simp at hj
        rw [← hj]
        exact hr
    have e : ∀ (A : TE) (B : Hp → Prop) (Q : VK), (fun (σ2 : L2.St) (H2 : Hp) => wipe σ2 vs = wipe σ vs ∧ A σ2 H2 Q) = fun σ2 H2 => wipe σ2 vs = wipe σ vs ∧ tYes σ2 H2 fun b H3 => if b = true then A σ2 H3 Q else B H3 := fun A B Q => by
      funext σ2 H2
      simp [tYes]
    rw [e te (fun H3 => I (i + 1) H3 ∧ ∃ acc', H3 D = some (.lst acc') ∧ acc'.length = i + 1 ∧ ∀ j y, acc'[j]? = some y → R j y)] at z
    exact z
  · obtain ⟨pI, acc, hD, hl, hR⟩ := p
    exact hd H acc pI hD hl hR
/-- over range(n) -/
theorem lc_growR {g : TG} {te : TE} {vs : List Nat} {σ : L2.St} {H1 : Hp} {D : Addr} {Qd : Hp → Prop} {lo : Int} (n : Nat) (hn : n < sizeLine) (I : Nat → Hp → Prop) (R : Nat → V → Prop) (h0 : I 0 (upd H1 D (.lst [])))
    (hs : ∀ i H acc, i < n → I i H → H D = some (.lst acc) → acc.length = i → (∀ j y, acc[j]? = some y → R j y) → ∀ Qn : VK,
      (∀ y H4, R i y → H4 D = some (.lst acc) → I (i + 1) (upd H4 D (.lst (acc ++ [y]))) → Qn y H4) → g (.int (lo + i)) (wipe σ vs) H fun σ2 H2 => wipe σ2 vs = wipe σ vs ∧ te σ2 H2 Qn)
    (hd : ∀ H acc, I n H → H D = some (.lst acc) → acc.length = n → (∀ i y, acc[i]? = some y → R i y) → Qd H) :
    ∃ W : Nat → Nat → Hp → Prop, (∃ m, W 0 m (upd H1 D (.lst []))) ∧ ∀ i m H, W i m H →
      ((Itr lo n).stop i H ∧ Qd H) ∨ ((Itr lo n).go i H ∧ ∃ Nx : Hp → Prop, (∀ H', Nx H' → ∃ m', m' < m ∧ W (i + 1) m' H') ∧ ∀ x H', (Itr lo n).yld i H x H' → g x (wipe σ vs) H' fun σ2 H2 => wipe σ2 vs = wipe σ vs ∧ tYes σ2 H2 fun b H3 =>
        if b = true then te σ2 H3 fun y H4 => ∃ acc, H4 D = some (.lst acc) ∧ acc.length < sizeLine ∧ Nx (upd H4 D (.lst (acc ++ [y]))) else Nx H3) := by
  refine lc_grow n hn I R h0 (fun i H hi _ => hi) (fun H _ => Nat.le_refl n) (fun i H x H' acc hi pI hD hl hR y Qn hq => ?_) hd
  obtain ⟨e1, e2⟩ := y
  subst e1 e2
  exact hs i H' acc hi pI hD hl hR Qn hq
/-- over a list that stays -/
theorem lc_growL {K : PySem.W.Frag} {a : Addr} {xs : List V} {g : TG} {te : TE} {vs : List Nat} {σ : L2.St} {H1 : Hp} {D : Addr} {Qd : Hp → Prop} (hn : xs.length < sizeLine) (I : Nat → Hp → Prop) (R : Nat → V → Prop) (h0 : I 0 (upd H1 D (.lst [])))
    (hl : ∀ i H, I i H → SqL K H a xs)
    (hs : ∀ i x H acc, xs[i]? = some x → I i H → H D = some (.lst acc) → acc.length = i → (∀ j y, acc[j]? = some y → R j y) → ∀ Qn : VK,
      (∀ y H4, R i y → H4 D = some (.lst acc) → I (i + 1) (upd H4 D (.lst (acc ++ [y]))) → Qn y H4) → g x (wipe σ vs) H fun σ2 H2 => wipe σ2 vs = wipe σ vs ∧ te σ2 H2 Qn)
    (hd : ∀ H acc, I xs.length H → H D = some (.lst acc) → acc.length = xs.length → (∀ i y, acc[i]? = some y → R i y) → Qd H) :
    ∃ W : Nat → Nat → Hp → Prop, (∃ m, W 0 m (upd H1 D (.lst []))) ∧ ∀ i m H, W i m H →
      ((Itl K a).stop i H ∧ Qd H) ∨ ((Itl K a).go i H ∧ ∃ Nx : Hp → Prop, (∀ H', Nx H' → ∃ m', m' < m ∧ W (i + 1) m' H') ∧ ∀ x H', (Itl K a).yld i H x H' → g x (wipe σ vs) H' fun σ2 H2 => wipe σ2 vs = wipe σ vs ∧ tYes σ2 H2 fun b H3 =>
        if b = true then te σ2 H3 fun y H4 => ∃ acc, H4 D = some (.lst acc) ∧ acc.length < sizeLine ∧ Nx (upd H4 D (.lst (acc ++ [y]))) else Nx H3) := by
  refine lc_grow xs.length hn I R h0 (fun i H hi p => ⟨xs, xs[i], hl i H p, List.getElem?_eq_getElem hi⟩) (fun H p => ⟨xs, hl _ H p, Nat.le_refl _⟩) (fun i H x H' acc hi pI hD hla hR y Qn hq => ?_) hd
  obtain ⟨e1, e2⟩ := y
  subst e1
  exact hs i x H' acc (e2 _ (hl i H' pI)) pI hD hla hR Qn hq
/-- over a tuple that stays -/
theorem lc_growT {K : PySem.W.Frag} {a : Addr} {xs : List V} {g : TG} {te : TE} {vs : List Nat} {σ : L2.St} {H1 : Hp} {D : Addr} {Qd : Hp → Prop} (hn : xs.length < sizeLine) (I : Nat → Hp → Prop) (R : Nat → V → Prop) (h0 : I 0 (upd H1 D (.lst [])))
    (hl : ∀ i H, I i H → SqT K H a xs)
    (hs : ∀ i x H acc, xs[i]? = some x → I i H → H D = some (.lst acc) → acc.length = i → (∀ j y, acc[j]? = some y → R j y) → ∀ Qn : VK,
      (∀ y H4, R i y → H4 D = some (.lst acc) → I (i + 1) (upd H4 D (.lst (acc ++ [y]))) → Qn y H4) → g x (wipe σ vs) H fun σ2 H2 => wipe σ2 vs = wipe σ vs ∧ te σ2 H2 Qn)
    (hd : ∀ H acc, I xs.length H → H D = some (.lst acc) → acc.length = xs.length → (∀ i y, acc[i]? = some y → R i y) → Qd H) :
    ∃ W : Nat → Nat → Hp → Prop, (∃ m, W 0 m (upd H1 D (.lst []))) ∧ ∀ i m H, W i m H →
      ((Itt K a).stop i H ∧ Qd H) ∨ ((Itt K a).go i H ∧ ∃ Nx : Hp → Prop, (∀ H', Nx H' → ∃ m', m' < m ∧ W (i + 1) m' H') ∧ ∀ x H', (Itt K a).yld i H x H' → g x (wipe σ vs) H' fun σ2 H2 => wipe σ2 vs = wipe σ vs ∧ tYes σ2 H2 fun b H3 =>
        if b = true then te σ2 H3 fun y H4 => ∃ acc, H4 D = some (.lst acc) ∧ acc.length < sizeLine ∧ Nx (upd H4 D (.lst (acc ++ [y]))) else Nx H3) := by
  refine lc_grow xs.length hn I R h0 (fun i H hi p => ⟨xs, xs[i], hl i H p, List.getElem?_eq_getElem hi⟩) (fun H p => ⟨xs, hl _ H p, Nat.le_refl _⟩) (fun i H x H' acc hi pI hD hla hR y Qn hq => ?_) hd
  obtain ⟨e1, e2⟩ := y
  subst e1
  exact hs i x H' acc (e2 _ (hl i H' pI)) pI hD hla hR Qn hq
/-- what is known of every member, as an equation of lists -/
theorem eq_map {acc : List V} {n : Nat} {f : Nat → V} (hl : acc.length = n) (h : ∀ i y, acc[i]? = some y → y = f i) : acc = (List.range n).map f := by
  refine List.ext_getElem? fun i => ?_
  by_cases hi : i < n
  · have e : acc[i]? = some acc[i] := List.getElem?_eq_getElem (by omega)
    rw [e, h i _ e]
    simp [hi]
  · have h1 : acc[i]? = none := List.getElem?_eq_none_iff.mpr (by omega)
    have h2 : ((List.range n).map f)[i]? = none := List.getElem?_eq_none_iff.mpr (by rw [List.length_map, List.length_range]; omega)
    rw [h1, h2]
end ZK

/-! x in t, t a tuple of data -/
namespace ZK
open PySem L2 PyProof.Rows
theorem canLay_tup {ds : List PyData} (h : SeqAt.shaped (.tuple ds) = true) : PyData.canLayAll0 ds = true := by
  have e := SeqAt.canLay_of_shaped h
  rw [PyData.canLay0] at e
  exact e
def rInDT (K : PySem.W.Frag) : R2 := fun x y H Q => ∃ d ds, Dp K H x d ∧ Dp K H y (.tuple ds) ∧ SeqAt.shaped d = true ∧ SeqAt.shaped (.tuple ds) = true ∧ Q (.bl (ds.any fun z => PyData.eqv z d)) H
theorem op_inDT {X : Cx} (hu : X.A.units + 65 < cLine) : OpR X (compareOp .In) (rInDT X.K) := by
  intro pins s σ H x y v u Q I rx ry h
  obtain ⟨d, ds, hd, he, sd, se, q⟩ := h
  obtain ⟨as, r1⟩ := Dp.reads I d x v hd rx
  obtain ⟨bs, r2⟩ := Dp.reads I (.tuple ds) y u he ry
  exact SeqAt.in_tuple_reads r2 r1 (canLay_tup se) (SeqAt.canLay_of_shaped sd) (room_in_shaped sd hu) ⟨.bl _, H, I, rfl, q⟩
def rNotInDT (K : PySem.W.Frag) : R2 := fun x y H Q => ∃ d ds, Dp K H x d ∧ Dp K H y (.tuple ds) ∧ SeqAt.shaped d = true ∧ SeqAt.shaped (.tuple ds) = true ∧ Q (.bl (!ds.any fun z => PyData.eqv z d)) H
theorem op_notInDT {X : Cx} (hu : X.A.units + 65 < cLine) : OpR X (compareOp .NotIn) (rNotInDT X.K) := by
  intro pins s σ H x y v u Q I rx ry h
  obtain ⟨d, ds, hd, he, sd, se, q⟩ := h
  obtain ⟨as, r1⟩ := Dp.reads I d x v hd rx
  obtain ⟨bs, r2⟩ := Dp.reads I (.tuple ds) y u he ry
  exact SeqAt.notIn_tuple_reads r2 r1 (canLay_tup se) (SeqAt.canLay_of_shaped sd) (room_in_shaped sd hu) ⟨.bl _, H, I, rfl, q⟩
end ZK

namespace EN.M
/-! ### falling products, binomials over all integers -/
def ff (n : Int) : Nat → Int
  | 0 => 1
  | k + 1 => ff n k * (n - k)
def fac : Nat → Int
  | 0 => 1
  | k + 1 => fac k * (k + 1)
theorem fac_pos : ∀ k, 0 < fac k
  | 0 => by decide
  | k + 1 => Int.mul_pos (fac_pos k) (by omega)
theorem ff_up (n : Int) : ∀ k, ff (n + 1) (k + 1) = (n + 1) * ff n k
  | 0 => by simp [ff]
  | k + 1 => by
    have ih := ff_up n k
    rw [ff, ih, ff, Int.mul_assoc]
    have e : n + 1 - ((k + 1 : Nat) : Int) = n - (k : Int) := by omega
    rw [e]
theorem ff_step (n : Int) (k : Nat) : ff (n + 1) (k + 1) = ff n (k + 1) + (k + 1) * ff n k := by
  rw [ff_up, show ff n (k + 1) = ff n k * (n - k) from rfl, Int.mul_comm (ff n k), ← Int.add_mul]
  have e : n - (k : Int) + ((k : Int) + 1) = n + 1 := by omega
  rw [e]
theorem ff_zero : ∀ k, ff 0 (k + 1) = 0
  | 0 => by simp [ff]
  | k + 1 => by rw [ff, ff_zero k, Int.zero_mul]
/-- up and down from 0 -/
theorem int_ind {p : Int → Prop} (h0 : p 0) (up : ∀ n, p n → p (n + 1)) (down : ∀ n, p (n + 1) → p n) : ∀ n, p n := by
  have a : ∀ m : Nat, p (m : Int) := fun m => by
    induction m with
    | zero => exact h0
    | succ m ih => exact up _ ih
  have b : ∀ m : Nat, p (-(m : Int)) := fun m => by
    induction m with
    | zero => exact h0
    | succ m ih =>
      refine down _ ?_
      have e : -((m + 1 : Nat) : Int) + 1 = -(m : Int) := by omega
      rw [e]
      exact ih
  intro n
  by_cases h : 0 ≤ n
  · have := a n.toNat
    rwa [Int.toNat_of_nonneg h] at this
  · have := b (-n).toNat
    rwa [Int.toNat_of_nonneg (by omega), Int.neg_neg] at this
theorem dvd_ff : ∀ (k : Nat) (n : Int), fac k ∣ ff n k
  | 0, n => ⟨1, by simp [ff, fac]⟩
  | k + 1, n => by
    have part : ∀ n : Int, fac (k + 1) ∣ (k + 1) * ff n k := fun n => by
      obtain ⟨q, e⟩ := dvd_ff k n
      exact ⟨q, by rw [e, fac, ← Int.mul_assoc, Int.mul_comm ((k : Int) + 1)]⟩
    refine int_ind (p := fun n => fac (k + 1) ∣ ff n (k + 1)) ⟨0, by rw [ff_zero, Int.mul_zero]⟩ (fun n h => ?_) (fun n h => ?_) n
    · rw [ff_step]
      exact Int.dvd_add h (part n)
    · rw [ff_step] at h
      exact (Int.dvd_add_left (part n)).mp h
def C (n : Int) (k : Nat) : Int := ff n k / fac k
theorem C_mul (n : Int) (k : Nat) : C n k * fac k = ff n k := Int.ediv_mul_cancel (dvd_ff k n)
theorem fac_cancel {k : Nat} {a b : Int} (h : a * fac k = b * fac k) : a = b := Int.eq_of_mul_eq_mul_right (Int.ne_of_gt (fac_pos k)) h
theorem C_zero (n : Int) : C n 0 = 1 := by simp [C, ff, fac]
theorem C_rec (n : Int) (k : Nat) : C n (k + 1) * (k + 1) = C n k * (n - k) := by
  refine fac_cancel (k := k) ?_
  rw [Int.mul_assoc, Int.mul_comm ((k : Int) + 1), show fac k * ((k : Int) + 1) = fac (k + 1) from rfl, C_mul, ff, ← C_mul n k, Int.mul_right_comm]
theorem C_next (n : Int) (k : Nat) : C n k * (n - k) / ((k : Int) + 1) = C n (k + 1) := by
  rw [← C_rec]
  exact Int.mul_ediv_cancel _ (by omega)
theorem pascal (n : Int) (k : Nat) : C (n + 1) (k + 1) = C n (k + 1) + C n k := by
  refine fac_cancel (k := k + 1) ?_
  rw [Int.add_mul, C_mul, C_mul, ff_step, show fac (k + 1) = fac k * ((k : Int) + 1) from rfl, ← Int.mul_assoc, C_mul, Int.mul_comm (ff n k)]
theorem C_at0 (k : Nat) : C 0 (k + 1) = 0 := by rw [C, ff_zero, Int.zero_ediv]
/-! ### rows -/
def valF : Nat → List Int → Int → Int
  | _, [], _ => 0
  | j, a :: r, n => a * C n j + valF (j + 1) r n
def val (r : List Int) (n : Int) : Int := valF 0 r n
theorem valF_step : ∀ (r : List Int) (j : Nat) (n : Int), valF (j + 1) r (n + 1) = valF (j + 1) r n + valF j r n
  | [], j, n => rfl
  | a :: r, j, n => by
    rw [valF, valF, valF, valF_step r (j + 1) n, pascal, Int.mul_add]
    omega
theorem valF_at0 : ∀ (r : List Int) (j : Nat), valF (j + 1) r 0 = 0
  | [], _ => rfl
  | a :: r, j => by rw [valF, C_at0, Int.mul_zero, valF_at0 r (j + 1), Int.zero_add]
theorem val_cons (a : Int) (r : List Int) (n : Int) : val (a :: r) n = a + valF 1 r n := by
  show a * C n 0 + valF 1 r n = _
  rw [C_zero, Int.mul_one]
theorem valF1_step (r : List Int) (n : Int) : valF 1 r (n + 1) = valF 1 r n + val r n := valF_step r 0 n
/-! ### through values -/
def diffs : List Int → List Int
  | a :: b :: r => (b - a) :: diffs (b :: r)
  | _ => []
theorem diffs_len : ∀ l : List Int, (diffs l).length = l.length - 1
  | [] => rfl
  | [_] => rfl
  | a :: b :: r => by
    have ih := diffs_len (b :: r)
    rw [diffs, List.length_cons, ih]
    simp
theorem diffs_get : ∀ (l : List Int) (k : Nat) (x y : Int), l[k]? = some x → l[k + 1]? = some y → (diffs l)[k]? = some (y - x)
  | [], k, x, y, h, _ => by simp at h
  | [a], k, x, y, h, h2 => by simp at h2
  | a :: b :: r, 0, x, y, h, h2 => by
    simp at h h2
    simp [diffs, h, h2]
  | a :: b :: r, k + 1, x, y, h, h2 => by
    have ih := diffs_get (b :: r) k x y (by simpa using h) (by simpa using h2)
    simpa [diffs] using ih
def thrN : Nat → List Int → List Int
  | m + 1, a :: r => a :: thrN m (diffs (a :: r))
  | _, _ => []
def thr (l : List Int) : List Int := thrN l.length l
theorem thr_nil : thr [] = [] := rfl
theorem thr_cons (a : Int) (r : List Int) : thr (a :: r) = a :: thr (diffs (a :: r)) := by
  show a :: thrN r.length (diffs (a :: r)) = a :: thrN (diffs (a :: r)).length (diffs (a :: r))
  rw [diffs_len]
  rfl
theorem thr_len (l : List Int) : (thr l).length = l.length := by
  have h : ∀ m (l : List Int), l.length = m → (thr l).length = m := by
    intro m
    induction m with
    | zero => intro l h; cases l with
      | nil => rfl
      | cons a r => simp at h
    | succ m ih => intro l h; cases l with
      | nil => simp at h
      | cons a r =>
        rw [thr_cons, List.length_cons, ih _ (by rw [diffs_len, h]; rfl)]
  exact h _ l rfl
theorem thr_val (l : List Int) : ∀ k : Nat, k < l.length → l[k]? = some (val (thr l) (k : Int)) := by
  have h : ∀ m (l : List Int), l.length = m → ∀ k : Nat, k < m → l[k]? = some (val (thr l) (k : Int)) := by
    intro m
    induction m with
    | zero => intro l h k hk; omega
    | succ m ih => intro l h; cases l with
      | nil => simp at h
      | cons a r =>
        intro k
        induction k with
        | zero =>
          intro _
          rw [thr_cons, val_cons, show ((0 : Nat) : Int) = 0 from rfl, valF_at0, Int.add_zero]
          rfl
        | succ k ihk =>
          intro hk
          have h1 := ihk (by omega)
          have hd := ih (diffs (a :: r)) (by rw [diffs_len, h]; rfl) k (by omega)
          obtain ⟨y, hy⟩ : ∃ y, (a :: r)[k + 1]? = some y := ⟨_, List.getElem?_eq_getElem (by omega)⟩
          have h2 := diffs_get _ k _ _ h1 hy
          rw [h2] at hd
          rw [hy]
          have e := Option.some.inj hd
          rw [thr_cons, val_cons] at e ⊢
          rw [show ((k + 1 : Nat) : Int) = (k : Int) + 1 from rfl, valF1_step, ← e]
          congr 1
          omega
  exact h _ l rfl
theorem row_unique : ∀ (r r' : List Int), r.length = r'.length → (∀ k : Nat, k < r.length → val r (k : Int) = val r' (k : Int)) → r = r'
  | [], [], _, _ => rfl
  | [], _ :: _, h, _ => by simp at h
  | _ :: _, [], h, _ => by simp at h
  | a :: r, b :: s, h, hv => by
    have h0 := hv 0 (by simp)
    rw [val_cons, val_cons, show ((0 : Nat) : Int) = 0 from rfl, valF_at0, valF_at0, Int.add_zero, Int.add_zero] at h0
    subst h0
    have hl : r.length = s.length := by simpa using h
    congr 1
    refine row_unique r s hl fun k hk => ?_
    have h1 := hv k (by rw [List.length_cons]; omega)
    have h2 := hv (k + 1) (by rw [List.length_cons]; omega)
    rw [val_cons, val_cons] at h1 h2
    rw [show ((k + 1 : Nat) : Int) = (k : Int) + 1 from rfl, valF1_step, valF1_step] at h2
    omega
def vals (f : Int → Int) (m : Nat) : List Int := (List.range m).map fun k : Nat => f (k : Int)
theorem vals_len (f : Int → Int) (m : Nat) : (vals f m).length = m := by simp [vals]
theorem vals_get (f : Int → Int) (m k : Nat) (h : k < m) : (vals f m)[k]? = some (f (k : Int)) := by
  simp [vals, h]
theorem thr_vals (r : List Int) : thr (vals (val r) r.length) = r := by
  refine row_unique _ _ (by rw [thr_len, vals_len]) fun k hk => ?_
  rw [thr_len, vals_len] at hk
  have h := thr_val (vals (val r) r.length) k (by rw [vals_len]; exact hk)
  rw [vals_get _ _ _ hk] at h
  exact (Option.some.inj h).symm
theorem vals_congr {f g : Int → Int} {m : Nat} (h : ∀ k : Nat, k < m → f (k : Int) = g (k : Int)) : vals f m = vals g m := by
  unfold vals
  exact List.map_congr_left fun k hk => h k (List.mem_range.mp hk)
/-! ### ahead -/
def ah : List Int → Int → List Int
  | [], _ => []
  | a :: r, k => val (a :: r) k :: ah r k
theorem ah_len (k : Int) : ∀ r : List Int, (ah r k).length = r.length
  | [] => rfl
  | a :: r => by rw [ah, List.length_cons, ah_len k r, List.length_cons]
theorem ah_val (k : Int) : ∀ (r : List Int) (n : Int), val (ah r k) n = val r (n + k)
  | [], n => rfl
  | a :: r, n => by
    have ih := ah_val k r
    rw [ah, val_cons, val_cons, val_cons]
    refine int_ind (p := fun n => a + valF 1 r k + valF 1 (ah r k) n = a + valF 1 r (n + k)) ?_ (fun n h => ?_) (fun n h => ?_) n
    · rw [valF_at0, Int.zero_add, Int.add_zero]
    · rw [valF1_step, ih, show n + 1 + k = n + k + 1 by omega, valF1_step]
      omega
    · rw [valF1_step, ih, show n + 1 + k = n + k + 1 by omega, valF1_step] at h
      omega
theorem ah_get (k : Int) : ∀ (r : List Int) (j : Nat), j < r.length → (ah r k)[j]? = some (val (r.drop j) k)
  | [], j, h => by simp at h
  | a :: r, 0, h => rfl
  | a :: r, j + 1, h => by
    have ih := ah_get k r j (by simpa using h)
    simpa [ah] using ih
theorem ah_eq (r : List Int) (k : Int) : (List.range r.length).map (fun j => val (r.drop j) k) = ah r k := by
  refine List.ext_getElem? fun j => ?_
  by_cases h : j < r.length
  · rw [ah_get k r j h]
    simp [h]
  · have h1 : (ah r k)[j]? = none := List.getElem?_eq_none_iff.mpr (by rw [ah_len]; omega)
    rw [h1]
    simp; omega
/-! ### without the zeros at the end -/
def cutN (r : List Int) : Nat → Nat
  | 0 => 0
  | e + 1 => if r[e]? = some 0 then cutN r e else e + 1
def cut (r : List Int) : List Int := r.take (cutN r r.length)
theorem cutN_le (r : List Int) : ∀ e, cutN r e ≤ e
  | 0 => Nat.le_refl _
  | e + 1 => by
    unfold cutN
    split
    · exact Nat.le_succ_of_le (cutN_le r e)
    · exact Nat.le_refl _
theorem valF_append : ∀ (r s : List Int) (j : Nat) (n : Int), valF j (r ++ s) n = valF j r n + valF (j + r.length) s n
  | [], s, j, n => by simp [valF]
  | a :: r, s, j, n => by
    rw [List.cons_append, valF, valF, valF_append r s (j + 1) n, List.length_cons, show j + 1 + r.length = j + (r.length + 1) by omega]
    omega
theorem val_take (r : List Int) (n : Int) : ∀ e, e ≤ r.length → val (r.take (cutN r e)) n = val (r.take e) n
  | 0, _ => rfl
  | e + 1, h => by
    unfold cutN
    split
    · rename_i z
      rw [val_take r n e (by omega)]
      have hx : e < r.length := by omega
      rw [List.take_succ_eq_append_getElem hx, val, val, valF_append]
      have e0 : r[e] = 0 := by
        rw [List.getElem?_eq_getElem hx] at z
        exact Option.some.inj z
      rw [e0]
      simp [valF]
    · rfl
theorem cut_val (r : List Int) (n : Int) : val (cut r) n = val r n := by
  rw [cut, val_take r n _ (Nat.le_refl _), List.take_length]
/-! ### the falling product as a row -/
def fallRow (m : Nat) : List Int := List.replicate m 0 ++ [fac m]
theorem valF_zeros (n : Int) : ∀ (m j : Nat), valF j (List.replicate m 0) n = 0
  | 0, _ => rfl
  | m + 1, j => by rw [List.replicate_succ, valF, valF_zeros n m (j + 1), Int.zero_mul, Int.zero_add]
theorem fall_val (m : Nat) (n : Int) : val (fallRow m) n = ff n m := by
  rw [fallRow, val, valF_append, valF_zeros, List.length_replicate]
  show 0 + (fac m * C n (0 + m) + 0) = _
  rw [Nat.zero_add, Int.zero_add, Int.add_zero, Int.mul_comm, C_mul]
theorem fall_len (m : Nat) : (fallRow m).length = m + 1 := by simp [fallRow]
/-! ### what the law wishes -/
theorem through_law (vs : List Int) (o : Int) : cut (ah (thr vs) (-o)) = cut (thr (vals (fun n => val (cut (thr vs)) (n - o)) vs.length)) := by
  have h : vals (fun n => val (cut (thr vs)) (n - o)) vs.length = vals (val (ah (thr vs) (-o))) (ah (thr vs) (-o)).length := by
    rw [ah_len, thr_len]
    refine vals_congr fun k _ => ?_
    rw [ah_val, cut_val]
    rfl
  rw [h, thr_vals]
theorem through_back (vs : List Int) (o : Int) (k : Nat) (h : k < vs.length) : vs[k]? = some (val (cut (ah (thr vs) (-o))) (o + k)) := by
  rw [cut_val, ah_val, show o + (k : Int) + -o = (k : Int) by omega]
  exact thr_val vs k h
theorem falling_law (m : Nat) (o : Int) : cut (ah (fallRow m) (-o)) = cut (thr (vals (fun n => ff (n - o) m) (m + 1))) := by
  have h : vals (fun n => ff (n - o) m) (m + 1) = vals (val (ah (fallRow m) (-o))) (ah (fallRow m) (-o)).length := by
    rw [ah_len, fall_len]
    refine vals_congr fun k _ => ?_
    rw [ah_val, fall_val]
    rfl
  rw [h, thr_vals]
end EN.M

namespace EN
open PySem L2 PyProof.Rows
def top (i : Nat) : Stmt := PySem.Challenge.pw_everyname_k58_groups_made_conjugate.main.body.getD i (.Pass ⟨0, 0, 0, 0⟩)

/-! ### a def by its module name -/
/-- the module's x is a def that keeps the promise sp by level k -/
structure Has (P : Program) (w : World) (K : PySem.W.Frag) (mg : Str → Option Value) (base : Heap) (k : Nat) (x : Str) (ps : List Str) (sp : Sp) : Prop where
  ex : ∃ (f : Addr) (fd : FuncData), FnOk P w K mg base CX0 k f fd ps sp ∧ mg x = some (.ref f) ∧ PySem.W.keepIn K (.ref f) = true ∧ Binds K fd ps []
section
variable {X : Cx} {k : Nat} {x : Str} {ps : List Str} {sp : Sp} {p pos : Pos} {e : Expr} {es : List Expr} {t : TA}
theorem pe_has (O : Has X.prog X.w X.K X.mg X.base k x ps sp) (hr : Room k X.A) (ha : PA X (e :: es) t) (hg : Gl X x := by rfl) (hdb : (x == ("__debug__" : Str)) = false := by decide)
    (he : starEach (e :: es) X.env = (false, eval e X.env) :: starEach es X.env := by rfl) (hpl : (backTo pos (starEach es X.env)).any (·.1) = false := by rfl) :
    PE X (.Call (.Name x p) (e :: es) [] pos) (tCall sp [] E0 t) := by
  obtain ⟨f, fd, F, hm, hk, hb⟩ := O.ex
  exact pe_call F hr hg hm hk hb .nil pass0 ha hdb he hpl
end

/-! ### built-ins whose reading names the written part -/
def rLenQ (K : PySem.W.Frag) : List V → Hp → VK → Prop := fun xs H Q => ∃ p ys, xs = [.ref p] ∧ (SqL K H p ys ∨ SqT K H p ys) ∧ Q (.int ys.length) H
theorem c_len {X : Cx} : CallR X (.builtin "len") (rLenQ X.K) := call_len_seq
def rListQ (K : PySem.W.Frag) : List V → Hp → VK → Prop := fun xs H Q => ∃ p ys, xs = [.ref p] ∧ (SqL K H p ys ∨ SqT K H p ys) ∧ ∀ l, H l = none → Q (.ref l) (upd H l (.lst ys))
theorem c_list {X : Cx} : CallR X (.type "list") (rListQ X.K) := call_list_of
def rTupQ (K : PySem.W.Frag) : List V → Hp → VK → Prop := fun xs H Q => ∃ p ys, xs = [.ref p] ∧ ((SqL K H p ys ∧ ∀ l, H l = none → Q (.ref l) (upd H l (.tup ys))) ∨ (SqT K H p ys ∧ Q (.ref p) H))
theorem c_tuple {X : Cx} : CallR X (.type "tuple") (rTupQ X.K) := call_tuple_of

/-! ### heaps -/
/-- what stood stands, but at p -/
def But (p : Addr) (H H' : Hp) : Prop := ∀ b o, H b = some o → b ≠ p → H' b = some o
theorem But.refl (p : Addr) (H : Hp) : But p H H := fun _ _ h _ => h
theorem But.trans {p : Addr} {H H1 H2 : Hp} (a : But p H H1) (b : But p H1 H2) : But p H H2 := fun c o h n => b c o (a c o h n) n
theorem But.upd {p : Addr} {H H1 : Hp} (a : But p H H1) (u : HO) : But p H (upd H1 p u) := fun c o h n => by
  rw [upd_ne n]; exact a c o h n
theorem But.new {p q : Addr} {H H1 : Hp} (a : But p H H1) (u : HO) (hq : H1 q = none) : But p H (L2.upd H1 q u) := fun c o h n => by
  rw [upd_ne (ne_of_none (a c o h n) hq)]; exact a c o h n
theorem same_but {p : Addr} {H H' : Hp} (a : Same H H') : But p H H' := fun c o h _ => a c o h
theorem same_new {q : Addr} {H H1 : Hp} (a : Same H H1) (u : HO) (hq : H1 q = none) : Same H (upd H1 q u) := fun c o h => by
  rw [upd_ne (ne_of_none (a c o h) hq)]; exact a c o h

/-- an object that came later is changed -/
theorem same_but_new {q : Addr} {H H1 : Hp} {u : HO} (a : Same H H1) (hq : H q = none) : Same H (upd H1 q u) := fun c o h => by
  rw [upd_ne (ne_of_none h hq)]; exact a c o h
theorem but_new {p q : Addr} {H H1 : Hp} {u : HO} (a : But p H H1) (hq : H q = none) : But p H (upd H1 q u) := fun c o h n => by
  rw [upd_ne (ne_of_none h hq)]; exact a c o h n

/-! ### the pen -/
abbrev kC : Key := Sum.inr "cells"
abbrev kB : Key := Sum.inr "begun"
abbrev kR : Key := Sum.inr "rest"
def penO (c : Addr) (b r : Int) : HO := .dK [(kC, .ref c), (kB, .int b), (kR, .int r)]
theorem pen_c (c : Addr) (b r : Int) : valV [(kC, V.ref c), (kB, .int b), (kR, .int r)] kC = some (.ref c) := by simp [valV]
theorem pen_b (c : Addr) (b r : Int) : valV [(kC, V.ref c), (kB, .int b), (kR, .int r)] kB = some (.int b) := by
  rw [valV_neg (show ¬ (kC = kB) by decide +kernel), valV_pos rfl]
theorem pen_r (c : Addr) (b r : Int) : valV [(kC, V.ref c), (kB, .int b), (kR, .int r)] kR = some (.int r) := by
  rw [valV_neg (show ¬ (kC = kR) by decide +kernel), valV_neg (show ¬ (kB = kR) by decide +kernel), valV_pos rfl]
theorem pen_pb (c : Addr) (b r : Int) (y : V) : putK [(kC, V.ref c), (kB, .int b), (kR, .int r)] kB y = [(kC, V.ref c), (kB, y), (kR, .int r)] := by
  have h1 : ¬ (kC = kB) := by decide +kernel
  have h2 : ¬ (kR = kB) := by decide +kernel
  unfold putK
  simp [h1, h2]
theorem pen_pr (c : Addr) (b r : Int) (y : V) : putK [(kC, V.ref c), (kB, .int b), (kR, .int r)] kR y = [(kC, V.ref c), (kB, .int b), (kR, y)] := by
  have h1 : ¬ (kC = kR) := by decide +kernel
  have h2 : ¬ (kB = kR) := by decide +kernel
  unfold putK
  simp [h1, h2]
/-- the pen at p over the cells ns at c; at most B cells were begun -/
structure Pen (H : Hp) (p c : Addr) (ns : List Int) (B : Nat) : Prop where
  at_ : ∃ b r : Int, H p = some (penO c b r) ∧ 0 ≤ b ∧ b ≤ B ∧ 0 ≤ r
  cells : H c = some (.lst (ns.map V.int))
  few : ns.length ≤ 63
  small : B ≤ 1000000000
theorem Pen.ne {H : Hp} {p c : Addr} {ns : List Int} {B : Nat} (h : Pen H p c ns B) : c ≠ p := by
  obtain ⟨b, r, e, _⟩ := h.at_
  exact ne_of h.cells e (by intro z; cases z)
theorem Pen.more {H : Hp} {p c : Addr} {ns : List Int} {B B' : Nat} (h : Pen H p c ns B) (hb : B ≤ B') (hs : B' ≤ 1000000000) : Pen H p c ns B' := by
  obtain ⟨b, r, e, h0, h1, h2⟩ := h.at_
  exact ⟨⟨b, r, e, h0, by omega, h2⟩, h.cells, h.few, hs⟩
/-- other objects may come, or change -/
theorem Pen.stay {H H' : Hp} {p c : Addr} {ns : List Int} {B : Nat} (h : Pen H p c ns B) (hp : H' p = H p) (hc : H' c = H c) : Pen H' p c ns B := by
  obtain ⟨b, r, e, z⟩ := h.at_
  exact ⟨⟨b, r, hp.trans e, z⟩, hc.trans h.cells, h.few, h.small⟩
theorem Pen.same {H H' : Hp} {p c : Addr} {ns : List Int} {B : Nat} (h : Pen H p c ns B) (s : Same H H') : Pen H' p c ns B := by
  obtain ⟨b, r, e, z⟩ := h.at_
  exact ⟨⟨b, r, s _ _ e, z⟩, s _ _ h.cells, h.few, h.small⟩
theorem Pen.new {H : Hp} {p c q : Addr} {ns : List Int} {B : Nat} {u : HO} (h : Pen H p c ns B) (hq : H q = none) : Pen (upd H q u) p c ns B := by
  obtain ⟨b, r, e, z⟩ := h.at_
  exact h.stay (upd_ne (ne_of_none e hq)) (upd_ne (ne_of_none h.cells hq))
theorem Pen.nep {H : Hp} {p c q : Addr} {ns : List Int} {B : Nat} (h : Pen H p c ns B) (hq : H q = none) : q ≠ p := by
  obtain ⟨b, r, e, z⟩ := h.at_
  exact (ne_of_none e hq).symm
theorem Pen.nec {H : Hp} {p c q : Addr} {ns : List Int} {B : Nat} (h : Pen H p c ns B) (hq : H q = none) : q ≠ c := (ne_of_none h.cells hq).symm

/-! ### the promises of the pen -/
def spPen (K : PySem.W.Frag) : Sp := fun vs H Q _ => ∃ (a : Addr) (ns : List Int), vs = [.ref a] ∧ SqL K H a (ns.map V.int) ∧ ns.length ≤ 63 ∧
  ∀ (p c : Addr) (H' : Hp), Same H H' → H p = none → H c = none → Pen H' p c ns 0 → Q (.ref p) H'
def spDraw : Sp := fun vs H Q _ => ∃ (p c : Addr) (ns : List Int) (B : Nat) (m : Int), vs = [.ref p, .int m] ∧ Pen H p c ns B ∧ B < 1000000000 ∧ 0 < m ∧ m.natAbs < 2 ^ 8000 ∧
  ∀ (d : Int) (H' : Hp), 0 ≤ d → d < m → Pen H' p c ns (B + 1) → But p H H' → Q (.int d) H'
/-- what the walk asks of the built-in names -/
structure Blt (mg : Str → Option Value) : Prop where
  list_ : mg "list" = none
  len_ : mg "len" = none
  int_ : mg "int" = none
  abs_ : mg "abs" = none
  range_ : mg "range" = none
  tuple_ : mg "tuple" = none
  isinstance_ : mg "isinstance" = none
  bool_ : mg "bool" = none
  all_ : mg "all" = none
  sum_ : mg "sum" = none
  zip_ : mg "zip" = none
  min_ : mg "min" = none
  sorted_ : mg "sorted" = none
  any_ : mg "any" = none
  set_ : mg "set" = none
  max_ : mg "max" = none
  str_ : mg "str" = none
  enumerate_ : mg "enumerate" = none
  reversed_ : mg "reversed" = none
  dict_ : mg "dict" = none
end EN

namespace EN
open PySem L2 PyProof.Rows
section
variable {P : Program} {w : World} {K : PySem.W.Frag} {mg : Str → Option Value} {base : Heap} {f : Addr} {fd : FuncData}
theorem sqT_same {H H' : Hp} {a : Addr} {xs : List V} (s : Same H H') (h : SqT K H a xs) : SqT K H' a xs := ZK.SqK.same (k := .t) s h
theorem sqL_but {H H' : Hp} {p a : Addr} {xs : List V} (s : But p H H') (np : ∀ o, H p = some o → o ≠ .lst xs ∧ ∀ u, o ≠ .frz u (.lst xs)) (h : SqL K H a xs) : SqL K H' a xs := by
  rcases h with (h | ⟨o, h⟩) | h
  · refine .inl (.inl (s _ _ h fun e => ?_))
    subst e
    exact (np _ h).1 rfl
  · refine .inl (.inr ⟨o, s _ _ h fun e => ?_⟩)
    subst e
    exact (np _ h).2 o rfl
  · exact .inr h
theorem sqT_but {H H' : Hp} {p a : Addr} {xs : List V} (s : But p H H') (np : ∀ o, H p = some o → o ≠ .tup xs ∧ ∀ u, o ≠ .frz u (.tup xs)) (h : SqT K H a xs) : SqT K H' a xs := by
  rcases h with (h | ⟨o, h⟩) | h
  · refine .inl (.inl (s _ _ h fun e => ?_))
    subst e
    exact (np _ h).1 rfl
  · refine .inl (.inr ⟨o, s _ _ h fun e => ?_⟩)
    subst e
    exact (np _ h).2 o rfl
  · exact .inr h
theorem Pen.sqL {H H' : Hp} {p c a : Addr} {ns : List Int} {B : Nat} {xs : List V} (P : Pen H p c ns B) (s : But p H H') (h : SqL K H a xs) : SqL K H' a xs := by
  obtain ⟨b, r, e, _⟩ := P.at_
  exact sqL_but s (fun o z => by rw [e] at z; cases z; exact ⟨(by intro q; cases q), (by intro u q; cases q)⟩) h
theorem Pen.sqT {H H' : Hp} {p c a : Addr} {ns : List Int} {B : Nat} {xs : List V} (P : Pen H p c ns B) (s : But p H H') (h : SqT K H a xs) : SqT K H' a xs := by
  obtain ⟨b, r, e, _⟩ := P.at_
  exact sqT_but s (fun o z => by rw [e] at z; cases z; exact ⟨(by intro q; cases q), (by intro u q; cases q)⟩) h
theorem tyx_lst {H : Hp} {a : Addr} {xs : List V} (h : SqL K H a xs) : TyX K H (.ref a) (.type "list") := by
  rcases h with (h | ⟨o, h⟩) | ⟨o, its, n, e, c, _⟩
  · exact .base (.lst h)
  · exact .base (.frz h)
  · exact .kList e c
theorem tyx_tup {H : Hp} {a : Addr} {xs : List V} (h : SqT K H a xs) : TyX K H (.ref a) (.type "tuple") := by
  rcases h with (h | ⟨o, h⟩) | ⟨o, its, n, e, c, _⟩
  · exact .base (.tup h)
  · exact .fTuple h
  · exact .kTuple e c
theorem look1 {f : Str} {v : V} : List.lookup f [(f, v)] = some v := by simp [List.lookup]
theorem get_int {r : List Int} {e : Nat} (h : e < r.length) : (r.map V.int)[e]? = some (.int (r.getD e 0)) ∧ r[e]? = some (r.getD e 0) := by
  rw [List.getElem?_map, List.getElem?_eq_getElem h, List.getD_eq_getElem?_getD, List.getElem?_eq_getElem h]
  exact ⟨rfl, rfl⟩
theorem sqT_upd {H : Hp} {t x C dx : Addr} {fs : List (Str × V)} {xs : List V} {o : HO} (h : SqT K H t xs) (hx : H x = some (.ins C dx fs)) : SqT K (upd H x o) t xs :=
  sqT_but (p := x) (fun b u e n => by rw [upd_ne n]; exact e) (fun u e => by rw [hx] at e; cases e; exact ⟨(by intro q; cases q), (by intro u q; cases q)⟩) h
theorem all_true (n : Nat) : ((List.range n).map fun _ => true).all id = true := by simp
end
end EN

namespace EN
open PySem L2 PyProof.Rows
section
variable {P : Program} {w : World} {K : PySem.W.Frag} {mg : Str → Option Value} {base : Heap} {f : Addr} {fd : FuncData}
abbrev s_pen : Stmt := top 20
abbrev N_pen : List Str := ["_law_script"]
theorem sc_pen : FnScope N_pen ["_law_script"] (defScope s_pen) := ⟨rfl, rfl, rfl, by decide +kernel, rfl, by decide +kernel, by decide +kernel⟩

theorem cut63 {xs : List V} (h : xs.length ≤ 63) : cutV xs none (some 63) = xs := by
  unfold cutV
  rw [show HT.sIx xs.length 0 none = 0 from rfl, show (63 : Int) = ((63 : Nat) : Int) from rfl, HT.sIx_nat, List.drop_zero, Nat.sub_zero, Nat.min_eq_right h, List.take_length]
theorem pen_mk (c : Addr) : mergeK [] [(kC, V.ref c), (kB, .int 0), (kR, .int 0)] = [(kC, V.ref c), (kB, .int 0), (kR, .int 0)] := by
  have h1 : ¬ (kC = kB) := by decide +kernel
  have h2 : ¬ (kC = kR) := by decide +kernel
  have h3 : ¬ (kB = kR) := by decide +kernel
  simp [mergeK, putK, h1, h2, h3]
theorem ok_pen (F : Fun K "_law_pen" "_law_pen" s_pen f fd) (T : Blt mg) : FnOk P w K mg base CX0 1 f fd ["_law_script"] (spPen K) := by
  refine F.ok sc_pen (fun vs H Q E h => ?_) (fun cdv A outer s H vs Q E hr h => ?_)
  · obtain ⟨a, ns, rfl, _⟩ := h
    rfl
  · obtain ⟨a, ns, rfl, hS, hl, k⟩ := h
    have hu := hu_of hr
    refine ⟨_, (pss_one (ps_ret (pe_disp (pps_cons pe_str (pe_callTy (show CallR _ _ (rListQ K) from c_list) (by rfl) T.list_ (by decide +kernel) (pa_cons (pe_slice (show SlR _ (rSlL K) from sl_list) (pv 0) po_none (po_some pe_int)) pa_nil)) (pps_cons pe_str pe_int (pps_cons pe_str pe_int pps_nil))) (by rfl) (by rfl) (fun z => by cases z) (by decide)))), ?_⟩
    intro p hp
    have s1 : Same H (upd H p (.dK [])) := same_new (Same.refl H) _ hp
    refine ⟨_, rfl, _, rfl, a, _, rfl, s1.seq hS, fun q hq => ?_⟩
    refine ⟨q, _, rfl, .inl (SqL.of upd_same), fun c hc => ?_⟩
    have ec := cut63 (xs := ns.map V.int) (by rw [List.length_map]; exact hl)
    rw [ec] at hc ⊢
    have npq : p ≠ q := ne_of_none upd_same hq
    have npc : p ≠ c := ne_of_none (by rw [upd_ne npq]; exact upd_same) hc
    have nqc : q ≠ c := ne_of_none upd_same hc
    refine ⟨by rw [upd_ne npc, upd_ne npq, upd_same], [(kC, V.ref c), (kB, .int 0), (kR, .int 0)], rfl, (by show 3 ≤ 15; decide), ?_⟩
    rw [pen_mk]
    refine k p c _ (fun b o e => ?_) hp ?_ ⟨⟨0, 0, upd_same, Int.le_refl _, by decide, Int.le_refl _⟩, by rw [upd_ne npc.symm, upd_same], hl, by decide⟩
    · have nb : b ≠ p := ne_of_none e hp
      have e1 := s1 b o e
      rw [upd_ne nb]
      exact same_new (same_new (Same.refl _) _ hq) _ hc b o e1
    · have e1 : (upd H p (HO.dK [])) c = none := (same_new (Same.refl _) _ hq).free hc
      exact s1.free e1
end
end EN

namespace EN
open PySem L2 PyProof.Rows
section
variable {P : Program} {w : World} {K : PySem.W.Frag} {mg : Str → Option Value} {base : Heap} {f : Addr} {fd : FuncData}
abbrev s_draw : Stmt := top 21
abbrev N_draw : List Str := ["_law_pen_here", "_law_many", "_law_digit", "_law_spot", "_law_size", "_law_cell", "_law_stir"]
theorem sc_draw : FnScope N_draw ["_law_pen_here", "_law_many"] (defScope s_draw) := ⟨rfl, rfl, rfl, by decide +kernel, rfl, by decide +kernel, by decide +kernel⟩

/-! sizes of numbers -/
theorem lt_wide {x : Int} {n : Nat} (h : x.natAbs < 2 ^ n) : x.natAbs.log2 < n + 1 := by
  by_cases z : x.natAbs = 0
  · rw [z]
    exact Nat.succ_pos n
  · exact Nat.lt_succ_of_lt ((Nat.log2_lt z).mpr h)
theorem mulW {i j : Int} (a b : Nat) (ha : i.natAbs < 2 ^ a) (hb : j.natAbs < 2 ^ b) (h : a + b ≤ 999990) : CMulW i j := by
  have h1 := lt_wide ha
  have h2 := lt_wide hb
  show i.natAbs.log2 + j.natAbs.log2 < 1000000
  omega
theorem divW {i j : Int} (b : Nat) (h : 0 < j) (hb : j.natAbs < 2 ^ b) (h9 : b ≤ 8990) : CDivW i j := ⟨h, by have := lt_wide hb; omega⟩
theorem pm {x y : Int} (h : 0 < y) : (fun _ j : Int => 0 < j) x y := h
theorem add_small {x : Int} (h : x.natAbs < 2 ^ 32) : (x + 32771).natAbs < 2 ^ 33 := by omega
theorem at_some {xs : List Int} {i : Int} (h0 : 0 ≤ i) (h1 : i < xs.length) : ∃ z, atI (xs.map V.int) i = some (V.int z) := by
  obtain ⟨n, rfl⟩ := Int.eq_ofNat_of_zero_le h0
  have hn : n < xs.length := by omega
  exact ⟨xs[n], atI_nat (by rw [List.getElem?_map, List.getElem?_eq_getElem hn]; rfl)⟩
theorem ok_draw (F : Fun K "_law_draw" "_law_draw" s_draw f fd) (T : Blt mg) : FnOk P w K mg base CX0 1 f fd ["_law_pen_here", "_law_many"] spDraw := by
  refine F.ok sc_draw (fun vs H Q E h => ?_) (fun cdv A outer s H vs Q E hr h => ?_)
  · obtain ⟨p, c, ns, B, m, rfl, _⟩ := h
    rfl
  · obtain ⟨p, c, ns, B, m, rfl, hP, hB, hm, hmb, k⟩ := h
    have hu := hu_of hr
    obtain ⟨b, r, e, hb0, hbB, hr0⟩ := hP.at_
    have ncp := hP.ne
    refine ⟨_, (pss_cons (ps_if (pt_cmpR op_gt (pe_dget hu (pv 0) pe_str (fun _ _ => rfl)) pe_int (nomark _))
      (pss_cons (ps_set (i := 2) sc_draw.nd rfl (Or.inl rfl) (pe_op op_mod (pe_callTy call_int1 (by rfl) T.int_ (by decide +kernel) (pa_cons (pe_dget hu (pv 0) pe_str (fun _ _ => rfl)) pa_nil)) (pv 1)))
      (pss_cons (ps_dput hu (pv 0) pe_str (pe_op op_fdivW (pe_dget hu (pv 0) pe_str (fun _ _ => rfl)) (pv 1)) rfl)
      (pss_one (ps_ret (pv 2)))))
      pss_nil)
    (pss_cons (ps_par (i := 3) (j := 4) (by rfl) sc_draw.nd rfl rfl (by decide) rfl rfl (pa_cons (pe_dget hu (pv 0) pe_str (fun _ _ => rfl)) (pa_cons (pe_callB (show CallR _ _ (rLenQ K) from c_len) (by rfl) T.len_ (by decide +kernel) (pa_cons (pe_dget hu (pv 0) pe_str (fun _ _ => rfl)) pa_nil)) pa_nil)) (by rfl))
    (pss_cons (ps_dput hu (pv 0) pe_str (pe_op op_add (pv 3) pe_int) rfl)
    (pss_cons (ps_set (i := 5) sc_draw.nd rfl (Or.inl rfl) (pe_op op_add (pe_op op_mulW pe_int (pv 3)) pe_int))
    (Evl.pss_cut (ps_if (pt_cmpR op_gt (pv 4) pe_int (nomark _))
      (pss_one (ps_set (i := 5) sc_draw.nd rfl (Or.inl rfl) (pe_ix (show IxR _ (rIxL K) from ix_list) (pe_dget hu (pv 0) pe_str (fun _ _ => rfl)) (pe_op op_mod (pe_callTy call_int1 (by rfl) T.int_ (by decide +kernel) (pa_cons (pv 3) pa_nil)) (pv 4)) (fun _ _ => rfl))))
      pss_nil)
    (Evl.pss_cut (ps_if (PW.pt (pw_and (pt_cmpR op_lt (pv 3) (pv 4) (nomark _)) (pw_and1 (pt_cmpR op_ge (pe_callB call_abs (by rfl) T.abs_ (by decide +kernel) (pa_cons (pv 5) pa_nil)) (pe_op op_pow pe_int pe_int) (nomark _)))))
      (pss_cons (ps_dput hu (pv 0) pe_str (pe_op op_fdivW (pe_op op_sub (pe_callB call_abs (by rfl) T.abs_ (by decide +kernel) (pa_cons (pv 5) pa_nil)) (pe_op op_pow pe_int pe_int)) (pv 1)) rfl)
      (pss_one (ps_ret (pe_op op_mod (pe_op op_sub (pe_callB call_abs (by rfl) T.abs_ (by decide +kernel) (pa_cons (pv 5) pa_nil)) (pe_op op_pow pe_int pe_int)) (pv 1)))))
      pss_nil)
    (pss_cons (ps_set (i := 6) sc_draw.nd rfl (Or.inl rfl) (pe_op op_mod (pe_callTy call_int1 (by rfl) T.int_ (by decide +kernel) (pa_cons (pe_op op_add (pe_op op_add (pe_op op_mulW (pe_op op_mod (pe_callTy call_int1 (by rfl) T.int_ (by decide +kernel) (pa_cons (pv 5) pa_nil)) pe_int) pe_int) (pe_op op_mulW (pe_op op_mulW pe_int (pv 3)) (pv 3))) pe_int) pa_nil)) pe_int))
    (pss_cons (ps_set (i := 6) sc_draw.nd rfl (Or.inl rfl) (pe_op op_mod (pe_callTy call_int1 (by rfl) T.int_ (by decide +kernel) (pa_cons (pe_op op_add (pe_op op_add (pe_op op_add (pe_op op_mulW (pv 6) (pv 6)) (pe_op op_mulW pe_int (pv 6))) (pe_op op_mulW pe_int (pv 3))) pe_int) pa_nil)) pe_int))
    (pss_cons (ps_set (i := 6) sc_draw.nd rfl (Or.inl rfl) (pe_op op_fdivW (pe_op op_mod (pe_callTy call_int1 (by rfl) T.int_ (by decide +kernel) (pa_cons (pe_op op_mulW (pv 6) (pe_op op_add (pv 6) pe_int)) pa_nil)) pe_int) pe_int))
    (pss_one (ps_ret (pe_op op_mod (pe_callTy call_int1 (by rfl) T.int_ (by decide +kernel) (pa_cons (pv 6) pa_nil)) (pv 1))))))))))))), ?_⟩
    have gC : ∀ {H : Hp} {b r : Int}, H p = some (penO c b r) → DGet H p (.str "cells") (some (.ref c)) := fun e => by
      have z := DGet.k (k := kC) e
      rw [pen_c] at z
      exact z
    have gB : ∀ {H : Hp} {b r : Int}, H p = some (penO c b r) → DGet H p (.str "begun") (some (.int b)) := fun e => by
      have z := DGet.k (k := kB) e
      rw [pen_b] at z
      exact z
    have gR : ∀ {H : Hp} {b r : Int}, H p = some (penO c b r) → DGet H p (.str "rest") (some (.int r)) := fun e => by
      have z := DGet.k (k := kR) e
      rw [pen_r] at z
      exact z
    have pB : ∀ {H : Hp} {b r : Int} (y : Int), H p = some (penO c b r) → DPut H p (.str "begun") (.int y) (upd H p (penO c y r)) := fun y e => by
      have z := DPut.k (k := kB) (v := .int y) e (by show 3 < sizeLine; decide)
      rw [pen_pb] at z
      exact z
    have pR : ∀ {H : Hp} {b r : Int} (y : Int), H p = some (penO c b r) → DPut H p (.str "rest") (.int y) (upd H p (penO c b y)) := fun y e => by
      have z := DPut.k (k := kR) (v := .int y) e (by show 3 < sizeLine; decide)
      rw [pen_pr] at z
      exact z
    have cut : CDivW r m := divW 8000 hm hmb (by decide)
    -- if rest > 0
    refine ⟨_, rfl, p, _, rfl, gR e, _, _, rfl, rfl, _, rfl, ?_⟩
    refine ite2 (fun h1 => ?_) (fun h1 => ?_)
    · -- the digit
      refine ⟨_, rfl, p, _, rfl, gR e, .inl ⟨_, rfl, _, rfl, _, _, rfl, rfl, hm, ?_⟩⟩
      refine ⟨_, rfl, p, _, rfl, gR e, _, rfl, _, _, rfl, rfl, divW 8000 hm hmb (by decide), _, rfl, p, _, rfl, pR _ e, _, rfl, ?_⟩
      refine k _ _ (Int.emod_nonneg _ (by omega)) (Int.emod_lt_of_pos _ hm) ⟨⟨_, _, upd_same, hb0, by omega, Int.ediv_nonneg hr0 (by omega)⟩, by rw [upd_ne ncp]; exact hP.cells, hP.few, by omega⟩ ((But.refl _ _).upd _)
    · -- a new cell
      have hl := hP.few
      refine ⟨_, rfl, p, _, rfl, gB e, _, rfl, p, _, rfl, gC e, c, _, rfl, .inl (SqL.of hP.cells), _, _, rfl, ?_⟩
      refine ⟨_, rfl, _, _, rfl, rfl, _, rfl, p, _, rfl, pB _ e, ?_⟩
      have e1 : (upd H p (penO c (b + 1) r)) p = some (penO c (b + 1) r) := upd_same
      have hc1 : (upd H p (penO c (b + 1) r)) c = some (.lst (ns.map V.int)) := by rw [upd_ne ncp]; exact hP.cells
      generalize hH1 : upd H p (penO c (b + 1) r) = H1 at e1 hc1 ⊢
      have but1 : But p H H1 := by rw [← hH1]; exact (But.refl _ _).upd _
      have bnd : b.natAbs < 2 ^ 30 := by omega
      refine ⟨_, rfl, _, _, rfl, rfl, mulW 10 30 (by decide) bnd (by decide), _, _, rfl, rfl, ?_⟩
      -- the cell
      rw [List.length_map]
      refine ⟨fun σ H' => H1 = H' ∧ ∃ cell : Int, σ = [some (.ref p), some (.int m), none, some (.int b), some (.int (ns.length : Int)), some (.int cell), none], ?_, ?_⟩
      · refine ⟨_, rfl, _, _, rfl, rfl, _, rfl, ?_⟩
        refine ite2 (fun h2 => ?_) (fun h2 => ?_)
        · have h3 : 0 < (ns.length : Int) := of_decide_eq_true h2
          obtain ⟨z, hz⟩ := at_some (xs := ns) (i := b % (ns.length : Int)) (Int.emod_nonneg _ (by omega)) (Int.emod_lt_of_pos _ h3)
          exact ⟨_, rfl, p, _, rfl, gC e1, _, rfl, .inl ⟨_, rfl, _, rfl, _, _, rfl, rfl, h3, c, _, _, _, rfl, rfl, SqL.of hc1, hz, rfl, z, rfl⟩⟩
        · exact ⟨rfl, _, rfl⟩
      · rintro _ _ ⟨rfl, cell, rfl⟩
        have pen1 : Pen H1 p c ns (B + 1) := ⟨⟨_, _, e1, by omega, by omega, hr0⟩, hc1, hl, by omega⟩
        refine ⟨fun σ H' => H1 = H' ∧ σ = [some (.ref p), some (.int m), none, some (.int b), some (.int (ns.length : Int)), some (.int cell), none], ?_, ?_⟩
        · refine ⟨_, rfl, _, rfl, _, _, rfl, rfl, _, rfl, ?_⟩
          refine ite2 (fun h2 => ?_) (fun h2 => ⟨rfl, rfl⟩)
          refine ⟨_, rfl, cell, rfl, 10, 18, rfl, rfl, ⟨by decide, by decide, by decide⟩, _, _, rfl, rfl, _, rfl, ?_⟩
          refine ite2 (fun h4 => ?_) (fun h4 => ⟨rfl, rfl⟩)
          have h5 : (10 : Int) ^ (18 : Int).toNat ≤ (if cell < 0 then -cell else cell) := of_decide_eq_true h4
          refine ⟨_, rfl, cell, rfl, 10, 18, rfl, rfl, ⟨by decide, by decide, by decide⟩, _, _, rfl, rfl, _, rfl, _, _, rfl, rfl, divW 8000 hm hmb (by decide), _, rfl, p, _, rfl, pR _ e1, ?_⟩
          refine ⟨_, rfl, cell, rfl, 10, 18, rfl, rfl, ⟨by decide, by decide, by decide⟩, _, _, rfl, rfl, _, rfl, _, _, rfl, rfl, hm, ?_⟩
          exact k _ _ (Int.emod_nonneg _ (by omega)) (Int.emod_lt_of_pos _ hm) ⟨⟨_, _, upd_same, by omega, by omega, Int.ediv_nonneg (by omega) (by omega)⟩, by rw [upd_ne ncp]; exact hc1, hl, by omega⟩ (but1.upd _)
        · rintro _ _ ⟨rfl, rfl⟩
          -- the stir
          have m1 : ∀ x y : Int, 0 < y → y < 2 ^ 32 → (x % y).natAbs < 2 ^ 32 := fun x y h0 h1 => by
            have := Int.emod_nonneg x (show y ≠ 0 by omega)
            have := Int.emod_lt_of_pos x h0
            omega
          have M : ∀ x y : Int, 0 < y → y < 2 ^ 32 → (x % y).natAbs < 2 ^ 32 := m1
          refine ⟨_, rfl, .inl ⟨_, rfl, _, _, rfl, rfl, (show (0 : Int) < 4294967231 by decide), _, _, rfl, rfl, mulW 32 16 (M _ _ (by decide) (by decide)) (by decide) (by decide), _, rfl, _, _, rfl, rfl, mulW 16 30 (by decide) bnd (by decide), _, rfl, _, _, rfl, rfl, mulW 46 30 ?_ bnd (by decide), _, _, rfl, rfl, _, _, rfl, rfl, .inl ⟨_, rfl, _, _, rfl, rfl, (show (0 : Int) < 4294967279 by decide), ?_⟩⟩⟩
          · rw [Int.natAbs_mul]
            exact Nat.lt_of_lt_of_le (Nat.mul_lt_mul_of_le_of_lt (Nat.le_refl _) bnd (by decide)) (by decide)
          refine ⟨_, rfl, _, rfl, _, _, rfl, rfl, mulW 32 32 (M _ _ (by decide) (by decide)) (M _ _ (by decide) (by decide)) (by decide), _, rfl, _, _, rfl, rfl, mulW 17 32 (by decide) (M _ _ (by decide) (by decide)) (by decide), _, _, rfl, rfl, _, rfl, _, _, rfl, rfl, mulW 5 30 (by decide) bnd (by decide), _, _, rfl, rfl, _, _, rfl, rfl, .inl ⟨_, rfl, _, _, rfl, rfl, (show (0 : Int) < 4294967291 by decide), ?_⟩⟩
          refine ⟨_, rfl, _, rfl, _, _, rfl, rfl, _, _, rfl, rfl, mulW 32 33 (M _ _ (by decide) (by decide)) (add_small (M _ _ (by decide) (by decide))) (by decide), .inl ⟨_, rfl, _, _, rfl, rfl, (show (0 : Int) < 4294967197 by decide), _, _, rfl, rfl, divW 7 (by decide) (by decide) (by decide), ?_⟩⟩
          refine ⟨_, rfl, .inl ⟨_, rfl, _, rfl, _, _, rfl, rfl, hm, ?_⟩⟩
          exact k _ _ (Int.emod_nonneg _ (by omega)) (Int.emod_lt_of_pos _ hm) pen1 but1
end
end EN

namespace EN
open PySem L2 PyProof.Rows
section
variable {P : Program} {w : World} {K : PySem.W.Frag} {mg : Str → Option Value} {base : Heap} {f : Addr} {fd : FuncData}
/-! ### sizes of numbers -/
def Sz (b : Nat) (x : Int) : Prop := x.natAbs < 2 ^ b
theorem Sz.mono {a b : Nat} {x : Int} (h : Sz a x) (hab : a ≤ b) : Sz b x := Nat.lt_of_lt_of_le h (Nat.pow_le_pow_right (by decide) hab)
theorem Sz.add {a : Nat} {x y : Int} (h : Sz a x) (g : Sz a y) : Sz (a + 1) (x + y) := by
  unfold Sz at *
  have := Int.natAbs_add_le x y
  rw [Nat.pow_succ]
  omega
theorem Sz.neg {a : Nat} {x : Int} (h : Sz a x) : Sz a (-x) := by
  unfold Sz at *
  rwa [Int.natAbs_neg]
theorem Sz.sub {a : Nat} {x y : Int} (h : Sz a x) (g : Sz a y) : Sz (a + 1) (x - y) := by
  have := h.add g.neg
  rwa [← Int.sub_eq_add_neg] at this
theorem Sz.mul {a b : Nat} {x y : Int} (h : Sz a x) (g : Sz b y) : Sz (a + b) (x * y) := by
  unfold Sz at *
  rw [Int.natAbs_mul, Nat.pow_add]
  exact Nat.mul_lt_mul_of_lt_of_le h (Nat.le_of_lt g) (Nat.two_pow_pos b)
theorem Sz.mulOk {a b : Nat} {x y : Int} (h : Sz a x) (g : Sz b y) (hab : a + b ≤ 999990) : CMulW x y := mulW a b h g hab
theorem Sz.le {a : Nat} {x : Int} {m : Nat} (h0 : x.natAbs ≤ m) (hm : m < 2 ^ a) : Sz a x := Nat.lt_of_le_of_lt h0 hm
theorem Sz.div {a : Nat} {x y : Int} (h : Sz a x) : Sz a (x / y) := by
  unfold Sz at *
  exact Nat.lt_of_le_of_lt (Int.natAbs_ediv_le_natAbs x y) h

/-! ### promises -/
def spPick (K : PySem.W.Frag) : Sp := fun vs H Q _ => ∃ (p c : Addr) (ns : List Int) (B : Nat) (l : Addr) (xs : List V), vs = [.ref p, .ref l] ∧ Pen H p c ns B ∧ B < 1000000000 ∧ (SqL K H l xs ∨ SqT K H l xs) ∧ 0 < xs.length ∧ xs.length ≤ 1000 ∧
  ∀ x ∈ xs, ∀ H' : Hp, Pen H' p c ns (B + 1) → But p H H' → Q x H'
def spWhole : Sp := fun vs H Q _ => ∃ i : Int, vs = [.int i] ∧ Q (.bl true) H
def spGreat : Sp := fun vs H Q _ => ∃ (p c : Addr) (ns : List Int) (B : Nat) (m : Int), vs = [.ref p, .int m] ∧ Pen H p c ns B ∧ B + 20 ≤ 1000000000 ∧ 0 < m ∧ Sz 300 m ∧
  ∀ (d : Int) (H' : Hp), 0 ≤ d → d < m → Pen H' p c ns (B + 20) → But p H H' → Q (.int d) H'
def spInteger : Sp := fun vs H Q _ => ∃ (p c : Addr) (ns : List Int) (B : Nat), vs = [.ref p] ∧ Pen H p c ns B ∧ B + 30 ≤ 1000000000 ∧
  ∀ (z : Int) (H' : Hp), Sz 200 z → Pen H' p c ns (B + 30) → But p H H' → Q (.int z) H'
def spFar : Sp := fun vs H Q _ => ∃ (p c : Addr) (ns : List Int) (B : Nat), vs = [.ref p] ∧ Pen H p c ns B ∧ B + 30 ≤ 1000000000 ∧
  ∀ (z : Int) (H' : Hp), 0 ≤ z → Sz 340 z → Pen H' p c ns (B + 30) → But p H H' → Q (.int z) H'
end
end EN

namespace EN
open PySem L2 PyProof.Rows
section
variable {P : Program} {w : World} {K : PySem.W.Frag} {mg : Str → Option Value} {base : Heap} {f : Addr} {fd : FuncData}
/-- lists and tuples of ints as data -/
theorem dpAll_ints {H : Hp} : ∀ r : List Int, DpAll K H (r.map V.int) (r.map PyData.int)
  | [] => .nil
  | a :: r => .cons (.int a) (dpAll_ints r)
theorem dp_lst {H : Hp} {a : Addr} {r : List Int} (h : SqL K H a (r.map V.int)) : Dp K H (.ref a) (.list (r.map PyData.int)) := .lst h (dpAll_ints r)
theorem dp_tup {H : Hp} {a : Addr} {r : List Int} (h : SqT K H a (r.map V.int)) : Dp K H (.ref a) (.tuple (r.map PyData.int)) := .tup h (dpAll_ints r)
theorem shaped_lst (r : List Int) : SeqAt.shaped (.list (r.map PyData.int)) = true := PySem.W.ke_shaped_ints r
theorem shaped_tup (r : List Int) : SeqAt.shaped (.tuple (r.map PyData.int)) = true := by
  simp [SeqAt.shaped, PyData.canLay0, PyData.depth, PySem.W.ke_canLayAll0, PySem.W.ke_depthAll]
theorem eqvAll_ints : ∀ r s : List Int, PyData.eqvAll (r.map PyData.int) (s.map PyData.int) = decide (r = s)
  | [], [] => by simp [PyData.eqvAll]
  | [], b :: s => by simp [PyData.eqvAll]
  | a :: r, [] => by simp [PyData.eqvAll]
  | a :: r, b :: s => by
    simp only [List.map_cons, PyData.eqvAll, PyData.eqv, eqvAll_ints r s]
    by_cases h : a = b <;> by_cases h' : r = s <;> simp [h, h']
theorem eqv_lst (r s : List Int) : PyData.eqv (.list (r.map PyData.int)) (.list (s.map PyData.int)) = decide (r = s) := by
  simp only [PyData.eqv]; exact eqvAll_ints r s
theorem eqv_tup (r s : List Int) : PyData.eqv (.tuple (r.map PyData.int)) (.tuple (s.map PyData.int)) = decide (r = s) := by
  simp only [PyData.eqv]; exact eqvAll_ints r s
end
end EN

namespace EN
open PySem L2 PyProof.Rows
section
variable {P : Program} {w : World} {K : PySem.W.Frag} {mg : Str → Option Value} {base : Heap} {f : Addr} {fd : FuncData}
/-! ### lists and tuples stay -/
structure Kp (K : PySem.W.Frag) (H H' : Hp) : Prop where
  l : ∀ (a : Addr) (xs : List V), SqL K H a xs → SqL K H' a xs
  t : ∀ (a : Addr) (xs : List V), SqT K H a xs → SqT K H' a xs
  d : ∀ a : Addr, H a = some (.dK []) → H' a = some (.dK [])
theorem Kp.refl (H : Hp) : Kp K H H := ⟨fun _ _ h => h, fun _ _ h => h, fun _ h => h⟩
theorem Kp.of {H H' : Hp} (s : Same H H') : Kp K H H' := ⟨fun _ _ h => s.seq h, fun _ _ h => sqT_same s h, fun _ h => s _ _ h⟩
theorem Kp.trans {H H1 H2 : Hp} (a : Kp K H H1) (b : Kp K H1 H2) : Kp K H H2 := ⟨fun c xs h => b.l c xs (a.l c xs h), fun c xs h => b.t c xs (a.t c xs h), fun c h => b.d c (a.d c h)⟩
theorem Pen.kp {H H' : Hp} {p c : Addr} {ns : List Int} {B : Nat} (P : Pen H p c ns B) (s : But p H H') : Kp K H H' := by
  refine ⟨fun _ _ h => P.sqL s h, fun _ _ h => P.sqT s h, fun a h => s _ _ h fun z => ?_⟩
  obtain ⟨b, r, e, _⟩ := P.at_
  rw [z, e] at h
  cases h
/-! ### things -/
inductive El | i (n : Int) | tru | s (x : Str) | u
inductive Th | tup (es : List El) | lst (r : List Int) | non | str (x : Str) | int (n : Int) | dct
def ElAt (K : PySem.W.Frag) (H : Hp) : V → El → Prop
  | .int n, .i m => n = m
  | .bl b, .tru => b = true
  | .str x, .s y => x = y
  | .ref a, .u => SqT K H a []
  | _, _ => False
def ElsAt (K : PySem.W.Frag) (H : Hp) : List V → List El → Prop
  | [], [] => True
  | v :: vs, e :: es => ElAt K H v e ∧ ElsAt K H vs es
  | _, _ => False
def ThAt (K : PySem.W.Frag) (H : Hp) : V → Th → Prop
  | .ref a, .tup es => ∃ xs, SqT K H a xs ∧ ElsAt K H xs es ∧ es.length ≤ 40
  | .ref a, .lst r => SqL K H a (r.map V.int)
  | .ref a, .dct => H a = some (.dK [])
  | .non, .non => True
  | .str x, .str y => x = y
  | .int n, .int m => n = m
  | _, _ => False
theorem ElAt.kp {H H' : Hp} (k : Kp K H H') : ∀ {v : V} {e : El}, ElAt K H v e → ElAt K H' v e := by
  intro v e h
  cases v <;> cases e <;> first | exact h.elim | exact h | exact k.t _ _ h
theorem ElsAt.kp {H H' : Hp} (k : Kp K H H') : ∀ {vs : List V} {es : List El}, ElsAt K H vs es → ElsAt K H' vs es
  | [], [], _ => trivial
  | v :: vs, e :: es, h => ⟨h.1.kp k, ElsAt.kp k h.2⟩
  | [], _ :: _, h => h.elim
  | _ :: _, [], h => h.elim
theorem ThAt.kp {H H' : Hp} (k : Kp K H H') : ∀ {v : V} {e : Th}, ThAt K H v e → ThAt K H' v e := by
  intro v e h
  cases v <;> cases e <;> first | exact h.elim | exact h | exact k.l _ _ h | exact k.d _ h | (obtain ⟨xs, h1, h2, h3⟩ := h; exact ⟨xs, k.t _ _ h1, h2.kp k, h3⟩)
theorem ElsAt.len {H : Hp} : ∀ {vs : List V} {es : List El}, ElsAt K H vs es → vs.length = es.length
  | [], [], _ => rfl
  | v :: vs, e :: es, h => congrArg Nat.succ (ElsAt.len h.2)
  | [], _ :: _, h => h.elim
  | _ :: _, [], h => h.elim
theorem ElsAt.get {H : Hp} : ∀ {vs : List V} {es : List El} {i : Nat} {x : V}, ElsAt K H vs es → vs[i]? = some x → ∃ e, es[i]? = some e ∧ ElAt K H x e
  | v :: vs, e :: es, 0, x, h, hx => by
    rw [List.getElem?_cons_zero] at hx ⊢
    cases hx
    exact ⟨e, rfl, h.1⟩
  | v :: vs, e :: es, i + 1, x, h, hx => by
    rw [List.getElem?_cons_succ] at hx ⊢
    exact ElsAt.get h.2 hx
  | [], [], _, _, _, hx => by simp at hx
  | [], _ :: _, _, _, h, _ => h.elim
  | _ :: _, [], _, _, h, _ => h.elim
/-- the ints of a tuple of ints alone -/
def intsOf : List El → Option (List Int)
  | [] => some []
  | .i n :: es => (intsOf es).map (n :: ·)
  | _ :: _ => none
def isI : El → Bool
  | .i _ => true
  | _ => false
def elI (e : El) : Int := match e with
  | .i n => n
  | _ => 0
theorem intsOf_all : ∀ es : List El, intsOf es = if es.all isI = true then some (es.map elI) else none
  | [] => rfl
  | .i n :: es => by
    show (intsOf es).map (n :: ·) = _
    rw [intsOf_all es]
    by_cases h : es.all isI = true
    · rw [if_pos h, if_pos (by simpa [isI] using h)]
      rfl
    · rw [if_neg h, if_neg (by simpa [isI] using h)]
      rfl
  | .tru :: es => by rw [if_neg (by simp [isI])]; rfl
  | .s _ :: es => by rw [if_neg (by simp [isI])]; rfl
  | .u :: es => by rw [if_neg (by simp [isI])]; rfl
theorem ElsAt.intsOf {H : Hp} : ∀ {vs : List V} {es : List El} {r : List Int}, ElsAt K H vs es → EN.intsOf es = some r → vs = r.map V.int
  | [], [], r, _, h => by cases h; rfl
  | v :: vs, .i n :: es, r, h, hr => by
    obtain ⟨h1, h2⟩ := h
    cases v with
    | int m =>
      obtain rfl : m = n := h1
      obtain ⟨r2, e2, rfl⟩ := Option.map_eq_some_iff.mp (show (EN.intsOf es).map (m :: ·) = some r from hr)
      rw [ElsAt.intsOf h2 e2]
      rfl
    | _ => exact h1.elim
  | [], _ :: _, _, h, _ => h.elim
  | _ :: _, [], _, h, _ => h.elim
  | _ :: _, .tru :: _, _, _, h => nomatch h
  | _ :: _, .s _ :: _, _, _, h => nomatch h
  | _ :: _, .u :: _, _, _, h => nomatch h
theorem elsAt_ints {H : Hp} : ∀ r : List Int, ElsAt K H (r.map V.int) (r.map El.i)
  | [] => trivial
  | n :: r => ⟨rfl, elsAt_ints r⟩
theorem intsOf_map : ∀ r : List Int, intsOf (r.map El.i) = some r
  | [] => rfl
  | n :: r => by
    show (intsOf (r.map El.i)).map (n :: ·) = _
    rw [intsOf_map r]
    rfl
/-- 0 to n - 1 -/
def upto (n : Nat) : List Int := (List.range n).map fun k : Nat => (k : Int)
def Th.nums : Th → Option (List Int)
  | .tup es => EN.intsOf es
  | _ => none
def IsRen (th : Th) : Prop := ∃ r, th.nums = some r ∧ r.Perm (upto r.length)
theorem thAt_ints {H : Hp} {a : Addr} {r : List Int} (h : SqT K H a (r.map V.int)) (l : r.length ≤ 40) : ThAt K H (.ref a) (.tup (r.map El.i)) := ⟨_, h, elsAt_ints r, by rw [List.length_map]; exact l⟩
theorem ThAt.ren {H : Hp} {v : V} {th : Th} {r : List Int} (h : ThAt K H v th) (e : th.nums = some r) : ∃ a, v = .ref a ∧ SqT K H a (r.map V.int) ∧ r.length ≤ 40 := by
  cases th with
  | tup es =>
    cases v with
    | ref a =>
      obtain ⟨xs, h1, h2, h3⟩ := h
      have e2 := h2.intsOf e
      exact ⟨a, rfl, e2 ▸ h1, by have := h2.len; rw [e2, List.length_map] at this; omega⟩
    | _ => exact h.elim
  | _ => cases e
end
end EN

/-! several except clauses, each with its name; isinstance of a caught error that has fields -/
namespace EX
open PySem PySem.Spec PyProof.Rows L2
abbrev Suit := Addr → Value → Option Addr → TS
/-- behind the suite the name is gone -/
def goneI (i : Nat) (D : Ends) : Ends := { nx := fun τ G => D.nx (τ.set i none) G, rt := D.rt, bk := fun τ G => D.bk (τ.set i none) G, ct := fun τ G => D.ct (τ.set i none) G }
def wAsMany (K : PySem.W.Frag) (m : Nat) (Wout : WX) (D : Ends) : List (Value × Nat × Suit) → WX
  | [] => Wout
  | (c, i, ts) :: r => fun cls d σ H => ∃ b, PySem.W.exmOne K cls c = some b ∧ (b = true → σ.length = m → ∀ a, H a = none → ts a cls d (goneI i D) (σ.set i (some (.ref a))) H) ∧ (b = false → wAsMany K m Wout D r cls d σ H)
inductive Clauses (X : Cx) : List ExceptHandler → List (Value × Nat × Suit) → Prop
  | none_ : Clauses X [] []
  | more {x n : Str} {c : Value} {i : Nat} {ts : Suit} {b0 : Stmt} {rest : List Stmt} {np hp : Pos} {hds : List ExceptHandler} {l : List (Value × Nat × Suit)} (nm : Names X x c) (at_ : X.N[i]? = some n) (loc : X.env.kindOf n = some .local)
      (walk : ∀ (a : Addr) (oe : Obj) (cls : Value) (d : Option Addr) (pn : List (Addr × Obj)), Zc cls d oe → (∃ vs, oe.data = .fields vs) → PSs (X.suite a ((a, oe) :: pn)) (b0 :: rest) (ts a cls d)) (r : Clauses X hds l) :
      Clauses X (.ExceptHandler (some (.Name x np)) (some n) (b0 :: rest) hp :: hds) ((c, i, ts) :: l)
section
variable {X : Cx} {body : List Stmt} {hd1 : ExceptHandler} {hds : List ExceptHandler} {l : List (Value × Nat × Suit)} {pos : Pos} {tb : WX → TS} {Wout : WX}
theorem ps_try_asMany (stk : X.stack = X.env :: X.outer) (fr : X.env.frame = some X.env.locals) (nd : X.N.Nodup) (tk : Takes X Wout)
    (walkB : ∀ (W : WX) (pn : List (Addr × Obj)) (xe : Value → Shared → Prop), Takes (X.tr pn xe) W → PassesOwn (model X.prog X.w) X.A X.env xe → PSs (X.tr pn xe) body (tb W))
    (cl : Clauses X (hd1 :: hds) l) : PS X (.Try body (hd1 :: hds) [] [] pos) (fun D σ H => tb (wAsMany X.K X.N.length Wout D l) D σ H) := by
  refine ⟨fun pins s σ H D I wish => ?_⟩
  have fine := I.ok
  have frames : X.A.frames = some (X.env :: X.outer) := by rw [fine.frames, stk]
  refine wpAny_Try_except ?_
  refine wpAny_mono ((walkB (wAsMany X.K X.N.length Wout D l) (X.pn ++ pins) (fun u t0 => wpAny (model X.prog X.w) X.A (noteFrame u X.env) (fun _ t1 => wpAny (model X.prog X.w) X.A (setFlight u none) (fun _ t2 => wpAny (model X.prog X.w) X.A (handleBy u X.env (hd1 :: hds)) (SP X pins D) X.xe t2) X.xe t1) X.xe t0)
    (fun u t0 air => ?_) PassesOwn.looking).run [] s σ H D (I.toTry _) wish) (fun fl t0 ended => ?_) (fun _ _ q => q)
  · obtain ⟨a, B, sI, pins2, σ2, H2, cls, d, rfl, J2, ground, up, sky, fresh, os, bare, w⟩ := air
    have J : Inv X pins σ2 H2 sI := J2.ofTry fine
    have sky2 : Sky B (X.env :: X.outer) a (Zc cls d) X.env.locals t0.heap := stk ▸ sky
    show wpAny (model X.prog X.w) X.A (noteFrame (Value.ref a) X.env) _ _ _
    refine Sky.land Zc.steady frames fr sky2 fun h3 flies up3 => ?_
    have J3 : Inv X pins σ2 H2 { t0 with heap := h3 } := J.landed ground flies.1 (up.trans up3) os bare
    obtain ⟨oe3, vs3, at3, z3, dt3⟩ := flies.there
    have apart : ∀ {h : Heap} {o : Obj} {vs : Array Value}, h.FunFrames B (X.env :: X.outer) → h.get? a = some o → o.data = .fields vs → a ∉ frs (X.env :: X.outer) := fun {h o vs} ff e dd hm => by
      obtain ⟨_, o2, e2, no⟩ := ff.mem hm
      rw [e] at e2
      cases e2
      exact no _ dd
    have notF := apart flies.2.2.1 at3 dt3
    have notL : a ≠ X.env.locals := fun z => notF (List.mem_filterMap.mpr ⟨X.env, List.mem_cons_self, z ▸ fr⟩)
    have notO : a ∉ X.fs := fun hm => by
      obtain ⟨e, he, q⟩ := List.mem_filterMap.mp hm
      exact notF (List.mem_filterMap.mpr ⟨e, List.mem_cons_of_mem _ he, q⟩)
    have S3 := J3.suite at3 dt3 fresh notL notO
    have go : ∀ {hs2 : List ExceptHandler} {l2 : List (Value × Nat × Suit)}, Clauses X hs2 l2 → wAsMany X.K X.N.length Wout D l2 cls d σ2 H2 → wpAny (model X.prog X.w) X.A (handleBy (.ref a) X.env hs2) (SP X pins D) X.xe { t0 with heap := h3 } := by
      intro hs2 l2 ck
      induction ck with
      | none_ =>
        intro w
        refine wpAny_handleBy_nil ?_
        obtain ⟨k1, k2, k3, oe, vs, T, oT, ts2, eo, zo, dto, fld, rest⟩ := id flies
        unfold PySem.passOn
        refine wpAny_bind (wpAny_field eo dto fld ?_)
        rw [if_neg (by simp : ¬ ((Value.ref T == Value.none) = true))]
        have out : wpAny (model X.prog X.w) X.A (setFlight (.ref a) X.env.frame) (fun _ t4 => wpAny (model X.prog X.w) X.A (throw (.ref a) : Sem Flow) (SP X pins D) X.xe t4) X.xe { t0 with heap := h3 } := by
          rw [fr]
          refine HandSPX.setFlight_upZ flies fun h4 held up4 => wpAny_throw (tk _ _ ?_)
          exact ⟨a, B, sI, pins, σ2, H2, cls, d, rfl, J, ground, (up.trans up3).trans up4, .inr (.inr (stk.symm ▸ held)), fresh, os, bare, w⟩
        first
          | exact wpAny_bind (wpAny_pure (wpAny_bind out))
          | exact wpAny_bind out
      | @more x n c i ts b0 rest np hp hs3 l3 nm at_ loc walk r ih =>
        intro w
        obtain ⟨b, eb, yes, no⟩ := w
        have lc : Loc X.env.scope n := .inl loc
        refine wpAny_handleBy_cons (codeAny_handlers_test ?_) (fun z => by cases z)
        have typed : PySem.W.Looks (model X.prog X.w) h3 (typeOf (.ref a)) cls := fun A Q E s kp q => wpAny_typeOf_ref (kp _ _ at3) (z3.1.symm ▸ q)
        have asks := PySem.W.exm_one (M := model X.prog X.w) (J3.kIn) typed eb
        have named : ∀ {Q : Value → Shared → Prop} {E : Value → Shared → Prop}, Q c { t0 with heap := h3 } → wpAny (model X.prog X.w) (X.A.mark (some (.ref a))) (eval (.Name x np) X.env) Q E { t0 with heap := h3 } := fun {Q E} q => by
          obtain ⟨hg, dbg, hm | ⟨hm, hv, hn⟩⟩ := nm
          · exact ld_glob (X := X.suite a ((a, oe3) :: (X.pn ++ pins))) S3 hg hm q dbg
          · exact ld_blt (X := X.suite a ((a, oe3) :: (X.pn ++ pins))) S3 hg hm hv q hn dbg
        refine named (asks.here ?_)
        cases b with
        | true =>
          refine codeAny_handlers_suite_as (HandSPX.lands_againZ flies fun h4 flies4 up4 => ?_)
          have J4 : Inv X pins σ2 H2 { t0 with heap := h4 } := J.landed ground flies4.1 ((up.trans up3).trans up4) os bare
          obtain ⟨oe4, vs4, at4, z4, dt4⟩ := flies4.there
          have S4 := J4.suite at4 dt4 fresh notL notO
          refine store_ok (X := X.suite a ((a, oe4) :: (X.pn ++ pins))) (v := .ref a) S4 nd at_ lc rfl (fun t5 S5 => ?_) (.inr loc)
          refine wpAny_mono ((walk a oe4 cls d (X.pn ++ pins) z4 ⟨_, dt4⟩).run [] t5 _ H2 _ S5 (yes rfl J.len a fresh)) (fun fl t6 ended => ?_) (fun _ _ z => z.elim)
          have gone : ∀ {τ : L2.St} {G : Hp} {Q : Shared → Prop}, Inv (X.suite a ((a, oe4) :: (X.pn ++ pins))) [] τ G t6 → (∀ t7, Inv X pins (τ.set i none) G t7 → Q t7) → wpAny (model X.prog X.w) X.A (do bindName X.env n .none; unbindBehindTheSuite X.env n hp) (fun _ t7 => Q t7) X.xe t6 :=
            fun {τ G Q} S6 hq => gone_ok (S6.unsuite fine) nd at_ loc hq
          match fl, ended with
          | .next, ⟨τ, G, S6, q6⟩ => exact gone S6 fun t7 J7 => ⟨_, _, J7, q6⟩
          | .brk, ⟨τ, G, S6, q6⟩ => exact gone S6 fun t7 J7 => ⟨_, _, J7, q6⟩
          | .cont, ⟨τ, G, S6, q6⟩ => exact gone S6 fun t7 J7 => ⟨_, _, J7, q6⟩
          | .ret u, ⟨v6, τ, G, S6, r6, q6⟩ => exact gone S6 fun t7 J7 => ⟨_, _, _, J7, r6, q6⟩
        | false =>
          show wpAny _ X.A (handleBy (.ref a) X.env hs3) _ _ _
          exact ih (no rfl)
    exact go cl w
  · match fl, ended with
    | .next, ⟨τ, G, J, q⟩ => exact wpAny_execs_nil ⟨τ, G, J.ofTry fine, q⟩
    | .brk, ⟨τ, G, J, q⟩ => exact ⟨τ, G, J.ofTry fine, q⟩
    | .cont, ⟨τ, G, J, q⟩ => exact ⟨τ, G, J.ofTry fine, q⟩
    | .ret u, ⟨v, τ, G, J, r, q⟩ => exact ⟨v, τ, G, J.ofTry fine, r, q⟩
end
/-- isinstance(e, c), e the caught error, of the class D -/
theorem call_isF {X : Cx} {a D : Addr} {oe : Obj} {d : Option Addr} {pn : List (Addr × Obj)} (C : ExcC X.K D) (zc : Zc (.ref D) d oe) (fld : ∃ vs, oe.data = .fields vs) : CallR (X.suite a ((a, oe) :: pn)) (.builtin "isinstance")
    (fun xs H Q => (∀ dd, d = some dd → ∃ fs, H dd = some (.xd fs)) ∧ rIsE X.K D a xs H Q) := by
  intro pins s σ H xs us Q I r hh
  obtain ⟨hd, c, cv, b, rfl, hcv, e, q⟩ := hh
  match us, r with
  | [_, ut], .cons rx (.cons rt .nil) =>
    cases rx
    obtain rfl := hcv _ rt
    obtain ⟨stands, _⟩ := I.pin (a, oe) (List.mem_append_left _ List.mem_cons_self)
    obtain ⟨vs, hv⟩ := fld
    have J : ∃ od, PySem.W.InstAt s.heap a oe D od := by
      cases d with
      | none => exact ⟨none, stands, zc.1, by unfold PySem.W.notCls; rw [hv], by rw [zc.2]; trivial⟩
      | some dd =>
        obtain ⟨fs, hx⟩ := hd dd rfl
        have ok : ObjOk X.prog X.w H s.heap dd (.xd fs) := I.hok dd _ hx
        obtain ⟨mA, hns, _⟩ := ok
        obtain ⟨od, ho, _⟩ := lookIn_ns hns
        exact ⟨some od, stands, zc.1, by unfold PySem.W.notCls; rw [hv], by rw [zc.2]; exact ho⟩
    obtain ⟨od, J⟩ := J
    have isC : (PySem.W.clsIn X.K D).isSome = true := by
      obtain ⟨cd, hc, _⟩ := PySem.W.any_some C.hd
      rw [hc]
      rfl
    exact PySem.W.kia_one (PySem.W.kitx_exc isC C.hg C.hk C.hs C.ha C.hn C.ht C.hm) I.kIn J e (fun z => nomatch z) fun tk => ⟨.bl b, H, I.kept (t' := tk) fun _ _ z => z, rfl, q⟩
end EX

/-! calls through a class: its staticmethods, the class held by a local name, math.factorial -/
namespace EN
open PySem L2 PyProof.Rows
/-- C.m is a staticmethod: its record at p, its def at g -/
structure SMet (K : PySem.W.Frag) (C : Addr) (mc : Value) (m : Str) (p g : Addr) : Prop where
  at_ : PySem.W.findCls K (.ref C) mc m = some (.get (.builtin "staticmethod.__get__") (.ref p) .none (.ref C))
  rc : ∃ rest, PySem.W.recIn K p "staticmethod" = some (.ref g :: rest)
  kp : PySem.W.keepIn K (.ref g) = true
def tSMeth (C : Addr) (sp : Sp) (dvs : List V) (E : XK) (ta : TE) (t : TA) : TE := fun σ H Q => ta σ H fun x H1 => x = .ref C ∧ t σ H1 fun vs H2 => sp (vs ++ dvs) H2 Q E
section
variable {X : Cx} {CX : CXT} {k : Nat} {C p g f : Addr} {mc : Value} {sp : Sp} {E : XK} {o e : Expr} {es : List Expr} {m x : Str} {pos apos np : Pos} {ta : TE} {t : TA} {pl : Sem Bool} {fd : FuncData} {ps : List Str} {dvs : List V} {ds : List Value}
theorem pe_smeth (he : PE X o ta) (r : ClX.CRead X.K C mc) (c : SMet X.K C mc m p g) (F : FnOk X.prog X.w X.K X.mg X.base CX k g fd ps sp) (hr : Room k X.A) (hb : Binds X.K fd ps ds) (hd : Vals dvs ds) (hx : Passes CX X E) (ha : PA X (e :: es) t)
    (hst : starEach (e :: es) X.env = (false, eval e X.env) :: starEach es X.env := by rfl) (hpl : (backTo pos (starEach es X.env)).any (·.1) = false := by rfl)
    (ht : eval (.Call (.Attribute o m apos) (e :: es) [] pos) X.env = (do
      let ov ← eval o X.env
      standAt apos.atName
      let (f, first) ← holding [ov] (getMethod ov m pl)
      callWith pos f first (backTo pos (starEach (e :: es) X.env)) (backToKw pos (keywordEach [] X.env))) := by rfl) :
    PE X (.Call (.Attribute o m apos) (e :: es) [] pos) (tSMeth C sp dvs E ta t) := by
  refine ⟨fun pins s σ H Q I h => PySem.W.methodCall_KW (pl := pl) (thn (he.run pins s σ H _ I h) fun u s1 ⟨y, H1, I1, ry, ey, q⟩ => ?_) ht⟩
  subst ey
  obtain rfl : u = Value.ref C := ry
  obtain ⟨rest, hp⟩ := c.rc
  refine PySem.W.method_cls I1.kIn r.ga (PySem.W.cls_bind I1.kIn r.rd c.at_ (wpAny_call (PySem.W.sm_get (s := { s1 with toks := s1.toks + 1 }) I1.kIn hp (PySem.W.handed_on rfl ?_))))
  have I2 := I1.tok (s1.toks + 1)
  refine PySem.W.callWith_K (h₀ := X.base) I2.ok.mod.kin c.kp (thn (ha.run pos pins _ σ H1 _ I2 q) fun us s2 ⟨vs, H2, I3, rv, q2⟩ => ⟨I3.kIn, ?_⟩) hst hpl
  exact run_fn F hr hb hd hx I3 rv q2
/-- x(e, ..), the local name x holds the class at C -/
def tMakeL (i : Nat) (C : Addr) (sp : Sp) (dvs : List V) (E : XK) (t : TA) : TE := fun σ H Q => σ[i]? = some (some (.ref C)) ∧ tMake C sp dvs E t σ H Q
theorem pe_makeL {i : Nat} (M : Mk X.K C f) (F : FnOk X.prog X.w X.K X.mg X.base CX k f fd ps sp) (hr : Room (k + 1) X.A) (hN : X.N[i]? = some x) (hv : Vis X.env.scope x) (hb : Binds X.K fd ps ds) (hd : Vals dvs ds) (hx : Passes CX X E) (ha : PA X (e :: es) t)
    (hdb : (x == ("__debug__" : Str)) = false := by decide) (hcd : (x == ("__classdict__" : Str)) = false := by decide)
    (he : starEach (e :: es) X.env = (false, eval e X.env) :: starEach es X.env := by rfl) (hpl : (backTo pos (starEach es X.env)).any (·.1) = false := by rfl) : PE X (.Call (.Name x np) (e :: es) [] pos) (tMakeL i C sp dvs E t) := by
  refine ⟨fun pins s σ H Q I ⟨hs, h⟩ => wpAny_Call_Name_kw (thn ((pe_var (pos := np) hN hv hdb hcd).run pins s σ H (fun v H1 => v = .ref C ∧ H1 = H) I ⟨.ref C, hs, rfl, rfl⟩) fun u s1 ⟨v, H1, I1, r1, q1⟩ => ?_)⟩
  obtain ⟨rfl, rfl⟩ := q1
  cases r1
  refine PySem.W.callWith_K (h₀ := X.base) I.ok.mod.kin M.kp (thn (ha.run pos pins s1 σ _ _ I1 h) fun us s2 ⟨vs, H2, I2, rv, q⟩ => ⟨I2.kIn, ?_⟩) he hpl
  exact run_make M F hr hb hd hx I2 rv q
def rFactorial : List V → Hp → VK → Prop := fun vs H Q => ∃ n : Nat, vs = [.int (n : Int)] ∧ n ≤ 1000 ∧ Q (.int (M.fac n)) H
theorem facN : ∀ n : Nat, ((Builtin.Math.factorialNat n : Nat) : Int) = M.fac n
  | 0 => by decide +kernel
  | n + 1 => by
    rw [PySem.W.mc_fac_succ, Int.natCast_mul, facN n]
    rfl
theorem cr_factorial : CallR X (.builtin "math.factorial") rFactorial := by
  intro pins s σ H vs us Q I r h
  obtain ⟨n, rfl, hn, q⟩ := h
  obtain ⟨u, rfl, ru⟩ := vals1 r
  obtain ⟨tk, rfl⟩ := ru
  refine PySem.W.mc_factorial (by omega) (by omega) fun _ => ⟨.int _, H, I.tok _, ⟨_, rfl⟩, ?_⟩
  rw [show ((n : Int)).toNat = n by omega, facN]
  exact q
end
end EN

/-! operators that an own class defines, for instances with a dict -/
namespace EO
open PySem PySem.Spec PyProof.Rows L2
section
variable {prog : Program} {w : World} {A : Around} {E : Value → Shared → Prop} {s : Shared} {K : PySem.W.Frag} {x C f : Addr} {ox : Obj} {od : Option Obj} {b : Value}
/-- what comes back is a value -/
def Got (Q : Value → Shared → Prop) : Value → Shared → Prop := fun v s' => v ≠ .notImplemented ∧ Q v s'
theorem try_own {name : Str} {Q : Option Value → Shared → Prop} (kin : K.In s.heap) (inst : PySem.W.InstAt s.heap x ox C od) (at_ : PySem.W.findIn K (.ref C) name = some (some (.ref f))) (fn : PySem.W.isFn K (.ref f) = true)
    (run : wpAny (model prog w) A (call (.ref f) [.ref x, b]) (Got fun v s' => Q (some v) s') E s) : wpAny (model prog w) A (tryMethod (.ref x) name b) Q E s := by
  simp only [tryMethod]
  refine wpAny_bind (PySem.W.special_fn kin inst at_ (beq_iff_eq.mp fn) (wpAny_mono run (fun v s1 g => ?_) fun _ _ z => z))
  obtain ⟨ne, q⟩ := g
  cases v
  case notImplemented => exact absurd rfl ne
  all_goals exact wpAny_pure q
theorem cmp_own {name : Str} {Q : Option Value → Shared → Prop} (kin : K.In s.heap) (inst : PySem.W.InstAt s.heap x ox C od) (at_ : PySem.W.findIn K (.ref C) name = some (some (.ref f))) (fn : PySem.W.isFn K (.ref f) = true)
    (run : wpAny (model prog w) A (call (.ref f) [.ref x, b]) (Got fun v s' => Q (some v) s') E s) : wpAny (model prog w) A (tryCompare (.ref x) name b) Q E s := by
  simp only [tryCompare]
  refine wpAny_bind (PySem.W.ifBound_K kin inst at_ fn (wpAny_mono run (fun v s1 g => ?_) fun _ _ z => z))
  obtain ⟨ne, q⟩ := g
  cases v
  case notImplemented => exact absurd rfl ne
  all_goals exact wpAny_pure q
theorem un_own {op : UnaryOp} {name : Str} {Q : Value → Shared → Prop} (hop : op ≠ .Not) (hn : name = (match op with | .Invert => "__invert__" | .UAdd => "__pos__" | .USub => "__neg__" | .Not => ("" : Str)))
    (kin : K.In s.heap) (inst : PySem.W.InstAt s.heap x ox C od) (at_ : PySem.W.findIn K (.ref C) name = some (some (.ref f))) (fn : PySem.W.isFn K (.ref f) = true)
    (run : wpAny (model prog w) A (call (.ref f) [.ref x]) Q E s) : wpAny (model prog w) A (unaryOp op (.ref x)) Q E s := by
  subst hn
  cases op
  case Not => exact absurd rfl hop
  all_goals
    unfold unaryOp
    exact wpAny_holding (wpAny_bind (PySem.W.special_fn kin inst at_ (beq_iff_eq.mp fn) (wpAny_mono run (fun v s1 z => wpAny_pure z) fun _ _ z => z)))
theorem first_own (sf : PySem.W.selfFirst K C = true) : ∃ cd rest, PySem.W.clsIn K C = some cd ∧ cd.mro = .ref C :: rest := PySem.W.ksp_first sf
/-- a op b, both of the class C -/
theorem bin_same {op : Operator} {Q : Value → Shared → Prop} (kin : K.In s.heap) (inst : PySem.W.InstAt s.heap x ox C od) (tb : PySem.W.Looks (model prog w) s.heap (typeOf b) (.ref C)) (sf : PySem.W.selfFirst K C = true)
    (at_ : PySem.W.findIn K (.ref C) (PySem.dunder op.info.2) = some (some (.ref f))) (fn : PySem.W.isFn K (.ref f) = true) (run : wpAny (model prog w) A (call (.ref f) [.ref x, b]) (Got Q) E s) : wpAny (model prog w) A (binaryOp op (.ref x) b) Q E s := by
  obtain ⟨cd, rest, hcd, hm⟩ := first_own sf
  simp only [binaryOp]
  refine wpAny_holding (wpAny_bind ?_)
  simp only [binaryOp1]
  refine wpAny_bind (inst.type.here (wpAny_bind (tb.here (wpAny_bind ((PySem.W.fills_K kin hcd hm at_).here ?_)))))
  simp only [beq_self_eq_true, if_true, pure_bind, Bool.and_false, Bool.false_eq_true, if_false, Bool.false_and]
  refine wpAny_bind (try_own kin inst at_ fn (wpAny_mono run (fun v s1 g => ⟨g.1, ?_⟩) fun _ _ z => z))
  exact wpAny_pure (wpAny_pure g.2)
end
end EO

namespace EO
open PySem PySem.Spec PyProof.Rows L2
section
variable {prog : Program} {w : World} {A : Around} {E : Value → Shared → Prop} {s : Shared} {K : PySem.W.Frag} {x C f : Addr} {ox : Obj} {od : Option Obj} {b : Value} {T : String}
/-- what the top says of an own class beside the built-in type T, for the operator nm -/
structure Mix (K : PySem.W.Frag) (C : Addr) (T nm : String) : Prop where
  fo : ∃ r, PySem.W.findIn K (.type T) (PySem.dunder nm) = some r
  ro : ∃ r, PySem.W.findIn K (.type T) (dunderR nm) = some r
  cr : ∃ r, PySem.W.findIn K (.ref C) (dunderR nm) = some r ∧ (r = none ∨ ∃ g : Addr, r = some (.ref g))
  sub : PySem.W.subIn K (.type T) (.ref C) = some false
  sf : PySem.W.selfFirst K C = true
/-- a op b, a of the class C, b of a built-in type -/
theorem bin_left {op : Operator} {Q : Value → Shared → Prop} (mx : Mix K C T op.info.2) (kin : K.In s.heap) (inst : PySem.W.InstAt s.heap x ox C od) (tb : typeOf b = pure (.type T))
    (at_ : PySem.W.findIn K (.ref C) (PySem.dunder op.info.2) = some (some (.ref f))) (fn : PySem.W.isFn K (.ref f) = true) (run : wpAny (model prog w) A (call (.ref f) [.ref x, b]) (Got Q) E s) : wpAny (model prog w) A (binaryOp op (.ref x) b) Q E s := by
  obtain ⟨⟨fo, h1⟩, ⟨ro, h2⟩, ⟨rc, h3, h4⟩, h5, sf⟩ := mx
  obtain ⟨cd, rest, hcd, hm⟩ := first_own sf
  have k1 : PySem.W.Looks (model prog w) s.heap (typeOf b) (.type T) := PySem.W.Looks.of_pure tb
  have k2 := PySem.W.ksp_fillsT (M := model prog w) kin h1 h2
  have k3 : PySem.W.Looks (model prog w) s.heap (isSubtype (.type T) (.ref C)) false := PySem.W.looks_subIn kin h5
  have k4 : PySem.W.Looks (model prog w) s.heap (numberSlotInPython (.ref C) op.info.2) true := PySem.W.ksp_inPy kin at_ h3 h4
  have k5 : PySem.W.Looks (model prog w) s.heap (typeLookup (.type T) (dunderR op.info.2)) ro := PySem.W.looks_findIn kin h2
  have ne : (Value.ref C == Value.type T) = false := Bool.eq_false_iff.mpr fun q => nomatch beq_iff_eq.mp q
  have ne' : (Value.type T == Value.ref C) = false := Bool.eq_false_iff.mpr fun q => nomatch beq_iff_eq.mp q
  generalize ((fo.isSome && !isSeqSlot fo) || (ro.isSome && !isSeqSlot ro)) = right at k2
  have fin : wpAny (model prog w) A (tryMethod (.ref x) (PySem.dunder op.info.2) b) (fun r s' => ∃ v, r = some v ∧ Q v s') E s := try_own kin inst at_ fn (wpAny_mono run (fun v s1 g => ⟨g.1, v, rfl, g.2⟩) fun _ _ z => z)
  simp only [binaryOp]
  refine wpAny_holding (wpAny_bind ?_)
  simp only [binaryOp1]
  refine wpAny_bind (inst.type.here (wpAny_bind (k1.here (wpAny_bind ((PySem.W.fills_K kin hcd hm at_).here ?_)))))
  simp only [ne, Bool.false_eq_true, if_false]
  refine wpAny_bind (k2.here ?_)
  cases right with
  | false =>
    simp only [Bool.and_false, Bool.false_eq_true, if_false, pure_bind, Bool.false_and, if_true]
    refine wpAny_bind (wpAny_mono fin (fun r s1 g => ?_) fun _ _ z => z)
    obtain ⟨v, rfl, q⟩ := g
    exact wpAny_pure (wpAny_pure q)
  | true =>
    simp only [Bool.and_self, if_true, Bool.not_false, Bool.false_eq_true, if_false]
    refine wpAny_bind (k3.here ?_)
    simp only [Bool.false_eq_true, if_false, pure_bind, if_true, Bool.and_self, Bool.not_false]
    refine wpAny_bind (k4.here ?_)
    simp only [if_true]
    refine wpAny_bind (wpAny_pure ?_)
    simp only [Bool.not_false, if_true]
    refine wpAny_bind (k5.here ?_)
    refine wpAny_bind (wpAny_mono fin (fun r s1 g => ?_) fun _ _ z => z)
    obtain ⟨v, rfl, q⟩ := g
    exact wpAny_pure (wpAny_pure q)
end
end EO

namespace EO
open PySem PySem.Spec PyProof.Rows L2
section
variable {prog : Program} {w : World} {A : Around} {E : Value → Shared → Prop} {s : Shared} {K : PySem.W.Frag} {x C f f0 : Addr} {ox : Obj} {od : Option Obj} {b : Value} {i : Int} {t : Tok}
/-- an int's own method does not take an own instance -/
def IntNo (prog : Program) (w : World) (B : Builtin) : Prop := ∀ (A : Around) (E : Value → Shared → Prop) (s : Shared) (x C : Addr) (ox : Obj) (od : Option Obj) (i : Int) (t : Tok) (Q : Value → Shared → Prop), PySem.W.InstAt s.heap x ox C od → ox.data = .plain → Q .notImplemented s →
  wpAny (model prog w) A (B ⟨[.int i t, .ref x], []⟩) (fun fin s' => ∃ v, fin = .done (.ret v) ∧ Q v s') E s
theorem no_add : IntNo prog w Builtin.«int.__add__» := by
  intro A E s x C ox od i t Q inst pl q
  obtain ⟨h, gs, d, tk, os⟩ := s
  have at_ : h.get? x = some ox := inst.at_
  obtain ⟨cls, dd, data, sl⟩ := ox
  cases pl
  wp_walk using wpAny_loadPart' at_, wpAny_load at_
  exact ⟨_, rfl, q⟩
theorem no_sub : IntNo prog w Builtin.«int.__sub__» := by
  intro A E s x C ox od i t Q inst pl q
  obtain ⟨h, gs, d, tk, os⟩ := s
  have at_ : h.get? x = some ox := inst.at_
  obtain ⟨cls, dd, data, sl⟩ := ox
  cases pl
  wp_walk using wpAny_loadPart' at_, wpAny_load at_
  exact ⟨_, rfl, q⟩
theorem no_mul : IntNo prog w Builtin.«int.__mul__» := by
  intro A E s x C ox od i t Q inst pl q
  obtain ⟨h, gs, d, tk, os⟩ := s
  have at_ : h.get? x = some ox := inst.at_
  obtain ⟨cls, dd, data, sl⟩ := ox
  cases pl
  wp_walk using wpAny_loadPart' at_, wpAny_load at_
  exact ⟨_, rfl, q⟩
theorem no_le : IntNo prog w Builtin.«int.__le__» := by
  intro A E s x C ox od i t Q inst pl q
  obtain ⟨h, gs, d, tk, os⟩ := s
  have at_ : h.get? x = some ox := inst.at_
  obtain ⟨cls, dd, data, sl⟩ := ox
  cases pl
  wp_walk using wpAny_loadPart' at_, wpAny_load at_
  exact ⟨_, rfl, q⟩
theorem no_lt : IntNo prog w Builtin.«int.__lt__» := by
  intro A E s x C ox od i t Q inst pl q
  obtain ⟨h, gs, d, tk, os⟩ := s
  have at_ : h.get? x = some ox := inst.at_
  obtain ⟨cls, dd, data, sl⟩ := ox
  cases pl
  wp_walk using wpAny_loadPart' at_, wpAny_load at_
  exact ⟨_, rfl, q⟩
theorem no_ge : IntNo prog w Builtin.«int.__ge__» := by
  intro A E s x C ox od i t Q inst pl q
  obtain ⟨h, gs, d, tk, os⟩ := s
  have at_ : h.get? x = some ox := inst.at_
  obtain ⟨cls, dd, data, sl⟩ := ox
  cases pl
  wp_walk using wpAny_loadPart' at_, wpAny_load at_
  exact ⟨_, rfl, q⟩
theorem no_gt : IntNo prog w Builtin.«int.__gt__» := by
  intro A E s x C ox od i t Q inst pl q
  obtain ⟨h, gs, d, tk, os⟩ := s
  have at_ : h.get? x = some ox := inst.at_
  obtain ⟨cls, dd, data, sl⟩ := ox
  cases pl
  wp_walk using wpAny_loadPart' at_, wpAny_load at_
  exact ⟨_, rfl, q⟩
/-- .. as the operator's first try, as a comparison's -/
theorem int_tryno {name : Str} {id : String} {B : Builtin} (slot : Slot "int" name id) (ent : entryFor table id = some B) (no : IntNo prog w B) (args : argsOk id ⟨[.int i t, .ref x], []⟩) (inst : PySem.W.InstAt s.heap x ox C od) (pl : ox.data = .plain)
    {Q : Option Value → Shared → Prop} (q : Q none s) : wpAny (model prog w) A (tryMethod (.int i t) name (.ref x)) Q E s :=
  wpAny_tryMethod_declines (typeIs_int s i t) slot (wpAny_call_entry slot (typeIs_int s i t) ent (no _ _ _ x C ox od i t (fun v s' => v = .notImplemented ∧ Q none s') inst pl ⟨rfl, q⟩) args)
theorem int_cmpno {name : Str} {id : String} {B : Builtin} (slot : Slot "int" name id) (ent : entryFor table id = some B) (no : IntNo prog w B) (args : argsOk id ⟨[.int i t, .ref x], []⟩) (inst : PySem.W.InstAt s.heap x ox C od) (pl : ox.data = .plain)
    {Q : Option Value → Shared → Prop} (q : Q none s) : wpAny (model prog w) A (tryCompare (.int i t) name (.ref x)) Q E s :=
  wpAny_tryCompare_declines (typeIs_int s i t) slot (wpAny_call_entry slot (typeIs_int s i t) ent (no _ _ _ x C ox od i t (fun v s' => v = .notImplemented ∧ Q none s') inst pl ⟨rfl, q⟩) args)
/-- a op b, a an int, b of the class C -/
theorem bin_right {op : Operator} {Q : Value → Shared → Prop} (fill : fillsNumberSlot (.type "int") op.info.2 = pure true) (kin : K.In s.heap) (inst : PySem.W.InstAt s.heap x ox C od) (sf : PySem.W.selfFirst K C = true) (sub : PySem.W.subIn K (.ref C) (.type "int") = some false)
    (at0 : PySem.W.findIn K (.ref C) (PySem.dunder op.info.2) = some (some (.ref f0))) (at_ : PySem.W.findIn K (.ref C) (dunderR op.info.2) = some (some (.ref f))) (fn : PySem.W.isFn K (.ref f) = true)
    (no : ∀ Q : Option Value → Shared → Prop, Q none s → wpAny (model prog w) A (tryMethod (.int i t) (PySem.dunder op.info.2) (.ref x)) Q E s)
    (run : wpAny (model prog w) A (call (.ref f) [.ref x, .int i t]) (Got Q) E s) : wpAny (model prog w) A (binaryOp op (.int i t) (.ref x)) Q E s := by
  obtain ⟨cd, rest, hcd, hm⟩ := first_own sf
  have k1 : PySem.W.Looks (model prog w) s.heap (typeOf (.int i t)) (.type "int") := PySem.W.Looks.of_pure rfl
  have k2 : PySem.W.Looks (model prog w) s.heap (fillsNumberSlot (.type "int") op.info.2) true := PySem.W.Looks.of_pure fill
  have k3 : PySem.W.Looks (model prog w) s.heap (isSubtype (.ref C) (.type "int")) false := PySem.W.looks_subIn kin sub
  have ne : (Value.type "int" == Value.ref C) = false := Bool.eq_false_iff.mpr fun q => nomatch beq_iff_eq.mp q
  have nw : numberSlotInPython (.type "int") op.info.2 = pure false := rfl
  have fin : wpAny (model prog w) A (tryMethod (.ref x) (dunderR op.info.2) (.int i t)) (fun r s' => ∃ v, r = some v ∧ Q v s') E s := try_own kin inst at_ fn (wpAny_mono run (fun v s1 g => ⟨g.1, v, rfl, g.2⟩) fun _ _ z => z)
  simp only [binaryOp]
  refine wpAny_holding (wpAny_bind ?_)
  simp only [binaryOp1]
  refine wpAny_bind (k1.here (wpAny_bind (inst.type.here (wpAny_bind (k2.here ?_)))))
  simp only [ne, Bool.false_eq_true, if_false]
  refine wpAny_bind ((PySem.W.fills_K kin hcd hm at0).here ?_)
  simp only [Bool.and_self, if_true]
  refine wpAny_bind (k3.here ?_)
  simp only [Bool.false_eq_true, if_false, pure_bind, Bool.not_false, Bool.and_self, if_true, nw]
  refine wpAny_bind (no _ ?_)
  simp only [Bool.false_eq_true, if_false, pure_bind, Bool.not_false, Bool.and_self, if_true]
  refine wpAny_bind (wpAny_mono fin (fun r s1 g => ?_) fun _ _ z => z)
  obtain ⟨v, rfl, q⟩ := g
  repeat (first | exact wpAny_pure q | refine wpAny_pure ?_ | wp_step)
end
end EO

namespace EO
open PySem PySem.Spec PyProof.Rows L2
section
variable {prog : Program} {w : World} {A : Around} {E : Value → Shared → Prop} {s : Shared} {K : PySem.W.Frag} {x C f f0 : Addr} {ox : Obj} {od : Option Obj} {b tb : Value} {i : Int} {t : Tok}
/-- a op b, a of the class C with a method of its own for op -/
theorem rc_left {op : CmpOp} {Q : Value → Shared → Prop} (hu : A.units < cLine) (kin : K.In s.heap) (inst : PySem.W.InstAt s.heap x ox C od) (ty : PySem.W.Looks (model prog w) s.heap (typeOf b) tb) (nf : PySem.W.notFirst K C tb = true)
    (fin : wpAny (model prog w) A (tryCompare (.ref x) (cmpInfo op).2.1 b) (fun r s' => ∃ v, r = some v ∧ Q v s') E s) : wpAny (model prog w) A (richCompare op (.ref x) b) Q E s := by
  simp only [richCompare, oneThing_ref]
  refine wpAny_holding (wpAny_bind (wpAny_cRoomFor hu ?_))
  refine wpAny_bind (inst.type.here (wpAny_bind (ty.here ?_)))
  have last : wpAny (model prog w) A (tryCompare (.ref x) (cmpInfo op).2.1 b) (fun r s' => ∃ v, r = some v ∧ Q v s') E s := fin
  by_cases same : (Value.ref C != tb) = true
  · have sub : PySem.W.subIn K tb (.ref C) = some false := by
      rcases Bool.or_eq_true_iff.mp nf with e | e
      · rw [beq_iff_eq.mp e] at same
        simp at same
      · exact beq_iff_eq.mp e
    rw [if_pos same]
    refine wpAny_bind ((PySem.W.looks_subIn kin sub).here ?_)
    simp only [Bool.false_eq_true, if_false]
    refine wpAny_bind (wpAny_mono last (fun r s1 g => ?_) fun _ _ z => z)
    obtain ⟨v, rfl, q⟩ := g
    exact wpAny_pure q
  · rw [if_neg same]
    refine wpAny_bind (wpAny_pure ?_)
    simp only [Bool.false_eq_true, if_false]
    refine wpAny_bind (wpAny_mono last (fun r s1 g => ?_) fun _ _ z => z)
    obtain ⟨v, rfl, q⟩ := g
    exact wpAny_pure q
/-- .. b of the class C, an int ahead -/
theorem rc_right {op : CmpOp} {Q : Value → Shared → Prop} (hu : A.units < cLine) (kin : K.In s.heap) (inst : PySem.W.InstAt s.heap x ox C od) (sub : PySem.W.subIn K (.ref C) (.type "int") = some false)
    (no : ∀ Q : Option Value → Shared → Prop, Q none s → wpAny (model prog w) A (tryCompare (.int i t) (cmpInfo op).2.1 (.ref x)) Q E s)
    (fin : wpAny (model prog w) A (tryCompare (.ref x) (cmpInfo op).2.2 (.int i t)) (fun r s' => ∃ v, r = some v ∧ Q v s') E s) : wpAny (model prog w) A (richCompare op (.int i t) (.ref x)) Q E s := by
  have one : oneThing? op (.int i t) (.ref x) = none := by cases op <;> rfl
  simp only [richCompare, one]
  refine wpAny_holding (wpAny_bind (wpAny_cRoomFor hu ?_))
  have k1 : PySem.W.Looks (model prog w) s.heap (typeOf (.int i t)) (.type "int") := PySem.W.Looks.of_pure rfl
  refine wpAny_bind (k1.here (wpAny_bind (inst.type.here ?_)))
  have ne : (Value.type "int" != Value.ref C) = true := by simp
  rw [if_pos ne]
  refine wpAny_bind ((PySem.W.looks_subIn kin sub).here ?_)
  simp only [Bool.false_eq_true, if_false]
  refine wpAny_bind (no _ ?_)
  simp only [Bool.not_false, if_true]
  refine wpAny_bind (wpAny_mono fin (fun r s1 g => ?_) fun _ _ z => z)
  obtain ⟨v, rfl, q⟩ := g
  exact wpAny_pure q
/-- a != b by an own __eq__ -/
theorem ne_try {Q : Option Value → Shared → Prop} (hu : A.units + 1 < cLine) (kin : K.In s.heap) (inst : PySem.W.InstAt s.heap x ox C od) (at0 : PySem.W.findIn K (.ref C) "__ne__" = some (some (.builtin "object.__ne__"))) (sub : PySem.W.subIn K (.ref C) (.type "object") = some true)
    (at_ : PySem.W.findIn K (.ref C) "__eq__" = some (some (.ref f))) (fn : PySem.W.isFn K (.ref f) = true)
    (run : wpAny (model prog w) A.in1 (call (.ref f) [.ref x, b]) (fun v s' => ∃ c, v = .bool c ∧ Q (some (.bool (!c))) s') E s) : wpAny (model prog w) A (tryCompare (.ref x) "__ne__" b) Q E s := by
  have inner : wpAny (model prog w) A.in1 (Builtin.«object.__ne__» ⟨[.ref x, b], []⟩) (fun fin s' => ∃ v, fin = .done (.ret v) ∧ v ≠ .notImplemented ∧ Q (some v) s') E s := by
    unfold Builtin.«object.__ne__»
    have eqs : wpAny (model prog w) A.in1 (callSpecialIfBound? (.ref x) "__eq__" [b]) (fun r s' => ∃ c, r = some (.bool c) ∧ Q (some (.bool (!c))) s') E s :=
      PySem.W.ifBound_K kin inst at_ fn (wpAny_mono run (fun v s1 ⟨c, e, q⟩ => ⟨c, by rw [e], q⟩) fun _ _ z => z)
    repeat (first
      | with_reducible refine wpAny_cRoomFor (show A.in1.units < cLine from hu) ?_
      | (refine wpAny_bind (m := callSpecialIfBound? (.ref x) (Str.ofString "__eq__") [b]) (wpAny_mono eqs (fun r s1 g => by
          obtain ⟨c, rfl, q⟩ := g
          refine wpAny_bind (m := truthy (.bool c)) (wpAny_truthy_bool ?_)
          exact wpAny_pure ⟨_, rfl, (fun z => nomatch z), q⟩) fun _ _ z => z))
      | wp_step)
  simp only [tryCompare]
  refine wpAny_bind ?_
  simp only [callSpecialIfBound?, bindSpecialIfBound?]
  have called : wpAny (model prog w) A (call (.builtin "object.__ne__") [.ref x, b]) (fun v s' => v ≠ .notImplemented ∧ Q (some v) s') E s := by
    refine wpAny_call (codeAny_call_builtin PySem.F.cmp_object.ne.plain PySem.F.cmpEntry_ne (PySem.W.check_slot PySem.F.cmpKind_ne PySem.F.cmpSplit_ne (inst.type.andThen (PySem.W.looks_subIn kin sub)) (PySem.F.cmpArgs_ne _ _) (wpAny_mono inner (fun fin s1 g => ?_) fun _ _ z => z)))
    obtain ⟨v, rfl, g⟩ := g
    exact g
  refine wpAny_holding (wpAny_bind (wpAny_bind (wpAny_bind (inst.type.here ((PySem.W.looks_findIn kin at0).here ?_)))))
  have fin : wpAny (model prog w) A (call (.builtin "object.__ne__") ([.ref x] ++ [b]) >>= fun v => pure (some v)) (fun r s' => wpAny (model prog w) A (match r with | some .notImplemented | none => pure none | some v => pure (some v)) Q E s') E s := by
    refine wpAny_bind (wpAny_mono called (fun v s1 g => wpAny_pure ?_) fun _ _ z => z)
    obtain ⟨ne, q⟩ := g
    cases v
    case notImplemented => exact absurd rfl ne
    all_goals exact wpAny_pure q
  refine wpAny_bind (wpAny_askSetting (wpAny_ite ?_))
  have bd : bindSpecial (.builtin "object.__ne__") (.ref x) = pure (.builtin "object.__ne__", [.ref x]) := PySem.F.cmp_object.ne.bind _
  split
  · rw [bd]
    exact wpAny_bind (wpAny_pure (wpAny_pure (by exact fin)))
  · rw [bd]
    exact wpAny_tryCatch (wpAny_bind (wpAny_pure (wpAny_pure (by exact fin))))
end
end EO

namespace EO
open PySem PySem.Spec PyProof.Rows L2
/-- the class at C has the method m, a def that keeps sp by level k -/
structure OpH (P : Program) (w : World) (K : PySem.W.Frag) (mg : Str → Option Value) (base : Heap) (k : Nat) (C : Addr) (m : Str) (sp : Sp) : Prop where
  ex : ∃ g : Addr, PySem.W.findIn K (.ref C) m = some (some (.ref g)) ∧ PySem.W.isFn K (.ref g) = true ∧ FnR P w K mg base CX0 k g sp
/-- C has no != of its own -/
structure NeObj (K : PySem.W.Frag) (C : Addr) : Prop where
  at_ : PySem.W.findIn K (.ref C) "__ne__" = some (some (.builtin "object.__ne__"))
  sub : PySem.W.subIn K (.ref C) (.type "object") = some true
/-- the values that come back from a def -/
theorem got_of {X : Cx} {pins : List (Addr × Obj)} {σ : L2.St} {Q : VK} : ∀ v s', EP X pins σ Q v s' → Got (EP X pins σ Q) v s' := fun v s' h => by
  refine ⟨fun e => ?_, h⟩
  obtain ⟨z, H', _, r, _⟩ := h
  subst e
  cases z
  all_goals first | exact nomatch r | (obtain ⟨_, r⟩ := r; exact nomatch r)
section
variable {X : Cx} {k : Nat} {C : Addr} {sp : Sp} {m : Str}
theorem run_met {pins : List (Addr × Obj)} {σ : L2.St} {H : Hp} {s : Shared} {Q : VK} {g a : Addr} {us : List Value} {vs : List V} (F : FnR X.prog X.w X.K X.mg X.base CX0 k g sp) (hr : Room k X.A) (I : Inv X pins σ H s) (r : Vals vs us) (h : sp (.ref a :: vs) H Q E0) :
    wpAny (model X.prog X.w) X.A (call (.ref g) (.ref a :: us)) (EP X pins σ Q) X.xe s := wpAny_call (run_fnR (us := .ref a :: us) (vs := .ref a :: vs) F hr pass0 I (.cons rfl r) h)
/-- .. a step further in, a truth value comes back -/
theorem run_met1 {pins : List (Addr × Obj)} {σ : L2.St} {H : Hp} {s : Shared} {Q : VK} {g a : Addr} {us : List Value} {vs : List V} {E' : Value → Shared → Prop} (F : FnR X.prog X.w X.K X.mg X.base CX0 k g sp) (hr : Room (k + 1) X.A) (I : Inv X pins σ H s) (r : Vals vs us)
    (h : sp (.ref a :: vs) H Q E0) : wpAny (model X.prog X.w) X.A.in1 (call (.ref g) (.ref a :: us)) (EP X pins σ Q) E' s := by
  refine wpAny_call (codeAny_mono (F X.A.in1 X.stack s H (.ref a :: us) (.ref a :: vs) Q E0 hr.in1 I.env0.in1 (.cons rfl r) h) fun r s' hq => ?_)
  cases r with
  | error er => exact False.elim (pass0 (X := X.nox) pins σ H s er s' (I.wish _) hq)
  | ok fl =>
    cases fl with
    | ret u => exact I.after hq
    | next => exact False.elim hq
    | brk => exact False.elim hq
    | cont => exact False.elim hq
/-- both of the class -/
def rOO (C : Addr) (sp : Sp) : R2 := fun x y H Q => ∃ a dx fs b dy gs, x = .ref a ∧ y = .ref b ∧ H a = some (.ins C dx fs) ∧ H b = some (.ins C dy gs) ∧ sp [.ref a, .ref b] H Q E0
/-- the left one of the class, an int -/
def rOI (C : Addr) (sp : Sp) : R2 := fun x y H Q => ∃ a dx fs i, x = .ref a ∧ y = .int i ∧ H a = some (.ins C dx fs) ∧ sp [.ref a, .int i] H Q E0
/-- an int, the right one of the class -/
def rIO (C : Addr) (sp : Sp) : R2 := fun x y H Q => ∃ i b dy gs, x = .int i ∧ y = .ref b ∧ H b = some (.ins C dy gs) ∧ sp [.ref b, .int i] H Q E0
/-- a != b by == -/
def rNO (C : Addr) (sp : Sp) : R2 := fun x y H Q => ∃ a dx fs b dy gs, x = .ref a ∧ y = .ref b ∧ H a = some (.ins C dx fs) ∧ H b = some (.ins C dy gs) ∧ sp [.ref a, .ref b] H (fun v H' => ∃ c, v = .bl c ∧ Q (.bl (!c)) H') E0
def rU1 (C : Addr) (sp : Sp) : V → Hp → VK → Prop := fun x H Q => ∃ a dx fs, x = .ref a ∧ H a = some (.ins C dx fs) ∧ sp [.ref a] H Q E0
theorem op_oo {op : Operator} (O : OpH X.prog X.w X.K X.mg X.base k C (PySem.dunder op.info.2) sp) (sf : PySem.W.selfFirst X.K C = true) (hr : Room k X.A) : OpR X (binaryOp op) (rOO C sp) := by
  intro pins s σ H x y v u Q I rx ry h
  obtain ⟨a, dx, fs, b, dy, gs, rfl, rfl, ha, hb, q⟩ := h
  obtain rfl : v = Value.ref a := rx
  obtain rfl : u = Value.ref b := ry
  obtain ⟨g, at_, fn, F⟩ := O.ex
  obtain ⟨ox, od, J, _⟩ := StX.insC_at I (.inr ⟨dx, fs, ha⟩)
  obtain ⟨oy, oe, L, _⟩ := StX.insC_at I (.inr ⟨dy, gs, hb⟩)
  exact bin_same I.kIn J L.type sf at_ fn (wpAny_mono (run_met (vs := [.ref b]) F hr I (.cons rfl .nil) q) got_of fun _ _ z => z)
theorem op_oi {op : Operator} (O : OpH X.prog X.w X.K X.mg X.base k C (PySem.dunder op.info.2) sp) (mx : Mix X.K C "int" op.info.2) (hr : Room k X.A) : OpR X (binaryOp op) (rOI C sp) := by
  intro pins s σ H x y v u Q I rx ry h
  obtain ⟨a, dx, fs, i, rfl, rfl, ha, q⟩ := h
  obtain rfl : v = Value.ref a := rx
  obtain ⟨t, rfl⟩ := ry
  obtain ⟨g, at_, fn, F⟩ := O.ex
  obtain ⟨ox, od, J, _⟩ := StX.insC_at I (.inr ⟨dx, fs, ha⟩)
  exact bin_left mx I.kIn J rfl at_ fn (wpAny_mono (run_met (vs := [.int i]) F hr I (.cons ⟨t, rfl⟩ .nil) q) got_of fun _ _ z => z)
/-- what an int's own method says, for the operator -/
structure IntDecl (prog : Program) (w : World) (op : Operator) : Prop where
  fill : fillsNumberSlot (.type "int") op.info.2 = pure true
  ex : ∃ (id : String) (B : Builtin), Slot "int" (PySem.dunder op.info.2) id ∧ entryFor table id = some B ∧ IntNo prog w B ∧ ∀ (i : Int) (t : Tok) (x : Addr), argsOk id ⟨[.int i t, .ref x], []⟩
theorem dec_add {prog : Program} {w : World} : IntDecl prog w .Add := ⟨PySem.F.fills_int_add, _, _, PySem.F.slot_int_add, PySem.F.entry_int_add, no_add, fun _ _ _ => PySem.F.args_int_add_2 _ _⟩
theorem dec_sub {prog : Program} {w : World} : IntDecl prog w .Sub := ⟨PySem.F.fills_int_sub, _, _, PySem.F.slot_int_sub, PySem.F.entry_int_sub, no_sub, fun _ _ _ => PySem.F.args_int_sub_2 _ _⟩
theorem dec_mul {prog : Program} {w : World} : IntDecl prog w .Mult := ⟨PySem.F.fills_int_mul, _, _, PySem.F.slot_int_mul, PySem.F.entry_int_mul, no_mul, fun _ _ _ => PySem.F.args_int_mul_2 _ _⟩
theorem op_io {op : Operator} {g0 : Addr} (O : OpH X.prog X.w X.K X.mg X.base k C (dunderR op.info.2) sp) (D : IntDecl X.prog X.w op) (at0 : PySem.W.findIn X.K (.ref C) (PySem.dunder op.info.2) = some (some (.ref g0))) (sf : PySem.W.selfFirst X.K C = true)
    (sub : PySem.W.subIn X.K (.ref C) (.type "int") = some false) (hr : Room k X.A) : OpR X (binaryOp op) (rIO C sp) := by
  intro pins s σ H x y v u Q I rx ry h
  obtain ⟨i, b, dy, gs, rfl, rfl, hb, q⟩ := h
  obtain ⟨t, rfl⟩ := rx
  obtain rfl : u = Value.ref b := ry
  obtain ⟨g, at_, fn, F⟩ := O.ex
  obtain ⟨fill, id, B, slot, ent, no, args⟩ := D
  obtain ⟨oy, oe, L, pl⟩ := StX.insC_at I (.inr ⟨dy, gs, hb⟩)
  exact bin_right fill I.kIn L sf sub at0 at_ fn (fun R r => int_tryno slot ent no (args _ _ _) L pl r) (wpAny_mono (run_met (vs := [.int i]) F hr I (.cons ⟨t, rfl⟩ .nil) q) got_of fun _ _ z => z)
theorem un_oo {op : UnaryOp} (hop : op ≠ .Not) (hn : m = (match op with | .Invert => "__invert__" | .UAdd => "__pos__" | .USub => "__neg__" | .Not => ("" : Str))) (O : OpH X.prog X.w X.K X.mg X.base k C m sp) (hr : Room k X.A) : UnR X (unaryOp op) (rU1 C sp) := by
  intro pins s σ H x v Q I rx h
  obtain ⟨a, dx, fs, rfl, ha, q⟩ := h
  obtain rfl : v = Value.ref a := rx
  obtain ⟨g, at_, fn, F⟩ := O.ex
  obtain ⟨ox, od, J, _⟩ := StX.insC_at I (.inr ⟨dx, fs, ha⟩)
  exact un_own hop hn I.kIn J at_ fn (run_met F hr I .nil q)
/-- a comparison by an own method, between two of the class, of one with an int -/
theorem cmp_of {op : CmpOp} (hop : (cmpInfo op).1 ≠ "") {a b : Value} {M : Model} {A : Around} {E : Value → Shared → Prop} {s : Shared} {Q : Value → Shared → Prop} (h : wpAny M A (richCompare op a b) Q E s) : wpAny M A (compareOp op a b) Q E s := by
  cases op
  all_goals first | exact h | exact absurd rfl hop
theorem op_coo {op : CmpOp} (hop : (cmpInfo op).1 ≠ "") (O : OpH X.prog X.w X.K X.mg X.base k C (cmpInfo op).2.1 sp) (hr : Room k X.A) : OpR X (compareOp op) (rOO C sp) := by
  intro pins s σ H x y v u Q I rx ry h
  obtain ⟨a, dx, fs, b, dy, gs, rfl, rfl, ha, hb, q⟩ := h
  obtain rfl : v = Value.ref a := rx
  obtain rfl : u = Value.ref b := ry
  obtain ⟨g, at_, fn, F⟩ := O.ex
  obtain ⟨ox, od, J, _⟩ := StX.insC_at I (.inr ⟨dx, fs, ha⟩)
  obtain ⟨oy, oe, L, _⟩ := StX.insC_at I (.inr ⟨dy, gs, hb⟩)
  exact cmp_of hop (rc_left hr.units0 I.kIn J L.type (by unfold PySem.W.notFirst; simp) (cmp_own I.kIn J at_ fn (wpAny_mono (run_met (vs := [.ref b]) F hr I (.cons rfl .nil) q) (fun z s1 e => ⟨(got_of _ _ e).1, z, rfl, e⟩) fun _ _ z => z)))
theorem op_coi {op : CmpOp} (hop : (cmpInfo op).1 ≠ "") (O : OpH X.prog X.w X.K X.mg X.base k C (cmpInfo op).2.1 sp) (sub : PySem.W.subIn X.K (.type "int") (.ref C) = some false) (hr : Room k X.A) : OpR X (compareOp op) (rOI C sp) := by
  intro pins s σ H x y v u Q I rx ry h
  obtain ⟨a, dx, fs, i, rfl, rfl, ha, q⟩ := h
  obtain rfl : v = Value.ref a := rx
  obtain ⟨t, rfl⟩ := ry
  obtain ⟨g, at_, fn, F⟩ := O.ex
  obtain ⟨ox, od, J, _⟩ := StX.insC_at I (.inr ⟨dx, fs, ha⟩)
  exact cmp_of hop (rc_left hr.units0 I.kIn J (tb := .type "int") (PySem.W.Looks.of_pure rfl) (by unfold PySem.W.notFirst; rw [sub]; simp) (cmp_own I.kIn J at_ fn (wpAny_mono (run_met (vs := [.int i]) F hr I (.cons ⟨t, rfl⟩ .nil) q) (fun z s1 e => ⟨(got_of _ _ e).1, z, rfl, e⟩) fun _ _ z => z)))
theorem op_nee (O : OpH X.prog X.w X.K X.mg X.base k C "__eq__" sp) (N : NeObj X.K C) (hr : Room (k + 1) X.A) : OpR X (compareOp .NotEq) (rNO C sp) := by
  intro pins s σ H x y v u Q I rx ry h
  obtain ⟨a, dx, fs, b, dy, gs, rfl, rfl, ha, hb, q⟩ := h
  obtain rfl : v = Value.ref a := rx
  obtain rfl : u = Value.ref b := ry
  obtain ⟨g, at_, fn, F⟩ := O.ex
  obtain ⟨ox, od, J, _⟩ := StX.insC_at I (.inr ⟨dx, fs, ha⟩)
  obtain ⟨oy, oe, L, _⟩ := StX.insC_at I (.inr ⟨dy, gs, hb⟩)
  refine cmp_of (op := .NotEq) (by decide) (rc_left hr.units0 I.kIn J L.type (by unfold PySem.W.notFirst; simp) (ne_try (show X.A.units + 1 < cLine from by have := hr.units; omega) I.kIn J N.at_ N.sub at_ fn (wpAny_mono (run_met1 (vs := [.ref b]) F hr I (.cons rfl .nil) q) (fun z s1 e => ?_) fun _ _ z => z)))
  obtain ⟨v, H', I1, r, c, rfl, q1⟩ := e
  cases (show z = Value.bool c from r)
  exact ⟨c, rfl, _, rfl, .bl _, H', I1, rfl, q1⟩
end
end EO

namespace EO
open PySem PySem.Spec PyProof.Rows L2
section
variable {prog : Program} {w : World} {A : Around} {E : Value → Shared → Prop} {s : Shared} {K : PySem.W.Frag} {x C f : Addr} {ox : Obj} {od : Option Obj} {b : Value}
/-- a op= b, a of a class with a method of its own for it -/
theorem in_own {op : Operator} {Q : Value → Shared → Prop} (kin : K.In s.heap) (inst : PySem.W.InstAt s.heap x ox C od) (sf : PySem.W.selfFirst K C = true) (at_ : PySem.W.findIn K (.ref C) (dunderI op.info.2) = some (some (.ref f)))
    (fn : PySem.W.isFn K (.ref f) = true) (run : wpAny (model prog w) A (call (.ref f) [.ref x, b]) (Got Q) E s) : wpAny (model prog w) A (inplaceOp op (.ref x) b) Q E s := by
  obtain ⟨cd, rest, hcd, hm⟩ := first_own sf
  have fills : PySem.W.Looks (model prog w) s.heap (fillsInplaceSlot (.ref C) op.info.2 (op == .Add)) true := PySem.W.ksp_fillsI kin hcd hm at_
  unfold inplaceOp
  refine wpAny_holding (wpAny_bind (inst.type.here (wpAny_bind (fills.here ?_))))
  rw [if_pos rfl]
  refine wpAny_bind (try_own kin inst at_ fn (wpAny_mono run (fun v s1 g => ⟨g.1, ?_⟩) fun _ _ z => z))
  dsimp only
  first
    | exact wpAny_pure (M := model prog w) (A := A) (E := E) g.2
    | exact wpAny_bind (wpAny_pure (M := model prog w) (A := A) (E := E) (wpAny_pure g.2))
    | (repeat (first | exact g.2 | wp_step))
end
section
variable {X : Cx} {k : Nat} {C : Addr} {sp : Sp} {m : Str}
theorem op_in {op : Operator} (O : OpH X.prog X.w X.K X.mg X.base k C (dunderI op.info.2) sp) (sf : PySem.W.selfFirst X.K C = true) (hr : Room k X.A) : OpR X (inplaceOp op) (rOO C sp) := by
  intro pins s σ H x y v u Q I rx ry h
  obtain ⟨a, dx, fs, b, dy, gs, rfl, rfl, ha, hb, q⟩ := h
  obtain rfl : v = Value.ref a := rx
  obtain rfl : u = Value.ref b := ry
  obtain ⟨g, at_, fn, F⟩ := O.ex
  obtain ⟨ox, od, J, _⟩ := StX.insC_at I (.inr ⟨dx, fs, ha⟩)
  exact in_own I.kIn J sf at_ fn (wpAny_mono (run_met (vs := [.ref b]) F hr I (.cons rfl .nil) q) got_of fun _ _ z => z)
end
end EO

namespace EN
open PySem L2 PyProof.Rows
section
variable {P : Program} {w : World} {K : PySem.W.Frag} {mg : Str → Option Value} {base : Heap} {f : Addr} {fd : FuncData}
structure MkH (P : Program) (w : World) (K : PySem.W.Frag) (mg : Str → Option Value) (base : Heap) (k : Nat) (C : Addr) (dvs : List V) (sp : Sp) : Prop where
  ex : ∃ (f : Addr) (fd : FuncData) (ps : List Str) (ds : List Value), Mk K C f ∧ FnOk P w K mg base CX0 k f fd ps sp ∧ Binds K fd ps ds ∧ Vals dvs ds
section
variable {X : Cx} {k : Nat} {C : Addr} {dvs : List V} {sp : Sp} {x m : Str} {p pos apos : Pos} {o e : Expr} {es : List Expr} {t : TA} {ta : TE} {pl : Sem Bool}
theorem pe_mkH (O : MkH X.prog X.w X.K X.mg X.base k C dvs sp) (hr : Room (k + 1) X.A) (hg : Gl X x) (hm : X.mg x = some (.ref C)) (ha : PA X (e :: es) t) (hdb : (x == ("__debug__" : Str)) = false := by decide)
    (he : starEach (e :: es) X.env = (false, eval e X.env) :: starEach es X.env := by rfl) (hpl : (backTo pos (starEach es X.env)).any (·.1) = false := by rfl) : PE X (.Call (.Name x p) (e :: es) [] pos) (tMake C sp dvs E0 t) := by
  obtain ⟨f, fd, ps, ds, M, F, hb, hd⟩ := O.ex
  exact pe_make M F hr hg hm hb hd pass0 ha hdb he hpl
end
theorem okD {x qual : Str} {params : Arguments} {body : List Stmt} {scope : Scope} {dvs : List V} {kws : List (Str × V)} {N ps : List Str} {k : Nat} {sp : Sp} (F : FunD K x qual params body scope dvs kws f fd) (S : FnScope N ps scope) (len : ∀ vs H Q E, sp vs H Q E → vs.length = ps.length)
    (hbody : ∀ (cdv : Value) (A : Around) (outer : List Env) (s : Shared) (H : Hp) (vs : List V) (Q : VK) (E : XK), Room k (A.deeper (envOfC qual scope s.heap.objs.size f cdv)) → sp vs H Q E →
      ∃ t, PSs (cxOf CX0 P w K mg base N qual scope f cdv A outer s H E).nox body t ∧ t { nx := fun _ H' => Q .non H', rt := Q } (start N vs) H) : FnOk P w K mg base CX0 (k + 1) f fd ps sp :=
  F.ok S len fun cdv A outer s H vs Q E hr hs => by
    obtain ⟨t, h, q⟩ := hbody cdv A outer s H vs Q E hr hs
    exact ⟨t, h.nox, q⟩

/-- what isinstance asks of an own class -/
structure OwnC (K : PySem.W.Frag) (C : Addr) : Prop where
  cl : Cls K C
  ha : PySem.W.findIn K (.ref C) "__class__" = some (some (.builtin "object.__class__"))
  hn : PySem.W.specialIn K (.builtin "object.__class__") "__get__" = some (some (.builtin "getset_descriptor.__get__"))
  htk : PySem.W.takesIn K (.builtin "object.__class__") = some true
  hm : PySem.W.mroIn K C (.type "object") = some true
  me : PySem.W.kitOne K (.ref C) (.ref C) = some true
theorem OwnC.ty {C : Addr} {H : Hp} {a dx : Addr} {fs : List (Str × V)} (o : OwnC K C) (e : H a = some (.ins C dx fs)) : TyX K H (.ref a) (.ref C) := .base (.ins e o.cl o.ha o.hn o.htk o.hm)
/-- ints and tuples are no spans -/
structure NoC (K : PySem.W.Frag) (C : Addr) : Prop where
  int_ : PySem.W.kitOne K (.type "int") (.ref C) = some false
  tup : PySem.W.kitOne K (.type "tuple") (.ref C) = some false
end
end EN

/-! own errors with one field: made, raised; operators that may raise; lambdas -/
namespace EN
open PySem PySem.Spec PyProof.Rows L2
/-- __init__(self, v): self.fl = v -/
def spEx1 (K : PySem.W.Frag) (C : Addr) (fl : Str) : Sp := fun vs H Q _ => ∃ (a : Addr) (v : V), vs = [.ref a, v] ∧ OexC K C ∧ PySem.W.findIn K (.ref C) fl = some none ∧ H a = some (exo a C none) ∧ ∀ dx, H dx = none → dx ≠ a → Q .non (upd (upd H dx (exd dx [(fl, v)])) a (exo a C (some dx)))
/-- the error class at C, named x, with the field fl -/
structure ErrH (P : Program) (w : World) (K : PySem.W.Frag) (mg : Str → Option Value) (base : Heap) (k : Nat) (x : Str) (C : Addr) (fl : Str) : Prop where
  ex : ∃ (fI : Addr) (fd : FuncData) (ps : List Str), PySem.W.findIn K (.ref C) "__init__" = some (some (.ref fI)) ∧ PySem.W.typeIn K (.ref fI) = some (.type "function") ∧ FnOk P w K mg base CX0 k fI fd ps (spEx1 K C fl) ∧ Binds K fd ps []
  oex : OexC K C
  no : PySem.W.findIn K (.ref C) fl = some none
  m : mg x = some (.ref C)
section
variable {X : Cx} {k : Nat} {C : Addr} {fl x : Str} {e : Expr} {te : TE} {p pos : Pos}
theorem pmk_err (O : ErrH X.prog X.w X.K X.mg X.base k x C fl) (hr : Room (k + 1) X.A) (hg : Gl X x) (he : PA X [e] (tCons te tNil)) (hdb : (x == ("__debug__" : Str)) = false := by decide)
    (hst : starEach [e] X.env = (false, eval e X.env) :: starEach [] X.env := by rfl) (hpl : (backTo pos (starEach [] X.env)).any (·.1) = false := by rfl) : PMk X (.Call (.Name x p) [e] [] pos) (tMkO C (spEx1 X.K C fl) [] (tCons te tNil)) := by
  obtain ⟨fI, fd, ps, iC, tI, F1, hb⟩ := O.ex
  exact pmk_oex (p := p) (pos := pos) (ds := []) (dvs := []) O.oex iC tI F1 hr hb .nil pass0 hg O.m he hdb hst hpl
end
theorem err_ans {P : Program} {w : World} {K : PySem.W.Frag} {mg : Str → Option Value} {base : Heap} {k : Nat} {x fl : Str} {C : Addr} (O : ErrH P w K mg base k x C fl) {H1 : Hp} {v : V} {Q : XK} (q : ∀ dd, H1 dd = none → Q (.ref C) (some dd) (upd H1 dd (.xd [(fl, v)]))) :
    [v].length ≤ 1000 ∧ ∀ a, H1 a = none → spEx1 K C fl (.ref a :: ([v] ++ [])) (upd H1 a (exo a C none)) (fun v H2 => v = .non ∧ ∃ (d : Addr) (fs : List (Str × V)), H2 a = some (exo a C (some d)) ∧ H2 d = some (exd d fs) ∧ H1 d = none ∧ Q (.ref C) (some d) (upd (del H2 a) d (.xd fs))) (fun _ _ _ => False) := by
  refine ⟨by show 1 ≤ 1000; decide, fun a na => ⟨a, v, rfl, O.oex, O.no, upd_same, fun dx hdx ne => ⟨rfl, dx, [(fl, v)], upd_same, by rw [upd_ne ne, upd_same], ?_, ?_⟩⟩⟩
  · rwa [upd_ne ne] at hdx
  · rw [upd_ne ne] at hdx
    have e : upd (del (upd (upd (upd H1 a (exo a C none)) dx (exd dx [(fl, v)])) a (exo a C (some dx))) a) dx (.xd [(fl, v)]) = upd H1 dx (.xd [(fl, v)]) := by
      funext b
      by_cases hb : b = dx
      · rw [hb, upd_same, upd_same]
      · rw [upd_ne hb, upd_ne hb]
        by_cases ha : b = a
        · rw [ha, del_same, na]
        · rw [del_ne ha, upd_ne ha, upd_ne hb, upd_ne ha]
    rw [e]
    exact q dx hdx
/-- the class at C has the method m, a def that keeps sp by level k and may raise -/
structure OpX (P : Program) (w : World) (K : PySem.W.Frag) (mg : Str → Option Value) (base : Heap) (k : Nat) (C : Addr) (m : Str) (sp : Sp) : Prop where
  ex : ∃ g : Addr, PySem.W.findIn K (.ref C) m = some (some (.ref g)) ∧ PySem.W.isFn K (.ref g) = true ∧ FnR P w K mg base (L2.CX P w) k g sp
section
variable {X : Cx} {k : Nat} {C : Addr} {sp : Sp} {m : Str} {E : XK}
theorem run_metX {pins : List (Addr × Obj)} {σ : L2.St} {H : Hp} {s : Shared} {Q : VK} {g a : Addr} {us : List Value} {vs : List V} (F : FnR X.prog X.w X.K X.mg X.base (L2.CX X.prog X.w) k g sp) (hr : Room k X.A) (hx : Passes (L2.CX X.prog X.w) X E) (I : Inv X pins σ H s) (r : Vals vs us)
    (h : sp (.ref a :: vs) H Q E) : wpAny (model X.prog X.w) X.A (call (.ref g) (.ref a :: us)) (EP X pins σ Q) X.xe s := wpAny_call (run_fnR (us := .ref a :: us) (vs := .ref a :: vs) F hr hx I (.cons rfl r) h)
/-- the left one of the class, an int -/
def rOIx (C : Addr) (sp : Sp) (E : XK) : R2 := fun x y H Q => ∃ a dx fs i, x = .ref a ∧ y = .int i ∧ H a = some (.ins C dx fs) ∧ sp [.ref a, .int i] H Q E
theorem op_oix {op : Operator} (O : OpX X.prog X.w X.K X.mg X.base k C (PySem.dunder op.info.2) sp) (mx : EO.Mix X.K C "int" op.info.2) (hx : Passes (L2.CX X.prog X.w) X E) (hr : Room k X.A) : OpR X (binaryOp op) (rOIx C sp E) := by
  intro pins s σ H x y v u Q I rx ry h
  obtain ⟨a, dx, fs, i, rfl, rfl, ha, q⟩ := h
  obtain rfl : v = Value.ref a := rx
  obtain ⟨t, rfl⟩ := ry
  obtain ⟨g, at_, fn, F⟩ := O.ex
  obtain ⟨ox, od, J, _⟩ := StX.insC_at I (.inr ⟨dx, fs, ha⟩)
  exact EO.bin_left mx I.kIn J rfl at_ fn (wpAny_mono (run_metX (vs := [.int i]) F hr hx I (.cons ⟨t, rfl⟩ .nil) q) EO.got_of fun _ _ z => z)
end
/-- isinstance(e, c), e the caught error, of any class -/
theorem call_isG {X : Cx} {a : Addr} {cls : Value} {oe : Obj} {d : Option Addr} {pn : List (Addr × Obj)} (zc : Zc cls d oe) (fld : ∃ vs, oe.data = .fields vs) : CallR (X.suite a ((a, oe) :: pn)) (.builtin "isinstance")
    (fun xs H Q => ∃ D : Addr, cls = .ref D ∧ ExcC X.K D ∧ (∀ dd, d = some dd → ∃ fs, H dd = some (.xd fs)) ∧ rIsE X.K D a xs H Q) := by
  intro pins s σ H xs us Q I r h
  obtain ⟨D, rfl, C, hd, hq⟩ := h
  exact EX.call_isF C zc fld pins s σ H xs us Q I r ⟨hd, hq⟩
/-- a def of the text as it stands behind the top, its code object at c -/
structure FunC (K : PySem.W.Frag) (x qual : Str) (st : Stmt) (f : Addr) (fd : FuncData) (c : Addr) : Prop where
  ex : ∃ (oc : Value) (od : Option Addr) (kV doc pm : Value) (an : Option Addr) (ct : Value) (osl : Array (Option Value)),
    fd = PySem.W.fnOf x qual (defArgs st) (defBody st) (defScope st) .none kV doc pm an (.ref c) ct ∧ K.lookup f = some ⟨oc, od, .func fd, osl⟩ ∧ PySem.W.codeIn K (.ref c) qual = true
  kp : PySem.W.keepIn K (.ref f) = true
theorem FunC.fun_ {K : PySem.W.Frag} {x qual : Str} {st : Stmt} {f c : Addr} {fd : FuncData} (F : FunC K x qual st f fd c) : Fun K x qual st f fd := by
  obtain ⟨oc, od, kV, doc, pm, an, ct, osl, rfl, lk, hcd⟩ := F.ex
  exact ⟨⟨oc, od, kV, doc, pm, an, _, ct, osl, rfl, lk, hcd⟩, F.kp⟩
section
variable {P : Program} {w : World} {K : PySem.W.Frag} {mg : Str → Option Value} {base : Heap}
theorem FunC.ok {x qual : Str} {st : Stmt} {f c : Addr} {fd : FuncData} {N ps : List Str} {k : Nat} {sp : Sp} (F : FunC K x qual st f fd c) (S : FnScope N ps (defScope st)) (len : ∀ vs H Q E, sp vs H Q E → vs.length = ps.length)
    (hbody : ∀ (A : Around) (outer : List Env) (s : Shared) (H : Hp) (vs : List V) (Q : VK) (E : XK), Room k (A.deeper (envOfC qual (defScope st) s.heap.objs.size f (.ref c))) → sp vs H Q E →
      ∃ t, PSs (cxOf CX0 P w K mg base N qual (defScope st) f (.ref c) A outer s H E).nox (defBody st) t ∧ t { nx := fun _ H' => Q .non H', rt := Q } (start N vs) H) : FnOk P w K mg base CX0 (k + 1) f fd ps sp := by
  obtain ⟨oc, od, kV, doc, pm, an, ct, osl, rfl, lk, hcd⟩ := F.ex
  refine fn_of lk hcd S len fun A outer s H vs Q E hr hsp => ?_
  obtain ⟨t, h, q⟩ := hbody A outer s H vs Q E hr hsp
  exact ⟨t, h.nox, q⟩
end
/-- what a lambda's body wishes of errors -/
theorem lam_takes {X : Cx} {A : Around} {outer : List Env} {s : Shared} {H : Hp} {E : XK} {scope : Scope} {f c' : Addr} : Takes (LamX.lamCx X A outer s H E scope f c') (fun cls d _ H => E cls d H) :=
  takes_of (X := LamX.lamCx X A outer s H E scope f c') rfl rfl rfl rfl
theorem lam_passes {X : Cx} {A : Around} {outer : List Env} {s : Shared} {H : Hp} {E : XK} {scope : Scope} {f c' : Addr} : Passes (L2.CX (LamX.lamCx X A outer s H E scope f c').prog (LamX.lamCx X A outer s H E scope f c').w) (LamX.lamCx X A outer s H E scope f c') E :=
  passes_call (X := LamX.lamCx X A outer s H E scope f c') lam_takes fun _ _ _ _ h => h
end EN

namespace EN
open PySem L2 PyProof.Rows
section
variable {P : Program} {w : World} {K : PySem.W.Frag} {mg : Str → Option Value} {base : Heap} {f : Addr} {fd : FuncData}
/-! ### calls of defs that may raise -/
structure HasX (P : Program) (w : World) (K : PySem.W.Frag) (mg : Str → Option Value) (base : Heap) (k : Nat) (x : Str) (ps : List Str) (sp : Sp) : Prop where
  ex : ∃ (f : Addr) (fd : FuncData), FnOk P w K mg base (L2.CX P w) k f fd ps sp ∧ mg x = some (.ref f) ∧ PySem.W.keepIn K (.ref f) = true ∧ Binds K fd ps []
section
variable {X : Cx} {k : Nat} {x : Str} {ps : List Str} {sp : Sp} {p pos : Pos} {e : Expr} {es : List Expr} {t : TA} {E : XK} {W : WX}
theorem pe_hasX (O : HasX X.prog X.w X.K X.mg X.base k x ps sp) (hx : Passes (L2.CX X.prog X.w) X E) (hr : Room k X.A) (ha : PA X (e :: es) t) (hg : Gl X x := by rfl) (hdb : (x == ("__debug__" : Str)) = false := by decide)
    (he : starEach (e :: es) X.env = (false, eval e X.env) :: starEach es X.env := by rfl) (hpl : (backTo pos (starEach es X.env)).any (·.1) = false := by rfl) :
    PE X (.Call (.Name x p) (e :: es) [] pos) (tCall sp [] E t) := by
  obtain ⟨f, fd, F, hm, hk, hb⟩ := O.ex
  exact pe_call F hr hg hm hk hb .nil hx ha hdb he hpl
theorem pe_hasS (O : HasX X.prog X.w X.K X.mg X.base k x ps sp) (tk : Takes X W) (hr : Room k X.A) (ha : PA X (e :: es) t) (hg : Gl X x := by rfl) (hdb : (x == ("__debug__" : Str)) = false := by decide)
    (he : starEach (e :: es) X.env = (false, eval e X.env) :: starEach es X.env := by rfl) (hpl : (backTo pos (starEach es X.env)).any (·.1) = false := by rfl) :
    PE X (.Call (.Name x p) (e :: es) [] pos) (tCallSD sp [] (WE W) t) := by
  obtain ⟨f, fd, F, hm, hk, hb⟩ := O.ex
  exact pe_callSD F hr hg hm hk hb .nil (fun σ => passAt tk σ) ha hdb he hpl
end
/-- within a def that raises itself, what a callee raises goes on -/
theorem passX {N : List Str} {qual : Str} {sc : Scope} {cdv : Value} {A : Around} {outer : List Env} {s : Shared} {H : Hp} {E : XK} :
    Passes (L2.CX P w) (cxOf (L2.CX P w) P w K mg base N qual sc f cdv A outer s H E) E :=
  passes_call (X := cxOf (L2.CX P w) P w K mg base N qual sc f cdv A outer s H E) (takes_of rfl rfl rfl rfl) fun _ _ _ _ h => h
end
end EN

namespace EN
open PySem L2 PyProof.Rows
section
variable {P : Program} {w : World} {K : PySem.W.Frag} {mg : Str → Option Value} {base : Heap} {f : Addr} {fd : FuncData}
def spIsWhole : Sp := fun vs H Q _ => ∃ i : Int, vs = [.int i] ∧ Q (.bl true) H
def spCheckWhole : Sp := fun vs H Q _ => ∃ i : Int, vs = [.int i] ∧ Q .non H
def spCheckFrom : Sp := fun vs H Q _ => ∃ i b : Int, vs = [.int i, .int b] ∧ b ≤ i ∧ Q .non H
abbrev SeqI (K : PySem.W.Frag) (H : Hp) (a : Addr) (r : List Int) : Prop := SqL K H a (r.map V.int) ∨ SqT K H a (r.map V.int)
def spCheckWholes (K : PySem.W.Frag) : Sp := fun vs H Q _ => ∃ (a : Addr) (r : List Int), vs = [.ref a] ∧ SeqI K H a r ∧ r.length ≤ 1000 ∧ ∀ H' : Hp, Same H H' → Q .non H'
def spChooses : Sp := fun vs H Q _ => ∃ (n : Int) (m : Nat), vs = [.int n, .int (m : Int)] ∧ m ≤ 16 ∧ Sz 400 n ∧ ∀ (l : Addr) (H' : Hp), Same H H' → H l = none → H' l = some (.lst (((List.range m).map fun k => M.C n k).map V.int)) → Q (.ref l) H'
def spRowValue (K : PySem.W.Frag) : Sp := fun vs H Q _ => ∃ (a : Addr) (r : List Int) (n : Int), vs = [.ref a, .int n] ∧ SqT K H a (r.map V.int) ∧ r.length ≤ 12 ∧ (∀ x ∈ r, Sz 9000 x) ∧ Sz 400 n ∧ ∀ H' : Hp, Same H H' → Q (.int (M.val r n)) H'
theorem int_at {r : List Int} {i : Nat} {x : V} (h : (r.map V.int)[i]? = some x) : i < r.length ∧ x = V.int (r.getD i 0) := by
  rw [List.getElem?_map] at h
  cases e : r[i]? with
  | none => rw [e] at h; cases h
  | some j =>
    rw [e] at h
    refine ⟨(List.getElem?_eq_some_iff.mp e).1, ?_⟩
    rw [List.getD_eq_getElem?_getD, e]
    exact (Option.some.inj h).symm
end
end EN

/-! zip of three; comprehensions with a test -/
namespace ZK
open PySem PySem.Spec PyProof.Rows L2
def Itz3 (K : PySem.W.Frag) (k1 k2 k3 : Kd) (a b c : Addr) : It :=
  ⟨fun i H => ∃ (xs ys zs : List V) (x y z : V), SqK K H a xs k1 ∧ SqK K H b ys k2 ∧ SqK K H c zs k3 ∧ xs[i]? = some x ∧ ys[i]? = some y ∧ zs[i]? = some z,
    fun i H v H' => ∃ T x y z, v = .ref T ∧ H T = none ∧ H' = upd H T (.tup [x, y, z]) ∧ (∀ xs, SqK K H a xs k1 → xs[i]? = some x) ∧ (∀ ys, SqK K H b ys k2 → ys[i]? = some y) ∧ ∀ zs, SqK K H c zs k3 → zs[i]? = some z,
    fun i H => ∃ xs ys zs : List V, SqK K H a xs k1 ∧ SqK K H b ys k2 ∧ SqK K H c zs k3 ∧ i ≤ xs.length ∧ i ≤ ys.length ∧ i ≤ zs.length ∧ (i = xs.length ∨ i = ys.length ∨ i = zs.length)⟩
theorem turn_z3 {P : Program} {w : World} {K : PySem.W.Frag} {elts : List Expr} {kk : Nat} {tpos : Pos} {k1 k2 k3 : Kd} {a b c z TI TO i1 i2 i3 : Addr} (S : ZipSep3 z TI TO i1 i2 i3 [i1, a] [i2, b] [i3, c]) (n1 : a ≠ i1) (n2 : b ≠ i2) (n3 : c ≠ i3) :
    Turn P w K (.Tuple elts kk tpos) (Itz3 K k1 k2 k3 a b c) [z, TI, TO, i1, i2, i3] z
      (fun i h => IsZip h z TI TO .none ∧ IsTupOf3 h TI (.ref i1) (.ref i2) (.ref i3) ∧ (∃ x y u, IsTupOf3 h TO x y u) ∧ IterK h i1 a i k1 ∧ IterK h i2 b i k2 ∧ IterK h i3 c i k3) where
  mem := by simp
  obj := fun i h st q hq => by
    obtain ⟨hz, hTI, ⟨x, y, u, hTO⟩, h1, h2, h3⟩ := st
    simp only [List.mem_cons, List.mem_nil_iff, or_false] at hq
    rcases hq with rfl | rfl | rfl | rfl | rfl | rfl
    · exact ⟨_, hz, fun v q => nomatch q⟩
    · exact ⟨_, hTI, fun v q => nomatch q⟩
    · exact ⟨_, hTO, fun v q => nomatch q⟩
    · exact iterK_obj h1
    · exact iterK_obj h2
    · exact iterK_obj h3
  keep := fun i h h' st k => by
    obtain ⟨hz, hTI, ⟨x, y, u, hTO⟩, h1, h2, h3⟩ := st
    exact ⟨k z (by simp) _ hz, k TI (by simp) _ hTI, ⟨x, y, u, k TO (by simp) _ hTO⟩, iterK_at h1 fun o q => k i1 (by simp) o q, iterK_at h2 fun o q => k i2 (by simp) o q, iterK_at h3 fun o q => k i3 (by simp) o q⟩
  item := by
    intro X hP hw hK hc i pins s σ H E I hf st hg
    subst hP hw hK
    obtain ⟨hz, hTI, ⟨x0, y0, u0, hTO⟩, h1, h2, h3⟩ := st
    obtain ⟨xs, ys, zs, x, y, t, qx, qy, qz, hx, hy, ht⟩ := hg
    obtain ⟨its1, rv1, p1, _, _⟩ := invK I qx
    obtain ⟨its2, rv2, p2, _, _⟩ := invK I qy
    obtain ⟨its3, rv3, p3, _, _⟩ := invK I qz
    obtain ⟨u1, hu1, ru1⟩ := rv1.get hx
    obtain ⟨u2, hu2, ru2⟩ := rv2.get hy
    obtain ⟨u3, hu3, ru3⟩ := rv3.get ht
    have hh : X.A.in1.handled = none := I.ok.hd hc
    have l1 : i < its1.toArray.size := by simpa using (List.getElem?_eq_some_iff.mp hu1).1
    have l2 : i < its2.toArray.size := by simpa using (List.getElem?_eq_some_iff.mp hu2).1
    have l3 : i < its3.toArray.size := by simpa using (List.getElem?_eq_some_iff.mp hu3).1
    have zlt : z < s.heap.objs.size := Heap.lt_size hz
    refine wpAny_pyNext_zipD3_item S (drawsK hh i1 a n1 its1.toArray k1) (drawsK hh i2 b n2 its2.toArray k2) (drawsK hh i3 c n3 its3.toArray k3) hz hTI hTO ⟨h1, p1⟩ ⟨h2, p2⟩ ⟨h3, p3⟩ l1 l2 l3 fun v1 v2 v3 h' tk pv1 pv2 pv3 z' TO' s1 s2 s3 hT hsz hk => ?_
    have e1 : v1 = u1 := by simpa [hu1] using pv1.symm
    have e2 : v2 = u2 := by simpa [hu2] using pv2.symm
    have e3 : v3 = u3 := by simpa [hu3] using pv3.symm
    subst e1 e2 e3
    refine ⟨_, rfl, wpAny_letOwnedTupleGo_zip (s := { s with heap := h', toks := tk }) z' fun h'' z'' sb => ?_⟩
    have hT2 := (sb.2 _ (Nat.ne_of_gt zlt)).trans hT
    have new : ObjOk X.prog X.w (upd H s.heap.objs.size (.tup [x, y, t])) h'' s.heap.objs.size (.tup [x, y, t]) :=
      ⟨by show 3 ≤ sizeLine; decide, [v1, v2, v3], .cons ru1 (.cons ru2 (.cons ru3 .nil)), ⟨_, hT2, rfl, _, rfl⟩⟩
    have stay : ∀ q o, q ∉ [z, TI, TO, i1, i2, i3] → s.heap.get? q = some o → h''.get? q = some o := fun q o hq e => by
      simp only [List.mem_cons, List.mem_nil_iff, or_false, not_or] at hq
      exact (sb.2 q hq.1).trans (hk q o hq.1 hq.2.2.1 hq.2.2.2.1 hq.2.2.2.2.1 hq.2.2.2.2.2 e)
    have I1 := I.turnedNew (t' := tk) (ch := [z, TI, TO, i1, i2, i3]) stay hf (Nat.le_refl _) new
    refine ⟨.ref s.heap.objs.size, _, I1, rfl, ⟨_, x, y, t, rfl, I.hok.fresh (Nat.le_refl _), rfl, fun l hl => by rw [injK I hl qx]; exact hx, fun l hl => by rw [injK I hl qy]; exact hy, fun l hl => by rw [injK I hl qz]; exact ht⟩, ⟨z'', ?_, ⟨v1, v2, v3, ?_⟩, ?_, ?_, ?_⟩, fun q hqm => ?_⟩
    · exact (sb.2 _ S.TIz).trans (hk _ _ S.TIz S.TITO S.TIi1 S.TIi2 S.TIi3 hTI)
    · exact (sb.2 _ S.TOz).trans TO'
    · exact iterK_at s1.1 fun o q => (sb.2 _ S.zi1.symm).trans q
    · exact iterK_at s2.1 fun o q => (sb.2 _ S.zi2.symm).trans q
    · exact iterK_at s3.1 fun o q => (sb.2 _ S.zi3.symm).trans q
    · have hlt : q < s.heap.objs.size := by
        simp only [List.mem_cons, List.mem_nil_iff, or_false] at hqm
        rcases hqm with rfl | rfl | rfl | rfl | rfl | rfl
        · exact zlt
        · exact Heap.lt_size hTI
        · exact Heap.lt_size hTO
        · obtain ⟨_, e, _⟩ := iterK_obj h1; exact Heap.lt_size e
        · obtain ⟨_, e, _⟩ := iterK_obj h2; exact Heap.lt_size e
        · obtain ⟨_, e, _⟩ := iterK_obj h3; exact Heap.lt_size e
      rw [upd_ne (Nat.ne_of_lt hlt)]
      exact (hf q hqm).1
  done := by
    intro X hP hw hK hc i pins s σ H E I hf st hg
    subst hP hw hK
    obtain ⟨hz, hTI, ⟨x0, y0, u0, hTO⟩, h1, h2, h3⟩ := st
    obtain ⟨xs, ys, zs, qx, qy, qz, le1, le2, le3, hend⟩ := hg
    obtain ⟨its1, rv1, p1, _, _⟩ := invK I qx
    obtain ⟨its2, rv2, p2, _, _⟩ := invK I qy
    obtain ⟨its3, rv3, p3, _, _⟩ := invK I qz
    have hh : X.A.in1.handled = none := I.ok.hd hc
    have e1 := rv1.length
    have e2 := rv2.length
    have e3 := rv3.length
    refine wpAny_pyNext_zipD3_end S (drawsK hh i1 a n1 its1.toArray k1) (drawsK hh i2 b n2 its2.toArray k2) (drawsK hh i3 c n3 its3.toArray k3) hz hTI hTO ⟨h1, p1⟩ ⟨h2, p2⟩ ⟨h3, p3⟩ (by simp; omega) (by simp; omega) (by simp; omega) (by simp; omega) fun h' tk hk => ⟨rfl, ?_⟩
    refine I.turnedL (t' := tk) (ch := [z, TI, TO, i1, i2, i3]) (fun q o hq e => ?_) hf
    simp only [List.mem_cons, List.mem_nil_iff, or_false, not_or] at hq
    exact hk q o hq.1 hq.2.2.1 hq.2.2.2.1 hq.2.2.2.2.1 hq.2.2.2.2.2 e
  self := fun A i s Q E st h => wpAny_pyIter_zip st.1 h
def iZip3 (K : PySem.W.Frag) (k1 k2 k3 : Kd) (ta : TA) : TI := fun σ H R => ta σ H fun vs H1 => ∃ a b c xs ys zs, vs = [.ref a, .ref b, .ref c] ∧ SqK K H1 a xs k1 ∧ SqK K H1 b ys k2 ∧ SqK K H1 c zs k3 ∧ R (Itz3 K k1 k2 k3 a b c) H1
theorem vals3 {x y z : V} {us : List Value} (r : Vals [x, y, z] us) : ∃ u v w, us = [u, v, w] ∧ RelV x u ∧ RelV y v ∧ RelV z w := by
  cases r with
  | cons a r =>
    obtain ⟨u, v, rfl, b, c⟩ := vals2 r
    exact ⟨_, u, v, rfl, a, b, c⟩
theorem pi_zip3 {X : Cx} {e e2 e3 : Expr} {ta : TA} {p pos tpos : Pos} {elts : List Expr} {kk : Nat} (k1 k2 k3 : Kd) (hg : Gl X "zip") (hm : X.mg "zip" = none) (ha : PA X [e, e2, e3] ta)
    (hs : starEach [e, e2, e3] X.env = (false, eval e X.env) :: starEach [e2, e3] X.env := by rfl) (hpl : (backTo pos (starEach [e2, e3] X.env)).any (·.1) = false := by rfl) :
    PI X (.Tuple elts kk tpos) (.Call (.Name "zip" p) [e, e2, e3] [] pos) (iZip3 X.K k1 k2 k3 ta) := by
  refine ⟨fun pins s σ H R I h => ?_⟩
  refine Call_ (ld_blt I hg hm PyProof.Rows.boot_zip (PyProof.Rows.callWith_type1 (thn (ha.run pos pins s σ H _ I h) fun us s1 ⟨vs, H1, I1, r1, q1⟩ => ?_) hs hpl))
  obtain ⟨a, b, c, xs, ys, zs, ex, qx, qy, qz, q⟩ := q1
  subst ex
  obtain ⟨u1, u2, u3, rfl, ra, rb, rc⟩ := vals3 r1
  cases (show u1 = Value.ref a from ra)
  cases (show u2 = Value.ref b from rb)
  cases (show u3 = Value.ref c from rc)
  obtain ⟨its1, rv1, p1, _, la⟩ := invK I1 qx
  obtain ⟨its2, rv2, p2, _, lb⟩ := invK I1 qy
  obtain ⟨its3, rv3, p3, _, lc⟩ := invK I1 qz
  generalize hN : s1.heap.objs.size = N at la lb lc
  have fresh : ∀ q, q ∈ [N + 5, N + 3, N + 4, N, N + 1, N + 2] → FpOk X pins H1 q := fun q hq => by
    have hle : s1.heap.objs.size ≤ q := by
      simp only [List.mem_cons, List.mem_nil_iff, or_false] at hq
      omega
    exact I1.fpOk hle (I1.hok.fresh hle)
  refine zip_begins3 (beginsK a its1.toArray k1) (beginsK b its2.toArray k2) (beginsK c its3.toArray k3) p1 p2 p3 fun h' hz hTI hTO g1 g2 g3 hsz hk => wpAny_pyIter_zip hz ?_
  rw [hN] at hz hTI hTO g1 g2 g3 ⊢
  have I2 : Inv X pins σ H1 { s1 with heap := h' } := I1.kept (t' := s1.toks) hk
  exact ⟨N + 5, [N + 5, N + 3, N + 4, N, N + 1, N + 2], _, _, H1, rfl, I2, turn_z3 (zip_sep3 (fp1 := [a]) (fp2 := [b]) (fp3 := [c]) (by simpa using la) (by simpa using lb) (by simpa using lc)) (Nat.ne_of_lt la) (Nat.ne_of_lt (Nat.lt_succ_of_lt lb))
    (Nat.ne_of_lt (Nat.lt_succ_of_lt (Nat.lt_succ_of_lt lc))), ⟨hz, hTI, ⟨_, _, _, hTO⟩, iterK_first g1, iterK_first g2, iterK_first g3⟩, fresh, q⟩
/-- a comprehension with a test: what is known of the list so far after i turns -/
theorem lc_growF {J : It} {g : TG} {tt : TT} {te : TE} {vs : List Nat} {σ : L2.St} {H1 : Hp} {D : Addr} {Qd : Hp → Prop} (n : Nat) (hn : n < sizeLine) (I : Nat → List V → Hp → Prop) (h0 : I 0 [] (upd H1 D (.lst [])))
    (hgo : ∀ i acc H, i < n → I i acc H → J.go i H) (hstop : ∀ acc H, I n acc H → J.stop n H)
    (hs : ∀ i H x H' acc, i < n → I i acc H → H D = some (.lst acc) → acc.length ≤ i → J.yld i H x H' → ∀ N : Hp → Prop, (∀ H4 acc', I (i + 1) acc' H4 → H4 D = some (.lst acc') → acc'.length ≤ i + 1 → N H4) →
      g x (wipe σ vs) H' fun σ2 H2 => wipe σ2 vs = wipe σ vs ∧ tt σ2 H2 fun b H3 => if b = true then te σ2 H3 fun y H4 => ∃ acc, H4 D = some (.lst acc) ∧ acc.length < sizeLine ∧ N (upd H4 D (.lst (acc ++ [y]))) else N H3)
    (hd : ∀ H acc, I n acc H → H D = some (.lst acc) → acc.length ≤ n → Qd H) :
    ∃ W : Nat → Nat → Hp → Prop, (∃ m, W 0 m (upd H1 D (.lst []))) ∧ ∀ i m H, W i m H →
      (J.stop i H ∧ Qd H) ∨ (J.go i H ∧ ∃ Nx : Hp → Prop, (∀ H', Nx H' → ∃ m', m' < m ∧ W (i + 1) m' H') ∧ ∀ x H', J.yld i H x H' → g x (wipe σ vs) H' fun σ2 H2 => wipe σ2 vs = wipe σ vs ∧ tt σ2 H2 fun b H3 =>
        if b = true then te σ2 H3 fun y H4 => ∃ acc, H4 D = some (.lst acc) ∧ acc.length < sizeLine ∧ Nx (upd H4 D (.lst (acc ++ [y]))) else Nx H3) := by
  refine lc_any n (fun i H => ∃ acc, I i acc H ∧ H D = some (.lst acc) ∧ acc.length ≤ i) ⟨[], h0, upd_same, Nat.le_refl _⟩ (fun i H hi ⟨acc, p, _⟩ => hgo i acc H hi p) (fun H ⟨acc, p, _⟩ => hstop acc H p) (fun i H x H' hi ⟨acc, pI, hD, hl⟩ y => ?_) (fun H ⟨acc, p, hD, hl⟩ => hd H acc p hD hl)
  exact hs i H x H' acc hi pI hD hl y _ fun H4 acc' h4 e4 l4 => ⟨acc', h4, e4, l4⟩
end ZK

/-! lists or tuples: walked, cut, zipped; // by any divisor -/
namespace ZK
open PySem PySem.Spec PyProof.Rows L2
def ItS (K : PySem.W.Frag) : Kd → Addr → It
  | .l, a => Itl K a
  | .t, a => Itt K a
def iSeqK (K : PySem.W.Frag) (tl : TE) : TI := fun σ H R => tl σ H fun x H1 => ∃ a k xs, x = .ref a ∧ SqK K H1 a xs k ∧ R (ItS K k a) H1
theorem pi_seqK {X : Cx} {tg l : Expr} {tl : TE} (hl : PE X l tl) : PI X tg l (iSeqK X.K tl) := by
  refine ⟨fun pins s σ H R I h => ?_⟩
  refine thn (hl.run pins s σ H _ I h) fun v s1 ⟨x, H1, I1, r1, q1⟩ => ?_
  obtain ⟨a, k, xs, e, hq, q⟩ := q1
  subst e
  cases r1
  have fin : ∀ b ∈ [s1.heap.objs.size], FpOk X pins H1 b := fun b hb => by
    have e : b = s1.heap.objs.size := by simpa using hb
    subst e
    exact I1.fpOk (Nat.le_refl _) (I1.hok.fresh (Nat.le_refl _))
  cases k with
  | l =>
    obtain ⟨its, rv, p, hz⟩ := I1.list hq
    refine wpAny_pyIter_list p.isList ?_
    exact ⟨s1.heap.objs.size, [s1.heap.objs.size], _, _, H1, rfl, I1.kept (t' := s1.toks) fun b o e => Heap.get?_push_of_some _ e, turn_list a _, ⟨_, Heap.get?_push_size _ rfl, rfl, rfl⟩, fin, q⟩
  | t =>
    obtain ⟨its, rv, p, hz⟩ := I1.tuple hq
    refine wpAny_pyIter_tuple (show s1.heap.IsTuple a its.toArray from p) ?_
    exact ⟨s1.heap.objs.size, [s1.heap.objs.size], _, _, H1, rfl, I1.kept (t' := s1.toks) fun b o e => Heap.get?_push_of_some _ e, turn_tuple a _, ⟨_, Heap.get?_push_size _ rfl, rfl, rfl⟩, fin, q⟩
def iZip2S (K : PySem.W.Frag) (ta : TA) : TI := fun σ H R => ta σ H fun vs H1 => ∃ k1 k2 a b xs ys, vs = [.ref a, .ref b] ∧ SqK K H1 a xs k1 ∧ SqK K H1 b ys k2 ∧ R (Itz2 K k1 k2 a b) H1
theorem pi_zip2S {X : Cx} {e e2 : Expr} {ta : TA} {p pos tpos : Pos} {elts : List Expr} {kk : Nat} (hg : Gl X "zip") (hm : X.mg "zip" = none) (ha : PA X [e, e2] ta)
    (hs : starEach [e, e2] X.env = (false, eval e X.env) :: starEach [e2] X.env := by rfl) (hpl : (backTo pos (starEach [e2] X.env)).any (·.1) = false := by rfl) :
    PI X (.Tuple elts kk tpos) (.Call (.Name "zip" p) [e, e2] [] pos) (iZip2S X.K ta) := by
  refine ⟨fun pins s σ H R I h => ?_⟩
  refine Call_ (ld_blt I hg hm PyProof.Rows.boot_zip (PyProof.Rows.callWith_type1 (thn (ha.run pos pins s σ H _ I h) fun us s1 ⟨vs, H1, I1, r1, q1⟩ => ?_) hs hpl))
  obtain ⟨k1, k2, a, b, xs, ys, ex, qx, qy, q⟩ := q1
  subst ex
  obtain ⟨u1, u2, rfl, ra, rb⟩ := vals2 r1
  cases (show u1 = Value.ref a from ra)
  cases (show u2 = Value.ref b from rb)
  obtain ⟨its1, rv1, p1, _, la⟩ := invK I1 qx
  obtain ⟨its2, rv2, p2, _, lb⟩ := invK I1 qy
  generalize hN : s1.heap.objs.size = N at la lb
  have fresh : ∀ c, c ∈ [N + 4, N + 2, N + 3, N, N + 1] → FpOk X pins H1 c := fun c hc => by
    have hle : s1.heap.objs.size ≤ c := by
      simp only [List.mem_cons, List.mem_nil_iff, or_false] at hc
      omega
    exact I1.fpOk hle (I1.hok.fresh hle)
  refine zip_begins2 (beginsK a its1.toArray k1) (beginsK b its2.toArray k2) p1 p2 fun h' hz hTI hTO g1 g2 hsz hk => wpAny_pyIter_zip hz ?_
  rw [hN] at hz hTI hTO g1 g2 ⊢
  have I2 : Inv X pins σ H1 { s1 with heap := h' } := I1.kept (t' := s1.toks) hk
  exact ⟨N + 4, [N + 4, N + 2, N + 3, N, N + 1], _, _, H1, rfl, I2, turn_z2 (zip_sep2 (fp1 := [a]) (fp2 := [b]) (by simpa using la) (by simpa using lb)) (Nat.ne_of_lt la) (Nat.ne_of_lt (Nat.lt_succ_of_lt lb)), ⟨hz, hTI, ⟨_, _, hTO⟩, iterK_first g1, iterK_first g2⟩, fresh, q⟩
/-- a comprehension over a list or tuple that stays -/
theorem lc_growS {K : PySem.W.Frag} {a : Addr} {xs : List V} {k : Kd} {g : TG} {te : TE} {vs : List Nat} {σ : L2.St} {H1 : Hp} {D : Addr} {Qd : Hp → Prop} (hn : xs.length < sizeLine) (I : Nat → Hp → Prop) (R : Nat → V → Prop) (h0 : I 0 (upd H1 D (.lst [])))
    (hl : ∀ i H, I i H → SqK K H a xs k)
    (hs : ∀ i x H acc, xs[i]? = some x → I i H → H D = some (.lst acc) → acc.length = i → (∀ j y, acc[j]? = some y → R j y) → ∀ Qn : VK,
      (∀ y H4, R i y → H4 D = some (.lst acc) → I (i + 1) (upd H4 D (.lst (acc ++ [y]))) → Qn y H4) → g x (wipe σ vs) H fun σ2 H2 => wipe σ2 vs = wipe σ vs ∧ te σ2 H2 Qn)
    (hd : ∀ H acc, I xs.length H → H D = some (.lst acc) → acc.length = xs.length → (∀ i y, acc[i]? = some y → R i y) → Qd H) :
    ∃ W : Nat → Nat → Hp → Prop, (∃ m, W 0 m (upd H1 D (.lst []))) ∧ ∀ i m H, W i m H →
      ((ItS K k a).stop i H ∧ Qd H) ∨ ((ItS K k a).go i H ∧ ∃ Nx : Hp → Prop, (∀ H', Nx H' → ∃ m', m' < m ∧ W (i + 1) m' H') ∧ ∀ x H', (ItS K k a).yld i H x H' → g x (wipe σ vs) H' fun σ2 H2 => wipe σ2 vs = wipe σ vs ∧ tYes σ2 H2 fun b H3 =>
        if b = true then te σ2 H3 fun y H4 => ∃ acc, H4 D = some (.lst acc) ∧ acc.length < sizeLine ∧ Nx (upd H4 D (.lst (acc ++ [y]))) else Nx H3) := by
  cases k with
  | l => exact lc_growL (K := K) hn I R h0 hl hs hd
  | t => exact lc_growT (K := K) hn I R h0 hl hs hd
/-- a loop over a list or tuple that stays -/
theorem kindOf {K : PySem.W.Frag} {H : Hp} {a : Addr} {xs : List V} (h : SqL K H a xs ∨ SqT K H a xs) : ∃ k, SqK K H a xs k := h.elim (fun h => ⟨.l, h⟩) fun h => ⟨.t, h⟩
theorem kindTo {K : PySem.W.Frag} {H : Hp} {a : Addr} {xs : List V} : ∀ {k : Kd}, SqK K H a xs k → SqL K H a xs ∨ SqT K H a xs
  | .l, h => .inl h
  | .t, h => .inr h
/-- a part of a list or tuple -/
def rSlS (K : PySem.W.Frag) : V → Option Int → Option Int → Hp → VK → Prop := fun x lo hi H Q => rSlL K x lo hi H Q ∨ rSlA K x lo hi H Q
theorem sl_any {X : Cx} : SlR X (rSlS X.K) := sl_list.or sl_tupA
theorem cut_full {xs : List V} {lo hi : Option Int} (h1 : HT.sIx xs.length 0 lo = 0) (h2 : HT.sIx xs.length xs.length hi = xs.length) : cutV xs lo hi = xs := by
  unfold cutV
  rw [h1, h2]
  simp
theorem slS {K : PySem.W.Frag} {H : Hp} {a : Addr} {xs : List V} {lo hi : Option Int} {Q : VK} : ∀ {k : Kd}, SqK K H a xs k → (∀ p H', Same H H' → SqK K H' p (cutV xs lo hi) k → Q (.ref p) H') → rSlS K (.ref a) lo hi H Q
  | .l, h, q => .inl ⟨a, xs, rfl, h, fun p hp => q p _ (fun c o e => by rw [upd_ne (ne_of_none e hp)]; exact e) (SqL.of upd_same)⟩
  | .t, h, q => .inr ⟨a, xs, rfl, h, fun full => q a H (Same.refl H) (by rw [cut_full full.1 full.2]; exact h), fun _ p hp => q p _ (fun c o e => by rw [upd_ne (ne_of_none e hp)]; exact e) (SqT.of upd_same)⟩
/-- // by any divisor below 2 ^ 9000 that is not 0 -/
def CDivZ (_ j : Int) : Prop := j ≠ 0 ∧ j.natAbs.log2 < 9000
theorem op_fdivZ {X : Cx} : OpR X (binaryOp .FloorDiv) (rI CDivZ fun i j => .int (i.fdiv j)) := opI fun i j _ _ _ _ _ hc q => floordiv_int hc.1 q (.inl (PyProof.noPylong_of_log2 hc.2))
theorem divZ {i j : Int} {b : Nat} (h : j ≠ 0) (hb : j.natAbs < 2 ^ b) (h9 : b ≤ 9000) : CDivZ i j := by
  refine ⟨h, ?_⟩
  have : j.natAbs ≠ 0 := by omega
  exact Nat.lt_of_lt_of_le ((Nat.log2_lt this).mpr hb) h9
end ZK

/-! set(a list of ints), of which sorted asks -/
namespace ZS
open PySem PySem.Spec PyProof.Rows L2
theorem few_of : ∀ {l T : List Int}, l.Nodup → (∀ k ∈ l, k ∈ T) → l.length ≤ T.length
  | [], _, _, _ => Nat.zero_le _
  | a :: l, T, hn, hs => by
    obtain ⟨h1, h2⟩ := List.nodup_cons.mp hn
    have ha : a ∈ T := hs a List.mem_cons_self
    have ih := few_of (l := l) (T := T.erase a) h2 fun k hk => (List.mem_erase_of_ne (fun (z : k = a) => h1 (by rw [← z]; exact hk))).mpr (hs k (List.mem_cons_of_mem _ hk))
    have := List.length_erase_of_mem ha
    have := List.length_pos_of_mem ha
    simp only [List.length_cons]
    omega
theorem few {w : World} {h : Heap} {a : Addr} {S : Int → Bool} {n : Nat} (R : SetR w h a S n) {T : List Int} (hT : ∀ k, S k = true → k ∈ T) : n ≤ T.length := by
  obtain ⟨o, es, ep, t, _, _, _, _, nd, hm, _, _, hn, _⟩ := R
  have := few_of nd fun k hk => hT k ((hm k).mpr hk)
  rw [List.length_map, Array.length_toList] at this
  omega
/-- the set before its first member -/
def bare (w : World) : Obj := { cls := .type "set", dict := none, data := .set #[] 0 (.fresh 0 0 (!w.params.followText "set-order")) }
section
variable {P : Program} {w : World} {A : Around} {E : Value → Shared → Prop} {s : Shared}
abbrev hp1 (w : World) (s : Shared) : Heap := s.heap.push (bare w)
theorem bare_new (ns : List Int) {h : Heap} {a : Addr} (ho : h.get? a = some (bare w)) : SetR w h a (fun j => decide (j ∈ ns.take 0)) 0 := setR_new_at ho
theorem code_bare (a : Value) {Q1 : Value → Shared → Prop} (h : Q1 (.ref s.heap.objs.size) { s with heap := hp1 w s }) :
    codeAny (model P w) A (.call (.builtin "set.__new__") ⟨[.type "set", a], []⟩) (wants Q1 E) s := code_set_led1 a h
set_option maxHeartbeats 3200000 in
theorem set_list_ints {l : Addr} {items : Array Value} (ns : List Int) {Q : Value → Shared → Prop} (calm : A.handled = none) (at_ : s.heap.IsList l items) (are : IntsAre items.toList ns) (room : ns.length + 1 < scanBound)
    (goal : ∀ (h2 : Heap) (tk c : Nat), SetR w h2 s.heap.objs.size (fun j => decide (j ∈ ns)) c → c ≤ ns.length → (∀ b o, s.heap.get? b = some o → h2.get? b = some o) → Q (.ref s.heap.objs.size) { s with heap := h2, toks := tk }) :
    wpAny (model P w) A (call (.type "set") [.ref l]) Q E s := by
  have many : items.size = ns.length := by
    rw [← Array.length_toList]
    exact IntsAre.length are
  obtain ⟨cl, below, mro⟩ := PySem.F.called_set.mro
  have made := PySem.F.called_set.made
  have subOf := PySem.F.called_set.sub
  have noType := PySem.F.called_set.notType
  have makes := PySem.F.called_set.canCreate
  have typed := PySem.F.typeCall_set_1 (.ref l)
  refine wpAny_call (codeAny_of_tree ?_)
  show wpAny _ _ (callAny (.type "set") ⟨[.ref l], []⟩) _ _ _
  refine wpAny_pure ⟨Code.quiet_builtin _ (by decide +kernel), codeAny_builtin PySem.F.entry_type_call ?_⟩
  rw [Around.under_plain (weight_type_call_type "set" [Value.ref l] []) rfl]
  repeat (any_goals (first | assumption | wp_step))
  refine codeAny_mono (code_bare (.ref l) (E := E) (Q1 := fun v s1 => v = .ref s.heap.objs.size ∧ s1 = { s with heap := hp1 w s }) ⟨rfl, rfl⟩) fun r s1 hr => ?_
  match r, hr with
  | .error e, hr => exact hr
  | .ok (.ret v), hr =>
    obtain ⟨rfl, rfl⟩ := hr
    have stands : (hp1 w s).get? s.heap.objs.size = some (bare w) := Heap.get?_push_size _ rfl
    have isSet : Shared.TypeIs { s with heap := hp1 w s } (.ref s.heap.objs.size) "set" := ⟨_, stands, rfl⟩
    have look := PySem.F.called_set.init.lookup
    have bound := PySem.F.called_set.init.bind (.ref s.heap.objs.size)
    repeat (any_goals (first | assumption | wp_step))
    refine codeAny_mono (codeAny_call_builtin (R := wants (fun r s2 => r = .none ∧ ∃ h2 tk c, s2 = { s with heap := h2, toks := tk } ∧ SetR w h2 s.heap.objs.size (fun j => decide (j ∈ ns)) c ∧ c ≤ ns.length ∧ ∀ b o, s.heap.get? b = some o → h2.get? b = some o) E)
      PySem.F.called_set.init.plain PySem.F.entry_set_init (check_set_init_1 isSet ?_)) fun r2 s2 hr2 => ?_
    · obtain ⟨⟨ocls, odict, odata, oslots⟩, ol, oc, on, od⟩ := at_
      simp only at oc od
      subst oc
      subst od
      have ol2 : (hp1 w s).get? l = some { cls := .type "list", dict := odict, data := .seq items on, slots := oslots } := Heap.get?_push_of_some _ ol
      have no1 := PySem.F.sub_list_set
      have no2 := PySem.F.sub_list_frozenset
      have no3 : (Value.type "list" == Value.type "dict") = false := by decide
      have list1 : (hp1 w s).IsList l items := ⟨_, ol2, rfl, on, rfl⟩
      unfold Builtin.«set.__init__» noKeywords Builtin.Frozenset.updateFrom
      generalize hIt : pyIter = walker
      wp_walk
      subst hIt
      refine wpAny_pyIter_list list1 (wpAny_bind (wpAny_runValue ?_))
      have lower : l < s.heap.objs.size := Heap.lt_size ol
      have calm3 : A.in1.in1.in1.handled = none := by simp [calm]
      have sz : (hp1 w s).objs.size = s.heap.objs.size + 1 := Heap.size_push ..
      have apart : l ≠ (hp1 w s).objs.size := Nat.ne_of_lt (sz ▸ Nat.lt_succ_of_lt lower)
      have out : s.heap.objs.size ∉ [(hp1 w s).objs.size, l] := by
        simp only [List.mem_cons, List.not_mem_nil, or_false, not_or]
        exact ⟨Nat.ne_of_lt (sz ▸ Nat.lt_succ_self _), Nat.ne_of_gt lower⟩
      have told : ∀ (i : Nat) (v : Value), items[i]? = some v → ∃ k t, ns[i]? = some k ∧ v = .int k t := fun i v hv => by
        have hi : i < ns.length := many ▸ (Array.getElem?_eq_some_iff.mp hv).1
        obtain ⟨t, e⟩ := PyProof.Rows.IntsAre.int_at are i v (Array.getElem?_toList ▸ hv)
        exact ⟨ns[i], t, List.getElem?_eq_getElem hi, by rw [e, List.getD_eq_getElem?_getD, List.getElem?_eq_getElem hi]; rfl⟩
      refine set_update_ints ((Walks.list calm3 _ l apart items).toS) s.heap.objs.size out ns many room told (items.size - 0) 0 _ (by omega) (Nat.zero_le _) ⟨⟨_, Heap.get?_push_size _ rfl, rfl, rfl⟩, list1.push _⟩ ?begin ?ends
      case begin => exact ⟨0, Nat.le_refl 0, bare_new ns (Heap.get?_push_of_some _ stands)⟩
      case ends =>
        rintro ⟨h3, g3, d3, tk3, os3⟩ c3 mv lc3 R3
        obtain rfl : g3 = s.gens := mv.gens
        obtain rfl : d3 = s.drawn := mv.drawn
        obtain rfl : os3 = s.os := mv.os
        refine wpAny_pure ?_
        show wpAny _ _ (ret Value.none) _ _ _
        refine wpAny_pure ⟨rfl, h3, tk3, c3, rfl, R3, many ▸ lc3, fun b o e => ?_⟩
        have b0 : b < s.heap.objs.size := Heap.lt_size e
        refine mv.heap b o ?_ (Heap.get?_push_of_some _ (Heap.get?_push_of_some _ e))
        simp only [List.mem_cons, List.not_mem_nil, or_false, not_or]
        exact ⟨Nat.ne_of_lt b0, Nat.ne_of_lt (sz ▸ Nat.lt_succ_of_lt b0)⟩
    · match r2, hr2 with
      | .error e, hr2 => exact hr2
      | .ok (.ret v), hr2 =>
        obtain ⟨rfl, h2, tk, c, rfl, R2, lc, keep⟩ := hr2
        repeat (any_goals (first | assumption | wp_step))
        exact goal _ _ _ R2 lc keep
end
section
variable {X : Cx}
/-- set(xs), xs a list of ints: its members, and at most as many as any list has that has them all -/
def rSetI (K : PySem.W.Frag) (w : World) : List V → Hp → VK → Prop := fun xs H Q => ∃ (a : Addr) (ns : List Int), xs = [.ref a] ∧ SqL K H a (ns.map V.int) ∧ ns.length + 1 < scanBound ∧
  ∀ (p : Addr) (c : Nat), H p = none → (∀ T : List Int, (∀ k ∈ ns, k ∈ T) → c ≤ T.length) → Q (.ref p) (upd H p (SetO w p (fun j => decide (j ∈ ns)) c))
theorem cr_setI (hc : X.calm = true) : CallR X (.type "set") (rSetI X.K X.w) := by
  intro pins s σ H xs us Q I r h
  obtain ⟨a, ns, rfl, hS, room, q⟩ := h
  rw [Vals.ref1 r]
  obtain ⟨its, rv, ⟨o, n, ho, oc, on, od⟩, hlen⟩ := I.list hS
  refine set_list_ints ns (I.ok.hd hc) (items := its.toArray) ⟨o, ho, oc, n, od⟩ (by simpa using ints_of_vals rv) room fun h2 tk c R lc keep => ?_
  exact ⟨.ref s.heap.objs.size, upd H s.heap.objs.size (SetO X.w s.heap.objs.size (fun j => decide (j ∈ ns)) c), I.laid (t' := tk) keep (Nat.le_refl _) (setO_new R), rfl, q _ _ (I.hok.fresh (Nat.le_refl _)) fun T hT => few R fun k hk => hT k (of_decide_eq_true hk)⟩
end
end ZS

namespace EN
open PySem L2 PyProof.Rows
section
variable {P : Program} {w : World} {K : PySem.W.Frag} {mg : Str → Option Value} {base : Heap} {f : Addr} {fd : FuncData}
/-! ### is_whole of any part; is_renumbering -/
def isW (e : El) : Bool := isI e
def spIsWholeE (K : PySem.W.Frag) : Sp := fun vs H Q _ => ∃ (v : V) (e : El), vs = [v] ∧ ElAt K H v e ∧ Q (.bl (isI e)) H
abbrev s_is_whole : Stmt := top 4
abbrev N_is_whole : List Str := ["value"]
theorem sc_is_whole : FnScope N_is_whole ["value"] (defScope s_is_whole) := ⟨rfl, rfl, rfl, by decide +kernel, rfl, by decide +kernel, by decide +kernel⟩

theorem ok_is_whole (F : Fun K "is_whole" "is_whole" s_is_whole f fd) (T : Blt mg) : FnOk P w K mg base CX0 1 f fd ["value"] (spIsWholeE K) := by
  refine F.ok sc_is_whole (fun vs H Q E h => ?_) (fun cdv A outer s H vs Q E hr h => ?_)
  · obtain ⟨_, _, rfl, _⟩ := h
    rfl
  · obtain ⟨v, e, rfl, he, k⟩ := h
    refine ⟨_, (pss_one (ps_ret (pe_and (pe_callB (show CallR _ _ (rIsi K) from call_isi) (by rfl) T.isinstance_ (by decide +kernel) (pa_cons (pv 0) (pa_cons (pe_bltn (v := .ty "int") (u := .type "int") (by rfl) T.int_ (by decide +kernel) rfl) pa_nil))) (pe_one (pe_not (pe_callB (show CallR _ _ (rIsi K) from call_isi) (by rfl) T.isinstance_ (by decide +kernel) (pa_cons (pv 0) (pa_cons (pe_bltn (v := .ty "bool") (u := .type "bool") (by rfl) T.bool_ (by decide +kernel) rfl) pa_nil)))))))), ?_⟩
    cases v with
    | int n =>
      cases e with
      | i m => exact ⟨_, rfl, .int n, .ty "int", .type "int", .type "int", true, rfl, .ty _, .base (.int _), kit_ty (by decide +kernel), true, rfl, iteT ⟨_, rfl, .int n, .ty "bool", .type "int", .type "bool", false, rfl, .ty _, .base (.int _), kit_ty (by decide +kernel), false, rfl, k⟩⟩
      | _ => exact he.elim
    | bl b =>
      cases e with
      | tru => exact ⟨_, rfl, .bl b, .ty "int", .type "bool", .type "int", true, rfl, .ty _, .base (.bl _), kit_ty (by decide +kernel), true, rfl, iteT ⟨_, rfl, .bl b, .ty "bool", .type "bool", .type "bool", true, rfl, .ty _, .base (.bl _), kit_ty (by decide +kernel), true, rfl, k⟩⟩
      | _ => exact he.elim
    | str x =>
      cases e with
      | s y => exact ⟨_, rfl, .str x, .ty "int", .type "str", .type "int", false, rfl, .ty _, .base (.str _), kit_ty (by decide +kernel), false, rfl, iteF k⟩
      | _ => exact he.elim
    | ref a =>
      cases e with
      | u => exact ⟨_, rfl, .ref a, .ty "int", .type "tuple", .type "int", false, rfl, .ty _, tyx_tup he, kit_ty (by decide +kernel), false, rfl, iteF k⟩
      | _ => exact he.elim
    | _ => exact he.elim
/-- the class of a thing -/
def thT : Th → String
  | .tup _ => "tuple"
  | .lst _ => "list"
  | .non => "NoneType"
  | .str _ => "str"
  | .int _ => "int"
  | .dct => "dict"
theorem ThAt.ty {H : Hp} {v : V} {th : Th} (h : ThAt K H v th) : TyX K H v (.type (thT th)) := by
  cases th with
  | tup es =>
    cases v with
    | ref a =>
      obtain ⟨xs, h1, _⟩ := h
      exact tyx_tup h1
    | _ => exact h.elim
  | lst r =>
    cases v with
    | ref a => exact tyx_lst h
    | _ => exact h.elim
  | non =>
    cases v with
    | non => exact .base .non
    | _ => exact h.elim
  | str x =>
    cases v with
    | str y => exact .base (.str _)
    | _ => exact h.elim
  | int n =>
    cases v with
    | int m => exact .base (.int _)
    | _ => exact h.elim
  | dct =>
    cases v with
    | ref a => exact .base (.dK h)
    | _ => exact h.elim
def isTup : Th → Bool
  | .tup _ => true
  | _ => false
def isLst : Th → Bool
  | .lst _ => true
  | _ => false
theorem th_tup (th : Th) : PySem.W.kitOne K (.type (thT th)) (.type "tuple") = some (isTup th) := by cases th <;> (dsimp only [thT, isTup]; exact kit_ty (by decide +kernel))
theorem th_lst (th : Th) : PySem.W.kitOne K (.type (thT th)) (.type "list") = some (isLst th) := by cases th <;> (dsimp only [thT, isLst]; exact kit_ty (by decide +kernel))
theorem range_el {β : Type} (es : List El) (g : El → β) : (List.range es.length).map (fun i => g (es.getD i .u)) = es.map g := by
  apply List.ext_getElem
  · simp
  · intro i h1 h2
    simp only [List.length_map] at h2
    simp [List.getD_eq_getElem?_getD, List.getElem?_eq_getElem h2]
theorem range_ints' (r : List Int) : (List.range r.length).map (fun i => V.int (r.getD i 0)) = r.map V.int := by
  apply List.ext_getElem
  · simp
  · intro i h1 h2
    simp only [List.length_map] at h2
    simp [List.getD_eq_getElem?_getD, List.getElem?_eq_getElem h2]
theorem all_id (es : List El) : (es.map isI).all id = es.all isI := by rw [List.all_map]; rfl
theorem perm_upto {r s : List Int} (hp : s.Perm r) (hs : s.Pairwise (· ≤ ·)) : s = upto r.length ↔ r.Perm (upto r.length) := by
  have up : (upto r.length).Pairwise (· ≤ ·) := by
    unfold upto
    rw [List.pairwise_map]
    exact List.Pairwise.imp (fun h => by omega) List.pairwise_lt_range
  constructor
  · intro e
    rw [← e]
    exact hp.symm
  · intro h
    exact List.Perm.eq_of_pairwise (fun a b _ _ h1 h2 => Int.le_antisymm h1 h2) hs up (hp.trans h)
/-- a thing: is it a renumbering? -/
def spIsRen (K : PySem.W.Frag) : Sp := fun vs H Q _ => ∃ (v : V) (th : Th), vs = [v] ∧ ThAt K H v th ∧ ∀ (H' : Hp) (b : Bool), Same H H' → (b = true ↔ IsRen th) → Q (.bl b) H'
theorem rg_upto (n : Nat) : rgV 0 (n : Int) = (upto n).map V.int := by
  unfold rgV upto
  rw [List.map_map, show ((n : Int) - 0).toNat = n by omega]
  exact List.map_congr_left fun k _ => by show V.int (0 + (k : Int)) = V.int (k : Int); rw [Int.zero_add]
abbrev s_is_renumbering : Stmt := top 9
abbrev N_is_renumbering : List Str := ["row", "number"]
theorem sc_is_renumbering : FnScope N_is_renumbering ["row"] (defScope s_is_renumbering) := ⟨rfl, rfl, rfl, by decide +kernel, rfl, by decide +kernel, by decide +kernel⟩

theorem ok_is_renumbering (F : Fun K "is_renumbering" "is_renumbering" s_is_renumbering f fd) (T : Blt mg) (G_is_whole : Has P w K mg base 1 "is_whole" ["value"] (spIsWholeE K)) : FnOk P w K mg base CX0 2 f fd ["row"] (spIsRen K) := by
  refine F.ok sc_is_renumbering (fun vs H Q E h => ?_) (fun cdv A outer s H vs Q E hr h => ?_)
  · obtain ⟨_, _, rfl, _⟩ := h
    rfl
  · obtain ⟨v, th, rfl, hth, k⟩ := h
    refine ⟨_, (pss_cons (ps_if (PW.pt (pw_or (pt_not (pt_val (pe_callB (show CallR _ _ (rIsi K) from call_isi) (by rfl) T.isinstance_ (by decide +kernel) (pa_cons (pv 0) (pa_cons (pe_bltn (v := .ty "tuple") (u := .type "tuple") (by rfl) T.tuple_ (by decide +kernel) rfl) pa_nil))))) (pw_or1 (pt_not (pt_val (pe_callB (show CallR _ _ (rAll K) from cr_all rfl) (by rfl) T.all_ (by decide +kernel) (pa_cons (pe_lc (own := [("number", 1)]) (g := gName 1) (tt := tYes) (by rfl) sc_is_renumbering.nd (pi_tup (pv 0)) (blkOk_by (own := [("number", 1)]) (N := N_is_renumbering) (sc := defScope s_is_renumbering) (by decide +kernel)) (fun _ _ _ _ _ => (pg_name (i := 1) sc_is_renumbering.nd rfl (by first | exact Or.inl rfl | exact Or.inr rfl))) (fun _ _ _ _ _ => pts_nil) (fun _ _ _ _ _ => (pe_has G_is_whole (hr.mono (by decide)) (pa_cons (pv 1) pa_nil)))) pa_nil)))))))
      (pss_one (ps_ret pe_bl))
      pss_nil)
    (pss_one (ps_ret (pe_cmpR (show OpR _ _ (rEqD K) from op_eqD hr.units) (pe_callB (show CallR _ _ (rSortedI K) from cr_sortedI) (by rfl) T.sorted_ (by decide +kernel) (pa_cons (pe_lc (own := [("number", 1)]) (g := gName 1) (tt := tYes) (by rfl) sc_is_renumbering.nd (pi_tup (pv 0)) (blkOk_by (own := [("number", 1)]) (N := N_is_renumbering) (sc := defScope s_is_renumbering) (by decide +kernel)) (fun _ _ _ _ _ => (pg_name (i := 1) sc_is_renumbering.nd rfl (by first | exact Or.inl rfl | exact Or.inr rfl))) (fun _ _ _ _ _ => pts_nil) (fun _ _ _ _ _ => (pe_callTy call_int1 (by rfl) T.int_ (by decide +kernel) (pa_cons (pv 1) pa_nil)))) pa_nil)) (pe_listRg rfl (by rfl) T.list_ (prg_1 (by rfl) T.range_ (pe_callB (show CallR _ _ (rLenQ K) from c_len) (by rfl) T.len_ (by decide +kernel) (pa_cons (pv 0) pa_nil)))) (nomark _))))), ?_⟩
    refine ⟨_, rfl, v, .ty "tuple", .type (thT th), .type "tuple", isTup th, rfl, .ty _, hth.ty, th_tup th, isTup th, rfl, ?_⟩
    cases th with
    | tup es =>
      refine iteF ?_
      cases v with
      | ref a =>
        obtain ⟨xs, h1, h2, h3⟩ := hth
        have hl := h2.len
        refine ⟨_, rfl, a, rfl, ⟨_, h1⟩, fun D hD => ?_⟩
        refine ZK.lc_growT (K := K) (a := a) (xs := xs) (small1000 (by omega)) (fun _ H' => Same H H') (fun i y => y = .bl (isI (es.getD i .u))) (same_new (Same.refl _) _ hD) (fun i H' s' => sqT_same s' h1) ?_ ?_
        · intro i x H1 acc hx s1 hacc hal hR Qn hq
          obtain ⟨e, he, hv⟩ := h2.get hx
          exact ⟨rfl, _, rfl, x, e, rfl, hv.kp (Kp.of s1), hq _ _ (by rw [List.getD_eq_getElem?_getD, he]; rfl) hacc (same_but_new s1 hD)⟩
        intro H1 acc s1 hacc hal hR
        have e1 := ZK.eq_map hal hR
        rw [hl] at e1
        refine ⟨D, (List.range es.length).map fun i => isI (es.getD i .u), rfl, SqL.of (by rw [hacc, e1, List.map_map]; rfl), _, rfl, ?_⟩
        rw [range_el es isI, all_id]
        have e2 := intsOf_all es
        by_cases hall : es.all isI = true
        · rw [if_pos hall] at e2
          rw [hall]
          refine iteF ?_
          have ex := h2.intsOf e2
          subst ex
          have h11 := sqT_same s1 h1
          clear hD hacc hR hal e1
          generalize es.map elI = r at *
          have hrl : r.length ≤ 40 := by have := hl; rw [List.length_map] at this; omega
          refine ⟨_, rfl, a, rfl, ⟨_, h11⟩, fun D2 hD2 => ?_⟩
          refine ZK.lc_growT (K := K) (a := a) (xs := r.map V.int) (small1000 (by rw [List.length_map]; omega)) (fun _ H' => Same H1 H') (fun i y => y = .int (r.getD i 0)) (same_new (Same.refl _) _ hD2) (fun i H' s' => sqT_same s' h11) ?_ ?_
          · intro i x H2 acc2 hx s2 hacc hal hR Qn hq
            obtain ⟨hi, rfl⟩ := int_at hx
            exact ⟨rfl, _, rfl, .inl ⟨_, rfl, hq _ _ rfl hacc (same_but_new s2 hD2)⟩⟩
          intro H2 acc2 s2 hacc hal hR
          have e3 := ZK.eq_map hal hR
          have hm : H2 D2 = some (.lst (r.map V.int)) := by rw [hacc, e3, List.length_map, range_ints' r]
          refine ⟨D2, r, rfl, SqL.of hm, fun ns' q hp hs hq => ?_⟩
          have s3 := same_new (Same.refl H2) (.lst (ns'.map V.int)) hq
          have hn3 : (upd H2 q (.lst (ns'.map V.int))) q = some (.lst (ns'.map V.int)) := upd_same
          generalize upd H2 q (.lst (ns'.map V.int)) = H3 at s3 hn3 ⊢
          refine ⟨_, rfl, a, _, rfl, .inr (sqT_same (s2.trans s3) h11), _, rfl, RgOk.of_le (by decide) (by rw [List.length_map]; omega) (by decide) (by omega), fun q2 hq2 => ?_⟩
          rw [List.length_map, rg_upto] at *
          have s4 := same_new (Same.refl H3) (.lst ((upto r.length).map V.int)) hq2
          refine ⟨_, _, dp_lst (SqL.of (s4 _ _ hn3)), dp_lst (SqL.of upd_same), shaped_lst _, shaped_lst _, ?_⟩
          rw [eqv_lst]
          refine k _ _ (((s1.trans s2).trans s3).trans s4) ?_
          rw [decide_eq_true_iff, perm_upto hp hs]
          constructor
          · exact fun h => ⟨r, e2, h⟩
          · rintro ⟨r2, z, h⟩
            rw [show (Th.tup es).nums = intsOf es from rfl, e2] at z
            cases z
            exact h
        · rw [Bool.eq_false_iff.mpr hall]
          refine iteT (k H1 false s1 ⟨(fun z => nomatch z), fun ⟨r, z, _⟩ => ?_⟩)
          rw [show (Th.tup es).nums = intsOf es from rfl, e2, if_neg hall] at z
          cases z
      | _ => exact hth.elim
    | _ => exact iteT (k H false (Same.refl _) ⟨(fun z => nomatch z), fun ⟨r, z, _⟩ => nomatch z⟩)
end
end EN

/-! renumberings: composed, turned -/
namespace EN
def comp (p q : List Int) : List Int := q.map fun k => p.getD k.toNat 0
def inv (p : List Int) : List Int := (List.range p.length).map fun k : Nat => ((p.idxOf (k : Int) : Nat) : Int)
def RP (n : Nat) (p : List Int) : Prop := p.length = n ∧ p.Perm (upto n)
theorem upto_len (n : Nat) : (upto n).length = n := by unfold upto; simp
theorem mem_upto {n : Nat} {x : Int} : x ∈ upto n ↔ 0 ≤ x ∧ x < n := by
  unfold upto
  rw [List.mem_map]
  constructor
  · rintro ⟨k, hk, rfl⟩
    have := List.mem_range.mp hk
    omega
  · rintro ⟨h0, h1⟩
    exact ⟨x.toNat, List.mem_range.mpr (by omega), by omega⟩
theorem upto_get {n i : Nat} (h : i < n) : (upto n)[i]? = some (i : Int) := by
  unfold upto
  rw [List.getElem?_map, List.getElem?_range h]
  rfl
theorem upto_nodup (n : Nat) : (upto n).Nodup := by
  unfold upto
  rw [List.nodup_iff_pairwise_ne, List.pairwise_map]
  exact List.Pairwise.imp (fun h => by omega) List.pairwise_lt_range
theorem RP.mem {n : Nat} {p : List Int} (h : RP n p) {x : Int} : x ∈ p ↔ 0 ≤ x ∧ x < n := by rw [h.2.mem_iff, mem_upto]
theorem RP.nodup {n : Nat} {p : List Int} (h : RP n p) : p.Nodup := (h.2.nodup_iff).mpr (upto_nodup n)
theorem RP.upto (n : Nat) : RP n (upto n) := ⟨upto_len n, .refl _⟩
theorem comp_len (p q : List Int) : (comp p q).length = q.length := by unfold comp; simp
theorem comp_get (p q : List Int) {i : Nat} {k : Int} (h : q[i]? = some k) : (comp p q)[i]? = some (p.getD k.toNat 0) := by
  unfold comp
  rw [List.getElem?_map, h]
  rfl
theorem comp_upto (p : List Int) : comp p (upto p.length) = p := by
  apply List.ext_getElem
  · simp [comp_len, upto_len]
  · intro i h1 h2
    simp [comp, upto, List.getD_eq_getElem?_getD, List.getElem?_eq_getElem h2]
theorem RP.comp {n : Nat} {p q : List Int} (hp : RP n p) (hq : RP n q) : RP n (comp p q) := by
  refine ⟨by rw [comp_len]; exact hq.1, ?_⟩
  have h1 : (EN.comp p q).Perm (EN.comp p (EN.upto n)) := hq.2.map _
  have h2 := comp_upto p
  rw [hp.1] at h2
  rw [h2] at h1
  exact h1.trans hp.2
theorem comp_assoc {n : Nat} {p q r : List Int} (hq : RP n q) (hr : RP n r) : comp (comp p q) r = comp p (comp q r) := by
  unfold comp
  rw [List.map_map]
  refine List.map_congr_left fun k hk => ?_
  have hm := hr.mem.mp hk
  have hl : k.toNat < q.length := by rw [hq.1]; omega
  simp [List.getD_eq_getElem?_getD, List.getElem?_map, List.getElem?_eq_getElem hl]
theorem inv_len (p : List Int) : (inv p).length = p.length := by unfold inv; simp
theorem inv_get (p : List Int) {i : Nat} (h : i < p.length) : (inv p)[i]? = some ((p.idxOf (i : Int) : Nat) : Int) := by
  unfold inv
  rw [List.getElem?_map, List.getElem?_range h]
  rfl
theorem inv_at {n : Nat} {p : List Int} (h : RP n p) {i : Nat} {k : Int} (hk : p[i]? = some k) : (inv p).getD k.toNat 0 = i := by
  have hi : i < p.length := (List.getElem?_eq_some_iff.mp hk).1
  have e : p[i] = k := (List.getElem?_eq_some_iff.mp hk).2
  have hm := h.mem.mp (List.mem_of_getElem? hk)
  have hl : k.toNat < p.length := by rw [h.1]; omega
  rw [List.getD_eq_getElem?_getD, inv_get p hl, show ((k.toNat : Nat) : Int) = k by omega, ← e, h.nodup.idxOf_getElem i hi]
  rfl
theorem comp_inv_left {n : Nat} {p : List Int} (h : RP n p) : comp (inv p) p = upto n := by
  apply List.ext_getElem?
  intro i
  by_cases hi : i < p.length
  · rw [comp_get _ _ (List.getElem?_eq_getElem hi), inv_at h (List.getElem?_eq_getElem hi), upto_get (by rw [← h.1]; exact hi)]
  · rw [List.getElem?_eq_none (by rw [comp_len]; omega), List.getElem?_eq_none (by rw [upto_len, ← h.1]; omega)]
theorem comp_inv_right {n : Nat} {p : List Int} (h : RP n p) : comp p (inv p) = upto n := by
  apply List.ext_getElem?
  intro i
  by_cases hi : i < p.length
  · rw [comp_get _ _ (inv_get p hi), upto_get (by rw [← h.1]; exact hi)]
    have hm : (i : Int) ∈ p := h.mem.mpr ⟨by omega, by rw [← h.1]; omega⟩
    have hl := List.idxOf_lt_length_of_mem hm
    rw [Int.toNat_natCast, List.getD_eq_getElem?_getD, List.getElem?_eq_getElem hl, Option.getD_some, List.getElem_idxOf]
  · rw [List.getElem?_eq_none (by rw [comp_len, inv_len]; omega), List.getElem?_eq_none (by rw [upto_len, ← h.1]; omega)]
theorem RP.inv {n : Nat} {p : List Int} (h : RP n p) : RP n (inv p) := by
  refine ⟨by rw [inv_len]; exact h.1, ?_⟩
  have h1 : (EN.comp (EN.inv p) p).Perm (EN.comp (EN.inv p) (EN.upto n)) := h.2.map _
  have h2 := comp_upto (EN.inv p)
  rw [inv_len, h.1] at h2
  rw [h2, comp_inv_left h] at h1
  exact h1.symm
theorem isRen_iff {th : Th} : IsRen th ↔ ∃ r, th.nums = some r ∧ RP r.length r := ⟨fun ⟨r, a, b⟩ => ⟨r, a, rfl, b⟩, fun ⟨r, a, _, b⟩ => ⟨r, a, b⟩⟩
theorem RP.isRen {n : Nat} {p : List Int} (h : RP n p) : IsRen (.tup (p.map El.i)) := ⟨p, intsOf_map p, by rw [h.1]; exact h.2⟩
end EN

/-! enumerate of a list or a tuple -/
namespace ZK
open PySem PySem.Spec PyProof.Rows L2 PySem.W
theorem enum1_meets {v : Value} {ob : Obj} {Hs : Heap → Prop} (B : Begins v ob Hs) :
    Meets (Builtin.«enumerate.__new__» ⟨[.type "enumerate", v], []⟩) (fun _ R s => Hs s.heap ∧
      R (.ok (.ret (.ref (s.heap.push ob).objs.size))) { s with heap := (s.heap.push ob).push { cls := .type "enumerate", data := .fields #[.none, .bool false, .ref s.heap.objs.size, rawInt 0, .none, .none] } }) :=
  .of_wp fun pg wd A R s hs => by
    obtain ⟨hh, gg, dd, tt, oo⟩ := s
    obtain ⟨b0, hr⟩ := hs
    have subE := sub_enumerate
    have go : ∀ {A2 : Around} {E2 : Value → Shared → Prop} {Q2 : Value → Shared → Prop}, Q2 (.ref hh.objs.size) ⟨hh.push ob, gg, dd, tt, oo⟩ → wpAny (model pg wd) A2 (pyIter v) Q2 E2 ⟨hh, gg, dd, tt, oo⟩ :=
      fun q => B.iter pg wd _ _ ⟨hh, gg, dd, tt, oo⟩ _ b0 q
    wp_walk using go
    refine wpAny_stack_any fun fr => wpAny_pure ?_
    split
    · rename_i cc _ _ _ _ _
      cases (cc == Value.type "enumerate") <;> (wp_walk using go; exact ⟨_, rfl, hr⟩)
    · wp_walk using go
      exact ⟨_, rfl, hr⟩
theorem enum1_new {prog : Program} {w : World} {A : Around} {E : Value → Shared → Prop} {s : Shared} {v : Value} {ob : Obj} {Hs : Heap → Prop} {Q : Value → Shared → Prop} (B : Begins v ob Hs) (b0 : Hs s.heap)
    (k : ∀ h2, IsEnum h2 (s.heap.objs.size + 1) s.heap.objs.size 0 .none → h2.get? s.heap.objs.size = some ob → (∀ c u, s.heap.get? c = some u → h2.get? c = some u) → Q (.ref (s.heap.objs.size + 1)) { s with heap := h2 }) :
    wpAny (model prog w) A (call (.type "enumerate") [v]) Q E s := by
  refine callType_new F.called_enumerate (by decide) (F.typeCall_enumerate_1 _) (F.newCall_enumerate_1 _) (fun u => F.args_object_init_2 u _) F.entry_enumerate_new (enum1_meets B) ⟨b0, ?_⟩
  have sz : (s.heap.push ob).objs.size = s.heap.objs.size + 1 := Heap.size_push ..
  have en : IsEnum ((s.heap.push ob).push { cls := .type "enumerate", data := .fields #[.none, .bool false, .ref s.heap.objs.size, rawInt 0, .none, .none] }) (s.heap.objs.size + 1) s.heap.objs.size 0 .none := by
    have z := Heap.get?_push_size (s.heap.push ob) (o := { cls := .type "enumerate", data := .fields #[.none, .bool false, .ref s.heap.objs.size, rawInt 0, .none, .none] }) rfl
    rwa [sz] at z
  show _ ∧ _
  rw [sz]
  exact ⟨⟨_, en, rfl⟩, k _ en (Heap.get?_push_of_some _ (Heap.get?_push_size _ B.free)) fun c u x => Heap.get?_push_of_some _ (Heap.get?_push_of_some _ x)⟩
/-- the items at a with their places, in new pairs -/
def IteK (K : PySem.W.Frag) (k : Kd) (a : Addr) : It :=
  ⟨fun i H => ∃ (xs : List V) (x : V), SqK K H a xs k ∧ xs[i]? = some x, fun i H v H' => ∃ T x, v = .ref T ∧ H T = none ∧ H' = upd H T (.tup [.int (i : Nat), x]) ∧ ∀ xs, SqK K H a xs k → xs[i]? = some x, fun i H => ∃ xs : List V, SqK K H a xs k ∧ i = xs.length⟩
theorem turn_enumK {P : Program} {w : World} {K : PySem.W.Frag} {elts : List Expr} {kk : Nat} {tpos : Pos} {k : Kd} {a e it : Addr} (na : a ≠ it) (ne : e ≠ it) (nea : e ≠ a) :
    Turn P w K (.Tuple elts kk tpos) (IteK K k a) [e, it] e (fun i h => (∃ old, IsEnum h e it ((i : Nat) : Int) old) ∧ IterK h it a i k) where
  mem := by simp
  obj := fun i h st c hc => by
    obtain ⟨⟨old, he⟩, h1⟩ := st
    simp only [List.mem_cons, List.mem_nil_iff, or_false] at hc
    rcases hc with rfl | rfl
    · exact ⟨_, he, fun v q => nomatch q⟩
    · exact iterK_obj h1
  keep := fun i h h' st kp => by
    obtain ⟨⟨old, he⟩, h1⟩ := st
    exact ⟨⟨old, kp e (by simp) _ he⟩, iterK_at h1 fun o q => kp it (by simp) o q⟩
  item := by
    intro X hP hw hK hc i pins s σ H E I hf st hg
    subst hP hw hK
    obtain ⟨⟨old, he⟩, h1⟩ := st
    obtain ⟨xs, x, qx, hx⟩ := hg
    obtain ⟨its, rv, p, _, _⟩ := invK I qx
    obtain ⟨u, hu, ru⟩ := rv.get hx
    have hd1 : X.A.in1.handled = none := I.ok.hd hc
    have li : i < its.toArray.size := by simpa using (List.getElem?_eq_some_iff.mp hu).1
    have elt : e < s.heap.objs.size := Heap.lt_size he
    refine wpAny_pyNext_enum_itemD (drawsK hd1 it a na its.toArray k) he ⟨h1, p⟩ li ne (by simp [ne, nea]) fun y h' tk py oute st' hT hsz kp => ?_
    have ey : y = u := by simpa [hu] using py.symm
    subst ey
    refine ⟨_, rfl, wpAny_letOwnedTupleGo_enum (s := { s with heap := h', toks := tk + 1 }) oute fun h'' he' sb => ?_⟩
    have hT2 := (sb.2 _ (Nat.ne_of_gt elt)).trans hT
    have fresh : ObjOk X.prog X.w (upd H s.heap.objs.size (.tup [.int (i : Nat), x])) h'' s.heap.objs.size (.tup [.int (i : Nat), x]) :=
      ⟨by show 2 ≤ sizeLine; decide, [.int i tk, y], .cons ⟨_, rfl⟩ (.cons ru .nil), ⟨_, hT2, rfl, _, rfl⟩⟩
    have stay : ∀ c o, c ∉ [e, it] → s.heap.get? c = some o → h''.get? c = some o := fun c o hc q => by
      simp only [List.mem_cons, List.mem_nil_iff, or_false, not_or] at hc
      exact (sb.2 c hc.1).trans (kp c o hc.1 hc.2 q)
    have J := I.turnedNew (t' := tk + 1) (ch := [e, it]) stay hf (Nat.le_refl _) fresh
    refine ⟨.ref s.heap.objs.size, _, J, rfl, ⟨_, x, rfl, I.hok.fresh (Nat.le_refl _), rfl, fun l hl => by rw [injK I hl qx]; exact hx⟩, ⟨⟨y, ?_⟩, iterK_at st'.1 fun o q => (sb.2 it ne.symm).trans q⟩, fun c hcm => ?_⟩
    · rw [show ((i + 1 : Nat) : Int) = (i : Int) + 1 by omega]
      exact he'
    · have hlt : c < s.heap.objs.size := by
        simp only [List.mem_cons, List.mem_nil_iff, or_false] at hcm
        rcases hcm with rfl | rfl
        · exact elt
        · obtain ⟨_, z, _⟩ := iterK_obj h1; exact Heap.lt_size z
      rw [upd_ne (Nat.ne_of_lt hlt)]
      exact (hf c hcm).1
  done := by
    intro X hP hw hK hc i pins s σ H E I hf st hg
    subst hP hw hK
    obtain ⟨⟨old, he⟩, h1⟩ := st
    obtain ⟨xs, qx, rfl⟩ := hg
    obtain ⟨its, rv, p, _, _⟩ := invK I qx
    have hd1 : X.A.in1.handled = none := I.ok.hd hc
    have hl := rv.length
    obtain ⟨f0, f1, f2, f3, f4, f5⟩ := hf it (by simp)
    refine wpAny_pyNext_enum_endD (drawsK hd1 it a na its.toArray k) he ⟨by simpa [← hl] using h1, p⟩ fun h' eb => ⟨rfl, I.turned (t' := s.toks) (fun c o hc q => eb c o hc q) f0 f1 f3 f4 f5⟩
  self := fun A i s Q E st h => let ⟨⟨_, he⟩, _⟩ := st; wpAny_pyIter_enum he h
def iEnumK (K : PySem.W.Frag) (ta : TA) : TI := fun σ H R => ta σ H fun vs H1 => ∃ k a xs, vs = [.ref a] ∧ SqK K H1 a xs k ∧ R (IteK K k a) H1
theorem pi_enumK {X : Cx} {e : Expr} {ta : TA} {p pos tpos : Pos} {elts : List Expr} {kk : Nat} (hg : Gl X "enumerate") (hm : X.mg "enumerate" = none) (ha : PA X [e] ta) (hs : starEach [e] X.env = [(false, eval e X.env)] := by rfl) :
    PI X (.Tuple elts kk tpos) (.Call (.Name "enumerate" p) [e] [] pos) (iEnumK X.K ta) := by
  refine ⟨fun pins s σ H R I h => Call_ (ld_blt I hg hm boot_enumerate (PyProof.Rows.callWith_type1 (thn (ha.run pos pins s σ H _ I h) fun us s1 ⟨vs, H1, J, r1, q1⟩ => ?_) hs rfl))⟩
  obtain ⟨k, a, xs, ex, qx, q⟩ := q1
  subst ex
  cases r1 with
  | cons ra rr =>
    cases rr
    cases ra
    obtain ⟨its, rv, p1, _, la⟩ := invK J qx
    refine enum1_new (beginsK a its.toArray k) p1 fun h2 he h0 kp => wpAny_pyIter_enum he ?_
    have J2 : Inv X pins σ H1 { s1 with heap := h2 } := J.kept (t' := s1.toks) kp
    refine ⟨s1.heap.objs.size + 1, [s1.heap.objs.size + 1, s1.heap.objs.size], _, _, H1, rfl, J2, turn_enumK (Nat.ne_of_lt la) (Nat.succ_ne_self _) (Nat.ne_of_gt (Nat.lt_succ_of_lt la)), ⟨⟨.none, he⟩, iterK_first h0⟩, fun c hc => ?_, q⟩
    have hle : s1.heap.objs.size ≤ c := by
      simp only [List.mem_cons, List.mem_nil_iff, or_false] at hc
      rcases hc with rfl | rfl
      · exact Nat.le_succ _
      · exact Nat.le_refl _
    exact J.fpOk hle (J.hok.fresh hle)
end ZK

/-! dict comprehensions over any iterator of n turns -/
namespace ZK
open PySem PySem.Spec PyProof.Rows L2 PySem.W
theorem dc_any {J : It} {g : TG} {tk tv : TE} {vs : List Nat} {σ : L2.St} {H1 : Hp} {D : Addr} {Qd : Hp → Prop} (n : Nat) (Pv : Nat → Hp → Prop) (h0 : Pv 0 (upd H1 D (.dK [])))
    (go : ∀ i H, i < n → Pv i H → J.go i H) (stp : ∀ H, Pv n H → J.stop n H)
    (st : ∀ i H x H', i < n → Pv i H → J.yld i H x H' → g x (wipe σ vs) H' fun σ2 H2 => wipe σ2 vs = wipe σ vs ∧ tk σ2 H2 fun y H4 => tv σ2 H4 fun z H5 => ∃ kvs k, y = kV k ∧ H5 D = some (.dK kvs) ∧ kvs.length < sizeLine ∧ Pv (i + 1) (upd H5 D (.dK (putK kvs k z)))) (hd : ∀ H, Pv n H → Qd H)
    (mono : ∀ x H' (R R' : L2.St → Hp → Prop), (∀ a b, R a b → R' a b) → g x (wipe σ vs) H' R → g x (wipe σ vs) H' R') :
    ∃ W : Nat → Nat → Hp → Prop, (∃ m, W 0 m (upd H1 D (.dK []))) ∧ ∀ i m H, W i m H →
      (J.stop i H ∧ Qd H) ∨ (J.go i H ∧ ∃ Nx : Hp → Prop, (∀ H', Nx H' → ∃ m', m' < m ∧ W (i + 1) m' H') ∧ ∀ x H', J.yld i H x H' → g x (wipe σ vs) H' fun σ2 H2 => wipe σ2 vs = wipe σ vs ∧ tYes σ2 H2 fun b H3 =>
        if b = true then tk σ2 H3 fun y H4 => tv σ2 H4 fun z H5 => ∃ kvs k, y = kV k ∧ H5 D = some (.dK kvs) ∧ kvs.length < sizeLine ∧ Nx (upd H5 D (.dK (putK kvs k z))) else Nx H3) := by
  refine ⟨fun i m H => i + m = n ∧ Pv i H, ⟨n, Nat.zero_add _, h0⟩, fun i m H ⟨e, p⟩ => ?_⟩
  by_cases hi : i < n
  · refine .inr ⟨go i H hi p, Pv (i + 1), fun H' p' => ⟨m - 1, by omega, by omega, p'⟩, fun x H' y => mono _ _ _ _ (fun a b h => ⟨h.1, ?_⟩) (st i H x H' hi p y)⟩
    unfold tYes
    show if (true : Bool) = true then _ else _
    rw [if_pos rfl]
    exact h.2
  · obtain rfl : i = n := by omega
    exact .inl ⟨stp H p, hd H p⟩
end ZK

namespace EN
open PySem L2 PyProof.Rows
section
variable {P : Program} {w : World} {K : PySem.W.Frag} {mg : Str → Option Value} {base : Heap} {f : Addr} {fd : FuncData}
/-! ### what the program's groups do -/
def spEx (K : PySem.W.Frag) (CR : Addr) (good : Th → Prop) : V → Th → Hp → (Hp → Prop) → XK → Prop := fun v th H N E => (good th → ∀ H', Same H H' → N H') ∧ (¬ good th → ∀ (dd : Addr) (H' : Hp), Same H H' → H dd = none → H' dd = some (.xd [("numbers", v)]) → E (.ref CR) (some dd) H')
def spCheckRen (K : PySem.W.Frag) (CR : Addr) : Sp := fun vs H Q E => ∃ (v : V) (th : Th), vs = [v] ∧ ThAt K H v th ∧ spEx K CR IsRen v th H (fun H' => Q .non H') E
def RenN (n : Int) (th : Th) : Prop := ∃ r, th.nums = some r ∧ RP r.length r ∧ (r.length : Int) = n
def spCheckSize (K : PySem.W.Frag) (CR : Addr) : Sp := fun vs H Q E => ∃ (v : V) (th : Th) (n : Int), vs = [v, .int n] ∧ ThAt K H v th ∧ spEx K CR (RenN n) v th H (fun H' => Q .non H') E
def spProduct (K : PySem.W.Frag) : Sp := fun vs H Q _ => ∃ (a b : Addr) (p q : List Int), vs = [.ref a, .ref b] ∧ SqT K H a (p.map V.int) ∧ SqT K H b (q.map V.int) ∧ q.length ≤ 40 ∧ (∀ x ∈ q, 0 ≤ x ∧ x < p.length) ∧ ∀ (t : Addr) (H' : Hp), Same H H' → H' t = some (.tup ((comp p q).map V.int)) → Q (.ref t) H'
def spInvOf (K : PySem.W.Frag) : Sp := fun vs H Q _ => ∃ (a : Addr) (p : List Int), vs = [.ref a] ∧ SqT K H a (p.map V.int) ∧ p.length ≤ 40 ∧ RP p.length p ∧ ∀ (t : Addr) (H' : Hp), Same H H' → SqT K H' t ((inv p).map V.int) → Q (.ref t) H'
/-- what compose answers or raises -/
def spCompose (K : PySem.W.Frag) (CR : Addr) : Sp := fun vs H Q E => ∃ (v u : V) (th tu : Th), vs = [v, u] ∧ ThAt K H v th ∧ ThAt K H u tu ∧
  (¬ IsRen th → ∀ (dd : Addr) (H' : Hp), Same H H' → H' dd = some (.xd [("numbers", v)]) → E (.ref CR) (some dd) H') ∧
  (∀ p, th.nums = some p → RP p.length p → ¬ RenN p.length tu → ∀ (dd : Addr) (H' : Hp), Same H H' → H' dd = some (.xd [("numbers", u)]) → E (.ref CR) (some dd) H') ∧
  (∀ p q, th.nums = some p → tu.nums = some q → RP p.length p → RP p.length q → ∀ (t : Addr) (H' : Hp), Same H H' → SqT K H' t ((comp p q).map V.int) → Q (.ref t) H')
def spInverse (K : PySem.W.Frag) (CR : Addr) : Sp := fun vs H Q E => ∃ (v : V) (th : Th), vs = [v] ∧ ThAt K H v th ∧
  (¬ IsRen th → ∀ (dd : Addr) (H' : Hp), Same H H' → H' dd = some (.xd [("numbers", v)]) → E (.ref CR) (some dd) H') ∧
  (∀ p, th.nums = some p → RP p.length p → ∀ (t : Addr) (H' : Hp), Same H H' → SqT K H' t ((inv p).map V.int) → Q (.ref t) H')
abbrev s_brinit : Stmt := inClass (top 2) 0
abbrev N_brinit : List Str := ["self", "numbers"]
theorem sc_brinit : FnScope N_brinit ["self", "numbers"] (defScope s_brinit) := ⟨rfl, rfl, rfl, by decide +kernel, rfl, by decide +kernel, by decide +kernel⟩

theorem ok_brinit {C : Addr} (F : Fun K "__init__" "BadRenumbering.__init__" s_brinit f fd) : FnOk P w K mg base CX0 1 f fd ["self", "numbers"] (spEx1 K C "numbers") := by
  refine F.ok sc_brinit (fun vs H Q E h => ?_) (fun cdv A outer s H vs Q E hr h => ?_)
  · obtain ⟨_, _, rfl, _⟩ := h
    rfl
  · obtain ⟨a, v, rfl, T, no, ha, k⟩ := h
    refine ⟨_, (pss_one (ps_ost (pv 0) (pv 1))), ?_⟩
    exact ⟨_, rfl, _, rfl, a, C, rfl, T, no, .inl ⟨ha, fun dx h1 h2 => k dx h1 h2⟩⟩
abbrev s_check_renumbering : Stmt := top 10
abbrev N_check_renumbering : List Str := ["row"]
theorem sc_check_renumbering : FnScope N_check_renumbering ["row"] (defScope s_check_renumbering) := ⟨rfl, rfl, rfl, by decide +kernel, rfl, by decide +kernel, by decide +kernel⟩

theorem ok_check_renumbering {CR : Addr} (F : Fun K "check_renumbering" "check_renumbering" s_check_renumbering f fd) (T : Blt mg) (G_is_renumbering : Has P w K mg base 2 "is_renumbering" ["row"] (spIsRen K)) (G_BadRenumbering : ErrH P w K mg base 1 "BadRenumbering" CR "numbers") :
    FnOk P w K mg base (L2.CX P w) 3 f fd ["row"] (spCheckRen K CR) := by
  refine F.okX sc_check_renumbering (fun vs H Q E h => ?_) (fun cdv A outer s H vs Q E hr h => ?_)
  · obtain ⟨_, _, rfl, _⟩ := h
    rfl
  · obtain ⟨v, th, rfl, hth, k1, k2⟩ := h
    refine ⟨_, (pss_one (ps_if (pt_not (pt_val (pe_has G_is_renumbering (hr.mono (by decide)) (pa_cons (pv 0) pa_nil))))
      (pss_one (ps_raise rfl (takes_of rfl rfl rfl rfl) (pmk_err G_BadRenumbering (hr.mono (by decide)) rfl (pa_cons (pv 0) pa_nil))))
      pss_nil)), ?_⟩
    refine ⟨_, rfl, v, th, rfl, hth, fun H1 b s1 hb => ⟨b, rfl, ?_⟩⟩
    cases b with
    | true => exact iteF (k1 (hb.mp rfl) H1 s1)
    | false =>
      refine iteT ⟨_, rfl, err_ans G_BadRenumbering fun dd hdd => k2 (fun z => nomatch hb.mpr z) dd _ (same_new s1 _ hdd) (s1.free hdd) upd_same⟩
abbrev s_check_size : Stmt := top 11
abbrev N_check_size : List Str := ["row", "size"]
theorem sc_check_size : FnScope N_check_size ["row", "size"] (defScope s_check_size) := ⟨rfl, rfl, rfl, by decide +kernel, rfl, by decide +kernel, by decide +kernel⟩

theorem ok_check_size {CR : Addr} (F : Fun K "check_size" "check_size" s_check_size f fd) (T : Blt mg) (G_is_renumbering : Has P w K mg base 2 "is_renumbering" ["row"] (spIsRen K)) (G_BadRenumbering : ErrH P w K mg base 1 "BadRenumbering" CR "numbers") :
    FnOk P w K mg base (L2.CX P w) 3 f fd ["row", "size"] (spCheckSize K CR) := by
  refine F.okX sc_check_size (fun vs H Q E h => ?_) (fun cdv A outer s H vs Q E hr h => ?_)
  · obtain ⟨_, _, _, rfl, _⟩ := h
    rfl
  · obtain ⟨v, th, n, rfl, hth, k1, k2⟩ := h
    refine ⟨_, (pss_one (ps_if (PW.pt (pw_or (pt_not (pt_val (pe_has G_is_renumbering (hr.mono (by decide)) (pa_cons (pv 0) pa_nil)))) (pw_or1 (pt_cmpR op_ne (pe_callB (show CallR _ _ (rLenQ K) from c_len) (by rfl) T.len_ (by decide +kernel) (pa_cons (pv 0) pa_nil)) (pv 1) (nomark _)))))
      (pss_one (ps_raise rfl (takes_of rfl rfl rfl rfl) (pmk_err G_BadRenumbering (hr.mono (by decide)) rfl (pa_cons (pv 0) pa_nil))))
      pss_nil)), ?_⟩
    refine ⟨_, rfl, v, th, rfl, hth, fun H1 b s1 hb => ⟨b, rfl, ?_⟩⟩
    cases b with
    | false => exact iteT ⟨_, rfl, err_ans G_BadRenumbering fun dd hdd => k2 (fun ⟨r, a, c, _⟩ => nomatch hb.mpr ⟨r, a, c.2⟩) dd _ (same_new s1 _ hdd) (s1.free hdd) upd_same⟩
    | true =>
      obtain ⟨r, e, pr⟩ := hb.mp rfl
      obtain ⟨a, rfl, ha, hl⟩ := hth.ren e
      refine iteF ⟨_, rfl, a, _, rfl, .inr (sqT_same s1 ha), _, rfl, rfl, ?_⟩
      rw [List.length_map]
      by_cases hn : (r.length : Int) = n
      · exact ⟨false, by rw [hn]; simp, iteF (k1 ⟨r, e, ⟨rfl, pr⟩, hn⟩ H1 s1)⟩
      · refine ⟨true, congrArg V.bl (by simp [hn]), iteT ⟨_, rfl, err_ans G_BadRenumbering fun dd hdd => k2 (fun ⟨r2, a2, _, c⟩ => ?_) dd _ (same_new s1 _ hdd) (s1.free hdd) upd_same⟩⟩
        rw [e] at a2
        cases a2
        exact hn c
theorem range_ints2 (r : List Int) (g : Int → Int) : (List.range r.length).map (fun i => V.int (g (r.getD i 0))) = (r.map g).map V.int := by
  apply List.ext_getElem
  · simp
  · intro i h1 h2
    simp only [List.length_map] at h2
    simp [List.getD_eq_getElem?_getD, List.getElem?_eq_getElem h2]
abbrev s_product_of : Stmt := top 13
abbrev N_product_of : List Str := ["p", "q", "number"]
theorem sc_product_of : FnScope N_product_of ["p", "q"] (defScope s_product_of) := ⟨rfl, rfl, rfl, by decide +kernel, rfl, by decide +kernel, by decide +kernel⟩

theorem ok_product_of (F : Fun K "product_of" "product_of" s_product_of f fd) (T : Blt mg) : FnOk P w K mg base CX0 1 f fd ["p", "q"] (spProduct K) := by
  refine F.ok sc_product_of (fun vs H Q E h => ?_) (fun cdv A outer s H vs Q E hr h => ?_)
  · obtain ⟨_, _, _, _, rfl, _⟩ := h
    rfl
  · obtain ⟨a, b, p, q, rfl, ha, hb, hl, hm, k⟩ := h
    refine ⟨_, (pss_one (ps_ret (pe_callTy (show CallR _ _ (rTupQ K) from c_tuple) (by rfl) T.tuple_ (by decide +kernel) (pa_cons (pe_lc (own := [("number", 2)]) (g := gName 2) (tt := tYes) (by rfl) sc_product_of.nd (pi_tup (pv 1)) (blkOk_by (own := [("number", 2)]) (N := N_product_of) (sc := defScope s_product_of) (by decide +kernel)) (fun _ _ _ _ _ => (pg_name (i := 2) sc_product_of.nd rfl (by first | exact Or.inl rfl | exact Or.inr rfl))) (fun _ _ _ _ _ => pts_nil) (fun _ _ _ _ _ => (pe_ix (show IxR _ (rIxT K) from ix_tup) (pv 0) (pv 2) (fun _ _ => rfl)))) pa_nil)))), ?_⟩
    refine ⟨_, rfl, b, rfl, ⟨_, hb⟩, fun D hD => ?_⟩
    refine ZK.lc_growT (K := K) (a := b) (xs := q.map V.int) (small1000 (by rw [List.length_map]; omega)) (fun _ H' => Same H H') (fun i y => y = .int (p.getD (q.getD i 0).toNat 0)) (same_new (Same.refl _) _ hD) (fun i H' s' => sqT_same s' hb) ?_ ?_
    · intro i x H1 acc hx s1 hacc hal hR Qn hq
      obtain ⟨hi, rfl⟩ := int_at hx
      have hm1 := hm (q.getD i 0) (by rw [List.getD_eq_getElem?_getD, List.getElem?_eq_getElem hi]; exact List.getElem_mem hi)
      have hg := (get_int (r := p) (e := (q.getD i 0).toNat) (by omega)).1
      refine ⟨rfl, _, rfl, _, rfl, a, _, q.getD i 0, _, rfl, rfl, sqT_same s1 ha, ?_, hq _ _ rfl hacc (same_but_new s1 hD)⟩
      rw [show q.getD i 0 = (((q.getD i 0).toNat : Nat) : Int) by omega]
      exact atI_nat hg
    intro H1 acc s1 hacc hal hR
    have e1 := ZK.eq_map hal hR
    have hm1 : H1 D = some (.lst ((comp p q).map V.int)) := by rw [hacc, e1, List.length_map, range_ints2 q fun x => p.getD x.toNat 0]; rfl
    exact ⟨D, _, rfl, .inl ⟨SqL.of hm1, fun t nt => k t _ (same_new s1 _ nt) upd_same⟩⟩
end
end EN

/-! the group of some renumberings -/
namespace EN
inductive Reach (n : Nat) (R : List (List Int)) : List Int → Prop
  | one : Reach n R (upto n)
  | more {x r : List Int} : Reach n R x → r ∈ R → Reach n R (comp x r)
theorem Reach.rp {n : Nat} {R : List (List Int)} (hR : ∀ r ∈ R, RP n r) {x : List Int} (h : Reach n R x) : RP n x := by
  induction h with
  | one => exact RP.upto n
  | more _ m ih => exact ih.comp (hR _ m)
theorem one_comp {n : Nat} {r : List Int} (h : RP n r) : comp (upto n) r = r := by
  have : comp (upto n) r = r.map id := by
    unfold comp
    refine List.map_congr_left fun k hk => ?_
    have hm := h.mem.mp hk
    rw [List.getD_eq_getElem?_getD, upto_get (by omega)]
    show ((k.toNat : Nat) : Int) = k
    omega
  rw [this, List.map_id]
theorem comp_one {n : Nat} {r : List Int} (h : RP n r) : comp r (upto n) = r := by
  have := comp_upto r
  rwa [h.1] at this
theorem Reach.mono {n : Nat} {R S : List (List Int)} (s : ∀ r ∈ R, r ∈ S) {x : List Int} (h : Reach n R x) : Reach n S x := by
  induction h with
  | one => exact .one
  | more _ m ih => exact .more ih (s _ m)
theorem Reach.own {n : Nat} {R : List (List Int)} (hR : ∀ r ∈ R, RP n r) {r : List Int} (m : r ∈ R) : Reach n R r := by
  have := Reach.more (Reach.one (n := n) (R := R)) m
  rwa [one_comp (hR r m)] at this
theorem Reach.mul {n : Nat} {R : List (List Int)} (hR : ∀ r ∈ R, RP n r) {x y : List Int} (h : Reach n R x) (g : Reach n R y) : Reach n R (comp x y) := by
  induction g with
  | one => rw [comp_one (h.rp hR)]; exact h
  | @more y r gy m ih =>
    rw [← comp_assoc (n := n) (gy.rp hR) (hR r m)]
    exact .more ih m
/-- from the other side -/
inductive ReachL (n : Nat) (R : List (List Int)) : List Int → Prop
  | one : ReachL n R (upto n)
  | more {x r : List Int} : ReachL n R x → r ∈ R → ReachL n R (comp r x)
theorem ReachL.rp {n : Nat} {R : List (List Int)} (hR : ∀ r ∈ R, RP n r) {x : List Int} (h : ReachL n R x) : RP n x := by
  induction h with
  | one => exact RP.upto n
  | more _ m ih => exact (hR _ m).comp ih
theorem ReachL.right {n : Nat} {R : List (List Int)} (hR : ∀ r ∈ R, RP n r) {x r : List Int} (h : ReachL n R x) (m : r ∈ R) : ReachL n R (comp x r) := by
  induction h with
  | one =>
    have := ReachL.more (ReachL.one (n := n) (R := R)) m
    rw [comp_one (hR r m)] at this
    rwa [one_comp (hR r m)]
  | @more x q hx mq ih =>
    rw [comp_assoc (n := n) (hx.rp hR) (hR r m)]
    exact .more ih mq
theorem reach_left {n : Nat} {R : List (List Int)} (hR : ∀ r ∈ R, RP n r) {x : List Int} (h : Reach n R x) : ReachL n R x := by
  induction h with
  | one => exact .one
  | more _ m ih => exact ih.right hR m
theorem left_reach {n : Nat} {R : List (List Int)} (hR : ∀ r ∈ R, RP n r) {x : List Int} (h : ReachL n R x) : Reach n R x := by
  induction h with
  | one => exact .one
  | more _ m ih => exact (Reach.own hR m).mul hR ih
theorem closedR {n : Nat} {R F : List (List Int)} (h1 : upto n ∈ F) (hc : ∀ x ∈ F, ∀ r ∈ R, comp x r ∈ F) {x : List Int} (h : Reach n R x) : x ∈ F := by
  induction h with
  | one => exact h1
  | more _ m ih => exact hc _ ih _ m
theorem closedL {n : Nat} {R F : List (List Int)} (hR : ∀ r ∈ R, RP n r) (h1 : upto n ∈ F) (hc : ∀ x ∈ F, ∀ r ∈ R, comp r x ∈ F) {x : List Int} (h : Reach n R x) : x ∈ F := by
  have := reach_left hR h
  clear h
  induction this with
  | one => exact h1
  | more _ m ih => exact hc _ ih _ m
/-! ### all of them -/
def slots (n : Nat) : Nat → List (List Int)
  | 0 => [[]]
  | m + 1 => (slots n m).flatMap fun d => (((upto n).map (· + 1)).filter fun k => !d.contains k).map fun k => d ++ [k]
def turns (n : Nat) : List (List Int) := (slots n n).map fun d => d.map (· - 1)
theorem turns1 : ∀ a : Fin 1, [(a.val : Int)].Nodup → [(a.val : Int)] ∈ turns 1 := by decide +kernel
theorem turns2 : ∀ a b : Fin 2, [(a.val : Int), b.val].Nodup → [(a.val : Int), b.val] ∈ turns 2 := by decide +kernel
theorem turns3 : ∀ a b c : Fin 3, [(a.val : Int), b.val, c.val].Nodup → [(a.val : Int), b.val, c.val] ∈ turns 3 := by decide +kernel
theorem turns4 : ∀ a b c d : Fin 4, [(a.val : Int), b.val, c.val, d.val].Nodup → [(a.val : Int), b.val, c.val, d.val] ∈ turns 4 := by decide +kernel
theorem fin_of {n : Nat} {x : Int} (h0 : 0 ≤ x) (h1 : x < n) : ∃ a : Fin n, x = (a.val : Int) := ⟨⟨x.toNat, by omega⟩, by show x = ((x.toNat : Nat) : Int); omega⟩
theorem RP.turn {n : Nat} (h4 : n ≤ 4) {p : List Int} (h : RP n p) : p ∈ turns n := by
  have nd := h.nodup
  have hm := fun x hx => h.mem (x := x) |>.mp hx
  have hl := h.1
  match n, h4, p, hl with
  | 0, _, [], _ => decide
  | 1, _, [a], _ =>
    obtain ⟨a, rfl⟩ := fin_of (hm a (by simp)).1 (hm a (by simp)).2
    exact turns1 a nd
  | 2, _, [a, b], _ =>
    obtain ⟨a, rfl⟩ := fin_of (hm a (by simp)).1 (hm a (by simp)).2
    obtain ⟨b, rfl⟩ := fin_of (hm b (by simp)).1 (hm b (by simp)).2
    exact turns2 a b nd
  | 3, _, [a, b, c], _ =>
    obtain ⟨a, rfl⟩ := fin_of (hm a (by simp)).1 (hm a (by simp)).2
    obtain ⟨b, rfl⟩ := fin_of (hm b (by simp)).1 (hm b (by simp)).2
    obtain ⟨c, rfl⟩ := fin_of (hm c (by simp)).1 (hm c (by simp)).2
    exact turns3 a b c nd
  | 4, _, [a, b, c, d], _ =>
    obtain ⟨a, rfl⟩ := fin_of (hm a (by simp)).1 (hm a (by simp)).2
    obtain ⟨b, rfl⟩ := fin_of (hm b (by simp)).1 (hm b (by simp)).2
    obtain ⟨c, rfl⟩ := fin_of (hm c (by simp)).1 (hm c (by simp)).2
    obtain ⟨d, rfl⟩ := fin_of (hm d (by simp)).1 (hm d (by simp)).2
    exact turns4 a b c d nd
instance (p q : List Int) : Decidable (p.Perm q) := inferInstance
theorem turn_rp {n : Nat} (h4 : n ≤ 4) : ∀ p ∈ turns n, RP n p := by
  have : ∀ n ≤ 4, ∀ p ∈ turns n, p.length = n ∧ p.Perm (upto n) := by decide +kernel
  exact this n h4
theorem turns_nodup {n : Nat} (h4 : n ≤ 4) : (turns n).Nodup := by
  have : ∀ n ≤ 4, (turns n).Nodup := by decide +kernel
  exact this n h4
theorem turns_len {n : Nat} (h4 : n ≤ 4) : (turns n).length ≤ 24 := by
  have : ∀ n ≤ 4, (turns n).length ≤ 24 := by decide +kernel
  exact this n h4
/-! ### the group -/
open Classical in
noncomputable def grp (n : Nat) (R : List (List Int)) : List (List Int) := (turns n).filter fun p => decide (Reach n R p)
open Classical in
theorem mem_grp {n : Nat} (h4 : n ≤ 4) {R : List (List Int)} (hR : ∀ r ∈ R, RP n r) {p : List Int} : p ∈ grp n R ↔ Reach n R p := by
  unfold grp
  rw [List.mem_filter, decide_eq_true_iff]
  exact ⟨fun h => h.2, fun h => ⟨(h.rp hR).turn h4, h⟩⟩
theorem grp_rp {n : Nat} (h4 : n ≤ 4) {R : List (List Int)} : ∀ p ∈ grp n R, RP n p := fun p hp => turn_rp h4 p (List.mem_filter.mp hp).1
open Classical in
theorem grp_of {n : Nat} {R S : List (List Int)} (h : ∀ p, Reach n R p ↔ Reach n S p) : grp n R = grp n S := by
  unfold grp
  refine List.filter_congr fun p _ => ?_
  exact decide_eq_decide.mpr (h p)
theorem grp_congr {n : Nat} {R S : List (List Int)} (h : ∀ p, p ∈ R ↔ p ∈ S) : grp n R = grp n S :=
  grp_of fun p => ⟨fun g => g.mono fun r m => (h r).mp m, fun g => g.mono fun r m => (h r).mpr m⟩
theorem grp_grp {n : Nat} (h4 : n ≤ 4) {R : List (List Int)} (hR : ∀ r ∈ R, RP n r) : grp n (grp n R) = grp n R := by
  refine grp_of fun p => ⟨fun g => ?_, fun g => g.mono fun r m => (mem_grp h4 hR).mpr (Reach.own hR m)⟩
  induction g with
  | one => exact .one
  | more _ m ih => exact ih.mul hR ((mem_grp h4 hR).mp m)
open Classical in
theorem grp_filter {n : Nat} {R F : List (List Int)} (h : ∀ p, p ∈ F ↔ Reach n R p) (t : List Int → Bool) (ht : ∀ p, t p = true ↔ p ∈ F) : (turns n).filter t = grp n R := by
  unfold grp
  refine List.filter_congr fun p _ => ?_
  rw [Bool.eq_iff_iff, ht, h, decide_eq_true_iff]
/-- what is in the list of all, each once, is not longer -/
theorem nodup_len {F G : List (List Int)} (nd : F.Nodup) (s : ∀ x ∈ F, x ∈ G) : F.length ≤ G.length := by
  induction F generalizing G with
  | nil => exact Nat.zero_le _
  | cons a F ih =>
    have hn := List.nodup_cons.mp nd
    have ha := s a (by simp)
    have := ih hn.2 (G := G.erase a) fun x hx => by
      have hx2 := s x (by simp [hx])
      exact (List.mem_erase_of_ne (fun e => hn.1 (by rw [← e]; exact hx))).mpr hx2
    rw [List.length_erase_of_mem ha] at this
    have hp : 0 < G.length := List.length_pos_of_mem ha
    rw [List.length_cons]
    omega
/-- a list of them, each once, laid into the order of all -/
theorem grp_perm {n : Nat} (h4 : n ≤ 4) {R F : List (List Int)} (nd : F.Nodup) (h : ∀ p, p ∈ F ↔ Reach n R p) (hR : ∀ r ∈ R, RP n r) : (grp n R).Perm F := by
  refine (List.perm_ext_iff_of_nodup ((turns_nodup h4).filter _) nd).mpr fun p => ?_
  exact (mem_grp h4 hR).trans (h p).symm
end EN

/-! rows as texts: their order is the order of the rows -/
namespace EN
open PySem L2 PyProof.Rows PySem.Spec
def numText (k : Int) : Str := Txt.zfill (Str.ofString (toString k)) 9
def rowText (r : List Int) : Str := Txt.join (Str.ofString " ") (r.map numText)
theorem texts_up {n : Nat} (h4 : n ≤ 4) : (turns n).Pairwise fun p q => ltCps (rowText p).cps.toList (rowText q).cps.toList = true := by
  have : ∀ n ≤ 4, (turns n).Pairwise fun p q => ltCps (rowText p).cps.toList (rowText q).cps.toList = true := by decide +kernel
  exact this n h4
theorem rising_pw : ∀ (l : List Str) (p : Str), risingS p l = true → (p :: l).Pairwise fun a b => a.cps.toList ≤ b.cps.toList
  | [], p, _ => by simp
  | x :: r, p, h => by
    have h2 := h
    unfold risingS at h2
    rw [Bool.and_eq_true, Bool.not_eq_true', ltCps_eq, decide_eq_false_iff_not] at h2
    have ih := rising_pw r x h2.2
    have le : p.cps.toList ≤ x.cps.toList := List.not_lt.mp h2.1
    refine List.pairwise_cons.mpr ⟨fun y hy => ?_, ih⟩
    rcases List.mem_cons.mp hy with rfl | hy
    · exact le
    · exact List.le_trans le ((List.pairwise_cons.mp ih).1 y hy)
theorem sorted_pw (l : List Str) (h : sortedS l = true) : l.Pairwise fun a b => a.cps.toList ≤ b.cps.toList := by
  cases l with
  | nil => exact .nil
  | cons x r => exact rising_pw r x h
theorem str_ext {a b : Str} (h : a.cps.toList = b.cps.toList) : a = b := by
  obtain ⟨⟨a⟩⟩ := a
  obtain ⟨⟨b⟩⟩ := b
  cases h
  rfl
theorem sorted_one {ys : List Str} {n : Nat} (h4 : n ≤ 4) (t : List Int → Bool) (hp : ys.Perm (((turns n).filter t).map rowText)) (hs : sortedS ys = true) : ys = ((turns n).filter t).map rowText := by
  refine List.Perm.eq_of_pairwise (le := fun a b : Str => a.cps.toList ≤ b.cps.toList) (fun a b _ _ h1 h2 => str_ext (List.le_antisymm h1 h2)) (sorted_pw ys hs) ?_ hp
  rw [List.pairwise_map]
  refine List.Pairwise.imp (fun {a b} h => ?_) ((texts_up h4).filter t)
  rw [ltCps_eq, decide_eq_true_iff] at h
  exact List.le_of_lt h
theorem text_inj {n : Nat} (h4 : n ≤ 4) {p q : List Int} (hp : p ∈ turns n) (hq : q ∈ turns n) (e : rowText p = rowText q) : p = q := by
  obtain ⟨i, hi, rfl⟩ := List.mem_iff_getElem.mp hp
  obtain ⟨j, hj, rfl⟩ := List.mem_iff_getElem.mp hq
  have up := List.pairwise_iff_getElem.mp (texts_up h4)
  have no : ∀ s : Str, ltCps s.cps.toList s.cps.toList = true → False := fun s h => by
    rw [ltCps_eq, decide_eq_true_iff] at h
    exact List.lt_irrefl _ h
  rcases Nat.lt_trichotomy i j with h | h | h
  · have := up i j hi hj h
    rw [e] at this
    exact (no _ this).elim
  · subst h
    rfl
  · have := up j i hj hi h
    rw [e] at this
    exact (no _ this).elim
theorem text_len {n : Nat} (h4 : n ≤ 4) {p : List Int} (h : p ∈ turns n) : ((p.map numText).map (·.length)).sum + (p.map numText).length * 1 ≤ 100 := by
  have : ∀ n ≤ 4, ∀ p ∈ turns n, ((p.map numText).map (·.length)).sum + (p.map numText).length * 1 ≤ 100 := by decide +kernel
  exact this n h4 p h
end EN

/-! sep.join(e) where the context is a comprehension's own -/
namespace ZK
open PySem PySem.Spec PyProof.Rows L2 PySem.W
def rJoin (K : Frag) : V → List V → Hp → VK → Prop := fun x xs H Q => ∃ a p, ∃ ys : List Str, x = .str a ∧ xs = [.ref p] ∧ (SqL K H p (ys.map V.str) ∨ SqT K H p (ys.map V.str)) ∧
      (ys.map (·.length)).sum + ys.length * a.length ≤ 16777216 ∧ Q (.str (Txt.join a ys)) H
theorem pe_joinB {X : Cx} {K : Frag} {o e : Expr} {to te : TE} {apos pos : Pos} (ho : PE X o to) (he : PE X e te) (hK : X.K = K := by rfl) (hs : starEach [e] X.env = [(false, eval e X.env)] := by rfl) (hbase : attributeBase o "join" X.env (eval o X.env) = eval o X.env := by rfl) (hline : (apos.endLine == pos.line) = true := by rfl) :
    PE X (.Call (.Attribute o "join" apos) [e] [] pos) (tM1 (rJoin K) to te) := by
  subst hK
  exact pe_join ho he hs hbase hline
end ZK

namespace EN
open PySem L2 PyProof.Rows
section
variable {P : Program} {w : World} {K : PySem.W.Frag} {mg : Str → Option Value} {base : Heap} {f : Addr} {fd : FuncData}
/-! ### rows in their order -/
def relab (sc d : Scope) : Scope := { sc with names := sc.names.map fun (n, k) => if (k == .free && d.kind == .function && d.names.lookup n == some .cell) then (n, .cell) else (n, k) }
def RowsAt (K : PySem.W.Frag) (H : Hp) (bs : List Addr) (F : List (List Int)) : Prop := bs.length = F.length ∧ ∀ (i : Nat) (b : Addr) (r : List Int), bs[i]? = some b → F[i]? = some r → SqT K H b (r.map V.int)
theorem RowsAt.same {H H' : Hp} {bs : List Addr} {F : List (List Int)} (h : RowsAt K H bs F) (s : Same H H') : RowsAt K H' bs F := ⟨h.1, fun i b r e1 e2 => sqT_same s (h.2 i b r e1 e2)⟩
theorem RowsAt.get {H : Hp} {bs : List Addr} {F : List (List Int)} (h : RowsAt K H bs F) {i : Nat} (hi : i < F.length) : ∃ b r, bs[i]? = some b ∧ F[i]? = some r ∧ SqT K H b (r.map V.int) := by
  have h1 : i < bs.length := by rw [h.1]; exact hi
  exact ⟨_, _, List.getElem?_eq_getElem h1, List.getElem?_eq_getElem hi, h.2 i _ _ (List.getElem?_eq_getElem h1) (List.getElem?_eq_getElem hi)⟩
theorem valV_none {kvs : List (Key × V)} {k : Key} (h : k ∉ kvs.map (·.1)) : valV kvs k = none := by
  unfold valV
  rw [List.find?_eq_none.mpr]
  · rfl
  · intro p hp e
    exact h (List.mem_map.mpr ⟨p, hp, of_decide_eq_true e⟩)
structure TabOk (F : List (List Int)) (bs : List Addr) (i : Nat) (kvs : List (Key × V)) : Prop where
  keys : kvs.map (·.1) = (F.take i).map fun r => (.inr (rowText r) : Key)
  val : ∀ j r b, j < i → F[j]? = some r → bs[j]? = some b → valV kvs (.inr (rowText r)) = some (.ref b)
theorem TabOk.put {F : List (List Int)} {bs : List Addr} {i n : Nat} {kvs : List (Key × V)} (h : TabOk F bs i kvs) (h4 : n ≤ 4) (nd : F.Nodup) (hF : ∀ r ∈ F, r ∈ turns n) {r : List Int} {b : Addr} (hr : F[i]? = some r) (hb : bs[i]? = some b) :
    TabOk F bs (i + 1) (putK kvs (.inr (rowText r)) (.ref b)) := by
  have hi : i < F.length := (List.getElem?_eq_some_iff.mp hr).1
  have er : F[i] = r := (List.getElem?_eq_some_iff.mp hr).2
  have hm := hF r (List.mem_of_getElem? hr)
  have no : (.inr (rowText r) : Key) ∉ kvs.map (·.1) := by
    rw [h.keys]
    intro hx
    obtain ⟨q, hq, e⟩ := List.mem_map.mp hx
    have hq2 := hF q (List.mem_of_mem_take hq)
    have := text_inj h4 hq2 hm (Sum.inr.inj e)
    subst this
    obtain ⟨j, hj, e2⟩ := List.mem_take_iff_getElem.mp hq
    have hj2 : j < F.length := by omega
    have i1 := nd.idxOf_getElem i hi
    have i2 := nd.idxOf_getElem j hj2
    rw [er] at i1
    rw [e2] at i2
    omega
  have hn := valV_none no
  refine ⟨?_, fun j q c hj hq hc => ?_⟩
  · rw [putK_new _ hn, List.map_append, h.keys, List.take_succ, hr]
    simp
  · rw [valV_put]
    by_cases e : j = i
    · subst e
      rw [hr] at hq
      rw [hb] at hc
      cases hq
      cases hc
      rw [if_pos rfl]
    · have hq2 : q ∈ F.take i := List.mem_take_iff_getElem.mpr ⟨j, by have := (List.getElem?_eq_some_iff.mp hq).1; omega, (List.getElem?_eq_some_iff.mp hq).2⟩
      rw [if_neg, h.val j q c (by omega) hq hc]
      intro z
      rw [← z] at no
      exact no (by rw [h.keys]; exact List.mem_map.mpr ⟨q, hq2, rfl⟩)
/-- a list of addresses, by what is known of each -/
def refOf : V → Addr
  | .ref b => b
  | _ => 0
theorem refs_of {acc : List V} {Pb : Nat → Addr → Prop} (h : ∀ i y, acc[i]? = some y → ∃ b, y = .ref b ∧ Pb i b) : acc = (acc.map refOf).map V.ref ∧ ∀ i b, (acc.map refOf)[i]? = some b → Pb i b := by
  constructor
  · apply List.ext_getElem
    · simp
    · intro i h1 h2
      obtain ⟨b, e, _⟩ := h i acc[i] (List.getElem?_eq_getElem h1)
      simp only [List.getElem_map]
      rw [e]
      rfl
  · intro i b hb
    rw [List.getElem?_map] at hb
    cases hy : acc[i]? with
    | none => rw [hy] at hb; cases hb
    | some y =>
      rw [hy] at hb
      obtain ⟨c, e, pc⟩ := h i y hy
      subst e
      cases hb
      exact pc
def spSortedRows (K : PySem.W.Frag) : Sp := fun vs H Q _ => ∃ (a : Addr) (bs : List Addr) (F : List (List Int)) (n : Nat), vs = [.ref a] ∧ n ≤ 4 ∧ SqL K H a (bs.map V.ref) ∧ RowsAt K H bs F ∧ F.Nodup ∧ (∀ r ∈ F, r ∈ turns n) ∧
  ∀ (t : Addr) (cs : List Addr) (H' : Hp), Same H H' → H' t = some (.tup (cs.map V.ref)) → RowsAt K H' cs ((turns n).filter fun p => decide (p ∈ F)) → Q (.ref t) H'
abbrev s_sorted_rows : Stmt := top 12
abbrev N_sorted_rows : List Str := ["rows", "table", "row", "text", "number"]
theorem sc_sorted_rows : FnScope N_sorted_rows ["rows"] (defScope s_sorted_rows) := ⟨rfl, rfl, rfl, by decide +kernel, rfl, by decide +kernel, by decide +kernel⟩

theorem ok_sorted_rows (F0 : Fun K "sorted_rows" "sorted_rows" s_sorted_rows f fd) (T : Blt mg) {dt : Tok} (hDig : mg "DIGITS" = some (.int 9 dt)) : FnOk P w K mg base CX0 1 f fd ["rows"] (spSortedRows K) := by
  refine F0.ok sc_sorted_rows (fun vs H Q E h => ?_) (fun cdv A outer s H vs Q E hr h => ?_)
  · obtain ⟨_, _, _, _, rfl, _⟩ := h
    rfl
  · obtain ⟨a, bs, F, n, rfl, h4, ha, hF, nd, hT, k⟩ := h
    have hu := hu_of hr
    have hlen : F.length ≤ 24 := Nat.le_trans (nodup_len nd hT) (turns_len h4)
    have hbl : (bs.map V.ref).length = F.length := by rw [List.length_map, hF.1]
    refine ⟨_, (pss_cons (ps_set (i := 1) sc_sorted_rows.nd rfl (Or.inr rfl) (pe_dc (own := [("row", 2)]) (g := gName 2) (tt := tYes) (by rfl) sc_sorted_rows.nd (pi_list (pv 0)) (blkOk_by (own := [("row", 2)]) (N := N_sorted_rows) (sc := defScope s_sorted_rows) (by decide +kernel)) (fun _ _ _ _ _ => (pg_name (i := 2) sc_sorted_rows.nd rfl (by first | exact Or.inl rfl | exact Or.inr rfl))) (fun _ _ _ _ _ => pts_nil) (fun _ _ _ _ _ => (ZK.pe_joinB (K := K) pe_str (pe_lc (own := [("number", 4)]) (g := gName 4) (tt := tYes) (by rfl) sc_sorted_rows.nd (show PI _ _ _ (iTup K (tVar 2)) from pi_tup (pv 2)) (blkOk_by (own := [("number", 4)]) (N := N_sorted_rows) (sc := relab { kind := .function, names := [(".0", .local), ("row", .local)], isGenerator := false, isCoroutine := false } (defScope s_sorted_rows)) (by decide +kernel)) (fun _ _ _ _ _ => (pg_name (i := 4) sc_sorted_rows.nd rfl (by first | exact Or.inl rfl | exact Or.inr rfl))) (fun _ _ _ _ _ => pts_nil) (fun _ _ _ _ _ => (pe_m1 PySem.F.slot_str_zfill PySem.F.type_str_zfill mt_zfill (pe_callTy call_str_int (by rfl) T.str_ (by decide +kernel) (pa_cons (pv 4) pa_nil)) (pe_glob (v := .int 9) (by rfl) hDig ⟨_, rfl⟩)))))) (fun _ _ _ _ _ => (pv 2))))
    (pss_one (ps_ret (pe_callTy (show CallR _ _ (rTupQ K) from c_tuple) (by rfl) T.tuple_ (by decide +kernel) (pa_cons (pe_lc (own := [("text", 3)]) (g := gName 3) (tt := tYes) (by rfl) sc_sorted_rows.nd (pi_list (pe_callB (show CallR _ _ (rSortedS K) from cr_sortedS) (by rfl) T.sorted_ (by decide +kernel) (pa_cons (pe_lock (pe_lc (own := [("text", 3)]) (g := gName 3) (tt := tYes) (by rfl) sc_sorted_rows.nd (pi_keys (pv 1)) (blkOk_by (own := [("text", 3)]) (N := N_sorted_rows) (sc := defScope s_sorted_rows) (by decide +kernel)) (fun _ _ _ _ _ => (pg_name (i := 3) sc_sorted_rows.nd rfl (by first | exact Or.inl rfl | exact Or.inr rfl))) (fun _ _ _ _ _ => pts_nil) (fun _ _ _ _ _ => (pe_callTy SkE.call_str_str (by rfl) T.str_ (by decide +kernel) (pa_cons (pv 3) pa_nil))))) pa_nil))) (blkOk_by (own := [("text", 3)]) (N := N_sorted_rows) (sc := defScope s_sorted_rows) (by decide +kernel)) (fun _ _ _ _ _ => (pg_name (i := 3) sc_sorted_rows.nd rfl (by first | exact Or.inl rfl | exact Or.inr rfl))) (fun _ _ _ _ _ => pts_nil) (fun _ _ _ _ _ => (pe_dget hu (pv 1) (pv 3) (fun _ _ => rfl)))) pa_nil))))), ?_⟩
    refine ⟨_, rfl, a, rfl, ⟨_, ha⟩, fun D hD => ?_⟩
    refine ZK.dc_any (J := Itl K a) F.length (fun i H' => Same H H' ∧ ∃ kvs, H' D = some (.dK kvs) ∧ TabOk F bs i kvs) ⟨same_new (Same.refl _) _ hD, [], upd_same, by simp, fun j _ _ hj => absurd hj (Nat.not_lt_zero _)⟩ ?_ ?_ ?_ ?_ ?_
    · rintro i H' hi ⟨s', _⟩
      exact ⟨_, _, s'.seq ha, List.getElem?_eq_getElem (by rw [hbl]; exact hi)⟩
    · rintro H' ⟨s', _⟩
      exact ⟨_, s'.seq ha, Nat.le_of_eq hbl⟩
    · rintro i H1 x H2 hi ⟨s1, kvs, hk, ok⟩ ⟨rfl, hy⟩
      have hx := hy _ (s1.seq ha)
      obtain ⟨b, r, eb, er, hb⟩ := hF.get hi
      rw [List.getElem?_map, eb] at hx
      cases hx
      have hb1 := sqT_same s1 hb
      have hrt := hT r (List.mem_of_getElem? er)
      have rp := turn_rp h4 r hrt
      refine ⟨rfl, ⟨_, rfl⟩, _, rfl, b, rfl, ⟨_, hb1⟩, fun D2 hD2 => ?_⟩
      refine ZK.lc_growT (K := K) (a := b) (xs := r.map V.int) (small1000 (by rw [List.length_map, rp.1]; omega)) (fun _ H' => Same H2 H') (fun i y => y = .str (numText (r.getD i 0))) (same_new (Same.refl _) _ hD2) (fun i H' s' => sqT_same s' hb1) ?_ ?_
      · intro j y H3 acc hx s3 hacc hal hR Qn hq
        obtain ⟨hi, rfl⟩ := int_at hx
        have hm := rp.mem.mp (show r.getD j 0 ∈ r by rw [List.getD_eq_getElem?_getD, List.getElem?_eq_getElem hi]; exact List.getElem_mem hi)
        refine ⟨rfl, _, rfl, _, rfl, Nat.lt_of_lt_of_le (lt_wide (n := 3) (by omega)) (by decide), ⟨_, rfl⟩, _, _, rfl, rfl, by decide +kernel, hq _ _ rfl hacc (same_but_new s3 hD2)⟩
      intro H3 acc s3 hacc hal hR
      have e3 := ZK.eq_map hal hR
      have e4 : acc = (r.map numText).map V.str := by
        rw [e3, List.length_map, List.map_map]
        apply List.ext_getElem
        · simp
        · intro i h1 h2
          simp only [List.length_map] at h2
          simp [List.getD_eq_getElem?_getD, List.getElem?_eq_getElem h2]
      rw [e4] at hacc
      refine ⟨_, D2, r.map numText, rfl, rfl, .inl (SqL.of hacc), ?_, ?_⟩
      · have := text_len h4 hrt
        show _ + _ * 1 ≤ _
        omega
      have hk3 := s3 _ _ hk
      have hl : kvs.length ≤ 24 := by
        have := congrArg List.length ok.keys
        rw [List.length_map, List.length_map, List.length_take] at this
        omega
      refine ⟨_, rfl, kvs, .inr (rowText r), rfl, hk3, small1000 (by omega), same_but_new (s1.trans s3) hD, _, upd_same, ok.put h4 nd hT er eb⟩
    · rintro H1 ⟨s1, kvs, hk, ok⟩
      have kl : kvs.length = F.length := by
        have := congrArg List.length ok.keys
        rwa [List.length_map, List.length_map, List.take_length] at this
      refine ⟨D, .dK kvs, hk, trivial, fun od => ⟨_, rfl, D, od, rfl, .inl ⟨kvs, upd_same, fun D2 hD2 => ?_⟩⟩⟩
      refine ZK.lc_grow (J := Itk D od kvs) kvs.length (small1000 (by omega)) (fun _ H' => Same (upd H1 D (.frz od (.dK kvs))) H') (fun i y => y = .str (rowText (F.getD i []))) (same_new (Same.refl _) _ hD2) (fun i H' hi s' => ⟨s' _ _ upd_same, hi⟩) (fun H' s' => ⟨s' _ _ upd_same, Nat.le_refl _⟩) ?_ ?_
      · rintro i Hx x H' acc hi s' hacc hal hR ⟨rfl, ky, v, hkv, rfl⟩ Qn hq
        have e1 : (kvs.map (·.1))[i]? = some ky := by rw [List.getElem?_map, hkv]; rfl
        rw [ok.keys, List.take_length, List.getElem?_map] at e1
        have hi2 : i < F.length := by omega
        rw [List.getElem?_eq_getElem hi2] at e1
        cases e1
        refine ⟨rfl, _, rfl, _, rfl, hq _ _ ?_ hacc (same_but_new s' hD2)⟩
        rw [List.getD_eq_getElem?_getD, List.getElem?_eq_getElem hi2]
        rfl
      intro H3 acc s3 hacc hal hR
      have e3 := ZK.eq_map hal hR
      have e4 : acc = (F.map rowText).map V.str := by
        rw [e3, kl, List.map_map]
        apply List.ext_getElem
        · simp
        · intro i h1 h2
          simp only [List.length_map] at h2
          simp [List.getD_eq_getElem?_getD, List.getElem?_eq_getElem h2]
      rw [e4] at hacc
      have nD : D2 ≠ D := fun z => by rw [z, upd_same] at hD2; cases hD2
      have s4 : Same H1 (upd H3 D (.dK kvs)) := fun a o ho => by
        by_cases e : a = D
        · subst e
          rw [hk] at ho
          cases ho
          exact upd_same
        · rw [upd_ne e]
          exact s3 a o (by rw [upd_ne e]; exact ho)
      have hacc4 : (upd H3 D (.dK kvs)) D2 = some (.lst ((F.map rowText).map V.str)) := by rw [upd_ne nD]; exact hacc
      refine ⟨s3 _ _ upd_same, D2, F.map rowText, rfl, SqL.of hacc4, by rw [List.length_map]; omega, fun ys q hp hs hq => ?_⟩
      have hG : ys = ((turns n).filter fun p => decide (p ∈ F)).map rowText := by
        refine sorted_one h4 _ (hp.trans ?_) hs
        refine List.Perm.map _ ?_
        refine (List.perm_ext_iff_of_nodup nd ((turns_nodup h4).filter _)).mpr fun p => ?_
        rw [List.mem_filter, decide_eq_true_iff]
        exact ⟨fun h => ⟨hT p h, h⟩, fun h => h.2⟩
      subst hG
      have s5 := s4.trans (same_new (Same.refl _) (.lst (((((turns n).filter fun p => decide (p ∈ F)).map rowText)).map V.str)) hq)
      have hq5 : (upd (upd H3 D (.dK kvs)) q (.lst (((((turns n).filter fun p => decide (p ∈ F)).map rowText)).map V.str))) q = _ := upd_same
      generalize upd (upd H3 D (.dK kvs)) q (.lst (((((turns n).filter fun p => decide (p ∈ F)).map rowText)).map V.str)) = H5 at s5 hq5
      have hk5 := s5 _ _ hk
      generalize hGe : ((turns n).filter fun p => decide (p ∈ F)) = G at *
      have hGF : ∀ r ∈ G, r ∈ F := fun r hr => by
        rw [← hGe, List.mem_filter, decide_eq_true_iff] at hr
        exact hr.2
      have gl : G.length ≤ 24 := by
        rw [← hGe]
        exact Nat.le_trans (List.length_filter_le _ _) (turns_len h4)
      refine ⟨q, rfl, ⟨_, SqL.of hq5⟩, fun D3 hD3 => ?_⟩
      refine ZK.lc_growL (K := K) (a := q) (xs := (G.map rowText).map V.str) (small1000 (by rw [List.length_map, List.length_map]; omega)) (fun _ H' => Same H5 H') (fun i y => ∃ b, y = .ref b ∧ ∀ g : List Int, G[i]? = some g → ∃ j : Nat, F[j]? = some g ∧ bs[j]? = some b) (same_new (Same.refl _) _ hD3) (fun i H' s' => s'.seq (SqL.of hq5)) ?_ ?_
      · intro i x Hx acc hx s' hacc hal hR Qn hq
        rw [List.getElem?_map, List.getElem?_map] at hx
        cases hg : G[i]? with
        | none => rw [hg] at hx; cases hx
        | some g =>
          rw [hg] at hx
          cases hx
          obtain ⟨j, hj, ej⟩ := List.mem_iff_getElem.mp (hGF g (List.mem_of_getElem? hg))
          obtain ⟨b, r2, eb, er, hb⟩ := hF.get hj
          rw [List.getElem?_eq_getElem hj] at er
          cases er
          have hd := DGet.k (k := .inr (rowText g)) (s' _ _ hk5)
          rw [ok.val j g b hj (by rw [List.getElem?_eq_getElem hj, ej]) eb] at hd
          exact ⟨rfl, _, rfl, _, rfl, D, _, rfl, hd, hq _ _ ⟨b, rfl, fun g2 e2 => ⟨j, by rw [List.getElem?_eq_getElem hj, ej]; exact hg.symm.trans e2, eb⟩⟩ hacc (same_but_new s' hD3)⟩
      intro H6 acc s6 hacc hal hR
      obtain ⟨ea, hP⟩ := refs_of hR
      rw [ea] at hacc
      refine ⟨D3, _, rfl, .inl ⟨SqL.of hacc, fun t nt => ?_⟩⟩
      have s7 := (s1.trans (s5.trans s6)).trans (same_new (Same.refl _) (.tup ((acc.map refOf).map V.ref)) nt)
      refine k t (acc.map refOf) _ s7 upd_same ⟨?_, fun i b g e1 e2 => ?_⟩
      · rw [List.length_map, hal, List.length_map, List.length_map]
      · obtain ⟨j, e3, e4⟩ := hP i b e1 g e2
        exact sqT_same s7 (hF.2 j b g e4 e3)
    · intro x H' R R' imp hg
      exact imp _ _ hg
end
end EN

namespace EN
open PySem L2 PyProof.Rows
section
variable {P : Program} {w : World} {K : PySem.W.Frag} {mg : Str → Option Value} {base : Heap} {f : Addr} {fd : FuncData}
/-! ### pieces of tuples -/
theorem slA {H : Hp} {a : Addr} {xs : List V} {lo hi : Option Int} {Q : VK} (h : SqT K H a xs) (q : ∀ p H', Same H H' → SqT K H' p (cutV xs lo hi) → Q (.ref p) H') : rSlA K (.ref a) lo hi H Q :=
  ⟨a, xs, rfl, h, fun full => q a H (Same.refl H) (by rw [ZK.cut_full full.1 full.2]; exact h), fun _ p hp => q p _ (same_new (Same.refl H) _ hp) (SqT.of upd_same)⟩
theorem catA {H : Hp} {a b : Addr} {xs ys : List V} {Q : VK} (ha : SqT K H a xs) (hb : SqT K H b ys) (hl : xs.length + ys.length ≤ 1000) (q : ∀ p H', Same H H' → SqT K H' p (xs ++ ys) → Q (.ref p) H') : rCatA K (.ref a) (.ref b) H Q :=
  ⟨a, b, xs, ys, rfl, rfl, ha, hb, Nat.le_of_lt (small1000 hl), fun e => q b H (Same.refl H) (by rw [e]; exact hb), fun _ e => q a H (Same.refl H) (by rw [e, List.append_nil]; exact ha), fun _ _ p hp => q p _ (same_new (Same.refl H) _ hp) (SqT.of upd_same)⟩
end
end EN

namespace EN
open PySem L2 PyProof.Rows
section
variable {P : Program} {w : World} {K : PySem.W.Frag} {mg : Str → Option Value} {base : Heap} {f : Addr} {fd : FuncData}
/-! ### slots, turns -/
def stepTo (n : Nat) (d : List Int) (j : Nat) : List (List Int) := (((List.range j).map fun k : Nat => (k : Int) + 1).filter fun k => !d.contains k).map fun k => d ++ [k]
theorem slots_succ (n m : Nat) : slots n (m + 1) = (slots n m).flatMap fun d => stepTo n d n := by
  show (slots n m).flatMap _ = _
  congr 1
  funext d
  unfold stepTo upto
  rw [List.map_map]
  rfl
theorem stepTo_succ (n : Nat) (d : List Int) (j : Nat) : stepTo n d (j + 1) = stepTo n d j ++ (if d.contains ((j : Int) + 1) = true then [] else [d ++ [(j : Int) + 1]]) := by
  unfold stepTo
  rw [List.range_succ, List.map_append, List.filter_append, List.map_append]
  congr 1
  by_cases h : d.contains ((j : Int) + 1) = true
  · rw [if_pos h]
    simp only [List.map_cons, List.map_nil, List.filter_cons, List.filter_nil, h]
    rfl
  · rw [if_neg h]
    have : d.contains ((j : Int) + 1) = false := Bool.eq_false_iff.mpr h
    simp only [List.map_cons, List.map_nil, List.filter_cons, List.filter_nil, this]
    rfl
theorem stepTo_len (n : Nat) (d : List Int) (j : Nat) : (stepTo n d j).length ≤ j := by
  unfold stepTo
  rw [List.length_map]
  refine Nat.le_trans (List.length_filter_le _ _) ?_
  simp
theorem slots_len {n m : Nat} (h4 : n ≤ 4) (m4 : m ≤ 4) : (slots n m).length ≤ 24 := by
  have : ∀ n ≤ 4, ∀ m ≤ 4, (slots n m).length ≤ 24 := by decide +kernel
  exact this n h4 m m4
theorem slots_el {n m : Nat} (h4 : n ≤ 4) (m4 : m ≤ 4) : ∀ d ∈ slots n m, d.length ≤ 4 := by
  have : ∀ n ≤ 4, ∀ m ≤ 4, ∀ d ∈ slots n m, d.length ≤ 4 := by decide +kernel
  exact this n h4 m m4
theorem inV_ints (k : Int) : ∀ r : List Int, inV (.int k) (r.map V.int) = r.contains k
  | [] => rfl
  | x :: r => by
    have := inV_ints k r
    unfold inV at this ⊢
    rw [List.map_cons, List.any_cons, this, List.contains_cons]
    congr 1
    show decide _ = _
    by_cases e : k = x
    · subst e
      simp
    · have e2 : ¬ x = k := fun z => e z.symm
      simp [e, e2]
theorem flat_ints : ∀ r : List Int, (r.map V.int).all flatV = true
  | [] => rfl
  | _ :: r => flat_ints r
theorem RowsAt.snoc {H : Hp} {bs : List Addr} {F : List (List Int)} {t : Addr} {r : List Int} (h : RowsAt K H bs F) (ht : SqT K H t (r.map V.int)) : RowsAt K H (bs ++ [t]) (F ++ [r]) := by
  refine ⟨by rw [List.length_append, List.length_append, h.1]; rfl, fun i b q h1 h2 => ?_⟩
  by_cases hi : i < bs.length
  · rw [List.getElem?_append_left hi] at h1
    rw [List.getElem?_append_left (by rw [← h.1]; exact hi)] at h2
    exact h.2 i b q h1 h2
  · have hi2 : i = bs.length := by
      have := (List.getElem?_eq_some_iff.mp h1).1
      simp at this
      omega
    subst hi2
    rw [List.getElem?_append_right (Nat.le_refl _)] at h1
    rw [h.1, List.getElem?_append_right (Nat.le_refl _)] at h2
    simp at h1 h2
    rw [← h1, ← h2]
    exact ht
def spSlots (K : PySem.W.Frag) (m : Nat) : Sp := fun vs H Q _ => ∃ (n : Nat) (e : Addr), vs = [.int (n : Int), .ref e, .int (m : Int)] ∧ n ≤ 4 ∧ m ≤ 4 ∧ SqT K H e [] ∧ ∀ (l : Addr) (bs : List Addr) (H' : Hp), Same H H' → H' l = some (.lst (bs.map V.ref)) → RowsAt K H' bs (slots n m) → Q (.ref l) H'
theorem same_updN {H1 H' : Hp} {a : Addr} {o : HO} (h1 : H1 a = none) (s : Same H1 H') : Same H1 (upd H' a o) := fun b u hb => by
  rw [upd_ne (fun z => by rw [z, h1] at hb; cases hb)]
  exact s b u hb
theorem sqT_updL {H : Hp} {b l : Addr} {xs ys : List V} {o : HO} (h : SqT K H b xs) (hl : H l = some (.lst ys)) : SqT K (upd H l o) b xs := by
  rcases h with (e | ⟨ob, e⟩) | h
  · exact .inl (.inl (by rw [upd_ne (ne_of e hl (fun z => nomatch z))]; exact e))
  · exact .inl (.inr ⟨ob, by rw [upd_ne (ne_of e hl (fun z => nomatch z))]; exact e⟩)
  · exact .inr h
theorem RowsAt.upd {H : Hp} {l : Addr} {bs : List Addr} {F : List (List Int)} {ys : List V} {o : HO} (h : RowsAt K H bs F) (hl : H l = some (.lst ys)) : RowsAt K (L2.upd H l o) bs F := ⟨h.1, fun i b r e1 e2 => sqT_updL (h.2 i b r e1 e2) hl⟩
abbrev s_slots : Stmt := top 24
abbrev N_slots : List Str := ["_law_n", "_law_spare", "_law_many", "_law_found", "_law_done", "_law_each"]
theorem sc_slots : FnScope N_slots ["_law_n", "_law_spare", "_law_many"] (defScope s_slots) := ⟨rfl, rfl, rfl, by decide +kernel, rfl, by decide +kernel, by decide +kernel⟩

theorem ok_slots (F : Fun K "_law_slots" "_law_slots" s_slots f fd) (T : Blt mg) (own : ∀ (k : Nat) (sp : Sp), FnOk P w K mg base CX0 k f fd ["_law_n", "_law_spare", "_law_many"] sp → Has P w K mg base k "_law_slots" ["_law_n", "_law_spare", "_law_many"] sp) :
    ∀ m : Nat, FnOk P w K mg base CX0 (m + 2) f fd ["_law_n", "_law_spare", "_law_many"] (spSlots K m) := by
  intro m
  induction m with
  | zero =>
    have no : FnOk P w K mg base CX0 1 f fd ["_law_n", "_law_spare", "_law_many"] (fun _ _ _ _ => False) := F.ok sc_slots (fun vs H Q E h => h.elim) (fun cdv A outer s H vs Q E hr h => h.elim)
    have G_slots := own _ _ no
    refine F.ok sc_slots (fun vs H Q E h => ?_) (fun cdv A outer s H vs Q E hr h => ?_)
    · obtain ⟨_, _, rfl, _⟩ := h
      rfl
    · obtain ⟨n, e, rfl, h4, m4, he, k⟩ := h
      refine ⟨_, (pss_cons (ps_if (pt_cmpR op_eq (pv 2) pe_int (nomark _))
      (pss_one (ps_ret (pe_lst (pa_cons (pe_tup pa_nil) pa_nil))))
      pss_nil)
    (pss_cons (ps_set (i := 3) sc_slots.nd rfl (Or.inl rfl) (pe_lst pa_nil))
    (pss_cons (ps_for PassesOwn.never rfl (pi_list (pe_has G_slots (hr.mono (by omega)) (pa_cons (pv 0) (pa_cons (pv 1) (pa_cons (pe_op op_sub (pv 2) pe_int) pa_nil))))) (pg_name (i := 4) sc_slots.nd rfl (Or.inl rfl))
      (pss_one (ps_for PassesOwn.never rfl (pi_range2 (by rfl) T.range_ (pa_cons pe_int (pa_cons (pe_op op_add (pv 0) pe_int) pa_nil))) (pg_name (i := 5) sc_slots.nd rfl (Or.inl rfl))
        (pss_one (ps_if (PW.pt (pw_and (pt_cmpR (show OpR _ _ (rIn K true) from op_notIn_seq) (pv 5) (pv 4) (by rfl)) (pw_and1 (pt_cmpR (show OpR _ _ (rIn K true) from op_notIn_seq) (pv 5) (pv 1) (by rfl)))))
          (pss_one (ps_expr (pe_bm PySem.F.plainAttrs_list PySem.F.slot_list_append PySem.F.type_list_append mt_append (pv 3) (pa_cons (pe_op (show OpR _ _ (rCatA K) from op_catA) (pv 4) (pe_tup (pa_cons (pv 5) pa_nil))) pa_nil))))
          pss_nil)))))
    (pss_one (ps_ret (pv 3)))))), ?_⟩
      refine ⟨_, rfl, rfl, _, rfl, ite2 (fun h0 => ?_) (fun h0 => ?_)⟩
      · refine ⟨(by show 0 ≤ sizeLine; decide), fun t nt => ⟨(by show 1 ≤ sizeLine; decide), fun l nl => ?_⟩⟩
        have st := same_new (Same.refl H) (.tup []) nt
        have ht : (L2.upd H t (.tup [])) t = some (.tup []) := upd_same
        generalize L2.upd H t (.tup []) = H1 at st ht nl ⊢
        have sl := same_new (Same.refl H1) (.lst [.ref t]) nl
        refine k l [t] _ (st.trans sl) upd_same ⟨rfl, fun i b r e1 e2 => ?_⟩
        cases i with
        | zero =>
          cases e1
          cases e2
          exact SqT.of (sl _ _ ht)
        | succ i => cases e1
      · exact absurd (by decide) h0
  | succ m ih =>
    have G_slots := own _ _ ih
    refine F.ok sc_slots (fun vs H Q E h => ?_) (fun cdv A outer s H vs Q E hr h => ?_)
    · obtain ⟨_, _, rfl, _⟩ := h
      rfl
    · obtain ⟨n, e, rfl, h4, m4, he, k⟩ := h
      refine ⟨_, (pss_cons (ps_if (pt_cmpR op_eq (pv 2) pe_int (nomark _))
      (pss_one (ps_ret (pe_lst (pa_cons (pe_tup pa_nil) pa_nil))))
      pss_nil)
    (pss_cons (ps_set (i := 3) sc_slots.nd rfl (Or.inl rfl) (pe_lst pa_nil))
    (pss_cons (ps_for PassesOwn.never rfl (pi_list (pe_has G_slots (hr.mono (by omega)) (pa_cons (pv 0) (pa_cons (pv 1) (pa_cons (pe_op op_sub (pv 2) pe_int) pa_nil))))) (pg_name (i := 4) sc_slots.nd rfl (Or.inl rfl))
      (pss_one (ps_for PassesOwn.never rfl (pi_range2 (by rfl) T.range_ (pa_cons pe_int (pa_cons (pe_op op_add (pv 0) pe_int) pa_nil))) (pg_name (i := 5) sc_slots.nd rfl (Or.inl rfl))
        (pss_one (ps_if (PW.pt (pw_and (pt_cmpR (show OpR _ _ (rIn K true) from op_notIn_seq) (pv 5) (pv 4) (by rfl)) (pw_and1 (pt_cmpR (show OpR _ _ (rIn K true) from op_notIn_seq) (pv 5) (pv 1) (by rfl)))))
          (pss_one (ps_expr (pe_bm PySem.F.plainAttrs_list PySem.F.slot_list_append PySem.F.type_list_append mt_append (pv 3) (pa_cons (pe_op (show OpR _ _ (rCatA K) from op_catA) (pv 4) (pe_tup (pa_cons (pv 5) pa_nil))) pa_nil))))
          pss_nil)))))
    (pss_one (ps_ret (pv 3)))))), ?_⟩
      refine ⟨_, rfl, rfl, _, rfl, ite2 (fun h0 => ?_) (fun h0 => ?_)⟩
      · have := V.int.inj (of_decide_eq_true h0)
        omega
      refine ⟨(by show 0 ≤ sizeLine; decide), fun l nl => ?_⟩
      have sl := same_new (Same.refl H) (.lst []) nl
      have hl1 : (L2.upd H l (.lst [])) l = some (.lst (([] : List Addr).map V.ref)) := upd_same
      generalize L2.upd H l (.lst []) = H1 at sl hl1 ⊢
      refine ⟨_, rfl, _, rfl, _, rfl, _, _, rfl, rfl, n, e, by show [V.int (n : Int), V.ref e, V.int (((m + 1 : Nat) : Int) - 1)] = _; rw [show ((m + 1 : Nat) : Int) - 1 = (m : Int) by omega], h4, by omega, sqT_same sl he, fun l2 bs H2 s2 hl2 hrw => ⟨l2, rfl, ⟨_, SqL.of hl2⟩, ?_⟩⟩
      have sl2 : (slots n m).length ≤ 24 := slots_len h4 (by omega)
      refine for_list (K := K) (a := l2) (xs := bs.map V.ref) (fun i σ H' => ∃ (v4 v5 : Option V) (cs : List Addr), σ = [some (.int (n : Int)), some (.ref e), some (.int ((m + 1 : Nat) : Int)), some (.ref l), v4, v5] ∧ Same H H' ∧ H' l2 = some (.lst (bs.map V.ref)) ∧ H' l = some (.lst (cs.map V.ref)) ∧ RowsAt K H' bs (slots n m) ∧
        RowsAt K H' cs (((slots n m).take i).flatMap fun d => stepTo n d n) ∧ cs.length ≤ 4 * i) ⟨none, none, [], rfl, sl.trans s2, hl2, s2 _ _ hl1, hrw, ⟨rfl, fun i b r h1 => by simp at h1⟩, Nat.zero_le _⟩ ?_ ?_ ?_
      · rintro i σ H' hi ⟨v4, v5, cs, rfl, s1, h2, _⟩
        exact SqL.of h2
      · rintro i x σ H3 hx ⟨v4, v5, cs, rfl, s3, h2, h1, hrb, hrc, hlc⟩
        have hi : i < (slots n m).length := by
          have := (List.getElem?_eq_some_iff.mp hx).1
          rwa [List.length_map, hrb.1] at this
        obtain ⟨b, r, eb, er, hb⟩ := hrb.get hi
        rw [List.getElem?_map, eb] at hx
        cases hx
        have hrl : r.length ≤ 4 := slots_el h4 (by omega) r (List.mem_of_getElem? er)
        have ht : ((slots n m).take (i + 1)).flatMap (fun d => stepTo n d n) = (((slots n m).take i).flatMap fun d => stepTo n d n) ++ stepTo n r n := by
          rw [List.take_succ, er, List.flatMap_append]
          simp
        rw [ht]
        generalize (((slots n m).take i).flatMap fun d => stepTo n d n) = A0 at hrc
        refine ⟨_, rfl, _, _, rfl, rfl, 1, (n : Int) + 1, rfl, ⟨by decide, by decide, by omega, by omega⟩, ?_⟩
        rw [show ((n : Int) + 1 - 1).toNat = n by omega]
        refine for_range (lo := 1) (n := n) (fun j σ H' => ∃ (v5 : Option V) (cs : List Addr), σ = [some (.int (n : Int)), some (.ref e), some (.int ((m + 1 : Nat) : Int)), some (.ref l), some (.ref b), v5] ∧ Same H H' ∧ H' l2 = some (.lst (bs.map V.ref)) ∧ H' l = some (.lst (cs.map V.ref)) ∧ RowsAt K H' bs (slots n m) ∧
          RowsAt K H' cs (A0 ++ stepTo n r j) ∧ cs.length ≤ 4 * i + j) ⟨v5, cs, rfl, s3, h2, h1, hrb, by rw [show stepTo n r 0 = [] from rfl, List.append_nil]; exact hrc, by omega⟩ ?_ ?_
        · rintro j σ H4 hj ⟨v5, cs, rfl, s4, h2, h1, hrb, hrc, hlc⟩
          have hb4 := hrb.2 i b r eb er
          have nl2 : l2 ≠ l := fun z => by
            subst z
            have e9 := s2 _ _ hl1
            rw [hl2] at e9
            have e10 := List.map_eq_nil_iff.mp (HO.lst.inj (Option.some.inj e9))
            rw [e10] at eb
            cases eb
          have ec : (!inV (V.int (1 + (j : Int))) (r.map V.int)) = !r.contains ((j : Int) + 1) := by rw [inV_ints, Int.add_comm]
          rw [stepTo_succ]
          by_cases hc : r.contains ((j : Int) + 1) = true
          · rw [if_pos hc, List.append_nil]
            rw [hc] at ec
            exact ⟨_, rfl, _, rfl, b, _, rfl, .inr hb4, rfl, flat_ints r, false, congrArg V.bl ec, iteF (iteF ⟨_, cs, rfl, s4, h2, h1, hrb, hrc, by omega⟩)⟩
          · rw [if_neg hc]
            rw [Bool.eq_false_iff.mpr hc] at ec
            refine ⟨_, rfl, _, rfl, b, _, rfl, .inr hb4, rfl, flat_ints r, true, congrArg V.bl ec, iteT ⟨_, rfl, _, rfl, e, [], rfl, .inr (sqT_same s4 he), rfl, rfl, true, rfl, iteT ?_⟩⟩
            refine ⟨_, rfl, .inl ⟨rfl, _, SqL.of h1⟩, _, rfl, _, rfl, (by show 1 ≤ sizeLine; decide), fun t1 nt1 => ?_⟩
            have s5 := same_new (Same.refl H4) (.tup [.int (1 + (j : Int))]) nt1
            refine catA (sqT_same s5 hb4) (SqT.of upd_same) (by rw [List.length_map]; simp; omega) fun t2 H6 s6 ht2 => ?_
            have s46 := s5.trans s6
            refine ⟨l, _, _, rfl, rfl, s46 _ _ h1, small1000 (by rw [List.length_map]; omega), ?_⟩
            have e2 : r.map V.int ++ [V.int (1 + (j : Int))] = (r ++ [(j : Int) + 1]).map V.int := by rw [List.map_append, Int.add_comm]; rfl
            rw [e2] at ht2
            refine ⟨_, cs ++ [t2], rfl, same_updN nl (s4.trans s46), by rw [upd_ne nl2]; exact s46 _ _ h2, by rw [upd_same, List.map_append]; rfl, (hrb.same s46).upd (s46 _ _ h1), ?_, by simp; omega⟩
            rw [← List.append_assoc]
            exact ((hrc.same s46).snoc ht2).upd (s46 _ _ h1)
        rintro σ H4 ⟨v5, cs, rfl, s4, h2, h1, hrb, hrc, hlc⟩
        have := stepTo_len n r n
        exact ⟨_, _, cs, rfl, s4, h2, h1, hrb, hrc, by omega⟩
      rintro σ H3 ⟨v4, v5, cs, rfl, s3, h2, h1, hrb, hrc, hlc⟩
      rw [List.length_map, hrb.1, List.take_length] at hrc
      rw [← slots_succ] at hrc
      exact ⟨_, rfl, k l cs H3 s3 h1 hrc⟩
theorem slots_lvl {m : Nat} {vs : List V} {H : Hp} {Q : VK} {E : XK} (h : spSlots K m vs H Q E) : m + 2 ≤ 6 := by
  obtain ⟨_, _, _, _, m4, _⟩ := h
  omega
end
end EN

/-! groups made into one another -/
namespace EN
def conj (c p : List Int) : List Int := comp (comp c p) (inv c)
def only (n : Nat) (F : List (List Int)) : List (List Int) := (turns n).filter fun p => decide (p ∈ F)
def cj (n : Nat) (c : List Int) (G : List (List Int)) : List (List Int) := only n (G.map (conj c))
theorem mem_only {n : Nat} {F : List (List Int)} {p : List Int} : p ∈ only n F ↔ p ∈ turns n ∧ p ∈ F := by
  unfold only
  rw [List.mem_filter, decide_eq_true_iff]
theorem conj_rp {n : Nat} {c p : List Int} (hc : RP n c) (hp : RP n p) : RP n (conj c p) := (hc.comp hp).comp hc.inv
theorem inv_inv {n : Nat} {c : List Int} (hc : RP n c) : inv (inv c) = c := by
  have h1 : comp (inv (inv c)) (comp (inv c) c) = c := by
    rw [← comp_assoc hc.inv hc, comp_inv_left hc.inv, one_comp hc]
  rw [comp_inv_left hc, comp_one hc.inv.inv] at h1
  exact h1
theorem conj_back {n : Nat} {c p : List Int} (hc : RP n c) (hp : RP n p) : conj (inv c) (conj c p) = p := by
  unfold conj
  rw [inv_inv hc, comp_assoc ((hc.comp hp).comp hc.inv) hc, comp_assoc hc.inv hc, comp_inv_left hc, comp_one (hc.comp hp), ← comp_assoc hc hp, comp_inv_left hc, one_comp hp]
theorem only_map {n : Nat} {F : List (List Int)} : only n (only n F) = only n F := by
  unfold only
  refine List.filter_congr fun p hp => ?_
  rw [Bool.eq_iff_iff, decide_eq_true_iff, decide_eq_true_iff, List.mem_filter, decide_eq_true_iff]
  exact ⟨fun h => h.2, fun h => ⟨hp, h⟩⟩
theorem only_congr {n : Nat} {F G : List (List Int)} (h : ∀ p ∈ turns n, p ∈ F ↔ p ∈ G) : only n F = only n G := by
  unfold only
  exact List.filter_congr fun p hp => by rw [Bool.eq_iff_iff, decide_eq_true_iff, decide_eq_true_iff]; exact h p hp
open Classical in
theorem grp_only {n : Nat} (h4 : n ≤ 4) {R : List (List Int)} : only n (grp n R) = grp n R := by
  unfold only
  conv => rhs; unfold grp
  refine List.filter_congr fun p hp => ?_
  rw [Bool.eq_iff_iff, decide_eq_true_iff, decide_eq_true_iff]
  unfold grp
  rw [List.mem_filter, decide_eq_true_iff]
  exact ⟨fun h => h.2, fun h => ⟨hp, h⟩⟩
theorem cj_only {n : Nat} {c : List Int} {G : List (List Int)} : only n (cj n c G) = cj n c G := only_map
theorem cj_back {n : Nat} (h4 : n ≤ 4) {c : List Int} (hc : RP n c) {G : List (List Int)} (hG : only n G = G) : cj n (inv c) (cj n c G) = G := by
  conv => rhs; rw [← hG]
  refine only_congr fun p hp => ?_
  have rp := turn_rp h4 p hp
  rw [List.mem_map]
  constructor
  · rintro ⟨q, hq, rfl⟩
    obtain ⟨r, hr, rfl⟩ := List.mem_map.mp (mem_only.mp hq).2
    rw [← hG] at hr
    have h1 := mem_only.mp hr
    rw [conj_back hc (turn_rp h4 _ h1.1)]
    exact h1.2
  · intro h
    exact ⟨conj c p, mem_only.mpr ⟨(conj_rp hc rp).turn h4, List.mem_map.mpr ⟨p, h, rfl⟩⟩, conj_back hc rp⟩
def firstC (n : Nat) (A B : List (List Int)) : Option (List Int) := (turns n).find? fun c => decide (cj n c A = B)
theorem firstC_none {n : Nat} {A B : List (List Int)} : firstC n A B = none ↔ ∀ c ∈ turns n, cj n c A ≠ B := by
  unfold firstC
  rw [List.find?_eq_none]
  constructor
  · intro h c hc e
    exact h c hc (decide_eq_true e)
  · intro h c hc e
    exact h c hc (of_decide_eq_true e)
theorem both_none {n : Nat} (h4 : n ≤ 4) {A B : List (List Int)} (hA : only n A = A) (hB : only n B = B) : firstC n A B = none ↔ firstC n B A = none := by
  rw [firstC_none, firstC_none]
  constructor
  · intro h c hc e
    exact h (inv c) ((turn_rp h4 c hc).inv.turn h4) (by rw [← e]; exact cj_back h4 (turn_rp h4 c hc) hB)
  · intro h c hc e
    exact h (inv c) ((turn_rp h4 c hc).inv.turn h4) (by rw [← e]; exact cj_back h4 (turn_rp h4 c hc) hA)
theorem find_head {α : Type} (t : α → Bool) : ∀ l : List α, l.find? t = (l.filter t)[0]?
  | [] => rfl
  | a :: l => by
    cases h : t a with
    | true => rw [List.find?_cons_of_pos h, List.filter_cons, if_pos h]; rfl
    | false => rw [List.find?_cons_of_neg (by rw [h]; exact Bool.false_ne_true), List.filter_cons, if_neg (by rw [h]; exact Bool.false_ne_true)]; exact find_head t l
theorem firstC_head (n : Nat) (A B : List (List Int)) : firstC n A B = ((turns n).filter fun c => decide (cj n c A = B))[0]? := find_head _ _
theorem firstC_some {n : Nat} {A B : List (List Int)} {c : List Int} (h : firstC n A B = some c) : c ∈ turns n ∧ cj n c A = B := by
  unfold firstC at h
  have h2 := List.find?_some h
  exact ⟨List.mem_of_find?_eq_some h, of_decide_eq_true h2⟩
theorem find_at {α : Type} (t : α → Bool) : ∀ (l : List α) (i : Nat) (x : α), l[i]? = some x → t x = true → (∀ (j : Nat) (y : α), j < i → l[j]? = some y → t y = false) → l.find? t = some x
  | [], i, x, h, _, _ => by simp at h
  | a :: l, i, x, h, hx, hn => by
    cases i with
    | zero => cases h; exact List.find?_cons_of_pos hx
    | succ i => rw [List.find?_cons_of_neg (by rw [hn 0 a (by omega) rfl]; exact Bool.false_ne_true)]; exact find_at t l i x h hx fun j y hj hy => hn (j + 1) y (by omega) hy
theorem firstC_at {n : Nat} {A B : List (List Int)} {i : Nat} {r : List Int} (h : (turns n)[i]? = some r) (e : cj n r A = B) (no : ∀ (j : Nat) (c : List Int), j < i → (turns n)[j]? = some c → cj n c A ≠ B) : firstC n A B = some r :=
  find_at _ _ i r h (decide_eq_true e) fun j y hj hy => decide_eq_false (no j y hj hy)
theorem conj_in {n : Nat} (h4 : n ≤ 4) {A B : List (List Int)} {c p : List Int} (h : cj n c A = B) (hc : RP n c) (hp : RP n p) (hm : p ∈ A) : conj c p ∈ B := by
  rw [← h]
  exact mem_only.mpr ⟨(conj_rp hc hp).turn h4, List.mem_map.mpr ⟨p, hm, rfl⟩⟩
theorem conj_nodup {n : Nat} {c : List Int} (hc : RP n c) : ∀ {G : List (List Int)}, (∀ p ∈ G, RP n p) → G.Nodup → (G.map (conj c)).Nodup := by
  intro G hG nd
  rw [List.nodup_iff_pairwise_ne, List.pairwise_map]
  refine List.Pairwise.imp_of_mem ?_ (List.nodup_iff_pairwise_ne.mp nd)
  intro a b ha hb ne e
  refine ne ?_
  rw [← conj_back hc (hG a ha), ← conj_back hc (hG b hb), e]
theorem only_nodup {n : Nat} (h4 : n ≤ 4) (F : List (List Int)) : (only n F).Nodup := (turns_nodup h4).filter _
theorem only_rp {n : Nat} (h4 : n ≤ 4) {F : List (List Int)} : ∀ p ∈ only n F, RP n p := fun p hp => turn_rp h4 p (mem_only.mp hp).1
theorem only_len {n : Nat} (h4 : n ≤ 4) (F : List (List Int)) : (only n F).length ≤ 24 := Nat.le_trans (List.length_filter_le _ _) (turns_len h4)
theorem cj_pos {n : Nat} (h4 : n ≤ 4) {c : List Int} (hc : RP n c) {G : List (List Int)} (hG : ∀ p ∈ G, RP n p) (h : 0 < G.length) : 0 < (cj n c G).length := by
  obtain ⟨p, G', rfl⟩ := List.exists_cons_of_length_pos h
  have h1 : conj c p ∈ cj n c (p :: G') := mem_only.mpr ⟨(conj_rp hc (hG p (by simp))).turn h4, List.mem_map.mpr ⟨p, by simp, rfl⟩⟩
  exact List.length_pos_of_mem h1
theorem grp_pos {n : Nat} (h4 : n ≤ 4) {R : List (List Int)} (hR : ∀ r ∈ R, RP n r) : 0 < (grp n R).length := List.length_pos_of_mem ((mem_grp h4 hR).mpr .one)
/-! ### the plain way of the law -/
def mkRow (c p : List Int) (n : Nat) : Nat → List Int
  | 0 => List.replicate n 0
  | j + 1 => (mkRow c p n j).set (c.getD j 0).toNat (c.getD (p.getD j 0).toNat 0)
theorem mkRow_len (c p : List Int) (n : Nat) : ∀ j, (mkRow c p n j).length = n
  | 0 => by simp [mkRow]
  | j + 1 => by rw [mkRow, List.length_set, mkRow_len c p n j]
theorem mkRow_conj {n : Nat} (h4 : n ≤ 4) {c p : List Int} (hc : RP n c) (hp : RP n p) : mkRow c p n n = conj c p := by
  have : ∀ n ≤ 4, ∀ c ∈ turns n, ∀ p ∈ turns n, mkRow c p n n = conj c p := by decide +kernel
  exact this n h4 c (hc.turn h4) p (hp.turn h4)
/-! ### some pairs exchanged -/
def swapR (s : List Int) (n : Nat) : Nat → List Int
  | 0 => upto n
  | j + 1 => ((swapR s n j).set (s.getD (2 * j) 0).toNat (s.getD (2 * j + 1) 0)).set (s.getD (2 * j + 1) 0).toNat (s.getD (2 * j) 0)
theorem swapR_len (s : List Int) (n : Nat) : ∀ j, (swapR s n j).length = n
  | 0 => by rw [swapR, upto_len]
  | j + 1 => by rw [swapR, List.length_set, List.length_set, swapR_len s n j]
theorem swapR_rp {n : Nat} (h4 : n ≤ 4) {r : List Int} (hr : RP n r) {e : Nat} (he : e ≤ 2) : RP n (swapR (r.take (2 * e)) n ((r.take (2 * e)).length / 2)) := by
  have : ∀ n ≤ 4, ∀ r ∈ turns n, ∀ e ≤ 2, (swapR (r.take (2 * e)) n ((r.take (2 * e)).length / 2)).Perm (upto n) := by decide +kernel
  exact ⟨swapR_len _ _ _, this n h4 r (hr.turn h4) e he⟩
/-! ### the orders -/
def addTo (n : Nat) (d : List Int) : List (List Int) := ((upto n).filter fun k => !d.contains k).map fun k => d ++ [k]
def orders (n : Nat) : Nat → List (List Int)
  | 0 => [[]]
  | m + 1 => (orders n m).flatMap (addTo n)
theorem orders_turns {n : Nat} (h4 : n ≤ 4) : orders n n = turns n := by
  have : ∀ n ≤ 4, orders n n = turns n := by decide +kernel
  exact this n h4
theorem orders_len {n m : Nat} (h4 : n ≤ 4) (m4 : m ≤ 4) : (orders n m).length ≤ 24 := by
  have : ∀ n ≤ 4, ∀ m ≤ 4, (orders n m).length ≤ 24 := by decide +kernel
  exact this n h4 m m4
theorem orders_el {n m : Nat} (h4 : n ≤ 4) (m4 : m ≤ 4) : ∀ d ∈ orders n m, d.length ≤ 4 := by
  have : ∀ n ≤ 4, ∀ m ≤ 4, ∀ d ∈ orders n m, d.length ≤ 4 := by decide +kernel
  exact this n h4 m m4
end EN

/-! comprehensions with two fors -/
namespace ZK
open PySem L2 PyProof.Rows
theorem lc2_any {J : It} {g : TG} {tt : TT} {wi1 : TI} {g1 : TG} {tt1 : TT} {te : TE} {vs vs1 : List Nat} {σ : L2.St} {H1 : Hp} {D : Addr} {Qd : Hp → Prop} (n : Nat) (Pv : Nat → Hp → Prop) (h0 : Pv 0 (upd H1 D (.lst [])))
    (hgo : ∀ i H, i < n → Pv i H → J.go i H) (hstop : ∀ H, Pv n H → J.stop n H)
    (hs : ∀ i H x H', i < n → Pv i H → J.yld i H x H' → ∀ N : Hp → Prop, (∀ H4, Pv (i + 1) H4 → N H4) → g x (wipe σ vs) H' fun σ2 H2 => wipe σ2 vs = wipe σ vs ∧ tt σ2 H2 fun b H3 =>
      if b = true then wi1 σ2 H3 fun J1 H4 => ∃ W1 : Nat → Nat → Hp → Prop, (∃ m, W1 0 m H4) ∧ ∀ j k H, W1 j k H →
        (J1.stop j H ∧ N H) ∨ (J1.go j H ∧ ∃ Nx1 : Hp → Prop, (∀ H', Nx1 H' → ∃ k', k' < k ∧ W1 (j + 1) k' H') ∧ ∀ x H', J1.yld j H x H' → g1 x (wipe σ2 vs1) H' fun σ3 H5 => wipe σ3 vs1 = wipe σ2 vs1 ∧ tt1 σ3 H5 fun b H6 =>
          if b = true then te σ3 H6 fun y H7 => ∃ acc, H7 D = some (.lst acc) ∧ acc.length < sizeLine ∧ Nx1 (upd H7 D (.lst (acc ++ [y]))) else Nx1 H6)
      else N H3) (hd : ∀ H, Pv n H → Qd H) :
    ∃ W : Nat → Nat → Hp → Prop, (∃ m, W 0 m (upd H1 D (.lst []))) ∧ ∀ i m H, W i m H →
      (J.stop i H ∧ Qd H) ∨ (J.go i H ∧ ∃ Nx : Hp → Prop, (∀ H', Nx H' → ∃ m', m' < m ∧ W (i + 1) m' H') ∧ ∀ x H', J.yld i H x H' → g x (wipe σ vs) H' fun σ2 H2 => wipe σ2 vs = wipe σ vs ∧ tt σ2 H2 fun b H3 =>
        if b = true then wi1 σ2 H3 fun J1 H4 => ∃ W1 : Nat → Nat → Hp → Prop, (∃ m, W1 0 m H4) ∧ ∀ j k H, W1 j k H →
          (J1.stop j H ∧ Nx H) ∨ (J1.go j H ∧ ∃ Nx1 : Hp → Prop, (∀ H', Nx1 H' → ∃ k', k' < k ∧ W1 (j + 1) k' H') ∧ ∀ x H', J1.yld j H x H' → g1 x (wipe σ2 vs1) H' fun σ3 H5 => wipe σ3 vs1 = wipe σ2 vs1 ∧ tt1 σ3 H5 fun b H6 =>
            if b = true then te σ3 H6 fun y H7 => ∃ acc, H7 D = some (.lst acc) ∧ acc.length < sizeLine ∧ Nx1 (upd H7 D (.lst (acc ++ [y]))) else Nx1 H6)
        else Nx H3) := by
  refine ⟨fun i m H => i + m = n ∧ Pv i H, ⟨n, Nat.zero_add _, h0⟩, fun i m H ⟨e, p⟩ => ?_⟩
  by_cases hi : i < n
  · exact .inr ⟨hgo i H hi p, Pv (i + 1), fun H' p' => ⟨m - 1, by omega, by omega, p'⟩, fun x H' y => hs i H x H' hi p y _ fun H4 h => h⟩
  · obtain rfl : i = n := by omega
    exact .inl ⟨hstop H p, hd H p⟩
/-- the inner walk -/
theorem lc2_in {J1 : It} {g1 : TG} {tt1 : TT} {te : TE} {vs1 : List Nat} {σ2 : L2.St} {H4 : Hp} {D : Addr} {N : Hp → Prop} (n : Nat) (Pv : Nat → Hp → Prop) (h0 : Pv 0 H4)
    (hgo : ∀ i H, i < n → Pv i H → J1.go i H) (hstop : ∀ H, Pv n H → J1.stop n H)
    (hs : ∀ i H x H', i < n → Pv i H → J1.yld i H x H' → g1 x (wipe σ2 vs1) H' fun σ3 H5 => wipe σ3 vs1 = wipe σ2 vs1 ∧ tt1 σ3 H5 fun b H6 =>
      if b = true then te σ3 H6 fun y H7 => ∃ acc, H7 D = some (.lst acc) ∧ acc.length < sizeLine ∧ Pv (i + 1) (upd H7 D (.lst (acc ++ [y]))) else Pv (i + 1) H6) (hd : ∀ H, Pv n H → N H) :
    ∃ W1 : Nat → Nat → Hp → Prop, (∃ m, W1 0 m H4) ∧ ∀ j k H, W1 j k H →
      (J1.stop j H ∧ N H) ∨ (J1.go j H ∧ ∃ Nx1 : Hp → Prop, (∀ H', Nx1 H' → ∃ k', k' < k ∧ W1 (j + 1) k' H') ∧ ∀ x H', J1.yld j H x H' → g1 x (wipe σ2 vs1) H' fun σ3 H5 => wipe σ3 vs1 = wipe σ2 vs1 ∧ tt1 σ3 H5 fun b H6 =>
        if b = true then te σ3 H6 fun y H7 => ∃ acc, H7 D = some (.lst acc) ∧ acc.length < sizeLine ∧ Nx1 (upd H7 D (.lst (acc ++ [y]))) else Nx1 H6) := by
  refine ⟨fun i m H => i + m = n ∧ Pv i H, ⟨n, Nat.zero_add _, h0⟩, fun i m H ⟨e, p⟩ => ?_⟩
  by_cases hi : i < n
  · exact .inr ⟨hgo i H hi p, Pv (i + 1), fun H' p' => ⟨m - 1, by omega, by omega, p'⟩, fun x H' y => hs i H x H' hi p y⟩
  · obtain rfl : i = n := by omega
    exact .inl ⟨hstop H p, hd H p⟩
end ZK

namespace EN
open PySem L2 PyProof.Rows
section
variable {P : Program} {w : World} {K : PySem.W.Frag} {mg : Str → Option Value} {base : Heap} {f : Addr} {fd : FuncData}
/-! ### all orders of some slots -/
def addPart (n : Nat) (d : List Int) (j : Nat) : List (List Int) := (((List.range j).map fun k : Nat => (k : Int)).filter fun k => !d.contains k).map fun k => d ++ [k]
theorem addPart_all (n : Nat) (d : List Int) : addPart n d n = addTo n d := rfl
theorem addPart_succ (n : Nat) (d : List Int) (j : Nat) : addPart n d (j + 1) = addPart n d j ++ (if d.contains (j : Int) = true then [] else [d ++ [(j : Int)]]) := by
  unfold addPart
  rw [List.range_succ, List.map_append, List.filter_append, List.map_append]
  congr 1
  by_cases h : d.contains (j : Int) = true
  · rw [if_pos h]
    simp only [List.map_cons, List.map_nil, List.filter_cons, List.filter_nil, h]
    rfl
  · rw [if_neg h]
    have : d.contains (j : Int) = false := Bool.eq_false_iff.mpr h
    simp only [List.map_cons, List.map_nil, List.filter_cons, List.filter_nil, this]
    rfl
theorem addPart_len (n : Nat) (d : List Int) (j : Nat) : (addPart n d j).length ≤ j := by
  unfold addPart
  rw [List.length_map]
  refine Nat.le_trans (List.length_filter_le _ _) ?_
  simp
theorem yesT' {σ : L2.St} {H : Hp} {R : Bool → Hp → Prop} (h : R true H) : tYes σ H R := h
def spOrders (K : PySem.W.Frag) : Sp := fun vs H Q _ => ∃ (a : Addr) (n : Nat), vs = [.ref a, .int (n : Int)] ∧ n ≤ 4 ∧ SqL K H a ((upto n).map V.int) ∧ ∀ (l : Addr) (bs : List Addr) (H' : Hp), Same H H' → H' l = some (.lst (bs.map V.ref)) → RowsAt K H' bs (turns n) → Q (.ref l) H'
abbrev s_orders_of : Stmt := top 6
abbrev N_orders_of : List Str := ["slots", "many", "found", "_", "order", "slot"]
theorem sc_orders_of : FnScope N_orders_of ["slots", "many"] (defScope s_orders_of) := ⟨rfl, rfl, rfl, by decide +kernel, rfl, by decide +kernel, by decide +kernel⟩

theorem ok_orders_of (F : Fun K "orders_of" "orders_of" s_orders_of f fd) (T : Blt mg) : FnOk P w K mg base CX0 1 f fd ["slots", "many"] (spOrders K) := by
  refine F.ok sc_orders_of (fun vs H Q E h => ?_) (fun cdv A outer s H vs Q E hr h => ?_)
  · obtain ⟨_, _, rfl, _⟩ := h
    rfl
  · obtain ⟨a, n, rfl, h4, ha, k⟩ := h
    refine ⟨_, (pss_cons (ps_set (i := 2) sc_orders_of.nd rfl (Or.inl rfl) (pe_lst (pa_cons (pe_tup pa_nil) pa_nil)))
    (pss_cons (ps_for PassesOwn.never rfl (pi_range1 (by rfl) T.range_ (pa_cons (pv 1) pa_nil)) (pg_name (i := 3) sc_orders_of.nd rfl (Or.inl rfl))
      (pss_one (ps_setLc2 (i := 2) (own := [("order", 4), ("slot", 5)]) (vs1 := [5]) (g := gName 4) (g1 := gName 5) (tt := tYes) (by rfl) sc_orders_of.nd rfl rfl (sw_true rfl rfl rfl (by decide +kernel)) (pi_list (pv 2)) (blkOk_by (own := [("order", 4), ("slot", 5)]) (N := N_orders_of) (sc := defScope s_orders_of) (by decide +kernel)) (by decide) (fun _ _ _ _ _ => (pg_name (i := 4) sc_orders_of.nd rfl (by first | exact Or.inl rfl | exact Or.inr rfl))) (fun _ _ _ _ _ => pts_nil) (fun _ _ _ _ _ => (show PI _ _ _ (iList K (tVar 0)) from pi_list (pv 0))) (fun _ _ _ _ _ => (pg_name (i := 5) sc_orders_of.nd rfl (by first | exact Or.inl rfl | exact Or.inr rfl))) (fun _ _ _ _ _ => (pts_one (pt_cmpR (show OpR _ _ (rIn K true) from op_notIn_seq) (pv 5) (pv 4) (by rfl)))) (fun _ _ _ _ _ => (pe_op (show OpR _ _ (rCatA K) from op_catA) (pv 4) (pe_tup (pa_cons (pv 5) pa_nil)))))))
    (pss_one (ps_ret (pv 2))))), ?_⟩
    refine ⟨(by show 0 ≤ sizeLine; decide), fun e ne => ?_⟩
    have se := same_new (Same.refl H) (.tup []) ne
    have he : SqT K (L2.upd H e (.tup [])) e (([] : List Int).map V.int) := SqT.of upd_same
    generalize L2.upd H e (.tup []) = H1 at se he ⊢
    refine ⟨(by show 1 ≤ sizeLine; decide), fun l0 nl0 => ?_⟩
    have s0 := same_new (Same.refl H1) (.lst [.ref e]) nl0
    have hl0 : (L2.upd H1 l0 (.lst [.ref e])) l0 = some (.lst ([e].map V.ref)) := upd_same
    have he2 := sqT_same s0 he
    generalize L2.upd H1 l0 (.lst [.ref e]) = H2 at s0 hl0 he2 ⊢
    have s02 := se.trans s0
    refine ⟨_, rfl, (n : Int), rfl, by omega, by omega, ?_⟩
    rw [Int.toNat_natCast]
    refine for_range (lo := 0) (n := n) (fun j σ H' => ∃ (l : Addr) (bs : List Addr) (v3 : Option V), σ = [some (.ref a), some (.int (n : Int)), some (.ref l), v3, none, none] ∧ Same H H' ∧ H' l = some (.lst (bs.map V.ref)) ∧ RowsAt K H' bs (orders n j)) ⟨l0, [e], none, rfl, s02, hl0, rfl, fun i b r h1 h2 => ?_⟩ ?_ ?_
    · cases i with
      | zero => cases h1; cases h2; exact he2
      | succ i => cases h1
    · rintro j σ H3 hj ⟨l, bs, v3, rfl, s3, hl, hb⟩
      have ol := orders_len h4 (by omega : j ≤ 4)
      refine ⟨_, rfl, l, rfl, ⟨_, SqL.of hl⟩, fun D hD => ?_⟩
      have nlD : l ≠ D := fun z => by rw [z, hD] at hl; cases hl
      refine ZK.lc2_any (orders n j).length (fun i H' => ∃ cs : List Addr, Same H3 H' ∧ H' D = some (.lst (cs.map V.ref)) ∧ RowsAt K H' cs (((orders n j).take i).flatMap (addTo n)) ∧ cs.length ≤ 4 * i) ⟨[], same_new (Same.refl _) _ hD, upd_same, ⟨rfl, fun i b r h1 => by simp at h1⟩, Nat.zero_le _⟩ ?_ ?_ ?_ ?_
      · rintro i H4 hi ⟨cs, s4, _⟩
        obtain ⟨b, r, eb, _⟩ := hb.get hi
        exact ⟨bs.map V.ref, .ref b, SqL.of (s4 _ _ hl), by rw [List.getElem?_map, eb]; rfl⟩
      · rintro H4 ⟨cs, s4, _⟩
        exact ⟨bs.map V.ref, SqL.of (s4 _ _ hl), by rw [List.length_map, hb.1]; exact Nat.le_refl _⟩
      · rintro i H4' x H4 hi ⟨cs, s4, hD4, hc, lc⟩ ⟨rfl, hx⟩ N hN
        have hx2 := hx _ (SqL.of (s4 _ _ hl))
        obtain ⟨b, r, eb, er, hbr⟩ := hb.get hi
        rw [List.getElem?_map, eb] at hx2
        cases hx2
        have hrl : r.length ≤ 4 := orders_el h4 (by omega) r (List.mem_of_getElem? er)
        have ht : ((orders n j).take (i + 1)).flatMap (addTo n) = (((orders n j).take i).flatMap (addTo n)) ++ addPart n r n := by
          rw [List.take_succ, er, List.flatMap_append, addPart_all]
          simp
        rw [ht] at hN
        generalize (((orders n j).take i).flatMap (addTo n)) = A0 at hc hN
        refine ⟨rfl, yesT' (iteT ?_)⟩
        refine ⟨_, rfl, a, rfl, ⟨_, (s3.trans s4).seq ha⟩, ?_⟩
        refine ZK.lc2_in n (fun k H' => ∃ cs : List Addr, Same H3 H' ∧ H' D = some (.lst (cs.map V.ref)) ∧ RowsAt K H' cs (A0 ++ addPart n r k) ∧ cs.length ≤ 4 * i + k) ⟨cs, s4, hD4, by rw [show addPart n r 0 = [] from rfl, List.append_nil]; exact hc, by omega⟩ ?_ ?_ ?_ ?_
        · rintro k H5 hk ⟨cs, s5, _⟩
          exact ⟨_, .int (k : Int), (s3.trans s5).seq ha, by rw [List.getElem?_map, upto_get hk]; rfl⟩
        · rintro H5 ⟨cs, s5, _⟩
          exact ⟨_, (s3.trans s5).seq ha, by rw [List.length_map, upto_len]; exact Nat.le_refl _⟩
        · rintro k H5' y H5 hk ⟨cs, s5, hD5, hc5, lc5⟩ ⟨rfl, hy⟩
          have hy2 := hy _ ((s3.trans s5).seq ha)
          rw [List.getElem?_map, upto_get hk] at hy2
          cases hy2
          have hb5 := sqT_same s5 hbr
          have ec : (!inV (V.int (k : Int)) (r.map V.int)) = !r.contains (k : Int) := by rw [inV_ints]
          rw [addPart_succ]
          by_cases hc : r.contains (k : Int) = true
          · rw [if_pos hc, List.append_nil]
            rw [hc] at ec
            exact ⟨rfl, _, rfl, _, rfl, b, _, rfl, .inr hb5, rfl, flat_ints r, false, congrArg V.bl ec, iteF ⟨cs, s5, hD5, hc5, by omega⟩⟩
          · rw [if_neg hc]
            rw [Bool.eq_false_iff.mpr hc] at ec
            refine ⟨rfl, _, rfl, _, rfl, b, _, rfl, .inr hb5, rfl, flat_ints r, true, congrArg V.bl ec, iteT ?_⟩
            refine ⟨_, rfl, _, rfl, (by show 1 ≤ sizeLine; decide), fun t1 nt1 => ?_⟩
            have s6 := same_new (Same.refl H5) (.tup [.int (k : Int)]) nt1
            refine catA (sqT_same s6 hb5) (SqT.of upd_same) (by rw [List.length_map]; simp; omega) fun t2 H7 s7 ht2 => ?_
            have s57 := s6.trans s7
            have e2 : r.map V.int ++ [V.int (k : Int)] = (r ++ [(k : Int)]).map V.int := by rw [List.map_append]; rfl
            rw [e2] at ht2
            refine ⟨cs.map V.ref, s57 _ _ hD5, small1000 (by rw [List.length_map]; omega), cs ++ [t2], same_updN hD (s5.trans s57), by rw [upd_same, List.map_append]; rfl, ?_, by simp; omega⟩
            rw [← List.append_assoc]
            exact ((hc5.same s57).snoc ht2).upd (s57 _ _ hD5)
        · rintro H5 ⟨cs, s5, hD5, hc5, lc5⟩
          have := addPart_len n r n
          exact hN _ ⟨cs, s5, hD5, hc5, by omega⟩
      · rintro H4 ⟨cs, s4, hD4, hc4, _⟩
        rw [List.take_length] at hc4
        exact ⟨D, cs, _, rfl, s3.trans s4, hD4, hc4⟩
    rintro σ H3 ⟨l, bs, v3, rfl, s3, hl, hb⟩
    rw [orders_turns h4] at hb
    exact ⟨_, rfl, k l bs H3 s3 hl hb⟩
end
end EN

namespace EN
open PySem L2 PyProof.Rows
section
variable {P : Program} {w : World} {K : PySem.W.Frag} {mg : Str → Option Value} {base : Heap} {f : Addr} {fd : FuncData}
/-! ### turns -/
def spTurns (K : PySem.W.Frag) : Sp := fun vs H Q _ => ∃ (n : Nat), vs = [.int (n : Int)] ∧ n ≤ 4 ∧ ∀ (l : Addr) (bs : List Addr) (H' : Hp), Same H H' → H' l = some (.lst (bs.map V.ref)) → RowsAt K H' bs (turns n) → Q (.ref l) H'
abbrev s_turns : Stmt := top 25
abbrev N_turns : List Str := ["_law_size", "_law_done", "_law_each"]
theorem sc_turns : FnScope N_turns ["_law_size"] (defScope s_turns) := ⟨rfl, rfl, rfl, by decide +kernel, rfl, by decide +kernel, by decide +kernel⟩

theorem ok_turns (F : Fun K "_law_turns" "_law_turns" s_turns f fd) (T : Blt mg) (G_slots : Has P w K mg base 6 "_law_slots" ["_law_n", "_law_spare", "_law_many"] (fun vs H Q E => ∃ m, spSlots K m vs H Q E)) : FnOk P w K mg base CX0 7 f fd ["_law_size"] (spTurns K) := by
  refine F.ok sc_turns (fun vs H Q E h => ?_) (fun cdv A outer s H vs Q E hr h => ?_)
  · obtain ⟨_, rfl, _⟩ := h
    rfl
  · obtain ⟨n, rfl, h4, k⟩ := h
    refine ⟨_, (pss_one (ps_ret (pe_lc (own := [("_law_done", 1)]) (g := gName 1) (tt := tYes) (by rfl) sc_turns.nd (pi_list (pe_has G_slots (hr.mono (by decide)) (pa_cons (pv 0) (pa_cons (pe_tup pa_nil) (pa_cons (pv 0) pa_nil))))) (blkOk_by (own := [("_law_done", 1)]) (N := N_turns) (sc := defScope s_turns) (by decide +kernel)) (fun _ _ _ _ _ => (pg_name (i := 1) sc_turns.nd rfl (by first | exact Or.inl rfl | exact Or.inr rfl))) (fun _ _ _ _ _ => pts_nil) (fun _ _ _ _ _ => (pe_callTy (show CallR _ _ (rTupQ K) from c_tuple) (by rfl) T.tuple_ (by decide +kernel) (pa_cons (pe_lc (own := [("_law_each", 2)]) (g := gName 2) (tt := tYes) (by rfl) sc_turns.nd (show PI _ _ _ (iTup K (tVar 1)) from pi_tup (pv 1)) (blkOk_by (own := [("_law_each", 2)]) (N := N_turns) (sc := relab { kind := .function, names := [(".0", .local), ("_law_done", .local), ("tuple", .globalImplicit)], isGenerator := false, isCoroutine := false } (defScope s_turns)) (by decide +kernel)) (fun _ _ _ _ _ => (pg_name (i := 2) sc_turns.nd rfl (by first | exact Or.inl rfl | exact Or.inr rfl))) (fun _ _ _ _ _ => pts_nil) (fun _ _ _ _ _ => (pe_op op_sub (pv 2) pe_int))) pa_nil)))))), ?_⟩
    refine ⟨_, rfl, (by show 0 ≤ sizeLine; decide), fun e ne => ⟨_, rfl, n, n, e, rfl, h4, h4, SqT.of upd_same, fun l bs H2 s2 hl hrw => ⟨l, rfl, ⟨_, SqL.of hl⟩, fun D hD => ?_⟩⟩⟩
    have s02 := (same_new (Same.refl H) (.tup []) ne).trans s2
    have sl := slots_len h4 h4
    refine ZK.lc_growL (K := K) (a := l) (xs := bs.map V.ref) (small1000 (by rw [List.length_map, hrw.1]; omega)) (fun i H' => Same H2 H' ∧ ∃ acc, H' D = some (.lst acc) ∧ acc.length = i ∧ ∀ (j : Nat) (y : V), acc[j]? = some y → ∃ b, y = .ref b ∧ ∀ r : List Int, (turns n)[j]? = some r → SqT K H' b (r.map V.int)) (fun _ _ => True) ⟨same_new (Same.refl _) _ hD, [], upd_same, rfl, fun j y h => by simp at h⟩ (fun i H' s' => s'.1.seq (SqL.of hl)) ?_ ?_
    · intro i x H3 acc hx hP hacc hal hR Qn hq
      obtain ⟨s3, acc2, hacc2, hal2, hrf⟩ := hP
      rw [hacc] at hacc2
      cases hacc2
      have hi : i < (slots n n).length := by
        have := (List.getElem?_eq_some_iff.mp hx).1
        rwa [List.length_map, hrw.1] at this
      obtain ⟨b, r, eb, er, hb⟩ := hrw.get hi
      rw [List.getElem?_map, eb] at hx
      cases hx
      have hb3 := sqT_same s3 hb
      have hrl : r.length ≤ 4 := slots_el h4 h4 r (List.mem_of_getElem? er)
      have et : (turns n)[i]? = some (r.map (· - 1)) := by
        unfold turns
        rw [List.getElem?_map, er]
        rfl
      refine ⟨rfl, _, rfl, b, rfl, ⟨_, hb3⟩, fun D2 hD2 => ?_⟩
      refine ZK.lc_growT (K := K) (a := b) (xs := r.map V.int) (small1000 (by rw [List.length_map]; omega)) (fun _ H' => Same H3 H') (fun i y => y = .int (r.getD i 0 - 1)) (same_new (Same.refl _) _ hD2) (fun i H' s' => sqT_same s' hb3) ?_ ?_
      · intro j y H4 acc4 hy s4 hacc4 hal4 hR4 Qn4 hq4
        obtain ⟨hj, rfl⟩ := int_at hy
        exact ⟨rfl, _, rfl, _, _, rfl, rfl, hq4 _ _ rfl hacc4 (same_but_new s4 hD2)⟩
      intro H4 acc4 s4 hacc4 hal4 hR4
      have e4 := ZK.eq_map hal4 hR4
      rw [List.length_map, range_ints2 r fun x => x - 1] at e4
      rw [e4] at hacc4
      refine ⟨D2, _, rfl, .inl ⟨SqL.of hacc4, fun t nt => ?_⟩⟩
      have s5 := s4.trans (same_new (Same.refl _) (.tup ((r.map (· - 1)).map V.int)) nt)
      have ht : (L2.upd H4 t (.tup ((r.map (· - 1)).map V.int))) t = some (.tup ((r.map (· - 1)).map V.int)) := upd_same
      generalize L2.upd H4 t (.tup ((r.map (· - 1)).map V.int)) = H5 at s5 ht ⊢
      have hD5 := s5 _ _ hacc
      refine hq _ _ trivial hD5 ⟨same_but_new (s3.trans s5) hD, acc ++ [.ref t], upd_same, by simp [hal], fun j y hy => ?_⟩
      have keep : ∀ (c : Addr) (ys : List V), SqT K H5 c ys → SqT K (L2.upd H5 D (.lst (acc ++ [.ref t]))) c ys := fun c ys h => sqT_updL h hD5
      by_cases hj : j < acc.length
      · rw [List.getElem?_append_left hj] at hy
        obtain ⟨c, ec, hc⟩ := hrf j y hy
        exact ⟨c, ec, fun q hq2 => keep _ _ (sqT_same s5 (hc q hq2))⟩
      · have hj2 : j = acc.length := by
          have := (List.getElem?_eq_some_iff.mp hy).1
          simp at this
          omega
        subst hj2
        rw [List.getElem?_append_right (Nat.le_refl _)] at hy
        simp at hy
        subst hy
        refine ⟨t, rfl, fun q hq2 => ?_⟩
        rw [hal, et] at hq2
        cases hq2
        exact keep _ _ (SqT.of ht)
    intro H3 acc hP hacc hal _
    obtain ⟨s3, acc2, hacc2, hal2, hrf⟩ := hP
    rw [hacc] at hacc2
    cases hacc2
    obtain ⟨ea, hP2⟩ := refs_of hrf
    rw [ea] at hacc
    refine k D (acc.map refOf) H3 (s02.trans s3) hacc ⟨?_, fun i b r e1 e2 => hP2 i b e1 r e2⟩
    rw [List.length_map, hal, List.length_map, hrw.1]
    unfold turns
    rw [List.length_map]
end
end EN

namespace EN
open PySem L2 PyProof.Rows
section
variable {P : Program} {w : World} {K : PySem.W.Frag} {mg : Str → Option Value} {base : Heap} {f : Addr} {fd : FuncData}
/-! ### closed -/
theorem r65 {k : Nat} {A : Around} (r : Room k A) : A.units + 65 < cLine := by have := r.un; omega
def rowD (r : List Int) : PyData := .tuple (r.map PyData.int)
theorem rows_dp {H : Hp} : ∀ {bs : List Addr} {F : List (List Int)}, RowsAt K H bs F → DpAll K H (bs.map V.ref) (F.map rowD)
  | [], [], _ => .nil
  | [], _ :: _, h => nomatch h.1
  | _ :: _, [], h => nomatch h.1
  | b :: bs, r :: F, h => .cons (dp_tup (h.2 0 b r rfl rfl)) (rows_dp ⟨Nat.succ.inj h.1, fun i c q e1 e2 => h.2 (i + 1) c q e1 e2⟩)
theorem lay_row (r : List Int) : PyData.canLay0 (rowD r) = true ∧ PyData.depth (rowD r) ≤ 1 := by
  constructor <;> simp [rowD, PyData.canLay0, PyData.depth, PySem.W.ke_canLayAll0, PySem.W.ke_depthAll]
theorem lay_rows : ∀ F : List (List Int), PyData.canLayAll0 (F.map rowD) = true ∧ PyData.depthAll (F.map rowD) ≤ 1
  | [] => ⟨by simp [PyData.canLayAll0], by simp [PyData.depthAll]⟩
  | r :: F => by
    obtain ⟨h1, h2⟩ := lay_rows F
    obtain ⟨g1, g2⟩ := lay_row r
    exact ⟨by simp [PyData.canLayAll0, h1, g1], by simp [PyData.depthAll]; omega⟩
theorem shaped_rows (F : List (List Int)) : SeqAt.shaped (.list (F.map rowD)) = true := by
  obtain ⟨h1, h2⟩ := lay_rows F
  unfold SeqAt.shaped
  rw [PyData.canLay0, h1, PyData.depth, decide_eq_true (by omega)]
  rfl
theorem shaped_trows (F : List (List Int)) : SeqAt.shaped (.tuple (F.map rowD)) = true := by
  obtain ⟨h1, h2⟩ := lay_rows F
  unfold SeqAt.shaped
  rw [PyData.canLay0, h1, PyData.depth, decide_eq_true (by omega)]
  rfl
theorem any_rows (F : List (List Int)) (r : List Int) : ((F.map rowD).any fun z => PyData.eqv z (rowD r)) = decide (r ∈ F) := by
  rw [List.any_map, Bool.eq_iff_iff, List.any_eq_true, decide_eq_true_iff]
  constructor
  · rintro ⟨q, hq, e⟩
    have e2 : PyData.eqv (rowD q) (rowD r) = true := e
    unfold rowD at e2
    rw [eqv_tup, decide_eq_true_iff] at e2
    rw [← e2]
    exact hq
  · intro h
    refine ⟨r, h, ?_⟩
    show PyData.eqv (rowD r) (rowD r) = true
    unfold rowD
    rw [eqv_tup]
    simp
theorem eqvAll_rows : ∀ F G : List (List Int), PyData.eqvAll (F.map rowD) (G.map rowD) = decide (F = G)
  | [], [] => by simp [PyData.eqvAll]
  | [], _ :: _ => by simp [PyData.eqvAll]
  | _ :: _, [] => by simp [PyData.eqvAll]
  | a :: F, b :: G => by
    have h1 := eqvAll_rows F G
    have h2 : PyData.eqv (rowD a) (rowD b) = decide (a = b) := eqv_tup a b
    rw [List.map_cons, List.map_cons, PyData.eqvAll, h1, h2]
    by_cases e1 : a = b <;> by_cases e2 : F = G <;> simp [e1, e2]
end
end EN

namespace EN
open PySem L2 PyProof.Rows
section
variable {P : Program} {w : World} {K : PySem.W.Frag} {mg : Str → Option Value} {base : Heap} {f : Addr} {fd : FuncData}
/-! ### a group carried by a renumbering -/
theorem rp_at {n : Nat} {p : List Int} (h : RP n p) {i : Nat} (hi : i < n) : ∃ x : Nat, x < n ∧ p.getD i 0 = (x : Int) ∧ (p.map V.int)[i]? = some (.int (x : Int)) := by
  have hl : i < p.length := by rw [h.1]; exact hi
  have hg := get_int (r := p) hl
  have hm := h.mem.mp (List.mem_of_getElem? hg.2)
  refine ⟨(p.getD i 0).toNat, by omega, by omega, ?_⟩
  rw [show (((p.getD i 0).toNat : Nat) : Int) = p.getD i 0 by omega]
  exact hg.1
theorem reps (n : Nat) : (List.replicate n [V.int 0]).flatten = (List.replicate n (0 : Int)).map V.int := by
  induction n with
  | zero => rfl
  | succ n ih => rw [List.replicate_succ, List.flatten_cons, ih, List.replicate_succ, List.map_cons]; rfl
def spCarried (K : PySem.W.Frag) : Sp := fun vs H Q _ => ∃ (n : Nat) (a c : Addr) (cs : List Addr) (G : List (List Int)) (p : List Int), vs = [.int (n : Int), .ref a, .ref c] ∧ n ≤ 4 ∧ SqT K H a (cs.map V.ref) ∧ RowsAt K H cs G ∧ G.length ≤ 24 ∧ (∀ r ∈ G, RP n r) ∧ SqT K H c (p.map V.int) ∧ RP n p ∧
  ∀ (t : Addr) (ds : List Addr) (H' : Hp), Same H H' → SqT K H' t (ds.map V.ref) → RowsAt K H' ds (cj n p G) → Q (.ref t) H'
abbrev s_carried : Stmt := top 27
abbrev N_carried : List Str := ["_law_size", "_law_group", "_law_c", "_law_found", "_law_p", "_law_made", "_law_at", "_law_each"]
theorem sc_carried : FnScope N_carried ["_law_size", "_law_group", "_law_c"] (defScope s_carried) := ⟨rfl, rfl, rfl, by decide +kernel, rfl, by decide +kernel, by decide +kernel⟩

theorem ok_carried (F : Fun K "_law_carried" "_law_carried" s_carried f fd) (T : Blt mg) (G_turns : Has P w K mg base 7 "_law_turns" ["_law_size"] (spTurns K)) : FnOk P w K mg base CX0 8 f fd ["_law_size", "_law_group", "_law_c"] (spCarried K) := by
  refine F.ok sc_carried (fun vs H Q E h => ?_) (fun cdv A outer s H vs Q E hr h => ?_)
  · obtain ⟨_, _, _, _, _, _, rfl, _⟩ := h
    rfl
  · obtain ⟨n, a, c, gs, G, p, rfl, h4, ha, hG, lG, hGP, hc, hp, k⟩ := h
    refine ⟨_, (pss_cons (ps_set (i := 3) sc_carried.nd rfl (Or.inr rfl) (pe_lst pa_nil))
    (pss_cons (ps_for PassesOwn.never rfl (pi_tup (pv 1)) (pg_name (i := 4) sc_carried.nd rfl (Or.inl rfl))
      (pss_cons (ps_set (i := 5) sc_carried.nd rfl (Or.inl rfl) (pe_op op_rep (pe_lst (pa_cons pe_int pa_nil)) (pv 0)))
      (pss_cons (ps_for PassesOwn.never rfl (pi_range1 (by rfl) T.range_ (pa_cons (pv 0) pa_nil)) (pg_name (i := 6) sc_carried.nd rfl (Or.inl rfl))
        (pss_one (ps_asg (pe_ix (show IxR _ (rIxT K) from ix_tup) (pv 2) (pe_ix (show IxR _ (rIxT K) from ix_tup) (pv 4) (pv 6) (fun _ _ => rfl)) (fun _ _ => rfl)) (pg_sub (pv 5) (pe_ix (show IxR _ (rIxT K) from ix_tup) (pv 2) (pv 6) (fun _ _ => rfl)) set_list))))
      (pss_one (ps_expr (pe_bm PySem.F.plainAttrs_list PySem.F.slot_list_append PySem.F.type_list_append mt_append (pv 3) (pa_cons (pe_callTy (show CallR _ _ (rTupQ K) from c_tuple) (by rfl) T.tuple_ (by decide +kernel) (pa_cons (pv 5) pa_nil)) pa_nil)))))))
    (pss_one (ps_ret (pe_callTy (show CallR _ _ (rTupQ K) from c_tuple) (by rfl) T.tuple_ (by decide +kernel) (pa_cons (pe_lc (own := [("_law_each", 7)]) (g := gName 7) (by rfl) sc_carried.nd (pi_list (pe_has G_turns (hr.mono (by decide)) (pa_cons (pv 0) pa_nil))) (blkOk_by (own := [("_law_each", 7)]) (N := N_carried) (sc := defScope s_carried) (by decide +kernel)) (fun _ _ _ _ _ => (pg_name (i := 7) sc_carried.nd rfl (by first | exact Or.inl rfl | exact Or.inr rfl))) (fun _ _ _ _ _ => (pts_one (pt_cmpR (show OpR _ _ (rInD K) from op_inD (r65 hr)) (pv 7) (pv 3) (by rfl)))) (fun _ _ _ _ _ => (pv 7))) pa_nil)))))), ?_⟩
    refine ⟨(by show 0 ≤ sizeLine; decide), fun l nl => ?_⟩
    have sl := same_new (Same.refl H) (.lst []) nl
    have hl1 : (L2.upd H l (.lst [])) l = some (.lst (([] : List Addr).map V.ref)) := upd_same
    generalize L2.upd H l (.lst []) = H1 at sl hl1 ⊢
    refine ⟨_, rfl, a, rfl, ⟨_, sqT_same sl ha⟩, ?_⟩
    refine for_tup (K := K) (a := a) (xs := gs.map V.ref) (fun i σ H' => ∃ (v4 v5 v6 : Option V) (es : List Addr), σ = [some (.int (n : Int)), some (.ref a), some (.ref c), some (.ref l), v4, v5, v6, none] ∧ Same H H' ∧ H' l = some (.lst (es.map V.ref)) ∧ RowsAt K H' es ((G.take i).map (conj p))) ⟨none, none, none, [], rfl, sl, hl1, rfl, fun i b r h1 => by simp at h1⟩ ?_ ?_ ?_
    · rintro i σ H' hi ⟨v4, v5, v6, es, rfl, s1, _⟩
      exact sqT_same s1 ha
    · rintro i x σ H3 hx ⟨v4, v5, v6, es, rfl, s3, h1, hes⟩
      have hi : i < G.length := by
        have := (List.getElem?_eq_some_iff.mp hx).1
        rwa [List.length_map, hG.1] at this
      obtain ⟨b, r, eb, er, hb⟩ := hG.get hi
      rw [List.getElem?_map, eb] at hx
      cases hx
      have hr1 := hGP r (List.mem_of_getElem? er)
      refine ⟨(by show 1 ≤ sizeLine; decide), fun q nq => ?_⟩
      have s4 := same_new (Same.refl H3) (.lst [.int 0]) nq
      have hq : (L2.upd H3 q (.lst [.int 0])) q = some (.lst [.int 0]) := upd_same
      generalize L2.upd H3 q (.lst [.int 0]) = H4 at s4 hq ⊢
      refine ⟨_, rfl, q, (n : Int), _, rfl, rfl, hq, by omega, by omega, ?_, fun m nm => ?_⟩
      · show 1 * (n : Int).toNat ≤ sizeLine
        have := small1000 (n := n) (by omega)
        omega
      rw [Int.toNat_natCast, reps]
      have s5 := same_new (Same.refl H4) (.lst ((List.replicate n (0 : Int)).map V.int)) nm
      have hm : (L2.upd H4 m (.lst ((List.replicate n (0 : Int)).map V.int))) m = some (.lst ((mkRow p r n 0).map V.int)) := upd_same
      have nm3 : H3 m = none := s4.free nm
      generalize L2.upd H4 m (.lst ((List.replicate n (0 : Int)).map V.int)) = H5 at s5 hm ⊢
      have s35 := s4.trans s5
      have nml : m ≠ l := fun z => by rw [z, h1] at nm3; cases nm3
      refine ⟨_, rfl, (n : Int), rfl, by omega, by omega, ?_⟩
      rw [Int.toNat_natCast]
      refine for_range (lo := 0) (n := n) (fun j σ H' => ∃ (v6 : Option V), σ = [some (.int (n : Int)), some (.ref a), some (.ref c), some (.ref l), some (.ref b), some (.ref m), v6, none] ∧ Same H3 H' ∧ H' m = some (.lst ((mkRow p r n j).map V.int))) ⟨v6, rfl, s35, hm⟩ ?_ ?_
      · rintro j σ H6 hj ⟨v6, rfl, s6, hm6⟩
        obtain ⟨x, hx, ex, gx⟩ := rp_at hr1 hj
        obtain ⟨y, hy, ey, gy⟩ := rp_at hp hx
        obtain ⟨z, hz, ez, gz⟩ := rp_at hp hj
        have hb6 := sqT_same (s3.trans s6) hb
        have hc6 := sqT_same (s3.trans s6) hc
        rw [show (0 : Int) + (j : Int) = (j : Int) by omega]
        refine ⟨_, rfl, _, rfl, _, rfl, b, _, (j : Int), _, rfl, rfl, hb6, atI_nat gx, c, _, (x : Int), _, rfl, rfl, hc6, atI_nat gy, ?_⟩
        refine ⟨_, rfl, _, rfl, _, rfl, c, _, (j : Int), _, rfl, rfl, hc6, atI_nat gz, m, _, (z : Int), z, rfl, rfl, hm6, ?_, ?_⟩
        · rw [List.length_map, mkRow_len]
          unfold ixN
          rw [if_pos (by omega), if_pos (by omega), Int.toNat_natCast]
        refine ⟨_, rfl, same_updN nm3 s6, ?_⟩
        rw [upd_same, mkRow, ez, ex, Int.toNat_natCast, Int.toNat_natCast, ey, List.map_set]
      · rintro σ H6 ⟨v6, rfl, s6, hm6⟩
        rw [mkRow_conj h4 hp hr1] at hm6
        have hl6 := s6 _ _ h1
        refine ⟨_, rfl, .inl ⟨rfl, _, SqL.of hl6⟩, _, rfl, m, _, rfl, .inl ⟨SqL.of hm6, fun t nt => ?_⟩⟩
        have s7 := same_new (Same.refl H6) (.tup ((conj p r).map V.int)) nt
        have ht : SqT K (L2.upd H6 t (.tup ((conj p r).map V.int))) t ((conj p r).map V.int) := SqT.of upd_same
        generalize L2.upd H6 t (.tup ((conj p r).map V.int)) = H7 at s7 ht ⊢
        have s37 := s6.trans s7
        have hl7 := s37 _ _ h1
        have le : es.length ≤ 24 := by rw [hes.1, List.length_map, List.length_take]; omega
        refine ⟨l, _, _, rfl, rfl, hl7, small1000 (by rw [List.length_map]; omega), ?_⟩
        have et : (G.take (i + 1)).map (conj p) = (G.take i).map (conj p) ++ [conj p r] := by
          rw [List.take_succ, er, List.map_append]
          rfl
        rw [et]
        exact ⟨_, _, _, es ++ [t], rfl, same_updN nl (s3.trans s37), by rw [upd_same, List.map_append]; rfl, ((hes.same s37).snoc ht).upd hl7⟩
    rintro σ H6 ⟨v4, v5, v6, es, rfl, s6, hl6, hF⟩
    rw [List.length_map, hG.1, List.take_length] at hF
    have le : es.length ≤ 24 := by rw [hF.1, List.length_map]; exact lG
    have tl := turns_len h4
    refine ⟨_, rfl, n, rfl, h4, fun l2 ts H7 s7 hl2 hrt => ⟨l2, rfl, ⟨_, SqL.of hl2⟩, fun D hD => ?_⟩⟩
    refine ZK.lc_growF (J := Itl K l2) (turns n).length (small1000 (by omega)) (fun i acc H' => Same H7 H' ∧ ∃ es : List Addr, acc = es.map V.ref ∧ RowsAt K H' es (((turns n).take i).filter fun q => decide (q ∈ G.map (conj p)))) ⟨same_new (Same.refl _) _ hD, [], rfl, rfl, fun i b r h1 => by simp at h1⟩ ?_ ?_ ?_ ?_
    · rintro k acc H' hk ⟨s', _⟩
      exact ⟨_, _, s'.seq (SqL.of hl2), List.getElem?_eq_getElem (by rw [List.length_map, hrt.1]; exact hk)⟩
    · rintro acc H' ⟨s', _⟩
      exact ⟨_, s'.seq (SqL.of hl2), by rw [List.length_map, hrt.1]; exact Nat.le_refl _⟩
    · rintro k H8 y H9 acc hk ⟨s8, fs, rfl, hfs⟩ hacc hal ⟨rfl, hy⟩ N hN
      have hyy := hy _ (s8.seq (SqL.of hl2))
      obtain ⟨b, r, eb, er, hb⟩ := hrt.get hk
      rw [List.getElem?_map, eb] at hyy
      cases hyy
      have hb8 := sqT_same s8 hb
      have hl8 := s8 _ _ (s7 _ _ hl6)
      have hF8 := hF.same (s7.trans s8)
      have et : ((turns n).take (k + 1)).filter (fun q => decide (q ∈ G.map (conj p))) = (((turns n).take k).filter fun q => decide (q ∈ G.map (conj p))) ++ (if r ∈ G.map (conj p) then [r] else []) := by
        rw [List.take_succ, er, List.filter_append]
        congr 1
        by_cases h : r ∈ G.map (conj p)
        · rw [if_pos h]; simp only [Option.toList, List.filter_cons, List.filter_nil, decide_eq_true h, if_true]
        · rw [if_neg h]; simp only [Option.toList, List.filter_cons, List.filter_nil, decide_eq_false h, if_false, Bool.false_eq_true]
      generalize hX : G.map (conj p) = X at hF8 et hN hfs
      refine ⟨rfl, _, rfl, _, rfl, rowD r, X.map rowD, dp_tup hb8, .lst (SqL.of hl8) (rows_dp hF8), shaped_tup _, shaped_rows _, _, rfl, ?_⟩
      rw [any_rows]
      by_cases hz : r ∈ X
      · rw [decide_eq_true hz]
        refine iteT ⟨_, rfl, _, hacc, small1000 (by omega), hN _ (fs.map V.ref ++ [.ref b]) ⟨same_but_new s8 hD, fs ++ [b], by rw [List.map_append]; rfl, ?_⟩ upd_same (by simp at hal ⊢; omega)⟩
        rw [et, if_pos hz]
        exact (hfs.snoc hb8).upd hacc
      · rw [decide_eq_false hz]
        refine iteF (hN _ _ ⟨s8, fs, rfl, ?_⟩ hacc (by omega))
        rw [et, if_neg hz, List.append_nil]
        exact hfs
    · rintro H8 acc ⟨s8, fs, rfl, hfs⟩ hacc hal
      rw [List.take_length] at hfs
      refine ⟨D, _, rfl, .inl ⟨SqL.of hacc, fun t nt => ?_⟩⟩
      have s9 := same_new (Same.refl H8) (.tup (fs.map V.ref)) nt
      exact k t fs _ (s6.trans (s7.trans (s8.trans s9))) (SqT.of upd_same) (hfs.same s9)
end
end EN

namespace EN
open PySem L2 PyProof.Rows
section
variable {P : Program} {w : World} {K : PySem.W.Frag} {mg : Str → Option Value} {base : Heap} {f : Addr} {fd : FuncData}
/-- the places of the first i members -/
def PlacesOk (p : List Int) (i : Nat) (kvs : List (Key × V)) : Prop := kvs.length ≤ i ∧ ∀ j k, j < i → p[j]? = some k → valV kvs (.inl k) = some (.int (j : Int))
theorem PlacesOk.put {p : List Int} {i : Nat} {kvs : List (Key × V)} (h : PlacesOk p i kvs) (nd : p.Nodup) {k : Int} (hk : p[i]? = some k) : PlacesOk p (i + 1) (putK kvs (.inl k) (.int (i : Int))) := by
  refine ⟨Nat.le_trans (length_putK _ _ _) (Nat.succ_le_succ h.1), fun j m hj hm => ?_⟩
  rw [valV_put]
  by_cases e : j = i
  · subst e
    rw [hk] at hm
    cases hm
    rw [if_pos rfl]
  · have hne : m ≠ k := fun z => by
      subst z
      obtain ⟨h1, e1⟩ := List.getElem?_eq_some_iff.mp hk
      obtain ⟨h2, e2⟩ := List.getElem?_eq_some_iff.mp hm
      have i1 := nd.idxOf_getElem i h1
      have i2 := nd.idxOf_getElem j h2
      rw [e1] at i1
      rw [e2, i1] at i2
      exact e i2.symm
    rw [if_neg (fun z => hne (Sum.inl.inj z))]
    exact h.2 j m (by omega) hm
abbrev s_inverse_of : Stmt := top 14
abbrev N_inverse_of : List Str := ["p", "places", "k", "number"]
theorem sc_inverse_of : FnScope N_inverse_of ["p"] (defScope s_inverse_of) := ⟨rfl, rfl, rfl, by decide +kernel, rfl, by decide +kernel, by decide +kernel⟩

theorem ok_inverse_of (F : Fun K "inverse_of" "inverse_of" s_inverse_of f fd) (T : Blt mg) : FnOk P w K mg base CX0 1 f fd ["p"] (spInvOf K) := by
  refine F.ok sc_inverse_of (fun vs H Q E h => ?_) (fun cdv A outer s H vs Q E hr h => ?_)
  · obtain ⟨_, _, rfl, _⟩ := h
    rfl
  · obtain ⟨a, p, rfl, ha, hl, rp, k⟩ := h
    have hu := hu_of hr
    refine ⟨_, (pss_cons (ps_set (i := 1) sc_inverse_of.nd rfl (Or.inr rfl) (pe_dc (own := [("k", 2), ("number", 3)]) (g := gTup K 2 (gCons (gName 2) (gCons (gName 3) gNil))) (tt := tYes) (by rfl) sc_inverse_of.nd (ZK.pi_enumK (by rfl) T.enumerate_ (pa_cons (pv 0) pa_nil)) (blkOk_by (own := [("k", 2), ("number", 3)]) (N := N_inverse_of) (sc := defScope s_inverse_of) (by decide +kernel)) (fun _ _ _ _ _ => (pg_tup rfl (pgs_cons (pg_name (i := 2) sc_inverse_of.nd rfl (by first | exact Or.inl rfl | exact Or.inr rfl)) (pgs_cons (pg_name (i := 3) sc_inverse_of.nd rfl (by first | exact Or.inl rfl | exact Or.inr rfl)) pgs_nil)))) (fun _ _ _ _ _ => pts_nil) (fun _ _ _ _ _ => (pv 3)) (fun _ _ _ _ _ => (pv 2))))
    (pss_one (ps_ret (pe_callTy (show CallR _ _ (rTupQ K) from c_tuple) (by rfl) T.tuple_ (by decide +kernel) (pa_cons (pe_lc (own := [("k", 2)]) (g := gName 2) (tt := tYes) (by rfl) sc_inverse_of.nd (pi_range1 (by rfl) T.range_ (pa_cons (pe_callB (show CallR _ _ (rLenQ K) from c_len) (by rfl) T.len_ (by decide +kernel) (pa_cons (pv 0) pa_nil)) pa_nil)) (blkOk_by (own := [("k", 2)]) (N := N_inverse_of) (sc := defScope s_inverse_of) (by decide +kernel)) (fun _ _ _ _ _ => (pg_name (i := 2) sc_inverse_of.nd rfl (by first | exact Or.inl rfl | exact Or.inr rfl))) (fun _ _ _ _ _ => pts_nil) (fun _ _ _ _ _ => (pe_dget hu (pv 1) (pv 2) (fun _ _ => rfl)))) pa_nil))))), ?_⟩
    refine ⟨_, rfl, .t, a, p.map V.int, rfl, ha, fun D hD => ?_⟩
    have lp : (p.map V.int).length = p.length := List.length_map ..
    refine ZK.dc_any (J := ZK.IteK K .t a) p.length (fun i H' => Same H H' ∧ ∃ kvs, H' D = some (.dK kvs) ∧ PlacesOk p i kvs) ⟨same_new (Same.refl _) _ hD, [], upd_same, Nat.le_refl _, fun j _ hj => absurd hj (Nat.not_lt_zero _)⟩ ?_ ?_ ?_ ?_ ?_
    · rintro i H' hi ⟨s', _⟩
      exact ⟨_, _, sqT_same s' ha, List.getElem?_eq_getElem (by rw [lp]; exact hi)⟩
    · rintro H' ⟨s', _⟩
      exact ⟨_, sqT_same s' ha, lp.symm⟩
    · rintro i H1 x H2 hi ⟨s1, kvs, hk, ok⟩ ⟨tt, y, rfl, nt, rfl, hy⟩
      obtain ⟨_, rfl⟩ := int_at (hy _ (sqT_same s1 ha))
      have s2 := same_new s1 (.tup [.int (i : Int), .int (p.getD i 0)]) nt
      have nDt : tt ≠ D := fun z => by rw [z, hk] at nt; cases nt
      refine ⟨tt, _, rfl, SqT.of upd_same, rfl, _, _, rfl, _, _, rfl, rfl, rfl, ?_⟩
      refine ⟨_, rfl, _, rfl, kvs, .inl (p.getD i 0), rfl, by rw [upd_ne nDt.symm]; exact hk, small1000 (by have := ok.1; omega), same_but_new s2 hD, _, upd_same, ok.put rp.nodup (get_int hi).2⟩
    · rintro H1 ⟨s1, kvs, hk, ok⟩
      have ha1 := sqT_same s1 ha
      refine ⟨_, rfl, a, _, rfl, .inr ha1, (p.length : Int), by rw [List.length_map], by omega, by omega, fun D2 hD2 => ?_⟩
      rw [show (p.length : Int).toNat = p.length by omega]
      refine ZK.lc_growR p.length (small1000 (by omega)) (fun _ H' => Same H1 H') (fun i y => y = .int ((p.idxOf (i : Int) : Nat) : Int)) (same_new (Same.refl _) _ hD2) ?_ ?_
      · intro j Hx acc hj sx hacc hal hR Qn hq
        rw [Int.zero_add]
        have hm : (j : Int) ∈ p := rp.mem.mpr ⟨by omega, by omega⟩
        have hx := List.idxOf_lt_length_of_mem hm
        have hg := DGet.k (k := .inl (j : Int)) (sx _ _ hk)
        rw [ok.2 (p.idxOf (j : Int)) j hx (by rw [List.getElem?_eq_getElem hx, List.getElem_idxOf])] at hg
        exact ⟨rfl, _, rfl, _, rfl, D, _, rfl, hg, hq _ _ rfl hacc (same_but_new sx hD2)⟩
      intro H3 acc s3 hacc hal hR
      have e3 := ZK.eq_map hal hR
      have hm3 : H3 D2 = some (.lst ((inv p).map V.int)) := by
        rw [hacc, e3]
        unfold inv
        rw [List.map_map]
        rfl
      exact ⟨D2, _, rfl, .inl ⟨SqL.of hm3, fun t nt => k t _ (same_new (s1.trans s3) _ nt) (SqT.of upd_same)⟩⟩
    · intro x H' R R' imp hg
      obtain ⟨t, xs, e1, hS, hl, y1, r1, e2, y2, r2, e3, e4, h⟩ := hg
      exact ⟨t, xs, e1, hS, hl, y1, r1, e2, y2, r2, e3, e4, imp _ _ h⟩
abbrev s_compose : Stmt := top 15
abbrev N_compose : List Str := ["p", "q"]
theorem sc_compose : FnScope N_compose ["p", "q"] (defScope s_compose) := ⟨rfl, rfl, rfl, by decide +kernel, rfl, by decide +kernel, by decide +kernel⟩

theorem ok_compose {CR : Addr} (F : Fun K "compose" "compose" s_compose f fd) (T : Blt mg) (G_check_renumbering : HasX P w K mg base 3 "check_renumbering" ["row"] (spCheckRen K CR)) (G_check_size : HasX P w K mg base 3 "check_size" ["row", "size"] (spCheckSize K CR)) (G_product_of : Has P w K mg base 1 "product_of" ["p", "q"] (spProduct K)) :
    FnOk P w K mg base (L2.CX P w) 4 f fd ["p", "q"] (spCompose K CR) := by
  refine F.okX sc_compose (fun vs H Q E h => ?_) (fun cdv A outer s H vs Q E hr h => ?_)
  · obtain ⟨_, _, _, _, rfl, _⟩ := h
    rfl
  · obtain ⟨v, u, th, tu, rfl, hv, hu, k1, k2, k3⟩ := h
    refine ⟨_, (pss_cons (ps_expr (pe_hasX G_check_renumbering (passX) (hr.mono (by decide)) (pa_cons (pv 0) pa_nil)))
    (pss_cons (ps_expr (pe_hasX G_check_size (passX) (hr.mono (by decide)) (pa_cons (pv 1) (pa_cons (pe_callB (show CallR _ _ (rLenQ K) from c_len) (by rfl) T.len_ (by decide +kernel) (pa_cons (pv 0) pa_nil)) pa_nil))))
    (pss_one (ps_ret (pe_has G_product_of (hr.mono (by decide)) (pa_cons (pv 0) (pa_cons (pv 1) pa_nil))))))), ?_⟩
    refine ⟨_, rfl, v, th, rfl, hv, ⟨fun good H1 s1 => ?_, fun bad dd H1 s1 _ hd => k1 bad dd H1 s1 hd⟩⟩
    obtain ⟨p, ep, rp⟩ := isRen_iff.mp good
    obtain ⟨a, rfl, ha, hl⟩ := hv.ren ep
    refine ⟨_, rfl, _, rfl, a, _, rfl, .inr (sqT_same s1 ha), u, tu, _, rfl, hu.kp (Kp.of s1), ⟨fun good2 H2 s2 => ?_, fun bad dd H2 s2 _ hd => k2 p ep rp (by rw [List.length_map] at bad; exact bad) dd H2 (s1.trans s2) hd⟩⟩
    rw [List.length_map] at good2
    obtain ⟨q, eq, rq, lq⟩ := good2
    obtain ⟨b, rfl, hb, hl2⟩ := hu.ren eq
    have lq2 : q.length = p.length := by omega
    rw [lq2] at rq
    refine ⟨_, rfl, _, rfl, a, b, p, q, rfl, sqT_same (s1.trans s2) ha, sqT_same (s1.trans s2) hb, hl2, fun x hx => rq.mem.mp hx, fun t H3 s3 ht => k3 p q ep eq rp rq t H3 ((s1.trans s2).trans s3) (SqT.of ht)⟩
abbrev s_inverse : Stmt := top 16
abbrev N_inverse : List Str := ["p"]
theorem sc_inverse : FnScope N_inverse ["p"] (defScope s_inverse) := ⟨rfl, rfl, rfl, by decide +kernel, rfl, by decide +kernel, by decide +kernel⟩

theorem ok_inverse {CR : Addr} (F : Fun K "inverse" "inverse" s_inverse f fd) (T : Blt mg) (G_check_renumbering : HasX P w K mg base 3 "check_renumbering" ["row"] (spCheckRen K CR)) (G_inverse_of : Has P w K mg base 1 "inverse_of" ["p"] (spInvOf K)) :
    FnOk P w K mg base (L2.CX P w) 4 f fd ["p"] (spInverse K CR) := by
  refine F.okX sc_inverse (fun vs H Q E h => ?_) (fun cdv A outer s H vs Q E hr h => ?_)
  · obtain ⟨_, _, rfl, _⟩ := h
    rfl
  · obtain ⟨v, th, rfl, hv, k1, k2⟩ := h
    refine ⟨_, (pss_cons (ps_expr (pe_hasX G_check_renumbering (passX) (hr.mono (by decide)) (pa_cons (pv 0) pa_nil)))
    (pss_one (ps_ret (pe_has G_inverse_of (hr.mono (by decide)) (pa_cons (pv 0) pa_nil))))), ?_⟩
    refine ⟨_, rfl, v, th, rfl, hv, ⟨fun good H1 s1 => ?_, fun bad dd H1 s1 _ hd => k1 bad dd H1 s1 hd⟩⟩
    obtain ⟨p, ep, rp⟩ := isRen_iff.mp good
    obtain ⟨a, rfl, ha, hl⟩ := hv.ren ep
    exact ⟨_, rfl, a, p, rfl, sqT_same s1 ha, hl, rp, fun t H2 s2 ht => k2 p ep rp t H2 (s1.trans s2) ht⟩
end
end EN

namespace EN
open PySem L2 PyProof.Rows
section
variable {P : Program} {w : World} {K : PySem.W.Frag} {mg : Str → Option Value} {base : Heap} {f : Addr} {fd : FuncData}
/-! ### made conjugate -/
def spConj (K : PySem.W.Frag) : Sp := fun vs H Q _ => ∃ (n : Nat) (a b : Addr) (as bs : List Addr) (A B : List (List Int)), vs = [.ref a, .ref b] ∧ n ≤ 4 ∧ SqT K H a (as.map V.ref) ∧ RowsAt K H as A ∧ 0 < A.length ∧ A.length ≤ 24 ∧ A.Nodup ∧ (∀ r ∈ A, RP n r) ∧ SqT K H b (bs.map V.ref) ∧ RowsAt K H bs B ∧
  (firstC n A B = none → ∀ H' : Hp, Same H H' → Q .non H') ∧ ∀ (c : List Int) (t : Addr) (H' : Hp), firstC n A B = some c → Same H H' → SqT K H' t (c.map V.int) → Q (.ref t) H'
abbrev s_conjugate : Stmt := top 18
abbrev N_conjugate : List Str := ["first", "second", "c", "back", "p"]
theorem sc_conjugate : FnScope N_conjugate ["first", "second"] (defScope s_conjugate) := ⟨rfl, rfl, rfl, by decide +kernel, rfl, by decide +kernel, by decide +kernel⟩

theorem ok_conjugate (F : Fun K "conjugate" "conjugate" s_conjugate f fd) (T : Blt mg) (G_orders_of : Has P w K mg base 1 "orders_of" ["slots", "many"] (spOrders K)) (G_inverse_of : Has P w K mg base 1 "inverse_of" ["p"] (spInvOf K)) (G_product_of : Has P w K mg base 1 "product_of" ["p", "q"] (spProduct K)) (G_sorted_rows : Has P w K mg base 1 "sorted_rows" ["rows"] (spSortedRows K)) :
    FnOk P w K mg base CX0 2 f fd ["first", "second"] (spConj K) := by
  refine F.ok sc_conjugate (fun vs H Q E h => ?_) (fun cdv A outer s H vs Q E hr h => ?_)
  · obtain ⟨_, _, _, _, _, _, _, rfl, _⟩ := h
    rfl
  · obtain ⟨n, a, b, as, bs, A0, B, rfl, h4, ha, hA, l0, l1, ndA, hAP, hb, hB, k1, k2⟩ := h
    refine ⟨_, (pss_cons (ps_for PassesOwn.never rfl (pi_list (pe_has G_orders_of (hr.mono (by decide)) (pa_cons (pe_listRg rfl (by rfl) T.list_ (prg_1 (by rfl) T.range_ (pe_callB (show CallR _ _ (rLenQ K) from c_len) (by rfl) T.len_ (by decide +kernel) (pa_cons (pe_ix (show IxR _ (rIxT K) from ix_tup) (pv 0) pe_int (fun _ _ => rfl)) pa_nil)))) (pa_cons (pe_callB (show CallR _ _ (rLenQ K) from c_len) (by rfl) T.len_ (by decide +kernel) (pa_cons (pe_ix (show IxR _ (rIxT K) from ix_tup) (pv 0) pe_int (fun _ _ => rfl)) pa_nil)) pa_nil)))) (pg_name (i := 2) sc_conjugate.nd rfl (Or.inr rfl))
      (pss_cons (ps_set (i := 3) sc_conjugate.nd rfl (Or.inr rfl) (pe_has G_inverse_of (hr.mono (by decide)) (pa_cons (pv 2) pa_nil)))
      (pss_one (ps_if (pt_cmpR (show OpR _ _ (rEqD K) from op_eqD hr.units) (pe_has G_sorted_rows (hr.mono (by decide)) (pa_cons (pe_lc (own := [("p", 4)]) (g := gName 4) (tt := tYes) (by rfl) sc_conjugate.nd (pi_tup (pv 0)) (blkOk_by (own := [("p", 4)]) (N := N_conjugate) (sc := defScope s_conjugate) (by decide +kernel)) (fun _ _ _ _ _ => (pg_name (i := 4) sc_conjugate.nd rfl (by first | exact Or.inl rfl | exact Or.inr rfl))) (fun _ _ _ _ _ => pts_nil) (fun _ _ _ _ _ => (pe_has G_product_of (hr.mono (by decide)) (pa_cons (pe_has G_product_of (hr.mono (by decide)) (pa_cons (pv 2) (pa_cons (pv 4) pa_nil))) (pa_cons (pv 3) pa_nil))))) pa_nil)) (pv 1) (nomark _))
        (pss_one (ps_ret (pv 2)))
        pss_nil))))
    (pss_one (ps_ret pe_non))), ?_⟩
    obtain ⟨a0, r0, ea0, er0, ha0⟩ := hA.get l0
    have hr0 := hAP r0 (List.mem_of_getElem? er0)
    have ga : atI (as.map V.ref) ((0 : Nat) : Int) = some (.ref a0) := atI_nat (by rw [List.getElem?_map, ea0]; rfl)
    refine ⟨_, rfl, a, _, (0 : Int), _, rfl, rfl, ha, ga, a0, _, rfl, .inr ha0, ?_⟩
    rw [List.length_map, hr0.1]
    refine ⟨_, rfl, RgOk.of_le (by decide) (by omega) (by decide) (by omega), fun q nq => ?_⟩
    rw [rg_upto]
    have sq := same_new (Same.refl H) (.lst ((upto n).map V.int)) nq
    have hq : SqL K (L2.upd H q (.lst ((upto n).map V.int))) q ((upto n).map V.int) := SqL.of upd_same
    generalize L2.upd H q (.lst ((upto n).map V.int)) = H1 at sq hq ⊢
    refine ⟨_, rfl, a, _, (0 : Int), _, rfl, rfl, sqT_same sq ha, ga, a0, _, rfl, .inr (sqT_same sq ha0), ?_⟩
    rw [List.length_map, hr0.1]
    refine ⟨q, n, rfl, h4, hq, fun l cs H2 s2 hl hcs => ⟨l, rfl, ⟨_, SqL.of hl⟩, ?_⟩⟩
    have s02 := sq.trans s2
    have tl := turns_len h4
    refine for_list (K := K) (a := l) (xs := cs.map V.ref) (fun i σ H' => ∃ v2 v3, σ = [some (.ref a), some (.ref b), v2, v3, none] ∧ Same H2 H' ∧ ∀ (j : Nat) (c : List Int), j < i → (turns n)[j]? = some c → cj n c A0 ≠ B) ⟨none, none, rfl, Same.refl _, fun j c hj => absurd hj (Nat.not_lt_zero _)⟩ ?_ ?_ ?_
    · rintro i σ H' hi ⟨v2, v3, rfl, s3, _⟩
      exact s3.seq (SqL.of hl)
    · rintro i x σ H3 hx ⟨v2, v3, rfl, s3, no⟩
      have hi : i < (turns n).length := by
        have := (List.getElem?_eq_some_iff.mp hx).1
        rwa [List.length_map, hcs.1] at this
      obtain ⟨c, r, ec, er, hc⟩ := hcs.get hi
      rw [List.getElem?_map, ec] at hx
      cases hx
      have hr1 := turn_rp h4 r (List.mem_of_getElem? er)
      have hr2 : RP r.length r := by rw [hr1.1]; exact hr1
      have hc3 := sqT_same s3 hc
      refine ⟨_, rfl, c, r, rfl, hc3, by rw [hr1.1]; omega, hr2, fun t H4 s4 ht => ?_⟩
      have s24 := s3.trans s4
      have ha4 := sqT_same (s02.trans s24) ha
      refine ⟨_, rfl, a, rfl, ⟨_, ha4⟩, fun D hD => ?_⟩
      refine ZK.lc_growF (J := Itt K a) A0.length (small1000 (by omega)) (fun i acc H' => Same H4 H' ∧ ∃ es : List Addr, acc = es.map V.ref ∧ RowsAt K H' es ((A0.take i).map (conj r))) ⟨same_new (Same.refl _) _ hD, [], rfl, rfl, fun i b r h1 => by simp at h1⟩ ?_ ?_ ?_ ?_
      · rintro k acc H' hk ⟨s', _⟩
        exact ⟨_, _, sqT_same s' ha4, List.getElem?_eq_getElem (by rw [List.length_map, hA.1]; exact hk)⟩
      · rintro acc H' ⟨s', _⟩
        exact ⟨_, sqT_same s' ha4, by rw [List.length_map, hA.1]; exact Nat.le_refl _⟩
      · rintro k H5' y H5 acc hk ⟨s5, es, rfl, hes⟩ hacc hal ⟨rfl, hy⟩ N hN
        have hyy := hy _ (sqT_same s5 ha4)
        obtain ⟨b1, p0, eb1, ep1, hb1⟩ := hA.get hk
        rw [List.getElem?_map, eb1] at hyy
        cases hyy
        have hp0 := hAP p0 (List.mem_of_getElem? ep1)
        have s45 := (s02.trans s24).trans s5
        refine ⟨rfl, yesT' (iteT ?_)⟩
        refine ⟨_, rfl, _, rfl, c, b1, r, p0, rfl, sqT_same (s4.trans s5) hc3, sqT_same s45 hb1, by rw [hp0.1]; omega, fun x hx => by rw [hr1.1]; exact hp0.mem.mp hx, fun u H6 s6 hu => ?_⟩
        have hcp := hr1.comp hp0
        refine ⟨_, rfl, u, t, comp r p0, inv r, rfl, SqT.of hu, sqT_same (s5.trans s6) ht, by rw [inv_len, hr1.1]; omega, fun x hx => by rw [hcp.1]; exact hr1.inv.mem.mp hx, fun u2 H7 s7 hu2 => ?_⟩
        have s57 := s6.trans s7
        have hacc7 := s57 _ _ hacc
        refine ⟨es.map V.ref, hacc7, small1000 (by omega), hN _ (es.map V.ref ++ [.ref u2]) ⟨same_but_new (s5.trans s57) hD, es ++ [u2], by rw [List.map_append]; rfl, ?_⟩ upd_same (by simp at hal ⊢; omega)⟩
        have et : (A0.take (k + 1)).map (conj r) = (A0.take k).map (conj r) ++ [conj r p0] := by
          rw [List.take_succ, ep1, List.map_append]
          rfl
        rw [et]
        exact ((hes.same s57).snoc (SqT.of hu2)).upd hacc7
      · rintro H5 acc ⟨s5, es, rfl, hes⟩ hacc hal
        rw [List.take_length] at hes
        refine ⟨D, es, A0.map (conj r), n, rfl, h4, SqL.of hacc, hes, conj_nodup hr1 hAP ndA, fun z hz => ?_, fun t2 ds H8 s8 ht2 hds => ?_⟩
        · obtain ⟨p0, hp0, rfl⟩ := List.mem_map.mp hz
          exact (conj_rp hr1 (hAP p0 hp0)).turn h4
        have s28 := (s24.trans s5).trans s8
        refine ⟨_, rfl, .tuple ((cj n r A0).map rowD), .tuple (B.map rowD), .tup (SqT.of ht2) (rows_dp hds), .tup (sqT_same (s02.trans s28) hb) (rows_dp (hB.same (s02.trans s28))), shaped_trows _, shaped_trows _, ?_⟩
        rw [PyData.eqv, eqvAll_rows]
        by_cases hE : cj n r A0 = B
        · rw [decide_eq_true hE]
          refine ⟨true, rfl, iteT ⟨_, rfl, k2 r c H8 (firstC_at er hE no) (s02.trans s28) (sqT_same s28 hc)⟩⟩
        · rw [decide_eq_false hE]
          refine ⟨false, rfl, iteF ⟨_, _, rfl, s28, fun j c2 hj h2 => ?_⟩⟩
          by_cases e : j = i
          · subst e
            rw [er] at h2
            cases h2
            exact hE
          · exact no j c2 (by omega) h2
    · rintro σ H3 ⟨v2, v3, rfl, s3, no⟩
      rw [List.length_map, hcs.1] at no
      refine k1 (firstC_none.mpr fun c hc => ?_) H3 (s02.trans s3)
      obtain ⟨j, hj⟩ := List.mem_iff_getElem?.mp hc
      exact no j c (List.getElem?_eq_some_iff.mp hj).1 hj
end
end EN

/-! a display of one pair, its key a tuple -/
namespace ZK
open PySem PySem.Spec PyProof.Rows L2 PySem.W
/-- {k: v}, k a tuple -/
def tDisp1T (tk tv : TE) : TE := fun σ H Q => ∀ p, H p = none → tk σ (upd H p (.dT [])) fun y H1 => tv σ H1 fun z H2 => H2 p = some (.dT []) ∧ ∃ (k : List Key) (b : Addr), y = .ref b ∧ H2 b = some (.tup (k.map kV)) ∧ Q (.ref p) (upd H2 p (.dT [(k, z)]))
theorem pe_disp1T {X : Cx} {k v : Expr} {pos : Pos} {tk tv : TE} (hu : X.A.units + 1 < cLine) (hk : PE X k tk) (hv : PE X v tv) : PE X (.Dict [some k] [v] pos) (tDisp1T tk tv) := by
  refine ⟨fun pins s σ H Q I q => ?_⟩
  have hn := I.hok.fresh (Nat.le_refl s.heap.objs.size)
  have I1 := I.laid (a := s.heap.objs.size) (o := .dT []) (h' := s.heap.push { cls := .type "dict", data := .dict #[] }) (t' := s.toks) (fun _ _ q => Heap.get?_push_of_some _ q) (Nat.le_refl _) (dt_empty s.heap I.big)
  have hs : (evalEachOpt [some k] X.env).zip ((evalEach [v] X.env).map fun v => do let x ← v; standAt pos; pure x) = (pairTrees [some k] [v] X.env pos).map fun p => (some p.1, p.2) := zip_pairTrees _ _ _ _ (by rfl) (by rfl)
  have room : (tupleKind (mixKind X.prog X.w)).room X.A := (by omega : X.A.units < cLine)
  rw [arm_eval_Dict, hs, dictDisplay_pairs _ (fun z => by cases z) (by show 1 < 17; decide)]
  refine wpAny_bind (wpAny_standAt (wpAny_bind (wpAny_subDictH (knd := tupleKind (mixKind X.prog X.w)) (Q := fun d s' => wpAny (model X.prog X.w) X.A (pure (Value.ref d)) (EP X pins σ Q) X.xe s') room (by show 1 ≤ 15; decide) ?_)))
  refine pairTrees_cons_walk (thn (hk.run pins _ σ _ _ I1 (q _ hn)) fun u s1 ⟨x, H1, I2, rx, q1⟩ => thn (hv.run pins s1 σ H1 _ I2 q1) fun w2 s2 ⟨y, H2, I3, ry, e, ky, b, ex, eb, q2⟩ => pairTrees_nil_walk ?_)
  subst ex
  obtain rfl : u = Value.ref b := rx
  obtain ⟨z, hd, xs, rel, dd⟩ := dt_of I3.hok e
  cases rel
  refine ⟨[(ky, b, w2)], ⟨rfl, rfl, key_of I3.hok eb, trivial⟩, dd, fun h' tk' dd' hs' => wpAny_pure ?_⟩
  obtain ⟨o2, es, ep, hq, h2, h3, h4, _, h5⟩ := dd'
  have new : ObjOk X.prog X.w (upd H2 s.heap.objs.size (.dT [(ky, y)])) h' s.heap.objs.size (.dT [(ky, y)]) :=
    ⟨by show 1 ≤ sizeLine; decide, hd, [(ky, b, w2)], .cons ⟨rfl, by rw [upd_ne (ne_of eb e (fun z => nomatch z))]; exact eb, ry⟩ .nil, o2, es, ep, hq, h2, h3, h4, h5⟩
  exact ⟨.ref s.heap.objs.size, _, d_write I3 (by rw [e]; exact True.intro) hs' ⟨o2, hq⟩ new, rfl, q2⟩
end ZK

namespace EN
open PySem L2 PyProof.Rows
section
variable {P : Program} {w : World} {K : PySem.W.Frag} {mg : Str → Option Value} {base : Heap} {f : Addr} {fd : FuncData}
/-! ### generated -/
theorem ownsX {N : List Str} {qual : Str} {sc : Scope} {cdv : Value} {A : Around} {outer : List Env} {s : Shared} {H : Hp} {E : XK} :
    PassesOwn (model P w) (cxOf (L2.CX P w) P w K mg base N qual sc f cdv A outer s H E).A (cxOf (L2.CX P w) P w K mg base N qual sc f cdv A outer s H E).env (cxOf (L2.CX P w) P w K mg base N qual sc f cdv A outer s H E).xe :=
  passes_of (X := cxOf (L2.CX P w) P w K mg base N qual sc f cdv A outer s H E) (K := fun e s'' => L2.CX P w outer H s E e s'') rfl
/-- things at their places -/
def ThsAt (K : PySem.W.Frag) (H : Hp) (xs : List V) (ths : List Th) : Prop := xs.length = ths.length ∧ ∀ (i : Nat) (x : V) (th : Th), xs[i]? = some x → ths[i]? = some th → ThAt K H x th
theorem ThsAt.same {H H' : Hp} {xs : List V} {ths : List Th} (h : ThsAt K H xs ths) (s : Same H H') : ThsAt K H' xs ths := ⟨h.1, fun i x th e1 e2 => (h.2 i x th e1 e2).kp (Kp.of s)⟩
/-- tuples as keys -/
def rowKey (r : List Int) : List Key := r.map Sum.inl
theorem rowKey_kV (r : List Int) : (rowKey r).map kV = r.map V.int := by
  unfold rowKey
  rw [List.map_map]
  rfl
theorem rowKey_inj {p q : List Int} (h : rowKey p = rowKey q) : p = q := by
  unfold rowKey at h
  exact List.map_inj_right (fun a b e => Sum.inl.inj e) |>.mp h
/-- the found ones -/
def FndOk (F : List (List Int)) (kvs : List (List Key × V)) : Prop := kvs.map (·.1) = F.map rowKey
theorem fnd_none {F : List (List Int)} {kvs : List (List Key × V)} (h : FndOk F kvs) (r : List Int) : (valV kvs (rowKey r)).isSome = decide (r ∈ F) := by
  rw [← valV_any, Bool.eq_iff_iff, List.any_eq_true, decide_eq_true_iff]
  constructor
  · rintro ⟨p, hp, e⟩
    have : p.1 ∈ kvs.map (·.1) := List.mem_map.mpr ⟨p, hp, rfl⟩
    rw [h, of_decide_eq_true e] at this
    obtain ⟨q, hq, e2⟩ := List.mem_map.mp this
    rw [← rowKey_inj e2]
    exact hq
  · intro hr
    have : rowKey r ∈ kvs.map (·.1) := by rw [h]; exact List.mem_map.mpr ⟨r, hr, rfl⟩
    obtain ⟨p, hp, e⟩ := List.mem_map.mp this
    exact ⟨p, hp, by simp [e]⟩
theorem fnd_put {F : List (List Int)} {kvs : List (List Key × V)} (h : FndOk F kvs) {r : List Int} (hr : r ∉ F) (v : V) : FndOk (F ++ [r]) (putK kvs (rowKey r) v) := by
  have hn : valV kvs (rowKey r) = none := by
    have := fnd_none h r
    rw [decide_eq_false hr] at this
    exact Option.isSome_eq_false_iff.mp this |> Option.isNone_iff_eq_none.mp
  unfold FndOk
  rw [putK_new _ hn, List.map_append, h, List.map_append]
  rfl
/-- the search for further ones: F found, W waiting -/
structure GenAt (n : Nat) (R : List (List Int)) (H1 : Hp) (l d : Addr) (F W : List (List Int)) (ws : List Addr) (kvs : List (List Key × V)) (H' : Hp) : Prop where
  same : Same H1 H'
  atl : H' l = some (.lst (ws.map V.ref))
  atd : H' d = some (.dT kvs)
  fnd : FndOk F kvs
  len : ws.length = W.length
  tup : ∀ (i : Nat) (b : Addr) (r : List Int), ws[i]? = some b → W[i]? = some r → H' b = some (.tup (r.map V.int))
  nd : F.Nodup
  one : upto n ∈ F
  rch : ∀ x ∈ F, Reach n R x
  sub : ∀ x ∈ W, x ∈ F
section
variable {n : Nat} {R : List (List Int)} {H1 H' H'' : Hp} {l d : Addr} {F W : List (List Int)} {ws : List Addr} {kvs : List (List Key × V)}
theorem GenAt.go (g : GenAt n R H1 l d F W ws kvs H') (s : Same H' H'') : GenAt n R H1 l d F W ws kvs H'' :=
  ⟨g.same.trans s, s _ _ g.atl, s _ _ g.atd, g.fnd, g.len, fun i b r h1 h2 => s _ _ (g.tup i b r h1 h2), g.nd, g.one, g.rch, g.sub⟩
theorem GenAt.klen (g : GenAt n R H1 l d F W ws kvs H') : kvs.length = F.length := by
  have := congrArg List.length g.fnd
  rwa [List.length_map, List.length_map] at this
theorem GenAt.flen (g : GenAt n R H1 l d F W ws kvs H') (h4 : n ≤ 4) (hR : ∀ r ∈ R, RP n r) : F.length ≤ 24 :=
  Nat.le_trans (nodup_len g.nd fun x hx => ((g.rch x hx).rp hR).turn h4) (turns_len h4)
theorem same_upd {a : Addr} {o : HO} (h1 : H1 a = none) (s : Same H1 H') : Same H1 (upd H' a o) := fun b u hb => by
  rw [upd_ne (fun z => by rw [z, h1] at hb; cases hb)]
  exact s b u hb
theorem GenAt.pop (g : GenAt n R H1 l d F W ws kvs H') (nl : H1 l = none) (ld : l ≠ d) : GenAt n R H1 l d F W.dropLast ws.dropLast kvs (upd H' l (.lst (ws.dropLast.map V.ref))) := by
  refine ⟨same_upd nl g.same, upd_same, by rw [upd_ne ld.symm]; exact g.atd, g.fnd, by rw [List.length_dropLast, List.length_dropLast, g.len], fun i b r h1 h2 => ?_, g.nd, g.one, g.rch, fun x hx => g.sub x (List.dropLast_subset _ hx)⟩
  rw [List.getElem?_dropLast] at h1 h2
  split at h1
  · split at h2
    · have := g.tup i b r h1 h2
      rw [upd_ne (ne_of this g.atl (fun z => nomatch z))]
      exact this
    · cases h2
  · cases h1
theorem GenAt.add (g : GenAt n R H1 l d F W ws kvs H') (nl : H1 l = none) (nd : H1 d = none) (ld : l ≠ d) {r : List Int} {t : Addr} (ht : H' t = some (.tup (r.map V.int))) (hr : r ∉ F) (re : Reach n R r) (v : V) :
    GenAt n R H1 l d (F ++ [r]) (W ++ [r]) (ws ++ [t]) (putK kvs (rowKey r) v) (upd (upd H' d (.dT (putK kvs (rowKey r) v))) l (.lst (ws.map V.ref ++ [.ref t]))) := by
  refine ⟨same_upd nl (same_upd nd g.same), ?_, ?_, fnd_put g.fnd hr v, by rw [List.length_append, List.length_append, g.len]; rfl, fun i b q h1 h2 => ?_, ?_, List.mem_append_left _ g.one, fun x hx => ?_, fun x hx => ?_⟩
  · rw [upd_same, List.map_append]
    rfl
  · rw [upd_ne ld.symm, upd_same]
  · have : H' b = some (.tup (q.map V.int)) := by
      by_cases hi : i < ws.length
      · rw [List.getElem?_append_left hi] at h1
        rw [List.getElem?_append_left (by rw [← g.len]; exact hi)] at h2
        exact g.tup i b q h1 h2
      · have hi2 : i = ws.length := by
          have := (List.getElem?_eq_some_iff.mp h1).1
          simp at this
          omega
        subst hi2
        rw [List.getElem?_append_right (Nat.le_refl _)] at h1
        rw [g.len, List.getElem?_append_right (Nat.le_refl _)] at h2
        simp at h1 h2
        rw [← h1, ← h2]
        exact ht
    rw [upd_ne (ne_of this g.atl (fun z => nomatch z)), upd_ne (ne_of this g.atd (fun z => nomatch z))]
    exact this
  · rw [List.nodup_append]
    refine ⟨g.nd, by simp, fun a ha b hb => ?_⟩
    simp at hb
    subst hb
    exact fun e => hr (e ▸ ha)
  · rcases List.mem_append.mp hx with h | h
    · exact g.rch x h
    · simp at h
      rw [h]
      exact re
  · rcases List.mem_append.mp hx with h | h
    · exact List.mem_append_left _ (g.sub x h)
    · exact List.mem_append_right _ h
end
theorem paired_get {α β : Type} {Rl : α → β → Prop} {xs : List α} {ys : List β} (h : Paired Rl xs ys) : ∀ {i : Nat} {x : α} {y : β}, xs[i]? = some x → ys[i]? = some y → Rl x y := by
  induction h with
  | nil => intro i x y h1; simp at h1
  | cons h t ih =>
    intro i x y h1 h2
    cases i with
    | zero =>
      simp at h1 h2
      rw [← h1, ← h2]
      exact h
    | succ i => exact ih (by simpa using h1) (by simpa using h2)
theorem rows_keys {H : Hp} {F : List (List Int)} {kvs : List (List Key × V)} {bs : List Addr} (h : FndOk F kvs) (hk : IsKeys H kvs bs) : RowsAt K H bs F := by
  have hl : kvs.length = F.length := by
    have := congrArg List.length h
    rwa [List.length_map, List.length_map] at this
  refine ⟨by rw [← hl]; exact (Paired.length hk).symm, fun i b r h1 h2 => ?_⟩
  have hi : i < kvs.length := by rw [hl]; exact (List.getElem?_eq_some_iff.mp h2).1
  have e1 := paired_get hk (List.getElem?_eq_getElem hi) h1
  have e2 : (kvs.map (·.1))[i]? = some kvs[i].1 := by rw [List.getElem?_map, List.getElem?_eq_getElem hi]; rfl
  rw [h, List.getElem?_map, h2] at e2
  rw [← Option.some.inj e2, rowKey_kV] at e1
  exact SqT.of e1
def spGenerated (K : PySem.W.Frag) (CR : Addr) : Sp := fun vs H Q E => ∃ (a : Addr) (xs : List V) (ths : List Th) (n : Nat), vs = [.int (n : Int), .ref a] ∧ n ≤ 4 ∧ SqT K H a xs ∧ xs.length ≤ 40 ∧ ThsAt K H xs ths ∧
  (∀ (i : Nat) (x : V) (th : Th), xs[i]? = some x → ths[i]? = some th → ¬ RenN n th → (∀ (j : Nat) (u : Th), j < i → ths[j]? = some u → RenN n u) → ∀ (dd : Addr) (H' : Hp), Same H H' → H' dd = some (.xd [("numbers", x)]) → E (.ref CR) (some dd) H') ∧
  ∀ R : List (List Int), R.length = ths.length → (∀ r ∈ R, RP n r) → (∀ (i : Nat) (th : Th) (r : List Int), ths[i]? = some th → R[i]? = some r → th.nums = some r) →
    ∀ (t : Addr) (cs : List Addr) (H' : Hp), Same H H' → H' t = some (.tup (cs.map V.ref)) → RowsAt K H' cs (grp n R) → Q (.ref t) H'
abbrev s_generated : Stmt := top 17
abbrev N_generated : List Str := ["size", "rows", "row", "waiting", "found", "last", "further"]
theorem sc_generated : FnScope N_generated ["size", "rows"] (defScope s_generated) := ⟨rfl, rfl, rfl, by decide +kernel, rfl, by decide +kernel, by decide +kernel⟩

theorem ok_generated {CR : Addr} (F0 : Fun K "generated" "generated" s_generated f fd) (T : Blt mg) (G_check_size : HasX P w K mg base 3 "check_size" ["row", "size"] (spCheckSize K CR)) (G_product_of : Has P w K mg base 1 "product_of" ["p", "q"] (spProduct K)) (G_sorted_rows : Has P w K mg base 1 "sorted_rows" ["rows"] (spSortedRows K)) :
    FnOk P w K mg base (L2.CX P w) 4 f fd ["size", "rows"] (spGenerated K CR) := by
  refine F0.okX sc_generated (fun vs H Q E h => ?_) (fun cdv A outer s H vs Q E hr h => ?_)
  · obtain ⟨_, _, _, _, rfl, _⟩ := h
    rfl
  · obtain ⟨a, xs, ths, n, rfl, h4, ha, hxl, hth, kb, kg⟩ := h
    have hu := hu_of hr
    refine ⟨_, (pss_cons (ps_for ownsX rfl (pi_tup (pv 1)) (pg_name (i := 2) sc_generated.nd rfl (Or.inl rfl))
      (pss_one (ps_expr (pe_hasX G_check_size (passX) (hr.mono (by decide)) (pa_cons (pv 2) (pa_cons (pv 0) pa_nil))))))
    (pss_cons (ps_set (i := 3) sc_generated.nd rfl (Or.inl rfl) (pe_lst (pa_cons (pe_tupRg rfl (by rfl) T.tuple_ (prg_1 (by rfl) T.range_ (pv 0))) pa_nil)))
    (pss_cons (ps_set (i := 4) sc_generated.nd rfl (Or.inl rfl) (ZK.pe_disp1T hu (pe_ix (show IxR _ (rIxL K) from ix_list) (pv 3) pe_int (fun _ _ => rfl)) pe_bl))
    (pss_cons (ps_while ownsX (pt_truth (pv 3) (by intro _; rfl))
      (pss_cons (ps_set (i := 5) sc_generated.nd rfl (Or.inl rfl) (pe_bm0 PySem.F.plainAttrs_list PySem.F.slot_list_pop PySem.F.type_list_pop mt_pop (pv 3)))
      (pss_one (ps_for ownsX rfl (pi_tup (pv 1)) (pg_name (i := 2) sc_generated.nd rfl (Or.inl rfl))
        (pss_cons (ps_set (i := 6) sc_generated.nd rfl (Or.inl rfl) (pe_has G_product_of (hr.mono (by decide)) (pa_cons (pv 5) (pa_cons (pv 2) pa_nil))))
        (pss_one (ps_if (pt_cmp (pc_dnotin hu (pv 6) (pv 4)))
          (pss_cons (ps_dput hu (pv 4) (pv 6) pe_bl rfl)
          (pss_one (ps_expr (pe_bm PySem.F.plainAttrs_list PySem.F.slot_list_append PySem.F.type_list_append mt_append (pv 3) (pa_cons (pv 6) pa_nil)))))
          pss_nil)))))))
    (pss_one (ps_ret (pe_has G_sorted_rows (hr.mono (by decide)) (pa_cons (pe_callTy (call_list_dT rfl) (by rfl) T.list_ (by decide +kernel) (pa_cons (pv 4) pa_nil)) pa_nil)))))))), ?_⟩
    refine ⟨_, rfl, a, rfl, ⟨_, ha⟩, ?_⟩
    refine for_tup (K := K) (a := a) (xs := xs) (fun i σ H' => ∃ v2 : Option V, Same H H' ∧ (∀ (j : Nat) (u : Th), j < i → ths[j]? = some u → RenN n u) ∧ σ = [some (.int (n : Int)), some (.ref a), v2, none, none, none, none]) ⟨none, Same.refl _, fun j _ hj => absurd hj (Nat.not_lt_zero _), rfl⟩ ?_ ?_ ?_
    · rintro i σ H' hi ⟨v2, s1, _, rfl⟩
      exact sqT_same s1 ha
    · rintro i x σ H1 hx ⟨v2, s1, hg, rfl⟩
      have hi : i < ths.length := by rw [← hth.1]; exact (List.getElem?_eq_some_iff.mp hx).1
      have ht := List.getElem?_eq_getElem hi
      refine ⟨_, rfl, _, rfl, x, ths[i], n, rfl, (hth.same s1).2 i x _ hx ht, fun good H2 s2 => ⟨some x, s1.trans s2, fun j u hj hu => ?_, rfl⟩, fun bad dd H2 s2 hd1 hd2 => kb i x _ hx ht bad hg dd H2 (s1.trans s2) hd2⟩
      by_cases e : j = i
      · subst e
        rw [ht] at hu
        cases hu
        exact good
      · exact hg j u (by omega) hu
    rintro σ H1 ⟨v2, s1, hg, rfl⟩
    have hgR : ∀ (j : Nat) (u : Th), ths[j]? = some u → ∃ r, u.nums = some r ∧ RP n r := fun j u hu => by
      obtain ⟨r, e, rp, l⟩ := hg j u (by rw [hth.1]; exact (List.getElem?_eq_some_iff.mp hu).1) hu
      have l2 : r.length = n := by omega
      rw [l2] at rp
      exact ⟨r, e, rp⟩
    have main := kg (ths.map fun u => u.nums.getD []) (List.length_map ..) (fun r hr => by
      obtain ⟨u, hu, rfl⟩ := List.mem_map.mp hr
      obtain ⟨j, hj⟩ := List.mem_iff_getElem?.mp hu
      obtain ⟨r, e, rp⟩ := hgR j u hj
      rw [e]
      exact rp) (fun i th r h1 h2 => by
      rw [List.getElem?_map, h1] at h2
      cases h2
      obtain ⟨r, e, rp⟩ := hgR i th h1
      show th.nums = some (th.nums.getD [])
      rw [e]
      rfl)
    have hrows : ∀ (i : Nat) (x : V) (r : List Int), xs[i]? = some x → (ths.map fun u => u.nums.getD [])[i]? = some r → RP n r ∧ ∃ b, x = .ref b ∧ SqT K H b (r.map V.int) := fun i x r hx hr => by
      rw [List.getElem?_map] at hr
      cases ht : ths[i]? with
      | none => rw [ht] at hr; cases hr
      | some u =>
        rw [ht] at hr
        cases hr
        obtain ⟨r, e, rp⟩ := hgR i u ht
        obtain ⟨b, eb, hb, _⟩ := (hth.2 i x u hx ht).ren e
        dsimp only
        rw [e]
        exact ⟨rp, b, eb, hb⟩
    have hRl : (ths.map fun u => u.nums.getD []).length = xs.length := by rw [List.length_map, hth.1]
    generalize (ths.map fun u => u.nums.getD []) = R at main hrows hRl
    clear kg kb hgR hg
    have hRP : ∀ r ∈ R, RP n r := fun r hr => by
      obtain ⟨j, hj⟩ := List.mem_iff_getElem?.mp hr
      have hj2 : j < xs.length := by rw [← hRl]; exact (List.getElem?_eq_some_iff.mp hj).1
      exact (hrows j _ r (List.getElem?_eq_getElem hj2) hj).1
    refine ⟨_, rfl, _, rfl, RgOk.of_le (by decide) (by omega) (by decide) (by omega), fun q nq => ?_⟩
    rw [rg_upto]
    have sq := same_new (Same.refl H1) (.tup ((upto n).map V.int)) nq
    have hq2 : (upd H1 q (.tup ((upto n).map V.int))) q = some (.tup ((upto n).map V.int)) := upd_same
    generalize upd H1 q (.tup ((upto n).map V.int)) = H2 at sq hq2 ⊢
    refine ⟨(by show 1 ≤ sizeLine; decide), fun l nl => ?_⟩
    have sl := same_new (Same.refl H2) (.lst [.ref q]) nl
    have hl3 : (upd H2 l (.lst [.ref q])) l = some (.lst [.ref q]) := upd_same
    have nl1 : H1 l = none := sq.free nl
    generalize upd H2 l (.lst [.ref q]) = H3 at sl hl3 ⊢
    intro d nd
    have ld : l ≠ d := fun z => by rw [← z, hl3] at nd; cases nd
    have nd1 : H1 d = none := sq.free (sl.free nd)
    have sd := same_new (Same.refl H3) (.dT []) nd
    have hd4 : (upd H3 d (.dT [])) d = some (.dT []) := upd_same
    generalize upd H3 d (.dT []) = H4 at sd hd4 ⊢
    have hq4 : H4 q = some (.tup ((rowKey (upto n)).map kV)) := by rw [rowKey_kV]; exact sd _ _ (sl _ _ hq2)
    have hl4 := sd _ _ hl3
    refine ⟨_, rfl, l, _, 0, .ref q, rfl, rfl, SqL.of hl4, rfl, hd4, rowKey (upto n), q, rfl, hq4, ?_⟩
    have g0 : GenAt n R H1 l d [upto n] [upto n] [q] [(rowKey (upto n), .bl true)] (upd H4 d (.dT [(rowKey (upto n), .bl true)])) := by
      refine ⟨same_upd nd1 (sq.trans (sl.trans sd)), by rw [upd_ne ld]; exact hl4, upd_same, rfl, rfl, fun i b r h1 h2 => ?_, by simp, by simp, fun x hx => ?_, fun x hx => hx⟩
      · cases i with
        | zero =>
          cases h1
          cases h2
          rw [rowKey_kV] at hq4
          rw [upd_ne (ne_of hq4 hd4 (fun z => nomatch z))]
          exact hq4
        | succ i => cases h1
      · simp at hx
        rw [hx]
        exact .one
    generalize upd H4 d (.dT [(rowKey (upto n), .bl true)]) = H5 at g0 ⊢
    let Wf : Nat → L2.St → Hp → Prop := fun m σ H' => ∃ (F W : List (List Int)) (ws : List Addr) (kvs : List (List Key × V)) (v2 v5 v6 : Option V), m = 2 * (24 - F.length) + W.length ∧ σ = [some (.int (n : Int)), some (.ref a), v2, some (.ref l), some (.ref d), v5, v6] ∧ GenAt n R H1 l d F W ws kvs H' ∧ W.length ≤ F.length ∧ ∀ x ∈ F, x ∉ W → ∀ r ∈ R, comp x r ∈ F
    refine ⟨Wf, ⟨_, [upto n], [upto n], [q], _, v2, none, none, rfl, rfl, g0, Nat.le_refl _, fun x hx hn => absurd hx hn⟩, ?_⟩
    rintro m σ H6 ⟨F, W, ws, kvs, v2, v5, v6, rfl, rfl, g, wf, dn⟩
    have fl := g.flen h4 hRP
    have wl : W.length ≤ 24 ∨ True := .inr trivial
    refine ⟨_, rfl, !(ws.map V.ref).isEmpty, .inl ⟨_, SqL.of g.atl, rfl⟩, ?_⟩
    by_cases hw : W = []
    · have hws : ws = [] := by
        have := g.len
        rw [hw] at this
        exact List.length_eq_zero_iff.mp this
      subst hw
      subst hws
      refine iteF ?_
      refine ⟨_, rfl, d, kvs, rfl, .inl g.atd, fun p2 bs hp hk => ?_⟩
      have sp := same_new (Same.refl H6) (.lst (bs.map V.ref)) hp
      refine ⟨p2, bs, F, n, rfl, h4, SqL.of upd_same, (rows_keys g.fnd hk).same sp, g.nd, fun r hr => ((g.rch r hr).rp hRP).turn h4, fun t cs H8 s8 ht hrw => ?_⟩
      have e : ((turns n).filter fun p => decide (p ∈ F)) = grp n R := grp_filter (fun p => ⟨g.rch p, fun hp => closedR g.one (fun x hx r hr => dn x hx (fun z => nomatch z) r hr) hp⟩) _ fun p => decide_eq_true_iff
      rw [e] at hrw
      exact main t cs H8 (s1.trans (g.same.trans (sp.trans s8))) ht hrw
    · have wp : 0 < W.length := List.length_pos_iff.mpr hw
      have wsp : 0 < ws.length := by rw [g.len]; exact wp
      have hne : (!(ws.map V.ref).isEmpty) = true := by
        cases ws with
        | nil => cases wsp
        | cons => rfl
      rw [hne]
      refine iteT ⟨fun σ' H' => ∃ m', m' < 2 * (24 - F.length) + W.length ∧ Wf m' σ' H', fun _ _ h => h, ?_⟩
      have hb : ws[ws.length - 1]? = some ws[ws.length - 1] := List.getElem?_eq_getElem (by omega)
      have hx : W[ws.length - 1]? = some (W[ws.length - 1]'(by rw [← g.len]; omega)) := List.getElem?_eq_getElem _
      generalize ws[ws.length - 1] = b at hb
      generalize (W[ws.length - 1]'(by rw [← g.len]; omega)) = x at hx
      have hbx := g.tup _ _ _ hb hx
      have xF : x ∈ F := g.sub x (List.mem_of_getElem? hx)
      have xre := g.rch x xF
      have xrp := xre.rp hRP
      have wcat : W = W.dropLast ++ [x] := by
        rw [g.len] at hx
        have e := List.dropLast_concat_getLast hw
        rw [List.getLast_eq_getElem] at e
        rw [List.getElem?_eq_getElem (by omega)] at hx
        rw [Option.some.inj hx] at e
        exact e.symm
      refine ⟨_, rfl, .inl ⟨rfl, _, SqL.of g.atl⟩, l, _, .ref b, rfl, rfl, g.atl, by rw [List.length_map, List.getElem?_map, hb]; rfl, ?_⟩
      have gp := g.pop nl1 ld
      rw [← List.map_dropLast]
      have hbx7 : (upd H6 l (.lst (ws.dropLast.map V.ref))) b = some (.tup (x.map V.int)) := by
        rw [upd_ne (ne_of hbx g.atl (fun z => nomatch z))]
        exact hbx
      generalize upd H6 l (.lst (ws.dropLast.map V.ref)) = H7 at gp hbx7 ⊢
      refine ⟨_, rfl, a, rfl, ⟨_, sqT_same (s1.trans gp.same) ha⟩, ?_⟩
      refine for_tup (K := K) (a := a) (xs := xs) (fun i σ H' => ∃ (F2 W2 : List (List Int)) (ws2 : List Addr) (kvs2 : List (List Key × V)) (v2 v6 : Option V), σ = [some (.int (n : Int)), some (.ref a), v2, some (.ref l), some (.ref d), some (.ref b), v6] ∧ GenAt n R H1 l d F2 W2 ws2 kvs2 H' ∧
        H' b = some (.tup (x.map V.int)) ∧ W2.length + F.length + 1 = W.length + F2.length ∧ F.length ≤ F2.length ∧ (∀ y ∈ F2, y ∉ W2 → y ≠ x → ∀ r ∈ R, comp y r ∈ F2) ∧ ∀ (j : Nat) (r : List Int), j < i → R[j]? = some r → comp x r ∈ F2) ?_ ?_ ?_ ?_
      · refine ⟨F, W.dropLast, ws.dropLast, kvs, v2, v6, rfl, gp, hbx7, by rw [List.length_dropLast]; omega, Nat.le_refl _, fun y hy hn hne2 => dn y hy (fun hm => ?_), fun j _ hj => absurd hj (Nat.not_lt_zero _)⟩
        rw [wcat] at hm
        rcases List.mem_append.mp hm with h | h
        · exact hn h
        · simp at h
          exact hne2 h
      · rintro i σ H' hi ⟨F2, W2, ws2, kvs2, v2', v6', rfl, g2, _⟩
        exact sqT_same (s1.trans g2.same) ha
      · rintro i y σ H8 hy ⟨F2, W2, ws2, kvs2, v2', v6', rfl, g2, hb8, cnt, fle, dn2, cl⟩
        have hi : i < R.length := by rw [hRl]; exact (List.getElem?_eq_some_iff.mp hy).1
        obtain ⟨rp, c, rfl, hc⟩ := hrows i y _ hy (List.getElem?_eq_getElem hi)
        have hri := List.getElem?_eq_getElem hi
        have hrm : R[i] ∈ R := List.getElem_mem hi
        generalize R[i] = r at rp hc hri hrm
        refine ⟨_, rfl, _, rfl, b, c, x, r, rfl, SqT.of hb8, sqT_same (s1.trans g2.same) hc, by rw [rp.1]; omega, fun u hu => by rw [xrp.1]; exact rp.mem.mp hu, fun t H9 s9 ht => ?_⟩
        have g3 := g2.go s9
        have hb9 := s9 _ _ hb8
        have fl3 := g3.flen h4 hRP
        refine ⟨_, rfl, _, rfl, d, _, rfl, DGet.t g3.atd (by rw [rowKey_kV]; exact ht), _, rfl, ?_⟩
        rw [fnd_none g3.fnd]
        by_cases hz : comp x r ∈ F2
        · rw [decide_eq_true hz]
          refine iteF ⟨F2, W2, ws2, kvs2, _, _, rfl, g3, hb9, cnt, fle, dn2, fun j r2 hj hr2 => ?_⟩
          by_cases e : j = i
          · subst e
            rw [hri] at hr2
            cases hr2
            exact hz
          · exact cl j r2 (by omega) hr2
        · rw [decide_eq_false hz]
          refine iteT ⟨_, rfl, _, rfl, d, _, rfl, DPut.t g3.atd (by rw [rowKey_kV]; exact ht) (small1000 (by rw [g3.klen]; omega)), ?_⟩
          have hl10 : (upd H9 d (.dT (putK kvs2 (rowKey (comp x r)) (.bl true)))) l = some (.lst (ws2.map V.ref)) := by rw [upd_ne ld]; exact g3.atl
          have g4 := g3.add nl1 nd1 ld ht hz (xre.more hrm) (.bl true)
          refine ⟨_, rfl, .inl ⟨rfl, _, SqL.of hl10⟩, _, rfl, l, _, _, rfl, rfl, hl10, small1000 (by rw [List.length_map, g3.len]; omega), ?_⟩
          refine ⟨F2 ++ [comp x r], W2 ++ [comp x r], ws2 ++ [t], _, _, _, rfl, g4, ?_, by simp; omega, by simp; omega, fun y hy hn hne2 r2 hr2 => ?_, fun j r2 hj hr2 => ?_⟩
          · rw [upd_ne (ne_of hb9 g3.atl (fun z => nomatch z)), upd_ne (ne_of hb9 g3.atd (fun z => nomatch z))]
            exact hb9
          · have hn1 : y ∉ W2 := fun z => hn (List.mem_append_left _ z)
            have hn2 : y ∉ [comp x r] := fun z => hn (List.mem_append_right _ z)
            rcases List.mem_append.mp hy with h | h
            · exact List.mem_append_left _ (dn2 y h hn1 hne2 r2 hr2)
            · exact absurd h hn2
          · by_cases e : j = i
            · subst e
              rw [hri] at hr2
              cases hr2
              exact List.mem_append_right _ (by simp)
            · exact List.mem_append_left _ (cl j r2 (by omega) hr2)
      · rintro σ H8 ⟨F2, W2, ws2, kvs2, v2', v6', rfl, g2, hb8, cnt, fle, dn2, cl⟩
        have fl2 := g2.flen h4 hRP
        refine ⟨2 * (24 - F2.length) + W2.length, by omega, F2, W2, ws2, kvs2, v2', _, v6', rfl, rfl, g2, by omega, fun y hy hn r hr => ?_⟩
        by_cases e : y = x
        · subst e
          obtain ⟨j, hj⟩ := List.mem_iff_getElem?.mp hr
          have hj2 : j < xs.length := by rw [← hRl]; exact (List.getElem?_eq_some_iff.mp hj).1
          exact cl j r hj2 hj
        · exact dn2 y hy hn e r hr
end
end EN

namespace EN
open PySem L2 PyProof.Rows
section
variable {P : Program} {w : World} {K : PySem.W.Frag} {mg : Str → Option Value} {base : Heap} {f : Addr} {fd : FuncData}
/-! the same things in a drawn order -/
def Lays (K : PySem.W.Frag) (H : Hp) (x : V) : Prop := ∃ d : PyData, Dp K H x d ∧ PyData.canLay0 d = true ∧ PyData.depth d ≤ 5
theorem lays_all {H : Hp} : ∀ xs : List V, (∀ x ∈ xs, Lays K H x) → ∃ ds : List PyData, DpAll K H xs ds ∧ PyData.canLayAll0 ds = true ∧ PyData.depthAll ds ≤ 5 ∧ ds.length = xs.length
  | [], _ => ⟨[], .nil, by simp [PyData.canLayAll0], by simp [PyData.depthAll], rfl⟩
  | x :: xs, h => by
    obtain ⟨d, h1, h2, h3⟩ := h x (by simp)
    obtain ⟨ds, g1, g2, g3, g4⟩ := lays_all xs fun y hy => h y (by simp [hy])
    exact ⟨d :: ds, .cons h1 g1, by simp [PyData.canLayAll0, h2, g2], by simp [PyData.depthAll]; omega, by simp [g4]⟩
def spShufG (K : PySem.W.Frag) : Sp := fun vs H Q _ => ∃ (p c a : Addr) (ns : List Int) (r : List V) (B : Nat), vs = [.ref p, .ref a] ∧ Pen H p c ns B ∧ B + 100 ≤ 1000000000 ∧ SqL K H a r ∧ r.length ≤ 40 ∧ (∀ H' : Hp, Kp K H H' → ∀ x ∈ r, Lays K H' x) ∧
  ∀ (l : Addr) (r' : List V) (H' : Hp), Pen H' p c ns (B + 40) → But p H H' → H' l = some (.lst r') → r'.Perm r → Q (.ref l) H'
theorem erase_permG {α : Type} : ∀ {t : List α} {k : Nat} (h : k < t.length), (t[k] :: t.eraseIdx k).Perm t
  | a :: t, 0, _ => .refl _
  | a :: t, k + 1, h => (List.Perm.swap a (t[k]'(Nat.lt_of_succ_lt_succ h)) (t.eraseIdx k)).trans ((erase_permG (Nat.lt_of_succ_lt_succ h)).cons a)
  | [], _, h => absurd h (Nat.not_lt_zero _)
abbrev s_shuffled : Stmt := top 23
abbrev N_shuffled : List Str := ["_law_pen_here", "_law_items", "_law_rest", "_law_found"]
theorem sc_shuffled : FnScope N_shuffled ["_law_pen_here", "_law_items"] (defScope s_shuffled) := ⟨rfl, rfl, rfl, by decide +kernel, rfl, by decide +kernel, by decide +kernel⟩

theorem ok_shuffled (F : Fun K "_law_shuffled" "_law_shuffled" s_shuffled f fd) (T : Blt mg) (G_draw : Has P w K mg base 1 "_law_draw" ["_law_pen_here", "_law_many"] spDraw) : FnOk P w K mg base CX0 2 f fd ["_law_pen_here", "_law_items"] (spShufG K) := by
  refine F.ok sc_shuffled (fun vs H Q E h => ?_) (fun cdv A outer s H vs Q E hr h => ?_)
  · obtain ⟨_, _, _, _, _, _, rfl, _⟩ := h
    rfl
  · obtain ⟨p, c, a, ns, r, B, rfl, hP, hB, ha, hl, lay, k⟩ := h
    refine ⟨_, (pss_cons (ps_par (i := 2) (j := 3) (by rfl) sc_shuffled.nd rfl rfl (by decide) rfl rfl (pa_cons (pe_callTy (show CallR _ _ (rListQ K) from c_list) (by rfl) T.list_ (by decide +kernel) (pa_cons (pv 1) pa_nil)) (pa_cons (pe_lst pa_nil) pa_nil)) (by rfl))
    (pss_cons (ps_while PassesOwn.never (pt_cmpR (show OpR _ _ (rNeD K) from op_neD hr.units) (pv 2) (pe_lst pa_nil) (nomark _))
      (pss_one (ps_expr (pe_bm PySem.F.plainAttrs_list PySem.F.slot_list_append PySem.F.type_list_append mt_append (pv 3) (pa_cons (pe_bm PySem.F.plainAttrs_list PySem.F.slot_list_pop PySem.F.type_list_pop mt_popAt (pv 2) (pa_cons (pe_has G_draw (hr.mono (by decide)) (pa_cons (pv 0) (pa_cons (pe_callB (show CallR _ _ (rLenQ K) from c_len) (by rfl) T.len_ (by decide +kernel) (pa_cons (pv 2) pa_nil)) pa_nil))) pa_nil)) pa_nil)))))
    (pss_one (ps_ret (pv 3))))), ?_⟩
    refine ⟨_, rfl, a, _, rfl, .inl ha, fun x hx => ⟨(by show 0 ≤ sizeLine; decide), fun y hy => ⟨_, _, rfl, ?_⟩⟩⟩
    have nxy : x ≠ y := ne_of_none upd_same hy
    have s2 := same_new (same_new (Same.refl H) (.lst r) hx) (.lst []) hy
    have hx2 : (upd (upd H x (.lst r)) y (.lst [])) x = some (.lst r) := by rw [upd_ne nxy]; exact upd_same
    have hy2 : (upd (upd H x (.lst r)) y (.lst [])) y = some (.lst []) := upd_same
    have hyn : H y = none := by rw [upd_ne nxy.symm] at hy; exact hy
    generalize upd (upd H x (.lst r)) y (.lst []) = H2 at s2 hx2 hy2
    have nxp := hP.nep hx
    have nyp := hP.nep hyn
    have nxc := hP.nec hx
    have nyc := hP.nec hyn
    let W : Nat → L2.St → Hp → Prop := fun n σ H' => ∃ (u t : List V), σ = [some (.ref p), some (.ref a), some (.ref x), some (.ref y)] ∧ n = t.length ∧ H' x = some (.lst t) ∧ H' y = some (.lst u) ∧ (u ++ t).Perm r ∧ Pen H' p c ns (B + u.length) ∧ But p H H'
    refine ⟨W, ⟨_, [], r, rfl, rfl, hx2, hy2, .refl _, hP.same s2, same_but s2⟩, ?_⟩
    rintro n σ H3 ⟨u, t, rfl, rfl, hx3, hy3, pm, P3, b3⟩
    have ln := pm.length_eq
    rw [List.length_append] at ln
    refine ⟨_, rfl, (by show 0 ≤ sizeLine; decide), fun q nq => ?_⟩
    have s4 := same_new (Same.refl H3) (.lst []) nq
    have b4 : But p H (upd H3 q (.lst [])) := b3.trans (same_but s4)
    obtain ⟨ds, d1, d2, d3, d4⟩ := lays_all t fun z hz => lay _ (hP.kp b4) z (pm.mem_iff.mp (List.mem_append_right _ hz))
    have sh : SeqAt.shaped (.list ds) = true := by
      unfold SeqAt.shaped
      rw [PyData.canLay0, d2, PyData.depth, decide_eq_true (by omega)]
      rfl
    refine ⟨_, _, .lst (SqL.of (s4 _ _ hx3)) d1, dp_lst (r := []) (SqL.of upd_same), sh, shaped_lst _, ?_⟩
    have hx4 := s4 _ _ hx3
    have hy4 := s4 _ _ hy3
    have P4 := P3.same s4
    generalize upd H3 q (.lst []) = H4 at hx4 hy4 P4 b4
    by_cases ht : t = []
    · subst ht
      have e0 : ds = [] := List.length_eq_zero_iff.mp d4
      subst e0
      refine ⟨false, by simp [PyData.eqv, PyData.eqvAll], iteF ?_⟩
      refine ⟨_, rfl, k y u H4 (P4.more (by simp at ln; omega) (by omega)) b4 hy4 (by simpa using pm)⟩
    · have lt : 0 < t.length := List.length_pos_iff.mpr ht
      have e0 : PyData.eqv (.list ds) (.list (([] : List Int).map PyData.int)) = false := by
        cases ds with
        | nil => rw [← d4] at lt; cases lt
        | cons => simp [PyData.eqv, PyData.eqvAll]
      refine ⟨true, by rw [e0]; rfl, iteT ?_⟩
      refine ⟨fun σ' H' => ∃ n', n' < t.length ∧ W n' σ' H', fun σ' H' h => h, ?_⟩
      refine ⟨_, rfl, .inl ⟨rfl, _, .inl (.inl hy4)⟩, _, rfl, .inl ⟨rfl, _, .inl (.inl hx4)⟩, ?_⟩
      refine ⟨_, rfl, _, rfl, x, _, rfl, .inl (SqL.of hx4), p, c, ns, _, _, rfl, P4, by omega, by omega, ?_, fun d H5 d0 d1 P5 b5 => ?_⟩
      · exact Nat.lt_of_lt_of_le (by omega : ((t.length : Int)).natAbs < 2 ^ 13) (Nat.pow_le_pow_right (by decide) (by decide))
      have hx5 := b5 _ _ hx4 nxp
      have hy5 := b5 _ _ hy4 nyp
      obtain ⟨k1, rfl⟩ := Int.eq_ofNat_of_zero_le d0
      have hk1 : k1 < t.length := by omega
      refine ⟨x, _, _, k1, _, rfl, rfl, hx5, by omega, by omega, ?_, List.getElem?_eq_getElem hk1, ?_⟩
      · unfold seqIndex?
        simp
        omega
      refine ⟨y, _, _, rfl, rfl, by rw [upd_ne nxy.symm]; exact hy5, small1000 (by omega), ?_⟩
      refine ⟨(t.eraseIdx k1).length, ?_, u ++ [t[k1]], t.eraseIdx k1, rfl, rfl, ?_, ?_, ?_, ?_, ?_⟩
      · rw [List.length_eraseIdx]
        split <;> omega
      · rw [upd_ne nxy, upd_same]
      · rw [upd_same]
      · rw [List.append_assoc]
        exact (List.Perm.append_left u (erase_permG hk1)).trans pm
      · rw [List.length_append]
        exact (P5.stay (by rw [upd_ne nyp.symm, upd_ne nxp.symm]) (by rw [upd_ne nyc.symm, upd_ne nxc.symm])).more (by simp; omega) (by simp; omega)
      · exact but_new (but_new (b4.trans b5) hx) hyn
end
end EN

namespace EN
open PySem L2 PyProof.Rows
section
variable {P : Program} {w : World} {K : PySem.W.Frag} {mg : Str → Option Value} {base : Heap} {f : Addr} {fd : FuncData}
abbrev s_lwhole : Stmt := top 26
abbrev N_lwhole : List Str := ["_law_value"]
theorem sc_lwhole : FnScope N_lwhole ["_law_value"] (defScope s_lwhole) := ⟨rfl, rfl, rfl, by decide +kernel, rfl, by decide +kernel, by decide +kernel⟩

theorem ok_lwhole (F : Fun K "_law_whole" "_law_whole" s_lwhole f fd) (T : Blt mg) : FnOk P w K mg base CX0 1 f fd ["_law_value"] (spIsWholeE K) := by
  refine F.ok sc_lwhole (fun vs H Q E h => ?_) (fun cdv A outer s H vs Q E hr h => ?_)
  · obtain ⟨_, _, rfl, _⟩ := h
    rfl
  · obtain ⟨v, e, rfl, he, k⟩ := h
    refine ⟨_, (pss_one (ps_ret (pe_and (pe_callB (show CallR _ _ (rIsi K) from call_isi) (by rfl) T.isinstance_ (by decide +kernel) (pa_cons (pv 0) (pa_cons (pe_bltn (v := .ty "int") (u := .type "int") (by rfl) T.int_ (by decide +kernel) rfl) pa_nil))) (pe_one (pe_not (pe_callB (show CallR _ _ (rIsi K) from call_isi) (by rfl) T.isinstance_ (by decide +kernel) (pa_cons (pv 0) (pa_cons (pe_bltn (v := .ty "bool") (u := .type "bool") (by rfl) T.bool_ (by decide +kernel) rfl) pa_nil)))))))), ?_⟩
    cases v with
    | int n =>
      cases e with
      | i m => exact ⟨_, rfl, .int n, .ty "int", .type "int", .type "int", true, rfl, .ty _, .base (.int _), kit_ty (by decide +kernel), true, rfl, iteT ⟨_, rfl, .int n, .ty "bool", .type "int", .type "bool", false, rfl, .ty _, .base (.int _), kit_ty (by decide +kernel), false, rfl, k⟩⟩
      | _ => exact he.elim
    | bl b =>
      cases e with
      | tru => exact ⟨_, rfl, .bl b, .ty "int", .type "bool", .type "int", true, rfl, .ty _, .base (.bl _), kit_ty (by decide +kernel), true, rfl, iteT ⟨_, rfl, .bl b, .ty "bool", .type "bool", .type "bool", true, rfl, .ty _, .base (.bl _), kit_ty (by decide +kernel), true, rfl, k⟩⟩
      | _ => exact he.elim
    | str x =>
      cases e with
      | s y => exact ⟨_, rfl, .str x, .ty "int", .type "str", .type "int", false, rfl, .ty _, .base (.str _), kit_ty (by decide +kernel), false, rfl, iteF k⟩
      | _ => exact he.elim
    | ref a =>
      cases e with
      | u => exact ⟨_, rfl, .ref a, .ty "int", .type "tuple", .type "int", false, rfl, .ty _, tyx_tup he, kit_ty (by decide +kernel), false, rfl, iteF k⟩
      | _ => exact he.elim
    | _ => exact he.elim
end
end EN

namespace EN
open PySem L2 PyProof.Rows
section
variable {P : Program} {w : World} {K : PySem.W.Frag} {mg : Str → Option Value} {base : Heap} {f : Addr} {fd : FuncData}
abbrev s_pick : Stmt := top 22
abbrev N_pick : List Str := ["_law_pen_here", "_law_options"]
theorem sc_pick : FnScope N_pick ["_law_pen_here", "_law_options"] (defScope s_pick) := ⟨rfl, rfl, rfl, by decide +kernel, rfl, by decide +kernel, by decide +kernel⟩

theorem at_any {xs : List V} {i : Int} (h0 : 0 ≤ i) (h1 : i < xs.length) : ∃ x, x ∈ xs ∧ atI xs i = some x := by
  obtain ⟨n, rfl⟩ := Int.eq_ofNat_of_zero_le h0
  have hn : n < xs.length := by omega
  exact ⟨xs[n], List.getElem_mem hn, atI_nat (List.getElem?_eq_getElem hn)⟩
theorem ok_pick (F : Fun K "_law_pick" "_law_pick" s_pick f fd) (T : Blt mg) (G_draw : Has P w K mg base 1 "_law_draw" ["_law_pen_here", "_law_many"] spDraw) : FnOk P w K mg base CX0 2 f fd ["_law_pen_here", "_law_options"] (spPick K) := by
  refine F.ok sc_pick (fun vs H Q E h => ?_) (fun cdv A outer s H vs Q E hr h => ?_)
  · obtain ⟨p, c, ns, B, l, xs, rfl, _⟩ := h
    rfl
  · obtain ⟨p, c, ns, B, l, xs, rfl, hP, hB, hS, h0, hl, k⟩ := h
    refine ⟨_, (pss_one (ps_ret (pe_ix (show IxR _ (rIx K) from ix_seq) (pv 1) (pe_has G_draw (hr.mono (by decide)) (pa_cons (pv 0) (pa_cons (pe_callB (show CallR _ _ (rLenQ K) from c_len) (by rfl) T.len_ (by decide +kernel) (pa_cons (pv 1) pa_nil)) pa_nil))) (fun _ _ => rfl)))), ?_⟩
    refine ⟨_, rfl, _, rfl, _, rfl, l, xs, rfl, hS, p, c, ns, B, (xs.length : Int), rfl, hP, hB, by omega, ?_, fun d H1 d0 d1 P1 s1 => ?_⟩
    · exact Nat.lt_of_le_of_lt (by omega : (xs.length : Int).natAbs ≤ 1000) (Nat.lt_of_lt_of_le (by decide : 1000 < 2 ^ 10) (Nat.pow_le_pow_right (by decide) (by decide)))
    · obtain ⟨x, hx, hat⟩ := at_any (xs := xs) d0 d1
      rcases hS with hS | hS
      · exact .inl ⟨l, xs, d, x, rfl, rfl, hP.sqL s1 hS, hat, k x hx H1 P1 s1⟩
      · exact .inr (.inl ⟨l, xs, d, x, rfl, rfl, hP.sqT s1 hS, hat, k x hx H1 P1 s1⟩)
end
end EN

namespace EN
open PySem L2 PyProof.Rows
section
variable {P : Program} {w : World} {K : PySem.W.Frag} {mg : Str → Option Value} {base : Heap} {f : Addr} {fd : FuncData}
def spLawH (K : PySem.W.Frag) : Sp := fun vs H Q _ => ∃ (a : Addr) (ns : List Int), vs = [.ref a] ∧ SqL K H a (ns.map V.int) ∧ ns.length ≤ 63 ∧ ∀ H' : Hp, Q (.bl true) H'
theorem RowsAt.kp {H H' : Hp} {bs : List Addr} {F : List (List Int)} (h : RowsAt K H bs F) (k : Kp K H H') : RowsAt K H' bs F := ⟨h.1, fun i b r e1 e2 => k.t _ _ (h.2 i b r e1 e2)⟩
theorem lays_int {H : Hp} (k : Int) : Lays K H (.int k) := ⟨.int k, .int k, by simp [PyData.canLay0], by simp [PyData.depth]⟩
/-- a perm of ints is ints -/
theorem perm_ints {r' : List V} {r : List Int} (h : r'.Perm (r.map V.int)) : ∃ r2 : List Int, r' = r2.map V.int ∧ r2.Perm r := by
  let un : V → Int := fun v => match v with | .int k => k | _ => 0
  refine ⟨r'.map un, ?_, ?_⟩
  · rw [List.map_map]
    have : ∀ x ∈ r', (V.int ∘ un) x = id x := fun x hx => by
      obtain ⟨k, _, rfl⟩ := List.mem_map.mp (h.mem_iff.mp hx)
      rfl
    rw [List.map_congr_left this, List.map_id]
  · have := h.map un
    rw [List.map_map] at this
    have e : r.map (un ∘ V.int) = r := by
      have : r.map (un ∘ V.int) = r.map id := List.map_congr_left fun x _ => rfl
      rw [this, List.map_id]
    rwa [e] at this
theorem genG {H : Hp} {t : Addr} {bs : List Addr} {R : List (List Int)} {n : Nat} {CR : Addr} {Q : VK} {E : XK} (h4 : n ≤ 4) (ht : SqT K H t (bs.map V.ref)) (hR : RowsAt K H bs R) (hl : bs.length ≤ 40) (hRP : ∀ r ∈ R, RP n r)
    (k : ∀ (u : Addr) (cs : List Addr) (H' : Hp), Same H H' → H' u = some (.tup (cs.map V.ref)) → RowsAt K H' cs (grp n R) → Q (.ref u) H') : spGenerated K CR [.int (n : Int), .ref t] H Q E := by
  have hthi : ∀ (i : Nat) (th : Th), (R.map fun r => Th.tup (r.map El.i))[i]? = some th → ∃ r, R[i]? = some r ∧ th = .tup (r.map El.i) ∧ RP n r := fun i th h => by
    rw [List.getElem?_map] at h
    cases hr : R[i]? with
    | none => rw [hr] at h; cases h
    | some r =>
      rw [hr] at h
      cases h
      exact ⟨r, rfl, rfl, hRP r (List.mem_of_getElem? hr)⟩
  refine ⟨t, bs.map V.ref, R.map fun r => .tup (r.map El.i), n, rfl, h4, ht, by rw [List.length_map]; exact hl, ⟨by rw [List.length_map, List.length_map, hR.1], fun i x th e1 e2 => ?_⟩, fun i x th e1 e2 no => ?_, fun R2 l2 rp2 nu2 u cs H' s hu hrw => ?_⟩
  · obtain ⟨r, er, rfl, rp⟩ := hthi i th e2
    rw [List.getElem?_map] at e1
    cases hb : bs[i]? with
    | none => rw [hb] at e1; cases e1
    | some b =>
      rw [hb] at e1
      cases e1
      exact thAt_ints (hR.2 i b r hb er) (by rw [rp.1]; omega)
  · obtain ⟨r, er, rfl, rp⟩ := hthi i th e2
    exact absurd ⟨r, intsOf_map r, by rw [rp.1]; exact rp, by rw [rp.1]⟩ no
  · have e : R2 = R := by
      rw [List.length_map] at l2
      refine List.ext_getElem l2 fun i h1 h2 => ?_
      have := nu2 i (.tup (R[i].map El.i)) R2[i] (by rw [List.getElem?_map, List.getElem?_eq_getElem h2]; rfl) (List.getElem?_eq_getElem h1)
      have e2 : (Th.tup (R[i].map El.i)).nums = some R[i] := intsOf_map _
      rw [e2] at this
      exact (Option.some.inj this).symm
    subst e
    exact k u cs H' s hu hrw
theorem RowsAt.append {H : Hp} {bs cs : List Addr} {F G : List (List Int)} (h : RowsAt K H bs F) (g : RowsAt K H cs G) : RowsAt K H (bs ++ cs) (F ++ G) := by
  refine ⟨by rw [List.length_append, List.length_append, h.1, g.1], fun i b r e1 e2 => ?_⟩
  by_cases hi : i < bs.length
  · rw [List.getElem?_append_left hi] at e1
    rw [List.getElem?_append_left (by rw [← h.1]; exact hi)] at e2
    exact h.2 i b r e1 e2
  · rw [List.getElem?_append_right (by omega)] at e1
    rw [List.getElem?_append_right (by rw [← h.1]; omega), ← h.1] at e2
    exact g.2 _ b r e1 e2
theorem RowsAt.take {H : Hp} {bs : List Addr} {F : List (List Int)} (h : RowsAt K H bs F) (k : Nat) : RowsAt K H (bs.take k) (F.take k) := by
  refine ⟨by rw [List.length_take, List.length_take, h.1], fun i b r e1 e2 => ?_⟩
  rw [List.getElem?_take] at e1 e2
  split at e1
  · rename_i hk
    rw [if_pos hk] at e2
    exact h.2 i b r e1 e2
  · cases e1
theorem lit8 (m : Int) (h0 : 0 < m) (h1 : m < 5000) : m.natAbs < 2 ^ 8000 := Nat.lt_of_lt_of_le (by omega : m.natAbs < 2 ^ 13) (Nat.pow_le_pow_right (by decide) (by decide))
theorem el_at {n : Nat} {s : List Int} (h : ∀ x ∈ s, 0 ≤ x ∧ x < n) {k : Nat} (hk : k < s.length) : ∃ x : Nat, x < n ∧ s.getD k 0 = (x : Int) ∧ (s.map V.int)[k]? = some (.int (x : Int)) := by
  have hg := get_int (r := s) hk
  have hm := h _ (List.mem_of_getElem? hg.2)
  refine ⟨(s.getD k 0).toNat, by omega, by omega, ?_⟩
  rw [show (((s.getD k 0).toNat : Nat) : Int) = s.getD k 0 by omega]
  exact hg.1
theorem cut_to (xs : List V) (k : Nat) : cutV xs none (some (k : Int)) = xs.take k := by
  unfold cutV
  rw [HT.sIx_none, HT.sIx_nat, List.drop_zero, Nat.sub_zero]
  by_cases h : k ≤ xs.length
  · rw [Nat.min_eq_left h]
  · rw [Nat.min_eq_right (by omega), List.take_length, List.take_of_length_le (by omega)]
theorem rgc2 {m : Nat} (h : m ≤ 4) : RgC 0 ((m : Int) - 1) 2 (m / 2) := by
  have : ∀ m : Nat, m ≤ 4 → RgC 0 ((m : Int) - 1) 2 (m / 2) := by
    unfold RgC
    decide +kernel
  exact this m h
theorem ixN_at {n x : Nat} (h : x < n) : ixN n (x : Int) = some x := by
  unfold ixN
  rw [if_pos (by omega), if_pos (by omega), Int.toNat_natCast]
structure GrOk (n : Nat) (A : List (List Int)) : Prop where
  on : only n A = A
  rp : ∀ r ∈ A, RP n r
  pos : 0 < A.length
  len : A.length ≤ 24
  nd : A.Nodup
theorem GrOk.grp {n : Nat} (h4 : n ≤ 4) {R : List (List Int)} (hR : ∀ r ∈ R, RP n r) : GrOk n (grp n R) := ⟨grp_only h4, grp_rp h4, grp_pos h4 hR, Nat.le_trans (List.length_filter_le _ _) (turns_len h4), by rw [← grp_only h4]; exact only_nodup h4 _⟩
theorem GrOk.cj {n : Nat} (h4 : n ≤ 4) {c : List Int} (hc : RP n c) {A : List (List Int)} (h : GrOk n A) : GrOk n (cj n c A) := ⟨cj_only, only_rp h4, cj_pos h4 hc h.rp h.pos, only_len h4 _, only_nodup h4 _⟩
def GrA (K : PySem.W.Frag) (H : Hp) (u : Addr) (A : List (List Int)) : Prop := ∃ cs : List Addr, SqT K H u (cs.map V.ref) ∧ RowsAt K H cs A
theorem GrA.kp {H H' : Hp} {u : Addr} {A : List (List Int)} (h : GrA K H u A) (k : Kp K H H') : GrA K H' u A := by
  obtain ⟨cs, h1, h2⟩ := h
  exact ⟨cs, k.t _ _ h1, h2.kp k⟩
theorem GrA.upd {H : Hp} {u g : Addr} {A : List (List Int)} {xs : List V} {o : HO} (h : GrA K H u A) (hg : H g = some (.lst xs)) : GrA K (L2.upd H g o) u A := by
  obtain ⟨cs, h1, h2⟩ := h
  exact ⟨cs, sqT_updL h1 hg, h2.upd hg⟩
theorem shaped_of {d : PyData} (h1 : PyData.canLay0 d = true) (h2 : PyData.depth d ≤ 5) : SeqAt.shaped d = true := by
  unfold SeqAt.shaped
  rw [h1, decide_eq_true (by omega)]
  rfl
theorem shaped_ofL {ds : List PyData} (h1 : PyData.canLayAll0 ds = true) (h2 : PyData.depthAll ds ≤ 5) : SeqAt.shaped (.list ds) = true := by
  unfold SeqAt.shaped
  rw [PyData.canLay0, h1, PyData.depth, decide_eq_true (by omega)]
  rfl
theorem compG {H : Hp} {a b : Addr} {p q : List Int} {n : Nat} {CR : Addr} {Q : VK} {E : XK} (h4 : n ≤ 4) (ha : SqT K H a (p.map V.int)) (hb : SqT K H b (q.map V.int)) (hp : RP n p) (hq : RP n q) (k : ∀ (t : Addr) (H' : Hp), Same H H' → SqT K H' t ((comp p q).map V.int) → Q (.ref t) H') : spCompose K CR [.ref a, .ref b] H Q E := by
  refine ⟨.ref a, .ref b, .tup (p.map El.i), .tup (q.map El.i), rfl, thAt_ints ha (by rw [hp.1]; omega), thAt_ints hb (by rw [hq.1]; omega), fun bad => absurd hp.isRen bad, fun p' ep _ bad => ?_, fun p' q' ep eq _ _ t H' s ht => ?_⟩
  · have e2 : (Th.tup (p.map El.i)).nums = some p := intsOf_map p
    rw [e2] at ep
    cases ep
    exact absurd ⟨q, intsOf_map q, by rw [hq.1]; exact hq, by rw [hp.1, hq.1]⟩ bad
  · have e2 : (Th.tup (p.map El.i)).nums = some p := intsOf_map p
    have e3 : (Th.tup (q.map El.i)).nums = some q := intsOf_map q
    rw [e2] at ep
    rw [e3] at eq
    cases ep
    cases eq
    exact k t H' s ht
theorem invG {H : Hp} {a : Addr} {p : List Int} {n : Nat} {CR : Addr} {Q : VK} {E : XK} (h4 : n ≤ 4) (ha : SqT K H a (p.map V.int)) (hp : RP n p) (k : ∀ (t : Addr) (H' : Hp), Same H H' → SqT K H' t ((inv p).map V.int) → Q (.ref t) H') : spInverse K CR [.ref a] H Q E := by
  refine ⟨.ref a, .tup (p.map El.i), rfl, thAt_ints ha (by rw [hp.1]; omega), fun bad => absurd hp.isRen bad, fun p' ep _ t H' s ht => ?_⟩
  have e2 : (Th.tup (p.map El.i)).nums = some p := intsOf_map p
  rw [e2] at ep
  cases ep
  exact k t H' s ht
theorem shaped_non : SeqAt.shaped .none = true := shaped_of (by simp [PyData.canLay0]) (by simp [PyData.depth])
abbrev s_law : Stmt := top 28
abbrev N_law : List Str := ["_law_script", "_law_pen_here", "_law_size", "_law_groups", "_law_k", "_law_rows", "_law_spots", "_law_made", "_law_at", "_law_each", "_law_turned", "_law_two", "_law_due", "_law_told", "_law_c", "_law_j", "_law_p"]
theorem sc_law : FnScope N_law ["_law_script"] (defScope s_law) := ⟨rfl, rfl, rfl, by decide +kernel, rfl, by decide +kernel, by decide +kernel⟩

theorem ok_law {CR : Addr} (F : Fun K "law" "law" s_law f fd) (T : Blt mg) (G_pen : Has P w K mg base 1 "_law_pen" ["_law_script"] (spPen K)) (G_draw : Has P w K mg base 1 "_law_draw" ["_law_pen_here", "_law_many"] spDraw) (G_shuffled : Has P w K mg base 2 "_law_shuffled" ["_law_pen_here", "_law_items"] (spShufG K)) (G_pick : Has P w K mg base 2 "_law_pick" ["_law_pen_here", "_law_options"] (spPick K))
    (G_lwhole : Has P w K mg base 1 "_law_whole" ["_law_value"] (spIsWholeE K)) (G_turns : Has P w K mg base 7 "_law_turns" ["_law_size"] (spTurns K)) (G_carried : Has P w K mg base 8 "_law_carried" ["_law_size", "_law_group", "_law_c"] (spCarried K)) (G_conjugate : Has P w K mg base 2 "conjugate" ["first", "second"] (spConj K))
    (G_generated : HasX P w K mg base 4 "generated" ["size", "rows"] (spGenerated K CR)) (G_compose : HasX P w K mg base 4 "compose" ["p", "q"] (spCompose K CR)) (G_inverse : HasX P w K mg base 4 "inverse" ["p"] (spInverse K CR)) :
    FnOk P w K mg base CX0 9 f fd ["_law_script"] (spLawH K) := by
  refine F.ok sc_law (fun vs H Q E h => ?_) (fun cdv A outer s H vs Q E hr h => ?_)
  · obtain ⟨_, _, rfl, _⟩ := h
    rfl
  · obtain ⟨a, ns, rfl, hS, hn, k⟩ := h
    refine ⟨_, (pss_cons (ps_set (i := 1) sc_law.nd rfl (Or.inr rfl) (pe_has G_pen (hr.mono (by decide)) (pa_cons (pv 0) pa_nil)))
    (pss_cons (ps_set (i := 2) sc_law.nd rfl (Or.inr rfl) (pe_has G_draw (hr.mono (by decide)) (pa_cons (pv 1) (pa_cons pe_int pa_nil))))
    (pss_cons (ps_set (i := 3) sc_law.nd rfl (Or.inl rfl) (pe_lst pa_nil))
    (pss_cons (ps_for PassesOwn.never rfl (pi_range1 (by rfl) T.range_ (pa_cons pe_int pa_nil)) (pg_name (i := 4) sc_law.nd rfl (Or.inl rfl))
      (pss_cons (ps_setLc (i := 5) (own := [("_law_j", 15)]) (g := gName 15) (tt := tYes) (by rfl) sc_law.nd rfl rfl (sw_true rfl rfl rfl (by decide +kernel)) (pi_range1 (by rfl) T.range_ (pa_cons (pe_has G_draw (hr.mono (by decide)) (pa_cons (pv 1) (pa_cons pe_int pa_nil))) pa_nil)) (blkOk_by (own := [("_law_j", 15)]) (N := N_law) (sc := defScope s_law) (by decide +kernel)) (fun _ _ _ _ _ => (pg_name (i := 15) sc_law.nd rfl (by first | exact Or.inl rfl | exact Or.inr rfl))) (fun _ _ _ _ _ => pts_nil) (fun _ _ _ _ _ => (pe_callTy (show CallR _ _ (rTupQ K) from c_tuple) (by rfl) T.tuple_ (by decide +kernel) (pa_cons (pe_has G_shuffled (hr.mono (by decide)) (pa_cons (pv 1) (pa_cons (pe_listRg rfl (by rfl) T.list_ (prg_1 (by rfl) T.range_ (pv 2))) pa_nil))) pa_nil))))
      (Evl.pss_cut (ps_if (pt_cmpR op_eq (pe_has G_draw (hr.mono (by decide)) (pa_cons (pv 1) (pa_cons pe_int pa_nil))) pe_int (nomark _))
        (pss_cons (ps_set (i := 6) sc_law.nd rfl (Or.inl rfl) (pe_slice (show SlR _ (rSlL K) from sl_list) (pe_has G_shuffled (hr.mono (by decide)) (pa_cons (pv 1) (pa_cons (pe_listRg rfl (by rfl) T.list_ (prg_1 (by rfl) T.range_ (pv 2))) pa_nil))) po_none (po_some (pe_op op_mulW pe_int (pe_has G_draw (hr.mono (by decide)) (pa_cons (pv 1) (pa_cons pe_int pa_nil)))))))
        (pss_cons (ps_set (i := 7) sc_law.nd rfl (Or.inl rfl) (pe_listRg rfl (by rfl) T.list_ (prg_1 (by rfl) T.range_ (pv 2))))
        (pss_cons (ps_for PassesOwn.never rfl (pi_range3 (by rfl) T.range_ (pa_cons pe_int (pa_cons (pe_op op_sub (pe_callB (show CallR _ _ (rLenQ K) from c_len) (by rfl) T.len_ (by decide +kernel) (pa_cons (pv 6) pa_nil)) pe_int) (pa_cons pe_int pa_nil)))) (pg_name (i := 8) sc_law.nd rfl (Or.inl rfl))
          (pss_cons (ps_asg (pe_ix (show IxR _ (rIxL K) from ix_list) (pv 6) (pe_op op_add (pv 8) pe_int) (fun _ _ => rfl)) (pg_sub (pv 7) (pe_ix (show IxR _ (rIxL K) from ix_list) (pv 6) (pv 8) (fun _ _ => rfl)) set_list))
          (pss_one (ps_asg (pe_ix (show IxR _ (rIxL K) from ix_list) (pv 6) (pv 8) (fun _ _ => rfl)) (pg_sub (pv 7) (pe_ix (show IxR _ (rIxL K) from ix_list) (pv 6) (pe_op op_add (pv 8) pe_int) (fun _ _ => rfl)) set_list)))))
        (pss_one (ps_set (i := 5) sc_law.nd rfl (Or.inl rfl) (pe_op op_cat (pe_slice (show SlR _ (rSlL K) from sl_list) (pv 5) po_none (po_some (pe_op op_fdivW (pe_has G_draw (hr.mono (by decide)) (pa_cons (pv 1) (pa_cons pe_int pa_nil))) pe_int))) (pe_lst (pa_cons (pe_callTy (show CallR _ _ (rTupQ K) from c_tuple) (by rfl) T.tuple_ (by decide +kernel) (pa_cons (pv 7) pa_nil)) pa_nil))))))))
        pss_nil)
      (pss_one (ps_expr (pe_bm PySem.F.plainAttrs_list PySem.F.slot_list_append PySem.F.type_list_append mt_append (pv 3) (pa_cons (pe_hasX G_generated (passL) (hr.mono (by decide)) (pa_cons (pv 2) (pa_cons (pe_callTy (show CallR _ _ (rTupQ K) from c_tuple) (by rfl) T.tuple_ (by decide +kernel) (pa_cons (pv 5) pa_nil)) pa_nil))) pa_nil)))))))
    (pss_cons (ps_set (i := 9) sc_law.nd rfl (Or.inr rfl) (pe_ix (show IxR _ (rIxL K) from ix_list) (pv 3) pe_int (fun _ _ => rfl)))
    (pss_cons (ps_set (i := 10) sc_law.nd rfl (Or.inl rfl) (pe_callTy (show CallR _ _ (rTupQ K) from c_tuple) (by rfl) T.tuple_ (by decide +kernel) (pa_cons (pe_has G_shuffled (hr.mono (by decide)) (pa_cons (pv 1) (pa_cons (pe_listRg rfl (by rfl) T.list_ (prg_1 (by rfl) T.range_ (pv 2))) pa_nil))) pa_nil)))
    (pss_cons (ps_set (i := 11) sc_law.nd rfl (Or.inr rfl) (pe_has G_pick (hr.mono (by decide)) (pa_cons (pv 1) (pa_cons (pe_lst (pa_cons (pe_ix (show IxR _ (rIxL K) from ix_list) (pv 3) pe_int (fun _ _ => rfl)) (pa_cons (pe_has G_carried (hr.mono (by decide)) (pa_cons (pv 2) (pa_cons (pv 9) (pa_cons (pv 10) pa_nil)))) (pa_cons (pe_ix (show IxR _ (rIxL K) from ix_list) (pv 3) pe_int (fun _ _ => rfl)) pa_nil)))) pa_nil))))
    (pss_cons (ps_setLc (i := 12) (own := [("_law_c", 14)]) (g := gName 14) (by rfl) sc_law.nd rfl rfl (sw_true rfl rfl rfl (by decide +kernel)) (pi_list (pe_has G_turns (hr.mono (by decide)) (pa_cons (pv 2) pa_nil))) (blkOk_by (own := [("_law_c", 14)]) (N := N_law) (sc := defScope s_law) (by decide +kernel)) (fun _ _ _ _ _ => (pg_name (i := 14) sc_law.nd rfl (by first | exact Or.inl rfl | exact Or.inr rfl))) (fun _ _ _ _ _ => (pts_one (pt_cmpR (show OpR _ _ (rEqD K) from op_eqD hr.units) (pe_has G_carried (hr.mono (by decide)) (pa_cons (pv 2) (pa_cons (pv 9) (pa_cons (pv 14) pa_nil)))) (pv 11) (nomark _)))) (fun _ _ _ _ _ => (pv 14)))
    (pss_cons (ps_set (i := 13) sc_law.nd rfl (Or.inr rfl) (pe_has G_conjugate (hr.mono (by decide)) (pa_cons (pv 9) (pa_cons (pv 11) pa_nil))))
    (pss_cons (ps_if (PW.pt (pw_or (pt_cmpR (show OpR _ _ (rNeD K) from op_neD hr.units) (pv 13) (pe_ifExp (pt_cmpR (show OpR _ _ (rNeD K) from op_neD hr.units) (pv 12) (pe_lst pa_nil) (nomark _)) (pe_ix (show IxR _ (rIxL K) from ix_list) (pv 12) pe_int (fun _ _ => rfl)) pe_non) (nomark _)) (pw_or1 (pt_cmpR op_ne (pe_cmpR op_isN (pv 13) pe_non (nomark _)) (pe_cmpR op_isN (pe_has G_conjugate (hr.mono (by decide)) (pa_cons (pv 11) (pa_cons (pv 9) pa_nil))) pe_non (nomark _)) (nomark _)))))
      (pss_one (ps_ret pe_bl))
      pss_nil)
    (pss_cons (ps_if (pt_cmpR op_isN (pv 13) pe_non (nomark _))
      (pss_one (ps_ret pe_bl))
      pss_nil)
    (pss_cons (ps_if (PW.pt (pw_or (pt_not (pt_val (pe_callB (show CallR _ _ (rIsi K) from call_isi) (by rfl) T.isinstance_ (by decide +kernel) (pa_cons (pv 13) (pa_cons (pe_bltn (v := .ty "tuple") (u := .type "tuple") (by rfl) T.tuple_ (by decide +kernel) rfl) pa_nil))))) (pw_or1 (pt_not (pt_val (pe_callB (show CallR _ _ (rAll K) from cr_all rfl) (by rfl) T.all_ (by decide +kernel) (pa_cons (pe_lc (own := [("_law_at", 8)]) (g := gName 8) (tt := tYes) (by rfl) sc_law.nd (show PI _ _ _ (iTup K (tVar 13)) from pi_tup (pv 13)) (blkOk_by (own := [("_law_at", 8)]) (N := N_law) (sc := defScope s_law) (by decide +kernel)) (fun _ _ _ _ _ => (pg_name (i := 8) sc_law.nd rfl (by first | exact Or.inl rfl | exact Or.inr rfl))) (fun _ _ _ _ _ => pts_nil) (fun _ _ _ _ _ => (pe_has G_lwhole (hr.mono (by decide)) (pa_cons (pv 8) pa_nil)))) pa_nil)))))))
      (pss_one (ps_ret pe_bl))
      pss_nil)
    (pss_one (ps_ret (pe_callB (show CallR _ _ (rAll K) from cr_all rfl) (by rfl) T.all_ (by decide +kernel) (pa_cons (pe_lc (own := [("_law_p", 16)]) (g := gName 16) (tt := tYes) (by rfl) sc_law.nd (show PI _ _ _ (iTup K (tVar 9)) from pi_tup (pv 9)) (blkOk_by (own := [("_law_p", 16)]) (N := N_law) (sc := defScope s_law) (by decide +kernel)) (fun _ _ _ _ _ => (pg_name (i := 16) sc_law.nd rfl (by first | exact Or.inl rfl | exact Or.inr rfl))) (fun _ _ _ _ _ => pts_nil) (fun _ _ _ _ _ => (pe_cmpR (show OpR _ _ (ZK.rInDT K) from ZK.op_inDT (r65 hr)) (pe_hasX G_compose (passL) (hr.mono (by decide)) (pa_cons (pe_hasX G_compose (passL) (hr.mono (by decide)) (pa_cons (pv 13) (pa_cons (pv 16) pa_nil))) (pa_cons (pe_hasX G_inverse (passL) (hr.mono (by decide)) (pa_cons (pv 13) pa_nil)) pa_nil))) (pv 11) (by rfl)))) pa_nil)))))))))))))))), ?_⟩
    refine ⟨_, rfl, a, ns, rfl, hS, hn, fun p c H1 s1 np nc P1 => ?_⟩
    clear hS
    refine ⟨_, rfl, p, c, ns, 0, 5, rfl, P1, by decide, by decide, lit8 _ (by decide) (by decide), fun n0 H2 n1 n2 P2 b2 => ?_⟩
    obtain ⟨n, rfl⟩ := Int.eq_ofNat_of_zero_le n1
    have hn4 : n ≤ 4 := by omega
    clear b2 P1 s1 np nc
    refine ⟨(by show 0 ≤ sizeLine; decide), fun g ng => ?_⟩
    have ngp := P2.nep ng
    have ngc := P2.nec ng
    have P3 := P2.new (u := .lst []) ng
    have hg3 : (L2.upd H2 g (.lst [])) g = some (.lst (([] : List Addr).map V.ref)) := upd_same
    generalize L2.upd H2 g (.lst []) = H3 at P3 hg3 ⊢
    refine ⟨2, rfl, by decide, by decide, ?_⟩
    rw [show ((2 : Int)).toNat = 2 from rfl]
    refine for_range (lo := 0) (n := 2) (fun i σ H' => ∃ (v4 v5 v6 v7 v8 : Option V) (us : List Addr), σ = [some (.ref a), some (.ref p), some (.int (n : Int)), some (.ref g), v4, v5, v6, v7, v8, none, none, none, none, none, none, none, none] ∧ Pen H' p c ns (300 * (i + 1)) ∧ H' g = some (.lst (us.map V.ref)) ∧ us.length = i ∧ ∀ u ∈ us, ∃ R, (∀ r ∈ R, RP n r) ∧ GrA K H' u (grp n R)) ⟨none, none, none, none, none, [], rfl, P3.more (by omega) (by decide), hg3, rfl, fun u hu => by simp at hu⟩ ?_ ?_
    · rintro i σ H4 hi ⟨v4, v5, v6, v7, v8, us, rfl, P4, hg4, lu, hus⟩
      refine ⟨_, rfl, p, c, ns, _, 3, rfl, P4, by omega, by decide, lit8 _ (by decide) (by decide), fun m0 H5 m1 m2 P5 b5 => ?_⟩
      obtain ⟨m, rfl⟩ := Int.eq_ofNat_of_zero_le m1
      refine ⟨(m : Int), rfl, by omega, by omega, fun D hD => ?_⟩
      rw [Int.toNat_natCast]
      have nDp := P5.nep hD
      have nDc := P5.nec hD
      refine ZK.lc_growF m (small1000 (by omega)) (fun j acc H' => Pen H' p c ns (300 * (i + 1) + 2 + 40 * j) ∧ But p H5 H' ∧ ∃ (bs : List Addr) (R : List (List Int)), acc = bs.map V.ref ∧ RowsAt K H' bs R ∧ (∀ r ∈ R, RP n r) ∧ R.length = j) ⟨(P5.new hD).more (by omega) (by omega), (But.refl _ _).new _ hD, [], [], rfl, ⟨rfl, fun i b r h1 => by simp at h1⟩, fun r hr => by simp at hr, rfl⟩ (fun i acc H' hi hI => hi) (fun acc H' hI => Nat.le_refl _) ?_ ?_
      · rintro j H6 x H' acc hj ⟨P6, b6, bs, R, rfl, hR, hRP, lR⟩ hacc hal ⟨rfl, rfl⟩ N hN
        refine ⟨rfl, yesT' (iteT ?_)⟩
        refine ⟨_, rfl, _, rfl, _, rfl, RgOk.of_le (by decide) (by omega) (by decide) (by omega), fun q nq => ?_⟩
        rw [rg_upto]
        have s7 := same_new (Same.refl H') (.lst ((upto n).map V.int)) nq
        have P7 := P6.same s7
        refine ⟨p, c, q, ns, (upto n).map V.int, _, rfl, P7, by omega, SqL.of upd_same, by rw [List.length_map, upto_len]; omega, fun H' _ x hx => ?_, fun l r' H8 P8 b8 h8 pm => ?_⟩
        · obtain ⟨z, _, rfl⟩ := List.mem_map.mp hx
          exact lays_int z
        obtain ⟨r2, rfl, pm2⟩ := perm_ints pm
        have b68 := (same_but (p := p) s7).trans b8
        have K68 := P6.kp (K := K) b68
        refine ⟨l, _, rfl, .inl ⟨SqL.of h8, fun t nt => ?_⟩⟩
        have s9 := same_new (Same.refl H8) (.tup (r2.map V.int)) nt
        have hacc9 := s9 _ _ (b68 _ _ hacc nDp)
        have P9 := P8.same s9
        have K9 := K68.trans (Kp.of s9)
        have hrr : RP n r2 := ⟨by rw [pm2.length_eq, upto_len], pm2⟩
        have ht9 : SqT K (L2.upd H8 t (.tup (r2.map V.int))) t (r2.map V.int) := SqT.of upd_same
        have b69 := b68.trans (same_but s9)
        generalize L2.upd H8 t (.tup (r2.map V.int)) = H9 at hacc9 P9 K9 ht9 b69 ⊢
        refine ⟨bs.map V.ref, hacc9, small1000 (by rw [List.length_map, hR.1]; omega), hN _ (bs.map V.ref ++ [.ref t]) ⟨(P9.stay (upd_ne nDp.symm) (upd_ne nDc.symm)).more (by omega) (by omega), but_new (b6.trans b69) hD, bs ++ [t], R ++ [r2], by rw [List.map_append]; rfl, ((hR.kp K9).snoc ht9).upd hacc9, fun r hr => ?_, by rw [List.length_append, lR]; rfl⟩ upd_same (by rw [List.length_append]; exact Nat.succ_le_succ hal)⟩
        rcases List.mem_append.mp hr with h | h
        · exact hRP r h
        · simp at h
          rw [h]
          exact hrr
      rintro H6 acc ⟨P6', b6', bs, R, rfl, hR, hRP, lR⟩ hacc _
      have P6 : Pen H6 p c ns (300 * (i + 1) + 100) := P6'.more (by omega) (by omega)
      have b46 := b5.trans b6'
      clear P6' b6' hD nDc P5 b5
      have lR2 : R.length ≤ 2 := by omega
      refine ⟨fun σ H' => ∃ (l : Addr) (bs : List Addr) (R : List (List Int)) (v6 v7 v8 : Option V), σ = [some (.ref a), some (.ref p), some (.int (n : Int)), some (.ref g), some (.int (0 + (i : Int))), some (.ref l), v6, v7, v8, none, none, none, none, none, none, none, none] ∧ Pen H' p c ns (300 * (i + 1) + 200) ∧ But p H4 H' ∧ H' l = some (.lst (bs.map V.ref)) ∧ RowsAt K H' bs R ∧ (∀ r ∈ R, RP n r) ∧ R.length ≤ 3, ?_, ?_⟩
      · refine ⟨_, rfl, p, c, ns, _, 2, rfl, P6, by omega, by decide, lit8 _ (by decide) (by decide), fun d0 H7 d1 d2 P7 b7 => ?_⟩
        have K7 := P6.kp (K := K) b7
        have hD7 := b7 _ _ hacc nDp
        refine ⟨rfl, _, rfl, ite2 (fun h0 => ?_) (fun h0 => ?_)⟩
        · refine ⟨_, rfl, _, rfl, _, rfl, RgOk.of_le (by decide) (by omega) (by decide) (by omega), fun q nq => ?_⟩
          rw [rg_upto]
          have s8 := same_new (Same.refl H7) (.lst ((upto n).map V.int)) nq
          refine ⟨p, c, q, ns, (upto n).map V.int, _, rfl, P7.same s8, by omega, SqL.of upd_same, by rw [List.length_map, upto_len]; omega, fun H' _ x hx => ?_, fun l r' H9 P9 b9 h9 pm => ?_⟩
          · obtain ⟨z, _, rfl⟩ := List.mem_map.mp hx
            exact lays_int z
          obtain ⟨r, rfl, pm2⟩ := perm_ints pm
          have hrr : RP n r := ⟨by rw [pm2.length_eq, upto_len], pm2⟩
          have b79 := (same_but (p := p) s8).trans b9
          clear pm pm2 s8 nq b9
          refine ⟨_, rfl, p, c, ns, _, 3, rfl, P9, by omega, by decide, lit8 _ (by decide) (by decide), fun e0 H10 e1 e2 P10 b10 => ?_⟩
          obtain ⟨e, rfl⟩ := Int.eq_ofNat_of_zero_le e1
          have he2 : e ≤ 2 := by omega
          have b70 := b79.trans b10
          have h9b : SqL K H10 l (r.map V.int) := (P9.kp (K := K) b10).l _ _ (SqL.of h9)
          have K70 := P7.kp (K := K) b70
          have hD10 := b70 _ _ hD7 nDp
          clear h9 P9 b10 b79
          refine ⟨_, _, rfl, rfl, ?_, _, rfl, l, _, rfl, h9b, fun s1 ns1 => ?_⟩
          · show (2 : Int).natAbs.log2 + (e : Int).natAbs.log2 < 1000000
            have : e = 0 ∨ e = 1 ∨ e = 2 := by omega
            rcases this with rfl | rfl | rfl <;> decide
          rw [show (2 : Int) * (e : Int) = ((2 * e : Nat) : Int) by omega, cut_to, ← List.map_take]
          have s11 := same_new (Same.refl H10) (.lst ((r.take (2 * e)).map V.int)) ns1
          have hs1 : (L2.upd H10 s1 (.lst ((r.take (2 * e)).map V.int))) s1 = some (.lst ((r.take (2 * e)).map V.int)) := upd_same
          generalize L2.upd H10 s1 (.lst ((r.take (2 * e)).map V.int)) = H11 at s11 hs1 ⊢
          refine ⟨_, rfl, _, rfl, RgOk.of_le (by decide) (by omega) (by decide) (by omega), fun md nmd => ?_⟩
          rw [rg_upto]
          have s12 := same_new (Same.refl H11) (.lst ((upto n).map V.int)) nmd
          have hsl : ∀ x ∈ r.take (2 * e), 0 ≤ x ∧ x < n := fun x hx => hrr.mem.mp (List.mem_of_mem_take hx)
          have hsw := swapR_rp hn4 hrr he2
          have hl4 : (r.take (2 * e)).length ≤ 4 := by rw [List.length_take, hrr.1]; omega
          generalize r.take (2 * e) = sp at hs1 hsl hsw hl4
          have hm12 : (L2.upd H11 md (.lst ((upto n).map V.int))) md = some (.lst ((swapR sp n 0).map V.int)) := upd_same
          generalize L2.upd H11 md (.lst ((upto n).map V.int)) = H12 at s12 hm12 ⊢
          refine ⟨_, rfl, s1, _, rfl, .inl (SqL.of (s12 _ _ hs1)), _, _, rfl, rfl, 0, _, 2, sp.length / 2, rfl, by rw [List.length_map]; exact rgc2 hl4, ?_⟩
          refine for_rangeC (lo := 0) (c := 2) (n := sp.length / 2) (fun j σ H' => ∃ v8 : Option V, σ = [some (.ref a), some (.ref p), some (.int (n : Int)), some (.ref g), some (.int (0 + (i : Int))), some (.ref D), some (.ref s1), some (.ref md), v8, none, none, none, none, none, none, none, none] ∧ Same H11 H' ∧ H' md = some (.lst ((swapR sp n j).map V.int))) ⟨v8, rfl, s12, hm12⟩ ?_ ?_
          · rintro j σ H13 hj ⟨v8, rfl, s13, hm13⟩
            rw [show (0 : Int) + (j : Int) * 2 = ((2 * j : Nat) : Int) by omega]
            obtain ⟨x, hx, ex, gx⟩ := el_at hsl (k := 2 * j) (by omega)
            obtain ⟨y, hy, ey, gy⟩ := el_at hsl (k := 2 * j + 1) (by omega)
            have hs13 := s13 _ _ hs1
            have ne : s1 ≠ md := fun z => by rw [← z, hs1] at nmd; cases nmd
            have gy2 : atI (sp.map V.int) (((2 * j : Nat) : Int) + 1) = some (.int (y : Int)) := by
              rw [show ((2 * j : Nat) : Int) + 1 = ((2 * j + 1 : Nat) : Int) by omega]
              exact atI_nat gy
            refine ⟨_, rfl, _, rfl, _, _, rfl, rfl, s1, _, _, _, rfl, rfl, SqL.of hs13, gy2, _, rfl, _, rfl, _, rfl, s1, _, _, _, rfl, rfl, SqL.of hs13, atI_nat gx, md, _, (x : Int), x, rfl, rfl, hm13, by rw [List.length_map, swapR_len]; exact ixN_at hx, ?_⟩
            have hs14 : (L2.upd H13 md (.lst (((swapR sp n j).map V.int).set x (.int (y : Int))))) s1 = some (.lst (sp.map V.int)) := by rw [upd_ne ne]; exact hs13
            have hm14 : (L2.upd H13 md (.lst (((swapR sp n j).map V.int).set x (.int (y : Int))))) md = some (.lst (((swapR sp n j).map V.int).set x (.int (y : Int)))) := upd_same
            have s14 : Same H11 (L2.upd H13 md (.lst (((swapR sp n j).map V.int).set x (.int (y : Int))))) := same_updN nmd s13
            generalize L2.upd H13 md (.lst (((swapR sp n j).map V.int).set x (.int (y : Int)))) = H14 at hs14 hm14 s14 ⊢
            refine ⟨_, rfl, _, rfl, s1, _, _, _, rfl, rfl, SqL.of hs14, atI_nat gx, _, rfl, _, rfl, _, rfl, _, _, rfl, rfl, s1, _, _, _, rfl, rfl, SqL.of hs14, gy2, md, _, (y : Int), y, rfl, rfl, hm14, by rw [List.length_set, List.length_map, swapR_len]; exact ixN_at hy, ?_⟩
            refine ⟨_, rfl, same_updN nmd s14, ?_⟩
            rw [upd_same, swapR, ex, ey, Int.toNat_natCast, Int.toNat_natCast, List.map_set, List.map_set]
          · rintro σ H13 ⟨v8, rfl, s13, hm13⟩
            have P13 := P10.same (s11.trans s13)
            have hD13 := (s11.trans s13) _ _ hD10
            have K13 := K7.trans (K70.trans (Kp.of (s11.trans s13)))
            have b413 := (b46.trans b7).trans (b70.trans (same_but (s11.trans s13)))
            refine ⟨_, rfl, _, rfl, p, c, ns, _, 3, rfl, P13, by omega, by decide, lit8 _ (by decide) (by decide), fun f0 H14 f1 f2 P14 b14 => ?_⟩
            obtain ⟨fk, rfl⟩ := Int.eq_ofNat_of_zero_le f1
            have hD14 := b14 _ _ hD13 nDp
            have nmdp : md ≠ p := P10.same s11 |>.nep nmd
            have hm14 := b14 _ _ hm13 nmdp
            refine ⟨_, _, rfl, rfl, ⟨by decide, by decide⟩, _, rfl, D, _, rfl, SqL.of hD14, fun p2 np2 => ?_⟩
            rw [show (fk : Int) / 2 = ((fk / 2 : Nat) : Int) by omega, cut_to, ← List.map_take]
            have s15 := same_new (Same.refl H14) (.lst ((bs.take (fk / 2)).map V.ref)) np2
            have hp2 : (L2.upd H14 p2 (.lst ((bs.take (fk / 2)).map V.ref))) p2 = some (.lst ((bs.take (fk / 2)).map V.ref)) := upd_same
            generalize L2.upd H14 p2 (.lst ((bs.take (fk / 2)).map V.ref)) = H15 at s15 hp2 ⊢
            refine ⟨_, rfl, md, _, rfl, .inl ⟨SqL.of (s15 _ _ hm14), fun t nt => ?_⟩⟩
            have s16 := same_new (Same.refl H15) (.tup ((swapR sp n (sp.length / 2)).map V.int)) nt
            have ht16 : SqT K (L2.upd H15 t (.tup ((swapR sp n (sp.length / 2)).map V.int))) t ((swapR sp n (sp.length / 2)).map V.int) := SqT.of upd_same
            generalize L2.upd H15 t (.tup ((swapR sp n (sp.length / 2)).map V.int)) = H16 at s16 ht16 ⊢
            refine ⟨(by show 1 ≤ sizeLine; decide), fun l2 nl2 => ?_⟩
            have s17 := same_new (Same.refl H16) (.lst [.ref t]) nl2
            have hl17 : (L2.upd H16 l2 (.lst [.ref t])) l2 = some (.lst ([t].map V.ref)) := upd_same
            generalize L2.upd H16 l2 (.lst [.ref t]) = H17 at s17 hl17 ⊢
            have lt : (bs.take (fk / 2)).length ≤ 2 := by rw [List.length_take, hR.1]; omega
            refine ⟨p2, l2, _, _, rfl, rfl, (s16.trans s17) _ _ hp2, hl17, Nat.le_of_lt (small1000 (by rw [List.length_map, List.length_map]; simp; omega)), fun l3 nl3 => ?_⟩
            rw [← List.map_append]
            have s18 := same_new (Same.refl H17) (.lst ((bs.take (fk / 2) ++ [t]).map V.ref)) nl3
            have s1418 := ((s15.trans s16).trans s17).trans s18
            have K14 := P13.kp (K := K) b14
            refine ⟨l3, bs.take (fk / 2) ++ [t], R.take (fk / 2) ++ [swapR sp n (sp.length / 2)], _, _, _, rfl, (P14.same s1418).more (by omega) (by omega), b413.trans (b14.trans (same_but s1418)), upd_same, RowsAt.snoc (((hR.kp (K13.trans K14)).same s1418).take _) (sqT_same (s17.trans s18) ht16), fun x hx => ?_, by rw [List.length_append, List.length_take]; simp; omega⟩
            rcases List.mem_append.mp hx with h | h
            · exact hRP x (List.mem_of_mem_take h)
            · simp at h
              rw [h]
              exact hsw
        · exact ⟨D, bs, R, _, _, _, rfl, P7.more (by omega) (by omega), b46.trans b7, hD7, hR.kp K7, hRP, by omega⟩
      · rintro σ H7 ⟨l, bs2, R2, v6, v7, v8, rfl, P7, b47, hl7, hR2, hRP2, lR3⟩
        have hg7 := b47 _ _ hg4 ngp
        have K47 := P4.kp (K := K) b47
        refine ⟨_, rfl, .inl ⟨rfl, _, SqL.of hg7⟩, _, rfl, _, rfl, l, _, rfl, .inl ⟨SqL.of hl7, fun t nt => ?_⟩⟩
        have s8 := same_new (Same.refl H7) (.tup (bs2.map V.ref)) nt
        have ht : SqT K (L2.upd H7 t (.tup (bs2.map V.ref))) t (bs2.map V.ref) := SqT.of upd_same
        generalize L2.upd H7 t (.tup (bs2.map V.ref)) = H8 at s8 ht ⊢
        dsimp only [tNil, List.append_nil]
        refine genG hn4 ht (hR2.same s8) (by rw [hR2.1]; omega) hRP2 fun u cs H9 s9 hu9 hG9 => ?_
        have s79 := s8.trans s9
        have hg9 := s79 _ _ hg7
        refine ⟨g, _, _, rfl, rfl, hg9, small1000 (by rw [List.length_map]; omega), ?_⟩
        refine ⟨_, _, _, _, _, us ++ [u], rfl, (((P7.same s79).stay (upd_ne ngp.symm) (upd_ne ngc.symm)).more (by omega) (by omega)), by rw [upd_same, List.map_append]; rfl, by rw [List.length_append, lu]; rfl, fun x hx => ?_⟩
        rcases List.mem_append.mp hx with h | h
        · obtain ⟨R, hR3, hA⟩ := hus x h
          exact ⟨R, hR3, (hA.kp (K47.trans (Kp.of s79))).upd hg9⟩
        · simp at h
          rw [h]
          exact ⟨R2, hRP2, GrA.upd ⟨cs, SqT.of hu9, hG9⟩ hg9⟩
    rintro σ H4 ⟨v4, v5, v6, v7, v8, us, rfl, P4, hg4, lu, hus⟩
    obtain ⟨u1, u2, rfl⟩ : ∃ u1 u2, us = [u1, u2] := by
      match us, lu with
      | [x, y], _ => exact ⟨x, y, rfl⟩
    obtain ⟨R1, hR1, g1⟩ := hus u1 (by simp)
    obtain ⟨R2, hR2, g2⟩ := hus u2 (by simp)
    have k1 := GrOk.grp hn4 hR1
    have k2 := GrOk.grp hn4 hR2
    clear hus lu
    generalize grp n R1 = A1 at g1 k1
    generalize grp n R2 = A2 at g2 k2
    have at0 : atI ([u1, u2].map V.ref) (0 : Int) = some (.ref u1) := rfl
    have at1 : atI ([u1, u2].map V.ref) (1 : Int) = some (.ref u2) := rfl
    refine ⟨_, rfl, g, _, (0 : Int), _, rfl, rfl, SqL.of hg4, at0, ?_⟩
    refine ⟨_, rfl, _, rfl, _, rfl, RgOk.of_le (by decide) (by omega) (by decide) (by omega), fun q nq => ?_⟩
    rw [rg_upto]
    have s5 := same_new (Same.refl H4) (.lst ((upto n).map V.int)) nq
    refine ⟨p, c, q, ns, (upto n).map V.int, _, rfl, P4.same s5, by omega, SqL.of upd_same, by rw [List.length_map, upto_len]; omega, fun H' _ x hx => ?_, fun l r' H5 P5 b5' h5 pm => ?_⟩
    · obtain ⟨z, _, rfl⟩ := List.mem_map.mp hx
      exact lays_int z
    obtain ⟨r, rfl, pm2⟩ := perm_ints pm
    have hrr : RP n r := ⟨by rw [pm2.length_eq, upto_len], pm2⟩
    have b5 := (same_but (p := p) s5).trans b5'
    clear pm pm2 s5 nq b5'
    refine ⟨l, _, rfl, .inl ⟨SqL.of h5, fun t nt => ?_⟩⟩
    have s6 := same_new (Same.refl H5) (.tup (r.map V.int)) nt
    have ht6 : SqT K (L2.upd H5 t (.tup (r.map V.int))) t (r.map V.int) := SqT.of upd_same
    have P6 := P5.same s6
    have b6 := b5.trans (same_but s6)
    generalize L2.upd H5 t (.tup (r.map V.int)) = H6 at ht6 P6 b6 ⊢
    clear s6 nt h5 b5 P5
    have hg6 := b6 _ _ hg4 ngp
    have g16 := g1.kp (P4.kp (K := K) b6)
    have g26 := g2.kp (P4.kp (K := K) b6)
    clear g1 g2 b6 P4 hg4
    obtain ⟨cs1, hu1, hC1⟩ := g16
    refine ⟨_, rfl, _, rfl, g, _, (1 : Int), _, rfl, rfl, SqL.of hg6, at1, _, rfl, _, rfl, _, rfl, n, u1, t, cs1, A1, r, rfl, hn4, hu1, hC1, k1.len, k1.rp, ht6, hrr, fun tc ds H7 s7 htc hds => ?_⟩
    refine ⟨_, rfl, g, _, (1 : Int), _, rfl, rfl, SqL.of (s7 _ _ hg6), at1, (by show 3 ≤ sizeLine; decide), fun lp nlp => ?_⟩
    have s8 := same_new (Same.refl H7) (.lst [.ref u2, .ref tc, .ref u2]) nlp
    have s68 := s7.trans s8
    refine ⟨p, c, ns, _, lp, _, rfl, P6.same s68, by omega, .inl (SqL.of upd_same), by simp, by simp, fun x hx H9 P9 b89 => ?_⟩
    have K89 : Kp K H7 H9 := (Kp.of s8).trans ((P6.same s68).kp b89)
    have K69 : Kp K H6 H9 := (Kp.of s7).trans K89
    obtain ⟨two, B, rfl, kB, hB⟩ : ∃ two B, x = .ref two ∧ GrOk n B ∧ GrA K H9 two B := by
      have g2b := g26.kp K69
      have gtc : GrA K H9 tc (cj n r A1) := GrA.kp ⟨ds, htc, hds⟩ K89
      simp at hx
      rcases hx with rfl | rfl | rfl
      · exact ⟨u2, A2, rfl, k2, g2b⟩
      · exact ⟨tc, _, rfl, k1.cj hn4 hrr, gtc⟩
      · exact ⟨u2, A2, rfl, k2, g2b⟩
    replace hu1 := K69.t _ _ hu1
    replace hC1 := hC1.kp K69
    obtain ⟨csB, hB1, hB2⟩ := hB
    clear hx K89 K69 g26 P9 b89 P6 s68 s8 nlp htc hds s7 hg6 ht6 k2
    refine ⟨_, rfl, n, rfl, hn4, fun l2 ts H10 s10 hl2 hrt => ⟨l2, rfl, ⟨_, SqL.of hl2⟩, fun D hD => ?_⟩⟩
    replace hu1 := sqT_same s10 hu1
    replace hC1 := hC1.same s10
    replace hB1 := sqT_same s10 hB1
    replace hB2 := hB2.same s10
    have tl := turns_len hn4
    clear s10
    refine ZK.lc_growF (J := Itl K l2) (turns n).length (small1000 (by omega)) (fun i acc H' => Same H10 H' ∧ ∃ es : List Addr, acc = es.map V.ref ∧ RowsAt K H' es (((turns n).take i).filter fun c => decide (cj n c A1 = B))) ⟨same_new (Same.refl _) _ hD, [], rfl, rfl, fun i b r h1 => by simp at h1⟩ ?_ ?_ ?_ ?_
    · rintro k acc H' hk ⟨s', _⟩
      exact ⟨_, _, s'.seq (SqL.of hl2), List.getElem?_eq_getElem (by rw [List.length_map, hrt.1]; exact hk)⟩
    · rintro acc H' ⟨s', _⟩
      exact ⟨_, s'.seq (SqL.of hl2), by rw [List.length_map, hrt.1]; exact Nat.le_refl _⟩
    · rintro i H11' y H11 acc hk ⟨s11, es, rfl, hes⟩ hacc hal ⟨rfl, hy⟩ N hN
      have hyy := hy _ (s11.seq (SqL.of hl2))
      obtain ⟨b, r3, eb, er, hb⟩ := hrt.get hk
      rw [List.getElem?_map, eb] at hyy
      cases hyy
      have hr3 := turn_rp hn4 r3 (List.mem_of_getElem? er)
      have et : ((turns n).take (i + 1)).filter (fun c => decide (cj n c A1 = B)) = (((turns n).take i).filter fun c => decide (cj n c A1 = B)) ++ (if cj n r3 A1 = B then [r3] else []) := by
        rw [List.take_succ, er, List.filter_append]
        congr 1
        by_cases h : cj n r3 A1 = B
        · rw [if_pos h]; simp only [Option.toList, List.filter_cons, List.filter_nil, decide_eq_true h, if_true]
        · rw [if_neg h]; simp only [Option.toList, List.filter_cons, List.filter_nil, decide_eq_false h, if_false, Bool.false_eq_true]
      refine ⟨rfl, _, rfl, _, rfl, _, rfl, n, u1, b, cs1, A1, r3, rfl, hn4, sqT_same s11 hu1, hC1.same s11, k1.len, k1.rp, sqT_same s11 hb, hr3, fun tt ds H12 s12 htt hds => ?_⟩
      have s1012 := s11.trans s12
      have hacc12 := s12 _ _ hacc
      refine ⟨_, rfl, .tuple ((cj n r3 A1).map rowD), .tuple (B.map rowD), .tup htt (rows_dp hds), .tup (sqT_same s1012 hB1) (rows_dp (hB2.same s1012)), shaped_trows _, shaped_trows _, ?_⟩
      rw [PyData.eqv, eqvAll_rows]
      by_cases hz : cj n r3 A1 = B
      · rw [decide_eq_true hz]
        refine ⟨true, rfl, iteT ⟨_, rfl, _, hacc12, small1000 (by omega), hN _ (es.map V.ref ++ [.ref b]) ⟨same_but_new s1012 hD, es ++ [b], by rw [List.map_append]; rfl, ?_⟩ upd_same (by simp at hal ⊢; omega)⟩⟩
        rw [et, if_pos hz]
        exact ((hes.same s12).snoc (sqT_same s1012 hb)).upd hacc12
      · rw [decide_eq_false hz]
        refine ⟨false, rfl, iteF (hN _ _ ⟨s1012, es, rfl, ?_⟩ hacc12 (by omega))⟩
        rw [et, if_neg hz, List.append_nil]
        exact hes.same s12
    rintro H11 acc ⟨s11, es, rfl, hes⟩ hacc _
    rw [List.take_length] at hes
    replace hu1 := sqT_same s11 hu1
    replace hC1 := hC1.same s11
    replace hB1 := sqT_same s11 hB1
    replace hB2 := hB2.same s11
    clear s11 hrt hl2 hD
    have both := both_none hn4 k1.on kB.on
    have hhd := firstC_head n A1 B
    refine ⟨_, rfl, _, rfl, n, u1, two, cs1, csB, A1, B, rfl, hn4, hu1, hC1, k1.pos, k1.len, k1.nd, k1.rp, hB1, hB2, fun hno H12 s12 => ?_, fun c tc H12 hso s12 htc => ?_⟩
    · rw [hno] at hhd
      have hnil := List.getElem?_eq_none_iff.mp hhd.symm
      have hE : ((turns n).filter fun c => decide (cj n c A1 = B)) = [] := List.eq_nil_of_length_eq_zero (by omega)
      rw [hE] at hes
      obtain rfl : es = [] := List.eq_nil_of_length_eq_zero hes.1
      have hacc12 := s12 _ _ hacc
      have eqL : PyData.eqv (.list []) (.list []) = true := by simp [PyData.eqv, PyData.eqvAll]
      have eqN : PyData.eqv .none .none = true := by simp [PyData.eqv]
      have shL : SeqAt.shaped (.list []) = true := shaped_rows []
      refine ⟨_, rfl, _, rfl, (by show 0 ≤ sizeLine; decide), fun e ne => ?_⟩
      have s13 := same_new (Same.refl H12) (.lst []) ne
      have he : SqL K (L2.upd H12 e (.lst [])) e [] := SqL.of upd_same
      generalize L2.upd H12 e (.lst []) = H13 at s13 he ⊢
      have s113 := s12.trans s13
      refine ⟨.list [], .list [], .lst (SqL.of (s13 _ _ hacc12)) .nil, .lst he .nil, shL, shL, ?_⟩
      rw [eqL]
      refine ⟨false, rfl, iteF ?_⟩
      refine ⟨.none, .none, .non, .non, shaped_non, shaped_non, ?_⟩
      rw [eqN]
      refine ⟨false, rfl, iteF ?_⟩
      refine ⟨_, rfl, rfl, _, rfl, _, rfl, n, two, u1, csB, cs1, B, A1, rfl, hn4, sqT_same s113 hB1, hB2.same s113, kB.pos, kB.len, kB.nd, kB.rp, sqT_same s113 hu1, hC1.same s113, fun _ H14 s14 => ?_, fun c tc H14 hso => ?_⟩
      · exact ⟨rfl, rfl, false, rfl, iteF ⟨_, rfl, rfl, true, rfl, iteT (k _)⟩⟩
      · rw [both.mp hno] at hso
        cases hso
    · obtain ⟨hct, hce⟩ := firstC_some hso
      have hcr := turn_rp hn4 c hct
      rw [hso] at hhd
      generalize ((turns n).filter fun c => decide (cj n c A1 = B)) = Fd at hes hhd
      have hl0 : 0 < Fd.length := (List.getElem?_eq_some_iff.mp hhd.symm).1
      obtain ⟨b0, c0, eb0, ec0, hb0⟩ := hes.get hl0
      rw [← hhd] at ec0
      cases ec0
      have hacc12 := s12 _ _ hacc
      refine ⟨_, rfl, _, rfl, (by show 0 ≤ sizeLine; decide), fun e ne => ?_⟩
      have s13 := same_new (Same.refl H12) (.lst []) ne
      have he : SqL K (L2.upd H12 e (.lst [])) e [] := SqL.of upd_same
      generalize L2.upd H12 e (.lst []) = H13 at s13 he ⊢
      have s113 := s12.trans s13
      have hb3 := sqT_same s113 hb0
      have htc3 := sqT_same s13 htc
      have hD13 := s13 _ _ hacc12
      refine ⟨.list (Fd.map rowD), .list [], .lst (SqL.of hD13) (rows_dp (hes.same s113)), .lst he .nil, shaped_rows _, shaped_rows [], ?_⟩
      have eqL : PyData.eqv (.list (Fd.map rowD)) (.list []) = false := by
        have e1 := eqvAll_rows Fd []
        rw [PyData.eqv, show ([] : List PyData) = [].map rowD from rfl, e1]
        exact decide_eq_false fun z => by rw [z] at hl0; exact absurd hl0 (Nat.lt_irrefl _)
      rw [eqL]
      have aD : atI (es.map V.ref) ((0 : Nat) : Int) = some (.ref b0) := atI_nat (by rw [List.getElem?_map, eb0]; rfl)
      refine ⟨true, rfl, iteT ⟨_, rfl, D, _, (0 : Int), _, rfl, rfl, SqL.of hD13, aD, ?_⟩⟩
      refine ⟨rowD c, rowD c, dp_tup htc3, dp_tup hb3, shaped_tup _, shaped_tup _, ?_⟩
      have eqC : PyData.eqv (rowD c) (rowD c) = true := by
        unfold rowD
        rw [eqv_tup]
        exact decide_eq_true rfl
      rw [eqC]
      refine ⟨false, rfl, iteF ?_⟩
      refine ⟨_, rfl, rfl, _, rfl, _, rfl, n, two, u1, csB, cs1, B, A1, rfl, hn4, sqT_same s113 hB1, hB2.same s113, kB.pos, kB.len, kB.nd, kB.rp, sqT_same s113 hu1, hC1.same s113, fun hno => ?_, fun c2 tc2 H14 _ s14 _ => ?_⟩
      · rw [both.mpr hno] at hso
        cases hso
      have htc4 := sqT_same s14 htc3
      have s114 := s113.trans s14
      refine ⟨rfl, rfl, false, rfl, iteF ⟨_, rfl, rfl, false, rfl, iteF ?_⟩⟩
      have kTT : PySem.W.kitOne K (.type "tuple") (.type "tuple") = some true := kit_ty (by decide +kernel)
      refine ⟨_, rfl, .ref tc, .ty "tuple", .type "tuple", .type "tuple", true, rfl, .ty _, tyx_tup htc4, kTT, true, rfl, iteF ?_⟩
      refine ⟨_, rfl, tc, rfl, ⟨_, htc4⟩, fun D3 hD3 => ?_⟩
      refine ZK.lc_growT (K := K) (a := tc) (xs := c.map V.int) (small1000 (by rw [List.length_map, hcr.1]; omega)) (fun _ H' => Same H14 H') (fun i y => y = .bl true) (same_new (Same.refl _) _ hD3) (fun i H' s' => sqT_same s' htc4) ?_ ?_
      · intro j y H9 acc9 hy s9 hacc9 hal9 hR9 Qn9 hq9
        obtain ⟨hj, rfl⟩ := int_at hy
        exact ⟨rfl, _, rfl, _, .i _, rfl, rfl, hq9 _ _ rfl hacc9 (same_but_new s9 hD3)⟩
      intro H15 acc9 s9 hacc9 hal9 hR9
      have e9 := ZK.eq_map hal9 hR9
      refine ⟨D3, (List.range (c.map V.int).length).map fun _ => true, rfl, SqL.of (by rw [hacc9, e9, List.map_map]; rfl), true, by rw [all_true], iteF ?_⟩
      have htc5 := sqT_same s9 htc4
      have s115 := s114.trans s9
      have hu5 := sqT_same s115 hu1
      refine ⟨_, rfl, u1, rfl, ⟨_, hu5⟩, fun D4 hD4 => ?_⟩
      refine ZK.lc_growT (K := K) (a := u1) (xs := cs1.map V.ref) (small1000 (by rw [List.length_map, hC1.1]; have := k1.len; omega)) (fun _ H' => Same H15 H') (fun i y => y = .bl true) (same_new (Same.refl _) _ hD4) (fun i H' s' => sqT_same s' hu5) ?_ ?_
      · intro i x H16 acc hx s16 hacc16 hal hRr Qn hq
        have hi : i < A1.length := by
          have := (List.getElem?_eq_some_iff.mp hx).1
          rwa [List.length_map, hC1.1] at this
        obtain ⟨b, r3, eb, er, hb⟩ := hC1.get hi
        rw [List.getElem?_map, eb] at hx
        cases hx
        have hm3 := List.mem_of_getElem? er
        have hr3 := k1.rp _ hm3
        have s116 := s115.trans s16
        have htc6 := sqT_same s16 htc5
        refine ⟨rfl, ?_⟩
        refine ⟨_, rfl, _, rfl, ?_⟩
        dsimp only [tNil, List.append_nil]
        refine compG hn4 htc6 (sqT_same s116 hb) hcr hr3 fun t1 H17 s17 ht1 => ?_
        refine ⟨_, rfl, ?_⟩
        dsimp only [tNil, List.append_nil]
        refine invG hn4 (sqT_same s17 htc6) hcr fun t2 H18 s18 ht2 => ?_
        refine compG hn4 (sqT_same s18 ht1) ht2 (hcr.comp hr3) hcr.inv fun t3 H19 s19 ht3 => ?_
        have s1619 := (s17.trans s18).trans s19
        have s119 := s116.trans s1619
        have ht3c : SqT K H19 t3 ((conj c r3).map V.int) := ht3
        refine ⟨_, rfl, rowD (conj c r3), B.map rowD, dp_tup ht3c, .tup (sqT_same s119 hB1) (rows_dp (hB2.same s119)), shaped_tup _, shaped_trows _, ?_⟩
        rw [any_rows, decide_eq_true (conj_in hn4 hce hcr hr3 hm3)]
        exact hq _ _ rfl (s1619 _ _ hacc16) (same_but_new (s16.trans s1619) hD4)
      intro H16 acc s16 hacc16 hal hRr
      have e16 := ZK.eq_map hal hRr
      refine ⟨D4, (List.range (cs1.map V.ref).length).map fun _ => true, rfl, SqL.of (by rw [hacc16, e16, List.map_map]; rfl), ?_⟩
      rw [all_true]
      exact k _
end
end EN

namespace EN
open PySem L2 PyProof.Rows
section
variable {P : Program} {w : World} {K : PySem.W.Frag} {mg : Str → Option Value} {base : Heap} {f : Addr} {fd : FuncData}
/-! ### what except and isinstance ask of classes -/
theorem cls_some {B : Addr} {T : Value} {b : Bool} (s : PySem.W.subIn K (.ref B) T = some b) : (PySem.W.clsIn K B).isSome = true := by
  unfold PySem.W.subIn PySem.W.mroIn at s
  obtain ⟨cd, h, _⟩ := Option.bind_eq_some_iff.mp s
  rw [h]
  rfl
theorem kitCls_of {A : Value} {B : Addr} {b : Bool} (x : PySem.W.subIn K (.ref B) (.type "BaseException") = some true) (t : PySem.W.typeIn K (.ref B) = some (.type "type")) (s : PySem.W.subIn K A (.ref B) = some b) : PySem.W.kitCls K A (.ref B) = some b := by
  unfold PySem.W.kitCls
  dsimp only
  rw [cls_some x, t, if_pos (by decide)]
  exact s
theorem exm_of {A B : Addr} {b : Bool} (x : PySem.W.subIn K (.ref B) (.type "BaseException") = some true) (t : PySem.W.typeIn K (.ref B) = some (.type "type")) (s : PySem.W.subIn K (.ref A) (.ref B) = some b) : PySem.W.exmOne K (.ref A) (.ref B) = some b := by
  unfold PySem.W.exmOne
  rw [x, if_pos (by decide)]
  exact kitCls_of x t s
theorem kit_of {A B : Addr} {b : Bool} (x : PySem.W.subIn K (.ref B) (.type "BaseException") = some true) (t : PySem.W.typeIn K (.ref B) = some (.type "type")) (r : PySem.W.subIn K (.ref A) (.ref A) = some true) (s : PySem.W.subIn K (.ref A) (.ref B) = some b) : PySem.W.kitOne K (.ref A) (.ref B) = some b := by
  unfold PySem.W.kitOne
  split
  · rename_i h
    have e := beq_iff_eq.mp h
    cases e
    rw [r] at s
    exact s
  · exact kitCls_of x t s
theorem kit_T {A : Addr} {T : String} {b : Bool} (m : PySem.W.kitMeta T = true) (s : PySem.W.subIn K (.ref A) (.type T) = some b) : PySem.W.kitOne K (.ref A) (.type T) = some b := by
  unfold PySem.W.kitOne
  have e : (Value.ref A == Value.type T) = false := Bool.eq_false_iff.mpr fun q => nomatch beq_iff_eq.mp q
  rw [e, if_neg (by decide)]
  unfold PySem.W.kitCls
  dsimp only
  rw [m, if_pos rfl]
  exact s
end
end EN

namespace EN
open PySem L2 PyProof.Rows
section
variable {P : Program} {w : World} {K : PySem.W.Frag} {mg : Str → Option Value} {base : Heap} {f : Addr} {fd : FuncData}
theorem has_of {h : Heap} {x : Str} {st : Stmt} {k : Nat} {ps : List Str} {sp : Sp} (X : K.In h) (G : h.Ns mainGlobals mg) (F : Fun K x x st f fd) (a : PySem.W.nsIn K mainGlobals x = some (some (.ref f))) (ok : FnOk P w K mg base CX0 k f fd ps sp) (b : Binds K fd ps []) : Has P w K mg base k x ps sp := ⟨f, fd, ok, PySem.W.mg_of X G a, F.kp, b⟩
theorem rawN {k : Nat} {ps : List Str} {sp : Sp} (ok : FnOk P w K mg base CX0 k f fd ps sp) (b : Binds K fd ps []) : FnR P w K mg base CX0 k f sp := by
  have r := ok.raw b .nil
  refine FnR.imp r fun vs H Q E hs => ?_
  rw [List.append_nil]
  exact hs
theorem rawX {k : Nat} {ps : List Str} {sp : Sp} (ok : FnOk P w K mg base (L2.CX P w) k f fd ps sp) (b : Binds K fd ps []) : FnR P w K mg base (L2.CX P w) k f sp := by
  have r := ok.raw b .nil
  refine FnR.imp r fun vs H Q E hs => ?_
  rw [List.append_nil]
  exact hs
end
section
theorem all_mk {l : PySem.W.OpenLaw} {w : World} {K : PySem.W.Frag} {h : Heap} {mg : Str → Option Value} {fa : Addr} (X : K.In h) (G : h.Ns mainGlobals mg) (hfa : mg "law" = some (.ref fa))
    {f_brinit f_pen f_draw f_pick f_shuffled f_lwhole f_slots f_turns f_carried f_is_whole f_is_renumbering f_product_of f_inverse_of f_orders_of f_sorted_rows f_check_renumbering f_check_size f_compose f_inverse f_generated f_conjugate f_law C_BadRenumbering NX_BadRenumbering C_EverynameError : Addr} {od_brinit an_brinit od_pen an_pen od_draw an_draw od_pick an_pick od_shuffled an_shuffled od_lwhole an_lwhole od_slots an_slots od_turns an_turns od_carried an_carried od_is_whole an_is_whole od_is_renumbering an_is_renumbering od_product_of an_product_of od_inverse_of an_inverse_of od_orders_of an_orders_of od_sorted_rows an_sorted_rows od_check_renumbering an_check_renumbering od_check_size an_check_size od_compose an_compose od_inverse an_inverse od_generated an_generated od_conjugate an_conjugate od_law an_law : Option Addr} {sl_brinit sl_pen sl_draw sl_pick sl_shuffled sl_lwhole sl_slots sl_turns sl_carried sl_is_whole sl_is_renumbering sl_product_of sl_inverse_of sl_orders_of sl_sorted_rows sl_check_renumbering sl_check_size sl_compose sl_inverse sl_generated sl_conjugate sl_law : Array (Option Value)}
    {oc_brinit kV_brinit dc_brinit pm_brinit cd_brinit ct_brinit oc_pen kV_pen dc_pen pm_pen cd_pen ct_pen oc_draw kV_draw dc_draw pm_draw cd_draw ct_draw oc_pick kV_pick dc_pick pm_pick cd_pick ct_pick oc_shuffled kV_shuffled dc_shuffled pm_shuffled cd_shuffled ct_shuffled oc_lwhole kV_lwhole dc_lwhole pm_lwhole cd_lwhole ct_lwhole oc_slots kV_slots dc_slots pm_slots cd_slots ct_slots oc_turns kV_turns dc_turns pm_turns cd_turns ct_turns oc_carried kV_carried dc_carried pm_carried cd_carried ct_carried oc_is_whole kV_is_whole dc_is_whole pm_is_whole cd_is_whole ct_is_whole oc_is_renumbering kV_is_renumbering dc_is_renumbering pm_is_renumbering cd_is_renumbering ct_is_renumbering oc_product_of kV_product_of dc_product_of pm_product_of cd_product_of ct_product_of oc_inverse_of kV_inverse_of dc_inverse_of pm_inverse_of cd_inverse_of ct_inverse_of oc_orders_of kV_orders_of dc_orders_of pm_orders_of cd_orders_of ct_orders_of oc_sorted_rows kV_sorted_rows dc_sorted_rows pm_sorted_rows cd_sorted_rows ct_sorted_rows oc_check_renumbering kV_check_renumbering dc_check_renumbering pm_check_renumbering cd_check_renumbering ct_check_renumbering oc_check_size kV_check_size dc_check_size pm_check_size cd_check_size ct_check_size oc_compose kV_compose dc_compose pm_compose cd_compose ct_compose oc_inverse kV_inverse dc_inverse pm_inverse cd_inverse ct_inverse oc_generated kV_generated dc_generated pm_generated cd_generated ct_generated oc_conjugate kV_conjugate dc_conjugate pm_conjugate cd_conjugate ct_conjugate oc_law kV_law dc_law pm_law cd_law ct_law : Value} {kDIG : Tok} {bs_BadRenumbering sub_BadRenumbering : List Value} {nm_BadRenumbering q_BadRenumbering : Str} {sn_BadRenumbering : List Str} {ab_BadRenumbering : Bool} {col_BadRenumbering : Option Bool} {dd_BadRenumbering : Option Addr} {m0_BadRenumbering m1_BadRenumbering m2_BadRenumbering m3_BadRenumbering m5_BadRenumbering : Option Value}
    (aC_BadRenumbering : PySem.W.nsIn K mainGlobals "BadRenumbering" = some (some (.ref C_BadRenumbering)))
    (xC_BadRenumbering : PySem.W.subIn K (.ref C_BadRenumbering) (.type "BaseException") = some true)
    (ty_BadRenumbering : PySem.W.typeIn K (.ref C_BadRenumbering) = some (.type "type"))
    (ga_BadRenumbering : PySem.W.findIn K (.ref C_BadRenumbering) "__getattribute__" = some (some (.builtin "BaseException.__getattribute__")))
    (gg_BadRenumbering : PySem.W.findIn K (.ref C_BadRenumbering) "__getattr__" = some none)
    (hd_BadRenumbering : PySem.W.hasDictIn K C_BadRenumbering = true)
    (ha_BadRenumbering : PySem.W.findIn K (.ref C_BadRenumbering) "__class__" = some (some (.builtin "object.__class__")))
    (hm_BadRenumbering : PySem.W.mroIn K C_BadRenumbering (.type "object") = some true)
    (hn_E : PySem.W.specialIn K (.builtin "object.__class__") "__get__" = some (some (.builtin "getset_descriptor.__get__")))
    (ht_E : PySem.W.takesIn K (.builtin "object.__class__") = some true)
    (nF_BadRenumbering_numbers : PySem.W.findIn K (.ref C_BadRenumbering) "numbers" = some none)
    (xL_BadRenumbering : K.lookup C_BadRenumbering = some (excClassObj nm_BadRenumbering q_BadRenumbering C_BadRenumbering NX_BadRenumbering bs_BadRenumbering [.ref C_EverynameError, .type "ValueError", .type "Exception", .type "BaseException", .type "object"] true sn_BadRenumbering sub_BadRenumbering ab_BadRenumbering col_BadRenumbering dd_BadRenumbering m0_BadRenumbering m1_BadRenumbering m2_BadRenumbering m3_BadRenumbering m5_BadRenumbering "ValueError.__new__"))
    (sa_BadRenumbering : PySem.W.findIn K (.ref C_BadRenumbering) "__setattr__" = some (some (.builtin "object.__setattr__")))
    (kC_BadRenumbering : PySem.W.keepIn K (.ref C_BadRenumbering) = true)
    (a_DIGITS : PySem.W.nsIn K mainGlobals "DIGITS" = some (some (.int 9 kDIG)))
    (a_brinit : PySem.W.findIn K (.ref C_BadRenumbering) "__init__" = some (some (.ref f_brinit)))
    (t_brinit : PySem.W.typeIn K (.ref f_brinit) = some (.type "function"))
    (l_brinit : K.lookup f_brinit = some ⟨oc_brinit, od_brinit, .func (PySem.W.fnOf "__init__" "BadRenumbering.__init__" (defArgs s_brinit) (defBody s_brinit) (defScope s_brinit) .none kV_brinit dc_brinit pm_brinit an_brinit cd_brinit ct_brinit), sl_brinit⟩)
    (c_brinit : PySem.W.codeIn K cd_brinit "BadRenumbering.__init__" = true)
    (k_brinit : PySem.W.keepIn K (.ref f_brinit) = true)
    (a_pen : PySem.W.nsIn K mainGlobals "_law_pen" = some (some (.ref f_pen)))
    (l_pen : K.lookup f_pen = some ⟨oc_pen, od_pen, .func (PySem.W.fnOf "_law_pen" "_law_pen" (defArgs s_pen) (defBody s_pen) (defScope s_pen) .none kV_pen dc_pen pm_pen an_pen cd_pen ct_pen), sl_pen⟩)
    (c_pen : PySem.W.codeIn K cd_pen "_law_pen" = true)
    (k_pen : PySem.W.keepIn K (.ref f_pen) = true)
    (a_draw : PySem.W.nsIn K mainGlobals "_law_draw" = some (some (.ref f_draw)))
    (l_draw : K.lookup f_draw = some ⟨oc_draw, od_draw, .func (PySem.W.fnOf "_law_draw" "_law_draw" (defArgs s_draw) (defBody s_draw) (defScope s_draw) .none kV_draw dc_draw pm_draw an_draw cd_draw ct_draw), sl_draw⟩)
    (c_draw : PySem.W.codeIn K cd_draw "_law_draw" = true)
    (k_draw : PySem.W.keepIn K (.ref f_draw) = true)
    (a_pick : PySem.W.nsIn K mainGlobals "_law_pick" = some (some (.ref f_pick)))
    (l_pick : K.lookup f_pick = some ⟨oc_pick, od_pick, .func (PySem.W.fnOf "_law_pick" "_law_pick" (defArgs s_pick) (defBody s_pick) (defScope s_pick) .none kV_pick dc_pick pm_pick an_pick cd_pick ct_pick), sl_pick⟩)
    (c_pick : PySem.W.codeIn K cd_pick "_law_pick" = true)
    (k_pick : PySem.W.keepIn K (.ref f_pick) = true)
    (a_shuffled : PySem.W.nsIn K mainGlobals "_law_shuffled" = some (some (.ref f_shuffled)))
    (l_shuffled : K.lookup f_shuffled = some ⟨oc_shuffled, od_shuffled, .func (PySem.W.fnOf "_law_shuffled" "_law_shuffled" (defArgs s_shuffled) (defBody s_shuffled) (defScope s_shuffled) .none kV_shuffled dc_shuffled pm_shuffled an_shuffled cd_shuffled ct_shuffled), sl_shuffled⟩)
    (c_shuffled : PySem.W.codeIn K cd_shuffled "_law_shuffled" = true)
    (k_shuffled : PySem.W.keepIn K (.ref f_shuffled) = true)
    (a_lwhole : PySem.W.nsIn K mainGlobals "_law_whole" = some (some (.ref f_lwhole)))
    (l_lwhole : K.lookup f_lwhole = some ⟨oc_lwhole, od_lwhole, .func (PySem.W.fnOf "_law_whole" "_law_whole" (defArgs s_lwhole) (defBody s_lwhole) (defScope s_lwhole) .none kV_lwhole dc_lwhole pm_lwhole an_lwhole cd_lwhole ct_lwhole), sl_lwhole⟩)
    (c_lwhole : PySem.W.codeIn K cd_lwhole "_law_whole" = true)
    (k_lwhole : PySem.W.keepIn K (.ref f_lwhole) = true)
    (a_slots : PySem.W.nsIn K mainGlobals "_law_slots" = some (some (.ref f_slots)))
    (l_slots : K.lookup f_slots = some ⟨oc_slots, od_slots, .func (PySem.W.fnOf "_law_slots" "_law_slots" (defArgs s_slots) (defBody s_slots) (defScope s_slots) .none kV_slots dc_slots pm_slots an_slots cd_slots ct_slots), sl_slots⟩)
    (c_slots : PySem.W.codeIn K cd_slots "_law_slots" = true)
    (k_slots : PySem.W.keepIn K (.ref f_slots) = true)
    (a_turns : PySem.W.nsIn K mainGlobals "_law_turns" = some (some (.ref f_turns)))
    (l_turns : K.lookup f_turns = some ⟨oc_turns, od_turns, .func (PySem.W.fnOf "_law_turns" "_law_turns" (defArgs s_turns) (defBody s_turns) (defScope s_turns) .none kV_turns dc_turns pm_turns an_turns cd_turns ct_turns), sl_turns⟩)
    (c_turns : PySem.W.codeIn K cd_turns "_law_turns" = true)
    (k_turns : PySem.W.keepIn K (.ref f_turns) = true)
    (a_carried : PySem.W.nsIn K mainGlobals "_law_carried" = some (some (.ref f_carried)))
    (l_carried : K.lookup f_carried = some ⟨oc_carried, od_carried, .func (PySem.W.fnOf "_law_carried" "_law_carried" (defArgs s_carried) (defBody s_carried) (defScope s_carried) .none kV_carried dc_carried pm_carried an_carried cd_carried ct_carried), sl_carried⟩)
    (c_carried : PySem.W.codeIn K cd_carried "_law_carried" = true)
    (k_carried : PySem.W.keepIn K (.ref f_carried) = true)
    (a_is_whole : PySem.W.nsIn K mainGlobals "is_whole" = some (some (.ref f_is_whole)))
    (l_is_whole : K.lookup f_is_whole = some ⟨oc_is_whole, od_is_whole, .func (PySem.W.fnOf "is_whole" "is_whole" (defArgs s_is_whole) (defBody s_is_whole) (defScope s_is_whole) .none kV_is_whole dc_is_whole pm_is_whole an_is_whole cd_is_whole ct_is_whole), sl_is_whole⟩)
    (c_is_whole : PySem.W.codeIn K cd_is_whole "is_whole" = true)
    (k_is_whole : PySem.W.keepIn K (.ref f_is_whole) = true)
    (a_is_renumbering : PySem.W.nsIn K mainGlobals "is_renumbering" = some (some (.ref f_is_renumbering)))
    (l_is_renumbering : K.lookup f_is_renumbering = some ⟨oc_is_renumbering, od_is_renumbering, .func (PySem.W.fnOf "is_renumbering" "is_renumbering" (defArgs s_is_renumbering) (defBody s_is_renumbering) (defScope s_is_renumbering) .none kV_is_renumbering dc_is_renumbering pm_is_renumbering an_is_renumbering cd_is_renumbering ct_is_renumbering), sl_is_renumbering⟩)
    (c_is_renumbering : PySem.W.codeIn K cd_is_renumbering "is_renumbering" = true)
    (k_is_renumbering : PySem.W.keepIn K (.ref f_is_renumbering) = true)
    (a_product_of : PySem.W.nsIn K mainGlobals "product_of" = some (some (.ref f_product_of)))
    (l_product_of : K.lookup f_product_of = some ⟨oc_product_of, od_product_of, .func (PySem.W.fnOf "product_of" "product_of" (defArgs s_product_of) (defBody s_product_of) (defScope s_product_of) .none kV_product_of dc_product_of pm_product_of an_product_of cd_product_of ct_product_of), sl_product_of⟩)
    (c_product_of : PySem.W.codeIn K cd_product_of "product_of" = true)
    (k_product_of : PySem.W.keepIn K (.ref f_product_of) = true)
    (a_inverse_of : PySem.W.nsIn K mainGlobals "inverse_of" = some (some (.ref f_inverse_of)))
    (l_inverse_of : K.lookup f_inverse_of = some ⟨oc_inverse_of, od_inverse_of, .func (PySem.W.fnOf "inverse_of" "inverse_of" (defArgs s_inverse_of) (defBody s_inverse_of) (defScope s_inverse_of) .none kV_inverse_of dc_inverse_of pm_inverse_of an_inverse_of cd_inverse_of ct_inverse_of), sl_inverse_of⟩)
    (c_inverse_of : PySem.W.codeIn K cd_inverse_of "inverse_of" = true)
    (k_inverse_of : PySem.W.keepIn K (.ref f_inverse_of) = true)
    (a_orders_of : PySem.W.nsIn K mainGlobals "orders_of" = some (some (.ref f_orders_of)))
    (l_orders_of : K.lookup f_orders_of = some ⟨oc_orders_of, od_orders_of, .func (PySem.W.fnOf "orders_of" "orders_of" (defArgs s_orders_of) (defBody s_orders_of) (defScope s_orders_of) .none kV_orders_of dc_orders_of pm_orders_of an_orders_of cd_orders_of ct_orders_of), sl_orders_of⟩)
    (c_orders_of : PySem.W.codeIn K cd_orders_of "orders_of" = true)
    (k_orders_of : PySem.W.keepIn K (.ref f_orders_of) = true)
    (a_sorted_rows : PySem.W.nsIn K mainGlobals "sorted_rows" = some (some (.ref f_sorted_rows)))
    (l_sorted_rows : K.lookup f_sorted_rows = some ⟨oc_sorted_rows, od_sorted_rows, .func (PySem.W.fnOf "sorted_rows" "sorted_rows" (defArgs s_sorted_rows) (defBody s_sorted_rows) (defScope s_sorted_rows) .none kV_sorted_rows dc_sorted_rows pm_sorted_rows an_sorted_rows cd_sorted_rows ct_sorted_rows), sl_sorted_rows⟩)
    (c_sorted_rows : PySem.W.codeIn K cd_sorted_rows "sorted_rows" = true)
    (k_sorted_rows : PySem.W.keepIn K (.ref f_sorted_rows) = true)
    (a_check_renumbering : PySem.W.nsIn K mainGlobals "check_renumbering" = some (some (.ref f_check_renumbering)))
    (l_check_renumbering : K.lookup f_check_renumbering = some ⟨oc_check_renumbering, od_check_renumbering, .func (PySem.W.fnOf "check_renumbering" "check_renumbering" (defArgs s_check_renumbering) (defBody s_check_renumbering) (defScope s_check_renumbering) .none kV_check_renumbering dc_check_renumbering pm_check_renumbering an_check_renumbering cd_check_renumbering ct_check_renumbering), sl_check_renumbering⟩)
    (c_check_renumbering : PySem.W.codeIn K cd_check_renumbering "check_renumbering" = true)
    (k_check_renumbering : PySem.W.keepIn K (.ref f_check_renumbering) = true)
    (a_check_size : PySem.W.nsIn K mainGlobals "check_size" = some (some (.ref f_check_size)))
    (l_check_size : K.lookup f_check_size = some ⟨oc_check_size, od_check_size, .func (PySem.W.fnOf "check_size" "check_size" (defArgs s_check_size) (defBody s_check_size) (defScope s_check_size) .none kV_check_size dc_check_size pm_check_size an_check_size cd_check_size ct_check_size), sl_check_size⟩)
    (c_check_size : PySem.W.codeIn K cd_check_size "check_size" = true)
    (k_check_size : PySem.W.keepIn K (.ref f_check_size) = true)
    (a_compose : PySem.W.nsIn K mainGlobals "compose" = some (some (.ref f_compose)))
    (l_compose : K.lookup f_compose = some ⟨oc_compose, od_compose, .func (PySem.W.fnOf "compose" "compose" (defArgs s_compose) (defBody s_compose) (defScope s_compose) .none kV_compose dc_compose pm_compose an_compose cd_compose ct_compose), sl_compose⟩)
    (c_compose : PySem.W.codeIn K cd_compose "compose" = true)
    (k_compose : PySem.W.keepIn K (.ref f_compose) = true)
    (a_inverse : PySem.W.nsIn K mainGlobals "inverse" = some (some (.ref f_inverse)))
    (l_inverse : K.lookup f_inverse = some ⟨oc_inverse, od_inverse, .func (PySem.W.fnOf "inverse" "inverse" (defArgs s_inverse) (defBody s_inverse) (defScope s_inverse) .none kV_inverse dc_inverse pm_inverse an_inverse cd_inverse ct_inverse), sl_inverse⟩)
    (c_inverse : PySem.W.codeIn K cd_inverse "inverse" = true)
    (k_inverse : PySem.W.keepIn K (.ref f_inverse) = true)
    (a_generated : PySem.W.nsIn K mainGlobals "generated" = some (some (.ref f_generated)))
    (l_generated : K.lookup f_generated = some ⟨oc_generated, od_generated, .func (PySem.W.fnOf "generated" "generated" (defArgs s_generated) (defBody s_generated) (defScope s_generated) .none kV_generated dc_generated pm_generated an_generated cd_generated ct_generated), sl_generated⟩)
    (c_generated : PySem.W.codeIn K cd_generated "generated" = true)
    (k_generated : PySem.W.keepIn K (.ref f_generated) = true)
    (a_conjugate : PySem.W.nsIn K mainGlobals "conjugate" = some (some (.ref f_conjugate)))
    (l_conjugate : K.lookup f_conjugate = some ⟨oc_conjugate, od_conjugate, .func (PySem.W.fnOf "conjugate" "conjugate" (defArgs s_conjugate) (defBody s_conjugate) (defScope s_conjugate) .none kV_conjugate dc_conjugate pm_conjugate an_conjugate cd_conjugate ct_conjugate), sl_conjugate⟩)
    (c_conjugate : PySem.W.codeIn K cd_conjugate "conjugate" = true)
    (k_conjugate : PySem.W.keepIn K (.ref f_conjugate) = true)
    (a_law : PySem.W.nsIn K mainGlobals "law" = some (some (.ref f_law)))
    (l_law : K.lookup f_law = some ⟨oc_law, od_law, .func (PySem.W.fnOf "law" "law" (defArgs s_law) (defBody s_law) (defScope s_law) .none kV_law dc_law pm_law an_law cd_law ct_law), sl_law⟩)
    (c_law : PySem.W.codeIn K cd_law "law" = true)
    (k_law : PySem.W.keepIn K (.ref f_law) = true)
    (z_list : PySem.W.nsIn K mainGlobals "list" = some none)
    (z_len : PySem.W.nsIn K mainGlobals "len" = some none)
    (z_int : PySem.W.nsIn K mainGlobals "int" = some none)
    (z_abs : PySem.W.nsIn K mainGlobals "abs" = some none)
    (z_range : PySem.W.nsIn K mainGlobals "range" = some none)
    (z_tuple : PySem.W.nsIn K mainGlobals "tuple" = some none)
    (z_isinstance : PySem.W.nsIn K mainGlobals "isinstance" = some none)
    (z_bool : PySem.W.nsIn K mainGlobals "bool" = some none)
    (z_all : PySem.W.nsIn K mainGlobals "all" = some none)
    (z_sum : PySem.W.nsIn K mainGlobals "sum" = some none)
    (z_zip : PySem.W.nsIn K mainGlobals "zip" = some none)
    (z_min : PySem.W.nsIn K mainGlobals "min" = some none)
    (z_sorted : PySem.W.nsIn K mainGlobals "sorted" = some none)
    (z_any : PySem.W.nsIn K mainGlobals "any" = some none)
    (z_set : PySem.W.nsIn K mainGlobals "set" = some none)
    (z_max : PySem.W.nsIn K mainGlobals "max" = some none)
    (z_str : PySem.W.nsIn K mainGlobals "str" = some none)
    (z_enumerate : PySem.W.nsIn K mainGlobals "enumerate" = some none)
    (z_reversed : PySem.W.nsIn K mainGlobals "reversed" = some none)
    (z_dict : PySem.W.nsIn K mainGlobals "dict" = some none)
    : ∃ fd : FuncData, (∀ (s : Shared) (v : Value), BindsTo s fd ⟨[v], []⟩ [("_law_script", v)]) ∧ ∀ base : Heap, K.In base → base.Ns mainGlobals mg → FnOk l.prog w K mg base CX0 9 fa fd ["_law_script"] (spLawH K) := by
  have e := hfa.symm.trans (PySem.W.mg_of X G a_law)
  cases e
  have T : Blt mg := ⟨PySem.W.mg_none_of X G z_list, PySem.W.mg_none_of X G z_len, PySem.W.mg_none_of X G z_int, PySem.W.mg_none_of X G z_abs, PySem.W.mg_none_of X G z_range, PySem.W.mg_none_of X G z_tuple, PySem.W.mg_none_of X G z_isinstance, PySem.W.mg_none_of X G z_bool, PySem.W.mg_none_of X G z_all, PySem.W.mg_none_of X G z_sum, PySem.W.mg_none_of X G z_zip, PySem.W.mg_none_of X G z_min, PySem.W.mg_none_of X G z_sorted, PySem.W.mg_none_of X G z_any, PySem.W.mg_none_of X G z_set, PySem.W.mg_none_of X G z_max, PySem.W.mg_none_of X G z_str, PySem.W.mg_none_of X G z_enumerate, PySem.W.mg_none_of X G z_reversed, PySem.W.mg_none_of X G z_dict⟩
  have g_BadRenumbering := PySem.W.mg_of X G aC_BadRenumbering
  have e_BadRenumbering : ExcC K C_BadRenumbering := ⟨ga_BadRenumbering, gg_BadRenumbering, xC_BadRenumbering, hd_BadRenumbering, ha_BadRenumbering, hn_E, ht_E, hm_BadRenumbering⟩
  have x_BadRenumbering : XfC K C_BadRenumbering := ⟨ga_BadRenumbering, gg_BadRenumbering, xC_BadRenumbering, hd_BadRenumbering⟩
  have ox_BadRenumbering : OexC K C_BadRenumbering := ⟨⟨_, _, _, _, _, _, _, _, _, _, _, _, _, _, _, xL_BadRenumbering, (show PySem.HandSPX.refsVE [.type "ValueError", .type "Exception", .type "BaseException", .type "object"] = true by decide +kernel)⟩, sa_BadRenumbering, xC_BadRenumbering, ty_BadRenumbering, kC_BadRenumbering⟩
  have h_DIGITS := PySem.W.mg_of X G a_DIGITS
  have F_brinit := fun_mk (st := s_brinit) l_brinit c_brinit k_brinit
  have b_brinit := F_brinit.binds (ps := ["self", "numbers"]) fun _ _ _ _ _ _ us hl => match us, hl with | [_, _], _ => rfl
  have F_pen := fun_mk (st := s_pen) l_pen c_pen k_pen
  have b_pen := F_pen.binds (ps := ["_law_script"]) fun _ _ _ _ _ _ us hl => match us, hl with | [_], _ => rfl
  have F_draw := fun_mk (st := s_draw) l_draw c_draw k_draw
  have b_draw := F_draw.binds (ps := ["_law_pen_here", "_law_many"]) fun _ _ _ _ _ _ us hl => match us, hl with | [_, _], _ => rfl
  have F_pick := fun_mk (st := s_pick) l_pick c_pick k_pick
  have b_pick := F_pick.binds (ps := ["_law_pen_here", "_law_options"]) fun _ _ _ _ _ _ us hl => match us, hl with | [_, _], _ => rfl
  have F_shuffled := fun_mk (st := s_shuffled) l_shuffled c_shuffled k_shuffled
  have b_shuffled := F_shuffled.binds (ps := ["_law_pen_here", "_law_items"]) fun _ _ _ _ _ _ us hl => match us, hl with | [_, _], _ => rfl
  have F_lwhole := fun_mk (st := s_lwhole) l_lwhole c_lwhole k_lwhole
  have b_lwhole := F_lwhole.binds (ps := ["_law_value"]) fun _ _ _ _ _ _ us hl => match us, hl with | [_], _ => rfl
  have F_slots := fun_mk (st := s_slots) l_slots c_slots k_slots
  have b_slots := F_slots.binds (ps := ["_law_n", "_law_spare", "_law_many"]) fun _ _ _ _ _ _ us hl => match us, hl with | [_, _, _], _ => rfl
  have F_turns := fun_mk (st := s_turns) l_turns c_turns k_turns
  have b_turns := F_turns.binds (ps := ["_law_size"]) fun _ _ _ _ _ _ us hl => match us, hl with | [_], _ => rfl
  have F_carried := fun_mk (st := s_carried) l_carried c_carried k_carried
  have b_carried := F_carried.binds (ps := ["_law_size", "_law_group", "_law_c"]) fun _ _ _ _ _ _ us hl => match us, hl with | [_, _, _], _ => rfl
  have F_is_whole := fun_mk (st := s_is_whole) l_is_whole c_is_whole k_is_whole
  have b_is_whole := F_is_whole.binds (ps := ["value"]) fun _ _ _ _ _ _ us hl => match us, hl with | [_], _ => rfl
  have F_is_renumbering := fun_mk (st := s_is_renumbering) l_is_renumbering c_is_renumbering k_is_renumbering
  have b_is_renumbering := F_is_renumbering.binds (ps := ["row"]) fun _ _ _ _ _ _ us hl => match us, hl with | [_], _ => rfl
  have F_product_of := fun_mk (st := s_product_of) l_product_of c_product_of k_product_of
  have b_product_of := F_product_of.binds (ps := ["p", "q"]) fun _ _ _ _ _ _ us hl => match us, hl with | [_, _], _ => rfl
  have F_inverse_of := fun_mk (st := s_inverse_of) l_inverse_of c_inverse_of k_inverse_of
  have b_inverse_of := F_inverse_of.binds (ps := ["p"]) fun _ _ _ _ _ _ us hl => match us, hl with | [_], _ => rfl
  have F_orders_of := fun_mk (st := s_orders_of) l_orders_of c_orders_of k_orders_of
  have b_orders_of := F_orders_of.binds (ps := ["slots", "many"]) fun _ _ _ _ _ _ us hl => match us, hl with | [_, _], _ => rfl
  have F_sorted_rows := fun_mk (st := s_sorted_rows) l_sorted_rows c_sorted_rows k_sorted_rows
  have b_sorted_rows := F_sorted_rows.binds (ps := ["rows"]) fun _ _ _ _ _ _ us hl => match us, hl with | [_], _ => rfl
  have F_check_renumbering := fun_mk (st := s_check_renumbering) l_check_renumbering c_check_renumbering k_check_renumbering
  have b_check_renumbering := F_check_renumbering.binds (ps := ["row"]) fun _ _ _ _ _ _ us hl => match us, hl with | [_], _ => rfl
  have F_check_size := fun_mk (st := s_check_size) l_check_size c_check_size k_check_size
  have b_check_size := F_check_size.binds (ps := ["row", "size"]) fun _ _ _ _ _ _ us hl => match us, hl with | [_, _], _ => rfl
  have F_compose := fun_mk (st := s_compose) l_compose c_compose k_compose
  have b_compose := F_compose.binds (ps := ["p", "q"]) fun _ _ _ _ _ _ us hl => match us, hl with | [_, _], _ => rfl
  have F_inverse := fun_mk (st := s_inverse) l_inverse c_inverse k_inverse
  have b_inverse := F_inverse.binds (ps := ["p"]) fun _ _ _ _ _ _ us hl => match us, hl with | [_], _ => rfl
  have F_generated := fun_mk (st := s_generated) l_generated c_generated k_generated
  have b_generated := F_generated.binds (ps := ["size", "rows"]) fun _ _ _ _ _ _ us hl => match us, hl with | [_, _], _ => rfl
  have F_conjugate := fun_mk (st := s_conjugate) l_conjugate c_conjugate k_conjugate
  have b_conjugate := F_conjugate.binds (ps := ["first", "second"]) fun _ _ _ _ _ _ us hl => match us, hl with | [_, _], _ => rfl
  have F_law := fun_mk (st := s_law) l_law c_law k_law
  have b_law := F_law.binds (ps := ["_law_script"]) fun _ _ _ _ _ _ us hl => match us, hl with | [_], _ => rfl
  refine ⟨PySem.W.fnOf "law" "law" (defArgs s_law) (defBody s_law) (defScope s_law) .none kV_law dc_law pm_law an_law cd_law ct_law, fun s v => .of_eq rfl, fun base _ _ => ?_⟩
  have E_BadRenumbering : ErrH l.prog w K mg base 1 "BadRenumbering" C_BadRenumbering "numbers" := ⟨⟨f_brinit, _, ["self", "numbers"], a_brinit, t_brinit, ok_brinit F_brinit, b_brinit⟩, ox_BadRenumbering, nF_BadRenumbering_numbers, g_BadRenumbering⟩
  have H_pen : Has l.prog w K mg base 1 "_law_pen" ["_law_script"] (spPen K) := has_of X G F_pen a_pen (ok_pen F_pen T) b_pen
  have H_draw : Has l.prog w K mg base 1 "_law_draw" ["_law_pen_here", "_law_many"] spDraw := has_of X G F_draw a_draw (ok_draw F_draw T) b_draw
  have H_pick : Has l.prog w K mg base 2 "_law_pick" ["_law_pen_here", "_law_options"] (spPick K) := has_of X G F_pick a_pick (ok_pick F_pick T H_draw) b_pick
  have H_shuffled : Has l.prog w K mg base 2 "_law_shuffled" ["_law_pen_here", "_law_items"] (spShufG K) := has_of X G F_shuffled a_shuffled (ok_shuffled F_shuffled T H_draw) b_shuffled
  have H_lwhole : Has l.prog w K mg base 1 "_law_whole" ["_law_value"] (spIsWholeE K) := has_of X G F_lwhole a_lwhole (ok_lwhole F_lwhole T) b_lwhole
  have ow_slots : ∀ (k : Nat) (sp : Sp), FnOk l.prog w K mg base CX0 k f_slots _ ["_law_n", "_law_spare", "_law_many"] sp → Has l.prog w K mg base k "_law_slots" ["_law_n", "_law_spare", "_law_many"] sp := fun k sp ok => has_of X G F_slots a_slots ok b_slots
  have os_slots := ok_slots (P := l.prog) (w := w) (mg := mg) (base := base) F_slots T ow_slots
  have H_slots : Has l.prog w K mg base 6 "_law_slots" ["_law_n", "_law_spare", "_law_many"] (fun vs H Q E => ∃ m, spSlots K m vs H Q E) := has_of X G F_slots a_slots ⟨fun vs H Q E h => h.elim fun m hm => (os_slots m).len vs H Q E hm, fun A outer s H args us vs Q E hr he hb hv h => h.elim fun m hm => ((os_slots m).mono (slots_lvl hm)).run A outer s H args us vs Q E hr he hb hv hm⟩ b_slots
  have H_turns : Has l.prog w K mg base 7 "_law_turns" ["_law_size"] (spTurns K) := has_of X G F_turns a_turns (ok_turns F_turns T H_slots) b_turns
  have H_carried : Has l.prog w K mg base 8 "_law_carried" ["_law_size", "_law_group", "_law_c"] (spCarried K) := has_of X G F_carried a_carried (ok_carried F_carried T H_turns) b_carried
  have H_is_whole : Has l.prog w K mg base 1 "is_whole" ["value"] (spIsWholeE K) := has_of X G F_is_whole a_is_whole (ok_is_whole F_is_whole T) b_is_whole
  have H_is_renumbering : Has l.prog w K mg base 2 "is_renumbering" ["row"] (spIsRen K) := has_of X G F_is_renumbering a_is_renumbering (ok_is_renumbering F_is_renumbering T H_is_whole) b_is_renumbering
  have H_product_of : Has l.prog w K mg base 1 "product_of" ["p", "q"] (spProduct K) := has_of X G F_product_of a_product_of (ok_product_of F_product_of T) b_product_of
  have H_inverse_of : Has l.prog w K mg base 1 "inverse_of" ["p"] (spInvOf K) := has_of X G F_inverse_of a_inverse_of (ok_inverse_of F_inverse_of T) b_inverse_of
  have H_orders_of : Has l.prog w K mg base 1 "orders_of" ["slots", "many"] (spOrders K) := has_of X G F_orders_of a_orders_of (ok_orders_of F_orders_of T) b_orders_of
  have H_sorted_rows : Has l.prog w K mg base 1 "sorted_rows" ["rows"] (spSortedRows K) := has_of X G F_sorted_rows a_sorted_rows (ok_sorted_rows F_sorted_rows T h_DIGITS) b_sorted_rows
  have H_check_renumbering : HasX l.prog w K mg base 3 "check_renumbering" ["row"] (spCheckRen K C_BadRenumbering) := ⟨f_check_renumbering, _, ok_check_renumbering F_check_renumbering T H_is_renumbering E_BadRenumbering, PySem.W.mg_of X G a_check_renumbering, F_check_renumbering.kp, b_check_renumbering⟩
  have H_check_size : HasX l.prog w K mg base 3 "check_size" ["row", "size"] (spCheckSize K C_BadRenumbering) := ⟨f_check_size, _, ok_check_size F_check_size T H_is_renumbering E_BadRenumbering, PySem.W.mg_of X G a_check_size, F_check_size.kp, b_check_size⟩
  have H_compose : HasX l.prog w K mg base 4 "compose" ["p", "q"] (spCompose K C_BadRenumbering) := ⟨f_compose, _, ok_compose F_compose T H_check_renumbering H_check_size H_product_of, PySem.W.mg_of X G a_compose, F_compose.kp, b_compose⟩
  have H_inverse : HasX l.prog w K mg base 4 "inverse" ["p"] (spInverse K C_BadRenumbering) := ⟨f_inverse, _, ok_inverse F_inverse T H_check_renumbering H_inverse_of, PySem.W.mg_of X G a_inverse, F_inverse.kp, b_inverse⟩
  have H_generated : HasX l.prog w K mg base 4 "generated" ["size", "rows"] (spGenerated K C_BadRenumbering) := ⟨f_generated, _, ok_generated F_generated T H_check_size H_product_of H_sorted_rows, PySem.W.mg_of X G a_generated, F_generated.kp, b_generated⟩
  have H_conjugate : Has l.prog w K mg base 2 "conjugate" ["first", "second"] (spConj K) := has_of X G F_conjugate a_conjugate (ok_conjugate F_conjugate T H_orders_of H_inverse_of H_product_of H_sorted_rows) b_conjugate
  exact ok_law F_law T H_pen H_draw H_shuffled H_pick H_lwhole H_turns H_carried H_conjugate H_generated H_compose H_inverse
theorem walk {l : PySem.W.OpenLaw} {q : Program} {loose : List Str} {XP : (Str → Option Value) → Heap → Prop} {YP : World → Heap → Prop} {d : DefRec} {K : Params → PySem.W.Frag} (hn : l.most = some 63) (hdf : d.params.defaults = []) (hY : ∀ (w : World) (h : Heap), YP w h → (K w.params).In h)
    (F : ∀ (w : World) (mg : Str → Option Value) (fa : Addr) (h : Heap), (K w.params).In h → h.Ns mainGlobals mg → mg d.name = some (.ref fa) →
      ∃ fd : FuncData, (∀ (s : Shared) (u : Value), BindsTo s fd ⟨[u], []⟩ [("_law_script", u)]) ∧ ∀ base : Heap, (K w.params).In base → base.Ns mainGlobals mg → FnOk l.prog w (K w.params) mg base CX0 9 fa fd ["_law_script"] (spLawH (K w.params))) :
    PySem.W.WalkO q loose XP YP l.row.toRowW d [] (fun f vs => PySem.call f vs) := L2.walk_of (n := 63) (k := 9) (x := "_law_script") (CX := fun _ => CX0) (sp := fun w => spLawH (K w.params)) hn (by decide) hdf ⟨rfl, by decide, by decide⟩ hY F (fun _ _ a ns hl _ hS => ⟨a, ns, rfl, hS, hl, fun _ => rfl⟩) fun _ _ _ _ _ z => z
end
end EN

open PySem PySem.W PyProof.Rows
set_option maxRecDepth 100000 in
set_option maxHeartbeats 0 in
theorem PySem.Challenge.cw_everyname_k58_groups_made_conjugate_holds : PySem.Challenge.rw_everyname_k58_groups_made_conjugate.Holds := by
  w_on; o_law; k_head; (case hw => w_witness2)
  k_fill
  refine EN.walk (l := PySem.Challenge.rw_everyname_k58_groups_made_conjugate) rfl rfl (fun w h Y => PySem.W.kIn_of Y) ?F
  case F =>
    intro w mg fa h KX G hmg
    refine' EN.all_mk KX G hmg ?aC_BadRenumbering ?xC_BadRenumbering ?ty_BadRenumbering ?ga_BadRenumbering ?gg_BadRenumbering ?hd_BadRenumbering ?ha_BadRenumbering ?hm_BadRenumbering ?hn_E ?ht_E ?nF_BadRenumbering_numbers ?xL_BadRenumbering ?sa_BadRenumbering ?kC_BadRenumbering ?a_DIGITS ?a_brinit ?t_brinit ?l_brinit ?c_brinit ?k_brinit ?a_pen ?l_pen ?c_pen ?k_pen ?a_draw ?l_draw ?c_draw ?k_draw ?a_pick ?l_pick ?c_pick ?k_pick ?a_shuffled ?l_shuffled ?c_shuffled ?k_shuffled ?a_lwhole ?l_lwhole ?c_lwhole ?k_lwhole ?a_slots ?l_slots ?c_slots ?k_slots ?a_turns ?l_turns ?c_turns ?k_turns ?a_carried ?l_carried ?c_carried ?k_carried ?a_is_whole ?l_is_whole ?c_is_whole ?k_is_whole ?a_is_renumbering ?l_is_renumbering ?c_is_renumbering ?k_is_renumbering ?a_product_of ?l_product_of ?c_product_of ?k_product_of ?a_inverse_of ?l_inverse_of ?c_inverse_of ?k_inverse_of ?a_orders_of ?l_orders_of ?c_orders_of ?k_orders_of ?a_sorted_rows ?l_sorted_rows ?c_sorted_rows ?k_sorted_rows ?a_check_renumbering ?l_check_renumbering ?c_check_renumbering ?k_check_renumbering ?a_check_size ?l_check_size ?c_check_size ?k_check_size ?a_compose ?l_compose ?c_compose ?k_compose ?a_inverse ?l_inverse ?c_inverse ?k_inverse ?a_generated ?l_generated ?c_generated ?k_generated ?a_conjugate ?l_conjugate ?c_conjugate ?k_conjugate ?a_law ?l_law ?c_law ?k_law ?z_list ?z_len ?z_int ?z_abs ?z_range ?z_tuple ?z_isinstance ?z_bool ?z_all ?z_sum ?z_zip ?z_min ?z_sorted ?z_any ?z_set ?z_max ?z_str ?z_enumerate ?z_reversed ?z_dict
    (case aC_BadRenumbering => k_is); (case xC_BadRenumbering => k_is); (case ty_BadRenumbering => k_is); (case ga_BadRenumbering => k_is)
    (case gg_BadRenumbering => k_is); (case hd_BadRenumbering => k_is); (case ha_BadRenumbering => k_is); (case hm_BadRenumbering => k_is)
    (case hn_E => k_is); (case ht_E => k_is); (case nF_BadRenumbering_numbers => k_is); (case xL_BadRenumbering => k_is)
    (case sa_BadRenumbering => k_is); (case kC_BadRenumbering => k_is); (case a_DIGITS => k_is); (case a_brinit => k_is)
    (case t_brinit => k_is); (case l_brinit => k_is); (case c_brinit => k_is); (case k_brinit => k_is)
    (case a_pen => k_is); (case l_pen => k_is); (case c_pen => k_is); (case k_pen => k_is)
    (case a_draw => k_is); (case l_draw => k_is); (case c_draw => k_is); (case k_draw => k_is)
    (case a_pick => k_is); (case l_pick => k_is); (case c_pick => k_is); (case k_pick => k_is)
    (case a_shuffled => k_is); (case l_shuffled => k_is); (case c_shuffled => k_is); (case k_shuffled => k_is)
    (case a_lwhole => k_is); (case l_lwhole => k_is); (case c_lwhole => k_is); (case k_lwhole => k_is)
    (case a_slots => k_is); (case l_slots => k_is); (case c_slots => k_is); (case k_slots => k_is)
    (case a_turns => k_is); (case l_turns => k_is); (case c_turns => k_is); (case k_turns => k_is)
    (case a_carried => k_is); (case l_carried => k_is); (case c_carried => k_is); (case k_carried => k_is)
    (case a_is_whole => k_is); (case l_is_whole => k_is); (case c_is_whole => k_is); (case k_is_whole => k_is)
    (case a_is_renumbering => k_is); (case l_is_renumbering => k_is); (case c_is_renumbering => k_is); (case k_is_renumbering => k_is)
    (case a_product_of => k_is); (case l_product_of => k_is); (case c_product_of => k_is); (case k_product_of => k_is)
    (case a_inverse_of => k_is); (case l_inverse_of => k_is); (case c_inverse_of => k_is); (case k_inverse_of => k_is)
    (case a_orders_of => k_is); (case l_orders_of => k_is); (case c_orders_of => k_is); (case k_orders_of => k_is)
    (case a_sorted_rows => k_is); (case l_sorted_rows => k_is); (case c_sorted_rows => k_is); (case k_sorted_rows => k_is)
    (case a_check_renumbering => k_is); (case l_check_renumbering => k_is); (case c_check_renumbering => k_is); (case k_check_renumbering => k_is)
    (case a_check_size => k_is); (case l_check_size => k_is); (case c_check_size => k_is); (case k_check_size => k_is)
    (case a_compose => k_is); (case l_compose => k_is); (case c_compose => k_is); (case k_compose => k_is)
    (case a_inverse => k_is); (case l_inverse => k_is); (case c_inverse => k_is); (case k_inverse => k_is)
    (case a_generated => k_is); (case l_generated => k_is); (case c_generated => k_is); (case k_generated => k_is)
    (case a_conjugate => k_is); (case l_conjugate => k_is); (case c_conjugate => k_is); (case k_conjugate => k_is)
    (case a_law => k_is); (case l_law => k_is); (case c_law => k_is); (case k_law => k_is)
    (case z_list => k_is); (case z_len => k_is); (case z_int => k_is); (case z_abs => k_is)
    (case z_range => k_is); (case z_tuple => k_is); (case z_isinstance => k_is); (case z_bool => k_is)
    (case z_all => k_is); (case z_sum => k_is); (case z_zip => k_is); (case z_min => k_is)
    (case z_sorted => k_is); (case z_any => k_is); (case z_set => k_is); (case z_max => k_is)
    (case z_str => k_is); (case z_enumerate => k_is); (case z_reversed => k_is); (case z_dict => k_is)

