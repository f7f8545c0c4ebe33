import PyProof.Rows.All
import Wide.All
import OpenK.AllK
import Wide.FinOn
import HandS.Evl
import HandS.Iter
import HandS.Conv
import KE.GoesMore
import HandS.Zip
import HandS.Walk
import HandS.TupAny
import HandS.TupMul
import HandS.IsInst
import HandS.Dict
import HandS.Wide
import HandS.Style
import HandS.Words
import HandS.Exc
import HandS.ExcIs
import HandS.ExcOwn
import HandS.TryOnly
import HandS.WordsExc
import HandS.Lambda
import HandS.FStr
import HandS.RaiseMore
import PyProof.ReprRoads
import HandS.Ends
import HandS.EndTab
import HandS.Defaults
import HandS.Finally
import KE.KDictCopyH
import HandS.DictComp
import HandS.DictSubView
import HandS.DeepEq
import PyProof.ReprLen
import HandS.ExcInit
import HandS.ExcValue
import HandS.ExcField
import KE.KExcIs
import HandS.Head2
import HandS.HeadEnd
import HandS.HeadHook4
import PyProof.ExcBaseAll.ValueError
import KE.KeyNested
import KE.SortData
import KE.DataCmp
import HandS.More
import HandS.SortKw
import PyProof.SumWalkG
import HandS.TupSets
import PyProof.TupleOfSeq
import HandS.OwnEq
import PyProof.InstNe
import HandS.SetFor
import PyProof.DictMoreH
import KE.KDictDisplayH
import KE.KDictSum
import HandS.Nested
import KE.SortKeyHeap
import HandS.Keys
import HandS.MakeKwOnly
import HandS.CallLocal
import HandS.Deep
import PySem.Challenge.RW_allcalls_k02_plain_crossed_full_and_piec
set_option Elab.async false
set_option linter.all false
set_option maxRecDepth 100000
set_option maxHeartbeats 2000000
/-! data behind values: what an expression evaluates to, told as data -/
namespace DL
open PySem PySem.Spec PyProof.Rows L2 Evl

section
variable {K : PySem.W.Frag} {H H' : Hp}
mutual
theorem dp_ex (e : Ex H H') : ∀ (d : PyData) (v : V), Dp K H v d → Dp K H' v d
  | .none, _, h => by cases h; exact .non
  | .bool b, _, h => by cases h; exact .bl b
  | .int i, _, h => by cases h; exact .int i
  | .str x, _, h => by cases h; exact .str x
  | .list ds, _, h => by
    cases h with
    | lst hs ha => exact .lst (ex_l e hs) (dpa_ex e ds _ ha)
  | .tuple ds, _, h => by
    cases h with
    | tup hs ha => exact .tup (ex_t e hs) (dpa_ex e ds _ ha)
  | .dict _, _, h => by cases h
theorem dpa_ex (e : Ex H H') : ∀ (ds : List PyData) (vs : List V), DpAll K H vs ds → DpAll K H' vs ds
  | [], _, h => by cases h; exact .nil
  | d :: ds, _, h => by
    cases h with
    | cons h1 h2 => exact .cons (dp_ex e d _ h1) (dpa_ex e ds _ h2)
end
theorem dpa_len : ∀ {vs : List V} {ds : List PyData}, DpAll K H vs ds → vs.length = ds.length
  | _, _, .nil => rfl
  | _, _, .cons _ t => congrArg (· + 1) (dpa_len t)
theorem dpa_get : ∀ {vs : List V} {ds : List PyData} {i : Nat} {d : PyData}, DpAll K H vs ds → ds[i]? = some d → ∃ v, vs[i]? = some v ∧ Dp K H v d
  | _, _, _, _, .nil, e => by simp at e
  | _, _, 0, _, .cons h _, e => ⟨_, rfl, by simp at e; subst e; exact h⟩
  | _, _, i + 1, _, .cons _ t, e => by
    obtain ⟨v, h1, h2⟩ := dpa_get (i := i) t (by simpa using e)
    exact ⟨v, by simpa using h1, h2⟩
theorem dpa_getV : ∀ {vs : List V} {ds : List PyData} {i : Nat} {v : V}, DpAll K H vs ds → vs[i]? = some v → ∃ d, ds[i]? = some d ∧ Dp K H v d
  | _, _, _, _, .nil, e => by simp at e
  | _, _, 0, _, .cons h _, e => ⟨_, rfl, by simp at e; subst e; exact h⟩
  | _, _, i + 1, _, .cons _ t, e => by
    obtain ⟨v, h1, h2⟩ := dpa_getV (i := i) t (by simpa using e)
    exact ⟨v, by simpa using h1, h2⟩
theorem dpa_app : ∀ {vs ws : List V} {ds es : List PyData}, DpAll K H vs ds → DpAll K H ws es → DpAll K H (vs ++ ws) (ds ++ es)
  | _, _, _, _, .nil, h => h
  | _, _, _, _, .cons a t, h => .cons a (dpa_app t h)
theorem dpa_drop : ∀ {vs : List V} {ds : List PyData} (n : Nat), DpAll K H vs ds → DpAll K H (vs.drop n) (ds.drop n)
  | _, _, 0, h => h
  | _, _, _ + 1, .nil => .nil
  | _, _, n + 1, .cons _ t => dpa_drop n t
theorem dpa_take : ∀ {vs : List V} {ds : List PyData} (n : Nat), DpAll K H vs ds → DpAll K H (vs.take n) (ds.take n)
  | _, _, 0, _ => .nil
  | _, _, _ + 1, .nil => .nil
  | _, _, n + 1, .cons a t => .cons a (dpa_take n t)
theorem dpa_set : ∀ {vs : List V} {ds : List PyData} {v : V} {d : PyData} (n : Nat), DpAll K H vs ds → Dp K H v d → DpAll K H (vs.set n v) (ds.set n d)
  | _, _, _, _, _, .nil, _ => .nil
  | _, _, _, _, 0, .cons _ t, h => .cons h t
  | _, _, _, _, n + 1, .cons a t, h => .cons a (dpa_set n t h)
theorem dpa_rep {v : V} {d : PyData} (h : Dp K H v d) : ∀ n, DpAll K H (List.replicate n v) (List.replicate n d)
  | 0 => .nil
  | n + 1 => .cons h (dpa_rep h n)
theorem dpa_rev : ∀ {vs : List V} {ds : List PyData}, DpAll K H vs ds → DpAll K H vs.reverse ds.reverse
  | _, _, .nil => .nil
  | _, _, .cons a t => by
    rw [List.reverse_cons, List.reverse_cons]
    exact dpa_app (dpa_rev t) (.cons a .nil)
/-- ints as data -/
abbrev dI (l : List Int) : List PyData := l.map PyData.int
abbrev tI (l : List Int) : PyData := .tuple (dI l)
theorem dpa_ints : ∀ {l : List Int} {vs : List V}, DpAll K H vs (dI l) → vs = l.map V.int
  | [], _, .nil => rfl
  | i :: l, _, .cons h t => by
    cases h
    rw [dpa_ints t]
    rfl
theorem ints_dpa : ∀ (l : List Int), DpAll K H (l.map V.int) (dI l)
  | [] => .nil
  | i :: l => .cons (.int i) (ints_dpa l)
theorem dp_tI {v : V} {l : List Int} (h : Dp K H v (tI l)) : ∃ a, v = .ref a ∧ SqT K H a (l.map V.int) := by
  cases h with
  | tup hs ha =>
    rw [dpa_ints ha] at hs
    exact ⟨_, rfl, hs⟩
theorem tI_dp {a : Addr} {l : List Int} (h : SqT K H a (l.map V.int)) : Dp K H (.ref a) (tI l) := .tup h (ints_dpa l)
theorem dp_int {v : V} {i : Int} (h : Dp K H v (.int i)) : v = .int i := by
  cases h; rfl
theorem dp_bool {v : V} {i : Bool} (h : Dp K H v (.bool i)) : v = .bl i := by
  cases h; rfl
theorem dp_none {v : V} (h : Dp K H v .none) : v = .non := by
  cases h; rfl
theorem dp_str {v : V} {s : Str} (h : Dp K H v (.str s)) : v = .str s := by
  cases h; rfl

/-! ### evaluation to data -/
def EvD (K : PySem.W.Frag) (te : TE) (σ : L2.St) (H : Hp) (d : PyData) : Prop := ∀ H1, Ex H H1 → ∀ Q : VK, (∀ v H2, Ex H1 H2 → Dp K H2 v d → Q v H2) → te σ H1 Q
/-- a new list -/
def EvN (K : PySem.W.Frag) (te : TE) (σ : L2.St) (H : Hp) (ds : List PyData) : Prop := ∀ H1, Ex H H1 → ∀ Q : VK, (∀ p vs H2, H1 p = none → Ex H1 H2 → H2 p = some (.lst vs) → DpAll K H2 vs ds → Q (.ref p) H2) → te σ H1 Q
def EvDA (K : PySem.W.Frag) (ta : TA) (σ : L2.St) (H : Hp) (ds : List PyData) : Prop := ∀ H1, Ex H H1 → ∀ Q : List V → Hp → Prop, (∀ vs H2, Ex H1 H2 → DpAll K H2 vs ds → Q vs H2) → ta σ H1 Q
variable {σ : L2.St} {ta tb te : TE} {t u : TT} {d : PyData} {ds : List PyData} {v : V} {i j : Int}
theorem EvD.ex (e : Ex H H') (h : EvD K te σ H d) : EvD K te σ H' d := fun H1 a Q q => h H1 (e.trans a) Q q
theorem EvN.ex (e : Ex H H') (h : EvN K te σ H ds) : EvN K te σ H' ds := fun H1 a Q q => h H1 (e.trans a) Q q
theorem EvDA.ex {ta : TA} (e : Ex H H') (h : EvDA K ta σ H ds) : EvDA K ta σ H' ds := fun H1 a Q q => h H1 (e.trans a) Q q
theorem EvN.toD (h : EvN K te σ H ds) : EvD K te σ H (.list ds) := fun H1 a Q q => h H1 a Q fun p vs H2 _ e2 hp hd => q _ H2 e2 (.lst (sq_of hp) hd)
theorem EvD.int (h : EvD K te σ H (.int i)) : Ev te σ H (.int i) := fun H1 a Q q => h H1 a Q fun v H2 e2 hd => by
  rw [dp_int hd]
  exact q H2 e2
theorem EvD.bool {b : Bool} (h : EvD K te σ H (.bool b)) : Ev te σ H (.bl b) := fun H1 a Q q => h H1 a Q fun v H2 e2 hd => by
  rw [dp_bool hd]
  exact q H2 e2
theorem EvD.non (h : EvD K te σ H .none) : Ev te σ H .non := fun H1 a Q q => h H1 a Q fun v H2 e2 hd => by
  rw [dp_none hd]
  exact q H2 e2
theorem ev_d (h : Ev te σ H v) (hd : Dp K H v d) : EvD K te σ H d := fun H1 a Q q => h H1 a Q fun H2 e2 => q v H2 e2 (dp_ex (a.trans e2) d v hd)
theorem ed_int (h : Ev te σ H (.int i)) : EvD K te σ H (.int i) := ev_d h (.int i)
theorem ed_bool {b : Bool} (h : Ev te σ H (.bl b)) : EvD K te σ H (.bool b) := ev_d h (.bl b)
theorem ed_str {b : Str} (h : Ev te σ H (.str b)) : EvD K te σ H (.str b) := ev_d h (.str b)
theorem ed_var {k : Nat} (h : σ[k]? = some (some v)) (hd : Dp K H v d) : EvD K (tVar k) σ H d := ev_d (ev_var h) hd
theorem ed_is {d' : PyData} (h : EvD K te σ H d) (e : d = d') : EvD K te σ H d' := e ▸ h
theorem en_is {ds' : List PyData} (h : EvN K te σ H ds) (e : ds = ds') : EvN K te σ H ds' := e ▸ h
theorem eda_nil : EvDA K tNil σ H [] := fun H1 _ _ q => q [] H1 (Ex.refl H1) .nil
theorem eda_cons {tr : TA} (h : EvD K te σ H d) (hr : EvDA K tr σ H ds) : EvDA K (tCons te tr) σ H (d :: ds) := fun H1 e _ q =>
  h H1 e _ fun v H2 e2 hd => hr H2 (e.trans e2) _ fun vs H3 e3 hv => q (v :: vs) H3 (e2.trans e3) (.cons (dp_ex e3 _ _ hd) hv)
theorem ed_tup {ta : TA} (h : EvDA K ta σ H ds) (hl : ds.length ≤ 100000) : EvD K (tTup ta) σ H (.tuple ds) := fun H1 e _ q =>
  h H1 e _ fun vs H2 e2 hv => ⟨sz_of (by rw [dpa_len hv]; exact hl), fun p hp => q (.ref p) _ (e2.trans (Ex.new hp)) (.tup (st_of upd_same) (dpa_ex (Ex.new hp) _ _ hv))⟩
theorem en_lst {ta : TA} (h : EvDA K ta σ H ds) (hl : ds.length ≤ 100000) : EvN K (tLst ta) σ H ds := fun H1 e _ q =>
  h H1 e _ fun vs H2 e2 hv => ⟨sz_of (by rw [dpa_len hv]; exact hl), fun p hp => q p vs _ (fresh_back e2 hp) (e2.trans (Ex.new hp)) upd_same (dpa_ex (Ex.new hp) _ _ hv)⟩
/-- t[i] -/
theorem ed_ixT {k : Nat} (h : EvD K ta σ H (.tuple ds)) (hi : Ev tb σ H (.int (k : Int))) (hk : ds[k]? = some d) : EvD K (tOp (rIxT K) ta tb) σ H d := fun H1 e Q q =>
  h H1 e _ fun w H2 e2 hw => hi H2 (e.trans e2) _ fun H3 e3 => by
    cases hw with
    | tup hs ha =>
      obtain ⟨y, hy, dy⟩ := dpa_get ha hk
      exact ⟨_, _, (k : Int), y, rfl, rfl, ex_t e3 hs, atI_nat hy, q y H3 (e2.trans e3) (dp_ex e3 _ _ dy)⟩
theorem ed_ixL {k : Nat} (h : EvD K ta σ H (.list ds)) (hi : Ev tb σ H (.int (k : Int))) (hk : ds[k]? = some d) : EvD K (tOp (rIxL K) ta tb) σ H d := fun H1 e Q q =>
  h H1 e _ fun w H2 e2 hw => hi H2 (e.trans e2) _ fun H3 e3 => by
    cases hw with
    | lst hs ha =>
      obtain ⟨y, hy, dy⟩ := dpa_get ha hk
      exact ⟨_, _, (k : Int), y, rfl, rfl, ex_l e3 hs, atI_nat hy, q y H3 (e2.trans e3) (dp_ex e3 _ _ dy)⟩
/-- len -/
theorem ev_lenT (h : EvD K te σ H (.tuple ds)) : Ev (tCB (fun xs H Q => ∃ p ys, xs = [.ref p] ∧ (SqL K H p ys ∨ SqT K H p ys) ∧ Q (.int ys.length) H) (tCons te tNil)) σ H (.int (ds.length : Int)) := fun H1 e Q q =>
  h H1 e _ fun w H2 e2 hw => by
    cases hw with
    | tup hs ha =>
      refine ⟨_, _, rfl, .inr hs, ?_⟩
      rw [dpa_len ha]
      exact q H2 e2
theorem ev_lenL (h : EvD K te σ H (.list ds)) : Ev (tCB (fun xs H Q => ∃ p ys, xs = [.ref p] ∧ (SqL K H p ys ∨ SqT K H p ys) ∧ Q (.int ys.length) H) (tCons te tNil)) σ H (.int (ds.length : Int)) := fun H1 e Q q =>
  h H1 e _ fun w H2 e2 hw => by
    cases hw with
    | lst hs ha =>
      refine ⟨_, _, rfl, .inl hs, ?_⟩
      rw [dpa_len ha]
      exact q H2 e2
/-- the promises: data in, data out; data in, a new list out -/
def spD (K : PySem.W.Frag) (n : Nat) (R : List PyData → PyData → Prop) : Sp := fun vs H Q _ => ∃ ds r, DpAll K H vs ds ∧ ds.length = n ∧ R ds r ∧ ∀ v H', Ex H H' → Dp K H' v r → Q v H'
def spN (K : PySem.W.Frag) (n : Nat) (R : List PyData → List PyData → Prop) : Sp := fun vs H Q _ => ∃ ds r, DpAll K H vs ds ∧ ds.length = n ∧ R ds r ∧ ∀ p ws H', H p = none → Ex H H' → H' p = some (.lst ws) → DpAll K H' ws r → Q (.ref p) H'
theorem spD_len {n : Nat} {R : List PyData → PyData → Prop} {vs : List V} {Q : VK} {E : XK} (h : spD K n R vs H Q E) : vs.length = n := by
  obtain ⟨ds, r, h1, h2, _⟩ := h
  rw [dpa_len h1, h2]
theorem spN_len {n : Nat} {R : List PyData → List PyData → Prop} {vs : List V} {Q : VK} {E : XK} (h : spN K n R vs H Q E) : vs.length = n := by
  obtain ⟨ds, r, h1, h2, _⟩ := h
  rw [dpa_len h1, h2]
theorem ed_call {n : Nat} {R : List PyData → PyData → Prop} {E : XK} {ta : TA} (h : EvDA K ta σ H ds) (hl : ds.length = n) (hr : R ds d) : EvD K (tCall (spD K n R) [] E ta) σ H d := fun H1 e Q q =>
  h H1 e _ fun vs H2 e2 hv => ⟨ds, d, by rw [List.append_nil]; exact hv, hl, hr, fun v H3 e3 hd => q v H3 (e2.trans e3) hd⟩
theorem en_call {n : Nat} {R : List PyData → List PyData → Prop} {r : List PyData} {E : XK} {ta : TA} (h : EvDA K ta σ H ds) (hl : ds.length = n) (hr : R ds r) : EvN K (tCall (spN K n R) [] E ta) σ H r := fun H1 e Q q =>
  h H1 e _ fun vs H2 e2 hv => ⟨ds, r, by rw [List.append_nil]; exact hv, hl, hr, fun p ws H3 hp e3 h3 hd => q p ws H3 (fresh_back e2 hp) (e2.trans e3) h3 hd⟩
/-! ### statements -/
variable {D : Ends} {tu tw tz : TS} {g : TG}
theorem d_asg {k : Nat} (h : EvD K te σ H d) (q : ∀ v H1, Ex H H1 → Dp K H1 v d → D.nx (σ.set k (some v)) H1) : tAsg te (gName k) D σ H := h H (Ex.refl H) _ q
theorem n_asg {k : Nat} (h : EvN K te σ H ds) (q : ∀ p vs H1, H p = none → Ex H H1 → H1 p = some (.lst vs) → DpAll K H1 vs ds → D.nx (σ.set k (some (.ref p))) H1) : tAsg te (gName k) D σ H := h H (Ex.refl H) _ q
theorem d_ret (h : EvD K te σ H d) (q : ∀ v H1, Ex H H1 → Dp K H1 v d → D.rt v H1) : tRet te D σ H := h H (Ex.refl H) _ q
theorem n_ret (h : EvN K te σ H ds) (q : ∀ p vs H1, H p = none → Ex H H1 → H1 p = some (.lst vs) → DpAll K H1 vs ds → D.rt (.ref p) H1) : tRet te D σ H := h H (Ex.refl H) _ q
theorem d_drop (h : EvD K te σ H d) (q : ∀ H1, Ex H H1 → D.nx σ H1) : tDrop te D σ H := h H (Ex.refl H) _ fun _ H1 e _ => q H1 e
/-- xs.append(e), e data that stays when the list at l changes (l is not known at H0) -/
theorem d_app {l : Addr} {xs : List V} (hl : H l = some (.lst xs)) (ha : Ev ta σ H (.ref l)) (h : EvD K te σ H d) (hz : xs.length < 100000) (q : ∀ v H1, Ex H H1 → Dp K H1 v d → D.nx σ (upd H1 l (.lst (xs ++ [v])))) :
    tDrop (tBM K "list" rAppend ta (tCons te tNil)) D σ H := ha H (Ex.refl H) _ fun H1 e1 =>
  ⟨Or.inl ⟨rfl, xs, sq_of (e1 l _ hl)⟩, h H1 e1 _ fun v H2 e2 hd => ⟨l, xs, v, rfl, rfl, e2 l _ (e1 l _ hl), sz_lt hz, q v H2 (e1.trans e2) hd⟩⟩
end
/-! ### data of tuples alone: no change of a list or a dict touches it -/
/-- tuples stay -/
def Tx (H H' : Hp) : Prop := ∀ a xs, Rd H a (.tup xs) → Rd H' a (.tup xs)
theorem Tx.of_ex {H H' : Hp} (e : Ex H H') : Tx H H' := fun _ _ h => ex_rd e h
theorem Tx.trans {H H1 H2 : Hp} (a : Tx H H1) (b : Tx H1 H2) : Tx H H2 := fun x o h => b x o (a x o h)
theorem Tx.refl (H : Hp) : Tx H H := fun _ _ h => h
theorem Tx.upd {H : Hp} {p : Addr} {o u : HO} (h : H p = some o) (n : ∀ xs, o ≠ .tup xs) (n2 : ∀ ob xs, o ≠ .frz ob (.tup xs)) : Tx H (upd H p u) := fun a xs r => by
  rcases r with r | ⟨ob, r⟩
  · have ne : a ≠ p := fun z => by
      rw [z, h] at r
      exact n xs (Option.some.inj r)
    exact Or.inl (by rw [upd_ne ne]; exact r)
  · have ne : a ≠ p := fun z => by
      rw [z, h] at r
      exact n2 ob xs (Option.some.inj r)
    exact Or.inr ⟨ob, by rw [upd_ne ne]; exact r⟩
theorem Tx.lst {H : Hp} {p : Addr} {xs : List V} {u : HO} (h : H p = some (.lst xs)) : Tx H (L2.upd H p u) := Tx.upd h (fun _ z => nomatch z) fun _ _ z => nomatch z
theorem Tx.dct {H : Hp} {p : Addr} {xs : List (Key × V)} {u : HO} (h : H p = some (.dK xs)) : Tx H (L2.upd H p u) := Tx.upd h (fun _ z => nomatch z) fun _ _ z => nomatch z
mutual
def imm : PyData → Bool
  | .none => true
  | .bool _ => true
  | .int _ => true
  | .str _ => true
  | .tuple ds => immAll ds
  | _ => false
def immAll : List PyData → Bool
  | [] => true
  | d :: ds => imm d && immAll ds
end
section
variable {K : PySem.W.Frag} {H H' : Hp}
theorem sqT_tx {a : Addr} {xs : List V} (e : Tx H H') (h : SqT K H a xs) : SqT K H' a xs := by
  rcases h with h | h
  · exact Or.inl (e _ _ h)
  · exact Or.inr h
mutual
theorem dp_tx (e : Tx H H') : ∀ (d : PyData) (v : V), imm d = true → Dp K H v d → Dp K H' v d
  | .none, _, _, h => by cases h; exact .non
  | .bool b, _, _, h => by cases h; exact .bl b
  | .int i, _, _, h => by cases h; exact .int i
  | .str x, _, _, h => by cases h; exact .str x
  | .list ds, _, i, h => by simp [imm] at i
  | .tuple ds, _, i, h => by
    cases h with
    | tup hs ha => exact .tup (sqT_tx e hs) (dpa_tx e ds _ (by simpa [imm] using i) ha)
  | .dict _, _, _, h => by cases h
theorem dpa_tx (e : Tx H H') : ∀ (ds : List PyData) (vs : List V), immAll ds = true → DpAll K H vs ds → DpAll K H' vs ds
  | [], _, _, h => by cases h; exact .nil
  | d :: ds, _, i, h => by
    simp only [immAll, Bool.and_eq_true] at i
    cases h with
    | cons h1 h2 => exact .cons (dp_tx e d _ i.1 h1) (dpa_tx e ds _ i.2 h2)
end
theorem immAll_ints : ∀ l : List Int, immAll (dI l) = true
  | [] => by simp [immAll]
  | i :: l => by
    rw [dI, List.map_cons, immAll, immAll_ints l]
    simp [imm]
theorem imm_tI (l : List Int) : imm (tI l) = true := by
  rw [imm]
  exact immAll_ints l
theorem immAll_tIs : ∀ l : List (List Int), immAll (l.map tI) = true
  | [] => by simp [immAll]
  | i :: l => by rw [List.map_cons, immAll, imm_tI, immAll_tIs l]; rfl
end
end DL
set_option Elab.async false
set_option linter.all false
set_option maxRecDepth 100000
set_option maxHeartbeats 2000000
/-! zip of a list or a tuple and a list or a tuple, in any mix: the pairs are new tuples -/
namespace DL
open PySem PySem.Spec PyProof.Rows L2 Evl

/-- a list or a tuple -/
def SqA (K : PySem.W.Frag) (t : Bool) (H : Hp) (a : Addr) (xs : List V) : Prop := if t then SqT K H a xs else SqL K H a xs
theorem sqa_l {K : PySem.W.Frag} {H : Hp} {a : Addr} {xs : List V} (h : SqL K H a xs) : SqA K false H a xs := h
theorem sqa_t {K : PySem.W.Frag} {H : Hp} {a : Addr} {xs : List V} (h : SqT K H a xs) : SqA K true H a xs := h
/-- the iterator over it, at the i-th turn -/
def ItA (t : Bool) (h : Heap) (it a : Addr) (vs : Array Value) (i : Nat) : Prop :=
  if t then h.IsTupleIter it a i ∧ h.IsTuple a vs else h.IsListIter it a i ∧ h.IsList a vs
theorem drawsA {prog : Program} {w : World} {A : Around} (hh : A.handled = none) (t : Bool) (it a : Addr) (hne : a ≠ it) (vs : Array Value) :
    Draws prog w A it [it, a] vs.size (fun i v => vs[i]? = some v) (fun i h => ItA t h it a vs i) := by
  cases t with
  | true => exact Draws.tuple hh it a hne vs
  | false => exact Draws.list hh it a hne vs
def objA (t : Bool) (a : Addr) : Obj := if t then { cls := .type "tuple_iterator", data := .fields #[.ref a, .int 0 0] } else { cls := .type "list_iterator", data := .fields #[.ref a, .int 0 0] }
def heldA (t : Bool) (a : Addr) (vs : Array Value) (h : Heap) : Prop := if t then h.IsTuple a vs else h.IsList a vs
theorem beginsA (t : Bool) (a : Addr) (vs : Array Value) : Begins (.ref a) (objA t a) (heldA t a vs) := by
  cases t with
  | true => exact begins_tuple a vs
  | false => exact begins_list a vs
theorem itA_new {t : Bool} {h : Heap} {it a : Addr} {vs : Array Value} (ho : h.get? it = some (objA t a)) (hv : heldA t a vs h) : ItA t h it a vs 0 := by
  cases t with
  | true => exact ⟨⟨_, ho, rfl, rfl⟩, hv⟩
  | false => exact ⟨⟨_, ho, rfl, rfl⟩, hv⟩
theorem heldA_kept {t : Bool} {h h' : Heap} {a : Addr} {vs : Array Value} (hv : heldA t a vs h) (k : ∀ o, h.get? a = some o → h'.get? a = some o) : heldA t a vs h' := by
  cases t with
  | true => exact Heap.IsTuple.at (show h.IsTuple a vs from hv) k
  | false => exact Heap.IsList.at (show h.IsList a vs from hv) k
theorem heldA_lt {t : Bool} {h : Heap} {a : Addr} {vs : Array Value} (hv : heldA t a vs h) : a < h.objs.size := by
  cases t with
  | true =>
    obtain ⟨o, ho, _⟩ := (show h.IsTuple a vs from hv)
    exact Heap.lt_size ho
  | false =>
    obtain ⟨o, ho, _⟩ := (show h.IsList a vs from hv)
    exact Heap.lt_size ho

/-- the walk of zip: what stands at a and b, their items in new pairs -/
def ItzM (K : PySem.W.Frag) (t u : Bool) (a b : Addr) : It :=
  ⟨fun i H => ∃ (xs ys : List V) (x y : V), SqA K t H a xs ∧ SqA K u H b ys ∧ xs[i]? = some x ∧ ys[i]? = some y,
    fun i H v H' => ∃ T x y, v = .ref T ∧ H T = none ∧ H' = upd H T (.tup [x, y]) ∧ (∀ xs, SqA K t H a xs → xs[i]? = some x) ∧ ∀ ys, SqA K u H b ys → ys[i]? = some y,
    fun i H => ∃ xs ys : List V, SqA K t H a xs ∧ SqA K u H b ys ∧ (xs.length = i ∧ i ≤ ys.length ∨ ys.length = i ∧ i ≤ xs.length)⟩
section
variable {X : Cx} {pins : List (Addr × Obj)} {σ : L2.St} {H : Hp} {s : Shared} {a b : Addr} {xs ys : List V} {t u : Bool}
theorem held_of (I : Inv X pins σ H s) (h : SqA X.K t H a xs) : ∃ its : List Value, Vals xs its ∧ heldA t a its.toArray s.heap := by
  cases t with
  | true =>
    obtain ⟨its, r, p, _⟩ := I.tuple (show SqT X.K H a xs from h)
    exact ⟨its, r, show s.heap.IsTuple a its.toArray from p⟩
  | false =>
    obtain ⟨its, r, p, _⟩ := I.list (show SqL X.K H a xs from h)
    exact ⟨its, r, p.isList⟩
theorem sqA_inj (I : Inv X pins σ H s) (h : SqA X.K t H a xs) (h' : SqA X.K t H a ys) : xs = ys := by
  cases t with
  | true => exact I.tuple_inj h h'
  | false => exact I.list_inj h h'
theorem held_inj {h : Heap} {vs ws : Array Value} (p : heldA t a vs h) (q : heldA t a ws h) : vs = ws := by
  cases t with
  | true =>
    obtain ⟨o, e, _, n, d⟩ := (show h.IsTuple a vs from p)
    obtain ⟨o', e', _, n', d'⟩ := (show h.IsTuple a ws from q)
    rw [e] at e'; cases e'
    rw [d] at d'
    injection d' with d1 _
  | false =>
    obtain ⟨o, e, _, n, d⟩ := (show h.IsList a vs from p)
    obtain ⟨o', e', _, n', d'⟩ := (show h.IsList a ws from q)
    rw [e] at e'; cases e'
    rw [d] at d'
    injection d' with d1 _
theorem itA_held {h : Heap} {it : Addr} {vs : Array Value} {i : Nat} (x : ItA t h it a vs i) : heldA t a vs h := by
  cases t with
  | true => exact x.2
  | false => exact x.2
theorem itA_obj {h : Heap} {it : Addr} {vs : Array Value} {i : Nat} (x : ItA t h it a vs i) : ∃ o fs, h.get? it = some o ∧ o.data = .fields fs := by
  cases t with
  | true => obtain ⟨⟨o, e, _, d⟩, _⟩ := x; exact ⟨o, _, e, d⟩
  | false => obtain ⟨⟨o, e, _, d⟩, _⟩ := x; exact ⟨o, _, e, d⟩
theorem itA_at {h h' : Heap} {it : Addr} {vs : Array Value} {i : Nat} (x : ItA t h it a vs i) (k : ∀ o, h.get? it = some o → h'.get? it = some o) (k2 : ∀ o, h.get? a = some o → h'.get? a = some o) : ItA t h' it a vs i := by
  cases t with
  | true => exact ⟨x.1.at k, Heap.IsTuple.at x.2 k2⟩
  | false => exact ⟨x.1.at k, Heap.IsList.at x.2 k2⟩
/-- the iterator's own place alone -/
def ItB (t : Bool) (h : Heap) (it a : Addr) (i : Nat) : Prop := if t then h.IsTupleIter it a i else h.IsListIter it a i
theorem itB_of {h : Heap} {it : Addr} {vs : Array Value} {i : Nat} (x : ItA t h it a vs i) : ItB t h it a i := by
  cases t with
  | true => exact x.1
  | false => exact x.1
theorem itA_of {h : Heap} {it : Addr} {vs : Array Value} {i : Nat} (x : ItB t h it a i) (y : heldA t a vs h) : ItA t h it a vs i := by
  cases t with
  | true => exact ⟨x, y⟩
  | false => exact ⟨x, y⟩
theorem itB_obj {h : Heap} {it : Addr} {i : Nat} (x : ItB t h it a i) : ∃ o fs, h.get? it = some o ∧ o.data = .fields fs := by
  cases t with
  | true => obtain ⟨o, e, _, d⟩ := x; exact ⟨o, _, e, d⟩
  | false => obtain ⟨o, e, _, d⟩ := x; exact ⟨o, _, e, d⟩
theorem itB_at {h h' : Heap} {it : Addr} {i : Nat} (x : ItB t h it a i) (k : ∀ o, h.get? it = some o → h'.get? it = some o) : ItB t h' it a i := by
  cases t with
  | true => exact Heap.IsTupleIter.at (show h.IsTupleIter it a i from x) k
  | false => exact Heap.IsListIter.at (show h.IsListIter it a i from x) k
end
/-- the cells of a zip and what it walks lie apart -/
theorem sep_of {z TI TO i1 i2 a b : Addr} (D : ZipApart z TI TO i1 i2 a b) : ZipSep2 z TI TO i1 i2 [i1, a] [i2, b] where
  TIz := D.TIz
  TOz := D.TOz
  TITO := D.TITO
  TIi1 := D.TIi1
  mem1 := by simp
  zf1 := by simp [D.i1z.symm, D.l1z.symm]
  Tf1 := by simp [D.TOi1, D.l1TO.symm]
  TIi2 := D.TIi2
  mem2 := by simp
  zf2 := by simp [D.i2z.symm, D.l2z.symm]
  Tf2 := by simp [D.TOi2, D.l2TO.symm]
  sep1_2 := by simp [D.i12, D.l2i1.symm]
  sep2_1 := by simp [D.i12.symm, D.l1i2.symm]
theorem five {z TI TO i1 i2 : Addr} {P : Addr → Prop} (h1 : P z) (h2 : P TI) (h3 : P TO) (h4 : P i1) (h5 : P i2) : ∀ c, c ∈ [z, TI, TO, i1, i2] → P c := fun c hc => by
  simp only [List.mem_cons, List.not_mem_nil, or_false] at hc
  rcases hc with rfl | rfl | rfl | rfl | rfl
  · exact h1
  · exact h2
  · exact h3
  · exact h4
  · exact h5
theorem turn_zipM {P : Program} {w : World} {K : PySem.W.Frag} {elts : List Expr} {kk : Nat} {tpos : Pos} {t u : Bool} {a b z TI TO i1 i2 : Addr} (D : ZipApart z TI TO i1 i2 a b) :
    Turn P w K (.Tuple elts kk tpos) (ItzM K t u a b) [z, TI, TO, i1, i2] z
      (fun i h => IsZip h z TI TO .none ∧ IsPair h TI (.ref i1) (.ref i2) ∧ (∃ x y, IsPair h TO x y) ∧ ItB t h i1 a i ∧ ItB u h i2 b i) where
  mem := by simp
  obj := fun i h st => by
    obtain ⟨hz, hTI, ⟨x, y, hTO⟩, h1, h2⟩ := st
    refine five ⟨_, hz, fun v q => nomatch q⟩ ⟨_, hTI, fun v q => nomatch q⟩ ⟨_, hTO, fun v q => nomatch q⟩ ?_ ?_
    · obtain ⟨o, fs, e, d⟩ := itB_obj h1
      exact ⟨o, e, fun v q => by rw [d] at q; cases q⟩
    · obtain ⟨o, fs, e, d⟩ := itB_obj h2
      exact ⟨o, e, fun v q => by rw [d] at q; cases q⟩
  keep := fun i h h' st k => by
    obtain ⟨hz, hTI, ⟨x, y, hTO⟩, h1, h2⟩ := st
    exact ⟨k z (by simp) _ hz, k TI (by simp) _ hTI, ⟨x, y, k TO (by simp) _ hTO⟩, itB_at h1 fun o q => k i1 (by simp) o q, itB_at h2 fun o q => k i2 (by simp) o q⟩
  item := by
    intro X hP hw hK hc i pins s σ H E I hf st hg
    subst hP hw hK
    obtain ⟨hz, hTI, ⟨x0, y0, hTO⟩, h1, h2⟩ := st
    obtain ⟨xs, ys, x, y, hqx, hqy, hx, hy⟩ := hg
    obtain ⟨its, rv, p⟩ := held_of I hqx
    obtain ⟨its2, rv2, p2⟩ := held_of I hqy
    obtain ⟨w1, hw1, rw1⟩ := rv.get hx
    obtain ⟨w2, hw2, rw2⟩ := rv2.get hy
    have l1 : i < its.toArray.size := by
      have := (List.getElem?_eq_some_iff.mp hw1).1
      simpa using this
    have l2 : i < its2.toArray.size := by
      have := (List.getElem?_eq_some_iff.mp hw2).1
      simpa using this
    have hh : X.A.in1.handled = none := I.ok.hd hc
    have hzl : z < s.heap.objs.size := Heap.lt_size hz
    refine wpAny_pyNext_zipD2_item (sep_of D) (drawsA hh t i1 a D.l1i1 its.toArray) (drawsA hh u i2 b D.l2i2 its2.toArray) hz hTI hTO (itA_of h1 p) (itA_of h2 p2) l1 l2 fun x1 x2 h' tk e1 e2 z' TO' s1 s2 hT hsz hk => ?_
    have ex1 : x1 = w1 := by
      have q := hw1
      rw [show its[i]? = some x1 by simpa using e1] at q
      exact Option.some.inj q
    have ex2 : x2 = w2 := by
      have q := hw2
      rw [show its2[i]? = some x2 by simpa using e2] at q
      exact Option.some.inj q
    subst ex1 ex2
    refine ⟨_, rfl, wpAny_letOwnedTupleGo_zip (s := { s with heap := h', toks := tk }) z' fun h'' z'' sb => ?_⟩
    have up : ∀ c o, c ≠ z → h'.get? c = some o → h''.get? c = some o := fun c o n q => (sb.2 c n).trans q
    have hT2 := up _ _ (Nat.ne_of_gt hzl) hT
    have new : ObjOk X.prog X.w (upd H s.heap.objs.size (.tup [x, y])) h'' s.heap.objs.size (.tup [x, y]) :=
      ⟨by show 2 ≤ sizeLine; decide, [x1, x2], .cons rw1 (.cons rw2 .nil), ⟨_, hT2, rfl, _, rfl⟩⟩
    have kk : ∀ c o, c ∉ [z, TI, TO, i1, i2] → s.heap.get? c = some o → h''.get? c = some o := fun c o nc q => by
      simp only [List.mem_cons, List.not_mem_nil, or_false, not_or] at nc
      exact up c o nc.1 (hk c o nc.1 nc.2.2.1 nc.2.2.2.1 nc.2.2.2.2 q)
    have I1 : Inv X pins σ (upd H s.heap.objs.size (.tup [x, y])) { s with heap := h'', toks := tk } := I.turnedNew (t' := tk) (ch := [z, TI, TO, i1, i2]) kk hf (Nat.le_refl _) new
    have hTI' : IsPair h'' TI (.ref i1) (.ref i2) := up _ _ D.TIz (hk _ _ D.TIz D.TITO D.TIi1 D.TIi2 hTI)
    refine ⟨.ref s.heap.objs.size, _, I1, rfl, ⟨_, x, y, rfl, I.hok.fresh (Nat.le_refl _), rfl, fun l hl => ?_, fun l hl => ?_⟩, ⟨z'', hTI', ⟨x1, x2, up _ _ D.TOz TO'⟩, ?_, ?_⟩, ?_⟩
    · rw [sqA_inj I hl hqx]
      exact hx
    · rw [sqA_inj I hl hqy]
      exact hy
    · exact itB_at (itB_of s1) fun o q => up _ o D.i1z q
    · exact itB_at (itB_of s2) fun o q => up _ o D.i2z q
    · have lt1 : i1 < s.heap.objs.size := by
        obtain ⟨o, _, e, _⟩ := itB_obj h1
        exact Heap.lt_size e
      have lt2 : i2 < s.heap.objs.size := by
        obtain ⟨o, _, e, _⟩ := itB_obj h2
        exact Heap.lt_size e
      have go : ∀ c, c < s.heap.objs.size → c ∈ [z, TI, TO, i1, i2] → upd H s.heap.objs.size (.tup [x, y]) c = none := fun c l m => by
        rw [upd_ne (Nat.ne_of_lt l)]
        exact (hf c m).1
      exact five (go _ hzl (by simp)) (go _ (Heap.lt_size hTI) (by simp)) (go _ (Heap.lt_size hTO) (by simp)) (go _ lt1 (by simp)) (go _ lt2 (by simp))
  done := by
    intro X hP hw hK hc i pins s σ H E I hf st hg
    subst hP hw hK
    obtain ⟨hz, hTI, ⟨x0, y0, hTO⟩, h1, h2⟩ := st
    obtain ⟨xs, ys, hqx, hqy, hend⟩ := hg
    obtain ⟨its, rv, p⟩ := held_of I hqx
    obtain ⟨its2, rv2, p2⟩ := held_of I hqy
    have n1 : its.toArray.size = xs.length := by rw [List.size_toArray, rv.length]
    have n2 : its2.toArray.size = ys.length := by rw [List.size_toArray, rv2.length]
    have hh : X.A.in1.handled = none := I.ok.hd hc
    refine wpAny_pyNext_zipD2_end (sep_of D) (drawsA hh t i1 a D.l1i1 its.toArray) (drawsA hh u i2 b D.l2i2 its2.toArray) hz hTI hTO (i := i) (itA_of h1 p) (itA_of h2 p2) (by omega) (by omega) (by omega) fun h' tk hk => ⟨rfl, ?_⟩
    refine I.turnedL (t' := tk) (ch := [z, TI, TO, i1, i2]) (fun c o nc q => ?_) hf
    simp only [List.mem_cons, List.not_mem_nil, or_false, not_or] at nc
    exact hk c o nc.1 nc.2.2.1 nc.2.2.2.1 nc.2.2.2.2 q
  self := fun A i s Q E st h => wpAny_pyIter_zip st.1 h

def iZipM (K : PySem.W.Frag) (t u : Bool) (ta : TA) : TI := fun σ H R => ta σ H fun vs H1 => ∃ a b xs ys, vs = [.ref a, .ref b] ∧ SqA K t H1 a xs ∧ SqA K u H1 b ys ∧ R (ItzM K t u a b) H1
theorem pi_zipM {X : Cx} {e e2 : Expr} {ta : TA} {p pos tpos : Pos} {elts : List Expr} {kk : Nat} (t u : Bool) (hg : Gl X "zip") (hm : X.mg "zip" = none) (ha : PA X [e, e2] ta)
    (hs : starEach [e, e2] X.env = (false, eval e X.env) :: starEach [e2] X.env := by rfl)
    (hpl : (backTo pos (starEach [e2] X.env)).any (·.1) = false := by rfl) :
    PI X (.Tuple elts kk tpos) (.Call (.Name "zip" p) [e, e2] [] pos) (iZipM X.K t u ta) := by
  refine ⟨fun pins s σ H R I h => ?_⟩
  refine Call_ (ld_blt I hg hm PyProof.Rows.boot_zip (PyProof.Rows.callWith_type1 (thn (ha.run pos pins s σ H _ I h) fun us s1 q0 => ?_) hs hpl))
  obtain ⟨vs, H1, I1, r1, a, b, xs, ys, rfl, hqx, hqy, q⟩ := q0
  obtain ⟨v1, v2, rfl, ra, rb⟩ := vals2 r1
  cases ra
  cases rb
  obtain ⟨its, rv, p1⟩ := held_of I1 hqx
  obtain ⟨its2, rv2, p2⟩ := held_of I1 hqy
  have fr : ∀ k, FpOk X pins H1 (s1.heap.objs.size + k) := fun k => I1.fpOk (Nat.le_add_right _ _) (I1.hok.fresh (Nat.le_add_right _ _))
  refine zip_begins2 (beginsA t a its.toArray) (beginsA u b its2.toArray) p1 p2 fun h' hz hTI hTO h1 h2 hsz hk => wpAny_pyIter_zip hz ?_
  have I2 : Inv X pins σ H1 { s1 with heap := h' } := I1.kept (t' := s1.toks) hk
  have b1 : ItB t h' s1.heap.objs.size a 0 := itB_of (itA_new (vs := its.toArray) h1 (heldA_kept p1 fun o e => hk a o e))
  have b2 : ItB u h' (s1.heap.objs.size + 1) b 0 := itB_of (itA_new (vs := its2.toArray) h2 (heldA_kept p2 fun o e => hk b o e))
  exact ⟨s1.heap.objs.size + 4, [s1.heap.objs.size + 4, s1.heap.objs.size + 2, s1.heap.objs.size + 3, s1.heap.objs.size, s1.heap.objs.size + 1], _, _, H1, rfl, I2,
    turn_zipM (PySem.W.ktu_apart s1.heap.objs.size a b (heldA_lt p1) (heldA_lt p2)), ⟨hz, hTI, ⟨_, _, hTO⟩, b1, b2⟩, five (fr 4) (fr 2) (fr 3) (fr 0) (fr 1), q⟩
theorem walk_zipM {K : PySem.W.Frag} {a b : Addr} {t u : Bool} {xs ys : List V} {n : Nat} (hn : n = min xs.length ys.length) :
    Walk (ItzM K t u a b) n (fun H => SqA K t H a xs ∧ SqA K u H b ys) (YPair (fun i => xs[i]?) (fun i => ys[i]?)) := by
  subst hn
  refine ⟨fun i _ hi q => ?_, fun _ q => ⟨xs, ys, q.1, q.2, by omega⟩, fun i H v H' _ q y => ?_⟩
  · have h1 : i < xs.length := by omega
    have h2 : i < ys.length := by omega
    exact ⟨xs, ys, xs[i], ys[i], q.1, q.2, List.getElem?_eq_getElem h1, List.getElem?_eq_getElem h2⟩
  · obtain ⟨T, x, z, h1, h2, h3, h4, h5⟩ := y
    exact ⟨T, x, z, h1, h2, h3, h4 xs q.1, h5 ys q.2⟩
end DL
set_option Elab.async false
set_option linter.all false
set_option maxRecDepth 100000
set_option maxHeartbeats 2000000
namespace DL
open PySem PySem.Spec PyProof.Rows L2 Evl

/-! ### what stays but for some lists -/
def Xp (S : List Addr) (H H' : Hp) : Prop := ∀ a o, H a = some o → a ∉ S → H' a = some o
theorem Xp.refl (S : List Addr) (H : Hp) : Xp S H H := fun _ _ h _ => h
theorem Xp.of_ex {S : List Addr} {H H' : Hp} (e : Ex H H') : Xp S H H' := fun a o h _ => e a o h
theorem Xp.to_ex {H H' : Hp} (e : Xp [] H H') : Ex H H' := fun a o h => e a o h (by simp)
theorem Xp.trans {S : List Addr} {H H1 H2 : Hp} (a : Xp S H H1) (b : Xp S H1 H2) : Xp S H H2 := fun x o h n => b x o (a x o h n) n
theorem Xp.then {S : List Addr} {H H1 H2 : Hp} (a : Xp S H H1) (b : Ex H1 H2) : Xp S H H2 := fun x o h n => b x o (a x o h n)
theorem Xp.upd {S : List Addr} {H H1 : Hp} {p : Addr} {o : HO} (a : Xp S H H1) (hp : p ∈ S) : Xp S H (L2.upd H1 p o) := fun x u h n => by
  rw [upd_ne (fun z : x = p => n (by rw [z]; exact hp))]
  exact a x u h n
/-- S holds lists alone -/
def Ls (H : Hp) (S : List Addr) : Prop := ∀ p ∈ S, ∃ l, H p = some (.lst l)
theorem Ls.nil (H : Hp) : Ls H [] := fun p hp => absurd hp (by simp)
theorem Ls.one {H : Hp} {p : Addr} {l : List V} (h : H p = some (.lst l)) : Ls H [p] := fun q hq => by
  have e : q = p := by simpa using hq
  exact ⟨l, e ▸ h⟩
theorem Ls.cons {H : Hp} {p : Addr} {S : List Addr} {l : List V} (h : H p = some (.lst l)) (r : Ls H S) : Ls H (p :: S) := fun q hq => by
  rcases List.mem_cons.mp hq with e | e
  · exact ⟨l, e ▸ h⟩
  · exact r q e
theorem Ls.ex {H H' : Hp} {S : List Addr} (h : Ls H S) (e : Ex H H') : Ls H' S := fun p hp => by
  obtain ⟨l, q⟩ := h p hp
  exact ⟨l, e p _ q⟩
theorem Xp.tx {S : List Addr} {H H' : Hp} (e : Xp S H H') (h : Ls H S) : Tx H H' := fun a xs r => by
  have n : ∀ o, H a = some o → (∀ l, o ≠ .lst l) → a ∉ S := fun o ho hn hs => by
    obtain ⟨l, q⟩ := h a hs
    rw [ho] at q
    exact hn l (Option.some.inj q)
  rcases r with r | ⟨ob, r⟩
  · exact Or.inl (e _ _ r (n _ r fun l z => nomatch z))
  · exact Or.inr ⟨ob, e _ _ r (n _ r fun l z => nomatch z)⟩

section
variable {K : PySem.W.Frag} {σ : L2.St} {H H' : Hp} {ta tb te : TE} {t u : TT} {d : PyData} {ds : List PyData} {v : V}
/-! ### what is walked, told as data -/
/-- n items ds; S: lists that may change meanwhile -/
def EvI (K : PySem.W.Frag) (wi : TI) (σ : L2.St) (H : Hp) (S : List Addr) (ds : List PyData) : Prop :=
  ∀ H1, Ex H H1 → ∀ R : It → Hp → Prop, (∀ J H2, Ex H1 H2 → Walk J ds.length (fun Ha => Xp S H2 Ha) (fun i Ha x Hb => Ex Ha Hb ∧ ∃ d, ds[i]? = some d ∧ Dp K Hb x d) → R J H2) → wi σ H1 R
theorem ei_ex {wi : TI} {S : List Addr} (e : Ex H H') (h : EvI K wi σ H S ds) : EvI K wi σ H' S ds := fun H1 a R q => h H1 (e.trans a) R q
theorem fresh_notin {S : List Addr} {p : Addr} (hS : Ls H S) (hp : H p = none) : p ∉ S := fun hs => by
  obtain ⟨l, q⟩ := hS p hs
  rw [hp] at q
  cases q
/-- a new list -/
theorem ei_new {S : List Addr} (hS : Ls H S) (h : EvN K te σ H ds) (hi : immAll ds = true) : EvI K (iList K te) σ H S ds := fun H1 e R q =>
  h H1 e _ fun p vs H2 hp e2 h2 hd => by
    refine ⟨p, rfl, ⟨vs, sq_of h2⟩, q _ H2 e2 ?_⟩
    have hn : p ∉ S := fresh_notin (hS.ex e) hp
    have hl := dpa_len hd
    rw [← hl]
    refine walk_list.mono (fun Ha x => sq_of (x p _ h2 hn)) fun i Ha x Hb hlt hg y => ?_
    obtain ⟨rfl, hx⟩ := y
    obtain ⟨d, hd1, hd2⟩ := dpa_getV (dpa_tx (hg.tx (hS.ex (e.trans e2))) _ _ hi hd) hx
    exact ⟨Ex.refl _, d, hd1, hd2⟩
/-- a list that stands -/
theorem ei_lst {S : List Addr} {q : Addr} {vs : List V} (hS : Ls H S) (h : Ev te σ H (.ref q)) (hq : H q = some (.lst vs)) (hn : q ∉ S) (hd : DpAll K H vs ds) (hi : immAll ds = true) : EvI K (iList K te) σ H S ds := fun H1 e R r =>
  h H1 e _ fun H2 e2 => by
    have h2 := e2 _ _ (e _ _ hq)
    refine ⟨q, rfl, ⟨vs, sq_of h2⟩, r _ H2 e2 ?_⟩
    rw [← dpa_len hd]
    refine walk_list.mono (fun Ha x => sq_of (x q _ h2 hn)) fun i Ha x Hb hlt hg y => ?_
    obtain ⟨rfl, hx⟩ := y
    obtain ⟨d, hd1, hd2⟩ := dpa_getV (dpa_tx (hg.tx (hS.ex (e.trans e2))) _ _ hi (dpa_ex (e.trans e2) _ _ hd)) hx
    exact ⟨Ex.refl _, d, hd1, hd2⟩
/-- a tuple -/
theorem ei_tup {S : List Addr} (hS : Ls H S) (h : EvD K te σ H (.tuple ds)) (hi : immAll ds = true) : EvI K (iTup K te) σ H S ds := fun H1 e R r =>
  h H1 e _ fun w H2 e2 hw => by
    cases hw with
    | tup hs ha =>
      refine ⟨_, rfl, ⟨_, hs⟩, r _ H2 e2 ?_⟩
      rw [← dpa_len ha]
      refine walk_tup.mono (fun Ha x => sqT_tx (x.tx (hS.ex (e.trans e2))) hs) fun i Ha x Hb hlt hg y => ?_
      obtain ⟨rfl, hx⟩ := y
      obtain ⟨d, hd1, hd2⟩ := dpa_getV (dpa_tx (hg.tx (hS.ex (e.trans e2))) _ _ hi ha) hx
      exact ⟨Ex.refl _, d, hd1, hd2⟩
/-- range -/
theorem rng_get {n : Nat} {f : Nat → PyData} {i : Nat} (h : i < n) : ((List.range n).map f)[i]? = some (f i) := by
  rw [List.getElem?_map, List.getElem?_range h]
  rfl
theorem ei_rng1 {S : List Addr} {ta : TA} {n : Int} (h : EvDA K ta σ H [.int n]) (hn : -(2 ^ 62) ≤ n ∧ n < 2 ^ 62) : EvI K (iRng1 ta) σ H S ((List.range n.toNat).map fun (i : Nat) => PyData.int (i : Int)) := fun H1 e R r =>
  h H1 e _ fun vs H2 e2 hv => by
    cases hv with
    | cons a b =>
      cases b
      cases a
      refine ⟨n, rfl, hn.1, hn.2, r _ H2 e2 ?_⟩
      rw [List.length_map, List.length_range]
      refine walk_range.mono (fun _ _ => trivial) fun i Ha x Hb hlt hg y => ?_
      obtain ⟨rfl, rfl⟩ := y
      refine ⟨Ex.refl _, _, rng_get hlt, ?_⟩
      show Dp K Hb (.int (0 + (i : Int))) (.int (i : Int))
      rw [Int.zero_add]
      exact .int _
theorem ei_rng2 {S : List Addr} {ta : TA} {m n : Int} (h : EvDA K ta σ H [.int m, .int n]) (hn : (-(2 ^ 62) ≤ m ∧ m < 2 ^ 62) ∧ -(2 ^ 62) ≤ n ∧ n < 2 ^ 62) : EvI K (iRng2 ta) σ H S ((List.range (n - m).toNat).map fun (i : Nat) => PyData.int (m + (i : Int))) := fun H1 e R r =>
  h H1 e _ fun vs H2 e2 hv => by
    cases hv with
    | cons a b =>
      cases b with
      | cons b c =>
        cases c
        cases a
        cases b
        refine ⟨m, n, rfl, ⟨hn.1.1, hn.1.2, hn.2.1, hn.2.2⟩, r _ H2 e2 ?_⟩
        rw [List.length_map, List.length_range]
        refine walk_range.mono (fun _ _ => trivial) fun i Ha x Hb hlt hg y => ?_
        obtain ⟨rfl, rfl⟩ := y
        exact ⟨Ex.refl _, _, rng_get hlt, .int _⟩
/-- range(m, e, -1) -/
theorem ei_rngD {S : List Addr} {ta : TA} {m n : Int} (h : EvDA K ta σ H [.int m, .int n, .int (-1)]) (hn : (-(2 ^ 61) ≤ m ∧ m < 2 ^ 61) ∧ -(2 ^ 61) ≤ n ∧ n < 2 ^ 61) (hr : RgC m n (-1) (m - n).toNat) :
    EvI K (iRng3 ta) σ H S ((List.range (m - n).toNat).map fun (i : Nat) => PyData.int (m - (i : Int))) := fun H1 e R r =>
  h H1 e _ fun vs H2 e2 hv => by
    cases hv with
    | cons a b =>
      cases b with
      | cons b c =>
        cases c with
        | cons c f =>
          cases f
          cases a
          cases b
          cases c
          refine ⟨m, n, -1, (m - n).toNat, rfl, hr, r _ H2 e2 ?_⟩
          rw [List.length_map, List.length_range]
          refine walk_rangeC.mono (fun _ _ => trivial) fun i Ha x Hb hlt hg y => ?_
          obtain ⟨rfl, rfl⟩ := y
          refine ⟨Ex.refl _, _, rng_get hlt, ?_⟩
          show Dp K Hb (.int (m + (i : Int) * (-1))) (.int (m - (i : Int)))
          rw [show m + (i : Int) * (-1) = m - (i : Int) by omega]
          exact .int _
/-! ### loops over it -/
variable {D : Ends} {tu tw tz : TS} {g : TG}
/-- a for: Pv of the heap at the start (all is evaluated), the turn, the slots, the heap -/
theorem d_for {wi : TI} {S : List Addr} (h : EvI K wi σ H S ds) (Pv : Hp → Nat → L2.St → Hp → Prop) (h0 : ∀ H2, Ex H H2 → Pv H2 0 σ H2) (hX : ∀ H2 i σ' Ha, i ≤ ds.length → Pv H2 i σ' Ha → Xp S H2 Ha)
    (hs : ∀ H2 i d x σ' Ha Hb, Ex H H2 → ds[i]? = some d → Pv H2 i σ' Ha → Ex Ha Hb → Dp K Hb x d → g x σ' Hb fun σ2 H3 => tu { D with nx := Pv H2 (i + 1), ct := Pv H2 (i + 1), bk := D.nx } σ2 H3)
    (hd : ∀ H2 σ' Ha, Ex H H2 → Pv H2 ds.length σ' Ha → D.nx σ' Ha) : tFor wi g tu D σ H := h H (Ex.refl H) _ fun J H2 e2 w =>
  for_it w (Pv H2) (h0 H2 e2) (fun i σ' Ha hi p => hX H2 i σ' Ha hi p) (fun i x σ' Ha Hb hlt p y => by
    obtain ⟨e, d, hd1, hd2⟩ := y
    exact hs H2 i d x σ' Ha Hb e2 hd1 p e hd2) fun σ' Ha p => hd H2 σ' Ha e2 p
theorem e_for {wi : TI} {S : List Addr} (h : EvI K wi σ H S ds) (Pv : Hp → Nat → L2.St → Hp → Prop) (h0 : ∀ H2, Ex H H2 → Pv H2 0 σ H2) (hX : ∀ H2 i σ' Ha, i ≤ ds.length → Pv H2 i σ' Ha → Xp S H2 Ha)
    (hs : ∀ H2 i d x σ' Ha Hb, Ex H H2 → ds[i]? = some d → Pv H2 i σ' Ha → Ex Ha Hb → Dp K Hb x d → g x σ' Hb fun σ2 H3 => tu { D with nx := Pv H2 (i + 1), ct := Pv H2 (i + 1), bk := tz D } σ2 H3)
    (hd : ∀ H2 σ' Ha, Ex H H2 → Pv H2 ds.length σ' Ha → tz D σ' Ha) : tSeq (tFor wi g tu) tz D σ H := d_for (D := { D with nx := tz D }) h Pv h0 hX hs hd
theorem gl_nil {Q : L2.St → Hp → Prop} : (fun (σ' : L2.St) H' => gNil [] σ' H' Q) = Q := by
  funext a b
  exact propext ⟨fun z => z.2, fun z => ⟨rfl, z⟩⟩
theorem gl_one {g2 : TG} {v : V} {Q : L2.St → Hp → Prop} : (fun (σ1 : L2.St) H1 => g2 v σ1 H1 Q) = fun σ1 H1 => gCons g2 gNil [v] σ1 H1 Q := by
  funext σ1 H1
  apply propext
  constructor
  · intro z
    refine ⟨v, [], rfl, ?_⟩
    rw [gl_nil]
    exact z
  · intro ⟨w, r, e, z⟩
    cases e
    rw [gl_nil] at z
    exact z
/-- targets: a name; a pair of targets; three -/
theorem g_two {g1 g2 : TG} {d1 d2 : PyData} {x : V} {Q : L2.St → Hp → Prop} (h : Dp K H x (.tuple [d1, d2])) (k : ∀ v1 v2, Dp K H v1 d1 → Dp K H v2 d2 → g1 v1 σ H fun σ1 H1 => g2 v2 σ1 H1 Q) :
    gTup K 2 (gCons g1 (gCons g2 gNil)) x σ H Q := by
  cases h with
  | tup hs ha =>
    cases ha with
    | cons a b =>
      cases b with
      | cons b c =>
        cases c
        refine ⟨_, _, rfl, hs, rfl, _, _, rfl, ?_⟩
        have q := k _ _ a b
        rw [gl_one] at q
        exact q
/-- a comprehension without a test -/
theorem en_lc {wi : TI} {vs : List Nat} (h : EvI K wi σ H [] ds) (hl : ds.length ≤ 50000) (f : Nat → PyData) (hi : ∀ i, i < ds.length → imm (f i) = true)
    (hs : ∀ H2 i d x Hb (Q : L2.St → Hp → Prop), Ex H H2 → ds[i]? = some d → Ex H2 Hb → Dp K Hb x d → (∀ σ2 H3, Ex Hb H3 → wipe σ2 vs = wipe σ vs → EvD K te σ2 H3 (f i) → Q σ2 H3) → g x (wipe σ vs) Hb Q) :
    EvN K (tLc wi g tYes te vs) σ H ((List.range ds.length).map f) := fun H1 e Q q => h H1 e _ fun J H2 e2 w => fun Dl hD => by
  have all : ∀ n, n ≤ ds.length → immAll ((List.range n).map f) = true := fun n => by
    induction n with
    | zero => intro _; simp [immAll]
    | succ n ih =>
      intro hn
      have app : ∀ (a b : List PyData), immAll a = true → immAll b = true → immAll (a ++ b) = true := fun a b ha hb => by
        induction a with
        | nil => exact hb
        | cons x a ih =>
          simp only [immAll, Bool.and_eq_true] at ha
          rw [List.cons_append, immAll, ha.1, ih ha.2]
          rfl
      rw [List.range_succ, List.map_append]
      exact app _ _ (ih (by omega)) (by simp [immAll, hi n (by omega)])
  refine lc_it w (fun n Ha => ∃ ws, Ex H2 Ha ∧ Ha Dl = some (.lst ws) ∧ DpAll K Ha ws ((List.range n).map f)) ⟨[], Ex.new hD, upd_same, by simp; exact .nil⟩ (fun n Ha _ p => by
    obtain ⟨ws, p1, _⟩ := p
    exact Xp.of_ex p1) (fun i x Ha Hb hlt p y => ?_) fun Ha p => ?_
  · obtain ⟨ws, p1, p2, p3⟩ := p
    obtain ⟨ey, d, hd1, hd2⟩ := y
    refine hs H2 i d x Hb _ (e.trans e2) hd1 (p1.trans ey) hd2 fun σ2 H3 e3 hw hv => ⟨hw, ?_⟩
    show te σ2 H3 _
    refine hv H3 (Ex.refl _) _ fun v H4 e4 hv4 => ⟨ws, e4 _ _ (e3 _ _ (ey _ _ p2)), ?_, ws ++ [v], ?_, upd_same, ?_⟩
    · have := dpa_len p3
      rw [List.length_map, List.length_range] at this
      exact sz_lt (by omega)
    · exact Ex.mut ((p1.trans ey).trans (e3.trans e4)) hD
    · have at4 : H4 Dl = some (.lst ws) := e4 _ _ (e3 _ _ (ey _ _ p2))
      rw [List.range_succ, List.map_append]
      refine dpa_app (dpa_tx (Tx.lst at4) _ _ (all i (by omega)) (dpa_ex ((ey.trans e3).trans e4) _ _ p3)) ?_
      exact .cons (dp_tx (Tx.lst at4) _ _ (hi i hlt) hv4) .nil
  · obtain ⟨ws, p1, p2, p3⟩ := p
    exact q Dl ws Ha (fresh_back e2 hD) (e2.trans p1) p2 p3
end
end DL
set_option Elab.async false
set_option linter.all false
set_option maxRecDepth 100000
set_option maxHeartbeats 2000000
namespace DL
open PySem PySem.Spec PyProof.Rows L2 Evl

/-! ### defs that are called by name -/
structure DF (P : Program) (w : World) (K : PySem.W.Frag) (mg : Str → Option Value) (base : Heap) (nm : Str) (k : Nat) (ps : List Str) (sp : Sp) : Prop where
  ex : ∃ (f : Addr) (fd : FuncData), FnOk P w K mg base CX0 k f fd ps sp ∧ mg nm = some (.ref f) ∧ PySem.W.keepIn K (.ref f) = true ∧ Binds K fd ps []
theorem pe_D {X : Cx} {nm : Str} {k : Nat} {ps : List Str} {sp : Sp} {e : Expr} {es : List Expr} {t : TA} {p pos : Pos} (F : DF X.prog X.w X.K X.mg X.base nm k ps sp) (hr : Room k X.A) (hg : Gl X nm) (ha : PA X (e :: es) t)
    (hdb : (nm == ("__debug__" : Str)) = false := by decide) (he : starEach (e :: es) X.env = (false, eval e X.env) :: starEach es X.env := by rfl) (hpl : (backTo pos (starEach es X.env)).any (·.1) = false := by rfl) :
    PE X (.Call (.Name nm p) (e :: es) [] pos) (tCall sp [] E0 t) := by
  obtain ⟨f, fd, h1, h2, h3, h4⟩ := F.ex
  exact pe_call h1 hr hg h2 h3 h4 .nil pass0 ha hdb he hpl

/-! ### a list's item, read to be changed -/
def rGetL (K : PySem.W.Frag) : V → V → Hp → VK → Prop := fun o i H Q => ∃ p xs v, ∃ j : Nat, o = .ref p ∧ i = .int (j : Int) ∧ SqL K H p xs ∧ xs[j]? = some v ∧ Q v H
theorem get_list {X : Cx} : PGet X (rGetL X.K) := fun pins s σ H o i ov iv Q I r1 r2 h => by
  obtain ⟨p, xs, v, j, rfl, rfl, hs, hv, q⟩ := h
  obtain ⟨its, rv, pl, hz⟩ := I.list hs
  cases r1
  obtain ⟨t, rfl⟩ := r2
  obtain ⟨u, hu, ru⟩ := rv.get hv
  have hj := (List.getElem?_eq_some_iff.mp hv).1
  have hn := line63
  refine wpAny_getItem_list pl.isList (by omega) (by omega) (x := u) (by simpa using hu) ⟨v, H, I, ru, q⟩

/-! ### max of a tuple of ints -/
section
variable {prog : Program} {w : World} {A : Around} {E : Value → Shared → Prop} {s : Shared} {l : Addr} {its : List Value} {ns : List Int} {Q : Value → Shared → Prop}
theorem max_rawT (hh : A.handled = none) (hl : s.heap.IsTuple l its.toArray) (hi : IntsAre its ns) (hne : 0 < ns.length)
    (h : ∀ h' tk M t', (∀ b o, s.heap.get? b = some o → h'.get? b = some o) → M ∈ ns → (∀ a, a ∈ ns → a ≤ M) → Q (.int M t') { s with heap := h', toks := tk }) :
    wpAny (model prog w) A (call (.builtin "max") [.ref l]) Q E s := by
  have len : its.length = ns.length := hi.length
  have at_ : ∀ (i : Nat) v, its.toArray[i]? = some v → ∃ t, v = .int (ns.getD i 0) t := fun i v hv => by
    have hv' : its[i]? = some v := by simpa using hv
    have go : ∀ {us : List Value} {ms : List Int}, IntsAre us ms → ∀ {i : Nat} {v : Value}, us[i]? = some v → ∃ t, v = .int (ms.getD i 0) t := by
      intro us ms hh
      induction hh with
      | nil => intro i v e; simp at e
      | cons n t _ ih =>
        intro i v e
        cases i with
        | zero => exact ⟨t, by simpa using e.symm⟩
        | succ i =>
          obtain ⟨t', q⟩ := ih (i := i) (v := v) (by simpa using e)
          exact ⟨t', by simpa using q⟩
    exact go hi hv'
  have hlt : l < s.heap.objs.size := by
    obtain ⟨o, ho, _⟩ := hl
    exact Heap.lt_size ho
  refine call_max_walk (wpAny_pyIter_tuple hl ?_)
  refine ⟨s.heap.objs.size, _, _, _, _, _, _, rfl, Walks.tuple (A := A.in1) hh _ l (Nat.ne_of_lt hlt) its.toArray, ⟨⟨_, Heap.get?_push_size _ rfl, rfl, rfl⟩, Heap.IsTuple.push hl _⟩, fun b hb => ?_, ?_, CmpOf.ints_gt (fun i => ns.getD i 0) at_, fun v h' tk hv hk => ?_⟩
  · show b < (s.heap.push _).objs.size
    rw [Heap.size_push]
    simp only [List.mem_cons, List.not_mem_nil, or_false] at hb
    rcases hb with e | e
    · rw [e]; exact Nat.lt_succ_self _
    · rw [e]; exact Nat.lt_succ_of_lt hlt
  · rw [List.size_toArray, len]
    exact hne
  · obtain ⟨t, rfl⟩ := at_ _ _ hv
    obtain ⟨h1, h2⟩ := argBest_gt (fun i => ns.getD i 0) (its.toArray.size - 1)
    have e1 : its.toArray.size = ns.length := by rw [List.size_toArray, len]
    refine h h' tk _ t (fun b o e => hk b o (fun hm => ?_) (Heap.get?_push_of_some _ e)) ?_ fun a ha => ?_
    · have := Heap.lt_size e
      simp only [List.mem_cons, List.not_mem_nil, or_false] at hm
      rw [hm] at this
      exact Nat.lt_irrefl _ this
    · exact PySem.getD_mem (by omega)
    · obtain ⟨j, hj, rfl⟩ := List.getElem_of_mem ha
      have q := h2 j (by omega)
      have ej : ns.getD j 0 = ns[j] := by rw [List.getD_eq_getElem?_getD, List.getElem?_eq_getElem hj]; rfl
      rw [ej] at q
      exact q
end
section
variable {X : Cx}
def rMaxT (K : PySem.W.Frag) : List V → Hp → VK → Prop := fun vs H Q => ∃ (a : Addr) (ns : List Int), vs = [V.ref a] ∧ SqT K H a (ns.map V.int) ∧ 0 < ns.length ∧ ∀ m, m ∈ ns → (∀ y, y ∈ ns → y ≤ m) → Q (.int m) H
theorem cr_maxT (hc : X.calm = true) : CallR X (.builtin "max") (rMaxT X.K) := by
  intro pins s σ H vs us Q I r h
  obtain ⟨a, ns, rfl, hs, hne, q⟩ := h
  obtain ⟨its, rv, hl, _⟩ := I.tuple hs
  rw [Vals.ref1 r]
  exact max_rawT (I.ok.hd hc) (show s.heap.IsTuple a its.toArray from hl) rv.ints hne fun h' tk m t' hk h1 h2 => ⟨.int _, H, I.kept hk, ⟨_, rfl⟩, q m h1 h2⟩
end
end DL
set_option Elab.async false
set_option linter.all false
set_option maxRecDepth 100000
set_option maxHeartbeats 2000000
namespace DL
open PySem PySem.Spec PyProof.Rows L2 Evl
section
variable {K : PySem.W.Frag} {σ : L2.St} {H H' : Hp} {ta tb te : TE} {t u : TT} {d : PyData} {ds es : List PyData} {v : V} {ns : List Int}
/-- a list that is tracked -/
def EvQ (K : PySem.W.Frag) (te : TE) (σ : L2.St) (H : Hp) (ds : List PyData) : Prop := ∀ H1, Ex H H1 → ∀ Q : VK, (∀ p vs H2, Ex H1 H2 → H2 p = some (.lst vs) → DpAll K H2 vs ds → Q (.ref p) H2) → te σ H1 Q
theorem EvN.toQ (h : EvN K te σ H ds) : EvQ K te σ H ds := fun H1 e Q q => h H1 e Q fun p vs H2 _ e2 h2 hd => q p vs H2 e2 h2 hd
theorem EvQ.toD (h : EvQ K te σ H ds) : EvD K te σ H (.list ds) := fun H1 e Q q => h H1 e Q fun p vs H2 e2 h2 hd => q _ H2 e2 (.lst (sq_of h2) hd)
theorem EvQ.ex (e : Ex H H') (h : EvQ K te σ H ds) : EvQ K te σ H' ds := fun H1 a Q q => h H1 (e.trans a) Q q
theorem eq_var {k : Nat} {p : Addr} {vs : List V} (h : σ[k]? = some (some (.ref p))) (hp : H p = some (.lst vs)) (hd : DpAll K H vs ds) : EvQ K (tVar k) σ H ds := fun H1 e Q q =>
  ⟨.ref p, h, q p vs H1 (Ex.refl _) (e _ _ hp) (dpa_ex e _ _ hd)⟩
theorem eq_is {ds' : List PyData} (h : EvQ K te σ H ds) (e : ds = ds') : EvQ K te σ H ds' := e ▸ h

/-! ### max, min, sum -/
theorem ev_maxL {m : Int} (h : EvD K te σ H (.list (dI ns))) (h0 : 0 < ns.length) (hm : m ∈ ns) (hb : ∀ y, y ∈ ns → y ≤ m) : Ev (tCB (rMax K) (tCons te tNil)) σ H (.int m) := fun H1 e Q q =>
  h H1 e _ fun w H2 e2 hw => by
    cases hw with
    | lst hs ha =>
      rw [dpa_ints ha] at hs
      refine ⟨_, ns, rfl, hs, h0, fun m' h1 h2 => ?_⟩
      rw [show m' = m from Int.le_antisymm (hb _ h1) (h2 _ hm)]
      exact q H2 e2
theorem ev_maxT {m : Int} (h : EvD K te σ H (tI ns)) (h0 : 0 < ns.length) (hm : m ∈ ns) (hb : ∀ y, y ∈ ns → y ≤ m) : Ev (tCB (rMaxT K) (tCons te tNil)) σ H (.int m) := fun H1 e Q q =>
  h H1 e _ fun w H2 e2 hw => by
    obtain ⟨a, rfl, hs⟩ := dp_tI hw
    refine ⟨a, ns, rfl, hs, h0, fun m' h1 h2 => ?_⟩
    rw [show m' = m from Int.le_antisymm (hb _ h1) (h2 _ hm)]
    exact q H2 e2
theorem ev_sumL (h : EvD K te σ H (.list (dI ns))) : Ev (tCB (rSum K) (tCons te tNil)) σ H (.int ns.sum) := fun H1 e Q q =>
  h H1 e _ fun w H2 e2 hw => by
    cases hw with
    | lst hs ha =>
      rw [dpa_ints ha] at hs
      exact ⟨_, ns, rfl, hs, q H2 e2⟩
theorem ev_min2 {i j : Int} (ha : Ev ta σ H (.int i)) (hb : Ev tb σ H (.int j)) : Ev (tCB (fun xs H Q => ∃ i j, xs = [.int i, .int j] ∧ Q (.int (if j < i then j else i)) H) (tCons ta (tCons tb tNil))) σ H (.int (min i j)) := fun H1 e Q q =>
  ha H1 e _ fun H2 e2 => hb H2 (e.trans e2) _ fun H3 e3 => ⟨i, j, rfl, by
    have : (if j < i then j else i) = min i j := by
      by_cases h : j < i
      · rw [if_pos h]; omega
      · rw [if_neg h]; omega
    rw [this]
    exact q H3 (e2.trans e3)⟩

/-! ### joining, repeating, cutting -/
theorem en_cat (ha : EvQ K ta σ H ds) (hb : EvQ K tb σ H es) (hl : ds.length + es.length ≤ 100000) : EvN K (tOp rCat ta tb) σ H (ds ++ es) := fun H1 e Q q =>
  ha H1 e _ fun p vs H2 e2 hp hd => hb H2 (e.trans e2) _ fun r ws H3 e3 hr he => ⟨p, r, vs, ws, rfl, rfl, e3 _ _ hp, hr, sz_of (by rw [dpa_len hd, dpa_len he]; exact hl), fun l hl =>
    q l _ _ (fresh_back (e2.trans e3) hl) ((e2.trans e3).trans (Ex.new hl)) upd_same (dpa_ex (Ex.new hl) _ _ (dpa_app (dpa_ex e3 _ _ hd) he))⟩
theorem en_rep {n : Int} (ha : EvQ K ta σ H [d]) (hb : Ev tb σ H (.int n)) (hn : n ≤ 100000) (hn0 : -100000 ≤ n) : EvN K (tOp rRep ta tb) σ H (List.replicate n.toNat d) := fun H1 e Q q =>
  ha H1 e _ fun p vs H2 e2 hp hd => hb H2 (e.trans e2) _ fun H3 e3 => by
    cases hd with
    | cons a b =>
      cases b
      rename_i v
      have hz : ([v] : List V).length * n.toNat ≤ 100000 := by simp; omega
      refine ⟨p, n, [v], rfl, rfl, e3 _ _ hp, by omega, by omega, sz_of hz, fun l hl => ?_⟩
      have ef : (List.replicate n.toNat [v]).flatten = List.replicate n.toNat v := by
        induction n.toNat with
        | zero => rfl
        | succ k ih => rw [List.replicate_succ, List.flatten_cons, ih, List.replicate_succ]; rfl
      rw [ef]
      exact q l _ _ (fresh_back (e2.trans e3) hl) ((e2.trans e3).trans (Ex.new hl)) upd_same (dpa_rep (dp_ex ((e3).trans (Ex.new hl)) _ _ a) _)
theorem ed_cat (ha : EvD K ta σ H (.tuple ds)) (hb : EvD K tb σ H (.tuple es)) (hl : ds.length + es.length ≤ 100000) : EvD K (tOp (rCatA K) ta tb) σ H (.tuple (ds ++ es)) := fun H1 e Q q =>
  ha H1 e _ fun x H2 e2 hx => hb H2 (e.trans e2) _ fun y H3 e3 hy => by
    cases hx with
    | tup h1 a1 =>
      cases hy with
      | tup h2 a2 =>
        have n1 := dpa_len a1
        have n2 := dpa_len a2
        refine ⟨_, _, _, _, rfl, rfl, ex_t e3 h1, h2, sz_of (by omega), fun e0 => ?_, fun _ e0 => ?_, fun _ _ l hl => ?_⟩
        · subst e0
          cases a1
          exact q _ H3 (e2.trans e3) (.tup h2 a2)
        · subst e0
          cases a2
          rw [List.append_nil] at q
          exact q _ H3 (e2.trans e3) (.tup (ex_t e3 h1) (dpa_ex e3 _ _ a1))
        · exact q _ _ ((e2.trans e3).trans (Ex.new hl)) (.tup (st_of upd_same) (dpa_ex (Ex.new hl) _ _ (dpa_app (dpa_ex e3 _ _ a1) a2)))
def cutD (ds : List PyData) (lo hi : Option Int) : List PyData := (ds.drop (HT.sIx ds.length 0 lo)).take (HT.sIx ds.length ds.length hi - HT.sIx ds.length 0 lo)
theorem dpa_cut {vs : List V} {lo hi : Option Int} (h : DpAll K H vs ds) : DpAll K H (cutV vs lo hi) (cutD ds lo hi) := by
  unfold cutV cutD
  rw [dpa_len h]
  exact dpa_take _ (dpa_drop _ h)
theorem ed_sl {tl th : TO} {lo hi : Option Int} (h : EvD K te σ H (.tuple ds)) (h1 : EvO tl σ H lo) (h2 : EvO th σ H hi) : EvD K (tSl (rSlA K) te tl th) σ H (.tuple (cutD ds lo hi)) := fun H1 e Q q =>
  h H1 e _ fun x H2 e2 hx => h1 H2 (e.trans e2) _ fun H3 e3 => h2 H3 ((e.trans e2).trans e3) _ fun H4 e4 => by
    cases hx with
    | tup hs ha =>
      have n1 := dpa_len ha
      refine ⟨_, _, rfl, ex_t (e3.trans e4) hs, fun hw => ?_, fun _ l hl => ?_⟩
      · have ec : cutD ds lo hi = ds := by
          unfold cutD
          rw [← n1, hw.1, hw.2, n1]
          simp
        rw [ec] at q
        exact q _ H4 ((e2.trans e3).trans e4) (.tup (ex_t (e3.trans e4) hs) (dpa_ex (e3.trans e4) _ _ ha))
      · exact q _ _ (((e2.trans e3).trans e4).trans (Ex.new hl)) (.tup (st_of upd_same) (dpa_ex ((e3.trans e4).trans (Ex.new hl)) _ _ (dpa_cut ha)))
theorem en_sl {tl th : TO} {lo hi : Option Int} (h : EvD K te σ H (.list ds)) (h1 : EvO tl σ H lo) (h2 : EvO th σ H hi) : EvN K (tSl (rSlL K) te tl th) σ H (cutD ds lo hi) := fun H1 e Q q =>
  h H1 e _ fun x H2 e2 hx => h1 H2 (e.trans e2) _ fun H3 e3 => h2 H3 ((e.trans e2).trans e3) _ fun H4 e4 => by
    cases hx with
    | lst hs ha =>
      refine ⟨_, _, rfl, ex_l (e3.trans e4) hs, fun l hl => ?_⟩
      exact q _ _ _ (fresh_back ((e2.trans e3).trans e4) hl) (((e2.trans e3).trans e4).trans (Ex.new hl)) upd_same (dpa_ex ((e3.trans e4).trans (Ex.new hl)) _ _ (dpa_cut ha))
theorem en_rev (h : EvD K te σ H (.list ds)) : EvN K (tRevL K te) σ H ds.reverse := fun H1 e Q q =>
  h H1 e _ fun x H2 e2 hx => by
    cases hx with
    | lst hs ha => exact ⟨_, _, rfl, hs, fun l hl => q _ _ _ (fresh_back e2 hl) (e2.trans (Ex.new hl)) upd_same (dpa_ex (Ex.new hl) _ _ (dpa_rev ha))⟩
/-- tuple(x), list(x) -/
theorem ed_tupleOf (h : EvD K te σ H (.list ds)) : EvD K (tCB (fun xs H Q => ∃ p ys, xs = [.ref p] ∧ ((SqL K H p ys ∧ ∀ l, H l = none → Q (.ref l) (upd H l (.tup ys))) ∨ (SqT K H p ys ∧ Q (.ref p) H))) (tCons te tNil)) σ H (.tuple ds) := fun H1 e Q q =>
  h H1 e _ fun x H2 e2 hx => by
    cases hx with
    | lst hs ha => exact ⟨_, _, rfl, .inl ⟨hs, fun l hl => q _ _ (e2.trans (Ex.new hl)) (.tup (st_of upd_same) (dpa_ex (Ex.new hl) _ _ ha))⟩⟩
theorem en_listOf (h : EvD K te σ H (.list ds)) : EvN K (tCB (fun xs H Q => ∃ p ys, xs = [.ref p] ∧ (SqL K H p ys ∨ SqT K H p ys) ∧ ∀ l, H l = none → Q (.ref l) (upd H l (.lst ys))) (tCons te tNil)) σ H ds := fun H1 e Q q =>
  h H1 e _ fun x H2 e2 hx => by
    cases hx with
    | lst hs ha => exact ⟨_, _, rfl, .inl hs, fun l hl => q _ _ _ (fresh_back e2 hl) (e2.trans (Ex.new hl)) upd_same (dpa_ex (Ex.new hl) _ _ ha)⟩
/-! ### tests -/
theorem ev_eqD {e1 e2 : PyData} (ha : EvD K ta σ H e1) (hb : EvD K tb σ H e2) (h1 : SeqAt.shaped e1 = true) (h2 : SeqAt.shaped e2 = true) : Ev (tOp (rEqD K) ta tb) σ H (.bl (PyData.eqv e1 e2)) := fun H1 e Q q =>
  ha H1 e _ fun x H2 e2' hx => hb H2 (e.trans e2') _ fun y H3 e3 hy => ⟨_, _, dp_ex e3 _ _ hx, hy, h1, h2, q H3 (e2'.trans e3)⟩
theorem eqvAll_ints : ∀ a b : List Int, PyData.eqvAll (dI a) (dI b) = decide (a = b)
  | [], [] => by simp [PyData.eqvAll]
  | [], _ :: _ => by simp [PyData.eqvAll]
  | _ :: _, [] => by simp [PyData.eqvAll]
  | x :: a, y :: b => by
    have ih := eqvAll_ints a b
    rw [dI, dI, List.map_cons, List.map_cons, PyData.eqvAll, ih, PyData.eqv]
    by_cases h : x = y
    · subst h; simp
    · simp [h]
theorem eqv_tI (a b : List Int) : PyData.eqv (tI a) (tI b) = decide (a = b) := by
  rw [PyData.eqv]
  exact eqvAll_ints a b
theorem canLay_ints : ∀ a : List Int, PyData.canLayAll0 (dI a) = true
  | [] => by simp [PyData.canLayAll0]
  | x :: a => by simp [PyData.canLayAll0, PyData.canLay0, canLay_ints a]
theorem depth_ints : ∀ a : List Int, PyData.depthAll (dI a) ≤ 1
  | [] => by simp [PyData.depthAll]
  | x :: a => by
    have h := depth_ints a
    rw [dI] at h
    rw [dI, List.map_cons, PyData.depthAll]
    simp only [PyData.depth]
    omega
theorem shaped_tI (a : List Int) : SeqAt.shaped (tI a) = true := by
  have h := depth_ints a
  show ((tI a).canLay0 && decide ((tI a).depth ≤ 64)) = true
  rw [Bool.and_eq_true]
  refine ⟨by rw [PyData.canLay0]; exact canLay_ints a, decide_eq_true ?_⟩
  rw [PyData.depth]
  omega
def isNoneD : PyData → Bool
  | .none => true
  | _ => false
theorem ev_isN {b : Bool} (ha : EvD K ta σ H d) (hb : b = isNoneD d) : Ev (tIsN ta) σ H (.bl b) := fun H1 e Q q =>
  ha H1 e _ fun x H2 e2 hx => by
    have : decide (x = V.non) = b := by
      rw [hb]
      cases hx <;> simp [isNoneD]
    rw [this]
    exact q H2 e2
theorem ev_notN {b : Bool} (ha : EvD K ta σ H d) (hb : b = !isNoneD d) : Ev (tNotN ta) σ H (.bl b) := fun H1 e Q q =>
  ha H1 e _ fun x H2 e2 hx => by
    have : (!decide (x = V.non)) = b := by
      rw [hb]
      cases hx <;> simp [isNoneD]
    rw [this]
    exact q H2 e2
/-- isinstance of an int, a bool, a tuple, a list -/
theorem ev_isi_int {nm : String} {b : Bool} {i : Int} (ha : Ev ta σ H (.int i)) (hb : kitB "int" nm = some b) : Ev (tCB (rIsi K) (tCons ta (tCons (tC (.ty nm)) tNil))) σ H (.bl b) := fun H1 e Q q =>
  ha H1 e _ fun H2 e2 => ⟨_, _, _, _, b, rfl, .ty nm, .base (.int i), kit_ty hb, q H2 e2⟩
theorem tyT {H : Hp} {a : Addr} {xs : List V} (h : SqT K H a xs) : TyX K H (.ref a) (.type "tuple") := by
  rcases h with (h | ⟨o, h⟩) | ⟨o, its, n, hk, hc, _⟩
  · exact .base (.tup h)
  · exact .fTuple h
  · exact .kTuple hk hc
theorem tyL {H : Hp} {a : Addr} {xs : List V} (h : SqL K H a xs) : TyX K H (.ref a) (.type "list") := by
  rcases h with (h | ⟨o, h⟩) | ⟨o, its, n, hk, hc, _⟩
  · exact .base (.lst h)
  · exact .base (.frz h)
  · exact .kList hk hc
theorem ev_isi_tup {nm : String} {b : Bool} (ha : EvD K ta σ H (.tuple ds)) (hb : kitB "tuple" nm = some b) : Ev (tCB (rIsi K) (tCons ta (tCons (tC (.ty nm)) tNil))) σ H (.bl b) := fun H1 e Q q =>
  ha H1 e _ fun x H2 e2 hx => by
    cases hx with
    | tup hs _ => exact ⟨_, _, _, _, b, rfl, .ty nm, tyT hs, kit_ty hb, q H2 e2⟩
/-- isinstance(x, (list, tuple)), x a list -/
theorem ev_isi_lst2 (ha : EvD K ta σ H (.list ds)) (h1 : kitB "list" "list" = some true) : Ev (tCB (rIsiT K) (tCons ta (tCons (tTup (tCons (tC (.ty "list")) (tCons (tC (.ty "tuple")) tNil))) tNil))) σ H (.bl true) := fun H1 e Q q =>
  ha H1 e _ fun x H2 e2 hx => by
    cases hx with
    | lst hs _ =>
      refine ⟨by show 2 ≤ sizeLine; decide, fun p hp => ?_⟩
      refine ⟨_, p, [.ty "list", .ty "tuple"], .type "list", [.type "list", .type "tuple"], true, rfl, upd_same, .cons (.ty _) (.cons (.ty _) .nil), tyL (ex_l (Ex.new hp) hs), ?_, q _ (e2.trans (Ex.new hp))⟩
      exact kitAny_cons (b := true) (kit_ty h1) (fun z => by cases z) fun _ => rfl
/-- a <= b <= c of ints -/
theorem ev_chain {f g : Int → Int → Bool} {tc : TE} {x y z : Int} (ha : Ev ta σ H (.int x)) (hb : Ev tb σ H (.int y)) (hc : Ev tc σ H (.int z)) :
    Ev (tChain (rI0 fun i j => .bl (f i j)) (rI0 fun i j => .bl (g i j)) ta tb tc) σ H (.bl (f x y && g y z)) := fun H1 e Q q =>
  ha H1 e _ fun H2 e2 => hb H2 (e.trans e2) _ fun H3 e3 => ⟨x, y, rfl, rfl, f x y, rfl, by
    cases h : f x y with
    | true =>
      show tc σ H3 _
      refine hc H3 ((e.trans e2).trans e3) _ fun H4 e4 => ⟨y, z, rfl, rfl, ?_⟩
      have := q H4 ((e2.trans e3).trans e4)
      rw [h, Bool.true_and] at this
      exact this
    | false =>
      show Q (.bl false) H3
      have := q H3 (e2.trans e3)
      rw [h, Bool.false_and] at this
      exact this⟩
/-- a list's truth -/
theorem et_lst (h : EvD K te σ H (.list ds)) : EvT (fun σ H Q => te σ H fun x H' => ∃ k, TruV K x H' k ∧ Q k H') σ H (!ds.isEmpty) := fun H1 e Q q =>
  h H1 e _ fun x H2 e2 hx => by
    cases hx with
    | lst hs ha =>
      refine ⟨_, .inl ⟨_, hs, rfl⟩, ?_⟩
      have : (!(List.isEmpty ‹List V›)) = !ds.isEmpty := by
        have n := dpa_len ha
        cases ds with
        | nil => rw [List.eq_nil_of_length_eq_zero n]; rfl
        | cons a b =>
          cases ‹List V› with
          | nil => simp at n
          | cons c d => rfl
      rw [this]
      exact q H2 e2
/-! ### arguments taken apart -/
theorem dpa_one {vs : List V} (h : DpAll K H vs [d]) : ∃ v, vs = [v] ∧ Dp K H v d := by
  cases h with
  | cons a b =>
    cases b
    exact ⟨_, rfl, a⟩
theorem dpa_two {vs : List V} {d2 : PyData} (h : DpAll K H vs [d, d2]) : ∃ v v2, vs = [v, v2] ∧ Dp K H v d ∧ Dp K H v2 d2 := by
  cases h with
  | cons a b =>
    obtain ⟨v, rfl, c⟩ := dpa_one b
    exact ⟨_, _, rfl, a, c⟩
theorem dpa_three {vs : List V} {d2 d3 : PyData} (h : DpAll K H vs [d, d2, d3]) : ∃ v v2 v3, vs = [v, v2, v3] ∧ Dp K H v d ∧ Dp K H v2 d2 ∧ Dp K H v3 d3 := by
  cases h with
  | cons a b =>
    obtain ⟨v, v2, rfl, c, c2⟩ := dpa_two b
    exact ⟨_, _, _, rfl, a, c, c2⟩
theorem dpa_four {vs : List V} {d2 d3 d4 : PyData} (h : DpAll K H vs [d, d2, d3, d4]) : ∃ v v2 v3 v4, vs = [v, v2, v3, v4] ∧ Dp K H v d ∧ Dp K H v2 d2 ∧ Dp K H v3 d3 ∧ Dp K H v4 d4 := by
  cases h with
  | cons a b =>
    obtain ⟨v, v2, v3, rfl, c, c2, c3⟩ := dpa_three b
    exact ⟨_, _, _, _, rfl, a, c, c2, c3⟩
/-- a tuple of ints, an int -/
theorem dpa_ti {vs : List V} {i : Int} (h : DpAll K H vs [d, .int i]) : ∃ v v1, vs = [v, v1] ∧ Dp K H v d ∧ v1 = .int i := by
  obtain ⟨v, v1, rfl, a, b⟩ := dpa_two h
  exact ⟨v, v1, rfl, a, dp_int b⟩
/-- an int, a tuple -/
theorem dpa_it {vs : List V} {i : Int} (h : DpAll K H vs [.int i, d]) : ∃ v, vs = [.int i, v] ∧ Dp K H v d := by
  obtain ⟨v, v1, rfl, a, b⟩ := dpa_two h
  cases dp_int a
  exact ⟨v1, rfl, b⟩
theorem dpa_iti {vs : List V} {i j : Int} (h : DpAll K H vs [.int i, d, .int j]) : ∃ v, vs = [.int i, v, .int j] ∧ Dp K H v d := by
  obtain ⟨v, v1, v2, rfl, a, b, c⟩ := dpa_three h
  cases dp_int a
  cases dp_int c
  exact ⟨v1, rfl, b⟩
theorem decide_vint (a b : Int) : decide (V.int a = V.int b) = decide (a = b) := by
  by_cases h : a = b
  · subst h; simp
  · simp [h]
/-- what is handed back is told by what holds of it -/
def spX (K : PySem.W.Frag) (n : Nat) (Pre : List PyData → Prop) (Post : List PyData → PyData → Prop) : Sp := fun vs H Q _ => ∃ ds, DpAll K H vs ds ∧ ds.length = n ∧ Pre ds ∧ ∀ r v H', Post ds r → Ex H H' → Dp K H' v r → Q v H'
theorem spX_len {n : Nat} {Pre : List PyData → Prop} {Post : List PyData → PyData → Prop} {vs : List V} {Q : VK} {E : XK} (h : spX K n Pre Post vs H Q E) : vs.length = n := by
  obtain ⟨ds, h1, h2, _⟩ := h
  rw [dpa_len h1, h2]
end
end DL
set_option Elab.async false
set_option linter.all false
set_option maxRecDepth 100000
set_option maxHeartbeats 2000000
namespace DL
open PySem PySem.Spec PyProof.Rows L2 Evl
theorem immAll_app : ∀ {a b : List PyData}, immAll a = true → immAll b = true → immAll (a ++ b) = true
  | [], _, _, h => h
  | x :: a, b, ha, hb => by
    simp only [immAll, Bool.and_eq_true] at ha
    rw [List.cons_append, immAll, ha.1, immAll_app ha.2 hb]
    rfl
theorem immAll_map {α : Type} {f : α → PyData} (h : ∀ a, imm (f a) = true) : ∀ l : List α, immAll (l.map f) = true
  | [] => by simp [immAll]
  | a :: l => by rw [List.map_cons, immAll, h a, immAll_map h l]; rfl
theorem immAll_flat {α : Type} {f : α → List PyData} (h : ∀ a, immAll (f a) = true) : ∀ l : List α, immAll (l.flatMap f) = true
  | [] => by simp [immAll]
  | a :: l => by rw [List.flatMap_cons]; exact immAll_app (h a) (immAll_flat h l)
section
variable {K : PySem.W.Frag} {σ : L2.St} {H H' : Hp} {ta tb te : TE} {t u : TT} {d : PyData} {ds es : List PyData} {v : V} {ns : List Int}
/-- two fors, their targets names, the items ints and tuples -/
theorem en_lc2 {wi wi1 : TI} {a b : Nat} {vs vs1 : List Nat} (h : EvI K wi σ H [] ds) (hi : immAll ds = true) (ds1 : Nat → List PyData) (hi1 : ∀ i, immAll (ds1 i) = true) (f : Nat → Nat → PyData) (hf : ∀ i j, imm (f i j) = true)
    (hl : ∀ i, (ds1 i).length ≤ 100) (hn : ds.length ≤ 100) (hw : ∀ x, wipe ((wipe σ vs).set a (some x)) vs = wipe σ vs)
    (hw1 : ∀ x y, wipe ((wipe ((wipe σ vs).set a (some x)) vs1).set b (some y)) vs1 = wipe ((wipe σ vs).set a (some x)) vs1)
    (hs : ∀ i d x H3, ds[i]? = some d → Dp K H3 x d → (∀ S, Ls H3 S → EvI K wi1 ((wipe σ vs).set a (some x)) H3 S (ds1 i)) ∧
      ∀ j d' y H5, (ds1 i)[j]? = some d' → Dp K H5 x d → Dp K H5 y d' → EvD K te ((wipe ((wipe σ vs).set a (some x)) vs1).set b (some y)) H5 (f i j)) :
    EvN K (tLc2 wi (gName a) tYes wi1 (gName b) tYes te vs vs1) σ H ((List.range ds.length).flatMap fun i => (List.range (ds1 i).length).map (f i)) := fun H1 e Q q => h H1 e _ fun J H2 e2 w => fun Dl hD => by
  have len : ∀ n, n ≤ ds.length → (((List.range n).flatMap fun i => (List.range (ds1 i).length).map (f i))).length ≤ 100 * n := fun n => by
    induction n with
    | zero => intro _; simp
    | succ n ih =>
      intro hn
      rw [List.range_succ, List.flatMap_append, List.length_append]
      have h1 := ih (by omega)
      have h2 := hl n
      rw [List.flatMap_cons, List.flatMap_nil, List.append_nil, List.length_map, List.length_range]
      omega
  have imf : ∀ n, immAll ((List.range n).flatMap fun i => (List.range (ds1 i).length).map (f i)) = true := fun n => immAll_flat (fun i => immAll_map (hf i) _) _
  let G : Nat → Hp → Prop := fun n Ha => ∃ ws, Ex H2 Ha ∧ Ha Dl = some (.lst ws) ∧ DpAll K Ha ws ((List.range n).flatMap fun i => (List.range (ds1 i).length).map (f i))
  have G0 : G 0 (upd H2 Dl (.lst [])) := ⟨[], Ex.new hD, upd_same, by simp; exact .nil⟩
  refine ⟨fun i m Ha => m = ds.length - i ∧ i ≤ ds.length ∧ G i Ha, ⟨_, rfl, Nat.zero_le _, G0⟩, ?_⟩
  rintro i m Ha ⟨rfl, hi', p⟩
  obtain ⟨ws, p1, p2, p3⟩ := p
  have gX : Xp [] H2 Ha := Xp.of_ex p1
  by_cases hlt : i < ds.length
  · refine .inr ⟨w.goes i Ha hlt gX, G (i + 1), fun H' p' => ⟨ds.length - (i + 1), by omega, rfl, hlt, p'⟩, fun x Hb y => ?_⟩
    obtain ⟨ey, d, hd1, hd2⟩ := w.yields i Ha x Hb hlt gX y
    refine ⟨hw x, ?_⟩
    show wi1 _ Hb _
    have di : imm d = true := by
      have all : ∀ {l : List PyData} {i : Nat} {d : PyData}, immAll l = true → l[i]? = some d → imm d = true := by
        intro l
        induction l with
        | nil => intro i d _ e; simp at e
        | cons x l ih =>
          intro i d hh e
          simp only [immAll, Bool.and_eq_true] at hh
          cases i with
          | zero => simp at e; subst e; exact hh.1
          | succ i => exact ih hh.2 (by simpa using e)
      exact all hi hd1
    obtain ⟨hq1, hq2⟩ := hs i d x Hb hd1 hd2
    have atB : Hb Dl = some (.lst ws) := ey _ _ p2
    refine hq1 [Dl] (Ls.one atB) Hb (Ex.refl _) _ fun J1 H4 e4 w1 => ?_
    let G1 : Nat → Hp → Prop := fun j Hc => ∃ wt, Xp [Dl] H4 Hc ∧ Ex H2 Hc ∧ Hc Dl = some (.lst wt) ∧ DpAll K Hc wt (((List.range i).flatMap fun i => (List.range (ds1 i).length).map (f i)) ++ (List.range j).map (f i))
    have e24 : Ex H2 H4 := (p1.trans ey).trans e4
    have G10 : G1 0 H4 := ⟨ws, Xp.refl _ _, e24, e4 _ _ atB, by simp; exact dpa_ex (ey.trans e4) _ _ p3⟩
    have tx4 : ∀ {Hc}, Xp [Dl] H4 Hc → Tx H4 Hc := fun z => z.tx ((Ls.one atB).ex e4)
    refine ⟨fun j k Hc => k = (ds1 i).length - j ∧ j ≤ (ds1 i).length ∧ G1 j Hc, ⟨_, rfl, Nat.zero_le _, G10⟩, ?_⟩
    rintro j k Hc ⟨rfl, hj, wt, r1, r2, r3, r4⟩
    by_cases hjt : j < (ds1 i).length
    · refine .inr ⟨w1.goes j Hc hjt r1, G1 (j + 1), fun H' p' => ⟨(ds1 i).length - (j + 1), by omega, rfl, hjt, p'⟩, fun y2 Hd yy => ?_⟩
      obtain ⟨ez, d', hd1', hd2'⟩ := w1.yields j Hc y2 Hd hjt r1 yy
      refine ⟨hw1 x y2, ?_⟩
      show te _ Hd _
      have tx : Tx Hb Hd := ((Tx.of_ex e4).trans (tx4 r1)).trans (Tx.of_ex ez)
      refine hq2 j d' y2 Hd hd1' (dp_tx tx _ _ di hd2) hd2' Hd (Ex.refl _) _ fun v7 H7 e7 hv => ⟨wt, e7 _ _ (ez _ _ r3), ?_, wt ++ [v7], ?_, ?_, upd_same, ?_⟩
      · have l1 := dpa_len r4
        have l2 := len i (by omega)
        have l3 := hl i
        rw [List.length_append, List.length_map, List.length_range] at l1
        exact sz_lt (by omega)
      · exact Xp.upd (Xp.then r1 (ez.trans e7)) (by simp)
      · exact Ex.mut ((r2.trans ez).trans e7) hD
      · have at7 : H7 Dl = some (.lst wt) := e7 _ _ (ez _ _ r3)
        rw [List.range_succ (n := j), List.map_append, ← List.append_assoc]
        refine dpa_app (dpa_tx (Tx.lst at7) _ _ (immAll_app (imf i) (immAll_map (hf i) _)) (dpa_ex (ez.trans e7) _ _ r4)) ?_
        exact .cons (dp_tx (Tx.lst at7) _ _ (hf i j) hv) .nil
    · have ej : j = (ds1 i).length := by omega
      subst ej
      refine .inl ⟨w1.stops Hc r1, wt, r2, r3, ?_⟩
      rw [List.range_succ, List.flatMap_append]
      simpa using r4
  · have ei : i = ds.length := by omega
    subst ei
    exact .inl ⟨w.stops Ha gX, q Dl ws Ha (fresh_back e2 hD) (e2.trans p1) p2 p3⟩
end
/-- a statement, then the rest -/
theorem q_asgD {t1 t2 : TS} {D : Ends} {σ : L2.St} {H : Hp} (h : t1 { D with nx := t2 D } σ H) : tSeq t1 t2 D σ H := h
section
variable {K : PySem.W.Frag} {σ : L2.St} {H H' : Hp} {ta tb te : TE} {d : PyData} {ds : List PyData} {D : Ends} {tz : TS}
theorem qd_asg {k : Nat} (h : EvD K te σ H d) (q : ∀ v H1, Ex H H1 → Dp K H1 v d → tz D (σ.set k (some v)) H1) : tSeq (tAsg te (gName k)) tz D σ H := h H (Ex.refl H) _ q
theorem qn_asg {k : Nat} (h : EvN K te σ H ds) (q : ∀ p vs H1, H p = none → Ex H H1 → H1 p = some (.lst vs) → DpAll K H1 vs ds → tz D (σ.set k (some (.ref p))) H1) : tSeq (tAsg te (gName k)) tz D σ H := h H (Ex.refl H) _ q
theorem qi_asg {k : Nat} {v : V} (h : Ev te σ H v) (q : ∀ H1, Ex H H1 → tz D (σ.set k (some v)) H1) : tSeq (tAsg te (gName k)) tz D σ H := h H (Ex.refl H) _ q
theorem qd_drop (h : EvD K te σ H d) (q : ∀ H1, Ex H H1 → tz D σ H1) : tSeq (tDrop te) tz D σ H := h H (Ex.refl H) _ fun _ H1 e _ => q H1 e
theorem qd_app {l : Addr} {xs : List V} (hl : H l = some (.lst xs)) (ha : Ev ta σ H (.ref l)) (h : EvD K te σ H d) (hz : xs.length < 100000) (q : ∀ v H1, Ex H H1 → Dp K H1 v d → tz D σ (upd H1 l (.lst (xs ++ [v])))) :
    tSeq (tDrop (tBM K "list" rAppend ta (tCons te tNil))) tz D σ H := d_app (D := { D with nx := tz D }) hl ha h hz q
end
/-! ### a tuple times 1 and more -/
theorem tuple_mul1 (l : Addr) (items : Array Value) (n : Nat) (dd : Option Addr) (sl : Array (Option Value)) (u : Tok) :
    Meets (Builtin.«tuple.__mul__» ⟨[.ref l, .int 1 u], []⟩) (fun _ R s => s.heap.get? l = some { cls := .type "tuple", dict := dd, data := .seq items n, slots := sl } ∧ R (.ok (.ret (Value.ref l))) s) :=
  .of_wp fun prog w A R s h => by
    obtain ⟨hp, g, d, tk, os⟩ := s
    obtain ⟨hl, h⟩ := h
    have f1 := AutoSeq1.idx_int
    have c0 : (decide ((1 : Int) < -(2 ^ 63)) || decide ((1 : Int) ≥ 2 ^ 63)) = false := by decide
    have c1 : (items.isEmpty || ((1 : Int) == 1)) = true := by simp
    wp_walk using AutoSeq1.wpAny_loadPart' hl
    repeat (first
      | (refine wpAny_ite_false (decide_eq_false (by rw [c0]; exact Bool.false_ne_true)) ?_; wp_walk using AutoSeq1.wpAny_loadPart' hl)
      | (refine wpAny_ite_true (decide_eq_true c1) ?_; wp_walk using AutoSeq1.wpAny_loadPart' hl))
    exact ⟨_, rfl, h⟩
def rMul1 (K : PySem.W.Frag) : R2 := fun x y H Q => ∃ l xs, x = .ref l ∧ y = .int 1 ∧ SqT K H l xs ∧ Q (.ref l) H
theorem op_mul1 {X : Cx} : OpR X (binaryOp .Mult) (rMul1 X.K) := by
  intro pins s σ H x y v u Q I rx ry h
  obtain ⟨l, xs, rfl, rfl, hT, q⟩ := h
  cases rx
  obtain ⟨t, rfl⟩ := ry
  obtain ⟨its, r, ⟨⟨cls, dd, data, sl⟩, ho, hc, n, hd⟩, hs⟩ := I.tuple hT
  simp only at hc hd
  subst hc hd
  exact wpAny_binaryOp_repeat_ref (T := "tuple") (U := "int") (by decide) ⟨_, ho, rfl⟩ (fun s' => typeIs_int s' 1 t) noFill_tuple_mul F.fills_int_mul F.slot_int_rmul repeat_tuple
    F.slot_int_index.lookup (call_meets F.slot_int_rmul (typeIs_int s 1 t) F.entry_int_rmul (F.args_int_rmul_2 _ _) (int_rmul_tuple 1 t l its.toArray n dd sl)
      ⟨ho, rfl, ⟨_, ho, rfl⟩, call_meets F.slot_tuple_mul ⟨_, ho, rfl⟩ F.entry_tuple_mul (F.args_tuple_mul_2 _ _) (tuple_mul1 l its.toArray n dd sl t) ⟨ho, ⟨.ref l, H, I, rfl, q⟩⟩⟩)
theorem op_repT1 {X : Cx} : OpR X (binaryOp .Mult) (fun x y H Q => rMul1 X.K x y H Q ∨ rRepT X.K x y H Q) := OpR.or op_mul1 op_repT
section
variable {K : PySem.W.Frag} {σ : L2.St} {H H' : Hp} {ta tb te : TE} {d : PyData}
theorem ed_rep1 {n : Int} (ha : EvD K ta σ H (.tuple [d])) (hb : Ev tb σ H (.int n)) (h1 : 1 ≤ n) (h2 : n ≤ 1000) : EvD K (tOp (fun x y H Q => rMul1 K x y H Q ∨ rRepT K x y H Q) ta tb) σ H (.tuple (List.replicate n.toNat d)) := fun H1 e Q q =>
  ha H1 e _ fun x H2 e2 hx => hb H2 (e.trans e2) _ fun H3 e3 => by
    cases hx with
    | tup hs hd =>
      cases hd with
      | cons a b =>
        cases b
        rename_i v
        by_cases hn : n = 1
        · subst hn
          exact .inl ⟨_, _, rfl, rfl, ex_t e3 hs, q _ H3 (e2.trans e3) (.tup (ex_t e3 hs) (.cons (dp_ex e3 _ _ a) .nil))⟩
        · refine .inr ⟨_, n, _, rfl, rfl, ex_t e3 hs, by simp, by omega, h2, by simp, fun l hl => ?_⟩
          have ef : (List.replicate n.toNat [v]).flatten = List.replicate n.toNat v := by
            induction n.toNat with
            | zero => rfl
            | succ k ih => rw [List.replicate_succ, List.flatten_cons, ih, List.replicate_succ]; rfl
          rw [ef]
          exact q _ _ ((e2.trans e3).trans (Ex.new hl)) (.tup (st_of upd_same) (dpa_rep (dp_ex (e3.trans (Ex.new hl)) _ _ a) _))
end
end DL
set_option Elab.async false
set_option linter.all false
set_option maxRecDepth 100000
set_option maxHeartbeats 2000000
namespace DL
open PySem PySem.Spec PyProof.Rows L2 Evl
section
variable {K : PySem.W.Frag} {σ : L2.St} {H H' : Hp} {ta tb te : TE} {d : PyData} {ds es : List PyData} {D : Ends} {tz : TS}
theorem g_three {g1 g2 g3 : TG} {d1 d2 d3 : PyData} {x : V} {Q : L2.St → Hp → Prop} (h : Dp K H x (.tuple [d1, d2, d3])) (k : ∀ v1 v2 v3, Dp K H v1 d1 → Dp K H v2 d2 → Dp K H v3 d3 → g1 v1 σ H fun σ1 H1 => g2 v2 σ1 H1 fun σ2 H2 => g3 v3 σ2 H2 Q) :
    gTup K 3 (gCons g1 (gCons g2 (gCons g3 gNil))) x σ H Q := by
  cases h with
  | tup hs ha =>
    cases ha with
    | cons a b =>
      cases b with
      | cons b c =>
        cases c with
        | cons c f =>
          cases f
          rename_i v1 v2 v3
          refine ⟨_, _, rfl, hs, rfl, v1, [v2, v3], rfl, ?_⟩
          have q := k v1 v2 v3 a b c
          have e : (fun σ1 H1 => g2 v2 σ1 H1 fun σ2 H2 => g3 v3 σ2 H2 Q) = fun σ1 H1 => gCons g2 (gCons g3 gNil) [v2, v3] σ1 H1 Q := by
            funext σ1 H1
            apply propext
            rw [gl_one]
            exact ⟨fun z => ⟨v2, [v3], rfl, z⟩, fun ⟨w, r, e, z⟩ => by cases e; exact z⟩
          rw [← e]
          exact q
/-- a, b = e; a, b, c = e -/
theorem qd_unp2 {a b : Nat} {d1 d2 : PyData} (h : EvD K te σ H (.tuple [d1, d2])) (k : ∀ v1 v2 H1, Ex H H1 → Dp K H1 v1 d1 → Dp K H1 v2 d2 → tz D ((σ.set a (some v1)).set b (some v2)) H1) :
    tSeq (tAsg te (gTup K 2 (gCons (gName a) (gCons (gName b) gNil)))) tz D σ H := h H (Ex.refl _) _ fun v H1 e hv => g_two hv fun v1 v2 h1 h2 => k v1 v2 H1 e h1 h2
theorem qd_unp3 {a b c : Nat} {d1 d2 d3 : PyData} (h : EvD K te σ H (.tuple [d1, d2, d3])) (k : ∀ v1 v2 v3 H1, Ex H H1 → Dp K H1 v1 d1 → Dp K H1 v2 d2 → Dp K H1 v3 d3 → tz D (((σ.set a (some v1)).set b (some v2)).set c (some v3)) H1) :
    tSeq (tAsg te (gTup K 3 (gCons (gName a) (gCons (gName b) (gCons (gName c) gNil))))) tz D σ H := h H (Ex.refl _) _ fun v H1 e hv => g_three hv fun v1 v2 v3 h1 h2 h3 => k v1 v2 v3 H1 e h1 h2 h3
/-- a list that is read and stays meanwhile -/
theorem ei_lstD (h : EvD K te σ H (.list ds)) (hi : immAll ds = true) : EvI K (iList K te) σ H [] ds := fun H1 e R r =>
  h H1 e _ fun w H2 e2 hw => by
    cases hw with
    | lst hs ha =>
      refine ⟨_, rfl, ⟨_, hs⟩, r _ H2 e2 ?_⟩
      rw [← dpa_len ha]
      refine walk_list.mono (fun Ha x => ex_l x.to_ex hs) fun i Ha x Hb hlt hg y => ?_
      obtain ⟨rfl, hx⟩ := y
      obtain ⟨d, hd1, hd2⟩ := dpa_getV (dpa_ex hg.to_ex _ _ ha) hx
      exact ⟨Ex.refl _, d, hd1, hd2⟩
theorem sqL_xp {p q : Addr} {vs : List V} {H1 Ha : Hp} (h : SqL K H q vs) (hp : H p = none) (e : Ex H H1) (x : Xp [p] H1 Ha) : SqL K Ha q vs := by
  have at_ : ∀ o, H q = some o → Ha q = some o := fun o ho => x q o (e q o ho) (fun hm => by
    have : q = p := by simpa using hm
    rw [this, hp] at ho
    cases ho)
  rcases h with (h | ⟨o, h⟩) | h
  · exact .inl (.inl (at_ _ h))
  · exact .inl (.inr ⟨o, at_ _ h⟩)
  · exact .inr h
/-- zip of two lists that are read -/
theorem ei_zipLL {es : List PyData} (ha : EvD K ta σ H (.list ds)) (hb : EvD K tb σ H (.list es)) (hi : immAll ds = true) (hj : immAll es = true) :
    EvI K (iZipM K false false (tCons ta (tCons tb tNil))) σ H [] (List.zipWith (fun x y => PyData.tuple [x, y]) ds es) := fun H1 e R r =>
  ha H1 e _ fun x H2 e2 hx => hb H2 (e.trans e2) _ fun y H3 e3 hy => by
    cases hx with
    | @lst a1 xs1 _ hs1 ha1 =>
      cases hy with
      | @lst a2 xs2 _ hs2 ha2 =>
        have hs1 := ex_l e3 hs1
        have ha1 := dpa_ex e3 _ _ ha1
        refine ⟨_, _, _, _, rfl, sqa_l hs1, sqa_l hs2, r _ H3 (e2.trans e3) ?_⟩
        rw [List.length_zipWith, ← dpa_len ha1, ← dpa_len ha2]
        have w := walk_zipM (K := K) (a := a1) (b := a2) (xs := xs1) (ys := xs2) (t := false) (u := false) (n := min xs1.length xs2.length) rfl
        refine (w.mono (fun Ha x => ⟨ex_l x.to_ex hs1, ex_l x.to_ex hs2⟩) fun i Ha v Hb hlt hg y => ?_)
        obtain ⟨T, v1, v2, rfl, hT, rfl, g1, g2⟩ := y
        obtain ⟨d1, q1, q2⟩ := dpa_getV (dpa_ex (hg.to_ex.trans (Ex.new hT)) _ _ ha1) g1
        obtain ⟨d2, q3, q4⟩ := dpa_getV (dpa_ex (hg.to_ex.trans (Ex.new hT)) _ _ ha2) g2
        refine ⟨Ex.new hT, .tuple [d1, d2], ?_, .tup (st_of upd_same) (.cons q2 (.cons q4 .nil))⟩
        rw [List.getElem?_zipWith, q1, q3]
theorem hu64 {A : Around} {k : Nat} (hr : Room k A) : A.units + 64 < cLine := by
  have := hr.un
  omega
theorem ix_tupK {X : Cx} (K : PySem.W.Frag) (h : X.K = K) : IxR X (rIxT K) := h ▸ ix_tup
theorem ix_listK {X : Cx} (K : PySem.W.Frag) (h : X.K = K) : IxR X (rIxL K) := h ▸ ix_list
theorem immAll_dI (l : List Int) : immAll (dI l) = true := immAll_ints l
theorem immAll_tI (l : List (List Int)) : immAll (l.map tI) = true := immAll_tIs l
end
end DL
set_option Elab.async false
set_option linter.all false
set_option maxRecDepth 100000
set_option maxHeartbeats 2000000
/-! an error that is caught, kept by a name and handed back -/
namespace DL
open PySem PySem.Spec PyProof.Rows L2
/-- an error of the class cls without attributes of its own -/
def ErO (cls : Value) (a : Addr) : HO := .ext fun h => ∃ oe : Obj, h.get? a = some oe ∧ Zc cls none oe ∧ ∃ vs, oe.data = .fields vs
theorem erO_ok {P : Program} {w : World} {H : Hp} {h : Heap} {a : Addr} {cls : Value} {oe : Obj} (e : h.get? a = some oe) (z : Zc cls none oe) (d : ∃ vs, oe.data = .fields vs) : ObjOk P w H h a (ErO cls a) :=
  ⟨⟨oe, e, z, d⟩, ⟨oe, e⟩, fun _ _ p k => by
    obtain ⟨u, hu, r⟩ := p
    exact ⟨u, k u hu, r⟩⟩
section
variable {X : Cx} {pins : List (Addr × Obj)} {σ : L2.St} {H : Hp} {s : Shared}
theorem inv_track {a : Addr} {cls : Value} {oe : Obj} (I : Inv X pins σ H s) (e : s.heap.get? a = some oe) (hn : H a = none) (h0 : X.s_0.heap.get? a = none) (nL : a ≠ X.env.locals) (np : ∀ p ∈ X.pn ++ pins, p.1 ≠ a)
    (z : Zc cls none oe) (d : ∃ vs, oe.data = .fields vs) : Inv X pins σ (upd H a (ErO cls a)) s := by
  have other : ∀ b u, H b = some u → upd H a (ErO cls a) b = some u := fun b u q => by
    rw [upd_ne (ne_of_none q hn)]
    exact q
  obtain ⟨fs, hd⟩ := d
  exact {
    ok := I.ok
    os := I.os
    bare := I.bare
    base := {
      keep := I.base.keep
      slot := I.base.slot
      free := fun b u q n hx => by
        have : b ≠ a := fun y => by rw [y, h0] at q; cases q
        rw [upd_ne this]
        exact I.base.free b u q n hx
      there := I.base.there
      tups := fun b xs q => other _ _ (I.base.tups b xs q)
      frzs := fun b u xs q => other _ _ (I.base.frzs b u xs q)
      tbls := fun b ps q => by
        obtain ⟨more, m⟩ := I.base.tbls b ps q
        exact ⟨more, other _ _ m⟩ }
    loc := I.loc
    cell := I.cell
    free := by rw [upd_ne (Ne.symm nL)]; exact I.free
    freeC := fun y c q => by
      have : c ≠ a := fun eq => by
        obtain ⟨v, o, ho, hv⟩ := I.cell y c q
        rw [eq, e] at ho
        cases ho
        rw [hd] at hv
        cases hv
      rw [upd_ne this]
      exact I.freeC y c q
    pin := fun p hp => by
      obtain ⟨p1, p2, p3⟩ := I.pin p hp
      exact ⟨p1, by rw [upd_ne (np p hp)]; exact p2, p3⟩
    hok := fun b u q => by
      by_cases hb : b = a
      · subst hb
        rw [upd_same] at q
        cases q
        exact erO_ok e z ⟨fs, hd⟩
      · rw [upd_ne hb] at q
        exact (I.hok b u q).stay (fun _ _ _ r => r) (fun _ r => other _ _ r) fun _ _ r => other _ _ r
    len := I.len }
/-- isinstance(e, C) of such an error -/
def rIsK (K : PySem.W.Frag) : List V → Hp → VK → Prop := fun xs H Q => ∃ (a D : Addr) (c : V) (cv : Value) (b : Bool), xs = [.ref a, c] ∧ H a = some (ErO (.ref D) a) ∧ ExcC K D ∧ (∀ u, RelV c u → u = cv) ∧ PySem.W.kitOne K (.ref D) cv = some b ∧ Q (.bl b) H
theorem call_isK : CallR X (.builtin "isinstance") (rIsK X.K) := by
  intro pins s σ H xs us Q I r h
  obtain ⟨a, D, c, cv, b, rfl, ha, C, hcv, e, q⟩ := h
  obtain ⟨u1, u2, rfl, ra, rc⟩ := vals2 r
  cases ra
  have ec := hcv _ rc
  subst ec
  obtain ⟨⟨oe, ho, hz, fs, hd⟩, _⟩ := I.hok a _ ha
  have J : PySem.W.InstAt s.heap a oe D none := by
    cases oe with
    | mk oc od oda osl =>
      obtain ⟨z1, z2⟩ := hz
      have z1 : oc = .ref D := z1
      have z2 : od = none := z2
      have hd : oda = .fields fs := hd
      subst z1 z2 hd
      exact ⟨ho, rfl, rfl, trivial⟩
  exact PySem.W.kia_one (PySem.W.handS_kitx_exc C.hg C.hk C.hs C.hd C.ha C.hn C.ht C.hm) I.kIn J e (fun z => nomatch z) fun tk => ⟨.bl b, H, I.kept (t' := tk) fun _ _ z => z, rfl, q⟩
end
end DL
set_option Elab.async false
set_option linter.all false
set_option maxRecDepth 100000
set_option maxHeartbeats 2000000
namespace DL
open PySem PySem.Spec PyProof.Rows L2
/-- what 'except x as n' wishes of an error that it takes for sure: behind the suite the error is known at its place -/
def wKeep (K : PySem.W.Frag) (c : Value) (i : Nat) (ts : Addr → Value → TS) (D : Ends) : WX := fun cls d σ H => PySem.W.exmOne K cls c = some true ∧ d = none ∧
  ∀ a, H a = none → ts a cls { nx := fun σ2 H2 => D.nx (σ2.set i none) (upd H2 a (ErO cls a)), rt := fun _ _ => False, bk := fun _ _ => False, ct := fun _ _ => False } (σ.set i (some (.ref a))) H
section
variable {X : Cx} {x n : Str} {c : Value} {i : Nat} {body suite : List Stmt} {b₀ : Stmt} {np pos pos' : Pos} {tb : WX → TS} {ts : Addr → Value → TS}
theorem frs_not {B h : Heap} {l : List Env} {a : Addr} {o : Obj} {fs : Array Value} (ff : h.FunFrames B l) (e : h.get? a = some o) (d : o.data = .fields fs) : a ∉ frs l := fun m => by
  obtain ⟨_, u, hu, no⟩ := ff.mem m
  rw [e] at hu
  cases hu
  exact no _ d
theorem ps_keep (hex : X.ex = []) (hst : X.stack = X.env :: X.outer) (hfr : X.env.frame = some X.env.locals) (nd : X.N.Nodup) (hi : X.N[i]? = some n) (loc : X.env.kindOf n = some .local) (cn : Names X x c)
    (hb : ∀ (W : WX) (pn : List (Addr × Obj)) (xe : Value → Shared → Prop), Takes (X.tr pn xe) W → PassesOwn (model X.prog X.w) X.A X.env xe → PSs (X.tr pn xe) body (tb W))
    (hsu : ∀ (a : Addr) (oe : Obj) (cls : Value) (pn : List (Addr × Obj)), Zc cls none oe → (∃ vs, oe.data = .fields vs) → PSs (X.suite a ((a, oe) :: pn)) (b₀ :: suite) (ts a cls)) :
    PS X (.Try body [.ExceptHandler (some (.Name x np)) (some n) (b₀ :: suite) pos'] [] [] pos) (fun D σ H => tb (wKeep X.K c i ts D) D σ H) := by
  constructor
  intro pins s σ H D I h
  have ok := I.ok
  have frames : X.A.frames = some (X.env :: X.outer) := ok.frames.trans (congrArg some hst)
  apply wpAny_Try_except
  have run := (hb (wKeep X.K c i ts D) (X.pn ++ pins)
    (fun e s1 => wpAny (model X.prog X.w) X.A (noteFrame e X.env)
      (fun _ s2 => wpAny (model X.prog X.w) X.A (setFlight e none)
        (fun _ s3 => wpAny (model X.prog X.w) X.A (handleBy e X.env [.ExceptHandler (some (.Name x np)) (some n) (b₀ :: suite) pos']) (SP X pins D) X.xe s3) X.xe s2) X.xe s1)
    (fun u t caught => ?_) PassesOwn.looking).run [] s σ H D (I.toTry _) h
  · refine wpAny_mono run (fun fl t sp => ?_) fun _ _ q => q
    cases fl with
    | ret u =>
      obtain ⟨v, σ1, H1, J, r, q⟩ := sp
      exact ⟨v, σ1, H1, J.ofTry ok, r, q⟩
    | next =>
      obtain ⟨σ1, H1, J, q⟩ := sp
      exact wpAny_execs_nil (show SP X pins D .next t from ⟨σ1, H1, J.ofTry ok, q⟩)
    | brk =>
      obtain ⟨σ1, H1, J, q⟩ := sp
      exact ⟨σ1, H1, J.ofTry ok, q⟩
    | cont =>
      obtain ⟨σ1, H1, J, q⟩ := sp
      exact ⟨σ1, H1, J.ofTry ok, q⟩
  · obtain ⟨a, B, sI, pinsT, σ1, H1, cls, d, rfl, JT, nb, up, sky, na, os, bare, hx, rfl, wish⟩ := caught
    have J : Inv X pins σ1 H1 sI := JT.ofTry ok
    rw [hst] at sky
    show wpAny (model X.prog X.w) X.A (noteFrame (.ref a) X.env) _ _ _
    refine Sky.land Zc.steady frames hfr sky fun hA flA upA => ?_
    have JA : Inv X pins σ1 H1 { t with heap := hA } := J.landed nb flA.1 (up.trans upA) os bare
    obtain ⟨oA, vA, eA, zA, dA⟩ := flA.there
    have nfr := frs_not flA.2.2.1 eA dA
    have nL : a ≠ X.env.locals := fun q => nfr (List.mem_filterMap.mpr ⟨X.env, List.mem_cons_self, hfr.trans (congrArg some q.symm)⟩)
    have nF : a ∉ X.fs := fun q => by
      obtain ⟨en, m, r⟩ := List.mem_filterMap.mp q
      exact nfr (List.mem_filterMap.mpr ⟨en, List.mem_cons_of_mem _ m, r⟩)
    have fresh : sI.heap.get? a = none := by
      cases q : sI.heap.get? a with
      | none => rfl
      | some o =>
        have z := nb a o q (by rw [hst]; exact nfr)
        rw [flA.2.1] at z
        cases z
    have fresh0 : X.s_0.heap.get? a = none := by
      cases q : X.s_0.heap.get? a with
      | none => rfl
      | some o =>
        obtain ⟨u, hu⟩ := J.base.there a o q (by rw [hex]; simp)
        rw [fresh] at hu
        cases hu
    have npin : ∀ p ∈ X.pn ++ pins, p.1 ≠ a := fun p hp q => by
      have z := (J.pin p hp).1
      rw [q, fresh] at z
      cases z
    have SA := JA.suite eA dA na nL nF
    apply wpAny_handleBy_cons
    · apply codeAny_handlers_test
      have LM := PySem.W.exm_one (M := model X.prog X.w) JA.kIn (e := a) (cls := cls) (fun A' Q' E' s' k q => wpAny_typeOf_ref (k _ _ eA) (by rw [zA.1]; exact q)) hx
      have named : ∀ {Q1 E1 : Value → Shared → Prop}, Q1 c { t with heap := hA } → wpAny (model X.prog X.w) (X.A.mark (some (.ref a))) (eval (.Name x np) X.env) Q1 E1 { t with heap := hA } := fun {Q1 E1} q => by
        obtain ⟨g, db, k | ⟨k, bt, nn⟩⟩ := cn
        · exact ld_glob (X := X.suite a ((a, oA) :: (X.pn ++ pins))) SA g k q db
        · exact ld_blt (X := X.suite a ((a, oA) :: (X.pn ++ pins))) SA g k bt q nn db
      apply named
      apply LM.here
      apply codeAny_handlers_suite_as
      refine HandSPX.lands_againZ flA fun hB flB upB => ?_
      have JB : Inv X pins σ1 H1 { t with heap := hB } := J.landed nb flB.1 ((up.trans upA).trans upB) os bare
      obtain ⟨oB, vB, eB, zB, dB⟩ := flB.there
      refine store_ok (X := X.suite a ((a, oB) :: (X.pn ++ pins))) (v := .ref a) (JB.suite eB dB na nL nF) nd hi (.inl loc) rfl (fun s5 S5 => ?_) (.inr loc)
      refine wpAny_mono ((hsu a oB cls (X.pn ++ pins) zB ⟨_, dB⟩).run [] s5 _ H1 _ S5 (wish a na)) (fun fl s6 sp => ?_) fun _ _ q => q.elim
      cases fl with
      | next =>
        obtain ⟨σ6, H6, S6, q6⟩ := sp
        have P6 : Inv X ((a, oB) :: pins) σ6 H6 s6 := {
          ok := ok
          os := S6.os
          bare := S6.bare
          base := S6.base
          loc := S6.loc
          cell := S6.cell
          free := S6.free
          freeC := S6.freeC
          pin := fun p hp => S6.pin p (by
            show p ∈ ((a, oB) :: (X.pn ++ pins)) ++ []
            rw [List.append_nil]
            rcases List.mem_append.mp hp with q | q
            · exact List.mem_cons_of_mem _ (List.mem_append_left _ q)
            · rcases List.mem_cons.mp q with q | q
              · rw [q]; exact List.mem_cons_self
              · exact List.mem_cons_of_mem _ (List.mem_append_right _ q))
          hok := S6.hok
          len := S6.len }
        refine gone_ok P6 nd hi loc fun s7 J7 => ?_
        obtain ⟨g7, n7, l7, _⟩ := J7.pin (a, oB) (List.mem_append_right _ List.mem_cons_self)
        have J8 : Inv X pins (σ6.set i none) H6 s7 := J7.pins_of fun p hp => J7.pin p (List.mem_append_right _ (List.mem_cons_of_mem _ hp))
        exact ⟨_, _, inv_track J8 g7 n7 fresh0 l7 npin zB ⟨_, dB⟩, q6⟩
      | brk => exact (sp.elim fun _ z => z.elim fun _ z => z.2.elim)
      | cont => exact (sp.elim fun _ z => z.elim fun _ z => z.2.elim)
      | ret u => exact (sp.elim fun _ z => z.elim fun _ z => z.elim fun _ z => z.2.2.elim)
    · intro q
      cases q
end
end DL
set_option Elab.async false
set_option linter.all false
set_option maxRecDepth 100000
set_option maxHeartbeats 4000000
/-! a lambda without parameters as a value: made, held by a name, called by a def that catches what it raises -/
namespace DL
open PySem PySem.Spec PyProof.Rows L2 LamX
/-- the lambda at f, its code object at c' -/
def LamO (f c' : Addr) (q : Str) (params : Arguments) (body : Expr) (scope : Scope) (cl : List (Str × Addr)) : HO := .ext fun h => ∃ pm ctv : Value, h.get? f = some (PySem.W.kla_obj "<lambda>" q params body scope cl pm c' ctv)
theorem lamO_ok {P : Program} {w : World} {H : Hp} {h : Heap} {f c' : Addr} {q : Str} {params : Arguments} {body : Expr} {scope : Scope} {cl : List (Str × Addr)} {pm ctv : Value} (e : h.get? f = some (PySem.W.kla_obj "<lambda>" q params body scope cl pm c' ctv)) :
    ObjOk P w H h f (LamO f c' q params body scope cl) := ⟨⟨pm, ctv, e⟩, ⟨_, e⟩, fun _ _ z k => by
  obtain ⟨u, v, r⟩ := z
  exact ⟨u, v, k _ r⟩⟩
def tLamV (T : List (Addr × Str)) (q : Str) (params : Arguments) (body : Expr) (scope : Scope) (cl : List (Str × Addr)) : TE := fun σ H Q => Tabs T H ∧ ∀ f c' H1, ExtN H H1 → Tabs T H1 → H f = none → H1 f = none → H1 c' = some (CodeO c' q) → Q (.ref f) (upd H1 f (LamO f c' q params body scope cl))
section
variable {X : Cx} {T : List (Addr × Str)} {c P : Addr} {params : Arguments} {body : Expr} {scope : Scope} {pos : Pos}
theorem pe_lamV (TB : TabB X.base X.mg c P) (code : X.env.code = .ref c) (hm : (P, X.env.qual ++ "<lambda>") ∈ T) (hu : ∀ p ∈ T, p.1 = P → p.2 = X.env.qual ++ "<lambda>") (L : LamS X.env.scope scope) (hdef : defaultsOf params X.env = ([], [])) :
    PE X (.Lambda params body scope pos) (tLamV T (X.env.qual ++ "<lambda>") params body scope (cloFrom X.env.cells scope.names [])) := by
  constructor
  intro pins s σ H Q I hh
  obtain ⟨tabs, k⟩ := hh
  obtain ⟨ps, atP, tri, among⟩ := tabs _ hm
  have free := L.has I.ok
  apply PySem.W.kla_eval hdef
  have bi : s.heap.BuiltinsAt X.mg P := TB.bm.keeps I.bk
  have heapP : s.heap.get? P = some { cls := .none, data := .fields ps } := I.hok P _ atP
  cases look : codeAmong pos ps.toList with
  | some cv =>
    obtain ⟨c', rfl, hc'⟩ := among pos cv look
    apply PySem.W.kla_makeFunctionHit (mg := X.mg) (c := c) (P := P) (ps := ps) (closure_ok free) I.ok.glob (I.mod.glob.keeps I.bk) code (TB.code.keeps I.bk) heapP tri look bi
    intro ctv h2 tk keep size
    have J : Inv X pins σ H { s with heap := h2, toks := tk } := I.kept keep
    have n2 : H h2.objs.size = none := I.hok.fresh size
    have J2 := J.laid (t' := tk) (h' := h2.push (PySem.W.kla_obj "<lambda>" (X.env.qual ++ "<lambda>") params body scope (cloFrom X.env.cells scope.names []) ((X.mg "__name__").getD .none) c' ctv)) (fun _ _ z => Heap.get?_push_of_some _ z) (Nat.le_refl _)
      (lamO_ok (f := h2.objs.size) (c' := c') (Heap.get?_push_size _ rfl))
    exact ⟨V.ref h2.objs.size, _, J2, rfl, k _ c' H (ExtN.refl H) tabs n2 n2 hc'⟩
  | none =>
    apply PySem.W.kla_makeFunction (mg := X.mg) (c := c) (P := P) (ps := ps) (closure_ok free) I.ok.glob (I.mod.glob.keeps I.bk) code (TB.code.keeps I.bk) heapP tri look TB.gP bi
    intro c' ctv h2 tk but ge lt rec0 tab
    obtain ⟨c2, oc, fs, t, e2, oc2, fd, fq⟩ := rec0
    cases e2
    have nC : H c' = none := I.hok.fresh ge
    have size : s.heap.objs.size ≤ h2.objs.size := Nat.le_trans ge (Nat.le_of_lt lt)
    have nF : H h2.objs.size = none := I.hok.fresh size
    have J := inv_table (t' := tk) (h' := h2) (c := c') (q := X.env.qual ++ "<lambda>") (more := #[rawInt pos.line, rawInt pos.col, .ref c']) I atP (fun b o nb z => but b o nb z) tab ge ⟨oc, fs, t, oc2, fd, fq⟩
    have ext : ExtN H (upd (upd H P (.tbl (ps ++ #[rawInt pos.line, rawInt pos.col, .ref c']))) c' (CodeO c' (X.env.qual ++ "<lambda>"))) := fun b o z n => by
      have b1 : b ≠ c' := ne_of_none z nC
      have b2 : b ≠ P := fun y => by
        rw [y, atP] at z
        exact n ps (Option.some.inj z).symm
      rw [upd_ne b1, upd_ne b2]
      exact z
    have toL : (ps ++ #[rawInt pos.line, rawInt pos.col, .ref c']).toList = ps.toList ++ [rawInt pos.line, rawInt pos.col, .ref c'] := by simp
    have tabs2 : Tabs T (upd (upd H P (.tbl (ps ++ #[rawInt pos.line, rawInt pos.col, .ref c']))) c' (CodeO c' (X.env.qual ++ "<lambda>"))) := fun p hp => by
      by_cases hb : p.1 = P
      · rw [hu p hp hb, hb]
        refine ⟨ps ++ #[rawInt pos.line, rawInt pos.col, .ref c'], ?_, ?_, fun p2 cv z => ?_⟩
        · rw [upd_ne (ne_of_none atP nC), upd_same]
        · rw [toL]
          exact PySem.TriplesOk_snoc _ _ _ _ tri
        · rw [toL] at z
          rcases among_app _ tri z with z | z
          · obtain ⟨c0, g1, g2⟩ := among p2 cv z
            exact ⟨c0, g1, ext _ _ g2 codeO_ne⟩
          · exact ⟨c', z, upd_same⟩
      · obtain ⟨ps2, g1, g2, g3⟩ := tabs p hp
        refine ⟨ps2, ?_, g2, fun p2 cv z => ?_⟩
        · rw [upd_ne (ne_of_none g1 nC), upd_ne hb]
          exact g1
        · obtain ⟨c0, r1, r2⟩ := g3 p2 cv z
          exact ⟨c0, r1, ext _ _ r2 codeO_ne⟩
    have fC : h2.objs.size ≠ c' := Nat.ne_of_gt lt
    have fP : h2.objs.size ≠ P := Nat.ne_of_gt (Nat.lt_of_lt_of_le (Heap.lt_size heapP) size)
    have none1 : upd (upd H P (.tbl (ps ++ #[rawInt pos.line, rawInt pos.col, .ref c']))) c' (CodeO c' (X.env.qual ++ "<lambda>")) h2.objs.size = none := by
      rw [upd_ne fC, upd_ne fP]
      exact nF
    have J2 := J.laid (t' := tk) (h' := h2.push (PySem.W.kla_obj "<lambda>" (X.env.qual ++ "<lambda>") params body scope (cloFrom X.env.cells scope.names []) ((X.mg "__name__").getD .none) c' ctv)) (fun _ _ z => Heap.get?_push_of_some _ z) (Nat.le_refl _)
      (lamO_ok (f := h2.objs.size) (c' := c') (Heap.get?_push_size _ rfl))
    exact ⟨V.ref h2.objs.size, _, J2, rfl, k _ c' _ ext tabs2 nF none1 upd_same⟩
end
end DL
set_option Elab.async false
set_option linter.all false
set_option maxRecDepth 100000
set_option maxHeartbeats 4000000
namespace DL
open PySem PySem.Spec PyProof.Rows L2 LamX
/-- a lambda's text, read in the def that made it: k levels of calls, tb what its expression does with what it raises -/
structure LamD (X : Cx) (k : Nat) (params : Arguments) (body : Expr) (scope : Scope) (tb : XK → TE) : Prop where
  L : LamS X.env.scope scope
  bind : ∀ (q : Str) (cl : List (Str × Addr)) (pm cv ctv : Value), bindArgs (PySem.W.kla_fn "<lambda>" q params body scope cl pm cv ctv) ⟨[], []⟩ = pure []
  run : ∀ (A : Around) (outer : List Env) (s : Shared) (H : Hp) (E : XK) (f c' : Addr), Room k (A.deeper (lamEnv X scope s.heap.objs.size f c')) → PE (lamCx X A outer s H E scope f c') body (tb E)
section
variable {X : Cx} {pins : List (Addr × Obj)} {σ : L2.St} {H : Hp} {s : Shared}
/-- work(), in a def that got the lambda -/
theorem pe_actT {CXg : CXT} {Eg : XK} {Ng : List Str} {qg : Str} {sg : Scope} {g : Addr} {cdg : Value} {params : Arguments} {body : Expr} {scope : Scope} {k i : Nat} {a : Str} {pn : List (Addr × Obj)} {xe : Value → Shared → Prop} {W : WX} {tb : XK → TE} {p1 p2 : Pos}
    (I : Inv X pins σ H s) (D : LamD X k params body scope tb) (tk : Takes ((cxOf CXg X.prog X.w X.K X.mg X.base Ng qg sg g cdg X.A X.stack s H Eg).tr pn xe) W) (hr : Room (k + 1) (X.A.deeper (envOfC qg sg s.heap.objs.size g cdg)))
    (hN : Ng[i]? = some a) (hv : Vis sg a) (hd : (a == ("__debug__" : Str)) = false := by decide) (hcd : (a == ("__classdict__" : Str)) = false := by decide) :
    PE ((cxOf CXg X.prog X.w X.K X.mg X.base Ng qg sg g cdg X.A X.stack s H Eg).tr pn xe) (.Call (.Name a p1) [] [] p2)
      (fun σZ HZ Q => ∃ f c', σZ[i]? = some (some (.ref f)) ∧ HZ f = some (LamO f c' (X.env.qual ++ "<lambda>") params body scope (cloFrom X.env.cells scope.names [])) ∧ HZ c' = some (CodeO c' (X.env.qual ++ "<lambda>")) ∧ tb (WE W σZ) σ HZ Q) := by
  constructor
  intro pinsZ sZ σZ HZ Q IZ hh
  obtain ⟨f, c', at_, hf, hc, go⟩ := hh
  have nm := (pe_var (pos := p1) (i := i) (X := (cxOf CXg X.prog X.w X.K X.mg X.base Ng qg sg g cdg X.A X.stack s H Eg).tr pn xe) hN hv hd hcd).run pinsZ sZ σZ HZ (fun v H1 => v = .ref f ∧ H1 = HZ) IZ ⟨.ref f, at_, rfl, rfl⟩
  apply wpAny_Call_Name_kw
  refine thn nm fun u s1 z => ?_
  obtain ⟨v, H1, I1, rv, rfl, rfl⟩ := z
  obtain rfl : u = Value.ref f := rv
  obtain ⟨⟨pm, ctv, of1⟩, _, _⟩ := I1.hok f _ hf
  obtain ⟨⟨oc, fs, t, oc1, fd, fq⟩, _, _⟩ := I1.hok c' _ hc
  refine PySem.W.callWith_F0 ⟨_, _, _, _, of1⟩ ?_
  have L := D.L
  have inner : codeAny (model X.prog X.w) (X.A.deeper (envOfC qg sg s.heap.objs.size g cdg)) (.call (.ref f) ⟨[], []⟩) (CR (L2.CX X.prog X.w) (envOfC qg sg s.heap.objs.size g cdg :: X.stack) X.prog X.w H1 s1 Q (WE W σZ)) s1 := by
    apply PySem.W.kla_callFunE hr.depth of1 rfl L.co L.gen rfl ⟨c', oc, fs, t, rfl, oc1, fd, fq⟩
    rw [D.bind]
    apply wpAny_pure
    refine wpAny_newFunctionEnv (fun y hy => (L.own y hy).2) (fun y hy => absurd hy (by simp)) (fun h1 ns sb => ?_) L.kind
    refine ⟨I1.nolimit.fresh _ sb, ?_⟩
    have keep : ∀ b o, s1.heap.get? b = some o → h1.get? b = some o := fun b o e => sb.extBut b o (Nat.ne_of_lt (Heap.lt_size e)) (Heap.get?_push_of_some _ e)
    have J := lam_start2 (A := X.A.deeper (envOfC qg sg s.heap.objs.size g cdg)) (outer := envOfC qg sg s.heap.objs.size g cdg :: X.stack) (E := WE W σZ) (f := f) (c' := c') (h₁ := h1) (tk := s1.toks + ([] : List (Str × Value)).length) I L I1.env0 hr.hd I1.base ns keep
    have ran := (D.run _ (envOfC qg sg s.heap.objs.size g cdg :: X.stack) s1 H1 (WE W σZ) f c' (hr.deeper _)).run [] _ _ H1 Q J go
    refine PySem.W.kla_codeExpr (wpAny_mono ran (fun v s2 z => ?_) fun _ _ z => z)
    obtain ⟨x, H2, J2, r2, q2⟩ := z
    exact ⟨x, H2, J2.os, J2.bare, J2.base, J2.hok, r2, q2⟩
  apply wpAny_call
  refine codeAny_mono inner fun r s2 z => ?_
  cases r with
  | ok fl =>
    cases fl with
    | ret u => exact I1.after z
    | next => exact z.elim
    | brk => exact z.elim
    | cont => exact z.elim
  | error e => exact passAt tk σZ pinsZ H1 s1 e s2 I1 z
end
end DL
set_option Elab.async false
set_option linter.all false
set_option maxRecDepth 100000
set_option maxHeartbeats 4000000
namespace DL
open PySem PySem.Spec PyProof.Rows L2 LamX
/-- caught = None / try: work() / except CallError as error: caught = error / return caught -/
abbrev caughtB (k0 : Nat) (p1 p2 p3 p4 p5 p6 p7 p8 p9 p10 p11 p12 p13 p14 : Pos) : List Stmt :=
  [.Assign [.Name "_law_caught_here" p1] (.Constant .none k0 p2) p3,
   .Try [.Expr (.Call (.Name "_law_work" p4) [] [] p5) p6] [.ExceptHandler (some (.Name "CallError" p7)) (some "error") [.Assign [.Name "_law_caught_here" p8] (.Name "error" p9) p10] p11] [] [] p12,
   .Return (some (.Name "_law_caught_here" p13)) p14]
/-- what calling it means: the error, kept, is handed back; None where there is none -/
def TTc (K : PySem.W.Frag) (CS : Addr) (tb : XK → TE) : TE := fun σ H Q => ∀ (E : XK) (Q2 : VK), (∀ cls H', PySem.W.exmOne K cls (.ref CS) = some true → (∀ a, H' a = none → Q (.ref a) (upd H' a (ErO cls a))) → E cls none H') → (∀ v H', Q .non H' → Q2 v H') → tb E σ H Q2
section
variable {X : Cx} {pins : List (Addr × Obj)} {σ : L2.St} {H : Hp} {s : Shared}
theorem caught_run {x : Str} {sg : Scope} {g CS : Addr} {cdg : Value} {params : Arguments} {body : Expr} {scope : Scope} {k k0 : Nat} {tb : XK → TE} {f c' : Addr} {Q : VK} {p1 p2 p3 p4 p5 p6 p7 p8 p9 p10 p11 p12 p13 p14 : Pos}
    (I : Inv X pins σ H s) (D : LamD X k params body scope tb) (hr : Room (k + 1) (X.A.deeper (envOfC x sg s.heap.objs.size g cdg))) (S : FnScope ["_law_work", "_law_caught_here", "error"] ["_law_work"] sg)
    (ge : sg.names.lookup ("CallError" : Str) = some .globalImplicit) (me : X.mg "CallError" = some (.ref CS)) (le : sg.names.lookup ("error" : Str) = some .local) (lc : sg.names.lookup ("_law_caught_here" : Str) = some .local) (lw : sg.names.lookup ("_law_work" : Str) = some .local)
    (hf : H f = some (LamO f c' (X.env.qual ++ "<lambda>") params body scope (cloFrom X.env.cells scope.names []))) (hc : H c' = some (CodeO c' (X.env.qual ++ "<lambda>"))) (go : TTc X.K CS tb σ H Q) :
    ∃ t, PSs (cxOf CX0 X.prog X.w X.K X.mg X.base ["_law_work", "_law_caught_here", "error"] x sg g cdg X.A X.stack s H E0).nox (caughtB k0 p1 p2 p3 p4 p5 p6 p7 p8 p9 p10 p11 p12 p13 p14) t ∧
      t { nx := fun _ H' => Q .non H', rt := Q } (L2.start ["_law_work", "_law_caught_here", "error"] [.ref f]) H := by
  refine ⟨_, pss_cons (ps_set (i := 1) S.nd rfl (.inl lc) pe_non) (pss_cons
    (ps_keep (X := (cxOf CX0 X.prog X.w X.K X.mg X.base ["_law_work", "_law_caught_here", "error"] x sg g cdg X.A X.stack s H E0).nox) (i := 2) (c := .ref CS) (ts := fun _ _ => tAsg (tVar 2) (gName 1))
      (tb := fun W => tDrop (fun σZ HZ Q2 => ∃ f c', σZ[0]? = some (some (.ref f)) ∧ HZ f = some (LamO f c' (X.env.qual ++ "<lambda>") params body scope (cloFrom X.env.cells scope.names [])) ∧ HZ c' = some (CodeO c' (X.env.qual ++ "<lambda>")) ∧ tb (WE W σZ) σ HZ Q2))
      rfl rfl rfl S.nd rfl le ⟨ge, by decide, .inl me⟩
      (fun W pn xe tk _ => pss_one (ps_expr (pe_actT (CXg := CX0) (Eg := E0) (Ng := ["_law_work", "_law_caught_here", "error"]) I D tk hr rfl (.inl lw))))
      (fun a oe cls pn _ _ => pss_one (ps_set (i := 1) S.nd rfl (.inl lc) (pe_var (i := 2) rfl (.inl le))))) (pss_one (ps_ret (pe_var (i := 1) rfl (.inl lc))))), ?_⟩
  refine ⟨f, c', rfl, hf, hc, go _ _ (fun cls H' hx q => ?_) fun v H' q => ?_⟩
  · refine ⟨hx, rfl, fun a na => ?_⟩
    exact ⟨_, rfl, _, rfl, q a na⟩
  · exact ⟨_, rfl, q⟩
/-- x(y), y a lambda of this def -/
theorem pe_caught {x y : Str} {sg : Scope} {pg : Arguments} {g CS : Addr} {dV kV doc pm cdv ct oc : Value} {an od : Option Addr} {osl : Array (Option Value)} {k k0 j : Nat} {p py pos p1 p2 p3 p4 p5 p6 p7 p8 p9 p10 p11 p12 p13 p14 : Pos}
    (hg : Gl X x) (hm : X.mg x = some (.ref g)) (hk : PySem.W.keepIn X.K (.ref g) = true) (lk : X.K.lookup g = some ⟨oc, od, .func (PySem.W.fnOf x x pg (caughtB k0 p1 p2 p3 p4 p5 p6 p7 p8 p9 p10 p11 p12 p13 p14) sg dV kV doc pm an cdv ct), osl⟩)
    (hcg : PySem.W.codeIn X.K cdv x = true) (hb : L2.Binds X.K (PySem.W.fnOf x x pg (caughtB k0 p1 p2 p3 p4 p5 p6 p7 p8 p9 p10 p11 p12 p13 p14) sg dV kV doc pm an cdv ct) ["_law_work"] []) (S : FnScope ["_law_work", "_law_caught_here", "error"] ["_law_work"] sg)
    (ge : sg.names.lookup ("CallError" : Str) = some .globalImplicit) (me : X.mg "CallError" = some (.ref CS)) (le : sg.names.lookup ("error" : Str) = some .local) (lc : sg.names.lookup ("_law_caught_here" : Str) = some .local) (lw : sg.names.lookup ("_law_work" : Str) = some .local)
    (hr : Room (k + 2) X.A) (hN : X.N[j]? = some y) (hv : Vis X.env.scope y) (hdb : (x == ("__debug__" : Str)) = false := by decide) (hd : (y == ("__debug__" : Str)) = false := by decide) (hcd : (y == ("__classdict__" : Str)) = false := by decide) :
    PE X (.Call (.Name x p) [.Name y py] [] pos) (fun σ H Q => ∃ f c' params body scope tb, σ[j]? = some (some (.ref f)) ∧ H f = some (LamO f c' (X.env.qual ++ "<lambda>") params body scope (cloFrom X.env.cells scope.names [])) ∧ H c' = some (CodeO c' (X.env.qual ++ "<lambda>")) ∧ LamD X k params body scope tb ∧ TTc X.K CS tb σ H Q) := by
  constructor
  intro pins s σ H Q I hh
  obtain ⟨f, c', params, body, scope, tb, at_, hf, hc, D, go⟩ := hh
  apply wpAny_Call_Name_kw
  refine ld_glob I hg hm ?_ hdb
  have arg := (pa_cons (pe_var (pos := py) (i := j) (X := X) hN hv hd hcd) pa_nil).run pos pins s σ H (fun vs H1 => vs = [.ref f] ∧ H1 = H) I ⟨.ref f, at_, rfl, rfl⟩
  refine PySem.W.callWith_K (h₀ := X.base) I.ok.mod.kin hk (thn arg fun us s1 z => ?_) (by rfl) (by rfl)
  obtain ⟨vs, H1, I1, r, rfl, rfl⟩ := z
  refine ⟨I1.kIn, ?_⟩
  have lu : us.length = 1 := (Vals.length r).symm
  have inner : codeAny (model X.prog X.w) X.A (.call (.ref g) ⟨us, []⟩) (CR CX0 X.stack X.prog X.w H1 s1 Q E0) s1 := by
    refine run_ofS (N := ["_law_work", "_law_caught_here", "error"]) (ps := ["_law_work"]) (us := us) (vs := [.ref f]) lk hcg S hr I1.env0 ?_ r rfl fun hr2 => ?_
    · have := hb s1 us I1.kIn (by simpa using lu)
      simpa using this
    · obtain ⟨t, ht, q⟩ := caught_run (x := x) (g := g) (cdg := cdv) (k0 := k0) (p1 := p1) (p2 := p2) (p3 := p3) (p4 := p4) (p5 := p5) (p6 := p6) (p7 := p7) (p8 := p8) (p9 := p9) (p10 := p10) (p11 := p11) (p12 := p12) (p13 := p13) (p14 := p14) I1 D hr2 S ge me le lc lw hf hc go
      exact ⟨t, ht.nox, q⟩
  apply wpAny_call
  refine codeAny_mono inner fun r2 s2 z => ?_
  cases r2 with
  | error e => exact (show False from z).elim
  | ok fl =>
    cases fl with
    | ret u => exact I1.after z
    | next => exact z.elim
    | brk => exact z.elim
    | cont => exact z.elim
end
end DL
set_option Elab.async false
set_option linter.all false
set_option maxRecDepth 100000
set_option maxHeartbeats 4000000
/-! defs that may raise an error of an own class; isinstance of data of any kind -/
namespace DL
open PySem PySem.Spec PyProof.Rows L2 Evl
/-- the type of data by its name -/
def tyD : PyData → String
  | .none => "NoneType"
  | .bool _ => "bool"
  | .int _ => "int"
  | .str _ => "str"
  | .list _ => "list"
  | .tuple _ => "tuple"
  | .dict _ => "dict"
section
variable {K : PySem.W.Frag} {σ : L2.St} {H H' : Hp} {ta tb te : TE} {d : PyData} {ds : List PyData} {v : V}
theorem tyD_dp (h : Dp K H v d) : TyX K H v (.type (tyD d)) := by
  cases h with
  | non => exact .base .non
  | bl b => exact .base (.bl b)
  | int i => exact .base (.int i)
  | str x => exact .base (.str x)
  | lst h _ => exact tyL h
  | tup h _ => exact tyT h
/-- isinstance(x, a built-in class) -/
theorem ev_isiD {nm : String} {b : Bool} (ha : EvD K ta σ H d) (hb : kitB (tyD d) nm = some b) : Ev (tCB (rIsi K) (tCons ta (tCons (tC (.ty nm)) tNil))) σ H (.bl b) := fun H1 e Q q =>
  ha H1 e _ fun x H2 e2 hx => ⟨_, _, _, _, b, rfl, .ty nm, tyD_dp hx, kit_ty hb, q H2 e2⟩
/-- data in, data out, or an error of the class at C -/
def spR (K : PySem.W.Frag) (n : Nat) (R : List PyData → PyData → Prop) (B : List PyData → Addr → Prop) : Sp := fun vs H Q E => ∃ ds, DpAll K H vs ds ∧ ds.length = n ∧
  ((∃ r, R ds r ∧ ∀ v H', Ex H H' → Dp K H' v r → Q v H') ∨ ∃ C, B ds C ∧ ∀ H', Ex H H' → E (.ref C) none H')
theorem spR_len {n : Nat} {R : List PyData → PyData → Prop} {B : List PyData → Addr → Prop} {vs : List V} {Q : VK} {E : XK} (h : spR K n R B vs H Q E) : vs.length = n := by
  obtain ⟨ds, h1, h2, _⟩ := h
  rw [dpa_len h1, h2]
theorem ed_callR {n : Nat} {R : List PyData → PyData → Prop} {B : List PyData → Addr → Prop} {E : XK} {tt : TA} (h : EvDA K tt σ H ds) (hl : ds.length = n) (hr : R ds d) : EvD K (tCall (spR K n R B) [] E tt) σ H d := fun H1 e Q q =>
  h H1 e _ fun vs H2 e2 hv => ⟨ds, by rw [List.append_nil]; exact hv, hl, .inl ⟨d, hr, fun v H3 e3 hd => q v H3 (e2.trans e3) hd⟩⟩
/-- an expression that raises -/
def EvB (E : XK) (te : TE) (σ : L2.St) (H : Hp) (C : Addr) : Prop := ∀ H1, Ex H H1 → ∀ Q : VK, (∀ H2, Ex H1 H2 → E (.ref C) none H2) → te σ H1 Q
theorem eb_callR {n : Nat} {R : List PyData → PyData → Prop} {B : List PyData → Addr → Prop} {E : XK} {tt : TA} {C : Addr} (h : EvDA K tt σ H ds) (hl : ds.length = n) (hb : B ds C) : EvB E (tCall (spR K n R B) [] E tt) σ H C := fun H1 e Q q =>
  h H1 e _ fun vs H2 e2 hv => ⟨ds, by rw [List.append_nil]; exact hv, hl, .inr ⟨C, hb, fun H3 e3 => q H3 (e2.trans e3)⟩⟩
/-- a statement e, e raising -/
theorem b_drop {E : XK} {D : Ends} {tz : TS} {C : Addr} (h : EvB E te σ H C) (q : ∀ H1, Ex H H1 → E (.ref C) none H1) : tSeq (tDrop te) tz D σ H := h H (Ex.refl _) _ q
end
/-- a def that may raise, called by its name -/
structure DFX (P : Program) (w : World) (K : PySem.W.Frag) (mg : Str → Option Value) (base : Heap) (nm : Str) (k : Nat) (ps : List Str) (sp : Sp) : Prop where
  ex : ∃ (f : Addr) (fd : FuncData), FnOk P w K mg base (L2.CX P w) k f fd ps sp ∧ mg nm = some (.ref f) ∧ PySem.W.keepIn K (.ref f) = true ∧ Binds K fd ps []
theorem pe_DX {X : Cx} {nm : Str} {k : Nat} {ps : List Str} {sp : Sp} {E : XK} {W : WX} {e : Expr} {es : List Expr} {t : TA} {p pos : Pos} (F : DFX X.prog X.w X.K X.mg X.base nm k ps sp) (tk : Takes X W) (hW : ∀ cls d σ H, E cls d H → W cls d σ H) (hr : Room k X.A) (hg : Gl X nm) (ha : PA X (e :: es) t)
    (hdb : (nm == ("__debug__" : Str)) = false := by decide) (he : starEach (e :: es) X.env = (false, eval e X.env) :: starEach es X.env := by rfl) (hpl : (backTo pos (starEach es X.env)).any (·.1) = false := by rfl) :
    PE X (.Call (.Name nm p) (e :: es) [] pos) (tCall sp [] E t) := by
  obtain ⟨f, fd, h1, h2, h3, h4⟩ := F.ex
  exact pe_call h1 hr hg h2 h3 h4 .nil (passes_call tk hW) ha hdb he hpl
/-- an own error class without own __init__ -/
structure ErC (K : PySem.W.Frag) (mg : Str → Option Value) (nm : Str) (C : Addr) : Prop where
  gC : mg nm = some (.ref C)
  q : ∃ (bmB : List Value), ExcBaseFacts "ValueError" "ValueError.__new__" "ValueError.__init__" bmB ∧ PySem.W.excIn K C bmB "ValueError.__new__" = true
  kC : PySem.W.keepIn K (.ref C) = true
  exC : PySem.W.subIn K (.ref C) (.type "BaseException") = some true
  tyC : PySem.W.typeIn K (.ref C) = some (.type "type")
/-- raise C(e) -/
theorem ps_raiseC {X : Cx} {W : WX} {C : Addr} {x : Str} {e : Expr} {ta : TE} {p pos pos2 : Pos} (hc : X.calm = true) (tk : Takes X W) (T : ErC X.K X.mg x C) (hg : Gl X x) (he : PE X e ta) (hs : starEach [e] X.env = (false, eval e X.env) :: starEach [] X.env := by rfl) (hdb : (x == ("__debug__" : Str)) = false := by decide) :
    PS X (.Raise (some (.Call (.Name x p) [e] [] pos)) none pos2) (fun _ σ H => ta σ H fun _ H1 => W (.ref C) none σ H1) := by
  obtain ⟨bm, F, q⟩ := T.q
  exact ps_raise hc tk (SkE.pmk_own1 F q T.gC T.kC (raises_own T.exC T.tyC) hg he hs hdb)
end DL
set_option Elab.async false
set_option linter.all false
set_option maxRecDepth 100000
set_option maxHeartbeats 4000000
/-! repr of lists and tuples of data; the guards stand empty -/
namespace DL
open PySem PySem.Spec PyProof.Rows L2 Evl
mutual
theorem noDict_dp {K : PySem.W.Frag} {H : Hp} : ∀ (d : PyData) (v : V), Dp K H v d → d.hasDict = false
  | .none, _, _ => by simp [PyData.hasDict]
  | .bool b, _, _ => by simp [PyData.hasDict]
  | .int i, _, _ => by simp [PyData.hasDict]
  | .str x, _, _ => by simp [PyData.hasDict]
  | .list ds, _, h => by
    cases h with
    | lst _ ha => simpa [PyData.hasDict] using noDict_dpa ds _ ha
  | .tuple ds, _, h => by
    cases h with
    | tup _ ha => simpa [PyData.hasDict] using noDict_dpa ds _ ha
  | .dict _, _, h => by cases h
theorem noDict_dpa {K : PySem.W.Frag} {H : Hp} : ∀ (ds : List PyData) (vs : List V), DpAll K H vs ds → PyData.hasDictAll ds = false
  | [], _, _ => by simp [PyData.hasDictAll]
  | d :: ds, _, h => by
    cases h with
    | cons a b =>
      rw [PyData.hasDictAll, noDict_dp d _ a, noDict_dpa ds _ b]
      rfl
end
/-- repr(x), x a list or a tuple of data -/
def rRepr (K : PySem.W.Frag) : List V → Hp → VK → Prop := fun xs H Q => ∃ (a : Addr) (d : PyData), xs = [.ref a] ∧ Dp K H (.ref a) d ∧ d.showable = true ∧ d.depth ≤ 90 ∧ d.shown.length ≤ sizeLine ∧ Q (.str d.shown) H
theorem call_repr {X : Cx} (hg : X.A.guards = some []) (hu : X.A.units + 100 < cLine) : CallR X (.builtin "repr") (rRepr X.K) := by
  intro pins s σ H xs us Q I r h
  obtain ⟨a, d, rfl, hd, hs, h64, hsz, q⟩ := h
  obtain rfl := Vals.ref1 r
  obtain ⟨as, rd⟩ := Dp.reads I d (.ref a) (.ref a) hd rfl
  exact repr_of_reads' rd hs (PyData.noDict_hsm (noDict_dp d _ hd)) hg (by omega) (fun _ _ e => e) (fun h' u tk k => ⟨.str d.shown, H, I.kept k, ⟨u, rfl⟩, q⟩) hsz
theorem guards_deeper (A : Around) (env : Env) : (A.deeper env).guards = A.guards := rfl
end DL
set_option Elab.async false
set_option linter.all false
set_option maxRecDepth 100000
set_option maxHeartbeats 4000000
/-! a law that asks repr: its def runs where no guard stands -/
namespace DL
open PySem PySem.Spec PyProof.Rows L2 Evl
structure FnG (P : Program) (w : World) (K : PySem.W.Frag) (mg : Str → Option Value) (base : Heap) (CX : CXT) (k : Nat) (f : Addr) (fd : FuncData) (ps : List Str) (sp : Sp) : Prop where
  len : ∀ vs H Q E, sp vs H Q E → vs.length = ps.length
  run : ∀ (A : Around) (outer : List Env) (s : Shared) (H : Hp) (args : Args) (us : List Value) (vs : List V) (Q : VK) (E : XK), A.guards = some [] → Room k A → Env0 P w K mg base A outer s H → BindsTo s fd args (ps.zip us) → Vals vs us → sp vs H Q E →
    codeAny (model P w) A (.call (.ref f) args) (CR CX outer P w H s Q E) s
theorem okG {P : Program} {w : World} {K : PySem.W.Frag} {mg : Str → Option Value} {base : Heap} {CX : CXT} {x qual : Str} {st : Stmt} {f : Addr} {fd : FuncData} {N ps : List Str} {k : Nat} {sp : Sp} (F : Fun K x qual st f fd) (S : FnScope N ps (defScope st)) (len : ∀ vs H Q E, sp vs H Q E → vs.length = ps.length)
    (body : ∀ (cdv : Value) (A : Around) (outer : List Env) (s : Shared) (H : Hp) (vs : List V) (Q : VK) (E : XK), A.guards = some [] → Room k (A.deeper (envOfC qual (defScope st) s.heap.objs.size f cdv)) → sp vs H Q E →
      ∃ t, PSs (cxOf CX P w K mg base N qual (defScope st) f cdv A outer s H E) (defBody st) t ∧ t { nx := fun _ H' => Q .non H', rt := Q } (L2.start N vs) H) : FnG P w K mg base CX (k + 1) f fd ps sp := by
  obtain ⟨⟨oc, od, kV, doc, pm, an, cdv, ct, osl, rfl, lk, hcd⟩, _⟩ := F
  exact ⟨len, fun A outer s H args us vs Q E hg hr e0 hb r h => LamX.run_ofS lk hcd S hr e0 hb r (len _ _ _ _ h) fun hr2 => body cdv A outer s H vs Q E hg hr2 h⟩
section
variable {P : Program} {w : World} {K : PySem.W.Frag} {mg mb : Str → Option Value} {CX : CXT} {k : Nat} {fa a : Addr} {fd : FuncData} {x : Str} {sp : Sp} {s1 : Shared} {vs : List Value} {ns : List Int}
theorem callG_at (KX : K.In s1.heap) (hns : s1.heap.Ns mainGlobals mg) (hb : s1.heap.Ns builtinsNs mb) (hbb : ∀ y : Str, y ≠ "__name__" → mb y = bootBuiltins y) (lim : s1.heap.NoLimit) (gens : s1.gens = #[])
    (obj : s1.heap.get? a = some { cls := .type "list", data := .seq vs.toArray }) (room : Room k callerA)
    (F : ∀ base : Heap, K.In base → base.Ns mainGlobals mg → FnG P w K mg base CX k fa fd [x] sp) (bind : ∀ (s : Shared) (u : Value), BindsTo s fd ⟨[u], []⟩ [(x, u)])
    (out : ∀ H e s', CX [] H s1 (fun _ _ _ => False) e s' → False) (H : Hp) (only : Only H) (ask : sp [.ref a] H (fun v _ => v = .bl true) fun _ _ _ => False)
    (held : HOk P w H s1.heap) (atA : ∀ b, H b ≠ none → b = a) (away : H a ≠ none → K.lookup a = none) :
    codeAny (model P w) callerA (.call (.ref fa) ⟨[.ref a], []⟩) (fun r s' => r = .ok (.ret (.bool true)) ∧ OldK s1.heap s'.heap ∧ s'.os = s1.os ∧ AllBare s'.gens) s1 := by
  have free : ∀ {b : Addr} {o : Obj}, s1.heap.get? b = some o → b ≠ a → (hidT s1.heap H).get? b = some o := fun {b o} e n => hidT_get e (by
    cases q : H b with
    | none => rfl
    | some u => exact absurd (atA b (by rw [q]; simp)) n)
  have names : ∀ {b : Addr} {m : Str → Option Value}, s1.heap.Ns b m → (hidT s1.heap H).Ns b m := fun {b m} z => by
    obtain ⟨o, es, ep, e, d, r⟩ := z
    refine ⟨o, es, ep, free e fun y => ?_, d, r⟩
    rw [y, obj] at e
    cases e
    exact nomatch (show Data.seq vs.toArray _ = Data.dict es ep from d)
  have written : K.In (hidT s1.heap H) := fun b o e => by
    by_cases y : b = a
    · refine hidT_get (KX b o e) ?_
      cases q : H b with
      | none => rfl
      | some u =>
        rw [y] at e q
        rw [away (by rw [q]; simp)] at e
        cases e
    · exact free (KX b o e) y
  obtain ⟨mc, l1, l2⟩ := lim
  have modu : Mod K mg (hidT s1.heap H) := ⟨written, names hns, ⟨mb, names hb, hbb⟩, ⟨mc, names l1, l2⟩⟩
  have env : Env0 P w K mg (hidT s1.heap H) callerA [] s1 H := ⟨rfl, modu, fun b o e => of_hidT e, Nat.le_of_eq (hidT_size _ _), trivial, fun b z => (List.not_mem_nil (show b ∈ ([] : List Addr) from z)).elim, held, .of_eq gens⟩
  refine codeAny_mono ((F _ written (names hns)).run callerA [] s1 H ⟨[.ref a], []⟩ [.ref a] [.ref a] _ _ rfl room env (bind s1 (.ref a)) (.cons rfl .nil) ask) fun r s2 z => ?_
  cases r with
  | error e => exact (out H e s2 z).elim
  | ok fl =>
    cases fl with
    | ret u =>
      obtain ⟨v, H2, os, bare, un, held2, rv, rfl⟩ := z
      obtain rfl : u = Value.bool true := rv
      refine ⟨rfl, OldK.of_keep fun b o e => ?_, os, bare⟩
      rcases only b with none_ | ⟨ob, xs, fz⟩
      · exact un.keep b o e none_ (by intro m; exact absurd (show b ∈ ([] : List Addr) from m) (by simp)) (by simp)
      · obtain ⟨o1, _⟩ := held b _ fz
        obtain ⟨o2, _⟩ := held2 b _ (un.frzs b ob _ fz)
        rw [e] at o1
        cases o1
        exact o2
    | next => exact z.elim
    | brk => exact z.elim
    | cont => exact z.elim
/-- the script is one of the module's own lists, or a list of its own -/
theorem callG (KX : K.In s1.heap) (hns : s1.heap.Ns mainGlobals mg) (hb : s1.heap.Ns builtinsNs mb) (hbb : ∀ y : Str, y ≠ "__name__" → mb y = bootBuiltins y) (lim : s1.heap.NoLimit) (gens : s1.gens = #[])
    (obj : s1.heap.get? a = some { cls := .type "list", data := .seq vs.toArray }) (isI : IntsAre vs ns) (few : ns.length ≤ sizeLine) (room : Room k callerA)
    (F : ∀ base : Heap, K.In base → base.Ns mainGlobals mg → FnG P w K mg base CX k fa fd [x] sp) (bind : ∀ (s : Shared) (u : Value), BindsTo s fd ⟨[u], []⟩ [(x, u)])
    (ask : ∀ H : Hp, Only H → SqL K H a (ns.map V.int) → sp [.ref a] H (fun v _ => v = .bl true) fun _ _ _ => False) (out : ∀ H e s', CX [] H s1 (fun _ _ _ => False) e s' → False) :
    codeAny (model P w) callerA (.call (.ref fa) ⟨[.ref a], []⟩) (fun r s' => r = .ok (.ret (.bool true)) ∧ OldK s1.heap s'.heap ∧ s'.os = s1.os ∧ AllBare s'.gens) s1 := by
  have vals := vals_ints isI
  have len := isI.length
  cases known : K.lookup a with
  | some o =>
    have e := KX a o known
    rw [obj] at e
    cases e
    have only : Only (fun _ : Addr => (none : Option HO)) := fun _ => .inl rfl
    have seq : SqL K (fun _ : Addr => (none : Option HO)) a (ns.map V.int) := .inr ⟨_, vs.toArray, _, known, rfl, rfl, rfl, by rw [List.size_toArray, len]; exact few, by simpa using vals⟩
    exact callG_at KX hns hb hbb lim gens obj room F bind out _ only (ask _ only seq) (fun b u z => nomatch (show (none : Option HO) = some u from z)) (fun b z => (z rfl).elim) fun z => (z rfl).elim
  | none =>
    let H : Hp := fun b => if b = a then some (.frz { cls := .type "list", data := .seq vs.toArray } (.lst (ns.map V.int))) else none
    have at_ : H a = some (.frz { cls := .type "list", data := .seq vs.toArray } (.lst (ns.map V.int))) := if_pos rfl
    have off : ∀ b, b ≠ a → H b = none := fun b n => if_neg n
    have only : Only H := fun b => by
      by_cases y : b = a
      · exact .inr ⟨_, _, y ▸ at_⟩
      · exact .inl (off b y)
    have seq : SqL K H a (ns.map V.int) := .inl (.inr ⟨_, at_⟩)
    refine callG_at KX hns hb hbb lim gens obj room F bind out H only (ask H only seq) (fun b u z => ?_) (fun b z => ?_) fun _ => known
    · by_cases y : b = a
      · subst y
        rw [at_] at z
        cases z
        exact ⟨obj, by rw [List.length_map]; exact few, vs, _, vals, obj⟩
      · rw [off b y] at z
        cases z
    · by_cases y : b = a
      · exact y
      · exact absurd (off b y) z
end
theorem walkG {l : PySem.W.OpenLaw} {n k : Nat} {q : Program} {loose : List Str} {XP : (Str → Option Value) → Heap → Prop} {YP : World → Heap → Prop} {d : DefRec} {K : Params → PySem.W.Frag} {CX : World → CXT} {sp : World → Sp} {x : Str}
    (most : l.most = some n) (line : n ≤ sizeLine) (plain : d.params.defaults = []) (room : Room k callerA) (keep : ∀ (w : World) (h : Heap), YP w h → (K w.params).In h)
    (F : ∀ (w : World) (mg : Str → Option Value) (fa : Addr) (h : Heap), (K w.params).In h → h.Ns mainGlobals mg → mg d.name = some (.ref fa) →
      ∃ fd : FuncData, (∀ (s : Shared) (u : Value), BindsTo s fd ⟨[u], []⟩ [(x, u)]) ∧ ∀ base : Heap, (K w.params).In base → base.Ns mainGlobals mg → FnG l.prog w (K w.params) mg base (CX w) k fa fd [x] (sp w))
    (ask : ∀ (w : World) (H : Hp) (a : Addr) (ns : List Int), ns.length ≤ n → Only H → SqL (K w.params) H a (ns.map V.int) → sp w [.ref a] H (fun v _ => v = .bl true) fun _ _ _ => False)
    (out : ∀ (w : World) (H : Hp) (s : Shared) (e : Value) (s' : Shared), CX w [] H s (fun _ _ _ => False) e s' → False) : PySem.W.WalkO q loose XP YP l.row.toRowW d [] (fun f vs => PySem.call f vs) := by
  apply Att.attach_call most plain
  intro w s0 s1 mg mb fa o pm cd doc a vs ns G Y ho hd hcd hmg hobj hints hlen hg
  obtain ⟨fd, hb, hF⟩ := F w mg fa _ (keep w _ Y) G.T.g hmg
  exact callG (keep w _ Y) G.T.g G.T.b G.T.builtins G.T.nolimit hg hobj hints (Nat.le_trans hlen line) room hF hb (fun H h1 h2 => ask w H a ns hlen h1 h2) fun H e s' => out w H s1 e s'
end DL
set_option Elab.async false
set_option linter.all false
set_option maxRecDepth 100000
set_option maxHeartbeats 4000000
/-! the same with the table of the law's own code objects (its lambdas) -/
namespace DL
open PySem PySem.Spec PyProof.Rows L2 Evl LamX
section
variable {P : Program} {w : World} {K : PySem.W.Frag} {mg mb : Str → Option Value} {CX : CXT} {k : Nat} {fa a c T : Addr} {fd : FuncData} {x : Str} {sp : Sp} {s1 : Shared} {vs : List Value} {ns : List Int}
theorem callT_at (KX : K.In s1.heap) (hns : s1.heap.Ns mainGlobals mg) (hb : s1.heap.Ns builtinsNs mb) (hbb : ∀ y : Str, y ≠ "__name__" → mb y = bootBuiltins y) (lim : s1.heap.NoLimit) (gens : s1.gens = #[])
    (tab : s1.heap.get? T = some { cls := .none, data := .fields #[] }) (free_ : K.lookup T = none) (code : PySem.W.CodeHd s1.heap c T)
    (bmod : ∃ (bm : Addr) (ob : Obj), mg "__builtins__" = some (.ref bm) ∧ bm ≠ builtinsNs ∧ s1.heap.get? bm = some ob ∧ ob.cls = .type "module" ∧ ob.dict = some builtinsNs ∧ ob.data = .plain)
    (obj : s1.heap.get? a = some { cls := .type "list", data := .seq vs.toArray }) (room : Room k callerA)
    (F : ∀ base : Heap, K.In base → base.Ns mainGlobals mg → TabB base mg c T → FnG P w K mg base CX k fa fd [x] sp) (bind : ∀ (s : Shared) (u : Value), BindsTo s fd ⟨[u], []⟩ [(x, u)])
    (out : ∀ H e s', CX [] H s1 (fun _ _ _ => False) e s' → False) (H : Hp) (atT : H T = some (.tbl #[])) (only : ∀ b, H b = none ∨ b = T ∨ ∃ o xs, H b = some (.frz o (.lst xs))) (ask : sp [.ref a] H (fun v _ => v = .bl true) fun _ _ _ => False)
    (held : HOk P w H s1.heap) (atA : ∀ b, H b ≠ none → b = a ∨ b = T) (away : H a ≠ none → K.lookup a = none) :
    codeAny (model P w) callerA (.call (.ref fa) ⟨[.ref a], []⟩) (fun r s' => r = .ok (.ret (.bool true)) ∧ OldK s1.heap s'.heap ∧ s'.os = s1.os ∧ AllBare s'.gens) s1 := by
  have none_of : ∀ {b : Addr}, b ≠ a → b ≠ T → H b = none := fun {b} n1 n2 => by
    cases q : H b with
    | none => rfl
    | some u =>
      rcases atA b (by rw [q]; simp) with y | y
      · exact absurd y n1
      · exact absurd y n2
  have free : ∀ {b : Addr} {o : Obj}, s1.heap.get? b = some o → b ≠ a → b ≠ T → (hidT s1.heap H).get? b = some o := fun {b o} e n1 n2 => hidT_get e (none_of n1 n2)
  -- an object that is neither a list nor a table
  have other : ∀ {b : Addr} {o : Obj}, s1.heap.get? b = some o → (∀ us n, o.data ≠ .seq us n) → o.data ≠ .fields #[] → b ≠ a ∧ b ≠ T := fun {b o} e n1 n2 => by
    refine ⟨fun y => ?_, fun y => ?_⟩
    · rw [y, obj] at e
      cases e
      exact n1 _ _ rfl
    · rw [y, tab] at e
      cases e
      exact n2 rfl
  have names : ∀ {b : Addr} {m : Str → Option Value}, s1.heap.Ns b m → (hidT s1.heap H).Ns b m := fun {b m} z => by
    obtain ⟨o, es, ep, e, d, r⟩ := z
    obtain ⟨n1, n2⟩ := other e (fun us n y => by rw [d] at y; cases y) (fun y => by rw [d] at y; cases y)
    exact ⟨o, es, ep, free e n1 n2, d, r⟩
  have written : K.In (hidT s1.heap H) := fun b o e => by
    refine hidT_get (KX b o e) ?_
    cases q : H b with
    | none => rfl
    | some u =>
      rcases atA b (by rw [q]; simp) with y | y
      · rw [y] at e q
        rw [away (by rw [q]; simp)] at e
        cases e
      · rw [y, free_] at e
        cases e
  obtain ⟨mc, l1, l2⟩ := lim
  have modu : L2.Mod K mg (hidT s1.heap H) := ⟨written, names hns, ⟨mb, names hb, hbb⟩, ⟨mc, names l1, l2⟩⟩
  have TB : TabB (hidT s1.heap H) mg c T := by
    refine ⟨?_, ?_, fun z => ?_⟩
    · obtain ⟨o, us, file, tf, flags, tg, inF, text, tt, e1, r1, r2, r3, r4⟩ := code
      obtain ⟨n1, n2⟩ := other e1 (fun us' n y => by rw [r2] at y; cases y) (fun y => by
        rw [r2] at y
        cases y
        simp at r3)
      exact ⟨o, us, file, tf, flags, tg, inF, text, tt, free e1 n1 n2, r1, r2, r3, r4⟩
    · obtain ⟨bm, ob, b1, b2, b3, b4, b5, b6⟩ := bmod
      obtain ⟨n1, n2⟩ := other b3 (fun us n y => by rw [b6] at y; cases y) (fun y => by rw [b6] at y; cases y)
      have nG : bm ≠ mainGlobals := fun y => by
        obtain ⟨o, es, ep, e, d, _⟩ := hns
        rw [y, e] at b3
        cases b3
        rw [d] at b6
        cases b6
      exact ⟨bm, ob, b1, b2, nG, n2, free b3 n1 n2, b4, b5, b6⟩
    · obtain ⟨o, es, ep, e, d, _⟩ := hns
      rw [z, tab] at e
      cases e
      cases d
  have env : Env0 P w K mg (hidT s1.heap H) callerA [] s1 H := ⟨rfl, modu, fun b o e => of_hidT e, Nat.le_of_eq (hidT_size _ _), trivial, fun b z => (List.not_mem_nil (show b ∈ ([] : List Addr) from z)).elim, held, .of_eq gens⟩
  refine codeAny_mono ((F _ written (names hns) TB).run callerA [] s1 H ⟨[.ref a], []⟩ [.ref a] [.ref a] _ _ rfl room env (bind s1 (.ref a)) (.cons rfl .nil) ask) fun r s2 z => ?_
  cases r with
  | error e => exact (out H e s2 z).elim
  | ok fl =>
    cases fl with
    | ret u =>
      obtain ⟨v, H2, os, bare, un, held2, rv, rfl⟩ := z
      obtain rfl : u = Value.bool true := rv
      have kept : ∀ b o, b ≠ T → s1.heap.get? b = some o → s2.heap.get? b = some o := fun b o nb e => by
        rcases only b with none_ | y | ⟨ob, xs, fz⟩
        · exact un.keep b o e none_ (by intro m; exact absurd (show b ∈ ([] : List Addr) from m) (by simp)) (by simp)
        · exact absurd y nb
        · obtain ⟨o1, _⟩ := held b _ fz
          obtain ⟨o2, _⟩ := held2 b _ (un.frzs b ob _ fz)
          rw [e] at o1
          cases o1
          exact o2
      obtain ⟨more, grown⟩ := un.tbls T #[] atT
      have now : s2.heap.get? T = some { cls := .none, data := .fields (#[] ++ more) } := held2 T _ grown
      refine ⟨rfl, ⟨fun b o e => ?_, fun b o e => ?_⟩, os, bare⟩
      · by_cases y : b = T
        · subst y
          rw [tab] at e
          cases e
          exact .inr (.inl ⟨(code.tab tab).isCodeTable, rfl, #[], more, rfl, now⟩)
        · exact .inl (kept b o y e)
      · by_cases y : b = T
        · exact ⟨_, y ▸ now⟩
        · exact ⟨o, kept b o y e⟩
    | next => exact z.elim
    | brk => exact z.elim
    | cont => exact z.elim
theorem callT (KX : K.In s1.heap) (hns : s1.heap.Ns mainGlobals mg) (hb : s1.heap.Ns builtinsNs mb) (hbb : ∀ y : Str, y ≠ "__name__" → mb y = bootBuiltins y) (lim : s1.heap.NoLimit) (gens : s1.gens = #[])
    (tab : s1.heap.get? T = some { cls := .none, data := .fields #[] }) (free_ : K.lookup T = none) (code : PySem.W.CodeHd s1.heap c T)
    (bmod : ∃ (bm : Addr) (ob : Obj), mg "__builtins__" = some (.ref bm) ∧ bm ≠ builtinsNs ∧ s1.heap.get? bm = some ob ∧ ob.cls = .type "module" ∧ ob.dict = some builtinsNs ∧ ob.data = .plain)
    (obj : s1.heap.get? a = some { cls := .type "list", data := .seq vs.toArray }) (isI : IntsAre vs ns) (few : ns.length ≤ sizeLine) (room : Room k callerA)
    (F : ∀ base : Heap, K.In base → base.Ns mainGlobals mg → TabB base mg c T → FnG P w K mg base CX k fa fd [x] sp) (bind : ∀ (s : Shared) (u : Value), BindsTo s fd ⟨[u], []⟩ [(x, u)])
    (ask : ∀ H : Hp, H T = some (.tbl #[]) → SqL K H a (ns.map V.int) → sp [.ref a] H (fun v _ => v = .bl true) fun _ _ _ => False) (out : ∀ H e s', CX [] H s1 (fun _ _ _ => False) e s' → False) :
    codeAny (model P w) callerA (.call (.ref fa) ⟨[.ref a], []⟩) (fun r s' => r = .ok (.ret (.bool true)) ∧ OldK s1.heap s'.heap ∧ s'.os = s1.os ∧ AllBare s'.gens) s1 := by
  have vals := vals_ints isI
  have len := isI.length
  have aT : a ≠ T := fun y => by
    rw [y, tab] at obj
    cases obj
  cases known : K.lookup a with
  | some o =>
    have e := KX a o known
    rw [obj] at e
    cases e
    let H : Hp := fun b => if b = T then some (.tbl #[]) else none
    have at_ : H T = some (.tbl #[]) := if_pos rfl
    have off : ∀ b, b ≠ T → H b = none := fun b n => if_neg n
    have seq : SqL K H a (ns.map V.int) := .inr ⟨_, vs.toArray, _, known, rfl, rfl, rfl, by rw [List.size_toArray, len]; exact few, by simpa using vals⟩
    refine callT_at KX hns hb hbb lim gens tab free_ code bmod obj room F bind out H at_ (fun b => ?_) (ask H at_ seq) (fun b u z => ?_) (fun b z => ?_) fun z => (z (off a aT)).elim
    · by_cases y : b = T
      · exact .inr (.inl y)
      · exact .inl (off b y)
    · by_cases y : b = T
      · subst y
        rw [at_] at z
        cases z
        exact tab
      · rw [off b y] at z
        cases z
    · by_cases y : b = T
      · exact .inr y
      · exact absurd (off b y) z
  | none =>
    let H : Hp := fun b => if b = a then some (.frz { cls := .type "list", data := .seq vs.toArray } (.lst (ns.map V.int))) else if b = T then some (.tbl #[]) else none
    have at_ : H a = some (.frz { cls := .type "list", data := .seq vs.toArray } (.lst (ns.map V.int))) := if_pos rfl
    have atT : H T = some (.tbl #[]) := (if_neg (Ne.symm aT)).trans (if_pos rfl)
    have off : ∀ b, b ≠ a → b ≠ T → H b = none := fun b n1 n2 => (if_neg n1).trans (if_neg n2)
    have seq : SqL K H a (ns.map V.int) := .inl (.inr ⟨_, at_⟩)
    refine callT_at KX hns hb hbb lim gens tab free_ code bmod obj room F bind out H atT (fun b => ?_) (ask H atT seq) (fun b u z => ?_) (fun b z => ?_) fun _ => known
    · by_cases y : b = a
      · exact .inr (.inr ⟨_, _, y ▸ at_⟩)
      · by_cases y2 : b = T
        · exact .inr (.inl y2)
        · exact .inl (off b y y2)
    · by_cases y : b = a
      · subst y
        rw [at_] at z
        cases z
        exact ⟨obj, by rw [List.length_map]; exact few, vs, _, vals, obj⟩
      · by_cases y2 : b = T
        · subst y2
          rw [atT] at z
          cases z
          exact tab
        · rw [off b y y2] at z
          cases z
    · by_cases y : b = a
      · exact .inl y
      · by_cases y2 : b = T
        · exact .inr y2
        · exact absurd (off b y y2) z
end
/-- the head of such a law -/
theorem walkT {l : PySem.W.OpenLaw} {n k : Nat} {q : Program} {loose : List Str} {XP : (Str → Option Value) → Heap → Prop} {YP : World → Heap → Prop} {d : DefRec} {K : Params → PySem.W.Frag} {CX : World → CXT} {x : Str}
    (most : l.most = some n) (line : n ≤ sizeLine) (plain : d.params.defaults = []) (room : Room k callerA) (keep : ∀ (w : World) (h : Heap), YP w h → (K w.params).In h)
    (F : ∀ (w : World) (mg : Str → Option Value) (fa : Addr) (h : Heap), YP w h → (K w.params).In h → h.Ns mainGlobals mg → mg d.name = some (.ref fa) →
      ∃ (fd : FuncData) (c T : Addr) (sp : Sp), h.get? T = some { cls := .none, data := .fields #[] } ∧ (K w.params).lookup T = none ∧ PySem.W.CodeHd h c T ∧ (∀ (s : Shared) (u : Value), BindsTo s fd ⟨[u], []⟩ [(x, u)]) ∧
        (∀ (H : Hp) (a : Addr) (ns : List Int), ns.length ≤ n → H T = some (.tbl #[]) → SqL (K w.params) H a (ns.map V.int) → sp [.ref a] H (fun v _ => v = .bl true) fun _ _ _ => False) ∧
        ∀ base : Heap, (K w.params).In base → base.Ns mainGlobals mg → TabB base mg c T → FnG l.prog w (K w.params) mg base (CX w) k fa fd [x] sp)
    (out : ∀ (w : World) (H : Hp) (s : Shared) (e : Value) (s' : Shared), CX w [] H s (fun _ _ _ => False) e s' → False) : PySem.W.WalkO q loose XP YP l.row.toRowW d [] (fun f vs => PySem.call f vs) := by
  apply Att.attach_call most plain
  intro w s0 s1 mg mb fa o pm cd doc a vs ns G Y ho hd hcd hmg hobj hints hlen hg
  obtain ⟨fd, c, T, sp, t1, t2, t3, bnd, ask, hF⟩ := F w mg fa _ Y (keep w _ Y) G.T.g hmg
  exact callT (keep w _ Y) G.T.g G.T.b G.T.builtins G.T.nolimit hg t1 t2 t3 G.T.bmain hobj hints (Nat.le_trans hlen line) room hF bnd (fun H h1 h2 => ask H a ns hlen h1 h2) fun H e s' => out w H s1 e s'
end DL
set_option Elab.async false
set_option linter.all false
set_option maxRecDepth 100000
set_option maxHeartbeats 4000000
/-! calls by names alone, the last parameter first -/
namespace DL
open PySem PySem.Spec PyProof.Rows L2 Evl
def gR (_ : List Value) (ws : List Value) : List Value := ws.reverse
def gRV (_ : List V) (zs : List V) : List V := zs.reverse
theorem vals_rev : ∀ {zs : List V} {ws : List Value}, Vals zs ws → Vals zs.reverse ws.reverse
  | _, _, .nil => .nil
  | _, _, .cons a t => by
    rw [List.reverse_cons, List.reverse_cons]
    exact Vals.append (vals_rev t) (.cons a .nil)
/-- the parameters bound by their names, in any order -/
def KwR (K : PySem.W.Frag) (fd : FuncData) (ps : List Str) : Prop := ∀ (s : Shared) (ws : List Value), K.In s.heap → ws.length = ps.length → BindsTo s fd ⟨[], ps.reverse.zip ws⟩ (ps.zip ws.reverse)
theorem kbn_rev {K : PySem.W.Frag} {fd : FuncData} {ps : List Str} (h : KwR K fd ps) : KBn K fd ps 0 ps.reverse gR gRV where
  to := fun s us ws k l1 l2 => by
    obtain rfl := List.eq_nil_of_length_eq_zero l1
    exact h s ws k (by rw [l2, List.length_reverse])
  rel := fun _ r => vals_rev r
/-- f(b = y, a = x) -/
def tCallR (n : Nat) (sp : Sp) (E : XK) (tk : TA) : TE := fun σ H Q => tk σ H fun zs H2 => zs.length = n ∧ sp zs.reverse H2 Q E
theorem pe_kw {X : Cx} {CX : CXT} {k : Nat} {f : Addr} {fd : FuncData} {ps : List Str} {sp : Sp} {E : XK} {x : Str} {p pos : Pos} {kws : List Keyword} {tk : TA} (F : FnOk X.prog X.w X.K X.mg X.base CX k f fd ps sp) (hr : Room k X.A) (hg : Gl X x) (hm : X.mg x = some (.ref f)) (hk : PySem.W.keepIn X.K (.ref f) = true)
    (hb : KwR X.K fd ps) (hx : Passes CX X E) (hkw : PK X kws tk) (hall : (backToKw pos (keywordEach kws X.env)).all (·.1.isSome) = true := by rfl) (hks : (backToKw pos (keywordEach kws X.env)).filterMap (·.1) = ps.reverse := by rfl) (hdb : (x == ("__debug__" : Str)) = false := by decide)
    (hpl : ((backTo pos (starEach [] X.env)).any (·.1) || (backToKw pos (keywordEach kws X.env)).any (·.1.isNone)) = false := by rfl) :
    PE X (.Call (.Name x p) [] kws pos) (tCallR ps.length sp E tk) := by
  constructor
  intro pins s σ H Q I h
  apply wpAny_Call_Name_kw
  refine ld_glob I hg hm ?_ hdb
  refine PySem.W.callWith_KW0 (h₀ := X.base) I.ok.mod.kin hk hall (thn (hkw.run pos pins s σ H _ I h) fun ws s2 z => ?_) hpl
  obtain ⟨zs, H2, I2, rz, l2, q2⟩ := z
  refine ⟨I2.kIn, ?_⟩
  rw [hks]
  exact run_fnN (us := []) (vs := []) F hr (kbn_rev hb) hx I2 .nil rz rfl (by rw [l2, List.length_reverse]) q2
/-- defs that are called by names -/
structure DFK (P : Program) (w : World) (K : PySem.W.Frag) (mg : Str → Option Value) (base : Heap) (CX : CXT) (nm : Str) (k : Nat) (ps : List Str) (sp : Sp) : Prop where
  ex : ∃ (f : Addr) (fd : FuncData), FnOk P w K mg base CX k f fd ps sp ∧ mg nm = some (.ref f) ∧ PySem.W.keepIn K (.ref f) = true ∧ KwR K fd ps
theorem pe_DK {X : Cx} {nm : Str} {k : Nat} {ps : List Str} {sp : Sp} {E : XK} {W : WX} {p pos : Pos} {kws : List Keyword} {tk : TA} (F : DFK X.prog X.w X.K X.mg X.base (L2.CX X.prog X.w) nm k ps sp) (tk_ : Takes X W) (hW : ∀ cls d σ H, E cls d H → W cls d σ H) (hr : Room k X.A) (hg : Gl X nm) (hkw : PK X kws tk)
    (hall : (backToKw pos (keywordEach kws X.env)).all (·.1.isSome) = true := by rfl) (hks : (backToKw pos (keywordEach kws X.env)).filterMap (·.1) = ps.reverse := by rfl) (hdb : (nm == ("__debug__" : Str)) = false := by decide)
    (hpl : ((backTo pos (starEach [] X.env)).any (·.1) || (backToKw pos (keywordEach kws X.env)).any (·.1.isNone)) = false := by rfl) :
    PE X (.Call (.Name nm p) [] kws pos) (tCallR ps.length sp E tk) := by
  obtain ⟨f, fd, h1, h2, h3, h4⟩ := F.ex
  exact pe_kw h1 hr hg h2 h3 h4 (passes_call tk_ hW) hkw hall hks hdb hpl
end DL
set_option Elab.async false
set_option linter.all false
set_option maxRecDepth 100000
set_option maxHeartbeats 4000000
/-! dicts with tuple keys: emptied, read as data, shown -/
namespace DL
open PySem PySem.Spec PyProof.Rows L2 Evl
section
variable {X : Cx} {pins : List (Addr × Obj)} {σ : L2.St} {H : Hp} {s : Shared}
def rClearT : V → List V → Hp → VK → Prop := fun x vs H Q => ∃ (a : Addr) (kvs : List (List Key × V)), x = .ref a ∧ vs = [] ∧ H a = some (.dT kvs) ∧ Q .non (upd H a (.dT []))
theorem mt_clearT : MtR X "dict.clear" rClearT := by
  intro pins s σ H x vs v us Q I rx rv h
  obtain ⟨a, kvs, rfl, rfl, e, q⟩ := h
  obtain rfl : v = Value.ref a := rx
  obtain rfl := rv.zero
  obtain ⟨z, hd, xs, rel, o, es, ep, ho, ex, hdat, hl, _, nd⟩ := dt_of I.hok e
  have sz : es.size ≤ sizeLine := by
    have l1 : es.toList.length = xs.length := by rw [hl, List.length_map]
    have l2 := Paired.length rel
    rw [Array.length_toList] at l1
    omega
  refine call_meetsIn PySem.F.slot_dict_clear (s := s) ⟨o, ho, ex.1⟩ PySem.F.entry_dict_clear (PySem.F.args_dict_clear_1 _) (meets_dict_clear_raw a) ⟨es, ep, ⟨o, ho, ex, hdat⟩, sz, fun h' raw same => ?_⟩
  obtain ⟨o2, ho2, ex2, hdat2⟩ := raw
  exact ⟨.non, upd H a (.dT []), d_write (ob := .dT []) I (by rw [e]; exact True.intro) same ⟨o2, ho2⟩ ⟨Nat.zero_le _, hd, [], .nil, o2, #[], ep + 1, ho2, ex2, hdat2, rfl, List.nodup_nil⟩, rfl, q⟩
/-- a dict with tuples of ints for keys and ints for values, as data -/
abbrev KI := List (List Int × Int)
def kvI (m : KI) : List (List Key × V) := m.map fun p => (p.1.map Sum.inl, .int p.2)
def dDict (m : KI) : PyData := .dict (m.map fun p => (tI p.1, PyData.int p.2))
theorem reads_ints {h : Heap} : ∀ {ns : List Int} {us : List Value}, Vals (ns.map V.int) us → ReadsAll h us (dI ns) []
  | [], _, .nil => .nil
  | n :: ns, _, .cons a t => by
    obtain ⟨t0, rfl⟩ := a
    exact ReadsAll.cons (as := []) (.int n t0) (reads_ints t)
theorem reads_tI (I : Inv X pins σ H s) {b : Addr} {ns : List Int} (e : H b = some (.tup (ns.map V.int))) : Reads s.heap (.ref b) (tI ns) [] := by
  obtain ⟨its, r, ⟨⟨cls, dd, data, sl⟩, ho, hc, n, hd⟩, _⟩ := I.tuple (st_of (K := X.K) e)
  simp only at hc hd
  subst hc hd
  exact Reads.tuple ho rfl rfl (by simpa using reads_ints r)
theorem reads_dT (I : Inv X pins σ H s) {a : Addr} {m : KI} (e : H a = some (.dT (kvI m))) : ∃ as, Reads s.heap (.ref a) (dDict m) as ∧ sysModules ∉ as := by
  obtain ⟨z, hd, xs, rel, o, es, ep, ho, ex, hdat, hl, _, nd⟩ := dt_of I.hok e
  have keys : ∀ {m : KI} {xs : List (List Key × Addr × Value)}, KT H (kvI m) xs → ReadsAll s.heap (xs.map fun x => Value.ref x.2.1) (m.map fun p => tI p.1) [] ∧ ReadsAll s.heap (xs.map fun x => x.2.2) (m.map fun p => PyData.int p.2) [] := by
    intro m
    induction m with
    | nil =>
      intro xs h
      cases h
      exact ⟨.nil, .nil⟩
    | cons p m ih =>
      intro xs h
      cases h with
      | @cons _ x _ xs a t =>
        obtain ⟨r1, r2⟩ := ih t
        obtain ⟨_, a2, a3⟩ := a
        have a2 : H x.2.1 = some (.tup (p.1.map V.int)) := by
          have e0 : ((p.1.map (Sum.inl : Int → Key)).map kV) = p.1.map V.int := by rw [List.map_map]; rfl
          rw [← e0]
          exact a2
        obtain ⟨t0, a3⟩ := (show ∃ t, x.2.2 = Value.int p.2 t from a3)
        refine ⟨ReadsAll.cons (as := []) (reads_tI I a2) r1, ?_⟩
        rw [List.map_cons, a3]
        exact ReadsAll.cons (as := []) (.int p.2 t0) r2
  obtain ⟨r1, r2⟩ := keys rel
  refine ⟨[a] ++ [], Reads.dict (as := []) (bs := []) ho ex.1 hdat ?_ ?_, ?_⟩
  · rw [hl, List.map_map, List.map_map]
    exact r1
  · rw [hl, List.map_map, List.map_map]
    exact r2
  · intro q
    have : sysModules = a := by simpa using q
    rw [← this] at hd
    simp at hd
end
end DL
set_option Elab.async false
set_option linter.all false
set_option maxRecDepth 100000
set_option maxHeartbeats 4000000
/-! a dict comprehension whose keys are tuples -/
namespace DL
open PySem PySem.Spec PyProof.Rows L2 Evl
section
variable {X : Cx} {pins : List (Addr × Obj)} {σ : L2.St} {H : Hp} {s : Shared}
/-- the new dict takes one more pair -/
theorem dT_put {E : Value → Shared → Prop} {D b : Addr} {kvs : List (List Key × V)} {k : List Key} {v : V} {r : Value} {Q : Unit → Shared → Prop} (hu : X.A.units + 1 < cLine) (I : Inv X pins σ H s) (hD : H D = some (.dT kvs)) (hb : H b = some (.tup (k.map kV)))
    (sz : kvs.length < sizeLine) (rv : RelV v r) (q : ∀ s', Inv X pins σ (upd H D (.dT (putK kvs k v))) s' → Q () s') : wpAny (model X.prog X.w) X.A (dictSet D (.ref b) r) Q E s := by
  obtain ⟨z, hd, xs, rel, dd⟩ := dt_of I.hok hD
  have lx : xs.length ≤ sizeLine := Paired.length rel ▸ z
  have room : (tupleKind (mixKind X.prog X.w)).room X.A := by
    show X.A.units < cLine
    omega
  refine wpAny_dictSet_heap (hsz := lx) room (key_of I.hok hb) dd fun h' now but => q _ ?_
  obtain ⟨o, es, ep, ho, ex, hdat, hl, _, nd⟩ := now
  refine d_write I (by rw [hD]; exact True.intro) but ⟨o, ho⟩ ⟨Nat.le_trans (length_putK kvs k v) sz, hd, _, (rel.put k hb rv).keeps fun c ys ec => ?_, o, es, ep, ho, ex, hdat, hl, nd⟩
  rw [upd_ne (ne_of ec hD fun y => nomatch y)]
  exact ec
/-- {k: v for ..}: every key a tuple that is known -/
def tDcT (wi : TI) (g : TG) (tt : TT) (tk tv : TE) (vs : List Nat) : TE := fun σ H Q => wi σ H fun J Ha => ∀ D, Ha D = none → ∃ (W : Nat → Hp → Prop) (n : Nat), W 0 (upd Ha D (.dT [])) ∧ ∀ i H, W i H →
  (J.stop i H ∧ Q (.ref D) H) ∨ (i < n ∧ J.go i H ∧ ∀ x Hx, J.yld i H x Hx → g x (wipe σ vs) Hx fun σ2 H2 => wipe σ2 vs = wipe σ vs ∧ tt σ2 H2 fun yes H3 =>
    if yes = true then tk σ2 H3 fun y H4 => tv σ2 H4 fun z H5 => ∃ (kvs : List (List Key × V)) (k : List Key) (b : Addr), y = .ref b ∧ H5 b = some (.tup (k.map kV)) ∧ H5 D = some (.dT kvs) ∧ kvs.length < sizeLine ∧ W (i + 1) (upd H5 D (.dT (putK kvs k z))) else W (i + 1) H3)
theorem pe_dcT {kx vx tg iter : Expr} {ifs : List Expr} {sc : Scope} {own : List (Str × Nat)} {pos : Pos} {wi : TI} {g : TG} {tt : TT} {tk tv : TE} (calm : X.calm = true) (nd : X.N.Nodup) (hu : X.A.units + 1 < cLine) (over : PI X tg iter wi) (blk : BlkOk X.N X.env.scope sc own)
    (pgG : ∀ (s : Shared) (H : Hp) (C : Addr) (cl : List (Str × Addr)) (fp : List Addr), PG (X.blk s H sc (compEnvC sc cl C X.env) fp) tg g)
    (ptG : ∀ (s : Shared) (H : Hp) (C : Addr) (cl : List (Str × Addr)) (fp : List Addr), PTs (X.blk s H sc (compEnvC sc cl C X.env) fp) ifs tt)
    (pkG : ∀ (s : Shared) (H : Hp) (C : Addr) (cl : List (Str × Addr)) (fp : List Addr), PE (X.blk s H sc (compEnvC sc cl C X.env) fp) kx tk)
    (pvG : ∀ (s : Shared) (H : Hp) (C : Addr) (cl : List (Str × Addr)) (fp : List Addr), PE (X.blk s H sc (compEnvC sc cl C X.env) fp) vx tv)
    (plain : ∀ x, foldedSetIterable iter X.env x = pure x := by intro _; rfl) : PE X (.DictComp kx vx [⟨tg, iter, ifs, 0⟩] sc pos) (tDcT wi g tt tk tv (own.map (·.2))) := by
  constructor
  intro pins s σ H Q I ask
  rw [arm_eval_DictComp]
  have fr : ∀ y ∈ sc.names, y.2 = .free → ∃ c, X.env.cells.lookup y.1 = some c := fun y m e => (blk.free y m e).elim (fun k => I.ok.has _ (.inl k)) fun k => I.ok.has _ (.inr k)
  refine wpAny_comprehension_free (use := none) rfl plain (closure_ok fr) blk.kind (fun y m e => by rw [blk.uniq y m, e]) ?_
  refine thn (over.run pins s σ H _ I ask) fun xv sA gotIter => thn gotIter fun itv sB gotIt => ?_
  obtain ⟨it, fp, tn, J, Ha, rfl, IB, T, stB, fB, next⟩ := gotIt
  refine wpAny_newObj_type (newEnv_comp ?_)
  obtain ⟨D, eD⟩ : ∃ D, D = sB.heap.objs.size := ⟨_, rfl⟩
  rw [← eD]
  have freshD : Ha D = none := IB.hok.fresh (Nat.le_of_eq eD.symm)
  obtain ⟨W, lim, w0, turn⟩ := next D freshD
  obtain ⟨sC, eC⟩ : ∃ sC : Shared, sC = { sB with heap := sB.heap.push { cls := .type "dict", data := .dict #[] } } := ⟨_, rfl⟩
  rw [← eC]
  have heapC : sC.heap = sB.heap.push { cls := .type "dict", data := .dict #[] } := by rw [eC]
  have IC : Inv X pins σ (upd Ha D (.dT [])) sC := by
    rw [eC, eD]
    exact IB.laid (t' := sB.toks) (fun b o e => Heap.get?_push_of_some _ e) (Nat.le_refl _) (dt_empty sB.heap IB.big)
  have small : ∀ b ∈ fp, b < sB.heap.objs.size := fun b m => by
    obtain ⟨o, e, _⟩ := T.obj _ _ stB b m
    exact Heap.lt_size e
  have fC : ∀ b ∈ fp, FpOk X pins (upd Ha D (.dT [])) b ∧ b < sC.heap.objs.size := fun b m => by
    have lt := small b m
    refine ⟨⟨?_, (fB b m).2⟩, ?_⟩
    · rw [upd_ne (eD ▸ Nat.ne_of_lt lt)]
      exact (fB b m).1
    · rw [heapC, Heap.size_push]
      exact Nat.lt_succ_of_lt lt
  have stC : tn 0 sC.heap := T.keep _ _ _ stB fun b _ o e => heapC ▸ Heap.get?_push_of_some _ e
  obtain ⟨Hc, eHc⟩ : ∃ Hc, Hc = upd Ha D (.dT []) := ⟨_, rfl⟩
  rw [← eHc] at IC fC w0
  obtain ⟨clo, eclo⟩ : ∃ clo, clo = cellsFrom (sC.heap.objs.size + 1) sc.names (cloFrom X.env.cells sc.names []) := ⟨_, rfl⟩
  obtain ⟨ce, ece⟩ : ∃ ce, ce = compEnvC sc clo sC.heap.objs.size X.env := ⟨_, rfl⟩
  have gP := pgG sC Hc sC.heap.objs.size clo fp
  have tP := ptG sC Hc sC.heap.objs.size clo fp
  have kP := pkG sC Hc sC.heap.objs.size clo fp
  have vP := pvG sC Hc sC.heap.objs.size clo fp
  have IE := block_start IC blk nd fC
  rw [← eclo, ← ece] at IE
  rw [← ece] at gP tP kP vP
  have locE : ce.locals = sC.heap.objs.size := by rw [ece]; rfl
  obtain ⟨sE, eE⟩ : ∃ sE : Shared, sE = { sC with heap := pushCells (sC.heap.push { cls := .type "dict", data := .dict #[] }) sc.names } := ⟨_, rfl⟩
  rw [← eE] at IE
  have stE : tn 0 sE.heap := T.keep _ _ _ stC fun b _ o e => eE ▸ pushCells_keeps _ _ _ _ (Heap.get?_push_of_some _ e)
  have here : ∀ {σ' : L2.St} {H' : Hp} {s' : Shared}, Inv (X.blk sC Hc sc ce fp) [] σ' H' s' → (∀ b ∈ fp, H' b = none) → ∀ b ∈ fp, FpOk (X.blk sC Hc sc ce fp) [] H' b := fun {_ _ _} I' free b m =>
    ⟨free b m, (I'.ok.exf b m).1, I'.ok.exfs b m, .inl m, fun x c e => (I'.ok.exf b m).2 x c e, fun p q => (List.not_mem_nil (show p ∈ ([] : List (Addr × Obj)) from q)).elim⟩
  let Wd : Nat → Shared → Prop := fun n s' => ∃ i H', n = lim - i ∧ Inv (X.blk sC Hc sc ce fp) [] (wipe σ (own.map (·.2))) H' s' ∧ tn i s'.heap ∧ (∀ b ∈ fp, H' b = none) ∧ W i H'
  subst ece eclo
  have loop : codeAny (model X.prog X.w) X.A (.compLoop (.DictComp kx vx [⟨tg, iter, ifs, 0⟩] sc pos) 0 (.ref it) (.ref D) (compEnvC sc (cellsFrom (sC.heap.objs.size + 1) sc.names (cloFrom X.env.cells sc.names [])) sC.heap.objs.size X.env)) (compPost (model X.prog X.w) X.A X.xe none (fun v s' => ∃ x H', Inv X pins σ H' s' ∧ RelV x v ∧ Q x H') (.ref D) sC.heap.objs.size) sE := by
    refine compLoop_anyD Wd ?_ (lim - 0) ⟨0, Hc, rfl, IE, stE, fun b m => (fC b m).1.1, w0⟩
    rintro n s5 ⟨i, H5, rfl, I5, st5, n5, w5⟩
    rcases turn i H5 w5 with ⟨stop, done⟩ | ⟨lt, go, step⟩
    · refine thnF (T.done (X.blk sC Hc sc _ fp) rfl rfl rfl calm i [] s5 _ H5 (fun _ _ => False) I5 (here I5 n5) st5 stop) fun r s6 z => ?_
      obtain ⟨rfl, I6⟩ := z
      have I7 : Inv X pins σ H5 s6 := IC.call' (ch := fp) I6.os I6.base I6.hok I6.bare fun b m => ⟨(fC b m).1.2.2.2.1, (fC b m).1.2.1, (fC b m).1.2.2.2.2.1, (fC b m).1.2.2.2.2.2⟩
      have noC : H5 sC.heap.objs.size = none := I6.free
      obtain ⟨m, ns, _⟩ := I6.loc
      obtain ⟨f0, f1, f2, f3, f4, f5⟩ := IC.fpOk (Nat.le_refl _) noC
      refine ⟨m, ns, fun h9 sb => ?_⟩
      exact ⟨.ref D, H5, I7.turned (t' := s6.toks) (fun b o hb e => (sb.2 b hb).trans e) noC f1 f3 f4 f5, rfl, done⟩
    · refine thnF (T.item (X.blk sC Hc sc _ fp) rfl rfl rfl calm i [] s5 _ H5 (fun _ _ => False) I5 (here I5 n5) st5 go) fun r s6 z => ?_
      obtain ⟨u, rfl, z6⟩ := z
      refine thnF z6 fun _ s7 z7 => ?_
      obtain ⟨x, H7, I7, r7, y7, st7, n7⟩ := z7
      refine thnF (gP.run _ s7 _ H7 x u _ (I7.pinned (here I7 n7) (T.obj _ _ st7)) r7 (step x H7 y7)) fun _ s8 z8 => ?_
      obtain ⟨σ8, H8, I8, w8, q8⟩ := z8
      refine thnF (tP.run _ s8 σ8 H8 _ I8 q8) fun yes s9 z9 => ?_
      obtain ⟨H9, I9, q9⟩ := z9
      have again : ∀ {s' : Shared} {H' : Hp}, Inv (X.blk sC Hc sc (compEnvC sc (cellsFrom (sC.heap.objs.size + 1) sc.names (cloFrom X.env.cells sc.names [])) sC.heap.objs.size X.env) fp) ([] ++ pinsAt fp s7.heap) σ8 H' s' → W (i + 1) H' → ∃ m, m < lim - i ∧ Wd m s' := fun {s' H'} I' nx => by
        have pinned : ∀ b ∈ fp, ∀ o, s7.heap.get? b = some o → s'.heap.get? b = some o ∧ H' b = none := fun b m o e => by
          obtain ⟨z1, z2, _⟩ := I'.pin (b, o) (List.mem_append_right _ (List.mem_append_right _ (mem_pinsAt m e)))
          exact ⟨z1, z2⟩
        have same : (wipe σ (own.map (·.2))).length = σ8.length := (congrArg List.length w8).symm.trans (wipe_length _ _)
        refine ⟨lim - (i + 1), by omega, i + 1, H', rfl, (I'.unpinned (pins := [])).weak same (fun j v e => (wipe_some (w8 ▸ e)).1), T.keep _ _ _ st7 fun b m o e => (pinned b m o e).1, fun b m => ?_, nx⟩
        obtain ⟨o, e, _⟩ := T.obj _ _ st7 b m
        exact (pinned b m o e).2
      cases yes with
      | false => exact again I9 q9
      | true =>
        refine thnF (kP.run _ s9 σ8 H9 _ I9 q9) fun kv s10 z10 => ?_
        obtain ⟨y, H10, I10, r10, q10⟩ := z10
        refine thnF (vP.run _ s10 σ8 H10 _ I10 q10) fun vv s11 z11 => ?_
        obtain ⟨v, H11, I11, r11, kvs, k, b, rfl, hb, hD, sz, nx⟩ := z11
        obtain rfl : kv = Value.ref b := r10
        exact dT_put (X := X.blk sC Hc sc _ fp) hu I11 hD hb sz r11 fun s12 I12 => again I12 nx
  rw [← eE]
  exact codeAny_compStart_dict loop (T.self X.A 0 _ _ _ stE loop)
end
end DL
set_option Elab.async false
set_option linter.all false
set_option maxRecDepth 100000
set_option maxHeartbeats 4000000
/-! list(d.values()) of a dict with tuple keys; repr of such dicts, alone and in lists -/
namespace DL
open PySem PySem.Spec PyProof.Rows L2 Evl
section
variable {X : Cx} {pins : List (Addr × Obj)} {σ : L2.St} {H : Hp} {s : Shared}
def rValsT : V → List V → Hp → VK → Prop := fun x vs H Q => ∃ (a : Addr) (kvs : List (List Key × V)), x = .ref a ∧ vs = [] ∧ H a = some (.dT kvs) ∧ ∀ p, H p = none → Q (.ref p) (upd H p (viewO "dict_values" p a))
theorem mt_valsT : MtR X "dict.values" rValsT := by
  intro pins s σ H x vs v us Q I rx rv h
  obtain ⟨a, kvs, rfl, rfl, e, q⟩ := h
  obtain rfl : v = Value.ref a := rx
  obtain rfl := rv.zero
  obtain ⟨z, hd, xs, rel, o, es, ep, ho, ex, hdat, hl, _, nd⟩ := dt_of I.hok e
  refine call_meetsIn PySem.F.slot_dict_values (s := s) ⟨o, ho, ex.1⟩ PySem.F.entry_dict_values (PySem.F.args_dict_values_1 _) (meets_dict_values_raw a hd) ⟨⟨es, ep, o, ho, ex, hdat⟩, ?_⟩
  exact ⟨.ref s.heap.objs.size, _, I.laid (t' := s.toks) (fun b o q => Heap.get?_push_of_some _ q) (Nat.le_refl _) (viewO_ok (Heap.get?_push_size _ rfl)), rfl, q _ (I.hok.fresh (Nat.le_refl _))⟩
/-- list(view), the values whole numbers -/
def rListVT : List V → Hp → VK → Prop := fun xs H Q => ∃ (p a : Addr) (kvs : List (List Key × V)), xs = [.ref p] ∧ H p = some (viewO "dict_values" p a) ∧ H a = some (.dT kvs) ∧ ∀ r, H r = none → Q (.ref r) (upd H r (.lst (kvs.map Prod.snd)))
theorem call_listVT (calm : X.calm = true) : CallR X (.type "list") rListVT := by
  intro pins s σ H xs us Q I r h
  obtain ⟨p, a, kvs, rfl, hp, ha, q⟩ := h
  obtain rfl := Vals.ref1 r
  have hv : s.heap.get? p = some (DSub.viewOb "dict_values" a) := (show ObjOk X.prog X.w H s.heap p (viewO "dict_values" p a) from I.hok p _ hp).1
  obtain ⟨z, hd, ks, rel, o, es, ep, ho, ex, hdat, hl, _, nd⟩ := dt_of I.hok ha
  have l1 : es.size = ks.length := size_of_entries hl
  have l2 : kvs.length = ks.length := Paired.length rel
  refine PySem.W.kdl_call PySem.KdlSrc.rawValues (I.ok.hd calm) ⟨⟨_, hv, rfl, rfl⟩, o, ho, ex, hdat⟩ (by omega) fun h' tk acc c' keep e it => ?_
  have same : acc.toList = ks.map fun x => x.2.2 := by
    have n1 : acc.toList.length = ks.length := by rw [Array.length_toList, it.1]; exact l1
    refine List.ext_getElem? fun j => ?_
    rw [List.getElem?_map]
    rcases Nat.lt_or_ge j ks.length with lt | ge
    · have lt2 : j < acc.toList.length := by omega
      obtain ⟨hi, eu⟩ := it.2 j acc.toList[j] (by rw [← Array.getElem?_toList]; exact List.getElem?_eq_getElem lt2)
      have at_ : es.toList[j]? = some es[j] := by rw [Array.getElem?_toList, Array.getElem?_eq_getElem hi]
      rw [hl, List.getElem?_map, List.getElem?_eq_getElem lt] at at_
      rw [List.getElem?_eq_getElem lt2, List.getElem?_eq_getElem lt, eu, ← Option.some.inj at_]
      rfl
    · rw [List.getElem?_eq_none ge, List.getElem?_eq_none (by omega)]
      rfl
  have both : ∀ {l : List (List Key × V)} {m : List (List Key × Addr × Value)}, KT H l m → Vals (l.map Prod.snd) (m.map fun x => x.2.2) := by
    intro l m r
    induction r with
    | nil => exact .nil
    | cons g t ih => exact .cons g.2.2 ih
  have vals : Vals (kvs.map Prod.snd) acc.toList := same ▸ both rel
  exact ⟨.ref s.heap.objs.size, _, I.laid (t' := tk) (o := .lst (kvs.map Prod.snd)) keep (Nat.le_refl _) ⟨by rw [List.length_map]; exact z, acc.toList, c', vals, by rw [Array.toArray_toList]; exact e⟩, rfl, q _ (I.hok.fresh (Nat.le_refl _))⟩
/-- repr(d) -/
def rReprT : List V → Hp → VK → Prop := fun xs H Q => ∃ (a : Addr) (m : KI), xs = [.ref a] ∧ H a = some (.dT (kvI m)) ∧ (dDict m).showable = true ∧ (dDict m).depth ≤ 80 ∧ (dDict m).shown.length ≤ sizeLine ∧ Q (.str (dDict m).shown) H
theorem call_reprT (hg : X.A.guards = some []) (hu : X.A.units + 100 < cLine) : CallR X (.builtin "repr") rReprT := by
  intro pins s σ H xs us Q I r h
  obtain ⟨a, m, rfl, ha, hs, hd, sz, q⟩ := h
  obtain rfl := Vals.ref1 r
  obtain ⟨as, rd, nm⟩ := reads_dT I ha
  exact repr_of_reads' rd hs (fun _ => nm) hg (by omega) (fun _ _ e => e) (fun h' u tk k => ⟨.str (dDict m).shown, H, I.kept k, ⟨u, rfl⟩, q⟩) sz
/-- dicts in a row -/
def DTs (H : Hp) : List V → List KI → Prop := Paired fun v m => ∃ a, v = .ref a ∧ H a = some (.dT (kvI m))
theorem reads_dTs (I : Inv X pins σ H s) : ∀ {vs : List V} {ms : List KI} {us : List Value}, DTs H vs ms → Vals vs us → ∃ as, ReadsAll s.heap us (ms.map dDict) as ∧ sysModules ∉ as
  | _, _, _, .nil, .nil => ⟨[], .nil, by simp⟩
  | _, _, _, .cons g t, .cons r rs => by
    obtain ⟨a, rfl, ha⟩ := g
    obtain rfl := r
    obtain ⟨a1, r1, n1⟩ := reads_dT I ha
    obtain ⟨a2, r2, n2⟩ := reads_dTs I t rs
    exact ⟨a1 ++ a2, .cons r1 r2, fun z => (List.mem_append.mp z).elim n1 n2⟩
def dRow (ms : List KI) : PyData := .list (ms.map dDict)
/-- repr([d, ..]) -/
def rReprLT : List V → Hp → VK → Prop := fun xs H Q => ∃ (p : Addr) (vs : List V) (ms : List KI), xs = [.ref p] ∧ H p = some (.lst vs) ∧ DTs H vs ms ∧ ms ≠ [] ∧ (dRow ms).showable = true ∧ (dRow ms).depth ≤ 80 ∧ (dRow ms).shown.length ≤ sizeLine ∧ Q (.str (dRow ms).shown) H
theorem call_reprLT (hg : X.A.guards = some []) (hu : X.A.units + 100 < cLine) : CallR X (.builtin "repr") rReprLT := by
  intro pins s σ H xs us Q I r h
  obtain ⟨p, vs, ms, rfl, hp, hv, ne, hs, hd, sz, q⟩ := h
  obtain rfl := Vals.ref1 r
  obtain ⟨_, us, n, rv, ho⟩ := (show ObjOk X.prog X.w H s.heap p (.lst vs) from I.hok p _ hp)
  obtain ⟨as, rd, nm⟩ := reads_dTs I hv rv
  have sz' : (listText (PyData.shownAll (ms.map dDict))).length ≤ sizeLine := by simpa only [dRow, PyData.shown] using sz
  obtain ⟨bs, below, shows⟩ := ReprAllK.of_readsAll (prog := X.prog) (w := X.w) rd (by simpa [dRow, PyData.showable] using hs) (fun _ => nm) fun t ht => Nat.le_trans (listText_mem_le ht) sz'
  have apart : p ∉ bs := not_mem_of_deeper (.list ho rfl rfl (by simpa using rd)) (by simp only [PyData.depth]; omega) below
  have typed : s.TypeIs (.ref p) "list" := ⟨_, ho, rfl⟩
  have deep : (dRow ms).depth = PyData.depthAll (ms.map dDict) + 1 := by simp only [dRow, PyData.depth]
  refine call_repr_slot (by omega) typed F.slot_list_repr.toG ?_
  cases us with
  | nil =>
    cases rv
    cases hv
    exact absurd rfl ne
  | cons u us =>
    refine call_list_reprK ho rfl rfl apart (by simpa using shows.length_eq) (fun i y e => shows.item i y (by simpa using e)) (show X.A.in1.guards = some [] from hg) (fun b _ => Clear.nil b) (by show X.A.units + 1 + (PyData.depthAll (ms.map dDict) + 1) < cLine; omega) (fun _ _ e => e) (fun h' u' tk k => ⟨listText (PyData.shownAll (ms.map dDict)), u', rfl, .str (dRow ms).shown, H, I.kept k, ⟨u', by simp only [dRow, PyData.shown]⟩, q⟩) sz'
end
end DL
set_option Elab.async false
set_option linter.all false
set_option maxRecDepth 100000
set_option maxHeartbeats 4000000
/-! what a law with lambdas wants besides -/
namespace DL
open PySem PySem.Spec PyProof.Rows L2 Evl LamX
theorem hu100 {A : Around} {k : Nat} (hr : Room k A) : A.units + 100 < cLine := by
  have := hr.un
  omega
/-- all parameters by their names, in any order that the text takes -/
theorem Fun.kwr {K : PySem.W.Frag} {x qual : Str} {st : Stmt} {f : Addr} {fd : FuncData} {ps : List Str} (F : Fun K x qual st f fd)
    (h : ∀ (kV doc pm : Value) (an : Option Addr) (cdv ct : Value) (ws : List Value), ws.length = ps.length → bindArgs (PySem.W.fnOf x qual (defArgs st) (defBody st) (defScope st) .none kV doc pm an cdv ct) ⟨[], ps.reverse.zip ws⟩ = pure (ps.zip ws.reverse)) : KwR K fd ps := by
  obtain ⟨⟨oc, od, kV, doc, pm, an, cdv, ct, osl, rfl, lk, hcd⟩, _⟩ := F
  exact fun s ws _ hl => BindsTo.of_eq (h kV doc pm an cdv ct ws hl)
/-- an own error's class as a value -/
theorem pe_cls {X : Cx} {x : Str} {C : Addr} {p : Pos} (T : ErC X.K X.mg x C) (hg : Gl X x) (hd : (x == ("__debug__" : Str)) = false := by decide) : PE X (.Name x p) (tC (.ref C)) := pe_glob hg T.gC rfl hd
/-- the def that catches what a lambda raises -/
structure CauF (K : PySem.W.Frag) (mg : Str → Option Value) (nm : Str) (CS : Addr) : Prop where
  ex : ∃ (g : Addr) (oc : Value) (od an : Option Addr) (osl : Array (Option Value)) (sg : Scope) (pg : Arguments) (dV kV doc pm cdv ct : Value) (k0 : Nat) (p1 p2 p3 p4 p5 p6 p7 p8 p9 p10 p11 p12 p13 p14 : Pos), mg nm = some (.ref g) ∧ PySem.W.keepIn K (.ref g) = true ∧
    K.lookup g = some ⟨oc, od, .func (PySem.W.fnOf nm nm pg (caughtB k0 p1 p2 p3 p4 p5 p6 p7 p8 p9 p10 p11 p12 p13 p14) sg dV kV doc pm an cdv ct), osl⟩ ∧ PySem.W.codeIn K cdv nm = true ∧
    L2.Binds K (PySem.W.fnOf nm nm pg (caughtB k0 p1 p2 p3 p4 p5 p6 p7 p8 p9 p10 p11 p12 p13 p14) sg dV kV doc pm an cdv ct) ["_law_work"] [] ∧ FnScope ["_law_work", "_law_caught_here", "error"] ["_law_work"] sg ∧
    sg.names.lookup ("CallError" : Str) = some .globalImplicit ∧ mg "CallError" = some (.ref CS) ∧ sg.names.lookup ("error" : Str) = some .local ∧ sg.names.lookup ("_law_caught_here" : Str) = some .local ∧ sg.names.lookup ("_law_work" : Str) = some .local
theorem pe_caughtD {X : Cx} {x y : Str} {CS : Addr} {k j : Nat} {p py pos : Pos} (F : CauF X.K X.mg x CS) (hg : Gl X x) (hr : Room (k + 2) X.A) (hN : X.N[j]? = some y) (hv : Vis X.env.scope y)
    (hdb : (x == ("__debug__" : Str)) = false := by decide) (hd : (y == ("__debug__" : Str)) = false := by decide) (hcd : (y == ("__classdict__" : Str)) = false := by decide) :
    PE X (.Call (.Name x p) [.Name y py] [] pos) (fun σ H Q => ∃ f c' params body scope tb, σ[j]? = some (some (.ref f)) ∧ H f = some (LamO f c' (X.env.qual ++ "<lambda>") params body scope (cloFrom X.env.cells scope.names [])) ∧ H c' = some (CodeO c' (X.env.qual ++ "<lambda>")) ∧ LamD X k params body scope tb ∧ TTc X.K CS tb σ H Q) := by
  obtain ⟨g, oc, od, an, osl, sg, pg, dV, kV, doc, pm, cdv, ct, k0, p1, p2, p3, p4, p5, p6, p7, p8, p9, p10, p11, p12, p13, p14, h1, h2, h3, h4, h5, h6, h7, h8, h9, h10, h11⟩ := F.ex
  exact pe_caught hg h1 h2 h3 h4 h5 h6 h7 h8 h9 h10 h11 hr hN hv hdb hd hcd
end DL
set_option Elab.async false
set_option linter.all false
set_option maxRecDepth 100000
set_option maxHeartbeats 4000000
/-! comprehensions with a test, over data -/
namespace DL
open PySem PySem.Spec PyProof.Rows L2 Evl
section
variable {K : PySem.W.Frag} {σ : L2.St} {H : Hp} {ta tb te : TE} {ds : List PyData}
theorem eqV_int (a b : Int) : eqV (.int a) (.int b) = decide (a = b) := by
  unfold eqV
  rfl
theorem inV_ints (n : Int) : ∀ l : List Int, inV (.int n) (l.map V.int) = decide (n ∈ l)
  | [] => by simp [inV]
  | x :: l => by
    have ih := inV_ints n l
    unfold inV at ih ⊢
    rw [List.map_cons, List.any_cons, ih, eqV_int]
    by_cases h : x = n
    · subst h; simp
    · simp [h, Ne.symm h]
theorem flat_ints : ∀ l : List Int, (l.map V.int).all flatV = true
  | [] => rfl
  | _ :: l => by
    rw [List.map_cons, List.all_cons, flat_ints l]
    rfl
/-- n in t -/
theorem ev_inT {n : Int} {l : List Int} (ha : Ev ta σ H (.int n)) (hb : EvD K tb σ H (tI l)) : Ev (tOp (rIn K false) ta tb) σ H (.bl (decide (n ∈ l))) := fun H1 e Q q =>
  ha H1 e _ fun H2 e2 => hb H2 (e.trans e2) _ fun v H3 e3 hv => by
    obtain ⟨p, rfl, hp⟩ := dp_tI hv
    refine ⟨p, _, rfl, .inr hp, rfl, flat_ints l, ?_⟩
    rw [inV_ints]
    exact q H3 (e2.trans e3)
/-- zip of a tuple of ints and a list that stands -/
theorem ei_zipTL {S : List Addr} {q : Addr} {vs : List V} {a : List Int} (hS : Ls H S) (ha : EvD K ta σ H (tI a)) (hb : Ev tb σ H (.ref q)) (hq : H q = some (.lst vs)) (hn : q ∉ S) (hd : DpAll K H vs ds) (hi : immAll ds = true) :
    EvI K (iZipM K true false (tCons ta (tCons tb tNil))) σ H S (List.zipWith (fun x y => PyData.tuple [.int x, y]) a ds) := fun H1 e R r =>
  ha H1 e _ fun x H2 e2 hx => hb H2 (e.trans e2) _ fun H3 e3 => by
    obtain ⟨p, rfl, h1⟩ := dp_tI hx
    have h1 := ex_t e3 h1
    have up := (e.trans e2).trans e3
    have h2 := up _ _ hq
    have d2 := dpa_ex up _ _ hd
    refine ⟨p, q, _, _, rfl, sqa_t h1, sqa_l (sq_of h2), r _ H3 (e2.trans e3) ?_⟩
    rw [List.length_zipWith, ← dpa_len hd]
    have w := walk_zipM (K := K) (a := p) (b := q) (t := true) (u := false) (xs := a.map V.int) (ys := vs) (n := min a.length vs.length) (by simp)
    refine w.mono (fun Ha x => ⟨sqT_tx (x.tx (hS.ex up)) h1, sq_of (x q _ h2 hn)⟩) fun i Ha v Hb hlt hg y => ?_
    obtain ⟨T, v1, v2, rfl, hT, rfl, g1, g2⟩ := y
    simp only [List.getElem?_map] at g1
    obtain ⟨n1, m1, rfl⟩ := Option.map_eq_some_iff.mp g1
    have tx : Tx H3 (upd Ha T (.tup [.int n1, v2])) := (hg.tx (hS.ex up)).trans (Tx.of_ex (Ex.new hT))
    obtain ⟨d, q1, q2⟩ := dpa_getV (dpa_tx tx _ _ hi d2) g2
    refine ⟨Ex.new hT, .tuple [.int n1, d], ?_, .tup (st_of upd_same) (.cons (.int _) (.cons q2 .nil))⟩
    rw [List.getElem?_zipWith, m1, q1]
/-- [f for .. if b], over data -/
theorem en_lcB {wi : TI} {g : TG} {tt : TT} {vs : List Nat} (h : EvI K wi σ H [] ds) (hl : ds.length ≤ 50000) (b : Nat → Bool) (f : Nat → Int)
    (hs : ∀ H2 i d x Hb (Q : L2.St → Hp → Prop), Ex H H2 → ds[i]? = some d → Ex H2 Hb → Dp K Hb x d → (∀ σ2 H3, Ex Hb H3 → wipe σ2 vs = wipe σ vs → EvT tt σ2 H3 (b i) → Ev te σ2 H3 (.int (f i)) → Q σ2 H3) → g x (wipe σ vs) Hb Q) :
    EvN K (tLc wi g tt te vs) σ H (dI (((List.range ds.length).filter b).map f)) := fun H1 e Q q => h H1 e _ fun J H2 e2 w => fun Dl hD => by
  refine lc_it w (fun n Ha => Ex H2 Ha ∧ Ha Dl = some (.lst ((((List.range n).filter b).map f).map V.int))) ⟨Ex.new hD, upd_same⟩ (fun n Ha _ p => Xp.of_ex p.1) (fun i x Ha Hb hlt p y => ?_) fun Ha p => ?_
  · obtain ⟨p1, p2⟩ := p
    obtain ⟨ey, d, hd1, hd2⟩ := y
    have few : ((((List.range i).filter b).map f).map V.int).length < sizeLine := by
      rw [List.length_map, List.length_map]
      have := List.length_filter_le b (List.range i)
      rw [List.length_range] at this
      exact sz_lt (by omega)
    refine hs H2 i d x Hb _ (e.trans e2) hd1 (p1.trans ey) hd2 fun σ2 H3 e3 hw ht hv => ⟨hw, ?_⟩
    refine ht H3 (Ex.refl _) _ fun H4 e4 => ?_
    have at4 : H4 Dl = some (.lst _) := e4 _ _ (e3 _ _ (ey _ _ p2))
    cases hb : b i with
    | false =>
      rw [if_neg (by simp)]
      refine ⟨((p1.trans ey).trans e3).trans e4, ?_⟩
      rw [List.range_succ, List.filter_append, List.filter_cons, hb]
      simpa using at4
    | true =>
      rw [if_pos rfl]
      refine hv H4 e4 _ fun H5 e5 => ⟨_, e5 _ _ at4, few, Ex.mut ((((p1.trans ey).trans e3).trans e4).trans e5) hD, ?_⟩
      rw [upd_same, List.range_succ, List.filter_append, List.filter_cons, hb]
      simp
  · obtain ⟨p1, p2⟩ := p
    exact q Dl _ Ha (fresh_back e2 hD) (e2.trans p1) p2 (ints_dpa _)
end
end DL
set_option Elab.async false
set_option linter.all false
set_option maxRecDepth 100000
set_option maxHeartbeats 4000000
/-! a law's def with its own code object told -/
namespace DL
open PySem PySem.Spec PyProof.Rows L2 Evl
structure FunC (K : PySem.W.Frag) (x qual : Str) (st : Stmt) (f : Addr) (fd : FuncData) (c : Addr) : Prop where
  ex : ∃ (oc : Value) (od : Option Addr) (kV doc pm : Value) (an : Option Addr) (ct : Value) (osl : Array (Option Value)),
    fd = PySem.W.fnOf x qual (defArgs st) (defBody st) (defScope st) .none kV doc pm an (.ref c) ct ∧ K.lookup f = some ⟨oc, od, .func fd, osl⟩ ∧ PySem.W.codeIn K (.ref c) qual = true
theorem okC {P : Program} {w : World} {K : PySem.W.Frag} {mg : Str → Option Value} {base : Heap} {CX : CXT} {x qual : Str} {st : Stmt} {f c : Addr} {fd : FuncData} {N ps : List Str} {k : Nat} {sp : Sp} (F : FunC K x qual st f fd c) (S : FnScope N ps (defScope st)) (len : ∀ vs H Q E, sp vs H Q E → vs.length = ps.length)
    (body : ∀ (A : Around) (outer : List Env) (s : Shared) (H : Hp) (vs : List V) (Q : VK) (E : XK), A.guards = some [] → Room k (A.deeper (envOfC qual (defScope st) s.heap.objs.size f (.ref c))) → sp vs H Q E →
      ∃ t, PSs (cxOf CX P w K mg base N qual (defScope st) f (.ref c) A outer s H E) (defBody st) t ∧ t { nx := fun _ H' => Q .non H', rt := Q } (L2.start N vs) H) : FnG P w K mg base CX (k + 1) f fd ps sp := by
  obtain ⟨oc, od, kV, doc, pm, an, ct, osl, rfl, lk, hcd⟩ := F.ex
  exact ⟨len, fun A outer s H args us vs Q E hg hr e0 hb r h => LamX.run_ofS lk hcd S hr e0 hb r (len _ _ _ _ h) fun hr2 => body A outer s H vs Q E hg hr2 h⟩
theorem op_inK {X : Cx} (K : PySem.W.Frag) (h : X.K = K) : OpR X (compareOp .In) (rIn K false) := h ▸ op_in_seq
end DL
set_option Elab.async false
set_option linter.all false
set_option maxRecDepth 100000
set_option maxHeartbeats 4000000
/-! texts of small data; repr, over data -/
namespace DL
open PySem PySem.Spec PyProof.Rows L2 Evl
/-- data of whole numbers that are not too great -/
structure Fine (d : PyData) (W k : Nat) : Prop where
  short : d.leavesShort 13 = true
  shows : d.showable = true
  deep : d.depth ≤ k
  few : d.weight ≤ W
def Sml (i : Int) : Prop := i.natAbs < 10 ^ 12
theorem sml_of {i : Int} (h1 : -1000000 ≤ i) (h2 : i ≤ 1000000) : Sml i := by
  show i.natAbs < 1000000000000
  omega
theorem w_int {i : Int} (h : Sml i) : (PyData.int i).weight ≤ 40 ∧ (PyData.int i).showable = true := by
  have h : i.natAbs < 10 ^ 12 := h
  have e : (10 : Nat) ^ 12 < 2 ^ 40 := by decide
  by_cases z : i = 0
  · subst z
    exact ⟨by simp [PyData.weight], by simp [PyData.showable]⟩
  · have nz : i.natAbs ≠ 0 := by omega
    have lt : i.natAbs.log2 < 40 := (Nat.log2_lt nz).mpr (by omega)
    refine ⟨?_, ?_⟩
    · simp only [PyData.weight]
      split <;> omega
    · simp only [PyData.showable, decide_eq_true_eq]
      omega
theorem fine_int {i : Int} (h : Sml i) : Fine (.int i) 40 1 where
  short := by
    simp only [PyData.leavesShort, decide_eq_true_eq]
    exact PyData.shown_int_le h
  shows := (w_int h).2
  deep := by simp [PyData.depth]
  few := (w_int h).1
theorem fine_all : ∀ {ns : List Int}, (∀ n ∈ ns, Sml n) → PyData.leavesShortAll 13 (dI ns) = true ∧ PyData.showableAll (dI ns) = true ∧ PyData.weightAll (dI ns) ≤ 41 * ns.length
  | [], _ => ⟨rfl, rfl, by simp [PyData.weightAll]⟩
  | n :: ns, h => by
    obtain ⟨h1, h2, h3⟩ := fine_all (ns := ns) fun m hm => h m (List.mem_cons_of_mem _ hm)
    have hn := fine_int (h n List.mem_cons_self)
    refine ⟨?_, ?_, ?_⟩
    · simp only [dI, List.map_cons, PyData.leavesShortAll, Bool.and_eq_true]
      exact ⟨hn.short, h1⟩
    · simp only [dI, List.map_cons, PyData.showableAll, Bool.and_eq_true]
      exact ⟨hn.shows, h2⟩
    · simp only [dI, List.map_cons, PyData.weightAll, List.length_cons]
      have := hn.few
      simp only [dI] at h3
      omega
theorem fine_tI {ns : List Int} (h : ∀ n ∈ ns, Sml n) : Fine (tI ns) (41 * ns.length) 2 := by
  obtain ⟨h1, h2, h3⟩ := fine_all h
  refine ⟨by simpa only [PyData.leavesShort] using h1, by simpa only [PyData.showable] using h2, ?_, by simpa only [PyData.weight] using h3⟩
  have := depth_ints ns
  simp only [PyData.depth]
  omega
theorem fine_two {d : PyData} {W k : Nat} (h : Fine d W k) : Fine (.list [d, d]) (2 * W + 2) (k + 1) where
  short := by simp [PyData.leavesShort, PyData.leavesShortAll, h.short]
  shows := by simp [PyData.showable, PyData.showableAll, h.shows]
  deep := by
    have := h.deep
    simp only [PyData.depth, PyData.depthAll]
    omega
  few := by
    have := h.few
    simp only [PyData.weight, PyData.weightAll]
    omega
theorem fine_kv : ∀ {m : KI}, (∀ p ∈ m, (∀ n ∈ p.1, Sml n) ∧ Sml p.2 ∧ p.1.length ≤ 3) →
    PyData.leavesShortKv 13 (m.map fun p => (tI p.1, PyData.int p.2)) = true ∧ PyData.showableKv (m.map fun p => (tI p.1, PyData.int p.2)) = true ∧ PyData.weightKv (m.map fun p => (tI p.1, PyData.int p.2)) ≤ 165 * m.length ∧ PyData.depthKv (m.map fun p => (tI p.1, PyData.int p.2)) ≤ 2
  | [], _ => ⟨rfl, rfl, by simp [PyData.weightKv], by simp [PyData.depthKv]⟩
  | p :: m, h => by
    obtain ⟨h1, h2, h3, h4⟩ := fine_kv (m := m) fun q hq => h q (List.mem_cons_of_mem _ hq)
    obtain ⟨a1, a2, a3⟩ := h p List.mem_cons_self
    have f1 := fine_tI a1
    have f2 := fine_int a2
    refine ⟨?_, ?_, ?_, ?_⟩
    · simp only [List.map_cons, PyData.leavesShortKv, Bool.and_eq_true]
      exact ⟨⟨f1.short, f2.short⟩, h1⟩
    · simp only [List.map_cons, PyData.showableKv, Bool.and_eq_true]
      exact ⟨⟨f1.shows, f2.shows⟩, h2⟩
    · simp only [List.map_cons, PyData.weightKv, List.length_cons]
      have := f1.few
      have := f2.few
      omega
    · simp only [List.map_cons, PyData.depthKv]
      have := f1.deep
      have := f2.deep
      omega
theorem fine_dict {m : KI} (h : ∀ p ∈ m, (∀ n ∈ p.1, Sml n) ∧ Sml p.2 ∧ p.1.length ≤ 3) : Fine (dDict m) (165 * m.length) 3 := by
  obtain ⟨h1, h2, h3, h4⟩ := fine_kv h
  refine ⟨by simpa only [dDict, PyData.leavesShort] using h1, by simpa only [dDict, PyData.showable] using h2, ?_, by simpa only [dDict, PyData.weight] using h3⟩
  simp only [dDict, PyData.depth]
  omega
theorem Fine.fits {d : PyData} {W k : Nat} (h : Fine d W k) (hw : W ≤ 2 ^ 20) : d.shown.length ≤ sizeLine := PyData.shown_fits (B := 13) (by decide) (by decide) h.short (Nat.le_trans h.few hw)
section
variable {K : PySem.W.Frag} {σ : L2.St} {H H' : Hp} {ta tb te : TE} {ds : List PyData} {d : PyData}
theorem ev_repr {W k : Nat} (h : EvD K te σ H (.list ds)) (f : Fine (.list ds) W k) (hw : W ≤ 2 ^ 20) (hk : k ≤ 80) : Ev (tCB (rRepr K) (tCons te tNil)) σ H (.str (PyData.list ds).shown) := fun H1 e Q q =>
  h H1 e _ fun v H2 e2 hv => by
    cases hv with
    | lst hs ha => exact ⟨_, _, rfl, .lst hs ha, f.shows, by have := f.deep; omega, f.fits hw, q H2 e2⟩
theorem ev_neS {x : Str} (ha : Ev ta σ H (.str x)) (hb : Ev tb σ H (.str x)) : Ev (tOp rNe ta tb) σ H (.bl false) := fun H1 e Q q =>
  ha H1 e _ fun H2 e2 => hb H2 (e.trans e2) _ fun H3 e3 => ⟨rfl, by
    have : decide (V.str x = V.str x) = true := decide_eq_true rfl
    rw [this]
    exact q H3 (e2.trans e3)⟩
/-- a def called by names -/
theorem ed_callKR {R : List PyData → PyData → Prop} {B : List PyData → Addr → Prop} {E : XK} {tt : TA} {d1 d2 : PyData} (h : EvDA K tt σ H [d2, d1]) (hr : R [d1, d2] d) : EvD K (tCallR 2 (spR K 2 R B) E tt) σ H d := fun H1 e Q q =>
  h H1 e _ fun vs H2 e2 hv => by
    obtain ⟨v2, v1, rfl, a, b⟩ := dpa_two hv
    exact ⟨rfl, [d1, d2], .cons b (.cons a .nil), rfl, .inl ⟨d, hr, fun v H3 e3 hd => q v H3 (e2.trans e3) hd⟩⟩
/-- a dict with tuple keys, a row of such -/
def EvK (te : TE) (σ : L2.St) (H : Hp) (m : KI) : Prop := ∀ H1, Ex H H1 → ∀ Q : VK, (∀ a H2, Ex H1 H2 → H2 a = some (.dT (kvI m)) → Q (.ref a) H2) → te σ H1 Q
def EvKA (ta : TA) (σ : L2.St) (H : Hp) (ms : List KI) : Prop := ∀ H1, Ex H H1 → ∀ Q : List V → Hp → Prop, (∀ vs H2, Ex H1 H2 → DTs H2 vs ms → Q vs H2) → ta σ H1 Q
theorem ek_var {k : Nat} {a : Addr} {m : KI} (h : σ[k]? = some (some (.ref a))) (ha : H a = some (.dT (kvI m))) : EvK (tVar k) σ H m := fun H1 e Q q => ⟨.ref a, h, q a H1 (Ex.refl _) (e _ _ ha)⟩
theorem eka_nil : EvKA tNil σ H [] := fun H1 _ _ q => q [] H1 (Ex.refl H1) .nil
theorem dts_ex {vs : List V} {ms : List KI} (e : Ex H H') (h : DTs H vs ms) : DTs H' vs ms := Paired.mapP h fun _ _ z => by
  obtain ⟨a, e1, e2⟩ := z
  exact ⟨a, e1, e _ _ e2⟩
theorem eka_cons {tr : TA} {m : KI} {ms : List KI} (h : EvK te σ H m) (hr : EvKA tr σ H ms) : EvKA (tCons te tr) σ H (m :: ms) := fun H1 e Q q =>
  h H1 e _ fun a H2 e2 ha => hr H2 (e.trans e2) _ fun vs H3 e3 hv => q _ H3 (e2.trans e3) (.cons ⟨a, rfl, e3 _ _ ha⟩ hv)
theorem ev_reprT {m : KI} {W k : Nat} (h : EvK te σ H m) (f : Fine (dDict m) W k) (hw : W ≤ 2 ^ 20) (hk : k ≤ 80) : Ev (tCB rReprT (tCons te tNil)) σ H (.str (dDict m).shown) := fun H1 e Q q =>
  h H1 e _ fun a H2 e2 ha => ⟨a, m, rfl, ha, f.shows, by have := f.deep; omega, f.fits hw, q H2 e2⟩
theorem ev_reprLT {tt : TA} {m : KI} {W k : Nat} (h : EvKA tt σ H [m, m]) (f : Fine (dDict m) W k) (hw : W ≤ 2 ^ 18) (hk : k ≤ 70) : Ev (tCB rReprLT (tCons (tLst tt) tNil)) σ H (.str (dRow [m, m]).shown) := fun H1 e Q q =>
  h H1 e _ fun vs H2 e2 hv => by
    have f2 : Fine (dRow [m, m]) (2 * W + 2) (k + 1) := fine_two f
    have e20 : (2 : Nat) ^ 20 = 4 * 2 ^ 18 := by decide
    have w2 : 2 * W + 2 ≤ 2 ^ 20 := by
      have e18 : (2 : Nat) ^ 18 = 262144 := by decide
      omega
    have deep2 := f2.deep
    have two : vs.length = 2 := Paired.length hv
    refine ⟨sz_of (by omega), fun p hp => ⟨p, vs, [m, m], rfl, upd_same, dts_ex (Ex.new hp) hv, by simp, f2.shows, by omega, f2.fits w2, q _ (e2.trans (Ex.new hp))⟩⟩
/-- list(d.values()) -/
theorem eq_vals {k : Nat} {a : Addr} {m : KI} (h : σ[k]? = some (some (.ref a))) (ha : H a = some (.dT (kvI m))) : EvQ K (tCB rListVT (tCons (tBM0 K "dict" rValsT (tVar k)) tNil)) σ H (dI (m.map Prod.snd)) := fun H1 e Q q => by
  have ha1 := e _ _ ha
  refine ⟨.ref a, h, .inr (.inr (.inl ⟨rfl, .inr ⟨_, ha1⟩⟩)), a, _, rfl, rfl, ha1, fun p hp => ?_⟩
  have npa : a ≠ p := fun z => by rw [z, hp] at ha1; cases ha1
  refine ⟨p, a, _, rfl, upd_same, by rw [upd_ne npa]; exact ha1, fun r hr => ?_⟩
  have e1 : Ex H1 (upd (upd H1 p (viewO "dict_values" p a)) r (.lst ((kvI m).map Prod.snd))) := (Ex.new hp).trans (Ex.new hr)
  refine q r _ _ e1 upd_same ?_
  have : (kvI m).map Prod.snd = (m.map Prod.snd).map V.int := by simp [kvI]
  rw [this]
  exact ints_dpa _
end
end DL
set_option Elab.async false
set_option linter.all false
set_option maxRecDepth 100000
set_option maxHeartbeats 4000000
/-! a loop over lambdas each of which is called, its error caught and asked for its class -/
namespace DL
open PySem PySem.Spec PyProof.Rows L2 Evl LamX
section
variable {K : PySem.W.Frag} {H H' : Hp}
theorem extn_of_ex (e : Ex H H') : ExtN H H' := fun b o h _ => e b o h
theorem rd_extn (e : ExtN H H') {a : Addr} {u : HO} (n : ∀ ps, u ≠ .tbl ps) (h : Rd H a u) : Rd H' a u := by
  rcases h with h | ⟨o, h⟩
  · exact .inl (e _ _ h n)
  · exact .inr ⟨o, e _ _ h fun _ z => nomatch z⟩
theorem sqL_extn (e : ExtN H H') {a : Addr} {xs : List V} (h : SqL K H a xs) : SqL K H' a xs := h.elim (fun r => .inl (rd_extn e (fun _ z => nomatch z) r)) .inr
theorem sqT_extn (e : ExtN H H') {a : Addr} {xs : List V} (h : SqT K H a xs) : SqT K H' a xs := h.elim (fun r => .inl (rd_extn e (fun _ z => nomatch z) r)) .inr
mutual
theorem dp_extn (e : ExtN H H') : ∀ (d : PyData) (v : V), Dp K H v d → Dp K H' v d
  | .none, _, h => by cases h; exact .non
  | .bool b, _, h => by cases h; exact .bl b
  | .int i, _, h => by cases h; exact .int i
  | .str x, _, h => by cases h; exact .str x
  | .list ds, _, h => by
    cases h with
    | lst s r => exact .lst (sqL_extn e s) (dpa_extn e ds _ r)
  | .tuple ds, _, h => by
    cases h with
    | tup s r => exact .tup (sqT_extn e s) (dpa_extn e ds _ r)
  | .dict _, _, h => by cases h
theorem dpa_extn (e : ExtN H H') : ∀ (ds : List PyData) (vs : List V), DpAll K H vs ds → DpAll K H' vs ds
  | [], _, h => by cases h; exact .nil
  | d :: ds, _, h => by
    cases h with
    | cons a r => exact .cons (dp_extn e d _ a) (dpa_extn e ds _ r)
end
theorem extn_new {a : Addr} {o : HO} (e : ExtN H H') (h : H a = none) : ExtN H (upd H' a o) := fun b u hb n => by
  rw [upd_ne (fun z => by rw [z, h] at hb; cases hb)]
  exact e b u hb n
theorem tabs_ex {T : List (Addr × Str)} (t : Tabs T H) (e : Ex H H') : Tabs T H' := fun p hp => TabS.ext (t p hp) e
abbrev noArgs : Arguments := { posonlyargs := [], args := [], vararg := none, kwonlyargs := [], kw_defaults := [], kwarg := none, defaults := [] }
/-- the lambda's value, and what calling it through the def comes to -/
abbrev tCaught (X : Cx) (CS : Addr) (k j : Nat) : TE := fun σ H Q => ∃ f c' params body scope tb, σ[j]? = some (some (.ref f)) ∧ H f = some (LamO f c' (X.env.qual ++ "<lambda>") params body scope (cloFrom X.env.cells scope.names [])) ∧
  H c' = some (CodeO c' (X.env.qual ++ "<lambda>")) ∧ LamD X k params body scope tb ∧ TTc X.K CS tb σ H Q
/-- raises an error of the class C, whatever comes -/
def Raises (C : Addr) (tb : XK → TE) (σ : L2.St) (H : Hp) : Prop := ∀ H1, ExtN H H1 → ∀ (E : XK) (Q : VK), (∀ H2, Ex H1 H2 → E (.ref C) none H2) → tb E σ H1 Q
theorem Raises.ex {C : Addr} {tb : XK → TE} {σ : L2.St} (h : Raises C tb σ H) (e : ExtN H H') : Raises C tb σ H' := fun H1 a => h H1 (e.trans a)
/-- one such lambda at hand -/
structure LamAt (X : Cx) (C : Addr) (k : Nat) (f : Addr) (σ : L2.St) (H : Hp) : Prop where
  ex : ∃ c' params body scope tb, H f = some (LamO f c' (X.env.qual ++ "<lambda>") params body scope (cloFrom X.env.cells scope.names [])) ∧ H c' = some (CodeO c' (X.env.qual ++ "<lambda>")) ∧ LamD X k params body scope tb ∧ Raises C tb σ H
theorem LamAt.extn {X : Cx} {C : Addr} {k : Nat} {f : Addr} {σ : L2.St} (h : LamAt X C k f σ H) (e : ExtN H H') : LamAt X C k f σ H' := by
  obtain ⟨c', params, body, scope, tb, h1, h2, h3, h4⟩ := h
  exact ⟨c', params, body, scope, tb, e _ _ h1 (fun _ z => nomatch z), e _ _ h2 (fun _ z => nomatch z), h3, h4.ex e⟩
/-- isinstance(caught(work), C), the error an own one of C -/
theorem ev_raised {X : Cx} {CS C f : Addr} {k j : Nat} {σ σ0 : L2.St} (hj : σ[j]? = some (some (.ref f))) (h : LamAt X C k f σ H) (kC : PySem.W.exmOne X.K (.ref C) (.ref CS) = some true) (iC : PySem.W.kitOne X.K (.ref C) (.ref C) = some true) (eC : ExcC X.K C) :
    Ev (tCB (rIsK X.K) (tCons (tCaught X CS k j) (tCons (tC (.ref C)) tNil))) σ H (.bl true) := fun H1 e Q q => by
  obtain ⟨c', params, body, scope, tb, h1, h2, h3, h4⟩ := h.extn (extn_of_ex e)
  refine ⟨f, c', params, body, scope, tb, hj, h1, h2, h3, fun E Q2 r1 r2 => ?_⟩
  refine h4 H1 (ExtN.refl _) E Q2 fun H2 e2 => r1 (.ref C) H2 kC fun a ha => ?_
  exact ⟨a, C, .ref C, .ref C, true, rfl, upd_same, eC, fun u z => z, iC, q _ (e2.trans (Ex.new ha))⟩
theorem d_lams {X : Cx} {T : List (Addr × Str)} {CS C : Addr} {k : Nat} {σ : L2.St} {D : Ends} {b1 b2 b3 : Expr} {s1 s2 s3 : Scope} {g1 g2 g3 : XK → TE} (tabs : Tabs T H)
    (kC : PySem.W.exmOne X.K (.ref C) (.ref CS) = some true) (iC : PySem.W.kitOne X.K (.ref C) (.ref C) = some true) (eC : ExcC X.K C) (len : 15 < σ.length)
    (L1 : LamD X k noArgs b1 s1 g1) (L2 : LamD X k noArgs b2 s2 g2) (L3 : LamD X k noArgs b3 s3 g3)
    (r1 : ∀ y, Raises C g1 (σ.set 15 y) H) (r2 : ∀ y, Raises C g2 (σ.set 15 y) H) (r3 : ∀ y, Raises C g3 (σ.set 15 y) H) (q : ∀ y H', ExtN H H' → Tabs T H' → D.nx (σ.set 15 y) H') :
    tFor (iList X.K (tLst (tCons (tLamV T (X.env.qual ++ "<lambda>") noArgs b1 s1 (cloFrom X.env.cells s1.names [])) (tCons (tLamV T (X.env.qual ++ "<lambda>") noArgs b2 s2 (cloFrom X.env.cells s2.names [])) (tCons (tLamV T (X.env.qual ++ "<lambda>") noArgs b3 s3 (cloFrom X.env.cells s3.names [])) tNil))))) (gName 15)
      (tIfS (tNot (tB (tCB (rIsK X.K) (tCons (tCaught X CS k 15) (tCons (tC (.ref C)) tNil))))) (tRet (tC (.bl false))) tNext) D σ H := by
  refine ⟨tabs, fun f1 c1 H1 x1 t1 n1 m1 k1 => ?_⟩
  have t1' := tabs_ex t1 (Ex.new (o := LamO f1 c1 (X.env.qual ++ "<lambda>") noArgs b1 s1 (cloFrom X.env.cells s1.names [])) m1)
  have x1' := extn_new (o := LamO f1 c1 (X.env.qual ++ "<lambda>") noArgs b1 s1 (cloFrom X.env.cells s1.names [])) x1 n1
  have a1 : upd H1 f1 (LamO f1 c1 (X.env.qual ++ "<lambda>") noArgs b1 s1 (cloFrom X.env.cells s1.names [])) f1 = some _ := upd_same
  have k1' := Ex.new (o := LamO f1 c1 (X.env.qual ++ "<lambda>") noArgs b1 s1 (cloFrom X.env.cells s1.names [])) m1 _ _ k1
  generalize upd H1 f1 (LamO f1 c1 (X.env.qual ++ "<lambda>") noArgs b1 s1 (cloFrom X.env.cells s1.names [])) = G1 at *
  refine ⟨t1', fun f2 c2 H2 x2 t2 n2 m2 k2 => ?_⟩
  have t2' := tabs_ex t2 (Ex.new (o := LamO f2 c2 (X.env.qual ++ "<lambda>") noArgs b2 s2 (cloFrom X.env.cells s2.names [])) m2)
  have x2' := extn_new (o := LamO f2 c2 (X.env.qual ++ "<lambda>") noArgs b2 s2 (cloFrom X.env.cells s2.names [])) x2 n2
  have a2 : upd H2 f2 (LamO f2 c2 (X.env.qual ++ "<lambda>") noArgs b2 s2 (cloFrom X.env.cells s2.names [])) f2 = some _ := upd_same
  have k2' := Ex.new (o := LamO f2 c2 (X.env.qual ++ "<lambda>") noArgs b2 s2 (cloFrom X.env.cells s2.names [])) m2 _ _ k2
  generalize upd H2 f2 (LamO f2 c2 (X.env.qual ++ "<lambda>") noArgs b2 s2 (cloFrom X.env.cells s2.names [])) = G2 at *
  refine ⟨t2', fun f3 c3 H3 x3 t3 n3 m3 k3 => ?_⟩
  have t3' := tabs_ex t3 (Ex.new (o := LamO f3 c3 (X.env.qual ++ "<lambda>") noArgs b3 s3 (cloFrom X.env.cells s3.names [])) m3)
  have x3' := extn_new (o := LamO f3 c3 (X.env.qual ++ "<lambda>") noArgs b3 s3 (cloFrom X.env.cells s3.names [])) x3 n3
  have a3 : upd H3 f3 (LamO f3 c3 (X.env.qual ++ "<lambda>") noArgs b3 s3 (cloFrom X.env.cells s3.names [])) f3 = some _ := upd_same
  have k3' := Ex.new (o := LamO f3 c3 (X.env.qual ++ "<lambda>") noArgs b3 s3 (cloFrom X.env.cells s3.names [])) m3 _ _ k3
  generalize upd H3 f3 (LamO f3 c3 (X.env.qual ++ "<lambda>") noArgs b3 s3 (cloFrom X.env.cells s3.names [])) = G3 at *
  have up23 := x2'.trans x3'
  refine ⟨by show 3 ≤ sizeLine; decide, fun p hp => ?_⟩
  refine ⟨p, rfl, ⟨_, sq_of upd_same⟩, ?_⟩
  have ex4 := Ex.new (o := .lst [.ref f1, .ref f2, .ref f3]) hp
  have at4 : upd G3 p (.lst [.ref f1, .ref f2, .ref f3]) p = some (.lst [.ref f1, .ref f2, .ref f3]) := upd_same
  have t4 := tabs_ex t3' ex4
  have x4 := (x1'.trans up23).trans (extn_of_ex ex4)
  have l1 : ∀ y, LamAt X C k f1 (σ.set 15 y) (upd G3 p (.lst [.ref f1, .ref f2, .ref f3])) := fun y => LamAt.extn (H := G1) ⟨c1, noArgs, b1, s1, g1, a1, k1', L1, (r1 y).ex x1'⟩ (up23.trans (extn_of_ex ex4))
  have l2 : ∀ y, LamAt X C k f2 (σ.set 15 y) (upd G3 p (.lst [.ref f1, .ref f2, .ref f3])) := fun y => LamAt.extn (H := G2) ⟨c2, noArgs, b2, s2, g2, a2, k2', L2, (r2 y).ex (x1'.trans x2')⟩ (x3'.trans (extn_of_ex ex4))
  have l3 : ∀ y, LamAt X C k f3 (σ.set 15 y) (upd G3 p (.lst [.ref f1, .ref f2, .ref f3])) := fun y => LamAt.extn (H := G3) ⟨c3, noArgs, b3, s3, g3, a3, k3', L3, (r3 y).ex (x1'.trans up23)⟩ (extn_of_ex ex4)
  generalize upd G3 p (.lst [.ref f1, .ref f2, .ref f3]) = G4 at *
  obtain ⟨y0, hy0⟩ : ∃ y0, σ[15]? = some y0 := ⟨σ[15], List.getElem?_eq_getElem len⟩
  have same : σ = σ.set 15 y0 := by
    refine List.ext_getElem? fun i => ?_
    by_cases e : i = 15
    · subst e
      rw [hy0, List.getElem?_set_self len]
    · rw [List.getElem?_set_ne (Ne.symm e)]
  refine for_it (walk_list (K := X.K) (xs := [.ref f1, .ref f2, .ref f3])) (fun _ σ' Ha => Ex G4 Ha ∧ ∃ y, σ' = σ.set 15 y) ⟨Ex.refl _, y0, same⟩ (fun i σ' Ha _ z => sq_of (z.1 _ _ at4)) ?_ ?_
  · rintro i x σ' Ha Hb hi ⟨xa, y, rfl⟩ ⟨rfl, hx⟩
    show tIfS _ _ _ _ ((σ.set 15 y).set 15 (some x)) Hb
    rw [List.set_set]
    have here : (σ.set 15 (some x))[15]? = some (some x) := List.getElem?_set_self len
    have lam : ∃ f, x = .ref f ∧ LamAt X C k f (σ.set 15 (some x)) Hb := by
      have hi' : i = 0 ∨ i = 1 ∨ i = 2 := by simp at hi; omega
      rcases hi' with rfl | rfl | rfl
      · cases hx
        exact ⟨f1, rfl, (l1 _).extn (extn_of_ex xa)⟩
      · cases hx
        exact ⟨f2, rfl, (l2 _).extn (extn_of_ex xa)⟩
      · cases hx
        exact ⟨f3, rfl, (l3 _).extn (extn_of_ex xa)⟩
    obtain ⟨f, rfl, la⟩ := lam
    refine s_when (b := false) (et_not (a := true) (et_B (ev_raised (σ0 := σ) here la kC iC eC))) (fun z => nomatch z) fun _ Hc ec => ?_
    exact ⟨xa.trans ec, _, rfl⟩
  · rintro σ' Ha ⟨xa, y, rfl⟩
    exact q y Ha (x4.trans (extn_of_ex xa)) (tabs_ex t4 xa)
end
end DL
set_option Elab.async false
set_option linter.all false
set_option maxRecDepth 100000
set_option maxHeartbeats 4000000
/-! the head of a law with lambdas, its table found by the law's name -/
namespace DL
open PySem PySem.Spec PyProof.Rows L2 Evl LamX
theorem walkT2 {l : PySem.W.OpenLaw} {n k : Nat} {q : Program} {loose : List Str} {XP : (Str → Option Value) → Heap → Prop} {YP : World → Heap → Prop} {d : DefRec} {K : Params → PySem.W.Frag} {CX : World → CXT} {x : Str}
    (most : l.most = some n) (line : n ≤ sizeLine) (plain : d.params.defaults = []) (room : Room k callerA) (keep : ∀ (w : World) (h : Heap), YP w h → (K w.params).In h) (here : (recsOf q).find? (fun e => e.name == d.name) = some d)
    (F : ∀ (w : World) (mg : Str → Option Value) (fa : Addr) (h : Heap), (K w.params).In h → h.Ns mainGlobals mg → mg d.name = some (.ref fa) →
      ∃ (fd : FuncData) (c T : Addr) (sp : Sp), PySem.W.tabIn (K w.params) d.name = some (c, T) ∧ (K w.params).lookup T = none ∧ (∀ (s : Shared) (u : Value), BindsTo s fd ⟨[u], []⟩ [(x, u)]) ∧
        (∀ (H : Hp) (a : Addr) (ns : List Int), ns.length ≤ n → H T = some (.tbl #[]) → SqL (K w.params) H a (ns.map V.int) → sp [.ref a] H (fun v _ => v = .bl true) fun _ _ _ => False) ∧
        ∀ base : Heap, (K w.params).In base → base.Ns mainGlobals mg → TabB base mg c T → FnG l.prog w (K w.params) mg base (CX w) k fa fd [x] sp)
    (out : ∀ (w : World) (H : Hp) (s : Shared) (e : Value) (s' : Shared), CX w [] H s (fun _ _ _ => False) e s' → False) : PySem.W.WalkO q loose XP YP l.row.toRowW d [] (fun f vs => PySem.call f vs) := by
  apply Att.attach_call most plain
  intro w s0 s1 mg mb fa o pm cd doc a vs ns G Y ho hd hcd hmg hobj hints hlen hg
  obtain ⟨fd, c, T, sp, t1, t2, bnd, ask, hF⟩ := F w mg fa _ (keep w _ Y) G.T.g hmg
  obtain ⟨hC, hT⟩ := PySem.W.tab_of G.T (keep w _ Y) here t1
  exact callT (keep w _ Y) G.T.g G.T.b G.T.builtins G.T.nolimit hg hT t2 hC G.T.bmain hobj hints (Nat.le_trans hlen line) room hF bnd (fun H h1 h2 => ask H a ns hlen h1 h2) fun H e s' => out w H s1 e s'
end DL
set_option Elab.async false
set_option linter.all false
set_option maxRecDepth 100000
set_option maxHeartbeats 4000000
/-! an own exception class with its own __init__, called by keywords: from type.__call__ on -/
namespace PySem
namespace KwE
open Builtin Builtin.ObjectAttr HandSPX
section
variable {M : Model} {A : Around} {E : Value → Shared → Prop} {h : Heap} {g : Array GenState} {d : Drawn} {t : Nat} {os : OsState}
variable {nm q : Str} {C N : Addr} {bs bm bmB : List Value} {hdct : Bool} {sn : List Str} {sub : List Value} {ab : Bool} {col : Option Bool} {dd : Option Addr} {k0 k1 k2 k3 k5 : Option Value} {B newId initId : String} {kw : List (Str × Value)}
theorem check_new (F : ExcBaseFacts B newId initId bmB) (hT : ∀ X : String, bm.contains (.type X) = bmB.contains (.type X)) {rest : List Value} {Q : Unit → Shared → Prop}
    (hC : h.get? C = some (excClassObj nm q C N bs bm hdct sn sub ab col dd k0 k1 k2 k3 k5 newId)) (hq : Q () ⟨h, g, d, t, os⟩) : wpAny M A (checkBuiltinCall newId ⟨.ref C :: rest, kw⟩) Q E ⟨h, g, d, t, os⟩ := by
  have hcont : (Value.ref C :: bm).contains (.type B) = true := by rw [List.contains_cons, hT, F.hasB, Bool.or_true]
  have hstar := F.noStar
  simp only [checkBuiltinCall, F.newKind, F.newSplit, F.newRow]
  repeat (first | refine wpAny_loadPart_at hC ?_ | (refine wpAny_isSubtype_exc hC ?_; rw [hcont]) | refine wpAny_staticBase_exc hC ?_ | refine wpAny_madeBy_exc hC ?_ | simp only [bne_self_eq_false, Bool.false_eq_true, if_false] | wp_step)
  exact hq
end
section
variable {prog : Program} {w : World} {A : Around} {E : Value → Shared → Prop} {R : Result → Shared → Prop} {h : Heap} {g : Array GenState} {d : Drawn} {t : Nat} {os : OsState}
variable {nm q : Str} {C N : Addr} {bs bm bmB : List Value} {hdct : Bool} {sn : List Str} {sub : List Value} {ab : Bool} {col : Option Bool} {dd : Option Addr} {k0 k1 k2 k3 k5 : Option Value} {B newId initId : String} {kw : List (Str × Value)}
theorem new_kw (F : ExcBaseFacts B newId initId bmB) (hT : ∀ X : String, bm.contains (.type X) = bmB.contains (.type X)) {rest : List Value}
    (hC : h.get? C = some (excClassObj nm q C N bs bm hdct sn sub ab col dd k0 k1 k2 k3 k5 newId))
    (hq : R (.ok (.ret (.ref (h.objs.size + 1)))) ⟨(h.push { cls := .type "tuple", data := .seq rest.toArray }).push
      { cls := .ref C, data := .fields #[.ref h.objs.size, .none, .none, .none, .bool false, .none] }, g, d, t, os⟩) (hrest : rest.length ≤ sizeLine) :
    codeAny (model prog w) A (.builtin newId ⟨.ref C :: rest, kw⟩) R ⟨h, g, d, t, os⟩ := by
  have hends := F.ends
  have hcB : (Value.ref C :: bm).contains (.type B) = true := by rw [List.contains_cons, hT, F.hasB, Bool.or_true]
  have hcA : (Value.ref C :: bm).contains (.type "AttributeError") = false := by rw [List.contains_cons, hT, F.noAttr]; rfl
  have hcN : (Value.ref C :: bm).contains (.type "NameError") = false := by rw [List.contains_cons, hT, F.noName]; rfl
  refine codeAny_builtinAt F.entry ?_
  unfold Builtin.«BaseException.__new__»
  refine wpAt_bind ?_
  show wpAt _ _ _ (stack >>= _) _ _ _
  refine wpAt_bind (wpAt_stack fun p below => wpAt_of_wpAny ?_)
  wp_walk
  refine wpAt_of_wpAny ?_
  rw [F.owner]
  repeat (first | with_reducible refine wpAny_madeHere_exc F.canon hC ?_ | with_reducible refine wpAny_loadPart_at hC ?_ | (with_reducible refine wpAny_isSubtype_exc hC ?_; first | rw [hcB] | rw [hcA] | rw [hcN]) | wp_step)
  show R _ _
  rw [Heap.size_push]
  exact hq

theorem type_call_kw (F : ExcBaseFacts B newId initId bmB) (hT : ∀ X : String, bm.contains (.type X) = bmB.contains (.type X)) {rest : List Value} {fI : Addr} {Q : Fin → Shared → Prop}
    (hC : h.get? C = some (excClassObj nm q C N bs bm hdct sn sub ab col dd k0 k1 k2 k3 k5 newId))
    (hi : W.Looks (model prog w) h (typeLookup (.ref C) "__init__") (some (.ref fI))) (hb : ∀ self, W.Looks (model prog w) h (bindSpecial (.ref fI) self) (.ref fI, [self])) (hrest : rest.length ≤ sizeLine)
    (hq : codeAny (model prog w) A (.call (.ref fI) ⟨.ref (h.objs.size + 1) :: rest, kw⟩)
      (fun r s' => match r with | .ok (.ret v) => v = .none ∧ Q (.done (.ret (.ref (h.objs.size + 1)))) s' | .ok _ => False | .error e => E e s')
      ⟨(h.push (W.kdv_tup rest)).push (excO C h.objs.size), g, d, t, os⟩) :
    wpAny (model prog w) A (Builtin.«type.__call__» ⟨.ref C :: rest, kw⟩) Q E ⟨h, g, d, t, os⟩ := by
  repeat (first | with_reducible refine wpAny_loadPart_at hC ?_ | with_reducible refine wpAny_madeBy_exc hC ?_ | wp_step)
  refine codeAny_call_builtin_code (Code.quiet_builtin _ F.quiet) (check_new F hT hC ?_)
  refine new_kw F hT hC ?_ hrest
  show wpAny _ _ _ _ _ _
  have k : ∀ b o, h.get? b = some o → ((h.push (W.kdv_tup rest)).push (excO C h.objs.size)).get? b = some o := fun b o e => Heap.get?_push_of_some _ (Heap.get?_push_of_some _ e)
  have hC₁ := k _ _ hC
  have hget : ((h.push (W.kdv_tup rest)).push (excO C h.objs.size)).get? (h.objs.size + 1) = some (excO C h.objs.size) := by heap_get
  have hcC : (Value.ref C :: bm).contains (.ref C) = true := by simp
  have i1 := hi.keeps k
  have b1 := (hb (.ref (h.objs.size + 1))).keeps k
  unfold isInstance
  repeat (first | with_reducible refine wpAny_loadPart_at hget ?_ | (with_reducible refine wpAny_isSubtype_exc hC₁ ?_; rw [hcC]) | wp_step)
  show wpAny _ _ (typeLookup (.ref C) _) _ _ _
  refine i1.at ?_
  refine wpAny_holding (wpAny_bind (b1.at ?_))
  refine wpAny_bind (wpAny_call (codeAny_mono hq fun r s' z => ?_))
  rcases r with e | (v | _ | _ | _) <;> first | exact z | exact z.elim | skip
  obtain ⟨rfl, z⟩ := z
  first
    | exact wpAny_pure (wpAny_pure z)
    | (wp_walk; exact z)
theorem check_type_call {M : Model} {rest : List Value} {Q : Unit → Shared → Prop} (hC : h.get? C = some (excClassObj nm q C N bs bm hdct sn sub ab col dd k0 k1 k2 k3 k5 newId))
    (hq : Q () ⟨h, g, d, t, os⟩) : wpAny M A (checkBuiltinCall "type.__call__" ⟨.ref C :: rest, kw⟩) Q E ⟨h, g, d, t, os⟩ := by
  have f3 := tc_sub
  have hT : (⟨h, g, d, t, os⟩ : Shared).TypeIs (.ref C) "type" := ⟨_, hC, rfl⟩
  simp only [checkBuiltinCall, tc_kind, tc_split]
  repeat (any_goals (first | assumption | with_reducible refine wpAny_loadPart_at hC ?_ | with_reducible refine wpAny_onRaise ?_ | with_reducible refine wpAny_map ?_ | wp_step))
theorem call_kw (F : ExcBaseFacts B newId initId bmB) (hT : ∀ X : String, bm.contains (.type X) = bmB.contains (.type X)) {rest : List Value} {fI : Addr}
    (hC : h.get? C = some (excClassObj nm q C N bs bm hdct sn sub ab col dd k0 k1 k2 k3 k5 newId))
    (hi : W.Looks (model prog w) h (typeLookup (.ref C) "__init__") (some (.ref fI))) (hb : ∀ self, W.Looks (model prog w) h (bindSpecial (.ref fI) self) (.ref fI, [self])) (hrest : rest.length ≤ sizeLine)
    (hq : codeAny (model prog w) (A.under (.builtin "type.__call__" ⟨.ref C :: rest, kw⟩)) (.call (.ref fI) ⟨.ref (h.objs.size + 1) :: rest, kw⟩) (W.InitBack (h.objs.size + 1) R)
      ⟨(h.push (W.kdv_tup rest)).push (excO C h.objs.size), g, d, t, os⟩) :
    codeAny (model prog w) A (.call (.ref C) ⟨rest, kw⟩) R ⟨h, g, d, t, os⟩ := by
  have f1 := tc_lookup
  have f2 := tc_bind (.ref C)
  have hTy : (⟨h, g, d, t, os⟩ : Shared).TypeIs (.ref C) "type" := ⟨_, hC, rfl⟩
  refine codeAny_of_tree ?_
  show wpAny _ _ (callAny (.ref C) _) _ _ _
  repeat (any_goals (first | assumption | with_reducible refine wpAny_loadPart_at hC ?_ | wp_step))
  refine ⟨rfl, ?_⟩
  refine codeAny_call_builtin_at (Code.quiet_builtin _ (by decide +kernel)) entry_typeCall (check_type_call hC (type_call_kw F hT hC hi hb hrest ?_))
  refine codeAny_mono hq fun r s' z => ?_
  rcases r with e | (v | _ | _ | _) <;> exact z
end
end KwE
end PySem
set_option Elab.async false
set_option linter.all false
set_option maxRecDepth 100000
set_option maxHeartbeats 4000000
/-! own exceptions as values: isinstance, fields, making them, their base's __init__ -/
namespace DL
open PySem PySem.Spec PyProof.Rows L2 Evl
variable {X : Cx} {pins : List (Addr × Obj)} {σ : L2.St} {H : Hp} {s : Shared}
/-- at a: an exception of the class at C, without or with own fields -/
def XcAt (H : Hp) (a C : Addr) : Prop := H a = some (ExO (.ref C) a) ∨ ∃ (d : Addr) (fs : List (Str × V)), H a = some (exo a C (some d)) ∧ H d = some (exd d fs)
theorem xc_inst {a C : Addr} (I : Inv X pins σ H s) (h : XcAt H a C) : ∃ oe od, PySem.W.InstAt s.heap a oe C od := by
  rcases h with h | ⟨d, fs, h, hd⟩
  · obtain ⟨⟨oe, vs, ho, hz, hd, h1, _⟩, _, _⟩ := I.hok a _ h
    refine ⟨oe, none, ?_⟩
    cases oe with
    | mk oc od oda osl =>
      obtain ⟨z1, z2⟩ := hz
      have z1 : oc = .ref C := z1
      have z2 : od = none := z2
      have hd : oda = .fields vs := hd
      subst z1 z2 hd
      exact ⟨ho, rfl, rfl, trivial⟩
  · obtain ⟨t1, ho⟩ := exo_at I.hok h
    obtain ⟨mA, hns, rel⟩ := exd_at I.hok hd
    obtain ⟨od, ho2, hl⟩ := lookIn_ns hns
    exact ⟨_, some od, ho, rfl, rfl, ho2⟩
theorem xc_ex {H' : Hp} {a C : Addr} (e : Ex H H') (h : XcAt H a C) : XcAt H' a C := by
  rcases h with h | ⟨d, fs, h, hd⟩
  · exact .inl (e _ _ h)
  · exact .inr ⟨d, fs, e _ _ h, e _ _ hd⟩
/-- isinstance(e, C) -/
def rIsX (K : PySem.W.Frag) : List V → Hp → VK → Prop := fun xs H Q => ∃ (a D : Addr) (c : V) (cv : Value) (b : Bool), xs = [.ref a, c] ∧ XcAt H a D ∧ ExcC K D ∧ (∀ u, RelV c u → u = cv) ∧ PySem.W.kitOne K (.ref D) cv = some b ∧ Q (.bl b) H
theorem call_isX : CallR X (.builtin "isinstance") (rIsX X.K) := by
  intro pins s σ H xs us Q I r h
  obtain ⟨a, D, c, cv, b, rfl, ha, C, hcv, e, q⟩ := h
  obtain ⟨u1, u2, rfl, ra, rc⟩ := vals2 r
  cases ra
  have ec := hcv _ rc
  subst ec
  obtain ⟨oe, od, J⟩ := xc_inst I ha
  have hcl : (PySem.W.clsIn X.K D).isSome = true := by
    obtain ⟨cd, hc, _⟩ := PySem.W.any_some C.hd
    rw [hc]
    rfl
  exact PySem.W.kia_one (PySem.W.kitx_exc hcl C.hg C.hk C.hs C.ha C.hn C.ht C.hm) I.kIn J e (fun z => nomatch z) fun tk => ⟨.bl b, H, I.kept (t' := tk) fun _ _ z => z, rfl, q⟩
/-- e.f -/
def tXget (K : PySem.W.Frag) (f : Str) (te : TE) : TE := fun σ H Q => te σ H fun x H1 => ∃ (a C d : Addr) (fs : List (Str × V)) (v : V), x = .ref a ∧ H1 a = some (exo a C (some d)) ∧ H1 d = some (exd d fs) ∧ XfC K C ∧ PySem.W.findIn K (.ref C) f = some none ∧ fs.lookup f = some v ∧ Q v H1
theorem pe_xget {e : Expr} {te : TE} {pos : Pos} {n : Str} (he : PE X e te) (hb : attributeBase e n X.env (eval e X.env) = eval e X.env := by rfl) : PE X (.Attribute e n pos) (tXget X.K n te) := by
  refine ⟨fun pins s σ H Q I h => ?_⟩
  refine attr_of hb (thn (he.run pins s σ H _ I h) fun u s1 hh => ?_)
  obtain ⟨x, H1, I1, rx, a, C, d, fs, v, rfl, ha, hd, T, hno, l, q⟩ := hh
  obtain rfl : u = Value.ref a := rx
  obtain ⟨t1, ho⟩ := exo_at I1.hok ha
  obtain ⟨mA, hns, rel⟩ := exd_at I1.hok hd
  obtain ⟨od, ho2, hl⟩ := lookIn_ns hns
  obtain ⟨u, hu, ru⟩ := RelO.some_of (v := v) (o := mA n) (by rw [← l]; exact rel n)
  have J : PySem.W.InstAt s1.heap a _ C (some od) := ⟨ho, rfl, rfl, ho2⟩
  exact PySem.HandSPX.exc_get I1.kIn J T.ga T.gg T.exC (PySem.W.findObj_own T.hdC hno rfl (by rw [hl, hu])) (handed_of ru) ⟨v, H1, I1.tok _, ru, q⟩
/-- B.__init__(self, ..), B an own class that has ValueError's -/
structure BiC (K : PySem.W.Frag) (mg : Str → Option Value) (nm : Str) (B : Addr) : Prop where
  gC : mg nm = some (.ref B)
  rd : PySem.W.readsIn K B (.type "type") = true
  ga : PySem.W.specialIn K (.ref B) "__getattribute__" = some (some (.builtin "type.__getattribute__"))
  fi : PySem.W.findCls K (.ref B) (.type "type") "__init__" = some (.val (.builtin "ValueError.__init__"))
theorem pe_binit {x : Str} {B : Addr} {ta : TA} {e : Expr} {es : List Expr} {p1 p2 pos : Pos} {pl : Sem Bool} (T : BiC X.K X.mg x B) (hg : Gl X x) (ha : PA X (e :: es) ta)
    (hc : eval (.Call (.Attribute (.Name x p1) "__init__" p2) (e :: es) [] pos) X.env = (do
      let ov ← eval (.Name x p1) X.env
      standAt p2.atName
      let (f, first) ← holding [ov] (getMethod ov "__init__" pl)
      callWith pos f first (backTo pos (starEach (e :: es) X.env)) (backToKw pos (keywordEach [] X.env))) := by rfl)
    (he : starEach (e :: es) X.env = (false, eval e X.env) :: starEach es X.env := by rfl) (hpl : (backTo pos (starEach es X.env)).any (·.1) = false := by rfl) (hdb : (x == ("__debug__" : Str)) = false := by decide) :
    PE X (.Call (.Attribute (.Name x p1) "__init__" p2) (e :: es) [] pos) (tVeI X.K ta) := by
  refine ⟨fun pins s σ H Q I h => ?_⟩
  refine PySem.W.methodCall_KW (ld_glob I hg T.gC ?_ hdb) hc
  refine PySem.W.method_cls I.kIn T.ga (PySem.W.cls_value I.kIn T.rd T.fi (by decide +kernel) ?_)
  show wpAny _ _ (callWith pos (Value.builtin "ValueError.__init__") [] (backTo pos (starEach (e :: es) X.env)) []) _ _ _
  refine PyProof.Rows.callWith_method1 (thn (ha.run pos pins _ σ H _ (I.tok _) h) fun us s1 ⟨vs, H1, I1, r1, a, C, ws, ev, hl, T, ea, q⟩ => ?_) he hpl
  subst ev
  cases r1 with
  | @cons _ u0 _ ur ra rw' =>
    obtain rfl : u0 = Value.ref a := ra
    have hlen : ur.length ≤ sizeLine := by
      rw [← Paired.length rw', sizeLine_eq]
      omega
    exact oinit_ok T I1 ea hlen fun s' J => ⟨.non, H1, J, rfl, q⟩
/-- C(e, ..) as a value, C's own __init__ keeping sp -/
def tOexV (C : Addr) (sp : Sp) (ta : TA) : TE := fun σ H Q => ta σ H fun vs H1 => vs.length ≤ 1000 ∧ ∀ a, H1 a = none → sp (.ref a :: vs) (upd H1 a (exo a C none)) (fun v H2 => v = .non ∧ Q (.ref a) H2) (fun _ _ _ => False)
section
variable {CX : CXT} {x : Str} {C fI : Addr} {k : Nat} {fd : FuncData} {ps : List Str} {sp : Sp} {ta : TA} {e : Expr} {es : List Expr} {p pos : Pos}
theorem pe_oex (gu : X.A.guards = some []) (T : OexC X.K C) (iC : PySem.W.findIn X.K (.ref C) "__init__" = some (some (.ref fI))) (tI : PySem.W.typeIn X.K (.ref fI) = some (.type "function"))
    (F1 : FnG X.prog X.w X.K X.mg X.base CX k fI fd ps sp) (hr : Room (k + 1) X.A) (hb : L2.Binds X.K fd ps []) (hx : Passes CX X (fun _ _ _ => False)) (hg : Gl X x) (hm : X.mg x = some (.ref C)) (ha : PA X (e :: es) ta)
    (hdb : (x == ("__debug__" : Str)) = false := by decide) (he : starEach (e :: es) X.env = (false, eval e X.env) :: starEach es X.env := by rfl) (hpl : (backTo pos (starEach es X.env)).any (·.1) = false := by rfl) :
    PE X (.Call (.Name x p) (e :: es) [] pos) (tOexV C sp ta) := by
  refine ⟨fun pins s σ H Q I h => ?_⟩
  obtain ⟨nm, q, N, bs, bm, sn, sub, ab, col, dd, k0, k1, k2, k3, k5, hC, hbm⟩ := T.cls
  refine wpAny_Call_Name_kw (ld_glob I hg hm ?_ hdb)
  refine PySem.W.callWith_K (h₀ := X.base) I.ok.mod.kin T.kC (thn (ha.run pos pins s σ H _ I h) fun us s1 ⟨vs, H1, I1, r1, hz, q1⟩ => ⟨I1.kIn, ?_⟩) he hpl
  show wpAny _ _ (call (.ref C) us) _ _ _
  obtain ⟨hp, g, dr, tk, os⟩ := s1
  have hsz : hp.objs.size ≤ hp.objs.size + 1 := Nat.le_succ _
  have hn : H1 (hp.objs.size + 1) = none := I1.hok.fresh hsz
  have hq := q1 (hp.objs.size + 1) hn
  have kk : ∀ b o, hp.get? b = some o → ((hp.push (PySem.W.kdv_tup us)).push (PySem.HandSPX.excO C hp.objs.size)).get? b = some o := fun b o e => Heap.get?_push_of_some _ (Heap.get?_push_of_some _ e)
  have hget : ((hp.push (PySem.W.kdv_tup us)).push (PySem.HandSPX.excO C hp.objs.size)).get? (hp.objs.size + 1) = some (PySem.HandSPX.excO C hp.objs.size) := by heap_get
  have I2 : Inv X pins σ (upd H1 (hp.objs.size + 1) (exo (hp.objs.size + 1) C none)) ⟨(hp.push (PySem.W.kdv_tup us)).push (PySem.HandSPX.excO C hp.objs.size), g, dr, tk, os⟩ :=
    I1.laid (t' := tk) (a := hp.objs.size + 1) (o := exo (hp.objs.size + 1) C none) (h' := (hp.push (PySem.W.kdv_tup us)).push (PySem.HandSPX.excO C hp.objs.size)) kk hsz (exo_ok hget)
  have r2 : Vals (V.ref (hp.objs.size + 1) :: vs) (Value.ref (hp.objs.size + 1) :: us) := .cons rfl r1
  have hl : (Value.ref (hp.objs.size + 1) :: us ++ []).length = ps.length := by
    have e := r2.length
    rw [F1.len _ _ _ _ hq] at e
    rw [List.append_nil]
    exact e.symm
  have hus : us.length ≤ sizeLine := by
    rw [← Paired.length r1, sizeLine_eq]
    omega
  refine wpAny_call (PySem.HandSPX.call_own F.excBase_ValueError (fun Y => PySem.HandSPX.refsVE_contains Y bm hbm) (I1.kIn _ _ hC) (PySem.W.looks_findIn I1.kIn iC) (fun self => PySem.W.bind_fn I1.kIn self tI) hus
    (codeAny_mono (F1.run _ X.stack _ _ ⟨Value.ref (hp.objs.size + 1) :: us, []⟩ (Value.ref (hp.objs.size + 1) :: us) _ _ (fun _ _ _ => False) gu (hr.make C us []) (I2.env0.make C us []) (by have b := hb _ (Value.ref (hp.objs.size + 1) :: us) I2.kIn hl; rwa [List.append_nil] at b) r2 hq) fun r s' hq' => ?_))
  cases r with
  | error er => exact hx pins σ _ _ er s' I2 hq'
  | ok fl =>
    cases fl with
    | ret u =>
      obtain ⟨v, H2, os2, bare2, un2, hok2, rv, ev, q2⟩ := hq'
      subst ev
      exact ⟨rv, .ref (hp.objs.size + 1), H2, I2.call' (ch := []) os2 un2 hok2 bare2 (fun b z => absurd z (by simp)), rfl, q2⟩
    | next => exact False.elim hq'
    | brk => exact False.elim hq'
    | cont => exact False.elim hq'
/-- C(f = e) -/
theorem pe_oexK {f : Str} {kws : List Keyword} {tk : TA} (gu : X.A.guards = some []) (T : OexC X.K C) (iC : PySem.W.findIn X.K (.ref C) "__init__" = some (some (.ref fI))) (tI : PySem.W.typeIn X.K (.ref fI) = some (.type "function"))
    (F1 : FnG X.prog X.w X.K X.mg X.base CX k fI fd ["self", f] sp) (hr : Room (k + 1) X.A) (hb : ∀ (s : Shared) (u v : Value), X.K.In s.heap → BindsTo s fd ⟨[u], [(f, v)]⟩ [("self", u), (f, v)]) (hx : Passes CX X (fun _ _ _ => False)) (hg : Gl X x) (hm : X.mg x = some (.ref C)) (hkw : PK X kws tk)
    (hall : (backToKw pos (keywordEach kws X.env)).all (·.1.isSome) = true := by rfl) (hks : (backToKw pos (keywordEach kws X.env)).filterMap (·.1) = [f] := by rfl) (hdb : (x == ("__debug__" : Str)) = false := by decide)
    (hpl : ((backTo pos (starEach [] X.env)).any (·.1) || (backToKw pos (keywordEach kws X.env)).any (·.1.isNone)) = false := by rfl) :
    PE X (.Call (.Name x p) [] kws pos) (tOexV C sp tk) := by
  refine ⟨fun pins s σ H Q I h => ?_⟩
  obtain ⟨nm, q, N, bs, bm, sn, sub, ab, col, dd, k0, k1, k2, k3, k5, hC, hbm⟩ := T.cls
  refine wpAny_Call_Name_kw (ld_glob I hg hm ?_ hdb)
  refine PySem.W.callWith_KW0 (h₀ := X.base) I.ok.mod.kin T.kC hall (thn (hkw.run pos pins s σ H _ I h) fun ws s1 z => ?_) hpl
  obtain ⟨vs, H1, I1, r1, hz, q1⟩ := z
  refine ⟨I1.kIn, ?_⟩
  rw [hks]
  show wpAny _ _ (call (.ref C) [] ([f].zip ws)) _ _ _
  obtain ⟨hp, g, dr, tk, os⟩ := s1
  have hsz : hp.objs.size ≤ hp.objs.size + 1 := Nat.le_succ _
  have hn : H1 (hp.objs.size + 1) = none := I1.hok.fresh hsz
  have hq := q1 (hp.objs.size + 1) hn
  have hl := F1.len _ _ _ _ hq
  obtain ⟨v1, w1, rfl, rfl, rv1⟩ : ∃ v1 w1, vs = [v1] ∧ ws = [w1] ∧ RelV v1 w1 := by
    cases r1 with
    | nil => exact absurd hl (by simp)
    | cons a b =>
      cases b with
      | nil => exact ⟨_, _, rfl, rfl, a⟩
      | cons _ _ => exact absurd hl (by simp)
  have kk : ∀ b o, hp.get? b = some o → ((hp.push (PySem.W.kdv_tup [])).push (PySem.HandSPX.excO C hp.objs.size)).get? b = some o := fun b o e => Heap.get?_push_of_some _ (Heap.get?_push_of_some _ e)
  have hget : ((hp.push (PySem.W.kdv_tup [])).push (PySem.HandSPX.excO C hp.objs.size)).get? (hp.objs.size + 1) = some (PySem.HandSPX.excO C hp.objs.size) := by heap_get
  have I2 : Inv X pins σ (upd H1 (hp.objs.size + 1) (exo (hp.objs.size + 1) C none)) ⟨(hp.push (PySem.W.kdv_tup [])).push (PySem.HandSPX.excO C hp.objs.size), g, dr, tk, os⟩ :=
    I1.laid (t' := tk) (a := hp.objs.size + 1) (o := exo (hp.objs.size + 1) C none) (h' := (hp.push (PySem.W.kdv_tup [])).push (PySem.HandSPX.excO C hp.objs.size)) kk hsz (exo_ok hget)
  have r2 : Vals (V.ref (hp.objs.size + 1) :: [v1]) (Value.ref (hp.objs.size + 1) :: [w1]) := .cons rfl (.cons rv1 .nil)
  refine wpAny_call (PySem.KwE.call_kw (kw := [(f, w1)]) F.excBase_ValueError (fun Y => PySem.HandSPX.refsVE_contains Y bm hbm) (I1.kIn _ _ hC) (PySem.W.looks_findIn I1.kIn iC) (fun self => PySem.W.bind_fn I1.kIn self tI) (Nat.zero_le _)
    (codeAny_mono (F1.run _ X.stack _ _ ⟨[Value.ref (hp.objs.size + 1)], [(f, w1)]⟩ [Value.ref (hp.objs.size + 1), w1] _ _ (fun _ _ _ => False) gu (hr.make C [] [(f, w1)]) (I2.env0.make C [] [(f, w1)]) (hb _ _ _ I2.kIn) r2 hq) fun r s' hq' => ?_))
  cases r with
  | error er => exact hx pins σ _ _ er s' I2 hq'
  | ok fl =>
    cases fl with
    | ret u =>
      obtain ⟨v, H2, os2, bare2, un2, hok2, rv, ev, q2⟩ := hq'
      subst ev
      exact ⟨rv, .ref (hp.objs.size + 1), H2, I2.call' (ch := []) os2 un2 hok2 bare2 (fun b z => absurd z (by simp)), rfl, q2⟩
    | next => exact False.elim hq'
    | brk => exact False.elim hq'
    | cont => exact False.elim hq'
end
end DL
namespace DL
open PySem PySem.Spec PyProof.Rows L2 Evl
section
variable {X : Cx} {CX : CXT} {k : Nat} {f : Addr} {fd : FuncData} {ps : List Str} {sp : Sp} {E : XK} {x : Str} {e : Expr} {es : List Expr} {t : TA} {p pos : Pos}
theorem pe_callG (gu : X.A.guards = some []) (F : FnG X.prog X.w X.K X.mg X.base CX k f fd ps sp) (hr : Room k X.A) (hg : Gl X x) (hm : X.mg x = some (.ref f)) (hk : PySem.W.keepIn X.K (.ref f) = true) (hb : L2.Binds X.K fd ps []) (hx : Passes CX X E)
    (ha : PA X (e :: es) t) (hdb : (x == ("__debug__" : Str)) = false := by decide) (he : starEach (e :: es) X.env = (false, eval e X.env) :: starEach es X.env := by rfl) (hpl : (backTo pos (starEach es X.env)).any (·.1) = false := by rfl) :
    PE X (.Call (.Name x p) (e :: es) [] pos) (tCall sp [] E t) := by
  refine ⟨fun pins s σ H Q I h => ?_⟩
  refine wpAny_Call_Name_kw (ld_glob I hg hm ?_ hdb)
  refine PySem.W.callWith_K (h₀ := X.base) I.ok.mod.kin hk (thn (ha.run pos pins s σ H _ I h) fun us s1 ⟨vs, H1, I1, r, q⟩ => ⟨I1.kIn, ?_⟩) he hpl
  have q : sp (vs ++ []) H1 Q E := q
  have r2 : Vals (vs ++ []) (us ++ []) := r.append .nil
  have hl : (us ++ []).length = ps.length := by rw [← r2.length]; exact F.len _ _ _ _ q
  refine wpAny_call (codeAny_mono (F.run X.A X.stack s1 H1 ⟨us, []⟩ (us ++ []) (vs ++ []) Q E gu hr I1.env0 (hb s1 us I1.kIn hl) r2 q) fun r s' hq => ?_)
  cases r with
  | error e => exact hx pins σ H1 s1 e s' I1 hq
  | ok fl =>
    cases fl with
    | ret u => exact I1.after hq
    | next => exact False.elim hq
    | brk => exact False.elim hq
    | cont => exact False.elim hq
end
/-- a def that wants that no guard stands, called by its name -/
structure DFG (P : Program) (w : World) (K : PySem.W.Frag) (mg : Str → Option Value) (base : Heap) (nm : Str) (k : Nat) (ps : List Str) (sp : Sp) : Prop where
  ex : ∃ (f : Addr) (fd : FuncData), FnG P w K mg base (L2.CX P w) k f fd ps sp ∧ mg nm = some (.ref f) ∧ PySem.W.keepIn K (.ref f) = true ∧ L2.Binds K fd ps []
theorem pe_DG {X : Cx} {nm : Str} {k : Nat} {ps : List Str} {sp : Sp} {W : WX} {e : Expr} {es : List Expr} {t : TA} {p pos : Pos} (gu : X.A.guards = some []) (F : DFG X.prog X.w X.K X.mg X.base nm k ps sp) (tk : Takes X W) (hr : Room k X.A) (hg : Gl X nm) (ha : PA X (e :: es) t)
    (hdb : (nm == ("__debug__" : Str)) = false := by decide) (he : starEach (e :: es) X.env = (false, eval e X.env) :: starEach es X.env := by rfl) (hpl : (backTo pos (starEach es X.env)).any (·.1) = false := by rfl) :
    PE X (.Call (.Name nm p) (e :: es) [] pos) (tCall sp [] (fun _ _ _ => False) t) := by
  obtain ⟨f, fd, h1, h2, h3, h4⟩ := F.ex
  exact pe_callG gu h1 hr hg h2 h3 h4 (passes_call tk (fun _ _ _ _ h => h.elim)) ha hdb he hpl
end DL
set_option Elab.async false
set_option linter.all false
set_option maxRecDepth 100000
set_option maxHeartbeats 4000000
/-! texts of any small data, dicts among them: repr and f-strings -/
namespace DL
open PySem PySem.Spec PyProof.Rows L2 Evl
variable {X : Cx} {pins : List (Addr × Obj)} {σ : L2.St} {H H' : Hp} {s : Shared} {K : PySem.W.Frag}
/-- v tells d; {} and {0: 0} among them -/
inductive Itm (K : PySem.W.Frag) (H : Hp) : V → PyData → Prop
  | dp {v : V} {d : PyData} (h : Dp K H v d) : Itm K H v d
  | d0 {a : Addr} (h : H a = some (.dK [])) : Itm K H (.ref a) (.dict [])
  | d1 {a : Addr} (h : H a = some (.dK [(.inl 0, .int 0)])) : Itm K H (.ref a) (.dict [(.int 0, .int 0)])
theorem itm_ex {v : V} {d : PyData} (e : Ex H H') (h : Itm K H v d) : Itm K H' v d := by
  cases h with
  | dp h => exact .dp (dp_ex e _ _ h)
  | d0 h => exact .d0 (e _ _ h)
  | d1 h => exact .d1 (e _ _ h)
theorem itm_reads {a : Addr} {d : PyData} (I : Inv X pins σ H s) (h : Itm X.K H (.ref a) d) : ∃ as, Reads s.heap (.ref a) d as ∧ (d.hasDict = true → sysModules ∉ as) := by
  generalize hv : V.ref a = v at h
  cases h with
  | dp h =>
    subst hv
    obtain ⟨as, rd⟩ := Dp.reads I d (.ref a) (.ref a) h rfl
    exact ⟨as, rd, PyData.noDict_hsm (noDict_dp d _ h)⟩
  | d0 h =>
    cases hv
    obtain ⟨_, hs, vs, kv, o, es, ep, ho, ex, hdat, _, pr, _⟩ := I.hok a _ h
    cases kv
    have e0 : es.toList = [] := by
      cases hes : es.toList with
      | nil => rfl
      | cons _ _ =>
        rw [hes] at pr
        cases pr
    refine ⟨a :: [] ++ [], Reads.dict (as := []) (bs := []) ho ex.1 hdat (by rw [e0]; exact .nil) (by rw [e0]; exact .nil), fun _ q => ?_⟩
    have : sysModules = a := by simpa using q
    rw [← this] at hs
    simp at hs
  | d1 h =>
    cases hv
    obtain ⟨_, hs, vs, kv, o, es, ep, ho, ex, hdat, _, pr, _⟩ := I.hok a _ h
    obtain ⟨k1, v1, rfl, ek, ev⟩ : ∃ k1 v1, vs = [(k1, v1)] ∧ k1 = (Sum.inl 0 : Key) ∧ RelV (.int 0) v1 := by
      cases kv with
      | cons a b =>
        cases b
        exact ⟨_, _, rfl, a.1.symm, a.2⟩
    subst ek
    obtain ⟨e1, hes, ke, ve⟩ : ∃ e1, es.toList = [e1] ∧ keyIs (.inl 0) e1.key = true ∧ e1.val = v1 := by
      generalize es.toList = l at pr
      cases pr with
      | cons a b c =>
        cases c
        exact ⟨_, rfl, a, b⟩
    obtain ⟨t0, ev⟩ := (show ∃ t, v1 = Value.int 0 t from ev)
    obtain ⟨t1, ke⟩ := Value.isInt_shape (k := 0) (v := e1.key) ke
    refine ⟨a :: [] ++ [], Reads.dict (as := []) (bs := []) ho ex.1 hdat (by rw [hes]; exact ReadsAll.cons (as := []) (by show Reads _ e1.key (.int 0) []; rw [ke]; exact .int 0 t1) .nil) (by rw [hes]; exact ReadsAll.cons (as := []) (by show Reads _ e1.val (.int 0) []; rw [ve, ev]; exact .int 0 t0) .nil), fun _ q => ?_⟩
    have : sysModules = a := by simpa using q
    rw [← this] at hs
    simp at hs
/-- data with a short text -/
structure Txd (d : PyData) : Prop where
  shows : d.showable = true
  deep : d.depth ≤ 60
  len : d.shown.length ≤ 1000
  s1 : ∀ x, d = .str x → x.length ≤ 1000 ∧ (reprText x).length ≤ 1000
  i1 : ∀ i, d = .int i → i.natAbs.log2 < 1900 ∧ (Str.ofString (toString i)).length ≤ 1000
def tellR : PyData → Str
  | .none => "None"
  | .bool b => if b then "True" else "False"
  | .int i => toString i
  | .str x => reprText x
  | d => d.shown
/-- repr(x), x any small data -/
def rReprD (K : PySem.W.Frag) : List V → Hp → VK → Prop := fun xs H Q => ∃ (v : V) (d : PyData), xs = [v] ∧ Itm K H v d ∧ Txd d ∧ Q (.str (tellR d)) H
theorem line1000 : 1000 ≤ sizeLine := by decide
theorem call_reprD (hg : X.A.guards = some []) (hu : X.A.units + 100 < cLine) : CallR X (.builtin "repr") (rReprD X.K) := by
  intro pins s σ H xs us Q I r h
  obtain ⟨v, d, rfl, hd, T, q⟩ := h
  obtain ⟨u, rfl, ru⟩ := vals1 r
  cases v with
  | ref a =>
    cases ru
    obtain ⟨as, rd, sm⟩ := itm_reads I hd
    have e : tellR d = d.shown := by
      cases rd <;> rfl
    rw [e] at q
    exact repr_of_reads' rd T.shows sm hg (by have := T.deep; omega) (fun _ _ e => e) (fun h' u tk k => ⟨.str d.shown, H, I.kept k, ⟨u, rfl⟩, q⟩) (Nat.le_trans T.len line1000)
  | _ => 
    cases hd with
    | dp hd =>
      cases hd <;> first
        | (obtain rfl := ru; exact PySem.P.repr_of_none ⟨.str _, H, I.tok _, ⟨_, rfl⟩, q⟩)
        | (obtain rfl := ru; exact PySem.P.repr_of_bool ⟨.str _, H, I.tok _, ⟨_, rfl⟩, q⟩)
        | (obtain ⟨t, rfl⟩ := ru; exact PySem.P.repr_of_int (by have := (T.i1 _ rfl).1; omega) ⟨.str _, H, I.tok _, ⟨_, rfl⟩, q⟩)
        | (obtain ⟨t, rfl⟩ := ru; exact PySem.P.repr_of_str ⟨.str _, H, I.tok _, ⟨_, rfl⟩, q⟩ (Nat.le_trans (T.s1 _ rfl).2 line1000))
/-- {x}, x any small data: some short text -/
def tFmtD (K : PySem.W.Frag) (te : TE) : TE := fun σ H Q => te σ H fun x H1 => ∃ d, Itm K H1 x d ∧ Txd d ∧ ∀ m : Str, m.length ≤ 1000 → Q (.str m) H1
theorem pe_fmtD {e : Expr} {te : TE} {pos : Pos} (hg : X.A.guards = some []) (hu : X.A.units + 100 < cLine) (he : PE X e te) : PE X (.FormattedValue e (-1) none pos) (tFmtD X.K te) := by
  refine ⟨fun pins s σ H Q I h => ?_⟩
  refine wpAny_FormattedValue_plain (thn (he.run pins s σ H _ I h) fun v s1 hv => ?_)
  obtain ⟨x, H1, I1, ru, d, hd, T, q⟩ := hv
  cases x with
  | ref a =>
    cases ru
    obtain ⟨as, rd, sm⟩ := itm_reads I1 hd
    exact formatField_of_reads rd T.shows sm hg (by have := T.deep; omega) (fun _ _ e => e) (fun h' u tk k => ⟨.str d.shown, H1, I1.kept k, ⟨u, rfl⟩, q _ T.len⟩) (Nat.le_trans T.len line1000)
  | _ => 
    cases hd with
    | dp hd =>
      cases hd <;> first
        | (obtain rfl := ru; exact wpAny_formatField_none ⟨.str "None", H1, I1.tok _, ⟨_, rfl⟩, q _ (by decide)⟩)
        | (obtain rfl := ru; exact wpAny_formatField_bool ⟨.str _, H1, I1.tok _, ⟨_, rfl⟩, q _ (by split <;> decide)⟩)
        | (obtain ⟨t, rfl⟩ := ru; exact wpAny_formatField_int (by have := (T.i1 _ rfl).1; omega) ⟨.str _, H1, I1.tok _, ⟨_, rfl⟩, q _ (T.i1 _ rfl).2⟩)
        | (obtain ⟨t, rfl⟩ := ru; exact wpAny_formatField_str ⟨.str _, H1, I1, ⟨t, rfl⟩, q _ (T.s1 _ rfl).1⟩ ⟨.str _, H1, I1.tok _, ⟨_, rfl⟩, q _ (T.s1 _ rfl).1⟩ (Nat.le_trans (T.s1 _ rfl).1 line1000))
end DL
set_option Elab.async false
set_option linter.all false
set_option maxRecDepth 100000
set_option maxHeartbeats 4000000
namespace K16
open PySem PySem.Spec PyProof.Rows L2 Evl DL

def topS (i : Nat) : Stmt := PySem.Challenge.pw_allcalls_k02_plain_crossed_full_and_piec.main.body.getD i (.Pass ⟨0, 0, 0, 0⟩)
/-- what the module's names hold -/
structure Txt (mg : Str → Option Value) : Prop where
  b_isinstance : mg "isinstance" = none
  b_int : mg "int" = none
  b_bool : mg "bool" = none
  b_tuple : mg "tuple" = none
  b_list : mg "list" = none
  b_len : mg "len" = none
  b_range : mg "range" = none
  b_zip : mg "zip" = none
  b_max : mg "max" = none
  b_min : mg "min" = none
  b_sum : mg "sum" = none
  b_abs : mg "abs" = none
  b_repr : mg "repr" = none
  b_enumerate : mg "enumerate" = none
  b_sorted : mg "sorted" = none
  b_set : mg "set" = none
  c_MOST_SIDES : ∃ t, mg "MOST_SIDES" = some (.int 5 t)
  c_MOST_TRACKS : ∃ t, mg "MOST_TRACKS" = some (.int 6 t)
theorem pe_const {X : Cx} {x : Str} {n : Int} {pos : Pos} (h : ∃ t, X.mg x = some (.int n t)) (hg : Gl X x) (hd : (x == ("__debug__" : Str)) = false := by decide) : PE X (.Name x pos) (tC (.int n)) := by
  obtain ⟨t, h⟩ := h
  exact pe_glob hg h ⟨t, rfl⟩ hd
def isNum : PyData → Bool
  | .int _ => true
  | _ => false
def isIn (d : PyData) (a b : Int) : Bool := match d with
  | .int i => decide (a ≤ i) && decide (i ≤ b)
  | _ => false
def isBool : PyData → Bool
  | .bool _ => true
  | _ => false
theorem kit_int (d : PyData) : kitB (tyD d) "int" = some (isNum d || isBool d) := by
  cases d
  · show kitB "NoneType" "int" = some false; decide +kernel
  · show kitB "bool" "int" = some true; decide +kernel
  · show kitB "int" "int" = some true; decide +kernel
  · show kitB "str" "int" = some false; decide +kernel
  · show kitB "list" "int" = some false; decide +kernel
  · show kitB "tuple" "int" = some false; decide +kernel
  · show kitB "dict" "int" = some false; decide +kernel
theorem kit_bool (d : PyData) : kitB (tyD d) "bool" = some (isBool d) := by
  cases d
  · show kitB "NoneType" "bool" = some false; decide +kernel
  · show kitB "bool" "bool" = some true; decide +kernel
  · show kitB "int" "bool" = some false; decide +kernel
  · show kitB "str" "bool" = some false; decide +kernel
  · show kitB "list" "bool" = some false; decide +kernel
  · show kitB "tuple" "bool" = some false; decide +kernel
  · show kitB "dict" "bool" = some false; decide +kernel
def isTup : PyData → Option (List PyData)
  | .tuple ds => some ds
  | _ => none
theorem kit_tuple (d : PyData) : kitB (tyD d) "tuple" = some (isTup d).isSome := by
  cases d
  · show kitB "NoneType" "tuple" = some false; decide +kernel
  · show kitB "bool" "tuple" = some false; decide +kernel
  · show kitB "int" "tuple" = some false; decide +kernel
  · show kitB "str" "tuple" = some false; decide +kernel
  · show kitB "list" "tuple" = some false; decide +kernel
  · show kitB "tuple" "tuple" = some true; decide +kernel
  · show kitB "dict" "tuple" = some false; decide +kernel
local macro_rules | `(tactic| walk_at "dl") => `(tactic| first
  | exact ev_c | exact ev_var rfl | exact eda_nil
  | exact ed_var rfl (by assumption)
  | exact ed_int ev_c | exact ed_int (ev_var rfl)
  | (refine eda_cons ?_ ?_ <;> walk_at "dl")
  | (refine ed_int ?_; walk_at "dl")
  | (refine ev_op ?_ ?_ rv_I0 <;> walk_at "dl"))

section
variable {P : Program} {w : World} {K : PySem.W.Frag} {mg : Str → Option Value} {base : Heap}
def R_is_number (ds : List PyData) (r : PyData) : Prop := ∃ d, ds = [d] ∧ r = .bool (isNum d)
abbrev s_is_number : Stmt := topS 9
abbrev N_is_number : List Str := ["thing"]
theorem sc_is_number : FnScope N_is_number ["thing"] (defScope s_is_number) := ⟨rfl, rfl, rfl, by decide +kernel, rfl, by decide +kernel, by decide +kernel⟩
theorem ok_is_number {f : Addr} {fd : FuncData} (F : Fun K "is_number" "is_number" s_is_number f fd) (T : Txt mg)
      :
    FnOk P w K mg base CX0 1 f fd ["thing"] (spD K 1 R_is_number) := by
  refine F.ok sc_is_number (fun vs H Q E h => spD_len h) (fun cdv A outer s H vs Q E hr h => ?_)
  obtain ⟨ds, r, hd, _, ⟨d, rfl, rfl⟩, k⟩ := h
  obtain ⟨v0, rfl, d0⟩ := dpa_one hd
  refine ⟨_, (pss_one (ps_ret (pe_and (pe_callB call_isi (by rfl) T.b_isinstance (by decide +kernel) (pa_cons (pv 0) (pa_cons (pe_bltn (v := .ty "int") (u := .type "int") (by rfl) T.b_int (by decide +kernel) rfl) pa_nil))) (pe_one (pe_not (pe_callB call_isi (by rfl) T.b_isinstance (by decide +kernel) (pa_cons (pv 0) (pa_cons (pe_bltn (v := .ty "bool") (u := .type "bool") (by rfl) T.b_bool (by decide +kernel) rfl) pa_nil)))))))), ?_⟩
  refine d_ret (K := K) (ed_bool (ev_is (ev_andV (ev_isiD (ed_var rfl d0) (kit_int d)) fun _ => ev_notV (ev_isiD (ed_var rfl d0) (kit_bool d))) ?_)) k
  cases d <;> rfl

def R_is_within (ds : List PyData) (r : PyData) : Prop := ∃ (d : PyData) (a b : Int), ds = [d, .int a, .int b] ∧ r = .bool (isIn d a b)
abbrev s_is_within : Stmt := topS 10
abbrev N_is_within : List Str := ["thing", "low", "high"]
theorem sc_is_within : FnScope N_is_within ["thing", "low", "high"] (defScope s_is_within) := ⟨rfl, rfl, rfl, by decide +kernel, rfl, by decide +kernel, by decide +kernel⟩
theorem ok_is_within {f : Addr} {fd : FuncData} (F : Fun K "is_within" "is_within" s_is_within f fd) (T : Txt mg)
    (D_is_number : DF P w K mg base "is_number" 1 ["thing"] (spD K 1 R_is_number))  :
    FnOk P w K mg base CX0 2 f fd ["thing", "low", "high"] (spD K 3 R_is_within) := by
  refine F.ok sc_is_within (fun vs H Q E h => spD_len h) (fun cdv A outer s H vs Q E hr h => ?_)
  obtain ⟨ds, r, hd, _, ⟨d, a, b, rfl, rfl⟩, k⟩ := h
  obtain ⟨v0, v1, v2, rfl, d0, d1, d2⟩ := dpa_three hd
  cases dp_int d1
  cases dp_int d2
  refine ⟨_, (pss_one (ps_ret (pe_and (pe_D D_is_number (hr.mono (by decide)) (by rfl) (pa_cons (pv 0) pa_nil)) (pe_one (pe_chain op_le op_le (pv 1) (pv 0) (pv 2)))))), ?_⟩
  cases d with
  | int i =>
    cases dp_int d0
    exact d_ret (K := K) (ed_bool (ev_andV (a := true) (EvD.bool (ed_call (R := R_is_number) (ds := [.int i]) (by walk_at "dl") rfl ⟨_, rfl, rfl⟩)) fun _ => ev_chain (by walk_at "dl") (by walk_at "dl") (by walk_at "dl"))) k
  | _ => exact d_ret (K := K) (ed_bool (ev_andV (a := false) (b := false) (EvD.bool (ed_call (R := R_is_number) (eda_cons (ed_var rfl d0) eda_nil) rfl ⟨_, rfl, rfl⟩)) fun z => nomatch z)) k

def isTupOf (d : PyData) (m : Int) : Bool := match d with
  | .tuple ds => decide ((ds.length : Int) = m)
  | _ => false
def R_is_tuple_of (ds : List PyData) (r : PyData) : Prop := ∃ (d : PyData) (m : Int), ds = [d, .int m] ∧ r = .bool (isTupOf d m)
abbrev s_is_tuple_of : Stmt := topS 11
abbrev N_is_tuple_of : List Str := ["thing", "many"]
theorem sc_is_tuple_of : FnScope N_is_tuple_of ["thing", "many"] (defScope s_is_tuple_of) := ⟨rfl, rfl, rfl, by decide +kernel, rfl, by decide +kernel, by decide +kernel⟩
theorem ok_is_tuple_of {f : Addr} {fd : FuncData} (F : Fun K "is_tuple_of" "is_tuple_of" s_is_tuple_of f fd) (T : Txt mg)
      :
    FnOk P w K mg base CX0 1 f fd ["thing", "many"] (spD K 2 R_is_tuple_of) := by
  refine F.ok sc_is_tuple_of (fun vs H Q E h => spD_len h) (fun cdv A outer s H vs Q E hr h => ?_)
  obtain ⟨ds, r, hd, _, ⟨d, m, rfl, rfl⟩, k⟩ := h
  obtain ⟨v0, v1, rfl, d0, d1⟩ := dpa_two hd
  cases dp_int d1
  refine ⟨_, (pss_one (ps_ret (pe_and (pe_callB call_isi (by rfl) T.b_isinstance (by decide +kernel) (pa_cons (pv 0) (pa_cons (pe_bltn (v := .ty "tuple") (u := .type "tuple") (by rfl) T.b_tuple (by decide +kernel) rfl) pa_nil))) (pe_one (pe_cmpR op_eq (pe_callB call_len_seq (by rfl) T.b_len PySem.boot_len (pa_cons (pv 0) pa_nil)) (pv 1) (nomark _)))))), ?_⟩
  cases d with
  | tuple es => exact d_ret (K := K) (ed_bool (ev_andV (a := true) (ev_isiD (ed_var rfl d0) (kit_tuple _)) fun _ => ev_is (ev_op (ev_lenT (ed_var rfl d0)) (ev_var rfl) (rv_eq rfl)) (by rw [decide_vint]))) k
  | _ => exact d_ret (K := K) (ed_bool (ev_andV (a := false) (b := false) (ev_isiD (ed_var rfl d0) (kit_tuple _)) fun z => nomatch z)) k

/-- an item of any kind in, data out -/
def spI (K : PySem.W.Frag) (R : PyData → PyData → Prop) : Sp := fun vs H Q _ => ∃ v d r, vs = [v] ∧ Itm K H v d ∧ R d r ∧ ∀ v H', Ex H H' → Dp K H' v r → Q v H'
def isRow : PyData → Bool
  | .list _ => true
  | .tuple _ => true
  | _ => false
def R_is_row (d r : PyData) : Prop := r = .bool (isRow d)
theorem itm_ty {v : V} {d : PyData} {H : Hp} (h : Itm K H v d) : TyX K H v (.type (tyD d)) := by
  cases h with
  | dp h => exact tyD_dp h
  | d0 h => exact .base (.dK h)
  | d1 h => exact .base (.dK h)
theorem kit_row (d : PyData) : PySem.W.kitAny K (.type (tyD d)) [.type "list", .type "tuple"] = some (isRow d) := by
  cases d
  · exact kitAny_cons (b := false) (kit_ty (show kitB "NoneType" "list" = some false by decide +kernel)) (fun _ => kitAny_cons (b := false) (kit_ty (show kitB "NoneType" "tuple" = some false by decide +kernel)) (fun _ => rfl) fun z => nomatch z) fun z => nomatch z
  · exact kitAny_cons (b := false) (kit_ty (show kitB "bool" "list" = some false by decide +kernel)) (fun _ => kitAny_cons (b := false) (kit_ty (show kitB "bool" "tuple" = some false by decide +kernel)) (fun _ => rfl) fun z => nomatch z) fun z => nomatch z
  · exact kitAny_cons (b := false) (kit_ty (show kitB "int" "list" = some false by decide +kernel)) (fun _ => kitAny_cons (b := false) (kit_ty (show kitB "int" "tuple" = some false by decide +kernel)) (fun _ => rfl) fun z => nomatch z) fun z => nomatch z
  · exact kitAny_cons (b := false) (kit_ty (show kitB "str" "list" = some false by decide +kernel)) (fun _ => kitAny_cons (b := false) (kit_ty (show kitB "str" "tuple" = some false by decide +kernel)) (fun _ => rfl) fun z => nomatch z) fun z => nomatch z
  · exact kitAny_cons (b := true) (kit_ty (show kitB "list" "list" = some true by decide +kernel)) (fun z => nomatch z) fun _ => rfl
  · exact kitAny_cons (b := false) (kit_ty (show kitB "tuple" "list" = some false by decide +kernel)) (fun _ => kitAny_cons (b := true) (kit_ty (show kitB "tuple" "tuple" = some true by decide +kernel)) (fun z => nomatch z) fun _ => rfl) fun z => nomatch z
  · exact kitAny_cons (b := false) (kit_ty (show kitB "dict" "list" = some false by decide +kernel)) (fun _ => kitAny_cons (b := false) (kit_ty (show kitB "dict" "tuple" = some false by decide +kernel)) (fun _ => rfl) fun z => nomatch z) fun z => nomatch z
/-- isinstance(x, (list, tuple)), x an item at a name -/
theorem ev_row {σ : L2.St} {H : Hp} {i : Nat} {v : V} {d : PyData} (hi : σ[i]? = some (some v)) (h : Itm K H v d) : Ev (tCB (rIsiT K) (tCons (tVar i) (tCons (tTup (tCons (tC (.ty "list")) (tCons (tC (.ty "tuple")) tNil))) tNil))) σ H (.bl (isRow d)) := fun H1 e Q q => by
  refine ⟨v, hi, ?_⟩
  refine ⟨by show 2 ≤ sizeLine; decide, fun p hp => ?_⟩
  exact ⟨_, p, [.ty "list", .ty "tuple"], _, [.type "list", .type "tuple"], _, rfl, upd_same, .cons (.ty _) (.cons (.ty _) .nil), itm_ty (itm_ex (e.trans (Ex.new hp)) h), kit_row d, q _ (Ex.new hp)⟩
def R_check_sides (ds : List PyData) (r : PyData) : Prop := ∃ d, ds = [d, .int 5] ∧ isIn d 2 5 = true ∧ r = .none
def B_check_sides (CB : Addr) (ds : List PyData) (C : Addr) : Prop := ∃ d, ds = [d, .int 5] ∧ isIn d 2 5 = false ∧ C = CB
variable {CB CL CR : Addr}
abbrev s_check_sides : Stmt := topS 17
abbrev N_check_sides : List Str := ["sides", "most"]
theorem sc_check_sides : FnScope N_check_sides ["sides", "most"] (defScope s_check_sides) := ⟨rfl, rfl, rfl, by decide +kernel, rfl, by decide +kernel, by decide +kernel⟩
theorem ok_check_sides {f : Addr} {fd : FuncData} (F : Fun K "check_sides" "check_sides" s_check_sides f fd) (T : Txt mg)
    (D_is_within : DF P w K mg base "is_within" 2 ["thing", "low", "high"] (spD K 3 R_is_within)) (TB : ErC K mg "BadSides" CB)  :
    FnOk P w K mg base (L2.CX P w) 3 f fd ["sides", "most"] (spR K 2 R_check_sides (B_check_sides CB)) := by
  refine F.okX sc_check_sides (fun vs H Q E h => spR_len h) (fun cdv A outer s H vs Q E hr h => ?_)
  obtain ⟨ds, hd, _, h⟩ := h
  obtain ⟨d, rfl⟩ : ∃ d, ds = [d, .int 5] := by
    rcases h with ⟨r, ⟨d, e, _⟩, _⟩ | ⟨C, ⟨d, e, _⟩, _⟩
    · exact ⟨d, e⟩
    · exact ⟨d, e⟩
  obtain ⟨v0, v1, rfl, d0, d1⟩ := dpa_two hd
  cases dp_int d1
  refine ⟨_, (pss_one (ps_if (pt_not (pt_val (pe_D D_is_within (hr.mono (by decide)) (by rfl) (pa_cons (pv 0) (pa_cons pe_int (pa_cons (pv 1) pa_nil)))))) (pss_one (ps_raiseC rfl (takes_of rfl rfl rfl rfl) TB (by rfl) (pe_joined (.cons pe_str (.cons (pe_fmt (pv 1)) .nil))))) pss_nil)), ?_⟩
  refine s_when (b := !isIn d 2 5) (et_not (et_B (EvD.bool (ed_call (R := R_is_within) (ds := [d, .int 2, .int 5]) (eda_cons (ed_var rfl d0) (eda_cons (ed_int ev_c) (eda_cons (ed_int (ev_var rfl)) eda_nil))) rfl ⟨_, _, _, rfl, rfl⟩)))) (fun hb H1 e1 => ?_) fun hb H1 e1 => ?_
  · have hb : isIn d 2 5 = false := by simpa using hb
    rcases h with ⟨r, ⟨d', e, g, _⟩, _⟩ | ⟨C, ⟨d', e, g, rfl⟩, k⟩
    · cases e
      rw [g] at hb
      cases hb
    · refine ⟨_, rfl, by decide +kernel, .int 5, rfl, .inr ⟨5, rfl, by decide, ?_⟩⟩
      refine ⟨_, rfl, by decide +kernel, ?_⟩
      exact k H1 e1
  · have hb : isIn d 2 5 = true := by simpa using hb
    rcases h with ⟨r, ⟨d', e, g, rfl⟩, k⟩ | ⟨C, ⟨d', e, g, rfl⟩, k⟩
    · exact k .non H1 e1 .non
    · cases e
      rw [g] at hb
      cases hb

def R_check_room (ds : List PyData) (r : PyData) : Prop := ∃ d, ds = [d] ∧ isIn d 0 99 = true ∧ r = .none
def B_check_room (CR : Addr) (ds : List PyData) (C : Addr) : Prop := ∃ d, ds = [d] ∧ isIn d 0 99 = false ∧ C = CR
end
end K16
set_option Elab.async false
set_option linter.all false
set_option maxRecDepth 100000
set_option maxHeartbeats 4000000
/-! the head of a law: one run of the top, looked at in parts; the written part is found by names -/
namespace DL
open PySem PySem.Spec PyProof.Rows L2 Evl LamX He
/-- what the names reach, and the interpreter's statics -/
def fragY (look : Addr → Option Obj) (n : Nat) : PySem.W.Frag := frT look (asD look n ++ [cStatics])
/-- what is known of the written part: facts, defs, one more look, the empty tables of some defs -/
structure KnownY (fa : List Fa) (fn : List DefD) (tf : List Defn) (ex : PySem.W.Frag → Bool) (hp : Heap) (K : PySem.W.Frag) : Prop where
  says : SaysD fa fn K
  extra : ex K = true
  tabs : ∀ one ∈ tf, PySem.W.codeHdIn K (cT K one).1 (cT K one).2 = true ∧ K.lookup (cT K one).2 = none ∧ hp.get? (cT K one).2 = some { cls := .none, data := .fields #[] }
abbrev SeenY : Type := (AlD × Bool) × Bool
def lookY (n : Nat) (fa : List Fa) (fn : List DefD) (tf : List Defn) (ex : PySem.W.Frag → Bool) (look : Addr → Option Obj) : SeenY :=
  ((obsD fa fn (fragY look n), ex (fragY look n)), tabsB look tf (fragY look n))
def dueY (fn : List DefD) : SeenY := ((valD fn, true), true)
theorem tabs_known {look : Addr → Option Obj} {as : List Addr} : ∀ {tf : List Defn}, tabsB look tf (frT look as) = true →
    ∀ one ∈ tf, PySem.W.codeHdIn (frT look as) (cT (frT look as) one).1 (cT (frT look as) one).2 = true ∧ (frT look as).lookup (cT (frT look as) one).2 = none ∧ look (cT (frT look as) one).2 = some { cls := .none, data := .fields #[] } := by
  intro tf told one mem
  have here := List.all_eq_true.mp told one mem
  rw [Bool.and_eq_true] at here
  cases at_ : look (cT (frT look as) one).2 with
  | none => rw [at_] at here; exact absurd here.2 Bool.false_ne_true
  | some ob =>
    rw [at_] at here
    exact ⟨here.1, frT_none at_ here.2, by rw [emptyTab_eq here.2]⟩
theorem known_of {n : Nat} {fa : List Fa} {fn : List DefD} {tf : List Defn} {ex : PySem.W.Frag → Bool} {hp : Heap} (told : lookY n fa fn tf ex hp.get? = dueY fn) : KnownY fa fn tf ex hp (fragY hp.get? n) := by
  obtain ⟨p1, p3⟩ := Prod.mk.inj told
  obtain ⟨p1, p2⟩ := Prod.mk.inj p1
  exact ⟨p1, p2, tabs_known p3⟩
def hookY (n : Nat) (fa : List Fa) (fn : List DefD) (tf : List Defn) (ex : PySem.W.Frag → Bool) : PySem.W.Hook where
  α := SeenY
  obs := fun sh => lookY n fa fn tf ex sh.heap.get?
  val := fun _ => dueY fn
  says := fun _ hp => ∃ K : PySem.W.Frag, K.In hp ∧ KnownY fa fn tf ex hp K
  of := fun _ _ told => ⟨_, frT_in, known_of told⟩
  keeps := fun _ _ _ ⟨K, inn, kn⟩ stay => ⟨K, PySem.W.Frag.In.keeps inn stay, ⟨kn.says, kn.extra, fun one mem => ⟨(kn.tabs one mem).1, (kn.tabs one mem).2.1, stay _ _ (kn.tabs one mem).2.2⟩⟩⟩
def seeY (n : Nat) (fa : List Fa) (fn : List DefD) (tf : List Defn) (ex : PySem.W.Frag → Bool) (st : PySem.W.SharedT) : SeenY := lookY n fa fn tf ex (HandSHeadRun.getT st)
theorem seeY_eq {n : Nat} {fa : List Fa} {fn : List DefD} {tf : List Defn} {ex : PySem.W.Frag → Bool} (st : PySem.W.SharedT) : seeY n fa fn tf ex st = (hookY n fa fn tf ex).obs st.abs := by
  have same : HandSHeadRun.getT st = st.abs.heap.get? := funext (HandSHeadRun.getT_eq st)
  show lookY n fa fn tf ex (HandSHeadRun.getT st) = lookY n fa fn tf ex st.abs.heap.get?
  rw [same]
/-- the state behind the top -/
noncomputable abbrev lastY (r : PySem.W.OpenRow) (M : Nat) (w : World) (os : OsState) : Option PySem.W.SharedT := HandSHeadRun.endF (HandSHeadRun.stepQ (HandSHeadRun.denQ HandSHeadRun.tabQ) r.prog w) M r.prog w os
theorem some_parts {α β γ δ : Type} {x : Option α} {f : α → β} {g : α → γ} {k : α → δ} {a : β} {b : γ} {c : δ} (h1 : x.map f = some a) (h2 : x.map g = some b) (h3 : x.map k = some c) : x.map (fun s => (f s, g s, k s)) = some (a, b, c) := by
  cases x with
  | none => cases h1
  | some y =>
    cases h1
    cases h2
    cases h3
    rfl
theorem some_pair {α β γ : Type} {x : Option α} {f : α → β} {g : α → γ} {a : β} {b : γ} (h1 : x.map f = some a) (h2 : x.map g = some b) : x.map (fun s => (f s, g s)) = some (a, b) := by
  cases x with
  | none => cases h1
  | some y =>
    cases h1
    cases h2
    rfl
theorem some_and {α : Type} {x : Option α} {f g : α → Bool} (h1 : x.map f = some true) (h2 : x.map g = some true) : x.map (fun s => f s && g s) = some true := by
  cases x with
  | none => cases h1
  | some y =>
    have e1 := Option.some.inj h1
    have e2 := Option.some.inj h2
    show some (f y && g y) = some true
    rw [e1, e2] <;> rfl
/-- the run's equation from looks of their own -/
theorem run_of {r : PySem.W.OpenRow} {q : Program} {n M : Nat} {fa : List Fa} {fn : List DefD} {tf : List Defn} {ex : PySem.W.Frag → Bool} {loose : List Str} {w : World}
    (h1 : ∀ os : OsState, (lastY r M w os).map (fun s => (HandSHeadRun.looksF r.prog (PySem.W.boot_heap w.params) s.abs, HandSHeadRun.seenQ q loose (importedModules r.prog.main.body) (fun s => PySem.W.xlAt q [] s && PySem.W.recOk r.toRowW.records s) s.abs)) = some (true, PySem.W.openGood q loose))
    (h2 : ∀ os : OsState, (lastY r M w os).map (fun s => obsD fa fn (fragY (HandSHeadRun.getT s) n)) = some (valD fn))
    (h3 : ∀ os : OsState, (lastY r M w os).map (fun s => ex (fragY (HandSHeadRun.getT s) n)) = some true)
    (h4 : ∀ os : OsState, (lastY r M w os).map (fun s => tabsB (HandSHeadRun.getT s) tf (fragY (HandSHeadRun.getT s) n)) = some true) :
    HandSHeadRun.RunEq r q (hookY n fa fn tf ex) (seeY n fa fn tf ex) M loose w := fun os => by
  have all := some_pair (some_pair (h2 os) (h3 os)) (h4 os)
  have two := h1 os
  cases e : lastY r M w os with
  | none => rw [e] at all; cases all
  | some st =>
    rw [e] at all two
    have all2 : seeY n fa fn tf ex st = dueY fn := Option.some.inj all
    obtain ⟨t1, t2⟩ := Prod.mk.inj (Option.some.inj two)
    show (lastY r M w os).map _ = _
    rw [e]
    exact congrArg some (Prod.ext t1 (Prod.ext t2 all2))
/-- the head of a law whose written part is found by a look -/
theorem walkGE {l : PySem.W.OpenLaw} {n k : Nat} {q : Program} {loose : List Str} {XP : (Str → Option Value) → Heap → Prop} {YP : World → Heap → Prop} {d : DefRec} {CX : World → CXT} {x : Str}
    (most : l.most = some n) (line : n ≤ sizeLine) (plain : d.params.defaults = []) (room : Room k callerA)
    (F : ∀ (w : World) (mg : Str → Option Value) (fa : Addr) (h : Heap), YP w h → h.Ns mainGlobals mg → mg d.name = some (.ref fa) →
      ∃ (K : PySem.W.Frag) (fd : FuncData) (sp : Sp), K.In h ∧ (∀ (s : Shared) (u : Value), BindsTo s fd ⟨[u], []⟩ [(x, u)]) ∧
        (∀ (H : Hp) (a : Addr) (ns : List Int), ns.length ≤ n → Only H → SqL K H a (ns.map V.int) → sp [.ref a] H (fun v _ => v = .bl true) fun _ _ _ => False) ∧
        ∀ base : Heap, K.In base → base.Ns mainGlobals mg → FnG l.prog w K mg base (CX w) k fa fd [x] sp)
    (out : ∀ (w : World) (H : Hp) (s : Shared) (e : Value) (s' : Shared), CX w [] H s (fun _ _ _ => False) e s' → False) : PySem.W.WalkO q loose XP YP l.row.toRowW d [] (fun f vs => PySem.call f vs) := by
  apply Att.attach_call most plain
  intro w s0 s1 mg mb fa o pm cd doc a vs ns G Y ho hd hcd hmg hobj hints hlen hg
  obtain ⟨K, fd, sp, KX, hb, ask, hF⟩ := F w mg fa _ Y G.T.g hmg
  exact callG KX G.T.g G.T.b G.T.builtins G.T.nolimit hg hobj hints (Nat.le_trans hlen line) room hF hb (fun H h1 h2 => ask H a ns hlen h1 h2) fun H e s' => out w H s1 e s'
/-- .. of a law with lambdas of its own: c its code object, T its table -/
theorem walkTE {l : PySem.W.OpenLaw} {n k : Nat} {q : Program} {loose : List Str} {XP : (Str → Option Value) → Heap → Prop} {YP : World → Heap → Prop} {d : DefRec} {CX : World → CXT} {x : Str}
    (most : l.most = some n) (line : n ≤ sizeLine) (plain : d.params.defaults = []) (room : Room k callerA)
    (F : ∀ (w : World) (mg : Str → Option Value) (fa : Addr) (h : Heap), YP w h → h.Ns mainGlobals mg → mg d.name = some (.ref fa) →
      ∃ (K : PySem.W.Frag) (fd : FuncData) (c T : Addr) (sp : Sp), K.In h ∧ h.get? T = some { cls := .none, data := .fields #[] } ∧ K.lookup T = none ∧ PySem.W.CodeHd h c T ∧ (∀ (s : Shared) (u : Value), BindsTo s fd ⟨[u], []⟩ [(x, u)]) ∧
        (∀ (H : Hp) (a : Addr) (ns : List Int), ns.length ≤ n → H T = some (.tbl #[]) → SqL K H a (ns.map V.int) → sp [.ref a] H (fun v _ => v = .bl true) fun _ _ _ => False) ∧
        ∀ base : Heap, K.In base → base.Ns mainGlobals mg → TabB base mg c T → FnG l.prog w K mg base (CX w) k fa fd [x] sp)
    (out : ∀ (w : World) (H : Hp) (s : Shared) (e : Value) (s' : Shared), CX w [] H s (fun _ _ _ => False) e s' → False) : PySem.W.WalkO q loose XP YP l.row.toRowW d [] (fun f vs => PySem.call f vs) := by
  apply Att.attach_call most plain
  intro w s0 s1 mg mb fa o pm cd doc a vs ns G Y ho hd hcd hmg hobj hints hlen hg
  obtain ⟨K, fd, c, T, sp, KX, t1, t2, t3, bnd, ask, hF⟩ := F w mg fa _ Y G.T.g hmg
  exact callT KX G.T.g G.T.b G.T.builtins G.T.nolimit hg t1 t2 t3 G.T.bmain hobj hints (Nat.le_trans hlen line) room hF bnd (fun H h1 h2 => ask H a ns hlen h1 h2) fun H e s' => out w H s1 e s'
/-- a def without defaults, as a look finds it -/
theorem fn_look {K : PySem.W.Frag} {x qual : Str} {st : Stmt} {f : Addr} (F : ∃ fd, FunD K x qual (defArgs st) (defBody st) (defScope st) [] [] f fd) :
    ∃ (oc kV dc pm cd ct : Value) (od an : Option Addr) (sl : Array (Option Value)), K.lookup f = some ⟨oc, od, .func (PySem.W.fnOf x qual (defArgs st) (defBody st) (defScope st) .none kV dc pm an cd ct), sl⟩ ∧ PySem.W.codeIn K cd qual = true ∧ PySem.W.keepIn K (.ref f) = true := by
  obtain ⟨fd, F⟩ := F
  obtain ⟨oc, od, dV, kV, dc, pm, an, cd, ct, sl, e1, e2, e3, e4, _⟩ := F.ex
  rcases e4 with ⟨_, e5⟩ | ⟨e5, _⟩
  · subst e5
    subst e1
    exact ⟨oc, kV, dc, pm, cd, ct, od, an, sl, e2, e3, F.kp⟩
  · exact absurd rfl e5
end DL
set_option Elab.async false
set_option linter.all false
set_option maxRecDepth 100000
set_option maxHeartbeats 4000000
/-! the head of a law where more defs than one have lambdas: Ts, their code objects and tables -/
namespace DL
open PySem PySem.Spec PyProof.Rows L2 Evl LamX He
section
variable {P : Program} {w : World} {K : PySem.W.Frag} {mg mb : Str → Option Value} {CX : CXT} {k : Nat} {fa a : Addr} {Ts : List (Addr × Addr)} {fd : FuncData} {x : Str} {sp : Sp} {s1 : Shared} {vs : List Value} {ns : List Int}
theorem callTs_at (KX : K.In s1.heap) (hns : s1.heap.Ns mainGlobals mg) (hb : s1.heap.Ns builtinsNs mb) (hbb : ∀ y : Str, y ≠ "__name__" → mb y = bootBuiltins y) (lim : s1.heap.NoLimit) (gens : s1.gens = #[])
    (tab : ∀ p ∈ Ts, s1.heap.get? p.2 = some { cls := .none, data := .fields #[] }) (free_ : ∀ p ∈ Ts, K.lookup p.2 = none) (code : ∀ p ∈ Ts, PySem.W.CodeHd s1.heap p.1 p.2)
    (bmod : ∃ (bm : Addr) (ob : Obj), mg "__builtins__" = some (.ref bm) ∧ bm ≠ builtinsNs ∧ s1.heap.get? bm = some ob ∧ ob.cls = .type "module" ∧ ob.dict = some builtinsNs ∧ ob.data = .plain)
    (obj : s1.heap.get? a = some { cls := .type "list", data := .seq vs.toArray }) (room : Room k callerA)
    (F : ∀ base : Heap, K.In base → base.Ns mainGlobals mg → (∀ p ∈ Ts, TabB base mg p.1 p.2) → FnG P w K mg base CX k fa fd [x] sp) (bind : ∀ (s : Shared) (u : Value), BindsTo s fd ⟨[u], []⟩ [(x, u)])
    (out : ∀ H e s', CX [] H s1 (fun _ _ _ => False) e s' → False) (H : Hp) (atT : ∀ p ∈ Ts, H p.2 = some (.tbl #[])) (only : ∀ b, H b = none ∨ (∃ p ∈ Ts, b = p.2) ∨ ∃ o xs, H b = some (.frz o (.lst xs))) (ask : sp [.ref a] H (fun v _ => v = .bl true) fun _ _ _ => False)
    (held : HOk P w H s1.heap) (atA : ∀ b, H b ≠ none → b = a ∨ ∃ p ∈ Ts, b = p.2) (away : H a ≠ none → K.lookup a = none) :
    codeAny (model P w) callerA (.call (.ref fa) ⟨[.ref a], []⟩) (fun r s' => r = .ok (.ret (.bool true)) ∧ OldK s1.heap s'.heap ∧ s'.os = s1.os ∧ AllBare s'.gens) s1 := by
  have none_of : ∀ {b : Addr}, b ≠ a → (∀ p ∈ Ts, b ≠ p.2) → H b = none := fun {b} n1 n2 => by
    cases q : H b with
    | none => rfl
    | some u =>
      rcases atA b (by rw [q]; simp) with y | y
      · exact absurd y n1
      · obtain ⟨p, hp, y⟩ := y
        exact absurd y (n2 p hp)
  have free : ∀ {b : Addr} {o : Obj}, s1.heap.get? b = some o → b ≠ a → (∀ p ∈ Ts, b ≠ p.2) → (hidT s1.heap H).get? b = some o := fun {b o} e n1 n2 => hidT_get e (none_of n1 n2)
  -- an object that is neither a list nor a table
  have other : ∀ {b : Addr} {o : Obj}, s1.heap.get? b = some o → (∀ us n, o.data ≠ .seq us n) → o.data ≠ .fields #[] → b ≠ a ∧ ∀ p ∈ Ts, b ≠ p.2 := fun {b o} e n1 n2 => by
    refine ⟨fun y => ?_, fun p hp y => ?_⟩
    · rw [y, obj] at e
      cases e
      exact n1 _ _ rfl
    · rw [y, tab p hp] at e
      cases e
      exact n2 rfl
  have names : ∀ {b : Addr} {m : Str → Option Value}, s1.heap.Ns b m → (hidT s1.heap H).Ns b m := fun {b m} z => by
    obtain ⟨o, es, ep, e, d, r⟩ := z
    obtain ⟨n1, n2⟩ := other e (fun us n y => by rw [d] at y; cases y) (fun y => by rw [d] at y; cases y)
    exact ⟨o, es, ep, free e n1 n2, d, r⟩
  have written : K.In (hidT s1.heap H) := fun b o e => by
    refine hidT_get (KX b o e) ?_
    cases q : H b with
    | none => rfl
    | some u =>
      rcases atA b (by rw [q]; simp) with y | y
      · rw [y] at e q
        rw [away (by rw [q]; simp)] at e
        cases e
      · obtain ⟨p, hp, y⟩ := y
        rw [y, free_ p hp] at e
        cases e
  obtain ⟨mc, l1, l2⟩ := lim
  have modu : L2.Mod K mg (hidT s1.heap H) := ⟨written, names hns, ⟨mb, names hb, hbb⟩, ⟨mc, names l1, l2⟩⟩
  have TB : ∀ p ∈ Ts, TabB (hidT s1.heap H) mg p.1 p.2 := fun p hp => by
    refine ⟨?_, ?_, fun z => ?_⟩
    · obtain ⟨o, us, file, tf, flags, tg, inF, text, tt, e1, r1, r2, r3, r4⟩ := code p hp
      obtain ⟨n1, n2⟩ := other e1 (fun us' n y => by rw [r2] at y; cases y) (fun y => by
        rw [r2] at y
        cases y
        simp at r3)
      exact ⟨o, us, file, tf, flags, tg, inF, text, tt, free e1 n1 n2, r1, r2, r3, r4⟩
    · obtain ⟨bm, ob, b1, b2, b3, b4, b5, b6⟩ := bmod
      obtain ⟨n1, n2⟩ := other b3 (fun us n y => by rw [b6] at y; cases y) (fun y => by rw [b6] at y; cases y)
      have nG : bm ≠ mainGlobals := fun y => by
        obtain ⟨o, es, ep, e, d, _⟩ := hns
        rw [y, e] at b3
        cases b3
        rw [d] at b6
        cases b6
      exact ⟨bm, ob, b1, b2, nG, n2 p hp, free b3 n1 n2, b4, b5, b6⟩
    · obtain ⟨o, es, ep, e, d, _⟩ := hns
      rw [z, tab p hp] at e
      cases e
      cases d
  have env : Env0 P w K mg (hidT s1.heap H) callerA [] s1 H := ⟨rfl, modu, fun b o e => of_hidT e, Nat.le_of_eq (hidT_size _ _), trivial, fun b z => (List.not_mem_nil (show b ∈ ([] : List Addr) from z)).elim, held, .of_eq gens⟩
  refine codeAny_mono ((F _ written (names hns) TB).run callerA [] s1 H ⟨[.ref a], []⟩ [.ref a] [.ref a] _ _ rfl room env (bind s1 (.ref a)) (.cons rfl .nil) ask) fun r s2 z => ?_
  cases r with
  | error e => exact (out H e s2 z).elim
  | ok fl =>
    cases fl with
    | ret u =>
      obtain ⟨v, H2, os, bare, un, held2, rv, rfl⟩ := z
      obtain rfl : u = Value.bool true := rv
      have kept : ∀ b o, (∀ p ∈ Ts, b ≠ p.2) → s1.heap.get? b = some o → s2.heap.get? b = some o := fun b o nb e => by
        rcases only b with none_ | y | ⟨ob, xs, fz⟩
        · exact un.keep b o e none_ (by intro m; exact absurd (show b ∈ ([] : List Addr) from m) (by simp)) (by simp)
        · obtain ⟨p, hp, y⟩ := y
          exact absurd y (nb p hp)
        · obtain ⟨o1, _⟩ := held b _ fz
          obtain ⟨o2, _⟩ := held2 b _ (un.frzs b ob _ fz)
          rw [e] at o1
          cases o1
          exact o2
      have now : ∀ p ∈ Ts, ∃ more, s2.heap.get? p.2 = some { cls := .none, data := .fields (#[] ++ more) } := fun p hp => by
        obtain ⟨more, grown⟩ := un.tbls p.2 #[] (atT p hp)
        exact ⟨more, held2 p.2 _ grown⟩
      have which : ∀ b : Addr, (∃ p ∈ Ts, b = p.2) ∨ ∀ p ∈ Ts, b ≠ p.2 := fun b => by
        by_cases y : ∃ p ∈ Ts, b = p.2
        · exact .inl y
        · exact .inr fun p hp e => y ⟨p, hp, e⟩
      refine ⟨rfl, ⟨fun b o e => ?_, fun b o e => ?_⟩, os, bare⟩
      · rcases which b with ⟨p, hp, y⟩ | y
        · subst y
          rw [tab p hp] at e
          cases e
          obtain ⟨more, at_⟩ := now p hp
          exact .inr (.inl ⟨((code p hp).tab (tab p hp)).isCodeTable, rfl, #[], more, rfl, at_⟩)
        · exact .inl (kept b o y e)
      · rcases which b with ⟨p, hp, y⟩ | y
        · obtain ⟨more, at_⟩ := now p hp
          exact ⟨_, y ▸ at_⟩
        · exact ⟨o, kept b o y e⟩
    | next => exact z.elim
    | brk => exact z.elim
    | cont => exact z.elim
theorem callTs (KX : K.In s1.heap) (hns : s1.heap.Ns mainGlobals mg) (hb : s1.heap.Ns builtinsNs mb) (hbb : ∀ y : Str, y ≠ "__name__" → mb y = bootBuiltins y) (lim : s1.heap.NoLimit) (gens : s1.gens = #[])
    (tab : ∀ p ∈ Ts, s1.heap.get? p.2 = some { cls := .none, data := .fields #[] }) (free_ : ∀ p ∈ Ts, K.lookup p.2 = none) (code : ∀ p ∈ Ts, PySem.W.CodeHd s1.heap p.1 p.2)
    (bmod : ∃ (bm : Addr) (ob : Obj), mg "__builtins__" = some (.ref bm) ∧ bm ≠ builtinsNs ∧ s1.heap.get? bm = some ob ∧ ob.cls = .type "module" ∧ ob.dict = some builtinsNs ∧ ob.data = .plain)
    (obj : s1.heap.get? a = some { cls := .type "list", data := .seq vs.toArray }) (isI : IntsAre vs ns) (few : ns.length ≤ sizeLine) (room : Room k callerA)
    (F : ∀ base : Heap, K.In base → base.Ns mainGlobals mg → (∀ p ∈ Ts, TabB base mg p.1 p.2) → FnG P w K mg base CX k fa fd [x] sp) (bind : ∀ (s : Shared) (u : Value), BindsTo s fd ⟨[u], []⟩ [(x, u)])
    (ask : ∀ H : Hp, (∀ p ∈ Ts, H p.2 = some (.tbl #[])) → SqL K H a (ns.map V.int) → sp [.ref a] H (fun v _ => v = .bl true) fun _ _ _ => False) (out : ∀ H e s', CX [] H s1 (fun _ _ _ => False) e s' → False) :
    codeAny (model P w) callerA (.call (.ref fa) ⟨[.ref a], []⟩) (fun r s' => r = .ok (.ret (.bool true)) ∧ OldK s1.heap s'.heap ∧ s'.os = s1.os ∧ AllBare s'.gens) s1 := by
  have vals := vals_ints isI
  have len := isI.length
  have aT : ∀ p ∈ Ts, a ≠ p.2 := fun p hp y => by
    rw [y, tab p hp] at obj
    cases obj
  have which : ∀ b : Addr, (∃ p ∈ Ts, b = p.2) ∨ ∀ p ∈ Ts, b ≠ p.2 := fun b => by
    by_cases y : ∃ p ∈ Ts, b = p.2
    · exact .inl y
    · exact .inr fun p hp e => y ⟨p, hp, e⟩
  cases known : K.lookup a with
  | some o =>
    have e := KX a o known
    rw [obj] at e
    cases e
    let H : Hp := fun b => if (∃ p ∈ Ts, b = p.2) then some (.tbl #[]) else none
    have at_ : ∀ p ∈ Ts, H p.2 = some (.tbl #[]) := fun p hp => if_pos ⟨p, hp, rfl⟩
    have off : ∀ b, (∀ p ∈ Ts, b ≠ p.2) → H b = none := fun b n => if_neg fun ⟨p, hp, e⟩ => n p hp e
    have seq : SqL K H a (ns.map V.int) := .inr ⟨_, vs.toArray, _, known, rfl, rfl, rfl, by rw [List.size_toArray, len]; exact few, by simpa using vals⟩
    refine callTs_at KX hns hb hbb lim gens tab free_ code bmod obj room F bind out H at_ (fun b => ?_) (ask H at_ seq) (fun b u z => ?_) (fun b z => ?_) fun z => (z (off a aT)).elim
    · rcases which b with y | y
      · exact .inr (.inl y)
      · exact .inl (off b y)
    · rcases which b with ⟨p, hp, y⟩ | y
      · subst y
        rw [at_ p hp] at z
        cases z
        exact tab p hp
      · rw [off b y] at z
        cases z
    · rcases which b with y | y
      · exact .inr y
      · exact absurd (off b y) z
  | none =>
    let H : Hp := fun b => if b = a then some (.frz { cls := .type "list", data := .seq vs.toArray } (.lst (ns.map V.int))) else if (∃ p ∈ Ts, b = p.2) then some (.tbl #[]) else none
    have at_ : H a = some (.frz { cls := .type "list", data := .seq vs.toArray } (.lst (ns.map V.int))) := if_pos rfl
    have atT : ∀ p ∈ Ts, H p.2 = some (.tbl #[]) := fun p hp => (if_neg (Ne.symm (aT p hp))).trans (if_pos ⟨p, hp, rfl⟩)
    have off : ∀ b, b ≠ a → (∀ p ∈ Ts, b ≠ p.2) → H b = none := fun b n1 n2 => (if_neg n1).trans (if_neg fun ⟨p, hp, e⟩ => n2 p hp e)
    have seq : SqL K H a (ns.map V.int) := .inl (.inr ⟨_, at_⟩)
    refine callTs_at KX hns hb hbb lim gens tab free_ code bmod obj room F bind out H atT (fun b => ?_) (ask H atT seq) (fun b u z => ?_) (fun b z => ?_) fun _ => known
    · by_cases y : b = a
      · exact .inr (.inr ⟨_, _, y ▸ at_⟩)
      · rcases which b with y2 | y2
        · exact .inr (.inl y2)
        · exact .inl (off b y y2)
    · by_cases y : b = a
      · subst y
        rw [at_] at z
        cases z
        exact ⟨obj, by rw [List.length_map]; exact few, vs, _, vals, obj⟩
      · rcases which b with ⟨p, hp, y2⟩ | y2
        · subst y2
          rw [atT p hp] at z
          cases z
          exact tab p hp
        · rw [off b y y2] at z
          cases z
    · by_cases y : b = a
      · exact .inl y
      · rcases which b with y2 | y2
        · exact .inr y2
        · exact absurd (off b y y2) z
end
theorem walkTsE {l : PySem.W.OpenLaw} {n k : Nat} {q : Program} {loose : List Str} {XP : (Str → Option Value) → Heap → Prop} {YP : World → Heap → Prop} {d : DefRec} {CX : World → CXT} {x : Str}
    (most : l.most = some n) (line : n ≤ sizeLine) (plain : d.params.defaults = []) (room : Room k callerA)
    (F : ∀ (w : World) (mg : Str → Option Value) (fa : Addr) (h : Heap), YP w h → h.Ns mainGlobals mg → mg d.name = some (.ref fa) →
      ∃ (K : PySem.W.Frag) (fd : FuncData) (Ts : List (Addr × Addr)) (sp : Sp), K.In h ∧ (∀ p ∈ Ts, h.get? p.2 = some { cls := .none, data := .fields #[] }) ∧ (∀ p ∈ Ts, K.lookup p.2 = none) ∧ (∀ p ∈ Ts, PySem.W.CodeHd h p.1 p.2) ∧ (∀ (s : Shared) (u : Value), BindsTo s fd ⟨[u], []⟩ [(x, u)]) ∧
        (∀ (H : Hp) (a : Addr) (ns : List Int), ns.length ≤ n → (∀ p ∈ Ts, H p.2 = some (.tbl #[])) → SqL K H a (ns.map V.int) → sp [.ref a] H (fun v _ => v = .bl true) fun _ _ _ => False) ∧
        ∀ base : Heap, K.In base → base.Ns mainGlobals mg → (∀ p ∈ Ts, TabB base mg p.1 p.2) → FnG l.prog w K mg base (CX w) k fa fd [x] sp)
    (out : ∀ (w : World) (H : Hp) (s : Shared) (e : Value) (s' : Shared), CX w [] H s (fun _ _ _ => False) e s' → False) : PySem.W.WalkO q loose XP YP l.row.toRowW d [] (fun f vs => PySem.call f vs) := by
  apply Att.attach_call most plain
  intro w s0 s1 mg mb fa o pm cd doc a vs ns G Y ho hd hcd hmg hobj hints hlen hg
  obtain ⟨K, fd, Ts, sp, KX, t1, t2, t3, bnd, ask, hF⟩ := F w mg fa _ Y G.T.g hmg
  exact callTs KX G.T.g G.T.b G.T.builtins G.T.nolimit hg t1 t2 t3 G.T.bmain hobj hints (Nat.le_trans hlen line) room hF bnd (fun H h1 h2 => ask H a ns hlen h1 h2) fun H e s' => out w H s1 e s'
end DL
set_option Elab.async false
set_option linter.all false
set_option maxRecDepth 100000
set_option maxHeartbeats 0
namespace K16
open PySem PySem.Spec PyProof.Rows L2 Evl DL He LamX
abbrev r_is_number : Stmt := topS 9
abbrev r_is_within : Stmt := topS 10
abbrev r_check_sides : Stmt := topS 17
abbrev r_check_tracks : Stmt := topS 18
abbrev r_is_tuple_of : Stmt := topS 11
abbrev r_is_switch : Stmt := topS 20
abbrev r_rises : Stmt := topS 12
abbrev r_is_switch_tuple : Stmt := topS 21
abbrev r_init : Stmt := inClass (topS 16) 0
abbrev r_beq : Stmt := inClass (topS 16) 1
abbrev r_mate : Stmt := topS 24
abbrev r_is_joined : Stmt := topS 25
abbrev r_built : Stmt := topS 26
abbrev r_plain : Stmt := topS 27
abbrev r_crossed : Stmt := topS 28
abbrev r_full : Stmt := topS 29
abbrev r__law_begun : Stmt := topS 37
abbrev r__law_draw : Stmt := topS 38
abbrev r__law_mixed : Stmt := topS 40
abbrev r__law_few : Stmt := topS 46
abbrev r__law_mate : Stmt := topS 44
abbrev r__law_pairs : Stmt := topS 43
abbrev r__law_joined : Stmt := topS 45
abbrev r__law_pins : Stmt := topS 49
abbrev r__law_lots : Stmt := topS 50
abbrev r__law_made : Stmt := topS 48
abbrev r__law_pick : Stmt := topS 39
abbrev r__law_scope : Stmt := topS 47
abbrev r_check_box : Stmt := topS 19
abbrev r_shifted : Stmt := topS 30
abbrev r_beside : Stmt := topS 31
abbrev r_joined_pins : Stmt := topS 33
abbrev r_piece_of : Stmt := topS 34
abbrev r_pieces : Stmt := topS 35
abbrev r_has_switch : Stmt := topS 22
abbrev r_is_lot : Stmt := topS 23
abbrev r_without : Stmt := topS 32
abbrev r__law_odd : Stmt := topS 42
abbrev r__law_refused : Stmt := topS 51
abbrev r__law_caught : Stmt := topS 41
abbrev r_law : Stmt := topS 52
def clsB (K : PySem.W.Frag) (C : Addr) : Bool :=
  eqO (PySem.W.findIn K (.ref C) "__getattribute__") (some (some (.builtin "BaseException.__getattribute__"))) && (eqO (PySem.W.findIn K (.ref C) "__getattr__") (some none) && (PySem.W.hasDictIn K C && (eqO (PySem.W.findIn K (.ref C) "__class__") (some (some (.builtin "object.__class__"))) &&
  (decide (PySem.W.mroIn K C (.type "object") = some true) && decide (PySem.W.kitOne K (.ref C) (.ref C) = some true)))))
theorem clsB_ok {K : PySem.W.Frag} {C : Addr} (h : clsB K C = true) (e : PySem.W.subIn K (.ref C) (.type "BaseException") = some true) (n : PySem.W.specialIn K (.builtin "object.__class__") "__get__" = some (some (.builtin "getset_descriptor.__get__"))) (t : PySem.W.takesIn K (.builtin "object.__class__") = some true) :
    ExcC K C ∧ PySem.W.kitOne K (.ref C) (.ref C) = some true := by
  obtain ⟨h1, h⟩ := ba h
  obtain ⟨h2, h⟩ := ba h
  obtain ⟨h3, h⟩ := ba h
  obtain ⟨h4, h⟩ := ba h
  obtain ⟨h5, h6⟩ := ba h
  exact ⟨⟨eqO_ok h1, eqO_ok h2, e, h3, eqO_ok h4, n, t, of_decide_eq_true h5⟩, of_decide_eq_true h6⟩
theorem exc_ok {K : PySem.W.Frag} {x : Str} {mg : Str → Option Value} (g : mg x = some (.ref (ga K x))) (c : (Fa.exc x).ok K = true) : ErC K mg x (ga K x) ∧ PySem.W.subIn K (.ref (ga K x)) (.type "BaseException") = some true := by
  obtain ⟨h1, h⟩ := ba c
  obtain ⟨h2, h⟩ := ba h
  obtain ⟨h3, h4⟩ := ba h
  exact ⟨⟨g, ⟨_, PySem.F.excBase_ValueError, h1⟩, h2, of_decide_eq_true h3, of_decide_eq_true h4⟩, of_decide_eq_true h3⟩
def exA (K : PySem.W.Frag) : Bool := clsB K (ga K "BadSides") && (clsB K (ga K "BadTracks") && (clsB K (ga K "BadSwitches") && (clsB K (ga K "BadBox") && (clsB K (ga K "OtherSides") && (clsB K (ga K "BadGone") && (decide (PySem.W.specialIn K (.builtin "object.__class__") "__get__" = some (some (.builtin "getset_descriptor.__get__"))) && (decide (PySem.W.takesIn K (.builtin "object.__class__") = some true) && (eqO (PySem.W.findIn K (.ref (ga K "Box")) "__class__") (some (some (.builtin "object.__class__"))) && (decide (PySem.W.mroIn K (ga K "Box") (.type "object") = some true) && (decide (PySem.W.kitOne K (.type "tuple") (.ref (ga K "Box")) = some false) && (decide (PySem.W.kitOne K (.type "NoneType") (.ref (ga K "Box")) = some false) && (PySem.W.notFirst K (ga K "Box") (.type "tuple") && (PySem.W.notFirst K (ga K "Box") (.type "NoneType") && (eqO (PySem.W.findIn K (.ref (ga K "Box")) "__ne__") (some (some (.builtin "object.__ne__"))) && (decide (PySem.W.subIn K (.ref (ga K "Box")) (.type "object") = some true) && (decide (PySem.W.kitOne K (.type "bool") (.ref (ga K "Box")) = some false) && (decide (PySem.W.kitOne K (.type "int") (.ref (ga K "Box")) = some false) && (decide (PySem.W.kitOne K (.type "str") (.ref (ga K "Box")) = some false) && (decide (PySem.W.kitOne K (.type "list") (.ref (ga K "Box")) = some false) && (decide (PySem.W.kitOne K (.type "dict") (.ref (ga K "Box")) = some false)))))))))))))))))))))
def d_0 : DefD := ⟨("is_number", none), "is_number", "is_number", defArgs r_is_number, defBody r_is_number, defScope r_is_number, [], []⟩
def d_1 : DefD := ⟨("is_within", none), "is_within", "is_within", defArgs r_is_within, defBody r_is_within, defScope r_is_within, [], []⟩
def d_2 : DefD := ⟨("check_sides", none), "check_sides", "check_sides", defArgs r_check_sides, defBody r_check_sides, defScope r_check_sides, [], []⟩
def d_3 : DefD := ⟨("check_tracks", none), "check_tracks", "check_tracks", defArgs r_check_tracks, defBody r_check_tracks, defScope r_check_tracks, [], []⟩
def d_4 : DefD := ⟨("is_tuple_of", none), "is_tuple_of", "is_tuple_of", defArgs r_is_tuple_of, defBody r_is_tuple_of, defScope r_is_tuple_of, [], []⟩
def d_5 : DefD := ⟨("is_switch", none), "is_switch", "is_switch", defArgs r_is_switch, defBody r_is_switch, defScope r_is_switch, [], []⟩
def d_6 : DefD := ⟨("rises", none), "rises", "rises", defArgs r_rises, defBody r_rises, defScope r_rises, [], []⟩
def d_7 : DefD := ⟨("is_switch_tuple", none), "is_switch_tuple", "is_switch_tuple", defArgs r_is_switch_tuple, defBody r_is_switch_tuple, defScope r_is_switch_tuple, [], []⟩
def d_8 : DefD := ⟨("Box", some "__init__"), "__init__", "Box.__init__", defArgs r_init, defBody r_init, defScope r_init, [], []⟩
def d_9 : DefD := ⟨("Box", some "__eq__"), "__eq__", "Box.__eq__", defArgs r_beq, defBody r_beq, defScope r_beq, [], []⟩
def d_10 : DefD := ⟨("mate", none), "mate", "mate", defArgs r_mate, defBody r_mate, defScope r_mate, [], []⟩
def d_11 : DefD := ⟨("is_joined", none), "is_joined", "is_joined", defArgs r_is_joined, defBody r_is_joined, defScope r_is_joined, [], []⟩
def d_12 : DefD := ⟨("built", none), "built", "built", defArgs r_built, defBody r_built, defScope r_built, [], []⟩
def d_13 : DefD := ⟨("plain", none), "plain", "plain", defArgs r_plain, defBody r_plain, defScope r_plain, [], []⟩
def d_14 : DefD := ⟨("crossed", none), "crossed", "crossed", defArgs r_crossed, defBody r_crossed, defScope r_crossed, [], []⟩
def d_15 : DefD := ⟨("full", none), "full", "full", defArgs r_full, defBody r_full, defScope r_full, [], []⟩
def d_16 : DefD := ⟨("_law_begun", none), "_law_begun", "_law_begun", defArgs r__law_begun, defBody r__law_begun, defScope r__law_begun, [], []⟩
def d_17 : DefD := ⟨("_law_draw", none), "_law_draw", "_law_draw", defArgs r__law_draw, defBody r__law_draw, defScope r__law_draw, [], []⟩
def d_18 : DefD := ⟨("_law_mixed", none), "_law_mixed", "_law_mixed", defArgs r__law_mixed, defBody r__law_mixed, defScope r__law_mixed, [], []⟩
def d_19 : DefD := ⟨("_law_few", none), "_law_few", "_law_few", defArgs r__law_few, defBody r__law_few, defScope r__law_few, [], []⟩
def d_20 : DefD := ⟨("_law_mate", none), "_law_mate", "_law_mate", defArgs r__law_mate, defBody r__law_mate, defScope r__law_mate, [], []⟩
def d_21 : DefD := ⟨("_law_pairs", none), "_law_pairs", "_law_pairs", defArgs r__law_pairs, defBody r__law_pairs, defScope r__law_pairs, [], []⟩
def d_22 : DefD := ⟨("_law_joined", none), "_law_joined", "_law_joined", defArgs r__law_joined, defBody r__law_joined, defScope r__law_joined, [], []⟩
def d_23 : DefD := ⟨("_law_pins", none), "_law_pins", "_law_pins", defArgs r__law_pins, defBody r__law_pins, defScope r__law_pins, [], []⟩
def d_24 : DefD := ⟨("_law_lots", none), "_law_lots", "_law_lots", defArgs r__law_lots, defBody r__law_lots, defScope r__law_lots, [], []⟩
def d_25 : DefD := ⟨("_law_made", none), "_law_made", "_law_made", defArgs r__law_made, defBody r__law_made, defScope r__law_made, [], []⟩
def d_26 : DefD := ⟨("_law_pick", none), "_law_pick", "_law_pick", defArgs r__law_pick, defBody r__law_pick, defScope r__law_pick, [], []⟩
def d_27 : DefD := ⟨("_law_scope", none), "_law_scope", "_law_scope", defArgs r__law_scope, defBody r__law_scope, defScope r__law_scope, [], []⟩
def d_28 : DefD := ⟨("check_box", none), "check_box", "check_box", defArgs r_check_box, defBody r_check_box, defScope r_check_box, [], []⟩
def d_29 : DefD := ⟨("shifted", none), "shifted", "shifted", defArgs r_shifted, defBody r_shifted, defScope r_shifted, [], []⟩
def d_30 : DefD := ⟨("beside", none), "beside", "beside", defArgs r_beside, defBody r_beside, defScope r_beside, [], []⟩
def d_31 : DefD := ⟨("joined_pins", none), "joined_pins", "joined_pins", defArgs r_joined_pins, defBody r_joined_pins, defScope r_joined_pins, [], []⟩
def d_32 : DefD := ⟨("piece_of", none), "piece_of", "piece_of", defArgs r_piece_of, defBody r_piece_of, defScope r_piece_of, [], []⟩
def d_33 : DefD := ⟨("pieces", none), "pieces", "pieces", defArgs r_pieces, defBody r_pieces, defScope r_pieces, [], []⟩
def d_34 : DefD := ⟨("has_switch", none), "has_switch", "has_switch", defArgs r_has_switch, defBody r_has_switch, defScope r_has_switch, [], []⟩
def d_35 : DefD := ⟨("is_lot", none), "is_lot", "is_lot", defArgs r_is_lot, defBody r_is_lot, defScope r_is_lot, [], []⟩
def d_36 : DefD := ⟨("without", none), "without", "without", defArgs r_without, defBody r_without, defScope r_without, [], []⟩
def d_37 : DefD := ⟨("_law_odd", none), "_law_odd", "_law_odd", defArgs r__law_odd, defBody r__law_odd, defScope r__law_odd, [], []⟩
def d_38 : DefD := ⟨("_law_refused", none), "_law_refused", "_law_refused", defArgs r__law_refused, defBody r__law_refused, defScope r__law_refused, [], []⟩
def d_39 : DefD := ⟨("_law_caught", none), "_law_caught", "_law_caught", defArgs r__law_caught, defBody r__law_caught, defScope r__law_caught, [], []⟩
def d_40 : DefD := ⟨("law", none), "law", "law", defArgs r_law, defBody r_law, defScope r_law, [], []⟩
def fnL : List DefD := [d_0, d_1, d_2, d_3, d_4, d_5, d_6, d_7, d_8, d_9, d_10, d_11, d_12, d_13, d_14, d_15, d_16, d_17, d_18, d_19, d_20, d_21, d_22, d_23, d_24, d_25, d_26, d_27, d_28, d_29, d_30, d_31, d_32, d_33, d_34, d_35, d_36, d_37, d_38, d_39, d_40]
def faL : List Fa := [.glo "is_number", .glo "is_within", .glo "check_sides", .glo "check_tracks", .glo "is_tuple_of", .glo "is_switch", .glo "rises", .glo "is_switch_tuple", .glo "mate", .glo "is_joined", .glo "built", .glo "plain", .glo "crossed", .glo "full", .glo "_law_begun", .glo "_law_draw", .glo "_law_mixed", .glo "_law_few", .glo "_law_mate", .glo "_law_pairs", .glo "_law_joined", .glo "_law_pins", .glo "_law_lots", .glo "_law_made", .glo "_law_pick", .glo "_law_scope", .glo "check_box", .glo "shifted", .glo "beside", .glo "joined_pins", .glo "piece_of", .glo "pieces", .glo "has_switch", .glo "is_lot", .glo "without", .glo "_law_odd", .glo "_law_refused", .glo "_law_caught", .glo "law", .free "isinstance", .free "int", .free "bool", .free "tuple", .free "list", .free "len", .free "range", .free "zip", .free "max", .free "min", .free "sum", .free "abs", .free "repr", .free "enumerate", .free "sorted", .free "set", .int "MOST_SIDES" 5, .int "MOST_TRACKS" 6, .glo "BadSides", .glo "BadTracks", .glo "BadSwitches", .glo "BadBox", .glo "OtherSides", .glo "BadGone", .glo "CallError", .glo "Box", .exc "BadSides", .exc "BadTracks", .exc "BadSwitches", .exc "BadBox", .exc "OtherSides", .exc "BadGone", .exm "BadSides" "CallError" true, .exm "BadTracks" "CallError" true, .exm "BadSwitches" "CallError" true, .exm "BadBox" "CallError" true, .exm "OtherSides" "CallError" true, .exm "BadGone" "CallError" true, .cls "Box", .mkr "Box", .meth "Box" "__eq__", .noat "Box" "sides", .noat "Box" "tracks", .noat "Box" "switches", .noat "Box" "known"]
def tfL : List Defn := [("_law_refused", none)]
abbrev RR : PySem.W.OpenRow := PySem.W.OpenLaw.row PySem.Challenge.rw_allcalls_k02_plain_crossed_full_and_piec
abbrev vq : Program := PySem.W.view RR.prog [52]
def names0 : List Str := [Str.ofString "CallError", Str.ofString "BadBox", Str.ofString "BadGone", Str.ofString "BadSides", Str.ofString "BadSwitches", Str.ofString "BadTracks", Str.ofString "OtherSides", Str.ofString "is_number", Str.ofString "is_within", Str.ofString "is_tuple_of", Str.ofString "rises", Str.ofString "MOST_SIDES"]
def names1 : List Str := [Str.ofString "MOST_TRACKS", Str.ofString "Box", Str.ofString "check_sides", Str.ofString "check_tracks", Str.ofString "check_box", Str.ofString "is_switch", Str.ofString "is_switch_tuple", Str.ofString "has_switch", Str.ofString "is_lot", Str.ofString "mate", Str.ofString "is_joined", Str.ofString "built"]
def names2 : List Str := [Str.ofString "plain", Str.ofString "crossed", Str.ofString "full", Str.ofString "shifted", Str.ofString "beside", Str.ofString "without", Str.ofString "joined_pins", Str.ofString "piece_of", Str.ofString "pieces", Str.ofString "_law_begun", Str.ofString "_law_draw", Str.ofString "_law_pick"]
def names3 : List Str := [Str.ofString "_law_mixed", Str.ofString "_law_caught", Str.ofString "_law_odd", Str.ofString "_law_pairs", Str.ofString "_law_mate", Str.ofString "_law_joined", Str.ofString "_law_few", Str.ofString "_law_scope", Str.ofString "_law_made", Str.ofString "_law_pins", Str.ofString "_law_lots", Str.ofString "_law_refused"]
def nameL : List Str := names0 ++ names1 ++ names2 ++ names3
theorem run1 (w : World) (os : OsState) : (lastY RR 24000 w os).map (fun s => (HandSHeadRun.looksF RR.prog (PySem.W.boot_heap w.params) s.abs, HandSHeadRun.seenQ vq nameL (importedModules RR.prog.main.body) (fun s => PySem.W.xlAt vq [] s && PySem.W.recOk RR.toRowW.records s) s.abs)) = some (true, PySem.W.openGood vq nameL) := by
  kernel_rfl
theorem run2 (w : World) (os : OsState) : (lastY RR 24000 w os).map (fun s => obsD faL fnL (fragY (HandSHeadRun.getT s) 5)) = some (valD fnL) := by
  kernel_rfl
theorem run3 (w : World) (os : OsState) : (lastY RR 24000 w os).map (fun s => exA (fragY (HandSHeadRun.getT s) 5)) = some true := by
  kernel_rfl
theorem run4 (w : World) (os : OsState) : (lastY RR 24000 w os).map (fun s => tabsB (HandSHeadRun.getT s) tfL (fragY (HandSHeadRun.getT s) 5)) = some true := by
  kernel_rfl
theorem run (w : World) : HandSHeadRun.RunEq RR vq (hookY 5 faL fnL tfL exA) (seeY 5 faL fnL tfL exA) 24000 nameL w := run_of (run1 w) (run2 w) (run3 w) (run4 w)
end K16
set_option Elab.async false
set_option linter.all false
set_option maxRecDepth 100000
set_option maxHeartbeats 4000000
namespace K16
open PySem PySem.Spec PyProof.Rows L2 Evl DL
local macro_rules | `(tactic| walk_at "dl") => `(tactic| first
  | exact ev_c | exact ev_var rfl | exact eda_nil
  | exact ed_var rfl (by assumption)
  | exact ed_int ev_c | exact ed_int (ev_var rfl)
  | (refine eda_cons ?_ ?_ <;> walk_at "dl")
  | (refine ed_int ?_; walk_at "dl")
  | (refine ev_op ?_ ?_ rv_I0 <;> walk_at "dl"))

section
variable {P : Program} {w : World} {K : PySem.W.Frag} {mg : Str → Option Value} {base : Heap}
variable {CB CL CR : Addr}
def plc (s a b : Int) : Int := a * (2 * s - a - 1) / 2 + b - a - 1
def R_pair_place (ds : List PyData) (r : PyData) : Prop := ∃ s a b : Int, ds = [.int s, .int a, .int b] ∧ (0 ≤ a ∧ a ≤ 1000) ∧ r = .int (plc s a b)
def pD (p : Int × Int) : PyData := tI [p.1, p.2]
def prs (s : Int) : List (Int × Int) := (List.range s.toNat).flatMap fun (i : Nat) => (List.range (s - ((i : Int) + 1)).toNat).map fun (j : Nat) => ((i : Int), (i : Int) + 1 + (j : Int))
def np (s : Int) : Nat := (prs s).length
def R_side_pairs (ds : List PyData) (r : List PyData) : Prop := ∃ s : Int, ds = [.int s] ∧ 0 ≤ s ∧ s ≤ 5 ∧ r = (prs s).map pD
theorem np_all : np 2 = 1 ∧ np 3 = 3 ∧ np 4 = 6 ∧ np 5 = 10 := by decide
def R_many_pairs (ds : List PyData) (r : PyData) : Prop := ∃ s : Int, ds = [.int s] ∧ 2 ≤ s ∧ s ≤ 5 ∧ r = .int ((np s : Nat) : Int)
def R_no_wires (ds : List PyData) (r : PyData) : Prop := ∃ s : Int, ds = [.int s] ∧ 2 ≤ s ∧ s ≤ 5 ∧ r = tI (List.replicate (np s) 0)
theorem np_le {s : Int} (h1 : 2 ≤ s) (h2 : s ≤ 5) : 1 ≤ np s ∧ np s ≤ 10 := by
  have : s = 2 ∨ s = 3 ∨ s = 4 ∨ s = 5 := by omega
  rcases this with rfl | rfl | rfl | rfl <;> decide
theorem et_is {t : TT} {σ : L2.St} {H : Hp} {a b : Bool} (h : EvT t σ H a) (e : a = b) : EvT t σ H b := e ▸ h
/-- not isinstance(x, int) or isinstance(x, bool) or x < 0 or x > 99 -/
theorem within_test {σ : L2.St} {H : Hp} {te tm : TE} {e : PyData} (h : EvD K te σ H e) (hm : Ev tm σ H (.int 99)) :
    EvT (tOr (tNot (tB (tCB (rIsi K) (tCons te (tCons (tC (.ty "int")) tNil))))) (tOr (tB (tCB (rIsi K) (tCons te (tCons (tC (.ty "bool")) tNil)))) (tOr (tTest (tOp (rI0 fun i j => V.bl (decide (i < j))) te (tC (.int 0)))) (tTest (tOp (rI0 fun i j => V.bl (decide (j < i))) te tm))))) σ H (!isIn e 0 99) := by
  have one : EvT (tNot (tB (tCB (rIsi K) (tCons te (tCons (tC (.ty "int")) tNil))))) σ H (!(isNum e || isBool e)) := et_not (et_B (ev_isiD h (kit_int e)))
  have two : EvT (tB (tCB (rIsi K) (tCons te (tCons (tC (.ty "bool")) tNil)))) σ H (isBool e) := et_B (ev_isiD h (kit_bool e))
  cases e with
  | int i =>
    refine et_is (et_or (b := (false || (decide (i < 0) || decide (99 < i)))) one fun _ => et_or (b := decide (i < 0) || decide (99 < i)) two fun _ => et_or (et_test (ev_op (EvD.int h) ev_c rv_I0)) fun _ => et_test (ev_op (EvD.int h) hm rv_I0)) ?_
    show (false || (false || (decide (i < 0) || decide (99 < i)))) = !(decide (0 ≤ i) && decide (i ≤ 99))
    by_cases h1 : i < 0
    · simp [h1, Int.not_le.mpr h1]
    · by_cases h2 : 99 < i
      · simp [h1, h2, Int.not_le.mpr h2]
      · simp [h1, h2, Int.not_lt.mp h1, Int.not_lt.mp h2]
  | bool b => exact et_is (et_or (b := true) one fun _ => et_is (et_or (b := true) two fun z => nomatch z) rfl) rfl
  | none => exact et_is (et_or (b := true) one fun z => nomatch z) rfl
  | str x => exact et_is (et_or (b := true) one fun z => nomatch z) rfl
  | list xs => exact et_is (et_or (b := true) one fun z => nomatch z) rfl
  | tuple xs => exact et_is (et_or (b := true) one fun z => nomatch z) rfl
  | dict xs => exact et_is (et_or (b := true) one fun z => nomatch z) rfl
/-- a load of so many sides -/
def Ld (s : Int) (l : List Int) : Prop := l.length = np s ∧ ∀ x ∈ l, 0 ≤ x ∧ x ≤ 99
def ldOk (s : Int) (d : PyData) : Bool := match d with
  | .tuple es => decide (es.length = np s) && es.all (fun e => isIn e 0 99)
  | _ => false
def R_is_load_of (ds : List PyData) (r : PyData) : Prop := ∃ (s : Int) (d : PyData), ds = [.int s, d] ∧ 2 ≤ s ∧ s ≤ 5 ∧ r = .bool (ldOk s d)
theorem ldOk_tI {s : Int} {l : List Int} (h : Ld s l) : ldOk s (tI l) = true := by
  show (decide ((dI l).length = np s) && (dI l).all (fun e => isIn e 0 99)) = true
  rw [decide_eq_true (by rw [dI, List.length_map]; exact h.1), Bool.true_and, List.all_eq_true]
  intro e he
  obtain ⟨x, hx, rfl⟩ := List.mem_map.mp he
  have := h.2 x hx
  simp [isIn, this.1, this.2]
/-- what is a load is a tuple of such numbers -/
theorem ldOk_of {s : Int} {d : PyData} (h : ldOk s d = true) : ∃ l, d = tI l ∧ Ld s l := by
  cases d with
  | tuple es =>
    have h : (decide (es.length = np s) && es.all (fun e => isIn e 0 99)) = true := h
    rw [Bool.and_eq_true, decide_eq_true_eq, List.all_eq_true] at h
    obtain ⟨h1, h2⟩ := h
    have all : ∀ es : List PyData, (∀ e ∈ es, isIn e 0 99 = true) → ∃ l : List Int, es = dI l ∧ ∀ x ∈ l, 0 ≤ x ∧ x ≤ 99 := fun es => by
      induction es with
      | nil => exact fun _ => ⟨[], rfl, fun x hx => by simp at hx⟩
      | cons e es ih =>
        intro h
        obtain ⟨l, e1, e2⟩ := ih fun e he => h e (List.mem_cons_of_mem _ he)
        have := h e List.mem_cons_self
        cases e with
        | int i =>
          have b : (decide ((0 : Int) ≤ i) && decide (i ≤ 99)) = true := this
          rw [Bool.and_eq_true, decide_eq_true_eq, decide_eq_true_eq] at b
          refine ⟨i :: l, by rw [e1]; rfl, fun x hx => ?_⟩
          rcases List.mem_cons.mp hx with rfl | hx
          · exact b
          · exact e2 x hx
        | _ => cases this
    obtain ⟨l, rfl, e2⟩ := all es h2
    exact ⟨l, rfl, by simpa [dI] using h1, e2⟩
  | _ => cases h
/-- a tuple that is read, whatever its items -/
theorem ei_tupD {σ : L2.St} {H : Hp} {te : TE} {ds : List PyData} (h : EvD K te σ H (.tuple ds)) : EvI K (iTup K te) σ H [] ds := fun H1 e R r =>
  h H1 e _ fun w H2 e2 hw => by
    cases hw with
    | tup hs ha =>
      refine ⟨_, rfl, ⟨_, hs⟩, r _ H2 e2 ?_⟩
      rw [← dpa_len ha]
      refine walk_tup.mono (fun Ha x => ex_t x.to_ex hs) fun i Ha x Hb hlt hg y => ?_
      obtain ⟨rfl, hx⟩ := y
      obtain ⟨d, hd1, hd2⟩ := dpa_getV (dpa_ex hg.to_ex _ _ ha) hx
      exact ⟨Ex.refl _, d, hd1, hd2⟩
def R_check_load (ds : List PyData) (r : PyData) : Prop := ∃ (s : Int) (l : List Int), ds = [.int s, tI l] ∧ 2 ≤ s ∧ s ≤ 5 ∧ Ld s l ∧ r = .none
def B_check_load (CL : Addr) (ds : List PyData) (C : Addr) : Prop := ∃ (s : Int) (d : PyData), ds = [.int s, d] ∧ 2 ≤ s ∧ s ≤ 5 ∧ ldOk s d = false ∧ C = CL
end
end K16
set_option Elab.async false
set_option linter.all false
set_option maxRecDepth 100000
set_option maxHeartbeats 4000000
namespace K16
open PySem PySem.Spec PyProof.Rows L2 Evl DL
local macro_rules | `(tactic| walk_at "dl") => `(tactic| first
  | exact ev_c | exact ev_var rfl | exact eda_nil
  | exact ed_var rfl (by assumption)
  | exact ed_int ev_c | exact ed_int (ev_var rfl)
  | (refine eda_cons ?_ ?_ <;> walk_at "dl")
  | (refine ed_int ?_; walk_at "dl")
  | (refine ev_op ?_ ?_ rv_I0 <;> walk_at "dl"))

/-- two lists of ints, item by item -/
def zw (f : Int → Int → Int) (a b : List Int) : List Int := List.zipWith f a b
theorem pairs_get {a b : List Int} {i : Nat} {d : PyData} (h : (List.zipWith (fun x y => PyData.tuple [.int x, .int y]) a b)[i]? = some d) : ∃ x y, a[i]? = some x ∧ b[i]? = some y ∧ d = .tuple [.int x, .int y] := by
  rw [List.getElem?_zipWith] at h
  cases h1 : a[i]? with
  | none => rw [h1] at h; simp at h
  | some x =>
    cases h2 : b[i]? with
    | none => rw [h1, h2] at h; simp at h
    | some y => rw [h1, h2] at h; exact ⟨x, y, rfl, rfl, by simpa using h.symm⟩
theorem range_zip (f : Int → Int → Int) : ∀ (a b : List Int), (List.range (min a.length b.length)).map (fun i => f (a.getD i 0) (b.getD i 0)) = zw f a b := fun a b => by
  apply List.ext_getElem?
  intro i
  rw [List.getElem?_map, zw, List.getElem?_zipWith]
  by_cases h : i < min a.length b.length
  · have h1 : i < a.length := by omega
    have h2 : i < b.length := by omega
    rw [List.getElem?_range h, List.getElem?_eq_getElem h1, List.getElem?_eq_getElem h2]
    simp [List.getD_eq_getElem?_getD, h1, h2]
  · have h3 : ¬ (i < a.length ∧ i < b.length) := by omega
    rw [List.getElem?_eq_none (by simpa using h)]
    by_cases h1 : i < a.length
    · have h2 : b[i]? = none := List.getElem?_eq_none (by omega)
      rw [h2]
      cases a[i]? <;> rfl
    · rw [List.getElem?_eq_none (by omega : a.length ≤ i)]
      rfl
section
variable {K : PySem.W.Frag} {σ : L2.St} {H : Hp} {ta tb te : TE} {a b : List Int}
/-- zip of two tuples of ints -/
theorem ei_zipTT {S : List Addr} (hS : Ls H S) (ha : EvD K ta σ H (tI a)) (hb : EvD K tb σ H (tI b)) : EvI K (iZipM K true true (tCons ta (tCons tb tNil))) σ H S (List.zipWith (fun x y => PyData.tuple [.int x, .int y]) a b) := fun H1 e R r =>
  ha H1 e _ fun x H2 e2 hx => hb H2 (e.trans e2) _ fun y H3 e3 hy => by
    obtain ⟨p, rfl, h1⟩ := dp_tI hx
    obtain ⟨q, rfl, h2⟩ := dp_tI hy
    have h1 := ex_t e3 h1
    refine ⟨p, q, _, _, rfl, sqa_t h1, sqa_t h2, r _ H3 (e2.trans e3) ?_⟩
    rw [List.length_zipWith]
    have w := walk_zipM (K := K) (a := p) (b := q) (t := true) (u := true) (xs := a.map V.int) (ys := b.map V.int) (n := min a.length b.length) (by simp)
    refine w.mono (fun Ha x => ⟨sqT_tx (x.tx (hS.ex ((e.trans e2).trans e3))) h1, sqT_tx (x.tx (hS.ex ((e.trans e2).trans e3))) h2⟩) fun i Ha v Hb hlt hg y => ?_
    obtain ⟨T, v1, v2, rfl, hT, rfl, g1, g2⟩ := y
    simp only [List.getElem?_map] at g1 g2
    obtain ⟨n1, m1, rfl⟩ := Option.map_eq_some_iff.mp g1
    obtain ⟨n2, m2, rfl⟩ := Option.map_eq_some_iff.mp g2
    refine ⟨Ex.new hT, .tuple [.int n1, .int n2], ?_, .tup (st_of upd_same) (.cons (.int _) (.cons (.int _) .nil))⟩
    rw [List.getElem?_zipWith, m1, m2]
end
section
variable {P : Program} {w : World} {K : PySem.W.Frag} {mg : Str → Option Value} {base : Heap}
def R_summed (ds : List PyData) (r : PyData) : Prop := ∃ a b : List Int, ds = [tI a, tI b] ∧ a.length ≤ 100 ∧ r = tI (zw (· + ·) a b)
theorem cut_lo (ds : List PyData) (p : Nat) (h : p ≤ ds.length) : DL.cutD ds none (some (p : Int)) = ds.take p := by
  unfold DL.cutD
  rw [HT.sIx_none, HT.sIx_nat, Nat.min_eq_left h]
  rfl
theorem cut_hi (ds : List PyData) (p : Nat) (h : p ≤ ds.length) : DL.cutD ds (some (p : Int)) none = ds.drop p := by
  unfold DL.cutD
  rw [HT.sIx_none, HT.sIx_nat, Nat.min_eq_left h]
  exact List.take_of_length_le (by simp)
def R_raised (ds : List PyData) (r : PyData) : Prop := ∃ (l : List Int) (p : Nat) (y : Int), ds = [tI l, .int (p : Int), .int y] ∧ p < l.length ∧ l.length ≤ 100 ∧ r = tI (l.set p (l.getD p 0 + y))
end

/-- the greatest -/
def mxl : List Int → Int
  | [] => 0
  | x :: r => r.foldl max x
theorem foldl_max_ge : ∀ (r : List Int) (x : Int), x ≤ r.foldl max x ∧ (∀ y ∈ r, y ≤ r.foldl max x) ∧ (r.foldl max x = x ∨ r.foldl max x ∈ r)
  | [], x => ⟨Int.le_refl _, fun y hy => by simp at hy, .inl rfl⟩
  | y :: r, x => by
    obtain ⟨h1, h2, h3⟩ := foldl_max_ge r (max x y)
    rw [List.foldl_cons]
    refine ⟨by omega, fun z hz => ?_, ?_⟩
    · rcases List.mem_cons.mp hz with rfl | hz
      · omega
      · exact h2 z hz
    · rcases h3 with h3 | h3
      · rw [h3]
        by_cases h : y ≤ x
        · exact .inl (by omega)
        · exact .inr (List.mem_cons.mpr (.inl (by omega)))
      · exact .inr (List.mem_cons_of_mem _ h3)
theorem mxl_mem {l : List Int} (h : 0 < l.length) : mxl l ∈ l := by
  cases l with
  | nil => simp at h
  | cons x r =>
    rcases (foldl_max_ge r x).2.2 with e | e
    · exact List.mem_cons.mpr (.inl e)
    · exact List.mem_cons_of_mem _ e
theorem mxl_ge {l : List Int} {y : Int} (h : y ∈ l) : y ≤ mxl l := by
  cases l with
  | nil => simp at h
  | cons x r =>
    rcases List.mem_cons.mp h with rfl | h
    · exact (foldl_max_ge r y).1
    · exact (foldl_max_ge r x).2.1 y h
section
variable {K : PySem.W.Frag} {σ : L2.St} {H H2 Ha : Hp} {ta tb te : TE}
theorem xp_fresh {p : Addr} (e : Ex H H2) (x : Xp [p] H2 Ha) (h : H p = none) : Ex H Ha := fun a o ho => x a o (e a o ho) (fun hm => by
  have : a = p := by simpa using hm
  rw [this, h] at ho
  cases ho)
/-- xs[i] op= e, a list of ints -/
theorem d_augL {D : Ends} {f : Int → Int → Int} {l : Addr} {ns : List Int} {a b j : Nat} {y : Int} (hl : H l = some (.lst (ns.map V.int))) (ho : σ[a]? = some (some (.ref l))) (hi : σ[b]? = some (some (.int (j : Int)))) (hj : j < ns.length) (he : Ev te σ H (.int y))
    (k : ∀ H1, Ex H H1 → D.nx σ (upd H1 l (.lst ((ns.set j (f (ns.getD j 0) y)).map V.int)))) : tAugS (tVar a) (tVar b) te (rGetL K) (ipI f) rSetL D σ H := by
  have g : (ns.map V.int)[j]? = some (.int (ns.getD j 0)) := by
    rw [List.getElem?_map, List.getElem?_eq_getElem hj, List.getD_eq_getElem?_getD, List.getElem?_eq_getElem hj]
    rfl
  refine ⟨_, ho, _, hi, l, _, _, j, rfl, rfl, sq_of hl, g, ?_⟩
  refine he H (Ex.refl _) _ fun H1 e1 => ⟨_, _, rfl, rfl, l, ns.map V.int, (j : Int), j, rfl, rfl, e1 _ _ hl, ixN_nat (by rw [List.length_map]; exact hj), ?_⟩
  have q := k H1 e1
  rw [List.map_set] at q
  exact q
theorem q_augL {D : Ends} {tz : TS} {f : Int → Int → Int} {l : Addr} {ns : List Int} {a b j : Nat} {y : Int} (hl : H l = some (.lst (ns.map V.int))) (ho : σ[a]? = some (some (.ref l))) (hi : σ[b]? = some (some (.int (j : Int)))) (hj : j < ns.length) (he : Ev te σ H (.int y))
    (k : ∀ H1, Ex H H1 → tz D σ (upd H1 l (.lst ((ns.set j (f (ns.getD j 0) y)).map V.int)))) : tSeq (tAugS (tVar a) (tVar b) te (rGetL K) (ipI f) rSetL) tz D σ H := d_augL (D := { D with nx := tz D }) hl ho hi hj he k
/-- zip of a new list of pairs and a tuple of ints -/
theorem ei_zipNT {S : List Addr} {ps : List (Int × Int)} {b : List Int} (hS : Ls H S) (ha : EvN K ta σ H (ps.map pD)) (hb : EvD K tb σ H (tI b)) :
    EvI K (iZipM K false true (tCons ta (tCons tb tNil))) σ H S (List.zipWith (fun p y => PyData.tuple [pD p, .int y]) ps b) := fun H1 e R r =>
  ha H1 e _ fun p vs H2 hp e2 h2 hd => hb H2 (e.trans e2) _ fun y H3 e3 hy => by
    obtain ⟨q, rfl, h4⟩ := dp_tI hy
    have h3 := e3 _ _ h2
    have hd3 := dpa_ex e3 _ _ hd
    have hn : p ∉ S := fresh_notin (hS.ex e) hp
    have lv : vs.length = ps.length := by rw [dpa_len hd, List.length_map]
    refine ⟨p, q, _, _, rfl, sqa_l (sq_of h3), sqa_t h4, r _ H3 (e2.trans e3) ?_⟩
    rw [List.length_zipWith]
    have w := walk_zipM (K := K) (a := p) (b := q) (t := false) (u := true) (xs := vs) (ys := b.map V.int) (n := min ps.length b.length) (by rw [lv, List.length_map])
    have ls3 := hS.ex ((e.trans e2).trans e3)
    refine w.mono (fun Ha x => ⟨sq_of (x p _ h3 hn), sqT_tx (x.tx ls3) h4⟩) fun i Ha v Hb hlt hg y => ?_
    obtain ⟨T, v1, v2, rfl, hT, rfl, g1, g2⟩ := y
    simp only [List.getElem?_map] at g2
    obtain ⟨n2, m2, rfl⟩ := Option.map_eq_some_iff.mp g2
    have tx : Tx H3 (upd Ha T (.tup [v1, .int n2])) := (hg.tx ls3).trans (Tx.of_ex (Ex.new hT))
    obtain ⟨d1, q1, q2⟩ := dpa_getV (dpa_tx tx _ _ (immAll_map (fun _ => imm_tI _) _) hd3) g1
    rw [List.getElem?_map] at q1
    obtain ⟨pp, m1, rfl⟩ := Option.map_eq_some_iff.mp q1
    refine ⟨Ex.new hT, .tuple [pD pp, .int n2], ?_, .tup (st_of upd_same) (.cons q2 (.cons (.int _) .nil))⟩
    rw [List.getElem?_zipWith, m1, m2]
end
section
variable {P : Program} {w : World} {K : PySem.W.Frag} {mg : Str → Option Value} {base : Heap}
def stp (acc : List Int) (q : (Int × Int) × Int) : List Int :=
  (acc.set q.1.1.toNat (acc.getD q.1.1.toNat 0 + q.2)).set q.1.2.toNat ((acc.set q.1.1.toNat (acc.getD q.1.1.toNat 0 + q.2)).getD q.1.2.toNat 0 + q.2)
def sms (s : Int) (l : List Int) : List Int := ((prs s).zip l).foldl stp (List.replicate s.toNat 0)
theorem stp_len (acc : List Int) (q : (Int × Int) × Int) : (stp acc q).length = acc.length := by simp [stp]
theorem stps_len : ∀ (qs : List ((Int × Int) × Int)) (acc : List Int), (qs.foldl stp acc).length = acc.length
  | [], _ => rfl
  | q :: qs, acc => by rw [List.foldl_cons, stps_len qs, stp_len]
theorem sms_len (s : Int) (l : List Int) : (sms s l).length = s.toNat := by rw [sms, stps_len, List.length_replicate]
theorem prs_in {s : Int} (h1 : 0 ≤ s) (h2 : s ≤ 5) {p : Int × Int} (h : p ∈ prs s) : 0 ≤ p.1 ∧ p.1 < p.2 ∧ p.2 < s := by
  unfold prs at h
  rw [List.mem_flatMap] at h
  obtain ⟨i, hi, h⟩ := h
  obtain ⟨j, hj, rfl⟩ := List.mem_map.mp h
  have := List.mem_range.mp hi
  have := List.mem_range.mp hj
  show 0 ≤ (i : Int) ∧ (i : Int) < (i : Int) + 1 + (j : Int) ∧ (i : Int) + 1 + (j : Int) < s
  omega
def R_sums_at_sides (ds : List PyData) (r : List PyData) : Prop := ∃ (s : Int) (l : List Int), ds = [.int s, tI l] ∧ 2 ≤ s ∧ s ≤ 5 ∧ r = dI (sms s l)
def R_is_let (ds : List PyData) (r : PyData) : Prop := ∃ (s : Int) (l : List Int) (m : Int), ds = [.int s, tI l, .int m] ∧ 2 ≤ s ∧ s ≤ 5 ∧ r = .bool (decide (mxl (sms s l) ≤ m))
end
end K16
set_option Elab.async false
set_option linter.all false
set_option maxRecDepth 100000
set_option maxHeartbeats 4000000
/-! keys of any depth: data as keys, dicts that have them -/
namespace DL
open PySem PySem.Spec PyProof.Rows L2 Evl

mutual
/-- data as a key: numbers, texts, None and tuples of such -/
def keyD : PyData → Option NestedKey
  | .none => some .none
  | .bool b => some (.num (if b = true then 1 else 0))
  | .int i => some (.num i)
  | .str x => some (.text x)
  | .tuple ds => (keyDs ds).map .tup
  | _ => none
def keyDs : List PyData → Option (List NestedKey)
  | [] => some []
  | d :: ds => match keyD d, keyDs ds with
    | some k, some ks => some (k :: ks)
    | _, _ => none
end
theorem keyDs_cons {d : PyData} {ds : List PyData} {ks : List NestedKey} (h : keyDs (d :: ds) = some ks) : ∃ k ks', ks = k :: ks' ∧ keyD d = some k ∧ keyDs ds = some ks' := by
  rw [keyDs] at h
  cases h1 : keyD d with
  | none => rw [h1] at h; cases h
  | some k =>
    cases h2 : keyDs ds with
    | none => rw [h1, h2] at h; cases h
    | some ks' =>
      rw [h1, h2] at h
      exact ⟨k, ks', (Option.some.inj h).symm, rfl, rfl⟩
section
variable {X : Cx} {pins : List (Addr × Obj)} {σ : L2.St} {H : Hp} {s : Shared}
mutual
theorem nested_of (I : Inv X pins σ H s) : ∀ (d : PyData) (k : NestedKey) (v : V) (u : Value), keyD d = some k → Dp X.K H v d → RelV v u → NestedIs s.heap k u
  | .none, k, v, u, hk, hd, r => by
    rw [keyD] at hk
    cases hk
    cases hd
    cases r
    exact .none
  | .bool b, k, v, u, hk, hd, r => by
    rw [keyD] at hk
    cases hk
    cases hd
    cases r
    exact .bool rfl
  | .int i, k, v, u, hk, hd, r => by
    rw [keyD] at hk
    cases hk
    cases hd
    obtain ⟨t, rfl⟩ := r
    exact .int i t
  | .str x, k, v, u, hk, hd, r => by
    rw [keyD] at hk
    cases hk
    cases hd
    obtain ⟨t, rfl⟩ := r
    exact .text x t
  | .list _, _, _, _, hk, _, _ => by rw [keyD] at hk <;> cases hk
  | .dict _, _, _, _, hk, _, _ => by rw [keyD] at hk <;> cases hk
  | .tuple ds, k, v, u, hk, hd, r => by
    rw [keyD] at hk
    obtain ⟨ks, hks, rfl⟩ := Option.map_eq_some_iff.mp hk
    cases hd with
    | tup hs ha =>
      cases r
      obtain ⟨its, rv, p, _⟩ := I.tuple hs
      obtain ⟨o, ho, hc, n, hd⟩ := p
      exact .tup ho hc hd (by simpa using nested_all I ds ks _ _ hks ha rv)
theorem nested_all (I : Inv X pins σ H s) : ∀ (ds : List PyData) (ks : List NestedKey) (vs : List V) (us : List Value), keyDs ds = some ks → DpAll X.K H vs ds → Vals vs us → NestedAll s.heap ks us
  | [], ks, vs, us, hk, hd, r => by
    rw [keyDs] at hk
    cases hk
    cases hd
    cases r
    exact .nil
  | d :: ds, ks, vs, us, hk, hd, r => by
    obtain ⟨k, ks', rfl, h1, h2⟩ := keyDs_cons hk
    cases hd with
    | cons a b =>
      cases r with
      | cons r1 r2 => exact .cons (nested_of I d k _ _ h1 a r1) (nested_all I ds ks' _ _ h2 b r2)
end
end

/-! ### the dict -/
/-- a dict of keys of any depth: each key, the object that is it, the value -/
def NdO (P : Program) (w : World) (d : Addr) (kvs : List (NestedKey × Addr × V)) : HO := .ext fun h => kvs.length ≤ sizeLine ∧ (d == sysModules) = false ∧
  ∃ xs : List (NestedKey × Addr × Value), Paired (fun p q => p.1 = q.1 ∧ p.2.1 = q.2.1 ∧ RelV p.2.2 q.2.2) kvs xs ∧
    ∃ o es ep, h.get? d = some o ∧ o.ExactDict ∧ o.data = .dict es ep ∧ es.toList = xs.map (entryOfKey (nestedKind P w)) ∧ (xs.map (·.1)).Nodup
/-- it stands at d, and its keys are what they are -/
structure Nd (P : Program) (w : World) (K : PySem.W.Frag) (H : Hp) (d : Addr) (kvs : List (NestedKey × Addr × V)) : Prop where
  at_ : H d = some (NdO P w d kvs)
  keys : ∀ x ∈ kvs, ∃ dd, Dp K H (.ref x.2.1) dd ∧ imm dd = true ∧ keyD dd = some x.1 ∧ x.1.depth ≤ 8
theorem ndO_ok {P : Program} {w : World} {H : Hp} {h : Heap} {d : Addr} {kvs : List (NestedKey × Addr × V)} (hl : kvs.length ≤ sizeLine) (hs : (d == sysModules) = false) {xs : List (NestedKey × Addr × Value)} (pr : Paired (fun p q => p.1 = q.1 ∧ p.2.1 = q.2.1 ∧ RelV p.2.2 q.2.2) kvs xs)
    {o : Obj} {es : Array DictEntry} {ep : Nat} (h1 : h.get? d = some o) (h2 : o.ExactDict) (h3 : o.data = .dict es ep) (h4 : es.toList = xs.map (entryOfKey (nestedKind P w))) (h5 : (xs.map (·.1)).Nodup) : ObjOk P w H h d (NdO P w d kvs) :=
  ⟨⟨hl, hs, xs, pr, o, es, ep, h1, h2, h3, h4, h5⟩, ⟨o, h1⟩, fun _ _ z k => by
    obtain ⟨a, b, xs, pr, o, es, ep, e1, e2⟩ := z
    exact ⟨a, b, xs, pr, o, es, ep, k _ e1, e2⟩⟩
theorem Nd.tx {P : Program} {w : World} {K : PySem.W.Frag} {H H' : Hp} {d : Addr} {kvs : List (NestedKey × Addr × V)} (N : Nd P w K H d kvs) (t : Tx H H') (h : H' d = some (NdO P w d kvs)) : Nd P w K H' d kvs :=
  ⟨h, fun x hx => by
    obtain ⟨dd, a, b, c⟩ := N.keys x hx
    exact ⟨dd, dp_tx t _ _ b a, b, c⟩⟩
theorem Nd.ex {P : Program} {w : World} {K : PySem.W.Frag} {H H' : Hp} {d : Addr} {kvs : List (NestedKey × Addr × V)} (N : Nd P w K H d kvs) (e : Ex H H') : Nd P w K H' d kvs := N.tx (Tx.of_ex e) (e _ _ N.at_)
theorem paired_mem {α β : Type} {F : α → β → Prop} : ∀ {xs : List α} {ys : List β}, Paired F xs ys → ∀ y ∈ ys, ∃ x ∈ xs, F x y
  | _, _, .nil, y, hy => absurd hy (by simp)
  | _, _, .cons h t, y, hy => by
    rcases List.mem_cons.mp hy with rfl | hy
    · exact ⟨_, List.mem_cons_self, h⟩
    · obtain ⟨x, hx, hf⟩ := paired_mem t y hy
      exact ⟨x, List.mem_cons_of_mem _ hx, hf⟩
/-- whether it has a key -/
def hasN (kvs : List (NestedKey × Addr × V)) (k : NestedKey) : Bool := kvs.any fun x => decide (x.1 = k)
theorem has_pair {kvs : List (NestedKey × Addr × V)} {xs : List (NestedKey × Addr × Value)} (pr : Paired (fun p q => p.1 = q.1 ∧ p.2.1 = q.2.1 ∧ RelV p.2.2 q.2.2) kvs xs) (k : NestedKey) : (atKey xs k).isSome = hasN kvs k := by
  unfold atKey hasN
  rw [Option.isSome_map]
  induction pr with
  | nil => rfl
  | @cons p q ps qs h t ih =>
    rw [List.find?_cons, List.any_cons, ← h.1]
    cases e : decide (p.1 = k) with
    | true => rfl
    | false => simpa using ih
theorem val_pair {kvs : List (NestedKey × Addr × V)} {xs : List (NestedKey × Addr × Value)} (pr : Paired (fun p q => p.1 = q.1 ∧ p.2.1 = q.2.1 ∧ RelV p.2.2 q.2.2) kvs xs) {k : NestedKey} {v : V} (h : (kvs.find? fun x => decide (x.1 = k)).map (·.2.2) = some v) : ∃ p, atKey xs k = some p ∧ RelV v p.2 := by
  unfold atKey
  induction pr with
  | nil => cases h
  | @cons p q ps qs hh t ih =>
    rw [List.find?_cons] at h ⊢
    rw [← hh.1]
    cases e : decide (p.1 = k) with
    | true =>
      rw [e] at h
      cases h
      exact ⟨q.2, rfl, hh.2.2⟩
    | false =>
      rw [e] at h
      exact ih h
section
variable {X : Cx} {pins : List (Addr × Obj)} {σ : L2.St} {H : Hp} {s : Shared}
theorem nd_open (I : Inv X pins σ H s) {d : Addr} {kvs : List (NestedKey × Addr × V)} (N : Nd X.prog X.w X.K H d kvs) : kvs.length ≤ sizeLine ∧ (d == sysModules) = false ∧
    ∃ xs : List (NestedKey × Addr × Value), Paired (fun p q => p.1 = q.1 ∧ p.2.1 = q.2.1 ∧ RelV p.2.2 q.2.2) kvs xs ∧ s.heap.DictOfH (nestedKind X.prog X.w) d xs := by
  obtain ⟨⟨hl, hs, xs, pr, o, es, ep, h1, h2, h3, h4, h5⟩, _, _⟩ := (show ObjOk X.prog X.w H s.heap d (NdO X.prog X.w d kvs) from I.hok d _ N.at_)
  refine ⟨hl, hs, xs, pr, o, es, ep, h1, h2, h3, h4, fun x hx => ?_, h5⟩
  obtain ⟨p, hp, e1, e2, _⟩ := paired_mem pr x hx
  obtain ⟨dd, a, _, c, dep⟩ := N.keys p hp
  rw [← e1, ← e2]
  exact ⟨nested_of I dd _ _ _ c a rfl, dep⟩
/-- k in d, d such a dict -/
def rInN (P : Program) (w : World) (K : PySem.W.Frag) (neg : Bool) : R2 := fun x y H Q => ∃ d kvs a dd k, x = .ref a ∧ y = .ref d ∧ Nd P w K H d kvs ∧ Dp K H (.ref a) dd ∧ keyD dd = some k ∧ k.depth ≤ 8 ∧ Q (.bl (if neg then !hasN kvs k else hasN kvs k)) H
theorem op_inN (hu : X.A.units + 64 < cLine) : OpR X (compareOp .In) (rInN X.prog X.w X.K false) := by
  intro pins s σ H x y v u Q I rx ry h
  obtain ⟨d, kvs, a, dd, k, rfl, rfl, N, hd, hk, dep, q⟩ := h
  cases rx
  cases ry
  obtain ⟨_, hs, xs, pr, D⟩ := nd_open I N
  refine wpAny_in_heap (knd := nestedKind X.prog X.w) (show X.A.in1.units + 8 < cLine from ?_) ⟨nested_of I dd k _ _ hk hd rfl, dep⟩ hs D ?_
  · have : X.A.in1.units ≤ X.A.units + 1 := by
      show X.A.in1.units ≤ _
      exact Nat.le_of_eq rfl
    omega
  · rw [has_pair pr]
    exact ⟨.bl _, H, I.tok _, rfl, q⟩
theorem op_notInN (hu : X.A.units + 64 < cLine) : OpR X (compareOp .NotIn) (rInN X.prog X.w X.K true) := by
  intro pins s σ H x y v u Q I rx ry h
  obtain ⟨d, kvs, a, dd, k, rfl, rfl, N, hd, hk, dep, q⟩ := h
  cases rx
  cases ry
  obtain ⟨_, hs, xs, pr, D⟩ := nd_open I N
  refine wpAny_notIn_heap (knd := nestedKind X.prog X.w) (show X.A.in1.units + 8 < cLine from ?_) ⟨nested_of I dd k _ _ hk hd rfl, dep⟩ hs D ?_
  · have : X.A.in1.units ≤ X.A.units + 1 := by
      show X.A.in1.units ≤ _
      exact Nat.le_of_eq rfl
    omega
  · rw [has_pair pr]
    exact ⟨.bl _, H, I.tok _, rfl, q⟩
end
end DL
set_option Elab.async false
set_option linter.all false
set_option maxRecDepth 100000
set_option maxHeartbeats 4000000
/-! data compared and sorted -/
namespace DL
open PySem PySem.Spec PyProof.Rows L2 Evl
open PySem.W (alike alikeAll dataLt AllAlike Sortable dataLe EachIs)

def rLtD (K : PySem.W.Frag) : R2 := fun x y H Q => ∃ d e, Dp K H x d ∧ Dp K H y e ∧ alike d e = true ∧ d ≠ .none ∧ d.depth ≤ 50 ∧ Q (.bl (dataLt d e)) H
/-- a rises to b -/
def leD (a b : PyData) : Bool := !dataLt b a
def rSortedD (K : PySem.W.Frag) : List V → Hp → VK → Prop := fun vs H Q => ∃ (a : Addr) (xs : List V) (ds : List PyData), vs = [.ref a] ∧ SqL K H a xs ∧ DpAll K H xs ds ∧ AllAlike ds ∧ Sortable ds ∧ (∀ d ∈ ds, d.depth ≤ 50) ∧
  ∀ p ys, H p = none → DpAll K H ys (ds.mergeSort leD) → Q (.ref p) (upd H p (.lst ys))
theorem each_zip {K : PySem.W.Frag} {H : Hp} : ∀ {xs : List V} {its : List Value} {ds : List PyData}, Vals xs its → DpAll K H xs ds → EachIs (fun (v : Value) (b : V × PyData) => RelV b.1 v ∧ Dp K H b.1 b.2) its (xs.zip ds)
  | _, _, _, .nil, .nil => .nil
  | _, _, _, .cons r rs, .cons d ds => .cons ⟨r, d⟩ (each_zip rs ds)
theorem zip_snd {K : PySem.W.Frag} {H : Hp} : ∀ {xs : List V} {ds : List PyData}, DpAll K H xs ds → (xs.zip ds).map Prod.snd = ds
  | _, _, .nil => rfl
  | _, _, .cons _ t => congrArg (List.cons _) (zip_snd t)
theorem each_vals {K : PySem.W.Frag} {H : Hp} : ∀ {its : List Value} {bs : List (V × PyData)}, EachIs (fun (v : Value) (b : V × PyData) => RelV b.1 v ∧ Dp K H b.1 b.2) its bs → Vals (bs.map Prod.fst) its ∧ DpAll K H (bs.map Prod.fst) (bs.map Prod.snd)
  | _, _, .nil => ⟨.nil, .nil⟩
  | _, _, .cons h t => ⟨.cons h.1 (each_vals t).1, .cons h.2 (each_vals t).2⟩
section
variable {X : Cx}
theorem op_ltD (hu : X.A.units + 64 < cLine) : OpR X (compareOp .Lt) (rLtD X.K) := by
  intro pins s σ H x y v u Q I rx ry h
  obtain ⟨d, e, hd, he, al, nn, dep, q⟩ := h
  obtain ⟨as, r1⟩ := Dp.reads I d x v hd rx
  obtain ⟨bs, r2⟩ := Dp.reads I e y u he ry
  exact PySem.W.lt_data r1 r2 al nn (by omega) ⟨.bl _, H, I, rfl, q⟩
theorem cr_sortedD (hu : X.A.units + 64 < cLine) : CallR X (.builtin "sorted") (rSortedD X.K) := by
  intro pins s σ H vs us Q I r h
  obtain ⟨a, xs, ds, rfl, hs, hd, al, so, dep, q⟩ := h
  obtain rfl := Vals.ref1 r
  obtain ⟨its, rv, pl, hz⟩ := I.list hs
  have ez := each_zip rv hd
  have en := zip_snd hd
  have len : (xs.zip ds).length = xs.length := by rw [List.length_zip, dpa_len hd, Nat.min_self]
  refine PySem.W.sorted_data (β := V × PyData) (enc := Prod.snd) (R := fun v b => RelV b.1 v ∧ Dp X.K H b.1 b.2) (bs := xs.zip ds) pl.isList ez (ez.mono fun v b z => Dp.reads I b.2 b.1 v z.2 z.1) (by rw [en]; exact al) (by rw [en]; exact so) (by rw [len]; exact hz) (fun b hb => ?_) fun out lo eo => ?_
  · have := dep b.2 (by rw [← en]; exact List.mem_map_of_mem hb)
    omega
  · obtain ⟨vo, dpo⟩ := each_vals eo
    obtain ⟨c, hc⟩ := sortedAll_at s.heap its out.toArray
    have nw : H (s.heap.objs.size + 1) = none := I.hok.fresh (Nat.le_succ _)
    have srt : ((xs.zip ds).mergeSort (dataLe false Prod.snd)).map Prod.snd = ds.mergeSort leD := by
      rw [List.map_mergeSort (r := dataLe false Prod.snd) (s := leD) (f := Prod.snd) (fun _ _ _ _ => rfl), en]
    rw [srt] at dpo
    refine ⟨.ref (s.heap.objs.size + 1), _, I.laid (t' := s.toks) (o := .lst (((xs.zip ds).mergeSort (dataLe false Prod.snd)).map Prod.fst)) (fun _ _ z => sortedAll_old z) (Nat.le_succ _) ?_, rfl, q _ _ nw dpo⟩
    exact ⟨by rw [List.length_map, List.length_mergeSort, len]; exact hz, out, c, vo, hc⟩
end
section
variable {K : PySem.W.Frag} {σ : L2.St} {H : Hp} {ta tb te : TE} {d e : PyData} {ds : List PyData}
theorem ev_ltD (ha : EvD K ta σ H d) (hb : EvD K tb σ H e) (al : alike d e = true) (nn : d ≠ .none) (dep : d.depth ≤ 50) : Ev (tOp (rLtD K) ta tb) σ H (.bl (dataLt d e)) := fun H1 x Q q =>
  ha H1 x _ fun v H2 e2 hv => hb H2 (x.trans e2) _ fun u H3 e3 hu => ⟨d, e, dp_ex e3 _ _ hv, hu, al, nn, dep, q H3 (e2.trans e3)⟩
theorem en_sortedD (h : EvD K te σ H (.list ds)) (al : AllAlike ds) (so : Sortable ds) (dep : ∀ d ∈ ds, d.depth ≤ 50) : EvN K (tCB (rSortedD K) (tCons te tNil)) σ H (ds.mergeSort leD) := fun H1 e Q q =>
  h H1 e _ fun v H2 e2 hv => by
    cases hv with
    | lst hs ha => exact ⟨_, _, ds, rfl, hs, ha, al, so, dep, fun p ys hp hy => q p ys _ (fresh_back e2 hp) (e2.trans (Ex.new hp)) upd_same (dpa_ex (Ex.new hp) _ _ hy)⟩
end
end DL
set_option Elab.async false
set_option linter.all false
set_option maxRecDepth 100000
set_option maxHeartbeats 4000000
namespace K16
open PySem PySem.Spec PyProof.Rows L2 Evl DL
local macro_rules | `(tactic| walk_at "dl") => `(tactic| first
  | exact ev_c | exact ev_var rfl | exact eda_nil
  | exact ed_var rfl (by assumption)
  | exact ed_int ev_c | exact ed_int (ev_var rfl)
  | (refine eda_cons ?_ ?_ <;> walk_at "dl")
  | (refine ed_int ?_; walk_at "dl")
  | (refine ev_op ?_ ?_ rv_I0 <;> walk_at "dl"))

section
variable {X : Cx} {a b c d : Expr} {ta tb tc td : TE}
/-- a op b op c op d -/
def tChain3 (r1 r2 r3 : R2) (ta tb tc td : TE) : TE := fun σ H Q => ta σ H fun x H1 => tb σ H1 fun y H2 => r1 x y H2 fun z H3 => ∃ k, z = .bl k ∧
  (if k = true then tc σ H3 fun u H4 => r2 y u H4 fun z2 H5 => ∃ k2, z2 = .bl k2 ∧ (if k2 = true then td σ H5 fun v H6 => r3 u v H6 Q else Q (.bl false) H5) else Q (.bl false) H3)
theorem pe_chain3 {o1 o2 o3 : CmpOp} {r1 r2 r3 : R2} {pos : Pos} (h1 : OpR X (compareOp o1) r1) (h2 : OpR X (compareOp o2) r2) (h3 : OpR X (compareOp o3) r3) (ha : PE X a ta) (hb : PE X b tb) (hc : PE X c tc) (hd : PE X d td)
    (hm : lastMarks [o1, o2, o3] [b, c, d] = false := by with_unfolding_all rfl) : PE X (.Compare a [o1, o2, o3] [b, c, d] pos) (tChain3 r1 r2 r3 ta tb tc td) := by
  constructor
  intro pins s σ H Q I h
  apply Compare_chain _ hm
  refine thn (ha.run pins s σ H _ I h) fun va sa za => ?_
  obtain ⟨x, Ha, Ia, ra, qa⟩ := za
  apply chain_link
  refine thn (hb.run pins sa σ Ha _ Ia qa) fun vb sb zb => ?_
  obtain ⟨y, Hb, Ib, rb, qb⟩ := zb
  refine thn (h1 pins sb σ Hb x y va vb _ Ib ra rb qb) fun ve se ze => ?_
  obtain ⟨e, He, Ie, re, k, rfl, qe⟩ := ze
  cases re
  apply wpAny_truthy_bool
  cases k with
  | false => exact ite_ff ⟨.bl false, He, Ie, rfl, qe⟩
  | true =>
    refine ite_tt ?_
    apply chain_link
    refine thn (hc.run pins se σ He _ Ie qe) fun vc sc zc => ?_
    obtain ⟨u, Hc, Ic, rc, qc⟩ := zc
    refine thn (h2 pins sc σ Hc y u vb vc _ Ic rb rc qc) fun vf sf zf => ?_
    obtain ⟨f, Hf, If, rf, k2, rfl, qf⟩ := zf
    cases rf
    apply wpAny_truthy_bool
    cases k2 with
    | false => exact ite_ff ⟨.bl false, Hf, If, rfl, qf⟩
    | true =>
      refine ite_tt (chain_last ?_)
      refine thn (hd.run pins sf σ Hf _ If qf) fun vd sd zd => ?_
      obtain ⟨v, Hd, Id, rd, qd⟩ := zd
      exact h3 pins sd σ Hd u v vc vd Q Id rc rd qd
end
section
variable {σ : L2.St} {H : Hp} {ta tb tc td : TE}
/-- where all three hold -/
theorem ev_chain3 {f g h : Int → Int → Bool} {x y z u : Int} (ha : Ev ta σ H (.int x)) (hb : Ev tb σ H (.int y)) (hc : Ev tc σ H (.int z)) (hd : Ev td σ H (.int u)) (e1 : f x y = true) (e2 : g y z = true) (e3 : h z u = true) :
    Ev (tChain3 (rI0 fun i j => .bl (f i j)) (rI0 fun i j => .bl (g i j)) (rI0 fun i j => .bl (h i j)) ta tb tc td) σ H (.bl true) := fun H1 e Q q =>
  ha H1 e _ fun H2 e2' => hb H2 (e.trans e2') _ fun H3 e3' => ⟨x, y, rfl, rfl, f x y, rfl, by
    rw [e1]
    show tc σ H3 _
    refine hc H3 ((e.trans e2').trans e3') _ fun H4 e4 => ⟨y, z, rfl, rfl, g y z, rfl, ?_⟩
    rw [e2]
    show td σ H4 _
    refine hd H4 (((e.trans e2').trans e3').trans e4) _ fun H5 e5 => ⟨z, u, rfl, rfl, ?_⟩
    show Q (.bl (h z u)) H5
    rw [e3]
    exact q H5 (((e2'.trans e3').trans e4).trans e5)⟩
end
/-! ### rows that rise -/
def risesD (xs : List PyData) : Bool := (List.zipWith PySem.W.dataLt xs xs.tail).all id
section
variable {P : Program} {w : World} {K : PySem.W.Frag} {mg : Str → Option Value} {base : Heap}

theorem rises_no {xs : List PyData} {i : Nat} {a b : PyData} (h1 : xs[i]? = some a) (h2 : xs[i + 1]? = some b) (h : PySem.W.dataLt a b = false) : risesD xs = false := by
  unfold risesD
  rw [List.all_eq_false]
  refine ⟨false, List.mem_of_getElem? (i := i) ?_, by simp⟩
  rw [List.getElem?_zipWith, h1, List.getElem?_tail, h2]
  simp [h]
theorem rises_yes {xs : List PyData} (h : ∀ (i : Nat) a b, xs[i]? = some a → xs[i + 1]? = some b → PySem.W.dataLt a b = true) : risesD xs = true := by
  unfold risesD
  rw [List.all_eq_true]
  intro z hz
  obtain ⟨i, hi⟩ := List.mem_iff_getElem?.mp hz
  rw [List.getElem?_zipWith, List.getElem?_tail] at hi
  cases h1 : xs[i]? with
  | none => rw [h1] at hi; simp at hi
  | some x =>
    cases h2 : xs[i + 1]? with
    | none => rw [h1, h2] at hi; simp at hi
    | some y =>
      rw [h1, h2] at hi
      have := h i x y h1 h2
      simpa [this] using hi.symm
/-- data of one kind, small -/
def Row (xs : List PyData) : Prop := PySem.W.AllAlike xs ∧ (∀ x ∈ xs, x ≠ .none ∧ x.depth ≤ 50) ∧ xs.length ≤ 1000
def R_rises (ds : List PyData) (r : PyData) : Prop := ∃ xs, ds = [.tuple xs] ∧ Row xs ∧ r = .bool (risesD xs)
abbrev s_rises : Stmt := topS 12
abbrev N_rises : List Str := ["row", "k"]
theorem sc_rises : FnScope N_rises ["row"] (defScope s_rises) := ⟨rfl, rfl, rfl, by decide +kernel, rfl, by decide +kernel, by decide +kernel⟩
theorem ok_rises {f : Addr} {fd : FuncData} (F : Fun K "rises" "rises" s_rises f fd) (T : Txt mg)
      :
    FnOk P w K mg base CX0 1 f fd ["row"] (spD K 1 R_rises) := by
  refine F.ok sc_rises (fun vs H Q E h => spD_len h) (fun cdv A outer s H vs Q E hr h => ?_)
  obtain ⟨ds, r, hd, _, ⟨xs, rfl, ⟨al, ok, hl⟩, rfl⟩, k⟩ := h
  obtain ⟨v0, rfl, d0⟩ := dpa_one hd
  refine ⟨_, (pss_cons (ps_for PassesOwn.never rfl (pi_range2 (by rfl) T.b_range (pa_cons pe_int (pa_cons (pe_callB call_len_seq (by rfl) T.b_len PySem.boot_len (pa_cons (pv 0) pa_nil)) pa_nil))) (pg_name (i := 1) sc_rises.nd rfl (Or.inl rfl)) (pss_one (ps_if (pt_not (pt_cmpR (op_ltD (hu64 hr)) (pe_ix ix_tup (pv 0) (pe_op op_sub (pv 1) pe_int) (fun _ _ => rfl)) (pe_ix ix_tup (pv 0) (pv 1) (fun _ _ => rfl)) (nomark _))) (pss_one (ps_ret pe_bl)) pss_nil)))
      (pss_one (ps_ret pe_bl))), ?_⟩
  refine e_for (ei_rng2 (K := K) (S := []) (m := 1) (n := (xs.length : Int)) (eda_cons (ed_int ev_c) (eda_cons (ed_int (ev_lenT (ed_var (v := v0) rfl d0))) eda_nil)) (by omega)) (fun H2 i σ' Ha => Ex H2 Ha ∧ (∀ j, j < i → ∀ a b, xs[j]? = some a → xs[j + 1]? = some b → PySem.W.dataLt a b = true) ∧ ∃ y, σ' = [some v0, y]) (fun H2 e2 => ⟨Ex.refl _, fun j hj => absurd hj (by omega), none, rfl⟩) (fun H2 i σ' Ha _ p => Xp.of_ex p.1) ?_ ?_
  · rintro H2 i d y σ' Ha Hb e2 hd1 ⟨p1, pn, z, rfl⟩ e3 hy
    have hlt : i < ((xs.length : Int) - 1).toNat := by
      have := (List.getElem?_eq_some_iff.mp hd1).1
      simpa using this
    rw [rng_get hlt] at hd1
    cases hd1
    cases hy
    have g1 : xs[i]? = some (xs[i]'(by omega)) := List.getElem?_eq_getElem (by omega)
    have g2 : xs[i + 1]? = some (xs[i + 1]'(by omega)) := List.getElem?_eq_getElem (by omega)
    have m1 := List.mem_of_getElem? g1
    have m2 := List.mem_of_getElem? g2
    have dv := dp_ex ((e2.trans p1).trans e3) _ _ d0
    refine s_when (b := !PySem.W.dataLt (xs[i]'(by omega)) (xs[i + 1]'(by omega))) (et_not (et_test (ev_ltD (K := K) (ed_ixT (k := i) (ed_var rfl dv) (ev_is (ev_op (ev_var rfl) ev_c rv_I0) (congrArg V.int (by omega))) g1) (ed_ixT (k := i + 1) (ed_var rfl dv) (ev_is (ev_var rfl) (congrArg V.int (by omega))) g2) (al _ m1 _ m2) (ok _ m1).1 (ok _ m1).2))) (fun hb H3 e4 => ?_) fun hb H3 e4 => ⟨(p1.trans e3).trans e4, fun j hj a b q1 q2 => ?_, _, rfl⟩
    · have no := rises_no g1 g2 (by simpa using hb)
      rw [no] at k
      exact d_ret (ed_bool ev_c) fun v H4 e5 hv => k v H4 (((e2.trans (p1.trans e3)).trans e4).trans e5) hv
    · by_cases ej : j = i
      · subst ej
        rw [g1] at q1
        rw [g2] at q2
        cases q1
        cases q2
        simpa using hb
      · exact pn j (by omega) a b q1 q2
  · rintro H2 σ' Ha e2 ⟨p1, pn, z, rfl⟩
    have yes : risesD xs = true := rises_yes fun i a b q1 q2 => pn i (by
      have := (List.getElem?_eq_some_iff.mp q2).1
      rw [List.length_map, List.length_range]
      omega) a b q1 q2
    rw [yes] at k
    exact d_ret (ed_bool ev_c) fun v H4 e5 hv => k v H4 ((e2.trans p1).trans e5) hv

/-- tracks, where they are well -/
def R_check_tracks (ds : List PyData) (r : PyData) : Prop := ∃ x l : Int, ds = [.int x, .int l] ∧ l ≤ x ∧ x ≤ 6 ∧ r = .none
theorem int_of_get {l : List Int} {i : Nat} {x : PyData} (h : (dI l)[i]? = some x) : ∃ n, x = .int n := by
  obtain ⟨n, _, e⟩ := List.mem_map.mp (List.mem_of_getElem? h)
  exact ⟨n, e.symm⟩
/-! ### switches -/
abbrev Sw := (Int × Int) × (Int × Int)
def swD (w : Sw) : PyData := .tuple [pD w.1, pD w.2]
def SwOk (s t : Int) (w : Sw) : Prop := 0 ≤ w.1.1 ∧ w.1.1 < w.2.1 ∧ w.2.1 < s ∧ 0 ≤ w.1.2 ∧ w.1.2 < t ∧ 0 ≤ w.2.2 ∧ w.2.2 < t
def R_is_switch (ds : List PyData) (r : PyData) : Prop := ∃ (s t : Int) (w : Sw), ds = [.int s, .int t, swD w] ∧ SwOk s t w ∧ r = .bool true
theorem alike_sw (a b : Sw) : PySem.W.alike (swD a) (swD b) = true := rfl
theorem row_sw {ws : List Sw} (hl : ws.length ≤ 1000) : Row (ws.map swD) := by
  refine ⟨fun d hd e he => ?_, fun d hd => ?_, by rw [List.length_map]; exact hl⟩
  · obtain ⟨a, _, rfl⟩ := List.mem_map.mp hd
    obtain ⟨b, _, rfl⟩ := List.mem_map.mp he
    rfl
  · obtain ⟨a, _, rfl⟩ := List.mem_map.mp hd
    exact ⟨(fun z => nomatch z), by show (swD a).depth ≤ 50; simp [swD, pD, PyData.depth, PyData.depthAll]⟩
def R_is_switch_tuple (ds : List PyData) (r : PyData) : Prop := ∃ (s t : Int) (ws : List Sw), ds = [.int s, .int t, .tuple (ws.map swD)] ∧ (∀ w ∈ ws, SwOk s t w) ∧ ws.length ≤ 1000 ∧ r = .bool (risesD (ws.map swD))
end
end K16
set_option Elab.async false
set_option linter.all false
set_option maxRecDepth 100000
set_option maxHeartbeats 4000000
namespace K16
open PySem PySem.Spec PyProof.Rows L2 Evl DL
local macro_rules | `(tactic| walk_at "dl") => `(tactic| first
  | exact ev_c | exact ev_var rfl | exact eda_nil
  | exact ed_var rfl (by assumption)
  | exact ed_int ev_c | exact ed_int (ev_var rfl)
  | (refine eda_cons ?_ ?_ <;> walk_at "dl")
  | (refine ed_int ?_; walk_at "dl")
  | (refine ev_op ?_ ?_ rv_I0 <;> walk_at "dl"))

/-- a switch of these sides and tracks -/
def swB (s t : Int) (d : PyData) : Bool := match d with
  | .tuple [.tuple [.int a, .int b], .tuple [.int c, .int e]] => (decide (0 ≤ a) && (decide (a < c) && decide (c < s))) && ((decide (0 ≤ b) && decide (b < t)) && (decide (0 ≤ e) && decide (e < t)))
  | _ => false
def two : PyData → Option (PyData × PyData)
  | .tuple [a, b] => some (a, b)
  | _ => none
theorem two_some {d a b : PyData} (h : two d = some (a, b)) : d = .tuple [a, b] := by
  unfold two at h
  split at h
  · cases h
    rfl
  · cases h
def R_is_switchB (ds : List PyData) (r : PyData) : Prop := ∃ (s t : Int) (d : PyData), ds = [.int s, .int t, d] ∧ r = .bool (swB s t d)
section
variable {σ : L2.St} {H : Hp} {ta tb tc td : TE}
theorem ev_chain3B {f g h : Int → Int → Bool} {x y z u : Int} (ha : Ev ta σ H (.int x)) (hb : Ev tb σ H (.int y)) (hc : Ev tc σ H (.int z)) (hd : Ev td σ H (.int u)) :
    Ev (tChain3 (rI0 fun i j => .bl (f i j)) (rI0 fun i j => .bl (g i j)) (rI0 fun i j => .bl (h i j)) ta tb tc td) σ H (.bl (f x y && (g y z && h z u))) := fun H1 e Q q =>
  ha H1 e _ fun H2 e2' => hb H2 (e.trans e2') _ fun H3 e3' => ⟨x, y, rfl, rfl, f x y, rfl, by
    cases e1 : f x y with
    | false =>
      rw [e1] at q
      exact q H3 (e2'.trans e3')
    | true =>
      show tc σ H3 _
      refine hc H3 ((e.trans e2').trans e3') _ fun H4 e4 => ⟨y, z, rfl, rfl, g y z, rfl, ?_⟩
      cases e5 : g y z with
      | false =>
        rw [e1, e5] at q
        exact q H4 ((e2'.trans e3').trans e4)
      | true =>
        show td σ H4 _
        refine hd H4 (((e.trans e2').trans e3').trans e4) _ fun H5 e6 => ⟨z, u, rfl, rfl, ?_⟩
        rw [e1, e5] at q
        exact q H5 (((e2'.trans e3').trans e4).trans e6)⟩
end
section
variable {P : Program} {w : World} {K : PySem.W.Frag} {mg : Str → Option Value} {base : Heap}
abbrev s_is_switch : Stmt := topS 20
abbrev N_is_switch : List Str := ["sides", "tracks", "thing", "side", "track", "far", "other", "number"]
theorem sc_is_switch : FnScope N_is_switch ["sides", "tracks", "thing"] (defScope s_is_switch) := ⟨rfl, rfl, rfl, by decide +kernel, rfl, by decide +kernel, by decide +kernel⟩
theorem ok_is_switch {f : Addr} {fd : FuncData} (F : Fun K "is_switch" "is_switch" s_is_switch f fd) (T : Txt mg)
    (D_is_tuple_of : DF P w K mg base "is_tuple_of" 1 ["thing", "many"] (spD K 2 R_is_tuple_of))  :
    FnOk P w K mg base CX0 2 f fd ["sides", "tracks", "thing"] (spD K 3 R_is_switchB) := by
  refine F.ok sc_is_switch (fun vs H Q E h => spD_len h) (fun cdv A outer s H vs Q E hr h => ?_)
  obtain ⟨ds, r, hd, _, ⟨s, t, d, rfl, rfl⟩, k⟩ := h
  obtain ⟨v0, v1, v2, rfl, d0, d1, d2⟩ := dpa_three hd
  cases dp_int d0
  cases dp_int d1
  refine ⟨_, (pss_cons (ps_if (PW.pt (pw_or (pt_not (pt_val (pe_D D_is_tuple_of (hr.mono (by decide)) (by rfl) (pa_cons (pv 2) (pa_cons pe_int pa_nil))))) (pw_or (pt_not (pt_val (pe_D D_is_tuple_of (hr.mono (by decide)) (by rfl) (pa_cons (pe_ix ix_tup (pv 2) pe_int (fun _ _ => rfl)) (pa_cons pe_int pa_nil))))) (pw_or1 (pt_not (pt_val (pe_D D_is_tuple_of (hr.mono (by decide)) (by rfl) (pa_cons (pe_ix ix_tup (pv 2) pe_int (fun _ _ => rfl)) (pa_cons pe_int pa_nil))))))))) (pss_one (ps_ret pe_bl)) pss_nil)
      (pss_cons (ps_asg (pv 2) (pg_tup rfl (pgs_cons (pg_tup rfl (pgs_cons (pg_name (i := 3) sc_is_switch.nd rfl (Or.inl rfl)) (pgs_cons (pg_name (i := 4) sc_is_switch.nd rfl (Or.inl rfl)) pgs_nil))) (pgs_cons (pg_tup rfl (pgs_cons (pg_name (i := 5) sc_is_switch.nd rfl (Or.inl rfl)) (pgs_cons (pg_name (i := 6) sc_is_switch.nd rfl (Or.inl rfl)) pgs_nil))) pgs_nil))))
      (pss_cons (ps_for PassesOwn.never rfl (pi_tup (pe_tup (pa_cons (pv 3) (pa_cons (pv 4) (pa_cons (pv 5) (pa_cons (pv 6) pa_nil)))))) (pg_name (i := 7) sc_is_switch.nd rfl (Or.inl rfl)) (pss_one (ps_if (PW.pt (pw_or (pt_not (pt_val (pe_callB call_isi (by rfl) T.b_isinstance (by decide +kernel) (pa_cons (pv 7) (pa_cons (pe_bltn (v := .ty "int") (u := .type "int") (by rfl) T.b_int (by decide +kernel) rfl) pa_nil))))) (pw_or1 (pt_val (pe_callB call_isi (by rfl) T.b_isinstance (by decide +kernel) (pa_cons (pv 7) (pa_cons (pe_bltn (v := .ty "bool") (u := .type "bool") (by rfl) T.b_bool (by decide +kernel) rfl) pa_nil))))))) (pss_one (ps_ret pe_bl)) pss_nil)))
      (pss_one (ps_ret (pe_and (pe_chain3 op_le op_lt op_lt pe_int (pv 3) (pv 5) (pv 0)) (pe_and (pe_chain op_le op_lt pe_int (pv 4) (pv 1)) (pe_one (pe_chain op_le op_lt pe_int (pv 6) (pv 1)))))))))), ?_⟩
  have tt : ∀ {te : TE} {σ : L2.St} {H : Hp} {e : PyData}, EvD K te σ H e → EvT (tNot (tB (tCall (spD K 2 R_is_tuple_of) [] E0 (tCons te (tCons (tC (.int 2)) tNil))))) σ H (!(two e).isSome) := fun {te σ H e} h1 => et_not (et_B (EvD.bool (ed_call (R := R_is_tuple_of) (ds := [e, .int 2]) (eda_cons h1 (eda_cons (ed_int ev_c) eda_nil)) rfl ⟨_, _, rfl, by
    cases e with
    | tuple es =>
      match es with
      | [] => rfl
      | [_] => rfl
      | [_, _] => rfl
      | _ :: _ :: _ :: l =>
        show PyData.bool false = .bool (decide ((((l.length + 1 + 1 + 1 : Nat)) : Int) = 2))
        rw [decide_eq_false (by omega)]
    | _ => rfl⟩)))
  have no : swB s t d = false → ∀ H1, Ex H H1 → ∀ {σ : L2.St}, tRet (tC (.bl false)) { nx := fun _ H' => Q .non H', rt := Q } σ H1 := fun e H1 e1 σ => by
    rw [e] at k
    exact d_ret (K := K) (ed_bool ev_c) fun v H2 e2 hv => k v H2 (e1.trans e2) hv
  cases h2 : two d with
  | none =>
    refine q_when (b := true) (et_is (et_or (b := true) (tt (ed_var (v := v2) rfl d2)) fun z => by rw [h2] at z; cases z) (by rw [h2]; rfl)) (fun _ H1 e1 => no ?_ H1 e1) fun z => nomatch z
    unfold swB
    split
    · simp [two] at h2
    · rfl
  | some p =>
    obtain ⟨q0, q1⟩ := p
    have e := two_some h2
    subst e
    have i0 := ed_ixT (K := K) (k := 0) (ed_var (k := 2) (σ := L2.start N_is_switch [.int s, .int t, v2]) (v := v2) rfl d2) ev_c (d := q0) rfl
    have i1 := ed_ixT (K := K) (k := 1) (ed_var (k := 2) (σ := L2.start N_is_switch [.int s, .int t, v2]) (v := v2) rfl d2) ev_c (d := q1) rfl
    refine q_when (b := !(two q0).isSome || !(two q1).isSome) (et_is (et_or (tt (ed_var (v := v2) rfl d2)) fun _ => et_or (tt i0) fun _ => tt i1) (by rw [h2]; rfl)) (fun hb H1 e1 => no ?_ H1 e1) fun hb H1 e1 => ?_
    · unfold swB
      split
      · rename_i heq
        injection heq with heq
        injection heq with a1 a2
        injection a2 with a2 a3
        rw [a1, a2] at hb
        simp [two] at hb
      · rfl
    · obtain ⟨⟨⟨x0, x1⟩, e0⟩, ⟨⟨x2, x3⟩, e1'⟩⟩ : (∃ p, two q0 = some p) ∧ ∃ p, two q1 = some p := by
        cases h3 : two q0 <;> cases h4 : two q1 <;> simp [h3, h4] at hb ⊢
      have z0 := two_some e0
      have z1 := two_some e1'
      subst z0 z1
      have dv := dp_ex e1 _ _ d2
      refine ed_var (K := K) (k := 2) (v := v2) rfl dv H1 (Ex.refl _) _ fun v H2 e2 hv => g_two hv fun p1 p2 r1 r2 => ?_
      refine g_two (d1 := x0) (d2 := x1) r1 fun w0 w1 u0 u1 => ?_
      refine g_two (d1 := x2) (d2 := x3) r2 fun w2 w3 u2 u3 => ?_
      have notAll : ∀ (x : PyData), x ∈ [x0, x1, x2, x3] → isNum x = false → swB s t (.tuple [.tuple [x0, x1], .tuple [x2, x3]]) = false := fun x hx hn => by
        unfold swB
        split
        · rename_i heq
          simp only [PyData.tuple.injEq, List.cons.injEq, and_true] at heq
          obtain ⟨⟨rfl, rfl⟩, rfl, rfl⟩ := heq
          simp only [List.mem_cons, List.not_mem_nil, or_false] at hx
          rcases hx with rfl | rfl | rfl | rfl <;> cases hn
        · rfl
      refine e_for (ei_tupD (K := K) (ed_tup (ds := [x0, x1, x2, x3]) (eda_cons (ed_var rfl u0) (eda_cons (ed_var rfl u1) (eda_cons (ed_var rfl u2) (eda_cons (ed_var rfl u3) eda_nil)))) (by simp))) (fun H3 i σ' Ha => Ex H3 Ha ∧ (∀ j, j < i → ∀ x, [x0, x1, x2, x3][j]? = some x → isNum x = true) ∧ ∃ y, σ' = [some (.int s), some (.int t), some v2, some w0, some w1, some w2, some w3, y]) (fun H3 e3 => ⟨Ex.refl _, fun j hj => absurd hj (by omega), none, rfl⟩) (fun H3 i σ' Ha _ p => Xp.of_ex p.1) ?_ ?_
      · rintro H3 i x y σ' Ha Hb e3 hx ⟨p1, pn, z, rfl⟩ e4 hy
        refine s_when (b := !isNum x) (et_is (et_or (et_not (et_B (ev_isiD (ed_var (k := 7) (v := y) rfl hy) (kit_int _)))) fun _ => et_B (ev_isiD (ed_var (k := 7) (v := y) rfl hy) (kit_bool _))) (by cases x <;> rfl)) (fun hb2 H5 e5 => ?_) fun hb2 H5 e5 => ⟨(p1.trans e4).trans e5, fun j hj x' hx' => ?_, _, rfl⟩
        · exact no (notAll x (List.mem_of_getElem? hx) (by simpa using hb2)) H5 ((((e1.trans e2).trans e3).trans p1).trans (e4.trans e5))
        · by_cases hji : j < i
          · exact pn j hji x' hx'
          · have : j = i := by omega
            subst this
            rw [hx] at hx'
            cases hx'
            simpa using hb2
      · rintro H3 σ' Ha e3 ⟨p1, pn, z, rfl⟩
        have n0 := pn 0 (by simp) x0 rfl
        have n1 := pn 1 (by simp) x1 rfl
        have n2 := pn 2 (by simp) x2 rfl
        have n3 := pn 3 (by simp) x3 rfl
        cases x0 <;> cases n0
        cases x1 <;> cases n1
        cases x2 <;> cases n2
        cases x3 <;> cases n3
        cases dp_int u0
        cases dp_int u1
        cases dp_int u2
        cases dp_int u3
        exact d_ret (K := K) (ed_bool (ev_andV (ev_chain3B ev_c (ev_var rfl) (ev_var rfl) (ev_var rfl)) fun _ => ev_andV (ev_chain ev_c (ev_var rfl) (ev_var rfl)) fun _ => ev_chain ev_c (ev_var rfl) (ev_var rfl))) fun v H4 e4 hv => k v H4 (((e1.trans e2).trans (e3.trans p1)).trans e4) hv

end
end K16
set_option Elab.async false
set_option linter.all false
set_option maxRecDepth 100000
set_option maxHeartbeats 4000000
namespace K16
open PySem PySem.Spec PyProof.Rows L2 Evl DL
local macro_rules | `(tactic| walk_at "dl") => `(tactic| first
  | exact ev_c | exact ev_var rfl | exact eda_nil
  | exact ed_var rfl (by assumption)
  | exact ed_int ev_c | exact ed_int (ev_var rfl)
  | (refine eda_cons ?_ ?_ <;> walk_at "dl")
  | (refine ed_int ?_; walk_at "dl")
  | (refine ev_op ?_ ?_ rv_I0 <;> walk_at "dl"))

theorem swB_of {s t : Int} {d : PyData} (h : swB s t d = true) : ∃ u : Sw, d = swD u ∧ SwOk s t u := by
  unfold swB at h
  split at h
  · rename_i a b c e
    simp only [Bool.and_eq_true, decide_eq_true_eq] at h
    obtain ⟨⟨h1, h2, h3⟩, ⟨h4, h5⟩, h6, h7⟩ := h
    exact ⟨((a, b), (c, e)), rfl, h1, h2, h3, h4, h5, h6, h7⟩
  · cases h
theorem sws_of {s t : Int} : ∀ {ds : List PyData}, ds.all (swB s t) = true → ∃ us : List Sw, ds = us.map swD ∧ ∀ u ∈ us, SwOk s t u
  | [], _ => ⟨[], rfl, fun _ h => by simp at h⟩
  | d :: ds, h => by
    rw [List.all_cons, Bool.and_eq_true] at h
    obtain ⟨u, rfl, hu⟩ := swB_of h.1
    obtain ⟨us, rfl, hus⟩ := sws_of h.2
    refine ⟨u :: us, rfl, fun x hx => ?_⟩
    rcases List.mem_cons.mp hx with rfl | hx
    · exact hu
    · exact hus x hx
/-- a tuple of switches that rise -/
def swtB (s t : Int) (d : PyData) : Bool := match d with
  | .tuple ds => ds.all (swB s t) && risesD ds
  | _ => false
def R_is_swtB (ds : List PyData) (r : PyData) : Prop := ∃ (s t : Int) (d : PyData), ds = [.int s, .int t, d] ∧ (∀ es, d = .tuple es → es.length ≤ 1000) ∧ r = .bool (swtB s t d)
section
variable {P : Program} {w : World} {K : PySem.W.Frag} {mg : Str → Option Value} {base : Heap}
abbrev s_is_switch_tuple : Stmt := topS 21
abbrev N_is_switch_tuple : List Str := ["sides", "tracks", "thing", "item"]
theorem sc_is_switch_tuple : FnScope N_is_switch_tuple ["sides", "tracks", "thing"] (defScope s_is_switch_tuple) := ⟨rfl, rfl, rfl, by decide +kernel, rfl, by decide +kernel, by decide +kernel⟩
theorem ok_is_switch_tuple {f : Addr} {fd : FuncData} (F : Fun K "is_switch_tuple" "is_switch_tuple" s_is_switch_tuple f fd) (T : Txt mg)
    (D_is_switch : DF P w K mg base "is_switch" 2 ["sides", "tracks", "thing"] (spD K 3 R_is_switchB)) (D_rises : DF P w K mg base "rises" 1 ["row"] (spD K 1 R_rises))  :
    FnOk P w K mg base CX0 3 f fd ["sides", "tracks", "thing"] (spD K 3 R_is_swtB) := by
  refine F.ok sc_is_switch_tuple (fun vs H Q E h => spD_len h) (fun cdv A outer s H vs Q E hr h => ?_)
  obtain ⟨ds, r, hd, _, ⟨s, t, d, rfl, sm, rfl⟩, k⟩ := h
  obtain ⟨v0, v1, v2, rfl, d0, d1, d2⟩ := dpa_three hd
  cases dp_int d0
  cases dp_int d1
  refine ⟨_, (pss_cons (ps_if (pt_not (pt_val (pe_callB call_isi (by rfl) T.b_isinstance (by decide +kernel) (pa_cons (pv 2) (pa_cons (pe_bltn (v := .ty "tuple") (u := .type "tuple") (by rfl) T.b_tuple (by decide +kernel) rfl) pa_nil))))) (pss_one (ps_ret pe_bl)) pss_nil)
      (pss_cons (ps_for PassesOwn.never rfl (pi_tup (pv 2)) (pg_name (i := 3) sc_is_switch_tuple.nd rfl (Or.inl rfl)) (pss_one (ps_if (pt_not (pt_val (pe_D D_is_switch (hr.mono (by decide)) (by rfl) (pa_cons (pv 0) (pa_cons (pv 1) (pa_cons (pv 3) pa_nil)))))) (pss_one (ps_ret pe_bl)) pss_nil)))
      (pss_one (ps_ret (pe_D D_rises (hr.mono (by decide)) (by rfl) (pa_cons (pv 2) pa_nil)))))), ?_⟩
  have isT : EvT (tNot (tB (tCB (rIsi K) (tCons (tVar 2) (tCons (tC (.ty "tuple")) tNil))))) (L2.start N_is_switch_tuple [.int s, .int t, v2]) H (!(isTup d).isSome) := et_not (et_B (ev_isiD (ed_var (v := v2) rfl d2) (kit_tuple d)))
  cases d with
  | tuple es =>
    have sm := sm es rfl
    refine q_when (b := false) (et_is isT rfl) (fun z => nomatch z) fun _ H1 e1 => ?_
    refine e_for (ei_tupD (K := K) (ed_var (v := v2) rfl (dp_ex e1 _ _ d2))) (fun H3 i σ' Ha => Ex H3 Ha ∧ (∀ j, j < i → ∀ e, es[j]? = some e → swB s t e = true) ∧ ∃ y, σ' = [some (.int s), some (.int t), some v2, y]) (fun H3 e3 => ⟨Ex.refl _, fun j hj => absurd hj (by omega), none, rfl⟩) (fun H3 i σ' Ha _ p => Xp.of_ex p.1) ?_ ?_
    · rintro H3 i e y σ' Ha Hb e3 he ⟨p1, pn, z, rfl⟩ e4 hy
      refine s_when (b := !swB s t e) (et_not (et_B (EvD.bool (ed_call (R := R_is_switchB) (ds := [.int s, .int t, e]) (eda_cons (ed_int (ev_var rfl)) (eda_cons (ed_int (ev_var rfl)) (eda_cons (ed_var (k := 3) (v := y) rfl hy) eda_nil))) rfl ⟨s, t, e, rfl, rfl⟩)))) (fun hn H5 e5 => ?_) fun hn H5 e5 => ⟨(p1.trans e4).trans e5, fun j hj x hx => ?_, _, rfl⟩
      · have hn : swB s t e = false := by simpa using hn
        have al : swtB s t (.tuple es) = false := by
          show (es.all (swB s t) && _) = false
          rw [List.all_eq_false.mpr ⟨e, List.mem_of_getElem? he, by rw [hn]; simp⟩]
          rfl
        rw [al] at k
        exact d_ret (K := K) (ed_bool ev_c) fun v H6 e6 hv => k v H6 ((((e1.trans e3).trans p1).trans (e4.trans e5)).trans e6) hv
      · by_cases hji : j < i
        · exact pn j hji x hx
        · have : j = i := by omega
          subst this
          rw [he] at hx
          cases hx
          simpa using hn
    · rintro H3 σ' Ha e3 ⟨p1, pn, z, rfl⟩
      have al : es.all (swB s t) = true := List.all_eq_true.mpr fun e he => by
        obtain ⟨j, hj⟩ := List.mem_iff_getElem?.mp he
        exact pn j (List.getElem?_eq_some_iff.mp hj).1 e hj
      have sw : swtB s t (.tuple es) = risesD es := by
        show (es.all (swB s t) && risesD es) = _
        rw [al]
        rfl
      rw [sw] at k
      obtain ⟨us, rfl, _⟩ := sws_of al
      rw [List.length_map] at sm
      have e13 := (e1.trans e3).trans p1
      exact d_ret (K := K) (ed_call (R := R_rises) (ds := [.tuple (us.map swD)]) (eda_cons (ed_var (v := v2) rfl (dp_ex e13 _ _ d2)) eda_nil) rfl ⟨_, rfl, row_sw sm, rfl⟩) fun v H6 e6 hv => k v H6 (e13.trans e6) hv
  | _ => exact q_when (b := true) (et_is isT rfl) (fun _ H1 e1 => d_ret (K := K) (ed_bool ev_c) fun v H6 e6 hv => k v H6 (e1.trans e6) hv) fun z => nomatch z

end
end K16
set_option Elab.async false
set_option linter.all false
set_option maxRecDepth 100000
set_option maxHeartbeats 4000000
/-! such a dict is changed; a dict comprehension whose keys are of any depth -/
namespace DL
open PySem PySem.Spec PyProof.Rows L2 Evl
section
variable {X : Cx} {pins : List (Addr × Obj)} {σ : L2.St} {H : Hp} {s : Shared}
/-- a pair more, or another value -/
def putN (kvs : List (NestedKey × Addr × V)) (k : NestedKey) (b : Addr) (v : V) : List (NestedKey × Addr × V) := if hasN kvs k then kvs.map (fun x => if x.1 = k then (x.1, x.2.1, v) else x) else kvs ++ [(k, b, v)]
theorem putN_len (kvs : List (NestedKey × Addr × V)) (k : NestedKey) (b : Addr) (v : V) : (putN kvs k b v).length ≤ kvs.length + 1 := by
  unfold putN
  split
  · rw [List.length_map]
    omega
  · simp
theorem pair_map {α β : Type} {F : α → β → Prop} {f : α → α} {g : β → β} (h : ∀ a b, F a b → F (f a) (g b)) : ∀ {xs : List α} {ys : List β}, Paired F xs ys → Paired F (xs.map f) (ys.map g)
  | _, _, .nil => .nil
  | _, _, .cons a t => .cons (h _ _ a) (pair_map h t)
theorem pair_app {α β : Type} {F : α → β → Prop} {a : α} {b : β} (h : F a b) : ∀ {xs : List α} {ys : List β}, Paired F xs ys → Paired F (xs ++ [a]) (ys ++ [b])
  | _, _, .nil => .cons h .nil
  | _, _, .cons a t => .cons a (pair_app h t)
theorem put_pair {kvs : List (NestedKey × Addr × V)} {xs : List (NestedKey × Addr × Value)} (pr : Paired (fun p q => p.1 = q.1 ∧ p.2.1 = q.2.1 ∧ RelV p.2.2 q.2.2) kvs xs) (k : NestedKey) (b : Addr) {v : V} {r : Value} (rv : RelV v r) :
    Paired (fun p q => p.1 = q.1 ∧ p.2.1 = q.2.1 ∧ RelV p.2.2 q.2.2) (putN kvs k b v) (storedH xs k b r) := by
  unfold putN storedH
  rw [has_pair pr]
  split
  · refine pair_map (fun p q h => ?_) pr
    unfold putAt
    obtain ⟨h1, h2, h3⟩ := h
    by_cases e : p.1 = k
    · rw [if_pos e, if_pos (h1 ▸ e)]
      exact ⟨h1, h2, rv⟩
    · rw [if_neg e, if_neg (h1 ▸ e)]
      exact ⟨h1, h2, h3⟩
  · exact pair_app ⟨rfl, rfl, rv⟩ pr
theorem putN_mem {kvs : List (NestedKey × Addr × V)} {k : NestedKey} {b : Addr} {v : V} {x : NestedKey × Addr × V} (h : x ∈ putN kvs k b v) : (∃ y ∈ kvs, y.1 = x.1 ∧ y.2.1 = x.2.1) ∨ x = (k, b, v) := by
  unfold putN at h
  split at h
  · obtain ⟨y, hy, rfl⟩ := List.mem_map.mp h
    refine .inl ⟨y, hy, ?_⟩
    split <;> exact ⟨rfl, rfl⟩
  · rcases List.mem_append.mp h with h | h
    · exact .inl ⟨x, h, rfl, rfl⟩
    · exact .inr (List.mem_singleton.mp h)
theorem tx_nd {P : Program} {w : World} {H : Hp} {D d : Addr} {kvs : List (NestedKey × Addr × V)} {u : HO} (h : H D = some (NdO P w d kvs)) : Tx H (L2.upd H D u) := Tx.upd h (fun _ z => nomatch z) fun _ _ z => nomatch z
theorem Nd.put {P : Program} {w : World} {K : PySem.W.Frag} {H : Hp} {D b : Addr} {kvs : List (NestedKey × Addr × V)} {k : NestedKey} {v : V} {dd : PyData} (N : Nd P w K H D kvs) (hb : Dp K H (.ref b) dd) (hi : imm dd = true) (hk : keyD dd = some k) (dep : k.depth ≤ 8) : Nd P w K (L2.upd H D (NdO P w D (putN kvs k b v))) D (putN kvs k b v) :=
  ⟨upd_same, fun x hx => by
    have t := tx_nd (u := NdO P w D (putN kvs k b v)) N.at_
    rcases putN_mem hx with ⟨y, hy, e1, e2⟩ | rfl
    · obtain ⟨d2, a, i, c, dp⟩ := N.keys y hy
      exact ⟨d2, e2 ▸ dp_tx t _ _ i a, i, e1 ▸ c, e1 ▸ dp⟩
    · exact ⟨dd, dp_tx t _ _ hi hb, hi, hk, dep⟩⟩
/-- the dict takes one more pair -/
theorem nd_put {E : Value → Shared → Prop} {D b : Addr} {kvs : List (NestedKey × Addr × V)} {k : NestedKey} {v : V} {r : Value} {dd : PyData} {Q : Unit → Shared → Prop} (hu : X.A.units + 64 < cLine) (I : Inv X pins σ H s) (N : Nd X.prog X.w X.K H D kvs) (hb : Dp X.K H (.ref b) dd) (hk : keyD dd = some k) (dep : k.depth ≤ 8)
    (sz : kvs.length < sizeLine) (rv : RelV v r) (q : ∀ s', Inv X pins σ (upd H D (NdO X.prog X.w D (putN kvs k b v))) s' → Q () s') : wpAny (model X.prog X.w) X.A (dictSet D (.ref b) r) Q E s := by
  obtain ⟨z, hd, xs, rel, dd'⟩ := nd_open I N
  have lx : xs.length ≤ sizeLine := Paired.length rel ▸ z
  have room : (nestedKind X.prog X.w).room X.A := by
    show X.A.units + 8 < cLine
    omega
  refine wpAny_dictSet_heap (hsz := lx) room ⟨nested_of I dd k _ _ hk hb rfl, dep⟩ dd' fun h' now but => q _ ?_
  obtain ⟨o, es, ep, ho, ex, hdat, hl, _, nd⟩ := now
  have pl := putN_len kvs k b v
  exact d_write I (by rw [N.at_]; exact True.intro) but ⟨o, ho⟩ (ndO_ok (by omega) hd (put_pair rel k b rv) ho ex hdat hl nd)
theorem nd_empty {P : Program} {w : World} {H : Hp} (h : Heap) (hb : sysModules < h.objs.size) : ObjOk P w H (h.push { cls := .type "dict", data := .dict #[] }) h.objs.size (NdO P w h.objs.size []) :=
  ndO_ok (Nat.zero_le _) (by
    have : h.objs.size ≠ sysModules := Nat.ne_of_gt hb
    simpa using this) (xs := []) .nil (Heap.get?_push_size _ rfl) ⟨rfl, rfl, rfl⟩ rfl rfl List.nodup_nil
/-- {k: v for ..} -/
def tDcN (P : Program) (w : World) (K : PySem.W.Frag) (wi : TI) (g : TG) (tt : TT) (tk tv : TE) (vs : List Nat) : TE := fun σ H Q => wi σ H fun J Ha => ∀ D, Ha D = none → ∃ (W : Nat → Hp → Prop) (n : Nat), W 0 (upd Ha D (NdO P w D [])) ∧ ∀ i H, W i H →
  (J.stop i H ∧ Q (.ref D) H) ∨ (i < n ∧ J.go i H ∧ ∀ x Hx, J.yld i H x Hx → g x (wipe σ vs) Hx fun σ2 H2 => wipe σ2 vs = wipe σ vs ∧ tt σ2 H2 fun yes H3 =>
    if yes = true then tk σ2 H3 fun y H4 => tv σ2 H4 fun z H5 => ∃ (kvs : List (NestedKey × Addr × V)) (k : NestedKey) (b : Addr) (dd : PyData), y = .ref b ∧ Dp K H5 (.ref b) dd ∧ keyD dd = some k ∧ k.depth ≤ 8 ∧ Nd P w K H5 D kvs ∧ kvs.length < sizeLine ∧ W (i + 1) (upd H5 D (NdO P w D (putN kvs k b z))) else W (i + 1) H3)
theorem pe_dcN {kx vx tg iter : Expr} {ifs : List Expr} {sc : Scope} {own : List (Str × Nat)} {pos : Pos} {wi : TI} {g : TG} {tt : TT} {tk tv : TE} (calm : X.calm = true) (nd : X.N.Nodup) (hu : X.A.units + 64 < cLine) (over : PI X tg iter wi) (blk : BlkOk X.N X.env.scope sc own)
    (pgG : ∀ (s : Shared) (H : Hp) (C : Addr) (cl : List (Str × Addr)) (fp : List Addr), PG (X.blk s H sc (compEnvC sc cl C X.env) fp) tg g)
    (ptG : ∀ (s : Shared) (H : Hp) (C : Addr) (cl : List (Str × Addr)) (fp : List Addr), PTs (X.blk s H sc (compEnvC sc cl C X.env) fp) ifs tt)
    (pkG : ∀ (s : Shared) (H : Hp) (C : Addr) (cl : List (Str × Addr)) (fp : List Addr), PE (X.blk s H sc (compEnvC sc cl C X.env) fp) kx tk)
    (pvG : ∀ (s : Shared) (H : Hp) (C : Addr) (cl : List (Str × Addr)) (fp : List Addr), PE (X.blk s H sc (compEnvC sc cl C X.env) fp) vx tv)
    (plain : ∀ x, foldedSetIterable iter X.env x = pure x := by intro _; rfl) : PE X (.DictComp kx vx [⟨tg, iter, ifs, 0⟩] sc pos) (tDcN X.prog X.w X.K wi g tt tk tv (own.map (·.2))) := by
  constructor
  intro pins s σ H Q I ask
  rw [arm_eval_DictComp]
  have fr : ∀ y ∈ sc.names, y.2 = .free → ∃ c, X.env.cells.lookup y.1 = some c := fun y m e => (blk.free y m e).elim (fun k => I.ok.has _ (.inl k)) fun k => I.ok.has _ (.inr k)
  refine wpAny_comprehension_free (use := none) rfl plain (closure_ok fr) blk.kind (fun y m e => by rw [blk.uniq y m, e]) ?_
  refine thn (over.run pins s σ H _ I ask) fun xv sA gotIter => thn gotIter fun itv sB gotIt => ?_
  obtain ⟨it, fp, tn, J, Ha, rfl, IB, T, stB, fB, next⟩ := gotIt
  refine wpAny_newObj_type (newEnv_comp ?_)
  obtain ⟨D, eD⟩ : ∃ D, D = sB.heap.objs.size := ⟨_, rfl⟩
  rw [← eD]
  have freshD : Ha D = none := IB.hok.fresh (Nat.le_of_eq eD.symm)
  obtain ⟨W, lim, w0, turn⟩ := next D freshD
  obtain ⟨sC, eC⟩ : ∃ sC : Shared, sC = { sB with heap := sB.heap.push { cls := .type "dict", data := .dict #[] } } := ⟨_, rfl⟩
  rw [← eC]
  have heapC : sC.heap = sB.heap.push { cls := .type "dict", data := .dict #[] } := by rw [eC]
  have IC : Inv X pins σ (upd Ha D (NdO X.prog X.w D [])) sC := by
    rw [eC, eD]
    exact IB.laid (t' := sB.toks) (fun b o e => Heap.get?_push_of_some _ e) (Nat.le_refl _) (nd_empty sB.heap IB.big)
  have small : ∀ b ∈ fp, b < sB.heap.objs.size := fun b m => by
    obtain ⟨o, e, _⟩ := T.obj _ _ stB b m
    exact Heap.lt_size e
  have fC : ∀ b ∈ fp, FpOk X pins (upd Ha D (NdO X.prog X.w D [])) b ∧ b < sC.heap.objs.size := fun b m => by
    have lt := small b m
    refine ⟨⟨?_, (fB b m).2⟩, ?_⟩
    · rw [upd_ne (eD ▸ Nat.ne_of_lt lt)]
      exact (fB b m).1
    · rw [heapC, Heap.size_push]
      exact Nat.lt_succ_of_lt lt
  have stC : tn 0 sC.heap := T.keep _ _ _ stB fun b _ o e => heapC ▸ Heap.get?_push_of_some _ e
  obtain ⟨Hc, eHc⟩ : ∃ Hc, Hc = upd Ha D (NdO X.prog X.w D []) := ⟨_, rfl⟩
  rw [← eHc] at IC fC w0
  obtain ⟨clo, eclo⟩ : ∃ clo, clo = cellsFrom (sC.heap.objs.size + 1) sc.names (cloFrom X.env.cells sc.names []) := ⟨_, rfl⟩
  obtain ⟨ce, ece⟩ : ∃ ce, ce = compEnvC sc clo sC.heap.objs.size X.env := ⟨_, rfl⟩
  have gP := pgG sC Hc sC.heap.objs.size clo fp
  have tP := ptG sC Hc sC.heap.objs.size clo fp
  have kP := pkG sC Hc sC.heap.objs.size clo fp
  have vP := pvG sC Hc sC.heap.objs.size clo fp
  have IE := block_start IC blk nd fC
  rw [← eclo, ← ece] at IE
  rw [← ece] at gP tP kP vP
  have locE : ce.locals = sC.heap.objs.size := by rw [ece]; rfl
  obtain ⟨sE, eE⟩ : ∃ sE : Shared, sE = { sC with heap := pushCells (sC.heap.push { cls := .type "dict", data := .dict #[] }) sc.names } := ⟨_, rfl⟩
  rw [← eE] at IE
  have stE : tn 0 sE.heap := T.keep _ _ _ stC fun b _ o e => eE ▸ pushCells_keeps _ _ _ _ (Heap.get?_push_of_some _ e)
  have here : ∀ {σ' : L2.St} {H' : Hp} {s' : Shared}, Inv (X.blk sC Hc sc ce fp) [] σ' H' s' → (∀ b ∈ fp, H' b = none) → ∀ b ∈ fp, FpOk (X.blk sC Hc sc ce fp) [] H' b := fun {_ _ _} I' free b m =>
    ⟨free b m, (I'.ok.exf b m).1, I'.ok.exfs b m, .inl m, fun x c e => (I'.ok.exf b m).2 x c e, fun p q => (List.not_mem_nil (show p ∈ ([] : List (Addr × Obj)) from q)).elim⟩
  let Wd : Nat → Shared → Prop := fun n s' => ∃ i H', n = lim - i ∧ Inv (X.blk sC Hc sc ce fp) [] (wipe σ (own.map (·.2))) H' s' ∧ tn i s'.heap ∧ (∀ b ∈ fp, H' b = none) ∧ W i H'
  subst ece eclo
  have loop : codeAny (model X.prog X.w) X.A (.compLoop (.DictComp kx vx [⟨tg, iter, ifs, 0⟩] sc pos) 0 (.ref it) (.ref D) (compEnvC sc (cellsFrom (sC.heap.objs.size + 1) sc.names (cloFrom X.env.cells sc.names [])) sC.heap.objs.size X.env)) (compPost (model X.prog X.w) X.A X.xe none (fun v s' => ∃ x H', Inv X pins σ H' s' ∧ RelV x v ∧ Q x H') (.ref D) sC.heap.objs.size) sE := by
    refine compLoop_anyD Wd ?_ (lim - 0) ⟨0, Hc, rfl, IE, stE, fun b m => (fC b m).1.1, w0⟩
    rintro n s5 ⟨i, H5, rfl, I5, st5, n5, w5⟩
    rcases turn i H5 w5 with ⟨stop, done⟩ | ⟨lt, go, step⟩
    · refine thnF (T.done (X.blk sC Hc sc _ fp) rfl rfl rfl calm i [] s5 _ H5 (fun _ _ => False) I5 (here I5 n5) st5 stop) fun r s6 z => ?_
      obtain ⟨rfl, I6⟩ := z
      have I7 : Inv X pins σ H5 s6 := IC.call' (ch := fp) I6.os I6.base I6.hok I6.bare fun b m => ⟨(fC b m).1.2.2.2.1, (fC b m).1.2.1, (fC b m).1.2.2.2.2.1, (fC b m).1.2.2.2.2.2⟩
      have noC : H5 sC.heap.objs.size = none := I6.free
      obtain ⟨m, ns, _⟩ := I6.loc
      obtain ⟨f0, f1, f2, f3, f4, f5⟩ := IC.fpOk (Nat.le_refl _) noC
      refine ⟨m, ns, fun h9 sb => ?_⟩
      exact ⟨.ref D, H5, I7.turned (t' := s6.toks) (fun b o hb e => (sb.2 b hb).trans e) noC f1 f3 f4 f5, rfl, done⟩
    · refine thnF (T.item (X.blk sC Hc sc _ fp) rfl rfl rfl calm i [] s5 _ H5 (fun _ _ => False) I5 (here I5 n5) st5 go) fun r s6 z => ?_
      obtain ⟨u, rfl, z6⟩ := z
      refine thnF z6 fun _ s7 z7 => ?_
      obtain ⟨x, H7, I7, r7, y7, st7, n7⟩ := z7
      refine thnF (gP.run _ s7 _ H7 x u _ (I7.pinned (here I7 n7) (T.obj _ _ st7)) r7 (step x H7 y7)) fun _ s8 z8 => ?_
      obtain ⟨σ8, H8, I8, w8, q8⟩ := z8
      refine thnF (tP.run _ s8 σ8 H8 _ I8 q8) fun yes s9 z9 => ?_
      obtain ⟨H9, I9, q9⟩ := z9
      have again : ∀ {s' : Shared} {H' : Hp}, Inv (X.blk sC Hc sc (compEnvC sc (cellsFrom (sC.heap.objs.size + 1) sc.names (cloFrom X.env.cells sc.names [])) sC.heap.objs.size X.env) fp) ([] ++ pinsAt fp s7.heap) σ8 H' s' → W (i + 1) H' → ∃ m, m < lim - i ∧ Wd m s' := fun {s' H'} I' nx => by
        have pinned : ∀ b ∈ fp, ∀ o, s7.heap.get? b = some o → s'.heap.get? b = some o ∧ H' b = none := fun b m o e => by
          obtain ⟨z1, z2, _⟩ := I'.pin (b, o) (List.mem_append_right _ (List.mem_append_right _ (mem_pinsAt m e)))
          exact ⟨z1, z2⟩
        have same : (wipe σ (own.map (·.2))).length = σ8.length := (congrArg List.length w8).symm.trans (wipe_length _ _)
        refine ⟨lim - (i + 1), by omega, i + 1, H', rfl, (I'.unpinned (pins := [])).weak same (fun j v e => (wipe_some (w8 ▸ e)).1), T.keep _ _ _ st7 fun b m o e => (pinned b m o e).1, fun b m => ?_, nx⟩
        obtain ⟨o, e, _⟩ := T.obj _ _ st7 b m
        exact (pinned b m o e).2
      cases yes with
      | false => exact again I9 q9
      | true =>
        refine thnF (kP.run _ s9 σ8 H9 _ I9 q9) fun kv s10 z10 => ?_
        obtain ⟨y, H10, I10, r10, q10⟩ := z10
        refine thnF (vP.run _ s10 σ8 H10 _ I10 q10) fun vv s11 z11 => ?_
        obtain ⟨v, H11, I11, r11, kvs, k, b, dd, rfl, hb, hk, dep, hD, sz, nx⟩ := z11
        obtain rfl : kv = Value.ref b := r10
        exact nd_put (X := X.blk sC Hc sc _ fp) hu I11 hD hb hk dep sz r11 fun s12 I12 => again I12 nx
  rw [← eE]
  exact codeAny_compStart_dict loop (T.self X.A 0 _ _ _ stE loop)
end
end DL
set_option Elab.async false
set_option linter.all false
set_option maxRecDepth 100000
set_option maxHeartbeats 4000000
namespace DL
open PySem PySem.Spec PyProof.Rows L2 Evl
/-- a datum that is a tuple and a key -/
def KeyT (d : PyData) : Prop := (∃ ds, d = .tuple ds) ∧ ∃ k, keyD d = some k ∧ k.depth ≤ 8
theorem hasN_put {kvs : List (NestedKey × Addr × V)} {k k' : NestedKey} {b : Addr} {v : V} : hasN (putN kvs k b v) k' = (hasN kvs k' || decide (k = k')) := by
  unfold putN
  by_cases h : hasN kvs k = true
  · rw [if_pos h]
    unfold hasN at h ⊢
    rw [List.any_map]
    have e : ((fun x : NestedKey × Addr × V => decide (x.1 = k')) ∘ fun x => if x.1 = k then (x.1, x.2.1, v) else x) = fun x => decide (x.1 = k') := by
      funext x
      show decide ((if x.1 = k then (x.1, x.2.1, v) else x).1 = k') = _
      by_cases e : x.1 = k
      · rw [if_pos e]
      · rw [if_neg e]
    rw [e]
    by_cases e2 : k = k'
    · subst e2
      rw [h] <;> rfl
    · rw [decide_eq_false e2, Bool.or_false]
  · rw [if_neg h]
    unfold hasN
    rw [List.any_append]
    simp
section
variable {P : Program} {w : World} {K : PySem.W.Frag} {σ : L2.St} {H : Hp} {te : TE} {ds : List PyData}
/-- {x: True for x in t} -/
theorem ev_dcN {i : Nat} {vs : List Nat} {Q : VK} (h : EvD K te σ H (.tuple ds)) (hi : immAll ds = true) (hk : ∀ d ∈ ds, KeyT d) (hl : ds.length ≤ 50000) (hw : ∀ x, wipe ((wipe σ vs).set i (some x)) vs = wipe σ vs) (hg : ∀ x, ((wipe σ vs).set i (some x))[i]? = some (some x))
    (q : ∀ D kvs H', H D = none → Ex H H' → Nd P w K H' D kvs → (∀ k, hasN kvs k = ds.any fun d => decide (keyD d = some k)) → Q (.ref D) H') : tDcN P w K (iTup K te) (gName i) tYes (tVar i) (tC (.bl true)) vs σ H Q := by
  refine ei_tup (K := K) (S := []) (Ls.nil _) h hi H (Ex.refl _) _ fun J H2 e2 wk => ?_
  intro D hD
  refine ⟨fun j Ha => j ≤ ds.length ∧ Ex H2 Ha ∧ ∃ kvs, Nd P w K Ha D kvs ∧ kvs.length ≤ j ∧ ∀ k, hasN kvs k = (ds.take j).any fun d => decide (keyD d = some k), ds.length, ⟨Nat.zero_le _, Ex.new hD, [], ⟨upd_same, fun x hx => by simp at hx⟩, by simp, fun k => by simp [hasN]⟩, ?_⟩
  rintro j Ha ⟨hj, xa, kvs, N, lk, hh⟩
  have gX : Xp [] H2 Ha := Xp.of_ex xa
  by_cases hlt : j < ds.length
  · refine .inr ⟨hlt, wk.goes j Ha hlt gX, fun x Hx y => ?_⟩
    obtain ⟨ey, d, g1, g2⟩ := wk.yields j Ha x Hx hlt gX y
    show _ ∧ _
    refine ⟨hw x, ?_⟩
    dsimp only [tYes]
    rw [if_pos rfl]
    obtain ⟨⟨dt, rfl⟩, k, hk1, hk2⟩ := hk d (List.mem_of_getElem? g1)
    obtain ⟨b, rfl⟩ : ∃ b, x = .ref b := by
      cases g2 with
      | tup _ _ => exact ⟨_, rfl⟩
    have iT : imm (.tuple dt) = true := by
      have all : ∀ {l : List PyData} {i : Nat} {d : PyData}, immAll l = true → l[i]? = some d → imm d = true := by
        intro l
        induction l with
        | nil => intro i d _ e; simp at e
        | cons x l ih =>
          intro i d hh e
          simp only [immAll, Bool.and_eq_true] at hh
          cases i with
          | zero => simp at e; subst e; exact hh.1
          | succ i => exact ih hh.2 (by simpa using e)
      exact all hi g1
    refine ⟨.ref b, hg _, kvs, k, b, _, rfl, g2, hk1, hk2, N.ex ey, sz_lt (by omega), hlt, ?_, putN kvs k b (.bl true), (N.ex ey).put g2 iT hk1 hk2, Nat.le_trans (putN_len _ _ _ _) (by omega), fun k' => ?_⟩
    · exact Ex.mut (xa.trans ey) hD
    · rw [hasN_put, hh, List.take_add_one, g1, Option.toList_some, List.any_append]
      have : ([PyData.tuple dt].any fun d => decide (keyD d = some k')) = decide (k = k') := by
        rw [List.any_cons, List.any_nil, Bool.or_false, hk1]
        simp
      rw [this]
  · have ej : j = ds.length := by omega
    subst ej
    rw [List.take_length] at hh
    exact .inl ⟨wk.stops Ha gX, q D kvs Ha (fresh_back e2 hD) (e2.trans xa) N hh⟩
end
end DL
set_option Elab.async false
set_option linter.all false
set_option maxRecDepth 100000
set_option maxHeartbeats 4000000
namespace K16
open PySem PySem.Spec PyProof.Rows L2 Evl DL
local macro_rules | `(tactic| walk_at "dl") => `(tactic| first
  | exact ev_c | exact ev_var rfl | exact eda_nil
  | exact ed_var rfl (by assumption)
  | exact ed_int ev_c | exact ed_int (ev_var rfl)
  | (refine eda_cons ?_ ?_ <;> walk_at "dl")
  | (refine ed_int ?_; walk_at "dl")
  | (refine ev_op ?_ ?_ rv_I0 <;> walk_at "dl"))
section
variable {P : Program} {w : World} {K : PySem.W.Frag} {mg : Str → Option Value} {base : Heap}

/-- a def that may raise, called where it doesn't -/
theorem calm_of {f : Addr} {fd : FuncData} {k : Nat} {ps : List Str} {sp sp' : Sp} (F : FnOk P w K mg base (L2.CX P w) k f fd ps sp) (h : ∀ vs H Q E, sp' vs H Q E → sp vs H Q (fun _ _ _ => False)) : FnOk P w K mg base CX0 k f fd ps sp' := by
  refine ⟨fun vs H Q E q => F.len _ _ _ _ (h _ _ _ _ q), fun A outer s H args us vs Q E hr e0 hb r q => codeAny_mono (F.run A outer s H args us vs Q _ hr e0 hb r (h _ _ _ _ q)) fun o s' z => ?_⟩
  cases o with
  | ok fl => cases fl <;> exact z
  | error e =>
    obtain ⟨_, _, _, _, _, _, _, _, _, _, _, _, no⟩ := (show L2.CX P w outer H s (fun _ _ _ => False) e s' from z)
    exact no.elim
theorem calmD {nm : Str} {k n : Nat} {ps : List Str} {R : List PyData → PyData → Prop} {B : List PyData → Addr → Prop} (F : DFX P w K mg base nm k ps (spR K n R B)) : DF P w K mg base nm k ps (spD K n R) := by
  obtain ⟨f, fd, h1, h2⟩ := F.ex
  exact ⟨f, fd, calm_of h1 fun vs H Q E ⟨ds, r, hd, hl, hr, q⟩ => ⟨ds, hd, hl, .inl ⟨r, hr, q⟩⟩, h2⟩
/-! ### keys that are switches -/
def keyOf (u : Sw) : NestedKey := .tup [.tup [.num u.1.1, .num u.1.2], .tup [.num u.2.1, .num u.2.2]]
theorem key_sw (u : Sw) : keyD (swD u) = some (keyOf u) := by
  simp [swD, pD, keyD, keyDs, keyOf]
theorem keyOf_inj {u v : Sw} (h : keyOf u = keyOf v) : u = v := by
  obtain ⟨⟨a, b⟩, ⟨c, d⟩⟩ := u
  obtain ⟨⟨a', b'⟩, ⟨c', d'⟩⟩ := v
  simp [keyOf] at h
  obtain ⟨⟨rfl, rfl⟩, rfl, rfl⟩ := h
  rfl
theorem keyT_sw (u : Sw) : KeyT (swD u) := ⟨⟨_, rfl⟩, keyOf u, key_sw u, by simp [keyOf, NestedKey.depth, NestedKey.depthAll]⟩
theorem imm_sw (u : Sw) : imm (swD u) = true := by simp [swD, imm, immAll, pD]
theorem has_sw (ws : List Sw) (u : Sw) : ((ws.map swD).any fun d => decide (keyD d = some (keyOf u))) = decide (u ∈ ws) := by
  rw [List.any_map]
  have e : ((fun d => decide (keyD d = some (keyOf u))) ∘ swD) = fun x => decide (x = u) := by
    funext x
    show decide (keyD (swD x) = some (keyOf u)) = _
    rw [key_sw]
    by_cases h : x = u
    · subst h
      simp
    · rw [decide_eq_false h, decide_eq_false fun z => h (keyOf_inj (Option.some.inj z))]
  rw [e, Bool.eq_iff_iff, List.any_eq_true, decide_eq_true_eq]
  exact ⟨fun ⟨x, h1, h2⟩ => of_decide_eq_true h2 ▸ h1, fun h => ⟨u, h, decide_eq_true rfl⟩⟩
/-! ### a Box -/
structure BoxC (K : PySem.W.Frag) (C : Addr) : Prop where
  cls : Cls K C
  a1 : NoAttr K C "sides"
  a2 : NoAttr K C "tracks"
  a3 : NoAttr K C "switches"
  a4 : NoAttr K C "known"
def BoxFs (s t : Int) (v : V) (d : Addr) : List (Str × V) := [("sides", .int s), ("tracks", .int t), ("switches", v), ("known", .ref d)]
/-- a Box stands at a -/
def BxAt (P : Program) (w : World) (K : PySem.W.Frag) (C : Addr) (H : Hp) (a : Addr) (s t : Int) (ws : List Sw) : Prop :=
  ∃ dx v d kvs, H a = some (.ins C dx (BoxFs s t v d)) ∧ Dp K H v (.tuple (ws.map swD)) ∧ Nd P w K H d kvs ∧ ∀ u : Sw, hasN kvs (keyOf u) = decide (u ∈ ws)
theorem BxAt.ex {C : Addr} {H H' : Hp} {a : Addr} {s t : Int} {ws : List Sw} (h : BxAt P w K C H a s t ws) (e : Ex H H') : BxAt P w K C H' a s t ws := by
  obtain ⟨dx, v, d, kvs, h1, h2, h3, h4⟩ := h
  exact ⟨dx, v, d, kvs, e _ _ h1, dp_ex e _ _ h2, h3.ex e, h4⟩
theorem q_fld {K : PySem.W.Frag} {i j : Nat} {f : Str} {tz : TS} {D : Ends} {σ : L2.St} {H : Hp} {a C dx : Addr} {fs fs' : List (Str × V)} {y : V} (hy : σ[j]? = some (some y)) (ha : σ[i]? = some (some (.ref a))) (ho : H a = some (.ins C dx fs)) (hc : Cls K C) (hn : NoAttr K C f) (hl : fs.length < 1000)
    (hp : putF f y fs = fs') (q : tz D σ (upd H a (.ins C dx fs'))) : tSeq (sFld K (tVar i) (tVar j) f) tz D σ H := ⟨y, hy, .ref a, ha, a, C, dx, fs, rfl, ho, hc, hn, hl, hp ▸ q⟩
theorem tx_ins {H : Hp} {p : Addr} {C dx : Addr} {fs : List (Str × V)} {u : HO} (h : H p = some (.ins C dx fs)) : Tx H (L2.upd H p u) := Tx.upd h (fun _ z => nomatch z) fun _ _ z => nomatch z

variable {CB CT CW C : Addr}
def R_check_tracks1 (ds : List PyData) (r : PyData) : Prop := ∃ d, ds = [d, .int 1] ∧ isIn d 1 6 = true ∧ r = .none
def B_check_tracks1 (CT : Addr) (ds : List PyData) (C : Addr) : Prop := ∃ d, ds = [d, .int 1] ∧ isIn d 1 6 = false ∧ C = CT
theorem isIn_int {i a b : Int} (h1 : a ≤ i) (h2 : i ≤ b) : isIn (.int i) a b = true := by simp [isIn, h1, h2]
theorem isIn_of {d : PyData} {a b : Int} (h : isIn d a b = true) : ∃ i, d = .int i ∧ a ≤ i ∧ i ≤ b := by
  cases d <;> first | cases h | (rename_i i; simp only [isIn, Bool.and_eq_true, decide_eq_true_eq] at h; exact ⟨i, rfl, h.1, h.2⟩)
/-- Box(sides, tracks, switches), whatever they are -/
def spInitB (P : Program) (w : World) (K : PySem.W.Frag) (CB CT CW C : Addr) : Sp := fun vs H Q E => ∃ x dx v1 v2 v3 d1 d2 d3, vs = [.ref x, v1, v2, v3] ∧ H x = some (.ins C dx []) ∧ Dp K H v1 d1 ∧ Dp K H v2 d2 ∧ Dp K H v3 d3 ∧ (∀ es, d3 = .tuple es → es.length ≤ 1000) ∧
  ((∃ (s t : Int) (ws : List Sw), d1 = .int s ∧ d2 = .int t ∧ d3 = .tuple (ws.map swD) ∧ (2 ≤ s ∧ s ≤ 5) ∧ (1 ≤ t ∧ t ≤ 6) ∧ swtB s t d3 = true ∧ ∀ H', Xp [x] H H' → BxAt P w K C H' x s t ws → Q .non H') ∨
   (isIn d1 2 5 = false ∧ ∀ H', Ex H H' → E (.ref CB) none H') ∨
   (isIn d1 2 5 = true ∧ isIn d2 1 6 = false ∧ ∀ H', Ex H H' → E (.ref CT) none H') ∨
   (∃ s t : Int, d1 = .int s ∧ d2 = .int t ∧ (2 ≤ s ∧ s ≤ 5) ∧ (1 ≤ t ∧ t ≤ 6) ∧ swtB s t d3 = false ∧ ∀ H', Ex H H' → E (.ref CW) none H'))
abbrev s_check_tracks : Stmt := topS 18
abbrev N_check_tracks : List Str := ["tracks", "least"]
theorem sc_check_tracks : FnScope N_check_tracks ["tracks", "least"] (defScope s_check_tracks) := ⟨rfl, rfl, rfl, by decide +kernel, rfl, by decide +kernel, by decide +kernel⟩
theorem ok_check_tracks {f : Addr} {fd : FuncData} (F : Fun K "check_tracks" "check_tracks" s_check_tracks f fd) (T : Txt mg)
    (D_is_within : DF P w K mg base "is_within" 2 ["thing", "low", "high"] (spD K 3 R_is_within)) (TC : ErC K mg "BadTracks" CT)  :
    FnOk P w K mg base (L2.CX P w) 3 f fd ["tracks", "least"] (spR K 2 R_check_tracks1 (B_check_tracks1 CT)) := by
  refine F.okX sc_check_tracks (fun vs H Q E h => spR_len h) (fun cdv A outer s H vs Q E hr h => ?_)
  obtain ⟨ds, hd, _, h⟩ := h
  obtain ⟨d, rfl⟩ : ∃ d, ds = [d, .int 1] := by
    rcases h with ⟨r, ⟨d, e, _⟩, _⟩ | ⟨C, ⟨d, e, _⟩, _⟩
    · exact ⟨d, e⟩
    · exact ⟨d, e⟩
  obtain ⟨v0, v1, rfl, d0, d1⟩ := dpa_two hd
  cases dp_int d1
  refine ⟨_, (pss_one (ps_if (pt_not (pt_val (pe_D D_is_within (hr.mono (by decide)) (by rfl) (pa_cons (pv 0) (pa_cons (pv 1) (pa_cons (pe_const T.c_MOST_TRACKS (by rfl)) pa_nil)))))) (pss_one (ps_raiseC rfl (takes_of rfl rfl rfl rfl) TC (by rfl) (pe_joined (.cons pe_str (.cons (pe_fmt (pv 1)) (.cons pe_str (.cons (pe_fmt (pe_const T.c_MOST_TRACKS (by rfl))) .nil))))))) pss_nil)), ?_⟩
  refine s_when (b := !isIn d 1 6) (et_not (et_B (EvD.bool (ed_call (R := R_is_within) (ds := [d, .int 1, .int 6]) (eda_cons (ed_var rfl d0) (eda_cons (ed_int (ev_var rfl)) (eda_cons (ed_int ev_c) eda_nil))) rfl ⟨_, _, _, rfl, rfl⟩)))) (fun hb H1 e1 => ?_) fun hb H1 e1 => ?_
  · have hb : isIn d 1 6 = false := by simpa using hb
    rcases h with ⟨r, ⟨d', e, g, _⟩, _⟩ | ⟨C, ⟨d', e, g, rfl⟩, k⟩
    · cases e
      rw [g] at hb
      cases hb
    · refine ⟨_, rfl, by decide +kernel, .int 1, rfl, .inr ⟨1, rfl, by decide, ?_⟩⟩
      refine ⟨_, rfl, by decide +kernel, ?_⟩
      refine ⟨_, rfl, by decide +kernel, .inr ⟨6, rfl, by decide, ?_⟩⟩
      exact ⟨_, rfl, by decide +kernel, k H1 e1⟩
  · have hb : isIn d 1 6 = true := by simpa using hb
    rcases h with ⟨r, ⟨d', e, g, rfl⟩, k⟩ | ⟨C, ⟨d', e, g, rfl⟩, k⟩
    · exact k .non H1 e1 .non
    · cases e
      rw [g] at hb
      cases hb


abbrev s_Box : Stmt := topS 16
abbrev s_init : Stmt := inClass s_Box 0
abbrev N_init : List Str := ["self", "sides", "tracks", "switches", "switch"]
theorem sc_init : FnScope N_init ["self", "sides", "tracks", "switches"] (defScope s_init) := ⟨rfl, rfl, rfl, by decide +kernel, rfl, by decide +kernel, by decide +kernel⟩
theorem ok_init {f : Addr} {fd : FuncData} (F : Fun K "__init__" "Box.__init__" s_init f fd) (T : Txt mg) (B : BoxC K C) (TW : ErC K mg "BadSwitches" CW)
    (D_check_sides : DFX P w K mg base "check_sides" 3 ["sides", "most"] (spR K 2 R_check_sides (B_check_sides CB))) (D_check_tracks : DFX P w K mg base "check_tracks" 3 ["tracks", "least"] (spR K 2 R_check_tracks1 (B_check_tracks1 CT))) (D_is_switch_tuple : DF P w K mg base "is_switch_tuple" 3 ["sides", "tracks", "thing"] (spD K 3 R_is_swtB)) :
    FnOk P w K mg base (L2.CX P w) 4 f fd ["self", "sides", "tracks", "switches"] (spInitB P w K CB CT CW C) := by
  refine F.okX sc_init (fun vs H Q E h => by obtain ⟨_, _, _, _, _, _, _, _, rfl, _⟩ := h; rfl) (fun cdv A outer s0 H vs Q E hr h => ?_)
  obtain ⟨x, dx, v1, v2, v, d1, d2, d3, rfl, hx, hd1, hd2, hv, sm, h⟩ := h
  refine ⟨_, (pss_cons (ps_expr (pe_DX D_check_sides (takes_of rfl rfl rfl rfl) (fun _ _ _ _ h => h) (hr.mono (by decide)) (by rfl) (pa_cons (pv 1) (pa_cons (pe_const T.c_MOST_SIDES (by rfl)) pa_nil))))
      (pss_cons (ps_expr (pe_DX D_check_tracks (takes_of rfl rfl rfl rfl) (fun _ _ _ _ h => h) (hr.mono (by decide)) (by rfl) (pa_cons (pv 2) (pa_cons pe_int pa_nil))))
      (pss_cons (ps_if (pt_not (pt_val (pe_D D_is_switch_tuple (hr.mono (by decide)) (by rfl) (pa_cons (pv 1) (pa_cons (pv 2) (pa_cons (pv 3) pa_nil)))))) (pss_one (ps_raiseC rfl (takes_of rfl rfl rfl rfl) TW (by rfl) pe_str)) pss_nil)
      (pss_cons (ps_fld (pv 0) (pv 1) rfl)
      (pss_cons (ps_fld (pv 0) (pv 2) rfl)
      (pss_cons (ps_fld (pv 0) (pv 3) rfl)
      (pss_one (ps_fld (pv 0) (pe_dcN (own := [("switch", 4)]) (g := (gName 4)) (tt := tYes) rfl sc_init.nd (hu64 hr) (pi_tup (pv 3)) (blkOk_by (N := N_init) (sc := defScope s_init) (by decide +kernel)) (fun _ _ _ _ _ => (pg_name (i := 4) sc_init.nd rfl (Or.inl rfl))) (fun _ _ _ _ _ => pts_nil) (fun _ _ _ _ _ => (pv 4)) (fun _ _ _ _ _ => pe_bl)) rfl)))))))), ?_⟩
  by_cases b1 : isIn d1 2 5 = true
  case neg =>
    have b1 : isIn d1 2 5 = false := by simpa using b1
    rcases h with ⟨s, t, ws, rfl, rfl, rfl, hs, ht, _, k⟩ | ⟨no, k⟩ | ⟨h1, _⟩ | ⟨s, t, rfl, rfl, hs, _⟩
    · rw [isIn_int hs.1 hs.2] at b1; cases b1
    · exact b_drop (eb_callR (K := K) (R := R_check_sides) (B := B_check_sides CB) (ds := [d1, .int 5]) (eda_cons (ed_var (v := v1) rfl hd1) (eda_cons (ed_int ev_c) eda_nil)) rfl ⟨d1, rfl, no, rfl⟩) fun H1 e1 => k H1 e1
    · rw [h1] at b1; cases b1
    · rw [isIn_int hs.1 hs.2] at b1; cases b1
  case pos =>
  obtain ⟨s, rfl, hs⟩ := isIn_of b1
  refine qd_drop (K := K) (d := .none) (ed_callR (R := R_check_sides) (B := B_check_sides CB) (ds := [.int s, .int 5]) (eda_cons (ed_var (v := v1) rfl hd1) (eda_cons (ed_int ev_c) eda_nil)) rfl ⟨_, rfl, b1, rfl⟩) fun H1 e1 => ?_
  by_cases b2 : isIn d2 1 6 = true
  case neg =>
    have b2 : isIn d2 1 6 = false := by simpa using b2
    rcases h with ⟨s, t, ws, _, rfl, rfl, _, ht, _, k⟩ | ⟨no, k⟩ | ⟨h1, no, k⟩ | ⟨s, t, _, rfl, hs, ht, _⟩
    · rw [isIn_int ht.1 ht.2] at b2; cases b2
    · rw [no] at b1; cases b1
    · exact b_drop (eb_callR (K := K) (R := R_check_tracks1) (B := B_check_tracks1 CT) (ds := [d2, .int 1]) (eda_cons (ed_var (v := v2) rfl (dp_ex e1 _ _ hd2)) (eda_cons (ed_int ev_c) eda_nil)) rfl ⟨d2, rfl, no, rfl⟩) fun H2 e2 => k H2 (e1.trans e2)
    · rw [isIn_int ht.1 ht.2] at b2; cases b2
  case pos =>
  obtain ⟨t, rfl, ht⟩ := isIn_of b2
  cases dp_int hd1
  cases dp_int hd2
  refine qd_drop (K := K) (d := .none) (ed_callR (R := R_check_tracks1) (B := B_check_tracks1 CT) (ds := [.int t, .int 1]) (eda_cons (ed_int (ev_var rfl)) (eda_cons (ed_int ev_c) eda_nil)) rfl ⟨_, rfl, b2, rfl⟩) fun H2 e2 => ?_
  have E2 := e1.trans e2
  refine q_when (b := !swtB s t d3) (et_not (et_B (EvD.bool (ed_call (K := K) (R := R_is_swtB) (ds := [.int s, .int t, d3]) (eda_cons (ed_int (ev_var rfl)) (eda_cons (ed_int (ev_var rfl)) (eda_cons (ed_var (v := v) rfl (dp_ex E2 _ _ hv)) eda_nil))) rfl ⟨s, t, d3, rfl, sm, rfl⟩)))) (fun hb H3 e3 => ?_) fun hb H3 e3 => ?_
  · have hb : swtB s t d3 = false := by simpa using hb
    rcases h with ⟨s', t', ws, e, e', rfl, _, _, sw, k⟩ | ⟨no, k⟩ | ⟨_, no, k⟩ | ⟨s', t', e, e', _, _, _, k⟩
    · cases e; cases e'; rw [sw] at hb; cases hb
    · rw [no] at b1; cases b1
    · rw [no] at b2; cases b2
    · exact k H3 (E2.trans e3)
  have hb : swtB s t d3 = true := by simpa using hb
  obtain ⟨ws, rfl, hs, ht, k⟩ : ∃ ws : List Sw, d3 = .tuple (ws.map swD) ∧ (2 ≤ s ∧ s ≤ 5) ∧ (1 ≤ t ∧ t ≤ 6) ∧ ∀ H', Xp [x] H H' → BxAt P w K C H' x s t ws → Q .non H' := by
    rcases h with ⟨s', t', ws, e, e', rfl, h1, h2, sw, k⟩ | ⟨no, k⟩ | ⟨_, no, k⟩ | ⟨s', t', e, e', _, _, no, k⟩
    · cases e; cases e'; exact ⟨ws, rfl, h1, h2, k⟩
    · rw [no] at b1; cases b1
    · rw [no] at b2; cases b2
    · cases e; cases e'; rw [no] at hb; cases hb
  have hl : ws.length ≤ 1000 := by have := sm _ rfl; rwa [List.length_map] at this
  have E3 := E2.trans e3
  refine q_fld (y := .int s) (fs' := [("sides", .int s)]) rfl rfl (E3 _ _ hx) B.cls B.a1 (by decide) rfl ?_
  refine q_fld (y := .int t) (fs' := [("sides", .int s), ("tracks", .int t)]) rfl rfl upd_same B.cls B.a2 (by simp) rfl ?_
  refine q_fld (y := v) (fs' := [("sides", .int s), ("tracks", .int t), ("switches", v)]) rfl rfl upd_same B.cls B.a3 (by simp) rfl ?_
  rw [upd_upd, upd_upd]
  have t6 := tx_ins (u := .ins C dx [("sides", .int s), ("tracks", .int t), ("switches", v)]) (E3 _ _ hx)
  have hv6 := dp_tx t6 _ _ (by simpa [imm] using immAll_map imm_sw ws) (dp_ex E3 _ _ hv)
  refine ev_dcN (K := K) (ed_var (v := v) rfl hv6) (immAll_map imm_sw ws) (fun d hd => by obtain ⟨u, _, rfl⟩ := List.mem_map.mp hd; exact keyT_sw u) (by rw [List.length_map]; omega) (fun _ => rfl) (fun _ => rfl) fun D kvs H7 hD e7 N hh => ?_
  have x7 := e7 _ _ (upd_same (H := H3) (a := x) (o := .ins C dx [("sides", .int s), ("tracks", .int t), ("switches", v)]))
  have nDx : D ≠ x := fun z => by
    rw [z, upd_same] at hD
    cases hD
  have t8 := tx_ins (u := .ins C dx (BoxFs s t v D)) x7
  refine ⟨.ref x, rfl, x, C, dx, _, rfl, x7, B.cls, B.a4, by simp, ?_⟩
  refine k _ ?_ ⟨dx, v, D, kvs, upd_same, dp_tx t8 _ _ (by simpa [imm] using immAll_map imm_sw ws) (dp_ex e7 _ _ hv6), N.tx t8 (by rw [upd_ne nDx]; exact N.at_), fun u => by rw [hh, has_sw]⟩
  exact Xp.upd ((Xp.upd (Xp.of_ex E3) (by simp)).then e7) (by simp)
end
end K16
set_option Elab.async false
set_option linter.all false
set_option maxRecDepth 100000
set_option maxHeartbeats 4000000
namespace K16
open PySem PySem.Spec PyProof.Rows L2 Evl DL
local macro_rules | `(tactic| walk_at "dl") => `(tactic| first
  | exact ev_c | exact ev_var rfl | exact eda_nil
  | exact ed_var rfl (by assumption)
  | exact ed_int ev_c | exact ed_int (ev_var rfl)
  | (refine eda_cons ?_ ?_ <;> walk_at "dl")
  | (refine ed_int ?_; walk_at "dl")
  | (refine ev_op ?_ ?_ rv_I0 <;> walk_at "dl"))

section
variable {K : PySem.W.Frag} {σ : L2.St} {H H' : Hp} {ta tb te : TE} {D : Ends} {tz : TS} {st lg cl : Addr}
/-! ### the drawing state -/
def kL : Key := .inr "large"
def kC : Key := .inr "cells"
def kF : Key := .inr "left"
def kT : Key := .inr "turn"
theorem k_ne : kL ≠ kC ∧ kL ≠ kF ∧ kL ≠ kT ∧ kC ≠ kF ∧ kC ≠ kT ∧ kF ≠ kT := by decide +kernel
def dk (lg cl : Addr) (l t : Int) : List (Key × V) := [(kL, .ref lg), (kC, .ref cl), (kF, .int l), (kT, .int t)]
theorem dk_L {l t : Int} : valV (dk lg cl l t) kL = some (.ref lg) := valV_pos rfl
theorem dk_C {l t : Int} : valV (dk lg cl l t) kC = some (.ref cl) := by
  obtain ⟨a, b, c, d, e, f⟩ := k_ne
  rw [dk, valV_neg a, valV_pos rfl]
theorem dk_F {l t : Int} : valV (dk lg cl l t) kF = some (.int l) := by
  obtain ⟨a, b, c, d, e, f⟩ := k_ne
  rw [dk, valV_neg b, valV_neg d, valV_pos rfl]
theorem dk_T {l t : Int} : valV (dk lg cl l t) kT = some (.int t) := by
  obtain ⟨a, b, c, d, e, f⟩ := k_ne
  rw [dk, valV_neg c, valV_neg e, valV_neg f, valV_pos rfl]
theorem put_F {l t l' : Int} : putK (dk lg cl l t) kF (.int l') = dk lg cl l' t := by
  obtain ⟨a, b, c, d, e, f⟩ := k_ne
  simp [putK, dk, a, b, c, d, e, f, Ne.symm f]
theorem put_T {l t t' : Int} : putK (dk lg cl l t) kT (.int t') = dk lg cl l t' := by
  obtain ⟨a, b, c, d, e, f⟩ := k_ne
  simp [putK, dk, a, b, c, d, e, f]
def StK (st lg cl : Addr) (n : Nat) (H : Hp) : Prop := ∃ (l t : Int) (xs cs : List Int), H st = some (.dK (dk lg cl l t)) ∧ H lg = some (.lst (xs.map V.int)) ∧ H cl = some (.lst (cs.map V.int)) ∧ cl ≠ lg ∧ 0 ≤ t ∧ t ≤ (n : Int)
theorem stk_ex {n : Nat} (e : Ex H H') (h : StK st lg cl n H) : StK st lg cl n H' := by
  obtain ⟨l, t, xs, cs, h1, h2, h3, h4⟩ := h
  exact ⟨l, t, xs, cs, e _ _ h1, e _ _ h2, e _ _ h3, h4⟩
theorem stk_mono {n m : Nat} (hnm : n ≤ m) (h : StK st lg cl n H) : StK st lg cl m H := by
  obtain ⟨l, t, xs, cs, h1, h2, h3, h4, h5, h6⟩ := h
  exact ⟨l, t, xs, cs, h1, h2, h3, h4, h5, by omega⟩
/-- tuples stay while the state changes -/
theorem stk_tx {n : Nat} (h : StK st lg cl n H) (x : Xp [st, lg] H H') : Tx H H' := by
  obtain ⟨l, t, xs, cs, h1, h2, h3, h4⟩ := h
  intro a ys r
  have nin : ∀ o, H a = some o → (∀ l, o ≠ .lst l) → (∀ l, o ≠ .dK l) → a ∉ [st, lg] := fun o ho n1 n2 hm => by
    rcases (by simpa using hm : a = st ∨ a = lg) with rfl | rfl
    · rw [h1] at ho
      exact n2 _ (Option.some.inj ho).symm
    · rw [h2] at ho
      exact n1 _ (Option.some.inj ho).symm
  rcases r with r | ⟨ob, r⟩
  · exact .inl (x _ _ r (nin _ r (fun _ z => nomatch z) fun _ z => nomatch z))
  · exact .inr ⟨ob, x _ _ r (nin _ r (fun _ z => nomatch z) fun _ z => nomatch z)⟩
theorem ev_dget {i : Nat} {k : Key} {kvs : List (Key × V)} {v : V} (hs : σ[i]? = some (some (.ref st))) (h : H st = some (.dK kvs)) (hv : valV kvs k = some v) : Ev (tDGet (tVar i) (tC (kV k))) σ H v := fun H1 e Q q =>
  ⟨.ref st, hs, st, v, rfl, hv ▸ DGet.k (e _ _ h), q H1 (Ex.refl _)⟩
theorem s_dput {i : Nat} {k : Key} {kvs : List (Key × V)} {v : V} (hs : σ[i]? = some (some (.ref st))) (h : H st = some (.dK kvs)) (hl : kvs.length ≤ 1000) (hv : Ev te σ H v) (q : ∀ H1, Ex H H1 → D.nx σ (upd H1 st (.dK (putK kvs k v)))) :
    sDPut (tVar i) (tC (kV k)) te D σ H := hv H (Ex.refl _) _ fun H1 e => ⟨.ref st, hs, st, _, rfl, DPut.k (e _ _ h) (sz_lt (by omega)), q H1 e⟩
theorem q_dput {i : Nat} {k : Key} {kvs : List (Key × V)} {v : V} (hs : σ[i]? = some (some (.ref st))) (h : H st = some (.dK kvs)) (hl : kvs.length ≤ 1000) (hv : Ev te σ H v) (q : ∀ H1, Ex H H1 → tz D σ (upd H1 st (.dK (putK kvs k v)))) :
    tSeq (sDPut (tVar i) (tC (kV k)) te) tz D σ H := s_dput (D := { D with nx := tz D }) hs h hl hv q
theorem ev_int1 {i : Int} (h : Ev ta σ H (.int i)) : Ev (tCB (fun xs H Q => (∃ i, xs = [.int i] ∧ Q (.int i) H) ∨ ∃ k, xs = [.bl k] ∧ Q (.int (if k then 1 else 0)) H) (tCons ta tNil)) σ H (.int i) := fun H1 e Q q =>
  h H1 e _ fun H2 e2 => .inl ⟨i, rfl, q H2 e2⟩
theorem shaped_dI (a : List Int) : SeqAt.shaped (.list (dI a)) = true := by
  have h := depth_ints a
  show ((PyData.list (dI a)).canLay0 && decide ((PyData.list (dI a)).depth ≤ 64)) = true
  rw [Bool.and_eq_true]
  refine ⟨by rw [PyData.canLay0]; exact canLay_ints a, decide_eq_true ?_⟩
  rw [PyData.depth]
  omega
theorem eqv_nil (a : List Int) : PyData.eqv (.list (dI a)) (.list []) = a.isEmpty := by
  rw [PyData.eqv]
  cases a with
  | nil => simp [PyData.eqvAll]
  | cons x a => simp [PyData.eqvAll]
/-- x != [] -/
theorem ev_neNil {a : List Int} (ha : EvD K ta σ H (.list (dI a))) : Ev (tOp (rNeD K) ta (tLst tNil)) σ H (.bl (!a.isEmpty)) := fun H1 e Q q =>
  ha H1 e _ fun x H2 e2 hx => EvN.toD (en_lst eda_nil (by simp)) H2 (e.trans e2) _ fun y H3 e3 hy => ⟨_, _, dp_ex e3 _ _ hx, hy, shaped_dI a, shaped_dI [], by
    rw [eqv_nil]
    exact q H3 (e2.trans e3)⟩
end
section
variable {P : Program} {w : World} {K : PySem.W.Frag} {mg : Str → Option Value} {base : Heap}

def spDraw (K : PySem.W.Frag) : Sp := fun vs H Q _ => ∃ (st lg cl : Addr) (n : Nat) (size : Int), vs = [.ref st, .int size] ∧ 1 ≤ size ∧ size ≤ 1000 ∧ n ≤ 10000 ∧ StK st lg cl n H ∧
  ∀ r H', 0 ≤ r → r < size → Xp [st, lg] H H' → StK st lg cl (n + 1) H' → Q (.int r) H'
abbrev s__law_draw : Stmt := topS 38
abbrev N__law_draw : List Str := ["_law_state", "_law_size_here", "_law_found", "_law_turn", "_law_cell", "_law_mixed_here"]
theorem sc__law_draw : FnScope N__law_draw ["_law_state", "_law_size_here"] (defScope s__law_draw) := ⟨rfl, rfl, rfl, by decide +kernel, rfl, by decide +kernel, by decide +kernel⟩
theorem ok__law_draw {f : Addr} {fd : FuncData} (F : Fun K "_law_draw" "_law_draw" s__law_draw f fd) (T : Txt mg)
      :
    FnOk P w K mg base CX0 1 f fd ["_law_state", "_law_size_here"] (spDraw K) := by
  refine F.ok sc__law_draw (fun vs H Q E h => by obtain ⟨_, _, _, _, _, rfl, _⟩ := h; rfl) (fun cdv A outer s H vs Q E hr h => ?_)
  obtain ⟨st, lg, cl, n, size, rfl, h1, h2, h3, hst, k⟩ := h
  refine ⟨_, (pss_cons (ps_while PassesOwn.never (PW.pt (pw_and (pt_cmpR op_eq (pe_dget (hu_of hr) (pv 0) pe_str (fun _ _ => rfl)) pe_int (nomark _)) (pw_and1 (pt_cmpR (op_neD (hu64 hr)) (pe_dget (hu_of hr) (pv 0) pe_str (fun _ _ => rfl)) (pe_lst pa_nil) (nomark _))))) (pss_one (ps_dput (hu_of hr) (pv 0) pe_str (pe_bm PySem.F.plainAttrs_list PySem.F.slot_list_pop PySem.F.type_list_pop mt_popAt (pe_dget (hu_of hr) (pv 0) pe_str (fun _ _ => rfl)) (pa_cons pe_int pa_nil)) rfl)))
      (pss_cons (ps_if (pt_cmpR op_gt (pe_dget (hu_of hr) (pv 0) pe_str (fun _ _ => rfl)) pe_int (nomark _)) (pss_cons (ps_set (i := 2) sc__law_draw.nd rfl (.inl rfl) (pe_op op_mod (pe_callTy call_int1 (by rfl) T.b_int (by decide +kernel) (pa_cons (pe_dget (hu_of hr) (pv 0) pe_str (fun _ _ => rfl)) pa_nil)) (pv 1)))
      (pss_cons (ps_dput (hu_of hr) (pv 0) pe_str (pe_op op_fdiv (pe_dget (hu_of hr) (pv 0) pe_str (fun _ _ => rfl)) (pv 1)) rfl)
      (pss_one (ps_ret (pv 2))))) pss_nil)
      (pss_cons (ps_set (i := 3) sc__law_draw.nd rfl (.inl rfl) (pe_op op_add (pe_dget (hu_of hr) (pv 0) pe_str (fun _ _ => rfl)) pe_int))
      (pss_cons (ps_dput (hu_of hr) (pv 0) pe_str (pv 3) rfl)
      (pss_cons (ps_set (i := 4) sc__law_draw.nd rfl (.inl rfl) (pe_ifExp (pt_cmpR (op_neD (hu64 hr)) (pe_dget (hu_of hr) (pv 0) pe_str (fun _ _ => rfl)) (pe_lst pa_nil) (nomark _)) (pe_ix ix_list (pe_dget (hu_of hr) (pv 0) pe_str (fun _ _ => rfl)) (pe_op op_mod (pe_callTy call_int1 (by rfl) T.b_int (by decide +kernel) (pa_cons (pv 3) pa_nil)) (pe_callB call_len_seq (by rfl) T.b_len PySem.boot_len (pa_cons (pe_dget (hu_of hr) (pv 0) pe_str (fun _ _ => rfl)) pa_nil))) (fun _ _ => rfl)) pe_int))
      (pss_cons (ps_set (i := 5) sc__law_draw.nd rfl (.inl rfl) (pe_op op_mod (pe_callTy call_int1 (by rfl) T.b_int (by decide +kernel) (pa_cons (pe_op op_pow (pe_op op_add (pe_op op_add (pe_op op_mod (pe_callTy call_int1 (by rfl) T.b_int (by decide +kernel) (pa_cons (pv 4) pa_nil)) pe_int) (pe_op op_mul pe_int (pv 3))) pe_int) pe_int) pa_nil)) pe_int))
      (pss_one (ps_ret (pe_op op_mod (pe_callTy call_int1 (by rfl) T.b_int (by decide +kernel) (pa_cons (pe_op op_fdiv (pe_op op_mod (pe_callTy call_int1 (by rfl) T.b_int (by decide +kernel) (pa_cons (pe_op op_pow (pe_op op_add (pv 5) (pe_op op_mul pe_int (pv 3))) pe_int) pa_nil)) pe_int) pe_int) pa_nil)) (pv 1)))))))))), ?_⟩
  obtain ⟨l0, t0, xs0, cs, a1, a2, a3, a4, a5, a6⟩ := hst
  have cst : cl ≠ st := fun z => by rw [z, a1] at a3; cases a3
  have lst : lg ≠ st := fun z => by rw [z, a1] at a2; cases a2
  have kF' : V.str "left" = kV kF := rfl
  refine ⟨fun m σ' Ha => ∃ (l : Int) (xs : List Int), m = xs.length ∧ Xp [st, lg] H Ha ∧ Ha st = some (.dK (dk lg cl l t0)) ∧ Ha lg = some (.lst (xs.map V.int)) ∧ σ' = [some (.ref st), some (.int size), none, none, none, none], ⟨_, l0, xs0, rfl, Xp.refl _ _, a1, a2, rfl⟩, ?_⟩
  rintro m σ' Ha ⟨l, xs, rfl, xp, b1, b2, rfl⟩
  have b3 : Ha cl = some (.lst (cs.map V.int)) := xp _ _ a3 (by simp [cst, a4])
  refine et_and (a := decide (V.int l = V.int 0)) (b := !xs.isEmpty) (et_test (ev_op (ev_dget (k := kF) rfl b1 dk_F) ev_c (rv_eq rfl))) (fun _ => et_test (ev_neNil (K := K) (ed_is (d := .list (dI xs)) (ev_d (ev_dget (k := kL) rfl b1 dk_L) (.lst (sq_of b2) (ints_dpa xs))) rfl))) Ha (Ex.refl _) _ fun Hb eb => ?_
  have b1 := eb _ _ b1
  have b2 := eb _ _ b2
  have b3 := eb _ _ b3
  have xp := xp.then eb
  by_cases hx : (decide (V.int l = V.int 0) && !xs.isEmpty) = true
  · rw [if_pos hx]
    cases xs with
    | nil => simp at hx
    | cons x xs =>
      refine ⟨fun σ2 H2 => ∃ (l : Int), Xp [st, lg] H H2 ∧ H2 st = some (.dK (dk lg cl l t0)) ∧ H2 lg = some (.lst (xs.map V.int)) ∧ σ2 = [some (.ref st), some (.int size), none, none, none, none], fun σ2 H2 ⟨l, z⟩ => ⟨xs.length, by simp, l, xs, rfl, z⟩, ?_⟩
      refine ⟨.ref st, rfl, st, .ref lg, rfl, (dk_L (lg := lg) (cl := cl) (l := l) (t := t0)) ▸ DGet.k (k := kL) b1, Or.inl ⟨rfl, _, sq_of b2⟩, lg, _, 0, 0, .int x, rfl, rfl, b2, by decide, by decide, by simp [seqIndex?], rfl, .ref st, rfl, st, _, rfl, DPut.k (k := kF) (by rw [upd_ne (Ne.symm lst)]; exact b1) (by show 4 < sizeLine; decide), ?_⟩
      rw [put_F]
      exact ⟨x, Xp.upd (Xp.upd xp (by simp)) (by simp), upd_same, by rw [upd_ne lst, upd_same]; simp, rfl⟩
  rw [if_neg hx]
  show tSeq _ _ _ [some (.ref st), some (.int size), none, none, none, none] Hb
  refine q_when (b := decide ((0 : Int) < l)) (et_test (ev_op (ev_dget (k := kF) rfl b1 dk_F) ev_c rv_I0)) (fun hb Hc ec => ?_) fun hb Hc ec => ?_
  · have b1 := ec _ _ b1
    refine qi_asg (ev_op (ev_int1 (ev_dget (k := kF) rfl b1 dk_F)) (ev_var rfl) (rv_I (by omega))) fun Hd ed => ?_
    have b1 := ed _ _ b1
    refine q_dput (k := kF) rfl b1 (by simp [dk]) (ev_op (ev_dget (k := kF) rfl b1 dk_F) (ev_var rfl) (rv_I ⟨by omega, by omega⟩)) fun He ee => ?_
    rw [put_F]
    refine ⟨_, rfl, k (l % size) _ (Int.emod_nonneg _ (by omega)) (Int.emod_lt_of_pos _ (by omega)) (Xp.upd (xp.then ((ec.trans ed).trans ee)) (by simp)) ⟨l / size, t0, xs, cs, upd_same, ?_, ?_, a4, a5, by omega⟩⟩
    · rw [upd_ne lst]
      exact ee _ _ (ed _ _ (ec _ _ b2))
    · rw [upd_ne cst]
      exact ee _ _ (ed _ _ (ec _ _ b3))
  have b1 := ec _ _ b1
  refine qi_asg (ev_op (ev_dget (k := kT) rfl b1 dk_T) ev_c rv_I0) fun Hd ed => ?_
  have b1 := ed _ _ b1
  refine q_dput (k := kT) rfl b1 (by simp [dk]) (ev_var rfl) fun He ee => ?_
  rw [put_T]
  have c1 : upd He st (.dK (dk lg cl l (t0 + 1))) st = some (.dK (dk lg cl l (t0 + 1))) := upd_same
  have c2 : upd He st (.dK (dk lg cl l (t0 + 1))) lg = some (.lst (xs.map V.int)) := by
    rw [upd_ne lst]
    exact ee _ _ (ed _ _ (ec _ _ b2))
  have c3 : upd He st (.dK (dk lg cl l (t0 + 1))) cl = some (.lst (cs.map V.int)) := by
    rw [upd_ne cst]
    exact ee _ _ (ed _ _ (ec _ _ b3))
  have xp2 : Xp [st, lg] H (upd He st (.dK (dk lg cl l (t0 + 1)))) := Xp.upd (xp.then ((ec.trans ed).trans ee)) (by simp)
  generalize upd He st (.dK (dk lg cl l (t0 + 1))) = Hf at *
  obtain ⟨c, hc⟩ : ∃ c : Int, Ev (tIf (tTest (tOp (rNeD K) (tDGet (tVar 0) (tC (.str "cells"))) (tLst tNil)))
      (tOp (rIxL K) (tDGet (tVar 0) (tC (.str "cells"))) (tOp (rI (fun _ j => 0 < j) fun i j => .int (i % j)) (tCB (fun xs H Q => (∃ i, xs = [.int i] ∧ Q (.int i) H) ∨ ∃ k, xs = [.bl k] ∧ Q (.int (if k then 1 else 0)) H) (tCons (tVar 3) tNil)) (tCB (fun xs H Q => ∃ p ys, xs = [.ref p] ∧ (SqL K H p ys ∨ SqT K H p ys) ∧ Q (.int ys.length) H) (tCons (tDGet (tVar 0) (tC (.str "cells"))) tNil))))
      (tC (.int 0))) [some (.ref st), some (.int size), none, some (.int (t0 + 1)), none, none] Hf (.int c) := by
    have dc : EvD K (tDGet (tVar 0) (tC (.str "cells"))) [some (.ref st), some (.int size), none, some (.int (t0 + 1)), none, none] Hf (.list (dI cs)) := ev_d (ev_dget (k := kC) rfl c1 dk_C) (.lst (sq_of c3) (ints_dpa cs))
    refine ⟨if (!cs.isEmpty) = true then cs.getD ((t0 + 1) % (cs.length : Int)).toNat 0 else 0, ev_if (b := !cs.isEmpty) (et_test (ev_neNil dc)) (fun h => ?_) fun h => ?_⟩
    · rw [if_pos h]
      have hl : 0 < cs.length := by cases cs with | nil => simp at h | cons _ _ => simp
      have m1 := Int.emod_nonneg (t0 + 1) (show ((cs.length : Int)) ≠ 0 by omega)
      have m2 := Int.emod_lt_of_pos (t0 + 1) (show (0 : Int) < (cs.length : Int) by omega)
      refine ev_op (ev_dget (k := kC) rfl c1 dk_C) (ev_op (ev_int1 (ev_var rfl)) (ev_is (ev_lenL dc) (by rw [dI, List.length_map])) (rv_I (by omega))) (rv_ixL (K := K) (sq_of c3) ?_)
      obtain ⟨j, hj⟩ := Int.eq_ofNat_of_zero_le m1
      rw [hj] at m2 ⊢
      refine atI_nat ?_
      rw [Int.toNat_natCast, List.getElem?_map, List.getElem?_eq_getElem (by omega), List.getD_eq_getElem?_getD, List.getElem?_eq_getElem (by omega)]
      rfl
    · rw [h]
      exact ev_c
  refine qi_asg hc fun Hg eg => ?_
  have u1 := Int.emod_nonneg c (show (2147483563 : Int) ≠ 0 by decide)
  have u2 := Int.emod_lt_of_pos c (show (0 : Int) < 2147483563 by decide)
  refine qi_asg (v := .int (((c % 2147483563 + 40692 * (t0 + 1) + 24681) ^ (3 : Int).toNat) % 2147483629)) (ev_op (ev_int1 (ev_op (ev_op (ev_op (ev_op (ev_int1 (ev_var rfl)) ev_c (rv_I (by decide))) (ev_op ev_c (ev_var rfl) (rv_I (.inl ⟨by decide, by decide⟩))) rv_I0) ev_c rv_I0) ev_c (rv_I ⟨by decide, by decide, by omega⟩))) ev_c (rv_I (by decide))) fun Hh eh => ?_
  have w1 := Int.emod_nonneg ((c % 2147483563 + 40692 * (t0 + 1) + 24681) ^ (3 : Int).toNat) (show (2147483629 : Int) ≠ 0 by decide)
  have w2 := Int.emod_lt_of_pos ((c % 2147483563 + 40692 * (t0 + 1) + 24681) ^ (3 : Int).toNat) (show (0 : Int) < 2147483629 by decide)
  generalize ((c % 2147483563 + 40692 * (t0 + 1) + 24681) ^ (3 : Int).toNat) % 2147483629 = M at *
  refine s_ret (ev_op (ev_int1 (ev_op (ev_op (ev_int1 (ev_op (ev_op (ev_var rfl) (ev_op ev_c (ev_var rfl) (rv_I (.inl ⟨by decide, by decide⟩))) rv_I0) ev_c (rv_I ⟨by decide, by decide, by omega⟩))) ev_c (rv_I (by decide))) ev_c (rv_I ⟨by decide, by decide⟩))) (ev_var rfl) (rv_I (by omega))) fun Hi ei => ?_
  exact k _ _ (Int.emod_nonneg _ (by omega)) (Int.emod_lt_of_pos _ (by omega)) (xp2.then ((eg.trans eh).trans ei)) (stk_ex ((eg.trans eh).trans ei) ⟨l, t0 + 1, xs, cs, c1, c2, c3, a4, by omega, by omega⟩)

end
end K16
set_option Elab.async false
set_option linter.all false
set_option maxRecDepth 100000
set_option maxHeartbeats 4000000
namespace K16
open PySem PySem.Spec PyProof.Rows L2 Evl DL
local macro_rules | `(tactic| walk_at "dl") => `(tactic| first
  | exact ev_c | exact ev_var rfl | exact eda_nil
  | exact ed_var rfl (by assumption)
  | exact ed_int ev_c | exact ed_int (ev_var rfl)
  | (refine eda_cons ?_ ?_ <;> walk_at "dl")
  | (refine ed_int ?_; walk_at "dl")
  | (refine ev_op ?_ ?_ rv_I0 <;> walk_at "dl"))

section
variable {P : Program} {w : World} {K : PySem.W.Frag} {mg : Str → Option Value} {base : Heap}

/-- one of any values -/
def spPick (K : PySem.W.Frag) : Sp := fun vs H Q _ => ∃ (st lg cl : Addr) (n : Nat) (a : Addr) (xs : List V), vs = [.ref st, .ref a] ∧ H a = some (.lst xs) ∧ a ≠ lg ∧ 1 ≤ xs.length ∧ xs.length ≤ 1000 ∧ n ≤ 10000 ∧ StK st lg cl n H ∧
  ∀ r H', r ∈ xs → Xp [st, lg] H H' → StK st lg cl (n + 1) H' → Q r H'
def lpr (s : Int) : List PyData := (List.range s.toNat).flatMap fun (i : Nat) => (List.range (s - ((i : Int) + 1)).toNat).map fun (j : Nat) => PyData.tuple [.int (i : Int), .int ((i : Int) + 1 + (j : Int))]
def R_law_pairs (ds : List PyData) (r : List PyData) : Prop := ∃ s : Int, ds = [.int s] ∧ 2 ≤ s ∧ s ≤ 5 ∧ r = lpr s
theorem lpr_imm (s : Int) : immAll (lpr s) = true := immAll_flat (fun i => immAll_map (fun j => by simp [imm, immAll]) _) _
theorem lpr_len {s : Int} (h1 : 2 ≤ s) (h2 : s ≤ 5) : (lpr s).length = np s ∧ np s ≤ 10 := by
  have hs' : s = 2 ∨ s = 3 ∨ s = 4 ∨ s = 5 := by omega
  rcases hs' with rfl | rfl | rfl | rfl <;> decide
abbrev s__law_pick : Stmt := topS 39
abbrev N__law_pick : List Str := ["_law_state", "_law_several"]
theorem sc__law_pick : FnScope N__law_pick ["_law_state", "_law_several"] (defScope s__law_pick) := ⟨rfl, rfl, rfl, by decide +kernel, rfl, by decide +kernel, by decide +kernel⟩
theorem ok__law_pick {f : Addr} {fd : FuncData} (F : Fun K "_law_pick" "_law_pick" s__law_pick f fd) (T : Txt mg)
    (D__law_draw : DF P w K mg base "_law_draw" 1 ["_law_state", "_law_size_here"] (spDraw K))  :
    FnOk P w K mg base CX0 2 f fd ["_law_state", "_law_several"] (spPick K) := by
  refine F.ok sc__law_pick (fun vs H Q E h => by obtain ⟨_, _, _, _, _, _, rfl, _⟩ := h; rfl) (fun cdv A outer s H vs Q E hr h => ?_)
  obtain ⟨st, lg, cl, n, a, xs, rfl, ha, hal, h1, h2, h3, hst, k⟩ := h
  refine ⟨_, (pss_one (ps_ret (pe_ix ix_list (pv 1) (pe_D D__law_draw (hr.mono (by decide)) (by rfl) (pa_cons (pv 0) (pa_cons (pe_callB call_len_seq (by rfl) T.b_len PySem.boot_len (pa_cons (pv 1) pa_nil)) pa_nil))) (fun _ _ => rfl)))), ?_⟩
  have hast : a ≠ st := fun z => by
    obtain ⟨_, _, _, _, q, _⟩ := hst
    rw [← z, ha] at q
    cases q
  refine ⟨.ref a, rfl, .ref st, rfl, .ref a, rfl, a, xs, rfl, .inl (sq_of ha), st, lg, cl, n, (xs.length : Int), rfl, by omega, by omega, h3, hst, fun r H' r0 r1 x s => ?_⟩
  obtain ⟨j, rfl⟩ := Int.eq_ofNat_of_zero_le r0
  have hj : j < xs.length := by omega
  refine ⟨a, xs, (j : Int), xs[j], rfl, rfl, sq_of (x _ _ ha (by simp [hast, hal])), atI_nat (List.getElem?_eq_getElem hj), k _ H' (List.getElem_mem hj) x s⟩

abbrev s__law_pairs : Stmt := topS 43
abbrev N__law_pairs : List Str := ["_law_sides_here", "_law_found", "_law_one", "_law_other"]
theorem sc__law_pairs : FnScope N__law_pairs ["_law_sides_here"] (defScope s__law_pairs) := ⟨rfl, rfl, rfl, by decide +kernel, rfl, by decide +kernel, by decide +kernel⟩
theorem ok__law_pairs {f : Addr} {fd : FuncData} (F : Fun K "_law_pairs" "_law_pairs" s__law_pairs f fd) (T : Txt mg)
      :
    FnOk P w K mg base CX0 1 f fd ["_law_sides_here"] (spN K 1 R_law_pairs) := by
  refine F.ok sc__law_pairs (fun vs H Q E h => spN_len h) (fun cdv A outer s H vs Q E hr h => ?_)
  obtain ⟨ds, r, hd, _, ⟨x, rfl, h1, h2, rfl⟩, k⟩ := h
  obtain ⟨v0, rfl, d0⟩ := dpa_one hd
  cases dp_int d0
  refine ⟨_, (pss_cons (ps_set (i := 1) sc__law_pairs.nd rfl (.inl rfl) (pe_lst pa_nil))
      (pss_cons (ps_for PassesOwn.never rfl (pi_range1 (by rfl) T.b_range (pa_cons (pv 0) pa_nil)) (pg_name (i := 2) sc__law_pairs.nd rfl (Or.inr rfl)) (pss_one (ps_set (i := 1) sc__law_pairs.nd rfl (.inl rfl) (pe_op op_cat (pv 1) (pe_lc (own := [("_law_other", 3)]) (g := (gName 3)) (tt := tYes) rfl sc__law_pairs.nd (pi_range2 (by rfl) T.b_range (pa_cons (pe_op op_add (pv 2) pe_int) (pa_cons (pv 0) pa_nil))) (blkOk_by (N := N__law_pairs) (sc := defScope s__law_pairs) (by decide +kernel)) (fun _ _ _ _ _ => (pg_name (i := 3) sc__law_pairs.nd rfl (Or.inl rfl))) (fun _ _ _ _ _ => pts_nil) (fun _ _ _ _ _ => (pe_tup (pa_cons (pv 2) (pa_cons (pv 3) pa_nil)))))))))
      (pss_one (ps_ret (pv 1))))), ?_⟩
  refine qn_asg (K := K) (en_lst eda_nil (by simp)) fun p vs H1 hp e1 h1' hd1 => ?_
  cases hd1
  refine e_for (S := []) (ei_rng1 (K := K) (n := x) (eda_cons (ed_int (ev_var rfl)) eda_nil) ⟨by omega, by omega⟩) (fun H2 i σ' Ha => Ex H2 Ha ∧ ∃ p ws a b, H p = none ∧ Ha p = some (.lst ws) ∧ DpAll K Ha ws ((List.range i).flatMap fun (i : Nat) => (List.range (x - ((i : Int) + 1)).toNat).map fun (j : Nat) => PyData.tuple [.int (i : Int), .int ((i : Int) + 1 + (j : Int))]) ∧ σ' = [some (.int x), some (.ref p), a, b])
    (fun H2 e2 => ⟨Ex.refl _, p, [], none, none, hp, e2 _ _ h1', .nil, rfl⟩) (fun H2 i σ' Ha _ z => Xp.of_ex z.1) ?_ ?_
  · rintro H2 i d y σ' Ha Hb e2 hdi ⟨p1, p, ws, a, b, hp, hpa, dws, rfl⟩ eb hy
    have hi : i < x.toNat := by simpa using (List.getElem?_eq_some_iff.mp hdi).1
    rw [rng_get hi] at hdi
    cases hdi
    cases dp_int hy
    have hpb := eb _ _ hpa
    have dwb := dpa_ex eb _ _ dws
    have small : ∀ i : Nat, ((List.range i).flatMap fun (i : Nat) => (List.range (x - ((i : Int) + 1)).toNat).map fun (j : Nat) => PyData.tuple [.int (i : Int), .int ((i : Int) + 1 + (j : Int))]).length ≤ 4 * i := fun i => by
      induction i with
      | zero => simp
      | succ i ih =>
        rw [List.range_succ, List.flatMap_append, List.length_append, List.flatMap_cons, List.flatMap_nil, List.append_nil, List.length_map, List.length_range]
        omega
    have sm := small i
    show tAsg _ (gName 1) _ [some (.int x), some (.ref p), some (.int (i : Int)), b] Hb
    refine n_asg (K := K) (en_cat (eq_var rfl hpb dwb) (EvN.toQ (en_lc (K := K) (ei_rng2 (S := []) (K := K) (m := (i : Int) + 1) (n := x) (eda_cons (ed_int (ev_op (ev_var rfl) ev_c rv_I0)) (eda_cons (ed_int (ev_var rfl)) eda_nil)) ⟨⟨by omega, by omega⟩, by omega, by omega⟩) (by rw [List.length_map, List.length_range]; omega)
      (fun j => PyData.tuple [.int (i : Int), .int ((i : Int) + 1 + (j : Int))]) (fun j _ => by simp [imm, immAll]) ?_)) ?_) fun p2 ws2 Hc hp2 ec h2' hd2 => ?_
    · intro H3 j d y Hd Q e3 hdj ed hy kk
      have hj : j < (x - ((i : Int) + 1)).toNat := by simpa using (List.getElem?_eq_some_iff.mp hdj).1
      rw [rng_get hj] at hdj
      cases hdj
      cases dp_int hy
      exact kk _ Hd (Ex.refl _) rfl (ed_tup (eda_cons (ed_int (ev_var rfl)) (eda_cons (ed_int (ev_var rfl)) eda_nil)) (by simp))
    · simp only [List.length_map, List.length_range]
      omega
    · refine ⟨(p1.trans eb).trans ec, p2, ws2, _, _, fresh_back (((e1.trans e2).trans p1).trans eb) hp2, h2', ?_, rfl⟩
      rw [List.range_succ, List.flatMap_append, List.flatMap_cons, List.flatMap_nil, List.append_nil]
      simpa using hd2
  · rintro H2 σ' Ha e2 ⟨p1, p, ws, a, b, hp, hpa, dws, rfl⟩
    refine ⟨.ref p, rfl, k p ws Ha hp ((e1.trans e2).trans p1) hpa ?_⟩
    rw [List.length_map, List.length_range] at dws
    exact dws

end
end K16
set_option Elab.async false
set_option linter.all false
set_option maxRecDepth 100000
set_option maxHeartbeats 4000000
namespace K16
open PySem PySem.Spec PyProof.Rows L2 Evl DL
local macro_rules | `(tactic| walk_at "dl") => `(tactic| first
  | exact ev_c | exact ev_var rfl | exact eda_nil
  | exact ed_var rfl (by assumption)
  | exact ed_int ev_c | exact ed_int (ev_var rfl)
  | (refine eda_cons ?_ ?_ <;> walk_at "dl")
  | (refine ed_int ?_; walk_at "dl")
  | (refine ev_op ?_ ?_ rv_I0 <;> walk_at "dl"))

section
variable {P : Program} {w : World} {K : PySem.W.Frag} {mg : Str → Option Value} {base : Heap}

def spDrawn (K : PySem.W.Frag) : Sp := fun vs H Q _ => ∃ (st lg cl : Addr) (n : Nat) (s : Int), vs = [.ref st, .int s] ∧ 2 ≤ s ∧ s ≤ 5 ∧ n ≤ 9000 ∧ StK st lg cl n H ∧
  ∀ l v H', Ld s l → Xp [st, lg] H H' → StK st lg cl (n + 21) H' → Dp K H' v (tI l) → Q v H'
def spBegun (K : PySem.W.Frag) : Sp := fun vs H Q _ => ∃ (a : Addr) (ns : List Int), vs = [.ref a] ∧ SqL K H a (ns.map V.int) ∧ ns.length ≤ 63 ∧
  ∀ st lg cl H', H st = none → H lg = none → Ex H H' → StK st lg cl 0 H' → Q (.ref st) H'
theorem stk_ne {st lg cl D : Addr} {n : Nat} {H : Hp} (h : StK st lg cl n H) (hD : H D = none) : D ≠ st ∧ D ≠ lg ∧ D ≠ cl := by
  obtain ⟨l, t, xs, cs, h1, h2, h3, _⟩ := h
  refine ⟨fun z => ?_, fun z => ?_, fun z => ?_⟩
  · rw [z, h1] at hD; cases hD
  · rw [z, h2] at hD; cases hD
  · rw [z, h3] at hD; cases hD
theorem stk_upd {st lg cl D : Addr} {n : Nat} {H : Hp} {u : HO} (h : StK st lg cl n H) (hD : D ≠ st ∧ D ≠ lg ∧ D ≠ cl) : StK st lg cl n (L2.upd H D u) := by
  obtain ⟨l, t, xs, cs, h1, h2, h3, h4⟩ := h
  exact ⟨l, t, xs, cs, by rw [upd_ne (Ne.symm hD.1)]; exact h1, by rw [upd_ne (Ne.symm hD.2.1)]; exact h2, by rw [upd_ne (Ne.symm hD.2.2)]; exact h3, h4⟩
theorem merge_dk {lg cl : Addr} : mergeK [] (dk lg cl 0 0) = dk lg cl 0 0 := by
  obtain ⟨a, b, c, d, e, f⟩ := k_ne
  simp [mergeK, putK, dk, a, b, c, d, e, f]
theorem ev_absI {K : PySem.W.Frag} {σ : L2.St} {H : Hp} {ta : TE} {i : Int} (h : Ev ta σ H (.int i)) : Ev (tCB (fun xs H Q => ∃ i, xs = [.int i] ∧ Q (.int (if i < 0 then -i else i)) H) (tCons ta tNil)) σ H (.int (if i < 0 then -i else i)) := fun H1 e Q q =>
  h H1 e _ fun H2 e2 => ⟨i, rfl, q H2 e2⟩
theorem given_ints (n : Nat) (f : Nat → Bool) (g : Nat → Int) : given n f (fun i => V.int (g i)) = (((List.range n).filter f).map g).map V.int := by
  rw [given, List.map_map]
  rfl
abbrev s__law_begun : Stmt := topS 37
abbrev N__law_begun : List Str := ["_law_script", "_law_cells_here", "_law_large", "_law_cell"]
theorem sc__law_begun : FnScope N__law_begun ["_law_script"] (defScope s__law_begun) := ⟨rfl, rfl, rfl, by decide +kernel, rfl, by decide +kernel, by decide +kernel⟩
theorem ok__law_begun {f : Addr} {fd : FuncData} (F : Fun K "_law_begun" "_law_begun" s__law_begun f fd) (T : Txt mg)
      :
    FnOk P w K mg base CX0 1 f fd ["_law_script"] (spBegun K) := by
  refine F.ok sc__law_begun (fun vs H Q E h => by obtain ⟨_, _, rfl, _⟩ := h; rfl) (fun cdv A outer s H vs Q E hr h => ?_)
  obtain ⟨a, ns, rfl, hs, hl, k⟩ := h
  refine ⟨_, (pss_cons (ps_setLc (i := 1) (own := [("_law_cell", 3)]) (g := (gName 3)) (tt := tYes) rfl sc__law_begun.nd rfl rfl (sw_true rfl rfl rfl (by decide +kernel)) (pi_list (pv 0)) (blkOk_by (N := N__law_begun) (sc := defScope s__law_begun) (by decide +kernel)) (fun _ _ _ _ _ => (pg_name (i := 3) sc__law_begun.nd rfl (Or.inl rfl))) (fun _ _ _ _ _ => pts_nil) (fun _ _ _ _ _ => (pe_callB call_abs (by rfl) T.b_abs (by decide +kernel) (pa_cons (pv 3) pa_nil))))
      (pss_cons (ps_setLc (i := 2) (own := [("_law_cell", 3)]) (g := (gName 3)) (tt := _) rfl sc__law_begun.nd rfl rfl (sw_true rfl rfl rfl (by decide +kernel)) (pi_list (pv 1)) (blkOk_by (N := N__law_begun) (sc := defScope s__law_begun) (by decide +kernel)) (fun _ _ _ _ _ => (pg_name (i := 3) sc__law_begun.nd rfl (Or.inl rfl))) (fun _ _ _ _ _ => (pts_one (pt_cmpR op_ge (pv 3) (pe_op op_pow pe_int pe_int) (nomark _)))) (fun _ _ _ _ _ => (pe_op op_sub (pv 3) (pe_op op_pow pe_int pe_int))))
      (pss_one (ps_ret (pe_disp (pps_cons pe_str (pv 2) (pps_cons pe_str (pv 1) (pps_cons pe_str pe_int (pps_cons pe_str pe_int pps_nil)))) (by rfl) (by rfl) (fun z => by cases z) (by decide)))))), ?_⟩
  have c2 : ∀ (i : Nat) (x : V), (ns.map V.int)[i]? = some x → x = .int (ns.getD i 0) := fun i x h => by
    rw [List.getElem?_map] at h
    cases g : ns[i]? with
    | none => rw [g] at h; simp at h
    | some z => rw [g] at h; simp at h; rw [← h, List.getD_eq_getElem?_getD, g]; rfl
  refine q_asgL (xs := given (ns.map V.int).length (fun _ => true) fun i => V.int (if ns.getD i 0 < 0 then -(ns.getD i 0) else ns.getD i 0)) (el_lcL (K := K) (a := a) (xs := ns.map V.int) _ _ (ev_var rfl) hs (by rw [List.length_map]; omega) (fun x => rfl) (fun i x H1 e1 hx H2 e2 Q q => q H2 (Ex.refl _)) fun i x H1 e1 hx _ => ?_) fun cl H1 hcl e1 h1 => ?_
  · rw [c2 i x hx]
    exact ev_absI (K := K) (ev_var rfl)
  rw [given_ints] at h1
  generalize hcs : ((List.range (ns.map V.int).length).filter fun _ => true).map (fun i => if ns.getD i 0 < 0 then -(ns.getD i 0) else ns.getD i 0) = cs at h1
  have lcs : cs.length ≤ 63 := by
    rw [← hcs, List.length_map]
    refine Nat.le_trans (List.length_filter_le _ _) ?_
    rw [List.length_range, List.length_map]
    exact hl
  have c3 : ∀ (i : Nat) (x : V), (cs.map V.int)[i]? = some x → x = .int (cs.getD i 0) := fun i x h => by
    rw [List.getElem?_map] at h
    cases g : cs[i]? with
    | none => rw [g] at h; simp at h
    | some z => rw [g] at h; simp at h; rw [← h, List.getD_eq_getElem?_getD, g]; rfl
  refine q_asgL (xs := given (cs.map V.int).length (fun i => decide ((10 : Int) ^ (18 : Int).toNat ≤ cs.getD i 0)) fun i => V.int (cs.getD i 0 - (10 : Int) ^ (18 : Int).toNat)) (el_lcL (K := K) (a := cl) (xs := cs.map V.int) _ _ (ev_var rfl) (sq_of h1) (by rw [List.length_map]; omega) (fun x => rfl) (fun i x H2 e2 hx => ?_) fun i x H2 e2 hx _ => ?_) fun lg H2 hlg e2 h2 => ?_
  · rw [c3 i x hx]
    exact et_test (ev_op (ev_var rfl) (ev_op ev_c ev_c (rv_I ⟨by decide, by decide, by decide⟩)) rv_I0)
  · rw [c3 i x hx]
    exact ev_op (ev_var rfl) (ev_op ev_c ev_c (rv_I ⟨by decide, by decide, by decide⟩)) rv_I0
  rw [given_ints] at h2
  generalize hxs : ((List.range (cs.map V.int).length).filter fun i => decide ((10 : Int) ^ (18 : Int).toNat ≤ cs.getD i 0)).map (fun i => cs.getD i 0 - (10 : Int) ^ (18 : Int).toNat) = xs at h2
  show tRet (tDisp _) _ [some (.ref a), some (.ref cl), some (.ref lg), none] H2
  refine fun st hst => ⟨.ref lg, rfl, .ref cl, rfl, upd_same, dk lg cl 0 0, rfl, by show 4 ≤ 15; decide, ?_⟩
  rw [merge_dk]
  have e2' := Ex.new (o := .dK []) hst
  have ncl : cl ≠ lg := fun z => by rw [z] at h1; rw [hlg] at h1; cases h1
  have nst1 : lg ≠ st := fun z => by rw [← z] at hst; rw [hst] at h2; cases h2
  have nst2 : cl ≠ st := fun z => by
    have := e2 _ _ h1
    rw [z, hst] at this
    cases this
  refine k st lg cl _ (fresh_back (e1.trans e2) hst) (fresh_back e1 hlg) (Ex.mut ((e1.trans e2).trans e2') (fresh_back (e1.trans e2) hst)) ⟨0, 0, xs, cs, upd_same, ?_, ?_, ncl, by decide, by decide⟩
  · rw [upd_ne nst1, upd_ne nst1]
    exact h2
  · rw [upd_ne nst2, upd_ne nst2]
    exact e2 _ _ h1

end
end K16
set_option Elab.async false
set_option linter.all false
set_option maxRecDepth 100000
set_option maxHeartbeats 4000000
namespace K16
open PySem PySem.Spec PyProof.Rows L2 Evl DL
local macro_rules | `(tactic| walk_at "dl") => `(tactic| first
  | exact ev_c | exact ev_var rfl | exact eda_nil
  | exact ed_var rfl (by assumption)
  | exact ed_int ev_c | exact ed_int (ev_var rfl)
  | (refine eda_cons ?_ ?_ <;> walk_at "dl")
  | (refine ed_int ?_; walk_at "dl")
  | (refine ev_op ?_ ?_ rv_I0 <;> walk_at "dl"))

/-- the mate of a track, by the law -/
def mateF (t m : Int) : Int := if (if t % 2 = 0 then t + 1 else t - 1) < m then (if t % 2 = 0 then t + 1 else t - 1) else t
def R_law_mate (ds : List PyData) (r : PyData) : Prop := ∃ t m : Int, ds = [.int t, .int m] ∧ r = .int (mateF t m)
section
variable {P : Program} {w : World} {K : PySem.W.Frag} {mg : Str → Option Value} {base : Heap}
abbrev s__law_mate : Stmt := topS 44
abbrev N__law_mate : List Str := ["_law_track", "_law_many", "_law_other"]
theorem sc__law_mate : FnScope N__law_mate ["_law_track", "_law_many"] (defScope s__law_mate) := ⟨rfl, rfl, rfl, by decide +kernel, rfl, by decide +kernel, by decide +kernel⟩
theorem ok__law_mate {f : Addr} {fd : FuncData} (F : Fun K "_law_mate" "_law_mate" s__law_mate f fd) (T : Txt mg)
      :
    FnOk P w K mg base CX0 1 f fd ["_law_track", "_law_many"] (spD K 2 R_law_mate) := by
  refine F.ok sc__law_mate (fun vs H Q E h => spD_len h) (fun cdv A outer s H vs Q E hr h => ?_)
  obtain ⟨ds, r, hd, _, ⟨t, m, rfl, rfl⟩, k⟩ := h
  obtain rfl := dpa_ints (l := [t, m]) hd
  refine ⟨_, (pss_cons (ps_set (i := 2) sc__law_mate.nd rfl (.inl rfl) (pe_ifExp (pt_cmpR op_eq (pe_op op_mod (pe_callTy call_int1 (by rfl) T.b_int (by decide +kernel) (pa_cons (pv 0) pa_nil)) pe_int) pe_int (nomark _)) (pe_op op_add (pv 0) pe_int) (pe_op op_sub (pv 0) pe_int)))
      (pss_one (ps_ret (pe_ifExp (pt_cmpR op_lt (pv 2) (pv 1) (nomark _)) (pv 2) (pv 0))))), ?_⟩
  refine q_asg (v := .int (if t % 2 = 0 then t + 1 else t - 1)) (ev_if (b := decide (t % 2 = 0)) (et_test (ev_is (ev_op (ev_op (ev_int1 (ev_var rfl)) ev_c (rv_I (by decide))) ev_c (rv_eq rfl)) (by rw [decide_vint]))) (fun hb => ev_is (ev_op (ev_var rfl) ev_c rv_I0) (by rw [if_pos (of_decide_eq_true hb)])) fun hb => ev_is (ev_op (ev_var rfl) ev_c rv_I0) (by rw [if_neg (of_decide_eq_false hb)])) fun H1 e1 => ?_
  generalize hO : (if t % 2 = 0 then t + 1 else t - 1) = o
  refine d_ret (K := K) (ed_int (ev_if (v := .int (mateF t m)) (b := decide (o < m)) (et_test (ev_op (ev_var rfl) (ev_var rfl) rv_I0)) (fun hb => ev_is (ev_var rfl) ?_) fun hb => ev_is (ev_var rfl) ?_)) fun v H2 e2 hv => k v H2 (e1.trans e2) hv
  · unfold mateF
    rw [hO, if_pos (of_decide_eq_true hb)]
  · unfold mateF
    rw [hO, if_neg (of_decide_eq_false hb)]

end
end K16
set_option Elab.async false
set_option linter.all false
set_option maxRecDepth 100000
set_option maxHeartbeats 4000000
namespace K16
open PySem PySem.Spec PyProof.Rows L2 Evl DL
local macro_rules | `(tactic| walk_at "dl") => `(tactic| first
  | exact ev_c | exact ev_var rfl | exact eda_nil
  | exact ed_var rfl (by assumption)
  | exact ed_int ev_c | exact ed_int (ev_var rfl)
  | (refine eda_cons ?_ ?_ <;> walk_at "dl")
  | (refine ed_int ?_; walk_at "dl")
  | (refine ev_op ?_ ?_ rv_I0 <;> walk_at "dl"))

section
variable {K : PySem.W.Frag} {σ : L2.St} {H : Hp} {ta tb : TE}
/-- x != y -/
theorem ev_neD {e1 e2 : PyData} (ha : EvD K ta σ H e1) (hb : EvD K tb σ H e2) (h1 : SeqAt.shaped e1 = true) (h2 : SeqAt.shaped e2 = true) : Ev (tOp (rNeD K) ta tb) σ H (.bl (!PyData.eqv e1 e2)) := fun H1 e Q q =>
  ha H1 e _ fun x H2 e2' hx => hb H2 (e.trans e2') _ fun y H3 e3 hy => ⟨_, _, dp_ex e3 _ _ hx, hy, h1, h2, q H3 (e2'.trans e3)⟩

theorem q_parNL {D : Ends} {tz : TS} {ds : List PyData} {i j : Nat} (h : EvN K ta σ H ds) (q : ∀ p vs H1 r, H p = none → Ex H H1 → H1 p = some (.lst vs) → DpAll K H1 vs ds → H1 r = none → tz D ((σ.set i (some (.ref p))).set j (some (.ref r))) (L2.upd H1 r (.lst []))) : tSeq (tPar i j (tCons ta (tCons (tLst tNil) tNil))) tz D σ H :=
  h H (Ex.refl _) _ fun p vs H1 hp e1 h1 hd => ⟨by show 0 ≤ sizeLine; decide, fun r hr => ⟨_, _, rfl, q p vs H1 r hp e1 h1 hd hr⟩⟩
end
/-- flat data that nothing changes -/
def Flt1 (ds : List PyData) : Prop := ∀ d ∈ ds, imm d = true ∧ d.canLay0 = true ∧ d.depth ≤ 10
theorem immAll_flt : ∀ {ds : List PyData}, Flt1 ds → immAll ds = true
  | [], _ => by simp [immAll]
  | d :: ds, h => by rw [immAll, (h d List.mem_cons_self).1, immAll_flt fun e he => h e (List.mem_cons_of_mem _ he)]; rfl
theorem lay_flt : ∀ {ds : List PyData}, Flt1 ds → PyData.canLayAll0 ds = true ∧ PyData.depthAll ds ≤ 11
  | [], _ => by simp [PyData.canLayAll0, PyData.depthAll]
  | d :: ds, h => by
    have a := h d List.mem_cons_self
    have b := lay_flt fun e he => h e (List.mem_cons_of_mem _ he)
    rw [PyData.canLayAll0, PyData.depthAll, a.2.1, b.1]
    exact ⟨rfl, by omega⟩
theorem shaped_flt {ds : List PyData} (h : Flt1 ds) : SeqAt.shaped (.list ds) = true := by
  have a := lay_flt h
  show ((PyData.list ds).canLay0 && decide ((PyData.list ds).depth ≤ 64)) = true
  rw [Bool.and_eq_true]
  refine ⟨by rw [PyData.canLay0]; exact a.1, decide_eq_true ?_⟩
  rw [PyData.depth]
  omega
theorem eqv_nilL (ds : List PyData) : PyData.eqv (.list ds) (.list []) = ds.isEmpty := by
  rw [PyData.eqv]
  cases ds <;> simp [PyData.eqvAll]
theorem dpa_erase {K : PySem.W.Frag} {H : Hp} : ∀ {vs : List V} {ds : List PyData} (k : Nat), DpAll K H vs ds → DpAll K H (vs.eraseIdx k) (ds.eraseIdx k)
  | _, _, _, .nil => .nil
  | _, _, 0, .cons _ t => t
  | _, _, k + 1, .cons h t => .cons h (dpa_erase k t)
theorem erase_perm {α : Type} : ∀ {l : List α} {k : Nat} (h : k < l.length), (l[k] :: l.eraseIdx k).Perm l
  | [], _, h => absurd h (by simp)
  | a :: l, 0, _ => List.Perm.refl _
  | a :: l, k + 1, h => by
    have ih := erase_perm (l := l) (k := k) (by simpa using h)
    show (l[k]'(by simpa using h) :: a :: l.eraseIdx k).Perm (a :: l)
    exact (List.Perm.swap _ _ _).trans (ih.cons a)
theorem seq_ix {i : Int} {n : Nat} (h1 : 0 ≤ i) (h2 : i < n) : seqIndex? i n = some i.toNat := by
  unfold seqIndex?
  simp
  omega
def spMixed (K : PySem.W.Frag) : Sp := fun vs H Q _ => ∃ (st lg cl a : Addr) (n : Nat) (xs : List V) (ds : List PyData), vs = [.ref st, .ref a] ∧ SqL K H a xs ∧ DpAll K H xs ds ∧ Flt1 ds ∧ ds.length ≤ 900 ∧ n ≤ 8000 ∧ StK st lg cl n H ∧
  ∀ p ys es H', es.Perm ds → H p = none → Xp [st, lg] H H' → H' p = some (.lst ys) → DpAll K H' ys es → StK st lg cl (n + ds.length) H' → Q (.ref p) H'
section
variable {P : Program} {w : World} {K : PySem.W.Frag} {mg : Str → Option Value} {base : Heap}
abbrev s__law_mixed : Stmt := topS 40
abbrev N__law_mixed : List Str := ["_law_state", "_law_several", "_law_left", "_law_found"]
theorem sc__law_mixed : FnScope N__law_mixed ["_law_state", "_law_several"] (defScope s__law_mixed) := ⟨rfl, rfl, rfl, by decide +kernel, rfl, by decide +kernel, by decide +kernel⟩
theorem ok__law_mixed {f : Addr} {fd : FuncData} (F : Fun K "_law_mixed" "_law_mixed" s__law_mixed f fd) (T : Txt mg)
    (D__law_draw : DF P w K mg base "_law_draw" 1 ["_law_state", "_law_size_here"] (spDraw K))  :
    FnOk P w K mg base CX0 2 f fd ["_law_state", "_law_several"] (spMixed K) := by
  refine F.ok sc__law_mixed (fun vs H Q E h => by obtain ⟨_, _, _, _, _, _, _, rfl, _⟩ := h; rfl) (fun cdv A outer s H vs Q E hr h => ?_)
  obtain ⟨st, lg, cl, a, n, xs, ds, rfl, hs, hd, fl, ld, hn, hst, k⟩ := h
  refine ⟨_, (pss_cons (ps_par (i := 2) (j := 3) (by rfl) sc__law_mixed.nd rfl rfl (by decide) rfl rfl (pa_cons (pe_callTy call_list_of (by rfl) T.b_list (by decide +kernel) (pa_cons (pv 1) pa_nil)) (pa_cons (pe_lst pa_nil) pa_nil)) (by rfl))
      (pss_cons (ps_while PassesOwn.never (pt_cmpR (op_neD (hu64 hr)) (pv 2) (pe_lst pa_nil) (nomark _)) (pss_one (ps_expr (pe_bm PySem.F.plainAttrs_list PySem.F.slot_list_append PySem.F.type_list_append mt_append (pv 3) (pa_cons (pe_bm PySem.F.plainAttrs_list PySem.F.slot_list_pop PySem.F.type_list_pop mt_popAt (pv 2) (pa_cons (pe_D D__law_draw (hr.mono (by decide)) (by rfl) (pa_cons (pv 0) (pa_cons (pe_callB call_len_seq (by rfl) T.b_len PySem.boot_len (pa_cons (pv 2) pa_nil)) pa_nil))) pa_nil)) pa_nil)))))
      (pss_one (ps_ret (pv 3))))), ?_⟩
  refine q_parNL (K := K) (en_listOf (K := K) (ds := ds) (ed_var (k := 1) (v := .ref a) rfl (.lst hs hd))) fun p vs H1 r hp e1 h1 hd1 hr => ?_
  have er := Ex.new (o := .lst []) hr
  have e2 := e1.trans er
  have npr : p ≠ r := fun z => by rw [z, hr] at h1; cases h1
  have n1 := stk_ne hst hp
  have n2 := stk_ne (stk_ex e1 hst) hr
  have hr0 := fresh_back e1 hr
  refine ⟨fun m σ' Ha => ∃ (es gs : List PyData) (ws fs : List V), m = es.length ∧ Ha p = some (.lst ws) ∧ DpAll K Ha ws es ∧ Ha r = some (.lst fs) ∧ DpAll K Ha fs gs ∧ (es ++ gs).Perm ds ∧ StK st lg cl (n + gs.length) Ha ∧ Xp [st, lg, p, r] H Ha ∧ σ' = [some (.ref st), some (.ref a), some (.ref p), some (.ref r)],
    ⟨_, ds, [], vs, [], rfl, er _ _ h1, dpa_ex er _ _ hd1, upd_same, .nil, by simp, stk_ex e2 hst, Xp.of_ex e2, rfl⟩, ?_⟩
  rintro m σ' Ha ⟨es, gs, ws, fs, rfl, hw, hdw, hf, hdf, pm, s1, x1, rfl⟩
  have fe : Flt1 es := fun d hd => fl d (pm.mem_iff.mp (List.mem_append_left _ hd))
  have fg : Flt1 gs := fun d hd => fl d (pm.mem_iff.mp (List.mem_append_right _ hd))
  have len := pm.length_eq
  rw [List.length_append] at len
  refine et_test (ev_is (ev_neD (K := K) (e1 := .list es) (e2 := .list []) (ed_var (k := 2) (v := .ref p) rfl (.lst (sq_of hw) hdw)) (EvN.toD (en_lst (ds := []) eda_nil (by simp))) (shaped_flt fe) (shaped_flt (ds := []) fun _ h => by simp at h)) (by rw [eqv_nilL])) Ha (Ex.refl _) _ fun Hb eb => ?_
  have hw := eb _ _ hw
  have hdw := dpa_ex eb _ _ hdw
  have hf := eb _ _ hf
  have hdf := dpa_ex eb _ _ hdf
  have s1 := stk_ex eb s1
  have x1 := x1.then eb
  have lw := dpa_len hdw
  have lf := dpa_len hdf
  cases es with
  | nil =>
    show tRet (tVar 3) _ _ _
    refine ⟨.ref r, rfl, ?_⟩
    have x2 : Xp [st, lg] H Hb := fun b o ho hn => x1 b o ho fun hm => by
      rcases (by simpa using hm : b = st ∨ b = lg ∨ b = p ∨ b = r) with z | z | z | z
      · exact hn (by simp [z])
      · exact hn (by simp [z])
      · rw [z, hp] at ho; cases ho
      · rw [z, hr0] at ho; cases ho
    exact k r fs gs Hb pm hr0 x2 hf hdf (stk_mono (by simp at len; omega) s1)
  | cons d0 es0 =>
    rw [if_pos (show (!(d0 :: es0).isEmpty) = true from rfl)]
    refine ⟨fun σ2 H2 => ∃ m', m' < (d0 :: es0).length ∧ ∃ (es gs : List PyData) (ws fs : List V), m' = es.length ∧ H2 p = some (.lst ws) ∧ DpAll K H2 ws es ∧ H2 r = some (.lst fs) ∧ DpAll K H2 fs gs ∧ (es ++ gs).Perm ds ∧ StK st lg cl (n + gs.length) H2 ∧ Xp [st, lg, p, r] H H2 ∧ σ2 = [some (.ref st), some (.ref a), some (.ref p), some (.ref r)], fun σ2 H2 z => z, ?_⟩
    have lp : 1 ≤ (d0 :: es0).length := by simp
    generalize d0 :: es0 = es at *
    refine ⟨_, rfl, Or.inl ⟨rfl, fs, sq_of hf⟩, ?_⟩
    refine ⟨_, rfl, Or.inl ⟨rfl, ws, sq_of hw⟩, ?_⟩
    refine ⟨.ref st, rfl, ev_lenL (K := K) (ds := es) (ed_var (k := 2) (v := .ref p) rfl (.lst (sq_of hw) hdw)) Hb (Ex.refl _) _ fun Hc ec => ?_⟩
    refine ⟨st, lg, cl, _, (es.length : Int), rfl, by omega, by omega, by omega, stk_ex ec s1, fun i Hd i0 i1 xd sd => ?_⟩
    have xbd : Xp [st, lg] Hb Hd := (Xp.of_ex ec).trans xd
    have hwd := xbd _ _ hw (by simp [n1.1, n1.2.1])
    have hfd := xbd _ _ hf (by simp [n2.1, n2.2.1])
    have tx := stk_tx s1 xbd
    have hdwd := dpa_tx tx _ _ (immAll_flt fe) hdw
    have hdfd := dpa_tx tx _ _ (immAll_flt fg) hdf
    have hi : i.toNat < es.length := by omega
    obtain ⟨y, hy, dy⟩ := dpa_get hdwd (List.getElem?_eq_getElem hi)
    refine ⟨p, ws, i, i.toNat, y, rfl, rfl, hwd, by omega, by omega, seq_ix i0 (by omega), hy, ?_⟩
    have hf2 : L2.upd Hd p (.lst (ws.eraseIdx i.toNat)) r = some (.lst fs) := by rw [upd_ne (Ne.symm npr)]; exact hfd
    refine ⟨r, fs, y, rfl, rfl, hf2, sz_lt (by omega), ?_⟩
    have t1 : Tx Hd (L2.upd Hd p (.lst (ws.eraseIdx i.toNat))) := Tx.lst hwd
    have t2 : Tx (L2.upd Hd p (.lst (ws.eraseIdx i.toNat))) (L2.upd (L2.upd Hd p (.lst (ws.eraseIdx i.toNat))) r (.lst (fs ++ [y]))) := Tx.lst hf2
    have fer : Flt1 (es.eraseIdx i.toNat) := fun d hd => fe d (List.mem_of_mem_eraseIdx hd)
    have fy := fe (es[i.toNat]) (List.getElem_mem hi)
    refine ⟨(es.eraseIdx i.toNat).length, by rw [List.length_eraseIdx_of_lt hi]; omega, es.eraseIdx i.toNat, gs ++ [es[i.toNat]], ws.eraseIdx i.toNat, fs ++ [y], rfl, by rw [upd_ne npr]; exact upd_same, dpa_tx (t1.trans t2) _ _ (immAll_flt fer) (dpa_erase _ hdwd), upd_same,
      dpa_app (dpa_tx (t1.trans t2) _ _ (immAll_flt fg) hdfd) (.cons (dp_tx (t1.trans t2) _ _ fy.1 dy) .nil), ?_, ?_, Xp.upd (Xp.upd (x1.trans fun b o ho hn => xbd b o ho fun hm => hn (by simp at hm ⊢; rcases hm with h | h <;> simp [h])) (by simp)) (by simp), rfl⟩
    · refine List.Perm.trans ?_ pm
      rw [← List.append_assoc]
      refine (List.perm_append_singleton _ _).trans ?_
      rw [← List.cons_append]
      exact (erase_perm hi).append_right gs
    · exact stk_mono (by rw [List.length_append]; simp; omega) (stk_upd (stk_upd sd n1) n2)

end
end K16
set_option Elab.async false
set_option linter.all false
set_option maxRecDepth 100000
set_option maxHeartbeats 4000000
namespace K16
open PySem PySem.Spec PyProof.Rows L2 Evl DL
local macro_rules | `(tactic| walk_at "dl") => `(tactic| first
  | exact ev_c | exact ev_var rfl | exact eda_nil
  | exact ed_var rfl (by assumption)
  | exact ed_int ev_c | exact ed_int (ev_var rfl)
  | (refine eda_cons ?_ ?_ <;> walk_at "dl")
  | (refine ed_int ?_; walk_at "dl")
  | (refine ev_op ?_ ?_ rv_I0 <;> walk_at "dl"))
theorem lpr_prs (s : Int) : lpr s = (prs s).map pD := by
  unfold lpr prs
  rw [List.map_flatMap]
  simp only [List.map_map]
  rfl

section
variable {K : PySem.W.Frag} {σ : L2.St} {H : Hp} {ta tb te : TE} {tt : L2.TT} {ds : List PyData} {D : Ends} {tz : TS}
theorem en_ifQ {b : Bool} (h : EvT tt σ H b) (h1 : b = true → EvQ K ta σ H ds) (h2 : b = false → EvQ K tb σ H ds) : EvQ K (tIf tt ta tb) σ H ds := fun H1 e Q q => h H1 e _ fun H2 e2 => by
  cases b with
  | true => exact h1 rfl H2 (e.trans e2) _ fun p vs H3 e3 h3 hd => q p vs H3 (e2.trans e3) h3 hd
  | false => exact h2 rfl H2 (e.trans e2) _ fun p vs H3 e3 h3 hd => q p vs H3 (e2.trans e3) h3 hd
theorem evq_varN {i : Nat} {p : Addr} {vs : List V} (hi : σ[i]? = some (some (.ref p))) (hp : H p = some (.lst vs)) (hd : DpAll K H vs ds) : EvQ K (tVar i) σ H ds := fun H1 e Q q => ⟨.ref p, hi, q p vs H1 (Ex.refl _) (e _ _ hp) (dpa_ex e _ _ hd)⟩
theorem qq_asg {k : Nat} (h : EvQ K te σ H ds) (q : ∀ p vs H1, Ex H H1 → H1 p = some (.lst vs) → DpAll K H1 vs ds → tz D (σ.set k (some (.ref p))) H1) : tSeq (tAsg te (gName k)) tz D σ H := h H (Ex.refl H) _ q
theorem en_listRg {n : Int} (h : Ev te σ H (.int n)) (h0 : 0 ≤ n) (h1 : n ≤ 1000) : EvN K (tLstRg (tRg1 te)) σ H (dI ((List.range n.toNat).map fun (i : Nat) => (i : Int))) := fun H1 e Q q => h H1 e _ fun H2 e2 => ⟨n, rfl, RgOk.of_le (by decide) (by omega) (by decide) h0, fun p hp => by
  have ev : rgV 0 n = ((List.range n.toNat).map fun (i : Nat) => (i : Int)).map V.int := by
    unfold rgV
    rw [List.map_map, Int.sub_zero]
    refine List.map_congr_left fun i _ => ?_
    show V.int (0 + (i : Int)) = V.int (i : Int)
    rw [Int.zero_add]
  rw [ev]
  exact q p _ _ (fresh_back e2 hp) (e2.trans (Ex.new hp)) upd_same (ints_dpa _)⟩
end
def endsJ (fs : Str) (m t : Int) : List Int := if decide (V.str fs = V.str (Str.ofString "crossed")) = true then [mateF t m] else if decide (V.str fs = V.str (Str.ofString "full")) = true then (List.range m.toNat).map (fun (i : Nat) => (i : Int)) else [t]
def rowJ (fs : Str) (m : Int) (q : Int × Int) (t : Int) : List Sw := (endsJ fs m t).map fun e => ((q.1, t), (q.2, e))
def rawJ (s m : Int) (fs : Str) : List Sw := (prs s).flatMap fun q => (List.range m.toNat).flatMap fun (t : Nat) => rowJ fs m q (t : Int)
def R_law_joined (ds : List PyData) (r : List PyData) : Prop := ∃ (s m : Int) (fs : Str), ds = [.int s, .int m, .str fs] ∧ 2 ≤ s ∧ s ≤ 5 ∧ 1 ≤ m ∧ m ≤ 6 ∧ r = ((rawJ s m fs).map swD).mergeSort leD
theorem endsJ_len {fs : Str} {m t : Int} (h : m ≤ 6) : (endsJ fs m t).length ≤ 6 := by
  unfold endsJ
  split
  · simp
  · split
    · simp
      omega
    · simp
theorem rowJ_data (fs : Str) (m : Int) (q : Int × Int) (t : Int) : (List.range (dI (endsJ fs m t)).length).map (fun i => swD ((q.1, t), (q.2, (endsJ fs m t).getD i 0))) = (rowJ fs m q t).map swD := by
  unfold rowJ
  rw [dI, List.length_map, List.map_map]
  refine List.ext_getElem (by simp) fun i h1 h2 => ?_
  have hi : i < (endsJ fs m t).length := by simpa using h1
  rw [List.getElem_map, List.getElem_range, List.getElem_map, List.getD_eq_getElem?_getD, List.getElem?_eq_getElem hi]
  rfl
theorem rowJ_len {fs : Str} {m t : Int} {q : Int × Int} (h : m ≤ 6) : (rowJ fs m q t).length ≤ 6 := by
  unfold rowJ
  rw [List.length_map]
  exact endsJ_len h
theorem flat_len {α : Type} {f : α → List Sw} {c : Nat} (h : ∀ a, (f a).length ≤ c) : ∀ (l : List α), (l.flatMap f).length ≤ l.length * c
  | [] => by simp
  | a :: l => by
    have := flat_len h l
    have := h a
    rw [List.flatMap_cons, List.length_append, List.length_cons, Nat.add_mul]
    omega
section
variable {P : Program} {w : World} {K : PySem.W.Frag} {mg : Str → Option Value} {base : Heap}
abbrev s__law_joined : Stmt := topS 45
abbrev N__law_joined : List Str := ["_law_sides_here", "_law_many", "_law_fashion", "_law_found", "_law_one", "_law_other", "_law_track", "_law_far", "_law_end"]
theorem sc__law_joined : FnScope N__law_joined ["_law_sides_here", "_law_many", "_law_fashion"] (defScope s__law_joined) := ⟨rfl, rfl, rfl, by decide +kernel, rfl, by decide +kernel, by decide +kernel⟩
theorem ok__law_joined {f : Addr} {fd : FuncData} (F : Fun K "_law_joined" "_law_joined" s__law_joined f fd) (T : Txt mg)
    (D__law_mate : DF P w K mg base "_law_mate" 1 ["_law_track", "_law_many"] (spD K 2 R_law_mate)) (D__law_pairs : DF P w K mg base "_law_pairs" 1 ["_law_sides_here"] (spN K 1 R_law_pairs))  :
    FnOk P w K mg base CX0 2 f fd ["_law_sides_here", "_law_many", "_law_fashion"] (spN K 3 R_law_joined) := by
  refine F.ok sc__law_joined (fun vs H Q E h => spN_len h) (fun cdv A outer s H vs Q E hr h => ?_)
  obtain ⟨ds, r, hd, _, ⟨s, m, fs, rfl, h1, h2, m1, m3, rfl⟩, k⟩ := h
  obtain ⟨v0, v1, v2, rfl, d0, d1, d2⟩ := dpa_three hd
  cases dp_int d0
  cases dp_int d1
  cases d2
  refine ⟨_, (pss_cons (ps_set (i := 3) sc__law_joined.nd rfl (.inl rfl) (pe_lst pa_nil))
      (pss_cons (ps_for PassesOwn.never rfl (pi_list (pe_D D__law_pairs (hr.mono (by decide)) (by rfl) (pa_cons (pv 0) pa_nil))) (pg_tup rfl (pgs_cons (pg_name (i := 4) sc__law_joined.nd rfl (Or.inr rfl)) (pgs_cons (pg_name (i := 5) sc__law_joined.nd rfl (Or.inr rfl)) pgs_nil))) (pss_one (ps_for PassesOwn.never rfl (pi_range1 (by rfl) T.b_range (pa_cons (pv 1) pa_nil)) (pg_name (i := 6) sc__law_joined.nd rfl (Or.inr rfl)) (pss_cons (ps_set (i := 7) sc__law_joined.nd rfl (.inl rfl) (pe_ifExp (pt_cmpR op_eq (pv 2) pe_str (nomark _)) (pe_listRg rfl (by rfl) T.b_list (prg_1 (by rfl) T.b_range (pv 1))) (pe_lst (pa_cons (pv 6) pa_nil))))
      (pss_cons (ps_set (i := 7) sc__law_joined.nd rfl (.inl rfl) (pe_ifExp (pt_cmpR op_eq (pv 2) pe_str (nomark _)) (pe_lst (pa_cons (pe_D D__law_mate (hr.mono (by decide)) (by rfl) (pa_cons (pv 6) (pa_cons (pv 1) pa_nil))) pa_nil)) (pv 7)))
      (pss_one (ps_set (i := 3) sc__law_joined.nd rfl (.inl rfl) (pe_op op_cat (pv 3) (pe_lc (own := [("_law_end", 8)]) (g := (gName 8)) (tt := tYes) rfl sc__law_joined.nd (pi_list (pv 7)) (blkOk_by (N := N__law_joined) (sc := defScope s__law_joined) (by decide +kernel)) (fun _ _ _ _ _ => (pg_name (i := 8) sc__law_joined.nd rfl (Or.inl rfl))) (fun _ _ _ _ _ => pts_nil) (fun _ _ _ _ _ => (pe_tup (pa_cons (pe_tup (pa_cons (pv 4) (pa_cons (pv 6) pa_nil))) (pa_cons (pe_tup (pa_cons (pv 5) (pa_cons (pv 8) pa_nil))) pa_nil)))))))))))))
      (pss_one (ps_ret (pe_callB (cr_sortedD (hu64 hr)) (by rfl) T.b_sorted (by decide +kernel) (pa_cons (pv 3) pa_nil)))))), ?_⟩
  have lp := lpr_len h1 h2
  refine qn_asg (K := K) (en_lst eda_nil (by simp)) fun p0 w0 H1 hp0 e1 h1' hd1 => ?_
  cases hd1
  refine e_for (K := K) (S := []) (ei_lstD (ds := lpr s) (EvN.toD (en_call (R := R_law_pairs) (ds := [.int s]) (eda_cons (ed_int (ev_var rfl)) eda_nil) rfl ⟨s, rfl, h1, h2, rfl⟩)) (lpr_imm s)) (fun H2 i σ' Ha => Ex H2 Ha ∧ ∃ p vs, H p = none ∧ Ha p = some (.lst vs) ∧ DpAll K Ha vs ((((prs s).take i).flatMap fun q => (List.range m.toNat).flatMap fun (t : Nat) => rowJ fs m q (t : Int)).map swD) ∧ ∃ a b c d e, σ' = [some (.int s), some (.int m), some (.str fs), some (.ref p), a, b, c, d, e])
    (fun H2 e2 => ⟨Ex.refl _, p0, _, hp0, e2 _ _ h1', by simpa using .nil, none, none, none, none, none, rfl⟩) (fun H2 i σ' Ha _ z => Xp.of_ex z.1) ?_ ?_
  · rintro H2 i d y σ' Ha Hb e2 hg ⟨x2, p, vs, hp, hv, hdv, a, b, c, d', e, rfl⟩ e3 hy
    rw [lpr_prs, List.getElem?_map] at hg
    cases hi : (prs s)[i]? with
    | none => rw [hi] at hg; cases hg
    | some q =>
      rw [hi] at hg
      cases hg
      have ilt : i < np s := (List.getElem?_eq_some_iff.mp hi).1
      have tk : ((prs s).take (i + 1)).flatMap (fun q => (List.range m.toNat).flatMap fun (t : Nat) => rowJ fs m q (t : Int)) = ((prs s).take i).flatMap (fun q => (List.range m.toNat).flatMap fun (t : Nat) => rowJ fs m q (t : Int)) ++ (List.range m.toNat).flatMap fun (t : Nat) => rowJ fs m q (t : Int) := by
        rw [List.take_succ, hi]
        simp [List.flatMap_append]
      have lenO : (((prs s).take i).flatMap fun q => (List.range m.toNat).flatMap fun (t : Nat) => rowJ fs m q (t : Int)).length ≤ 360 := by
        have q1 := flat_len (c := 36) (f := fun q : Int × Int => (List.range m.toNat).flatMap fun (t : Nat) => rowJ fs m q (t : Int)) (fun q => by
          have q2 := flat_len (c := 6) (f := fun (t : Nat) => rowJ fs m q (t : Int)) (fun t => rowJ_len m3) (List.range m.toNat)
          rw [List.length_range] at q2
          exact Nat.le_trans q2 (by omega)) ((prs s).take i)
        rw [List.length_take] at q1
        have : (prs s).length ≤ 10 := lp.2
        omega
      generalize ((prs s).take i).flatMap (fun q => (List.range m.toNat).flatMap fun (t : Nat) => rowJ fs m q (t : Int)) = A at *
      refine g_two hy fun w1 w2 u1 u2 => ?_
      cases dp_int u1
      cases dp_int u2
      have hv := e3 _ _ hv
      have hdv := dpa_ex e3 _ _ hdv
      refine d_for (K := K) (S := []) (ei_rng1 (n := m) (eda_cons (ed_int (ev_var rfl)) eda_nil) (by omega)) (fun H4 j σ' Ha => Ex H4 Ha ∧ ∃ p vs, H p = none ∧ Ha p = some (.lst vs) ∧ DpAll K Ha vs ((A ++ (List.range j).flatMap fun (t : Nat) => rowJ fs m q (t : Int)).map swD) ∧ ∃ x6 x7 x8, σ' = [some (.int s), some (.int m), some (.str fs), some (.ref p), some (.int q.1), some (.int q.2), x6, x7, x8])
        (fun H4 e4 => ⟨Ex.refl _, p, vs, hp, e4 _ _ hv, by simpa using dpa_ex e4 _ _ hdv, c, d', e, rfl⟩) (fun H4 j σ' Ha _ z => Xp.of_ex z.1) ?_ ?_
      · rintro H4 j d y σ' Hc Hd e4 hg ⟨x4, p, vs, hp, hv, hdv, x6, x7, x8, rfl⟩ e5 hy
        have hj : j < m.toNat := by have := (List.getElem?_eq_some_iff.mp hg).1; simpa using this
        rw [rng_get hj] at hg
        cases hg
        cases dp_int hy
        have hv := e5 _ _ hv
        have hdv := dpa_ex e5 _ _ hdv
        show tSeq _ _ _ [some (.int s), some (.int m), some (.str fs), some (.ref p), some (.int q.1), some (.int q.2), some (.int (j : Int)), x7, x8] Hd
        refine qq_asg (K := K) (ds := dI (if decide (V.str fs = V.str (Str.ofString "full")) = true then (List.range m.toNat).map (fun (i : Nat) => (i : Int)) else [(j : Int)])) (en_ifQ (et_test (ev_op (ev_var rfl) ev_c (rv_eq rfl))) (fun hb => by rw [if_pos hb]; exact EvN.toQ (en_listRg (ev_var rfl) (by omega) (by omega))) (fun hb => by rw [if_neg (by rw [hb]; exact Bool.noConfusion)]; exact EvN.toQ (en_lst (eda_cons (ed_int (ev_var rfl)) eda_nil) (by simp)))) fun pf wf He ee hf hdf => ?_
        refine qq_asg (K := K) (ds := dI (endsJ fs m (j : Int))) (en_ifQ (et_test (ev_op (ev_var rfl) ev_c (rv_eq rfl))) (fun hb => by unfold endsJ; rw [if_pos hb]; exact EvN.toQ (en_lst (eda_cons (ed_call (R := R_law_mate) (ds := [.int (j : Int), .int m]) (eda_cons (ed_int (ev_var rfl)) (eda_cons (ed_int (ev_var rfl)) eda_nil)) rfl ⟨_, _, rfl, rfl⟩) eda_nil) (by simp))) (fun hb => by unfold endsJ; rw [if_neg (by rw [hb]; exact Bool.noConfusion)]; exact evq_varN rfl hf hdf)) fun pg wg Hf ef hg2 hdg => ?_
        have hv := (ee.trans ef) _ _ hv
        have hdv := dpa_ex (ee.trans ef) _ _ hdv
        have el := endsJ_len (fs := fs) (t := (j : Int)) m3
        have il : immAll (dI (endsJ fs m (j : Int))) = true := immAll_flt fun d hd => by
          obtain ⟨z, _, rfl⟩ := List.mem_map.mp hd
          exact ⟨rfl, by simp [PyData.canLay0], by simp [PyData.depth]⟩
        have lA : ((A ++ (List.range j).flatMap fun (t : Nat) => rowJ fs m q (t : Int)).map swD).length ≤ 400 := by
          rw [List.length_map, List.length_append]
          have q2 := flat_len (c := 6) (f := fun (t : Nat) => rowJ fs m q (t : Int)) (fun t => rowJ_len m3) (List.range j)
          rw [List.length_range] at q2
          omega
        refine (en_cat (K := K) (evq_varN (i := 3) rfl hv hdv) (EvN.toQ (en_is (en_lc (ei_lstD (ds := dI (endsJ fs m (j : Int))) (ed_var (k := 7) (v := .ref pg) rfl (.lst (sq_of hg2) hdg)) il) (by rw [dI, List.length_map]; omega) (fun i => swD ((q.1, (j : Int)), (q.2, (endsJ fs m (j : Int)).getD i 0))) (fun _ _ => imm_sw _) fun H9 i d x Hb' Q' e9 hg3 e10 hx kk => ?_) (rowJ_data fs m q (j : Int)))) (by rw [List.length_map (f := swD) (as := rowJ _ _ _ _)]; have := rowJ_len (fs := fs) (t := (j : Int)) (q := q) m3; omega)) Hf (Ex.refl _) _ fun p' vs' Hg hp' eg hg' hdg' => ?_
        · rw [dI, List.getElem?_map] at hg3
          cases hz : (endsJ fs m (j : Int))[i]? with
          | none => rw [hz] at hg3; cases hg3
          | some z =>
            rw [hz] at hg3
            cases hg3
            cases dp_int hx
            have gz : (endsJ fs m (j : Int)).getD i 0 = z := by rw [List.getD_eq_getElem?_getD, hz]; rfl
            rw [gz] at kk
            exact kk _ Hb' (Ex.refl _) rfl (ed_tup (eda_cons (ed_tup (eda_cons (ed_int (ev_var rfl)) (eda_cons (ed_int (ev_var rfl)) eda_nil)) (by simp)) (eda_cons (ed_tup (eda_cons (ed_int (ev_var rfl)) (eda_cons (ed_int (ev_var rfl)) eda_nil)) (by simp)) eda_nil)) (by simp))
        · refine ⟨((x4.trans e5).trans (ee.trans ef)).trans eg, p', vs', fresh_back ((((((e1.trans e2).trans x2).trans e3).trans e4).trans x4).trans ((e5.trans ee).trans ef)) hp', hg', ?_, _, _, _, rfl⟩
          rw [List.range_succ, List.flatMap_append, ← List.append_assoc, List.map_append (l₂ := List.flatMap _ [j])]
          simpa using hdg'
      · rintro H4 σ' Hc e4 ⟨x4, p, vs, hp, hv, hdv, x6, x7, x8, rfl⟩
        rw [List.length_map, List.length_range] at hdv
        refine ⟨((x2.trans e3).trans e4).trans x4, p, vs, hp, hv, ?_, _, _, _, _, _, rfl⟩
        rw [tk]
        exact hdv
  · rintro H2 σ' Ha e2 ⟨x2, p, vs, hp, hv, hdv, a, b, c, d, e, rfl⟩
    have fin : (lpr s).length = (prs s).length := by rw [lpr_prs, List.length_map]
    rw [fin, List.take_of_length_le (Nat.le_refl _)] at hdv
    have e12 := (e1.trans e2).trans x2
    have hz : (rawJ s m fs).length ≤ 1000 := by
      have q1 := flat_len (c := 36) (f := fun q : Int × Int => (List.range m.toNat).flatMap fun (t : Nat) => rowJ fs m q (t : Int)) (fun q => by
        have q2 := flat_len (c := 6) (f := fun (t : Nat) => rowJ fs m q (t : Int)) (fun t => rowJ_len m3) (List.range m.toNat)
        rw [List.length_range] at q2
        exact Nat.le_trans q2 (by omega)) (prs s)
      have : (prs s).length ≤ 10 := lp.2
      unfold rawJ
      omega
    refine en_sortedD (K := K) (ds := (rawJ s m fs).map swD) (ed_var (k := 3) (v := .ref p) rfl (.lst (sq_of hv) hdv)) (row_sw (ws := rawJ s m fs) hz).1 (.inl ?_) (fun d hd => ((row_sw (ws := rawJ s m fs) hz).2.1 d hd).2) Ha (Ex.refl _) _ fun p' vs' Hb hp' eb hb' hdb => ?_
    · intro d hd
      obtain ⟨u, _, rfl⟩ := List.mem_map.mp hd
      exact ⟨_, _, rfl⟩
    · exact k p' vs' Hb (fresh_back e12 hp') (e12.trans eb) hb' hdb

end
end K16
set_option Elab.async false
set_option linter.all false
set_option maxRecDepth 100000
set_option maxHeartbeats 4000000
/-! switches sorted; the boxes that the law draws -/
namespace K16
open PySem PySem.Spec PyProof.Rows L2 Evl DL
open PySem.W (dataLt dataLe)
theorem lt_pD (p q : Int × Int) : dataLt (pD p) (pD q) = decide (p.1 < q.1 ∨ (p.1 = q.1 ∧ p.2 < q.2)) := PySem.W.dataLt_ii _ _ _ _
theorem eqv_pD (p q : Int × Int) : PyData.eqv (pD p) (pD q) = decide (p = q) := by
  show PyData.eqv (tI [p.1, p.2]) (tI [q.1, q.2]) = _
  rw [eqv_tI, Bool.eq_iff_iff]
  simp [Prod.ext_iff]
theorem lt_swD (a b : Sw) : dataLt (swD a) (swD b) = if a.1 = b.1 then (if a.2 = b.2 then false else dataLt (pD a.2) (pD b.2)) else dataLt (pD a.1) (pD b.1) := by
  show dataLt (.tuple [pD a.1, pD a.2]) (.tuple [pD b.1, pD b.2]) = _
  rw [PySem.W.dataLt_pair rfl rfl, eqv_pD, eqv_pD]
  simp
theorem sw_tri {a b : Sw} (h : dataLt (swD b) (swD a) = false) (n : a ≠ b) : dataLt (swD a) (swD b) = true := by
  obtain ⟨⟨a1, a2⟩, ⟨a3, a4⟩⟩ := a
  obtain ⟨⟨b1, b2⟩, ⟨b3, b4⟩⟩ := b
  rw [lt_swD] at h ⊢
  simp only [lt_pD, Prod.mk.injEq] at h ⊢
  have n' : ¬ (((a1 = b1 ∧ a2 = b2)) ∧ a3 = b3 ∧ a4 = b4) := fun z => n (by obtain ⟨⟨rfl, rfl⟩, rfl, rfl⟩ := z; rfl)
  by_cases e1 : a1 = b1 ∧ a2 = b2
  · rw [if_pos e1]
    rw [if_pos ⟨e1.1.symm, e1.2.symm⟩] at h
    have e2 : ¬ (a3 = b3 ∧ a4 = b4) := fun z => n' ⟨e1, z⟩
    rw [if_neg e2]
    rw [if_neg fun z => e2 ⟨z.1.symm, z.2.symm⟩] at h
    have h := of_decide_eq_false h
    exact decide_eq_true (by omega)
  · rw [if_neg e1]
    rw [if_neg fun z => e1 ⟨z.1.symm, z.2.symm⟩] at h
    have h := of_decide_eq_false h
    exact decide_eq_true (by omega)
def srt (us : List Sw) : List Sw := us.mergeSort fun a b => leD (swD a) (swD b)
theorem srt_data (us : List Sw) : (us.map swD).mergeSort leD = (srt us).map swD := (List.map_mergeSort (r := fun a b => leD (swD a) (swD b)) (s := leD) (f := swD) (fun _ _ _ _ => rfl)).symm
theorem srt_perm (us : List Sw) : (srt us).Perm us := List.mergeSort_perm _ _
theorem srt_rise {us : List Sw} (nd : us.Nodup) : risesD ((srt us).map swD) = true := by
  have tot := PySem.W.sortLe_total (listOrd itemOrd) false (fun u : Sw => PySem.W.keyToks (swD u))
  have pw : (srt us).Pairwise (fun a b => leD (swD a) (swD b) = true) := List.pairwise_mergeSort (fun a b c h1 h2 => tot.trans a b c h1 h2) (fun a b => by
    exact Bool.or_eq_true _ _ ▸ tot.total a b) us
  have nd2 : (srt us).Nodup := (srt_perm us).nodup_iff.mpr nd
  refine rises_yes fun i a b h1 h2 => ?_
  rw [List.getElem?_map] at h1 h2
  obtain ⟨u, g1, rfl⟩ := Option.map_eq_some_iff.mp h1
  obtain ⟨v, g2, rfl⟩ := Option.map_eq_some_iff.mp h2
  obtain ⟨l1, e1⟩ := List.getElem?_eq_some_iff.mp g1
  obtain ⟨l2, e2⟩ := List.getElem?_eq_some_iff.mp g2
  have le := List.pairwise_iff_getElem.mp pw i (i + 1) l1 l2 (by omega)
  rw [e1, e2] at le
  have ne : u ≠ v := fun z => by
    have e3 : (srt us)[i] = (srt us)[i + 1] := e1.trans (z.trans e2.symm)
    have := (List.getElem_inj nd2).mp e3
    omega
  exact sw_tri (by simpa [leD] using le) ne

/-- the sides and tracks that are drawn -/
def scopes : List (Int × Int) := [(2, 2), (3, 2), (3, 2), (3, 3), (4, 2), (2, 3), (4, 1), (5, 1), (3, 1)]
def fashs : List Str := [Str.ofString "plain", Str.ofString "crossed", Str.ofString "full"]
def okSwB (s t : Int) (u : Sw) : Bool := decide (0 ≤ u.1.1) && (decide (u.1.1 < u.2.1) && (decide (u.2.1 < s) && (decide (0 ≤ u.1.2) && (decide (u.1.2 < t) && (decide (0 ≤ u.2.2) && decide (u.2.2 < t))))))
theorem okSwB_ok {s t : Int} {u : Sw} (h : okSwB s t u = true) : SwOk s t u := by
  simp only [okSwB, Bool.and_eq_true, decide_eq_true_eq] at h
  exact h
theorem raw_chk : (scopes.all fun q => fashs.all fun f => decide (rawJ q.1 q.2 f).Nodup && ((rawJ q.1 q.2 f).all (okSwB q.1 q.2) && (!(rawJ q.1 q.2 f).isEmpty && decide ((rawJ q.1 q.2 f).length ≤ 40)))) = true := by decide +kernel
theorem raw_ok {q : Int × Int} {f : Str} (h1 : q ∈ scopes) (h2 : f ∈ fashs) : (rawJ q.1 q.2 f).Nodup ∧ (∀ u ∈ rawJ q.1 q.2 f, SwOk q.1 q.2 u) ∧ rawJ q.1 q.2 f ≠ [] ∧ (rawJ q.1 q.2 f).length ≤ 40 := by
  have h := List.all_eq_true.mp (List.all_eq_true.mp raw_chk q h1) f h2
  rw [Bool.and_eq_true, Bool.and_eq_true, Bool.and_eq_true, decide_eq_true_eq, decide_eq_true_eq, List.all_eq_true] at h
  refine ⟨h.1, fun u hu => okSwB_ok (h.2.1 u hu), fun z => ?_, h.2.2.2⟩
  have := h.2.2.1
  rw [z] at this
  cases this
end K16
set_option Elab.async false
set_option linter.all false
set_option maxRecDepth 100000
set_option maxHeartbeats 4000000
/-! sum of a tuple; sorted(d, reverse=b) of a dict whose keys are ints -/
namespace DL
open PySem PySem.Spec PyProof.Rows L2 Evl Calls
theorem ints_at : ∀ {us : List Value} {ms : List Int}, IntsAre us ms → ∀ {i : Nat} {v : Value}, us[i]? = some v → ∃ t, v = .int (ms.getD i 0) t := by
  intro us ms hh
  induction hh with
  | nil => intro i v e; simp at e
  | cons n t _ ih =>
    intro i v e
    cases i with
    | zero => exact ⟨t, by simpa using e.symm⟩
    | succ i =>
      obtain ⟨t', q⟩ := ih (i := i) (v := v) (by simpa using e)
      exact ⟨t', by simpa using q⟩
theorem pre_sum (ns : List Int) : ∀ j, j ≤ ns.length → preSum (fun i => ns.getD i 0) j = (ns.take j).sum
  | 0, _ => by simp [preSum]
  | j + 1, h => by
    rw [preSum, pre_sum ns j (by omega), List.take_add_one, List.getD_eq_getElem?_getD, List.getElem?_eq_getElem (show j < ns.length by omega), List.sum_append]
    simp
section
variable {prog : Program} {w : World} {A : Around} {E : Value → Shared → Prop} {s : Shared} {l : Addr} {its : List Value} {ns : List Int} {Q : Value → Shared → Prop}
theorem sum_rawT (hh : A.handled = none) (hl : s.heap.IsTuple l its.toArray) (hi : IntsAre its ns)
    (h : ∀ h' tk t', (∀ b o, s.heap.get? b = some o → h'.get? b = some o) → Q (.int ns.sum t') { s with heap := h', toks := tk }) : wpAny (model prog w) A (call (.builtin "sum") [.ref l]) Q E s := by
  have len : its.length = ns.length := hi.length
  have there : l < s.heap.objs.size := by
    obtain ⟨o, ho, _⟩ := hl
    exact Heap.lt_size ho
  refine call_sum_walkG (wpAny_pyIter_tuple hl ?_)
  refine ⟨s.heap.objs.size, _, _, _, _, _, fun i => ns.getD i 0, rfl, Walks.tuple (A := A.in1) hh _ l (Nat.ne_of_lt there) its.toArray, ⟨⟨_, Heap.get?_push_size _ rfl, rfl, rfl⟩, Heap.IsTuple.push hl _⟩, fun b hb => ?_, fun i v hv => ints_at hi (by simpa using hv), fun h' tk t' hk => ?_⟩
  · show b < (s.heap.push _).objs.size
    rw [Heap.size_push]
    simp only [List.mem_cons, List.not_mem_nil, or_false] at hb
    rcases hb with z | z
    · rw [z]; exact Nat.lt_succ_self _
    · rw [z]; exact Nat.lt_succ_of_lt there
  · have q := h h' tk t' fun b o e => hk b o (fun hm => by
      have := Heap.lt_size e
      simp only [List.mem_cons, List.not_mem_nil, or_false] at hm
      rw [hm] at this
      exact Nat.lt_irrefl _ this) (Heap.get?_push_of_some _ e)
    rw [pre_sum ns _ (by rw [List.size_toArray, len]; exact Nat.le_refl _), List.take_of_length_le (by rw [List.size_toArray, len]; exact Nat.le_refl _)]
    exact q
end
section
variable {X : Cx}
def rSumT (K : PySem.W.Frag) : List V → Hp → VK → Prop := fun vs H Q => ∃ (a : Addr) (ns : List Int), vs = [V.ref a] ∧ SqT K H a (ns.map V.int) ∧ Q (.int ns.sum) H
theorem cr_sumT (hc : X.calm = true) : CallR X (.builtin "sum") (rSumT X.K) := by
  intro pins s σ H vs us Q I r h
  obtain ⟨a, ns, rfl, hs, q⟩ := h
  obtain ⟨its, rv, hl, _⟩ := I.tuple hs
  rw [Vals.ref1 r]
  exact sum_rawT (I.ok.hd hc) (show s.heap.IsTuple a its.toArray from hl) rv.ints fun h' tk t' hk => ⟨.int _, H, I.kept hk, ⟨_, rfl⟩, q⟩
/-- sorted(d, reverse=b): d's keys are ints -/
def rSortDR (b : Bool) : List V → List V → Hp → VK → Prop := fun vs zs H Q => ∃ (a : Addr) (kvs : List (Key × V)) (ks : List Int), vs = [V.ref a] ∧ zs = [.bl b] ∧ Rd H a (.dK kvs) ∧ kvs.map (·.1) = ks.map Sum.inl ∧ ks.length < 1000 ∧
  ∀ (ys : List Int) (p : Addr), ys.Perm ks → OrdB b ys → H p = none → Q (.ref p) (upd H p (.lst (ys.map V.int)))
theorem cr_sortDR {b : Bool} (hc : X.calm = true) : CallRK X (.builtin "sorted") [Str.ofString "reverse"] (rSortDR b) := by
  intro pins s σ H vs zs us ws Q I r rz h
  obtain ⟨a, kvs, ks, rfl, rfl, hd, hks, few, q⟩ := h
  obtain rfl := Vals.ref1 r
  obtain ⟨w1, rfl, e1⟩ := vals1 rz
  obtain rfl : w1 = Value.bool b := e1
  obtain ⟨z, lo, es, rel, dd⟩ := dk_rd I.hok hd
  obtain ⟨ep, hat⟩ := dd.dictAt
  have keys : es.map (·.1) = ks.map Sum.inl := rel.keys.symm.trans hks
  have len : es.length = ks.length := by
    have e := congrArg List.length keys
    rwa [List.length_map, List.length_map] at e
  have line := sizeLine_eq
  refine call_function_entry_kw PyProof.Rows.kind_sorted PyProof.Rows.plain_sorted PyProof.Rows.entry_sorted (PyProof.Rows.args_sorted_rev _ _) ?_
  unfold Builtin.«sorted»
  refine wpAny_bind (m := checkCount "sorted" 1 1 _) (wpAny_pure ?_)
  refine wpAny_bind (PySem.W.kdu_collect (A := X.A.in1) (PySem.W.kdl_dict (knd := mixKind X.prog X.w) (kvs := es) (ep := ep) lo) (I.ok.hd hc) hat (by omega) fun g tk acc keep got => ?_)
  have la : acc.toList.length = ks.length := by rw [Array.length_toList, got.1, len]
  have allI : IntsAre acc.toList ks := ints_each la fun j v e => by
    obtain ⟨k, x, f1, f2⟩ := got.2 j v (by rw [← Array.getElem?_toList]; exact e)
    have f3 : (es.map (·.1))[j]? = some k := by rw [List.getElem?_map, f1]; rfl
    rw [keys, List.getElem?_map] at f3
    cases f4 : ks[j]? with
    | none => rw [f4] at f3; cases f3
    | some y =>
      rw [f4] at f3
      have f5 : Sum.inl y = k := Option.some.inj f3
      subst f5
      rcases keyIs_shape (show keyIs (Sum.inl y) v = true from f2) with ⟨i, t, ek, ev⟩ | ⟨z, t, ek, ev⟩
      · cases ek
        exact ⟨y, t, rfl, ev⟩
      · cases ek
  have J : Inv X pins σ H { s with heap := g, toks := tk } := I.kept keep
  refine wpAny_bind (wpAny_newList ?_ (by rw [la]; omega))
  have oL : (g.push (seqObj "list" acc.toList.toArray 0)).get? g.objs.size = some (seqObj "list" acc.toList.toArray 0) := Heap.get?_push_size _ rfl
  show wpAny _ _ _ _ _ { s with heap := g.push (seqObj "list" acc.toList.toArray 0), toks := tk }
  refine wpAny_bind (wpAny_holding (wpAny_call_entry_kw PyProof.Rows.slot_list_sort ⟨_, oL, rfl⟩ PyProof.Rows.entry_list_sort ?_ (PyProof.Rows.args_list_sort_rev _ _)))
  refine SrtR.list_sort_ordR (s := { s with heap := g.push (seqObj "list" acc.toList.toArray 0), toks := tk }) SrtO.swo_int oL (by rw [la]; omega) (fun two => SrtO.ints_sortable allI two) fun out o1 o2 => ⟨_, rfl, ?_⟩
  obtain ⟨ys, y1, y2, y3⟩ := SrtR.ints_outR allI o1 o2
  obtain ⟨e', he'⟩ := PyProof.Rows.sortedHeap_at (vs := acc.toList) (out := if b = true then out.toArray.reverse else out.toArray) oL
  have fit : (ys.map V.int).length ≤ sizeLine := by
    rw [List.length_map, y2.length_eq]
    omega
  have back : ((if b = true then out.toArray.reverse else out.toArray).toList).toArray = (if b = true then out.toArray.reverse else out.toArray) := by rw [Array.toArray_toList]
  refine wpAny_pure ⟨_, rfl, .ref g.objs.size, upd H g.objs.size (.lst (ys.map V.int)), J.laid (t' := tk) (fun c u e => ?_) (Nat.le_refl _) ⟨fit, _, e', vals_of_ints y1, by rw [back]; exact he'⟩, rfl, q ys _ y2 y3 (J.hok.fresh (Nat.le_refl _))⟩
  have old : c < g.objs.size := Heap.lt_size e
  rw [PyProof.Rows.sortedHeap_old (Nat.ne_of_lt old) (by rw [size_push']; exact Nat.lt_succ_of_lt old)]
  exact Heap.get?_push_of_some _ e
end
end DL
set_option Elab.async false
set_option linter.all false
set_option maxRecDepth 100000
set_option maxHeartbeats 4000000
/-! set(t), t a tuple of tuples of ints -/
namespace DL
open PySem PySem.Spec PyProof.Rows L2 Evl
section
variable {P : Program} {w : World} {A : Around} {s : Shared} {E : Value → Shared → Prop}
/-- the set as type.__new__ leaves it -/
abbrev set0 (w : World) : Obj := { cls := .type "set", dict := none, data := .set #[] 0 (.fresh 0 0 (!w.params.followText "set-order")) }
/-- the walk over the tuple, from set.update's loop on -/
theorem loop_tupT {l : Addr} {items : Array Value} (ks : List (Addr × List Int)) {R : Result → Shared → Prop} (hh : A.in1.handled = none) (hl : s.heap.IsTuple l items) (hit : items.toList = ks.map fun p => Value.ref p.1)
    (hk : ∀ p ∈ ks, IsT P w s.heap p.2 p.1) (hfew : ks.length < 64) (hu : A.in1.units < cLine)
    (h : ∀ s' L es ep t, s'.gens = s.gens → s'.drawn = s.drawn → s'.os = s.os → SetTR P w s'.heap s.heap.objs.size L es ep t → Got ks ks.length L → (∀ b o, s.heap.get? b = some o → s'.heap.get? b = some o) → R (.ok (.ret .none)) s') :
    codeAny (model P w) A (.builtin "set.update.loop" ⟨[.ref s.heap.objs.size, .ref (s.heap.push (set0 w)).objs.size], []⟩) R { s with heap := (s.heap.push (set0 w)).push { cls := .type "tuple_iterator", data := .fields #[.ref l, .int 0 0] } } := by
  have n : items.size = ks.length := by simpa using congrArg List.length hit
  obtain ⟨ol, hol, _⟩ := id hl
  have lS : l < s.heap.objs.size := Heap.lt_size hol
  have sz : (s.heap.push (set0 w)).objs.size = s.heap.objs.size + 1 := Heap.size_push ..
  have none_of : ∀ b, s.heap.objs.size ≤ b → s.heap.get? b = none := fun b hb => by
    cases q : s.heap.get? b with
    | none => rfl
    | some o => exact absurd (Nat.lt_of_lt_of_le (Heap.lt_size q) hb) (Nat.lt_irrefl _)
  have lI : l ≠ (s.heap.push (set0 w)).objs.size := by rw [sz]; exact Nat.ne_of_lt (Nat.lt_succ_of_lt lS)
  have at0 : ((s.heap.push (set0 w)).push { cls := .type "tuple_iterator", data := .fields #[.ref l, .int 0 0] }).get? s.heap.objs.size = some (set0 w) := Heap.get?_push_of_some _ (Heap.get?_push_size _ rfl)
  refine set_update_tups (n := items.size) ((Walks.tuple hh _ l lI items).toS) s.heap.objs.size ?_ ks n hfew (fun i v hv => ?_) s.heap hk (none_of _ (Nat.le_refl _)) (fun b hb => none_of b (by rw [List.mem_singleton.mp hb]; omega)) hu (items.size - 0) 0 _ (by omega) (Nat.zero_le _)
    ⟨⟨_, Heap.get?_push_size _ rfl, rfl, rfl⟩, (hl.push _).push _⟩ (fun b o e => Heap.get?_push_of_some _ (Heap.get?_push_of_some _ e)) ⟨[], #[], 0, _, setTR_fresh at0, Got.zero ks⟩ fun s' L es ep t hm hS g k => ?_
  · simp only [List.mem_cons, List.not_mem_nil, or_false, not_or]
    rw [sz]
    exact ⟨Nat.ne_of_lt (Nat.lt_succ_self _), Nat.ne_of_gt lS⟩
  · have q : items.toList[i]? = some v := by rw [Array.getElem?_toList]; exact hv
    rw [hit, List.getElem?_map] at q
    cases hq : ks[i]? with
    | none => rw [hq] at q; cases q
    | some p =>
      rw [hq] at q
      exact ⟨p, rfl, (Option.some.inj q).symm⟩
  · rw [n] at g
    exact h s' L es ep t hm.gens hm.drawn hm.os hS g k
theorem set_tupT {l : Addr} {items : Array Value} (ks : List (Addr × List Int)) {Q : Value → Shared → Prop} (hh : A.handled = none) (hl : s.heap.IsTuple l items) (hit : items.toList = ks.map fun p => Value.ref p.1)
    (hk : ∀ p ∈ ks, IsT P w s.heap p.2 p.1) (hfew : ks.length < 64) (hu : A.units + 3 < cLine)
    (h : ∀ (h' : Heap) (tk : Nat) L es ep t, SetTR P w h' s.heap.objs.size L es ep t → Got ks ks.length L → (∀ b o, s.heap.get? b = some o → h'.get? b = some o) → Q (.ref s.heap.objs.size) { s with heap := h', toks := tk }) :
    wpAny (model P w) A (call (.type "set") [.ref l]) Q E s := by
  obtain ⟨c, tl, hmro⟩ := F.called_set.mro
  have hmade := F.called_set.made
  have hsub := F.called_set.sub
  refine wpAny_call (codeAny_of_tree ?_)
  show wpAny _ _ (callAny (.type "set") _) _ _ _
  refine wpAny_pure ⟨Code.quiet_builtin _ (by decide +kernel), codeAny_builtin F.entry_type_call ?_⟩
  rw [Around.under_plain (weight_type_call_type "set" [.ref l] []) rfl]
  have h1 := F.called_set.notType
  have h2 := F.called_set.canCreate
  have hct := F.typeCall_set_1 (.ref l)
  repeat (any_goals (first | assumption | wp_step))
  refine codeAny_mono (code_set_led1 (.ref l) (E := E) (Q₁ := fun obj s₁ => obj = .ref s.heap.objs.size ∧ s₁ = { s with heap := s.heap.push (set0 w) }) ⟨rfl, rfl⟩) fun r s₁ hr => ?_
  cases r with
  | error e => exact hr
  | ok fl =>
    cases fl with
    | ret obj =>
      obtain ⟨rfl, rfl⟩ := hr
      have hT : Shared.TypeIs { s with heap := s.heap.push (set0 w) } (.ref s.heap.objs.size) "set" := ⟨_, Heap.get?_push_size _ rfl, rfl⟩
      have hli := F.called_set.init.lookup
      have hbi := F.called_set.init.bind (.ref s.heap.objs.size)
      repeat (any_goals (first | assumption | wp_step))
      refine codeAny_mono (codeAny_call_builtin (R := wants (fun r s₂ => r = .none ∧ ∃ h' tk L es ep t, s₂ = { s with heap := h', toks := tk } ∧ SetTR P w h' s.heap.objs.size L es ep t ∧ Got ks ks.length L ∧
          (∀ b o, s.heap.get? b = some o → h'.get? b = some o)) E) F.called_set.init.plain F.entry_set_init (check_set_init_1 hT ?_)) fun r₂ s₂ hr₂ => ?_
      · have hl0 := hl
        obtain ⟨ol, hol, hcl, nl, hdl⟩ := hl0
        obtain ⟨ocls, odict, odata, oslots⟩ := ol
        simp only at hcl hdl
        subst hcl; subst hdl
        have hol' : (s.heap.push (set0 w)).get? l = some { cls := .type "tuple", dict := odict, data := .seq items nl, slots := oslots } := Heap.get?_push_of_some _ hol
        have hsls := F.sub_tuple_set
        have hslf := F.sub_tuple_frozenset
        have hne : (Value.type "tuple" == Value.type "dict") = false := by decide
        have hl1 : (s.heap.push (set0 w)).IsTuple l items := ⟨_, hol', rfl, nl, rfl⟩
        unfold Builtin.«set.__init__» noKeywords Builtin.Frozenset.updateFrom
        generalize hPI : pyIter = PI
        wp_walk
        subst hPI
        refine wpAny_pyIter_tuple hl1 ?_
        refine wpAny_bind (wpAny_runValue ?_)
        refine loop_tupT (A := A.in1.in1) ks (by simp [hh]) hl hit hk hfew (show A.units + 3 < cLine from hu) fun s' L es ep t eg ed eo hS g k => ?_
        obtain ⟨h', g2, d', tk', os'⟩ := s'
        have eg : g2 = s.gens := eg
        have ed : d' = s.drawn := ed
        have eo : os' = s.os := eo
        subst eg; subst ed; subst eo
        show wpAny _ _ _ _ _ _
        refine wpAny_pure ?_
        show wpAny _ _ (ret Value.none) _ _ _
        exact wpAny_pure ⟨rfl, h', tk', L, es, ep, t, rfl, hS, g, k⟩
      · cases r₂ with
        | error e => exact hr₂
        | ok fl₂ =>
          cases fl₂ with
          | ret r =>
            obtain ⟨rfl, h', tk, L, es, ep, t, rfl, hS', g', hk'⟩ := hr₂
            repeat (any_goals (first | assumption | wp_step))
            exact h _ _ _ _ _ _ hS' g' hk'
          | _ => exact hr₂.elim
    | _ => exact hr.elim
end
section
variable {X : Cx}
/-- set(xs), xs a list or a tuple of tuples of ints -/
def rSetOfS (K : PySem.W.Frag) (P : Program) (w : World) : List V → Hp → VK → Prop := fun xs H Q => ∃ (l : Addr) (ks : List (Addr × List Int)), xs = [V.ref l] ∧ (SqL K H l (ks.map fun p => V.ref p.1) ∨ SqT K H l (ks.map fun p => V.ref p.1)) ∧ (∀ p ∈ ks, SqT K H p.1 (p.2.map V.int)) ∧ ks.length < 64 ∧
  ∀ a L, H a = none → (∀ p ∈ L, p ∈ ks) → (∀ p ∈ ks, p.2 ∈ L.map (·.2)) → Q (.ref a) (upd H a (SetTO P w a L))
theorem cr_setOfS (hc : X.calm = true) (hu : X.A.units + 64 < cLine) : CallR X (.type "set") (rSetOfS X.K X.prog X.w) := by
  intro pins s σ H xs us Q I r h
  obtain ⟨l, ks, rfl, hl | hl, hk, hf, q⟩ := h
  · exact cr_setOfT hc hu pins s σ H _ us Q I r ⟨l, ks, rfl, hl, hk, hf, q⟩
  · rw [Vals.ref1 r]
    obtain ⟨its, rv, pl, hz⟩ := I.tuple hl
    have hn : H s.heap.objs.size = none := I.hok.fresh (Nat.le_refl _)
    refine set_tupT (P := X.prog) (w := X.w) ks (I.ok.hd hc) pl (by simpa using refs_of_vals rv) (fun p hp => I.isT (hk p hp)) hf (by omega) fun h' tk L es ep t R g k => ?_
    refine ⟨.ref s.heap.objs.size, upd H s.heap.objs.size (SetTO X.prog X.w s.heap.objs.size L), I.laid (t' := tk) k (Nat.le_refl _) (setTO_new R.t0), rfl, q _ L hn (fun p hp => ?_) fun p hp => ?_⟩
    · exact List.mem_of_mem_take (g.sub p hp)
    · exact g.all p (by rw [List.take_length]; exact hp)
end
end DL
set_option Elab.async false
set_option linter.all false
set_option maxRecDepth 100000
set_option maxHeartbeats 4000000
/-! a tuple times 0 and more -/
namespace DL
open PySem PySem.Spec PyProof.Rows L2 Evl
theorem tuple_mul0 (l : Addr) (items : Array Value) (n : Nat) (dd : Option Addr) (sl : Array (Option Value)) (u : Tok) (ne : items.isEmpty = false) :
    Meets (Builtin.«tuple.__mul__» ⟨[.ref l, .int 0 u], []⟩) (fun _ R s => s.heap.get? l = some { cls := .type "tuple", dict := dd, data := .seq items n, slots := sl } ∧
      R (.ok (.ret (Value.ref s.heap.objs.size))) { s with heap := s.heap.push { cls := Value.type "tuple", data := Data.seq #[] }, toks := s.toks }) :=
  .of_wp fun prog w A R s h => by
    obtain ⟨hp, g, d, tk, os⟩ := s
    obtain ⟨hl, h⟩ := h
    have f1 := AutoSeq1.idx_int
    have c0 : (decide ((0 : Int) < -(2 ^ 63)) || decide ((0 : Int) ≥ 2 ^ 63)) = false := by decide
    have c1 : (items.isEmpty || ((0 : Int) == 1)) = false := by rw [ne]; decide
    have c2 : (decide ((0 : Int) ≤ 0) || items.isEmpty) = true := by rw [ne]; decide
    wp_walk using AutoSeq1.wpAny_loadPart' hl
    repeat (first
      | (refine wpAny_ite_false (decide_eq_false (by rw [c0]; exact Bool.false_ne_true)) ?_; wp_walk using AutoSeq1.wpAny_loadPart' hl)
      | (refine wpAny_ite_false (decide_eq_false (by rw [c1]; exact Bool.false_ne_true)) ?_; wp_walk using AutoSeq1.wpAny_loadPart' hl)
      | (refine wpAny_ite_true (decide_eq_true c2) ?_; wp_walk using AutoSeq1.wpAny_loadPart' hl)
      | (refine wpAny_ite_false (decide_eq_false (Nat.not_lt.mpr (by decide))) ?_; wp_walk using AutoSeq1.wpAny_loadPart' hl))
    exact ⟨_, rfl, h⟩
def rMul0 (K : PySem.W.Frag) : R2 := fun x y H Q => ∃ l xs, x = .ref l ∧ y = .int 0 ∧ SqT K H l xs ∧ xs ≠ [] ∧ ∀ p, H p = none → Q (.ref p) (upd H p (.tup []))
theorem op_mul0 {X : Cx} : OpR X (binaryOp .Mult) (rMul0 X.K) := by
  intro pins s σ H x y v u Q I rx ry h
  obtain ⟨l, xs, rfl, rfl, hT, hne, q⟩ := h
  cases rx
  obtain ⟨t, rfl⟩ := ry
  obtain ⟨its, r, ⟨⟨cls, dd, data, sl⟩, ho, hc, n, hd⟩, hs⟩ := I.tuple hT
  simp only at hc hd
  subst hc hd
  have hi : its.toArray.isEmpty = false := by
    have le : xs.length = its.length := r.length
    cases its with
    | nil => exact absurd (List.eq_nil_of_length_eq_zero le) hne
    | cons a b => rfl
  refine wpAny_binaryOp_repeat_ref (T := "tuple") (U := "int") (by decide) ⟨_, ho, rfl⟩ (fun s' => typeIs_int s' 0 t) noFill_tuple_mul F.fills_int_mul F.slot_int_rmul repeat_tuple
    F.slot_int_index.lookup (call_meets F.slot_int_rmul (typeIs_int s 0 t) F.entry_int_rmul (F.args_int_rmul_2 _ _) (int_rmul_tuple 0 t l its.toArray n dd sl)
      ⟨ho, rfl, ⟨_, ho, rfl⟩, call_meets F.slot_tuple_mul ⟨_, ho, rfl⟩ F.entry_tuple_mul (F.args_tuple_mul_2 _ _) (tuple_mul0 l its.toArray n dd sl t hi) ⟨ho, ?_⟩⟩)
  refine ⟨.ref s.heap.objs.size, _, I.laid (t' := s.toks) (o := .tup []) (fun b ob q => Heap.get?_push_of_some _ q) (Nat.le_refl _) ?_, rfl, q _ (I.hok.fresh (Nat.le_refl _))⟩
  exact ⟨by show 0 ≤ sizeLine; decide, [], .nil, IsTup.new _ _⟩
theorem op_rep0 {X : Cx} : OpR X (binaryOp .Mult) (fun x y H Q => rMul0 X.K x y H Q ∨ (rMul1 X.K x y H Q ∨ rRepT X.K x y H Q)) := OpR.or op_mul0 op_repT1
theorem ed_rep0 {K : PySem.W.Frag} {σ : L2.St} {H : Hp} {ta tb : TE} {d : PyData} {n : Int} (ha : EvD K ta σ H (.tuple [d])) (hb : Ev tb σ H (.int n)) (h1 : 0 ≤ n) (h2 : n ≤ 1000) : EvD K (tOp (fun x y H Q => rMul0 K x y H Q ∨ (rMul1 K x y H Q ∨ rRepT K x y H Q)) ta tb) σ H (.tuple (List.replicate n.toNat d)) := fun H1 e Q q => by
  by_cases hn : n = 0
  · subst hn
    exact ha H1 e _ fun x H2 e2 hx => hb H2 (e.trans e2) _ fun H3 e3 => by
      cases hx with
      | tup hs hd =>
        refine .inl ⟨_, _, rfl, rfl, ex_t e3 hs, fun z => ?_, fun p hp => q _ _ ((e2.trans e3).trans (Ex.new hp)) (.tup (st_of upd_same) .nil)⟩
        rw [z] at hd
        cases hd
  · have := ed_rep1 ha hb (by omega) h2 H1 e Q q
    exact ha H1 e _ fun x H2 e2 hx => hb H2 (e.trans e2) _ fun H3 e3 => by
      cases hx with
      | tup hs hd =>
        cases hd with
        | cons a b =>
          cases b
          rename_i v
          by_cases hn1 : n = 1
          · subst hn1
            exact .inr (.inl ⟨_, _, rfl, rfl, ex_t e3 hs, q _ H3 (e2.trans e3) (.tup (ex_t e3 hs) (.cons (dp_ex e3 _ _ a) .nil))⟩)
          · refine .inr (.inr ⟨_, n, _, rfl, rfl, ex_t e3 hs, by simp, by omega, h2, by simp, fun l hl => ?_⟩)
            have ef : (List.replicate n.toNat [v]).flatten = List.replicate n.toNat v := by
              induction n.toNat with
              | zero => rfl
              | succ k ih => rw [List.replicate_succ, List.flatten_cons, ih, List.replicate_succ]; rfl
            rw [ef]
            exact q _ _ ((e2.trans e3).trans (Ex.new hl)) (.tup (st_of upd_same) (dpa_rep (dp_ex (e3.trans (Ex.new hl)) _ _ a) _))
end DL
set_option Elab.async false
set_option linter.all false
set_option maxRecDepth 100000
set_option maxHeartbeats 4000000
/-! sorted(t), t a tuple of tuples of ints -/
namespace DL
open PySem PySem.Spec PyProof.Rows L2 Evl
section
variable {prog : Program} {w : World} {A : Around} {E : Value → Shared → Prop} {s : Shared}
theorem sorted_tupT {l : Addr} {items : Array Value} {d : Nat} {B : Int} {Q : Value → Shared → Prop} (hl : s.heap.IsTuple l items) (h64 : items.toList.length < 64) (hd : 1 ≤ d) (x : TS.TupsOk s.heap d B items.toList)
    (h : ∀ (h2 : Heap) (p : Addr) (out : Array Value) (c : Nat), (∀ b o, s.heap.get? b = some o → h2.get? b = some o) → s.heap.get? p = none → h2.get? p = some (seqObj "list" out c) → out.toList.Perm items.toList →
      out.toList.Pairwise (fun u v => TS.code B (TS.intsOf s.heap u) ≤ TS.code B (TS.intsOf s.heap v)) → Q (.ref p) { s with heap := h2 }) :
    wpAny (model prog w) A (call (.builtin "sorted") [.ref l]) Q E s := by
  obtain ⟨o, ho, hc, n, hd'⟩ := id hl
  refine Calls.call_function_entry kind_sorted plain_sorted entry_sorted (args_sorted1 _) ?_
  unfold Builtin.«sorted»
  refine wpAny_bind (m := checkCount "sorted" 1 1 _) (wpAny_pure ?_)
  have few : items.toList.length ≤ sizeLine := by rw [sizeLine_eq]; omega
  refine wpAny_bind (wpAny_collect_seq l (T := "tuple") (.inr rfl) ho hc hd' (fun h' k => ?_) (by simpa using few))
  refine wpAny_bind (wpAny_newList ?_ few)
  have k2 : ∀ b o, s.heap.get? b = some o → (h'.push (seqObj "list" items.toList.toArray 0)).get? b = some o := fun b o e => Heap.get?_push_of_some _ (k b o e)
  have hoL : (h'.push (seqObj "list" items.toList.toArray 0)).get? h'.objs.size = some (seqObj "list" items.toList.toArray 0) := Heap.get?_push_size _ rfl
  have lt0 : ∀ b o, s.heap.get? b = some o → b < h'.objs.size := fun b o e => Heap.lt_size (k b o e)
  have x' := x.keeps fun b o e _ => k2 b o e
  have same : ∀ v ∈ items.toList, TS.intsOf (h'.push (seqObj "list" items.toList.toArray 0)) v = TS.intsOf s.heap v := fun v hv => by
    obtain ⟨ns, t, _⟩ := x v hv
    rw [t.ints, (t.keeps fun b o e _ => k2 b o e).ints]
  refine wpAny_bind (wpAny_holding (TS.call_sort_tups (s := { s with heap := h'.push (seqObj "list" items.toList.toArray 0) }) hoL h64 hd x' fun out a1 a2 => ?_))
  obtain ⟨c, hc2⟩ := sortedHeap_at (out := out) hoL
  have sz : s.heap.get? h'.objs.size = none := by
    cases e : s.heap.get? h'.objs.size with
    | none => rfl
    | some o => exact absurd (lt0 _ o e) (Nat.lt_irrefl _)
  refine wpAny_pure ⟨_, rfl, h _ h'.objs.size out c (fun b o e => ?_) sz hc2 a1 (a2.imp_of_mem fun {u v} hu hv q => ?_)⟩
  · rw [sortedHeap_old (Nat.ne_of_lt (lt0 b o e)) (Nat.lt_of_lt_of_le (lt0 b o e) (by rw [Heap.size_push]; exact Nat.le_succ _))]
    exact k2 b o e
  · rw [← same u (a1.mem_iff.mp hu), ← same v (a1.mem_iff.mp hv)]
    exact q
end
section
variable {X : Cx}
/-- sorted(xs), xs a tuple of fewer than 64 tuples of d ints in [0, B) -/
def rSortV (K : PySem.W.Frag) (d : Nat) (B : Int) : List V → Hp → VK → Prop := fun vs H Q => ∃ (a : Addr) (xs : List V), vs = [V.ref a] ∧ SqT K H a xs ∧ xs.length < 64 ∧ (∀ x ∈ xs, ∃ ns, TupI K H x ns ∧ ns.length = d ∧ TS.Bd B ns) ∧
  ∀ (ys : List V) (p : Addr), ys.Perm xs → ys.Pairwise (fun x y => ∀ n m, TupI K H x n → TupI K H y m → TS.code B n ≤ TS.code B m) → H p = none → Q (.ref p) (upd H p (.lst ys))
theorem cr_sortV {d : Nat} {B : Int} (hd : 1 ≤ d) : CallR X (.builtin "sorted") (rSortV X.K d B) := by
  intro pins s σ H vs us Q I r h
  obtain ⟨a, xs, rfl, hs, h64, hx, q⟩ := h
  obtain ⟨its, rv, hl, hz⟩ := I.tuple hs
  rw [Vals.ref1 r]
  obtain ⟨e1, e2⟩ := bkV_refs rv fun x m => by
    obtain ⟨ns, ⟨t, e, _⟩, _⟩ := hx x m
    exact ⟨t, e⟩
  have li : its.toArray.toList = its := by simp
  refine sorted_tupT (d := d) (B := B) hl (by rw [li, ← rv.length]; exact h64) hd (fun v hv => ?_) fun h2 p out c k hsz hp h1 h3 => ?_
  · rw [li] at hv
    obtain ⟨t, rfl⟩ := e2 v hv
    have hm : V.ref t ∈ xs := by
      rw [e1]
      exact List.mem_map.mpr ⟨_, hv, rfl⟩
    obtain ⟨ns, ⟨t', e, ht⟩, hn, hb⟩ := hx _ hm
    cases e
    exact ⟨ns, tupI_raw I ht, hn, hb⟩
  · rw [li] at h1
    have h4 : ∀ u ∈ out.toList, ∃ a, u = Value.ref a := fun u hu => e2 u (h1.mem_iff.mp hu)
    have hp2 : (out.toList.map bkV).Perm xs := by
      rw [e1]
      exact h1.map bkV
    have hn : H p = none := by
      cases e : H p with
      | none => rfl
      | some o =>
        obtain ⟨oo, ho⟩ := objOk_get (I.hok p o e)
        rw [hsz] at ho
        cases ho
    refine ⟨.ref p, upd H p (.lst (out.toList.map bkV)), I.call' (ch := []) (s' := { s with heap := h2 }) rfl (Un.laidN k hsz hn) (I.hok.laidN k hn ⟨by rw [hp2.length_eq, sizeLine_eq]; omega, out.toList, c, bkV_vals h4, hp⟩) I.bare (fun _ z => nomatch z), rfl, q _ _ hp2 ?_ hn⟩
    rw [List.pairwise_map]
    refine List.Pairwise.imp (fun {u v} huv n m hn hm => ?_) h3
    obtain ⟨t, et, ht⟩ := hn
    obtain ⟨t', et', ht'⟩ := hm
    have i1 : TS.intsOf s.heap u = n := by
      rw [bkV_ref et]
      exact (tupI_raw I ht).ints
    have i2 : TS.intsOf s.heap v = m := by
      rw [bkV_ref et']
      exact (tupI_raw I ht').ints
    rw [← i1, ← i2]
    exact huv
end
end DL
set_option Elab.async false
set_option linter.all false
set_option maxRecDepth 100000
set_option maxHeartbeats 4000000
/-! t[::-1], t a tuple -/
namespace DL
open PySem PySem.Spec PyProof.Rows L2 Evl
section
variable {prog : Program} {w : World} {A : Around} {E : Value → Shared → Prop} {s : Shared}
theorem rev_adjust (n : Nat) : Builtin.Slice.sliceAdjust none none (-1) (n : Int) = ((n : Int) - 1, -1) := rfl
theorem rev_places (n : Nat) : Builtin.Slice.slicePlaces ((n : Int) - 1) (-1) (-1) = n := by
  unfold Builtin.Slice.slicePlaces
  rw [if_neg (by decide), show (- -1 : Int) = 1 by decide, Int.ediv_one]
  split <;> omega
theorem rev_pick (xs : Array Value) : ((List.range xs.size).filterMap fun (k : Nat) => xs[(((xs.size : Nat) : Int) - 1 + (k : Int) * (-1)).toNat]?).toArray = xs.toList.reverse.toArray := by
  congr 1
  have gen : ∀ (l : List Nat) (f g : Nat → Option Value), (∀ k ∈ l, f k = g k) → l.filterMap f = l.filterMap g := fun l f g h => by
    induction l with
    | nil => rfl
    | cons a l ih =>
      rw [List.filterMap_cons, List.filterMap_cons, h a List.mem_cons_self, ih fun k hk => h k (List.mem_cons_of_mem _ hk)]
  have e := gen (List.range xs.size) (fun (k : Nat) => xs[(((xs.size : Nat) : Int) - 1 + (k : Int) * (-1)).toNat]?) (fun k => xs.toList.reverse[k]?) fun k hk => by
    have hk := List.mem_range.mp hk
    show xs[(((xs.size : Nat) : Int) - 1 + (k : Int) * (-1)).toNat]? = _
    rw [List.getElem?_reverse (by simpa using hk), Array.getElem?_toList, Array.length_toList]
    congr 1
    omega
  rw [e]
  have l : xs.size = xs.toList.reverse.length := by simp
  rw [l]
  generalize xs.toList.reverse = ys
  refine List.ext_getElem? fun i => ?_
  have : ∀ (ys : List Value), (List.range ys.length).filterMap (fun k => ys[k]?) = ys := fun ys => by
    induction ys with
    | nil => rfl
    | cons y ys ih =>
      rw [List.length_cons, List.range_succ_eq_map, List.filterMap_cons]
      simp only [List.getElem?_cons_zero, List.filterMap_map]
      congr 1
  rw [this]
theorem sliceRev {sl : Addr} {vs : Value} {n : Nat} {Q : Int × Int × Nat → Shared → Prop} (hs : s.heap.IsSliceOf sl .none .none vs) (ps : IsPart vs (some (-1)))
    (h : Q ((n : Int) - 1, -1, n) s) : wpAny (model prog w) A (Builtin.Slice.sliceApplied (.ref sl) (pure (n : Int))) Q E s := by
  obtain ⟨os, hos, hcs, hds⟩ := id hs
  cases ps with
  | int i t =>
    unfold Builtin.Slice.sliceApplied Builtin.Slice.sliceFields
    refine wpAny_bind (wpAny_bind (wpAny_field hos hds (x := .none) rfl (wpAny_bind (wpAny_field hos hds (x := .none) rfl (wpAny_bind (wpAny_field hos hds (x := .int (-1) t) rfl (wpAny_pure ?_)))))))
    refine wpAny_bind (slicePart_int ?_)
    show wpAny _ _ (if ((-1 : Int) == 0) = true then _ else _) _ _ s
    rw [if_neg (by decide)]
    refine wpAny_bind (slicePart_none (wpAny_bind (slicePart_none (wpAny_bind (wpAny_pure ?_)))))
    show wpAny _ _ (pure ((n : Int) - 1, (-1 : Int), Builtin.Slice.slicePlaces ((n : Int) - 1) (-1) (-1))) _ _ s
    rw [rev_places]
    exact wpAny_pure h
theorem getItem_tuple_rev {t sl : Addr} {items : Array Value} {vs : Value} {Q : Value → Shared → Prop} (ht : IsTup s.heap t items) (hs : s.heap.IsSliceOf sl .none .none vs) (ps : IsPart vs (some (-1)))
    (h : Q (.ref s.heap.objs.size) { s with heap := s.heap.push { cls := .type "tuple", data := .seq items.toList.reverse.toArray } }) (hsz : items.size ≤ sizeLine) : wpAny (model prog w) A (getItem (.ref t) (.ref sl)) Q E s := by
  have htake : sizeOk (.seq items.toList.reverse.toArray) := by
    show items.toList.reverse.toArray.size ≤ sizeLine
    simpa using hsz
  obtain ⟨os, hos, hcs, hds⟩ := id hs
  have hTs : s.TypeIs (.ref sl) "slice" := ⟨os, hos, hcs⟩
  unfold getItem
  try with_reducible refine wpAny_holding ?_
  first | refine wpAny_bind (wpAny_pure ?_) | skip
  refine wpAny_bind (wpAny_sequenceKey ht.typeIs (by decide) ?_)
  refine wpAny_bind (wpAny_callSpecial?_slot (name := Str.ofString "__getitem__") ht.typeIs PyProof.Rows.slot_tuple_getitem
    (wpAny_call_entry PyProof.Rows.slot_tuple_getitem ht.typeIs PyProof.Rows.entry_tuple_getitem ?_ (PyProof.Rows.args_tuple_getitem _ _)))
  show wpAny _ _ (Builtin.Tuple.tupleItemsOf (.ref t) >>= _) _ _ s
  refine wpAny_bind (tupleItemsOf_ ht ?_)
  refine wpAny_bind (wpAny_typeOf hTs ?_)
  rw [if_pos (by decide)]
  refine wpAny_bind (sliceRev hs ps ?_)
  show wpAny _ _ (if (((items.size : Nat) : Int) - 1 == 0 && (-1 : Int) == 1 && items.size == items.size) = true then _ else _) _ _ s
  have hno : ¬ ((((items.size : Nat) : Int) - 1 == 0 && (-1 : Int) == 1 && items.size == items.size) = true) := by
    have : ((-1 : Int) == 1) = false := by decide
    rw [this, Bool.and_false, Bool.false_and]
    exact Bool.false_ne_true
  rw [if_neg hno, rev_pick]
  first
    | exact wpAny_bind (m := Builtin.Tuple.tupleExact _) (wpAny_newObj_type (wpAny_pure ⟨_, rfl, wpAny_pure h⟩) htake)
    | exact wpAny_bind (m := Builtin.Tuple.tupleExact _) (wpAny_newObj_type (wpAny_bind (wpAny_pure (wpAny_pure ⟨_, rfl, wpAny_pure h⟩))) htake)
    | exact wpAny_bind (wpAny_bind (m := Builtin.Tuple.tupleExact _) (wpAny_newObj_type (wpAny_pure (wpAny_pure ⟨_, rfl, wpAny_pure h⟩)) htake))
    | exact wpAny_bind (wpAny_bind (m := Builtin.Tuple.tupleExact _) (wpAny_newObj_type (wpAny_pure ⟨_, rfl, wpAny_pure h⟩) htake))
end
section
variable {X : Cx}
def tRevT (K : PySem.W.Frag) (te : TE) : TE := fun σ H Q => te σ H fun x H1 => ∃ a xs, x = .ref a ∧ SqT K H1 a xs ∧ ∀ p, H1 p = none → Q (.ref p) (upd H1 p (.tup xs.reverse))
theorem pe_revT {e : Expr} {te : TE} {k : Nat} {p1 p2 p3 pos : Pos} (he : PE X e te) : PE X (.Subscript e (.Slice none none (some (.UnaryOp .USub (.Constant (.int 1) k p1) p2)) p3) pos) (tRevT X.K te) := by
  refine ⟨fun pins s σ H Q I h => ?_⟩
  refine Subscript_ (thn (he.run pins s σ H _ I h) fun v s1 ⟨x, H1, I1, r1, q1⟩ => ?_)
  obtain ⟨a, xs, ex, hx, q⟩ := q1
  subst ex
  cases r1
  have hst : PO X (some (.UnaryOp .USub (.Constant (.int 1) k p1) p2)) (tPart (tUn (rU fun i => .int (-i)) (tC (.int 1)))) := po_some (pe_un un_neg pe_int)
  refine wpAny_Slice (thn (po_none.run pins s1 σ H1 (fun o H2 => o = none ∧ H2 = H1) I1 ⟨rfl, rfl⟩) fun vl s2 ⟨l, H2, I2, pl, el, e2⟩ => ?_)
  subst el e2
  refine thn (po_none.run pins s2 σ H2 (fun o H3 => o = none ∧ H3 = H2) I2 ⟨rfl, rfl⟩) fun vu s3 ⟨u, H3, I3, pu, eu, e3⟩ => ?_
  subst eu e3
  refine thn (hst.run pins s3 σ H3 (fun o H4 => o = some (-1) ∧ H4 = H3) I3 ⟨1, rfl, -1, rfl, rfl, rfl⟩) fun vs s4 ⟨o, H4, I4, ps, eo, e4⟩ => ?_
  subst eo e4
  cases pl
  cases pu
  have I5 : Inv X pins σ H4 { s4 with heap := s4.heap.push { cls := .type "slice", data := .fields #[.none, .none, vs] } } := I4.kept (t' := s4.toks) fun b ob q => Heap.get?_push_of_some _ q
  obtain ⟨its, r, ht, hz⟩ := I5.tuple hx
  have hlen := r.length
  show wpAny (model X.prog X.w) X.A (subscriptTail e (.Slice none none (some (.UnaryOp .USub (.Constant (.int 1) k p1) p2)) p3) (.ref a) (.ref s4.heap.objs.size)) (EP X pins σ Q) X.xe { s4 with heap := s4.heap.push { cls := .type "slice", data := .fields #[.none, .none, vs] } }
  refine tail_any (ops := [.ref a, .ref s4.heap.objs.size]) ht.typeIs PyProof.Rows.slot_tuple_getitem.lookup ?_ (by with_unfolding_all rfl)
  refine getItem_tuple_rev ht (Heap.IsSliceOf.new _ .none .none vs) ps ?_ (by rw [List.size_toArray]; omega)
  refine ⟨.ref _, _, I5.laid (t' := s4.toks) (o := .tup xs.reverse) (fun b ob q => Heap.get?_push_of_some _ q) (Nat.le_refl _) ?_, rfl, q _ (I5.hok.fresh (Nat.le_refl _))⟩
  exact ⟨by rw [List.length_reverse]; omega, _, r.reverse, IsTup.new _ _⟩
end
theorem ed_revT {K : PySem.W.Frag} {σ : L2.St} {H : Hp} {te : TE} {ds : List PyData} (h : EvD K te σ H (.tuple ds)) : EvD K (tRevT K te) σ H (.tuple ds.reverse) := fun H1 e Q q =>
  h H1 e _ fun x H2 e2 hx => by
    cases hx with
    | tup hs ha => exact ⟨_, _, rfl, hs, fun p hp => q _ _ (e2.trans (Ex.new hp)) (.tup (st_of upd_same) (dpa_ex (Ex.new hp) _ _ (dpa_rev ha)))⟩
end DL
set_option Elab.async false
set_option linter.all false
set_option maxRecDepth 100000
set_option maxHeartbeats 4000000
namespace K16
open PySem PySem.Spec PyProof.Rows L2 Evl DL
/-- v tells d, whatever the drawing state becomes -/
def StI (K : PySem.W.Frag) (st lg : Addr) (H : Hp) (v : V) (d : PyData) : Prop := ∀ H', Xp [st, lg] H H' → DL.Itm K H' v d
def StD (K : PySem.W.Frag) (st lg : Addr) (H : Hp) (v : V) (d : PyData) : Prop := ∀ H', Xp [st, lg] H H' → Dp K H' v d
def StA (K : PySem.W.Frag) (st lg : Addr) (H : Hp) (vs : List V) (ds : List PyData) : Prop := ∀ H', Xp [st, lg] H H' → DpAll K H' vs ds
section
variable {K : PySem.W.Frag} {st lg cl : Addr} {n : Nat} {H H' : Hp} {v : V} {d : PyData} {vs : List V} {ds : List PyData}
theorem stI_xp (h : StI K st lg H v d) (x : Xp [st, lg] H H') : StI K st lg H' v d := fun H2 x2 => h H2 (x.trans x2)
theorem stD_xp (h : StD K st lg H v d) (x : Xp [st, lg] H H') : StD K st lg H' v d := fun H2 x2 => h H2 (x.trans x2)
theorem stD_I (h : StD K st lg H v d) : StI K st lg H v d := fun H2 x2 => .dp (h H2 x2)
theorem stD_imm (s : StK st lg cl n H) (hd : Dp K H v d) (hi : imm d = true) : StD K st lg H v d := fun H2 x2 => dp_tx (stk_tx s x2) _ _ hi hd
theorem stA_imm (s : StK st lg cl n H) (hd : DpAll K H vs ds) (hi : immAll ds = true) : StA K st lg H vs ds := fun H2 x2 => dpa_tx (stk_tx s x2) _ _ hi hd
theorem stA_D {p : Addr} (hp : H p = some (.lst vs)) (n1 : p ≠ st) (n2 : p ≠ lg) (ha : StA K st lg H vs ds) : StD K st lg H (.ref p) (.list ds) := fun H2 x2 => .lst (sq_of (x2 _ _ hp (by simp [n1, n2]))) (ha H2 x2)
end
/-! values that stay what they are while the drawing state moves -/
/-- items of a tuple that is compared: few, flat, that nothing changes -/
structure FL (k : Nat) (ds : List PyData) : Prop where
  few : ds.length ≤ k
  all : ∀ d ∈ ds, imm d = true ∧ d.canLay0 = true ∧ d.depth ≤ 10
theorem immAll_of : ∀ {ds : List PyData}, (∀ d ∈ ds, imm d = true) → immAll ds = true
  | [], _ => by simp [immAll]
  | d :: ds, h => by rw [immAll, h d List.mem_cons_self, immAll_of fun e he => h e (List.mem_cons_of_mem _ he)]; rfl
theorem FL.imm {k : Nat} {ds : List PyData} (h : FL k ds) : imm (.tuple ds) = true := by
  rw [DL.imm]
  exact immAll_of fun d hd => (h.all d hd).1
theorem lay_of : ∀ {ds : List PyData}, (∀ d ∈ ds, d.canLay0 = true ∧ d.depth ≤ 10) → PyData.canLayAll0 ds = true ∧ PyData.depthAll ds ≤ 11
  | [], _ => by simp [PyData.canLayAll0, PyData.depthAll]
  | d :: ds, h => by
    have a := h d List.mem_cons_self
    have b := lay_of fun e he => h e (List.mem_cons_of_mem _ he)
    rw [PyData.canLayAll0, PyData.depthAll, a.1, b.1]
    exact ⟨rfl, by omega⟩
theorem shaped_of {ds : List PyData} (h : ∀ d ∈ ds, d.canLay0 = true ∧ d.depth ≤ 10) : SeqAt.shaped (.tuple ds) = true := by
  have a := lay_of h
  show ((PyData.tuple ds).canLay0 && decide ((PyData.tuple ds).depth ≤ 64)) = true
  rw [Bool.and_eq_true]
  refine ⟨by rw [PyData.canLay0]; exact a.1, decide_eq_true ?_⟩
  rw [PyData.depth]
  omega
theorem FL.mono {k m : Nat} {ds : List PyData} (h : FL k ds) (hk : k ≤ m) : FL m ds := ⟨Nat.le_trans h.few hk, h.all⟩
theorem FL.app {k m : Nat} {ds es : List PyData} (h : FL k ds) (g : FL m es) : FL (k + m) (ds ++ es) := ⟨by have := h.few; have := g.few; rw [List.length_append]; omega, fun d hd => (List.mem_append.mp hd).elim (h.all d) (g.all d)⟩
theorem FL.cut {k : Nat} {ds : List PyData} {lo hi : Option Int} (h : FL k ds) : FL k (DL.cutD ds lo hi) := ⟨by have := h.few; unfold DL.cutD; rw [List.length_take, List.length_drop]; omega, fun d hd => h.all d (List.mem_of_mem_drop (List.mem_of_mem_take hd))⟩
theorem FL.rev {k : Nat} {ds : List PyData} (h : FL k ds) : FL k ds.reverse := ⟨by have := h.few; rw [List.length_reverse]; omega, fun d hd => h.all d (List.mem_reverse.mp hd)⟩
theorem FL.nil : FL 0 [] := ⟨Nat.le_refl _, fun _ h => by simp at h⟩
theorem FL.one {d : PyData} (h1 : DL.imm d = true) (h2 : d.canLay0 = true) (h3 : d.depth ≤ 10) : FL 1 [d] := ⟨Nat.le_refl _, fun e he => by rw [List.mem_singleton.mp he]; exact ⟨h1, h2, h3⟩⟩
theorem flat_tI (l : List Int) : DL.imm (tI l) = true ∧ (tI l).canLay0 = true ∧ (tI l).depth ≤ 10 := ⟨imm_tI l, by rw [PyData.canLay0]; exact canLay_ints l, by have := depth_ints l; rw [PyData.depth]; omega⟩
theorem FL.loads {k : Nat} {ls : List (List Int)} (h : ls.length ≤ k) : FL k (ls.map tI) := ⟨by rw [List.length_map]; exact h, fun d hd => by
  obtain ⟨l, _, rfl⟩ := List.mem_map.mp hd
  exact flat_tI l⟩
section
variable {K : PySem.W.Frag} {st lg cl : Addr} {n : Nat} {σ : L2.St} {H H' : Hp} {S : PyData → Prop} {te tb : TE} {ta : TA} {v : V} {vs : List V} {d : PyData} {ds es : List PyData} {D : Ends} {tz : TS}
def Gd (K : PySem.W.Frag) (st lg : Addr) (S : PyData → Prop) (H : Hp) (v : V) : Prop := ∃ d, StI K st lg H v d ∧ S d
theorem gd_xp (h : Gd K st lg S H v) (x : Xp [st, lg] H H') : Gd K st lg S H' v := by
  obtain ⟨d, h1, h2⟩ := h
  exact ⟨d, stI_xp h1 x, h2⟩
theorem gd_ex (h : Gd K st lg S H v) (e : Ex H H') : Gd K st lg S H' v := gd_xp h (Xp.of_ex e)
def EvS (K : PySem.W.Frag) (st lg : Addr) (te : TE) (σ : L2.St) (H : Hp) (d : PyData) : Prop := ∀ H1, Ex H H1 → ∀ Q : VK, (∀ v H2, Ex H1 H2 → StD K st lg H2 v d → Q v H2) → te σ H1 Q
def EvSA (K : PySem.W.Frag) (st lg : Addr) (ta : TA) (σ : L2.St) (H : Hp) (ds : List PyData) : Prop := ∀ H1, Ex H H1 → ∀ Q : List V → Hp → Prop, (∀ vs H2, Ex H1 H2 → StA K st lg H2 vs ds → Q vs H2) → ta σ H1 Q
def EvG (K : PySem.W.Frag) (st lg : Addr) (S : PyData → Prop) (te : TE) (σ : L2.St) (H : Hp) : Prop := ∀ H1, Ex H H1 → ∀ Q : VK, (∀ v H2, Ex H1 H2 → Gd K st lg S H2 v → Q v H2) → te σ H1 Q
def EvGA (K : PySem.W.Frag) (st lg : Addr) (S : PyData → Prop) (m : Nat) (ta : TA) (σ : L2.St) (H : Hp) : Prop := ∀ H1, Ex H H1 → ∀ Q : List V → Hp → Prop, (∀ vs H2, Ex H1 H2 → vs.length = m → (∀ v ∈ vs, Gd K st lg S H2 v) → Q vs H2) → ta σ H1 Q
/-- a new list of good values -/
def EvGL (K : PySem.W.Frag) (st lg : Addr) (S : PyData → Prop) (m : Nat) (te : TE) (σ : L2.St) (H : Hp) : Prop := ∀ H1, Ex H H1 → ∀ Q : VK, (∀ p vs H2, H1 p = none → Ex H1 H2 → H2 p = some (.lst vs) → vs.length = m → (∀ v ∈ vs, Gd K st lg S H2 v) → Q (.ref p) H2) → te σ H1 Q
theorem evs_imm (s : StK st lg cl n H) (h : EvD K te σ H d) (hi : DL.imm d = true) : EvS K st lg te σ H d := fun H1 e Q q => h H1 e Q fun v H2 e2 hv => q v H2 e2 (stD_imm (stk_ex (e.trans e2) s) hv hi)
theorem evsa_nil : EvSA K st lg tNil σ H [] := fun H1 _ Q q => q [] H1 (Ex.refl _) fun _ _ => .nil
theorem evsa_cons (h : EvS K st lg te σ H d) (t : EvSA K st lg ta σ H ds) : EvSA K st lg (tCons te ta) σ H (d :: ds) := fun H1 e Q q =>
  h H1 e _ fun v H2 e2 hv => t H2 (e.trans e2) _ fun vs H3 e3 hvs => q _ H3 (e2.trans e3) fun H4 x => .cons (hv H4 ((Xp.of_ex e3).trans x)) (hvs H4 x)
theorem evs_lst (s : StK st lg cl n H) (h : EvSA K st lg ta σ H ds) (hl : ds.length ≤ 1000) : EvS K st lg (tLst ta) σ H (.list ds) := fun H1 e Q q =>
  h H1 e _ fun vs H2 e2 hvs => by
    have len := dpa_len (hvs H2 (Xp.refl _ _))
    refine ⟨by rw [sizeLine_eq]; omega, fun p hp => ?_⟩
    have s2 := stk_ne (stk_ex (e.trans e2) s) hp
    refine q _ _ (e2.trans (Ex.new hp)) fun H4 x => .lst (sq_of (x _ _ upd_same (by simp [s2.1, s2.2.1]))) (hvs H4 ((Xp.of_ex (Ex.new hp)).trans x))
theorem evs_catL (s : StK st lg cl n H) (ha : EvD K te σ H (.tuple ds)) (hi : immAll ds = true) (n1 : ds ≠ []) (hb : EvSA K st lg ta σ H es) (n2 : es ≠ []) (hl : ds.length + es.length ≤ 1000) : EvS K st lg (tOp (rCatA K) te (tTup ta)) σ H (.tuple (ds ++ es)) := fun H1 e Q q =>
  ha H1 e _ fun x H2 e2 hx => hb H2 (e.trans e2) _ fun ws H3 e3 hws => by
    cases hx with
    | tup hs hd =>
      rename_i a vs
      have len := dpa_len (hws H3 (Xp.refl _ _))
      have len2 := dpa_len hd
      refine ⟨by rw [sizeLine_eq]; omega, fun p hp => ?_⟩
      have e4 := Ex.new (o := .tup ws) hp
      refine ⟨a, p, vs, ws, rfl, rfl, ex_t (e3.trans e4) hs, st_of upd_same, by rw [sizeLine_eq]; omega, fun z => ?_, fun _ z => ?_, fun _ _ l hl => ?_⟩
      · rw [z] at len2
        exact absurd (List.eq_nil_of_length_eq_zero len2.symm) n1
      · rw [z] at len
        exact absurd (List.eq_nil_of_length_eq_zero len.symm) n2
      · have e5 := Ex.new (o := .tup (vs ++ ws)) hl
        have s5 := stk_ex (((e.trans e2).trans (e3.trans e4)).trans e5) s
        have s4 := stk_ne (stk_ex ((e.trans e2).trans (e3.trans e4)) s) hl
        refine q _ _ ((e2.trans (e3.trans e4)).trans e5) fun H6 x => .tup (st_of (x _ _ upd_same (by simp [s4.1, s4.2.1]))) (dpa_app (dpa_tx (stk_tx s5 x) _ _ hi (dpa_ex ((e3.trans e4).trans e5) _ _ hd)) (hws H6 ((Xp.of_ex (e4.trans e5)).trans x)))
theorem evg_s (h : EvS K st lg te σ H d) (hS : S d) : EvG K st lg S te σ H := fun H1 e Q q => h H1 e Q fun v H2 e2 hv => q v H2 e2 ⟨d, stD_I hv, hS⟩
theorem evg_imm (s : StK st lg cl n H) (h : EvD K te σ H d) (hi : DL.imm d = true) (hS : S d) : EvG K st lg S te σ H := evg_s (evs_imm s h hi) hS
theorem evg_list (s : StK st lg cl n H) (h : EvN K te σ H ds) (hi : immAll ds = true) (hS : S (.list ds)) : EvG K st lg S te σ H := fun H1 e Q q => h H1 e Q fun p vs H2 hp e2 h2 hd => by
  have s1 := stk_ne (stk_ex e s) hp
  have s2 := stk_ex (e.trans e2) s
  exact q _ H2 e2 ⟨.list ds, stD_I (stA_D h2 s1.1 s1.2.1 (stA_imm s2 hd hi)), hS⟩
theorem evg_dict (s : StK st lg cl n H) (hS : S (.dict [])) : EvG K st lg S tDNewK σ H := fun H1 e Q q p hp => by
  have s1 := stk_ne (stk_ex e s) hp
  exact q _ _ (Ex.new hp) ⟨.dict [], fun H2 x => .d0 (x _ _ upd_same (by simp [s1.1, s1.2.1])), hS⟩
theorem evga_nil : EvGA K st lg S 0 tNil σ H := fun H1 _ Q q => q [] H1 (Ex.refl _) rfl fun _ h => by simp at h
theorem evga_cons {m : Nat} (h : EvG K st lg S te σ H) (t : EvGA K st lg S m ta σ H) : EvGA K st lg S (m + 1) (tCons te ta) σ H := fun H1 e Q q =>
  h H1 e _ fun v H2 e2 hv => t H2 (e.trans e2) _ fun vs H3 e3 hl hvs => q _ H3 (e2.trans e3) (by rw [List.length_cons, hl]) fun x hx => by
    rcases List.mem_cons.mp hx with rfl | hx
    · exact gd_ex hv e3
    · exact hvs x hx
theorem evgl_lst {m : Nat} (h : EvGA K st lg S m ta σ H) (hm : m ≤ 1000) : EvGL K st lg S m (tLst ta) σ H := fun H1 e Q q =>
  h H1 e _ fun vs H2 e2 hl hvs => ⟨by rw [sizeLine_eq]; omega, fun p hp => q p vs _ (fresh_back e2 hp) (e2.trans (Ex.new hp)) upd_same hl fun v hv => gd_ex (hvs v hv) (Ex.new hp)⟩
/-- xs + [..], xs at a name -/
theorem evgl_cat {m k i : Nat} {a : Addr} {xs : List V} (hi : σ[i]? = some (some (.ref a))) (ha : H a = some (.lst xs)) (hx : ∀ v ∈ xs, Gd K st lg S H v) (hm : xs.length = m) (h : EvGL K st lg S k tb σ H) (hl : m + k ≤ 1000) : EvGL K st lg S (m + k) (tOp rCat (tVar i) tb) σ H := fun H1 e Q q =>
  ⟨_, hi, h H1 e _ fun p vs H2 hp e2 h2 hk hvs => ⟨a, p, xs, vs, rfl, rfl, e2 _ _ (e _ _ ha), h2, by rw [sizeLine_eq]; omega, fun l hl => q l _ _ (fresh_back e2 hl) (e2.trans (Ex.new hl)) upd_same (by rw [List.length_append]; omega) fun v hv => by
    rcases List.mem_append.mp hv with hv | hv
    · exact gd_ex (hx v hv) ((e.trans e2).trans (Ex.new hl))
    · exact gd_ex (hvs v hv) (Ex.new hl)⟩⟩
/-- return _law_pick(state, [..]) -/
theorem r_pick {m : Nat} {E : XK} (s : StK st lg cl n H) (h0 : σ[0]? = some (some (.ref st))) (h : EvGL K st lg S m te σ H) (m1 : 1 ≤ m) (m2 : m ≤ 1000) (hn : n ≤ 10000)
    (q : ∀ v d H1, StI K st lg H1 v d → S d → Xp [st, lg] H H1 → StK st lg cl (n + 1) H1 → D.rt v H1) : tRet (tCall (spPick K) [] E (tCons (tVar 0) (tCons te tNil))) D σ H :=
  ⟨_, h0, h H (Ex.refl _) _ fun p vs H2 hp e2 h2 hl hvs => by
    have s1 := stk_ne s hp
    refine ⟨st, lg, cl, n, p, vs, rfl, h2, s1.2.1, by omega, by omega, hn, stk_ex e2 s, fun r H3 hr x s3 => ?_⟩
    obtain ⟨d, hd, hS⟩ := gd_xp (hvs r hr) x
    exact q r d H3 hd hS ((Xp.of_ex e2).trans x) s3⟩
theorem q_draw {E : XK} {k : Nat} {size : Int} (s : StK st lg cl n H) (h0 : σ[0]? = some (some (.ref st))) (h : Ev te σ H (.int size)) (m1 : 1 ≤ size) (m2 : size ≤ 1000) (hn : n ≤ 10000)
    (q : ∀ r H1, 0 ≤ r → r < size → Xp [st, lg] H H1 → StK st lg cl (n + 1) H1 → tz D (σ.set k (some (.int r))) H1) : tSeq (tAsg (tCall (spDraw K) [] E (tCons (tVar 0) (tCons te tNil))) (gName k)) tz D σ H :=
  ⟨_, h0, h H (Ex.refl _) _ fun H2 e2 => ⟨st, lg, cl, n, size, rfl, m1, m2, hn, stk_ex e2 s, fun r H3 h1 h2 x s3 => q r H3 h1 h2 ((Xp.of_ex e2).trans x) s3⟩⟩
end
end K16
set_option Elab.async false
set_option linter.all false
set_option maxRecDepth 100000
set_option maxHeartbeats 4000000
/-! x == y and x != y by an own __eq__, whatever y is -/
namespace K16
open PySem PySem.Spec PyProof.Rows L2 Evl DL
theorem slot_one : Slot "object" "__ne__" "object.__ne__" := Slot.of (owner := "object") (n := "__ne__") (by rw [typeLookup_type, builtinLookup_eq_fast]; kernel_rfl) (by decide +kernel) (by decide +kernel) (by decide +kernel) (.inl (by decide +kernel)) (by rw [isSubtype_type]; kernel_rfl)
/-- what of a class its own == wants -/
structure EqC (K : PySem.W.Frag) (C f : Addr) : Prop where
  eq : PySem.W.findIn K (.ref C) "__eq__" = some (some (.ref f))
  fn : PySem.W.isFn K (.ref f) = true
  ne : PySem.W.findIn K (.ref C) "__ne__" = some (some (.builtin "object.__ne__"))
  ob : PySem.W.subIn K (.ref C) (.type "object") = some true
section
variable {P : Program} {w : World} {A : Around} {E : Value → Shared → Prop} {s : Shared} {K : PySem.W.Frag} {x C f : Addr} {ox : Obj} {od : Option Obj} {y t : Value}
theorem bound_ne {M : Model} {us : List Value} {Q : Option Value → Shared → Prop} (X : K.In s.heap) (I : PySem.W.InstAt s.heap x ox C od) (Z : EqC K C f)
    (h : wpAny M A (call (.builtin "object.__ne__") (.ref x :: us)) (fun v => Q (some v)) E s) : wpAny M A (callSpecialIfBound? (.ref x) "__ne__" us) Q E s := by
  simp only [callSpecialIfBound?, bindSpecialIfBound?]
  refine wpAny_holding (wpAny_bind (wpAny_bind (wpAny_bind (I.type.here ((PySem.W.looks_findIn X Z.ne).here ?_)))))
  simp only [slot_one.bind]
  refine wpAny_bind (wpAny_askSetting (wpAny_ite ?_))
  have on : wpAny M A (call (.builtin "object.__ne__") ([.ref x] ++ us) >>= fun v => pure (some v)) Q E s := wpAny_bind (wpAny_mono h (fun _ _ z => wpAny_pure z) fun _ _ z => z)
  split
  · exact wpAny_bind (wpAny_pure (wpAny_pure on))
  · exact wpAny_tryCatch (wpAny_bind (wpAny_pure (wpAny_pure on)))
theorem try_ne (hu : A.units + 1 < cLine) (X : K.In s.heap) (I : PySem.W.InstAt s.heap x ox C od) (Z : EqC K C f) {Q : Option Value → Shared → Prop}
    (h : wpAny (model P w) A.in1 (call (.ref f) [.ref x, y]) (fun v s' => ∃ k, v = .bool k ∧ Q (some (.bool (!k))) s') E s) : wpAny (model P w) A (tryCompare (.ref x) "__ne__" y) Q E s := by
  unfold tryCompare
  refine wpAny_bind (bound_ne X I Z (wpAny_call (codeAny_call_builtin slot_one.plain PySem.F.cmpEntry_ne (PySem.W.check_slot PySem.F.cmpKind_ne PySem.F.cmpSplit_ne (I.type.andThen (PySem.W.looks_subIn X Z.ob)) (PySem.F.cmpArgs_ne _ _) ?_))))
  have hu1 : A.in1.units < cLine := by rw [Around.in1_units]; exact hu
  unfold Builtin.«object.__ne__»
  repeat (first
    | with_reducible refine wpAny_cRoomFor hu1 ?_
    | (refine wpAny_bind (m := callSpecialIfBound? (.ref x) (Str.ofString "__eq__") [y]) (PySem.W.ifBound_K X I Z.eq Z.fn (wpAny_mono h (fun v s' hv => by
          obtain ⟨k, rfl, q⟩ := hv
          repeat (first | exact q | exact wpAny_pure q | exact wpAny_truthy_bool q | (refine wpAny_bind (m := truthy (.bool _)) (wpAny_truthy_bool ?_)) | (refine ⟨_, rfl, ?_⟩) | wp_step)) fun _ _ z => z)))
    | wp_step)
theorem ne_own (hu : A.units + 1 < cLine) (X : K.In s.heap) (I : PySem.W.InstAt s.heap x ox C od) (hy : PySem.W.Looks (model P w) s.heap (typeOf y) t) (hn : PySem.W.notFirst K C t = true) (Z : EqC K C f) {Q : Value → Shared → Prop}
    (h : wpAny (model P w) A.in1 (call (.ref f) [.ref x, y]) (fun v s' => ∃ k, v = .bool k ∧ Q (.bool (!k)) s') E s) : wpAny (model P w) A (richCompare .NotEq (.ref x) y) Q E s := by
  have one : wpAny (model P w) A (tryCompare (.ref x) (cmpInfo .NotEq).2.1 y) (fun r s' => ∃ k, r = some (.bool k) ∧ Q (.bool k) s') E s :=
    try_ne hu X I Z (wpAny_mono h (fun v s' z => by
      obtain ⟨k, e, q⟩ := z
      exact ⟨k, e, _, rfl, q⟩) fun _ _ z => z)
  unfold richCompare
  simp only [oneThing_ref]
  refine wpAny_holding (wpAny_bind (wpAny_cRoomFor (by omega) ?_))
  refine wpAny_bind (I.type.here (wpAny_bind (hy.here ?_)))
  split
  · rename_i q
    have e : PySem.W.subIn K t (.ref C) = some false := by
      rcases Bool.or_eq_true_iff.mp hn with e | e
      · exact absurd q (by rw [beq_iff_eq.mp e]; simp)
      · exact beq_iff_eq.mp e
    refine wpAny_bind ((PySem.W.looks_subIn X e).here ?_)
    simp only [Bool.false_eq_true, if_false]
    refine wpAny_bind (wpAny_mono one (fun r s' z => ?_) fun _ _ z => z)
    obtain ⟨k, rfl, hq⟩ := z
    exact wpAny_pure hq
  · refine wpAny_bind (wpAny_pure ?_)
    simp only [Bool.false_eq_true, if_false]
    refine wpAny_bind (wpAny_mono one (fun r s' z => ?_) fun _ _ z => z)
    obtain ⟨k, rfl, hq⟩ := z
    exact wpAny_pure hq
end
/-- x == y, x != y: what the def promises -/
def rOwn (K : PySem.W.Frag) (C : Addr) (sp : Sp) (neg : Bool) : R2 := fun x y H Q => ∃ a dx fs t, x = .ref a ∧ H a = some (.ins C dx fs) ∧ TyX K H y t ∧ PySem.W.notFirst K C t = true ∧ sp [x, y] H (fun v H' => ∃ k, v = .bl k ∧ Q (.bl (if neg then !k else k)) H') E0
section
variable {X : Cx} {n : Nat} {C f : Addr} {fd : FuncData} {ps : List Str} {sp : Sp}
theorem own_call (F : FnOk X.prog X.w X.K X.mg X.base CX0 n f fd ps sp) (hb : Binds X.K fd ps []) {A : Around} (sb : Sub X n A) {pins : List (Addr × Obj)} {σ : L2.St} {H : Hp} {s : Shared} (I : Inv X pins σ H s) {x y : V} {u v : Value} (rx : RelV x u) (ry : RelV y v) {Q : VK} (h : sp [x, y] H Q E0) :
    wpAny (model X.prog X.w) A (call (.ref f) [u, v]) (EP X pins σ Q) X.xe s := by
  have e0 : Env0 X.prog X.w X.K X.mg X.base A X.stack s H := by
    have e := I.env0
    exact ⟨sb.fr ▸ e.frames, e.mod, e.bs, e.bsz, e.funs, e.frf, e.hok, e.bare⟩
  have hl := F.len _ _ _ _ h
  refine wpAny_call (codeAny_mono (F.run A X.stack s H ⟨[u, v], []⟩ [u, v] [x, y] Q E0 sb.room e0 (by
    have := hb s [u, v] I.kIn (by simpa using hl)
    simpa using this) (.cons rx (.cons ry .nil)) h) fun r s' hq => ?_)
  cases r with
  | error e => exact pass0 pins σ H s e s' I hq
  | ok fl =>
    cases fl with
    | ret z =>
      obtain ⟨v1, H', I', rz, q⟩ := I.after hq
      exact ⟨v1, H', I', rz, q⟩
    | next => exact False.elim hq
    | brk => exact False.elim hq
    | cont => exact False.elim hq
theorem op_own (neg : Bool) (F : FnOk X.prog X.w X.K X.mg X.base CX0 n f fd ps sp) (hb : Binds X.K fd ps []) (Z : EqC X.K C f) (hr : Room (n + 1) X.A) : OpR X (compareOp (if neg then .NotEq else .Eq)) (rOwn X.K C sp neg) := by
  intro pins s σ H x y u v Q I rx ry h
  obtain ⟨a, dx, fs, t, rfl, ha, ty, hn, q⟩ := h
  cases rx
  obtain ⟨mA, J, _⟩ := ins_get I.hok ha
  obtain ⟨od, J, _⟩ := J.look
  obtain ⟨KP, kx, kp, _⟩ := kit_of I ry ty
  have hy := kx.ty (model X.prog X.w) s.heap I.kIn kp
  cases neg with
  | false =>
    obtain ⟨m, hF⟩ := I.fr
    show wpAny (model X.prog X.w) X.A (richCompare .Eq (.ref a) _) (EP X pins σ Q) X.xe s
    refine PySem.W.cmp_K (op := .Eq) hr.units0 hF I.ok.mod.kin J hy hn Z.eq Z.fn (wpAny_mono (own_call F hb (A := X.A) ⟨hr.mono (Nat.le_succ _), rfl⟩ I (show L2.RelV (.ref a) (.ref a) from rfl) ry q) (fun z s' hz => ?_) fun _ _ z => z)
    obtain ⟨v1, H', I', rz, k, rfl, q1⟩ := hz
    cases rz
    exact ⟨_, H', I', (show L2.RelV (.bl k) (.bool k) from rfl), q1⟩
  | true =>
    show wpAny (model X.prog X.w) X.A (richCompare .NotEq (.ref a) _) (EP X pins σ Q) X.xe s
    refine ne_own (by have := hr.un; omega) I.kIn J hy hn Z (wpAny_mono (own_call F hb (A := X.A.in1) ⟨hr.in1, rfl⟩ I (show L2.RelV (.ref a) (.ref a) from rfl) ry q) (fun z s' hz => ?_) fun _ _ z => z)
    obtain ⟨v1, H', I', rz, k, rfl, q1⟩ := hz
    cases rz
    exact ⟨k, rfl, _, H', I', (show L2.RelV (.bl (!k)) (.bool (!k)) from rfl), q1⟩
end
end K16
set_option Elab.async false
set_option linter.all false
set_option maxRecDepth 100000
set_option maxHeartbeats 4000000
namespace K16
open PySem PySem.Spec PyProof.Rows L2 Evl DL
local macro_rules | `(tactic| walk_at "dl") => `(tactic| first
  | exact ev_c | exact ev_var rfl | exact eda_nil
  | exact ed_var rfl (by assumption)
  | exact ed_int ev_c | exact ed_int (ev_var rfl)
  | (refine eda_cons ?_ ?_ <;> walk_at "dl")
  | (refine ed_int ?_; walk_at "dl")
  | (refine ev_op ?_ ?_ rv_I0 <;> walk_at "dl"))

theorem eqv_swD (a b : Sw) : PyData.eqv (swD a) (swD b) = decide (a = b) := by
  show PyData.eqv (.tuple [pD a.1, pD a.2]) (.tuple [pD b.1, pD b.2]) = _
  rw [PyData.eqv, PyData.eqvAll, PyData.eqvAll, PyData.eqvAll, eqv_pD, eqv_pD, Bool.and_true, Bool.eq_iff_iff]
  simp [Prod.ext_iff]
theorem eqvAll_sws : ∀ us vs : List Sw, PyData.eqvAll (us.map swD) (vs.map swD) = decide (us = vs)
  | [], [] => rfl
  | [], _ :: _ => by simp [PyData.eqvAll]
  | _ :: _, [] => by simp [PyData.eqvAll]
  | u :: us, v :: vs => by
    rw [List.map_cons, List.map_cons, PyData.eqvAll, eqv_swD, eqvAll_sws us vs, Bool.eq_iff_iff]
    simp
theorem flat_sw (u : Sw) : (swD u).canLay0 = true ∧ (swD u).depth ≤ 10 := by
  constructor
  · simp [swD, pD, PyData.canLay0, PyData.canLayAll0]
  · simp [swD, pD, PyData.depth, PyData.depthAll]
theorem shaped_sws (us : List Sw) : SeqAt.shaped (.tuple (us.map swD)) = true := shaped_of fun d hd => by
  obtain ⟨u, _, rfl⟩ := List.mem_map.mp hd
  exact flat_sw u
/-- what isinstance asks of Box -/
structure BoxT (K : PySem.W.Frag) (C : Addr) : Prop where
  ca : PySem.W.findIn K (.ref C) "__class__" = some (some (.builtin "object.__class__"))
  sp : PySem.W.specialIn K (.builtin "object.__class__") "__get__" = some (some (.builtin "getset_descriptor.__get__"))
  tk : PySem.W.takesIn K (.builtin "object.__class__") = some true
  mr : PySem.W.mroIn K C (.type "object") = some true
  kt : PySem.W.kitOne K (.type "tuple") (.ref C) = some false
  kn : PySem.W.kitOne K (.type "NoneType") (.ref C) = some false
  nt : PySem.W.notFirst K C (.type "tuple") = true
  nn : PySem.W.notFirst K C (.type "NoneType") = true
section
variable {P : Program} {w : World} {K : PySem.W.Frag} {mg : Str → Option Value} {base : Heap} {C : Addr}
/-- a Box == something -/
def spEqB (P : Program) (w : World) (K : PySem.W.Frag) (C : Addr) : Sp := fun vs H Q _ => ∃ a v s t ws, vs = [.ref a, v] ∧ BxAt P w K C H a s t ws ∧
  ((∃ b s' t' ws', v = .ref b ∧ BxAt P w K C H b s' t' ws' ∧ ∀ H', Ex H H' → Q (.bl (decide (s = s' ∧ t = t' ∧ ws = ws'))) H') ∨ ∃ d, Dp K H v d ∧ (tyD d = "tuple" ∨ tyD d = "NoneType") ∧ ∀ H', Ex H H' → Q (.bl false) H')
theorem ev_sides (B : BoxC K C) {i : Nat} {σ : L2.St} {H : Hp} {a : Addr} {s t : Int} {ws : List Sw} (h1 : σ[i]? = some (some (.ref a))) (hb : BxAt P w K C H a s t ws) : Ev (tFld K (tVar i) "sides") σ H (.int s) := fun H1 e Q q => by
  obtain ⟨dx, v', d, kvs, g1, _⟩ := hb.ex e
  exact ⟨.ref a, h1, a, C, dx, BoxFs s t v' d, .int s, rfl, g1, B.cls, B.a1, rfl, q H1 (Ex.refl _)⟩
theorem ev_tracks (B : BoxC K C) {i : Nat} {σ : L2.St} {H : Hp} {a : Addr} {s t : Int} {ws : List Sw} (h1 : σ[i]? = some (some (.ref a))) (hb : BxAt P w K C H a s t ws) : Ev (tFld K (tVar i) "tracks") σ H (.int t) := fun H1 e Q q => by
  obtain ⟨dx, v', d, kvs, g1, _⟩ := hb.ex e
  exact ⟨.ref a, h1, a, C, dx, BoxFs s t v' d, .int t, rfl, g1, B.cls, B.a2, rfl, q H1 (Ex.refl _)⟩
theorem ed_switches (B : BoxC K C) {i : Nat} {σ : L2.St} {H : Hp} {a : Addr} {s t : Int} {ws : List Sw} (h1 : σ[i]? = some (some (.ref a))) (hb : BxAt P w K C H a s t ws) : EvD K (tFld K (tVar i) "switches") σ H (.tuple (ws.map swD)) := fun H1 e Q q => by
  obtain ⟨dx, v', d, kvs, g1, g2, _⟩ := hb.ex e
  exact ⟨.ref a, h1, a, C, dx, BoxFs s t v' d, v', rfl, g1, B.cls, B.a3, rfl, q _ H1 (Ex.refl _) g2⟩
theorem BxAt.ty (B : BoxC K C) (T : BoxT K C) {H : Hp} {a : Addr} {s t : Int} {ws : List Sw} (h : BxAt P w K C H a s t ws) : TyX K H (.ref a) (.ref C) := by
  obtain ⟨dx, v', d, kvs, g1, _⟩ := h
  exact .base (.ins g1 B.cls T.ca T.sp T.tk T.mr)
theorem dp_notFirst (T : BoxT K C) {d : PyData} (h : tyD d = "tuple" ∨ tyD d = "NoneType") : PySem.W.notFirst K C (.type (tyD d)) = true ∧ PySem.W.kitOne K (.type (tyD d)) (.ref C) = some false := by
  rcases h with h | h <;> rw [h]
  · exact ⟨T.nt, T.kt⟩
  · exact ⟨T.nn, T.kn⟩
abbrev s_beq : Stmt := inClass s_Box 1
abbrev N_beq : List Str := ["self", "other"]
theorem sc_beq : FnScope N_beq ["self", "other"] (defScope s_beq) := ⟨rfl, rfl, rfl, by decide +kernel, rfl, by decide +kernel, by decide +kernel⟩
theorem ok_beq {f : Addr} {fd : FuncData} (F : Fun K "__eq__" "Box.__eq__" s_beq f fd) (Tx : Txt mg) (B : BoxC K C) (T : BoxT K C) (gB : mg "Box" = some (.ref C)) :
    FnOk P w K mg base CX0 1 f fd ["self", "other"] (spEqB P w K C) := by
  refine F.ok sc_beq (fun vs H Q E h => by obtain ⟨_, _, _, _, _, rfl, _⟩ := h; rfl) (fun cdv A outer s0 H vs Q E hr h => ?_)
  obtain ⟨a, v, s, t, ws, rfl, ha, h⟩ := h
  refine ⟨_, (pss_one (ps_ret (pe_and (pe_callB call_isi (by rfl) Tx.b_isinstance (by decide +kernel) (pa_cons (pv 1) (pa_cons (pe_glob (v := .ref C) (by rfl) gB (show L2.RelV (.ref C) (.ref C) from rfl) (by decide)) pa_nil))) (pe_and (pe_cmpR op_eq (pe_fld (pv 0) rfl) (pe_fld (pv 1) rfl) (nomark _)) (pe_and (pe_cmpR op_eq (pe_fld (pv 0) rfl) (pe_fld (pv 1) rfl) (nomark _)) (pe_one (pe_cmpR (op_eqD (hu64 hr)) (pe_fld (pv 0) rfl) (pe_fld (pv 1) rfl) (nomark _)))))))), ?_⟩
  rcases h with ⟨b, s', t', ws', rfl, hb, k⟩ | ⟨d, hd, hty, k⟩
  · refine ⟨_, rfl, .ref b, .ref C, .ref C, .ref C, true, rfl, .own C, hb.ty B T, ?_, true, rfl, ?_⟩
    · unfold PySem.W.kitOne
      rw [if_pos (by simp)]
    rw [if_pos rfl]
    refine ev_op (ev_sides B (i := 0) rfl ha) (ev_sides B (i := 1) rfl hb) (rv_eq rfl) H (Ex.refl _) _ fun H1 e1 => ⟨_, rfl, ?_⟩
    split
    · rename_i c1
      refine ev_op (ev_tracks B (i := 0) rfl ha) (ev_tracks B (i := 1) rfl hb) (rv_eq rfl) H1 e1 _ fun H2 e2 => ⟨_, rfl, ?_⟩
      split
      · rename_i c2
        refine ev_eqD (K := K) (ed_switches B (i := 0) rfl ha) (ed_switches B (i := 1) rfl hb) (shaped_sws ws) (shaped_sws ws') H2 (e1.trans e2) _ fun H3 e3 => ?_
        have e : PyData.eqv (.tuple (ws.map swD)) (.tuple (ws'.map swD)) = decide (s = s' ∧ t = t' ∧ ws = ws') := by
          rw [PyData.eqv, eqvAll_sws]
          simp only [decide_eq_true_eq, V.int.injEq] at c1 c2
          simp [c1, c2]
        rw [e]
        exact k H3 ((e1.trans e2).trans e3)
      · rename_i c2
        have e : decide (s = s' ∧ t = t' ∧ ws = ws') = false := by
          simp only [decide_eq_true_eq, V.int.injEq] at c2
          simp [c2]
        exact e ▸ k H2 (e1.trans e2)
    · rename_i c1
      have e : decide (s = s' ∧ t = t' ∧ ws = ws') = false := by
        simp only [decide_eq_true_eq, V.int.injEq] at c1
        simp [c1]
      exact e ▸ k H1 e1
  · exact ⟨_, rfl, v, .ref C, .type (tyD d), .ref C, false, rfl, .own C, tyD_dp hd, (dp_notFirst T hty).2, false, rfl, k H (Ex.refl _)⟩
end
end K16
set_option Elab.async false
set_option linter.all false
set_option maxRecDepth 100000
set_option maxHeartbeats 4000000
namespace K16
open PySem PySem.Spec PyProof.Rows L2 Evl DL
local macro_rules | `(tactic| walk_at "dl") => `(tactic| first
  | exact ev_c | exact ev_var rfl | exact eda_nil
  | exact ed_var rfl (by assumption)
  | exact ed_int ev_c | exact ed_int (ev_var rfl)
  | (refine eda_cons ?_ ?_ <;> walk_at "dl")
  | (refine ed_int ?_; walk_at "dl")
  | (refine ev_op ?_ ?_ rv_I0 <;> walk_at "dl"))

theorem sl_listK {X : Cx} (K : PySem.W.Frag) (h : X.K = K) : SlR X (rSlL K) := h ▸ sl_list
section
variable {K : PySem.W.Frag} {st lg cl : Addr} {n : Nat} {σ : L2.St} {H : Hp} {te : TE} {ta : TA} {g : TG} {ds : List PyData} {D : Ends} {tz : TS}
theorem q_asgV (h : te σ H fun v H1 => g v σ H1 fun σ1 H2 => tz D σ1 H2) : tSeq (tAsg te g) tz D σ H := h
theorem q_ifS2 {t : TT} {sa sb : TS} {b : Bool} (h : EvT t σ H b) (h1 : b = true → ∀ H1, Ex H H1 → tSeq sa tz D σ H1) (h2 : b = false → ∀ H1, Ex H H1 → tSeq sb tz D σ H1) : tSeq (tIfS t sa sb) tz D σ H := h H (Ex.refl _) _ fun H1 e1 => by
  cases b with
  | true => exact h1 rfl H1 e1
  | false => exact h2 rfl H1 e1
/-- an if that may change the state: what holds behind it is said once -/
theorem q_ifM {t : TT} {sa : TS} {b : Bool} (M : L2.St → Hp → Prop) (h : EvT t σ H b) (h1 : ∀ Z : L2.St → Hp → Prop, (∀ σ' H', M σ' H' → Z σ' H') → b = true → ∀ H1, Ex H H1 → sa { D with nx := Z } σ H1) (h2 : b = false → ∀ H1, Ex H H1 → M σ H1) (q : ∀ σ' H', M σ' H' → tz D σ' H') :
    tSeq (tIfS t sa tNext) tz D σ H := q_ifS2 h (fun hb H1 e => h1 (tz D) q hb H1 e) fun hb H1 e => q _ _ (h2 hb H1 e)
theorem et_orT {t u : TT} {a b : Bool} (h : EvT t σ H a) (h2 : a = false → EvT u σ H b) : EvT (tOr t u) σ H (a || b) := fun H1 e Q q => h H1 e _ fun H2 e2 => by
  cases a with
  | true => exact q H2 e2
  | false => exact h2 rfl H2 (e.trans e2) _ fun H3 e3 => q H3 (e2.trans e3)
theorem ed_ifT {tt : TT} {ta tb : TE} {d : PyData} {b : Bool} (h : EvT tt σ H b) (h1 : b = true → EvD K ta σ H d) (h2 : b = false → EvD K tb σ H d) : EvD K (tIf tt ta tb) σ H d := fun H1 e Q q => h H1 e _ fun H2 e2 => by
  cases b with
  | true => exact h1 rfl H2 (e.trans e2) _ fun v H3 e3 hv => q v H3 (e2.trans e3) hv
  | false => exact h2 rfl H2 (e.trans e2) _ fun v H3 e3 hv => q v H3 (e2.trans e3) hv
theorem cut_take {i : Int} (h : 0 ≤ i) : DL.cutD ds none (some i) = ds.take i.toNat := by
  unfold DL.cutD
  rw [show HT.sIx ds.length 0 none = 0 from rfl, show HT.sIx ds.length ds.length (some i) = min i.toNat ds.length from by show (if i < 0 then _ else _) = _; rw [if_neg (by omega)], List.drop_zero, Nat.sub_zero]
  rcases Nat.le_total i.toNat ds.length with h' | h'
  · rw [Nat.min_eq_left h']
  · rw [Nat.min_eq_right h', List.take_of_length_le (Nat.le_refl _), List.take_of_length_le h']
theorem pairs_c {c : V} {tv : TE} {rest : List (TE × TE)} {Q : List (V × V) → Hp → Prop} (h : tv σ H fun y H2 => tPairs rest σ H2 fun ps H3 => Q ((c, y) :: ps) H3) : tPairs ((tC c, tv) :: rest) σ H Q := h
theorem imm_mem : ∀ {ds : List PyData}, immAll ds = true → ∀ d ∈ ds, imm d = true
  | [], _, _, h => by cases h
  | d :: ds, hi, e, he => by
    rw [immAll, Bool.and_eq_true] at hi
    rcases List.mem_cons.mp he with rfl | he
    · exact hi.1
    · exact imm_mem hi.2 e he
/-- _law_pick(state, xs), xs a new list of data that nothing changes -/
theorem v_pick {E : XK} {i : Nat} (s : StK st lg cl n H) (h0 : σ[i]? = some (some (.ref st))) (h : EvN K te σ H ds) (hi : immAll ds = true) (m1 : 1 ≤ ds.length) (m2 : ds.length ≤ 1000) (hn : n ≤ 10000) {Q : VK}
    (q : ∀ v d H1, d ∈ ds → Dp K H1 v d → Xp [st, lg] H H1 → StK st lg cl (n + 1) H1 → Q v H1) : tCall (spPick K) [] E (tCons (tVar i) (tCons te tNil)) σ H Q :=
  ⟨_, h0, h H (Ex.refl _) _ fun p vs H2 hp e2 h2 hd => by
    have s1 := stk_ne s hp
    have len := dpa_len hd
    refine ⟨st, lg, cl, n, p, vs, rfl, h2, s1.2.1, by omega, by omega, hn, stk_ex e2 s, fun r H3 hr x s3 => ?_⟩
    obtain ⟨j, hj, rfl⟩ := List.getElem_of_mem hr
    obtain ⟨d, hd1, hd2⟩ := dpa_getV hd (List.getElem?_eq_getElem hj)
    have hm := List.mem_of_getElem? hd1
    exact q _ d H3 hm (dp_tx (stk_tx (stk_ex e2 s) x) _ _ (imm_mem hi d hm) hd2) ((Xp.of_ex e2).trans x) s3⟩
end

def kSd : Key := .inr "sides"
def kMa : Key := .inr "many"
def kJo : Key := .inr "joined"
theorem kk_ne : kSd ≠ kMa ∧ kSd ≠ kJo ∧ kMa ≠ kJo := by decide +kernel
def scD (s m : Int) (v : V) : List (Key × V) := [(kSd, .int s), (kMa, .int m), (kJo, v)]
theorem sc_S {s m : Int} {v : V} : valV (scD s m v) kSd = some (.int s) := valV_pos rfl
theorem sc_M {s m : Int} {v : V} : valV (scD s m v) kMa = some (.int m) := by rw [scD, valV_neg kk_ne.1, valV_pos rfl]
theorem sc_J {s m : Int} {v : V} : valV (scD s m v) kJo = some v := by rw [scD, valV_neg kk_ne.2.1, valV_neg kk_ne.2.2, valV_pos rfl]
theorem merge_sc {s m : Int} {v : V} : mergeK [] (scD s m v) = scD s m v := by
  obtain ⟨a, b, c⟩ := kk_ne
  simp [mergeK, putK, scD, a, b, c]
/-- a scope: its sides, its tracks, its switches, ascending -/
structure Scp (most s m : Int) (us : List Sw) : Prop where
  sc : (s, m) ∈ scopes
  ok : ∀ u ∈ us, SwOk s m u
  up : risesD (us.map swD) = true
  nd : us.Nodup
  one : us ≠ []
  few : (us.length : Int) ≤ most
def ScAt (K : PySem.W.Frag) (H : Hp) (a : Addr) (most s m : Int) (us : List Sw) : Prop := Scp most s m us ∧ ∃ v, H a = some (.dK (scD s m v)) ∧ Dp K H v (.tuple (us.map swD))
def spScope (K : PySem.W.Frag) : Sp := fun vs H Q _ => ∃ (st lg cl : Addr) (n : Nat) (most : Int), vs = [.ref st, .int most] ∧ 1 ≤ most ∧ most ≤ 40 ∧ n ≤ 7900 ∧ StK st lg cl n H ∧
  ∀ a s m us H', H a = none → ScAt K H' a most s m us → Xp [st, lg] H H' → StK st lg cl (n + 50) H' → Q (.ref a) H'
def sixF : List Str := [Str.ofString "plain", Str.ofString "crossed", Str.ofString "crossed", Str.ofString "full", Str.ofString "some", Str.ofString "some"]
theorem six_ok : (sixF.all fun f => decide ((if decide (V.str f = V.str (Str.ofString "some")) = true then Str.ofString "full" else f) ∈ fashs)) = true := by decide +kernel
theorem scopes_ok : (scopes.all fun q => decide (2 ≤ q.1 ∧ q.1 ≤ 5 ∧ 1 ≤ q.2 ∧ q.2 ≤ 3)) = true := by decide +kernel
theorem scopes_bd {s m : Int} (h : (s, m) ∈ scopes) : 2 ≤ s ∧ s ≤ 5 ∧ 1 ≤ m ∧ m ≤ 3 := by simpa using List.all_eq_true.mp scopes_ok _ h
theorem sw_back {us : List Sw} {es : List PyData} (h : ∀ d ∈ es, d ∈ us.map swD) : ∃ ws : List Sw, es = ws.map swD ∧ ∀ w ∈ ws, w ∈ us := by
  induction es with
  | nil => exact ⟨[], rfl, fun _ h => by cases h⟩
  | cons d es ih =>
    obtain ⟨u, hu, rfl⟩ := List.mem_map.mp (h _ List.mem_cons_self)
    obtain ⟨ws, rfl, hw⟩ := ih fun e he => h e (List.mem_cons_of_mem _ he)
    exact ⟨u :: ws, rfl, fun x hx => (List.mem_cons.mp hx).elim (fun z => z ▸ hu) (hw x)⟩
theorem swD_inj {a b : Sw} (h : swD a = swD b) : a = b := by
  have := eqv_swD a b
  rw [h, eqv_swD] at this
  simpa using this.symm
theorem nodup_sw {us : List Sw} : (us.map swD).Nodup ↔ us.Nodup := ⟨fun h => List.Pairwise.of_map swD (fun _ _ ne e => ne (congrArg _ e)) h, fun h => List.pairwise_map.mpr (List.Pairwise.imp (fun ne e => ne (swD_inj e)) h)⟩
theorem alike_sws (us : List Sw) : PySem.W.AllAlike (us.map swD) := fun d hd e he => by
  obtain ⟨a, _, rfl⟩ := List.mem_map.mp hd
  obtain ⟨b, _, rfl⟩ := List.mem_map.mp he
  rfl
theorem sortable_sws (us : List Sw) : PySem.W.Sortable (us.map swD) := .inl fun d hd => by
  obtain ⟨a, _, rfl⟩ := List.mem_map.mp hd
  exact ⟨_, _, rfl⟩
theorem depth_sws (us : List Sw) : ∀ d ∈ us.map swD, d.depth ≤ 50 := fun d hd => by
  obtain ⟨a, _, rfl⟩ := List.mem_map.mp hd
  have := (flat_sw a).2
  omega
theorem flt1_sws (us : List Sw) : Flt1 (us.map swD) := fun d hd => by
  obtain ⟨a, _, rfl⟩ := List.mem_map.mp hd
  exact ⟨imm_sw a, flat_sw a⟩
section
variable {P : Program} {w : World} {K : PySem.W.Frag} {mg : Str → Option Value} {base : Heap}
abbrev s__law_scope : Stmt := topS 47
abbrev N__law_scope : List Str := ["_law_state", "_law_most", "_law_sides_here", "_law_many", "_law_fashion", "_law_joined_here"]
theorem sc__law_scope : FnScope N__law_scope ["_law_state", "_law_most"] (defScope s__law_scope) := ⟨rfl, rfl, rfl, by decide +kernel, rfl, by decide +kernel, by decide +kernel⟩
theorem ok__law_scope {f : Addr} {fd : FuncData} (F : Fun K "_law_scope" "_law_scope" s__law_scope f fd) (T : Txt mg)
    (D__law_draw : DF P w K mg base "_law_draw" 1 ["_law_state", "_law_size_here"] (spDraw K)) (D__law_pick : DF P w K mg base "_law_pick" 2 ["_law_state", "_law_several"] (spPick K)) (D__law_mixed : DF P w K mg base "_law_mixed" 2 ["_law_state", "_law_several"] (spMixed K)) (D__law_joined : DF P w K mg base "_law_joined" 2 ["_law_sides_here", "_law_many", "_law_fashion"] (spN K 3 R_law_joined))  :
    FnOk P w K mg base CX0 3 f fd ["_law_state", "_law_most"] (spScope K) := by
  refine F.ok sc__law_scope (fun vs H Q E h => by obtain ⟨_, _, _, _, _, rfl, _⟩ := h; rfl) (fun cdv A outer s H vs Q E hr h => ?_)
  obtain ⟨st, lg, cl, n, most, rfl, m1, m2, hn, hst, k⟩ := h
  refine ⟨_, (pss_cons (ps_asg (pe_D D__law_pick (hr.mono (by decide)) (by rfl) (pa_cons (pv 0) (pa_cons (pe_lst (pa_cons (pe_tup (pa_cons pe_int (pa_cons pe_int pa_nil))) (pa_cons (pe_tup (pa_cons pe_int (pa_cons pe_int pa_nil))) (pa_cons (pe_tup (pa_cons pe_int (pa_cons pe_int pa_nil))) (pa_cons (pe_tup (pa_cons pe_int (pa_cons pe_int pa_nil))) (pa_cons (pe_tup (pa_cons pe_int (pa_cons pe_int pa_nil))) (pa_cons (pe_tup (pa_cons pe_int (pa_cons pe_int pa_nil))) (pa_cons (pe_tup (pa_cons pe_int (pa_cons pe_int pa_nil))) (pa_cons (pe_tup (pa_cons pe_int (pa_cons pe_int pa_nil))) (pa_cons (pe_tup (pa_cons pe_int (pa_cons pe_int pa_nil))) pa_nil)))))))))) pa_nil))) (pg_tup rfl (pgs_cons (pg_name (i := 2) sc__law_scope.nd rfl (Or.inl rfl)) (pgs_cons (pg_name (i := 3) sc__law_scope.nd rfl (Or.inl rfl)) pgs_nil))))
      (pss_cons (ps_set (i := 4) sc__law_scope.nd rfl (.inl rfl) (pe_D D__law_pick (hr.mono (by decide)) (by rfl) (pa_cons (pv 0) (pa_cons (pe_lst (pa_cons pe_str (pa_cons pe_str (pa_cons pe_str (pa_cons pe_str (pa_cons pe_str (pa_cons pe_str pa_nil))))))) pa_nil))))
      (pss_cons (ps_set (i := 5) sc__law_scope.nd rfl (.inl rfl) (pe_D D__law_joined (hr.mono (by decide)) (by rfl) (pa_cons (pv 2) (pa_cons (pv 3) (pa_cons (pe_ifExp (pt_cmpR op_eq (pv 4) pe_str (nomark _)) pe_str (pv 4)) pa_nil)))))
      (pss_cons (ps_if (PW.pt (pw_or (pt_cmpR op_eq (pv 4) pe_str (nomark _)) (pw_or1 (pt_cmpR op_gt (pe_callB call_len_seq (by rfl) T.b_len PySem.boot_len (pa_cons (pv 5) pa_nil)) (pv 1) (nomark _))))) (pss_one (ps_set (i := 5) sc__law_scope.nd rfl (.inl rfl) (pe_callB (cr_sortedD (hu64 hr)) (by rfl) T.b_sorted (by decide +kernel) (pa_cons (pe_slice (sl_listK K rfl) (pe_D D__law_mixed (hr.mono (by decide)) (by rfl) (pa_cons (pv 0) (pa_cons (pv 5) pa_nil))) po_none (po_some (pe_op op_add pe_int (pe_D D__law_draw (hr.mono (by decide)) (by rfl) (pa_cons (pv 0) (pa_cons (pv 1) pa_nil)))))) pa_nil)))) pss_nil)
      (pss_one (ps_ret (pe_disp (pps_cons pe_str (pv 2) (pps_cons pe_str (pv 3) (pps_cons pe_str (pe_callTy call_tuple_of (by rfl) T.b_tuple (by decide +kernel) (pa_cons (pv 5) pa_nil)) pps_nil))) (by rfl) (by rfl) (fun z => by cases z) (by decide)))))))), ?_⟩
  refine q_asgV (v_pick (K := K) (ds := scopes.map pD) (n := n) hst rfl (en_lst (eda_cons (ed_tup (eda_cons (ed_int ev_c) (eda_cons (ed_int ev_c) eda_nil)) (by simp)) (eda_cons (ed_tup (eda_cons (ed_int ev_c) (eda_cons (ed_int ev_c) eda_nil)) (by simp)) (eda_cons (ed_tup (eda_cons (ed_int ev_c) (eda_cons (ed_int ev_c) eda_nil)) (by simp)) (eda_cons (ed_tup (eda_cons (ed_int ev_c) (eda_cons (ed_int ev_c) eda_nil)) (by simp)) (eda_cons (ed_tup (eda_cons (ed_int ev_c) (eda_cons (ed_int ev_c) eda_nil)) (by simp)) (eda_cons (ed_tup (eda_cons (ed_int ev_c) (eda_cons (ed_int ev_c) eda_nil)) (by simp)) (eda_cons (ed_tup (eda_cons (ed_int ev_c) (eda_cons (ed_int ev_c) eda_nil)) (by simp)) (eda_cons (ed_tup (eda_cons (ed_int ev_c) (eda_cons (ed_int ev_c) eda_nil)) (by simp)) (eda_cons (ed_tup (eda_cons (ed_int ev_c) (eda_cons (ed_int ev_c) eda_nil)) (by simp)) eda_nil))))))))) (by decide)) (by decide +kernel) (by decide) (by decide) (by omega) fun v d H1 hd hv x1 s1 => ?_)
  obtain ⟨⟨s, m⟩, hsm, rfl⟩ := List.mem_map.mp hd
  obtain ⟨b1, b2, b3, b4⟩ := scopes_bd hsm
  refine g_two hv fun w1 w2 u1 u2 => ?_
  cases dp_int u1
  cases dp_int u2
  show tSeq _ _ _ [some (.ref st), some (.int most), some (.int s), some (.int m), none, none] H1
  refine q_asgV (v_pick (K := K) (ds := sixF.map PyData.str) s1 rfl (en_lst (eda_cons (ed_str ev_c) (eda_cons (ed_str ev_c) (eda_cons (ed_str ev_c) (eda_cons (ed_str ev_c) (eda_cons (ed_str ev_c) (eda_cons (ed_str ev_c) eda_nil)))))) (by decide)) (by decide +kernel) (by decide) (by decide) (by omega) fun v d H2 hd hv x2 s2 => ?_)
  obtain ⟨f, hf, rfl⟩ := List.mem_map.mp hd
  cases hv
  show tSeq _ _ _ [some (.ref st), some (.int most), some (.int s), some (.int m), some (.str f), none] H2
  have hf' : (if decide (V.str f = V.str (Str.ofString "some")) = true then Str.ofString "full" else f) ∈ fashs := by simpa using List.all_eq_true.mp six_ok f hf
  obtain ⟨r1, r2, r3, r4⟩ := raw_ok hsm hf'
  dsimp only at r1 r2 r3 r4
  refine qn_asg (K := K) (en_call (R := R_law_joined) (ds := [.int s, .int m, .str (if decide (V.str f = V.str (Str.ofString "some")) = true then Str.ofString "full" else f)]) (eda_cons (ed_int (ev_var rfl)) (eda_cons (ed_int (ev_var rfl)) (eda_cons (ed_ifT (et_test (ev_op (ev_var rfl) ev_c (rv_eq rfl))) (fun hb => by rw [if_pos hb]; exact ed_str ev_c) (fun hb => by rw [if_neg (by rw [hb]; exact Bool.noConfusion)]; exact ed_str (ev_var rfl))) eda_nil))) rfl ⟨s, m, _, rfl, b1, b2, b3, (by omega), rfl⟩) fun p vs H3 hp e3 h3 hd3 => ?_
  generalize (if decide (V.str f = V.str (Str.ofString "some")) = true then Str.ofString "full" else f) = f' at *
  rw [srt_data] at hd3
  have pm0 := srt_perm (rawJ s m f')
  have s3 := stk_ex e3 s2
  have ne3 := stk_ne s2 hp
  have x13 : Xp [st, lg] H H3 := (x1.trans x2).trans (Xp.of_ex e3)
  have l40 : (srt (rawJ s m f')).length ≤ 40 := by rw [pm0.length_eq]; exact r4
  have l1 : 1 ≤ (srt (rawJ s m f')).length := by rw [pm0.length_eq]; exact Nat.pos_of_ne_zero fun z => r3 (List.eq_nil_of_length_eq_zero z)
  refine q_ifM (b := decide (V.str f = V.str (Str.ofString "some")) || decide (((srt (rawJ s m f')).length : Int) > most)) (fun σ' H' => ∃ p ys us, σ' = [some (.ref st), some (.int most), some (.int s), some (.int m), some (.str f), some (.ref p)] ∧ H' p = some (.lst ys) ∧ DpAll K H' ys (us.map swD) ∧ Scp most s m us ∧ Xp [st, lg] H H' ∧ StK st lg cl (n + 50) H')
    (et_orT (et_test (ev_op (ev_var rfl) ev_c (rv_eq rfl))) fun _ => et_test (ev_op (ev_is (ev_lenL (ed_var (k := 5) (v := .ref p) rfl (.lst (sq_of h3) hd3))) (by rw [List.length_map])) (ev_var rfl) rv_I0)) (fun Z hZ _ H4 e4 => ?_) (fun hb H4 e4 => ?_) ?_
  · have h4 := e4 _ _ h3
    have hd4 := dpa_ex e4 _ _ hd3
    have s4 := stk_ex e4 s3
    refine ⟨_, rfl, _, rfl, st, lg, cl, p, _, vs, _, rfl, sq_of h4, hd4, flt1_sws _, by rw [List.length_map]; omega, by omega, s4, fun p5 ys es H5 pm hp5 x5 h5 hd5 s5 => ?_⟩
    refine ⟨_, rfl, _, rfl, st, lg, cl, _, most, rfl, m1, by omega, by rw [List.length_map]; omega, s5, fun r H6 r0 r1' x6 s6 => ⟨_, _, rfl, rfl, _, rfl, ?_⟩⟩
    have n5 := stk_ne s4 hp5
    have h6 := x6 _ _ h5 (by simp [n5.1, n5.2.1])
    obtain ⟨ws, rfl, hws⟩ := sw_back (us := srt (rawJ s m f')) fun d hd => pm.mem_iff.mp hd
    have hd6 := dpa_tx (stk_tx s5 x6) _ _ (immAll_map imm_sw ws) hd5
    have lw : ws.length = (srt (rawJ s m f')).length := by simpa using pm.length_eq
    have ndw : ws.Nodup := nodup_sw.mp (pm.nodup_iff.mpr (nodup_sw.mpr (pm0.nodup_iff.mpr r1)))
    refine ⟨p5, ys, rfl, sq_of h6, fun p7 hp7 => ?_⟩
    have e7 := Ex.new (o := .lst (L2.cutV ys none (some (1 + r)))) hp7
    have ct : DL.cutD (ws.map swD) none (some (1 + r)) = (ws.take (1 + r).toNat).map swD := by rw [cut_take (by omega), List.map_take]
    have hd7 : DpAll K (L2.upd H6 p7 (.lst (L2.cutV ys none (some (1 + r))))) (L2.cutV ys none (some (1 + r))) ((ws.take (1 + r).toNat).map swD) := ct ▸ dpa_ex e7 _ _ (dpa_cut hd6)
    refine ⟨p7, _, (ws.take (1 + r).toNat).map swD, rfl, sq_of upd_same, hd7, alike_sws _, sortable_sws _, depth_sws _, fun p8 zs hp8 hz => ?_⟩
    have e8 := Ex.new (o := .lst zs) hp8
    rw [srt_data] at hz
    have ndt : (ws.take (1 + r).toNat).Nodup := List.Pairwise.sublist (List.take_sublist _ _) ndw
    have pt := srt_perm (ws.take (1 + r).toNat)
    have lt : (srt (ws.take (1 + r).toNat)).length = min (1 + r).toNat ws.length := by rw [pt.length_eq, List.length_take]
    refine hZ _ _ ⟨p8, zs, srt (ws.take (1 + r).toNat), rfl, upd_same, dpa_ex e8 _ _ hz, ⟨hsm, fun u hu => r2 u (pm0.mem_iff.mp (hws u (List.mem_of_mem_take (pt.mem_iff.mp hu)))), srt_rise ndt, pt.nodup_iff.mpr ndt, fun z => ?_, by rw [lt]; omega⟩, ((((x13.trans (Xp.of_ex e4)).trans x5).trans x6).trans (Xp.of_ex e7)).trans (Xp.of_ex e8), stk_mono (by rw [List.length_map]; omega) (stk_ex (e7.trans e8) s6)⟩
    rw [z] at lt
    simp only [List.length_nil] at lt
    omega
  · have h4 := e4 _ _ h3
    have hd4 := dpa_ex e4 _ _ hd3
    rw [Bool.or_eq_false_iff] at hb
    have few : ((srt (rawJ s m f')).length : Int) ≤ most := by have := of_decide_eq_false hb.2; omega
    exact ⟨p, vs, srt (rawJ s m f'), rfl, h4, hd4, ⟨hsm, fun u hu => r2 u (pm0.mem_iff.mp hu), srt_rise r1, pm0.nodup_iff.mpr r1, fun z => by rw [z] at l1; simp at l1, few⟩, x13.trans (Xp.of_ex e4), stk_mono (by omega) (stk_ex e4 s3)⟩
  · rintro σ' H5 ⟨p5, ys, us, rfl, h5, hd5, hsc, x5, s5⟩
    show tRet (tDisp _) _ [some (.ref st), some (.int most), some (.int s), some (.int m), some (.str f), some (.ref p5)] H5
    intro a ha
    have ea := Ex.new (o := .dK []) ha
    have tup := ed_tupleOf (K := K) (σ := [some (.ref st), some (.int most), some (.int s), some (.int m), some (.str f), some (.ref p5)]) (ed_var (k := 5) (v := .ref p5) rfl (.lst (sq_of h5) hd5)) _ ea
    refine ⟨_, rfl, _, rfl, ?_⟩
    refine pairs_c ?_
    refine tup _ fun v H6 e6 hv => ?_
    refine ⟨e6 _ _ upd_same, scD s m v, rfl, by show 3 ≤ 15; decide, ?_⟩
    rw [merge_sc]
    have fr : H a = none := by
      cases z : H a with
      | none => rfl
      | some o =>
        have ns := stk_ne s5 ha
        have := x5 a o z (by simp [ns.1, ns.2.1])
        rw [ha] at this
        cases this
    have e56 : Ex H5 (L2.upd H6 a (.dK (scD s m v))) := Ex.mut (ea.trans e6) ha
    refine k a s m us _ fr ⟨hsc, v, upd_same, dp_tx (Tx.upd (e6 _ _ upd_same) (fun _ z => nomatch z) fun _ _ z => nomatch z) _ _ (by simpa [imm] using immAll_map imm_sw us) hv⟩ (x5.trans (Xp.of_ex e56)) (stk_ex e56 s5)

end
end K16
set_option Elab.async false
set_option linter.all false
set_option maxRecDepth 100000
set_option maxHeartbeats 4000000
/-! {} and d[k] = v where keys are of any depth; walks while things that are no tuples change -/
namespace DL
open PySem PySem.Spec PyProof.Rows L2 Evl
/-- {} -/
def tDNewN (P : Program) (w : World) : TE := fun _ H Q => ∀ p, H p = none → Q (.ref p) (upd H p (NdO P w p []))
/-- d[k] = v -/
def sDPutN (P : Program) (w : World) (K : PySem.W.Frag) (td ty tv : TE) : TS := fun D σ H => tv σ H fun z H1 => td σ H1 fun x H2 => ty σ H2 fun y H3 => ∃ (d : Addr) (kvs : List (NestedKey × Addr × V)) (k : NestedKey) (b : Addr) (dd : PyData),
  x = .ref d ∧ y = .ref b ∧ Dp K H3 (.ref b) dd ∧ keyD dd = some k ∧ k.depth ≤ 8 ∧ Nd P w K H3 d kvs ∧ kvs.length < sizeLine ∧ D.nx σ (upd H3 d (NdO P w d (putN kvs k b z)))
section
variable {X : Cx} {o i value : Expr} {pos pos' : Pos} {td ty tv : TE}
theorem pe_dnewN : PE X (.Dict [] [] pos) (tDNewN X.prog X.w) := by
  constructor
  intro pins s σ H Q I h
  apply wpAny_Dict_empty
  have J := I.laid (a := s.heap.objs.size) (o := NdO X.prog X.w s.heap.objs.size []) (t' := s.toks) (fun _ _ q => Heap.get?_push_of_some _ q) (Nat.le_refl _) (nd_empty s.heap I.big)
  exact ⟨.ref s.heap.objs.size, _, J, rfl, h _ (I.hok.fresh (Nat.le_refl _))⟩
theorem ps_dputN (hu : X.A.units + 64 < cLine) (ho : PE X o td) (hi : PE X i ty) (hv : PE X value tv) (hs : swapsWith value (some (.Subscript o i pos')) pos.line X.env = pure false) :
    PS X (.Assign [.Subscript o i pos'] value pos) (sDPutN X.prog X.w X.K td ty tv) := by
  constructor
  intro pins s σ H D I h
  apply wpAny_Assign_Subscript _ hs
  refine thn (hv.run pins s σ H _ I h) fun r s1 z1 => ?_
  obtain ⟨v, H1, I1, rv, q1⟩ := z1
  refine thn (ho.run pins s1 σ H1 _ I1 q1) fun u s2 z2 => ?_
  obtain ⟨x, H2, I2, rx, q2⟩ := z2
  refine thn (hi.run pins s2 σ H2 _ I2 q2) fun iv s3 z3 => ?_
  obtain ⟨y, H3, I3, ry, d, kvs, k, b, dd, rfl, rfl, hb, hk, dep, N, sz, q3⟩ := z3
  obtain rfl : u = Value.ref d := rx
  obtain rfl : iv = Value.ref b := ry
  obtain ⟨z, hd, xs, rel, dd'⟩ := nd_open I3 N
  have lx : xs.length ≤ sizeLine := Paired.length rel ▸ z
  have room : (nestedKind X.prog X.w).room X.A.in1 := by
    show X.A.in1.units + 8 < cLine
    have : X.A.in1.units ≤ X.A.units + 1 := Nat.le_of_eq rfl
    omega
  refine wpAny_setItem_heap (hsz := lx) room ⟨nested_of I3 dd k _ _ hk hb rfl, dep⟩ dd' fun h' now but => ?_
  obtain ⟨ob, es, ep, ho, ex, hdat, hl, _, nd⟩ := now
  have pl := putN_len kvs k b v
  exact ⟨σ, _, d_write I3 (by rw [N.at_]; exact True.intro) but ⟨ob, ho⟩ (ndO_ok (by omega) hd (put_pair rel k b rv) ho ex hdat hl nd), q3⟩
end
/-- no tuples stand at S -/
def NT (H : Hp) (S : List Addr) : Prop := ∀ p ∈ S, ∃ o, H p = some o ∧ (∀ xs, o ≠ .tup xs) ∧ ∀ ob xs, o ≠ .frz ob (.tup xs)
theorem NT.nd {P : Program} {w : World} {H : Hp} {d : Addr} {kvs : List (NestedKey × Addr × V)} (h : H d = some (NdO P w d kvs)) : NT H [d] := fun p hp => by
  obtain rfl : p = d := by simpa using hp
  exact ⟨_, h, (fun _ z => nomatch z), fun _ _ z => nomatch z⟩
theorem NT.ex {H H' : Hp} {S : List Addr} (h : NT H S) (e : Ex H H') : NT H' S := fun p hp => by
  obtain ⟨o, a, b⟩ := h p hp
  exact ⟨o, e _ _ a, b⟩
theorem Xp.txN {S : List Addr} {H H' : Hp} (e : Xp S H H') (h : NT H S) : Tx H H' := fun a xs r => by
  have out : ∀ o, H a = some o → ((∃ ys, o = .tup ys) ∨ ∃ ob ys, o = .frz ob (.tup ys)) → a ∉ S := fun o ho c hs => by
    obtain ⟨u, hu, n1, n2⟩ := h a hs
    obtain rfl : u = o := Option.some.inj (hu.symm.trans ho)
    rcases c with ⟨ys, rfl⟩ | ⟨ob, ys, rfl⟩
    · exact n1 ys rfl
    · exact n2 ob ys rfl
  rcases r with r | ⟨ob, r⟩
  · exact Or.inl (e _ _ r (out _ r (.inl ⟨_, rfl⟩)))
  · exact Or.inr ⟨ob, e _ _ r (out _ r (.inr ⟨_, _, rfl⟩))⟩
/-- a tuple is walked -/
theorem ei_tupN {K : PySem.W.Frag} {σ : L2.St} {H : Hp} {te : TE} {ds : List PyData} {S : List Addr} (hS : NT H S) (h : EvD K te σ H (.tuple ds)) (hi : immAll ds = true) : EvI K (iTup K te) σ H S ds := fun H1 e R r =>
  h H1 e _ fun w H2 e2 hw => by
    cases hw with
    | tup hs ha =>
      refine ⟨_, rfl, ⟨_, hs⟩, r _ H2 e2 ?_⟩
      have N2 := hS.ex (e.trans e2)
      rw [← dpa_len ha]
      refine walk_tup.mono (fun Ha x => sqT_tx (x.txN N2) hs) fun i Ha x Hb hlt hg y => ?_
      obtain ⟨rfl, hx⟩ := y
      obtain ⟨d, g1, g2⟩ := dpa_getV (dpa_tx (hg.txN N2) _ _ hi ha) hx
      exact ⟨Ex.refl _, d, g1, g2⟩
section
variable {P : Program} {w : World} {K : PySem.W.Frag} {σ : L2.St} {H : Hp} {ta : TE}
/-- k in d -/
theorem ev_inN {i j : Nat} {d b : Addr} {kvs : List (NestedKey × Addr × V)} {k : NestedKey} {dd : PyData} (h1 : σ[i]? = some (some (.ref b))) (h2 : σ[j]? = some (some (.ref d))) (N : Nd P w K H d kvs) (hb : Dp K H (.ref b) dd) (hk : keyD dd = some k) (dep : k.depth ≤ 8) :
    Ev (tOp (rInN P w K false) (tVar i) (tVar j)) σ H (.bl (hasN kvs k)) := fun H1 e Q q => ⟨_, h1, _, h2, d, kvs, b, dd, k, rfl, rfl, N.ex e, dp_ex e _ _ hb, hk, dep, q H1 (Ex.refl _)⟩
/-- d[k] = True -/
theorem q_dputN {i j : Nat} {d b : Addr} {kvs : List (NestedKey × Addr × V)} {k : NestedKey} {dd : PyData} {v : V} {tz : TS} {D : Ends} (h1 : σ[i]? = some (some (.ref d))) (h2 : σ[j]? = some (some (.ref b))) (N : Nd P w K H d kvs) (hb : Dp K H (.ref b) dd) (hk : keyD dd = some k) (dep : k.depth ≤ 8) (sz : kvs.length < 100000)
    (q : tz D σ (upd H d (NdO P w d (putN kvs k b v)))) : tSeq (sDPutN P w K (tVar i) (tVar j) (tC v)) tz D σ H := ⟨_, h1, _, h2, d, kvs, k, b, dd, rfl, rfl, hb, hk, dep, N, sz_lt sz, q⟩
theorem s_dputN {i j : Nat} {d b : Addr} {kvs : List (NestedKey × Addr × V)} {k : NestedKey} {dd : PyData} {v : V} {D : Ends} (h1 : σ[i]? = some (some (.ref d))) (h2 : σ[j]? = some (some (.ref b))) (N : Nd P w K H d kvs) (hb : Dp K H (.ref b) dd) (hk : keyD dd = some k) (dep : k.depth ≤ 8) (sz : kvs.length < 100000)
    (q : D.nx σ (upd H d (NdO P w d (putN kvs k b v)))) : sDPutN P w K (tVar i) (tVar j) (tC v) D σ H := ⟨_, h1, _, h2, d, kvs, k, b, dd, rfl, rfl, hb, hk, dep, N, sz_lt sz, q⟩
end
end DL
set_option Elab.async false
set_option linter.all false
set_option maxRecDepth 100000
set_option maxHeartbeats 4000000
/-! sets of keys of any depth, up to two thousand of them: the table -/
namespace GS
open PySem PySem.Spec PyProof.Rows L2
open SetTable (bits turns leap runEnd below)

/-! a way over a power of two of slots meets each of them -/
def five : Nat → Nat
  | 0 => 0
  | k + 1 => 5 * five k + 1
theorem five_pow : ∀ n, 5 ^ n = 4 * five n + 1
  | 0 => rfl
  | n + 1 => by rw [Nat.pow_succ, five_pow n, five]; omega
theorem five_add : ∀ a b, five (a + b) = five a + 5 ^ a * five b
  | 0, b => by simp [five]
  | a + 1, b => by
    have e : a + 1 + b = (a + b) + 1 := by omega
    have e3 : 5 ^ (a + 1) * five b = 5 * (5 ^ a * five b) := by rw [Nat.pow_succ, Nat.mul_comm (5 ^ a) 5, Nat.mul_assoc]
    rw [e, five, five_add a b, five, e3]
    omega
theorem five_two : ∀ j, ∃ q, five (2 ^ j) = 2 ^ j * (2 * q + 1)
  | 0 => ⟨0, by simp [five]⟩
  | j + 1 => by
    obtain ⟨q, e⟩ := five_two j
    have e2 : 2 ^ (j + 1) = 2 ^ j + 2 ^ j := by rw [Nat.pow_succ]; omega
    refine ⟨q + (2 * q + 1) * five (2 ^ j), ?_⟩
    rw [e2, five_add, five_pow]
    generalize 2 ^ j = N at e
    generalize five N = F at e
    subst e
    grind
theorem five_odd (F q : Nat) : ((4 * F + 1) * (2 * q + 1)) % 2 = 1 := by
  rw [Nat.mul_mod, show (4 * F + 1) % 2 = 1 by omega, show (2 * q + 1) % 2 = 1 by omega]
theorem five_meets : ∀ j r, ∃ k, k < 2 ^ j ∧ five k % 2 ^ j = r % 2 ^ j
  | 0, r => ⟨0, by simp, by simp [Nat.mod_one]⟩
  | j + 1, r => by
    obtain ⟨k, hk, e⟩ := five_meets j r
    have e2 : 2 ^ (j + 1) = 2 ^ j * 2 := Nat.pow_succ ..
    by_cases c : five k / 2 ^ j % 2 = r / 2 ^ j % 2
    · exact ⟨k, by omega, by rw [e2, Nat.mod_mul, Nat.mod_mul, e, c]⟩
    · obtain ⟨q, eq⟩ := five_two j
      have e3 : five (k + 2 ^ j) = five k + 2 ^ j * ((4 * five k + 1) * (2 * q + 1)) := by rw [five_add, eq, five_pow, Nat.mul_left_comm]
      refine ⟨k + 2 ^ j, by omega, ?_⟩
      have o := five_odd (five k) q
      rw [e2, Nat.mod_mul, Nat.mod_mul, e3, Nat.add_mul_mod_self_left, e, Nat.add_mul_div_left _ _ (Nat.two_pow_pos j)]
      have z : (five k / 2 ^ j + (4 * five k + 1) * (2 * q + 1)) % 2 = r / 2 ^ j % 2 := by omega
      rw [z]
theorem five_round (j b : Nat) : five (2 ^ j + b) % 2 ^ j = five b % 2 ^ j := by
  obtain ⟨q, eq⟩ := five_two j
  rw [five_add, five_pow, eq]
  generalize 2 ^ j = N
  generalize five b = B
  have e : N * (2 * q + 1) + (4 * (N * (2 * q + 1)) + 1) * B = B + N * ((2 * q + 1) + 4 * ((2 * q + 1) * B)) := by grind
  rw [e, Nat.add_mul_mod_self_left]
/-- a mask: 7 to 8191 -/
def Msk (m : Nat) : Prop := ∃ j, 3 ≤ j ∧ j ≤ 13 ∧ m + 1 = 2 ^ j
theorem Msk.le {m : Nat} (h : Msk m) : m ≤ 8191 := by
  obtain ⟨j, _, j2, e⟩ := h
  have : 2 ^ j ≤ 2 ^ 13 := Nat.pow_le_pow_right (by decide) j2
  omega
theorem Msk.odd {m : Nat} (h : Msk m) : m % 2 = 1 := by
  obtain ⟨j, j1, _, e⟩ := h
  obtain ⟨i, rfl⟩ : ∃ i, j = i + 1 := ⟨j - 1, by omega⟩
  rw [Nat.pow_succ] at e
  omega
theorem lcg_five {m : Nat} : ∀ k, lcgN m k = five k % (m + 1)
  | 0 => by simp [lcgN, five]
  | k + 1 => by
    show (lcgN m k * 5 + 1) % (m + 1) = (5 * five k + 1) % (m + 1)
    rw [lcg_five k, Nat.add_mod, Nat.mul_mod, Nat.mod_mod, ← Nat.mul_mod, ← Nat.add_mod, Nat.mul_comm]
theorem lcg_from {m : Nat} (hm : Msk m) {i j : Nat} (hi : i ≤ m) (hj : j ≤ m) : ∃ k, k ≤ m ∧ lcgI m i k = j := by
  obtain ⟨p, _, _, ep⟩ := hm
  obtain ⟨a, a1, a2⟩ := five_meets p i
  obtain ⟨b, b1, b2⟩ := five_meets p j
  have ea : lcgN m a = i := by rw [lcg_five, ep, a2, Nat.mod_eq_of_lt (by omega)]
  have eb : lcgN m b = j := by rw [lcg_five, ep, b2, Nat.mod_eq_of_lt (by omega)]
  rw [← ea]
  by_cases c : b < a
  · refine ⟨b + 2 ^ p - a, by omega, ?_⟩
    rw [lcgN_add, show a + (b + 2 ^ p - a) = 2 ^ p + b by omega, lcg_five, ep, five_round, ← ep, ← lcg_five, eb]
  · refine ⟨b - a, by omega, ?_⟩
    rw [lcgN_add, show a + (b - a) = b by omega, eb]
theorem runs_meet {m : Nat} (hm : Msk m) (h : Int) {j : Nat} (hj : j ≤ m) : ∃ n, n ≤ m + 12 ∧ runI m (bits h) n = j := by
  obtain ⟨k, hk, e⟩ := lcg_from hm (runI_le m (bits h) 12) hj
  exact ⟨12 + k, by omega, (runI_tail (bits_lt h) k).trans e⟩
theorem way_in (m : Nat) (h : Int) (k : Nat) : way m h k ≤ m := by
  have a : bits h % (m + 1) ≤ m := Nat.le_of_lt_succ (Nat.mod_lt _ (Nat.succ_pos _))
  have b := runEnd_bd a
  have c := nth_in (m := m) k (runAt m (bits h % (m + 1)) (bits h)) (show bits h % (m + 1) + (runEnd m (bits h % (m + 1)) - bits h % (m + 1)) ≤ m by omega)
  have d : way m h k = (nth m (runAt m (bits h % (m + 1)) (bits h)) k).j := rfl
  omega

/-! the table: what sits in it is found again -/
structure Tb (t : SetTable) (hs : List Int) : Prop where
  up : Ris t.place.toList
  nod : t.dummies = #[]
  len : t.place.toList.length = hs.length
  msk : Msk t.mask
  low : ∀ x, x ∈ t.place.toList → x ≤ t.mask
  got : ∀ (i : Nat) (h : Int) (j : Nat), hs[i]? = some h → t.place.toList[i]? = some j → ∃ k, way t.mask h k = j ∧ ∀ c, c < k → way t.mask h c ∈ t.place.toList
theorem Tb.gap {t : SetTable} {hs : List Int} (T : Tb t hs) (hl : hs.length ≤ t.mask) (h : Int) : ∃ K, K < 10 * turns t.mask ∧ way t.mask h K ∉ t.place.toList ∧ ∀ c, c < K → way t.mask h c ∈ t.place.toList := by
  obtain ⟨j, j1, j2⟩ := st_missing t.place.toList (t.mask + 1) (by rw [T.len]; omega)
  obtain ⟨n, n1, n2⟩ := runs_meet T.msk h (Nat.le_of_lt_succ j1)
  obtain ⟨k, k1, k2⟩ := run_nth t.mask (bits h) n
  have kj : way t.mask h k = j := (congrArg SetTable.Probe.j k2).trans n2
  obtain ⟨K, a, b, c⟩ := st_least (p := fun k => way t.mask h k ∉ t.place.toList) k (by rw [kj]; exact j2)
  exact ⟨K, by unfold turns; omega, b, fun x hx => Classical.not_not.mp (c x hx)⟩
theorem Tb.early {t : SetTable} {hs : List Int} (T : Tb t hs) {h : Int} {K i j : Nat} (hK : way t.mask h K ∉ t.place.toList) (hi : hs[i]? = some h) (hj : t.place.toList[i]? = some j) : ∃ k, k < K ∧ way t.mask h k = j := by
  obtain ⟨k, e, c⟩ := T.got i h j hi hj
  refine ⟨k, Nat.lt_of_not_le fun z => hK ?_, e⟩
  rcases Nat.lt_or_eq_of_le z with z | z
  · exact c K z
  · rw [z, e]
    exact List.mem_of_getElem? hj
/-- one more, at the way's first empty slot -/
theorem Tb.more {t : SetTable} {hs : List Int} (T : Tb t hs) {h : Int} {K b : Nat} (hb : below t.place (way t.mask h K) = b) (hK : way t.mask h K ∉ t.place.toList) (hc : ∀ c, c < K → way t.mask h c ∈ t.place.toList) :
    b ≤ hs.length ∧ Tb (t.put (way t.mask h K)).1 (hs.take b ++ h :: hs.drop b) := by
  have w0 := way_in t.mask h K
  generalize ej : way t.mask h K = j at *
  have b1 : b ≤ t.place.toList.length := hb ▸ (below_cut T.up j).1
  have b2 : b ≤ hs.length := T.len ▸ b1
  have pl := put_place t j
  rw [hb] at pl
  have keep : ∀ {x}, x ∈ t.place.toList → x ∈ (t.put j).1.place.toList := fun hx => by rw [pl]; exact mem_ins.2 (.inr hx)
  refine ⟨b2, ⟨ris_insert T.up fun e => hK (List.mem_of_getElem? (by rw [Array.getElem?_toList]; exact e)), put_dm T.nod j, by rw [pl, len_ins _ b1, len_ins _ b2, T.len], T.msk, fun x hx => ?_, fun i g y g1 g2 => ?_⟩⟩
  · rw [pl] at hx
    rcases mem_ins.1 hx with rfl | hx
    · exact w0
    · exact T.low x hx
  · show ∃ k, way t.mask g k = y ∧ ∀ c, c < k → way t.mask g c ∈ (t.put j).1.place.toList
    rw [tins_get hs b2] at g1
    rw [pl, tins_get _ b1] at g2
    have old : ∀ q, hs[q]? = some g → t.place.toList[q]? = some y → ∃ k, way t.mask g k = y ∧ ∀ c, c < k → way t.mask g c ∈ (t.put j).1.place.toList := fun q q1 q2 => by
      obtain ⟨k, e, z⟩ := T.got q g y q1 q2
      exact ⟨k, e, fun c hc => keep (z c hc)⟩
    by_cases c1 : i < b
    · rw [if_pos c1] at g1 g2
      exact old i g1 g2
    · rw [if_neg c1] at g1 g2
      by_cases c2 : i = b
      · rw [if_pos c2] at g1 g2
        cases g1
        cases g2
        exact ⟨K, ej, fun c z => keep (hc c z)⟩
      · rw [if_neg c2] at g1 g2
        exact old (i - 1) g1 g2

/-! laid anew -/
theorem free_at {m : Nat} (hm : Msk m) (owner : Array (Option Nat)) (h : Int) {j : Nat} (hj : j ≤ m) (hf : oAt owner j = none) :
    ∃ K, SetTable.layClean.free m owner (turns m) (bits h % (m + 1)) (bits h) = some (way m h K) ∧ oAt owner (way m h K) = none ∧ ∀ c, c < K → oAt owner (way m h c) ≠ none := by
  obtain ⟨n, hn, e⟩ := runs_meet hm h hj
  let o := off m (bits h % (m + 1)) (bits h) n
  have wo : way m h o = j := by
    show (nth m (runAt m (bits h % (m + 1)) (bits h)) (off m (bits h % (m + 1)) (bits h) n)).j = j
    rw [nth_off, itL_run]
    exact e
  obtain ⟨K, k1, k2, k3⟩ := st_least (p := fun k => oAt owner (way m h k) = none) o (by rw [wo]; exact hf)
  refine ⟨K, free_spec m owner (turns m) n _ _ K (by unfold turns; omega) k1 (fun c hc => ?_) (by rw [show oAt owner (nth m (runAt m (bits h % (m + 1)) (bits h)) K).j = none from k2]; rfl), k2, k3⟩
  have z := k3 c hc
  cases y : oAt owner (nth m (runAt m (bits h % (m + 1)) (bits h)) c).j with
  | none => exact absurd y z
  | some _ => rfl
theorem own_next {m : Nat} (hm : Msk m) {done : List Int} {owner : Array (Option Nat)} (W : Own m done owner) (hl : done.length ≤ m) (h : Int) :
    ∃ j, SetTable.layClean.free m owner (turns m) (bits h % (m + 1)) (bits h) = some j ∧ Own m (done ++ [h]) (owner.setIfInBounds j (some done.length)) := by
  obtain ⟨ps, p1, p2⟩ := W.ps
  obtain ⟨q, q1, q2⟩ := st_missing ps (m + 1) (by omega)
  have q3 : oAt owner q = none := Classical.not_not.mp fun z => q2 (p2 q (Nat.le_of_lt_succ q1) z)
  obtain ⟨K, e1, e2, e3⟩ := free_at hm owner h (Nat.le_of_lt_succ q1) q3
  have wi := way_in m h K
  have me := oAt_set_self (some done.length) (show way m h K < owner.size by rw [W.sz]; omega)
  have stay : ∀ {i : Nat}, oAt owner i ≠ none → oAt (owner.setIfInBounds (way m h K) (some done.length)) i ≠ none := fun {i} hi => by
    have ni : i ≠ way m h K := fun z => hi (by rw [z]; exact e2)
    rw [oAt_set_ne _ ni]
    exact hi
  refine ⟨way m h K, e1, ⟨by rw [Array.size_setIfInBounds, W.sz], fun j k hj e => ?_, fun k hk => ?_, ⟨way m h K :: ps, by simp [p1], fun j hj e => ?_⟩⟩⟩
  · by_cases c : j = way m h K
    · subst c
      rw [me] at e
      cases e
      exact ⟨h, K, by simp, rfl, fun x hx => stay (e3 x hx)⟩
    · rw [oAt_set_ne _ c] at e
      obtain ⟨g, G, g1, g2, g3⟩ := W.at_ j k hj e
      exact ⟨g, G, by rw [List.getElem?_append_left (List.getElem?_eq_some_iff.mp g1).1]; exact g1, g2, fun x hx => stay (g3 x hx)⟩
  · by_cases c : k < done.length
    · obtain ⟨j, hj, e⟩ := W.all k c
      exact ⟨j, hj, by rw [oAt_set_ne _ fun z => by rw [z, e2] at e; cases e]; exact e⟩
    · have ek : k = done.length := by simp at hk; omega
      exact ⟨way m h K, wi, ek ▸ me⟩
  · by_cases c : j = way m h K
    · exact c ▸ List.mem_cons_self
    · rw [oAt_set_ne _ c] at e
      exact List.mem_cons_of_mem _ (p2 j hj e)
theorem own_all {m : Nat} (hm : Msk m) : ∀ (rest done : List Int) (owner : Array (Option Nat)), Own m done owner → done.length + rest.length ≤ m →
    ∃ o', rest.foldl (stepF m) (some (owner, done.length)) = some (o', (done ++ rest).length) ∧ Own m (done ++ rest) o'
  | [], done, owner, W, _ => ⟨owner, by simp, by simpa using W⟩
  | h :: rest, done, owner, W, hl => by
    rw [List.length_cons] at hl
    obtain ⟨j, e, V⟩ := own_next hm W (by omega) h
    obtain ⟨o', f, U⟩ := own_all hm rest (done ++ [h]) _ V (by simp; omega)
    simp only [List.append_assoc, List.singleton_append] at f U
    refine ⟨o', ?_, U⟩
    rw [List.foldl_cons, stepF_some e]
    simpa using f
theorem own_laid {m : Nat} (hm : Msk m) {hs : Array Int} (hn : hs.size ≤ m) : ∃ owner, SetTable.layClean m hs = some owner ∧ Own m hs.toList owner := by
  obtain ⟨owner, f, W⟩ := own_all hm hs.toList [] _ (Own.init m) (by simpa using hn)
  refine ⟨owner, ?_, by simpa using W⟩
  rw [layClean_eq, show hs.toList.foldl (stepF m) (some (Array.replicate (m + 1) none, 0)) = _ from f]
  rfl
theorem tb_anew (t : SetTable) {hs : Array Int} {n M : Nat} (hw : SetTable.sizeAbove n - 1 = M) (hM : Msk M) (hn : hs.size ≤ M) :
    ∃ t' order, t.relaid hs n = some (t', order) ∧ order.toList.Perm (List.range hs.size) ∧ Tb t' (order.toList.map fun i => hs.getD i 0) ∧ t'.mask = M ∧ t'.led = t.led := by
  obtain ⟨owner, e, W⟩ := own_laid hM hn
  have ml {j k : Nat} : (j, k) ∈ liveOf M owner ↔ j ≤ M ∧ oAt owner j = some k := mem_live W.sz
  have rr := ris_live (fun j => owner.getD j none) (List.range (M + 1)) (by
    unfold Ris
    first | exact List.pairwise_lt_range | exact List.pairwise_lt_range _)
  have r1 : Ris ((liveOf M owner).map (·.1)) := rr.1
  have r2 : ∀ x, x ∈ (liveOf M owner).map (·.1) → x ∈ List.range (M + 1) := rr.2
  have nd : ((liveOf M owner).map (·.1)).Nodup := List.Pairwise.imp (fun z => Nat.ne_of_lt z) r1
  have ln : (liveOf M owner).length = hs.size := by
    obtain ⟨ps, p1, p2⟩ := W.ps
    have a := nat_nodup_len ((liveOf M owner).map (·.1)) ps nd fun x hx => by
      obtain ⟨⟨y, k⟩, hy, rfl⟩ := List.mem_map.mp hx
      exact p2 y (ml.1 hy).1 (by rw [(ml.1 hy).2]; exact fun z => nomatch z)
    have b := nat_nodup_len (List.range hs.size) ((liveOf M owner).map (·.2)) List.nodup_range fun k hk => by
      obtain ⟨j, b1, b2⟩ := W.all k (by simpa using hk)
      exact List.mem_map.mpr ⟨(j, k), ml.2 ⟨b1, b2⟩, rfl⟩
    simp only [List.length_map, List.length_range, p1, Array.length_toList] at a b
    omega
  refine ⟨tabOf t M owner, ((liveOf M owner).map (·.2)).toArray, by rw [relaid_eq, hw, e]; rfl, perm_range hs.size _ (by simpa using ln) fun k hk => ?_, ⟨r1, rfl, ?_, hM, fun x hx => ?_, fun i h j h1 h2 => ?_⟩, rfl, rfl⟩
  · obtain ⟨j, b1, b2⟩ := W.all k (by simpa using hk)
    exact List.mem_map.mpr ⟨(j, k), ml.2 ⟨b1, b2⟩, rfl⟩
  · show ((liveOf M owner).map (·.1)).length = (((liveOf M owner).map (·.2)).map fun i => hs.getD i 0).length
    simp
  · exact Nat.le_of_lt_succ (List.mem_range.mp (r2 x hx))
  · have h1' : (((liveOf M owner).map (·.2)).map fun i => hs.getD i 0)[i]? = some h := h1
    have h2' : ((liveOf M owner).map (·.1))[i]? = some j := h2
    simp only [List.getElem?_map] at h1' h2'
    cases hq : (liveOf M owner)[i]? with
    | none => rw [hq] at h2'; cases h2'
    | some q =>
      obtain ⟨y, k⟩ := q
      rw [hq] at h1' h2'
      obtain rfl : y = j := Option.some.inj h2'
      obtain rfl : hs.getD k 0 = h := Option.some.inj h1'
      obtain ⟨b1, b2⟩ := ml.1 (List.mem_of_getElem? hq)
      obtain ⟨g, K, a1, a2, a3⟩ := W.at_ y k b1 b2
      have eg : hs.getD k 0 = g := by rw [Array.getD_eq_getD_getElem?, ← Array.getElem?_toList, a1]; rfl
      rw [eg]
      refine ⟨K, a2, fun c hc => ?_⟩
      show way M g c ∈ (liveOf M owner).map (·.1)
      cases z : oAt owner (way M g c) with
      | none => exact absurd z (a3 c hc)
      | some k2 => exact List.mem_map.mpr ⟨(way M g c, k2), ml.2 ⟨way_in .., z⟩, rfl⟩
theorem size_go (x : Nat) (hx : x < 8192) : ∀ f j, x < 2 ^ (j + f) → 3 ≤ j → j ≤ 13 → ∃ i, 3 ≤ i ∧ i ≤ 13 ∧ SetTable.sizeAbove.go x f (2 ^ j) = 2 ^ i ∧ x < 2 ^ i
  | 0, j, h, j1, j2 => ⟨j, j1, j2, rfl, h⟩
  | f + 1, j, h, j1, j2 => by
    show ∃ i, 3 ≤ i ∧ i ≤ 13 ∧ (if 2 ^ j ≤ x then SetTable.sizeAbove.go x f (2 ^ j * 2) else 2 ^ j) = 2 ^ i ∧ x < 2 ^ i
    by_cases c : 2 ^ j ≤ x
    · rw [if_pos c, ← Nat.pow_succ]
      have lt : j < 13 := (Nat.pow_lt_pow_iff_right (a := 2) (by decide)).mp (show 2 ^ j < 2 ^ 13 by omega)
      exact size_go x hx f (j + 1) (by rw [show j + 1 + f = j + (f + 1) by omega]; exact h) (by omega) lt
    · rw [if_neg c]
      exact ⟨j, j1, j2, rfl, by omega⟩
theorem size_up {x : Nat} (hx : x < 8192) : ∃ M, SetTable.sizeAbove x - 1 = M ∧ Msk M ∧ x ≤ M ∧ SetTable.sizeAbove x ≤ 8192 := by
  obtain ⟨i, i1, i2, e, lt⟩ := size_go x hx 64 3 (Nat.lt_of_lt_of_le hx (by decide)) (Nat.le_refl _) (by decide)
  have e' : SetTable.sizeAbove x = 2 ^ i := e
  have p : 2 ^ i ≤ 2 ^ 13 := Nat.pow_le_pow_right (by decide) i2
  exact ⟨2 ^ i - 1, by rw [e'], ⟨i, i1, i2, by omega⟩, by omega, by rw [e']; exact p⟩
end GS
set_option Elab.async false
set_option linter.all false
set_option maxRecDepth 100000
set_option maxHeartbeats 4000000
/-! sets of keys of any depth: asking and putting in -/
namespace GS
open PySem PySem.Spec PyProof.Rows L2
open SetTable (bits turns below)
/-- the key k stands at b -/
def Ky (h : Heap) (k : NestedKey) (b : Addr) : Prop := NestedIs h k (.ref b) ∧ k.depth ≤ 8
section
variable {P : Program} {w : World} {A : Around} {E : Value → Shared → Prop} {s : Shared}
theorem Ky.typ {k : NestedKey} {b : Addr} (h : Ky s.heap k b) : s.TypeIs (.ref b) "tuple" := by
  obtain ⟨h, _⟩ := h
  cases h with
  | tup h1 h2 _ _ => exact ⟨_, h1, h2⟩
theorem Ky.stay {h h' : Heap} {k : NestedKey} {b : Addr} (x : Ky h k b) (hk : ∀ c o, h.get? c = some o → h'.get? c = some o) : Ky h' k b := ⟨x.1.at fun _ _ _ _ e _ => hk _ _ e, x.2⟩
/-- beside a set that changes -/
theorem Ky.same {h h' : Heap} {k : NestedKey} {a b : Addr} {o : Obj} {es : Array (Int × Value)} {ep : Nat} {t : SetTable} (x : Ky h k b) (ho : h.get? a = some o) (hd : o.data = .set es ep t) (hs : Heap.SameBut a h h') : Ky h' k b :=
  ⟨x.1.at fun c ob vs n hc hv => (hs.2 c fun z => by
    subst z
    cases ho.symm.trans hc
    rw [hd] at hv
    cases hv).trans hc, x.2⟩
theorem Ky.inj {h : Heap} {k k' : NestedKey} {b : Addr} (x : Ky h k b) (y : Ky h k' b) : k = k' := NestedIs.inj _ _ _ x.1 y.1
/-- no class statement made it -/
def Plain (P : Program) (w : World) (n : Nat) (s : Shared) (v : Value) : Prop := ∀ (A : Around) (E : Value → Shared → Prop) (Q : Bool → Shared → Prop), Q false s → wpAny (model P w) A (ofAClassStatement n v) Q E s
theorem Plain.flat {n : Nat} {v : Value} (h : carriedByValue v = true) : Plain P w n s v := fun A E Q q => by
  have e : ofAClassStatement n v = pure false := by
    cases v <;> first | (cases n <;> rfl) | (cases h)
  rw [e]
  exact wpAny_pure q
theorem Plain.tup {n m : Nat} {b : Addr} {o : Obj} {vs : Array Value} (ho : s.heap.get? b = some o) (hc : o.cls = .type "tuple") (hd : o.data = .seq vs m) (hq : ∀ v ∈ vs.toList, Plain P w n s v) : Plain P w (n + 1) s (.ref b) := fun A E Q q => by
  unfold ofAClassStatement
  refine wpAny_bind (wpAny_typeOf (T := "tuple") ⟨o, ho, hc⟩ ?_)
  dsimp only
  simp only [show (("tuple" : String) == "tuple") = true by decide, if_true, Bool.not_true, Bool.false_eq_true, if_false]
  try refine wpAny_bind (wpAny_pure ?_)
  try simp only [Bool.not_true, Bool.false_eq_true, if_false]
  show wpAny _ _ (seqItems? (.ref b) >>= _) _ _ s
  refine wpAny_bind (wpAny_seqItems ho hd ?_)
  dsimp only
  refine wpAny_bind ?_
  show wpAny _ _ (forIn vs _ _) _ _ s
  rw [← Array.forIn_toList]
  refine wpAny_forIn_list _ (fun rest r s' => r.1 = none ∧ s' = s ∧ ∀ v ∈ rest, Plain P w n s v) _ ?_ ?_ _ _ ⟨rfl, rfl, hq⟩
  · rintro v rest r s' ⟨hr, rfl, all⟩
    refine wpAny_bind (all v List.mem_cons_self _ _ _ ?_)
    simp only [Bool.false_eq_true, if_false]
    exact wpAny_pure ⟨rfl, rfl, fun u z => all u (List.mem_cons_of_mem _ z)⟩
  · rintro ⟨r1, r2⟩ s' ⟨hr, rfl, _⟩
    cases hr
    exact wpAny_pure q
mutual
theorem plain_key : ∀ (k : NestedKey) (v : Value) (n : Nat), NestedIs s.heap k v → k.depth ≤ n → Plain P w n s v
  | .none, _, _, x, _ => by cases x; exact .flat rfl
  | .num _, _, _, x, _ => by cases x <;> exact .flat rfl
  | .text _, _, _, x, _ => by cases x; exact .flat rfl
  | .tup ks, _, n, x, hn => by
    cases x with
    | tup h1 h2 h3 h4 =>
      simp only [NestedKey.depth] at hn
      obtain ⟨m, rfl⟩ : ∃ m, n = m + 1 := ⟨n - 1, by omega⟩
      exact .tup h1 h2 h3 (plain_keys ks _ m h4 (by omega))
theorem plain_keys : ∀ (ks : List NestedKey) (vs : List Value) (n : Nat), NestedAll s.heap ks vs → NestedKey.depthAll ks ≤ n → ∀ v ∈ vs, Plain P w n s v
  | [], _, _, x, _, v, hv => by cases x; cases hv
  | k :: ks, _, n, x, hn, v, hv => by
    cases x with
    | cons x1 x2 =>
      simp only [NestedKey.depthAll] at hn
      rcases List.mem_cons.mp hv with e | hv
      · rw [e]
        exact plain_key k _ n x1 (by omega)
      · exact plain_keys ks _ n x2 (by omega) v hv
end
/-- whether the hash goes by the value alone, it is told without a trace -/
def Told (P : Program) (w : World) (n : Nat) (s : Shared) (v : Value) : Prop := ∀ (A : Around) (E : Value → Shared → Prop) (Q : Bool → Shared → Prop), (∀ b, Q b s) → wpAny (model P w) A (hashByValue n v) Q E s
theorem Told.tup {n m : Nat} {b : Addr} {o : Obj} {vs : Array Value} (ho : s.heap.get? b = some o) (hc : o.cls = .type "tuple") (hd : o.data = .seq vs m) (hq : ∀ v ∈ vs.toList, Told P w n s v) : Told P w (n + 1) s (.ref b) := fun A E Q q => by
  unfold hashByValue
  refine wpAny_bind (wpAny_specialOf (T := "tuple") ⟨o, ho, hc⟩ F.slot_tuple_hash.lookup ?_)
  show wpAny _ _ (seqItems? (.ref b) >>= _) _ _ s
  refine wpAny_bind (wpAny_seqItems ho hd ?_)
  refine wpAny_bind ?_
  show wpAny _ _ (forIn vs _ _) _ _ s
  rw [← Array.forIn_toList]
  refine wpAny_forIn_list _ (fun rest r s' => s' = s ∧ ∀ v ∈ rest, Told P w n s v) _ ?_ ?_ _ _ ⟨rfl, hq⟩
  · rintro v rest r s' ⟨rfl, all⟩
    refine wpAny_bind (all v List.mem_cons_self _ _ _ fun c => ?_)
    cases c
    · simp only [Bool.not_false, if_true]
      exact wpAny_pure (by first | exact q _ | exact ⟨rfl, fun u z => all u (List.mem_cons_of_mem _ z)⟩ | (refine wpAny_pure ?_; exact q _) | skip)
    · simp only [Bool.not_true, Bool.false_eq_true, if_false]
      exact wpAny_pure ⟨rfl, fun u z => all u (List.mem_cons_of_mem _ z)⟩
  · rintro ⟨r1, r2⟩ s' ⟨rfl, _⟩
    cases r1 with
    | none => exact wpAny_pure (q _)
    | some c => exact wpAny_pure (q _)

theorem Told.flat {k : NestedKey} {n : Nat} {v : Value} (h : NestedIs s.heap k v) (c : carriedByValue v = true) : Told P w n s v := fun A E Q q => by
  have e : ∃ b, hashByValue n v = pure b := by
    cases h with
    | none => cases n <;> exact ⟨_, rfl⟩
    | bool _ => cases n <;> exact ⟨_, rfl⟩
    | int _ _ => cases n <;> exact ⟨_, rfl⟩
    | text _ _ => cases n <;> exact ⟨_, rfl⟩
    | tup _ _ _ _ => cases c
  obtain ⟨b, e⟩ := e
  rw [e]
  exact wpAny_pure (q b)
mutual
theorem told_key : ∀ (k : NestedKey) (v : Value) (n : Nat), NestedIs s.heap k v → k.depth ≤ n → Told P w n s v
  | .none, _, _, x, _ => .flat x (by cases x; rfl)
  | .num _, _, _, x, _ => .flat x (by cases x <;> rfl)
  | .text _, _, _, x, _ => .flat x (by cases x; rfl)
  | .tup ks, _, n, x, hn => by
    cases x with
    | tup h1 h2 h3 h4 =>
      simp only [NestedKey.depth] at hn
      obtain ⟨m, rfl⟩ : ∃ m, n = m + 1 := ⟨n - 1, by omega⟩
      exact .tup h1 h2 h3 (told_keys ks _ m h4 (by omega))
theorem told_keys : ∀ (ks : List NestedKey) (vs : List Value) (n : Nat), NestedAll s.heap ks vs → NestedKey.depthAll ks ≤ n → ∀ v ∈ vs, Told P w n s v
  | [], _, _, x, _, v, hv => by cases x; cases hv
  | k :: ks, _, n, x, hn, v, hv => by
    cases x with
    | cons x1 x2 =>
      simp only [NestedKey.depthAll] at hn
      rcases List.mem_cons.mp hv with e | hv
      · rw [e]
        exact told_key k _ n x1 (by omega)
      · exact told_keys ks _ n x2 (by omega) v hv
end
/-- nobody sees a search among such keys -/
theorem unseen {k : NestedKey} {b : Addr} {Q : Bool → Shared → Prop} (hk : Ky s.heap k b) {ys : List Value} (hy : ∀ y ∈ ys, ∃ g c, y = Value.ref c ∧ Ky s.heap g c) (q : Q false s) : wpAny (model P w) A (searchCouldBeSeen (.ref b) ys) Q E s := by
  unfold searchCouldBeSeen
  refine wpAny_bind ?_
  refine wpAny_forIn_list _ (fun rest r s' => r.1 = none ∧ s' = s ∧ ∀ y ∈ rest, ∃ g c, y = Value.ref c ∧ Ky s.heap g c) _ ?_ ?_ _ _ ⟨rfl, rfl, hy⟩
  · rintro v rest r s' ⟨hr, rfl, all⟩
    obtain ⟨g, c, rfl, hc⟩ := all v List.mem_cons_self
    have on : ∀ y ∈ rest, ∃ g c, y = Value.ref c ∧ Ky s'.heap g c := fun u z => all u (List.mem_cons_of_mem _ z)
    dsimp only
    by_cases hv : (b == c || (carriedByValue (.ref b) && carriedByValue (.ref c))) = true
    · exact wp_if_pos hv (wpAny_pure ⟨rfl, rfl, on⟩)
    · refine wp_if_neg hv ?_
      refine wpAny_bind (quiet_key k _ 8 s' hk.1 hk.2 A E _ ?_)
      simp only [Bool.not_true, Bool.false_eq_true, if_false]
      refine wpAny_bind (quiet_key g _ 8 s' hc.1 hc.2 A E _ ?_)
      simp only [Bool.not_true, Bool.false_eq_true, if_false]
      refine wpAny_bind (plain_key k _ 8 hk.1 hk.2 A E _ ?_)
      simp only [Bool.false_eq_true, if_false]
      refine wpAny_bind (plain_key g _ 8 hc.1 hc.2 A E _ ?_)
      simp only [Bool.false_eq_true, if_false]
      exact wpAny_pure ⟨rfl, rfl, on⟩
  · rintro ⟨r1, r2⟩ s' ⟨hr, rfl, _⟩
    cases hr
    exact wpAny_pure q

/-! ### the set -/
abbrev Mem := List (Addr × NestedKey)
abbrev hOf (w : World) (L : Mem) : List Int := L.map fun p => p.2.hash w
abbrev rOf (w : World) (L : Mem) : List (Int × Value) := L.map fun p => (p.2.hash w, Value.ref p.1)
/-- the members of the set at a -/
structure SR (w : World) (h : Heap) (a : Addr) (L : Mem) (es : Array (Int × Value)) (ep : Nat) (t : SetTable) : Prop where
  ob : ∃ o, h.get? a = some o ∧ o.ExactSet ∧ o.data = .set es ep t
  rows : es.toList = rOf w L
  tab : Tb t (hOf w L)
  one : (L.map Prod.snd).Nodup
  key : ∀ p, p ∈ L → Ky h p.2 p.1
  led : w.params.followText "set-order" = true ∨ t.led = true
  room : L.length * 5 < t.mask * 3
variable {a : Addr} {L : Mem} {es : Array (Int × Value)} {ep : Nat} {t : SetTable}
theorem rows_len (e : es.toList = rOf w L) : es.size = L.length := by
  have := congrArg List.length e
  simpa using this
theorem SR.size (R : SR w s.heap a L es ep t) : es.size = L.length := rows_len R.rows
theorem SR.fits (R : SR w s.heap a L es ep t) : t.fits es.size = true := by
  have h1 : t.place.size = L.length := by simpa using R.tab.len
  have h2 := R.size
  have h3 := R.room
  unfold SetTable.fits SetTable.fill
  rw [R.tab.nod, Bool.and_eq_true, beq_iff_eq, decide_eq_true_eq, h1, h2]
  exact ⟨rfl, show L.length + 0 ≤ t.mask by omega⟩
theorem SR.few (R : SR w s.heap a L es ep t) : L.length ≤ 5000 := by
  have := R.room
  have := R.tab.msk.le
  omega
theorem row_at (e : es.toList = rOf w L) {i : Nat} {p : Addr × NestedKey} (h : L[i]? = some p) : es[i]? = some (p.2.hash w, Value.ref p.1) := by
  rw [← Array.getElem?_toList, e, List.getElem?_map, h]
  rfl
abbrev pr (m : Nat) (h : Int) (c : Nat) : SetTable.Probe := nth m (runAt m (bits h % (m + 1)) (bits h)) c
theorem pr_dummy (m : Nat) (h : Int) (c : Nat) : (pr m h c).dummy = none := by
  induction c with
  | zero => rfl
  | succ c ih =>
    show (nth m _ (c + 1)).dummy = none
    rw [nth_succ]
    unfold adv
    split <;> exact ih
theorem pr_add (m : Nat) (h : Int) (c q : Nat) : nth m (pr m h c) q = pr m h (c + q) := (nth_add m c _ q).symm
/-- the search, from step c of the way on -/
theorem seek (R : SR w s.heap a L es ep t) {x : Addr} {k : NestedKey} (hx : Ky s.heap k x) (hu : A.units + 8 < cLine) {K : Nat} (hf : K < 10 * turns t.mask)
    (hK : way t.mask (k.hash w) K ∉ t.place.toList) (hc : ∀ c, c < K → way t.mask (k.hash w) c ∈ t.place.toList) {Q : SetFound → Shared → Prop} {ad : Bool}
    (hin : ∀ (i : Nat) p, L[i]? = some p → p.2 = k → Q (.there (if ad then none else some i)) s) (hout : k ∉ L.map Prod.snd → Q (.free (way t.mask (k.hash w) K) false) s) :
    ∀ (f c : Nat) (st : Option SetTable.Probe), st.getD (t.probeStart (k.hash w)) = pr t.mask (k.hash w) c → c ≤ K → K - c < f →
      (∀ (i : Nat) p, L[i]? = some p → p.2 = k → ∃ c', c ≤ c' ∧ c' < K ∧ t.place.toList[i]? = some (way t.mask (k.hash w) c')) →
      wpAny (model P w) A (setSearchFrom a (.ref x) (k.hash w) ad f st) Q E s
  | 0, c, st, _, _, z, _ => absurd z (Nat.not_lt_zero _)
  | f + 1, c, st, hst, hcK, hfu, hre => by
    obtain ⟨o, ho, hex, hd⟩ := R.ob
    rw [setSearchFrom_succ]
    refine wpAny_bind (wpAny_setState_of ho hd R.fits ?_)
    dsimp only
    refine wp_if_neg (by unfold SetTable.gaveWay; rw [R.tab.msk.odd]; decide) ?_
    try refine wpAny_bind (wpAny_pure ?_)
    have jq : ∀ q, (nth t.mask (pr t.mask (k.hash w) c) q).j = way t.mask (k.hash w) (c + q) := fun q => congrArg SetTable.Probe.j (pr_add ..)
    have hashAt : ∀ (i : Nat) p, L[i]? = some p → (fun i => (es[i]?.map (·.1)).getD 0) i = p.2.hash w := fun i p hp => by
      show (es[i]?.map (·.1)).getD 0 = _
      rw [row_at R.rows hp]
      rfl
    have asked := go_spec t R.tab.up R.tab.nod (fun i => (es[i]?.map (·.1)).getD 0) (k.hash w) (10 * turns t.mask) (K - c) _ (pr_dummy ..) (by omega) (fun q hq => by rw [jq]; exact hc (c + q) (by omega)) (by rw [jq, show c + (K - c) = K by omega]; exact hK)
    have goes : t.probe (fun i => (es[i]?.map (·.1)).getD 0) (k.hash w) (st.getD (t.probeStart (k.hash w))) = SetTable.probe.go t (fun i => (es[i]?.map (·.1)).getD 0) (k.hash w) (10 * turns t.mask) (pr t.mask (k.hash w) c) := by
      rw [hst]
      rfl
    rw [goes]
    rcases asked with ⟨q, i, hq, hi, hh, hno, e⟩ | ⟨hno, e⟩
    · rw [e, jq, pr_add]
      rw [jq] at hi
      dsimp only
      have hil : i < L.length := by
        have h1 : i < t.place.toList.length := (List.getElem?_eq_some_iff.mp hi).1
        rw [R.tab.len] at h1
        simpa using h1
      obtain ⟨p, hp⟩ : ∃ p, L[i]? = some p := ⟨_, List.getElem?_eq_getElem hil⟩
      have hpt := R.key p (List.mem_of_getElem? hp)
      have hsl : t.slot (way t.mask (k.hash w) (c + q)) = .live i := slot_live R.tab.up hi
      have rest : wpAny (model P w) A (searchRest a (.ref x) (k.hash w) ad f es t (way t.mask (k.hash w) (c + q)) i (pr t.mask (k.hash w) (c + (q + 1)))) Q E s := by
        unfold searchRest
        rw [row_at R.rows hp]
        dsimp only
        refine wpAny_bind (wpAny_holding (eqAt_key p.2 k A s _ _ hpt.1 hx.1 (by have := hpt.2; omega) _ _ _ _ ?_))
        rw [← NestedKey.decide_eq]
        refine wpAny_bind (wpAny_setState_of ho hd R.fits ?_)
        dsimp only
        by_cases hkk : p.2 = k
        · cases ad with
          | true =>
            refine wp_if_pos (by simp [hkk]) ?_
            exact wpAny_pure (hin i p hp hkk)
          | false =>
            refine wp_if_neg (by simp) ?_
            try refine wpAny_bind (wpAny_pure ?_)
            rw [sameMem]
            dsimp only
            simp only [if_true, hsl, row_at R.rows hp]
            refine wpAny_bind (wpAny_isSame_ref_self (wpAny_bind (wpAny_pure ?_)))
            simp only [if_true]
            refine wp_if_pos (by simp [hkk]) ?_
            exact wpAny_pure (hin i p hp hkk)
        · refine wp_if_neg (by simp [hkk]) ?_
          try refine wpAny_bind (wpAny_pure ?_)
          rw [sameMem]
          dsimp only
          simp only [if_true, hsl, row_at R.rows hp]
          refine wpAny_bind (wpAny_isSame_ref_self (wpAny_bind (wpAny_pure ?_)))
          simp only [if_true]
          refine wp_if_neg (by simp [hkk]) ?_
          refine seek R hx hu hf hK hc hin hout f (c + (q + 1)) _ rfl (by omega) (by omega) fun i0 p0 h0 k0 => ?_
          obtain ⟨c', a1, a2, a3⟩ := hre i0 p0 h0 k0
          refine ⟨c', ?_, a2, a3⟩
          have hh0 := (hashAt i0 p0 h0).trans (congrArg (NestedKey.hash w) k0)
          rcases Nat.lt_trichotomy c' (c + q) with z | z | z
          · exact absurd hh0 (hno (c' - c) i0 (by omega) (by rw [jq, show c + (c' - c) = c' by omega]; exact a3))
          · rw [z] at a3
            have s0 := slot_live R.tab.up a3
            rw [hsl] at s0
            cases s0
            rw [hp] at h0
            cases h0
            exact absurd k0 hkk
          · omega
      by_cases hl : t.led = true
      · refine wp_if_neg (by simp [hl]) ?_
        try refine wpAny_bind (wpAny_pure ?_)
        exact rest
      · refine wp_if_pos (by simp [hl]) ?_
        refine wpAny_bind (unseen hx (fun y hy => ?_) ?_)
        · obtain ⟨e, he, rfl⟩ := List.mem_map.mp hy
          have he2 : e ∈ es.toList := by
            have : e ∈ es ∧ e.1 = k.hash w := by simpa using he
            simpa using this.1
          rw [R.rows] at he2
          obtain ⟨g, hg, rfl⟩ := List.mem_map.mp he2
          exact ⟨g.2, g.1, rfl, R.key g hg⟩
        · refine wp_if_neg (by decide) ?_
          try refine wpAny_bind (wpAny_pure ?_)
          exact rest
    · rw [e, jq, show c + (K - c) = K by omega]
      dsimp only
      refine wpAny_pure (hout fun hm => ?_)
      obtain ⟨p0, m0, k0⟩ := List.mem_map.mp hm
      obtain ⟨i0, l0, e0⟩ := List.getElem_of_mem m0
      have h0 : L[i0]? = some p0 := by rw [List.getElem?_eq_getElem l0, e0]
      obtain ⟨c', a1, a2, a3⟩ := hre i0 p0 h0 k0
      exact hno (c' - c) i0 (by omega) (by rw [jq, show c + (c' - c) = c' by omega]; exact a3) ((hashAt i0 p0 h0).trans (congrArg (NestedKey.hash w) k0))
theorem search_all (R : SR w s.heap a L es ep t) {x : Addr} {k : NestedKey} (hx : Ky s.heap k x) (hu : A.units + 8 < cLine) {Q : SetFound → Shared → Prop} {ad : Bool}
    (hin : ∀ (i : Nat) p, L[i]? = some p → p.2 = k → Q (.there (if ad then none else some i)) s)
    (hout : ∀ K, k ∉ L.map Prod.snd → way t.mask (k.hash w) K ∉ t.place.toList → (∀ c, c < K → way t.mask (k.hash w) c ∈ t.place.toList) → Q (.free (way t.mask (k.hash w) K) false) s) :
    wpAny (model P w) A (setSearch a (.ref x) (k.hash w) ad) Q E s := by
  have := R.room
  obtain ⟨K, k1, k2, k3⟩ := R.tab.gap (by rw [List.length_map]; omega) (k.hash w)
  have big : K < 100000 := by
    have := R.tab.msk.le
    unfold turns at k1
    omega
  unfold setSearch
  refine seek R hx hu k1 k2 k3 hin (fun z => hout K z k2 k3) 100000 0 none rfl (Nat.zero_le _) (by omega) fun i p hp hk => ?_
  have hi : (hOf w L)[i]? = some (k.hash w) := by rw [List.getElem?_map, hp, ← hk]; rfl
  have hil : i < t.place.toList.length := by
    have h1 : i < L.length := (List.getElem?_eq_some_iff.mp hp).1
    rw [R.tab.len, List.length_map]
    exact h1
  have hj := List.getElem?_eq_getElem hil
  obtain ⟨c, hc, e⟩ := R.tab.early k2 hi hj
  exact ⟨c, Nat.zero_le _, hc, by rw [hj, e]⟩
end
end GS
set_option Elab.async false
set_option linter.all false
set_option maxRecDepth 100000
set_option maxHeartbeats 4000000
/-! sets of keys of any depth: putting in, made of a list or a tuple -/
namespace GS
open PySem PySem.Spec PyProof.Rows L2
open SetTable (bits turns below)
section
variable {P : Program} {w : World} {A : Around} {E : Value → Shared → Prop} {s : Shared} {a : Addr} {L : Mem} {es : Array (Int × Value)} {ep : Nat} {t : SetTable}
theorem ins_perm {α : Type} (L : List α) (p : Nat) (x : α) : (L.take p ++ x :: L.drop p).Perm (x :: L) := by
  have h := List.perm_middle (a := x) (l₁ := L.take p) (l₂ := L.drop p)
  rwa [List.take_append_drop] at h
theorem range_get {α : Type} (L : List α) : ∀ n, n ≤ L.length → (List.range n).filterMap (fun i => L[i]?) = L.take n
  | 0, _ => rfl
  | n + 1, h => by
    have lt : n < L.length := h
    rw [List.range_succ, List.filterMap_append, range_get L n (by omega), List.take_succ, List.getElem?_eq_getElem lt, List.filterMap_cons_some (List.getElem?_eq_getElem lt)]
    rfl
/-- the rows in another order -/
theorem rows_order (hr : es.toList = rOf w L) {order : Array Nat} (hp : order.toList.Perm (List.range L.length)) :
    ∃ M, (order.filterMap (es[·]?)).toList = rOf w M ∧ M.Perm L ∧ hOf w M = order.toList.map fun i => (es.map (·.1)).getD i 0 := by
  have one : ∀ l : List Nat, (∀ i ∈ l, i < L.length) → l.filterMap (fun i => es[i]?) = rOf w (l.filterMap fun i => L[i]?) ∧ hOf w (l.filterMap fun i => L[i]?) = l.map fun i => (es.map (·.1)).getD i 0 := by
    intro l
    induction l with
    | nil => exact fun _ => ⟨rfl, rfl⟩
    | cons i l ih =>
      intro hl
      obtain ⟨e1, e2⟩ := ih fun j hj => hl j (List.mem_cons_of_mem _ hj)
      have hp : L[i]? = some (L[i]'(hl i List.mem_cons_self)) := List.getElem?_eq_getElem _
      generalize L[i]'(hl i List.mem_cons_self) = p at hp
      have e3 := row_at hr hp
      have e4 : (es.map (·.1)).getD i 0 = p.2.hash w := by simp [Array.getD_eq_getD_getElem?, Array.getElem?_map, e3]
      rw [List.filterMap_cons_some e3, List.filterMap_cons_some hp, e1, List.map_cons, ← e2, e4]
      exact ⟨rfl, rfl⟩
  obtain ⟨e1, e2⟩ := one order.toList fun i hi => List.mem_range.mp (hp.mem_iff.mp hi)
  refine ⟨order.toList.filterMap fun i => L[i]?, by first | (rw [Array.toList_filterMap]; exact e1) | simpa using e1, ?_, e2⟩
  have := hp.filterMap fun i => L[i]?
  rwa [range_get L L.length (Nat.le_refl _), List.take_length] at this
/-- laid anew, larger -/
theorem relay {o : Obj} (ho : s.heap.get? a = some o) (hex : o.ExactSet) (hd : o.data = .set es ep t) (hr : es.toList = rOf w L) (T : Tb t (hOf w L)) (one : (L.map Prod.snd).Nodup) (key : ∀ p, p ∈ L → Ky s.heap p.2 p.1)
    (led : w.params.followText "set-order" = true ∨ t.led = true) (fl : L.length ≤ t.mask) {n : Nat} (hn : n < 8192) (hl : L.length * 5 < n * 3) {Q : Unit → Shared → Prop}
    (q : ∀ h' L' es' ep' t', Heap.SameBut a s.heap h' → SR w h' a L' es' ep' t' → L'.Perm L → Q () { s with heap := h' }) : wpAny (model P w) A (setRelay a n) Q E s := by
  have sz := rows_len hr
  have tl : t.place.size = L.length := by simpa using T.len
  have fits : t.fits es.size = true := by
    unfold SetTable.fits SetTable.fill
    rw [T.nod, Bool.and_eq_true, beq_iff_eq, decide_eq_true_eq, tl, sz]
    exact ⟨rfl, show L.length + 0 ≤ t.mask by omega⟩
  obtain ⟨M, m1, m2, m3, m4⟩ := size_up hn
  obtain ⟨t', order, e, hp, T', em, el⟩ := tb_anew t (hs := es.map (·.1)) m1 m2 (by rw [Array.size_map, sz]; omega)
  rw [Array.size_map, sz] at hp
  obtain ⟨L2, r1, r2, r3⟩ := rows_order hr hp
  rw [← r3] at T'
  have s2 : (order.filterMap (es[·]?)).size = es.size := by rw [rows_len r1, r2.length_eq, sz]
  rw [setRelay_eq]
  refine wpAny_bind (wpAny_setState_of ho hd fits ?_)
  dsimp only
  refine wp_if_neg (by rw [sizeLine_eq]; omega) ?_
  try refine wpAny_bind (wpAny_pure ?_)
  rw [e]
  dsimp only
  refine wpAny_bind (wp_if_neg (by rw [s2]; simp) ?_)
  try refine wpAny_bind (wpAny_pure ?_)
  refine wpAny_pure ?_
  dsimp only
  refine wpAny_storeSet_of ho hd ?_ (by rw [s2, sz, sizeLine_eq]; omega)
  have sb : Heap.SameBut a s.heap (s.heap.update a (Obj.putSet (order.filterMap (es[·]?)) t')) := Heap.SameBut.update ..
  exact q _ L2 _ (ep + 1) t' sb ⟨⟨_, store_at ho hd, ⟨hex.1, hex.2.1, hex.2.2⟩, rfl⟩, r1, T', (r2.map Prod.snd).nodup_iff.mpr one, fun p z => (key p (r2.mem_iff.mp z)).same ho hd sb, by rw [el]; exact led, by rw [r2.length_eq, em]; omega⟩ r2
/-- one put in -/
theorem add_one (R : SR w s.heap a L es ep t) {x : Addr} {k : NestedKey} (hx : Ky s.heap k x) (hu : A.units + 8 < cLine) (few : L.length < 2000) {Q : Bool → Shared → Prop}
    (q : ∀ b h' L' es' ep' t', Heap.SameBut a s.heap h' → SR w h' a L' es' ep' t' → (k ∈ L.map Prod.snd → L' = L) → (k ∉ L.map Prod.snd → L'.Perm ((x, k) :: L)) → Q b { s with heap := h' }) :
    wpAny (model P w) A (setAddHashed a (.ref x) (k.hash w)) Q E s := by
  obtain ⟨o, ho, hex, hd⟩ := R.ob
  have sz := R.size
  have room := R.room
  unfold setAddHashed
  refine wpAny_holding ?_
  rw [show (100000 : Nat) = 99999 + 1 from rfl, setAddHashedIn_succ]
  refine wpAny_bind (wpAny_setState_of ho hd R.fits ?_)
  dsimp only
  refine wp_if_neg (by simp [byScan, Value.scannable]) ?_
  try refine wpAny_bind (wpAny_pure ?_)
  refine wpAny_bind (search_all R hx hu (fun i p hp hk => ?_) fun K hm hK hc => ?_)
  · dsimp only
    have hm : k ∈ L.map Prod.snd := List.mem_map.mpr ⟨p, List.mem_of_getElem? hp, hk⟩
    exact wpAny_pure (q false s.heap L es ep t (Heap.SameBut.refl a s.heap) R (fun _ => rfl) fun z => absurd hm z)
  · dsimp only
    refine wpAny_bind (wpAny_setState_of ho hd R.fits ?_)
    dsimp only
    obtain ⟨b1, T1⟩ := R.tab.more (b := below t.place (way t.mask (k.hash w) K)) rfl hK hc
    have y1 : (t.put (way t.mask (k.hash w) K)).2 = below t.place (way t.mask (k.hash w) K) := rfl
    have y2 : (t.put (way t.mask (k.hash w) K)).1.mask = t.mask := rfl
    have y3 : (t.put (way t.mask (k.hash w) K)).1.led = t.led := rfl
    generalize hpt : t.put (way t.mask (k.hash w) K) = pt at *
    obtain ⟨t1, b⟩ := pt
    dsimp only at y1 y2 y3 T1 ⊢
    rw [← y1] at T1 b1
    have hin : (SetTable.insertAt es b (k.hash w, Value.ref x)).toList = rOf w (L.take b ++ (x, k) :: L.drop b) := by
      rw [SetTable.toList_insertAt, R.rows]
      simp [List.map_take, List.map_drop]
    have hh : (hOf w L).take b ++ k.hash w :: (hOf w L).drop b = hOf w (L.take b ++ (x, k) :: L.drop b) := by simp [List.map_take, List.map_drop]
    rw [hh] at T1
    have pm := ins_perm L b (x, k)
    generalize L.take b ++ (x, k) :: L.drop b = L1 at *
    generalize SetTable.insertAt es b (k.hash w, Value.ref x) = es1 at *
    have ln : L1.length = L.length + 1 := pm.length_eq
    have sz1 := rows_len hin
    have one1 : (L1.map Prod.snd).Nodup := (pm.map Prod.snd).nodup_iff.mpr (by rw [List.map_cons]; exact List.nodup_cons.mpr ⟨hm, R.one⟩)
    -- whichever table is kept
    have fin : ∀ t2 : SetTable, t2.mask = t.mask → t2.led = t.led → t2.place = t1.place → t2.dummies = t1.dummies → wpAny (model P w) A (do
        storeSet a es1 t2
        if !false && t2.tooFull then setRelay a (SetTable.grown (es.size + 1))
        return true) Q E s := fun t2 z1 z2 z3 z4 => by
      have T2 : Tb t2 (hOf w L1) := ⟨z3 ▸ T1.up, z4 ▸ T1.nod, z3 ▸ T1.len, z1 ▸ R.tab.msk, fun x hx => by rw [z1, ← y2]; rw [z3] at hx; exact T1.low x hx, fun i h j h1 h2 => by
        rw [z1, ← y2, z3]
        rw [z3] at h2
        exact T1.got i h j h1 h2⟩
      refine wpAny_bind (wpAny_storeSet_of ho hd ?_ (by rw [sz1, ln, sizeLine_eq]; omega))
      have sb : Heap.SameBut a s.heap (s.heap.update a (Obj.putSet es1 t2)) := Heap.SameBut.update ..
      have ho1 := store_at (es' := es1) (t' := t2) ho hd
      generalize s.heap.update a (Obj.putSet es1 t2) = h1 at sb ho1 ⊢
      have key1 : ∀ p, p ∈ L1 → Ky h1 p.2 p.1 := fun p hp => by
        rcases List.mem_cons.mp (pm.mem_iff.mp hp) with rfl | hp
        · exact hx.same ho hd sb
        · exact (R.key p hp).same ho hd sb
      have led1 : w.params.followText "set-order" = true ∨ t2.led = true := by rw [z2]; exact R.led
      have full : t2.tooFull = decide ((L.length + 1) * 5 ≥ t.mask * 3) := by
        have e1 : t2.place.size = L1.length := by simpa using T2.len
        unfold SetTable.tooFull SetTable.fill
        rw [e1, T2.nod, z1, ln]
        rfl
      by_cases hf : t2.tooFull = true
      · first
          | refine wpAny_bind (wp_if_pos (by simp [hf]) ?_)
          | (refine wp_if_pos (by simp [hf]) ?_; refine wpAny_bind ?_)
        rw [full, decide_eq_true_eq] at hf
        have g : SetTable.grown (es.size + 1) = (L.length + 1) * 4 := by
          unfold SetTable.grown
          rw [if_neg (by omega), sz]
        rw [g]
        refine relay (s := { s with heap := h1 }) ho1 ⟨hex.1, hex.2.1, hex.2.2⟩ rfl hin T2 one1 key1 led1 (by rw [ln, z1]; have := R.tab.msk; obtain ⟨j, j1, _, e⟩ := this; have : 2 ^ 3 ≤ 2 ^ j := Nat.pow_le_pow_right (by decide) j1; omega) (by omega) (by rw [ln]; omega) fun h2 L2 es2 ep2 t3 sb2 R2 pm2 => ?_
        exact wpAny_pure (q true h2 L2 es2 ep2 t3 (sb.trans sb2) R2 (fun z => absurd z hm) fun _ => pm2.trans pm)
      · first
          | refine wp_if_neg (by simp [hf]) ?_
          | (refine wpAny_bind (wp_if_neg (by simp [hf]) ?_); refine wpAny_pure ?_)
        rw [full, decide_eq_true_eq] at hf
        exact wpAny_pure (q true h1 L1 es1 (ep + 1) t2 sb ⟨⟨_, ho1, ⟨hex.1, hex.2.1, hex.2.2⟩, rfl⟩, hin, T2, one1, key1, led1, by rw [ln, z1]; omega⟩ (fun z => absurd z hm) fun _ => pm)
    by_cases hpl : t1.plain = true
    · first
        | (refine wpAny_bind ?_; refine wp_if_pos hpl ?_; refine told_key k _ 8 hx.1 hx.2 A E _ fun b => ?_)
        | refine wp_if_pos hpl (wpAny_bind (told_key k _ 8 hx.1 hx.2 A E _ fun b => ?_))
      cases b
      · exact fin { t1 with plain := false } y2 y3 rfl rfl
      · exact fin t1 y2 y3 rfl rfl
    · first
        | (refine wpAny_bind ?_; refine wp_if_neg hpl ?_; refine wpAny_pure ?_)
        | refine wp_if_neg hpl (wpAny_bind (wpAny_pure ?_))
      exact fin t1 y2 y3 rfl rfl
end
end GS
set_option Elab.async false
set_option linter.all false
set_option maxRecDepth 100000
set_option maxHeartbeats 4000000
/-! set(xs), xs a list or a tuple of keys of any depth -/
namespace GS
open PySem PySem.Spec PyProof.Rows L2
/-- what the set has of the first i keys -/
structure Has (ks : Mem) (i : Nat) (L : Mem) : Prop where
  sub : ∀ p, p ∈ L → p ∈ ks.take i
  all : ∀ p, p ∈ ks.take i → p.2 ∈ L.map Prod.snd
  len : L.length ≤ i
theorem Has.next {ks L M : Mem} {i : Nat} {x : Addr × NestedKey} (g : Has ks i L) (h : ks[i]? = some x) (c1 : x.2 ∈ L.map Prod.snd → M = L) (c2 : x.2 ∉ L.map Prod.snd → M.Perm (x :: L)) : Has ks (i + 1) M := by
  have tk : ks.take (i + 1) = ks.take i ++ [x] := by rw [List.take_succ, h]; rfl
  by_cases c : x.2 ∈ L.map Prod.snd
  · rw [c1 c]
    refine ⟨fun p hp => by rw [tk]; exact List.mem_append_left _ (g.sub p hp), fun p hp => ?_, Nat.le_succ_of_le g.len⟩
    rw [tk] at hp
    rcases List.mem_append.mp hp with z | z
    · exact g.all p z
    · exact (List.mem_singleton.mp z) ▸ c
  · have pm := c2 c
    refine ⟨fun p hp => ?_, fun p hp => ?_, by rw [pm.length_eq]; exact Nat.succ_le_succ g.len⟩
    · rw [tk]
      rcases List.mem_cons.mp (pm.mem_iff.mp hp) with rfl | z
      · exact List.mem_append_right _ (List.mem_singleton.mpr rfl)
      · exact List.mem_append_left _ (g.sub p z)
    · rw [(pm.map Prod.snd).mem_iff, List.map_cons]
      rw [tk] at hp
      rcases List.mem_append.mp hp with z | z
      · exact List.mem_cons_of_mem _ (g.all p z)
      · exact (List.mem_singleton.mp z) ▸ List.mem_cons_self
section
variable {P : Program} {w : World} {A : Around} {E : Value → Shared → Prop} {s : Shared}
theorem SR.stay {h h' : Heap} {a : Addr} {L : Mem} {es : Array (Int × Value)} {ep : Nat} {t : SetTable} (R : SR w h a L es ep t) (ha : ∀ o, h.get? a = some o → h'.get? a = some o) (hk : ∀ p, p ∈ L → Ky h' p.2 p.1) : SR w h' a L es ep t := by
  obtain ⟨o, ho, r⟩ := R.ob
  exact ⟨⟨o, ha o ho, r⟩, R.rows, R.tab, R.one, hk, R.led, R.room⟩
abbrev fresh0 (w : World) : SetTable := .fresh 0 0 (!w.params.followText "set-order")
theorem sr_fresh {h : Heap} {a : Addr} (ho : h.get? a = some { cls := .type "set", dict := none, data := .set #[] 0 (fresh0 w) }) : SR w h a [] #[] 0 (fresh0 w) where
  ob := ⟨_, ho, ⟨rfl, rfl, rfl⟩, rfl⟩
  rows := rfl
  tab := ⟨List.Pairwise.nil, rfl, rfl, ⟨3, by decide, by decide, rfl⟩, fun x hx => (by cases hx), fun i h j hi => (by simp at hi)⟩
  one := List.nodup_nil
  key := fun p hp => by cases hp
  led := by
    show _ ∨ (!w.params.followText "set-order") = true
    cases w.params.followText "set-order"
    · exact .inr rfl
    · exact .inl rfl
  room := show 0 * 5 < 7 * 3 by decide
/-- the loop of set.update -/
theorem upd_loop {I : Addr} {fp wr : List Addr} {G : Array GenState → Array GenState → Prop} {n : Nat} {Pv : Nat → Value → Prop} {St : Nat → Shared → Prop} {R : Result → Shared → Prop}
    (W : WalksS P w A.in1 I fp wr G n Pv St) (S : Addr) (hS : S ∉ fp) (ks : Mem) (hn : n = ks.length) (few : ks.length ≤ 2000) (hv : ∀ i v, Pv i v → ∃ p, ks[i]? = some p ∧ v = .ref p.1)
    (h0 : Heap) (hk : ∀ p, p ∈ ks → Ky h0 p.2 p.1) (hS0 : h0.get? S = none) (hw0 : ∀ b, b ∈ wr → h0.get? b = none) (hu : A.in1.units + 8 < cLine) :
    ∀ (m i : Nat) (s : Shared), n - i = m → i ≤ n → St i s → (∀ b o, h0.get? b = some o → s.heap.get? b = some o) → (∃ L es ep t, SR w s.heap S L es ep t ∧ Has ks i L) →
      (∀ s' L es ep t, Moved (S :: wr) G s s' → SR w s'.heap S L es ep t → Has ks n L → (∀ b o, h0.get? b = some o → s'.heap.get? b = some o) → R (.ok (.ret .none)) s') →
      codeAny (model P w) A (.builtin "set.update.loop" ⟨[.ref S, .ref I], []⟩) R s := by
  have hSw : S ∉ wr := fun h => hS (W.sub _ h)
  have up : ∀ b, b ∈ wr → b ∈ S :: wr := fun b hb => List.mem_cons_of_mem _ hb
  have on : ∀ {s s' : Shared}, Moved wr G s s' → (∀ b o, h0.get? b = some o → s.heap.get? b = some o) → ∀ b o, h0.get? b = some o → s'.heap.get? b = some o := fun hm hp b o e =>
    hm.heap b o (fun hb => by rw [hw0 b hb] at e; cases e) (hp b o e)
  have old : ∀ {L : Mem} {i : Nat} {h : Heap}, Has ks i L → (∀ b o, h0.get? b = some o → h.get? b = some o) → ∀ p, p ∈ L → Ky h p.2 p.1 := fun g hp p z => (hk p (List.mem_of_mem_take (g.sub p z))).stay hp
  intro m
  induction m with
  | zero =>
    intro i s hm hi hst hp ⟨L, es, ep, t, hR, g⟩ q
    obtain rfl : i = n := by omega
    refine codeAny_builtin F.entry_set_update_loop ?_
    rw [Around.under_plainId F.plain_set_update_loop _]
    show wpAny _ A.in1 (pyNext (.ref I) >>= _) _ _ s
    refine wpAny_bind (W.done s _ _ hst fun s' mv => ?_)
    show wpAny _ A.in1 (ret Value.none) _ _ s'
    exact wpAny_pure (q s' L es ep t (mv.mono up) (hR.stay (fun o e => mv.heap S o hSw e) (old g (on mv hp))) g (on mv hp))
  | succ m ih =>
    intro i s hm hi hst hp ⟨L, es, ep, t, hR, g⟩ q
    refine codeAny_builtin F.entry_set_update_loop ?_
    rw [Around.under_plainId F.plain_set_update_loop _]
    show wpAny _ A.in1 (pyNext (.ref I) >>= _) _ _ s
    refine wpAny_bind (W.item i s _ _ (by omega) hst fun v s' hP hst' mv => ?_)
    obtain ⟨p, hpi, rfl⟩ := hv i v hP
    have hp' := on mv hp
    have hx : Ky s'.heap p.2 p.1 := (hk p (List.mem_of_getElem? hpi)).stay hp'
    show wpAny _ A.in1 (holding [Value.ref p.1] (setAdd S (.ref p.1)) >>= _) _ _ s'
    refine wpAny_bind (wpAny_holding ?_)
    unfold setAdd
    refine wpAny_holding ?_
    refine wpAny_bind (pyHash_key p.2 _ _ _ _ hx.1 (by have := hx.2; omega) ?_)
    have lt : i < ks.length := (List.getElem?_eq_some_iff.mp hpi).1
    refine add_one (s := { s' with toks := s'.toks + p.2.draws }) (hR.stay (fun o e => mv.heap S o hSw e) (old g hp')) hx hu (by have := g.len; omega) fun b h' L' es' ep' t' sb R' c1 c2 => ?_
    have hp2 : ∀ b o, h0.get? b = some o → h'.get? b = some o := fun b o e => (sb.2 b fun z => by rw [z, hS0] at e; cases e).trans (hp' b o e)
    refine wpAny_pure ⟨plainId_quiet F.plain_set_update_loop _, ih (i + 1) _ (by omega) (by omega) (W.frame _ s' _ _ hst' (Nat.le_add_right _ _) fun b hb o e => ?_) hp2 ⟨L', es', ep', t', R', g.next hpi c1 c2⟩ fun s2 L2 es2 ep2 t2 mv2 R2 g2 hp3 => ?_⟩
    · rw [sb.2 b fun z : b = S => hS (z ▸ hb)]
      exact e
    · refine q s2 L2 es2 ep2 t2 (Moved.trans W.gtrans ((mv.mono up).then_heap (Nat.le_add_right _ _) fun b o hb e => ?_) mv2) R2 g2 hp3
      rw [sb.2 b fun z : b = S => hb (z ▸ List.mem_cons_self)]
      exact e
abbrev new0 (w : World) : Obj := { cls := .type "set", dict := none, data := .set #[] 0 (fresh0 w) }
/-- the loop over the items of l, whose walk is as W says -/
theorem loop_of {l : Addr} {items : Array Value} {ob : Obj} (ks : Mem) {R : Result → Shared → Prop} (hl : l < s.heap.objs.size) (hit : items.toList = ks.map fun p => Value.ref p.1)
    (hk : ∀ p, p ∈ ks → Ky s.heap p.2 p.1) (few : ks.length ≤ 2000) (hu : A.in1.units + 8 < cLine) {St : Nat → Heap → Prop}
    (W : l ≠ (s.heap.push (new0 w)).objs.size → Walks P w A.in1 (s.heap.push (new0 w)).objs.size [(s.heap.push (new0 w)).objs.size, l] [(s.heap.push (new0 w)).objs.size] items.size (fun i v => items[i]? = some v) St) (h0 : St 0 ((s.heap.push (new0 w)).push ob))
    (h : ∀ s' L es ep t, s'.gens = s.gens → s'.drawn = s.drawn → s'.os = s.os → SR w s'.heap s.heap.objs.size L es ep t → Has ks ks.length L → (∀ b o, s.heap.get? b = some o → s'.heap.get? b = some o) → R (.ok (.ret .none)) s') :
    codeAny (model P w) A (.builtin "set.update.loop" ⟨[.ref s.heap.objs.size, .ref (s.heap.push (new0 w)).objs.size], []⟩) R { s with heap := (s.heap.push (new0 w)).push ob } := by
  have n : items.size = ks.length := by simpa using congrArg List.length hit
  have sz : (s.heap.push (new0 w)).objs.size = s.heap.objs.size + 1 := Heap.size_push ..
  have none_of : ∀ b, s.heap.objs.size ≤ b → s.heap.get? b = none := fun b hb => by
    cases q : s.heap.get? b with
    | none => rfl
    | some o => exact absurd (Heap.lt_size q) (Nat.not_lt_of_le hb)
  have lI : l ≠ (s.heap.push (new0 w)).objs.size := by rw [sz]; exact Nat.ne_of_lt (Nat.lt_succ_of_lt hl)
  have at0 : ((s.heap.push (new0 w)).push ob).get? s.heap.objs.size = some (new0 w) := Heap.get?_push_of_some _ (Heap.get?_push_size _ rfl)
  refine upd_loop (n := items.size) (W lI).toS s.heap.objs.size ?_ ks n few (fun i v hv => ?_) s.heap hk (none_of _ (Nat.le_refl _)) (fun b hb => none_of b (by rw [List.mem_singleton.mp hb]; omega)) hu (items.size - 0) 0 _ (by omega) (Nat.zero_le _)
    h0 (fun b o e => Heap.get?_push_of_some _ (Heap.get?_push_of_some _ e)) ⟨[], #[], 0, _, sr_fresh at0, ⟨fun p z => (by cases z), fun p z => (by simp at z), Nat.le_refl _⟩⟩ fun s' L es ep t mv R g k => ?_
  · simp only [List.mem_cons, List.not_mem_nil, or_false, not_or]
    rw [sz]
    exact ⟨Nat.ne_of_lt (Nat.lt_succ_self _), Nat.ne_of_gt hl⟩
  · have q : items.toList[i]? = some v := by rw [Array.getElem?_toList]; exact hv
    rw [hit, List.getElem?_map] at q
    obtain ⟨p, hp, e⟩ := Option.map_eq_some_iff.mp q
    exact ⟨p, hp, e.symm⟩
  · exact h s' L es ep t mv.gens mv.drawn mv.os R (n ▸ g) k
theorem set_of_tup {l : Addr} {items : Array Value} (ks : Mem) {Q : Value → Shared → Prop} (hh : A.handled = none) (hl : s.heap.IsTuple l items) (hit : items.toList = ks.map fun p => Value.ref p.1)
    (hk : ∀ p, p ∈ ks → Ky s.heap p.2 p.1) (few : ks.length ≤ 2000) (hu : A.units + 11 < cLine)
    (h : ∀ (h' : Heap) (tk : Nat) L es ep t, SR w h' s.heap.objs.size L es ep t → Has ks ks.length L → (∀ b o, s.heap.get? b = some o → h'.get? b = some o) → Q (.ref s.heap.objs.size) { s with heap := h', toks := tk }) :
    wpAny (model P w) A (call (.type "set") [.ref l]) Q E s := by
  obtain ⟨c, tl, hmro⟩ := F.called_set.mro
  have hmade := F.called_set.made
  have hsub := F.called_set.sub
  refine wpAny_call (codeAny_of_tree ?_)
  show wpAny _ _ (callAny (.type "set") _) _ _ _
  refine wpAny_pure ⟨Code.quiet_builtin _ (by decide +kernel), codeAny_builtin F.entry_type_call ?_⟩
  rw [Around.under_plain (weight_type_call_type "set" [.ref l] []) rfl]
  have h1 := F.called_set.notType
  have h2 := F.called_set.canCreate
  have hct := F.typeCall_set_1 (.ref l)
  repeat (any_goals (first | assumption | wp_step))
  refine codeAny_mono (code_set_led1 (.ref l) (E := E) (Q₁ := fun obj s₁ => obj = .ref s.heap.objs.size ∧ s₁ = { s with heap := s.heap.push (new0 w) }) ⟨rfl, rfl⟩) fun r s₁ hr => ?_
  cases r with
  | error e => exact hr
  | ok fl =>
    cases fl with
    | ret obj =>
      obtain ⟨rfl, rfl⟩ := hr
      have hT : Shared.TypeIs { s with heap := s.heap.push (new0 w) } (.ref s.heap.objs.size) "set" := ⟨_, Heap.get?_push_size _ rfl, rfl⟩
      have hli := F.called_set.init.lookup
      have hbi := F.called_set.init.bind (.ref s.heap.objs.size)
      repeat (any_goals (first | assumption | wp_step))
      refine codeAny_mono (codeAny_call_builtin (R := wants (fun r s₂ => r = .none ∧ ∃ h' tk L es ep t, s₂ = { s with heap := h', toks := tk } ∧ SR w h' s.heap.objs.size L es ep t ∧ Has ks ks.length L ∧
          (∀ b o, s.heap.get? b = some o → h'.get? b = some o)) E) F.called_set.init.plain F.entry_set_init (check_set_init_1 hT ?_)) fun r₂ s₂ hr₂ => ?_
      · have hl0 := hl
        obtain ⟨ol, hol, hcl, nl, hdl⟩ := hl0
        obtain ⟨ocls, odict, odata, oslots⟩ := ol
        simp only at hcl hdl
        subst hcl; subst hdl
        have hol' : (s.heap.push (new0 w)).get? l = some { cls := .type "tuple", dict := odict, data := .seq items nl, slots := oslots } := Heap.get?_push_of_some _ hol
        have hsls := F.sub_tuple_set
        have hslf := F.sub_tuple_frozenset
        have hne : (Value.type "tuple" == Value.type "dict") = false := by decide
        have hl1 : (s.heap.push (new0 w)).IsTuple l items := ⟨_, hol', rfl, nl, rfl⟩
        unfold Builtin.«set.__init__» noKeywords Builtin.Frozenset.updateFrom
        generalize hPI : pyIter = PI
        wp_walk
        subst hPI
        refine wpAny_pyIter_tuple hl1 ?_
        refine wpAny_bind (wpAny_runValue ?_)
        refine loop_of (A := A.in1.in1) (St := _) ks (Heap.lt_size hol) hit hk few (show A.units + 3 + 8 < cLine from hu) (fun lI => Walks.tuple (by simp [hh]) _ l lI items) ⟨⟨_, Heap.get?_push_size _ rfl, rfl, rfl⟩, hl1.push _⟩ fun s' L es ep t eg ed eo hS g k => ?_
        obtain ⟨h', g2, d', tk', os'⟩ := s'
        have eg : g2 = s.gens := eg
        have ed : d' = s.drawn := ed
        have eo : os' = s.os := eo
        subst eg; subst ed; subst eo
        show wpAny _ _ _ _ _ _
        refine wpAny_pure ?_
        show wpAny _ _ (ret Value.none) _ _ _
        exact wpAny_pure ⟨rfl, h', tk', L, es, ep, t, rfl, hS, g, k⟩
      · cases r₂ with
        | error e => exact hr₂
        | ok fl₂ =>
          cases fl₂ with
          | ret r =>
            obtain ⟨rfl, h', tk, L, es, ep, t, rfl, hS', g', hk'⟩ := hr₂
            repeat (any_goals (first | assumption | wp_step))
            exact h _ _ _ _ _ _ hS' g' hk'
          | _ => exact hr₂.elim
    | _ => exact hr.elim
theorem set_of_lst {l : Addr} {items : Array Value} (ks : Mem) {Q : Value → Shared → Prop} (hh : A.handled = none) (hl : s.heap.IsList l items) (hit : items.toList = ks.map fun p => Value.ref p.1)
    (hk : ∀ p, p ∈ ks → Ky s.heap p.2 p.1) (few : ks.length ≤ 2000) (hu : A.units + 11 < cLine)
    (h : ∀ (h' : Heap) (tk : Nat) L es ep t, SR w h' s.heap.objs.size L es ep t → Has ks ks.length L → (∀ b o, s.heap.get? b = some o → h'.get? b = some o) → Q (.ref s.heap.objs.size) { s with heap := h', toks := tk }) :
    wpAny (model P w) A (call (.type "set") [.ref l]) Q E s := by
  obtain ⟨c, tl, hmro⟩ := F.called_set.mro
  have hmade := F.called_set.made
  have hsub := F.called_set.sub
  refine wpAny_call (codeAny_of_tree ?_)
  show wpAny _ _ (callAny (.type "set") _) _ _ _
  refine wpAny_pure ⟨Code.quiet_builtin _ (by decide +kernel), codeAny_builtin F.entry_type_call ?_⟩
  rw [Around.under_plain (weight_type_call_type "set" [.ref l] []) rfl]
  have h1 := F.called_set.notType
  have h2 := F.called_set.canCreate
  have hct := F.typeCall_set_1 (.ref l)
  repeat (any_goals (first | assumption | wp_step))
  refine codeAny_mono (code_set_led1 (.ref l) (E := E) (Q₁ := fun obj s₁ => obj = .ref s.heap.objs.size ∧ s₁ = { s with heap := s.heap.push (new0 w) }) ⟨rfl, rfl⟩) fun r s₁ hr => ?_
  cases r with
  | error e => exact hr
  | ok fl =>
    cases fl with
    | ret obj =>
      obtain ⟨rfl, rfl⟩ := hr
      have hT : Shared.TypeIs { s with heap := s.heap.push (new0 w) } (.ref s.heap.objs.size) "set" := ⟨_, Heap.get?_push_size _ rfl, rfl⟩
      have hli := F.called_set.init.lookup
      have hbi := F.called_set.init.bind (.ref s.heap.objs.size)
      repeat (any_goals (first | assumption | wp_step))
      refine codeAny_mono (codeAny_call_builtin (R := wants (fun r s₂ => r = .none ∧ ∃ h' tk L es ep t, s₂ = { s with heap := h', toks := tk } ∧ SR w h' s.heap.objs.size L es ep t ∧ Has ks ks.length L ∧
          (∀ b o, s.heap.get? b = some o → h'.get? b = some o)) E) F.called_set.init.plain F.entry_set_init (check_set_init_1 hT ?_)) fun r₂ s₂ hr₂ => ?_
      · have hl0 := hl
        obtain ⟨ol, hol, hcl, nl, hdl⟩ := hl0
        obtain ⟨ocls, odict, odata, oslots⟩ := ol
        simp only at hcl hdl
        subst hcl; subst hdl
        have hol' : (s.heap.push (new0 w)).get? l = some { cls := .type "list", dict := odict, data := .seq items nl, slots := oslots } := Heap.get?_push_of_some _ hol
        have hsls := F.sub_list_set
        have hslf := F.sub_list_frozenset
        have hne : (Value.type "list" == Value.type "dict") = false := by decide
        have hl1 : (s.heap.push (new0 w)).IsList l items := ⟨_, hol', rfl, nl, rfl⟩
        unfold Builtin.«set.__init__» noKeywords Builtin.Frozenset.updateFrom
        generalize hPI : pyIter = PI
        wp_walk
        subst hPI
        refine wpAny_pyIter_list hl1 ?_
        refine wpAny_bind (wpAny_runValue ?_)
        refine loop_of (A := A.in1.in1) (St := _) ks (Heap.lt_size hol) hit hk few (show A.units + 3 + 8 < cLine from hu) (fun lI => Walks.list (by simp [hh]) _ l lI items) ⟨⟨_, Heap.get?_push_size _ rfl, rfl, rfl⟩, hl1.push _⟩ fun s' L es ep t eg ed eo hS g k => ?_
        obtain ⟨h', g2, d', tk', os'⟩ := s'
        have eg : g2 = s.gens := eg
        have ed : d' = s.drawn := ed
        have eo : os' = s.os := eo
        subst eg; subst ed; subst eo
        show wpAny _ _ _ _ _ _
        refine wpAny_pure ?_
        show wpAny _ _ (ret Value.none) _ _ _
        exact wpAny_pure ⟨rfl, h', tk', L, es, ep, t, rfl, hS, g, k⟩
      · cases r₂ with
        | error e => exact hr₂
        | ok fl₂ =>
          cases fl₂ with
          | ret r =>
            obtain ⟨rfl, h', tk, L, es, ep, t, rfl, hS', g', hk'⟩ := hr₂
            repeat (any_goals (first | assumption | wp_step))
            exact h _ _ _ _ _ _ hS' g' hk'
          | _ => exact hr₂.elim
    | _ => exact hr.elim
end
end GS
set_option Elab.async false
set_option linter.all false
set_option maxRecDepth 100000
set_option maxHeartbeats 4000000
/-! sets of keys of any depth: the words of the hand layer -/
namespace GS
open PySem PySem.Spec PyProof.Rows L2 Evl DL
open PySem.W (alike alikeAll dataLt AllAlike Sortable dataLe EachIs)
/-- the set at a, its members aside -/
def SE (w : World) (h : Heap) (a : Addr) (L : Mem) : Prop := ∃ (es : Array (Int × Value)) (ep : Nat) (t : SetTable), (∃ o, h.get? a = some o ∧ o.ExactSet ∧ o.data = .set es ep t) ∧ es.toList = rOf w L ∧ Tb t (hOf w L) ∧ (L.map Prod.snd).Nodup ∧ (w.params.followText "set-order" = true ∨ t.led = true) ∧ L.length * 5 < t.mask * 3
def SetNO (w : World) (a : Addr) (L : Mem) : HO := .ext fun h => SE w h a L
theorem SR.se {w : World} {h : Heap} {a : Addr} {L : Mem} {es : Array (Int × Value)} {ep : Nat} {t : SetTable} (R : SR w h a L es ep t) : SE w h a L := ⟨es, ep, t, R.ob, R.rows, R.tab, R.one, R.led, R.room⟩
theorem setNO_ok {P : Program} {w : World} {H : Hp} {h : Heap} {a : Addr} {L : Mem} (R : SE w h a L) : ObjOk P w H h a (SetNO w a L) := by
  obtain ⟨es, ep, t, ⟨o, ho, r⟩, q⟩ := id R
  refine ⟨R, ⟨o, ho⟩, fun h1 h2 p k => ?_⟩
  obtain ⟨es', ep', t', ⟨o', ho', r'⟩, q'⟩ := show SE w h1 a L from p
  exact ⟨es', ep', t', ⟨o', k o' ho', r'⟩, q'⟩
/-- a set of such keys at a; each member is data that nothing changes -/
structure Ns (w : World) (K : PySem.W.Frag) (H : Hp) (a : Addr) (L : Mem) : Prop where
  at_ : H a = some (SetNO w a L)
  keys : ∀ p, p ∈ L → ∃ d, Dp K H (.ref p.1) d ∧ imm d = true ∧ keyD d = some p.2 ∧ p.2.depth ≤ 8
theorem Ns.tx {w : World} {K : PySem.W.Frag} {H H' : Hp} {a : Addr} {L : Mem} (N : Ns w K H a L) (t : Tx H H') (h : H' a = some (SetNO w a L)) : Ns w K H' a L := ⟨h, fun p hp => by
  obtain ⟨d, h1, h2, h3⟩ := N.keys p hp
  exact ⟨d, dp_tx t _ _ h2 h1, h2, h3⟩⟩
theorem Ns.ex {w : World} {K : PySem.W.Frag} {H H' : Hp} {a : Addr} {L : Mem} (N : Ns w K H a L) (e : Ex H H') : Ns w K H' a L := N.tx (Tx.of_ex e) (e _ _ N.at_)
theorem refs_back : ∀ {ks : Mem} {us : List Value}, Vals (ks.map fun p => V.ref p.1) us → us = ks.map fun p => Value.ref p.1
  | [], _, .nil => rfl
  | _ :: _, _, .cons r t => by
    cases r
    rw [refs_back t]
    rfl
theorem refs_on : ∀ (ks : Mem), Vals (ks.map fun p => V.ref p.1) (ks.map fun p => Value.ref p.1)
  | [] => .nil
  | _ :: ks => .cons rfl (refs_on ks)
theorem tup_ref {K : PySem.W.Frag} {H : Hp} {v : V} {es : List PyData} (h : Dp K H v (.tuple es)) : ∃ b, v = .ref b := by
  cases h
  exact ⟨_, rfl⟩
/-- each of ks is its data's key -/
theorem mems_of {K : PySem.W.Frag} {H : Hp} : ∀ {vs : List V} {ds : List PyData}, DpAll K H vs ds → (∀ d ∈ ds, KeyT d) → ∃ ks : Mem, vs = ks.map (fun p => V.ref p.1) ∧ EachIs (fun p d => Dp K H (.ref p.1) d ∧ keyD d = some p.2 ∧ p.2.depth ≤ 8) ks ds
  | _, _, .nil, _ => ⟨[], rfl, .nil⟩
  | _, d :: _, .cons h t, hk => by
    obtain ⟨⟨es, rfl⟩, k, k1, k2⟩ := hk d List.mem_cons_self
    obtain ⟨ks, rfl, hks⟩ := mems_of t fun e he => hk e (List.mem_cons_of_mem _ he)
    obtain ⟨b, rfl⟩ := tup_ref h
    exact ⟨(b, k) :: ks, rfl, .cons ⟨h, k1, k2⟩ hks⟩
theorem each_lt {α β : Type} {R : α → β → Prop} : ∀ {as : List α} {bs : List β}, EachIs R as bs → ∀ a ∈ as, ∃ b ∈ bs, R a b
  | _, _, .nil, _, h => by cases h
  | _, _, .cons h t, a, ha => by
    rcases List.mem_cons.mp ha with rfl | ha
    · exact ⟨_, List.mem_cons_self, h⟩
    · obtain ⟨b, hb, hr⟩ := each_lt t a ha
      exact ⟨b, List.mem_cons_of_mem _ hb, hr⟩
theorem each_rt {α β : Type} {R : α → β → Prop} : ∀ {as : List α} {bs : List β}, EachIs R as bs → ∀ b ∈ bs, ∃ a ∈ as, R a b
  | _, _, .nil, _, h => by cases h
  | _, _, .cons h t, b, hb => by
    rcases List.mem_cons.mp hb with rfl | hb
    · exact ⟨_, List.mem_cons_self, h⟩
    · obtain ⟨a, ha, hr⟩ := each_rt t b hb
      exact ⟨a, List.mem_cons_of_mem _ ha, hr⟩
/-- the set's members are the data ds, each once -/
structure MemOf (L : Mem) (K : PySem.W.Frag) (H : Hp) (ds : List PyData) : Prop where
  sub : ∀ p, p ∈ L → ∃ d ∈ ds, Dp K H (.ref p.1) d ∧ keyD d = some p.2 ∧ p.2.depth ≤ 8
  all : ∀ d ∈ ds, ∀ k, keyD d = some k → k ∈ L.map Prod.snd
  one : (L.map Prod.snd).Nodup
  len : L.length ≤ ds.length
section
variable {X : Cx}
def rSetN (K : PySem.W.Frag) (w : World) : List V → Hp → VK → Prop := fun xs H Q => ∃ (l : Addr) (vs : List V) (ds : List PyData), xs = [.ref l] ∧ (SqL K H l vs ∨ SqT K H l vs) ∧ DpAll K H vs ds ∧ (∀ d ∈ ds, KeyT d) ∧ ds.length ≤ 2000 ∧
  ∀ a L, H a = none → MemOf L K H ds → Q (.ref a) (upd H a (SetNO w a L))
theorem ky_of {pins : List (Addr × Obj)} {σ : L2.St} {H : Hp} {s : Shared} (I : Inv X pins σ H s) {p : Addr × NestedKey} {d : PyData} (h : Dp X.K H (.ref p.1) d) (hk : keyD d = some p.2) (hd : p.2.depth ≤ 8) : Ky s.heap p.2 p.1 := ⟨nested_of I d _ _ _ hk h rfl, hd⟩
theorem cr_setN (hc : X.calm = true) (hu : X.A.units + 64 < cLine) : CallR X (.type "set") (rSetN X.K X.w) := by
  intro pins s σ H xs us Q I r h
  obtain ⟨l, vs, ds, rfl, hl, hd, hk, few, q⟩ := h
  obtain ⟨ks, rfl, hks⟩ := mems_of hd hk
  have hn : H s.heap.objs.size = none := I.hok.fresh (Nat.le_refl _)
  have ln : ks.length = ds.length := hks.length
  have fin : ∀ (h' : Heap) (tk : Nat) L es ep t, SR X.w h' s.heap.objs.size L es ep t → Has ks ks.length L → (∀ b o, s.heap.get? b = some o → h'.get? b = some o) →
      ∃ v H1, Inv X pins σ H1 { s with heap := h', toks := tk } ∧ RelV v (.ref s.heap.objs.size) ∧ Q v H1 := fun h' tk L es ep t R g k => by
    refine ⟨.ref s.heap.objs.size, upd H s.heap.objs.size (SetNO X.w s.heap.objs.size L), I.laid (t' := tk) k (Nat.le_refl _) (setNO_ok R.se), rfl, q _ L hn ⟨fun p hp => ?_, fun d hd k hk => ?_, R.one, ln ▸ g.len⟩⟩
    · exact each_lt hks p (List.mem_of_mem_take (g.sub p hp))
    · obtain ⟨p, hp, _, e, _⟩ := each_rt hks d hd
      cases hk.symm.trans e
      exact g.all p (by rw [List.take_length]; exact hp)
  have kk : ∀ p, p ∈ ks → Ky s.heap p.2 p.1 := fun p hp => by
    obtain ⟨d, _, h1, h2, h3⟩ := each_lt hks p hp
    exact ky_of I h1 h2 h3
  rw [Vals.ref1 r]
  rcases hl with hl | hl
  · obtain ⟨its, rv, pl, _⟩ := I.list hl
    exact set_of_lst (P := X.prog) (w := X.w) ks (I.ok.hd hc) pl.isList (by simpa using refs_back rv) kk (by omega) (by omega) fin
  · obtain ⟨its, rv, pl, _⟩ := I.tuple hl
    exact set_of_tup (P := X.prog) (w := X.w) ks (I.ok.hd hc) pl (by simpa using refs_back rv) kk (by omega) (by omega) fin
/-! sorted(a set) -/
theorem out_mems {L : Mem} {h : Heap} (key : ∀ p, p ∈ L → Ky h p.2 p.1) (one : (L.map Prod.snd).Nodup) {vs : List Value} (pm : vs.Perm (L.map fun p => Value.ref p.1)) : ∃ M : Mem, vs = M.map (fun p => Value.ref p.1) ∧ M.Perm L := by
  have same : ∀ p ∈ L, ∀ q ∈ L, p.1 = q.1 → p = q := fun p hp q hq e => by
    have a := key p hp
    rw [e] at a
    exact Prod.ext e (a.inj (key q hq))
  have back : ∀ vs : List Value, (∀ v ∈ vs, ∃ p ∈ L, v = Value.ref p.1) → ∃ M : Mem, vs = M.map (fun p => Value.ref p.1) ∧ ∀ p ∈ M, p ∈ L := by
    intro vs
    induction vs with
    | nil => exact fun _ => ⟨[], rfl, fun _ z => by cases z⟩
    | cons v vs ih =>
      intro hv
      obtain ⟨p, hp, rfl⟩ := hv v List.mem_cons_self
      obtain ⟨M, rfl, hM⟩ := ih fun u hu => hv u (List.mem_cons_of_mem _ hu)
      exact ⟨p :: M, rfl, fun r hr => (List.mem_cons.mp hr).elim (fun z => z ▸ hp) (hM r)⟩
  obtain ⟨M, rfl, hM⟩ := back vs fun v hv => by
    obtain ⟨p, hp, e⟩ := List.mem_map.mp (pm.mem_iff.mp hv)
    exact ⟨p, hp, e.symm⟩
  have nL : L.Nodup := List.Pairwise.of_map Prod.snd (fun _ _ ne e => ne (congrArg _ e)) one
  have nr : (L.map fun p => Value.ref p.1).Nodup := List.pairwise_map.mpr (List.Pairwise.imp_of_mem (fun {p q} hp hq ne e => by
    injection e with e
    exact ne (same p hp q hq e)) nL)
  have nM : M.Nodup := List.Pairwise.of_map (fun p : Addr × NestedKey => Value.ref p.1) (fun _ _ ne e => ne (e ▸ rfl)) (pm.nodup_iff.mpr nr)
  refine ⟨M, rfl, (List.perm_ext_iff_of_nodup nM nL).mpr fun p => ⟨hM p, fun hp => ?_⟩⟩
  obtain ⟨r, hr, e⟩ := List.mem_map.mp (pm.mem_iff.mpr (List.mem_map.mpr ⟨p, hp, rfl⟩))
  injection e with e
  rw [← same r (hM r hr) p hp e]
  exact hr
/-- sorted(s), s a set; dat tells each key's data -/
def rSortedN (K : PySem.W.Frag) (w : World) : List V → Hp → VK → Prop := fun xs H Q => ∃ (a : Addr) (L : Mem) (dat : NestedKey → PyData), xs = [.ref a] ∧ H a = some (SetNO w a L) ∧
  (∀ p, p ∈ L → Dp K H (.ref p.1) (dat p.2) ∧ keyD (dat p.2) = some p.2 ∧ p.2.depth ≤ 8) ∧ AllAlike (L.map fun p => dat p.2) ∧ Sortable (L.map fun p => dat p.2) ∧ (∀ p, p ∈ L → (dat p.2).depth ≤ 50) ∧ L.length ≤ 4000 ∧
  ∀ (M : Mem) (p : Addr) (ys : List V), M.Perm L → H p = none → DpAll K H ys ((M.map fun q => dat q.2).mergeSort leD) → Q (.ref p) (upd H p (.lst ys))
mutual
theorem reads_there {h : Heap} : ∀ {d : PyData} {v : Value} {as : List Addr}, Reads h v d as → ∀ b ∈ as, ∃ o, h.get? b = some o
  | _, _, _, .none, _, z => by cases z
  | _, _, _, .bool _, _, z => by cases z
  | _, _, _, .int _ _, _, z => by cases z
  | _, _, _, .str _ _, _, z => by cases z
  | _, _, _, .list h1 _ _ h4, b, z => by
    rcases List.mem_cons.mp z with rfl | z
    · exact ⟨_, h1⟩
    · exact readsAll_there h4 b z
  | _, _, _, .tuple _ _ _ h4, b, z => readsAll_there h4 b z
  | _, _, _, .dict h1 _ _ h4 h5, b, z => by
    rcases List.mem_cons.mp z with rfl | z
    · exact ⟨_, h1⟩
    · rcases List.mem_append.mp z with z | z
      · exact readsAll_there h4 b z
      · exact readsAll_there h5 b z
theorem readsAll_there {h : Heap} : ∀ {ds : List PyData} {vs : List Value} {as : List Addr}, ReadsAll h vs ds as → ∀ b ∈ as, ∃ o, h.get? b = some o
  | _, _, _, .nil, _, z => by cases z
  | _, _, _, .cons h1 h2, b, z => by
    rcases List.mem_append.mp z with z | z
    · exact reads_there h1 b z
    · exact readsAll_there h2 b z
end
theorem each_self {α β : Type} {R : α → β → Prop} {f : β → α} : ∀ {bs : List β}, (∀ b ∈ bs, R (f b) b) → EachIs R (bs.map f) bs
  | [], _ => .nil
  | b :: bs, h => .cons (h b List.mem_cons_self) (each_self fun c hc => h c (List.mem_cons_of_mem _ hc))
theorem cr_sortedN (hc : X.calm = true) (hu : X.A.units + 64 < cLine) : CallR X (.builtin "sorted") (rSortedN X.K X.w) := by
  intro pins s σ H vs us Q I r h
  obtain ⟨a, L, dat, rfl, ha, hk, al, so, dep, few, q⟩ := h
  obtain ⟨es, ep, t, ob, rows, tab, one, led, room⟩ := show SE X.w s.heap a L from (I.hok a _ ha).1
  have key : ∀ p, p ∈ L → Ky s.heap p.2 p.1 := fun p hp => ky_of I (hk p hp).1 (hk p hp).2.1 (hk p hp).2.2
  have R : SR X.w s.heap a L es ep t := ⟨ob, rows, tab, one, key, led, room⟩
  have sz := R.size
  obtain ⟨o, ho, hex, hd⟩ := ob
  rw [Vals.ref1 r]
  refine Calls.call_function_entry kind_sorted plain_sorted entry_sorted (args_sorted1 _) ?_
  unfold Builtin.«sorted»
  refine wpAny_bind (m := checkCount "sorted" 1 1 _) (wpAny_pure ?_)
  refine wpAny_bind (collect_set (A := X.A.in1) (I.ok.hd hc) ⟨o, ho, hex.1, hd⟩ R.fits (by rw [sz]; unfold scanBound; omega) tab.up led fun s1 vs k1 hz g1 o1 pm => ?_)
  rw [rows, List.map_map, show ((fun x : Int × Value => x.2) ∘ fun p : Addr × NestedKey => (p.2.hash X.w, Value.ref p.1)) = fun p => Value.ref p.1 from rfl] at pm
  obtain ⟨M, rfl, hM⟩ := out_mems key one pm
  have lM : M.length = L.length := hM.length_eq
  refine wpAny_bind (wpAny_newList ?_ (by rw [List.length_map, lM, sizeLine_eq]; omega))
  have hoL : (s1.heap.push (seqObj "list" (M.map fun p => Value.ref p.1).toArray 0)).get? s1.heap.objs.size = some (seqObj "list" (M.map fun p => Value.ref p.1).toArray 0) := Heap.get?_push_size _ rfl
  have eL : EachIs (fun v (b : V × PyData) => RelV b.1 v ∧ Dp X.K H b.1 b.2) (M.map fun p => Value.ref p.1) (M.map fun p => (V.ref p.1, dat p.2)) := by
    have g : ∀ N : Mem, (∀ p ∈ N, p ∈ L) → EachIs (fun v (b : V × PyData) => RelV b.1 v ∧ Dp X.K H b.1 b.2) (N.map fun p => Value.ref p.1) (N.map fun p => (V.ref p.1, dat p.2)) := by
      intro N
      induction N with
      | nil => exact fun _ => .nil
      | cons p N ih => exact fun hN => .cons ⟨rfl, (hk p (hN p List.mem_cons_self)).1⟩ (ih fun q hq => hN q (List.mem_cons_of_mem _ hq))
    exact g M fun p hp => hM.mem_iff.mp hp
  have ed : (M.map fun p : Addr × NestedKey => (V.ref p.1, dat p.2)).map Prod.snd = M.map fun p => dat p.2 := by rw [List.map_map]; rfl
  have mem_dat {d : PyData} : d ∈ (M.map fun p => dat p.2) → d ∈ L.map fun p => dat p.2 := fun z => (hM.map fun p : Addr × NestedKey => dat p.2).mem_iff.mp z
  refine wpAny_bind (wpAny_holding (PySem.W.list_sort_data (s := { s1 with heap := s1.heap.push (seqObj "list" (M.map fun p => Value.ref p.1).toArray 0) }) (β := V × PyData) (enc := Prod.snd) hoL eL (eL.mono fun v b z => ?_) (by rw [ed]; exact fun d hd e he => al d (mem_dat hd) e (mem_dat he)) (by rw [ed]; exact so.elim (fun z => .inl fun d hd => z d (mem_dat hd)) fun z => .inr fun d hd => z d (mem_dat hd)) (by rw [List.length_map, lM, sizeLine_eq]; omega) (fun b hb => ?_) fun out lo eo => ?_))
  · obtain ⟨as, rd⟩ := Dp.reads I b.2 b.1 v z.2 z.1
    have rd1 := PyProof.Rows.Reads.keeps k1 rd
    refine ⟨as, PyProof.Rows.Reads.keeps (fun _ _ y => Heap.get?_push_of_some _ y) rd1, fun y => ?_⟩
    obtain ⟨o', ho'⟩ := reads_there rd1 s1.heap.objs.size y
    exact absurd (Heap.lt_size ho') (Nat.lt_irrefl _)
  · obtain ⟨p, hp, rfl⟩ := List.mem_map.mp hb
    have := dep p (hM.mem_iff.mp hp)
    show X.A.in1.units + 1 + (dat p.2).depth < cLine
    rw [Around.in1_units]
    omega
  · obtain ⟨c, hc'⟩ := sortedHeap_at (vs := M.map fun p => Value.ref p.1) (out := out.toArray) hoL
    obtain ⟨vo, dpo⟩ := each_vals eo
    have srt : ((M.map fun p : Addr × NestedKey => (V.ref p.1, dat p.2)).mergeSort (dataLe false Prod.snd)).map Prod.snd = (M.map fun p => dat p.2).mergeSort leD := by
      rw [List.map_mergeSort (r := dataLe false Prod.snd) (s := leD) (f := Prod.snd) (fun _ _ _ _ => rfl), ed]
    rw [srt] at dpo
    have hn : H s1.heap.objs.size = none := I.hok.fresh hz
    have ln : (((M.map fun p : Addr × NestedKey => (V.ref p.1, dat p.2)).mergeSort (dataLe false Prod.snd)).map Prod.fst).length ≤ sizeLine := by rw [List.length_map, List.length_mergeSort, List.length_map, lM, sizeLine_eq]; omega
    have kp : ∀ b u, s.heap.get? b = some u → (sortedHeap (s1.heap.push (seqObj "list" (M.map fun p => Value.ref p.1).toArray 0)) s1.heap.objs.size (M.map fun p => Value.ref p.1) out.toArray).get? b = some u := fun b u e => by
      have y := k1 b u e
      have lt := Heap.lt_size y
      rw [sortedHeap_old (Nat.ne_of_lt lt) (by rw [size_push']; exact Nat.lt_succ_of_lt lt)]
      exact Heap.get?_push_of_some _ y
    refine wpAny_pure ⟨_, rfl, ?_⟩
    refine ⟨.ref s1.heap.objs.size, upd H s1.heap.objs.size (.lst (((M.map fun p : Addr × NestedKey => (V.ref p.1, dat p.2)).mergeSort (dataLe false Prod.snd)).map Prod.fst)), ?_, rfl, q M _ _ hM hn dpo⟩
    have J : Inv X pins σ (upd H s1.heap.objs.size (.lst (((M.map fun p : Addr × NestedKey => (V.ref p.1, dat p.2)).mergeSort (dataLe false Prod.snd)).map Prod.fst))) { s with heap := sortedHeap (s1.heap.push (seqObj "list" (M.map fun p => Value.ref p.1).toArray 0)) s1.heap.objs.size (M.map fun p => Value.ref p.1) out.toArray, gens := s1.gens, drawn := s1.drawn, toks := s1.toks } :=
      I.call (ch := []) (Un.laid kp hz hn) (I.hok.laid kp hz ⟨ln, out, c, vo, hc'⟩) (by rw [g1]; exact I.bare) (fun _ z => nomatch z)
    cases s1
    cases s
    cases o1
    exact J
end
end GS
set_option Elab.async false
set_option linter.all false
set_option maxRecDepth 100000
set_option maxHeartbeats 4000000
/-! sorted(set(xs)), len(set(xs)) -/
namespace GS
open PySem PySem.Spec PyProof.Rows L2 Evl DL
open PySem.W (alike alikeAll dataLt AllAlike Sortable dataLe EachIs)
/-- rs is what ds has, ascending, each once -/
structure Srt (rs ds : List PyData) : Prop where
  one : rs.Nodup
  mem : ∀ d, d ∈ rs ↔ d ∈ ds
  up : rs.Pairwise fun a b => leD a b = true
theorem Srt.eq {rs rs' ds : List PyData} (h : Srt rs ds) (h' : Srt rs' ds) (anti : ∀ a ∈ ds, ∀ b ∈ ds, leD a b = true → leD b a = true → a = b) : rs = rs' :=
  List.Perm.eq_of_pairwise (le := fun a b => leD a b = true) (fun a b ha hb => anti a ((h.mem a).mp ha) b ((h'.mem b).mp hb)) h.up h'.up ((List.perm_ext_iff_of_nodup h.one h'.one).mpr fun d => (h.mem d).trans (h'.mem d).symm)
theorem leD_up (ds : List PyData) : (ds.mergeSort leD).Pairwise fun a b => leD a b = true := by
  have tot := PySem.W.sortLe_total (listOrd itemOrd) false (fun d : PyData => PySem.W.keyToks d)
  exact List.pairwise_mergeSort (fun a b c h1 h2 => tot.trans a b c h1 h2) (fun a b => by exact Bool.or_eq_true _ _ ▸ tot.total a b) ds
theorem srt_of {ds : List PyData} (nd : ds.Nodup) : Srt (ds.mergeSort leD) ds := ⟨(List.mergeSort_perm _ _).nodup_iff.mpr nd, fun d => (List.mergeSort_perm _ _).mem_iff, leD_up ds⟩
section
variable {K : PySem.W.Frag} {w : World} {σ : L2.St} {H : Hp} {te : TE} {ds rs : List PyData}
/-- what is put into a set: tuples, numbers and texts in them -/
structure SetD (ds : List PyData) : Prop where
  key : ∀ d ∈ ds, KeyT d
  imm : immAll ds = true
  inj : ∀ d ∈ ds, ∀ e ∈ ds, keyD d = keyD e → d = e
  few : ds.length ≤ 2000
theorem dat_of {L : Mem} (S : SetD ds) (m : MemOf L K H ds) : ∃ dat : NestedKey → PyData, (∀ p, p ∈ L → dat p.2 ∈ ds ∧ Dp K H (.ref p.1) (dat p.2) ∧ keyD (dat p.2) = some p.2 ∧ p.2.depth ≤ 8) ∧ ∀ d ∈ ds, ∃ p ∈ L, dat p.2 = d := by
  classical
  have go : ∀ k, ∃ d, ∀ e ∈ ds, keyD e = some k → e = d := fun k => by
    by_cases c : ∃ e ∈ ds, keyD e = some k
    · obtain ⟨e, he, hk⟩ := c
      exact ⟨e, fun e' he' hk' => S.inj e' he' e he (hk'.trans hk.symm)⟩
    · exact ⟨.none, fun e he hk => absurd ⟨e, he, hk⟩ c⟩
  refine ⟨fun k => (go k).choose, fun p hp => ?_, fun d hd => ?_⟩
  · obtain ⟨d, hd, h1, h2, h3⟩ := m.sub p hp
    have e := (go p.2).choose_spec d hd h2
    show (go p.2).choose ∈ ds ∧ Dp K H (.ref p.1) (go p.2).choose ∧ keyD (go p.2).choose = some p.2 ∧ p.2.depth ≤ 8
    rw [← e]
    exact ⟨hd, h1, h2, h3⟩
  · obtain ⟨_, k, hk, _⟩ := S.key d hd
    obtain ⟨p, hp, e⟩ := List.mem_map.mp (m.all d hd k hk)
    exact ⟨p, hp, ((go p.2).choose_spec d hd (e ▸ hk)).symm⟩
theorem EachIs.memL {α β : Type} {R : α → β → Prop} : ∀ {as : List α} {bs : List β}, EachIs R as bs → as.length = bs.length
  | _, _, .nil => rfl
  | _, _, .cons _ t => congrArg (· + 1) (EachIs.memL t)
/-- sorted(set(xs)) -/
theorem en_sortedSet (h : EvD K te σ H (.list ds) ∨ EvD K te σ H (.tuple ds)) (S : SetD ds) (al : AllAlike ds) (so : Sortable ds) (dep : ∀ d ∈ ds, d.depth ≤ 50) (anti : ∀ a ∈ ds, ∀ b ∈ ds, leD a b = true → leD b a = true → a = b) (hr : Srt rs ds) :
    EvN K (tCB (rSortedN K w) (tCons (tCB (rSetN K w) (tCons te tNil)) tNil)) σ H rs := fun H1 e Q q => by
  have go : ∀ v H2, Ex H1 H2 → (Dp K H2 v (.list ds) ∨ Dp K H2 v (.tuple ds)) → rSetN K w [v] H2 fun x H3 => rSortedN K w [x] H3 Q := fun v H2 e2 hv => by
    obtain ⟨l, vs, rfl, hs, hd⟩ : ∃ l vs, v = .ref l ∧ (SqL K H2 l vs ∨ SqT K H2 l vs) ∧ DpAll K H2 vs ds := by
      rcases hv with hv | hv
      · cases hv with
        | lst hs ha => exact ⟨_, _, rfl, .inl hs, ha⟩
      · cases hv with
        | tup hs ha => exact ⟨_, _, rfl, .inr hs, ha⟩
    refine ⟨l, vs, ds, rfl, hs, hd, S.key, S.few, fun a L ha m => ?_⟩
    obtain ⟨dat, h1, h2⟩ := dat_of S m
    have e3 : Ex H2 (upd H2 a (SetNO w a L)) := Ex.new ha
    have mL : ∀ d, d ∈ (L.map fun p => dat p.2) ↔ d ∈ ds := fun d => ⟨fun z => by
      obtain ⟨p, hp, rfl⟩ := List.mem_map.mp z
      exact (h1 p hp).1, fun z => by
      obtain ⟨p, hp, rfl⟩ := h2 d z
      exact List.mem_map.mpr ⟨p, hp, rfl⟩⟩
    refine ⟨a, L, dat, rfl, upd_same, fun p hp => ⟨dp_ex e3 _ _ (h1 p hp).2.1, (h1 p hp).2.2⟩, fun d hd' e' he' => al d ((mL d).mp hd') e' ((mL e').mp he'), so.elim (fun z => .inl fun d hd' => z d ((mL d).mp hd')) (fun z => .inr fun d hd' => z d ((mL d).mp hd')), fun p hp => dep _ (h1 p hp).1, Nat.le_trans m.len (Nat.le_trans S.few (by decide)), fun M p ys hM hp hy => ?_⟩
    have nL : (L.map fun p => dat p.2).Nodup := by
      have := List.pairwise_map.mp m.one
      refine List.pairwise_map.mpr (List.Pairwise.imp_of_mem (fun {p q'} hp' hq' ne z => ne ?_) this)
      have a1 := (h1 p hp').2.2.1
      rw [z, (h1 q' hq').2.2.1] at a1
      exact (Option.some.inj a1).symm
    have pm := hM.map fun p : Addr × NestedKey => dat p.2
    have er : (M.map fun p : Addr × NestedKey => dat p.2).mergeSort leD = rs := by
      have s1 := srt_of (pm.nodup_iff.mpr nL)
      exact Srt.eq (ds := ds) ⟨s1.one, fun d => (s1.mem d).trans (pm.mem_iff.trans (mL d)), s1.up⟩ hr anti
    rw [er] at hy
    have hp1 : H1 p = none := fresh_back (e2.trans e3) hp
    exact q p ys _ hp1 ((e2.trans e3).trans (Ex.new hp)) upd_same (dpa_ex (Ex.new hp) _ _ hy)
  rcases h with h | h
  · exact h H1 e _ fun v H2 e2 hv => go v H2 e2 (.inl hv)
  · exact h H1 e _ fun v H2 e2 hv => go v H2 e2 (.inr hv)
end
end GS
set_option Elab.async false
set_option linter.all false
set_option maxRecDepth 100000
set_option maxHeartbeats 4000000
/-! dicts with keys of any depth: setdefault, d[k], {k: v}, sorted(d) -/
namespace DL
open PySem PySem.Spec PyProof.Rows L2 Evl
open PySem.W (alike alikeAll dataLt AllAlike Sortable dataLe EachIs)
/-- the value at a key -/
def getN (kvs : List (NestedKey × Addr × V)) (k : NestedKey) : Option V := (kvs.find? fun x => decide (x.1 = k)).map (·.2.2)
theorem hasN_get (kvs : List (NestedKey × Addr × V)) (k : NestedKey) : hasN kvs k = (getN kvs k).isSome := by
  unfold hasN getN
  rw [Option.isSome_map]
  induction kvs with
  | nil => rfl
  | cons x r ih =>
    rw [List.any_cons, List.find?_cons]
    cases decide (x.1 = k) with
    | true => rfl
    | false => simpa using ih
theorem getN_put {kvs : List (NestedKey × Addr × V)} {k k' : NestedKey} {b : Addr} {v : V} : getN (putN kvs k b v) k' = if k' = k then some v else getN kvs k' := by
  unfold putN
  by_cases h : hasN kvs k = true
  · rw [if_pos h]
    have gen : ∀ l : List (NestedKey × Addr × V), hasN l k = true ∨ k' ≠ k → getN (l.map fun x => if x.1 = k then (x.1, x.2.1, v) else x) k' = if k' = k then some v else getN l k' := by
      intro l
      induction l with
      | nil =>
        intro q
        rcases q with q | q
        · cases q
        · rw [if_neg q]; rfl
      | cons x r ih =>
        intro q
        unfold getN
        rw [List.map_cons, List.find?_cons, List.find?_cons]
        by_cases e : x.1 = k
        · rw [if_pos e]
          dsimp only
          by_cases e2 : k' = k
          · subst e2
            rw [decide_eq_true e, if_pos rfl]
            rfl
          · rw [if_neg e2, decide_eq_false (fun z => e2 (z.symm.trans e))]
            have := ih (.inr e2)
            rw [if_neg e2] at this
            exact this
        · rw [if_neg e]
          by_cases e2 : x.1 = k'
          · have e3 : k' ≠ k := fun z => e (e2.trans z)
            rw [decide_eq_true e2, if_neg e3]
          · rw [decide_eq_false e2]
            refine ih ?_
            rcases q with q | q
            · refine .inl ?_
              unfold hasN at q ⊢
              rw [List.any_cons, decide_eq_false e, Bool.false_or] at q
              exact q
            · exact .inr q
    exact gen kvs (.inl h)
  · rw [if_neg h]
    have h0 : getN kvs k = none := by
      rw [hasN_get] at h
      simpa using h
    unfold getN at h0 ⊢
    rw [List.find?_append]
    by_cases e : k' = k
    · subst e
      rw [if_pos rfl]
      rw [Option.map_eq_none_iff] at h0
      rw [h0]
      simp
    · rw [if_neg e]
      rw [List.find?_cons, decide_eq_false (fun z => e z.symm), List.find?_nil, Option.or_none]
theorem get_pair {kvs : List (NestedKey × Addr × V)} {xs : List (NestedKey × Addr × Value)} (pr : Paired (fun p q => p.1 = q.1 ∧ p.2.1 = q.2.1 ∧ RelV p.2.2 q.2.2) kvs xs) {k : NestedKey} {p : Addr × Value} (h : atKey xs k = some p) : ∃ v, getN kvs k = some v ∧ RelV v p.2 := by
  unfold atKey at h
  unfold getN
  induction pr with
  | nil => cases h
  | @cons a b as bs hh t ih =>
    rw [List.find?_cons] at h ⊢
    rw [hh.1]
    cases e : decide (b.1 = k) with
    | true =>
      rw [e] at h
      cases h
      exact ⟨a.2.2, rfl, hh.2.2⟩
    | false =>
      rw [e] at h
      exact ih h
theorem get_none {kvs : List (NestedKey × Addr × V)} {xs : List (NestedKey × Addr × Value)} (pr : Paired (fun p q => p.1 = q.1 ∧ p.2.1 = q.2.1 ∧ RelV p.2.2 q.2.2) kvs xs) {k : NestedKey} (h : atKey xs k = none) : getN kvs k = none := by
  have := has_pair pr k
  rw [h, hasN_get] at this
  cases z : getN kvs k with
  | none => rfl
  | some _ => rw [z] at this; cases this
/-- d.setdefault(k, v) -/
def rSetdN (P : Program) (w : World) (K : PySem.W.Frag) : V → List V → Hp → VK → Prop := fun x xs H Q => ∃ (d : Addr) (kvs : List (NestedKey × Addr × V)) (k : NestedKey) (b : Addr) (v : V) (dd : PyData), x = .ref d ∧ xs = [.ref b, v] ∧ Dp K H (.ref b) dd ∧ keyD dd = some k ∧ k.depth ≤ 8 ∧ Nd P w K H d kvs ∧ kvs.length < sizeLine ∧
  (∀ z, getN kvs k = some z → Q z H) ∧ (getN kvs k = none → Q v (upd H d (NdO P w d (putN kvs k b v))))
/-- d[k] -/
def tGetN (P : Program) (w : World) (K : PySem.W.Frag) (td ty : TE) : TE := fun σ H Q => td σ H fun x H1 => ty σ H1 fun y H2 => ∃ (d : Addr) (kvs : List (NestedKey × Addr × V)) (k : NestedKey) (b : Addr) (v : V) (dd : PyData), x = .ref d ∧ y = .ref b ∧ Dp K H2 (.ref b) dd ∧ keyD dd = some k ∧ k.depth ≤ 8 ∧ Nd P w K H2 d kvs ∧ getN kvs k = some v ∧ Q v H2
/-- {k: v} -/
def tDispN (P : Program) (w : World) (K : PySem.W.Frag) (tk tv : TE) : TE := fun σ H Q => ∀ p, H p = none → tk σ (upd H p (NdO P w p [])) fun y H2 => tv σ H2 fun z H3 => ∃ (k : NestedKey) (b : Addr) (dd : PyData), y = .ref b ∧ Dp K H3 (.ref b) dd ∧ keyD dd = some k ∧ k.depth ≤ 8 ∧ H3 p = some (NdO P w p []) ∧
  Q (.ref p) (upd H3 p (NdO P w p [(k, b, z)]))
/-- sorted(d) -/
def rSortedDk (P : Program) (w : World) (K : PySem.W.Frag) : List V → Hp → VK → Prop := fun xs H Q => ∃ (a : Addr) (kvs : List (NestedKey × Addr × V)) (ds : List PyData), xs = [.ref a] ∧ Nd P w K H a kvs ∧ DpAll K H (kvs.map fun x => V.ref x.2.1) ds ∧ AllAlike ds ∧ Sortable ds ∧ (∀ d ∈ ds, d.depth ≤ 50) ∧ kvs.length ≤ 4000 ∧
  ∀ p ys, H p = none → DpAll K H ys (ds.mergeSort leD) → Q (.ref p) (upd H p (.lst ys))
theorem raw_vals {knd : HeapKind P w NestedKey} : ∀ {kvs : List (NestedKey × Addr × V)} {xs : List (NestedKey × Addr × Value)}, Paired (fun p q => p.1 = q.1 ∧ p.2.1 = q.2.1 ∧ RelV p.2.2 q.2.2) kvs xs → Vals (kvs.map fun x => V.ref x.2.1) (xs.map fun x => Value.ref x.2.1)
  | _, _, .nil => .nil
  | _, _, .cons h t => .cons (by show Value.ref _ = Value.ref _; rw [h.2.1]) (raw_vals (knd := knd) t)
section
variable {X : Cx}
theorem room_in {A : Around} (hu : A.units + 64 < cLine) : A.in1.units + 8 < cLine := by
  have : A.in1.units ≤ A.units + 1 := Nat.le_of_eq rfl
  omega
theorem mt_setdefaultN (hu : X.A.units + 64 < cLine) : MtR X "dict.setdefault" (rSetdN X.prog X.w X.K) := by
  intro pins s σ H x xs v us Q I rx rxs h
  obtain ⟨d, kvs, k, b, v0, dd, rfl, rfl, hb, hk, dep, N, sz, q1, q2⟩ := h
  cases rx
  cases rxs with
  | cons r1 r2 =>
  cases r2 with
  | cons r3 r4 =>
  cases r4
  cases r1
  obtain ⟨z, hd, xs, rel, dd'⟩ := nd_open I N
  have lx : xs.length ≤ sizeLine := Paired.length rel ▸ z
  refine call_setdefault_heap (knd := nestedKind X.prog X.w) (hsz := lx) (room_in hu) ⟨nested_of I dd k _ _ hk hb rfl, dep⟩ hd dd' (fun p hp => ?_) fun hn h' now but => ?_
  · obtain ⟨u, hg, ru⟩ := get_pair rel hp
    exact ⟨u, H, I.tok _, ru, q1 u hg⟩
  · obtain ⟨ob, es, ep, ho, ex, hdat, hl, _, nd⟩ := now
    have pl := putN_len kvs k b v0
    exact ⟨v0, _, d_write I (by rw [N.at_]; exact True.intro) but ⟨ob, ho⟩ (ndO_ok (by omega) hd (put_pair rel k b r3) ho ex hdat hl nd), r3, q2 (get_none rel hn)⟩
theorem pe_getN {o i : Expr} {pos : Pos} {td ty : TE} (hu : X.A.units + 64 < cLine) (ho : PE X o td) (hi : PE X i ty) (hs : NoSl i) : PE X (.Subscript o i pos) (tGetN X.prog X.w X.K td ty) := by
  refine ⟨fun pins s σ H Q I h => ?_⟩
  refine subD_of PySem.F.slot_dict_getitem.lookup hs (thn (ho.run pins s σ H _ I h) fun u s1 ⟨x, H1, I1, rx, q1⟩ => thn (hi.run pins s1 σ H1 _ I1 q1) fun iv s2 ⟨y, H2, I2, ry, d, kvs, k, b, v, dd, ex, ey, hb, hk, dep, N, hg, q2⟩ => ?_)
  subst ex ey
  obtain rfl : u = Value.ref d := rx
  obtain rfl : iv = Value.ref b := ry
  obtain ⟨z, hd, xs, rel, dd'⟩ := nd_open I2 N
  obtain ⟨p, hp, rp⟩ := val_pair rel hg
  exact ⟨dd'.typeIs, wpAny_getItem_heap (knd := nestedKind X.prog X.w) (room_in hu) ⟨nested_of I2 dd k _ _ hk hb rfl, dep⟩ dd' hp ⟨v, H2, I2.tok _, rp, q2⟩⟩
theorem pe_dispN {k v : Expr} {pos : Pos} {tk tv : TE} (hu : X.A.units + 64 < cLine) (hk : PE X k tk) (hv : PE X v tv) : PE X (.Dict [some k] [v] pos) (tDispN X.prog X.w X.K tk tv) := by
  refine ⟨fun pins s σ H Q I q => ?_⟩
  have hn := I.hok.fresh (Nat.le_refl s.heap.objs.size)
  have I1 := I.laid (a := s.heap.objs.size) (o := NdO X.prog X.w s.heap.objs.size []) (h' := s.heap.push { cls := .type "dict", data := .dict #[] }) (t' := s.toks) (fun _ _ q => Heap.get?_push_of_some _ q) (Nat.le_refl _) (nd_empty s.heap I.big)
  rw [arm_eval_Dict, zip_pairTrees [some k] [v] X.env pos rfl rfl, dictDisplay_pairs (pairTrees [some k] [v] X.env pos) (by intro z; cases z) (by show 1 < 17; decide)]
  refine wpAny_bind (wpAny_standAt (wpAny_bind (wpAny_subDictH (knd := nestedKind X.prog X.w) (Q := fun d s' => wpAny (model X.prog X.w) X.A (pure (Value.ref d)) (EP X pins σ Q) X.xe s') (show X.A.units + 8 < cLine by omega) (by show 1 ≤ 15; decide) ?_)))
  refine pairTrees_cons_walk (thn (hk.run pins _ σ _ _ I1 (q _ hn)) fun u s2 z2 => ?_)
  obtain ⟨y, H2, I2, ry, q2⟩ := z2
  refine thn (hv.run pins s2 σ H2 _ I2 q2) fun w3 s3 z3 => ?_
  obtain ⟨z, H3, I3, rz, kk, b, dd, rfl, hb, hkd, dep, hp, q3⟩ := z3
  obtain rfl : u = Value.ref b := ry
  refine pairTrees_nil_walk ?_
  have N : Nd X.prog X.w X.K H3 s.heap.objs.size [] := ⟨hp, fun x hx => by cases hx⟩
  obtain ⟨zl, hd, xs, rel, dd'⟩ := nd_open I3 N
  cases rel
  have nk : (nestedKind X.prog X.w).is s3.heap kk b := ⟨nested_of I3 dd kk _ _ hkd hb rfl, dep⟩
  refine ⟨[(kk, b, w3)], ⟨rfl, rfl, nk, trivial⟩, dd', fun h' tk' now but => wpAny_pure ?_⟩
  obtain ⟨ob, es, ep, ho, ex, hdat, hl, _, nd⟩ := now
  exact ⟨.ref s.heap.objs.size, _, d_write I3 (by rw [hp]; exact True.intro) but ⟨ob, ho⟩ (ndO_ok (by rw [sizeLine_eq, List.length_cons, List.length_nil]; omega) hd (.cons ⟨rfl, rfl, rz⟩ .nil) ho ex hdat hl nd), rfl, q3⟩
theorem cr_sortedDk (hc : X.calm = true) (hu : X.A.units + 64 < cLine) : CallR X (.builtin "sorted") (rSortedDk X.prog X.w X.K) := by
  intro pins s σ H vs us Q I r h
  obtain ⟨a, kvs, ds, rfl, N, hdd, al, so, dep, few, q⟩ := h
  obtain ⟨z, hsm, xs, rel, ⟨o, es, ep, ho, ex, hdat, hl, _, nd⟩⟩ := nd_open I N
  rw [Vals.ref1 r]
  refine Calls.call_function_entry kind_sorted plain_sorted entry_sorted (args_sorted1 _) ?_
  unfold Builtin.«sorted»
  refine wpAny_bind (m := checkCount "sorted" 1 1 _) (wpAny_pure ?_)
  have lx : kvs.length = xs.length := Paired.length rel
  have le : es.size = xs.length := by rw [← Array.length_toList, hl, List.length_map]
  refine wpAny_bind (PySem.W.kdu_collect (A := X.A.in1) (KdlSrc.rawDict (es := es) (ep := ep) hsm) (I.ok.hd hc) ⟨o, ho, ex, hdat⟩ (by omega) fun h' tk acc hk hacc => ?_)
  have eacc : acc.toList = xs.map fun x => Value.ref x.2.1 := by
    refine List.ext_getElem (by rw [Array.length_toList, hacc.1, List.length_map, le]) fun i h1 h2 => ?_
    have h3 : i < xs.length := by simpa using h2
    obtain ⟨hi, e⟩ := hacc.2 i acc.toList[i] (by rw [← Array.getElem?_toList]; exact List.getElem?_eq_getElem h1)
    have e2 : es[i] = (xs.map (entryOfKey (nestedKind X.prog X.w)))[i]'(by simpa using h3) := by
      rw [← Array.getElem_toList]
      exact List.getElem_of_eq hl _
    rw [e, e2, List.getElem_map, List.getElem_map]
    rfl
  have I1 : Inv X pins σ H { s with heap := h', toks := tk } := I.kept hk
  have rv : Vals (kvs.map fun x => V.ref x.2.1) acc.toList := eacc ▸ raw_vals (knd := nestedKind X.prog X.w) rel
  generalize hkk : (kvs.map fun x => V.ref x.2.1) = ks at *
  have lk : ks.length = kvs.length := by rw [← hkk, List.length_map]
  have ez := each_zip rv hdd
  have en := zip_snd hdd
  have len : (ks.zip ds).length = ks.length := by rw [List.length_zip, dpa_len hdd, Nat.min_self]
  have la : acc.toList.length = ks.length := (Vals.length rv).symm
  refine wpAny_bind (wpAny_newList ?_ (by rw [la, sizeLine_eq]; omega))
  have hoL : (h'.push (seqObj "list" acc.toList.toArray 0)).get? h'.objs.size = some (seqObj "list" acc.toList.toArray 0) := Heap.get?_push_size _ rfl
  refine wpAny_bind (wpAny_holding (PySem.W.list_sort_data (s := { s with heap := h'.push (seqObj "list" acc.toList.toArray 0), toks := tk }) (β := V × PyData) (enc := Prod.snd) hoL ez (ez.mono fun v b zz => ?_) (by rw [en]; exact al) (by rw [en]; exact so) (by rw [len, sizeLine_eq]; omega) (fun b hb => ?_) fun out lo eo => ?_))
  · obtain ⟨as, rd⟩ := Dp.reads I1 b.2 b.1 v zz.2 zz.1
    refine ⟨as, PyProof.Rows.Reads.keeps (fun _ _ y => Heap.get?_push_of_some _ y) rd, fun y => ?_⟩
    obtain ⟨o', ho'⟩ := GS.reads_there rd h'.objs.size y
    exact absurd (Heap.lt_size ho') (Nat.lt_irrefl _)
  · have := dep b.2 (by rw [← en]; exact List.mem_map_of_mem hb)
    show X.A.in1.units + 1 + b.2.depth < cLine
    rw [Around.in1_units]
    omega
  · obtain ⟨c, hc'⟩ := sortedHeap_at (vs := acc.toList) (out := out.toArray) hoL
    obtain ⟨vo, dpo⟩ := each_vals eo
    have srt : ((ks.zip ds).mergeSort (dataLe false Prod.snd)).map Prod.snd = ds.mergeSort leD := by
      rw [List.map_mergeSort (r := dataLe false Prod.snd) (s := leD) (f := Prod.snd) (fun _ _ _ _ => rfl), en]
    rw [srt] at dpo
    have hn : H h'.objs.size = none := I1.hok.fresh (Nat.le_refl _)
    have ln : (((ks.zip ds).mergeSort (dataLe false Prod.snd)).map Prod.fst).length ≤ sizeLine := by rw [List.length_map, List.length_mergeSort, len, sizeLine_eq]; omega
    have kp : ∀ b u, h'.get? b = some u → (sortedHeap (h'.push (seqObj "list" acc.toList.toArray 0)) h'.objs.size acc.toList out.toArray).get? b = some u := fun b u e => by
      have lt := Heap.lt_size e
      rw [sortedHeap_old (Nat.ne_of_lt lt) (by rw [size_push']; exact Nat.lt_succ_of_lt lt)]
      exact Heap.get?_push_of_some _ e
    refine wpAny_pure ⟨_, rfl, ?_⟩
    refine ⟨.ref h'.objs.size, upd H h'.objs.size (.lst (((ks.zip ds).mergeSort (dataLe false Prod.snd)).map Prod.fst)), ?_, rfl, q _ _ hn dpo⟩
    exact I1.laid (t' := tk) kp (Nat.le_refl _) ⟨ln, out, c, vo, hc'⟩
end
end DL
set_option Elab.async false
set_option linter.all false
set_option maxRecDepth 100000
set_option maxHeartbeats 4000000
namespace K16
open PySem PySem.Spec PyProof.Rows L2 Evl DL
local macro_rules | `(tactic| walk_at "dl") => `(tactic| first
  | exact ev_c | exact ev_var rfl | exact eda_nil
  | exact ed_var rfl (by assumption)
  | exact ed_int ev_c | exact ed_int (ev_var rfl)
  | (refine eda_cons ?_ ?_ <;> walk_at "dl")
  | (refine ed_int ?_; walk_at "dl")
  | (refine ev_op ?_ ?_ rv_I0 <;> walk_at "dl"))

def jB (fs : Str) (t k o : Int) : Bool := if decide (V.str fs = V.str (Str.ofString "plain")) = true then decide (o = k) else if decide (V.str fs = V.str (Str.ofString "crossed")) = true then decide (o = mateF k t) else true
def R_is_joined (ds : List PyData) (r : PyData) : Prop := ∃ (fs : Str) (t k o : Int), ds = [.str fs, .int t, .int k, .int o] ∧ r = .bool (jB fs t k o)
def shf (t : Int) (u : Sw) : Sw := ((u.1.1, u.1.2 + t), (u.2.1, u.2.2 + t))
def R_shifted (ds : List PyData) (r : PyData) : Prop := ∃ (u : Sw) (t : Int), ds = [swD u, .int t] ∧ r = swD (shf t u)
section
variable {P : Program} {w : World} {K : PySem.W.Frag} {mg : Str → Option Value} {base : Heap}
abbrev s_mate : Stmt := topS 24
abbrev N_mate : List Str := ["track", "tracks", "other"]
theorem sc_mate : FnScope N_mate ["track", "tracks"] (defScope s_mate) := ⟨rfl, rfl, rfl, by decide +kernel, rfl, by decide +kernel, by decide +kernel⟩
theorem ok_mate {f : Addr} {fd : FuncData} (F : Fun K "mate" "mate" s_mate f fd) (T : Txt mg)
      :
    FnOk P w K mg base CX0 1 f fd ["track", "tracks"] (spD K 2 R_law_mate) := by
  refine F.ok sc_mate (fun vs H Q E h => spD_len h) (fun cdv A outer s H vs Q E hr h => ?_)
  obtain ⟨ds, r, hd, _, ⟨t, m, rfl, rfl⟩, k⟩ := h
  obtain rfl := dpa_ints (l := [t, m]) hd
  refine ⟨_, (pss_cons (ps_set (i := 2) sc_mate.nd rfl (.inl rfl) (pe_ifExp (pt_cmpR op_eq (pe_op op_mod (pv 0) pe_int) pe_int (nomark _)) (pe_op op_add (pv 0) pe_int) (pe_op op_sub (pv 0) pe_int)))
      (pss_one (ps_ret (pe_ifExp (pt_cmpR op_lt (pv 2) (pv 1) (nomark _)) (pv 2) (pv 0))))), ?_⟩
  refine q_asg (v := .int (if t % 2 = 0 then t + 1 else t - 1)) (ev_if (b := decide (t % 2 = 0)) (et_test (ev_is (ev_op (ev_op (ev_var rfl) ev_c (rv_I (by decide))) ev_c (rv_eq rfl)) (by rw [decide_vint]))) (fun hb => ev_is (ev_op (ev_var rfl) ev_c rv_I0) (by rw [if_pos (of_decide_eq_true hb)])) fun hb => ev_is (ev_op (ev_var rfl) ev_c rv_I0) (by rw [if_neg (of_decide_eq_false hb)])) fun H1 e1 => ?_
  generalize hO : (if t % 2 = 0 then t + 1 else t - 1) = o
  refine d_ret (K := K) (ed_int (ev_if (v := .int (mateF t m)) (b := decide (o < m)) (et_test (ev_op (ev_var rfl) (ev_var rfl) rv_I0)) (fun hb => ev_is (ev_var rfl) ?_) fun hb => ev_is (ev_var rfl) ?_)) fun v H2 e2 hv => k v H2 (e1.trans e2) hv
  · unfold mateF
    rw [hO, if_pos (of_decide_eq_true hb)]
  · unfold mateF
    rw [hO, if_neg (of_decide_eq_false hb)]

abbrev s_is_joined : Stmt := topS 25
abbrev N_is_joined : List Str := ["kind", "tracks", "track", "other"]
theorem sc_is_joined : FnScope N_is_joined ["kind", "tracks", "track", "other"] (defScope s_is_joined) := ⟨rfl, rfl, rfl, by decide +kernel, rfl, by decide +kernel, by decide +kernel⟩
theorem ok_is_joined {f : Addr} {fd : FuncData} (F : Fun K "is_joined" "is_joined" s_is_joined f fd) (T : Txt mg)
    (D_mate : DF P w K mg base "mate" 1 ["track", "tracks"] (spD K 2 R_law_mate))  :
    FnOk P w K mg base CX0 2 f fd ["kind", "tracks", "track", "other"] (spD K 4 R_is_joined) := by
  refine F.ok sc_is_joined (fun vs H Q E h => spD_len h) (fun cdv A outer s H vs Q E hr h => ?_)
  obtain ⟨ds, r, hd, _, ⟨fs, t, k0, o, rfl, rfl⟩, k⟩ := h
  obtain ⟨v0, v1, v2, v3, rfl, d0, d1, d2, d3⟩ := dpa_four hd
  cases dp_str d0
  cases dp_int d1
  cases dp_int d2
  cases dp_int d3
  refine ⟨_, (pss_cons (ps_if (pt_cmpR op_eq (pv 0) pe_str (nomark _)) (pss_one (ps_ret (pe_cmpR op_eq (pv 3) (pv 2) (nomark _)))) pss_nil)
      (pss_cons (ps_if (pt_cmpR op_eq (pv 0) pe_str (nomark _)) (pss_one (ps_ret (pe_cmpR op_eq (pv 3) (pe_D D_mate (hr.mono (by decide)) (by rfl) (pa_cons (pv 2) (pa_cons (pv 1) pa_nil))) (nomark _)))) pss_nil)
      (pss_one (ps_ret pe_bl)))), ?_⟩
  refine q_when (b := decide (V.str fs = V.str (Str.ofString "plain"))) (et_test (ev_op (ev_var rfl) ev_c (rv_eq rfl))) (fun hb H1 e1 => ?_) fun hb H1 e1 => ?_
  · refine d_ret (K := K) (ed_bool (ev_is (ev_op (ev_var rfl) (ev_var rfl) (rv_eq rfl)) ?_)) fun v H3 e3 hv => k v H3 (e1.trans e3) hv
    unfold jB
    rw [if_pos hb, decide_vint]
  refine q_when (b := decide (V.str fs = V.str (Str.ofString "crossed"))) (et_test (ev_op (ev_var rfl) ev_c (rv_eq rfl))) (fun hb2 H2 e2 => ?_) fun hb2 H2 e2 => ?_
  · refine d_ret (K := K) (ed_bool (ev_is (ev_op (ev_var rfl) (EvD.int (ed_call (K := K) (R := R_law_mate) (ds := [.int k0, .int t]) (eda_cons (ed_int (ev_var rfl)) (eda_cons (ed_int (ev_var rfl)) eda_nil)) rfl ⟨k0, t, rfl, rfl⟩)) (rv_eq rfl)) ?_)) fun v H3 e3 hv => k v H3 ((e1.trans e2).trans e3) hv
    unfold jB
    rw [if_neg (by rw [hb]; exact Bool.noConfusion), if_pos hb2, decide_vint]
  · refine d_ret (K := K) (ed_bool (ev_is ev_c ?_)) fun v H3 e3 hv => k v H3 ((e1.trans e2).trans e3) hv
    unfold jB
    rw [if_neg (by rw [hb]; exact Bool.noConfusion), if_neg (by rw [hb2]; exact Bool.noConfusion)]

abbrev s_shifted : Stmt := topS 30
abbrev N_shifted : List Str := ["switch", "tracks", "side", "track", "far", "other"]
theorem sc_shifted : FnScope N_shifted ["switch", "tracks"] (defScope s_shifted) := ⟨rfl, rfl, rfl, by decide +kernel, rfl, by decide +kernel, by decide +kernel⟩
theorem ok_shifted {f : Addr} {fd : FuncData} (F : Fun K "shifted" "shifted" s_shifted f fd) (T : Txt mg)
      :
    FnOk P w K mg base CX0 1 f fd ["switch", "tracks"] (spD K 2 R_shifted) := by
  refine F.ok sc_shifted (fun vs H Q E h => spD_len h) (fun cdv A outer s H vs Q E hr h => ?_)
  obtain ⟨ds, r, hd, _, ⟨u, t, rfl, rfl⟩, k⟩ := h
  obtain ⟨v0, v1, rfl, d0, d1⟩ := dpa_two hd
  cases dp_int d1
  refine ⟨_, (pss_cons (ps_asg (pv 0) (pg_tup rfl (pgs_cons (pg_tup rfl (pgs_cons (pg_name (i := 2) sc_shifted.nd rfl (Or.inl rfl)) (pgs_cons (pg_name (i := 3) sc_shifted.nd rfl (Or.inl rfl)) pgs_nil))) (pgs_cons (pg_tup rfl (pgs_cons (pg_name (i := 4) sc_shifted.nd rfl (Or.inl rfl)) (pgs_cons (pg_name (i := 5) sc_shifted.nd rfl (Or.inl rfl)) pgs_nil))) pgs_nil))))
      (pss_one (ps_ret (pe_tup (pa_cons (pe_tup (pa_cons (pv 2) (pa_cons (pe_op op_add (pv 3) (pv 1)) pa_nil))) (pa_cons (pe_tup (pa_cons (pv 4) (pa_cons (pe_op op_add (pv 5) (pv 1)) pa_nil))) pa_nil)))))), ?_⟩
  refine q_asgV ⟨_, rfl, ?_⟩
  refine g_two d0 fun w1 w2 u1 u2 => ?_
  refine g_two u1 fun w3 w4 u3 u4 => ?_
  cases dp_int u3
  cases dp_int u4
  refine g_two u2 fun w5 w6 u5 u6 => ?_
  cases dp_int u5
  cases dp_int u6
  refine d_ret (K := K) (d := swD (shf t u)) (ed_tup (ds := [pD (u.1.1, u.1.2 + t), pD (u.2.1, u.2.2 + t)]) (eda_cons (ed_tup (ds := dI [u.1.1, u.1.2 + t]) (eda_cons (ed_int (ev_var rfl)) (eda_cons (ed_int (ev_op (ev_var rfl) (ev_var rfl) rv_I0)) eda_nil)) (by simp)) (eda_cons (ed_tup (ds := dI [u.2.1, u.2.2 + t]) (eda_cons (ed_int (ev_var rfl)) (eda_cons (ed_int (ev_op (ev_var rfl) (ev_var rfl) rv_I0)) eda_nil)) (by simp)) eda_nil)) (by simp)) fun v H2 e2 hv => k v H2 e2 hv

end
end K16
set_option Elab.async false
set_option linter.all false
set_option maxRecDepth 100000
set_option maxHeartbeats 4000000
/-! a lambda of one parameter, called by a built-in -/
namespace DL
open PySem PySem.Spec PyProof.Rows L2 Evl LamX NdefX
/-- the lambda's words as a nested function's -/
abbrev lamNF (q : Str) (params : Arguments) (scope : Scope) (cl : List (Str × Addr)) (c' : Addr) : NF := ⟨"<lambda>", q, params, [], scope, cl, c'⟩
/-- a lambda of the parameter p, read in the def that makes it; fr: what it captures, js: the slots of those -/
structure LamD1 (X : Cx) (k : Nat) (params : Arguments) (body : Expr) (scope : Scope) (p : Str) (N fr : List Str) (js : List Nat) (tb : TE) : Prop where
  S : NScope N [p] fr scope
  caps : Caps X (cloFrom X.env.cells scope.names []) fr js
  bind : ∀ (q : Str) (cl : List (Str × Addr)) (pm cv ctv : Value) (us : List Value), us.length = 1 → bindArgs (PySem.W.kla_fn "<lambda>" q params body scope cl pm cv ctv) ⟨us, []⟩ = pure ([p].zip us)
  run : ∀ (A : Around) (outer : List Env) (s : Shared) (H : Hp) (q : Str) (cl : List (Str × Addr)) (f c' : Addr), Room k (A.deeper (envF (lamNF q params scope cl c') f s.heap.objs.size)) →
    PE (ncx CX0 X.prog X.w X.K X.mg X.base N (lamNF q params scope cl c') f A outer s H E0) body tb
section
variable {X : Cx} {pins : List (Addr × Obj)} {σ : L2.St} {H : Hp} {s : Shared}
theorem lam1_call {A' : Around} {k : Nat} {params : Arguments} {body : Expr} {scope : Scope} {p : Str} {N fr : List Str} {js : List Nat} {tb : TE} {f c' : Addr} {x : V} {u : Value} {Q : VK} {E : Value → Shared → Prop}
    (I : Inv X pins σ H s) (D : LamD1 X k params body scope p N fr js tb) (ef : A'.frames = X.A.frames) (hr : Room (k + 1) A')
    (hf : H f = some (LamO f c' (X.env.qual ++ "<lambda>") params body scope (cloFrom X.env.cells scope.names []))) (hc : H c' = some (CodeO c' (X.env.qual ++ "<lambda>"))) (rx : RelV x u) (go : tb (startF N [x] (js.map (slotAt σ))) H Q) :
    wpAny (model X.prog X.w) A' (call (.ref f) [u]) (EP X pins σ Q) E s := by
  obtain ⟨⟨pm, ctv, of1⟩, _, _⟩ := I.hok f _ hf
  obtain ⟨⟨oc, fs, t, oc1, fd, fq⟩, _, _⟩ := I.hok c' _ hc
  have e1 := I.env0
  have e0 : Env0 X.prog X.w X.K X.mg X.base A' X.stack s H := ⟨by rw [ef]; exact e1.frames, e1.mod, e1.bs, e1.bsz, e1.funs, e1.frf, e1.hok, e1.bare⟩
  have cells := cells_of I D.caps
  have inner : codeAny (model X.prog X.w) A' (.call (.ref f) ⟨[u], []⟩) (CR CX0 X.stack X.prog X.w H s Q E0) s := by
    apply PySem.W.kla_callFunE hr.depth of1 rfl D.S.co D.S.gen rfl ⟨c', oc, fs, t, rfl, oc1, fd, fq⟩
    rw [D.bind _ _ _ _ _ [u] rfl]
    apply wpAny_pure
    refine wpAny_newFunctionEnv D.S.nocell (fun y hy => ?_) (fun h1 ns sb => ?_) D.S.kind
    · exact D.S.par y.1 (List.of_mem_zip (show (y.1, y.2) ∈ [p].zip [u] from hy)).1
    refine ⟨I.nolimit.fresh _ sb, ?_⟩
    have keep : ∀ b o, s.heap.get? b = some o → h1.get? b = some o := fun b o e => sb.extBut b o (Nat.ne_of_lt (Heap.lt_size e)) (Heap.get?_push_of_some _ e)
    have J := inv_startN (CX := CX0) (N := N) (F := lamNF (X.env.qual ++ "<lambda>") params scope (cloFrom X.env.cells scope.names []) c') (f := f) (E := E0) (us := [u]) (vs := [x]) (h₁ := h1) (tk := s.toks + ([p].zip [u]).length) D.S hr.hd e0 rfl (.cons rx .nil) cells ns keep
    have ran := (D.run A' X.stack s H (X.env.qual ++ "<lambda>") (cloFrom X.env.cells scope.names []) f c' (hr.deeper _)).run [] _ _ H Q J go
    refine PySem.W.kla_codeExpr (wpAny_mono ran (fun v s2 z => ?_) fun _ _ z => z)
    obtain ⟨y, H2, J2, r2, q2⟩ := z
    exact ⟨y, H2, J2.os, J2.bare, J2.base, J2.hok, r2, q2⟩
  apply wpAny_call
  refine codeAny_mono inner fun r s2 z => ?_
  cases r with
  | error e => exact (show False from z).elim
  | ok fl =>
    cases fl with
    | ret v => exact I.after z
    | next => exact z.elim
    | brk => exact z.elim
    | cont => exact z.elim
end
end DL
set_option Elab.async false
set_option linter.all false
set_option maxRecDepth 100000
set_option maxHeartbeats 4000000
/-! sorted(range(n), key=f), f a lambda of one parameter -/
namespace DL
open PySem PySem.Spec PyProof.Rows L2 Evl LamX NdefX
open PySem.W (alike AllAlike Sortable dataLe EachIs KeepsBut keyH_end dataKind SortsAt keyedOut_each)
section
variable {X : Cx} {pins : List (Addr × Obj)} {σ : L2.St} {H : Hp} {s : Shared}
theorem inv_pin2 {kS a : Addr} {o1 o2 : Obj} (I : Inv X pins σ H s) (g1 : s.heap.get? kS = some o1) (g2 : s.heap.get? a = some o2) (f1 : FpOk X pins H kS) (f2 : FpOk X pins H a) (n1 : ∀ v, o1.data ≠ .cell v) (n2 : ∀ v, o2.data ≠ .cell v) : Inv X (pins ++ [(kS, o1), (a, o2)]) σ H s :=
  I.pins_of fun p hp => by
    rcases List.mem_append.mp hp with hp | hp
    · exact I.pin p (List.mem_append_right _ hp)
    · simp only [List.mem_cons, List.not_mem_nil, or_false] at hp
      rcases hp with rfl | rfl
      · exact ⟨g1, f1.1, f1.2.1, f1.2.2.1, n1⟩
      · exact ⟨g2, f2.1, f2.2.1, f2.2.2.1, n2⟩
theorem fp_at {H' : Hp} {b : Addr} (f : FpOk X pins H b) (h : H' b = none) : FpOk X pins H' b := ⟨h, f.2⟩
theorem inv_turn {b : Addr} {h' : Heap} {t' : Nat} (I : Inv X pins σ H s) (f : FpOk X pins H b) (k : ∀ c o, c ≠ b → s.heap.get? c = some o → h'.get? c = some o) : Inv X pins σ H { s with heap := h', toks := t' } :=
  I.turned k f.1 f.2.1 f.2.2.2.1 f.2.2.2.2.1 f.2.2.2.2.2
theorem each_reads (I : Inv X pins σ H s) : ∀ {vs : List V} {us : List Value} {ds : List PyData}, Vals vs us → DpAll X.K H vs ds → EachIs (fun v d => ∃ as, Reads s.heap v d as) us ds
  | _, _, _, .nil, .nil => .nil
  | _, _, _, .cons r rs, .cons d ds => .cons (Dp.reads I _ _ _ d r) (each_reads I rs ds)
/-- what a key's turn asks: i's key is k i -/
def KeyTurn (X : Cx) (N : List Str) (ws : List (Option V)) (tb : TE) (H : Hp) (k : Int → PyData) (ns : List Int) : Prop := ∀ i ∈ ns, ∀ H1, Ex H H1 → ∀ Q1 : VK, (∀ v H2, Ex H1 H2 → Dp X.K H2 v (k i) → Q1 v H2) → tb (startF N [.int i] ws) H1 Q1
theorem each_vals2 : ∀ {us : List Value} {ns : List Int}, EachIs (fun (v : Value) (i : Int) => ∃ t, v = .int i t) us ns → Vals (ns.map V.int) us
  | _, _, .nil => .nil
  | _, _, .cons h t => .cons h (each_vals2 t)
theorem sort_walk {A' : Around} {kd : Nat} {params : Arguments} {body : Expr} {scope : Scope} {p : Str} {N fr : List Str} {js : List Nat} {tb : TE} {f c' a : Addr} {its : List Value} {ns : List Int} {k : Int → PyData} {n0 : Nat} {P : PySem.Fin → Shared → Prop} {E : Value → Shared → Prop}
    (I : Inv X pins σ H s) (D : LamD1 X kd params body scope p N fr js tb) (ef : A'.frames = X.A.frames) (hr : Room (kd + 1) A')
    (hf : H f = some (LamO f c' (X.env.qual ++ "<lambda>") params body scope (cloFrom X.env.cells scope.names []))) (hc : H c' = some (CodeO c' (X.env.qual ++ "<lambda>")))
    (ha : s.heap.get? a = some (seqObj "list" its.toArray n0)) (fa : FpOk X pins H a) (ei : EachIs (fun (v : Value) (i : Int) => ∃ t, v = .int i t) its ns) (hn : ns.length ≤ 1000) (al : AllAlike (ns.map k)) (so : Sortable (ns.map k)) (dep : ∀ d ∈ ns.map k, d.depth ≤ 50)
    (turn : KeyTurn X N (js.map (slotAt σ)) tb H k ns)
    (q : ∀ H' s', Ex H H' → Inv X pins σ (upd H' a (.lst ((ns.mergeSort (dataLe false k)).map V.int))) s' → H' a = none → P (.done (.ret .none)) s') :
    wpAny (model X.prog X.w) A' (ksk_tree a (.ref f) false) P E s := by
  have lenI : its.length = ns.length := ei.length
  have hz : its.length ≤ sizeLine := by
    rw [lenI]
    exact Nat.le_trans hn (by decide)
  have lt := Heap.lt_size ha
  obtain ⟨e1, hb⟩ : ∃ e1, (s.heap.update a (Obj.mapSeq fun _ => (#[] : Array Value))).get? a = some (seqObj "list" #[] e1) := ⟨_, get?_update_seq ha fun _ => #[]⟩
  unfold ksk_tree
  apply wpAny_bind
  apply listItems_at ha rfl
  apply wpAny_bind
  refine listUpdate_at ha rfl ?_ (by rw [List.size_toArray]; exact hz) (Nat.zero_le _)
  apply wpAny_bind
  apply seqEpoch_at hb rfl
  apply wpAny_bind
  refine wpAny_newTuple ?_ hz
  apply wpAny_bind
  refine wpAny_newList ?_ (Nat.zero_le _)
  apply wpAny_holding
  obtain ⟨hC, eC⟩ : ∃ hC, hC = (s.heap.update a (Obj.mapSeq fun _ => (#[] : Array Value))).push (seqObj "tuple" its.toArray 0) := ⟨_, rfl⟩
  have szC : hC.objs.size = s.heap.objs.size + 1 := by rw [eC, size_push', Heap.size_update]
  have turnA : Inv X pins σ H { s with heap := hC.push (seqObj "list" #[] 0) } := inv_turn (t' := s.toks) I fa fun c o nc hco => by
    rw [eC]
    exact Heap.get?_push_of_some _ (Heap.get?_push_of_some _ ((Heap.get?_update_other _ _ (Ne.symm nc)).trans hco))
  have gA : (hC.push (seqObj "list" #[] 0)).get? a = some (seqObj "list" #[] e1) := by
    rw [eC]
    exact Heap.get?_push_of_some _ (Heap.get?_push_of_some _ hb)
  have gK : (hC.push (seqObj "list" #[] 0)).get? hC.objs.size = some (seqObj "list" #[] 0) := Heap.get?_push_size _ rfl
  obtain ⟨kS, eK⟩ : ∃ kS, kS = hC.objs.size := ⟨_, rfl⟩
  have fK : FpOk X pins H kS := I.fpOk (by rw [eK, szC]; omega) (I.hok.fresh (by rw [eK, szC]; omega))
  have nKa : kS ≠ a := by
    rw [eK, szC]
    exact Nat.ne_of_gt (Nat.lt_succ_of_lt lt)
  show wpAny (model X.prog X.w) A' (ksk_rest a (.ref f) false its.toArray e1 (.ref ((s.heap.update a (Obj.mapSeq fun _ => (#[] : Array Value))).push (seqObj "tuple" its.toArray 0)).objs.size)) P E { s with heap := ((s.heap.update a (Obj.mapSeq fun _ => (#[] : Array Value))).push (seqObj "tuple" its.toArray 0)).push (seqObj "list" #[] 0) }
  rw [← eC]
  rw [← eK] at gK ⊢
  unfold ksk_rest
  apply wpAny_bind
  apply wpAny_rule
  rw [List.forIn_toArray]
  apply wpAny_bind
  refine ksk_fold (fun i s' => ∃ Hi kA e kvs, Inv X pins σ Hi s' ∧ Ex H Hi ∧ Hi kS = none ∧ Hi a = none ∧ s'.heap.get? kS = some (seqObj "list" kA e) ∧ s'.heap.get? a = some (seqObj "list" #[] e1) ∧ Vals kvs kA.toList ∧ DpAll X.K Hi kvs ((ns.take i).map k)) its 0 _
    ⟨H, #[], 0, [], turnA, Ex.refl _, fK.1, fa.1, gK, gA, .nil, by simp; exact .nil⟩ ?_ ?_
  · rintro j x s' hx ⟨Hi, kA, e, kvs, J, xi, n1, n2, g1, g2, rv, dv⟩
    simp only [Nat.zero_add] at dv ⊢
    have hj : j < its.length := (List.getElem?_eq_some_iff.mp hx).1
    have gi : ns[j]? = some (ns[j]'(by omega)) := List.getElem?_eq_getElem (by omega)
    obtain ⟨t, ex⟩ : ∃ t, x = .int (ns[j]'(by omega)) t := by
      have rr := (each_vals2 ei).get (i := j) (x := .int (ns[j]'(by omega))) (by rw [List.getElem?_map, gi]; rfl)
      obtain ⟨u, hu, ru⟩ := rr
      rw [hx] at hu
      cases hu
      exact ru
    have J2 := inv_pin2 J g1 g2 (fp_at fK n1) (fp_at fa n2) (fun _ z => nomatch z) fun _ z => nomatch z
    apply wpAny_bind
    apply wpAny_attempt
    refine wpAny_mono (lam1_call (E := fun _ _ => False) (x := .int (ns[j]'(by omega))) (Q := fun v H2 => Ex Hi H2 ∧ Dp X.K H2 v (k (ns[j]'(by omega)))) J2 D ef hr (xi _ _ hf) (xi _ _ hc) ⟨t, ex⟩ (turn _ (List.mem_of_getElem? gi) Hi xi _ fun v H2 e2 hd => ⟨e2, hd⟩)) (fun u s2 z => ?_) fun _ _ z => z.elim
    obtain ⟨y, H2, J3, ry, e2, hd⟩ := z
    have pK := J3.pin (kS, seqObj "list" kA e) (by simp)
    have pA := J3.pin (a, seqObj "list" #[] e1) (by simp)
    have J4 : Inv X pins σ H2 s2 := J3.unpinned
    have lk : kA.size = j := by
      have l1 : kvs.length = kA.toList.length := Vals.length rv
      have l2 := dpa_len dv
      rw [List.length_map, List.length_take] at l2
      have l3 : kA.toList.length = kA.size := Array.length_toList
      omega
    obtain ⟨e3, hK2⟩ : ∃ e3, (s2.heap.update kS (Obj.mapSeq (·.push u))).get? kS = some (seqObj "list" (kA.push u) e3) := ⟨_, get?_update_seq pK.1 (·.push u)⟩
    dsimp only
    apply wpAny_bind
    refine listUpdate_at pK.1 rfl ?_ (by rw [lk]; exact Nat.le_trans (by omega) hz) (by rw [Array.size_push, lk]; exact Nat.le_trans (Nat.succ_le_succ (Nat.le_trans (Nat.le_of_lt hj) hz)) (Nat.le_refl _))
    apply wpAny_pure
    refine ⟨rfl, H2, kA.push u, e3, kvs ++ [y], inv_turn (t' := s2.toks) J4 (fp_at fK pK.2.1) (fun c o nc hco => (Heap.get?_update_other _ _ (Ne.symm nc)).trans hco), xi.trans e2, pK.2.1, pA.2.1, hK2, (Heap.get?_update_other _ _ nKa).trans pA.1, ?_, ?_⟩
    · rw [Array.toList_push]
      exact rv.append (.cons ry .nil)
    · rw [List.take_add_one, gi, Option.toList_some, List.map_append]
      exact dpa_app (dpa_ex e2 _ _ dv) (.cons hd .nil)
  · rintro s' ⟨Hi, kA, e, kvs, J, xi, n1, n2, g1, g2, rv, dv⟩
    have tk : ns.take (0 + its.length) = ns := List.take_of_length_le (by omega)
    rw [tk] at dv
    have er := each_reads J rv dv
    have lk : kA.size = its.length := by
      have l1 : kvs.length = kA.toList.length := Vals.length rv
      have l2 := dpa_len dv
      rw [List.length_map] at l2
      have l3 : kA.toList.length = kA.size := Array.length_toList
      omega
    obtain ⟨G, G1, G2⟩ := restrict s'.heap (fun b => !decide (b = kS))
    apply wpAny_bind
    apply listItems_at g1 rfl
    have srt : SortsAt X.prog X.w A' s' (dataKind s'.heap (ns.map k)) kA.toList := SortsAt.data er al so fun d hd => by
      have := dep d hd
      have := hr.units
      omega
    refine keyH_end (a := a) (kS := kS) (e := e) (e1 := e1) (κ := dataKind s'.heap (ns.map k)) (h₁ := G) (fun b o nb hb' => ?_) (G2 kS (by simp)) g1 g2 nKa srt lk hz fun h3 t3 c3 k3 g3 => ?_
    · by_cases z : b = kS
      · rw [z, G2 kS (by simp)] at hb'
        cases hb'
      · rw [G1 b (by simpa using z)] at hb'
        exact hb'
    · have old : (h3.update a fun _ => seqObj "list" #[] e1).get? a = some (seqObj "list" #[] e1) := Heap.get?_update_self _ g3 rfl
      have J2 : Inv X pins σ Hi { s' with heap := h3.update a fun _ => seqObj "list" #[] e1, toks := t3 } := inv_turn J (fp_at fK n1) fun c o nc hco => by
        by_cases z : c = a
        · rw [z] at hco ⊢
          rw [old, ← g2, hco]
        · rw [Heap.get?_update_other _ _ (Ne.symm z)]
          exact k3 c o z (by rw [G1 c (by simpa using nc)]; exact hco)
      have eo := keyedOut_each (rev := false) k ⟨s'.heap, kA.toList, al, rfl, er⟩ ei
      have vo := each_vals2 eo
      have J3 : Inv X pins σ (upd Hi a (.lst ((ns.mergeSort (dataLe false k)).map V.int))) { s' with heap := h3, toks := t3 } := J2.take (h' := h3) (t' := t3) (fun b o nb hb' => by rw [Heap.get?_update_other _ _ (Ne.symm nb)] at hb'; exact hb') (fp_at fa n2) ⟨by
        rw [List.length_map, List.length_mergeSort]
        exact Nat.le_trans hn (by decide), _, c3, vo, g3⟩
      exact q Hi _ xi J3 n2
end
end DL
set_option Elab.async false
set_option linter.all false
set_option maxRecDepth 100000
set_option maxHeartbeats 4000000
/-! the expression sorted(range(n), key=lambda ..); a lambda made where all but its table stays -/
namespace DL
open PySem PySem.Spec PyProof.Rows L2 Evl LamX NdefX
open PySem.W (alike AllAlike Sortable dataLe EachIs)
/-- 0 .. n - 1 -/
def rgN (n : Nat) : List Int := (List.range n).map fun (i : Nat) => (i : Int)
theorem each_of {f : Nat → Int} : ∀ {us : List Value} (m : Nat), (∀ (i : Nat) u, us[i]? = some u → ∃ t, u = Value.int (f (m + i)) t) → EachIs (fun (v : Value) (i : Int) => ∃ t, v = .int i t) us ((List.range us.length).map fun i => f (m + i))
  | [], _, _ => .nil
  | u :: us, m, h => by
    rw [List.length_cons, List.range_succ_eq_map, List.map_cons, List.map_map]
    refine .cons (h 0 u rfl) ?_
    have r := each_of (f := f) (us := us) (m + 1) fun i v hv => by
      have := h (i + 1) v (by simpa using hv)
      rwa [show m + (i + 1) = m + 1 + i by omega] at this
    have e : (fun i => f (m + 1 + i)) = ((fun i => f (m + i)) ∘ Nat.succ) := by
      funext i
      show f (m + 1 + i) = f (m + (i + 1))
      rw [show m + (i + 1) = m + 1 + i by omega]
    rwa [e] at r
section
variable {X : Cx}
/-- range(n), the object -/
def rRange1 : List V → Hp → VK → Prop := fun vs H Q => ∃ n, vs = [V.int n] ∧ ∀ p, H p = none → Q (.ref p) (upd H p (.rng 0 n))
theorem cr_range1 : CallR X (.type "range") rRange1 := by
  intro pins s σ H vs us Q I r h
  obtain ⟨n, rfl, q⟩ := h
  obtain ⟨u, rfl, ru⟩ := vals1 r
  obtain ⟨t, rfl⟩ := ru
  refine call_range_1 ⟨.ref s.heap.objs.size, upd H s.heap.objs.size (.rng 0 n), I.laid (t' := s.toks + 2) (fun b o e => Heap.get?_push_of_some _ e) (Nat.le_refl _) ?_, rfl, q _ (I.hok.fresh (Nat.le_refl _))⟩
  exact ⟨_, _, _, Heap.get?_push_size _ rfl⟩
/-- sorted(range(n), key=f) -/
def tSortL (X : Cx) (k : Nat) (params : Arguments) (body : Expr) (scope : Scope) (p : Str) (N fr : List Str) (js : List Nat) (tb : TE) (t tk : TA) : TE := fun σ H Q => t σ H fun vs H1 => tk σ H1 fun zs H2 => ∃ (r f c' : Addr) (n : Nat) (key : Int → PyData),
  vs = [.ref r] ∧ zs = [.ref f] ∧ H2 r = some (.rng 0 (n : Int)) ∧ H2 f = some (LamO f c' (X.env.qual ++ "<lambda>") params body scope (cloFrom X.env.cells scope.names [])) ∧ H2 c' = some (CodeO c' (X.env.qual ++ "<lambda>")) ∧
  n ≤ 1000 ∧ Builtin.Range.small 0 (n : Int) 1 = true ∧ Builtin.Range.rangeSize 0 (n : Int) 1 = (n : Int) ∧ AllAlike ((rgN n).map key) ∧ Sortable ((rgN n).map key) ∧ (∀ d ∈ (rgN n).map key, d.depth ≤ 50) ∧ KeyTurn X N (js.map (slotAt σ)) tb H2 key (rgN n) ∧
  ∀ a H', H2 a = none → Ex H2 H' → H' a = some (.lst (((rgN n).mergeSort (dataLe false key)).map V.int)) → Q (.ref a) H'
theorem pe_sortL {k : Nat} {params : Arguments} {body : Expr} {scope : Scope} {p0 : Str} {N fr : List Str} {js : List Nat} {tb : TE} {t tk : TA} {x : Str} {p pos : Pos} {e : Expr} {kw : Keyword} (calm : X.calm = true) (D : X.Ok → LamD1 X k params body scope p0 N fr js tb) (hr : Room (k + 4) X.A)
    (hx : x = "sorted") (hg : Gl X x) (hm : X.mg x = none) (ha : PA X [e] t) (hk : PK X [kw] tk)
    (he : backTo pos (starEach [e] X.env) = (false, eval e X.env) :: backTo pos (starEach [] X.env) := by rfl) (hpl : (backTo pos (starEach [e] X.env)).any (·.1) = false := by rfl)
    (hall : (backToKw pos (keywordEach [kw] X.env)).all (·.1.isSome) = true := by rfl) (hnone : (backToKw pos (keywordEach [kw] X.env)).any (·.1.isNone) = false := by rfl) (hks : (backToKw pos (keywordEach [kw] X.env)).filterMap (·.1) = [Str.ofString "key"] := by rfl) :
    PE X (.Call (.Name x p) [e] [kw] pos) (tSortL X k params body scope p0 N fr js tb t tk) := by
  subst hx
  constructor
  intro pins s σ H Q I h
  apply wpAny_Call_Name_kw
  refine ld_blt (u := .builtin "sorted") I hg hm (by decide +kernel) ?_ (by decide) (by decide)
  apply PyProof.Rows.callWith_kw _ he hpl hall hnone
  refine thn (ha.run pos pins s σ H _ I h) fun us s1 z1 => ?_
  obtain ⟨vs, H1, I1, r1, q1⟩ := z1
  refine thn (hk.run pos pins s1 σ H1 _ I1 q1) fun ws s2 z2 => ?_
  obtain ⟨zs, H2, I2, r2, r, f, c', n, key, rfl, rfl, hR, hf, hc, hn, sm, rs, al, so, dep, turn, q⟩ := z2
  obtain rfl := Vals.ref1 r1
  obtain rfl := Vals.ref1 r2
  rw [hks]
  show wpAny (model X.prog X.w) X.A (call (.builtin "sorted") [.ref r] [(Str.ofString "key", .ref f)]) (EP X pins σ Q) X.xe s2
  obtain ⟨t0, t1, t2, ho⟩ := (show ObjOk X.prog X.w H2 s2.heap r (.rng 0 (n : Int)) from I2.hok r _ hR)
  refine call_function_entry_kw kind_sorted plain_sorted entry_sorted (ksk_s1 _ _) ?_
  unfold Builtin.«sorted»
  apply wpAny_bind
  refine wpAny_pure ?_
  apply wpAny_bind
  refine collect_range (A := X.A.in1) (I2.ok.hd calm) ho sm (n := n) rs (Nat.le_trans hn (by decide)) fun h3 tk3 acc keep items => ?_
  have I3 : Inv X pins σ H2 { s2 with heap := h3, toks := tk3 } := I2.kept keep
  obtain ⟨lenA, at_⟩ := items
  have lenL : acc.toList.length = n := by rw [Array.length_toList, lenA]
  have ei : EachIs (fun (v : Value) (i : Int) => ∃ t, v = .int i t) acc.toList (rgN n) := by
    have := each_of (f := fun i => (i : Int)) (us := acc.toList) 0 fun i v hv => by
      obtain ⟨t, e⟩ := at_ i v (by rw [← Array.getElem?_toList]; exact hv)
      exact ⟨t, by rw [e, show (0 + (i : Int) * 1) = ((0 + i : Nat) : Int) by omega]⟩
    rw [lenL] at this
    have e : (List.range n).map (fun i => ((0 + i : Nat) : Int)) = rgN n := by
      exact List.map_congr_left fun i _ => by rw [Nat.zero_add]
    rwa [e] at this
  apply wpAny_bind
  refine wpAny_newList ?_ (by rw [lenL]; exact Nat.le_trans hn (by decide))
  have gA : (h3.push (seqObj "list" acc.toList.toArray 0)).get? h3.objs.size = some (seqObj "list" acc.toList.toArray 0) := Heap.get?_push_size _ rfl
  show wpAny _ _ _ _ _ { s2 with heap := h3.push (seqObj "list" acc.toList.toArray 0), toks := tk3 }
  have I4 : Inv X pins σ H2 { s2 with heap := h3.push (seqObj "list" acc.toList.toArray 0), toks := tk3 } := I3.kept fun _ _ z => Heap.get?_push_of_some _ z
  have fA : FpOk X pins H2 h3.objs.size := I3.fpOk (Nat.le_refl _) (I3.hok.fresh (Nat.le_refl _))
  apply wpAny_bind
  apply wpAny_holding
  refine wpAny_call_entry_kw slot_list_sort ⟨_, gA, rfl⟩ entry_list_sort ?_ (ksk_l1 _ _)
  rw [ksk_t1]
  refine sort_walk (A' := X.A.in1.in1) (kd := k) I4 (D I2.ok) rfl (((hr.mono (by omega : k + 3 ≤ k + 4)).in1).in1) hf hc gA fA ei (by simp [rgN]; exact hn) al so dep turn fun H' s' x' J na => ?_
  refine ⟨_, rfl, wpAny_pure ⟨_, rfl, .ref h3.objs.size, _, J, rfl, q _ _ fA.1 (fun b o hb => ?_) upd_same⟩⟩
  rw [upd_ne (ne_of_none (x' _ _ hb) na)]
  exact x' _ _ hb
end
end DL
set_option Elab.async false
set_option linter.all false
set_option maxRecDepth 100000
set_option maxHeartbeats 4000000
/-! a lambda is made: all but its table stays, and where its code was there already all stays -/
namespace DL
open PySem PySem.Spec PyProof.Rows L2 Evl LamX NdefX
/-- what a lambda takes from around is there -/
def LamF (sc scope : Scope) : Prop := ∀ y ∈ scope.names, y.2 = .free → sc.names.lookup y.1 = some .cell ∨ sc.names.lookup y.1 = some .free
def lamFB (sc scope : Scope) : Bool := scope.names.all fun y => !decide (y.2 = .free) || decide (sc.names.lookup y.1 = some .cell) || decide (sc.names.lookup y.1 = some .free)
theorem lamF_by {sc scope : Scope} (h : lamFB sc scope = true) : LamF sc scope := fun y hy e => by
  have := List.all_eq_true.mp h y hy
  simp only [Bool.or_eq_true, Bool.not_eq_true', decide_eq_true_eq, decide_eq_false_iff_not] at this
  rcases this with (z | z) | z
  · exact absurd e z
  · exact .inl z
  · exact .inr z
/-- the lambda's code at pos is in the table at P -/
def HasC (H : Hp) (P : Addr) (pos : Pos) : Prop := ∃ ps cv, H P = some (.tbl ps) ∧ codeAmong pos ps.toList = some cv
theorem HasC.ex {H H' : Hp} {P : Addr} {pos : Pos} (h : HasC H P pos) (e : Ex H H') : HasC H' P pos := by
  obtain ⟨ps, cv, a, b⟩ := h
  exact ⟨ps, cv, e _ _ a, b⟩
/-- all but what stands at P stays -/
def ExB (P : Addr) (H H' : Hp) : Prop := ∀ b o, H b = some o → b ≠ P → H' b = some o
theorem ExB.of {P : Addr} {H H' : Hp} (e : Ex H H') : ExB P H H' := fun b o h _ => e b o h
theorem ExB.trans {P : Addr} {H H1 H2 : Hp} (a : ExB P H H1) (b : ExB P H1 H2) : ExB P H H2 := fun c o h n => b c o (a c o h n) n
theorem ExB.tx {P : Addr} {H H' : Hp} (e : ExB P H H') {ps : Array Value} (h : H P = some (.tbl ps)) : Tx H H' := fun a xs r => by
  rcases r with r | ⟨ob, r⟩
  · exact Or.inl (e _ _ r fun z => by rw [z, h] at r; cases r)
  · exact Or.inr ⟨ob, e _ _ r fun z => by rw [z, h] at r; cases r⟩
theorem among_new {pos : Pos} {c : Value} (l : List Value) (h : TriplesOk l) (hn : codeAmong pos l = none) : codeAmong pos (l ++ [rawInt pos.line, rawInt pos.col, c]) = some c := by
  fun_induction TriplesOk l with
  | case1 =>
    simp only [List.nil_append, rawInt, codeAmong]
    rw [if_pos (by simp)]
  | case2 a t b u x rest ih =>
    simp only [List.cons_append, codeAmong] at hn ⊢
    split at hn
    · cases hn
    · rename_i q
      rw [if_neg q]
      exact ih h hn
  | case3 l h1 h2 => exact h.elim
/-- the lambda's making -/
def tLamB (P : Addr) (q : Str) (pos : Pos) (params : Arguments) (body : Expr) (scope : Scope) (cl : List (Str × Addr)) : TE := fun σ H Q => TabS H P q ∧ ∀ f c' H1, ExB P H H1 → TabS H1 P q → HasC H1 P pos → (HasC H P pos → H1 = H) → H f = none → H1 f = none → H1 c' = some (CodeO c' q) →
  Q (.ref f) (upd H1 f (LamO f c' q params body scope cl))
section
variable {X : Cx} {c P : Addr} {params : Arguments} {body : Expr} {scope : Scope} {pos : Pos}
theorem pe_lamB (TB : TabB X.base X.mg c P) (code : X.env.code = .ref c) (hF : LamF X.env.scope scope) (hdef : defaultsOf params X.env = ([], [])) :
    PE X (.Lambda params body scope pos) (tLamB P (X.env.qual ++ "<lambda>") pos params body scope (cloFrom X.env.cells scope.names [])) := by
  constructor
  intro pins s σ H Q I hh
  obtain ⟨tab, k⟩ := hh
  obtain ⟨ps, atP, tri, among⟩ := id tab
  have free : ∀ y ∈ scope.names, y.2 = .free → ∃ c, X.env.cells.lookup y.1 = some c := fun y hy e => (hF y hy e).elim (fun z => I.ok.has _ (.inl z)) fun z => I.ok.has _ (.inr z)
  apply PySem.W.kla_eval hdef
  have bi : s.heap.BuiltinsAt X.mg P := TB.bm.keeps I.bk
  have heapP : s.heap.get? P = some { cls := .none, data := .fields ps } := I.hok P _ atP
  cases look : codeAmong pos ps.toList with
  | some cv =>
    obtain ⟨c', rfl, hc'⟩ := among pos cv look
    apply PySem.W.kla_makeFunctionHit (mg := X.mg) (c := c) (P := P) (ps := ps) (closure_ok free) I.ok.glob (I.mod.glob.keeps I.bk) code (TB.code.keeps I.bk) heapP tri look bi
    intro ctv h2 tk keep size
    have J : Inv X pins σ H { s with heap := h2, toks := tk } := I.kept keep
    have n2 : H h2.objs.size = none := I.hok.fresh size
    have J2 := J.laid (t' := tk) (h' := h2.push (PySem.W.kla_obj "<lambda>" (X.env.qual ++ "<lambda>") params body scope (cloFrom X.env.cells scope.names []) ((X.mg "__name__").getD .none) c' ctv)) (fun _ _ z => Heap.get?_push_of_some _ z) (Nat.le_refl _)
      (lamO_ok (f := h2.objs.size) (c' := c') (Heap.get?_push_size _ rfl))
    exact ⟨V.ref h2.objs.size, _, J2, rfl, k _ c' H (ExB.of (Ex.refl H)) tab ⟨ps, _, atP, look⟩ (fun _ => rfl) n2 n2 hc'⟩
  | none =>
    apply PySem.W.kla_makeFunction (mg := X.mg) (c := c) (P := P) (ps := ps) (closure_ok free) I.ok.glob (I.mod.glob.keeps I.bk) code (TB.code.keeps I.bk) heapP tri look TB.gP bi
    intro c' ctv h2 tk but ge lt rec0 tabH
    obtain ⟨c2, oc, fs, t, e2, oc2, fd, fq⟩ := rec0
    cases e2
    have nC : H c' = none := I.hok.fresh ge
    have size : s.heap.objs.size ≤ h2.objs.size := Nat.le_trans ge (Nat.le_of_lt lt)
    have nF : H h2.objs.size = none := I.hok.fresh size
    have J := inv_table (t' := tk) (h' := h2) (c := c') (q := X.env.qual ++ "<lambda>") (more := #[rawInt pos.line, rawInt pos.col, .ref c']) I atP (fun b o nb z => but b o nb z) tabH ge ⟨oc, fs, t, oc2, fd, fq⟩
    have nPc : P ≠ c' := ne_of_none atP nC
    have ext : ExB P H (upd (upd H P (.tbl (ps ++ #[rawInt pos.line, rawInt pos.col, .ref c']))) c' (CodeO c' (X.env.qual ++ "<lambda>"))) := fun b o z nb => by
      rw [upd_ne (ne_of_none z nC), upd_ne nb]
      exact z
    have toL : (ps ++ #[rawInt pos.line, rawInt pos.col, .ref c']).toList = ps.toList ++ [rawInt pos.line, rawInt pos.col, .ref c'] := by simp
    have newP : upd (upd H P (.tbl (ps ++ #[rawInt pos.line, rawInt pos.col, .ref c']))) c' (CodeO c' (X.env.qual ++ "<lambda>")) P = some (.tbl (ps ++ #[rawInt pos.line, rawInt pos.col, .ref c'])) := by rw [upd_ne nPc, upd_same]
    have tab2 : TabS (upd (upd H P (.tbl (ps ++ #[rawInt pos.line, rawInt pos.col, .ref c']))) c' (CodeO c' (X.env.qual ++ "<lambda>"))) P (X.env.qual ++ "<lambda>") := by
      refine ⟨_, newP, by rw [toL]; exact PySem.TriplesOk_snoc _ _ _ _ tri, fun p2 cv z => ?_⟩
      rw [toL] at z
      rcases among_app _ tri z with z | z
      · obtain ⟨c0, g1, g2⟩ := among p2 cv z
        exact ⟨c0, g1, ext _ _ g2 fun y => by rw [y, atP] at g2; exact codeO_ne ps (Option.some.inj g2).symm⟩
      · exact ⟨c', z, upd_same⟩
    have has2 : HasC (upd (upd H P (.tbl (ps ++ #[rawInt pos.line, rawInt pos.col, .ref c']))) c' (CodeO c' (X.env.qual ++ "<lambda>"))) P pos := ⟨_, .ref c', newP, by rw [toL]; exact among_new _ tri look⟩
    have fC : h2.objs.size ≠ c' := Nat.ne_of_gt lt
    have fP : h2.objs.size ≠ P := Nat.ne_of_gt (Nat.lt_of_lt_of_le (Heap.lt_size heapP) size)
    have none1 : upd (upd H P (.tbl (ps ++ #[rawInt pos.line, rawInt pos.col, .ref c']))) c' (CodeO c' (X.env.qual ++ "<lambda>")) h2.objs.size = none := by
      rw [upd_ne fC, upd_ne fP]
      exact nF
    have J2 := J.laid (t' := tk) (h' := h2.push (PySem.W.kla_obj "<lambda>" (X.env.qual ++ "<lambda>") params body scope (cloFrom X.env.cells scope.names []) ((X.mg "__name__").getD .none) c' ctv)) (fun _ _ z => Heap.get?_push_of_some _ z) (Nat.le_refl _)
      (lamO_ok (f := h2.objs.size) (c' := c') (Heap.get?_push_size _ rfl))
    refine ⟨V.ref h2.objs.size, _, J2, rfl, k _ c' _ ext tab2 has2 (fun z => ?_) nF none1 upd_same⟩
    obtain ⟨ps', cv, a, b⟩ := z
    rw [atP] at a
    cases a
    rw [look] at b
    cases b
end
end DL
set_option Elab.async false
set_option linter.all false
set_option maxRecDepth 100000
set_option maxHeartbeats 4000000
/-! sorted(range(e), key=lambda ..), read -/
namespace DL
open PySem PySem.Spec PyProof.Rows L2 Evl LamX NdefX
open PySem.W (alike AllAlike Sortable dataLe EachIs)
theorem ev_sortL {X : Cx} {k : Nat} {params : Arguments} {body : Expr} {scope : Scope} {p : Str} {N fr : List Str} {js : List Nat} {tb te : TE} {P : Addr} {pos : Pos} {σ : L2.St} {H : Hp} {Q : VK} {n : Nat} {key : Int → PyData}
    (he : Ev te σ H (.int (n : Int))) (hT : TabS H P (X.env.qual ++ "<lambda>")) (hn : n ≤ 1000) (sm : Builtin.Range.small 0 (n : Int) 1 = true) (rs : Builtin.Range.rangeSize 0 (n : Int) 1 = (n : Int)) (al : AllAlike ((rgN n).map key)) (so : Sortable ((rgN n).map key)) (dep : ∀ d ∈ (rgN n).map key, d.depth ≤ 50)
    (turn : ∀ H5, (∀ b o, H b = some o → (∀ ps, o ≠ .tbl ps) → H5 b = some o) → KeyTurn X N (js.map (slotAt σ)) tb H5 key (rgN n))
    (q : ∀ a H6, H a = none → ExB P H H6 → (HasC H P pos → Ex H H6) → TabS H6 P (X.env.qual ++ "<lambda>") → HasC H6 P pos → H6 a = some (.lst (((rgN n).mergeSort (dataLe false key)).map V.int)) → Q (.ref a) H6) :
    tSortL X k params body scope p N fr js tb (tCons (tCB rRange1 (tCons te tNil)) tNil) (tCons (tLamB P (X.env.qual ++ "<lambda>") pos params body scope (cloFrom X.env.cells scope.names [])) tNil) σ H Q := by
  obtain ⟨ps0, hP, _, _⟩ := id hT
  refine he H (Ex.refl _) _ fun H1 e1 => ⟨_, rfl, fun r hr => ?_⟩
  have eR : Ex H (upd H1 r (.rng 0 (n : Int))) := e1.trans (Ex.new hr)
  refine ⟨hT.ext fun b o z => eR _ _ z, fun f c' H4 xB tS hC same n0 n1 hc' => ?_⟩
  have hPR := eR _ _ hP
  have nTB : ∀ b o, (upd H1 r (.rng 0 (n : Int))) b = some o → (∀ ps, o ≠ .tbl ps) → b ≠ P := fun b o z n y => by
    rw [y, hPR] at z
    exact n ps0 (Option.some.inj z).symm
  have eF : Ex H4 (upd H4 f (LamO f c' (X.env.qual ++ "<lambda>") params body scope (cloFrom X.env.cells scope.names []))) := Ex.new n1
  have rR := eF _ _ (xB r _ upd_same (nTB r _ upd_same fun _ z => nomatch z))
  refine ⟨r, f, c', n, key, rfl, rfl, rR, upd_same, eF _ _ hc', hn, sm, rs, al, so, dep, turn _ fun b o z nt => eF _ _ (xB _ _ (eR _ _ z) (nTB _ _ (eR _ _ z) nt)), fun a H6 ha e6 hs => ?_⟩
  have hHa : H a = none := by
    cases z : H a with
    | none => rfl
    | some o =>
      by_cases e : a = P
      · rw [e] at ha
        obtain ⟨ps, cv, z1, _⟩ := hC
        rw [eF _ _ z1] at ha
        cases ha
      · rw [eF _ _ (xB _ _ (eR _ _ z) e)] at ha
        cases ha
  refine q a H6 hHa (fun b o z nb => e6 _ _ (eF _ _ (xB _ _ (eR _ _ z) nb))) (fun hc b o z => ?_) (tS.ext fun b o z => e6 _ _ (eF _ _ z)) ((hC.ex eF).ex e6) hs
  have e4 := same (hc.ex eR)
  rw [e4] at eF
  exact e6 _ _ (by rw [e4]; exact eF _ _ (eR _ _ z))
end DL
set_option Elab.async false
set_option linter.all false
set_option maxRecDepth 100000
set_option maxHeartbeats 4000000
/-! caught(lambda: ..): the lambda made in the very call -/
namespace DL
open PySem PySem.Spec PyProof.Rows L2 Evl LamX NdefX
def tCauL (K : PySem.W.Frag) (CS P : Addr) (q : Str) (pos : Pos) (params : Arguments) (body : Expr) (scope : Scope) (cl : List (Str × Addr)) (tb : XK → TE) : TE := fun σ H Q => tLamB P q pos params body scope cl σ H fun _ H1 => TTc K CS tb σ H1 Q
theorem pe_caughtL {X : Cx} {x : Str} {CS P c : Addr} {k : Nat} {params : Arguments} {body : Expr} {scope : Scope} {lp p pos : Pos} {tb : XK → TE} (F : CauF X.K X.mg x CS) (hg : Gl X x) (hr : Room (k + 2) X.A) (TB : TabB X.base X.mg c P) (code : X.env.code = .ref c) (hF : LamF X.env.scope scope) (hdef : defaultsOf params X.env = ([], []))
    (D : LamD X k params body scope tb) (hdb : (x == ("__debug__" : Str)) = false := by decide) :
    PE X (.Call (.Name x p) [.Lambda params body scope lp] [] pos) (tCauL X.K CS P (X.env.qual ++ "<lambda>") lp params body scope (cloFrom X.env.cells scope.names []) tb) := by
  obtain ⟨g, oc, od, an, osl, sg, pg, dV, kV, doc, pm, cdv, ct, k0, p1, p2, p3, p4, p5, p6, p7, p8, p9, p10, p11, p12, p13, p14, hm, hk, lk, hcg, hb, S, ge, me, le, lc, lw⟩ := F.ex
  constructor
  intro pins s σ H Q I hh
  obtain ⟨tab, kk⟩ := hh
  apply wpAny_Call_Name_kw
  refine ld_glob I hg hm ?_ hdb
  have arg := (pa_cons (pe_lamB (pos := lp) TB code hF hdef) pa_nil).run pos pins s σ H (fun vs H1 => ∃ f c', vs = [.ref f] ∧ H1 f = some (LamO f c' (X.env.qual ++ "<lambda>") params body scope (cloFrom X.env.cells scope.names [])) ∧ H1 c' = some (CodeO c' (X.env.qual ++ "<lambda>")) ∧ TTc X.K CS tb σ H1 Q) I
    ⟨tab, fun f c' H1 xB tS hC same n0 n1 hc' => ⟨f, c', rfl, upd_same, Ex.new n1 _ _ hc', kk f c' H1 xB tS hC same n0 n1 hc'⟩⟩
  refine PySem.W.callWith_K (h₀ := X.base) I.ok.mod.kin hk (thn arg fun us s1 z => ?_) (by rfl) (by rfl)
  obtain ⟨vs, H1, I1, r, f, c', rfl, hf, hc, go⟩ := z
  refine ⟨I1.kIn, ?_⟩
  have lu : us.length = 1 := (Vals.length r).symm
  have inner : codeAny (model X.prog X.w) X.A (.call (.ref g) ⟨us, []⟩) (CR CX0 X.stack X.prog X.w H1 s1 Q E0) s1 := by
    refine run_ofS (N := ["_law_work", "_law_caught_here", "error"]) (ps := ["_law_work"]) (us := us) (vs := [.ref f]) lk hcg S hr I1.env0 ?_ r rfl fun hr2 => ?_
    · have := hb s1 us I1.kIn (by simpa using lu)
      simpa using this
    · obtain ⟨t, ht, q⟩ := caught_run (x := x) (g := g) (cdg := cdv) (k0 := k0) (p1 := p1) (p2 := p2) (p3 := p3) (p4 := p4) (p5 := p5) (p6 := p6) (p7 := p7) (p8 := p8) (p9 := p9) (p10 := p10) (p11 := p11) (p12 := p12) (p13 := p13) (p14 := p14) I1 D hr2 S ge me le lc lw hf hc go
      exact ⟨t, ht.nox, q⟩
  apply wpAny_call
  refine codeAny_mono inner fun r2 s2 z => ?_
  cases r2 with
  | error e => exact (show False from z).elim
  | ok fl =>
    cases fl with
    | ret u => exact I1.after z
    | next => exact z.elim
    | brk => exact z.elim
    | cont => exact z.elim
/-- if not isinstance(caught(lambda: ..), C): return False, where it raises a C -/
theorem q_refuse {K : PySem.W.Frag} {CS C P : Addr} {q : Str} {pos : Pos} {params : Arguments} {body : Expr} {scope : Scope} {cl : List (Str × Addr)} {tb : XK → TE} {tz : TS} {D : Ends} {σ : L2.St} {H : Hp} (tab : TabS H P q)
    (kC : PySem.W.exmOne K (.ref C) (.ref CS) = some true) (iC : PySem.W.kitOne K (.ref C) (.ref C) = some true) (eC : ExcC K C)
    (r : ∀ H1, ExB P H H1 → ∀ (E : XK) (Q : VK), (∀ H2, Ex H1 H2 → E (.ref C) none H2) → tb E σ H1 Q)
    (z : ∀ H', ExB P H H' → TabS H' P q → tz D σ H') :
    tSeq (tIfS (tNot (tB (tCB (rIsK K) (tCons (tCauL K CS P q pos params body scope cl tb) (tCons (tC (.ref C)) tNil))))) (tRet (tC (.bl false))) tNext) tz D σ H := by
  refine ⟨tab, fun f c' H1 xB tS hC same n0 n1 hc' E Q2 r1 r2 => ?_⟩
  have x1 := xB.trans (ExB.of (Ex.new (o := LamO f c' q params body scope cl) n1))
  refine r _ x1 E Q2 fun H2 e2 => r1 (.ref C) H2 kC fun a ha => ?_
  refine ⟨a, C, .ref C, .ref C, true, rfl, upd_same, eC, fun u z => z, iC, ?_⟩
  have e3 := e2.trans (Ex.new (o := ErO (.ref C) a) ha)
  refine ⟨true, rfl, ?_⟩
  exact z _ (x1.trans (ExB.of e3)) (tS.ext fun b o y => e3 _ _ (Ex.new n1 _ _ y))
end DL
set_option Elab.async false
set_option linter.all false
set_option maxRecDepth 100000
set_option maxHeartbeats 4000000
namespace K16
open PySem PySem.Spec PyProof.Rows L2 Evl DL LamX
local macro_rules | `(tactic| walk_at "dl") => `(tactic| first
  | exact ev_c | exact ev_var rfl | exact eda_nil
  | exact ed_var rfl (by assumption)
  | exact ed_int ev_c | exact ed_int (ev_var rfl)
  | (refine eda_cons ?_ ?_ <;> walk_at "dl")
  | (refine ed_int ?_; walk_at "dl")
  | (refine ev_op ?_ ?_ rv_I0 <;> walk_at "dl"))
section
variable {K : PySem.W.Frag} {σ : L2.St} {H H' : Hp} {ta tb te : TE} {tz : TS} {D : Ends}
theorem stk_in {st lg cl : Addr} {H : Hp} {n : Nat} (h : StK st lg cl n H) : ∀ p ∈ [st, lg], (∃ l, H p = some (.lst l)) ∨ (∃ l, H p = some (.dK l)) ∨ (∃ l, H p = some (.dT l)) ∨ H p = none := by
  obtain ⟨l, t, xs, cs, h1, h2, _⟩ := h
  intro p hp
  rcases (by simpa using hp : p = st ∨ p = lg) with rfl | rfl
  · exact .inr (.inl ⟨_, h1⟩)
  · exact .inl ⟨_, h2⟩
theorem tabS_xp {P : Addr} {q : Str} {S : List Addr} (t : TabS H P q) (x : Xp S H H') (h : ∀ p ∈ S, (∃ l, H p = some (.lst l)) ∨ (∃ l, H p = some (.dK l)) ∨ (∃ l, H p = some (.dT l)) ∨ H p = none) : TabS H' P q := by
  obtain ⟨ps, h1, h2, h3⟩ := t
  have nin : ∀ a o, H a = some o → (∀ l, o ≠ .lst l) → (∀ l, o ≠ .dK l) → (∀ l, o ≠ .dT l) → a ∉ S := fun a o ho n1 n2 n3 hm => by
    rcases h a hm with ⟨l, q⟩ | ⟨l, q⟩ | ⟨l, q⟩ | q
    · rw [q] at ho; exact n1 _ (Option.some.inj ho).symm
    · rw [q] at ho; exact n2 _ (Option.some.inj ho).symm
    · rw [q] at ho; exact n3 _ (Option.some.inj ho).symm
    · rw [q] at ho; cases ho
  refine ⟨ps, x _ _ h1 (nin _ _ h1 (fun _ z => nomatch z) (fun _ z => nomatch z) fun _ z => nomatch z), h2, fun pos cv hc => ?_⟩
  obtain ⟨c, e1, e2⟩ := h3 pos cv hc
  exact ⟨c, e1, x _ _ e2 (nin _ _ e2 (fun _ z => nomatch z) (fun _ z => nomatch z) fun _ z => nomatch z)⟩
theorem exB_extn {P : Addr} {q : Str} (x : ExB P H H') (t : TabS H P q) : ExtN H H' := fun b o h n => x b o h fun z => by
  obtain ⟨ps, h1, _⟩ := t
  rw [z, h1] at h
  exact n ps (Option.some.inj h).symm
theorem tabS_exB {P P2 : Addr} {q q2 : Str} (x : ExB P H H') (t : TabS H P q) (n : P2 ≠ P) (t2 : TabS H P2 q2) : TabS H' P2 q2 := by
  obtain ⟨ps, h1, h2, h3⟩ := t2
  refine ⟨ps, x _ _ h1 n, h2, fun pos cv hc => ?_⟩
  obtain ⟨c, e1, e2⟩ := h3 pos cv hc
  exact ⟨c, e1, exB_extn x t _ _ e2 codeO_ne⟩
theorem stk_exN {st lg cl : Addr} {n : Nat} (e : ExtN H H') (h : StK st lg cl n H) : StK st lg cl n H' := by
  obtain ⟨l, t, xs, cs, h1, h2, h3, h4⟩ := h
  exact ⟨l, t, xs, cs, e _ _ h1 (fun _ z => nomatch z), e _ _ h2 (fun _ z => nomatch z), e _ _ h3 (fun _ z => nomatch z), h4⟩
/-- the error that a lambda raises, handed back -/
theorem cau_val {CS C P : Addr} {q : Str} {pos : Pos} {params : Arguments} {body : Expr} {scope : Scope} {cl : List (Str × Addr)} {tb : XK → TE} {Q : VK} (tab : TabS H P q) (kC : PySem.W.exmOne K (.ref C) (.ref CS) = some true)
    (r : ∀ H1, ExB P H H1 → ∀ (E : XK) (Q : VK), (∀ H2, Ex H1 H2 → E (.ref C) none H2) → tb E σ H1 Q)
    (z : ∀ a H', ExB P H H' → TabS H' P q → H' a = some (ErO (.ref C) a) → Q (.ref a) H') : tCauL K CS P q pos params body scope cl tb σ H Q :=
  ⟨tab, fun f c' H1 xB tS hC same n0 n1 hc' E Q2 r1 r2 => by
    have x1 := xB.trans (ExB.of (Ex.new (o := LamO f c' q params body scope cl) n1))
    refine r _ x1 E Q2 fun H2 e2 => r1 (.ref C) H2 kC fun a ha => ?_
    have e3 := e2.trans (Ex.new (o := ErO (.ref C) a) ha)
    exact z a _ (x1.trans (ExB.of e3)) (tS.ext fun b o y => e3 _ _ (Ex.new n1 _ _ y)) upd_same⟩
/-- what the lambda calls raises nothing -/
theorem cau_non {CS P : Addr} {q : Str} {pos : Pos} {params : Arguments} {body : Expr} {scope : Scope} {cl : List (Str × Addr)} {tb : XK → TE} {Q : VK} (tab : TabS H P q)
    (r : ∀ H1, ExB P H H1 → ∀ (E : XK) (Q2 : VK), (∀ v H2, Ex H1 H2 → Q2 v H2) → tb E σ H1 Q2)
    (z : ∀ H', ExB P H H' → TabS H' P q → Q .non H') : tCauL K CS P q pos params body scope cl tb σ H Q :=
  ⟨tab, fun f c' H1 xB tS hC same n0 n1 hc' E Q2 r1 r2 => by
    have x1 := xB.trans (ExB.of (Ex.new (o := LamO f c' q params body scope cl) n1))
    exact r _ x1 E Q2 fun v H2 e2 => r2 v H2 (z _ (x1.trans (ExB.of e2)) (tS.ext fun b o y => e2 _ _ (Ex.new n1 _ _ y)))⟩
end
/-- isinstance(x, C), x None or an error that was caught -/
def rIsN (K : PySem.W.Frag) : List V → Hp → VK → Prop := fun xs H Q => rIsK K xs H Q ∨ rIsi K xs H Q
theorem call_isN {X : Cx} (K : PySem.W.Frag) (h : X.K = K) : CallR X (.builtin "isinstance") (rIsN K) := by
  subst h
  intro pins s σ H xs us Q I r h
  rcases h with h | h
  · exact call_isK pins s σ H xs us Q I r h
  · exact call_isi pins s σ H xs us Q I r h
theorem ix_listK {X : Cx} (K : PySem.W.Frag) (h : X.K = K) : IxR X (rIxL K) := h ▸ ix_list
section
variable {X : Cx} {C CB CT CW : Addr}
/-- Box can be called -/
structure BoxX (P : Program) (w : World) (K : PySem.W.Frag) (mg : Str → Option Value) (base : Heap) (C CB CT CW : Addr) : Prop where
  ex : ∃ (f : Addr) (fd : FuncData), Mk K C f ∧ FnOk P w K mg base (L2.CX P w) 4 f fd ["self", "sides", "tracks", "switches"] (spInitB P w K CB CT CW C) ∧ L2.Binds K fd ["self", "sides", "tracks", "switches"] [] ∧
    KBn K fd ["self", "sides", "tracks", "switches"] 1 ["switches", "tracks", "sides"] (fun us ws => us ++ ws.reverse) (fun vs zs => vs ++ zs.reverse)
  nm : mg "Box" = some (.ref C)
theorem pe_BoxX {P : Program} {w : World} {K : PySem.W.Frag} {mg : Str → Option Value} {base : Heap} {e : Expr} {es : List Expr} {t : TA} {p pos : Pos} {E : XK} {W : WX} (B : BoxX P w K mg base C CB CT CW) (hX : X.prog = P ∧ X.w = w ∧ X.K = K ∧ X.mg = mg ∧ X.base = base) (tk : Takes X W) (hW : ∀ cls d σ H, E cls d H → W cls d σ H) (hr : Room 5 X.A) (hg : Gl X "Box") (ha : PA X (e :: es) t)
    (he : starEach (e :: es) X.env = (false, eval e X.env) :: starEach es X.env := by rfl) (hpl : (backTo pos (starEach es X.env)).any (·.1) = false := by rfl) : PE X (.Call (.Name "Box" p) (e :: es) [] pos) (tMake C (spInitB P w K CB CT CW C) [] E t) := by
  obtain ⟨rfl, rfl, rfl, rfl, rfl⟩ := hX
  obtain ⟨f, fd, h1, h2, h3, _⟩ := B.ex
  exact pe_make h1 h2 hr hg B.nm h3 .nil (passes_call tk hW) ha (by decide) he hpl
theorem pe_BoxK {kws : List Keyword} {tk : TA} {p pos : Pos} {E : XK} {W : WX} (B : BoxX X.prog X.w X.K X.mg X.base C CB CT CW) (tk_ : Takes X W) (hW : ∀ cls d σ H, E cls d H → W cls d σ H) (hr : Room 5 X.A) (hg : Gl X "Box") (hkw : PK X kws tk)
    (hall : (backToKw pos (keywordEach kws X.env)).all (·.1.isSome) = true := by rfl) (hks : (backToKw pos (keywordEach kws X.env)).filterMap (·.1) = (["switches", "tracks", "sides"] : List Str) := by rfl)
    (hpl : ((backTo pos (starEach [] X.env)).any (·.1) || (backToKw pos (keywordEach kws X.env)).any (·.1.isNone)) = false := by rfl) :
    PE X (.Call (.Name "Box" p) [] kws pos) (tMakeK C 0 3 (spInitB X.prog X.w X.K CB CT CW C) (fun vs zs => vs ++ zs.reverse) E tNil tk) := by
  obtain ⟨f, fd, h1, h2, _, h4⟩ := B.ex
  exact pe_makeK0 h1 h2 hr hg B.nm h4 (passes_call tk_ hW) hkw hall hks (by decide) hpl
/-- the def behind == -/
structure BoxQ (P : Program) (w : World) (K : PySem.W.Frag) (mg : Str → Option Value) (base : Heap) (C : Addr) : Prop where
  ex : ∃ (f : Addr) (fd : FuncData), FnOk P w K mg base CX0 1 f fd ["self", "other"] (spEqB P w K C) ∧ L2.Binds K fd ["self", "other"] [] ∧ EqC K C f
theorem op_boxE (B : BoxQ X.prog X.w X.K X.mg X.base C) (hr : Room 2 X.A) : OpR X (compareOp .Eq) (rOwn X.K C (spEqB X.prog X.w X.K C) false) := by
  obtain ⟨f, fd, h1, h2, h3⟩ := B.ex
  exact op_own false h1 h2 h3 hr
theorem op_boxN (B : BoxQ X.prog X.w X.K X.mg X.base C) (hr : Room 2 X.A) : OpR X (compareOp .NotEq) (rOwn X.K C (spEqB X.prog X.w X.K C) true) := by
  obtain ⟨f, fd, h1, h2, h3⟩ := B.ex
  exact op_own true h1 h2 h3 hr
end
section
variable {P : Program} {w : World} {K : PySem.W.Frag} {C CB CT CW : Addr} {σ : L2.St} {H H' : Hp}
theorem bx_xp {a : Addr} {s t : Int} {ws : List Sw} {st lg cl : Addr} {n : Nat} (h : BxAt P w K C H a s t ws) (k : StK st lg cl n H) (x : Xp [st, lg] H H') : BxAt P w K C H' a s t ws := by
  obtain ⟨dx, v, d, kvs, h1, h2, h3, h4⟩ := h
  have nin : ∀ b o, H b = some o → (∀ l, o ≠ .lst l) → (∀ l, o ≠ .dK l) → b ∉ [st, lg] := fun b o ho n1 n2 hm => by
    obtain ⟨l, t, xs, cs, g1, g2, _⟩ := k
    rcases (by simpa using hm : b = st ∨ b = lg) with rfl | rfl
    · rw [g1] at ho
      exact n2 _ (Option.some.inj ho).symm
    · rw [g2] at ho
      exact n1 _ (Option.some.inj ho).symm
  have im : imm (.tuple (ws.map swD)) = true := by simpa [imm] using immAll_map imm_sw ws
  exact ⟨dx, v, d, kvs, x _ _ h1 (nin _ _ h1 (fun _ z => nomatch z) fun _ z => nomatch z), dp_tx (stk_tx k x) _ _ im h2, h3.tx (stk_tx k x) (x _ _ h3.at_ (nin _ _ h3.at_ (fun _ z => nomatch z) fun _ z => nomatch z)), h4⟩
theorem bx_exB {a Pt : Addr} {q : Str} {s t : Int} {ws : List Sw} (h : BxAt P w K C H a s t ws) (x : ExB Pt H H') (tb : TabS H Pt q) : BxAt P w K C H' a s t ws := by
  obtain ⟨dx, v, d, kvs, h1, h2, h3, h4⟩ := h
  have y := exB_extn x tb
  obtain ⟨ps, hp, _⟩ := tb
  have tx := x.tx hp
  have im : imm (.tuple (ws.map swD)) = true := by simpa [imm] using immAll_map imm_sw ws
  exact ⟨dx, v, d, kvs, y _ _ h1 (fun _ z => nomatch z), dp_tx tx _ _ im h2, h3.tx tx (y _ _ h3.at_ (fun _ z => nomatch z)), h4⟩

theorem swt_of {s t : Int} {ws : List Sw} (ok : ∀ u ∈ ws, SwOk s t u) (ri : risesD (ws.map swD) = true) : swtB s t (.tuple (ws.map swD)) = true := by
  have al : (ws.map swD).all (swB s t) = true := by
    rw [List.all_eq_true]
    intro e he
    obtain ⟨u, hu, rfl⟩ := List.mem_map.mp he
    obtain ⟨⟨a, b⟩, ⟨c, e⟩⟩ := u
    obtain ⟨h1, h2, h3, h4, h5, h6, h7⟩ := ok _ hu
    show ((decide (0 ≤ a) && (decide (a < c) && decide (c < s))) && ((decide (0 ≤ b) && decide (b < t)) && (decide (0 ≤ e) && decide (e < t)))) = true
    simp only [Bool.and_eq_true, decide_eq_true_eq]
    exact ⟨⟨h1, h2, h3⟩, ⟨h4, h5⟩, h6, h7⟩
  show ((ws.map swD).all (swB s t) && risesD (ws.map swD)) = true
  rw [al, ri]
  rfl
/-- Box(..) of what is right -/
theorem mk_good {ta : TA} {s t : Int} {ws : List Sw} {E : XK} {Q : VK} (h : EvDA K ta σ H [.int s, .int t, .tuple (ws.map swD)]) (hs : 2 ≤ s ∧ s ≤ 5) (ht : 1 ≤ t ∧ t ≤ 6) (ok : ∀ u ∈ ws, SwOk s t u) (hl : ws.length ≤ 1000) (ri : risesD (ws.map swD) = true)
    (q : ∀ a H', H a = none → Ex H H' → BxAt P w K C H' a s t ws → Q (.ref a) H') : tMake C (spInitB P w K CB CT CW C) [] E ta σ H Q := by
  refine h H (Ex.refl _) _ fun vs H1 e1 hv => ?_
  intro x dx hx hdx ne
  have eN : Ex H1 (L2.upd (L2.upd H1 dx (.own x)) x (.ins C dx [])) := (Ex.new hdx).trans (Ex.new (by rw [upd_ne (Ne.symm ne)]; exact hx))
  rw [List.append_nil]
  obtain ⟨v1, v2, v3, rfl, h1, h2, h3⟩ := dpa_three hv
  refine ⟨x, dx, v1, v2, v3, _, _, _, rfl, upd_same, dp_ex eN _ _ h1, dp_ex eN _ _ h2, dp_ex eN _ _ h3, fun es e => by cases e; rw [List.length_map]; exact hl, .inl ⟨s, t, ws, rfl, rfl, rfl, hs, ht, swt_of ok ri, fun H' xp b => ⟨rfl, q x H' (fresh_back e1 hx) (e1.trans fun a o ha => ?_) b⟩⟩⟩
  have nx : a ≠ x := fun z => by
    rw [z, hx] at ha
    cases ha
  exact xp a o (eN a o ha) (by simpa using nx)
/-- Box(..) with too many tracks -/
theorem mk_badT {ta : TA} {s : Int} {d2 d3 : PyData} {E : XK} {Q : VK} (h : EvDA K ta σ H [.int s, d2, d3]) (hs : 2 ≤ s ∧ s ≤ 5) (ht : isIn d2 1 6 = false) (sm : ∀ es, d3 = .tuple es → es.length ≤ 1000) (r : ∀ H', Ex H H' → E (.ref CT) none H') : tMake C (spInitB P w K CB CT CW C) [] E ta σ H Q := by
  refine h H (Ex.refl _) _ fun vs H1 e1 hv => ?_
  intro x dx hx hdx ne
  have eN : Ex H1 (L2.upd (L2.upd H1 dx (.own x)) x (.ins C dx [])) := (Ex.new hdx).trans (Ex.new (by rw [upd_ne (Ne.symm ne)]; exact hx))
  rw [List.append_nil]
  obtain ⟨v1, v2, v3, rfl, h1, h2, h3⟩ := dpa_three hv
  exact ⟨x, dx, v1, v2, v3, _, _, _, rfl, upd_same, dp_ex eN _ _ h1, dp_ex eN _ _ h2, dp_ex eN _ _ h3, sm, .inr (.inr (.inl ⟨isIn_int hs.1 hs.2, ht, fun H' e => r H' (e1.trans (eN.trans e))⟩))⟩
end
def j4 (fs : Str) (t a k c : Int) : List Sw := (List.range t.toNat).flatMap fun (o : Nat) => if jB fs t k (o : Int) = true then [((a, k), (c, (o : Int)))] else []
def j3 (fs : Str) (s t a k : Int) : List Sw := (List.range (s - (a + 1)).toNat).flatMap fun (c : Nat) => j4 fs t a k (a + 1 + (c : Int))
def j2 (fs : Str) (s t a : Int) : List Sw := (List.range t.toNat).flatMap fun (k : Nat) => j3 fs s t a (k : Int)
def cxs (fs : Str) (s t : Int) : List Sw := (List.range s.toNat).flatMap fun (a : Nat) => j2 fs s t (a : Int)
theorem fl_succ {α : Type} (f : Nat → List α) (i : Nat) : (List.range (i + 1)).flatMap f = (List.range i).flatMap f ++ f i := by
  rw [List.range_succ, List.flatMap_append]
  simp
theorem fl_len {α : Type} {f : Nat → List α} {M : Nat} (h : ∀ i, (f i).length ≤ M) : ∀ n, ((List.range n).flatMap f).length ≤ n * M
  | 0 => by simp
  | n + 1 => by
    have h1 := fl_len h n
    have h2 := h n
    rw [fl_succ, List.length_append, Nat.succ_mul]
    omega
theorem j4_len {fs : Str} {t a k c : Int} (ht : t ≤ 6) : (j4 fs t a k c).length ≤ 6 := by
  have h := fl_len (f := fun (o : Nat) => if jB fs t k (o : Int) = true then [((a, k), (c, (o : Int)))] else []) (M := 1) (fun i => by split <;> simp) t.toNat
  show ((List.range t.toNat).flatMap _).length ≤ 6
  omega
theorem j3_len {fs : Str} {s t a k : Int} (hs : s ≤ 5) (ha : 0 ≤ a) (ht : t ≤ 6) : (j3 fs s t a k).length ≤ 24 := by
  have h := fl_len (f := fun (c : Nat) => j4 fs t a k (a + 1 + (c : Int))) (M := 6) (fun i => j4_len ht) (s - (a + 1)).toNat
  show ((List.range (s - (a + 1)).toNat).flatMap _).length ≤ 24
  omega
theorem j2_len {fs : Str} {s t a : Int} (hs : s ≤ 5) (ha : 0 ≤ a) (ht : t ≤ 6) : (j2 fs s t a).length ≤ 144 := by
  have h := fl_len (f := fun (k : Nat) => j3 fs s t a (k : Int)) (M := 24) (fun i => j3_len hs ha ht) t.toNat
  show ((List.range t.toNat).flatMap _).length ≤ 144
  omega
theorem pre_len {fs : Str} {s t : Int} (hs : s ≤ 5) (ht : t ≤ 6) (n : Nat) : ((List.range n).flatMap fun (a : Nat) => j2 fs s t (a : Int)).length ≤ n * 144 := fl_len (fun i => j2_len hs (by omega) ht) n
theorem cxs_mem {fs : Str} {s t : Int} {u : Sw} : u ∈ cxs fs s t ↔ 0 ≤ u.1.1 ∧ u.1.1 < u.2.1 ∧ u.2.1 < s ∧ 0 ≤ u.1.2 ∧ u.1.2 < t ∧ 0 ≤ u.2.2 ∧ u.2.2 < t ∧ jB fs t u.1.2 u.2.2 = true := by
  obtain ⟨⟨a, k⟩, ⟨c, o⟩⟩ := u
  simp only [cxs, j2, j3, j4, List.mem_flatMap, List.mem_range]
  constructor
  · rintro ⟨a', ha, k', hk, c', hc, o', ho, h⟩
    split at h
    · rename_i hm
      simp only [List.mem_singleton, Prod.mk.injEq] at h
      obtain ⟨⟨rfl, rfl⟩, rfl, rfl⟩ := h
      exact ⟨by omega, by show (a' : Int) < _; omega, by show (a' : Int) + 1 + (c' : Int) < s; omega, by show (0 : Int) ≤ (k' : Int); omega, by show (k' : Int) < t; omega, by show (0 : Int) ≤ (o' : Int); omega, by show (o' : Int) < t; omega, hm⟩
    · simp at h
  · intro ⟨h1, h2, h3, h4, h5, h6, h7, h8⟩
    refine ⟨a.toNat, by omega, k.toNat, by omega, (c - (a + 1)).toNat, ?_, o.toNat, by omega, ?_⟩
    · rw [Int.toNat_of_nonneg h1]
      omega
    · rw [Int.toNat_of_nonneg h1, Int.toNat_of_nonneg h4, Int.toNat_of_nonneg h6, Int.toNat_of_nonneg (show 0 ≤ c - (a + 1) by omega), if_pos h8, show a + 1 + (c - (a + 1)) = c by omega]
      exact List.mem_singleton.mpr rfl
theorem cxs_ok {fs : Str} {s t : Int} : ∀ u ∈ cxs fs s t, SwOk s t u := fun u hu => by
  obtain ⟨h1, h2, h3, h4, h5, h6, h7, _⟩ := cxs_mem.mp hu
  exact ⟨h1, h2, h3, h4, h5, h6, h7⟩
theorem cxs_len {fs : Str} {s t : Int} (hs : 2 ≤ s ∧ s ≤ 5) (ht : 1 ≤ t ∧ t ≤ 6) : (cxs fs s t).length ≤ 1000 := by
  have := pre_len (fs := fs) hs.2 ht.2 s.toNat
  show ((List.range s.toNat).flatMap _).length ≤ 1000
  omega
def riseAll : Bool := fashs.all fun fs => [2, 3, 4, 5].all fun (s : Int) => [1, 2, 3, 4, 5, 6].all fun (t : Int) => risesD ((cxs fs s t).map swD)
theorem rise_all : riseAll = true := by decide +kernel
theorem cxs_rise {fs : Str} {s t : Int} (hf : fs ∈ fashs) (hs : 2 ≤ s ∧ s ≤ 5) (ht : 1 ≤ t ∧ t ≤ 6) : risesD ((cxs fs s t).map swD) = true := by
  have h := List.all_eq_true.mp (List.all_eq_true.mp (List.all_eq_true.mp rise_all fs hf) s (by
    have : s = 2 ∨ s = 3 ∨ s = 4 ∨ s = 5 := by omega
    rcases this with rfl | rfl | rfl | rfl <;> decide)) t (by
    have : t = 1 ∨ t = 2 ∨ t = 3 ∨ t = 4 ∨ t = 5 ∨ t = 6 := by omega
    rcases this with rfl | rfl | rfl | rfl | rfl | rfl <;> decide)
  exact h
section
variable {P : Program} {w : World} {K : PySem.W.Frag} {mg : Str → Option Value} {base : Heap}
variable {CB CT CW C : Addr}
/-! ### the list while it grows -/
def LstAt (K : PySem.W.Frag) (H : Hp) (l : Addr) (ws : List Sw) : Prop := ∃ vs, H l = some (.lst vs) ∧ DpAll K H vs (ws.map swD)
theorem LstAt.ex {H H' : Hp} {l : Addr} {ws : List Sw} (h : LstAt K H l ws) (e : Ex H H') : LstAt K H' l ws := by
  obtain ⟨vs, h1, h2⟩ := h
  exact ⟨vs, e _ _ h1, dpa_ex e _ _ h2⟩
theorem LstAt.app {H : Hp} {l : Addr} {ws : List Sw} {u : Sw} {vs : List V} {v : V} (h1 : H l = some (.lst vs)) (h2 : DpAll K H vs (ws.map swD)) (hv : Dp K H v (swD u)) : LstAt K (upd H l (.lst (vs ++ [v]))) l (ws ++ [u]) := by
  refine ⟨_, upd_same, ?_⟩
  rw [List.map_append]
  exact dpa_app (dpa_tx (Tx.lst h1) _ _ (immAll_map imm_sw _) h2) (.cons (dp_tx (Tx.lst h1) _ _ (imm_sw u) hv) .nil)
theorem LstAt.is {H : Hp} {l : Addr} {ws ws' : List Sw} (h : LstAt K H l ws) (e : ws = ws') : LstAt K H l ws' := e ▸ h

def spBuiltK (P : Program) (w : World) (K : PySem.W.Frag) (CB CT C : Addr) (vs : List V) (fs : Str) (H : Hp) (Q : VK) (E : XK) : Prop := ∃ v1 v2 d1 d2, vs = [v1, v2] ∧ Dp K H v1 d1 ∧ Dp K H v2 d2 ∧
  ((∃ s t : Int, d1 = .int s ∧ d2 = .int t ∧ (2 ≤ s ∧ s ≤ 5) ∧ (1 ≤ t ∧ t ≤ 6) ∧ ∀ a H', H a = none → Ex H H' → BxAt P w K C H' a s t (cxs fs s t) → Q (.ref a) H') ∨
   (isIn d1 2 5 = false ∧ ∀ H', Ex H H' → E (.ref CB) none H') ∨ (isIn d1 2 5 = true ∧ isIn d2 1 6 = false ∧ ∀ H', Ex H H' → E (.ref CT) none H'))
def spBuilt (P : Program) (w : World) (K : PySem.W.Frag) (CB CT C : Addr) : Sp := fun vs H Q E => ∃ (us : List V) (fs : Str), vs = us ++ [.str fs] ∧ fs ∈ fashs ∧ spBuiltK P w K CB CT C us fs H Q E
abbrev s_built : Stmt := topS 26
abbrev N_built : List Str := ["sides", "tracks", "kind", "switches", "side", "track", "far", "other"]
theorem sc_built : FnScope N_built ["sides", "tracks", "kind"] (defScope s_built) := ⟨rfl, rfl, rfl, by decide +kernel, rfl, by decide +kernel, by decide +kernel⟩
theorem ok_built {f : Addr} {fd : FuncData} (F : Fun K "built" "built" s_built f fd) (T : Txt mg)
    (D_check_sides : DFX P w K mg base "check_sides" 3 ["sides", "most"] (spR K 2 R_check_sides (B_check_sides CB))) (D_check_tracks : DFX P w K mg base "check_tracks" 3 ["tracks", "least"] (spR K 2 R_check_tracks1 (B_check_tracks1 CT))) (D_is_joined : DF P w K mg base "is_joined" 2 ["kind", "tracks", "track", "other"] (spD K 4 R_is_joined)) (BX : BoxX P w K mg base C CB CT CW)  :
    FnOk P w K mg base (L2.CX P w) 6 f fd ["sides", "tracks", "kind"] (spBuilt P w K CB CT C) := by
  refine F.okX sc_built (fun vs H Q E h => by obtain ⟨_, _, rfl, _, _, _, _, _, rfl, _⟩ := h; rfl) (fun cdv A outer s H vs Q E hr h => ?_)
  obtain ⟨us, fs, rfl, hf, v1, v2, d1, d2, rfl, hd1, hd2, h⟩ := h
  refine ⟨_, (pss_cons (ps_expr (pe_DX D_check_sides (takes_of rfl rfl rfl rfl) (fun _ _ _ _ h => h) (hr.mono (by decide)) (by rfl) (pa_cons (pv 0) (pa_cons (pe_const T.c_MOST_SIDES (by rfl)) pa_nil))))
      (pss_cons (ps_expr (pe_DX D_check_tracks (takes_of rfl rfl rfl rfl) (fun _ _ _ _ h => h) (hr.mono (by decide)) (by rfl) (pa_cons (pv 1) (pa_cons pe_int pa_nil))))
      (pss_cons (ps_set (i := 3) sc_built.nd rfl (.inl rfl) (pe_lst pa_nil))
      (pss_cons (ps_for (passes_of rfl) rfl (pi_range1 (by rfl) T.b_range (pa_cons (pv 0) pa_nil)) (pg_name (i := 4) sc_built.nd rfl (Or.inl rfl)) (pss_one (ps_for (passes_of rfl) rfl (pi_range1 (by rfl) T.b_range (pa_cons (pv 1) pa_nil)) (pg_name (i := 5) sc_built.nd rfl (Or.inl rfl)) (pss_one (ps_for (passes_of rfl) rfl (pi_range2 (by rfl) T.b_range (pa_cons (pe_op op_add (pv 4) pe_int) (pa_cons (pv 0) pa_nil))) (pg_name (i := 6) sc_built.nd rfl (Or.inl rfl)) (pss_one (ps_for (passes_of rfl) rfl (pi_range1 (by rfl) T.b_range (pa_cons (pv 1) pa_nil)) (pg_name (i := 7) sc_built.nd rfl (Or.inl rfl)) (pss_one (ps_if (pt_val (pe_D D_is_joined (hr.mono (by decide)) (by rfl) (pa_cons (pv 2) (pa_cons (pv 1) (pa_cons (pv 5) (pa_cons (pv 7) pa_nil)))))) (pss_one (ps_expr (pe_bm PySem.F.plainAttrs_list PySem.F.slot_list_append PySem.F.type_list_append mt_append (pv 3) (pa_cons (pe_tup (pa_cons (pe_tup (pa_cons (pv 4) (pa_cons (pv 5) pa_nil))) (pa_cons (pe_tup (pa_cons (pv 6) (pa_cons (pv 7) pa_nil))) pa_nil))) pa_nil)))) pss_nil)))))))))
      (pss_one (ps_ret (pe_BoxX BX ⟨rfl, rfl, rfl, rfl, rfl⟩ (takes_of rfl rfl rfl rfl) (fun _ _ _ _ h => h) (hr.mono (by decide)) (by rfl) (pa_cons (pv 0) (pa_cons (pv 1) (pa_cons (pe_callTy call_tuple_of (by rfl) T.b_tuple (by decide +kernel) (pa_cons (pv 3) pa_nil)) pa_nil)))))))))), ?_⟩
  by_cases b1 : isIn d1 2 5 = true
  case neg =>
    have b1 : isIn d1 2 5 = false := by simpa using b1
    rcases h with ⟨s, t, rfl, rfl, hs, ht, k⟩ | ⟨no, k⟩ | ⟨h1, _⟩
    · rw [isIn_int hs.1 hs.2] at b1; cases b1
    · exact b_drop (eb_callR (K := K) (R := R_check_sides) (B := B_check_sides CB) (ds := [d1, .int 5]) (eda_cons (ed_var (v := v1) rfl hd1) (eda_cons (ed_int ev_c) eda_nil)) rfl ⟨d1, rfl, no, rfl⟩) fun H1 e1 => k H1 e1
    · rw [h1] at b1; cases b1
  obtain ⟨s, rfl, hs⟩ := isIn_of b1
  cases dp_int hd1
  refine qd_drop (K := K) (d := .none) (ed_callR (R := R_check_sides) (B := B_check_sides CB) (ds := [.int s, .int 5]) (eda_cons (ed_int (ev_var rfl)) (eda_cons (ed_int ev_c) eda_nil)) rfl ⟨_, rfl, b1, rfl⟩) fun H1 e1 => ?_
  by_cases b2 : isIn d2 1 6 = true
  case neg =>
    have b2 : isIn d2 1 6 = false := by simpa using b2
    rcases h with ⟨s, t, _, rfl, _, ht, k⟩ | ⟨no, k⟩ | ⟨h1, no, k⟩
    · rw [isIn_int ht.1 ht.2] at b2; cases b2
    · rw [no] at b1; cases b1
    · exact b_drop (eb_callR (K := K) (R := R_check_tracks1) (B := B_check_tracks1 CT) (ds := [d2, .int 1]) (eda_cons (ed_var (v := v2) rfl (dp_ex e1 _ _ hd2)) (eda_cons (ed_int ev_c) eda_nil)) rfl ⟨d2, rfl, no, rfl⟩) fun H2 e2 => k H2 (e1.trans e2)
  obtain ⟨t, rfl, ht⟩ := isIn_of b2
  cases dp_int hd2
  refine qd_drop (K := K) (d := .none) (ed_callR (R := R_check_tracks1) (B := B_check_tracks1 CT) (ds := [.int t, .int 1]) (eda_cons (ed_int (ev_var rfl)) (eda_cons (ed_int ev_c) eda_nil)) rfl ⟨_, rfl, b2, rfl⟩) fun H2 e2 => ?_
  have k : ∀ a H', H a = none → Ex H H' → BxAt P w K C H' a s t (cxs fs s t) → Q (.ref a) H' := by
    rcases h with ⟨s', t', e, e', _, _, k⟩ | ⟨no, k⟩ | ⟨_, no, k⟩
    · cases e; cases e'; exact k
    · rw [no] at b1; cases b1
    · rw [no] at b2; cases b2
  refine qn_asg (K := K) (en_lst eda_nil (by simp)) fun l vs0 H3 hl0 e3 hl hd0 => ?_
  have L0 : LstAt K H3 l [] := ⟨vs0, hl, hd0⟩
  refine e_for (ei_rng1 (K := K) (S := [l]) (n := s) (by walk_at "dl") (by omega)) (fun H4 i σ2 Hc => Xp [l] H4 Hc ∧ LstAt K Hc l ((List.range i).flatMap fun (a : Nat) => j2 fs s t (a : Int)) ∧ ∃ y1 y2 y3 y4, σ2 = [some (.int s), some (.int t), some (.str fs), some (.ref l), y1, y2, y3, y4]) (fun H4 e4 => ⟨Xp.refl _ _, (L0.ex e4).is (by simp), none, none, none, none, rfl⟩) (fun H4 i σ2 Hc _ p => p.1) ?_ ?_
  · rintro H4 a d x σ2 Ha Hb e4 hd1 ⟨p1, p2, y1, y2, y3, y4, rfl⟩ e5 hx
    have hlt : a < s.toNat := by
      have := (List.getElem?_eq_some_iff.mp hd1).1
      simpa using this
    rw [rng_get hlt] at hd1
    cases hd1
    cases hx
    refine d_for (ei_rng1 (K := K) (S := [l]) (n := t) (by walk_at "dl") (by omega)) (fun H4 i σ2 Hc => Xp [l] H4 Hc ∧ LstAt K Hc l (((List.range a).flatMap fun (a : Nat) => j2 fs s t (a : Int)) ++ (List.range i).flatMap fun (k : Nat) => j3 fs s t (a : Int) (k : Int)) ∧ ∃ y2 y3 y4, σ2 = [some (.int s), some (.int t), some (.str fs), some (.ref l), some (.int (a : Int)), y2, y3, y4]) (fun H5 e6 => ⟨Xp.refl _ _, ((p2.ex e5).ex e6).is (by simp), y2, y3, y4, rfl⟩) (fun H5 i σ2 Hc _ p => p.1) ?_ ?_
    · rintro H5 k0 d x σ2 Hc Hd e6 hd1 ⟨q1, q2, z2, z3, z4, rfl⟩ e7 hx
      have hlt : k0 < t.toNat := by
        have := (List.getElem?_eq_some_iff.mp hd1).1
        simpa using this
      rw [rng_get hlt] at hd1
      cases hd1
      cases hx
      refine d_for (ei_rng2 (K := K) (S := [l]) (m := (a : Int) + 1) (n := s) (eda_cons (ed_int (ev_op (ev_var rfl) ev_c rv_I0)) (eda_cons (ed_int (ev_var rfl)) eda_nil)) (by omega)) (fun H4 i σ2 Hc => Xp [l] H4 Hc ∧ LstAt K Hc l ((((List.range a).flatMap fun (a : Nat) => j2 fs s t (a : Int)) ++ (List.range k0).flatMap fun (k : Nat) => j3 fs s t (a : Int) (k : Int)) ++ (List.range i).flatMap fun (c : Nat) => j4 fs t (a : Int) (k0 : Int) ((a : Int) + 1 + (c : Int))) ∧ ∃ y3 y4, σ2 = [some (.int s), some (.int t), some (.str fs), some (.ref l), some (.int (a : Int)), some (.int (k0 : Int)), y3, y4]) (fun H6 e8 => ⟨Xp.refl _ _, ((q2.ex e7).ex e8).is (by simp), z3, z4, rfl⟩) (fun H6 i σ2 Hc _ p => p.1) ?_ ?_
      · rintro H6 c d x σ2 He Hf e8 hd1 ⟨r1, r2, u3, u4, rfl⟩ e9 hx
        have hlt : c < (s - ((a : Int) + 1)).toNat := by
          have := (List.getElem?_eq_some_iff.mp hd1).1
          simpa using this
        rw [rng_get hlt] at hd1
        cases hd1
        cases hx
        refine d_for (ei_rng1 (K := K) (S := [l]) (n := t) (by walk_at "dl") (by omega)) (fun H4 i σ2 Hc => Xp [l] H4 Hc ∧ LstAt K Hc l (((((List.range a).flatMap fun (a : Nat) => j2 fs s t (a : Int)) ++ (List.range k0).flatMap fun (k : Nat) => j3 fs s t (a : Int) (k : Int)) ++ (List.range c).flatMap fun (c : Nat) => j4 fs t (a : Int) (k0 : Int) ((a : Int) + 1 + (c : Int))) ++ (List.range i).flatMap fun (o : Nat) => if jB fs t (k0 : Int) (o : Int) = true then [(((a : Int), (k0 : Int)), ((a : Int) + 1 + (c : Int), (o : Int)))] else []) ∧ ∃ y4, σ2 = [some (.int s), some (.int t), some (.str fs), some (.ref l), some (.int (a : Int)), some (.int (k0 : Int)), some (.int ((a : Int) + 1 + (c : Int))), y4]) (fun H7 e10 => ⟨Xp.refl _ _, ((r2.ex e9).ex e10).is (by simp), u4, rfl⟩) (fun H7 i σ2 Hc _ p => p.1) ?_ ?_
        · rintro H7 o d x σ2 Hg Hh e10 hd1 ⟨o1, o2, w4, rfl⟩ e11 hx
          have hlt : o < t.toNat := by
            have := (List.getElem?_eq_some_iff.mp hd1).1
            simpa using this
          rw [rng_get hlt] at hd1
          cases hd1
          cases hx
          refine s_when (b := jB fs t (k0 : Int) (o : Int)) (et_B (EvD.bool (ed_call (K := K) (R := R_is_joined) (ds := [.str fs, .int t, .int (k0 : Int), .int (o : Int)]) (eda_cons (ed_str (ev_var rfl)) (eda_cons (ed_int (ev_var rfl)) (eda_cons (ed_int (ev_var rfl)) (eda_cons (ed_int (ev_var rfl)) eda_nil)))) rfl ⟨fs, t, _, _, rfl, rfl⟩))) (fun hb H8 e12 => ?_) fun hb H8 e12 => ?_
          · obtain ⟨vs, g1, g2⟩ := (o2.ex e11).ex e12
            have lv := dpa_len g2
            refine d_app (K := K) g1 (ev_var rfl) (d := swD (((a : Int), (k0 : Int)), ((a : Int) + 1 + (c : Int), (o : Int)))) (ed_tup (ds := [pD ((a : Int), (k0 : Int)), pD ((a : Int) + 1 + (c : Int), (o : Int))]) (eda_cons (ed_tup (ds := dI [(a : Int), (k0 : Int)]) (eda_cons (ed_int (ev_var rfl)) (eda_cons (ed_int (ev_var rfl)) eda_nil)) (by simp)) (eda_cons (ed_tup (ds := dI [(a : Int) + 1 + (c : Int), (o : Int)]) (eda_cons (ed_int (ev_var rfl)) (eda_cons (ed_int (ev_var rfl)) eda_nil)) (by simp)) eda_nil)) (by simp)) ?_ fun v H9 e13 hv => ?_
            · have b1 := pre_len (fs := fs) (s := s) hs.2 ht.2 a
              have b2 := fl_len (f := fun (k : Nat) => j3 fs s t (a : Int) (k : Int)) (M := 24) (fun i => j3_len hs.2 (by omega) ht.2) k0
              have b3 := fl_len (f := fun (c : Nat) => j4 fs t (a : Int) (k0 : Int) ((a : Int) + 1 + (c : Int))) (M := 6) (fun i => j4_len ht.2) c
              have b4 := fl_len (f := fun (o : Nat) => if jB fs t (k0 : Int) (o : Int) = true then [(((a : Int), (k0 : Int)), ((a : Int) + 1 + (c : Int), (o : Int)))] else []) (M := 1) (fun i => by split <;> simp) o
              rw [lv, List.length_map, List.length_append, List.length_append, List.length_append]
              have : a * 144 ≤ 5 * 144 := Nat.mul_le_mul_right _ (by omega)
              have : k0 * 24 ≤ 6 * 24 := Nat.mul_le_mul_right _ (by omega)
              omega
            · refine ⟨Xp.upd ((((o1.then e11).then e12).then e13)) (by simp), (LstAt.app (e13 _ _ g1) (dpa_ex e13 _ _ g2) hv).is ?_, _, rfl⟩
              rw [fl_succ, if_pos hb, ← List.append_assoc]
          · refine ⟨(o1.then e11).then e12, ((o2.ex e11).ex e12).is ?_, _, rfl⟩
            rw [fl_succ, if_neg (by rw [hb]; exact Bool.noConfusion), List.append_nil]
        · rintro H7 σ2 Hg e10 ⟨o1, o2, w4, rfl⟩
          rw [List.length_map, List.length_range] at o2
          refine ⟨((r1.then e9).then e10).trans o1, o2.is ?_, _, _, rfl⟩
          rw [fl_succ, ← List.append_assoc]
          rfl
      · rintro H6 σ2 He e8 ⟨r1, r2, u3, u4, rfl⟩
        rw [List.length_map, List.length_range] at r2
        refine ⟨((q1.then e7).then e8).trans r1, r2.is ?_, _, _, _, rfl⟩
        rw [fl_succ, ← List.append_assoc]
        rfl
    · rintro H5 σ2 Hc e6 ⟨q1, q2, z2, z3, z4, rfl⟩
      rw [List.length_map, List.length_range] at q2
      refine ⟨((p1.then e5).then e6).trans q1, q2.is ?_, _, _, _, _, rfl⟩
      rw [fl_succ]
      rfl
  · rintro H4 σ2 Ha e4 ⟨p1, p2, y1, y2, y3, y4, rfl⟩
    rw [List.length_map, List.length_range] at p2
    obtain ⟨vs, g1, g2⟩ := p2
    have xE : Ex H3 H4 := e4
    have xp : Xp [l] H3 Ha := (Xp.of_ex e4).trans p1
    have E : Ex H Ha := fun b o hb => xp b o (((e1.trans e2).trans e3) b o hb) (by
      have : b ≠ l := fun z => by
        have := (e1.trans e2) b o hb
        rw [z, hl0] at this
        cases this
      simpa using this)
    refine mk_good (C := C) (s := s) (t := t) (ws := cxs fs s t) (eda_cons (ed_int (ev_var rfl)) (eda_cons (ed_int (ev_var rfl)) (eda_cons (ed_tupleOf (EvQ.toD (eq_var (K := K) (k := 3) rfl g1 g2))) eda_nil))) hs ht cxs_ok (cxs_len hs ht) (cxs_rise hf hs ht) fun x H' hx e' b => ?_
    exact k x H' (fresh_back E hx) (E.trans e') b

end
end K16
set_option Elab.async false
set_option linter.all false
set_option maxRecDepth 100000
set_option maxHeartbeats 4000000
namespace K16
open PySem PySem.Spec PyProof.Rows L2 Evl DL LamX
local macro_rules | `(tactic| walk_at "dl") => `(tactic| first
  | exact ev_c | exact ev_var rfl | exact eda_nil
  | exact ed_var rfl (by assumption)
  | exact ed_int ev_c | exact ed_int (ev_var rfl)
  | (refine eda_cons ?_ ?_ <;> walk_at "dl")
  | (refine ed_int ?_; walk_at "dl")
  | (refine ev_op ?_ ?_ rv_I0 <;> walk_at "dl"))
section
variable {P : Program} {w : World} {K : PySem.W.Frag} {mg : Str → Option Value} {base : Heap}
variable {CB CT CW C CX : Addr}

/-- plain, crossed, full -/
def spKind (P : Program) (w : World) (K : PySem.W.Frag) (CB CT C : Addr) (fs : Str) : Sp := fun vs H Q E => spBuiltK P w K CB CT C vs fs H Q E
/-- check_box: a Box, or a value of another kind -/
def spCkB (P : Program) (w : World) (K : PySem.W.Frag) (C CX : Addr) : Sp := fun vs H Q E => ∃ v, vs = [v] ∧ ((∃ a s t ws, v = .ref a ∧ BxAt P w K C H a s t ws ∧ ∀ H', Ex H H' → Q .non H') ∨ ∃ t : Value, (∀ H', Ex H H' → TyX K H' v t) ∧ PySem.W.kitOne K t (.ref C) = some false ∧ ∀ H', Ex H H' → E (.ref CX) none H')
theorem kit_self {K : PySem.W.Frag} (C : Addr) : PySem.W.kitOne K (.ref C) (.ref C) = some true := by
  unfold PySem.W.kitOne
  rw [if_pos (by simp)]
theorem ev_isTy {σ : L2.St} {H : Hp} {i : Nat} {v : V} {t : Value} {b : Bool} (h1 : σ[i]? = some (some v)) (h : ∀ H', Ex H H' → TyX K H' v t) (hk : PySem.W.kitOne K t (.ref C) = some b) : Ev (tCB (rIsi K) (tCons (tVar i) (tCons (tC (.ref C)) tNil))) σ H (.bl b) := fun H1 e Q q =>
  ⟨v, h1, v, .ref C, t, .ref C, b, rfl, .own C, h H1 e, hk, q H1 (Ex.refl _)⟩
abbrev s_plain : Stmt := topS 27
abbrev N_plain : List Str := ["sides", "tracks"]
theorem sc_plain : FnScope N_plain ["sides", "tracks"] (defScope s_plain) := ⟨rfl, rfl, rfl, by decide +kernel, rfl, by decide +kernel, by decide +kernel⟩
theorem ok_plain {f : Addr} {fd : FuncData} (F : Fun K "plain" "plain" s_plain f fd) (T : Txt mg)
    (D_built : DFX P w K mg base "built" 6 ["sides", "tracks", "kind"] (spBuilt P w K CB CT C))  :
    FnOk P w K mg base (L2.CX P w) 7 f fd ["sides", "tracks"] (spKind P w K CB CT C (Str.ofString "plain")) := by
  refine F.okX sc_plain (fun vs H Q E h => by obtain ⟨_, _, _, _, rfl, _⟩ := h; rfl) (fun cdv A outer s H vs Q E hr h => ?_)
  obtain ⟨v1, v2, d1, d2, rfl, hd1, hd2, h⟩ := h
  refine ⟨_, (pss_one (ps_ret (pe_DX D_built (takes_of rfl rfl rfl rfl) (fun _ _ _ _ h => h) (hr.mono (by decide)) (by rfl) (pa_cons (pv 0) (pa_cons (pv 1) (pa_cons pe_str pa_nil)))))), ?_⟩
  exact ⟨_, rfl, _, rfl, [v1, v2], Str.ofString "plain", rfl, by decide +kernel, v1, v2, d1, d2, rfl, hd1, hd2, h⟩

abbrev s_crossed : Stmt := topS 28
abbrev N_crossed : List Str := ["sides", "tracks"]
theorem sc_crossed : FnScope N_crossed ["sides", "tracks"] (defScope s_crossed) := ⟨rfl, rfl, rfl, by decide +kernel, rfl, by decide +kernel, by decide +kernel⟩
theorem ok_crossed {f : Addr} {fd : FuncData} (F : Fun K "crossed" "crossed" s_crossed f fd) (T : Txt mg)
    (D_built : DFX P w K mg base "built" 6 ["sides", "tracks", "kind"] (spBuilt P w K CB CT C))  :
    FnOk P w K mg base (L2.CX P w) 7 f fd ["sides", "tracks"] (spKind P w K CB CT C (Str.ofString "crossed")) := by
  refine F.okX sc_crossed (fun vs H Q E h => by obtain ⟨_, _, _, _, rfl, _⟩ := h; rfl) (fun cdv A outer s H vs Q E hr h => ?_)
  obtain ⟨v1, v2, d1, d2, rfl, hd1, hd2, h⟩ := h
  refine ⟨_, (pss_one (ps_ret (pe_DX D_built (takes_of rfl rfl rfl rfl) (fun _ _ _ _ h => h) (hr.mono (by decide)) (by rfl) (pa_cons (pv 0) (pa_cons (pv 1) (pa_cons pe_str pa_nil)))))), ?_⟩
  exact ⟨_, rfl, _, rfl, [v1, v2], Str.ofString "crossed", rfl, by decide +kernel, v1, v2, d1, d2, rfl, hd1, hd2, h⟩

abbrev s_full : Stmt := topS 29
abbrev N_full : List Str := ["sides", "tracks"]
theorem sc_full : FnScope N_full ["sides", "tracks"] (defScope s_full) := ⟨rfl, rfl, rfl, by decide +kernel, rfl, by decide +kernel, by decide +kernel⟩
theorem ok_full {f : Addr} {fd : FuncData} (F : Fun K "full" "full" s_full f fd) (T : Txt mg)
    (D_built : DFX P w K mg base "built" 6 ["sides", "tracks", "kind"] (spBuilt P w K CB CT C))  :
    FnOk P w K mg base (L2.CX P w) 7 f fd ["sides", "tracks"] (spKind P w K CB CT C (Str.ofString "full")) := by
  refine F.okX sc_full (fun vs H Q E h => by obtain ⟨_, _, _, _, rfl, _⟩ := h; rfl) (fun cdv A outer s H vs Q E hr h => ?_)
  obtain ⟨v1, v2, d1, d2, rfl, hd1, hd2, h⟩ := h
  refine ⟨_, (pss_one (ps_ret (pe_DX D_built (takes_of rfl rfl rfl rfl) (fun _ _ _ _ h => h) (hr.mono (by decide)) (by rfl) (pa_cons (pv 0) (pa_cons (pv 1) (pa_cons pe_str pa_nil)))))), ?_⟩
  exact ⟨_, rfl, _, rfl, [v1, v2], Str.ofString "full", rfl, by decide +kernel, v1, v2, d1, d2, rfl, hd1, hd2, h⟩

abbrev s_check_box : Stmt := topS 19
abbrev N_check_box : List Str := ["box"]
theorem sc_check_box : FnScope N_check_box ["box"] (defScope s_check_box) := ⟨rfl, rfl, rfl, by decide +kernel, rfl, by decide +kernel, by decide +kernel⟩
theorem ok_check_box {f : Addr} {fd : FuncData} (F : Fun K "check_box" "check_box" s_check_box f fd) (T : Txt mg)
     (B : BoxC K C) (TX : BoxT K C) (gB : mg "Box" = some (.ref C)) (GBadBox : ErC K mg "BadBox" CX)  :
    FnOk P w K mg base (L2.CX P w) 1 f fd ["box"] (spCkB P w K C CX) := by
  refine F.okX sc_check_box (fun vs H Q E h => by obtain ⟨_, rfl, _⟩ := h; rfl) (fun cdv A outer s H vs Q E hr h => ?_)
  obtain ⟨v, rfl, h⟩ := h
  refine ⟨_, (pss_one (ps_if (pt_not (pt_val (pe_callB call_isi (by rfl) T.b_isinstance (by decide +kernel) (pa_cons (pv 0) (pa_cons (pe_glob (v := .ref C) (by rfl) gB (show L2.RelV (.ref C) (.ref C) from rfl) (by decide)) pa_nil))))) (pss_one (ps_raiseC rfl (takes_of rfl rfl rfl rfl) GBadBox (by rfl) pe_str)) pss_nil)), ?_⟩
  rcases h with ⟨a, s', t, ws, rfl, hb, k⟩ | ⟨t, ht, kt, k⟩
  · exact s_when (b := false) (et_not (a := true) (et_B (ev_isTy rfl (fun H' e => (hb.ex e).ty B TX) (kit_self C)))) (fun z => nomatch z) fun _ H1 e1 => k H1 e1
  · refine s_when (b := true) (et_not (a := false) (et_B (ev_isTy rfl ht kt))) (fun _ H1 e1 => ?_) (fun z => nomatch z)
    exact k H1 e1

end
end K16
set_option Elab.async false
set_option linter.all false
set_option maxRecDepth 100000
set_option maxHeartbeats 4000000
namespace K16
open PySem PySem.Spec PyProof.Rows L2 Evl DL
local macro_rules | `(tactic| walk_at "dl") => `(tactic| first
  | exact ev_c | exact ev_var rfl | exact eda_nil
  | exact ed_var rfl (by assumption)
  | exact ed_int ev_c | exact ed_int (ev_var rfl)
  | (refine eda_cons ?_ ?_ <;> walk_at "dl")
  | (refine ed_int ?_; walk_at "dl")
  | (refine ev_op ?_ ?_ rv_I0 <;> walk_at "dl"))

def pinB (d : PyData) : Bool := match d with
  | .tuple [.int _, .int _] => true
  | _ => false
/-- d is a switch of ws -/
def hasB (ws : List Sw) (d : PyData) : Bool := match d with
  | .tuple [.tuple [.int a, .int b], .tuple [.int c, .int e]] => decide (((a, b), (c, e)) ∈ ws)
  | _ => false
/-- d is an ascending tuple of switches of ws -/
def lotB (ws : List Sw) (d : PyData) : Bool := match d with
  | .tuple es => es.all (hasB ws) && risesD es
  | _ => false
theorem hasB_sw (ws : List Sw) (u : Sw) : hasB ws (swD u) = decide (u ∈ ws) := rfl
theorem pinB_of {d : PyData} (h : pinB d = true) : ∃ p, d = pD p := by
  unfold pinB at h
  split at h
  · exact ⟨(_, _), rfl⟩
  · cases h
theorem hasB_no1 {ws : List Sw} {p q : PyData} (h : pinB p = false) : hasB ws (.tuple [p, q]) = false := by
  unfold hasB
  split
  · rename_i e
    cases e
    cases h
  · rfl
theorem hasB_no2 {ws : List Sw} {p q : PyData} (h : pinB q = false) : hasB ws (.tuple [p, q]) = false := by
  unfold hasB
  split
  · rename_i e
    cases e
    cases h
  · rfl
theorem hasB_of {ws : List Sw} {d : PyData} (h : hasB ws d = true) : ∃ u ∈ ws, d = swD u := by
  unfold hasB at h
  split at h
  · exact ⟨_, of_decide_eq_true h, rfl⟩
  · cases h
theorem hasB_tup {ws : List Sw} {d : PyData} (h : isTupOf d 2 = false) : hasB ws d = false := by
  unfold hasB
  split
  · cases h
  · rfl
theorem tup2_of {d : PyData} (h : isTupOf d 2 = true) : ∃ p q, d = .tuple [p, q] := by
  unfold isTupOf at h
  split at h
  · rename_i es
    have h := of_decide_eq_true h
    match es, h with
    | [], h => exact absurd h (by decide)
    | [_], h => simp at h
    | [p, q], _ => exact ⟨p, q, rfl⟩
    | _ :: _ :: _ :: _, h =>
      simp only [List.length_cons] at h
      omega
  · cases h
theorem has_all {ws : List Sw} : ∀ {ds : List PyData}, ds.all (hasB ws) = true → ∃ us : List Sw, ds = us.map swD ∧ ∀ u ∈ us, u ∈ ws
  | [], _ => ⟨[], rfl, fun _ h => by simp at h⟩
  | d :: ds, h => by
    rw [List.all_cons, Bool.and_eq_true] at h
    obtain ⟨u, hu, rfl⟩ := hasB_of h.1
    obtain ⟨us, rfl, hus⟩ := has_all h.2
    refine ⟨u :: us, rfl, fun x hx => ?_⟩
    rcases List.mem_cons.mp hx with rfl | hx
    · exact hu
    · exact hus x hx
section
variable {P : Program} {w : World} {K : PySem.W.Frag} {mg : Str → Option Value} {base : Heap}
variable {CB CT CW C CX : Addr} {σ : L2.St} {H : Hp}
theorem et_two {te : TE} {d : PyData} (h : EvD K te σ H d) : EvT (tNot (tB (tCall (spD K 2 R_is_tuple_of) [] E0 (tCons te (tCons (tC (.int 2)) tNil))))) σ H (!isTupOf d 2) :=
  et_not (et_B (EvD.bool (ed_call (R := R_is_tuple_of) (ds := [d, .int 2]) (eda_cons h (eda_cons (ed_int ev_c) eda_nil)) rfl ⟨_, _, rfl, rfl⟩)))
theorem et_numN {te : TE} {d : PyData} (h : EvD K te σ H d) : EvT (tNot (tB (tCall (spD K 1 R_is_number) [] E0 (tCons te tNil)))) σ H (!isNum d) :=
  et_not (et_B (EvD.bool (ed_call (R := R_is_number) (ds := [d]) (eda_cons h eda_nil) rfl ⟨_, rfl, rfl⟩)))
theorem et_pin {i : Nat} {v : V} {d : PyData} (h1 : σ[i]? = some (some v)) (hv : Dp K H v d) :
    EvT (tOr (tNot (tB (tCall (spD K 2 R_is_tuple_of) [] E0 (tCons (tVar i) (tCons (tC (.int 2)) tNil))))) (tOr (tNot (tB (tCall (spD K 1 R_is_number) [] E0 (tCons (tOp (rIxT K) (tVar i) (tC (.int 0))) tNil)))) (tNot (tB (tCall (spD K 1 R_is_number) [] E0 (tCons (tOp (rIxT K) (tVar i) (tC (.int 1))) tNil)))))) σ H (!pinB d) := by
  cases ht : isTupOf d 2 with
  | false =>
    have : pinB d = false := by
      unfold pinB
      split
      · cases ht
      · rfl
    rw [this]
    exact et_is (et_orT (a := true) (b := true) (et_is (et_two (ed_var h1 hv)) (by rw [ht]; rfl)) fun z => nomatch z) rfl
  | true =>
    obtain ⟨p, q, rfl⟩ := tup2_of ht
    refine et_is (et_orT (a := false) (et_is (et_two (ed_var h1 hv)) (by rw [ht]; rfl)) fun _ => et_orT (et_numN (ed_ixT (k := 0) (ds := [p, q]) (ed_var h1 hv) ev_c rfl)) fun _ => et_numN (ed_ixT (k := 1) (ds := [p, q]) (ed_var h1 hv) ev_c rfl)) ?_
    cases p <;> cases q <;> rfl
def spHasB (P : Program) (w : World) (K : PySem.W.Frag) (C : Addr) : Sp := fun vs H Q _ => ∃ (a : Addr) (s t : Int) (ws : List Sw) (v : V) (d : PyData), vs = [.ref a, v] ∧ BxAt P w K C H a s t ws ∧ Dp K H v d ∧ ∀ H', Ex H H' → Q (.bl (hasB ws d)) H'
def spLotB (P : Program) (w : World) (K : PySem.W.Frag) (C : Addr) : Sp := fun vs H Q _ => ∃ (a : Addr) (s t : Int) (ws : List Sw) (v : V) (d : PyData), vs = [.ref a, v] ∧ BxAt P w K C H a s t ws ∧ Dp K H v d ∧ (∀ es, d = .tuple es → es.length ≤ 1000) ∧ ∀ H', Ex H H' → Q (.bl (lotB ws d)) H'
theorem ev_known (B : BoxC K C) {i j : Nat} {a : Addr} {s t : Int} {ws : List Sw} {v : V} {u : Sw} (h1 : σ[i]? = some (some (.ref a))) (h2 : σ[j]? = some (some v)) (hb : BxAt P w K C H a s t ws) (hv : Dp K H v (swD u)) : Ev (tOp (rInN P w K false) (tVar j) (tFld K (tVar i) "known")) σ H (.bl (decide (u ∈ ws))) :=
  fun H1 e Q q => by
    obtain ⟨dx, v', d, kvs, g1, g2, g3, g4⟩ := hb.ex e
    obtain ⟨av, rfl⟩ : ∃ av, v = .ref av := by
      cases hv with
      | tup _ _ => exact ⟨_, rfl⟩
    refine ⟨_, h2, .ref a, h1, a, C, dx, BoxFs s t v' d, .ref d, rfl, g1, B.cls, B.a4, rfl, d, kvs, av, swD u, keyOf u, rfl, rfl, g3, dp_ex e _ _ hv, key_sw u, by simp [keyOf, NestedKey.depth, NestedKey.depthAll], ?_⟩
    show Q (.bl (hasN kvs (keyOf u))) H1
    rw [g4]
    exact q H1 (Ex.refl _)
theorem ev_hasB {i j : Nat} {a : Addr} {s t : Int} {ws : List Sw} {v : V} {d : PyData} (h1 : σ[i]? = some (some (.ref a))) (h2 : σ[j]? = some (some v)) (hb : BxAt P w K C H a s t ws) (hv : Dp K H v d) : Ev (tCall (spHasB P w K C) [] E0 (tCons (tVar i) (tCons (tVar j) tNil))) σ H (.bl (hasB ws d)) :=
  fun H1 e Q q => ⟨.ref a, h1, v, h2, a, s, t, ws, v, d, rfl, hb.ex e, dp_ex e _ _ hv, fun H' e' => q H' e'⟩
theorem ev_lotB {i j : Nat} {a : Addr} {s t : Int} {ws : List Sw} {v : V} {d : PyData} (h1 : σ[i]? = some (some (.ref a))) (h2 : σ[j]? = some (some v)) (hb : BxAt P w K C H a s t ws) (hv : Dp K H v d) (sm : ∀ es, d = .tuple es → es.length ≤ 1000) : Ev (tCall (spLotB P w K C) [] E0 (tCons (tVar i) (tCons (tVar j) tNil))) σ H (.bl (lotB ws d)) :=
  fun H1 e Q q => ⟨.ref a, h1, v, h2, a, s, t, ws, v, d, rfl, hb.ex e, dp_ex e _ _ hv, sm, fun H' e' => q H' e'⟩
abbrev s_has_switch : Stmt := topS 22
abbrev N_has_switch : List Str := ["box", "thing", "pin"]
theorem sc_has_switch : FnScope N_has_switch ["box", "thing"] (defScope s_has_switch) := ⟨rfl, rfl, rfl, by decide +kernel, rfl, by decide +kernel, by decide +kernel⟩
theorem ok_has_switch {f : Addr} {fd : FuncData} (F : Fun K "has_switch" "has_switch" s_has_switch f fd) (T : Txt mg)
    (D_is_number : DF P w K mg base "is_number" 1 ["thing"] (spD K 1 R_is_number)) (D_is_tuple_of : DF P w K mg base "is_tuple_of" 1 ["thing", "many"] (spD K 2 R_is_tuple_of)) (B : BoxC K C)  :
    FnOk P w K mg base CX0 2 f fd ["box", "thing"] (spHasB P w K C) := by
  refine F.ok sc_has_switch (fun vs H Q E h => by obtain ⟨_, _, _, _, _, _, rfl, _⟩ := h; rfl) (fun cdv A outer s H vs Q E hr h => ?_)
  obtain ⟨a, s, t, ws, v, d, rfl, hb, hv, k⟩ := h
  refine ⟨_, (pss_cons (ps_if (pt_not (pt_val (pe_D D_is_tuple_of (hr.mono (by decide)) (by rfl) (pa_cons (pv 1) (pa_cons pe_int pa_nil))))) (pss_one (ps_ret pe_bl)) pss_nil)
      (pss_cons (ps_for PassesOwn.never rfl (pi_tup (pv 1)) (pg_name (i := 2) sc_has_switch.nd rfl (Or.inl rfl)) (pss_one (ps_if (PW.pt (pw_or (pt_not (pt_val (pe_D D_is_tuple_of (hr.mono (by decide)) (by rfl) (pa_cons (pv 2) (pa_cons pe_int pa_nil))))) (pw_or (pt_not (pt_val (pe_D D_is_number (hr.mono (by decide)) (by rfl) (pa_cons (pe_ix ix_tup (pv 2) pe_int (fun _ _ => rfl)) pa_nil)))) (pw_or1 (pt_not (pt_val (pe_D D_is_number (hr.mono (by decide)) (by rfl) (pa_cons (pe_ix ix_tup (pv 2) pe_int (fun _ _ => rfl)) pa_nil)))))))) (pss_one (ps_ret pe_bl)) pss_nil)))
      (pss_one (ps_ret (pe_cmpR (op_inN (hu64 hr)) (pv 1) (pe_fld (pv 0) rfl) (by rfl)))))), ?_⟩
  cases ht : isTupOf d 2 with
  | false =>
    rw [hasB_tup ht] at k
    exact q_when (b := true) (et_is (et_two (ed_var (k := 1) (v := v) rfl hv)) (by rw [ht]; rfl)) (fun _ H1 e1 => s_ret ev_c fun H2 e2 => k H2 (e1.trans e2)) fun z => nomatch z
  | true =>
    obtain ⟨p, q, rfl⟩ := tup2_of ht
    refine q_when (b := false) (et_is (et_two (ed_var (k := 1) (v := v) rfl hv)) (by rw [ht]; rfl)) (fun z => nomatch z) fun _ H1 e1 => ?_
    refine e_for (ei_tupD (K := K) (ds := [p, q]) (ed_var (v := v) rfl (dp_ex e1 _ _ hv))) (fun H2 i σ' Ha => Ex H2 Ha ∧ (∀ j, j < i → ∀ e, ([p, q] : List PyData)[j]? = some e → pinB e = true) ∧ ∃ y, σ' = [some (.ref a), some v, y]) (fun H2 e2 => ⟨Ex.refl _, fun j hj => absurd hj (by omega), none, rfl⟩) (fun H2 i σ' Ha _ p => Xp.of_ex p.1) ?_ ?_
    · rintro H2 i x y σ' Ha Hb e2 hx ⟨p1, pn, z, rfl⟩ e3 hy
      refine s_when (b := !pinB x) (et_pin (i := 2) rfl hy) (fun hn H5 e5 => ?_) fun hn H5 e5 => ⟨(p1.trans e3).trans e5, fun j hj x' hx' => ?_, _, rfl⟩
      · have hn : pinB x = false := by simpa using hn
        have no : hasB ws (.tuple [p, q]) = false := by
          match i, hx with
          | 0, hx => cases hx; exact hasB_no1 hn
          | 1, hx => cases hx; exact hasB_no2 hn
          | _ + 2, hx => simp at hx
        rw [no] at k
        exact s_ret ev_c fun H6 e6 => k H6 ((((e1.trans e2).trans p1).trans (e3.trans e5)).trans e6)
      · by_cases hji : j < i
        · exact pn j hji x' hx'
        · have : j = i := by omega
          subst this
          rw [hx] at hx'
          cases hx'
          simpa using hn
    · rintro H2 σ' Ha e2 ⟨p1, pn, z, rfl⟩
      have E := (e1.trans e2).trans p1
      obtain ⟨p', rfl⟩ := pinB_of (pn 0 (by simp) p rfl)
      obtain ⟨q', rfl⟩ := pinB_of (pn 1 (by simp) q rfl)
      exact s_ret (ev_known B (u := (p', q')) rfl rfl (hb.ex E) (dp_ex E _ _ hv)) fun H4 e4 => k H4 (E.trans e4)

abbrev s_is_lot : Stmt := topS 23
abbrev N_is_lot : List Str := ["box", "thing", "item"]
theorem sc_is_lot : FnScope N_is_lot ["box", "thing"] (defScope s_is_lot) := ⟨rfl, rfl, rfl, by decide +kernel, rfl, by decide +kernel, by decide +kernel⟩
theorem ok_is_lot {f : Addr} {fd : FuncData} (F : Fun K "is_lot" "is_lot" s_is_lot f fd) (T : Txt mg)
    (D_has_switch : DF P w K mg base "has_switch" 2 ["box", "thing"] (spHasB P w K C)) (D_rises : DF P w K mg base "rises" 1 ["row"] (spD K 1 R_rises))  :
    FnOk P w K mg base CX0 3 f fd ["box", "thing"] (spLotB P w K C) := by
  refine F.ok sc_is_lot (fun vs H Q E h => by obtain ⟨_, _, _, _, _, _, rfl, _⟩ := h; rfl) (fun cdv A outer s H vs Q E hr h => ?_)
  obtain ⟨a, s, t, ws, v, d, rfl, hb, hv, sm, k⟩ := h
  refine ⟨_, (pss_cons (ps_if (pt_not (pt_val (pe_callB call_isi (by rfl) T.b_isinstance (by decide +kernel) (pa_cons (pv 1) (pa_cons (pe_bltn (v := .ty "tuple") (u := .type "tuple") (by rfl) T.b_tuple (by decide +kernel) rfl) pa_nil))))) (pss_one (ps_ret pe_bl)) pss_nil)
      (pss_cons (ps_for PassesOwn.never rfl (pi_tup (pv 1)) (pg_name (i := 2) sc_is_lot.nd rfl (Or.inl rfl)) (pss_one (ps_if (pt_not (pt_val (pe_D D_has_switch (hr.mono (by decide)) (by rfl) (pa_cons (pv 0) (pa_cons (pv 2) pa_nil))))) (pss_one (ps_ret pe_bl)) pss_nil)))
      (pss_one (ps_ret (pe_D D_rises (hr.mono (by decide)) (by rfl) (pa_cons (pv 1) pa_nil)))))), ?_⟩
  have isT : EvT (tNot (tB (tCB (rIsi K) (tCons (tVar 1) (tCons (tC (.ty "tuple")) tNil))))) (L2.start N_is_lot [.ref a, v]) H (!(isTup d).isSome) := et_not (et_B (ev_isiD (ed_var (v := v) rfl hv) (kit_tuple d)))
  cases d with
  | tuple es =>
    have sm := sm es rfl
    refine q_when (b := false) (et_is isT rfl) (fun z => nomatch z) fun _ H1 e1 => ?_
    refine e_for (ei_tupD (K := K) (ed_var (v := v) rfl (dp_ex e1 _ _ hv))) (fun H3 i σ' Ha => Ex H3 Ha ∧ (∀ j, j < i → ∀ e, es[j]? = some e → hasB ws e = true) ∧ ∃ y, σ' = [some (.ref a), some v, y]) (fun H3 e3 => ⟨Ex.refl _, fun j hj => absurd hj (by omega), none, rfl⟩) (fun H3 i σ' Ha _ p => Xp.of_ex p.1) ?_ ?_
    · rintro H3 i e y σ' Ha Hb e3 he ⟨p1, pn, z, rfl⟩ e4 hy
      have E := ((e1.trans e3).trans p1).trans e4
      refine s_when (b := !hasB ws e) (et_not (et_B (ev_hasB (i := 0) (j := 2) rfl rfl (hb.ex E) hy))) (fun hn H5 e5 => ?_) fun hn H5 e5 => ⟨(p1.trans e4).trans e5, fun j hj x hx => ?_, _, rfl⟩
      · have hn : hasB ws e = false := by simpa using hn
        have al : lotB ws (.tuple es) = false := by
          show (es.all (hasB ws) && _) = false
          rw [List.all_eq_false.mpr ⟨e, List.mem_of_getElem? he, by rw [hn]; simp⟩]
          rfl
        rw [al] at k
        exact s_ret ev_c fun H6 e6 => k H6 ((E.trans e5).trans e6)
      · by_cases hji : j < i
        · exact pn j hji x hx
        · have : j = i := by omega
          subst this
          rw [he] at hx
          cases hx
          simpa using hn
    · rintro H3 σ' Ha e3 ⟨p1, pn, z, rfl⟩
      have al : es.all (hasB ws) = true := List.all_eq_true.mpr fun e he => by
        obtain ⟨j, hj⟩ := List.mem_iff_getElem?.mp he
        exact pn j (List.getElem?_eq_some_iff.mp hj).1 e hj
      have sw : lotB ws (.tuple es) = risesD es := by
        show (es.all (hasB ws) && risesD es) = _
        rw [al]
        rfl
      rw [sw] at k
      obtain ⟨us, rfl, _⟩ := has_all al
      rw [List.length_map] at sm
      have e13 := (e1.trans e3).trans p1
      exact s_ret (EvD.bool (ed_call (K := K) (R := R_rises) (ds := [.tuple (us.map swD)]) (eda_cons (ed_var (v := v) rfl (dp_ex e13 _ _ hv)) eda_nil) rfl ⟨_, rfl, row_sw sm, rfl⟩)) fun H6 e6 => k H6 (e13.trans e6)
  | _ => exact q_when (b := true) (et_is isT rfl) (fun _ H1 e1 => s_ret ev_c fun H6 e6 => k H6 (e1.trans e6)) fun z => nomatch z

end
end K16
set_option Elab.async false
set_option linter.all false
set_option maxRecDepth 100000
set_option maxHeartbeats 4000000
namespace K16
open PySem PySem.Spec PyProof.Rows L2 Evl DL LamX
local macro_rules | `(tactic| walk_at "dl") => `(tactic| first
  | exact ev_c | exact ev_var rfl | exact eda_nil
  | exact ed_var rfl (by assumption)
  | exact ed_int ev_c | exact ed_int (ev_var rfl)
  | (refine eda_cons ?_ ?_ <;> walk_at "dl")
  | (refine ed_int ?_; walk_at "dl")
  | (refine ev_op ?_ ?_ rv_I0 <;> walk_at "dl"))

theorem pe_fldK {X : Cx} {e : Expr} {f : Str} {pos : Pos} {ta : TE} (K : PySem.W.Frag) (h : X.K = K) (he : PE X e ta) (hb : attributeBase e f X.env (eval e X.env) = eval e X.env) : PE X (.Attribute e f pos) (tFld K ta f) := h ▸ pe_fld he hb
theorem op_notInNK {X : Cx} (P : Program) (w : World) (K : PySem.W.Frag) (h : X.prog = P ∧ X.w = w ∧ X.K = K) (hu : X.A.units + 64 < cLine) : OpR X (compareOp .NotIn) (rInN P w K true) := by
  obtain ⟨rfl, rfl, rfl⟩ := h
  exact op_notInN hu
theorem op_inNK {X : Cx} (P : Program) (w : World) (K : PySem.W.Frag) (h : X.prog = P ∧ X.w = w ∧ X.K = K) (hu : X.A.units + 64 < cLine) : OpR X (compareOp .In) (rInN P w K false) := by
  obtain ⟨rfl, rfl, rfl⟩ := h
  exact op_inN hu
section
variable {K : PySem.W.Frag} {σ : L2.St} {H : Hp} {te : TE} {ds : List PyData}
/-- [f for .. if b], data -/
theorem en_lcD {wi : TI} {g : TG} {tt : TT} {vs : List Nat} (h : EvI K wi σ H [] ds) (hl : ds.length ≤ 50000) (b : Nat → Bool) (f : Nat → PyData) (hi : ∀ i, i < ds.length → imm (f i) = true)
    (hs : ∀ H2 i d x Hb (Q : L2.St → Hp → Prop), Ex H H2 → ds[i]? = some d → Ex H2 Hb → Dp K Hb x d → (∀ σ2 H3, Ex Hb H3 → wipe σ2 vs = wipe σ vs → EvT tt σ2 H3 (b i) → (b i = true → EvD K te σ2 H3 (f i)) → Q σ2 H3) → g x (wipe σ vs) Hb Q) :
    EvN K (tLc wi g tt te vs) σ H (((List.range ds.length).filter b).map f) := fun H1 e Q q => h H1 e _ fun J H2 e2 w => fun Dl hD => by
  refine lc_it w (fun n Ha => n ≤ ds.length ∧ Ex H2 Ha ∧ ∃ acc, Ha Dl = some (.lst acc) ∧ DpAll K Ha acc (((List.range n).filter b).map f)) ⟨Nat.zero_le _, Ex.new hD, [], upd_same, .nil⟩ (fun n Ha _ p => Xp.of_ex p.2.1) (fun i x Ha Hb hlt p y => ?_) fun Ha p => ?_
  · obtain ⟨p0, p1, acc, p2, p3⟩ := p
    obtain ⟨ey, d, hd1, hd2⟩ := y
    have iall : ∀ n, n ≤ ds.length → immAll (((List.range n).filter b).map f) = true := fun n hn => by
      have gen : ∀ l : List Nat, (∀ i ∈ l, i < ds.length) → immAll (l.map f) = true := by
        intro l
        induction l with
        | nil => exact fun _ => rfl
        | cons a l ih =>
          intro hh
          rw [List.map_cons, immAll, hi a (hh a List.mem_cons_self), ih fun i hi' => hh i (List.mem_cons_of_mem _ hi')]
          rfl
      exact gen _ fun i hi' => by
        have := List.mem_range.mp (List.mem_filter.mp hi').1
        omega
    have few : acc.length < sizeLine := by
      have h1 := dpa_len p3
      rw [List.length_map] at h1
      have := List.length_filter_le b (List.range i)
      rw [List.length_range] at this
      exact sz_lt (by omega)
    refine hs H2 i d x Hb _ (e.trans e2) hd1 (p1.trans ey) hd2 fun σ2 H3 e3 hw ht hv => ⟨hw, ?_⟩
    refine ht H3 (Ex.refl _) _ fun H4 e4 => ?_
    have e34 := (ey.trans e3).trans e4
    cases hb : b i with
    | false =>
      rw [if_neg (by simp)]
      refine ⟨hlt, p1.trans e34, acc, e34 _ _ p2, ?_⟩
      rw [List.range_succ, List.filter_append, List.filter_cons, hb]
      simpa using dpa_ex e34 _ _ p3
    | true =>
      rw [if_pos rfl]
      refine hv hb H4 e4 _ fun v H5 e5 hv5 => ⟨_, (e34.trans e5) _ _ p2, few, hlt, Ex.mut (p1.trans (e34.trans e5)) hD, _, upd_same, ?_⟩
      have t := Tx.lst (u := .lst (acc ++ [v])) ((e34.trans e5) _ _ p2)
      rw [List.range_succ, List.filter_append, List.filter_cons, hb, List.map_append]
      exact dpa_app (dpa_tx t _ _ (iall i p0) (dpa_ex (e34.trans e5) _ _ p3)) (.cons (dp_tx t _ _ (hi i (by omega)) hv5) .nil)
  · obtain ⟨p0, p1, acc, p2, p3⟩ := p
    exact q Dl _ Ha (fresh_back e2 hD) (e2.trans p1) p2 p3
theorem en_listOfT (h : EvD K te σ H (.tuple ds)) : EvN K (tCB (fun xs H Q => ∃ p ys, xs = [.ref p] ∧ (SqL K H p ys ∨ SqT K H p ys) ∧ ∀ l, H l = none → Q (.ref l) (upd H l (.lst ys))) (tCons te tNil)) σ H ds := fun H1 e Q q =>
  h H1 e _ fun x H2 e2 hx => by
    cases hx with
    | tup hs ha => exact ⟨_, _, rfl, .inr hs, fun l hl => q _ _ _ (fresh_back e2 hl) (e2.trans (Ex.new hl)) upd_same (dpa_ex (Ex.new hl) _ _ ha)⟩
end
/-- what a Box holds -/
structure Bok (s t : Int) (ws : List Sw) : Prop where
  hs : 2 ≤ s ∧ s ≤ 5
  ht : 1 ≤ t ∧ t ≤ 6
  ok : ∀ u ∈ ws, SwOk s t u
  up : risesD (ws.map swD) = true
  one : ws.Nodup
  few : ws.length ≤ 400
theorem shf_inj {t : Int} {u v : Sw} (h : shf t u = shf t v) : u = v := by
  obtain ⟨⟨a, b⟩, ⟨c, d⟩⟩ := u
  obtain ⟨⟨a', b'⟩, ⟨c', d'⟩⟩ := v
  simp only [shf, Prod.mk.injEq] at h ⊢
  omega
/-- the switches of both -/
def bsd (t : Int) (ws ws' : List Sw) : List Sw := ws ++ ws'.map (shf t)
theorem bsd_one {s t s' t' : Int} {ws ws' : List Sw} (A : Bok s t ws) (B : Bok s' t' ws') : (bsd t ws ws').Nodup := by
  refine List.nodup_append.mpr ⟨A.one, List.pairwise_map.mpr (List.Pairwise.imp (fun ne e => ne (shf_inj e)) B.one), fun u hu v hv e => ?_⟩
  obtain ⟨x, hx, rfl⟩ := List.mem_map.mp hv
  subst e
  have h1 := (A.ok _ hu).2.2.2.2.1
  have h2 := (B.ok _ hx).2.2.2.1
  simp only [shf] at h1
  omega
theorem bsd_ok {s t t' : Int} {ws ws' : List Sw} (A : Bok s t ws) (B : Bok s t' ws') : ∀ u ∈ bsd t ws ws', SwOk s (t + t') u := fun u hu => by
  rcases List.mem_append.mp hu with hu | hu
  · obtain ⟨h1, h2, h3, h4, h5, h6, h7⟩ := A.ok u hu
    have := B.ht.1
    exact ⟨h1, h2, h3, h4, by omega, h6, by omega⟩
  · obtain ⟨x, hx, rfl⟩ := List.mem_map.mp hu
    obtain ⟨h1, h2, h3, h4, h5, h6, h7⟩ := B.ok x hx
    have := A.ht.1
    exact ⟨h1, h2, h3, by show 0 ≤ x.1.2 + t; omega, by show x.1.2 + t < t + t'; omega, by show 0 ≤ x.2.2 + t; omega, by show x.2.2 + t < t + t'; omega⟩
theorem bsd_len {s t s' t' : Int} {ws ws' : List Sw} (A : Bok s t ws) (B : Bok s' t' ws') : (bsd t ws ws').length ≤ 800 := by
  have := A.few
  have := B.few
  rw [bsd, List.length_append, List.length_map]
  omega
section
variable {K : PySem.W.Frag} {ls : List Addr} {st lg cl : Addr} {n : Nat} {σ : L2.St} {H H' : Hp} {ta tb te : TE} {tl th : TO} {v : V} {vs : List V} {d : PyData} {ds es : List PyData} {D : Ends} {tz : TS}
theorem gN {i : Nat} {x : V} {Q : L2.St → Hp → Prop} (h : Q (σ.set i (some x)) H) : gName i x σ H Q := h
theorem s_if {t : TT} {sa sb : TS} {b : Bool} (h : EvT t σ H b) (h1 : b = true → ∀ H1, Ex H H1 → sa D σ H1) (h2 : b = false → ∀ H1, Ex H H1 → sb D σ H1) : tIfS t sa sb D σ H := h H (Ex.refl _) _ fun H1 e1 => by
  cases b with
  | true => exact h1 rfl H1 e1
  | false => exact h2 rfl H1 e1
theorem r_for {ta : TA} {g : TG} {tu : TS} {n : Int} (h : EvDA K ta σ H [.int n]) (hn : -(2 ^ 62) ≤ n ∧ n < 2 ^ 62) (Pv : Nat → L2.St → Hp → Prop) (h0 : ∀ H2, Ex H H2 → Pv 0 σ H2)
    (hs : ∀ (i : Nat) σ' Ha, (i : Int) < n → Pv i σ' Ha → g (.int (i : Int)) σ' Ha fun σ2 H3 => tu { D with nx := Pv (i + 1), ct := Pv (i + 1), bk := tz D } σ2 H3) (hd : ∀ σ' Ha, Pv n.toNat σ' Ha → tz D σ' Ha) : tSeq (tFor (iRng1 ta) g tu) tz D σ H :=
  h H (Ex.refl _) _ fun vs H2 e2 hv => by
    cases hv with
    | cons a b =>
      cases b
      cases a
      refine ⟨n, rfl, hn.1, hn.2, ?_⟩
      refine for_it (D := { D with nx := tz D }) walk_range Pv (h0 H2 e2) (fun _ _ _ _ _ => trivial) (fun i x σ' Ha Hb hi p y => ?_) fun σ' Ha p => hd σ' Ha p
      obtain ⟨rfl, rfl⟩ := y
      have e0 : (V.int (0 + (i : Int))) = .int (i : Int) := by rw [Int.zero_add]
      show g (V.int (0 + (i : Int))) σ' _ _
      rw [e0]
      exact hs i σ' _ (by omega) p
theorem r_forD {ta : TA} {g : TG} {tu : TS} {P : Int → Hp → Prop} (h : ∀ Q : List V → Hp → Prop, (∀ n H1, P n H1 → Q [.int n] H1) → ta σ H Q) (next : ∀ n H1, P n H1 → tSeq (tFor (iRng1 (tCons (tC (.int n)) tNil)) g tu) tz D σ H1) : tSeq (tFor (iRng1 ta) g tu) tz D σ H := h _ next
theorem ev_neg {j : Int} : Ev (tUn (rU fun i => V.int (-i)) (tC (.int j))) σ H (.int (-j)) := fun H1 e Q q => ⟨j, rfl, q H1 (Ex.refl _)⟩
theorem cut_drop {i : Int} (h : 0 ≤ i) : DL.cutD ds (some i) none = ds.drop i.toNat := by
  unfold DL.cutD
  rw [show HT.sIx ds.length ds.length none = ds.length from rfl, show HT.sIx ds.length 0 (some i) = min i.toNat ds.length from by show (if i < 0 then _ else _) = _; rw [if_neg (by omega)]]
  rcases Nat.le_total i.toNat ds.length with h' | h'
  · rw [Nat.min_eq_left h', List.take_of_length_le (by rw [List.length_drop]; omega)]
  · rw [Nat.min_eq_right h', Nat.sub_self, List.take_zero, List.drop_eq_nil_of_le h']
end
section
variable {K : PySem.W.Frag} {σ : L2.St} {H H2 : Hp} {ta : TA} {te : TE} {tz : TS} {D : Ends} {d : PyData} {v : V}
theorem q_parV {i j : Nat} (h : ta σ H fun vs H1 => ∃ x y, vs = [x, y] ∧ tz D ((σ.set i (some x)).set j (some y)) H1) : tSeq (tPar i j ta) tz D σ H := h
theorem r_for0 {g : TG} {tu : TS} {n : Int} (h : EvDA K ta σ H [.int n]) (hn : -(2 ^ 62) ≤ n ∧ n < 2 ^ 62) (Pv : Nat → L2.St → Hp → Prop) (h0 : ∀ H2, Ex H H2 → Pv 0 σ H2)
    (hs : ∀ (i : Nat) σ' Ha, (i : Int) < n → Pv i σ' Ha → g (.int (i : Int)) σ' Ha fun σ2 H3 => tu { D with nx := Pv (i + 1), ct := Pv (i + 1), bk := D.nx } σ2 H3) (hd : ∀ σ' Ha, Pv n.toNat σ' Ha → D.nx σ' Ha) : tFor (iRng1 ta) g tu D σ H :=
  r_for (D := D) (tz := fun D' => D'.nx) h hn Pv h0 hs hd
theorem ed_at (h : Ev te σ H v) (hd : Dp K H v d) : EvD K te σ H d := fun H1 e Q q => h H1 e Q fun H2 e2 => q v H2 e2 (dp_ex (e.trans e2) _ _ hd)
end
section
variable {P : Program} {w : World} {K : PySem.W.Frag} {mg : Str → Option Value} {base : Heap}
variable {CB CT CW C CX CO CG : Addr} {σ : L2.St} {H : Hp} {D : Ends} {tz : TS} {E : XK}
theorem q_ck {i : Nat} {a : Addr} {s t : Int} {ws : List Sw} (h : σ[i]? = some (some (.ref a))) (hb : BxAt P w K C H a s t ws) (q : ∀ H1, Ex H H1 → tz D σ H1) : tSeq (tDrop (tCall (spCkB P w K C CX) [] E (tCons (tVar i) tNil))) tz D σ H := ⟨_, h, .ref a, rfl, .inl ⟨a, s, t, ws, rfl, hb, q⟩⟩
theorem b_ck {i : Nat} {v : V} {t : Value} (h : σ[i]? = some (some v)) (ty : ∀ H', Ex H H' → TyX K H' v t) (hk : PySem.W.kitOne K t (.ref C) = some false) (q : ∀ H1, Ex H H1 → E (.ref CX) none H1) : tSeq (tDrop (tCall (spCkB P w K C CX) [] E (tCons (tVar i) tNil))) tz D σ H := ⟨_, h, v, rfl, .inr ⟨t, ty, hk, q⟩⟩
/-- a value that is no Box -/
def NoBx (K : PySem.W.Frag) (C : Addr) (H : Hp) (v : V) : Prop := ∃ t : Value, (∀ H', Ex H H' → TyX K H' v t) ∧ PySem.W.kitOne K t (.ref C) = some false
theorem NoBx.ex {H H' : Hp} {v : V} (h : NoBx K C H v) (e : Ex H H') : NoBx K C H' v := by
  obtain ⟨t, h1, h2⟩ := h
  exact ⟨t, fun H2 e2 => h1 H2 (e.trans e2), h2⟩
def spBeside (P : Program) (w : World) (K : PySem.W.Frag) (CT C CX CO : Addr) : Sp := fun vs H Q E => ∃ v1 v2, vs = [v1, v2] ∧
  ((∃ a b s t t' ws ws', v1 = .ref a ∧ v2 = .ref b ∧ BxAt P w K C H a s t ws ∧ BxAt P w K C H b s t' ws' ∧ Bok s t ws ∧ Bok s t' ws' ∧ ((t + t' ≤ 6 ∧ ∀ x H', H x = none → Ex H H' → BxAt P w K C H' x s (t + t') (srt (bsd t ws ws')) → Q (.ref x) H') ∨ (6 < t + t' ∧ ∀ H', Ex H H' → E (.ref CT) none H'))) ∨
   (∃ a b s t s' t' ws ws', v1 = .ref a ∧ v2 = .ref b ∧ BxAt P w K C H a s t ws ∧ BxAt P w K C H b s' t' ws' ∧ s ≠ s' ∧ ∀ H', Ex H H' → E (.ref CO) none H') ∨
   (NoBx K C H v1 ∧ ∀ H', Ex H H' → E (.ref CX) none H') ∨ (∃ a s t ws, v1 = .ref a ∧ BxAt P w K C H a s t ws ∧ NoBx K C H v2 ∧ ∀ H', Ex H H' → E (.ref CX) none H'))
theorem mem_getD {ws : List Sw} {i : Nat} (h : i < ws.length) : ws.getD i ((0, 0), (0, 0)) ∈ ws := by
  rw [List.getD_eq_getElem?_getD, List.getElem?_eq_getElem h]
  exact List.getElem_mem h
theorem sh_data (t : Int) (ws : List Sw) : (List.range (ws.map swD).length).map (fun i => swD (shf t (ws.getD i ((0, 0), (0, 0))))) = (ws.map (shf t)).map swD := by
  rw [List.length_map, List.map_map]
  refine List.ext_getElem (by simp) fun i h1 h2 => ?_
  have hi : i < ws.length := by simpa using h1
  rw [List.getElem_map, List.getElem_range, List.getElem_map, List.getD_eq_getElem?_getD, List.getElem?_eq_getElem hi]
  rfl
abbrev s_beside : Stmt := topS 31
abbrev N_beside : List Str := ["one", "other", "switches", "switch"]
theorem sc_beside : FnScope N_beside ["one", "other"] (defScope s_beside) := ⟨rfl, rfl, rfl, by decide +kernel, rfl, by decide +kernel, by decide +kernel⟩
theorem ok_beside {f : Addr} {fd : FuncData} (F : Fun K "beside" "beside" s_beside f fd) (T : Txt mg)
    (D_check_box : DFX P w K mg base "check_box" 1 ["box"] (spCkB P w K C CX)) (D_shifted : DF P w K mg base "shifted" 1 ["switch", "tracks"] (spD K 2 R_shifted)) (B : BoxC K C) (BX : BoxX P w K mg base C CB CT CW) (GOther : ErC K mg "OtherSides" CO)  :
    FnOk P w K mg base (L2.CX P w) 6 f fd ["one", "other"] (spBeside P w K CT C CX CO) := by
  refine F.okX sc_beside (fun vs H Q E h => by obtain ⟨_, _, rfl, _⟩ := h; rfl) (fun cdv A outer s H vs Q E hr h => ?_)
  obtain ⟨v1, v2, rfl, h⟩ := h
  refine ⟨_, (pss_cons (ps_expr (pe_DX D_check_box (takes_of rfl rfl rfl rfl) (fun _ _ _ _ h => h) (hr.mono (by decide)) (by rfl) (pa_cons (pv 0) pa_nil)))
      (pss_cons (ps_expr (pe_DX D_check_box (takes_of rfl rfl rfl rfl) (fun _ _ _ _ h => h) (hr.mono (by decide)) (by rfl) (pa_cons (pv 1) pa_nil)))
      (pss_cons (ps_if (pt_cmpR op_ne (pe_fld (pv 0) rfl) (pe_fld (pv 1) rfl) (nomark _)) (pss_one (ps_raiseC rfl (takes_of rfl rfl rfl rfl) GOther (by rfl) pe_str)) pss_nil)
      (pss_cons (ps_set (i := 2) sc_beside.nd rfl (.inl rfl) (pe_op op_cat (pe_callTy call_list_of (by rfl) T.b_list (by decide +kernel) (pa_cons (pe_fld (pv 0) rfl) pa_nil)) (pe_lc (own := [("switch", 3)]) (g := (gName 3)) (tt := tYes) rfl sc_beside.nd (pi_tup (pe_fld (pv 1) rfl)) (blkOk_by (N := N_beside) (sc := defScope s_beside) (by decide +kernel)) (fun _ _ _ _ _ => (pg_name (i := 3) sc_beside.nd rfl (Or.inl rfl))) (fun _ _ _ _ _ => pts_nil) (fun _ _ _ _ _ => (pe_D D_shifted (hr.mono (by decide)) (by rfl) (pa_cons (pv 3) (pa_cons (pe_fldK K rfl (pv 0) rfl) pa_nil)))))))
      (pss_one (ps_ret (pe_BoxX BX ⟨rfl, rfl, rfl, rfl, rfl⟩ (takes_of rfl rfl rfl rfl) (fun _ _ _ _ h => h) (hr.mono (by decide)) (by rfl) (pa_cons (pe_fld (pv 0) rfl) (pa_cons (pe_op op_add (pe_fld (pv 0) rfl) (pe_fld (pv 1) rfl)) (pa_cons (pe_callTy call_tuple_of (by rfl) T.b_tuple (by decide +kernel) (pa_cons (pe_callB (cr_sortedD (hu64 hr)) (by rfl) T.b_sorted (by decide +kernel) (pa_cons (pv 2) pa_nil)) pa_nil)) pa_nil)))))))))), ?_⟩
  rcases h with ⟨a, b, s', t, t', ws, ws', rfl, rfl, ha, hb, A, A', h⟩ | ⟨a, b, s', t, s2, t', ws, ws', rfl, rfl, ha, hb, ne, k⟩ | ⟨⟨t, ty, hk⟩, k⟩ | ⟨a, s', t, ws, rfl, ha, ⟨t', ty, hk⟩, k⟩
  case inr.inl =>
    refine q_ck (i := 0) rfl ha fun H1 e1 => q_ck (i := 1) rfl (hb.ex e1) fun H2 e2 => ?_
    have e12 := e1.trans e2
    refine q_when (b := true) (et_test (ev_is (ev_op (ev_sides B (i := 0) rfl (ha.ex e12)) (ev_sides B (i := 1) rfl (hb.ex e12)) (rv_ne rfl)) (by simp [ne]))) (fun _ H3 e3 => ?_) fun z => nomatch z
    exact k H3 (e12.trans e3)
  case inr.inr.inl => exact b_ck (i := 0) rfl ty hk k
  case inr.inr.inr => exact q_ck (i := 0) rfl ha fun H1 e1 => b_ck (i := 1) rfl (fun H' e => ty H' (e1.trans e)) hk fun H2 e2 => k H2 (e1.trans e2)
  refine q_ck (i := 0) rfl ha fun H1 e1 => q_ck (i := 1) rfl (hb.ex e1) fun H2 e2 => ?_
  have e12 := e1.trans e2
  refine q_when (b := false) (et_test (ev_is (ev_op (ev_sides B (i := 0) rfl (ha.ex e12)) (ev_sides B (i := 1) rfl (hb.ex e12)) (rv_ne rfl)) (by simp))) (fun z => nomatch z) fun _ H3 e3 => ?_
  have e13 := e12.trans e3
  have ha3 := ha.ex e13
  have hb3 := hb.ex e13
  have i2 : immAll (ws'.map swD) = true := immAll_map imm_sw ws'
  have l1 := A.few
  have l2 := A'.few
  refine qn_asg (K := K) (ds := (bsd t ws ws').map swD) (en_is (en_cat (K := K) (EvN.toQ (en_listOfT (ed_switches B (i := 0) rfl ha3))) (EvN.toQ (en_is (en_lc (ei_tupD (ed_switches B (i := 1) rfl hb3)) (by rw [List.length_map]; omega) (fun i => swD (shf t (ws'.getD i ((0, 0), (0, 0))))) (fun _ _ => imm_sw _) fun H4 i d x Hb' Q' e4 hg e5 hx kk => ?_) (sh_data t ws'))) (by rw [List.length_map, List.length_map, List.length_map]; omega)) (by rw [bsd, List.map_append])) fun p vs H5 hp e5 h5 hd5 => ?_
  · rw [List.getElem?_map] at hg
    obtain ⟨u, hu, rfl⟩ := Option.map_eq_some_iff.mp hg
    have gz : ws'.getD i ((0, 0), (0, 0)) = u := by rw [List.getD_eq_getElem?_getD, hu]; rfl
    rw [gz] at kk
    exact kk _ Hb' (Ex.refl _) rfl (ed_call (R := R_shifted) (ds := [swD u, .int t]) (eda_cons (ed_var (k := 3) (v := x) rfl hx) (eda_cons (ed_int (ev_tracks B (i := 0) rfl (ha3.ex (e4.trans e5)))) eda_nil)) rfl ⟨u, t, rfl, rfl⟩)
  have e15 := e13.trans e5
  have hl := bsd_len A A'
  have pm := srt_perm (bsd t ws ws')
  have arg : EvDA K (tCons (tFld K (tVar 0) "sides") (tCons (tOp (rI0 fun i j => V.int (i + j)) (tFld K (tVar 0) "tracks") (tFld K (tVar 1) "tracks")) (tCons (tCB (fun xs H Q => ∃ p ys, xs = [.ref p] ∧ ((SqL K H p ys ∧ ∀ l, H l = none → Q (.ref l) (upd H l (.tup ys))) ∨ (SqT K H p ys ∧ Q (.ref p) H))) (tCons (tCB (rSortedD K) (tCons (tVar 2) tNil)) tNil)) tNil))) [some (.ref a), some (.ref b), some (.ref p), none] H5 [.int s', .int (t + t'), .tuple ((srt (bsd t ws ws')).map swD)] :=
    eda_cons (ed_int (ev_sides B (i := 0) rfl (ha.ex e15))) (eda_cons (ed_int (ev_op (ev_tracks B (i := 0) rfl (ha.ex e15)) (ev_tracks B (i := 1) rfl (hb.ex e15)) rv_I0)) (eda_cons (ed_tupleOf (by
      rw [← srt_data]
      exact EvN.toD (en_sortedD (K := K) (ds := (bsd t ws ws').map swD) (ed_var (k := 2) (v := .ref p) rfl (.lst (sq_of h5) hd5)) (alike_sws _) (sortable_sws _) (depth_sws _)))) eda_nil))
  rcases h with ⟨t6, k⟩ | ⟨t6, k⟩
  · exact mk_good (C := C) arg A.hs ⟨by have := A.ht.1; have := A'.ht.1; omega, t6⟩ (fun u hu => bsd_ok A A' u (pm.mem_iff.mp hu)) (by rw [pm.length_eq]; omega) (srt_rise (bsd_one A A')) fun x H' hx e' bx => k x H' (fresh_back e15 hx) (e15.trans e') bx
  · exact mk_badT (C := C) arg A.hs (by show (decide _ && decide _) = false; rw [decide_eq_false (show ¬ t + t' ≤ 6 by omega), Bool.and_false]) (fun es e => by cases e; rw [List.length_map, pm.length_eq]; omega) fun H' e' => k H' (e15.trans e')

end
end K16
set_option Elab.async false
set_option linter.all false
set_option maxRecDepth 100000
set_option maxHeartbeats 4000000
namespace K16
open PySem PySem.Spec PyProof.Rows L2 Evl DL LamX
local macro_rules | `(tactic| walk_at "dl") => `(tactic| first
  | exact ev_c | exact ev_var rfl | exact eda_nil
  | exact ed_var rfl (by assumption)
  | exact ed_int ev_c | exact ed_int (ev_var rfl)
  | (refine eda_cons ?_ ?_ <;> walk_at "dl")
  | (refine ed_int ?_; walk_at "dl")
  | (refine ev_op ?_ ?_ rv_I0 <;> walk_at "dl"))

open PySem.W (dataLt dataLe)
theorem leD_trans {a b c : Sw} (h1 : leD (swD a) (swD b) = true) (h2 : leD (swD b) (swD c) = true) : leD (swD a) (swD c) = true :=
  (PySem.W.sortLe_total (listOrd itemOrd) false (fun u : Sw => PySem.W.keyToks (swD u))).trans a b c h1 h2
theorem leD_total (a b : Sw) : leD (swD a) (swD b) = true ∨ leD (swD b) (swD a) = true := by
  have := (PySem.W.sortLe_total (listOrd itemOrd) false (fun u : Sw => PySem.W.keyToks (swD u))).total a b
  exact this
theorem ltS_trans {a b c : Sw} (h1 : dataLt (swD a) (swD b) = true) (h2 : dataLt (swD b) (swD c) = true) : dataLt (swD a) (swD c) = true := by
  have n1 : leD (swD b) (swD a) = false := by unfold leD; rw [h1]; rfl
  have n2 : leD (swD c) (swD b) = false := by unfold leD; rw [h2]; rfl
  have g1 : leD (swD a) (swD b) = true := (leD_total a b).resolve_right (by rw [n1]; exact Bool.noConfusion)
  cases h : dataLt (swD a) (swD c) with
  | true => rfl
  | false =>
    have g3 : leD (swD c) (swD a) = true := by unfold leD; rw [h]; rfl
    rw [leD_trans g3 g1] at n2
    cases n2
theorem up_pw : ∀ {ws : List Sw}, risesD (ws.map swD) = true → ws.Pairwise fun a b => dataLt (swD a) (swD b) = true
  | [], _ => .nil
  | [_], _ => List.pairwise_singleton _ _
  | a :: b :: ws, h => by
    have h1 : (dataLt (swD a) (swD b) && risesD ((b :: ws).map swD)) = true := h
    rw [Bool.and_eq_true] at h1
    have ih := up_pw h1.2
    refine List.pairwise_cons.mpr ⟨fun c hc => ?_, ih⟩
    rcases List.mem_cons.mp hc with rfl | hc
    · exact h1.1
    · exact ltS_trans h1.1 (List.rel_of_pairwise_cons ih hc)
theorem pw_up {ws : List Sw} (h : ws.Pairwise fun a b => dataLt (swD a) (swD b) = true) : risesD (ws.map swD) = true := by
  refine rises_yes fun i a b h1 h2 => ?_
  rw [List.getElem?_map] at h1 h2
  obtain ⟨u, g1, rfl⟩ := Option.map_eq_some_iff.mp h1
  obtain ⟨v, g2, rfl⟩ := Option.map_eq_some_iff.mp h2
  obtain ⟨l1, e1⟩ := List.getElem?_eq_some_iff.mp g1
  obtain ⟨l2, e2⟩ := List.getElem?_eq_some_iff.mp g2
  have le := List.pairwise_iff_getElem.mp h i (i + 1) l1 l2 (by omega)
  rwa [e1, e2] at le
/-- the switches that are left -/
def lft (ws us : List Sw) : List Sw := ws.filter fun u => !decide (u ∈ us)
theorem Bok.left {s t : Int} {ws : List Sw} (A : Bok s t ws) (us : List Sw) : Bok s t (lft ws us) :=
  ⟨A.hs, A.ht, fun u hu => A.ok u (List.mem_filter.mp hu).1, pw_up ((up_pw A.up).filter _), A.one.filter _, Nat.le_trans (List.length_filter_le _ _) A.few⟩
theorem lft_data (ws us : List Sw) : ((List.range (ws.map swD).length).filter fun i => !decide (ws.getD i ((0, 0), (0, 0)) ∈ us)).map (fun i => swD (ws.getD i ((0, 0), (0, 0)))) = (lft ws us).map swD := by
  have e : (List.range (ws.map swD).length).map (fun i => ws.getD i ((0, 0), (0, 0))) = ws := by
    rw [List.length_map]
    refine List.ext_getElem (by simp) fun i h1 h2 => ?_
    rw [List.getElem_map, List.getElem_range, List.getD_eq_getElem?_getD, List.getElem?_eq_getElem h2]
    rfl
  unfold lft
  conv => rhs; rw [← e, List.filter_map, List.map_map]
  rfl
section
variable {P : Program} {w : World} {K : PySem.W.Frag} {mg : Str → Option Value} {base : Heap}
variable {CB CT CW C CX CO CG : Addr} {σ : L2.St} {H : Hp} {D : Ends} {tz : TS} {E : XK}
theorem ev_notInN {i j : Nat} {d b : Addr} {kvs : List (NestedKey × Addr × V)} {k : NestedKey} {dd : PyData} (h1 : σ[i]? = some (some (.ref b))) (h2 : σ[j]? = some (some (.ref d))) (N : Nd P w K H d kvs) (hb : Dp K H (.ref b) dd) (hk : keyD dd = some k) (dep : k.depth ≤ 8) :
    Ev (tOp (rInN P w K true) (tVar i) (tVar j)) σ H (.bl (!hasN kvs k)) := fun H1 e Q q => ⟨_, h1, _, h2, d, kvs, b, dd, k, rfl, rfl, N.ex e, dp_ex e _ _ hb, hk, dep, q H1 (Ex.refl _)⟩
theorem sw_ref {H : Hp} {v : V} {u : Sw} (h : Dp K H v (swD u)) : ∃ b, v = .ref b := by
  cases h with
  | tup _ _ => exact ⟨_, rfl⟩
theorem dep_sw (u : Sw) : (keyOf u).depth ≤ 8 := by simp [keyOf, NestedKey.depth, NestedKey.depthAll]
def spWithout (P : Program) (w : World) (K : PySem.W.Frag) (C CX CG : Addr) : Sp := fun vs H Q E => ∃ v1 v2, vs = [v1, v2] ∧
  ((∃ a s t ws us, v1 = .ref a ∧ BxAt P w K C H a s t ws ∧ Bok s t ws ∧ Dp K H v2 (.tuple (us.map swD)) ∧ us.length ≤ 1000 ∧ lotB ws (.tuple (us.map swD)) = true ∧ ∀ x H', H x = none → Ex H H' → BxAt P w K C H' x s t (lft ws us) → Q (.ref x) H') ∨
   (∃ a s t ws d, v1 = .ref a ∧ BxAt P w K C H a s t ws ∧ Dp K H v2 d ∧ (∀ es, d = .tuple es → es.length ≤ 1000) ∧ lotB ws d = false ∧ ∀ H', Ex H H' → E (.ref CG) none H') ∨
   (NoBx K C H v1 ∧ ∀ H', Ex H H' → E (.ref CX) none H'))
abbrev s_without : Stmt := topS 32
abbrev N_without : List Str := ["box", "gone", "away", "switch"]
theorem sc_without : FnScope N_without ["box", "gone"] (defScope s_without) := ⟨rfl, rfl, rfl, by decide +kernel, rfl, by decide +kernel, by decide +kernel⟩
theorem ok_without {f : Addr} {fd : FuncData} (F : Fun K "without" "without" s_without f fd) (T : Txt mg)
    (D_check_box : DFX P w K mg base "check_box" 1 ["box"] (spCkB P w K C CX)) (D_is_lot : DF P w K mg base "is_lot" 3 ["box", "thing"] (spLotB P w K C)) (B : BoxC K C) (BX : BoxX P w K mg base C CB CT CW) (GBadGone : ErC K mg "BadGone" CG)  :
    FnOk P w K mg base (L2.CX P w) 6 f fd ["box", "gone"] (spWithout P w K C CX CG) := by
  refine F.okX sc_without (fun vs H Q E h => by obtain ⟨_, _, rfl, _⟩ := h; rfl) (fun cdv A outer s H vs Q E hr h => ?_)
  obtain ⟨v1, v2, rfl, h⟩ := h
  refine ⟨_, (pss_cons (ps_expr (pe_DX D_check_box (takes_of rfl rfl rfl rfl) (fun _ _ _ _ h => h) (hr.mono (by decide)) (by rfl) (pa_cons (pv 0) pa_nil)))
      (pss_cons (ps_if (pt_not (pt_val (pe_D D_is_lot (hr.mono (by decide)) (by rfl) (pa_cons (pv 0) (pa_cons (pv 1) pa_nil))))) (pss_one (ps_raiseC rfl (takes_of rfl rfl rfl rfl) GBadGone (by rfl) pe_str)) pss_nil)
      (pss_cons (ps_set (i := 2) sc_without.nd rfl (.inr rfl) (pe_dcN (own := [("switch", 3)]) (g := (gName 3)) (tt := tYes) rfl sc_without.nd (hu64 hr) (pi_tup (pv 1)) (blkOk_by (N := N_without) (sc := defScope s_without) (by decide +kernel)) (fun _ _ _ _ _ => (pg_name (i := 3) sc_without.nd rfl (Or.inl rfl))) (fun _ _ _ _ _ => pts_nil) (fun _ _ _ _ _ => (pv 3)) (fun _ _ _ _ _ => pe_bl)))
      (pss_one (ps_ret (pe_BoxX BX ⟨rfl, rfl, rfl, rfl, rfl⟩ (takes_of rfl rfl rfl rfl) (fun _ _ _ _ h => h) (hr.mono (by decide)) (by rfl) (pa_cons (pe_fld (pv 0) rfl) (pa_cons (pe_fld (pv 0) rfl) (pa_cons (pe_callTy call_tuple_of (by rfl) T.b_tuple (by decide +kernel) (pa_cons (pe_lc (own := [("switch", 3)]) (g := (gName 3)) (tt := _) rfl sc_without.nd (pi_tup (pe_fld (pv 0) rfl)) (blkOk_by (N := N_without) (sc := defScope s_without) (by decide +kernel)) (fun _ _ _ _ _ => (pg_name (i := 3) sc_without.nd rfl (Or.inl rfl))) (fun _ _ _ _ _ => (pts_one (pt_cmpR (op_notInNK P w K ⟨rfl, rfl, rfl⟩ (hu64 hr)) (pv 3) (pv 2) (by rfl)))) (fun _ _ _ _ _ => (pv 3))) pa_nil)) pa_nil))))))))), ?_⟩
  rcases h with ⟨a, s', t, ws, us, rfl, ha, A, hv, ul, lot, k⟩ | ⟨a, s', t, ws, d, rfl, ha, hv, sm, lot, k⟩ | ⟨⟨t, ty, hk⟩, k⟩
  case inr.inl =>
    refine q_ck (i := 0) rfl ha fun H1 e1 => ?_
    refine q_when (b := true) (et_is (et_not (et_B (ev_lotB (i := 0) (j := 1) rfl rfl (ha.ex e1) (dp_ex e1 _ _ hv) sm))) (by rw [lot]; rfl)) (fun _ H3 e3 => ?_) fun z => nomatch z
    exact k H3 (e1.trans e3)
  case inr.inr => exact b_ck (i := 0) rfl ty hk k
  refine q_ck (i := 0) rfl ha fun H1 e1 => ?_
  refine q_when (b := false) (et_is (et_not (et_B (ev_lotB (i := 0) (j := 1) rfl rfl (ha.ex e1) (dp_ex e1 _ _ hv) (fun es e => by cases e; rw [List.length_map]; exact ul)))) (by rw [lot]; rfl)) (fun z => nomatch z) fun _ H2 e2 => ?_
  have e12 := e1.trans e2
  have ha2 := ha.ex e12
  refine q_asgV (ev_dcN (K := K) (ed_var (k := 1) (v := v2) rfl (dp_ex e12 _ _ hv)) (immAll_map imm_sw us) (fun d hd => by obtain ⟨u, _, rfl⟩ := List.mem_map.mp hd; exact keyT_sw u) (by rw [List.length_map]; omega) (fun _ => rfl) (fun _ => rfl) fun D kvs H3 hD e3 N hh => ?_)
  refine gN ?_
  have e13 := e12.trans e3
  have ha3 := ha.ex e13
  have L := A.left us
  refine mk_good (C := C) (s := s') (t := t) (ws := lft ws us) (eda_cons (ed_int (ev_sides B (i := 0) rfl ha3)) (eda_cons (ed_int (ev_tracks B (i := 0) rfl ha3)) (eda_cons (ed_tupleOf (EvN.toD (en_is (en_lcD (ei_tupD (ed_switches B (i := 0) rfl ha3)) (by rw [List.length_map]; have := A.few; omega) (fun i => !decide (ws.getD i ((0, 0), (0, 0)) ∈ us)) (fun i => swD (ws.getD i ((0, 0), (0, 0)))) (fun _ _ => imm_sw _) fun H4 i d x Hb' Q' e4 hg e5 hx kk => ?_) (lft_data ws us)))) eda_nil))) L.hs L.ht L.ok (by have := L.few; omega) L.up fun x H' hx e' bx => k x H' (fresh_back e13 hx) (e13.trans e') bx
  rw [List.getElem?_map] at hg
  obtain ⟨u, hu, rfl⟩ := Option.map_eq_some_iff.mp hg
  have gz : ws.getD i ((0, 0), (0, 0)) = u := by rw [List.getD_eq_getElem?_getD, hu]; rfl
  rw [gz] at kk
  obtain ⟨b, rfl⟩ := sw_ref hx
  refine kk _ Hb' (Ex.refl _) rfl (et_test (ev_is (ev_notInN (i := 3) (j := 2) (b := b) rfl rfl (N.ex (e4.trans e5)) hx (key_sw u) (dep_sw u)) (by rw [hh, has_sw]))) fun _ => ed_var (k := 3) (v := .ref b) rfl hx

end
end K16
set_option Elab.async false
set_option linter.all false
set_option maxRecDepth 100000
set_option maxHeartbeats 4000000
/-! name = {k: v for ..} where keys are of any depth -/
namespace DL
open PySem PySem.Spec PyProof.Rows L2 Evl
section
variable {X : Cx}
theorem dcN_core {pins : List (Addr × Obj)} {s : Shared} {σ : L2.St} {H : Hp} {Q : VK} {use : Option (Value → Sem Unit)} {Qf : Value → Shared → Prop} {pos' : Pos} {kx vx tg iter : Expr} {ifs : List Expr} {sc : Scope} {own : List (Str × Nat)} {pos : Pos} {wi : TI} {g : TG} {tt : TT} {tk tv : TE} (calm : X.calm = true) (nd : X.N.Nodup) (hu : X.A.units + 64 < cLine) (over : PI X tg iter wi) (blk : BlkOk X.N X.env.scope sc own)
    (pgG : ∀ (s : Shared) (H : Hp) (C : Addr) (cl : List (Str × Addr)) (fp : List Addr), PG (X.blk s H sc (compEnvC sc cl C X.env) fp) tg g)
    (ptG : ∀ (s : Shared) (H : Hp) (C : Addr) (cl : List (Str × Addr)) (fp : List Addr), PTs (X.blk s H sc (compEnvC sc cl C X.env) fp) ifs tt)
    (pkG : ∀ (s : Shared) (H : Hp) (C : Addr) (cl : List (Str × Addr)) (fp : List Addr), PE (X.blk s H sc (compEnvC sc cl C X.env) fp) kx tk)
    (pvG : ∀ (s : Shared) (H : Hp) (C : Addr) (cl : List (Str × Addr)) (fp : List Addr), PE (X.blk s H sc (compEnvC sc cl C X.env) fp) vx tv)
    (plain : ∀ x, foldedSetIterable iter X.env x = pure x) (I : Inv X pins σ H s) (ask : tDcN X.prog X.w X.K wi g tt tk tv (own.map (·.2)) σ H Q)
    (hRR : ∀ D C s' m H', Inv X pins σ H' s' → Q (.ref D) H' → s'.heap.Ns C m → FpOk X pins H' C → compPost (model X.prog X.w) X.A X.xe use Qf (.ref D) C (.ok .next) s') :
    wpAny (model X.prog X.w) X.A (comprehension (.DictComp kx vx [⟨tg, iter, ifs, 0⟩] sc pos) sc X.env pos' newDict false (eval iter X.env) use) Qf X.xe s := by
  have fr : ∀ y ∈ sc.names, y.2 = .free → ∃ c, X.env.cells.lookup y.1 = some c := fun y m e => (blk.free y m e).elim (fun k => I.ok.has _ (.inl k)) fun k => I.ok.has _ (.inr k)
  refine wpAny_comprehension_free (use := use) rfl plain (closure_ok fr) blk.kind (fun y m e => by rw [blk.uniq y m, e]) ?_
  refine thn (over.run pins s σ H _ I ask) fun xv sA gotIter => thn gotIter fun itv sB gotIt => ?_
  obtain ⟨it, fp, tn, J, Ha, rfl, IB, T, stB, fB, next⟩ := gotIt
  refine wpAny_newObj_type (newEnv_comp ?_)
  obtain ⟨D, eD⟩ : ∃ D, D = sB.heap.objs.size := ⟨_, rfl⟩
  rw [← eD]
  have freshD : Ha D = none := IB.hok.fresh (Nat.le_of_eq eD.symm)
  obtain ⟨W, lim, w0, turn⟩ := next D freshD
  obtain ⟨sC, eC⟩ : ∃ sC : Shared, sC = { sB with heap := sB.heap.push { cls := .type "dict", data := .dict #[] } } := ⟨_, rfl⟩
  rw [← eC]
  have heapC : sC.heap = sB.heap.push { cls := .type "dict", data := .dict #[] } := by rw [eC]
  have IC : Inv X pins σ (upd Ha D (NdO X.prog X.w D [])) sC := by
    rw [eC, eD]
    exact IB.laid (t' := sB.toks) (fun b o e => Heap.get?_push_of_some _ e) (Nat.le_refl _) (nd_empty sB.heap IB.big)
  have small : ∀ b ∈ fp, b < sB.heap.objs.size := fun b m => by
    obtain ⟨o, e, _⟩ := T.obj _ _ stB b m
    exact Heap.lt_size e
  have fC : ∀ b ∈ fp, FpOk X pins (upd Ha D (NdO X.prog X.w D [])) b ∧ b < sC.heap.objs.size := fun b m => by
    have lt := small b m
    refine ⟨⟨?_, (fB b m).2⟩, ?_⟩
    · rw [upd_ne (eD ▸ Nat.ne_of_lt lt)]
      exact (fB b m).1
    · rw [heapC, Heap.size_push]
      exact Nat.lt_succ_of_lt lt
  have stC : tn 0 sC.heap := T.keep _ _ _ stB fun b _ o e => heapC ▸ Heap.get?_push_of_some _ e
  obtain ⟨Hc, eHc⟩ : ∃ Hc, Hc = upd Ha D (NdO X.prog X.w D []) := ⟨_, rfl⟩
  rw [← eHc] at IC fC w0
  obtain ⟨clo, eclo⟩ : ∃ clo, clo = cellsFrom (sC.heap.objs.size + 1) sc.names (cloFrom X.env.cells sc.names []) := ⟨_, rfl⟩
  obtain ⟨ce, ece⟩ : ∃ ce, ce = compEnvC sc clo sC.heap.objs.size X.env := ⟨_, rfl⟩
  have gP := pgG sC Hc sC.heap.objs.size clo fp
  have tP := ptG sC Hc sC.heap.objs.size clo fp
  have kP := pkG sC Hc sC.heap.objs.size clo fp
  have vP := pvG sC Hc sC.heap.objs.size clo fp
  have IE := block_start IC blk nd fC
  rw [← eclo, ← ece] at IE
  rw [← ece] at gP tP kP vP
  have locE : ce.locals = sC.heap.objs.size := by rw [ece]; rfl
  obtain ⟨sE, eE⟩ : ∃ sE : Shared, sE = { sC with heap := pushCells (sC.heap.push { cls := .type "dict", data := .dict #[] }) sc.names } := ⟨_, rfl⟩
  rw [← eE] at IE
  have stE : tn 0 sE.heap := T.keep _ _ _ stC fun b _ o e => eE ▸ pushCells_keeps _ _ _ _ (Heap.get?_push_of_some _ e)
  have here : ∀ {σ' : L2.St} {H' : Hp} {s' : Shared}, Inv (X.blk sC Hc sc ce fp) [] σ' H' s' → (∀ b ∈ fp, H' b = none) → ∀ b ∈ fp, FpOk (X.blk sC Hc sc ce fp) [] H' b := fun {_ _ _} I' free b m =>
    ⟨free b m, (I'.ok.exf b m).1, I'.ok.exfs b m, .inl m, fun x c e => (I'.ok.exf b m).2 x c e, fun p q => (List.not_mem_nil (show p ∈ ([] : List (Addr × Obj)) from q)).elim⟩
  let Wd : Nat → Shared → Prop := fun n s' => ∃ i H', n = lim - i ∧ Inv (X.blk sC Hc sc ce fp) [] (wipe σ (own.map (·.2))) H' s' ∧ tn i s'.heap ∧ (∀ b ∈ fp, H' b = none) ∧ W i H'
  subst ece eclo
  have loop : codeAny (model X.prog X.w) X.A (.compLoop (.DictComp kx vx [⟨tg, iter, ifs, 0⟩] sc pos) 0 (.ref it) (.ref D) (compEnvC sc (cellsFrom (sC.heap.objs.size + 1) sc.names (cloFrom X.env.cells sc.names [])) sC.heap.objs.size X.env)) (compPost (model X.prog X.w) X.A X.xe use Qf (.ref D) sC.heap.objs.size) sE := by
    refine compLoop_anyD Wd ?_ (lim - 0) ⟨0, Hc, rfl, IE, stE, fun b m => (fC b m).1.1, w0⟩
    rintro n s5 ⟨i, H5, rfl, I5, st5, n5, w5⟩
    rcases turn i H5 w5 with ⟨stop, done⟩ | ⟨lt, go, step⟩
    · refine thnF (T.done (X.blk sC Hc sc _ fp) rfl rfl rfl calm i [] s5 _ H5 (fun _ _ => False) I5 (here I5 n5) st5 stop) fun r s6 z => ?_
      obtain ⟨rfl, I6⟩ := z
      have I7 : Inv X pins σ H5 s6 := IC.call' (ch := fp) I6.os I6.base I6.hok I6.bare fun b m => ⟨(fC b m).1.2.2.2.1, (fC b m).1.2.1, (fC b m).1.2.2.2.2.1, (fC b m).1.2.2.2.2.2⟩
      have noC : H5 sC.heap.objs.size = none := I6.free
      obtain ⟨m, ns, _⟩ := I6.loc
      exact hRR D sC.heap.objs.size s6 m H5 I7 done ns (IC.fpOk (Nat.le_refl _) noC)
    · refine thnF (T.item (X.blk sC Hc sc _ fp) rfl rfl rfl calm i [] s5 _ H5 (fun _ _ => False) I5 (here I5 n5) st5 go) fun r s6 z => ?_
      obtain ⟨u, rfl, z6⟩ := z
      refine thnF z6 fun _ s7 z7 => ?_
      obtain ⟨x, H7, I7, r7, y7, st7, n7⟩ := z7
      refine thnF (gP.run _ s7 _ H7 x u _ (I7.pinned (here I7 n7) (T.obj _ _ st7)) r7 (step x H7 y7)) fun _ s8 z8 => ?_
      obtain ⟨σ8, H8, I8, w8, q8⟩ := z8
      refine thnF (tP.run _ s8 σ8 H8 _ I8 q8) fun yes s9 z9 => ?_
      obtain ⟨H9, I9, q9⟩ := z9
      have again : ∀ {s' : Shared} {H' : Hp}, Inv (X.blk sC Hc sc (compEnvC sc (cellsFrom (sC.heap.objs.size + 1) sc.names (cloFrom X.env.cells sc.names [])) sC.heap.objs.size X.env) fp) ([] ++ pinsAt fp s7.heap) σ8 H' s' → W (i + 1) H' → ∃ m, m < lim - i ∧ Wd m s' := fun {s' H'} I' nx => by
        have pinned : ∀ b ∈ fp, ∀ o, s7.heap.get? b = some o → s'.heap.get? b = some o ∧ H' b = none := fun b m o e => by
          obtain ⟨z1, z2, _⟩ := I'.pin (b, o) (List.mem_append_right _ (List.mem_append_right _ (mem_pinsAt m e)))
          exact ⟨z1, z2⟩
        have same : (wipe σ (own.map (·.2))).length = σ8.length := (congrArg List.length w8).symm.trans (wipe_length _ _)
        refine ⟨lim - (i + 1), by omega, i + 1, H', rfl, (I'.unpinned (pins := [])).weak same (fun j v e => (wipe_some (w8 ▸ e)).1), T.keep _ _ _ st7 fun b m o e => (pinned b m o e).1, fun b m => ?_, nx⟩
        obtain ⟨o, e, _⟩ := T.obj _ _ st7 b m
        exact (pinned b m o e).2
      cases yes with
      | false => exact again I9 q9
      | true =>
        refine thnF (kP.run _ s9 σ8 H9 _ I9 q9) fun kv s10 z10 => ?_
        obtain ⟨y, H10, I10, r10, q10⟩ := z10
        refine thnF (vP.run _ s10 σ8 H10 _ I10 q10) fun vv s11 z11 => ?_
        obtain ⟨v, H11, I11, r11, kvs, k, b, dd, rfl, hb, hk, dep, hD, sz, nx⟩ := z11
        obtain rfl : kv = Value.ref b := r10
        exact nd_put (X := X.blk sC Hc sc _ fp) hu I11 hD hb hk dep sz r11 fun s12 I12 => again I12 nx
  rw [← eE]
  exact codeAny_compStart_dict loop (T.self X.A 0 _ _ _ stE loop)

theorem ps_setDcN {i : Nat} {y : Str} {py spos : Pos} {kx vx tg iter : Expr} {ifs : List Expr} {sc : Scope} {own : List (Str × Nat)} {pos : Pos} {wi : TI} {g : TG} {tt : TT} {tk tv : TE} (calm : X.calm = true) (nd : X.N.Nodup) (hu : X.A.units + 64 < cLine) (over : PI X tg iter wi) (blk : BlkOk X.N X.env.scope sc own)
    (pgG : ∀ (s : Shared) (H : Hp) (C : Addr) (cl : List (Str × Addr)) (fp : List Addr), PG (X.blk s H sc (compEnvC sc cl C X.env) fp) tg g)
    (ptG : ∀ (s : Shared) (H : Hp) (C : Addr) (cl : List (Str × Addr)) (fp : List Addr), PTs (X.blk s H sc (compEnvC sc cl C X.env) fp) ifs tt)
    (pkG : ∀ (s : Shared) (H : Hp) (C : Addr) (cl : List (Str × Addr)) (fp : List Addr), PE (X.blk s H sc (compEnvC sc cl C X.env) fp) kx tk)
    (pvG : ∀ (s : Shared) (H : Hp) (C : Addr) (cl : List (Str × Addr)) (fp : List Addr), PE (X.blk s H sc (compEnvC sc cl C X.env) fp) vx tv)
    (hy : X.N[i]? = some y) (hyl : X.env.scope.names.lookup y = some .local) (hsw : swapsWith (.DictComp kx vx [⟨tg, iter, ifs, 0⟩] sc pos) (some (.Name y py)) spos.line X.env = pure true)
    (plain : ∀ x, foldedSetIterable iter X.env x = pure x := by intro _; rfl) : PS X (.Assign [.Name y py] (.DictComp kx vx [⟨tg, iter, ifs, 0⟩] sc pos) spos) (tAsg (tDcN X.prog X.w X.K wi g tt tk tv (own.map (·.2))) (gName i)) := by
  refine ⟨fun pins s σ H D I h => ?_⟩
  rw [exec_Assign_Name_used _ _ _ _ hsw]
  refine wpAny_bind (wpAny_standAt (wpAny_bind ?_))
  show wpAny _ X.A (do let _ ← comprehension (.DictComp kx vx [⟨tg, iter, ifs, 0⟩] sc pos) sc X.env (firstIterPos [⟨tg, iter, ifs, 0⟩] pos) newDict false (eval iter X.env) (some (assign (.Name y py) X.env))) _ _ s
  have h : tDcN X.prog X.w X.K wi g tt tk tv (own.map (·.2)) σ H (fun x H1 => gName i x σ H1 D.nx) := h
  refine wpAny_bind (thn (dcN_core (Qf := fun _ s' => SP X pins D .next s') calm nd hu over blk pgG ptG pkG pvG plain I h fun L C s' m H' I' q hn f => ?_) fun _ s' hq => wpAny_pure (wpAny_pure hq))
  show wpAny _ _ (assign (.Name y py) X.env (.ref L)) _ _ _
  refine wpAny_assign_Name (store_ok2 (v := V.ref L) I' nd hy (.inl hyl) rfl (fun s2 I2 ⟨a, sb, ha⟩ => ?_) (.inr hyl))
  obtain ⟨f0, f1, f2, f3, f4, f5⟩ := f
  have haC : C ≠ a := by
    rcases ha with z | z
    · rw [z]; exact f1
    · exact fun e => f4 y a z e.symm
  refine ⟨m, hn.sameBut sb haC, fun h3 sb3 => ?_⟩
  exact ⟨_, H', I2.turned (t' := s2.toks) (fun b o hb e => (sb3.2 b hb).trans e) f0 f1 f3 f4 f5, q⟩
theorem swDc_true {kx vx : Expr} {gs : List Comprehension} {scope : Scope} {pos py : Pos} {y : Str} {l : Nat} {env : Env} (hk : env.scope.kind = .function) (hy : env.scope.names.lookup y = some .local) (hl : (py.line == pos.line) = true)
    (ha : (scope.names.any fun (n, k) => n == y && (k == .local || k == .cell)) = false) : swapsWith (.DictComp kx vx gs scope pos) (some (.Name y py)) l env = pure true := by
  have ky : env.kindOf y = some .local := hy
  have hb : env.blockKind = .function := by unfold Env.blockKind; rw [hk]; rfl
  unfold swapsWith
  simp only [hb, ky, ha, Expr.pos, hl]
  rfl
end
end DL
set_option Elab.async false
set_option linter.all false
set_option maxRecDepth 100000
set_option maxHeartbeats 4000000
/-! methods of dicts with keys of any depth; walks of lists while dicts and lists change -/
namespace DL
open PySem PySem.Spec PyProof.Rows L2 Evl
/-- d.m(..), d such a dict -/
def tBMN (P : Program) (w : World) (K : PySem.W.Frag) (r : V → List V → Hp → VK → Prop) (to : TE) (t : TA) : TE := fun σ H Q => to σ H fun x H1 => (∃ d kvs, x = .ref d ∧ Nd P w K H1 d kvs) ∧ t σ H1 fun xs H2 => r x xs H2 Q
section
variable {X : Cx} {o e : Expr} {es : List Expr} {to : TE} {t : TA} {name : Str} {apos cpos : Pos} {id : String} {r : V → List V → Hp → VK → Prop}
theorem pe_bmN (pa : PlainAttrs "dict") (slot : Slot "dict" name id) (hty : typeOf (.builtin id) = pure (.type "method_descriptor")) (hm : MtR X id r) (ho : PE X o to) (ha : PA X (e :: es) t)
    (hbase : attributeBase o name X.env (eval o X.env) = eval o X.env := by rfl)
    (hfew : ((backTo cpos (starEach (e :: es) X.env)).all (fun x => !x.1) && (backToKw cpos (keywordEach [] X.env)).all (fun x => x.1.isSome)
      && decide ((e :: es).length + ([] : List Keyword).length + (if ([] : List Keyword).isEmpty then 0 else 1) < 30)) = true := by rfl)
    (hline : (apos.endLine == cpos.line) = true := by rfl) (hs : starEach (e :: es) X.env = (false, eval e X.env) :: starEach es X.env := by rfl) (hplain : (backTo cpos (starEach es X.env)).any (·.1) = false := by rfl) :
    PE X (.Call (.Attribute o name apos) (e :: es) [] cpos) (tBMN X.prog X.w X.K r to t) := by
  refine ⟨fun pins s σ H Q I h => ?_⟩
  refine wpAny_Call_method_late hbase hfew hline rfl (thn (ho.run pins s σ H _ I h) fun v s1 z1 => ?_)
  obtain ⟨x, H1, I1, r1, ⟨d, kvs, rfl, N⟩, q1⟩ := z1
  obtain rfl : v = Value.ref d := r1
  obtain ⟨_, _, xs, rel, dd⟩ := nd_open I1 N
  obtain ⟨ob, esD, ep, hob, ex, _⟩ := _root_.id dd
  refine ⟨"dict", id, pa, slot, hty, dd.typeIs, fun a e2 => by cases e2; exact ⟨ob, hob, ex.2.1⟩, ?_⟩
  have hA := ha.run cpos pins s1 σ H1 _ I1 q1
  rw [hs] at hA ⊢
  refine Calls.callWith_builtin (by show (false || (backTo cpos (starEach es X.env)).any (·.1)) = false; rw [hplain] <;> rfl) (Calls.evalArgs_plain ?_)
  exact thn hA fun us s2 ⟨vs, H2, I2, r2, q2⟩ => hm pins s2 σ H2 (.ref d) vs (.ref d) us Q I2 rfl r2 q2
end
/-- a list is walked while things that are no tuples change -/
theorem ei_lstN {K : PySem.W.Frag} {σ : L2.St} {H : Hp} {te : TE} {ds : List PyData} {S : List Addr} (hS : NT H S) (h : ∀ H1, Ex H H1 → ∀ Q : VK, (∀ q vs H2, Ex H1 H2 → H2 q = some (.lst vs) → q ∉ S → DpAll K H2 vs ds → Q (.ref q) H2) → te σ H1 Q) (hi : immAll ds = true) : EvI K (iList K te) σ H S ds := fun H1 e R r =>
  h H1 e _ fun q vs H2 e2 h2 hn hd => by
    refine ⟨q, rfl, ⟨vs, sq_of h2⟩, r _ H2 e2 ?_⟩
    have N2 := hS.ex (e.trans e2)
    rw [← dpa_len hd]
    refine walk_list.mono (fun Ha x => sq_of (x q _ h2 hn)) fun i Ha x Hb hlt hg y => ?_
    obtain ⟨rfl, hx⟩ := y
    obtain ⟨d, hd1, hd2⟩ := dpa_getV (dpa_tx (hg.txN N2) _ _ hi hd) hx
    exact ⟨Ex.refl _, d, hd1, hd2⟩
theorem NT.lst {H : Hp} {l : Addr} {xs : List V} (h : H l = some (.lst xs)) : NT H [l] := fun p hp => by
  obtain rfl : p = l := by simpa using hp
  exact ⟨_, h, (fun _ z => nomatch z), fun _ _ z => nomatch z⟩
theorem NT.app {H : Hp} {S T : List Addr} (h1 : NT H S) (h2 : NT H T) : NT H (S ++ T) := fun p hp => (List.mem_append.mp hp).elim (h1 p) (h2 p)
theorem NT.nil (H : Hp) : NT H [] := fun p hp => by cases hp
end DL
set_option Elab.async false
set_option linter.all false
set_option maxRecDepth 100000
set_option maxHeartbeats 4000000
namespace K16
open PySem PySem.Spec PyProof.Rows L2 Evl DL LamX
local macro_rules | `(tactic| walk_at "dl") => `(tactic| first
  | exact ev_c | exact ev_var rfl | exact eda_nil
  | exact ed_var rfl (by assumption)
  | exact ed_int ev_c | exact ed_int (ev_var rfl)
  | (refine eda_cons ?_ ?_ <;> walk_at "dl")
  | (refine ed_int ?_; walk_at "dl")
  | (refine ev_op ?_ ?_ rv_I0 <;> walk_at "dl"))

abbrev Pin := Int × Int
def kP (p : Pin) : NestedKey := .tup [.num p.1, .num p.2]
theorem key_pD (p : Pin) : keyD (pD p) = some (kP p) := by simp [pD, keyD, keyDs, kP]
theorem kP_inj {p q : Pin} (h : kP p = kP q) : p = q := by
  obtain ⟨a, b⟩ := p
  obtain ⟨c, d⟩ := q
  simpa [kP] using h
theorem kP_map {l m : List Pin} (h : l.map kP = m.map kP) : l = m := (List.map_inj_right fun _ _ e => kP_inj e).mp h
theorem dep_p (p : Pin) : (kP p).depth ≤ 8 := by simp [kP, NestedKey.depth, NestedKey.depthAll]
theorem imm_pin (p : Pin) : imm (pD p) = true := by simp [pD, imm, immAll]
theorem imm_pins (l : List Pin) : immAll (l.map pD) = true := immAll_map imm_pin l
theorem pin_ref {K : PySem.W.Frag} {H : Hp} {v : V} {p : Pin} (h : Dp K H v (pD p)) : ∃ b, v = .ref b := by
  cases h with
  | tup _ _ => exact ⟨_, rfl⟩
def addP (pk : List Pin) (p : Pin) : List Pin := if p ∈ pk then pk else pk ++ [p]
theorem mem_addP {pk : List Pin} {p q : Pin} : q ∈ addP pk p ↔ q ∈ pk ∨ q = p := by
  unfold addP
  split
  · rename_i h
    exact ⟨.inl, fun z => z.elim id fun e => e ▸ h⟩
  · simp
theorem addP_len (pk : List Pin) (p : Pin) : (addP pk p).length ≤ pk.length + 1 := by
  unfold addP
  split <;> simp
section
variable {P : Program} {w : World} {K : PySem.W.Frag} {H H' : Hp} {D : Addr} {kvs : List (NestedKey × Addr × V)} {pk : List Pin}
/-- a dict at D whose keys are the pins pk -/
structure Pk (P : Program) (w : World) (K : PySem.W.Frag) (H : Hp) (D : Addr) (kvs : List (NestedKey × Addr × V)) (pk : List Pin) : Prop where
  at_ : H D = some (NdO P w D kvs)
  keys : kvs.map (·.1) = pk.map kP
  dat : DpAll K H (kvs.map fun x => V.ref x.2.1) (pk.map pD)
  one : pk.Nodup
theorem dat_mem : ∀ {kvs : List (NestedKey × Addr × V)} {pk : List Pin}, kvs.map (·.1) = pk.map kP → DpAll K H (kvs.map fun x => V.ref x.2.1) (pk.map pD) → ∀ x ∈ kvs, ∃ p ∈ pk, x.1 = kP p ∧ Dp K H (.ref x.2.1) (pD p)
  | [], _, _, _, x, hx => by cases hx
  | y :: kvs, [], h, _, x, _ => by cases h
  | y :: kvs, p :: pk, h, d, x, hx => by
    rw [List.map_cons, List.map_cons] at h d
    cases d with
    | cons d1 d2 =>
      rw [List.cons.injEq] at h
      rcases List.mem_cons.mp hx with rfl | hx
      · exact ⟨p, List.mem_cons_self, h.1, d1⟩
      · obtain ⟨q, hq, e⟩ := dat_mem h.2 d2 x hx
        exact ⟨q, List.mem_cons_of_mem _ hq, e⟩
theorem Pk.nd (h : Pk P w K H D kvs pk) : Nd P w K H D kvs := ⟨h.at_, fun x hx => by
  obtain ⟨p, _, e, d⟩ := dat_mem h.keys h.dat x hx
  exact ⟨pD p, d, imm_pin p, e ▸ key_pD p, e ▸ dep_p p⟩⟩
theorem Pk.len (h : Pk P w K H D kvs pk) : kvs.length = pk.length := by simpa using congrArg List.length h.keys
theorem Pk.has (h : Pk P w K H D kvs pk) (p : Pin) : hasN kvs (kP p) = decide (p ∈ pk) := by
  have e : hasN kvs (kP p) = (kvs.map (·.1)).any fun k => decide (k = kP p) := by unfold hasN; rw [List.any_map]; rfl
  rw [e, h.keys, List.any_map, Bool.eq_iff_iff, List.any_eq_true, decide_eq_true_iff]
  exact ⟨fun ⟨q, hq, z⟩ => kP_inj (of_decide_eq_true z) ▸ hq, fun hp => ⟨p, hp, decide_eq_true rfl⟩⟩
theorem Pk.tx (h : Pk P w K H D kvs pk) (t : Tx H H') (e : H' D = some (NdO P w D kvs)) : Pk P w K H' D kvs pk := ⟨e, h.keys, dpa_tx t _ _ (imm_pins pk) h.dat, h.one⟩
theorem Pk.ex (h : Pk P w K H D kvs pk) (e : Ex H H') : Pk P w K H' D kvs pk := h.tx (Tx.of_ex e) (e _ _ h.at_)
theorem Pk.put {p : Pin} {b : Addr} {v : V} (h : Pk P w K H D kvs pk) (hb : Dp K H (.ref b) (pD p)) : Pk P w K (upd H D (NdO P w D (putN kvs (kP p) b v))) D (putN kvs (kP p) b v) (addP pk p) := by
  have t := tx_nd (u := NdO P w D (putN kvs (kP p) b v)) h.at_
  have hh := h.has p
  unfold addP
  unfold putN at t ⊢
  by_cases hp : p ∈ pk
  · rw [decide_eq_true hp] at hh
    rw [if_pos hh] at t ⊢
    rw [if_pos hp]
    refine ⟨upd_same, ?_, ?_, h.one⟩
    · rw [List.map_map]
      refine Eq.trans (List.map_congr_left fun x _ => ?_) h.keys
      dsimp only [Function.comp]
      split <;> rfl
    · rw [List.map_map]
      have e : (kvs.map ((fun x : NestedKey × Addr × V => V.ref x.2.1) ∘ fun x => if x.1 = kP p then (x.1, x.2.1, v) else x)) = kvs.map fun x => V.ref x.2.1 := List.map_congr_left fun x _ => by
        dsimp only [Function.comp]
        split <;> rfl
      rw [e]
      exact dpa_tx t _ _ (imm_pins pk) h.dat
  · rw [decide_eq_false hp] at hh
    rw [if_neg (by rw [hh]; exact Bool.noConfusion)] at t ⊢
    rw [if_neg hp]
    refine ⟨upd_same, by rw [List.map_append, List.map_append, h.keys]; rfl, ?_, ?_⟩
    · rw [List.map_append, List.map_append]
      exact dpa_app (dpa_tx t _ _ (imm_pins pk) h.dat) (.cons (dp_tx t _ _ (imm_pin p) hb) .nil)
    · exact List.nodup_append.mpr ⟨h.one, List.pairwise_singleton _ _, fun a ha b hb' e => by
        rw [List.mem_singleton] at hb'
        exact hp (hb' ▸ e ▸ ha)⟩
/-- near: each pin's list, the lists laid since H0 -/
structure Nr (P : Program) (w : World) (K : PySem.W.Frag) (H0 H : Hp) (D : Addr) (kvs : List (NestedKey × Addr × V)) (A : Pin → Addr) (pk : List Pin) (nb : Pin → List Pin) : Prop where
  dct : Pk P w K H D kvs pk
  get : ∀ p ∈ pk, getN kvs (kP p) = some (.ref (A p))
  lst : ∀ p ∈ pk, ∃ vs, H (A p) = some (.lst vs) ∧ DpAll K H vs ((nb p).map pD)
  apart : ∀ p ∈ pk, ∀ q ∈ pk, A p = A q → p = q
  new : ∀ p ∈ pk, H0 (A p) = none
theorem Nr.ex {H0 : Hp} {A : Pin → Addr} {nb : Pin → List Pin} (h : Nr P w K H0 H D kvs A pk nb) (e : Ex H H') : Nr P w K H0 H' D kvs A pk nb :=
  ⟨h.dct.ex e, h.get, fun p hp => by
    obtain ⟨vs, h1, h2⟩ := h.lst p hp
    exact ⟨vs, e _ _ h1, dpa_ex e _ _ h2⟩, h.apart, h.new⟩
def pushB (nb : Pin → List Pin) (p q : Pin) : Pin → List Pin := fun r => if r = p then nb p ++ [q] else nb r
variable {σ : L2.St} {tz : TS} {DD : Ends}
/-- near.setdefault(p, []).append(q) -/
theorem q_link {H0 : Hp} {A : Pin → Addr} {nb : Pin → List Pin} {i j k : Nat} {p q : Pin} {v u : V} (N : Nr P w K H0 H D kvs A pk nb) (x0 : ∀ a o, H0 a = some o → ∃ o', H a = some o') (h0 : H0 D ≠ none ∨ True) (hk : σ[k]? = some (some (.ref D))) (hi : σ[i]? = some (some v)) (hj : σ[j]? = some (some u)) (hv : Dp K H v (pD p)) (hu : Dp K H u (pD q)) (few : pk.length ≤ 2000) (fb : (nb p).length ≤ 2000) (e0 : p ∉ pk → nb p = [])
    (go : ∀ kvs' A' H', Nr P w K H0 H' D kvs' A' (addP pk p) (pushB nb p q) → (∀ a o, H0 a = some o → a ≠ D → H a = some o → H' a = some o) → (∀ a o, H a = some o → ∃ o', H' a = some o') → Tx H H' → tz DD σ H') :
    tSeq (tDrop (tBM K "list" rAppend (tBMN P w K (rSetdN P w K) (tVar k) (tCons (tVar i) (tCons (tLst tNil) tNil))) (tCons (tVar j) tNil))) tz DD σ H := by
  obtain ⟨b, rfl⟩ := pin_ref hv
  refine ⟨_, hk, ⟨D, kvs, rfl, N.dct.nd⟩, ?_⟩
  refine ⟨_, hi, ?_⟩
  refine ⟨by show 0 ≤ sizeLine; decide, fun L hL => ?_⟩
  have eL : Ex H (upd H L (.lst [])) := Ex.new hL
  generalize hH1 : upd H L (.lst []) = H1 at *
  have atL : H1 L = some (.lst []) := by rw [← hH1]; exact upd_same
  have N1 := N.ex eL
  have lk := N.dct.len
  refine ⟨D, kvs, kP p, b, .ref L, pD p, rfl, rfl, dp_ex eL _ _ hv, key_pD p, dep_p p, N1.dct.nd, sz_lt (by omega), fun z hz => ?_, fun hz => ?_⟩
  · have hp : p ∈ pk := by
      have := N.dct.has p
      rw [hasN_get, hz] at this
      exact of_decide_eq_true this.symm
    rw [N.get p hp] at hz
    cases hz
    obtain ⟨vs, g1, g2⟩ := N1.lst p hp
    refine ⟨.inl ⟨rfl, vs, sq_of g1⟩, _, hj, ?_⟩
    have lv := dpa_len g2
    rw [List.length_map] at lv
    refine ⟨A p, vs, u, rfl, rfl, g1, sz_lt (by omega), ?_⟩
    have t : Tx H1 (upd H1 (A p) (.lst (vs ++ [u]))) := Tx.lst g1
    have nD : A p ≠ D := fun z => by
      have := N1.dct.at_
      rw [← z, g1] at this
      cases this
    have ap : addP pk p = pk := by unfold addP; rw [if_pos hp]
    refine go kvs A _ (ap.symm ▸ ⟨N1.dct.tx t (by rw [upd_ne (Ne.symm nD)]; exact N1.dct.at_), N1.get, fun r hr => ?_, N1.apart, N1.new⟩) (fun a o h1 h2 h3 => ?_) (fun a o h3 => ?_) ((Tx.of_ex eL).trans t)
    · by_cases e : r = p
      · subst e
        refine ⟨_, upd_same, ?_⟩
        unfold pushB
        rw [if_pos rfl, List.map_append]
        exact dpa_app (dpa_tx t _ _ (imm_pins _) g2) (.cons (dp_tx t _ _ (imm_pin q) (dp_ex eL _ _ hu)) .nil)
      · obtain ⟨ws, g3, g4⟩ := N1.lst r hr
        have nA : A r ≠ A p := fun z => e (N.apart r hr p hp z)
        refine ⟨ws, by rw [upd_ne nA]; exact g3, ?_⟩
        unfold pushB
        rw [if_neg e]
        exact dpa_tx t _ _ (imm_pins _) g4
    · have : a ≠ A p := fun z => by
        rw [z, N.new p hp] at h1
        cases h1
      rw [upd_ne this]
      exact eL _ _ h3
    · by_cases z : a = A p
      · exact ⟨_, by rw [z]; exact upd_same⟩
      · exact ⟨o, by rw [upd_ne z]; exact eL _ _ h3⟩
  · have hp : p ∉ pk := fun z => by
      rw [N.get p z] at hz
      cases hz
    have np := e0 hp
    have hP := N1.dct.put (v := .ref L) (dp_ex eL _ _ hv)
    have nLD : L ≠ D := fun z => by
      rw [z, N.dct.at_] at hL
      cases hL
    have t1 := tx_nd (u := NdO P w D (putN kvs (kP p) b (.ref L))) N1.dct.at_
    generalize hH2 : upd H1 D (NdO P w D (putN kvs (kP p) b (.ref L))) = H2 at *
    have atL2 : H2 L = some (.lst []) := by rw [← hH2, upd_ne nLD]; exact atL
    refine ⟨.inl ⟨rfl, [], sq_of atL2⟩, _, hj, ?_⟩
    refine ⟨L, [], u, rfl, rfl, atL2, by show 0 < sizeLine; decide, ?_⟩
    have t2 : Tx H2 (upd H2 L (.lst ([] ++ [u]))) := Tx.lst atL2
    have nw : ∀ a o, H a = some o → a ≠ L := fun a o h z => by
      rw [z, hL] at h
      cases h
    have ap : addP pk p = pk ++ [p] := by unfold addP; rw [if_neg hp]
    have nA : ∀ r ∈ pk, A r ≠ L := fun r hr z => by
      obtain ⟨ws, g3, _⟩ := N.lst r hr
      exact nw _ _ g3 z
    refine go (putN kvs (kP p) b (.ref L)) (fun r => if r = p then L else A r) _ ⟨hP.tx t2 (by rw [upd_ne (Ne.symm nLD)]; exact hP.at_), fun r hr => ?_, fun r hr => ?_, fun r hr r' hr' z => ?_, fun r hr => ?_⟩ (fun a o h1 h2 h3 => ?_) (fun a o h3 => ?_) (((Tx.of_ex eL).trans t1).trans t2)
    · rw [getN_put]
      by_cases e : r = p
      · rw [if_pos (by rw [e]), if_pos e]
      · rw [if_neg (fun z => e (kP_inj z)), if_neg e]
        exact N.get r ((mem_addP.mp hr).resolve_right e)
    · by_cases e : r = p
      · subst e
        rw [if_pos rfl]
        refine ⟨_, upd_same, ?_⟩
        unfold pushB
        rw [if_pos rfl, np]
        exact .cons (dp_tx (t1.trans t2) _ _ (imm_pin q) (dp_ex eL _ _ hu)) .nil
      · have hr := (mem_addP.mp hr).resolve_right e
        rw [if_neg e]
        obtain ⟨ws, g3, g4⟩ := N1.lst r hr
        refine ⟨ws, by rw [upd_ne (nA r hr), ← hH2, upd_ne (fun z => by rw [z, N1.dct.at_] at g3; cases g3)]; exact g3, ?_⟩
        unfold pushB
        rw [if_neg e]
        exact dpa_tx (t1.trans t2) _ _ (imm_pins _) g4
    · by_cases e : r = p
      · by_cases e' : r' = p
        · rw [e, e']
        · rw [if_pos e, if_neg e'] at z
          exact absurd z.symm (nA r' ((mem_addP.mp hr').resolve_right e'))
      · by_cases e' : r' = p
        · rw [if_neg e, if_pos e'] at z
          exact absurd z (nA r ((mem_addP.mp hr).resolve_right e))
        · rw [if_neg e, if_neg e'] at z
          exact N.apart r ((mem_addP.mp hr).resolve_right e) r' ((mem_addP.mp hr').resolve_right e') z
    · by_cases e : r = p
      · rw [if_pos e]
        cases hz0 : H0 L with
        | none => rfl
        | some o =>
          obtain ⟨o', z⟩ := x0 L o hz0
          rw [hL] at z
          cases z
      · rw [if_neg e]
        exact N.new r ((mem_addP.mp hr).resolve_right e)
    · rw [upd_ne (nw _ _ h3), ← hH2, upd_ne h2]
      exact eL _ _ h3
    · by_cases z : a = D
      · refine ⟨NdO P w D (putN kvs (kP p) b (.ref L)), ?_⟩
        rw [z, upd_ne (Ne.symm nLD)]
        exact hP.at_
      · exact ⟨o, by rw [upd_ne (nw _ _ h3), ← hH2, upd_ne z]; exact eL _ _ h3⟩
end
end K16
set_option Elab.async false
set_option linter.all false
set_option maxRecDepth 100000
set_option maxHeartbeats 4000000
namespace K16
open PySem PySem.Spec PyProof.Rows L2 Evl DL LamX
local macro_rules | `(tactic| walk_at "dl") => `(tactic| first
  | exact ev_c | exact ev_var rfl | exact eda_nil
  | exact ed_var rfl (by assumption)
  | exact ed_int ev_c | exact ed_int (ev_var rfl)
  | (refine eda_cons ?_ ?_ <;> walk_at "dl")
  | (refine ed_int ?_; walk_at "dl")
  | (refine ev_op ?_ ?_ rv_I0 <;> walk_at "dl"))

def pkStep (pk : List Pin) (u : Sw) : List Pin := addP (addP pk u.1) u.2
def nbStep (nb : Pin → List Pin) (u : Sw) : Pin → List Pin := pushB (pushB nb u.1 u.2) u.2 u.1
def pks (ws : List Sw) : List Pin := ws.foldl pkStep []
def nbs (ws : List Sw) : Pin → List Pin := ws.foldl nbStep fun _ => []
theorem pks_mem : ∀ (ws : List Sw) (pk : List Pin) (p : Pin), p ∈ ws.foldl pkStep pk ↔ p ∈ pk ∨ ∃ u ∈ ws, u.1 = p ∨ u.2 = p
  | [], pk, p => by simp
  | u :: ws, pk, p => by
    rw [List.foldl_cons, pks_mem ws]
    simp only [pkStep, mem_addP, List.mem_cons, exists_eq_or_imp]
    constructor
    · rintro (((h | h) | h) | h)
      · exact .inl h
      · exact .inr (.inl (.inl h.symm))
      · exact .inr (.inl (.inr h.symm))
      · exact .inr (.inr h)
    · rintro (h | ((h | h) | h))
      · exact .inl (.inl (.inl h))
      · exact .inl (.inl (.inr h.symm))
      · exact .inl (.inr h.symm)
      · exact .inr h
theorem mem_pks {ws : List Sw} {p : Pin} : p ∈ pks ws ↔ ∃ u ∈ ws, u.1 = p ∨ u.2 = p := by
  unfold pks
  rw [pks_mem]
  simp
theorem pks_len : ∀ (ws : List Sw) (pk : List Pin), (ws.foldl pkStep pk).length ≤ pk.length + 2 * ws.length
  | [], pk => by simp
  | u :: ws, pk => by
    have h1 := pks_len ws (pkStep pk u)
    have h2 := addP_len pk u.1
    have h3 := addP_len (addP pk u.1) u.2
    rw [List.foldl_cons, List.length_cons]
    unfold pkStep at h1 ⊢
    omega
theorem push_mem {nb : Pin → List Pin} {p q r x : Pin} : x ∈ pushB nb p q r ↔ x ∈ nb r ∨ (r = p ∧ x = q) := by
  unfold pushB
  by_cases h : r = p
  · subst h
    rw [if_pos rfl]
    simp
  · rw [if_neg h]
    simp [h]
theorem nbs_mem : ∀ (ws : List Sw) (nb : Pin → List Pin) (p q : Pin), q ∈ ws.foldl nbStep nb p ↔ q ∈ nb p ∨ ∃ u ∈ ws, (u.1 = p ∧ u.2 = q) ∨ (u.2 = p ∧ u.1 = q)
  | [], nb, p, q => by simp
  | u :: ws, nb, p, q => by
    rw [List.foldl_cons, nbs_mem ws]
    simp only [nbStep, push_mem, List.mem_cons, exists_eq_or_imp]
    constructor
    · rintro (((h | ⟨h, h'⟩) | ⟨h, h'⟩) | h)
      · exact .inl h
      · exact .inr (.inl (.inl ⟨h.symm, h'.symm⟩))
      · exact .inr (.inl (.inr ⟨h.symm, h'.symm⟩))
      · exact .inr (.inr h)
    · rintro (h | ((⟨h, h'⟩ | ⟨h, h'⟩) | h))
      · exact .inl (.inl (.inl h))
      · exact .inl (.inl (.inr ⟨h.symm, h'.symm⟩))
      · exact .inl (.inr ⟨h.symm, h'.symm⟩)
      · exact .inr h
/-- two pins that a switch joins -/
def adj (ws : List Sw) (p q : Pin) : Prop := ∃ u ∈ ws, (u.1 = p ∧ u.2 = q) ∨ (u.2 = p ∧ u.1 = q)
theorem mem_nbs {ws : List Sw} {p q : Pin} : q ∈ nbs ws p ↔ adj ws p q := by
  unfold nbs adj
  rw [nbs_mem]
  simp
theorem push_len (nb : Pin → List Pin) (p q r : Pin) : (pushB nb p q r).length ≤ (nb r).length + 1 := by
  unfold pushB
  split
  · rename_i h
    subst h
    simp
  · omega
theorem nbs_len : ∀ (ws : List Sw) (nb : Pin → List Pin) (p : Pin), (ws.foldl nbStep nb p).length ≤ (nb p).length + 2 * ws.length
  | [], nb, p => by simp
  | u :: ws, nb, p => by
    have h1 := nbs_len ws (nbStep nb u) p
    have h2 := push_len nb u.1 u.2 p
    have h3 := push_len (pushB nb u.1 u.2) u.2 u.1 p
    rw [List.foldl_cons, List.length_cons]
    unfold nbStep at h1 ⊢
    omega
theorem pks_one : ∀ (ws : List Sw) (pk : List Pin), pk.Nodup → (ws.foldl pkStep pk).Nodup
  | [], _, h => h
  | u :: ws, pk, h => by
    have ad : ∀ (pk : List Pin) (p : Pin), pk.Nodup → (addP pk p).Nodup := fun pk p h => by
      unfold addP
      split
      · exact h
      · rename_i hp
        exact List.nodup_append.mpr ⟨h, List.pairwise_singleton _ _, fun a ha b hb' e => by
          rw [List.mem_singleton] at hb'
          exact hp (hb' ▸ e ▸ ha)⟩
    rw [List.foldl_cons]
    exact pks_one ws _ (ad _ _ (ad _ _ h))
theorem nb_off {nb : Pin → List Pin} {pk : List Pin} {p q : Pin} (h : ∀ r, r ∉ pk → nb r = []) : ∀ r, r ∉ addP pk p → pushB nb p q r = [] := fun r hr => by
  have h1 : r ∉ pk := fun z => hr (mem_addP.mpr (.inl z))
  have h2 : r ≠ p := fun z => hr (mem_addP.mpr (.inr z))
  unfold pushB
  rw [if_neg h2]
  exact h r h1
theorem nbs_off : ∀ (ws : List Sw) (pk : List Pin) (nb : Pin → List Pin), (∀ r, r ∉ pk → nb r = []) → ∀ r, r ∉ ws.foldl pkStep pk → ws.foldl nbStep nb r = []
  | [], _, _, h => h
  | u :: ws, pk, nb, h => by
    rw [List.foldl_cons, List.foldl_cons]
    exact nbs_off ws _ _ (nb_off (nb_off h))
section
variable {P : Program} {w : World} {K : PySem.W.Frag} {mg : Str → Option Value} {base : Heap}
variable {CB CT CW C CX CO CG : Addr}
theorem q_newN {σ : L2.St} {H : Hp} {tz : TS} {DD : Ends} {i : Nat} (q : ∀ D, H D = none → tz DD (σ.set i (some (.ref D))) (upd H D (NdO P w D []))) : tSeq (tAsg (tDNewN P w) (gName i)) tz DD σ H := fun D hD => q D hD
theorem s_link {σ : L2.St} {DD : Ends} {H : Hp} {D : Addr} {kvs : List (NestedKey × Addr × V)} {pk : List Pin} {H0 : Hp} {A : Pin → Addr} {nb : Pin → List Pin} {i j k : Nat} {p q : Pin} {v u : V} (N : Nr P w K H0 H D kvs A pk nb) (x0 : ∀ a o, H0 a = some o → ∃ o', H a = some o') (h0 : H0 D ≠ none ∨ True) (hk : σ[k]? = some (some (.ref D))) (hi : σ[i]? = some (some v)) (hj : σ[j]? = some (some u)) (hv : Dp K H v (pD p)) (hu : Dp K H u (pD q)) (few : pk.length ≤ 2000) (fb : (nb p).length ≤ 2000) (e0 : p ∉ pk → nb p = [])
    (go : ∀ kvs' A' H', Nr P w K H0 H' D kvs' A' (addP pk p) (pushB nb p q) → (∀ a o, H0 a = some o → a ≠ D → H a = some o → H' a = some o) → (∀ a o, H a = some o → ∃ o', H' a = some o') → Tx H H' → DD.nx σ H') :
    tDrop (tBM K "list" rAppend (tBMN P w K (rSetdN P w K) (tVar k) (tCons (tVar i) (tCons (tLst tNil) tNil))) (tCons (tVar j) tNil)) DD σ H :=
  q_link (tz := fun D' => D'.nx) N x0 h0 hk hi hj hv hu few fb e0 go

def spNear (P : Program) (w : World) (K : PySem.W.Frag) (C : Addr) : Sp := fun vs H Q _ => ∃ a s t ws, vs = [.ref a] ∧ BxAt P w K C H a s t ws ∧ ws.length ≤ 400 ∧
  ∀ D kvs A H', H D = none → Ex H H' → Nr P w K H H' D kvs A (pks ws) (nbs ws) → Q (.ref D) H'
abbrev s_joined_pins : Stmt := topS 33
abbrev N_joined_pins : List Str := ["box", "near", "low", "high"]
theorem sc_joined_pins : FnScope N_joined_pins ["box"] (defScope s_joined_pins) := ⟨rfl, rfl, rfl, by decide +kernel, rfl, by decide +kernel, by decide +kernel⟩
theorem ok_joined_pins {f : Addr} {fd : FuncData} (F : Fun K "joined_pins" "joined_pins" s_joined_pins f fd) (T : Txt mg)
     (B : BoxC K C)  :
    FnOk P w K mg base CX0 1 f fd ["box"] (spNear P w K C) := by
  refine F.ok sc_joined_pins (fun vs H Q E h => by obtain ⟨_, _, _, _, rfl, _⟩ := h; rfl) (fun cdv A outer s H vs Q E hr h => ?_)
  obtain ⟨a, s', t, ws, rfl, ha, few, k⟩ := h
  refine ⟨_, (pss_cons (ps_set (i := 1) sc_joined_pins.nd rfl (.inl rfl) pe_dnewN)
      (pss_cons (ps_for PassesOwn.never rfl (pi_tup (pe_fld (pv 0) rfl)) (pg_tup rfl (pgs_cons (pg_name (i := 2) sc_joined_pins.nd rfl (Or.inl rfl)) (pgs_cons (pg_name (i := 3) sc_joined_pins.nd rfl (Or.inl rfl)) pgs_nil))) (pss_cons (ps_expr (pe_bm PySem.F.plainAttrs_list PySem.F.slot_list_append PySem.F.type_list_append mt_append (pe_bmN PySem.F.plainAttrs_dict PySem.F.slot_dict_setdefault PySem.F.type_dict_setdefault (mt_setdefaultN (hu64 hr)) (pv 1) (pa_cons (pv 2) (pa_cons (pe_lst pa_nil) pa_nil))) (pa_cons (pv 3) pa_nil)))
      (pss_one (ps_expr (pe_bm PySem.F.plainAttrs_list PySem.F.slot_list_append PySem.F.type_list_append mt_append (pe_bmN PySem.F.plainAttrs_dict PySem.F.slot_dict_setdefault PySem.F.type_dict_setdefault (mt_setdefaultN (hu64 hr)) (pv 1) (pa_cons (pv 3) (pa_cons (pe_lst pa_nil) pa_nil))) (pa_cons (pv 2) pa_nil))))))
      (pss_one (ps_ret (pv 1))))), ?_⟩
  refine q_newN (P := P) (w := w) fun D hD => ?_
  have eD : Ex H (upd H D (NdO P w D [])) := Ex.new hD
  have N0 : Nr P w K (upd H D (NdO P w D [])) (upd H D (NdO P w D [])) D [] (fun _ => 0) [] (fun _ => []) := ⟨⟨upd_same, rfl, .nil, .nil⟩, (fun _ z => nomatch z), (fun _ z => nomatch z), (fun _ z => nomatch z), (fun _ z => nomatch z)⟩
  generalize hH1 : upd H D (NdO P w D []) = H1 at *
  have im : immAll (ws.map swD) = true := immAll_map imm_sw ws
  refine e_for (ei_tupN (K := K) (S := [D]) (NT.nd N0.dct.at_) (ed_switches B (i := 0) rfl (ha.ex eD)) im)
    (fun H2 i σ' Ha => Xp [D] H2 Ha ∧ (∀ x o, H2 x = some o → ∃ o', Ha x = some o') ∧ (∃ kvs A, Nr P w K H2 Ha D kvs A (pks (ws.take i)) (nbs (ws.take i))) ∧ ∃ y z, σ' = [some (.ref a), some (.ref D), y, z])
    (fun H2 e2 => ⟨Xp.refl _ _, fun x o hx => ⟨o, hx⟩, ⟨[], fun _ => 0, ⟨N0.dct.ex e2, (fun _ z => nomatch z), (fun _ z => nomatch z), (fun _ z => nomatch z), (fun _ z => nomatch z)⟩⟩, none, none, rfl⟩) (fun H2 i σ' Ha _ p => p.1) ?_ ?_
  · rintro H2 i d x σ' Ha Hb e2 hx ⟨p1, p2, ⟨kvs, A, N⟩, y, z, rfl⟩ e3 hy
    rw [List.getElem?_map] at hx
    obtain ⟨u, hu, rfl⟩ := Option.map_eq_some_iff.mp hx
    have tk : ws.take (i + 1) = ws.take i ++ [u] := by rw [List.take_add_one, hu]; rfl
    have li : (ws.take i).length ≤ 400 := by rw [List.length_take]; omega
    have l1 := pks_len (ws.take i) []
    have l2 := fun p => nbs_len (ws.take i) (fun _ => []) p
    simp only [List.length_nil] at l1 l2
    have off := nbs_off (ws.take i) [] (fun _ => []) fun _ _ => rfl
    have off1 := nb_off (p := u.1) (q := u.2) off
    refine g_two hy fun w1 w2 u1 u2 => ?_
    have Nb := N.ex e3
    refine q_link (i := 2) (j := 3) (k := 1) (p := u.1) (q := u.2) Nb (fun x o hx => by obtain ⟨o', h'⟩ := p2 x o hx; exact ⟨o', e3 _ _ h'⟩) (.inr trivial) rfl rfl rfl u1 u2 (by unfold pks; omega) (by have := l2 u.1; unfold nbs; omega) (fun hp => off _ hp) fun kvs1 A1 H3 N1 x3 a3 t3 => ?_
    have l3 := addP_len (pks (ws.take i)) u.1
    have l4 := push_len (nbs (ws.take i)) u.1 u.2 u.2
    refine s_link (i := 3) (j := 2) (k := 1) (p := u.2) (q := u.1) N1 (fun x o hx => by
        obtain ⟨o', h'⟩ := p2 x o hx
        exact a3 _ _ (e3 _ _ h')) (.inr trivial) rfl rfl rfl (dp_tx t3 _ _ (imm_pin _) u2) (dp_tx t3 _ _ (imm_pin _) u1) (by have : (pks (ws.take i)).length ≤ 800 := by unfold pks; omega
                                                                                                                             omega) (by have := l2 u.2; unfold nbs at l4 ⊢; omega) (fun hp => off1 _ hp) fun kvs2 A2 H4 N2 x4 a4 t4 => ?_
    refine ⟨fun x o hx hn => ?_, fun x o hx => ?_, ⟨kvs2, A2, ?_⟩, _, _, rfl⟩
    · have nd : x ≠ D := by simpa using hn
      exact x4 x o hx nd (x3 x o hx nd (e3 _ _ (p1 x o hx hn)))
    · obtain ⟨o', h'⟩ := p2 x o hx
      obtain ⟨o2, h2⟩ := a3 _ _ (e3 _ _ h')
      exact a4 _ _ h2
    · rw [tk]
      unfold pks nbs
      rw [List.foldl_append, List.foldl_append]
      exact N2
  · rintro H2 σ' Ha e2 ⟨p1, p2, ⟨kvs, A, N⟩, y, z, rfl⟩
    rw [List.length_map, List.take_of_length_le (Nat.le_refl _)] at N
    refine ⟨_, rfl, ?_⟩
    refine k D kvs A Ha hD (fun x o hx => p1 x o (e2 _ _ (eD _ _ hx)) ?_) ⟨N.dct, N.get, N.lst, N.apart, fun p hp => fresh_back (eD.trans e2) (N.new p hp)⟩
    have : x ≠ D := fun z => by
      rw [z, hD] at hx
      cases hx
    simpa using this

end
end K16
set_option Elab.async false
set_option linter.all false
set_option maxRecDepth 100000
set_option maxHeartbeats 4000000
namespace K16
open PySem PySem.Spec PyProof.Rows L2 Evl DL LamX
local macro_rules | `(tactic| walk_at "dl") => `(tactic| first
  | exact ev_c | exact ev_var rfl | exact eda_nil
  | exact ed_var rfl (by assumption)
  | exact ed_int ev_c | exact ed_int (ev_var rfl)
  | (refine eda_cons ?_ ?_ <;> walk_at "dl")
  | (refine ed_int ?_; walk_at "dl")
  | (refine ev_op ?_ ?_ rv_I0 <;> walk_at "dl"))

/-- the pins that switches lead to -/
inductive Rch (ws : List Sw) (p : Pin) : Pin → Prop
  | refl : Rch ws p p
  | step {q r : Pin} (h : Rch ws p q) (a : adj ws q r) : Rch ws p r
theorem adj_symm {ws : List Sw} {p q : Pin} (h : adj ws p q) : adj ws q p := by
  obtain ⟨u, hu, h⟩ := h
  exact ⟨u, hu, h.elim (fun z => .inr ⟨z.2, z.1⟩) fun z => .inl ⟨z.2, z.1⟩⟩
theorem Rch.trans {ws : List Sw} {p q r : Pin} (h : Rch ws p q) (g : Rch ws q r) : Rch ws p r := by
  induction g with
  | refl => exact h
  | step _ a ih => exact .step ih a
theorem Rch.symm {ws : List Sw} {p q : Pin} (h : Rch ws p q) : Rch ws q p := by
  induction h with
  | refl => exact .refl
  | step _ a ih => exact Rch.trans (.step .refl (adj_symm a)) ih
theorem Rch.closed {ws : List Sw} {p q : Pin} {S : Pin → Prop} (h : Rch ws p q) (hp : S p) (cl : ∀ a b, S a → adj ws a b → S b) : S q := by
  induction h with
  | refl => exact hp
  | step _ a ih => exact cl _ _ ih a
theorem adj_pks {ws : List Sw} {p q : Pin} (h : adj ws p q) : q ∈ pks ws := by
  obtain ⟨u, hu, h⟩ := h
  exact mem_pks.mpr ⟨u, hu, h.elim (fun z => .inr z.2) fun z => .inl z.2⟩
theorem dpa_snoc {K : PySem.W.Frag} {H : Hp} : ∀ {ds : List PyData} {d : PyData} {vs : List V}, DpAll K H vs (ds ++ [d]) → ∃ vs0 y, vs = vs0 ++ [y] ∧ DpAll K H vs0 ds ∧ Dp K H y d
  | [], d, _, .cons h t => by
    cases t
    exact ⟨[], _, rfl, .nil, h⟩
  | e :: ds, d, _, .cons h t => by
    obtain ⟨vs0, y, rfl, h1, h2⟩ := dpa_snoc t
    exact ⟨_ :: vs0, y, rfl, .cons h h1, h2⟩
theorem sub_len : ∀ {sk pk : List Pin}, sk.Nodup → (∀ q ∈ sk, q ∈ pk) → sk.length ≤ pk.length
  | [], _, _, _ => Nat.zero_le _
  | q :: sk, pk, h1, h2 => by
    have hq := h2 q List.mem_cons_self
    have := sub_len (sk := sk) (pk := pk.erase q) (List.nodup_cons.mp h1).2 fun r hr => (List.mem_erase_of_ne (fun (z : r = q) => (List.nodup_cons.mp h1).1 (by rw [← z]; exact hr))).mpr (h2 r (List.mem_cons_of_mem _ hr))
    rw [List.length_erase_of_mem hq] at this
    have := List.length_pos_of_mem hq
    rw [List.length_cons]
    omega
section
variable {P : Program} {w : World} {K : PySem.W.Frag} {mg : Str → Option Value} {base : Heap}
variable {CB CT CW C CX CO CG : Addr}
def spPiece (P : Program) (w : World) (K : PySem.W.Frag) : Sp := fun vs H Q _ => ∃ D v p ws H0 kvs A, vs = [.ref D, v] ∧ Nr P w K H0 H D kvs A (pks ws) (nbs ws) ∧ ws.length ≤ 400 ∧ Dp K H v (pD p) ∧ p ∈ pks ws ∧
  ∀ S kvs' sk H', H S = none → Ex H H' → Pk P w K H' S kvs' sk → (∀ q, q ∈ sk ↔ Rch ws p q) → Q (.ref S) H'
theorem q_dispN {σ : L2.St} {H : Hp} {tz : TS} {DD : Ends} {i j : Nat} {v : V} {p : Pin} (h : σ[j]? = some (some v)) (hv : Dp K H v (pD p)) (q : ∀ D b, H D = none → Pk P w K (upd H D (NdO P w D [(kP p, b, .bl true)])) D [(kP p, b, .bl true)] [p] → tz DD (σ.set i (some (.ref D))) (upd H D (NdO P w D [(kP p, b, .bl true)]))) : tSeq (tAsg (tDispN P w K (tVar j) (tC (.bl true))) (gName i)) tz DD σ H := fun D hD => by
  obtain ⟨b, rfl⟩ := pin_ref hv
  have e := Ex.new (o := NdO P w D []) hD
  refine ⟨_, h, kP p, b, pD p, rfl, dp_ex e _ _ hv, key_pD p, dep_p p, upd_same, ?_⟩
  rw [upd_upd]
  have e2 := Ex.new (o := NdO P w D [(kP p, b, .bl true)]) hD
  exact q D b hD ⟨upd_same, rfl, .cons (dp_ex e2 _ _ hv) .nil, List.pairwise_singleton _ _⟩
abbrev s_piece_of : Stmt := topS 34
abbrev N_piece_of : List Str := ["near", "pin", "seen", "rest", "here", "other"]
theorem sc_piece_of : FnScope N_piece_of ["near", "pin"] (defScope s_piece_of) := ⟨rfl, rfl, rfl, by decide +kernel, rfl, by decide +kernel, by decide +kernel⟩
theorem ok_piece_of {f : Addr} {fd : FuncData} (F : Fun K "piece_of" "piece_of" s_piece_of f fd) (T : Txt mg)
      :
    FnOk P w K mg base CX0 1 f fd ["near", "pin"] (spPiece P w K) := by
  refine F.ok sc_piece_of (fun vs H Q E h => by obtain ⟨_, _, _, _, _, _, _, rfl, _⟩ := h; rfl) (fun cdv A outer s H vs Q E hr h => ?_)
  obtain ⟨D, v, p, ws, H0, kvs, A, rfl, N, few, hv, hp, k⟩ := h
  refine ⟨_, (pss_cons (ps_set (i := 2) sc_piece_of.nd rfl (.inl rfl) (pe_dispN (hu64 hr) (pv 1) pe_bl))
      (pss_cons (ps_set (i := 3) sc_piece_of.nd rfl (.inl rfl) (pe_lst (pa_cons (pv 1) pa_nil)))
      (pss_cons (ps_while PassesOwn.never (pt_truth (pv 3) (by intro _; rfl)) (pss_cons (ps_set (i := 4) sc_piece_of.nd rfl (.inl rfl) (pe_bm0 PySem.F.plainAttrs_list PySem.F.slot_list_pop PySem.F.type_list_pop mt_pop (pv 3)))
      (pss_one (ps_for PassesOwn.never rfl (pi_list (pe_getN (hu64 hr) (pv 0) (pv 4) (fun _ _ => rfl))) (pg_name (i := 5) sc_piece_of.nd rfl (Or.inl rfl)) (pss_one (ps_if (pt_cmpR (op_notInN (hu64 hr)) (pv 5) (pv 2) (by rfl)) (pss_cons (ps_dputN (hu64 hr) (pv 2) (pv 5) pe_bl rfl)
      (pss_one (ps_expr (pe_bm PySem.F.plainAttrs_list PySem.F.slot_list_append PySem.F.type_list_append mt_append (pv 3) (pa_cons (pv 5) pa_nil))))) pss_nil))))))
      (pss_one (ps_ret (pv 2)))))), ?_⟩
  refine q_dispN (P := P) (w := w) (K := K) (v := v) (p := p) rfl hv fun S b hS pk1 => ?_
  have e1 : Ex H (upd H S (NdO P w S [(kP p, b, .bl true)])) := Ex.new hS
  generalize hH1 : upd H S (NdO P w S [(kP p, b, .bl true)]) = H1 at *
  refine qn_asg (K := K) (ds := [pD p]) (en_lst (eda_cons (ed_var (k := 1) (v := v) rfl (dp_ex e1 _ _ hv)) eda_nil) (by simp)) fun R vs0 H2 hR1 e2 hR hd0 => ?_
  have e12 := e1.trans e2
  have hR0 := fresh_back e1 hR1
  have nSR : S ≠ R := fun z => by
    have := e2 _ _ pk1.at_
    rw [z, hR] at this
    cases this
  have lpk : (pks ws).length ≤ 800 := by
    have := pks_len ws []
    simp only [List.length_nil] at this
    unfold pks
    omega
  have lnb : ∀ q, (nbs ws q).length ≤ 800 := fun q => by
    have := nbs_len ws (fun _ => []) q
    simp only [List.length_nil] at this
    unfold nbs
    omega
  refine ⟨fun m σ' Ha => ∃ (kvs' : List (NestedKey × Addr × V)) (sk : List Pin) (vs : List V) (rs : List Pin), Pk P w K Ha S kvs' sk ∧ Ha R = some (.lst vs) ∧ DpAll K Ha vs (rs.map pD) ∧ Ex H Ha ∧ p ∈ sk ∧ rs.length ≤ sk.length ∧ (∀ q ∈ rs, q ∈ sk) ∧ (∀ q ∈ sk, q ∈ pks ws) ∧ (∀ q ∈ sk, Rch ws p q) ∧ (∀ q ∈ sk, q ∉ rs → ∀ r, adj ws q r → r ∈ sk) ∧ m = 2 * ((pks ws).length - sk.length) + rs.length ∧ ∃ y z, σ' = [some (.ref D), some v, some (.ref S), some (.ref R), y, z],
    ⟨_, [(kP p, b, .bl true)], [p], vs0, [p], pk1.ex e2, hR, hd0, e12, List.mem_singleton.mpr rfl, Nat.le_refl _, fun q hq => hq, fun q hq => by rw [List.mem_singleton.mp hq]; exact hp, fun q hq => by rw [List.mem_singleton.mp hq]; exact .refl, fun q hq hn => absurd hq hn, rfl, none, none, rfl⟩, ?_⟩
  rintro m σ' Ha ⟨kvs', sk, vs, rs, PK, hv1, hd1, xe, ps, rle, rsk, skp, rch, cl, rfl, y, z, rfl⟩
  refine ⟨_, rfl, !vs.isEmpty, .inl ⟨vs, sq_of hv1, rfl⟩, ?_⟩
  have ln := dpa_len hd1
  rw [List.length_map] at ln
  rcases List.eq_nil_or_concat rs with rfl | ⟨rs0, here, rfl⟩
  · have : vs = [] := List.eq_nil_of_length_eq_zero (by simpa using ln)
    subst this
    show tRet (tVar 2) _ _ _
    exact ⟨_, rfl, k S kvs' sk Ha hS xe PK fun q => ⟨rch q, fun h => h.closed ps fun a b ha hab => cl a ha (by simp) b hab⟩⟩
  rw [List.concat_eq_append] at *
  rw [List.map_append] at hd1
  obtain ⟨vs1, yh, rfl, hd2, hyh⟩ := dpa_snoc hd1
  show (if (!(vs1 ++ [yh]).isEmpty) = true then _ else _)
  rw [if_pos (by simp)]
  refine ⟨fun σ2 H2 => ∃ m', m' < 2 * ((pks ws).length - sk.length) + (rs0 ++ [here]).length ∧ ∃ (kvs' : List (NestedKey × Addr × V)) (sk : List Pin) (vs : List V) (rs : List Pin), Pk P w K H2 S kvs' sk ∧ H2 R = some (.lst vs) ∧ DpAll K H2 vs (rs.map pD) ∧ Ex H H2 ∧ p ∈ sk ∧ rs.length ≤ sk.length ∧ (∀ q ∈ rs, q ∈ sk) ∧ (∀ q ∈ sk, q ∈ pks ws) ∧ (∀ q ∈ sk, Rch ws p q) ∧ (∀ q ∈ sk, q ∉ rs → ∀ r, adj ws q r → r ∈ sk) ∧ m' = 2 * ((pks ws).length - sk.length) + rs.length ∧ ∃ y z, σ2 = [some (.ref D), some v, some (.ref S), some (.ref R), y, z], fun σ2 H2 z => z, ?_⟩
  have hsk := rsk here (List.mem_append_right _ (List.mem_singleton.mpr rfl))
  refine q_asgV ⟨_, rfl, .inl ⟨rfl, _, sq_of hv1⟩, R, vs1 ++ [yh], yh, rfl, rfl, hv1, by simp, ?_⟩
  refine gN ?_
  rw [show (vs1 ++ [yh]).dropLast = vs1 by simp]
  have tA : Tx Ha (upd Ha R (.lst vs1)) := Tx.lst hv1
  have xB : Ex H (upd Ha R (.lst vs1)) := Ex.mut xe hR0
  have PKb : Pk P w K (upd Ha R (.lst vs1)) S kvs' sk := PK.tx tA (by rw [upd_ne nSR]; exact PK.at_)
  have hdb := dpa_tx tA _ _ (imm_pins rs0) hd2
  have hyb := dp_tx tA _ _ (imm_pin here) hyh
  have Rb : upd Ha R (.lst vs1) R = some (.lst vs1) := upd_same
  generalize upd Ha R (.lst vs1) = Hb at *
  have Nb := N.ex xB
  obtain ⟨bh, rfl⟩ := pin_ref hyb
  have hpk := skp here hsk
  refine d_for (K := K) (ds := (nbs ws here).map pD) (S := [S, R]) (ei_lstN (NT.app (S := [S]) (T := [R]) (NT.nd PKb.at_) (NT.lst Rb)) (fun H3 e3 Q q => ?_) (imm_pins _)) (fun H3 i σ' Hc => Xp [S, R] H3 Hc ∧ Ex H Hc ∧ ∃ kvs2 vs2 nw, Pk P w K Hc S kvs2 (sk ++ nw) ∧ Hc R = some (.lst vs2) ∧ DpAll K Hc vs2 ((rs0 ++ nw).map pD) ∧ (∀ q ∈ nw, q ∈ (nbs ws here).take i) ∧ (∀ q ∈ (nbs ws here).take i, q ∈ sk ++ nw) ∧ ∃ z, σ' = [some (.ref D), some v, some (.ref S), some (.ref R), some (.ref bh), z])
    (fun H3 e3 => ⟨Xp.refl _ _, xB.trans e3, kvs', vs1, [], by rw [List.append_nil]; exact PKb.ex e3, e3 _ _ Rb, by rw [List.append_nil]; exact dpa_ex e3 _ _ hdb, (fun _ z => nomatch z), (fun _ z => nomatch z), z, rfl⟩) (fun H3 i σ' Hc _ p => p.1) ?_ ?_
  · have N3 := Nb.ex e3
    obtain ⟨ls, g1, g2⟩ := N3.lst here hpk
    refine ⟨_, rfl, _, rfl, D, kvs, kP here, bh, .ref (A here), pD here, rfl, rfl, dp_ex e3 _ _ hyb, key_pD here, dep_p here, N3.dct.nd, N3.get here hpk, ?_⟩
    refine q (A here) ls H3 (Ex.refl _) g1 (fun hm => ?_) g2
    rcases (by simpa using hm : A here = S ∨ A here = R) with z | z
    · have := (PKb.ex e3).at_
      rw [← z, g1] at this
      cases this
    · obtain ⟨ls0, g3, _⟩ := N.lst here hpk
      rw [z, hR0] at g3
      cases g3
  · rintro H3 i d x σ' Hc Hd e3 hx ⟨x1, x2, kvs2, vs2, nw, PK2, hr2, hd3, nin, tin, z, rfl⟩ e4 hy
    rw [List.getElem?_map] at hx
    obtain ⟨q, hq, rfl⟩ := Option.map_eq_some_iff.mp hx
    obtain ⟨bq, rfl⟩ := pin_ref hy
    have tk : (nbs ws here).take (i + 1) = (nbs ws here).take i ++ [q] := by rw [List.take_add_one, hq]; rfl
    have PK3 := PK2.ex e4
    have few2 : (sk ++ nw).length ≤ 2400 := by
      have h1 := sub_len PK2.one (pk := pks ws ++ nbs ws here) fun r hr => by
        rcases List.mem_append.mp hr with hr | hr
        · exact List.mem_append_left _ (skp r hr)
        · exact List.mem_append_right _ (List.mem_of_mem_take (nin r hr))
      have h2 : (pks ws ++ nbs ws here).length = (pks ws).length + (nbs ws here).length := List.length_append
      have := lnb here
      omega
    refine s_when (b := !decide (q ∈ sk ++ nw)) (et_test (ev_is (ev_notInN (i := 5) (j := 2) (b := bq) rfl rfl PK3.nd hy (key_pD q) (dep_p q)) (by rw [PK3.has]))) (fun hb H5 e5 => ?_) fun hb H5 e5 => ?_
    · have hq2 : q ∉ sk ++ nw := by simpa using hb
      have e45 := e4.trans e5
      have PK5 := PK2.ex e45
      have hy5 := dp_ex e5 _ _ hy
      refine q_dputN (i := 2) (j := 5) (K := K) rfl rfl PK5.nd hy5 (key_pD q) (dep_p q) (by have := PK5.len; omega) ?_
      have PK6 := PK5.put (v := .bl true) hy5
      have ap : addP (sk ++ nw) q = (sk ++ nw) ++ [q] := by unfold addP; rw [if_neg hq2]
      rw [ap, List.append_assoc] at PK6
      have t6 := tx_nd (u := NdO P w S (putN kvs2 (kP q) bq (.bl true))) PK5.at_
      have hr6 : upd H5 S (NdO P w S (putN kvs2 (kP q) bq (.bl true))) R = some (.lst vs2) := by rw [upd_ne (Ne.symm nSR)]; exact e45 _ _ hr2
      have lv2 := dpa_len hd3
      rw [List.length_map, List.length_append] at lv2
      rw [List.length_append, List.length_singleton] at rle
      rw [List.length_append] at few2
      refine d_app (K := K) (l := R) (xs := vs2) hr6 (ev_var rfl) (ed_var (k := 5) (v := .ref bq) rfl (dp_tx t6 _ _ (imm_pin q) hy5)) (by omega) fun v6 H7 e7 hv6 => ?_
      have xs6 : Ex H (upd H5 S (NdO P w S (putN kvs2 (kP q) bq (.bl true)))) := Ex.mut (x2.trans e45) hS
      have tR : Tx H7 (upd H7 R (.lst (vs2 ++ [v6]))) := Tx.lst (e7 _ _ hr6)
      refine ⟨Xp.upd ((Xp.upd (x1.then e45) (by simp)).then e7) (by simp), Ex.mut (xs6.trans e7) hR0, _, vs2 ++ [v6], nw ++ [q], (PK6.ex e7).tx tR (by rw [upd_ne nSR]; exact (PK6.ex e7).at_), upd_same, ?_, fun r hr => ?_, fun r hr => ?_, _, rfl⟩
      · rw [← List.append_assoc, List.map_append]
        exact dpa_app (dpa_tx ((t6.trans (Tx.of_ex e7)).trans tR) _ _ (imm_pins _) (dpa_ex e45 _ _ hd3)) (.cons (dp_tx tR _ _ (imm_pin q) hv6) .nil)
      · rw [tk]
        rcases List.mem_append.mp hr with hr | hr
        · exact List.mem_append_left _ (nin r hr)
        · exact List.mem_append_right _ hr
      · rw [tk] at hr
        rw [← List.append_assoc]
        rcases List.mem_append.mp hr with hr | hr
        · exact List.mem_append_left _ (tin r hr)
        · exact List.mem_append_right _ hr
    · have hq2 : q ∈ sk ++ nw := by
        rw [Bool.not_eq_false'] at hb
        exact of_decide_eq_true hb
      refine ⟨(x1.then e4).then e5, (x2.trans e4).trans e5, kvs2, vs2, nw, PK3.ex e5, (e4.trans e5) _ _ hr2, dpa_ex (e4.trans e5) _ _ hd3, fun r hr => ?_, fun r hr => ?_, _, rfl⟩
      · rw [tk]
        exact List.mem_append_left _ (nin r hr)
      · rw [tk] at hr
        rcases List.mem_append.mp hr with hr | hr
        · exact tin r hr
        · rw [List.mem_singleton.mp hr]
          exact hq2
  · rintro H3 σ' Hc e3 ⟨x1, x2, kvs2, vs2, nw, PK2, hr2, hd3, nin, tin, z, rfl⟩
    rw [List.length_map, List.take_of_length_le (Nat.le_refl _)] at nin tin
    have adjN : ∀ q ∈ nw, adj ws here q := fun q hq => mem_nbs.mp (nin q hq)
    have skp2 : ∀ q ∈ sk ++ nw, q ∈ pks ws := fun q hq => (List.mem_append.mp hq).elim (skp q) fun h => adj_pks (adjN q h)
    have le := sub_len PK2.one skp2
    rw [List.length_append] at le rle
    rw [List.length_singleton] at rle
    refine ⟨2 * ((pks ws).length - (sk ++ nw).length) + (rs0 ++ nw).length, ?_, kvs2, sk ++ nw, vs2, rs0 ++ nw, PK2, hr2, hd3, x2, List.mem_append_left _ ps, ?_, fun q hq => ?_, skp2, fun q hq => ?_, fun q hq hn r hr => ?_, rfl, _, _, rfl⟩
    · rw [List.length_append, List.length_append, List.length_append, List.length_singleton]
      omega
    · rw [List.length_append, List.length_append]
      omega
    · rcases List.mem_append.mp hq with hq | hq
      · exact List.mem_append_left _ (rsk q (List.mem_append_left _ hq))
      · exact List.mem_append_right _ hq
    · rcases List.mem_append.mp hq with hq | hq
      · exact rch q hq
      · exact .step (rch here hsk) (adjN q hq)
    · have n1 : q ∉ nw := fun z => hn (List.mem_append_right _ z)
      have q1 := (List.mem_append.mp hq).resolve_right n1
      by_cases e : q = here
      · subst e
        exact tin r (mem_nbs.mpr hr)
      · refine List.mem_append_left _ (cl q q1 (fun z => ?_) r hr)
        rcases List.mem_append.mp z with z | z
        · exact hn (List.mem_append_left _ z)
        · exact e (List.mem_singleton.mp z)

end
end K16
set_option Elab.async false
set_option linter.all false
set_option maxRecDepth 100000
set_option maxHeartbeats 4000000
namespace K16
open PySem PySem.Spec PyProof.Rows L2 Evl DL LamX
local macro_rules | `(tactic| walk_at "dl") => `(tactic| first
  | exact ev_c | exact ev_var rfl | exact eda_nil
  | exact ed_var rfl (by assumption)
  | exact ed_int ev_c | exact ed_int (ev_var rfl)
  | (refine eda_cons ?_ ?_ <;> walk_at "dl")
  | (refine ed_int ?_; walk_at "dl")
  | (refine ev_op ?_ ?_ rv_I0 <;> walk_at "dl"))

open PySem.W (dataLt dataLe alike alikeAll AllAlike Sortable)
/-! ### pins sorted -/
def leP (a b : Pin) : Bool := leD (pD a) (pD b)
theorem leP_iff (a b : Pin) : leP a b = true ↔ (a.1 < b.1 ∨ (a.1 = b.1 ∧ a.2 ≤ b.2)) := by
  unfold leP leD
  rw [lt_pD, Bool.not_eq_true', decide_eq_false_iff_not]
  omega
theorem ltP_iff (a b : Pin) : dataLt (pD a) (pD b) = true ↔ (leP a b = true ∧ a ≠ b) := by
  obtain ⟨a1, a2⟩ := a
  obtain ⟨b1, b2⟩ := b
  rw [lt_pD, decide_eq_true_iff, leP_iff, ne_eq, Prod.mk.injEq]
  dsimp only
  omega
theorem leP_anti {a b : Pin} (h1 : leP a b = true) (h2 : leP b a = true) : a = b := by
  obtain ⟨a1, a2⟩ := a
  obtain ⟨b1, b2⟩ := b
  rw [leP_iff] at h1 h2
  rw [Prod.mk.injEq]
  dsimp only at h1 h2
  omega
theorem leP_trans {a b c : Pin} (h1 : leP a b = true) (h2 : leP b c = true) : leP a c = true := by
  rw [leP_iff] at *
  omega
theorem leP_total (a b : Pin) : (leP a b || leP b a) = true := by
  rw [Bool.or_eq_true, leP_iff, leP_iff]
  omega
def srtP (l : List Pin) : List Pin := l.mergeSort leP
theorem srtP_data (l : List Pin) : (l.map pD).mergeSort leD = (srtP l).map pD := (List.map_mergeSort (r := leP) (s := leD) (f := pD) (fun _ _ _ _ => rfl)).symm
theorem srtP_perm (l : List Pin) : (srtP l).Perm l := List.mergeSort_perm _ _
theorem srtP_mem {l : List Pin} {p : Pin} : p ∈ srtP l ↔ p ∈ l := (srtP_perm l).mem_iff
theorem srtP_up (l : List Pin) : (srtP l).Pairwise fun a b => leP a b = true := List.pairwise_mergeSort (le := leP) (fun a b c h1 h2 => leP_trans h1 h2) (fun a b => leP_total a b) l
theorem up_eq {l m : List Pin} (h1 : l.Pairwise fun a b => leP a b = true) (h2 : m.Pairwise fun a b => leP a b = true) (p : l.Perm m) : l = m :=
  List.Perm.eq_of_pairwise (le := fun a b => leP a b = true) (fun a b _ _ h1 h2 => leP_anti h1 h2) h1 h2 p
theorem perm_of {l m : List Pin} (h1 : l.Nodup) (h2 : m.Nodup) (h : ∀ p, p ∈ l ↔ p ∈ m) : l.Perm m := (List.perm_ext_iff_of_nodup h1 h2).mpr h
theorem srtP_eq {l m : List Pin} (h1 : l.Nodup) (h2 : m.Nodup) (h : ∀ p, p ∈ l ↔ p ∈ m) : srtP l = srtP m := up_eq (srtP_up l) (srtP_up m) (((srtP_perm l).trans (perm_of h1 h2 h)).trans (srtP_perm m).symm)
open Classical in
/-- the pins of p's piece, ascending -/
noncomputable def comp (ws : List Sw) (p : Pin) : List Pin := srtP ((pks ws).filter fun q => decide (Rch ws p q))
theorem pks_nodup (ws : List Sw) : (pks ws).Nodup := pks_one ws [] .nil
theorem Rch.on {ws : List Sw} {p q : Pin} (h : Rch ws p q) (hp : p ∈ pks ws) : q ∈ pks ws := by
  induction h with
  | refl => exact hp
  | step _ a _ => exact adj_pks a
theorem mem_comp {ws : List Sw} {p q : Pin} (hp : p ∈ pks ws) : q ∈ comp ws p ↔ Rch ws p q := by
  classical
  unfold comp
  rw [srtP_mem, List.mem_filter, decide_eq_true_iff]
  exact ⟨fun h => h.2, fun h => ⟨h.on hp, h⟩⟩
theorem comp_one (ws : List Sw) (p : Pin) : (comp ws p).Nodup := by
  classical
  exact (srtP_perm _).nodup_iff.mpr ((pks_nodup ws).filter _)
theorem comp_len (ws : List Sw) (p : Pin) : (comp ws p).length ≤ (pks ws).length := by
  classical
  unfold comp
  rw [(srtP_perm _).length_eq]
  exact List.length_filter_le _ _
theorem comp_of {ws : List Sw} {p : Pin} {sk : List Pin} (hp : p ∈ pks ws) (h1 : sk.Nodup) (h : ∀ q, q ∈ sk ↔ Rch ws p q) : srtP sk = comp ws p := by
  classical
  unfold comp
  refine srtP_eq h1 ((pks_nodup ws).filter _) fun q => ?_
  rw [h, List.mem_filter, decide_eq_true_iff]
  exact ⟨fun z => ⟨z.on hp, z⟩, fun z => z.2⟩
theorem comp_same {ws : List Sw} {p q : Pin} (hp : p ∈ pks ws) (h : Rch ws p q) : comp ws p = comp ws q := by
  refine (comp_of (sk := comp ws p) (h.on hp) (comp_one ws p) fun r => ?_).symm.trans ?_ |>.symm
  · rw [mem_comp hp]
    exact ⟨fun z => h.symm.trans z, fun z => h.trans z⟩
  · exact up_eq (srtP_up _) (by classical exact srtP_up _) (srtP_perm _)
/-! ### the pieces -/
open Classical in
noncomputable def gop (ws : List Sw) : List Pin → List Pin → List (List Pin)
  | [], _ => []
  | p :: l, told => if p ∈ told then gop ws l told else comp ws p :: gop ws l (told ++ comp ws p)
theorem gop_in (ws : List Sw) {p : Pin} {l told : List Pin} (h : p ∈ told) : gop ws (p :: l) told = gop ws l told := by
  rw [gop, if_pos h]
theorem gop_out (ws : List Sw) {p : Pin} {l told : List Pin} (h : p ∉ told) : gop ws (p :: l) told = comp ws p :: gop ws l (told ++ comp ws p) := by
  rw [gop, if_neg h]
def tupP (l : List Pin) : PyData := .tuple (l.map pD)
theorem tupP_inj {l m : List Pin} (h : tupP l = tupP m) : l = m := by
  injection h with h
  exact (List.map_inj_right fun a b e => by
    obtain ⟨a1, a2⟩ := a
    obtain ⟨b1, b2⟩ := b
    simpa [pD] using e).mp h
theorem alike_pins : ∀ (l m : List Pin), alikeAll (l.map pD) (m.map pD) = true
  | [], _ => by simp [alikeAll]
  | _ :: _, [] => by simp [alikeAll]
  | a :: l, b :: m => by
    rw [List.map_cons, List.map_cons, alikeAll, alike_pins l m]
    simp [pD, alike, alikeAll]
theorem ltT {p q : Pin} {s t : List Pin} (h : dataLt (pD p) (pD q) = true) : dataLt (tupP (p :: s)) (tupP (q :: t)) = true := by
  have ne : p ≠ q := ((ltP_iff p q).mp h).2
  show dataLt (.tuple (pD p :: s.map pD)) (.tuple (pD q :: t.map pD)) = true
  rw [PySem.W.dataLt_tuple, PySem.W.dataLt_all_no (by simp [pD, alike, alikeAll]) (by rw [eqv_pD]; exact decide_eq_false ne)]
  exact h
theorem gop_all (ws : List Sw) : ∀ (l told : List Pin), (∀ p ∈ l, p ∈ pks ws) → ∀ p ∈ l, p ∈ told ∨ comp ws p ∈ gop ws l told
  | [], _, _, p, hp => by cases hp
  | a :: l, told, on, p, hp => by
    by_cases ha : a ∈ told
    · rw [gop_in ws ha]
      rcases List.mem_cons.mp hp with rfl | hp
      · exact .inl ha
      · exact gop_all ws l told (fun q hq => on q (List.mem_cons_of_mem _ hq)) p hp
    · rw [gop_out ws ha]
      rcases List.mem_cons.mp hp with rfl | hp
      · exact .inr List.mem_cons_self
      · rcases gop_all ws l (told ++ comp ws a) (fun q hq => on q (List.mem_cons_of_mem _ hq)) p hp with h | h
        · rcases List.mem_append.mp h with h | h
          · exact .inl h
          · have ha' := on a List.mem_cons_self
            exact .inr (by rw [← comp_same ha' ((mem_comp ha').mp h)]; exact List.mem_cons_self)
        · exact .inr (List.mem_cons_of_mem _ h)
theorem gop_up (ws : List Sw) : ∀ (l pre told : List Pin), (pre ++ l).Pairwise (fun a b => dataLt (pD a) (pD b) = true) → (∀ r, r ∈ pks ws ↔ r ∈ pre ++ l) → (∀ r ∈ pre, r ∈ told) → (∀ r s, r ∈ told → Rch ws r s → s ∈ told) →
    (gop ws l told).Pairwise (fun x y => dataLt (tupP x) (tupP y) = true) ∧ ∀ x ∈ gop ws l told, ∃ p ∈ l, ∃ t, x = p :: t ∧ x = comp ws p
  | [], _, _, _, _, _, _ => ⟨.nil, fun x hx => by cases hx⟩
  | a :: l, pre, told, up, on, pt, cl => by
    have asc : pre ++ a :: l = (pre ++ [a]) ++ l := by simp
    by_cases ha : a ∈ told
    · rw [gop_in ws ha]
      obtain ⟨h1, h2⟩ := gop_up ws l (pre ++ [a]) told (asc ▸ up) (fun r => by rw [← asc]; exact on r) (fun r hr => (List.mem_append.mp hr).elim (pt r) fun z => List.mem_singleton.mp z ▸ ha) cl
      exact ⟨h1, fun x hx => by
        obtain ⟨p, hp, t⟩ := h2 x hx
        exact ⟨p, List.mem_cons_of_mem _ hp, t⟩⟩
    · rw [gop_out ws ha]
      have hak : a ∈ pks ws := (on a).mpr (List.mem_append_right _ List.mem_cons_self)
      have cl2 : ∀ r s, r ∈ told ++ comp ws a → Rch ws r s → s ∈ told ++ comp ws a := fun r s hr h => by
        rcases List.mem_append.mp hr with hr | hr
        · exact List.mem_append_left _ (cl r s hr h)
        · exact List.mem_append_right _ ((mem_comp hak).mpr (((mem_comp hak).mp hr).trans h))
      obtain ⟨h1, h2⟩ := gop_up ws l (pre ++ [a]) (told ++ comp ws a) (asc ▸ up) (fun r => by rw [← asc]; exact on r) (fun r hr => (List.mem_append.mp hr).elim (fun z => List.mem_append_left _ (pt r z)) fun z => List.mem_append_right _ (by rw [List.mem_singleton.mp z]; exact (mem_comp hak).mpr .refl)) cl2
      have upl := (List.pairwise_append.mp up).2.1
      have least : ∀ r ∈ comp ws a, leP a r = true := fun r hr => by
        have rr := (mem_comp hak).mp hr
        have hk := rr.on hak
        rcases List.mem_append.mp ((on r).mp hk) with z | z
        · exact absurd (cl r a (pt r z) rr.symm) ha
        · rcases List.mem_cons.mp z with rfl | z
          · rw [leP_iff]
            omega
          · exact ((ltP_iff a r).mp (List.rel_of_pairwise_cons upl z)).1
      obtain ⟨t, ht⟩ : ∃ t, comp ws a = a :: t := by
        have hm : a ∈ comp ws a := (mem_comp hak).mpr .refl
        have su : (comp ws a).Pairwise (fun a b => leP a b = true) := by
          classical
          exact srtP_up _
        cases hc : comp ws a with
        | nil =>
          rw [hc] at hm
          cases hm
        | cons b t =>
          refine ⟨t, ?_⟩
          rw [hc] at hm su least
          have l1 := least b List.mem_cons_self
          rcases List.mem_cons.mp hm with e | e
          · rw [e]
          · rw [leP_anti l1 (List.rel_of_pairwise_cons su e)]
      refine ⟨List.pairwise_cons.mpr ⟨fun y hy => ?_, h1⟩, fun x hx => ?_⟩
      · obtain ⟨p, hp, t', e, _⟩ := h2 y hy
        rw [ht, e]
        exact ltT (List.rel_of_pairwise_cons upl hp)
      · rcases List.mem_cons.mp hx with rfl | hx
        · exact ⟨a, List.mem_cons_self, t, ht, rfl⟩
        · obtain ⟨p, hp, t'⟩ := h2 x hx
          exact ⟨p, List.mem_cons_of_mem _ hp, t'⟩
theorem srtP_lt (ws : List Sw) : (srtP (pks ws)).Pairwise fun a b => dataLt (pD a) (pD b) = true := by
  have nd := (srtP_perm (pks ws)).nodup_iff.mpr (pks_nodup ws)
  exact (List.Pairwise.and (srtP_up (pks ws)) nd).imp fun h => (ltP_iff _ _).mpr h
/-- the pieces of two pins or more -/
noncomputable def pcs (ws : List Sw) : List (List Pin) := gop ws (srtP (pks ws)) []
theorem pcs_up (ws : List Sw) : (pcs ws).Pairwise (fun x y => dataLt (tupP x) (tupP y) = true) ∧ ∀ x ∈ pcs ws, ∃ p ∈ pks ws, ∃ t, x = p :: t ∧ x = comp ws p := by
  have h := gop_up ws (srtP (pks ws)) [] [] (srtP_lt ws) (fun r => by rw [List.nil_append, srtP_mem]) (fun _ z => nomatch z) (fun _ _ z => nomatch z)
  exact ⟨h.1, fun x hx => by
    obtain ⟨p, hp, t⟩ := h.2 x hx
    exact ⟨p, srtP_mem.mp hp, t⟩⟩
theorem pcs_all {ws : List Sw} {p : Pin} (hp : p ∈ pks ws) : comp ws p ∈ pcs ws :=
  (gop_all ws (srtP (pks ws)) [] (fun q hq => srtP_mem.mp hq) p (srtP_mem.mpr hp)).resolve_left (fun z => nomatch z)
end K16
set_option Elab.async false
set_option linter.all false
set_option maxRecDepth 100000
set_option maxHeartbeats 4000000
namespace K16
open PySem PySem.Spec PyProof.Rows L2 Evl DL LamX
local macro_rules | `(tactic| walk_at "dl") => `(tactic| first
  | exact ev_c | exact ev_var rfl | exact eda_nil
  | exact ed_var rfl (by assumption)
  | exact ed_int ev_c | exact ed_int (ev_var rfl)
  | (refine eda_cons ?_ ?_ <;> walk_at "dl")
  | (refine ed_int ?_; walk_at "dl")
  | (refine ev_op ?_ ?_ rv_I0 <;> walk_at "dl"))

open PySem.W (dataLt dataLe alike alikeAll AllAlike Sortable)
theorem alike_ps (l : List Pin) : AllAlike (l.map pD) := fun d hd e he => by
  obtain ⟨a, _, rfl⟩ := List.mem_map.mp hd
  obtain ⟨b, _, rfl⟩ := List.mem_map.mp he
  simp [pD, alike, alikeAll]
theorem sortable_ps (l : List Pin) : Sortable (l.map pD) := .inl fun d hd => by
  obtain ⟨a, _, rfl⟩ := List.mem_map.mp hd
  exact ⟨_, _, rfl⟩
theorem depth_ps (l : List Pin) : ∀ d ∈ l.map pD, d.depth ≤ 50 := fun d hd => by
  obtain ⟨a, _, rfl⟩ := List.mem_map.mp hd
  simp [pD, PyData.depth, PyData.depthAll]
theorem imm_tupP (l : List Pin) : imm (tupP l) = true := by simpa [tupP, imm] using imm_pins l
theorem imm_tups (l : List (List Pin)) : immAll (l.map tupP) = true := immAll_map imm_tupP l
theorem gop_drop {ws : List Sw} {l : List Pin} {i : Nat} {p : Pin} (h : l[i]? = some p) : l.drop i = p :: l.drop (i + 1) := by
  obtain ⟨hi, e⟩ := List.getElem?_eq_some_iff.mp h
  rw [List.drop_eq_getElem_cons hi, e]
section
variable {P : Program} {w : World} {K : PySem.W.Frag} {mg : Str → Option Value} {base : Heap}
variable {CB CT CW C CX CO CG : Addr} {H H' : Hp}
theorem Nr.xp {H0 : Hp} {D : Addr} {kvs : List (NestedKey × Addr × V)} {A : Pin → Addr} {pk : List Pin} {nb : Pin → List Pin} {S : List Addr} (h : Nr P w K H0 H D kvs A pk nb) (x : Xp S H H') (hS : NT H S) (nD : D ∉ S) (nA : ∀ p ∈ pk, A p ∉ S) : Nr P w K H0 H' D kvs A pk nb :=
  ⟨h.dct.tx (x.txN hS) (x _ _ h.dct.at_ nD), h.get, fun p hp => by
    obtain ⟨vs, h1, h2⟩ := h.lst p hp
    exact ⟨vs, x _ _ h1 (nA p hp), dpa_tx (x.txN hS) _ _ (imm_pins _) h2⟩, h.apart, h.new⟩
/-- sorted(d), d a dict of pins -/
theorem en_sortedPk {te : TE} {σ : L2.St} {pk : List Pin} (few : pk.length ≤ 4000) (h : ∀ H1, Ex H H1 → ∀ Q : VK, (∀ D kvs H2, Ex H1 H2 → Pk P w K H2 D kvs pk → Q (.ref D) H2) → te σ H1 Q) : EvN K (tCB (rSortedDk P w K) (tCons te tNil)) σ H ((srtP pk).map pD) := fun H1 e Q q =>
  h H1 e _ fun D kvs H2 e2 pkD => ⟨D, kvs, pk.map pD, rfl, pkD.nd, pkD.dat, alike_ps pk, sortable_ps pk, depth_ps pk, by rw [pkD.len]; exact few, fun p ys hp hy => by
    rw [srtP_data] at hy
    exact q p ys _ (fresh_back e2 hp) (e2.trans (Ex.new hp)) upd_same (dpa_ex (Ex.new hp) _ _ hy)⟩
def spPieces (P : Program) (w : World) (K : PySem.W.Frag) (C CX : Addr) : Sp := fun vs H Q E => ∃ v, vs = [v] ∧
  ((∃ a s t ws, v = .ref a ∧ BxAt P w K C H a s t ws ∧ ws.length ≤ 400 ∧ ∀ p us H', H p = none → Ex H H' → H' p = some (.lst us) → DpAll K H' us ((pcs ws).map tupP) → Q (.ref p) H') ∨
   (NoBx K C H v ∧ ∀ H', Ex H H' → E (.ref CX) none H'))
abbrev s_pieces : Stmt := topS 35
abbrev N_pieces : List Str := ["box", "near", "told", "found", "pin", "piece", "other"]
theorem sc_pieces : FnScope N_pieces ["box"] (defScope s_pieces) := ⟨rfl, rfl, rfl, by decide +kernel, rfl, by decide +kernel, by decide +kernel⟩
theorem ok_pieces {f : Addr} {fd : FuncData} (F : Fun K "pieces" "pieces" s_pieces f fd) (T : Txt mg)
    (D_check_box : DFX P w K mg base "check_box" 1 ["box"] (spCkB P w K C CX)) (D_joined_pins : DF P w K mg base "joined_pins" 1 ["box"] (spNear P w K C)) (D_piece_of : DF P w K mg base "piece_of" 1 ["near", "pin"] (spPiece P w K))  :
    FnOk P w K mg base (L2.CX P w) 2 f fd ["box"] (spPieces P w K C CX) := by
  refine F.okX sc_pieces (fun vs H Q E h => by obtain ⟨_, rfl, _⟩ := h; rfl) (fun cdv A outer s H vs Q E hr h => ?_)
  obtain ⟨v, rfl, h⟩ := h
  refine ⟨_, (pss_cons (ps_expr (pe_DX D_check_box (takes_of rfl rfl rfl rfl) (fun _ _ _ _ h => h) (hr.mono (by decide)) (by rfl) (pa_cons (pv 0) pa_nil)))
      (pss_cons (ps_set (i := 1) sc_pieces.nd rfl (.inl rfl) (pe_D D_joined_pins (hr.mono (by decide)) (by rfl) (pa_cons (pv 0) pa_nil)))
      (pss_cons (ps_set (i := 2) sc_pieces.nd rfl (.inl rfl) pe_dnewN)
      (pss_cons (ps_set (i := 3) sc_pieces.nd rfl (.inl rfl) (pe_lst pa_nil))
      (pss_cons (ps_for (passes_of rfl) rfl (pi_list (pe_callB (cr_sortedDk rfl (hu64 hr)) (by rfl) T.b_sorted (by decide +kernel) (pa_cons (pv 1) pa_nil))) (pg_name (i := 4) sc_pieces.nd rfl (Or.inl rfl)) (pss_one (ps_if (pt_cmpR (op_notInN (hu64 hr)) (pv 4) (pv 2) (by rfl)) (pss_cons (ps_set (i := 5) sc_pieces.nd rfl (.inl rfl) (pe_callB (cr_sortedDk rfl (hu64 hr)) (by rfl) T.b_sorted (by decide +kernel) (pa_cons (pe_D D_piece_of (hr.mono (by decide)) (by rfl) (pa_cons (pv 1) (pa_cons (pv 4) pa_nil))) pa_nil)))
      (pss_cons (ps_for (passes_of rfl) rfl (pi_list (pv 5)) (pg_name (i := 6) sc_pieces.nd rfl (Or.inl rfl)) (pss_one (ps_dputN (hu64 hr) (pv 2) (pv 6) pe_bl rfl)))
      (pss_one (ps_expr (pe_bm PySem.F.plainAttrs_list PySem.F.slot_list_append PySem.F.type_list_append mt_append (pv 3) (pa_cons (pe_callTy call_tuple_of (by rfl) T.b_tuple (by decide +kernel) (pa_cons (pv 5) pa_nil)) pa_nil)))))) pss_nil)))
      (pss_one (ps_ret (pv 3)))))))), ?_⟩
  rcases h with ⟨a, s', t, ws, rfl, ha, few, k⟩ | ⟨⟨t, ty, hk⟩, k⟩
  case inr => exact b_ck (i := 0) rfl ty hk k
  refine q_ck (i := 0) rfl ha fun H1 e1 => ?_
  have lpk : (pks ws).length ≤ 800 := by
    have := pks_len ws []
    simp only [List.length_nil] at this
    unfold pks
    omega
  refine q_asgV ⟨_, rfl, a, s', t, ws, rfl, ha.ex e1, few, fun D kvs A H2 hD e2 N => ?_⟩
  refine gN ?_
  refine q_newN (P := P) (w := w) fun T0 hT => ?_
  have e3 : Ex H2 (upd H2 T0 (NdO P w T0 [])) := Ex.new hT
  have PT : Pk P w K (upd H2 T0 (NdO P w T0 [])) T0 [] [] := ⟨upd_same, rfl, .nil, .nil⟩
  have N3 := N.ex e3
  generalize upd H2 T0 (NdO P w T0 []) = H3 at *
  refine qn_asg (K := K) (ds := []) (en_lst eda_nil (by simp)) fun F vf H4 hF e4 h4 hd4 => ?_
  have hF2 := fresh_back e3 hF
  have PT4 := PT.ex e4
  have N4 := N3.ex e4
  have nTF : T0 ≠ F := fun z => by
    have := PT.at_
    rw [z, hF] at this
    cases this
  have nD : D ∉ [T0, F] := fun z => by
    rcases (by simpa using z : D = T0 ∨ D = F) with z | z
    · have := N.dct.at_
      rw [z, hT] at this
      cases this
    · have := N.dct.at_
      rw [z, hF2] at this
      cases this
  have nA : ∀ p ∈ pks ws, A p ∉ [T0, F] := fun p hp z => by
    obtain ⟨us, g1, _⟩ := N.lst p hp
    rcases (by simpa using z : A p = T0 ∨ A p = F) with z | z
    · rw [z, hT] at g1
      cases g1
    · rw [z, hF2] at g1
      cases g1
  have nt4 : NT H4 [T0, F] := NT.app (S := [T0]) (T := [F]) (NT.nd PT4.at_) (NT.lst h4)
  have E12 := e1.trans e2
  have hT0 := fresh_back E12 hT
  have hF0 := fresh_back E12 hF2
  refine e_for (K := K) (ds := (srtP (pks ws)).map pD) (S := [T0, F]) (ei_lstN nt4 (fun H5 e5 Q q => en_sortedPk (P := P) (w := w) (pk := pks ws) (by omega) (fun H6 e6 Q6 q6 => ⟨_, rfl, q6 D kvs H6 (Ex.refl _) ((N4.ex (e5.trans e6)).dct)⟩) H5 (Ex.refl _) _ fun p us H6 hp e6 g1 g2 => q p us H6 e6 g1 (fun z => by
      obtain ⟨o, ho, _⟩ := nt4.ex e5 p z
      rw [hp] at ho
      cases ho) g2) (imm_pins _))
    (fun H5 i σ' Ha => Xp [T0, F] H5 Ha ∧ ∃ (kt : List (NestedKey × Addr × V)) (tk told : List Pin) (us : List V) (fs : List (List Pin)), Pk P w K Ha T0 kt tk ∧ (∀ q, q ∈ tk ↔ q ∈ told) ∧ (∀ q ∈ tk, q ∈ pks ws) ∧ Ha F = some (.lst us) ∧ DpAll K Ha us (fs.map tupP) ∧ fs ++ gop ws ((srtP (pks ws)).drop i) told = pcs ws ∧ fs.length ≤ i ∧ Nr P w K H Ha D kvs A (pks ws) (nbs ws) ∧ ∃ y4 y5 y6, σ' = [some (.ref a), some (.ref D), some (.ref T0), some (.ref F), y4, y5, y6])
    (fun H5 e5 => ⟨Xp.refl _ _, [], [], [], vf, [], PT4.ex e5, fun q => Iff.rfl, (fun _ z => nomatch z), e5 _ _ h4, dpa_ex e5 _ _ hd4, rfl, Nat.le_refl _, ⟨(N4.ex e5).dct, (N4.ex e5).get, (N4.ex e5).lst, (N4.ex e5).apart, fun p hp => fresh_back e1 (N.new p hp)⟩, none, none, none, rfl⟩) (fun H5 i σ' Ha _ p => p.1) ?_ ?_
  · rintro H5 i d x σ' Ha Hb e5 hx ⟨x1, kt, tk, told, us, fs, PK, tt, ton, hu, hdu, eq, lf, NN, y4, y5, y6, rfl⟩ e6 hy
    rw [List.getElem?_map] at hx
    obtain ⟨p, hp, rfl⟩ := Option.map_eq_some_iff.mp hx
    have hpk : p ∈ pks ws := srtP_mem.mp (List.mem_of_getElem? hp)
    have il : i < 800 := by
      have := (List.getElem?_eq_some_iff.mp hp).1
      rw [(srtP_perm _).length_eq] at this
      omega
    obtain ⟨bp, rfl⟩ := pin_ref hy
    rw [gop_drop (ws := ws) hp] at eq
    have PKb := PK.ex e6
    refine s_when (b := !decide (p ∈ tk)) (et_test (ev_is (ev_notInN (i := 4) (j := 2) (b := bp) rfl rfl PKb.nd hy (key_pD p) (dep_p p)) (by rw [PKb.has]))) (fun hb H6 e7 => ?_) fun hb H6 e7 => ?_
    case refine_2 =>
      rw [Bool.not_eq_false'] at hb
      have ht : p ∈ told := (tt p).mp (of_decide_eq_true hb)
      rw [gop_in ws ht] at eq
      have e67 := e6.trans e7
      exact ⟨x1.then e67, kt, tk, told, us, fs, PK.ex e67, tt, ton, e67 _ _ hu, dpa_ex e67 _ _ hdu, eq, by omega, NN.ex e67, _, _, _, rfl⟩
    have hn : p ∉ told := fun z => by
      rw [decide_eq_true ((tt p).mpr z)] at hb
      cases hb
    rw [gop_out ws hn] at eq
    have e67 := e6.trans e7
    have N6 := NN.ex e67
    have lc := comp_len ws p
    refine qn_asg (K := K) (ds := (comp ws p).map pD) (fun H7 e8 Q q => ?_) fun pc vc H7 hpc e8 h7 hd7 => ?_
    · refine ⟨_, rfl, _, rfl, D, .ref bp, p, ws, H, kvs, A, rfl, N6.ex e8, few, dp_ex (e7.trans e8) _ _ hy, hpk, fun S ks sk H8 hS e9 PS rs => ?_⟩
      refine ⟨S, ks, sk.map pD, rfl, PS.nd, PS.dat, alike_ps sk, sortable_ps sk, depth_ps sk, ?_, fun pc ys hpc hy => ?_⟩
      · rw [PS.len]
        have := sub_len PS.one (pk := pks ws) fun q hq => ((rs q).mp hq).on hpk
        omega
      · rw [srtP_data, comp_of hpk PS.one rs] at hy
        exact q pc ys _ (fresh_back e9 hpc) (e9.trans (Ex.new hpc)) upd_same (dpa_ex (Ex.new hpc) _ _ hy)
    have e68 := e67.trans e8
    have PK7 := PK.ex e68
    have npT : pc ∉ [T0] := fun z => by
      have := (PK.ex e67).at_
      rw [← List.mem_singleton.mp z, hpc] at this
      cases this
    have hu7 := e68 _ _ hu
    have npF : pc ≠ F := fun z => by
      have := e67 _ _ hu
      rw [← z, hpc] at this
      cases this
    dsimp only [List.set_cons_succ, List.set_cons_zero]
    refine e_for (K := K) (ds := (comp ws p).map pD) (S := [T0]) (ei_lstN (NT.nd PK7.at_) (fun H8 e9 Q q => ⟨_, rfl, q pc vc H8 (Ex.refl _) (e9 _ _ h7) npT (dpa_ex e9 _ _ hd7)⟩) (imm_pins _))
      (fun H8 j σ' Hc => Xp [T0] H8 Hc ∧ ∃ (kt : List (NestedKey × Addr × V)) (tk : List Pin), Pk P w K Hc T0 kt tk ∧ (∀ q, q ∈ tk ↔ q ∈ told ++ (comp ws p).take j) ∧ (∀ q ∈ tk, q ∈ pks ws) ∧ ∃ y6, σ' = [some (.ref a), some (.ref D), some (.ref T0), some (.ref F), some (.ref bp), some (.ref pc), y6])
      (fun H8 e9 => ⟨Xp.refl _ _, kt, tk, PK7.ex e9, fun q => by rw [List.take_zero, List.append_nil]; exact tt q, ton, y6, rfl⟩) (fun H8 j σ' Hc _ p => p.1) ?_ ?_
    · rintro H8 j d x σ' Hc Hd e9 hx ⟨z1, kt2, tk2, PK8, tt2, ton2, y6', rfl⟩ e10 hy2
      rw [List.getElem?_map] at hx
      obtain ⟨q, hq, rfl⟩ := Option.map_eq_some_iff.mp hx
      obtain ⟨bq, rfl⟩ := pin_ref hy2
      have PK9 := PK8.ex e10
      have l9 := sub_len PK9.one ton2
      have tk9 : (comp ws p).take (j + 1) = (comp ws p).take j ++ [q] := by rw [List.take_add_one, hq]; rfl
      have hqc : q ∈ comp ws p := List.mem_of_getElem? hq
      refine s_dputN (i := 2) (j := 6) (K := K) rfl rfl PK9.nd hy2 (key_pD q) (dep_p q) (by have := PK9.len; omega) ?_
      have PK10 := PK9.put (v := .bl true) hy2
      refine ⟨Xp.upd (z1.then e10) (by simp), _, _, PK10, fun r => ?_, fun r hr => ?_, _, rfl⟩
      · rw [mem_addP, tt2, tk9, List.mem_append, List.mem_append, List.mem_append, List.mem_singleton, or_assoc]
      · rcases mem_addP.mp hr with hr | rfl
        · exact ton2 r hr
        · exact ((mem_comp hpk).mp hqc).on hpk
    · rintro H8 σ' Hc e9 ⟨z1, kt2, tk2, PK8, tt2, ton2, y6', rfl⟩
      rw [List.length_map, List.take_of_length_le (Nat.le_refl _)] at tt2
      have hu8 : Hc F = some (.lst us) := z1 _ _ (e9 _ _ hu7) (by simpa using Ne.symm nTF)
      have t8 : Tx H8 Hc := z1.txN ((NT.nd PK7.at_).ex e9)
      have hd8 := dpa_tx t8 _ _ (imm_tups fs) (dpa_ex (e68.trans e9) _ _ hdu)
      have h8 : Hc pc = some (.lst vc) := z1 _ _ (e9 _ _ h7) npT
      have hdc := dpa_tx t8 _ _ (imm_pins _) (dpa_ex e9 _ _ hd7)
      have lu := dpa_len hd8
      rw [List.length_map] at lu
      refine d_app (K := K) (l := F) (xs := us) (d := tupP (comp ws p)) hu8 (ev_var rfl) (ed_tupleOf (ed_var (k := 5) (v := .ref pc) rfl (.lst (sq_of h8) hdc))) (by omega) fun v9 H9 e10 hv9 => ?_
      have tR : Tx H9 (upd H9 F (.lst (us ++ [v9]))) := Tx.lst (e10 _ _ hu8)
      have xz : Xp [T0, F] Ha Hc := fun b o ho hb => z1 b o (e9 _ _ (e68 _ _ ho)) (by simp at hb ⊢; exact hb.1)
      have xl : Xp [T0, F] Ha (upd H9 F (.lst (us ++ [v9]))) := Xp.upd (xz.then e10) (by simp)
      have ntA : NT Ha [T0, F] := NT.app (S := [T0]) (T := [F]) (NT.nd PK.at_) (NT.lst hu)
      refine ⟨x1.trans xl, kt2, tk2, told ++ comp ws p, us ++ [v9], fs ++ [comp ws p], (PK8.ex e10).tx tR (by rw [upd_ne nTF]; exact (PK8.ex e10).at_), tt2, ton2, upd_same, ?_, by rw [List.append_assoc]; exact eq, by rw [List.length_append, List.length_singleton]; omega, NN.xp xl ntA nD nA, _, _, _, rfl⟩
      rw [List.map_append]
      exact dpa_app (dpa_tx tR _ _ (imm_tups fs) (dpa_ex e10 _ _ hd8)) (.cons (dp_tx tR _ _ (imm_tupP _) hv9) .nil)
  · rintro H5 σ' Ha e5 ⟨x1, kt, tk, told, us, fs, PK, tt, ton, hu, hdu, eq, lf, NN, y4, y5, y6, rfl⟩
    rw [List.length_map, List.drop_of_length_le (Nat.le_refl _)] at eq
    have efs : fs = pcs ws := by
      rw [← eq]
      simp [gop]
    subst efs
    refine ⟨_, rfl, k F us Ha hF0 (fun b o hb => x1 b o (((((e1.trans e2).trans e3).trans e4).trans e5) b o hb) fun z => ?_) hu hdu⟩
    rcases (by simpa using z : b = T0 ∨ b = F) with z | z
    · rw [z, hT0] at hb
      cases hb
    · rw [z, hF0] at hb
      cases hb

end
end K16
set_option Elab.async false
set_option linter.all false
set_option maxRecDepth 100000
set_option maxHeartbeats 4000000
namespace K16
open PySem PySem.Spec PyProof.Rows L2 Evl DL LamX
local macro_rules | `(tactic| walk_at "dl") => `(tactic| first
  | exact ev_c | exact ev_var rfl | exact eda_nil
  | exact ed_var rfl (by assumption)
  | exact ed_int ev_c | exact ed_int (ev_var rfl)
  | (refine eda_cons ?_ ?_ <;> walk_at "dl")
  | (refine ed_int ?_; walk_at "dl")
  | (refine ev_op ?_ ?_ rv_I0 <;> walk_at "dl"))

section
variable {K : PySem.W.Frag} {σ : L2.St} {H : Hp} {ta tb te : TE} {ds : List PyData}
/-- enumerate(xs), xs a list of data -/
theorem ei_enum (h : EvD K te σ H (.list ds)) (hi : immAll ds = true) : EvI K (iEnum K (tCons te tNil)) σ H [] (List.zipWith (fun (i : Nat) y => PyData.tuple [.int (i : Int), y]) (List.range ds.length) ds) := fun H1 e R r =>
  h H1 e _ fun x H2 e2 hx => by
    cases hx with
    | @lst q vs _ hs ha =>
    refine ⟨q, vs, rfl, hs, r _ H2 e2 ?_⟩
    have lv := dpa_len ha
    rw [List.length_zipWith, List.length_range, Nat.min_self, ← lv]
    have w := walk_enum (K := K) (a := q) (xs := vs)
    refine w.mono (fun Ha x => ex_l (fun b o h => x b o h (by simp)) hs) fun i Ha v Hb hlt hg y => ?_
    obtain ⟨T, v1, v2, rfl, hT, rfl, g1, g2⟩ := y
    cases g1
    have eg : Ex H2 Ha := fun b o h => hg b o h (by simp)
    obtain ⟨d, q1, q2⟩ := dpa_getV (dpa_ex (eg.trans (Ex.new (o := .tup [.int (i : Int), v2]) hT)) _ _ ha) g2
    refine ⟨Ex.new hT, .tuple [.int (i : Int), d], ?_, .tup (st_of upd_same) (.cons (.int _) (.cons q2 .nil))⟩
    rw [List.getElem?_zipWith, q1, List.getElem?_range hlt]
/-- n in xs -/
theorem ev_inL {n : Int} {l : List Int} (ha : Ev ta σ H (.int n)) (hb : EvD K tb σ H (.list (dI l))) : Ev (tOp (rIn K false) ta tb) σ H (.bl (decide (n ∈ l))) := fun H1 e Q q =>
  ha H1 e _ fun H2 e2 => hb H2 (e.trans e2) _ fun v H3 e3 hv => by
    cases hv with
    | @lst p vs _ hs ha =>
    obtain rfl := dpa_ints ha
    refine ⟨p, _, rfl, .inl hs, rfl, flat_ints l, ?_⟩
    rw [inV_ints]
    exact q H3 (e2.trans e3)
end
theorem ints_back : ∀ {es : List PyData}, (∀ d ∈ es, ∃ i : Int, d = .int i) → ∃ l : List Int, es = dI l
  | [], _ => ⟨[], rfl⟩
  | d :: es, h => by
    obtain ⟨i, rfl⟩ := h d List.mem_cons_self
    obtain ⟨l, rfl⟩ := ints_back fun e he => h e (List.mem_cons_of_mem _ he)
    exact ⟨i :: l, rfl⟩
theorem Scp.bok {most s m : Int} {us : List Sw} (h : Scp most s m us) (hm : most ≤ 400) : Bok s m us := by
  have b := scopes_bd h.sc
  exact ⟨⟨b.1, b.2.1⟩, ⟨b.2.2.1, by omega⟩, h.ok, h.up, h.nd, by have := h.few; omega⟩
def pinL (ws : List Sw) : List Pin := ws.flatMap fun u => [u.1, u.2]
theorem mem_pinL {ws : List Sw} {p : Pin} : p ∈ pinL ws ↔ p ∈ pks ws := by
  rw [mem_pks]
  unfold pinL
  simp only [List.mem_flatMap, List.mem_cons, List.not_mem_nil, or_false]
  exact ⟨fun ⟨u, hu, h⟩ => ⟨u, hu, h.imp Eq.symm Eq.symm⟩, fun ⟨u, hu, h⟩ => ⟨u, hu, h.imp Eq.symm Eq.symm⟩⟩
theorem pinL_len (ws : List Sw) : (pinL ws).length = 2 * ws.length := by
  induction ws with
  | nil => rfl
  | cons u ws ih =>
    unfold pinL at ih ⊢
    rw [List.flatMap_cons, List.length_append, ih]
    simp
    omega
def R_law_pins (ds : List PyData) (r : List PyData) : Prop := ∃ ws : List Sw, ds = [.tuple (ws.map swD)] ∧ ws.length ≤ 400 ∧ r = (pinL ws).map pD
/-- the items at the places that b names -/
theorem keep_sub {α : Type} (us : List α) (b : Nat → Bool) : ∃ vs : List α, vs.Sublist us ∧ ∀ (f : α → PyData) (g : Nat → PyData), (∀ i x, us[i]? = some x → g i = f x) → ((List.range us.length).filter b).map g = vs.map f := by
  induction us generalizing b with
  | nil => exact ⟨[], .slnil, fun f g _ => rfl⟩
  | cons u us ih =>
    obtain ⟨vs, h1, h2⟩ := ih (fun i => b (i + 1))
    have er : List.range (u :: us).length = 0 :: (List.range us.length).map (· + 1) := by rw [List.length_cons, List.range_succ_eq_map]
    have tail : ∀ (f : α → PyData) (g : Nat → PyData), (∀ i x, (u :: us)[i]? = some x → g i = f x) → (((List.range us.length).map (· + 1)).filter b).map g = vs.map f := fun f g hg => by
      rw [List.filter_map, List.map_map]
      exact h2 f (g ∘ (· + 1)) fun i x hx => hg (i + 1) x (by simpa using hx)
    cases hb : b 0 with
    | true => exact ⟨u :: vs, h1.cons₂ u, fun f g hg => by rw [er, List.filter_cons, hb, if_pos rfl, List.map_cons, tail f g hg, hg 0 u rfl]; rfl⟩
    | false => exact ⟨vs, h1.cons u, fun f g hg => by rw [er, List.filter_cons, hb, if_neg (by simp), tail f g hg]⟩
section
variable {P : Program} {w : World} {K : PySem.W.Frag} {mg : Str → Option Value} {base : Heap}
variable {CB CT CW C CX CO CG : Addr}
def spMade (P : Program) (w : World) (K : PySem.W.Frag) (C : Addr) : Sp := fun vs H Q _ => ∃ a most s m us, vs = [.ref a] ∧ ScAt K H a most s m us ∧ most ≤ 400 ∧ ∀ x H', H x = none → Ex H H' → BxAt P w K C H' x s m us → Q (.ref x) H'
def spFew (K : PySem.W.Frag) : Sp := fun vs H Q _ => ∃ (st lg cl a : Addr) (n : Nat) (most : Int) (xs : List V) (us : List Sw), vs = [.ref st, .ref a, .int most] ∧ 0 ≤ most ∧ most ≤ 50 ∧ n ≤ 7900 ∧ StK st lg cl n H ∧ H a = some (.lst xs) ∧ a ≠ st ∧ a ≠ lg ∧ DpAll K H xs (us.map swD) ∧ us.length ≤ 50 ∧
  ∀ (p : Addr) (ys : List V) (ws : List Sw) (H' : Hp), H p = none → Xp [st, lg] H H' → H' p = some (.lst ys) → DpAll K H' ys (ws.map swD) → ws.Sublist us → StK st lg cl (n + 60) H' → Q (.ref p) H'
abbrev s__law_made : Stmt := topS 48
abbrev N__law_made : List Str := ["_law_scope_here"]
theorem sc__law_made : FnScope N__law_made ["_law_scope_here"] (defScope s__law_made) := ⟨rfl, rfl, rfl, by decide +kernel, rfl, by decide +kernel, by decide +kernel⟩
theorem ok__law_made {f : Addr} {fd : FuncData} (F : Fun K "_law_made" "_law_made" s__law_made f fd) (T : Txt mg)
     (BX : BoxX P w K mg base C CB CT CW)  :
    FnOk P w K mg base (L2.CX P w) 6 f fd ["_law_scope_here"] (spMade P w K C) := by
  refine F.okX sc__law_made (fun vs H Q E h => by obtain ⟨_, _, _, _, _, rfl, _⟩ := h; rfl) (fun cdv A outer s H vs Q E hr h => ?_)
  obtain ⟨a, most, s', m, us, rfl, ⟨scp, v, hsc, hv⟩, hm, k⟩ := h
  refine ⟨_, (pss_one (ps_ret (pe_BoxX BX ⟨rfl, rfl, rfl, rfl, rfl⟩ (E := fun _ _ _ => False) (takes_of rfl rfl rfl rfl) (fun _ _ _ _ h => h.elim) (hr.mono (by decide)) (by rfl) (pa_cons (pe_dget (hu_of hr) (pv 0) pe_str (fun _ _ => rfl)) (pa_cons (pe_dget (hu_of hr) (pv 0) pe_str (fun _ _ => rfl)) (pa_cons (pe_dget (hu_of hr) (pv 0) pe_str (fun _ _ => rfl)) pa_nil)))))), ?_⟩
  have A := scp.bok hm
  obtain ⟨j, rfl⟩ : ∃ j, v = .ref j := by
    cases hv with
    | tup _ _ => exact ⟨_, rfl⟩
  refine mk_good (C := C) (s := s') (t := m) (ws := us) (eda_cons (ed_int (ev_dget (k := kSd) rfl hsc sc_S)) (eda_cons (ed_int (ev_dget (k := kMa) rfl hsc sc_M)) (eda_cons (ed_at (ev_dget (k := kJo) rfl hsc sc_J) hv) eda_nil))) A.hs A.ht A.ok (by have := A.few; omega) A.up fun x H' hx e' bx => k x H' hx e' bx

abbrev s__law_pins : Stmt := topS 49
abbrev N__law_pins : List Str := ["_law_told", "_law_found", "_law_switch"]
theorem sc__law_pins : FnScope N__law_pins ["_law_told"] (defScope s__law_pins) := ⟨rfl, rfl, rfl, by decide +kernel, rfl, by decide +kernel, by decide +kernel⟩
theorem ok__law_pins {f : Addr} {fd : FuncData} (F : Fun K "_law_pins" "_law_pins" s__law_pins f fd) (T : Txt mg)
      :
    FnOk P w K mg base CX0 1 f fd ["_law_told"] (spN K 1 R_law_pins) := by
  refine F.ok sc__law_pins (fun vs H Q E h => spN_len h) (fun cdv A outer s H vs Q E hr h => ?_)
  obtain ⟨ds, r, hd, _, ⟨ws, rfl, few, rfl⟩, k⟩ := h
  obtain ⟨v, rfl, hv⟩ := dpa_one hd
  refine ⟨_, (pss_cons (ps_set (i := 1) sc__law_pins.nd rfl (.inl rfl) (pe_lst pa_nil))
      (pss_cons (ps_for PassesOwn.never rfl (pi_tup (pv 0)) (pg_name (i := 2) sc__law_pins.nd rfl (Or.inl rfl)) (pss_one (ps_set (i := 1) sc__law_pins.nd rfl (.inl rfl) (pe_op op_cat (pv 1) (pe_lst (pa_cons (pe_ix ix_tup (pv 2) pe_int (fun _ _ => rfl)) (pa_cons (pe_ix ix_tup (pv 2) pe_int (fun _ _ => rfl)) pa_nil)))))))
      (pss_one (ps_ret (pv 1))))), ?_⟩
  refine qn_asg (K := K) (ds := []) (en_lst eda_nil (by simp)) fun p0 vs0 H1 hp0 e1 h1 hd1 => ?_
  refine e_for (ei_tupD (K := K) (ds := ws.map swD) (ed_var (k := 0) (v := v) rfl (dp_ex e1 _ _ hv))) (fun H2 i σ' Ha => Ex H2 Ha ∧ ∃ p vs, H p = none ∧ Ha p = some (.lst vs) ∧ DpAll K Ha vs ((pinL (ws.take i)).map pD) ∧ ∃ y, σ' = [some v, some (.ref p), y]) (fun H2 e2 => ⟨Ex.refl _, p0, vs0, hp0, e2 _ _ h1, dpa_ex e2 _ _ hd1, none, rfl⟩) (fun H2 i σ' Ha _ p => Xp.of_ex p.1) ?_ ?_
  · rintro H2 i d x σ' Ha Hb e2 hx ⟨p1, p, vs, hp, hl, hdl, y, rfl⟩ e3 hy
    rw [List.getElem?_map] at hx
    obtain ⟨u, hu, rfl⟩ := Option.map_eq_some_iff.mp hx
    have tk : ws.take (i + 1) = ws.take i ++ [u] := by rw [List.take_add_one, hu]; rfl
    have l1 := pinL_len (ws.take i)
    rw [List.length_take] at l1
    refine (en_cat (K := K) (evq_varN (i := 1) (p := p) rfl (e3 _ _ hl) (dpa_ex e3 _ _ hdl)) (EvN.toQ (en_lst (ds := [pD u.1, pD u.2]) (eda_cons (ed_ixT (k := 0) (ds := [pD u.1, pD u.2]) (ed_var (k := 2) (v := x) rfl hy) ev_c rfl) (eda_cons (ed_ixT (k := 1) (ds := [pD u.1, pD u.2]) (ed_var (k := 2) (v := x) rfl hy) ev_c rfl) eda_nil)) (by simp))) (by rw [List.length_map]; simp; omega)) Hb (Ex.refl _) _ fun p' vs' Hc hp' e4 h4 hd4 => ?_
    refine ⟨(p1.trans e3).trans e4, p', vs', fresh_back (((e1.trans e2).trans p1).trans e3) hp', h4, ?_, _, rfl⟩
    rw [tk]
    unfold pinL at hd4 ⊢
    rw [List.flatMap_append, List.map_append]
    exact hd4
  · rintro H2 σ' Ha e2 ⟨p1, p, vs, hp, hl, hdl, y, rfl⟩
    rw [List.length_map, List.take_of_length_le (Nat.le_refl _)] at hdl
    exact ⟨_, rfl, k p vs Ha hp ((e1.trans e2).trans p1) hl hdl⟩

abbrev s__law_few : Stmt := topS 46
abbrev N__law_few : List Str := ["_law_state", "_law_several", "_law_most", "_law_chosen", "_law_spot", "_law_item"]
theorem sc__law_few : FnScope N__law_few ["_law_state", "_law_several", "_law_most"] (defScope s__law_few) := ⟨rfl, rfl, rfl, by decide +kernel, rfl, by decide +kernel, by decide +kernel⟩
theorem ok__law_few {f : Addr} {fd : FuncData} (F : Fun K "_law_few" "_law_few" s__law_few f fd) (T : Txt mg)
    (D__law_draw : DF P w K mg base "_law_draw" 1 ["_law_state", "_law_size_here"] (spDraw K)) (D__law_mixed : DF P w K mg base "_law_mixed" 2 ["_law_state", "_law_several"] (spMixed K))  :
    FnOk P w K mg base CX0 3 f fd ["_law_state", "_law_several", "_law_most"] (spFew K) := by
  refine F.ok sc__law_few (fun vs H Q E h => by obtain ⟨_, _, _, _, _, _, _, _, rfl, _⟩ := h; rfl) (fun cdv A outer s H vs Q E hr h => ?_)
  obtain ⟨st, lg, cl, a, n, most, xs, us, rfl, m0, m1, hn, hst, ha, n1, n2, hd, lu, k⟩ := h
  refine ⟨_, (pss_cons (ps_set (i := 3) sc__law_few.nd rfl (.inr rfl) (pe_slice (sl_listK K rfl) (pe_D D__law_mixed (hr.mono (by decide)) (by rfl) (pa_cons (pv 0) (pa_cons (pe_listRg rfl (by rfl) T.b_list (prg_1 (by rfl) T.b_range (pe_callB call_len_seq (by rfl) T.b_len PySem.boot_len (pa_cons (pv 1) pa_nil)))) pa_nil))) po_none (po_some (pe_D D__law_draw (hr.mono (by decide)) (by rfl) (pa_cons (pv 0) (pa_cons (pe_op op_add (pv 2) pe_int) pa_nil))))))
      (pss_one (ps_ret (pe_lc (own := [("_law_spot", 4), ("_law_item", 5)]) (g := (gTup K 2 (gCons (gName 4) (gCons (gName 5) gNil)))) (tt := _) rfl sc__law_few.nd (pi_enum (by rfl) T.b_enumerate (pa_cons (pv 1) pa_nil)) (blkOk_by (N := N__law_few) (sc := defScope s__law_few) (by decide +kernel)) (fun _ _ _ _ _ => (pg_tup rfl (pgs_cons (pg_name (i := 4) sc__law_few.nd rfl (Or.inl rfl)) (pgs_cons (pg_name (i := 5) sc__law_few.nd rfl (Or.inl rfl)) pgs_nil)))) (fun _ _ _ _ _ => (pts_one (pt_cmpR (op_inK K rfl) (pv 4) (pv 3) (by rfl)))) (fun _ _ _ _ _ => (pv 5)))))), ?_⟩
  have lx := dpa_len hd
  rw [List.length_map] at lx
  refine ⟨_, rfl, ?_⟩
  refine en_listRg (K := K) (n := (us.length : Int)) (ev_is (ev_lenL (K := K) (ds := us.map swD) (ed_var (k := 1) (v := .ref a) rfl (.lst (sq_of ha) hd))) (by rw [List.length_map])) (by omega) (by omega) H (Ex.refl _) _ fun p vs H1 hp e1 h1 hd1 => ?_
  have s1 := stk_ex e1 hst
  have np := stk_ne hst hp
  refine ⟨st, lg, cl, p, n, vs, _, rfl, sq_of h1, hd1, fun d hd => ?_, by rw [dI, List.length_map]; simp; omega, by omega, s1, fun p2 ys es H2 pm hp2 x2 h2 hd2 s2 => ?_⟩
  · obtain ⟨z, _, rfl⟩ := List.mem_map.mp hd
    exact ⟨rfl, by simp [PyData.canLay0], by simp [PyData.depth]⟩
  have n2' := stk_ne s1 hp2
  refine ⟨_, rfl, _, rfl, most, 1, rfl, rfl, ?_⟩
  refine ⟨st, lg, cl, _, most + 1, rfl, by omega, by omega, by rw [dI, List.length_map, List.length_map, List.length_range]; omega, s2, fun r H3 r0 r1 x3 s3 => ?_⟩
  have x03 : Xp [st, lg] H H3 := ((Xp.of_ex e1).trans x2).trans x3
  refine ⟨r, rfl, p2, ys, rfl, sq_of (x3 _ _ h2 (by simp [n2'.1, n2'.2.1])), fun p3 hp3 => ?_⟩
  have e4 := Ex.new (o := .lst (L2.cutV ys none (some r))) hp3
  have ie : immAll es = true := by
    have ii : immAll (dI ((List.range (us.length : Int).toNat).map fun (i : Nat) => (i : Int))) = true := immAll_flt fun d hd => by
      obtain ⟨z, _, rfl⟩ := List.mem_map.mp hd
      exact ⟨rfl, by simp [PyData.canLay0], by simp [PyData.depth]⟩
    exact immAll_of fun d hd => imm_mem ii d (pm.mem_iff.mp hd)
  have hd3 := dpa_tx (stk_tx s2 x3) _ _ ie hd2
  obtain ⟨l, rfl⟩ : ∃ l : List Int, es = dI l := ints_back fun d hd => by
    obtain ⟨z, _, rfl⟩ := List.mem_map.mp (pm.mem_iff.mp hd)
    exact ⟨z, rfl⟩
  have hd4 : DpAll K (L2.upd H3 p3 (.lst (L2.cutV ys none (some r)))) (L2.cutV ys none (some r)) (dI (l.take r.toNat)) := by
    have := dpa_ex e4 _ _ (dpa_cut (lo := none) (hi := some r) hd3)
    rwa [cut_take r0, ← show (dI (l.take r.toNat)) = (dI l).take r.toNat from List.map_take ..] at this
  refine gN ?_
  generalize l.take r.toNat = cs at *
  have h4 : (L2.upd H3 p3 (.lst (L2.cutV ys none (some r)))) p3 = some (.lst (L2.cutV ys none (some r))) := upd_same
  generalize L2.cutV ys none (some r) = zs at *
  have ha4 := e4 _ _ (x03 _ _ ha (by simp [n1, n2]))
  have hda := dpa_ex e4 _ _ (dpa_tx (stk_tx hst x03) _ _ (immAll_map imm_sw us) hd)
  have s4 := stk_ex e4 s3
  generalize L2.upd H3 p3 (.lst zs) = H4 at *
  obtain ⟨ws, sub, wsE⟩ := keep_sub us fun i => decide ((i : Int) ∈ cs)
  have len2 : (List.zipWith (fun (i : Nat) y => PyData.tuple [.int (i : Int), y]) (List.range (us.map swD).length) (us.map swD)).length = us.length := by simp
  have wsE2 := wsE swD (fun i => swD (us.getD i ((0, 0), (0, 0)))) fun i x hx => by rw [List.getD_eq_getElem?_getD, hx]; rfl
  refine n_ret (K := K) (ds := ws.map swD) (en_is (en_lcD (ei_enum (K := K) (ds := us.map swD) (ed_var (k := 1) (v := .ref a) rfl (.lst (sq_of ha4) hda)) (immAll_map imm_sw us)) (by rw [len2]; omega) (fun i => decide ((i : Int) ∈ cs)) (fun i => swD (us.getD i ((0, 0), (0, 0)))) (fun _ _ => imm_sw _) fun H5 i d x Hb Q' e5 hg e6 hx kk => ?_) (by rw [len2, wsE2])) fun p5 ys5 H5 hp5 e5 h5 hd5 => ?_
  · have hi : i < us.length := by
      have := (List.getElem?_eq_some_iff.mp hg).1
      rwa [len2] at this
    rw [List.getElem?_zipWith, List.getElem?_range (by simpa using hi), List.getElem?_map, List.getElem?_eq_getElem hi] at hg
    cases hg
    have gz : us.getD i ((0, 0), (0, 0)) = us[i] := by rw [List.getD_eq_getElem?_getD, List.getElem?_eq_getElem hi]; rfl
    rw [gz] at kk
    refine g_two hx fun w1 w2 u1 u2 => ?_
    cases dp_int u1
    refine kk _ Hb (Ex.refl _) rfl (et_test (ev_inL (n := (i : Int)) (l := cs) (ev_var rfl) (ed_var (k := 3) (v := .ref p3) rfl (.lst (sq_of ((e5.trans e6) _ _ h4)) (dpa_ex (e5.trans e6) _ _ hd4))))) fun _ => ed_var (k := 5) (v := w2) rfl u2
  · refine k p5 ys5 ws H5 ?_ ((x03.then e4).then e5) h5 hd5 sub (stk_mono (by rw [dI, List.length_map, List.length_map, List.length_range]; omega) (stk_ex e5 s4))
    have q3 : H3 p5 = none := fresh_back e4 hp5
    cases z : H p5 with
    | none => rfl
    | some o =>
      have ns := stk_ne s4 hp5
      have q4 := x03 _ _ z (by simp [ns.1, ns.2.1])
      rw [q3] at q4
      cases q4

end
end K16
set_option Elab.async false
set_option linter.all false
set_option maxRecDepth 100000
set_option maxHeartbeats 4000000
namespace K16
open PySem PySem.Spec PyProof.Rows L2 Evl DL LamX
local macro_rules | `(tactic| walk_at "dl") => `(tactic| first
  | exact ev_c | exact ev_var rfl | exact eda_nil
  | exact ed_var rfl (by assumption)
  | exact ed_int ev_c | exact ed_int (ev_var rfl)
  | (refine eda_cons ?_ ?_ <;> walk_at "dl")
  | (refine ed_int ?_; walk_at "dl")
  | (refine ev_op ?_ ?_ rv_I0 <;> walk_at "dl"))

open PySem.W (dataLt dataLe alike alikeAll AllAlike Sortable)
theorem hu65 {A : Around} {k : Nat} (hr : Room k A) : A.units + 65 < cLine := by
  have := hu100 hr
  omega
/-- x in xs, x not in xs, xs a list of data -/
def rInDL (K : PySem.W.Frag) (neg : Bool) : R2 := fun x y H Q => ∃ d ds, Dp K H x d ∧ Dp K H y (.list ds) ∧ SeqAt.shaped d = true ∧ SeqAt.shaped (.list ds) = true ∧ Q (.bl (if neg then !ds.any fun z => PyData.eqv z d else ds.any fun z => PyData.eqv z d)) H
section
variable {X : Cx}
theorem op_inDL (K : PySem.W.Frag) (hK : X.K = K) (hu : X.A.units + 65 < cLine) : OpR X (compareOp .In) (rInDL K false) := by
  subst hK
  intro pins s σ H x y v u Q I rx ry h
  obtain ⟨d, ds, hd, he, sd, se, q⟩ := h
  obtain ⟨as, r1⟩ := Dp.reads I d x v hd rx
  obtain ⟨bs, r2⟩ := Dp.reads I (.list ds) y u he ry
  exact SeqAt.in_list_reads r2 r1 (SeqAt.canLay_of_shaped se) (SeqAt.canLay_of_shaped sd) (room_in_shaped sd hu) ⟨.bl _, H, I, rfl, q⟩
theorem op_notInDL (K : PySem.W.Frag) (hK : X.K = K) (hu : X.A.units + 65 < cLine) : OpR X (compareOp .NotIn) (rInDL K true) := by
  subst hK
  intro pins s σ H x y v u Q I rx ry h
  obtain ⟨d, ds, hd, he, sd, se, q⟩ := h
  obtain ⟨as, r1⟩ := Dp.reads I d x v hd rx
  obtain ⟨bs, r2⟩ := Dp.reads I (.list ds) y u he ry
  exact SeqAt.notIn_list_reads r2 r1 (SeqAt.canLay_of_shaped se) (SeqAt.canLay_of_shaped sd) (room_in_shaped sd hu) ⟨.bl _, H, I, rfl, q⟩
end
theorem any_pins (L : List Pin) (p : Pin) : ((L.map pD).any fun z => PyData.eqv z (pD p)) = decide (p ∈ L) := by
  rw [List.any_map, Bool.eq_iff_iff, List.any_eq_true, decide_eq_true_iff]
  constructor
  · rintro ⟨q, hq, h⟩
    have h : PyData.eqv (pD q) (pD p) = true := h
    rw [eqv_pD] at h
    exact of_decide_eq_true h ▸ hq
  · intro h
    refine ⟨p, h, ?_⟩
    show PyData.eqv (pD p) (pD p) = true
    rw [eqv_pD]
    exact decide_eq_true rfl
theorem flat_pin (p : Pin) : (pD p).canLay0 = true ∧ (pD p).depth ≤ 10 := by
  constructor
  · simp [pD, PyData.canLay0, PyData.canLayAll0]
  · simp [pD, PyData.depth, PyData.depthAll]
theorem shaped_pin (p : Pin) : SeqAt.shaped (pD p) = true := shaped_of (ds := [.int p.1, .int p.2]) fun d hd => by
  simp only [List.mem_cons, List.not_mem_nil, or_false] at hd
  rcases hd with rfl | rfl <;> simp [PyData.canLay0, PyData.depth]
theorem shaped_pins (L : List Pin) : SeqAt.shaped (.list (L.map pD)) = true := shaped_of fun d hd => by
  obtain ⟨u, _, rfl⟩ := List.mem_map.mp hd
  exact flat_pin u
section
variable {K : PySem.W.Frag} {σ : L2.St} {H : Hp} {ta tb : TE}
theorem ev_inP {neg : Bool} {p : Pin} {L : List Pin} (ha : EvD K ta σ H (pD p)) (hb : EvD K tb σ H (.list (L.map pD))) : Ev (tOp (rInDL K neg) ta tb) σ H (.bl (if neg then !decide (p ∈ L) else decide (p ∈ L))) := fun H1 e Q q =>
  ha H1 e _ fun v H2 e2 hv => hb H2 (e.trans e2) _ fun u H3 e3 hu => ⟨pD p, L.map pD, dp_ex e3 _ _ hv, hu, shaped_pin p, shaped_pins L, by
    rw [any_pins]
    exact q H3 (e2.trans e3)⟩
end
/-! ### the law's own lots -/
def lstep (L : List Pin) (u : Sw) : List Pin := if u.1 ∈ L then (if u.2 ∈ L then L else L ++ [u.2]) else (if u.2 ∈ L then L ++ [u.1] else L)
def lround (ws : List Sw) (L : List Pin) : List Pin := ws.foldl lstep L
def lrounds (ws : List Sw) (p : Pin) : Nat → List Pin
  | 0 => [p]
  | n + 1 => lround ws (lrounds ws p n)
def clo (ws : List Sw) (L : List Pin) : Prop := ∀ u ∈ ws, u.1 ∈ L ↔ u.2 ∈ L
def cnt (ws : List Sw) (L : List Pin) : Nat := ws.countP fun u => decide (u.1 ∈ L ∧ u.2 ∈ L)
theorem lstep_or (L : List Pin) (u : Sw) : (lstep L u = L ∧ (u.1 ∈ L ↔ u.2 ∈ L)) ∨ ∃ x y, lstep L u = L ++ [x] ∧ x ∉ L ∧ y ∈ L ∧ ((u.1 = x ∧ u.2 = y) ∨ (u.1 = y ∧ u.2 = x)) := by
  unfold lstep
  by_cases h1 : u.1 ∈ L
  · by_cases h2 : u.2 ∈ L
    · rw [if_pos h1, if_pos h2]
      exact .inl ⟨rfl, by simp [h1, h2]⟩
    · rw [if_pos h1, if_neg h2]
      exact .inr ⟨u.2, u.1, rfl, h2, h1, .inr ⟨rfl, rfl⟩⟩
  · by_cases h2 : u.2 ∈ L
    · rw [if_neg h1, if_pos h2]
      exact .inr ⟨u.1, u.2, rfl, h1, h2, .inl ⟨rfl, rfl⟩⟩
    · rw [if_neg h1, if_neg h2]
      exact .inl ⟨rfl, by simp [h1, h2]⟩
theorem countP_lt {α : Type} {P Q : α → Bool} : ∀ {l : List α}, (∀ x ∈ l, P x = true → Q x = true) → (∃ x ∈ l, P x = false ∧ Q x = true) → l.countP P < l.countP Q
  | [], _, h => by
    obtain ⟨_, z, _⟩ := h
    cases z
  | a :: l, h1, h2 => by
    have mono : l.countP P ≤ l.countP Q := List.countP_mono_left fun x hx => h1 x (List.mem_cons_of_mem _ hx)
    rw [List.countP_cons, List.countP_cons]
    obtain ⟨x, hx, hp, hq⟩ := h2
    rcases List.mem_cons.mp hx with rfl | hx
    · rw [hp, hq]
      simp
      omega
    · have := countP_lt (fun x hx => h1 x (List.mem_cons_of_mem _ hx)) ⟨x, hx, hp, hq⟩
      have ha := h1 a List.mem_cons_self
      cases hpa : P a with
      | true =>
        rw [ha hpa]
        simp
        omega
      | false =>
        simp
        omega
/-- what holds of a lot while it grows -/
structure LotOk (ws : List Sw) (p : Pin) (L : List Pin) : Prop where
  st : p ∈ L
  one : L.Nodup
  rch : ∀ q ∈ L, Rch ws p q
  few : L.length ≤ cnt ws L + 1
theorem LotOk.step {ws : List Sw} {p : Pin} {L : List Pin} {u : Sw} (h : LotOk ws p L) (hu : u ∈ ws) : LotOk ws p (lstep L u) := by
  rcases lstep_or L u with ⟨e, _⟩ | ⟨x, y, e, hx, hy, hxy⟩
  · rw [e]
    exact h
  · rw [e]
    refine ⟨List.mem_append_left _ h.st, List.nodup_append.mpr ⟨h.one, List.pairwise_singleton _ _, fun a ha b hb z => by
      rw [List.mem_singleton] at hb
      exact hx (hb ▸ z ▸ ha)⟩, fun q hq => ?_, ?_⟩
    · rcases List.mem_append.mp hq with hq | hq
      · exact h.rch q hq
      · rw [List.mem_singleton.mp hq]
        exact .step (h.rch y hy) ⟨u, hu, hxy.elim (fun z => .inr ⟨z.2, z.1⟩) fun z => .inl ⟨z.1, z.2⟩⟩
    · have lt : cnt ws L < cnt ws (L ++ [x]) := by
        unfold cnt
        refine countP_lt (fun v _ hv => ?_) ⟨u, hu, ?_, ?_⟩
        · have hv := of_decide_eq_true hv
          exact decide_eq_true ⟨List.mem_append_left _ hv.1, List.mem_append_left _ hv.2⟩
        · refine decide_eq_false fun z => hx ?_
          rcases hxy with ⟨e1, _⟩ | ⟨_, e2⟩
          · exact e1 ▸ z.1
          · exact e2 ▸ z.2
        · refine decide_eq_true ?_
          rcases hxy with ⟨e1, e2⟩ | ⟨e1, e2⟩
          · rw [e1, e2]
            exact ⟨List.mem_append_right _ (List.mem_singleton.mpr rfl), List.mem_append_left _ hy⟩
          · rw [e1, e2]
            exact ⟨List.mem_append_left _ hy, List.mem_append_right _ (List.mem_singleton.mpr rfl)⟩
      rw [List.length_append, List.length_singleton]
      have := h.few
      omega
theorem LotOk.fold {ws : List Sw} {p : Pin} : ∀ {vs : List Sw} {L : List Pin}, LotOk ws p L → (∀ u ∈ vs, u ∈ ws) → LotOk ws p (vs.foldl lstep L)
  | [], _, h, _ => h
  | u :: vs, L, h, hv => by
    rw [List.foldl_cons]
    exact LotOk.fold (h.step (hv u List.mem_cons_self)) fun w hw => hv w (List.mem_cons_of_mem _ hw)
theorem fold_len : ∀ (vs : List Sw) (L : List Pin), L.length ≤ (vs.foldl lstep L).length ∧ ((vs.foldl lstep L).length = L.length → vs.foldl lstep L = L ∧ clo vs L)
  | [], L => ⟨Nat.le_refl _, fun _ => ⟨rfl, fun _ z => by cases z⟩⟩
  | u :: vs, L => by
    rw [List.foldl_cons]
    obtain ⟨h1, h2⟩ := fold_len vs (lstep L u)
    rcases lstep_or L u with ⟨e, hc⟩ | ⟨x, y, e, _⟩
    · rw [e] at h1 h2 ⊢
      refine ⟨h1, fun z => ?_⟩
      obtain ⟨g1, g2⟩ := h2 z
      refine ⟨g1, fun w hw => ?_⟩
      rcases List.mem_cons.mp hw with rfl | hw
      · exact hc
      · exact g2 w hw
    · rw [e] at h1 h2 ⊢
      rw [List.length_append, List.length_singleton] at h1
      exact ⟨by omega, fun z => by omega⟩
theorem fold_clo : ∀ (vs : List Sw) (L : List Pin), clo vs L → vs.foldl lstep L = L
  | [], _, _ => rfl
  | u :: vs, L, h => by
    rw [List.foldl_cons]
    have hc := h u List.mem_cons_self
    have e : lstep L u = L := by
      rcases lstep_or L u with ⟨e, _⟩ | ⟨x, y, e, hx, hy, hxy⟩
      · exact e
      · rcases hxy with ⟨e1, e2⟩ | ⟨e1, e2⟩
        · exact absurd (e1 ▸ hc.mpr (e2 ▸ hy)) hx
        · exact absurd (e2 ▸ hc.mp (e1 ▸ hy)) hx
    rw [e]
    exact fold_clo vs L fun w hw => h w (List.mem_cons_of_mem _ hw)
theorem rounds_ok (ws : List Sw) (p : Pin) : ∀ n, LotOk ws p (lrounds ws p n)
  | 0 => ⟨List.mem_singleton.mpr rfl, List.pairwise_singleton _ _, fun q hq => by rw [List.mem_singleton.mp hq]; exact .refl, by simp [lrounds]⟩
  | n + 1 => (rounds_ok ws p n).fold fun _ h => h
theorem rounds_len (ws : List Sw) (p : Pin) : ∀ n, clo ws (lrounds ws p n) ∨ n + 1 ≤ (lrounds ws p n).length
  | 0 => .inr (by simp [lrounds])
  | n + 1 => by
    obtain ⟨h1, h2⟩ := fold_len ws (lrounds ws p n)
    show clo ws (ws.foldl lstep (lrounds ws p n)) ∨ _ ≤ (ws.foldl lstep (lrounds ws p n)).length
    rcases rounds_len ws p n with h | h
    · rw [fold_clo ws _ h]
      exact .inl h
    · by_cases e : (ws.foldl lstep (lrounds ws p n)).length = (lrounds ws p n).length
      · obtain ⟨g1, g2⟩ := h2 e
        rw [g1]
        exact .inl g2
      · exact .inr (by omega)
theorem rounds_clo (ws : List Sw) (p : Pin) : clo ws (lrounds ws p ws.length) := by
  rcases rounds_len ws p ws.length with h | h
  · exact h
  · have f := (rounds_ok ws p ws.length).few
    have c : cnt ws (lrounds ws p ws.length) = ws.length := by
      have := List.countP_le_length (p := fun u : Sw => decide (u.1 ∈ lrounds ws p ws.length ∧ u.2 ∈ lrounds ws p ws.length)) (l := ws)
      unfold cnt at f ⊢
      omega
    have all := List.countP_eq_length.mp c
    intro u hu
    have := of_decide_eq_true (all u hu)
    exact ⟨fun _ => this.2, fun _ => this.1⟩
theorem rounds_mem {ws : List Sw} {p q : Pin} : q ∈ lrounds ws p ws.length ↔ Rch ws p q := by
  refine ⟨(rounds_ok ws p _).rch q, fun h => h.closed (rounds_ok ws p _).st fun a b ha hab => ?_⟩
  obtain ⟨u, hu, z⟩ := hab
  have c := rounds_clo ws p u hu
  rcases z with ⟨e1, e2⟩ | ⟨e1, e2⟩
  · exact e2 ▸ c.mp (e1 ▸ ha)
  · exact e2 ▸ c.mpr (e1 ▸ ha)
/-! ### sets of pins, sets of pieces -/
theorem keyD_pins : ∀ l : List Pin, keyDs (l.map pD) = some (l.map kP)
  | [] => rfl
  | p :: l => by
    rw [List.map_cons, keyDs, key_pD, keyD_pins l]
    rfl
theorem keyD_tup (l : List Pin) : keyD (tupP l) = some (.tup (l.map kP)) := by
  show keyD (.tuple (l.map pD)) = _
  rw [keyD, keyD_pins]
  rfl
theorem depK : ∀ l : List Pin, NestedKey.depthAll (l.map kP) ≤ 2
  | [] => by simp [NestedKey.depthAll]
  | p :: l => by
    rw [List.map_cons, NestedKey.depthAll]
    have := depK l
    have : (kP p).depth ≤ 2 := by simp [kP, NestedKey.depth, NestedKey.depthAll]
    omega
theorem keyT_tup (l : List Pin) : KeyT (tupP l) := ⟨⟨_, rfl⟩, _, keyD_tup l, by
  rw [NestedKey.depth]
  have := depK l
  omega⟩
theorem keyT_pin (p : Pin) : KeyT (pD p) := ⟨⟨_, rfl⟩, _, key_pD p, dep_p p⟩
theorem ltA {a b : PyData} (h : dataLt a b = true) : dataLt b a = false := by
  have tot := PySem.W.sortLe_total (listOrd itemOrd) false (fun d : PyData => PySem.W.keyToks d)
  have := tot.total a b
  cases hh : dataLt b a with
  | false => rfl
  | true =>
    have z1 : leD a b = false := by unfold leD; rw [hh]; rfl
    have z2 : leD b a = false := by unfold leD; rw [h]; rfl
    have t : leD a b = true ∨ leD b a = true := this
    rw [z1, z2] at t
    rcases t with t | t <;> cases t
theorem setP (ws : List Sw) (hl : ws.length ≤ 400) : GS.SetD ((pinL ws).map pD) := ⟨fun d hd => by
  obtain ⟨p, _, rfl⟩ := List.mem_map.mp hd
  exact keyT_pin p, imm_pins _, fun d hd e he h => by
  obtain ⟨p, _, rfl⟩ := List.mem_map.mp hd
  obtain ⟨q, _, rfl⟩ := List.mem_map.mp he
  rw [key_pD, key_pD] at h
  rw [kP_inj (Option.some.inj h)], by rw [List.length_map, pinL_len]; omega⟩
theorem srtSP (ws : List Sw) : GS.Srt ((srtP (pks ws)).map pD) ((pinL ws).map pD) := ⟨List.pairwise_map.mpr ((srtP_lt ws).imp fun h e => by
  rw [e] at h
  have := ltA h
  rw [h] at this
  cases this), fun d => by
  simp only [List.mem_map, srtP_mem, mem_pinL], List.pairwise_map.mpr (srtP_up _)⟩
def lotsL (ws : List Sw) (ps : List Pin) : List PyData := ps.map fun p => .tuple ((srtP (lrounds ws p ws.length)).map pD)
theorem lot_eq {ws : List Sw} {p : Pin} (hp : p ∈ pks ws) : PyData.tuple ((srtP (lrounds ws p ws.length)).map pD) = tupP (comp ws p) := by
  rw [comp_of hp (rounds_ok ws p _).one fun q => rounds_mem]
  rfl
theorem mem_lots {ws : List Sw} {d : PyData} : d ∈ lotsL ws (srtP (pks ws)) ↔ d ∈ (pcs ws).map tupP := by
  unfold lotsL
  rw [List.mem_map, List.mem_map]
  constructor
  · rintro ⟨p, hp, rfl⟩
    have hp := srtP_mem.mp hp
    exact ⟨comp ws p, pcs_all hp, (lot_eq hp).symm⟩
  · rintro ⟨x, hx, rfl⟩
    obtain ⟨p, hp, t, _, e⟩ := (pcs_up ws).2 x hx
    exact ⟨p, srtP_mem.mpr hp, by rw [lot_eq hp, e]⟩
theorem lots_of {ws : List Sw} {d : PyData} (h : d ∈ lotsL ws (srtP (pks ws))) : ∃ p t, d = tupP (p :: t) ∧ (p :: t) ∈ pcs ws ∧ (p :: t).length ≤ (pks ws).length := by
  obtain ⟨x, hx, rfl⟩ := List.mem_map.mp (mem_lots.mp h)
  obtain ⟨p, hp, t, e, e2⟩ := (pcs_up ws).2 x hx
  exact ⟨p, t, by rw [e], e ▸ hx, by rw [← e, e2]; exact comp_len ws p⟩
theorem srtLots (ws : List Sw) : GS.Srt ((pcs ws).map tupP) (lotsL ws (srtP (pks ws))) := ⟨List.pairwise_map.mpr ((pcs_up ws).1.imp fun h e => by
  rw [e] at h
  have := ltA h
  rw [h] at this
  cases this), fun d => mem_lots.symm, List.pairwise_map.mpr ((pcs_up ws).1.imp fun h => by
  unfold leD
  rw [ltA h]
  rfl)⟩
theorem pw_cases {α : Type} {R : α → α → Prop} : ∀ {l : List α}, l.Pairwise R → ∀ a ∈ l, ∀ b ∈ l, a = b ∨ R a b ∨ R b a
  | [], _, a, ha, _, _ => by cases ha
  | x :: l, h, a, ha, b, hb => by
    rcases List.mem_cons.mp ha with e | ha2
    · rcases List.mem_cons.mp hb with e' | hb2
      · exact .inl (e.trans e'.symm)
      · exact .inr (.inl (e ▸ List.rel_of_pairwise_cons h hb2))
    · rcases List.mem_cons.mp hb with e' | hb2
      · exact .inr (.inr (e' ▸ List.rel_of_pairwise_cons h ha2))
      · exact pw_cases (List.pairwise_cons.mp h).2 a ha2 b hb2
theorem antiLots {ws : List Sw} : ∀ a ∈ lotsL ws (srtP (pks ws)), ∀ b ∈ lotsL ws (srtP (pks ws)), leD a b = true → leD b a = true → a = b := fun a ha b hb h1 h2 => by
  obtain ⟨x, hx, rfl⟩ := List.mem_map.mp (mem_lots.mp ha)
  obtain ⟨y, hy, rfl⟩ := List.mem_map.mp (mem_lots.mp hb)
  unfold leD at h1 h2
  rcases pw_cases (pcs_up ws).1 x hx y hy with e | e | e
  · rw [e]
  · rw [e] at h2
    cases h2
  · rw [e] at h1
    cases h1
theorem setLots (ws : List Sw) (hl : ws.length ≤ 400) : GS.SetD (lotsL ws (srtP (pks ws))) := ⟨fun d hd => by
  obtain ⟨p, t, rfl, _⟩ := lots_of hd
  exact keyT_tup _, by
  have gen : ∀ ds : List PyData, (∀ d ∈ ds, imm d = true) → immAll ds = true := fun ds h => immAll_of h
  exact gen _ fun d hd => by
    obtain ⟨p, t, rfl, _⟩ := lots_of hd
    exact imm_tupP _, fun d hd e he h => by
  obtain ⟨p, t, rfl, _⟩ := lots_of hd
  obtain ⟨p', t', rfl, _⟩ := lots_of he
  rw [keyD_tup, keyD_tup] at h
  have h := Option.some.inj h
  injection h with h
  rw [kP_map h], by
  unfold lotsL
  rw [List.length_map, (srtP_perm _).length_eq]
  have := pks_len ws []
  simp only [List.length_nil] at this
  unfold pks
  omega⟩
theorem alikeLots (ws : List Sw) : AllAlike (lotsL ws (srtP (pks ws))) := fun d hd e he => by
  obtain ⟨p, t, rfl, _⟩ := lots_of hd
  obtain ⟨p', t', rfl, _⟩ := lots_of he
  show alike (.tuple _) (.tuple _) = true
  rw [alike]
  exact alike_pins _ _
theorem sortableLots (ws : List Sw) : Sortable (lotsL ws (srtP (pks ws))) := .inl fun d hd => by
  obtain ⟨p, t, rfl, _⟩ := lots_of hd
  exact ⟨_, _, rfl⟩
theorem dpP : ∀ l : List Pin, PyData.depthAll (l.map pD) ≤ 3
  | [] => by simp [PyData.depthAll]
  | p :: l => by
    rw [List.map_cons, PyData.depthAll]
    have := dpP l
    have : (pD p).depth ≤ 3 := by simp [pD, PyData.depth, PyData.depthAll]
    omega
theorem depthLots (ws : List Sw) : ∀ d ∈ lotsL ws (srtP (pks ws)), d.depth ≤ 50 := fun d hd => by
  obtain ⟨p, t, rfl, _⟩ := lots_of hd
  show PyData.depth (.tuple ((p :: t).map pD)) ≤ 50
  rw [PyData.depth]
  have := dpP (p :: t)
  omega
end K16
set_option Elab.async false
set_option linter.all false
set_option maxRecDepth 100000
set_option maxHeartbeats 4000000
namespace K16
open PySem PySem.Spec PyProof.Rows L2 Evl DL LamX
local macro_rules | `(tactic| walk_at "dl") => `(tactic| first
  | exact ev_c | exact ev_var rfl | exact eda_nil
  | exact ed_var rfl (by assumption)
  | exact ed_int ev_c | exact ed_int (ev_var rfl)
  | (refine eda_cons ?_ ?_ <;> walk_at "dl")
  | (refine ed_int ?_; walk_at "dl")
  | (refine ev_op ?_ ?_ rv_I0 <;> walk_at "dl"))

open PySem.W (dataLt dataLe alike alikeAll AllAlike Sortable)
def R_law_lots (ds : List PyData) (r : List PyData) : Prop := ∃ ws : List Sw, ds = [.tuple (ws.map swD)] ∧ ws.length ≤ 400 ∧ r = (pcs ws).map tupP
theorem lstep_len (L : List Pin) (u : Sw) : (lstep L u).length ≤ L.length + 1 := by
  rcases lstep_or L u with ⟨e, _⟩ | ⟨x, y, e, _⟩ <;> rw [e] <;> simp
theorem lots_len {ws : List Sw} {p : Pin} {L : List Pin} (h : LotOk ws p L) : L.length ≤ ws.length + 1 := by
  have := h.few
  have : cnt ws L ≤ ws.length := List.countP_le_length
  omega
/-- what the law's comprehension adds -/
def addL (L : List Pin) (u : Sw) : List PyData := ((List.range 2).filter fun i => (decide ((if i = 0 then u.1 else u.2) ∈ L) && !decide ((if i = 0 then u.2 else u.1) ∈ L))).map fun i => pD (if i = 0 then u.2 else u.1)
theorem addL_eq (L : List Pin) (u : Sw) : L.map pD ++ addL L u = (lstep L u).map pD := by
  have r2 : List.range 2 = [0, 1] := by decide
  unfold addL lstep
  rw [r2]
  by_cases h1 : u.1 ∈ L
  · by_cases h2 : u.2 ∈ L
    · simp [h1, h2]
    · simp [h1, h2]
  · by_cases h2 : u.2 ∈ L
    · simp [h1, h2]
    · simp [h1, h2]
section
variable {P : Program} {w : World} {K : PySem.W.Frag} {mg : Str → Option Value} {base : Heap}

theorem et_andL {σ : L2.St} {H : Hp} {t u : TT} {a b : Bool} (h : EvT t σ H a) (h2 : a = true → EvT u σ H b) : EvT (tAnd t u) σ H (a && b) := fun H1 e Q q => h H1 e _ fun H2 e2 => by
  cases a with
  | false => exact q H2 e2
  | true => exact h2 rfl H2 (e.trans e2) _ fun H3 e3 => q H3 (e2.trans e3)
abbrev s__law_lots : Stmt := topS 50
abbrev N__law_lots : List Str := ["_law_joined_here", "_law_found", "_law_pin", "_law_lot", "_law_turn", "_law_one", "_law_other", "_law_near", "_law_far"]
theorem sc__law_lots : FnScope N__law_lots ["_law_joined_here"] (defScope s__law_lots) := ⟨rfl, rfl, rfl, by decide +kernel, rfl, by decide +kernel, by decide +kernel⟩
theorem ok__law_lots {f : Addr} {fd : FuncData} (F : Fun K "_law_lots" "_law_lots" s__law_lots f fd) (T : Txt mg)
     (D__law_pins : DF P w K mg base "_law_pins" 1 ["_law_told"] (spN K 1 R_law_pins))  :
    FnOk P w K mg base CX0 2 f fd ["_law_joined_here"] (spN K 1 R_law_lots) := by
  refine F.ok sc__law_lots (fun vs H Q E h => spN_len h) (fun cdv A outer s H vs Q E hr h => ?_)
  obtain ⟨ds, r, hd, _, ⟨ws, rfl, few, rfl⟩, k⟩ := h
  obtain ⟨v, rfl, hv⟩ := dpa_one hd
  refine ⟨_, (pss_cons (ps_set (i := 1) sc__law_lots.nd rfl (.inl rfl) (pe_lst pa_nil))
      (pss_cons (ps_for PassesOwn.never rfl (pi_list (pe_callB (GS.cr_sortedN rfl (hu64 hr)) (by rfl) T.b_sorted (by decide +kernel) (pa_cons (pe_callTy (GS.cr_setN rfl (hu64 hr)) (by rfl) T.b_set (by decide +kernel) (pa_cons (pe_D D__law_pins (hr.mono (by decide)) (by rfl) (pa_cons (pv 0) pa_nil)) pa_nil)) pa_nil))) (pg_name (i := 2) sc__law_lots.nd rfl (Or.inl rfl)) (pss_cons (ps_set (i := 3) sc__law_lots.nd rfl (.inr rfl) (pe_lst (pa_cons (pv 2) pa_nil)))
      (pss_cons (ps_for PassesOwn.never rfl (pi_range1 (by rfl) T.b_range (pa_cons (pe_callB call_len_seq (by rfl) T.b_len PySem.boot_len (pa_cons (pv 0) pa_nil)) pa_nil)) (pg_name (i := 4) sc__law_lots.nd rfl (Or.inl rfl)) (pss_one (ps_for PassesOwn.never rfl (pi_tup (pv 0)) (pg_tup rfl (pgs_cons (pg_name (i := 5) sc__law_lots.nd rfl (Or.inl rfl)) (pgs_cons (pg_name (i := 6) sc__law_lots.nd rfl (Or.inl rfl)) pgs_nil))) (pss_one (ps_set (i := 3) sc__law_lots.nd rfl (.inr rfl) (pe_op op_cat (pv 3) (pe_lc (own := [("_law_near", 7), ("_law_far", 8)]) (g := (gTup K 2 (gCons (gName 7) (gCons (gName 8) gNil)))) (tt := _) rfl sc__law_lots.nd (pi_list (pe_lst (pa_cons (pe_tup (pa_cons (pv 5) (pa_cons (pv 6) pa_nil))) (pa_cons (pe_tup (pa_cons (pv 6) (pa_cons (pv 5) pa_nil))) pa_nil)))) (blkOk_by (N := N__law_lots) (sc := defScope s__law_lots) (by decide +kernel)) (fun _ _ _ _ _ => (pg_tup rfl (pgs_cons (pg_name (i := 7) sc__law_lots.nd rfl (Or.inl rfl)) (pgs_cons (pg_name (i := 8) sc__law_lots.nd rfl (Or.inl rfl)) pgs_nil)))) (fun _ _ _ _ _ => (pts_one (PW.pt (pw_and (pt_cmpR (op_inDL K rfl (hu65 hr)) (pv 7) (pv 3) (by rfl)) (pw_and1 (pt_cmpR (op_notInDL K rfl (hu65 hr)) (pv 8) (pv 3) (by rfl))))))) (fun _ _ _ _ _ => (pv 8)))))))))
      (pss_one (ps_expr (pe_bm PySem.F.plainAttrs_list PySem.F.slot_list_append PySem.F.type_list_append mt_append (pv 1) (pa_cons (pe_callTy call_tuple_of (by rfl) T.b_tuple (by decide +kernel) (pa_cons (pe_callB (cr_sortedD (hu64 hr)) (by rfl) T.b_sorted (by decide +kernel) (pa_cons (pv 3) pa_nil)) pa_nil)) pa_nil)))))))
      (pss_one (ps_ret (pe_callB (GS.cr_sortedN rfl (hu64 hr)) (by rfl) T.b_sorted (by decide +kernel) (pa_cons (pe_callTy (GS.cr_setN rfl (hu64 hr)) (by rfl) T.b_set (by decide +kernel) (pa_cons (pv 1) pa_nil)) pa_nil)))))), ?_⟩
  have lpk : (pks ws).length ≤ 800 := by
    have := pks_len ws []
    simp only [List.length_nil] at this
    unfold pks
    omega
  refine qn_asg (K := K) (ds := []) (en_lst eda_nil (by simp)) fun F vf H1 hF e1 h1 hd1 => ?_
  refine e_for (K := K) (ds := (srtP (pks ws)).map pD) (S := [F]) (ei_new (Ls.one h1) (GS.en_sortedSet (K := K) (w := w) (.inl (EvN.toD (en_call (R := R_law_pins) (ds := [.tuple (ws.map swD)]) (eda_cons (ed_var (k := 0) (v := v) rfl (dp_ex e1 _ _ hv)) eda_nil) rfl ⟨ws, rfl, few, rfl⟩))) (setP ws few) (alike_ps _) (sortable_ps _) (depth_ps _) (fun a ha b hb h2 h3 => by
      obtain ⟨p, _, rfl⟩ := List.mem_map.mp ha
      obtain ⟨q, _, rfl⟩ := List.mem_map.mp hb
      rw [leP_anti h2 h3]) (srtSP ws)) (imm_pins _))
    (fun H2 i σ' Ha => Xp [F] H2 Ha ∧ (∃ us, Ha F = some (.lst us) ∧ DpAll K Ha us (lotsL ws ((srtP (pks ws)).take i))) ∧ ∃ y2 y3 y4 y5 y6 y7 y8, σ' = [some v, some (.ref F), y2, y3, y4, y5, y6, y7, y8])
    (fun H2 e2 => ⟨Xp.refl _ _, ⟨vf, e2 _ _ h1, dpa_ex e2 _ _ hd1⟩, none, none, none, none, none, none, none, rfl⟩) (fun H2 i σ' Ha _ p => p.1) ?_ ?_
  · rintro H2 i d x σ' Ha Hb e2 hx ⟨x1, ⟨us, hu, hdu⟩, y2, y3, y4, y5, y6, y7, y8, rfl⟩ e3 hy
    rw [List.getElem?_map] at hx
    obtain ⟨p, hp, rfl⟩ := Option.map_eq_some_iff.mp hx
    have tk : (srtP (pks ws)).take (i + 1) = (srtP (pks ws)).take i ++ [p] := by rw [List.take_add_one, hp]; rfl
    have hvb : Dp K Hb v (.tuple (ws.map swD)) := by
      have t : Tx H2 Ha := x1.tx ((Ls.one h1).ex e2)
      exact dp_ex e3 _ _ (dp_tx t _ _ (by simpa [imm] using immAll_map imm_sw ws) (dp_ex (e1.trans e2) _ _ hv))
    refine qn_asg (K := K) (ds := [pD p]) (en_lst (eda_cons (ed_var (k := 2) (v := x) rfl hy) eda_nil) (by simp)) fun l0 w0 H3 hl0 e4 h3 hd3 => ?_
    dsimp only [List.set_cons_succ, List.set_cons_zero]
    refine e_for (K := K) (S := []) (ei_rng1 (n := (ws.length : Int)) (eda_cons (ed_int (ev_is (ev_lenT (K := K) (ds := ws.map swD) (ed_var (k := 0) (v := v) rfl (dp_ex e4 _ _ hvb))) (by rw [List.length_map]))) eda_nil) (by omega)) (fun H4 j σ' Hc => Ex H4 Hc ∧ (∃ l ls, Hc l = some (.lst ls) ∧ DpAll K Hc ls ((lrounds ws p j).map pD) ∧ ∃ z4 z5 z6 z7 z8, σ' = [some v, some (.ref F), some x, some (.ref l), z4, z5, z6, z7, z8]))
      (fun H4 e5 => ⟨Ex.refl _, l0, w0, e5 _ _ h3, dpa_ex e5 _ _ hd3, y4, y5, y6, y7, y8, rfl⟩) (fun H4 j σ' Hc _ p => Xp.of_ex p.1) ?_ ?_
    · rintro H4 j d y σ' Hc Hd e5 hg ⟨p1, l, ls, hl, hdl, z4, z5, z6, z7, z8, rfl⟩ e6 hyj
      have vd : Dp K Hd v (.tuple (ws.map swD)) := dp_ex (((e4.trans e5).trans p1).trans e6) _ _ hvb
      refine d_for (K := K) (ds := ws.map swD) (S := []) (ei_tupD (ed_var (k := 0) (v := v) rfl vd)) (fun H5 m σ' He => Ex H5 He ∧ (∃ l ls, He l = some (.lst ls) ∧ DpAll K He ls (((ws.take m).foldl lstep (lrounds ws p j)).map pD) ∧ ∃ z5 z6 z7 z8, σ' = [some v, some (.ref F), some x, some (.ref l), some y, z5, z6, z7, z8]))
        (fun H5 e7 => ⟨Ex.refl _, l, ls, (e6.trans e7) _ _ hl, dpa_ex (e6.trans e7) _ _ hdl, z5, z6, z7, z8, rfl⟩) (fun H5 m σ' He _ p => Xp.of_ex p.1) ?_ ?_
      · rintro H5 m d y' σ' He Hf e7 hg2 ⟨q1, l, ls, hl, hdl, z5, z6, z7, z8, rfl⟩ e8 hy2
        rw [List.getElem?_map] at hg2
        obtain ⟨u, hu2, rfl⟩ := Option.map_eq_some_iff.mp hg2
        have tk2 : ws.take (m + 1) = ws.take m ++ [u] := by rw [List.take_add_one, hu2]; rfl
        have lk := (rounds_ok ws p j).fold (vs := ws.take m) fun u hu => List.mem_of_mem_take hu
        have ll := lots_len lk
        rw [tk2, List.foldl_append, List.foldl_cons, List.foldl_nil]
        generalize (ws.take m).foldl lstep (lrounds ws p j) = L at *
        refine g_two hy2 fun w1 w2 u1 u2 => ?_
        have hl2 := e8 _ _ hl
        have hdl2 := dpa_ex e8 _ _ hdl
        have la : (addL L u).length ≤ 2 := by
          unfold addL
          rw [List.length_map]
          exact List.length_filter_le _ _
        refine (en_cat (K := K) (evq_varN (i := 3) (p := l) rfl hl2 hdl2) (EvN.toQ (en_is (en_lcD (wi := iList K (tLst (tCons (tTup (tCons (tVar 5) (tCons (tVar 6) tNil))) (tCons (tTup (tCons (tVar 6) (tCons (tVar 5) tNil))) tNil)))) (ds := [.tuple [pD u.1, pD u.2], .tuple [pD u.2, pD u.1]]) (ei_new (Ls.nil _) (en_lst (eda_cons (ed_tup (eda_cons (ed_var (k := 5) (v := w1) rfl u1) (eda_cons (ed_var (k := 6) (v := w2) rfl u2) eda_nil)) (by simp)) (eda_cons (ed_tup (eda_cons (ed_var (k := 6) (v := w2) rfl u2) (eda_cons (ed_var (k := 5) (v := w1) rfl u1) eda_nil)) (by simp)) eda_nil)) (by simp)) (by simp [imm, immAll, imm_pin])) (by simp) (fun i => (decide ((if i = 0 then u.1 else u.2) ∈ L) && !decide ((if i = 0 then u.2 else u.1) ∈ L))) (fun i => pD (if i = 0 then u.2 else u.1)) (fun _ _ => imm_pin _) fun H6 i d x' Hb' Q' e9 hg3 e10 hx' kk => ?_) (show _ = addL L u from rfl))) (by rw [List.length_map]; omega)) Hf (Ex.refl _) _ fun l' ls' Hg hl' eg hg' hdg' => ?_
        · have go : ∀ (a b : Pin) (Q0 : Prop), d = .tuple [pD a, pD b] → (if i = 0 then u.1 else u.2) = a → (if i = 0 then u.2 else u.1) = b → gTup K 2 (gCons (gName 7) (gCons (gName 8) gNil)) x' (wipe [some v, some (.ref F), some x, some (.ref l), some y, some w1, some w2, z7, z8] [7, 8]) Hb' Q' := fun a b _ hd he hf => by
            subst hd
            refine g_two hx' fun a1 a2 b1 b2 => ?_
            refine kk _ Hb' (Ex.refl _) rfl ?_ fun _ => by
              rw [hf]
              exact ed_var (k := 8) (v := a2) rfl b2
            have hl6 := dpa_ex (e9.trans e10) _ _ hdl2
            have h6 := (e9.trans e10) _ _ hl2
            rw [he, hf]
            exact et_andL (et_test (ev_inP (neg := false) (ed_var (k := 7) (v := a1) rfl b1) (ed_var (k := 3) (v := .ref l) rfl (.lst (sq_of h6) hl6)))) fun _ => et_test (ev_inP (neg := true) (ed_var (k := 8) (v := a2) rfl b2) (ed_var (k := 3) (v := .ref l) rfl (.lst (sq_of h6) hl6)))
          match i, hg3 with
          | 0, hg3 =>
            cases hg3
            exact go u.1 u.2 True rfl rfl rfl
          | 1, hg3 =>
            cases hg3
            exact go u.2 u.1 True rfl rfl rfl
          | _ + 2, hg3 => simp at hg3
        · rw [addL_eq] at hdg'
          exact ⟨(q1.trans e8).trans eg, l', ls', hg', hdg', _, _, _, _, rfl⟩
      · rintro H5 σ' He e7 ⟨q1, l, ls, hl, hdl, z5, z6, z7, z8, rfl⟩
        rw [List.length_map, List.take_of_length_le (Nat.le_refl _)] at hdl
        exact ⟨((p1.trans e6).trans e7).trans q1, l, ls, hl, hdl, _, _, _, _, _, rfl⟩
    · rintro H4 σ' Hc e5 ⟨p1, l, ls, hl, hdl, z4, z5, z6, z7, z8, rfl⟩
      rw [List.length_map, List.length_range, Int.toNat_natCast] at hdl
      have lk := rounds_ok ws p ws.length
      have ll := lots_len lk
      have E := (((e3.trans e4).trans e5).trans p1)
      have hu2 := E _ _ hu
      have hdu2 := dpa_ex E _ _ hdu
      have lu := dpa_len hdu2
      have il : i < 800 := by
        have := (List.getElem?_eq_some_iff.mp hp).1
        rw [(srtP_perm _).length_eq] at this
        omega
      have iml : ∀ ps : List Pin, immAll (lotsL ws ps) = true := fun ps => immAll_of fun d hd => by
        obtain ⟨q, _, rfl⟩ := List.mem_map.mp hd
        simpa [imm] using imm_pins _
      refine d_app (K := K) (l := F) (xs := us) (d := .tuple ((srtP (lrounds ws p ws.length)).map pD)) hu2 (ev_var rfl) (ed_tupleOf (by
        rw [← srtP_data]
        exact EvN.toD (en_sortedD (K := K) (ds := (lrounds ws p ws.length).map pD) (ed_var (k := 3) (v := .ref l) rfl (.lst (sq_of hl) hdl)) (alike_ps _) (sortable_ps _) (depth_ps _)))) ?_ fun v9 H9 e10 hv9 => ?_
      · rw [lu]
        unfold lotsL
        rw [List.length_map, List.length_take]
        omega
      · have tR : Tx H9 (upd H9 F (.lst (us ++ [v9]))) := Tx.lst (e10 _ _ hu2)
        refine ⟨Xp.upd (x1.then (E.trans e10)) (by simp), ⟨us ++ [v9], upd_same, ?_⟩, _, _, _, _, _, _, _, rfl⟩
        rw [tk]
        unfold lotsL at hdu2 ⊢
        rw [List.map_append]
        exact dpa_app (dpa_tx tR _ _ (iml _) (dpa_ex e10 _ _ hdu2)) (.cons (dp_tx tR _ _ (by simpa [imm] using imm_pins _) hv9) .nil)
  · rintro H2 σ' Ha e2 ⟨x1, ⟨us, hu, hdu⟩, y2, y3, y4, y5, y6, y7, y8, rfl⟩
    rw [List.length_map, List.take_of_length_le (Nat.le_refl _)] at hdu
    refine n_ret (K := K) (GS.en_sortedSet (K := K) (w := w) (.inl (ed_var (k := 1) (v := .ref F) rfl (.lst (sq_of hu) hdu))) (setLots ws few) (alikeLots ws) (sortableLots ws) (depthLots ws) antiLots (srtLots ws)) fun p vs H9 hp e9 h9 hd9 => ?_
    have fr : H p = none := by
      cases z : H p with
      | none => rfl
      | some o =>
        have nF : p ≠ F := fun z' => by
          rw [z', hu] at hp
          cases hp
        have := x1 p o ((e1.trans e2) _ _ z) (by simpa using nF)
        rw [hp] at this
        cases this
    refine k p vs H9 fr (fun b o hb => e9 _ _ (x1 b o ((e1.trans e2) _ _ hb) ?_)) h9 hd9
    have : b ≠ F := fun z => by
      rw [z, hF] at hb
      cases hb
    simpa using this

end
end K16
set_option Elab.async false
set_option linter.all false
set_option maxRecDepth 100000
set_option maxHeartbeats 4000000
namespace K16
open PySem PySem.Spec PyProof.Rows L2 Evl DL
local macro_rules | `(tactic| walk_at "dl") => `(tactic| first
  | exact ev_c | exact ev_var rfl | exact eda_nil
  | exact ed_var rfl (by assumption)
  | exact ed_int ev_c | exact ed_int (ev_var rfl)
  | (refine eda_cons ?_ ?_ <;> walk_at "dl")
  | (refine ed_int ?_; walk_at "dl")
  | (refine ev_op ?_ ?_ rv_I0 <;> walk_at "dl"))

section
variable {P : Program} {w : World} {K : PySem.W.Frag} {mg : Str → Option Value} {base : Heap}
def spOdd (K : PySem.W.Frag) : Sp := fun vs H Q _ => ∃ (st lg cl : Addr) (n : Nat), vs = [.ref st] ∧ n ≤ 9000 ∧ StK st lg cl n H ∧ ∀ v d H', StI K st lg H' v d → Xp [st, lg] H H' → StK st lg cl (n + 1) H' → Q v H'
abbrev s__law_odd : Stmt := topS 42
abbrev N__law_odd : List Str := ["_law_state"]
theorem sc__law_odd : FnScope N__law_odd ["_law_state"] (defScope s__law_odd) := ⟨rfl, rfl, rfl, by decide +kernel, rfl, by decide +kernel, by decide +kernel⟩
theorem ok__law_odd {f : Addr} {fd : FuncData} (F : Fun K "_law_odd" "_law_odd" s__law_odd f fd) (T : Txt mg)
    (D__law_pick : DF P w K mg base "_law_pick" 2 ["_law_state", "_law_several"] (spPick K))  :
    FnOk P w K mg base CX0 3 f fd ["_law_state"] (spOdd K) := by
  refine F.ok sc__law_odd (fun vs H Q E h => by obtain ⟨_, _, _, _, rfl, _⟩ := h; rfl) (fun cdv A outer s H vs Q E hr h => ?_)
  obtain ⟨st, lg, cl, n, rfl, hn, hst, k⟩ := h
  refine ⟨_, (pss_one (ps_ret (pe_D D__law_pick (hr.mono (by decide)) (by rfl) (pa_cons (pv 0) (pa_cons (pe_lst (pa_cons pe_non (pa_cons pe_bl (pa_cons pe_bl (pa_cons pe_str (pa_cons pe_str (pa_cons (pe_lst pa_nil) (pa_cons pe_dnewK (pa_cons (pe_tup (pa_cons pe_non pa_nil)) (pa_cons (pe_tup (pa_cons pe_str (pa_cons pe_int pa_nil))) (pa_cons (pe_lst (pa_cons (pe_lst (pa_cons pe_int pa_nil)) pa_nil)) (pa_cons (pe_disp (pps_cons pe_int pe_int pps_nil) (by rfl) (by rfl) (fun z => by cases z) (by decide)) (pa_cons (pe_tup (pa_cons pe_bl pa_nil)) pa_nil))))))))))))) pa_nil))))), ?_⟩
  refine ⟨.ref st, rfl, by show 0 ≤ sizeLine; decide, fun p1 q1 p2 q2 => ⟨by show 1 ≤ sizeLine; decide, fun p3 q3 => ⟨by show 2 ≤ sizeLine; decide, fun p4 q4 => ⟨by show 1 ≤ sizeLine; decide, fun p5 q5 => ⟨by show 1 ≤ sizeLine; decide, fun p6 q6 => fun p7 q7 => ⟨upd_same, [(.inl 0, .int 0)], rfl, by show 1 ≤ 15; decide, by show 1 ≤ sizeLine; decide, fun p8 q8 => ⟨by show 12 ≤ sizeLine; decide, fun p9 q9 => ?_⟩⟩⟩⟩⟩⟩⟩
  have m1 : mergeK [] [((Sum.inl 0 : Key), V.int 0)] = [(Sum.inl 0, .int 0)] := by decide
  rw [m1] at q8 q9 ⊢
  have f1 : upd H p1 (.lst []) p1 = some (.lst []) := upd_same
  have e1 : Ex H (upd H p1 (.lst [])) := Ex.new q1
  generalize upd H p1 (.lst []) = H1 at *
  have f2 : upd H1 p2 (.dK []) p2 = some (.dK []) := upd_same
  have e2 : Ex H1 (upd H1 p2 (.dK [])) := Ex.new q2
  generalize upd H1 p2 (.dK []) = H2 at *
  have f3 : upd H2 p3 (.tup [V.non]) p3 = some (.tup [V.non]) := upd_same
  have e3 : Ex H2 (upd H2 p3 (.tup [V.non])) := Ex.new q3
  generalize upd H2 p3 (.tup [V.non]) = H3 at *
  have f4 : upd H3 p4 (.tup [V.str (Str.ofString "a"), V.int 1]) p4 = some (.tup [V.str (Str.ofString "a"), V.int 1]) := upd_same
  have e4 : Ex H3 (upd H3 p4 (.tup [V.str (Str.ofString "a"), V.int 1])) := Ex.new q4
  generalize upd H3 p4 (.tup [V.str (Str.ofString "a"), V.int 1]) = H4 at *
  have f5 : upd H4 p5 (.lst [V.int 0]) p5 = some (.lst [V.int 0]) := upd_same
  have e5 : Ex H4 (upd H4 p5 (.lst [V.int 0])) := Ex.new q5
  generalize upd H4 p5 (.lst [V.int 0]) = H5 at *
  have f6 : upd H5 p6 (.lst [V.ref p5]) p6 = some (.lst [V.ref p5]) := upd_same
  have e6 : Ex H5 (upd H5 p6 (.lst [V.ref p5])) := Ex.new q6
  generalize upd H5 p6 (.lst [V.ref p5]) = H6 at *
  have f7 : upd (upd H6 p7 (.dK [])) p7 (.dK [(Sum.inl 0, .int 0)]) p7 = some (.dK [(Sum.inl 0, .int 0)]) := upd_same
  have e7 : Ex H6 (upd (upd H6 p7 (.dK [])) p7 (.dK [(Sum.inl 0, .int 0)])) := Ex.mut (Ex.new q7) q7
  generalize upd (upd H6 p7 (.dK [])) p7 (.dK [(Sum.inl 0, .int 0)]) = H7 at *
  have f8 : upd H7 p8 (.tup [V.bl true]) p8 = some (.tup [V.bl true]) := upd_same
  have e8 : Ex H7 (upd H7 p8 (.tup [V.bl true])) := Ex.new q8
  generalize upd H7 p8 (.tup [V.bl true]) = H8 at *
  have e9 := Ex.new (o := .lst [V.non, V.bl true, V.bl false, V.str (Str.ofString "0"), V.str (Str.ofString ""), V.ref p1, V.ref p2, V.ref p3, V.ref p4, V.ref p6, V.ref p7, V.ref p8]) q9
  have s8 : StK st lg cl n H8 := stk_ex ((((((((e1.trans e2).trans e3).trans e4).trans e5).trans e6).trans e7).trans e8)) hst
  have np := stk_ne s8 q9
  refine ⟨st, lg, cl, n, p9, _, rfl, upd_same, np.2.1, by simp, by simp, by omega, stk_ex e9 s8, fun r H' hr x1 s1 => ?_⟩
  have n1 := stk_ne hst q1
  have n2 := stk_ne (stk_ex e1 hst) q2
  have n3 := stk_ne (stk_ex (e1.trans e2) hst) q3
  have n4 := stk_ne (stk_ex ((e1.trans e2).trans e3) hst) q4
  have n5 := stk_ne (stk_ex (((e1.trans e2).trans e3).trans e4) hst) q5
  have n6 := stk_ne (stk_ex ((((e1.trans e2).trans e3).trans e4).trans e5) hst) q6
  have n7 := stk_ne (stk_ex (((((e1.trans e2).trans e3).trans e4).trans e5).trans e6) hst) q7
  have n8 := stk_ne (stk_ex ((((((e1.trans e2).trans e3).trans e4).trans e5).trans e6).trans e7) hst) q8
  have x0 : Xp [st, lg] H H' := (Xp.of_ex ((((((((e1.trans e2).trans e3).trans e4).trans e5).trans e6).trans e7).trans e8).trans e9)).trans x1
  have g1 := e9 _ _ (e8 _ _ (e7 _ _ (e6 _ _ (e5 _ _ (e4 _ _ (e3 _ _ (e2 _ _ f1)))))))
  have g2 := e9 _ _ (e8 _ _ (e7 _ _ (e6 _ _ (e5 _ _ (e4 _ _ (e3 _ _ f2))))))
  have g3 := e9 _ _ (e8 _ _ (e7 _ _ (e6 _ _ (e5 _ _ (e4 _ _ f3)))))
  have g4 := e9 _ _ (e8 _ _ (e7 _ _ (e6 _ _ (e5 _ _ f4))))
  have g5 := e9 _ _ (e8 _ _ (e7 _ _ (e6 _ _ f5)))
  have g6 := e9 _ _ (e8 _ _ (e7 _ _ f6))
  have g7 := e9 _ _ (e8 _ _ f7)
  have g8 := e9 _ _ f8
  simp only [List.mem_cons, List.not_mem_nil, or_false] at hr
  rcases hr with rfl | rfl | rfl | rfl | rfl | rfl | rfl | rfl | rfl | rfl | rfl | rfl
  · exact k _ .none H' (fun _ _ => .dp .non) x0 s1
  · exact k _ (.bool true) H' (fun _ _ => .dp (.bl _)) x0 s1
  · exact k _ (.bool false) H' (fun _ _ => .dp (.bl _)) x0 s1
  · exact k _ (.str (Str.ofString "0")) H' (fun _ _ => .dp (.str _)) x0 s1
  · exact k _ (.str (Str.ofString "")) H' (fun _ _ => .dp (.str _)) x0 s1
  · exact k _ (.list []) H' (fun _ x => .dp (.lst (sq_of (x _ _ (x1 _ _ g1 (by simp [n1.1, n1.2.1])) (by simp [n1.1, n1.2.1]))) .nil)) x0 s1
  · exact k _ (.dict []) H' (fun _ x => .d0 (x _ _ (x1 _ _ g2 (by simp [n2.1, n2.2.1])) (by simp [n2.1, n2.2.1]))) x0 s1
  · exact k _ (.tuple [.none]) H' (fun _ x => .dp (.tup (st_of (x _ _ (x1 _ _ g3 (by simp [n3.1, n3.2.1])) (by simp [n3.1, n3.2.1]))) (.cons .non .nil))) x0 s1
  · exact k _ (.tuple [.str (Str.ofString "a"), .int 1]) H' (fun _ x => .dp (.tup (st_of (x _ _ (x1 _ _ g4 (by simp [n4.1, n4.2.1])) (by simp [n4.1, n4.2.1]))) (.cons (.str _) (.cons (.int _) .nil)))) x0 s1
  · exact k _ (.list [.list [.int 0]]) H' (fun _ x => .dp (.lst (sq_of (x _ _ (x1 _ _ g6 (by simp [n6.1, n6.2.1])) (by simp [n6.1, n6.2.1]))) (.cons (.lst (sq_of (x _ _ (x1 _ _ g5 (by simp [n5.1, n5.2.1])) (by simp [n5.1, n5.2.1]))) (.cons (.int _) .nil)) .nil))) x0 s1
  · exact k _ (.dict [(.int 0, .int 0)]) H' (fun _ x => .d1 (x _ _ (x1 _ _ g7 (by simp [n7.1, n7.2.1])) (by simp [n7.1, n7.2.1]))) x0 s1
  · exact k _ (.tuple [.bool true]) H' (fun _ x => .dp (.tup (st_of (x _ _ (x1 _ _ g8 (by simp [n8.1, n8.2.1])) (by simp [n8.1, n8.2.1]))) (.cons (.bl _) .nil))) x0 s1

end
end K16
set_option Elab.async false
set_option linter.all false
set_option maxRecDepth 100000
set_option maxHeartbeats 4000000
namespace K16
open PySem PySem.Spec PyProof.Rows L2 Evl DL LamX
local macro_rules | `(tactic| walk_at "dl") => `(tactic| first
  | exact ev_c | exact ev_var rfl | exact eda_nil
  | exact ed_var rfl (by assumption)
  | exact ed_int ev_c | exact ed_int (ev_var rfl)
  | (refine eda_cons ?_ ?_ <;> walk_at "dl")
  | (refine ed_int ?_; walk_at "dl")
  | (refine ev_op ?_ ?_ rv_I0 <;> walk_at "dl"))

/-- a list of errors of one class, laid since H0, while lambdas are called -/
structure Er (P : Addr) (q : Str) (C : Addr) (n : Nat) (H0 H : Hp) (l : Addr) : Prop where
  ext : ExB P H0 H
  tab : TabS H P q
  lst : ∃ vs, H l = some (.lst vs) ∧ vs.length = n ∧ ∀ v ∈ vs, ∃ a, v = .ref a ∧ H a = some (ErO (.ref C) a)
  new : H0 l = none
section
variable {K : PySem.W.Frag} {CS C P : Addr} {q : Str} {n : Nat} {H0 H : Hp} {σ : L2.St} {D : Ends} {tz : TS} {l : Addr}
theorem erO_ne_lst {C a : Addr} {vs : List V} : ErO (.ref C) a ≠ .lst vs := fun z => nomatch z
theorem tab_ne {H : Hp} {b : Addr} {o : HO} (t : TabS H P q) (h : H b = some o) (n : ∀ ps, o ≠ .tbl ps) : b ≠ P := fun z => by
  obtain ⟨ps, h1, _⟩ := t
  rw [z, h1] at h
  exact n ps (Option.some.inj h).symm
theorem q_er1 {i : Nat} {pos : Pos} {params : Arguments} {body : Expr} {scope : Scope} {cl : List (Str × Addr)} {tb : XK → TE} (tab : TabS H P q) (kC : PySem.W.exmOne K (.ref C) (.ref CS) = some true)
    (r : ∀ H1, ExB P H H1 → TabS H P q → ∀ (E : XK) (Q : VK), (∀ H2, Ex H1 H2 → E (.ref C) none H2) → tb E σ H1 Q)
    (z : ∀ l H', Er P q C 1 H H' l → tz D (σ.set i (some (.ref l))) H') : tSeq (tAsg (tLst (tCons (tCauL K CS P q pos params body scope cl tb) tNil)) (gName i)) tz D σ H := by
  refine cau_val tab kC (fun H1 xB => r H1 xB tab) fun a H' xB tS hE => ⟨by show 1 ≤ sizeLine; decide, fun l hl => ?_⟩
  have e := Ex.new (o := .lst [.ref a]) hl
  refine z l _ ⟨xB.trans (ExB.of e), tS.ext fun b o y => e _ _ y, ⟨_, upd_same, rfl, fun v hv => ⟨a, List.mem_singleton.mp hv, e _ _ hE⟩⟩, ?_⟩
  cases hz : H l with
  | none => rfl
  | some o =>
    by_cases hp : l = P
    · obtain ⟨ps, h1, _⟩ := tS
      rw [hp, h1] at hl
      cases hl
    · rw [xB l o hz hp] at hl
      cases hl
theorem q_erA {i : Nat} {pos : Pos} {params : Arguments} {body : Expr} {scope : Scope} {cl : List (Str × Addr)} {tb : XK → TE} (e : Er P q C n H0 H l) (hi : σ[i]? = some (some (.ref l))) (hn : n ≤ 100) (kC : PySem.W.exmOne K (.ref C) (.ref CS) = some true)
    (r : ∀ H1, ExB P H0 H1 → ∀ (E : XK) (Q : VK), (∀ H2, Ex H1 H2 → E (.ref C) none H2) → tb E σ H1 Q)
    (z : ∀ H', Er P q C (n + 1) H0 H' l → tz D σ H') : tSeq (tDrop (tBM K "list" rAppend (tVar i) (tCons (tCauL K CS P q pos params body scope cl tb) tNil))) tz D σ H := by
  obtain ⟨vs, hl, hn2, hv⟩ := e.lst
  refine ⟨_, hi, .inl ⟨rfl, vs, sq_of hl⟩, ?_⟩
  refine cau_val e.tab kC (fun H1 xB => r H1 (e.ext.trans xB)) fun a H' xB tS hE => ?_
  have nl : l ≠ P := tab_ne e.tab hl fun _ z => nomatch z
  have hl' := xB _ _ hl nl
  refine ⟨l, vs, .ref a, rfl, rfl, hl', sz_lt (by omega), ?_⟩
  have nw : ∀ b o, H0 b = some o → b ≠ l := fun b o h z => by
    rw [z, e.new] at h
    cases h
  have keep : ∀ b o, H' b = some o → (∀ vs, o ≠ .lst vs) → upd H' l (.lst (vs ++ [.ref a])) b = some o := fun b o h n => by
    rw [upd_ne fun z => by rw [z, hl'] at h; exact n _ (Option.some.inj h).symm]
    exact h
  refine z _ ⟨fun b o h n => ?_, ?_, ⟨_, upd_same, by rw [List.length_append, hn2]; rfl, fun v hm => ?_⟩, e.new⟩
  · rw [upd_ne (nw b o h)]
    exact (e.ext.trans xB) b o h n
  · obtain ⟨ps, h1, h2, h3⟩ := tS
    refine ⟨ps, keep _ _ h1 (fun _ z => nomatch z), h2, fun pos cv hc => ?_⟩
    obtain ⟨c, e1, e2⟩ := h3 pos cv hc
    exact ⟨c, e1, keep _ _ e2 (fun _ z => nomatch z)⟩
  · rcases List.mem_append.mp hm with hm | hm
    · obtain ⟨b, rfl, hb⟩ := hv v hm
      exact ⟨b, rfl, keep _ _ (xB _ _ hb (tab_ne e.tab hb fun _ z => nomatch z)) fun _ z => nomatch z⟩
    · exact ⟨a, List.mem_singleton.mp hm, keep _ _ hE fun _ z => nomatch z⟩
/-- if [1 for c in several if not isinstance(c, C)] != []: return False -/
theorem q_erI {i j : Nat} (e : Er P q C n H0 H l) (hi : σ[i]? = some (some (.ref l))) (hn : n ≤ 100) (iC : PySem.W.kitOne K (.ref C) (.ref C) = some true) (eC : ExcC K C) (hw : ∀ x, wipe ((wipe σ [j]).set j (some x)) [j] = wipe σ [j]) (hg : ∀ x, ((wipe σ [j]).set j (some x))[j]? = some (some x)) (hi2 : (wipe σ [j])[i]? = some (some (.ref l)))
    (z : ∀ H', ExB P H0 H' → TabS H' P q → tz D σ H') :
    tSeq (tIfS (tTest (tOp (rNeD K) (tLc (iList K (tVar i)) (gName j) (tNot (tB (tCB (rIsN K) (tCons (tVar j) (tCons (tC (.ref C)) tNil))))) (tC (.int 1)) [j]) (tLst tNil))) (tRet (tC (.bl false))) tNext) tz D σ H := by
  obtain ⟨vs, hl, hn2, hv⟩ := e.lst
  have en : EvN K (tLc (iList K (tVar i)) (gName j) (tNot (tB (tCB (rIsN K) (tCons (tVar j) (tCons (tC (.ref C)) tNil))))) (tC (.int 1)) [j]) σ H [] := fun H1 e1 Q qq => by
    have hl1 := e1 _ _ hl
    refine ⟨.ref l, hi, l, rfl, ⟨vs, sq_of hl1⟩, fun Dl hD => ?_⟩
    have eD := Ex.new (o := .lst []) hD
    refine lc_it (walk_list (K := K) (a := l) (xs := vs)) (fun _ Ha => Ex H1 Ha ∧ Ha Dl = some (.lst [])) ⟨eD, upd_same⟩ (fun _ Ha _ p => sq_of (p.1 _ _ hl1)) (fun k x Ha Hb hk p y => ?_) fun Ha p => ?_
    · obtain ⟨p1, p2⟩ := p
      obtain ⟨rfl, hx⟩ := y
      obtain ⟨a, rfl, hE⟩ := hv x (List.mem_of_getElem? hx)
      refine ⟨hw _, ?_⟩
      refine ⟨_, hg _, .inl ⟨a, C, .ref C, .ref C, true, rfl, p1 _ _ (e1 _ _ hE), eC, fun u z => z, iC, ?_⟩⟩
      refine ⟨true, rfl, ?_⟩
      show (if (!true) = true then _ else _)
      rw [if_neg (by simp)]
      exact ⟨p1, p2⟩
    · obtain ⟨p1, p2⟩ := p
      exact qq Dl [] Ha hD p1 p2 .nil
  refine q_when (b := false) (et_test (ev_is (ev_neD (K := K) (e1 := .list []) (e2 := .list []) (EvN.toD en) (EvN.toD (en_lst (ds := []) eda_nil (by simp))) (shaped_flt (ds := []) fun _ h => by simp at h) (shaped_flt (ds := []) fun _ h => by simp at h)) (by rw [eqv_nilL]; rfl))) (fun z => nomatch z) fun _ H1 e1 => ?_
  exact z H1 (e.ext.trans (ExB.of e1)) (e.tab.ext fun b o y => e1 _ _ y)
end
end K16
set_option Elab.async false
set_option linter.all false
set_option maxRecDepth 100000
set_option maxHeartbeats 4000000
namespace K16
open PySem PySem.Spec PyProof.Rows L2 Evl DL LamX
local macro_rules | `(tactic| walk_at "dl") => `(tactic| first
  | exact ev_c | exact ev_var rfl | exact eda_nil
  | exact ed_var rfl (by assumption)
  | exact ed_int ev_c | exact ed_int (ev_var rfl)
  | (refine eda_cons ?_ ?_ <;> walk_at "dl")
  | (refine ed_int ?_; walk_at "dl")
  | (refine ev_op ?_ ?_ rv_I0 <;> walk_at "dl"))

abbrev s__law_refused : Stmt := topS 51
abbrev N__law_refused : List Str := ["_law_state", "_law_made_here", "_law_several", "_law_told", "_law_one", "_law_bad", "_law_odd_here", "_law_other", "_law_pin", "_law_sides_odd", "_law_tracks_odd", "_law_caught_here"]
theorem sc__law_refused : FnScope N__law_refused ["_law_state", "_law_made_here"] (defScope s__law_refused) := ⟨rfl, rfl, rfl, by decide +kernel, rfl, by decide +kernel, by decide +kernel⟩
/-- the name that its lambdas bear -/
def lamR : Str := (envOfC "_law_refused" (defScope s__law_refused) 0 0 .none).qual ++ "<lambda>"
def spRefused (P : Program) (w : World) (K : PySem.W.Frag) (C tl : Addr) : Sp := fun vs H Q _ => ∃ (st lg cl a : Addr) (n : Nat) (s t : Int) (ws : List Sw), vs = [.ref st, .ref a] ∧ n ≤ 7000 ∧ StK st lg cl n H ∧ BxAt P w K C H a s t ws ∧ Bok s t ws ∧ t ≤ 3 ∧ ws ≠ [] ∧ TabS H tl lamR ∧
  ∀ H', StK st lg cl (n + 10) H' → TabS H' tl lamR → Q (.bl true) H'
def atomD : PyData → Bool
  | .none => true
  | .bool _ => true
  | .int _ => true
  | .str _ => true
  | _ => false
theorem lone {K : PySem.W.Frag} {H : Hp} {v : V} {d : PyData} (h : Dp K H v d) (ha : atomD d = true) : ∀ H', Dp K H' v d := fun H' => by
  cases h with
  | non => exact .non
  | bl b => exact .bl b
  | int i => exact .int i
  | str x => exact .str x
  | lst _ _ => cases ha
  | tup _ _ => cases ha
def oddS : List PyData := [.int 1, .int 6, .bool true, .none, .str (Str.ofString "3")]
def oddT : List PyData := [.int 0, .int 7, .bool true, .none, .str (Str.ofString "2")]
theorem oddS_ok : (oddS.all fun d => atomD d && !isIn d 2 5) = true := by decide +kernel
theorem oddT_ok : (oddT.all fun d => atomD d && !isIn d 1 6) = true := by decide +kernel
theorem oddS_of {d : PyData} (h : d ∈ oddS) : atomD d = true ∧ isIn d 2 5 = false := by simpa using List.all_eq_true.mp oddS_ok d h
theorem oddT_of {d : PyData} (h : d ∈ oddT) : atomD d = true ∧ isIn d 1 6 = false := by simpa using List.all_eq_true.mp oddT_ok d h
section
variable {P : Program} {w : World} {K : PySem.W.Frag} {C CB CT CX CO CG : Addr} {σ : L2.St} {H H' : Hp} {E : XK} {Q : VK} {fs : Str}
theorem itm_extn {v : V} {d : PyData} (e : ExtN H H') (h : Itm K H v d) : Itm K H' v d := by
  cases h with
  | dp h => exact .dp (dp_extn e _ _ h)
  | d0 h => exact .d0 (e _ _ h fun _ z => nomatch z)
  | d1 h => exact .d1 (e _ _ h fun _ z => nomatch z)
theorem noBx_itm {v : V} {d : PyData} (kT : ∀ d, PySem.W.kitOne K (.type (tyD d)) (.ref C) = some false) (h : Itm K H v d) : NoBx K C H v := ⟨_, fun H' e => itm_ty (itm_ex e h), kT d⟩
/-- plain(..) with sides that are none -/
theorem kind_badS {ta : TA} {v1 v2 : V} {d1 d2 : PyData} (h : ∀ Q : List V → Hp → Prop, Q [v1, v2] H → ta σ H Q) (h1 : Dp K H v1 d1) (h2 : Dp K H v2 d2) (no : isIn d1 2 5 = false) (q : ∀ H2, Ex H H2 → E (.ref CB) none H2) : tCall (spKind P w K CB CT C fs) [] E ta σ H Q :=
  h _ ⟨v1, v2, d1, d2, rfl, h1, h2, .inr (.inl ⟨no, q⟩)⟩
theorem kind_badT {ta : TA} {v1 v2 : V} {d1 d2 : PyData} (h : ∀ Q : List V → Hp → Prop, Q [v1, v2] H → ta σ H Q) (h1 : Dp K H v1 d1) (h2 : Dp K H v2 d2) (yes : isIn d1 2 5 = true) (no : isIn d2 1 6 = false) (q : ∀ H2, Ex H H2 → E (.ref CT) none H2) : tCall (spKind P w K CB CT C fs) [] E ta σ H Q :=
  h _ ⟨v1, v2, d1, d2, rfl, h1, h2, .inr (.inr ⟨yes, no, q⟩)⟩
theorem cxs_bok {s t : Int} (hf : fs ∈ fashs) (hs : 2 ≤ s ∧ s ≤ 5) (ht : 1 ≤ t ∧ t ≤ 6) (one : (cxs fs s t).Nodup) (few : (cxs fs s t).length ≤ 400) : Bok s t (cxs fs s t) := ⟨hs, ht, cxs_ok, cxs_rise hf hs ht, one, few⟩
theorem chk_len : (fashs.all fun fs => [2, 3, 4, 5].all fun (s : Int) => [1, 2, 3, 4, 5, 6].all fun (t : Int) => decide ((cxs fs s t).length ≤ 400)) = true := by decide +kernel
theorem cxs_good {s t : Int} (hf : fs ∈ fashs) (hs : 2 ≤ s ∧ s ≤ 5) (ht : 1 ≤ t ∧ t ≤ 6) : Bok s t (cxs fs s t) := by
  refine cxs_bok hf hs ht ?_ ?_
  · exact (up_pw (cxs_rise hf hs ht)).imp fun h e => by
      rw [e] at h
      have := ltA h
      rw [h] at this
      cases this
  · have h := List.all_eq_true.mp (List.all_eq_true.mp (List.all_eq_true.mp chk_len fs hf) s (by
      have : s = 2 ∨ s = 3 ∨ s = 4 ∨ s = 5 := by omega
      rcases this with rfl | rfl | rfl | rfl <;> decide)) t (by
      have : t = 1 ∨ t = 2 ∨ t = 3 ∨ t = 4 ∨ t = 5 ∨ t = 6 := by omega
      rcases this with rfl | rfl | rfl | rfl | rfl | rfl <;> decide)
    exact of_decide_eq_true h
end
section
variable {K : PySem.W.Frag} {σ : L2.St} {H : Hp} {te : TE}
theorem ed_none (h : Ev te σ H .non) : EvD K te σ H .none := fun H1 e Q q => h H1 e Q fun H2 e2 => q .non H2 e2 .non
/-- what is no lot of the switches ws -/
def NoLot (ws : List Sw) (d : PyData) : Prop := lotB ws d = false ∧ (∀ es, d = .tuple es → es.length ≤ 1000) ∧ (∀ kv, d ≠ .dict kv)
theorem nolot_dbl {s t : Int} {ws : List Sw} (A : Bok s t ws) (one : ws ≠ []) : NoLot ws (.tuple (ws.map swD ++ (ws.map swD).take 1)) := by
  obtain ⟨u, us, rfl⟩ := List.exists_cons_of_ne_nil one
  refine ⟨?_, fun es e => ?_, fun _ z => nomatch z⟩
  · show (_ && _) = false
    have nr : risesD ((u :: us).map swD ++ ((u :: us).map swD).take 1) = false := by
      cases h : risesD ((u :: us).map swD ++ ((u :: us).map swD).take 1) with
      | false => rfl
      | true =>
        have e : (u :: us).map swD ++ ((u :: us).map swD).take 1 = ((u :: us) ++ [u]).map swD := by simp
        rw [e] at h
        have pw := up_pw h
        rw [List.cons_append] at pw
        have z := List.rel_of_pairwise_cons pw (List.mem_append_right _ (List.mem_singleton.mpr rfl))
        have z2 := ltA z
        rw [z] at z2
        cases z2
    rw [nr, Bool.and_false]
  · cases e
    have := A.few
    rw [List.length_append, List.length_map, List.length_take]
    omega
theorem nolot_one {ws : List Sw} {d : PyData} (h : hasB ws d = false) : NoLot ws (.tuple [d]) := by
  refine ⟨?_, fun es e => by cases e; simp, fun _ z => nomatch z⟩
  show (List.all [d] (hasB ws) && _) = false
  rw [List.all_cons, h, Bool.false_and, Bool.false_and]
theorem nolot_sw {s t : Int} {ws : List Sw} {u : Sw} (A : Bok s t ws) (h : ¬ SwOk s t u) : NoLot ws (.tuple [swD u]) := nolot_one (by
  rw [hasB_sw]
  exact decide_eq_false fun z => h (A.ok u z))
end

section
variable {K : PySem.W.Frag} {CS C P : Addr} {q : Str} {pos : Pos} {params : Arguments} {body : Expr} {scope : Scope} {cl : List (Str × Addr)} {tb : XK → TE} {D : Ends} {σ : L2.St} {H : Hp}
/-- return isinstance(caught(lambda: ..), C), where it raises a C -/
theorem t_refuse (tab : TabS H P q) (kC : PySem.W.exmOne K (.ref C) (.ref CS) = some true) (iC : PySem.W.kitOne K (.ref C) (.ref C) = some true) (eC : L2.ExcC K C)
    (r : ∀ H1, ExB P H H1 → ∀ (E : XK) (Q : VK), (∀ H2, Ex H1 H2 → E (.ref C) none H2) → tb E σ H1 Q)
    (z : ∀ H', ExB P H H' → TabS H' P q → D.rt (.bl true) H') :
    tRet (tCB (rIsK K) (tCons (tCauL K CS P q pos params body scope cl tb) (tCons (tC (.ref C)) tNil))) D σ H := by
  refine ⟨tab, fun f c' H1 xB tS hC same n0 n1 hc' E Q2 r1 r2 => ?_⟩
  have x1 := xB.trans (ExB.of (Ex.new (o := LamO f c' q params body scope cl) n1))
  refine r _ x1 E Q2 fun H2 e2 => r1 (.ref C) H2 kC fun a ha => ?_
  refine ⟨a, C, .ref C, .ref C, true, rfl, upd_same, eC, fun u z => z, iC, ?_⟩
  have e3 := e2.trans (Ex.new (o := ErO (.ref C) a) ha)
  exact z _ (x1.trans (ExB.of e3)) (tS.ext fun b o y => e3 _ _ (Ex.new n1 _ _ y))
end
section
variable {P : Program} {w : World} {K : PySem.W.Frag} {mg : Str → Option Value} {base : Heap}

theorem ok__law_refused {f : Addr} {fd : FuncData} {cc : Addr} (F : FunC K "_law_refused" "_law_refused" s__law_refused f fd cc) (T : Txt mg) {tl CS CB CT CX CO CG C : Addr} (TB : TabB base mg cc tl) (CA : CauF K mg "_law_caught" CS) (GBadSides : ErC K mg "BadSides" CB) (GBadTracks : ErC K mg "BadTracks" CT) (GBadBox : ErC K mg "BadBox" CX) (GOtherSides : ErC K mg "OtherSides" CO) (GBadGone : ErC K mg "BadGone" CG) (B : BoxC K C) (TX : BoxT K C)
    (kB : PySem.W.exmOne K (.ref CB) (.ref CS) = some true) (iB : PySem.W.kitOne K (.ref CB) (.ref CB) = some true) (eB : ExcC K CB) (kR : PySem.W.exmOne K (.ref CT) (.ref CS) = some true) (iR : PySem.W.kitOne K (.ref CT) (.ref CT) = some true) (eR : ExcC K CT) (kX : PySem.W.exmOne K (.ref CX) (.ref CS) = some true) (iX : PySem.W.kitOne K (.ref CX) (.ref CX) = some true) (eX : ExcC K CX) (kO : PySem.W.exmOne K (.ref CO) (.ref CS) = some true) (iO : PySem.W.kitOne K (.ref CO) (.ref CO) = some true) (eO : ExcC K CO) (kG : PySem.W.exmOne K (.ref CG) (.ref CS) = some true) (iG : PySem.W.kitOne K (.ref CG) (.ref CG) = some true) (eG : ExcC K CG)
    (kT : ∀ d, PySem.W.kitOne K (.type (tyD d)) (.ref C) = some false) (D__law_odd : DF P w K mg base "_law_odd" 3 ["_law_state"] (spOdd K)) (D__law_pick : DF P w K mg base "_law_pick" 2 ["_law_state", "_law_several"] (spPick K)) (D_beside : DFX P w K mg base "beside" 6 ["one", "other"] (spBeside P w K CT C CX CO)) (D_crossed : DFX P w K mg base "crossed" 7 ["sides", "tracks"] (spKind P w K CB CT C (Str.ofString "crossed"))) (D_full : DFX P w K mg base "full" 7 ["sides", "tracks"] (spKind P w K CB CT C (Str.ofString "full"))) (D_pieces : DFX P w K mg base "pieces" 2 ["box"] (spPieces P w K C CX)) (D_plain : DFX P w K mg base "plain" 7 ["sides", "tracks"] (spKind P w K CB CT C (Str.ofString "plain"))) (D_without : DFX P w K mg base "without" 6 ["box", "gone"] (spWithout P w K C CX CG)) :
    FnG P w K mg base (L2.CX P w) 11 f fd ["_law_state", "_law_made_here"] (spRefused P w K C tl) := by
  refine okC F sc__law_refused (fun vs H Q E h => by obtain ⟨_, _, _, _, _, _, _, _, rfl, _⟩ := h; rfl) (fun A outer s0 H vs Q E hg hr h => ?_)
  obtain ⟨st, lg, cl, a, n, s, t, ws, rfl, hn, hst, hb, ok, t3, one, htl, k⟩ := h
  refine ⟨_, (pss_cons (ps_asg (pe_tup (pa_cons (pe_D D__law_pick (hr.mono (by decide)) (by rfl) (pa_cons (pv 0) (pa_cons (pe_lst (pa_cons pe_int (pa_cons pe_int (pa_cons pe_bl (pa_cons pe_non (pa_cons pe_str pa_nil)))))) pa_nil))) (pa_cons (pe_D D__law_pick (hr.mono (by decide)) (by rfl) (pa_cons (pv 0) (pa_cons (pe_lst (pa_cons pe_int (pa_cons pe_int (pa_cons pe_bl (pa_cons pe_non (pa_cons pe_str pa_nil)))))) pa_nil))) pa_nil))) (pg_tup rfl (pgs_cons (pg_name (i := 9) sc__law_refused.nd rfl (Or.inr rfl)) (pgs_cons (pg_name (i := 10) sc__law_refused.nd rfl (Or.inr rfl)) pgs_nil))))
      (pss_cons (ps_set (i := 2) sc__law_refused.nd rfl (.inl rfl) (pe_lst (pa_cons (pe_caughtL (k := 8) CA rfl hr TB rfl (lamF_by (by show lamFB (defScope s__law_refused) _ = true; decide +kernel)) rfl ⟨lamS_by (by show lamSB (defScope s__law_refused) _ = true; decide +kernel), fun _ _ _ _ _ => rfl, fun A2 outer2 s2 H2 E2 f2 c2' hr2 => (pe_DX D_plain (takes_of rfl rfl rfl rfl) (fun _ _ _ _ h => h) (hr2.mono (by decide)) (by rfl) (pa_cons (pv 9) (pa_cons (pv 10) pa_nil)))⟩) pa_nil)))
      (pss_cons (ps_expr (pe_bm PySem.F.plainAttrs_list PySem.F.slot_list_append PySem.F.type_list_append mt_append (pv 2) (pa_cons (pe_caughtL (k := 8) CA rfl hr TB rfl (lamF_by (by show lamFB (defScope s__law_refused) _ = true; decide +kernel)) rfl ⟨lamS_by (by show lamSB (defScope s__law_refused) _ = true; decide +kernel), fun _ _ _ _ _ => rfl, fun A2 outer2 s2 H2 E2 f2 c2' hr2 => (pe_DX D_crossed (takes_of rfl rfl rfl rfl) (fun _ _ _ _ h => h) (hr2.mono (by decide)) (by rfl) (pa_cons (pv 9) (pa_cons (pv 10) pa_nil)))⟩) pa_nil)))
      (pss_cons (ps_expr (pe_bm PySem.F.plainAttrs_list PySem.F.slot_list_append PySem.F.type_list_append mt_append (pv 2) (pa_cons (pe_caughtL (k := 8) CA rfl hr TB rfl (lamF_by (by show lamFB (defScope s__law_refused) _ = true; decide +kernel)) rfl ⟨lamS_by (by show lamSB (defScope s__law_refused) _ = true; decide +kernel), fun _ _ _ _ _ => rfl, fun A2 outer2 s2 H2 E2 f2 c2' hr2 => (pe_DX D_full (takes_of rfl rfl rfl rfl) (fun _ _ _ _ h => h) (hr2.mono (by decide)) (by rfl) (pa_cons (pv 9) (pa_cons pe_int pa_nil)))⟩) pa_nil)))
      (pss_cons (ps_if (pt_cmpR (op_neD (hu64 hr)) (pe_lc (own := [("_law_caught_here", 11)]) (g := (gName 11)) (tt := _) rfl sc__law_refused.nd (pi_list (pv 2)) (blkOk_by (N := N__law_refused) (sc := defScope s__law_refused) (by decide +kernel)) (fun _ _ _ _ _ => (pg_name (i := 11) sc__law_refused.nd rfl (Or.inl rfl))) (fun _ _ _ _ _ => (pts_one (pt_not (pt_val (pe_callB (call_isN K rfl) (by rfl) T.b_isinstance (by decide +kernel) (pa_cons (pv 11) (pa_cons (pe_cls GBadSides (by rfl)) pa_nil))))))) (fun _ _ _ _ _ => pe_int)) (pe_lst pa_nil) (nomark _)) (pss_one (ps_ret pe_bl)) pss_nil)
      (pss_cons (ps_set (i := 2) sc__law_refused.nd rfl (.inl rfl) (pe_lst (pa_cons (pe_caughtL (k := 8) CA rfl hr TB rfl (lamF_by (by show lamFB (defScope s__law_refused) _ = true; decide +kernel)) rfl ⟨lamS_by (by show lamSB (defScope s__law_refused) _ = true; decide +kernel), fun _ _ _ _ _ => rfl, fun A2 outer2 s2 H2 E2 f2 c2' hr2 => (pe_DX D_plain (takes_of rfl rfl rfl rfl) (fun _ _ _ _ h => h) (hr2.mono (by decide)) (by rfl) (pa_cons pe_int (pa_cons (pv 10) pa_nil)))⟩) pa_nil)))
      (pss_cons (ps_expr (pe_bm PySem.F.plainAttrs_list PySem.F.slot_list_append PySem.F.type_list_append mt_append (pv 2) (pa_cons (pe_caughtL (k := 8) CA rfl hr TB rfl (lamF_by (by show lamFB (defScope s__law_refused) _ = true; decide +kernel)) rfl ⟨lamS_by (by show lamSB (defScope s__law_refused) _ = true; decide +kernel), fun _ _ _ _ _ => rfl, fun A2 outer2 s2 H2 E2 f2 c2' hr2 => (pe_DX D_crossed (takes_of rfl rfl rfl rfl) (fun _ _ _ _ h => h) (hr2.mono (by decide)) (by rfl) (pa_cons pe_int (pa_cons (pv 10) pa_nil)))⟩) pa_nil)))
      (pss_cons (ps_expr (pe_bm PySem.F.plainAttrs_list PySem.F.slot_list_append PySem.F.type_list_append mt_append (pv 2) (pa_cons (pe_caughtL (k := 8) CA rfl hr TB rfl (lamF_by (by show lamFB (defScope s__law_refused) _ = true; decide +kernel)) rfl ⟨lamS_by (by show lamSB (defScope s__law_refused) _ = true; decide +kernel), fun _ _ _ _ _ => rfl, fun A2 outer2 s2 H2 E2 f2 c2' hr2 => (pe_DX D_full (takes_of rfl rfl rfl rfl) (fun _ _ _ _ h => h) (hr2.mono (by decide)) (by rfl) (pa_cons pe_int (pa_cons (pv 10) pa_nil)))⟩) pa_nil)))
      (pss_cons (ps_expr (pe_bm PySem.F.plainAttrs_list PySem.F.slot_list_append PySem.F.type_list_append mt_append (pv 2) (pa_cons (pe_caughtL (k := 8) CA rfl hr TB rfl (lamF_by (by show lamFB (defScope s__law_refused) _ = true; decide +kernel)) rfl ⟨lamS_by (by show lamSB (defScope s__law_refused) _ = true; decide +kernel), fun _ _ _ _ _ => rfl, fun A2 outer2 s2 H2 E2 f2 c2' hr2 => (pe_DX D_beside (takes_of rfl rfl rfl rfl) (fun _ _ _ _ h => h) (hr2.mono (by decide)) (by rfl) (pa_cons (pe_DX D_plain (takes_of rfl rfl rfl rfl) (fun _ _ _ _ h => h) (hr2.mono (by decide)) (by rfl) (pa_cons (pe_fldK K rfl (pv 1) rfl) (pa_cons pe_int pa_nil))) (pa_cons (pv 1) pa_nil)))⟩) pa_nil)))
      (pss_cons (ps_if (pt_cmpR (op_neD (hu64 hr)) (pe_lc (own := [("_law_caught_here", 11)]) (g := (gName 11)) (tt := _) rfl sc__law_refused.nd (pi_list (pv 2)) (blkOk_by (N := N__law_refused) (sc := defScope s__law_refused) (by decide +kernel)) (fun _ _ _ _ _ => (pg_name (i := 11) sc__law_refused.nd rfl (Or.inl rfl))) (fun _ _ _ _ _ => (pts_one (pt_not (pt_val (pe_callB (call_isN K rfl) (by rfl) T.b_isinstance (by decide +kernel) (pa_cons (pv 11) (pa_cons (pe_cls GBadTracks (by rfl)) pa_nil))))))) (fun _ _ _ _ _ => pe_int)) (pe_lst pa_nil) (nomark _)) (pss_one (ps_ret pe_bl)) pss_nil)
      (pss_cons (ps_set (i := 6) sc__law_refused.nd rfl (.inr rfl) (pe_D D__law_odd (hr.mono (by decide)) (by rfl) (pa_cons (pv 0) pa_nil)))
      (pss_cons (ps_set (i := 2) sc__law_refused.nd rfl (.inl rfl) (pe_lst (pa_cons (pe_caughtL (k := 8) CA rfl hr TB rfl (lamF_by (by show lamFB (defScope s__law_refused) _ = true; decide +kernel)) rfl ⟨lamS_by (by show lamSB (defScope s__law_refused) _ = true; decide +kernel), fun _ _ _ _ _ => rfl, fun A2 outer2 s2 H2 E2 f2 c2' hr2 => (pe_DX D_beside (takes_of rfl rfl rfl rfl) (fun _ _ _ _ h => h) (hr2.mono (by decide)) (by rfl) (pa_cons (pv 6) (pa_cons (pv 6) pa_nil)))⟩) pa_nil)))
      (pss_cons (ps_expr (pe_bm PySem.F.plainAttrs_list PySem.F.slot_list_append PySem.F.type_list_append mt_append (pv 2) (pa_cons (pe_caughtL (k := 8) CA rfl hr TB rfl (lamF_by (by show lamFB (defScope s__law_refused) _ = true; decide +kernel)) rfl ⟨lamS_by (by show lamSB (defScope s__law_refused) _ = true; decide +kernel), fun _ _ _ _ _ => rfl, fun A2 outer2 s2 H2 E2 f2 c2' hr2 => (pe_DX D_beside (takes_of rfl rfl rfl rfl) (fun _ _ _ _ h => h) (hr2.mono (by decide)) (by rfl) (pa_cons (pv 1) (pa_cons (pv 6) pa_nil)))⟩) pa_nil)))
      (pss_cons (ps_expr (pe_bm PySem.F.plainAttrs_list PySem.F.slot_list_append PySem.F.type_list_append mt_append (pv 2) (pa_cons (pe_caughtL (k := 8) CA rfl hr TB rfl (lamF_by (by show lamFB (defScope s__law_refused) _ = true; decide +kernel)) rfl ⟨lamS_by (by show lamSB (defScope s__law_refused) _ = true; decide +kernel), fun _ _ _ _ _ => rfl, fun A2 outer2 s2 H2 E2 f2 c2' hr2 => (pe_DX D_without (takes_of rfl rfl rfl rfl) (fun _ _ _ _ h => h) (hr2.mono (by decide)) (by rfl) (pa_cons (pv 6) (pa_cons pe_non pa_nil)))⟩) pa_nil)))
      (pss_cons (ps_expr (pe_bm PySem.F.plainAttrs_list PySem.F.slot_list_append PySem.F.type_list_append mt_append (pv 2) (pa_cons (pe_caughtL (k := 8) CA rfl hr TB rfl (lamF_by (by show lamFB (defScope s__law_refused) _ = true; decide +kernel)) rfl ⟨lamS_by (by show lamSB (defScope s__law_refused) _ = true; decide +kernel), fun _ _ _ _ _ => rfl, fun A2 outer2 s2 H2 E2 f2 c2' hr2 => (pe_DX D_pieces (takes_of rfl rfl rfl rfl) (fun _ _ _ _ h => h) (hr2.mono (by decide)) (by rfl) (pa_cons (pv 6) pa_nil))⟩) pa_nil)))
      (pss_cons (ps_if (pt_cmpR (op_neD (hu64 hr)) (pe_lc (own := [("_law_caught_here", 11)]) (g := (gName 11)) (tt := _) rfl sc__law_refused.nd (pi_list (pv 2)) (blkOk_by (N := N__law_refused) (sc := defScope s__law_refused) (by decide +kernel)) (fun _ _ _ _ _ => (pg_name (i := 11) sc__law_refused.nd rfl (Or.inl rfl))) (fun _ _ _ _ _ => (pts_one (pt_not (pt_val (pe_callB (call_isN K rfl) (by rfl) T.b_isinstance (by decide +kernel) (pa_cons (pv 11) (pa_cons (pe_cls GBadBox (by rfl)) pa_nil))))))) (fun _ _ _ _ _ => pe_int)) (pe_lst pa_nil) (nomark _)) (pss_one (ps_ret pe_bl)) pss_nil)
      (pss_cons (ps_set (i := 7) sc__law_refused.nd rfl (.inr rfl) (pe_DX D_plain (E := fun _ _ _ => False) (takes_of rfl rfl rfl rfl) (fun _ _ _ _ h => h.elim) (hr.mono (by decide)) (by rfl) (pa_cons (pe_ifExp (pt_cmpR op_gt (pe_fld (pv 1) rfl) pe_int (nomark _)) pe_int pe_int) (pa_cons pe_int pa_nil))))
      (pss_cons (ps_if (pt_not (pt_val (pe_callB call_isK (by rfl) T.b_isinstance (by decide +kernel) (pa_cons (pe_caughtL (k := 8) CA rfl hr TB rfl (lamF_by (by show lamFB (defScope s__law_refused) _ = true; decide +kernel)) rfl ⟨lamS_by (by show lamSB (defScope s__law_refused) _ = true; decide +kernel), fun _ _ _ _ _ => rfl, fun A2 outer2 s2 H2 E2 f2 c2' hr2 => (pe_DX D_beside (takes_of rfl rfl rfl rfl) (fun _ _ _ _ h => h) (hr2.mono (by decide)) (by rfl) (pa_cons (pv 1) (pa_cons (pv 7) pa_nil)))⟩) (pa_cons (pe_cls GOtherSides (by rfl)) pa_nil))))) (pss_one (ps_ret pe_bl)) pss_nil)
      (pss_cons (ps_set (i := 3) sc__law_refused.nd rfl (.inl rfl) (pe_fld (pv 1) rfl))
      (pss_cons (ps_set (i := 5) sc__law_refused.nd rfl (.inr rfl) (pe_D D__law_pick (hr.mono (by decide)) (by rfl) (pa_cons (pv 0) (pa_cons (pe_lst (pa_cons pe_non (pa_cons (pe_callTy call_list_of (by rfl) T.b_list (by decide +kernel) (pa_cons (pv 3) pa_nil)) (pa_cons (pe_op op_catA (pv 3) (pe_slice sl_tupA (pv 3) po_none (po_some pe_int))) (pa_cons (pe_tup (pa_cons (pe_tup (pa_cons (pe_tup (pa_cons pe_int (pa_cons pe_int pa_nil))) (pa_cons (pe_tup (pa_cons pe_int (pa_cons pe_int pa_nil))) pa_nil))) pa_nil)) (pa_cons (pe_tup (pa_cons (pe_tup (pa_cons (pe_tup (pa_cons pe_int (pa_cons pe_int pa_nil))) (pa_cons (pe_tup (pa_cons pe_int (pa_cons pe_int pa_nil))) pa_nil))) pa_nil)) (pa_cons (pe_tup (pa_cons (pe_tup (pa_cons pe_non (pa_cons pe_non pa_nil))) pa_nil)) (pa_cons (pe_tup (pa_cons pe_int pa_nil)) pa_nil)))))))) pa_nil))))
      (pss_cons (ps_if (pt_not (pt_val (pe_callB call_isK (by rfl) T.b_isinstance (by decide +kernel) (pa_cons (pe_caughtL (k := 8) CA rfl hr TB rfl (lamF_by (by show lamFB (defScope s__law_refused) _ = true; decide +kernel)) rfl ⟨lamS_by (by show lamSB (defScope s__law_refused) _ = true; decide +kernel), fun _ _ _ _ _ => rfl, fun A2 outer2 s2 H2 E2 f2 c2' hr2 => (pe_DX D_without (takes_of rfl rfl rfl rfl) (fun _ _ _ _ h => h) (hr2.mono (by decide)) (by rfl) (pa_cons (pv 1) (pa_cons (pv 5) pa_nil)))⟩) (pa_cons (pe_cls GBadGone (by rfl)) pa_nil))))) (pss_one (ps_ret pe_bl)) pss_nil)
      (pss_cons (ps_asg (pe_ix ix_tup (pv 3) pe_int (fun _ _ => rfl)) (pg_tup rfl (pgs_cons (pg_name (i := 4) sc__law_refused.nd rfl (Or.inl rfl)) (pgs_cons (pg_name (i := 7) sc__law_refused.nd rfl (Or.inr rfl)) pgs_nil))))
      (pss_cons (ps_set (i := 8) sc__law_refused.nd rfl (.inr rfl) (pe_ifExp (pt_cmpR op_lt (pe_ix ix_tup (pv 4) pe_int (fun _ _ => rfl)) pe_int (nomark _)) (pe_tup (pa_cons (pe_ix ix_tup (pv 4) pe_int (fun _ _ => rfl)) (pa_cons (pe_cmpR op_eq (pe_ix ix_tup (pv 4) pe_int (fun _ _ => rfl)) pe_int (nomark _)) pa_nil))) (pe_tup (pa_cons (pe_ix ix_tup (pv 4) pe_int (fun _ _ => rfl)) (pa_cons pe_bl pa_nil)))))
      (pss_one (ps_ret (pe_callB call_isK (by rfl) T.b_isinstance (by decide +kernel) (pa_cons (pe_caughtL (k := 8) CA rfl hr TB rfl (lamF_by (by show lamFB (defScope s__law_refused) _ = true; decide +kernel)) rfl ⟨lamS_by (by show lamSB (defScope s__law_refused) _ = true; decide +kernel), fun _ _ _ _ _ => rfl, fun A2 outer2 s2 H2 E2 f2 c2' hr2 => (pe_DX D_without (takes_of rfl rfl rfl rfl) (fun _ _ _ _ h => h) (hr2.mono (by decide)) (by rfl) (pa_cons (pv 1) (pa_cons (pe_tup (pa_cons (pe_tup (pa_cons (pv 8) (pa_cons (pv 7) pa_nil))) pa_nil)) pa_nil)))⟩) (pa_cons (pe_cls GBadGone (by rfl)) pa_nil)))))))))))))))))))))))))))), ?_⟩
  have hmade : ∀ {H' : Hp}, ExB tl H H' → BxAt P w K C H' a s t ws := fun xB => bx_exB hb xB htl
  refine q_asgV ?_
  refine v_pick (K := K) (ds := oddS) (n := n) hst rfl (en_lst (eda_cons (ed_int ev_c) (eda_cons (ed_int ev_c) (eda_cons (ed_bool ev_c) (eda_cons (ed_none ev_c) (eda_cons (ed_str ev_c) eda_nil))))) (by decide)) (by decide +kernel) (by decide) (by decide) (by omega) fun v9 d9 H1 hd9 hv9 x1 s1 => ?_
  refine v_pick (K := K) (ds := oddT) s1 rfl (en_lst (eda_cons (ed_int ev_c) (eda_cons (ed_int ev_c) (eda_cons (ed_bool ev_c) (eda_cons (ed_none ev_c) (eda_cons (ed_str ev_c) eda_nil))))) (by decide)) (by decide +kernel) (by decide) (by decide) (by omega) fun v10 d10 H2 hd10 hv10 x2 s2 => ?_
  refine ⟨by show 2 ≤ sizeLine; decide, fun p3 hp3 => ?_⟩
  have e3 := Ex.new (o := .tup [v9, v10]) hp3
  obtain ⟨a9, o9⟩ := oddS_of hd9
  obtain ⟨a10, o10⟩ := oddT_of hd10
  refine g_two (K := K) (d1 := d9) (d2 := d10) (.tup (st_of upd_same) (.cons (lone hv9 a9 _) (.cons (lone hv10 a10 _) .nil))) fun w1 w2 u1 u2 => ?_
  have L9 := lone u1 a9
  have L10 := lone u2 a10
  have x3 : Xp [st, lg] H (L2.upd H2 p3 (.tup [v9, v10])) := (x1.trans x2).trans (Xp.of_ex e3)
  have s3 := stk_ex e3 s2
  have b3 := bx_xp hb hst x3
  have tl3 := tabS_xp htl x3 (stk_in hst)
  generalize L2.upd H2 p3 (.tup [v9, v10]) = H3 at *
  show tSeq _ _ _ [some (.ref st), some (.ref a), none, none, none, none, none, none, none, some w1, some w2, none] H3
  refine q_er1 (C := CB) (K := K) tl3 kB (fun H4 xB tab E Q r => kind_badS (v1 := w1) (v2 := w2) (fun Q q => ⟨_, rfl, _, rfl, q⟩) (L9 _) (L10 _) o9 r) fun l4 H4 er4 => ?_
  refine q_erA er4 rfl (by decide) kB (fun H5 xB E Q r => kind_badS (v1 := w1) (v2 := w2) (fun Q q => ⟨_, rfl, _, rfl, q⟩) (L9 _) (L10 _) o9 r) fun H5 er5 => ?_
  refine q_erA er5 rfl (by decide) kB (fun H6 xB E Q r => kind_badS (v1 := w1) (v2 := .int 0) (fun Q q => ⟨_, rfl, q⟩) (L9 _) (.int 0) o9 r) fun H6 er6 => ?_
  refine q_erI er6 rfl (by decide) iB eB (fun _ => rfl) (fun _ => rfl) rfl fun H7 xB7 tl7 => ?_
  have s7 := stk_exN (exB_extn xB7 tl3) s3
  have b7 := bx_exB b3 xB7 tl3
  refine q_er1 (C := CT) (K := K) tl7 kR (fun H8 xB tab E Q r => kind_badT (v1 := .int 3) (v2 := w2) (d1 := .int 3) (fun Q q => ⟨_, rfl, q⟩) (.int 3) (L10 _) rfl o10 r) fun l8 H8 er8 => ?_
  refine q_erA er8 rfl (by decide) kR (fun H9 xB E Q r => kind_badT (v1 := .int 2) (v2 := w2) (d1 := .int 2) (fun Q q => ⟨_, rfl, q⟩) (.int 2) (L10 _) rfl o10 r) fun H9 er9 => ?_
  refine q_erA er9 rfl (by decide) kR (fun H10 xB E Q r => kind_badT (v1 := .int 5) (v2 := w2) (d1 := .int 5) (fun Q q => ⟨_, rfl, q⟩) (.int 5) (L10 _) rfl o10 r) fun H10 er10 => ?_
  refine q_erA er10 rfl (by decide) kR (fun H11 xB E Q r => ?_) fun H11 er11 => ?_
  · have b11 := bx_exB b7 xB tl7
    refine ev_sides B (i := 1) rfl b11 H11 (Ex.refl _) _ fun H12 e12 => ?_
    refine ⟨.int s, .int 6, .int s, .int 6, rfl, .int s, .int 6, .inl ⟨s, 6, rfl, rfl, ok.hs, ⟨by decide, by decide⟩, fun b H13 hb3 e13 bx => ?_⟩⟩
    refine ⟨_, rfl, ?_⟩
    exact ⟨.ref b, .ref a, rfl, .inl ⟨b, a, s, 6, t, _, ws, rfl, rfl, bx, b11.ex (e12.trans e13), cxs_good (by decide +kernel) ok.hs ⟨by decide, by decide⟩, ok, .inr ⟨by have := ok.ht.1; omega, fun H' e' => r H' ((e12.trans e13).trans e')⟩⟩⟩
  refine q_erI er11 rfl (by decide) iR eR (fun _ => rfl) (fun _ => rfl) rfl fun H12 xB12 tl12 => ?_
  have s12 := stk_exN (exB_extn xB12 tl7) s7
  have b12 := bx_exB b7 xB12 tl7
  refine q_asgV ⟨_, rfl, st, lg, cl, _, rfl, by omega, s12, fun v6 d6 H13 st6 x13 s13 => ?_⟩
  refine gN ?_
  have b13 := bx_xp b12 s12 x13
  have tl13 := tabS_xp tl12 x13 (stk_in s12)
  have it6 := st6 H13 (Xp.refl _ _)
  have no6 : ∀ {H' : Hp}, ExB tl H13 H' → NoBx K C H' v6 := fun xB => noBx_itm kT (itm_extn (exB_extn xB tl13) it6)
  refine q_er1 (C := CX) (K := K) tl13 kX (fun H14 xB tab E Q r => ⟨_, rfl, _, rfl, v6, v6, rfl, .inr (.inr (.inl ⟨no6 xB, r⟩))⟩) fun l14 H14 er14 => ?_
  refine q_erA er14 rfl (by decide) kX (fun H15 xB E Q r => ⟨_, rfl, _, rfl, .ref a, v6, rfl, .inr (.inr (.inr ⟨a, s, t, ws, rfl, bx_exB b13 xB tl13, no6 xB, r⟩))⟩) fun H15 er15 => ?_
  refine q_erA er15 rfl (by decide) kX (fun H16 xB E Q r => ⟨_, rfl, v6, .non, rfl, .inr (.inr ⟨no6 xB, r⟩)⟩) fun H16 er16 => ?_
  refine q_erA er16 rfl (by decide) kX (fun H17 xB E Q r => ⟨_, rfl, v6, rfl, .inr ⟨no6 xB, r⟩⟩) fun H17 er17 => ?_
  refine q_erI er17 rfl (by decide) iX eX (fun _ => rfl) (fun _ => rfl) rfl fun H18 xB18 tl18 => ?_
  have s18 := stk_exN (exB_extn xB18 tl13) s13
  have b18 := bx_exB b13 xB18 tl13
  refine q_asgV ?_
  refine ev_if (v := .int (if s > 2 then 2 else 3)) (b := decide (s > 2)) (et_test (ev_op (ev_sides B (i := 1) rfl b18) ev_c rv_I0)) (fun hb => ev_is ev_c (by rw [if_pos (of_decide_eq_true hb)])) (fun hb => ev_is ev_c (by rw [if_neg (of_decide_eq_false hb)])) H18 (Ex.refl _) _ fun H19 e19 => ?_
  have hs2 : 2 ≤ (if s > 2 then (2 : Int) else 3) ∧ (if s > 2 then (2 : Int) else 3) ≤ 5 := by split <;> omega
  have ne2 : s ≠ (if s > 2 then (2 : Int) else 3) := by split <;> omega
  generalize (if s > 2 then (2 : Int) else 3) = s2 at *
  refine ⟨.int s2, .int 6, .int s2, .int 6, rfl, .int s2, .int 6, .inl ⟨s2, 6, rfl, rfl, hs2, ⟨by decide, by decide⟩, fun b H20 hb20 e20 bx => ?_⟩⟩
  refine gN ?_
  have e1820 := e19.trans e20
  have s20 := stk_ex e1820 s18
  have b20 := b18.ex e1820
  have tl20 := tl18.ext e1820
  refine q_refuse tl20 kO iO eO (fun H21 xB E Q r => ⟨_, rfl, _, rfl, .ref a, .ref b, rfl, .inr (.inl ⟨a, b, s, t, s2, 6, ws, _, rfl, rfl, bx_exB b20 xB tl20, bx_exB bx xB tl20, ne2, r⟩)⟩) fun H21 xB21 tl21 => ?_
  have s21 := stk_exN (exB_extn xB21 tl20) s20
  have b21 := bx_exB b20 xB21 tl20
  refine q_asgV (ed_switches B (i := 1) rfl b21 H21 (Ex.refl _) _ fun v3 H22 e22 hv3 => ?_)
  refine gN ?_
  have s22 := stk_ex e22 s21
  have b22 := b21.ex e22
  have tl22 := tl21.ext e22
  have ims : immAll (ws.map swD) = true := immAll_map imm_sw ws
  have imt : imm (.tuple (ws.map swD)) = true := by simpa [imm] using ims
  refine q_asgV ?_
  have v3x : ∀ {H' : Hp}, Ex H22 H' → Dp K H' v3 (.tuple (ws.map swD)) := fun e => dp_ex e _ _ hv3
  have z0 : ∀ d : PyData, (∀ es, d ≠ .tuple es) → (∀ kv, d ≠ .dict kv) → NoLot ws d := fun d h1 h2 => by
    refine ⟨?_, fun es e => absurd e (h1 es), h2⟩
    cases d <;> first | rfl | exact absurd rfl (h1 _)
  have sw0 : ¬ SwOk s t ((0, 0), (0, 0)) := fun z => by have := z.2.1; simp at this
  have sw5 : ¬ SwOk s t ((0, 5), (1, 5)) := fun z => by have := z.2.2.2.2.1; simp at this; omega
  refine ⟨_, rfl, ?_⟩
  refine evgl_lst (K := K) (st := st) (lg := lg) (S := NoLot ws) (m := 7) (evga_cons (evg_imm s22 (ed_none ev_c) rfl (z0 _ (fun _ z => nomatch z) fun _ z => nomatch z)) (evga_cons (evg_list s22 (en_listOfT (ed_var (k := 3) (v := v3) rfl hv3)) ims (z0 _ (fun _ z => nomatch z) fun _ z => nomatch z))
    (evga_cons (evg_imm s22 (ed_cat (K := K) (ds := ws.map swD) (es := (ws.map swD).take 1) (ed_var (k := 3) (v := v3) rfl hv3) (ed_is (ed_sl (ed_var (k := 3) (v := v3) rfl hv3) eo_none (eo_some ev_c)) (by rw [cut_take (by decide)]; rfl)) (by rw [List.length_map, List.length_take]; have := ok.few; omega)) (by
      rw [imm]
      refine immAll_of fun d hd => ?_
      rcases List.mem_append.mp hd with hd | hd
      · exact imm_mem ims d hd
      · exact imm_mem ims d (List.mem_of_mem_take hd)) (nolot_dbl ok one))
    (evga_cons (evg_imm s22 (d := .tuple [swD ((0, 0), (0, 0))]) (ed_tup (eda_cons (ed_tup (ds := [pD (0, 0), pD (0, 0)]) (eda_cons (ed_tup (ds := dI [0, 0]) (eda_cons (ed_int ev_c) (eda_cons (ed_int ev_c) eda_nil)) (by simp)) (eda_cons (ed_tup (ds := dI [0, 0]) (eda_cons (ed_int ev_c) (eda_cons (ed_int ev_c) eda_nil)) (by simp)) eda_nil)) (by simp)) eda_nil) (by simp)) rfl (nolot_sw ok sw0))
    (evga_cons (evg_imm s22 (d := .tuple [swD ((0, 5), (1, 5))]) (ed_tup (eda_cons (ed_tup (ds := [pD (0, 5), pD (1, 5)]) (eda_cons (ed_tup (ds := dI [0, 5]) (eda_cons (ed_int ev_c) (eda_cons (ed_int ev_c) eda_nil)) (by simp)) (eda_cons (ed_tup (ds := dI [1, 5]) (eda_cons (ed_int ev_c) (eda_cons (ed_int ev_c) eda_nil)) (by simp)) eda_nil)) (by simp)) eda_nil) (by simp)) rfl (nolot_sw ok sw5))
    (evga_cons (evg_imm s22 (d := .tuple [.tuple [.none, .none]]) (ed_tup (eda_cons (ed_tup (eda_cons (ed_none ev_c) (eda_cons (ed_none ev_c) eda_nil)) (by simp)) eda_nil) (by simp)) rfl (nolot_one rfl))
    (evga_cons (evg_imm s22 (d := .tuple [.int 0]) (ed_tup (eda_cons (ed_int ev_c) eda_nil) (by simp)) rfl (nolot_one rfl)) evga_nil))))))) (by decide) H22 (Ex.refl _) _ fun p vs H23 hp e23 h23 hl hvs => ?_
  have np := stk_ne s22 hp
  have s23 := stk_ex e23 s22
  refine ⟨st, lg, cl, _, p, vs, rfl, h23, np.2.1, by omega, by omega, by omega, s23, fun r5 H24 hr x24 s24 => ?_⟩
  obtain ⟨d5, st5, no5⟩ := gd_xp (hvs r5 hr) x24
  refine gN ?_
  have i5 := st5 H24 (Xp.refl _ _)
  have hd5 : Dp K H24 r5 d5 := by
    cases i5 with
    | dp h => exact h
    | d0 h => exact absurd rfl (no5.2.2 _)
    | d1 h => exact absurd rfl (no5.2.2 _)
  have b24 := bx_xp (b22.ex e23) s23 x24
  have tl24 := tabS_xp (tl22.ext e23) x24 (stk_in s23)
  have v24 := dp_tx (stk_tx s23 x24) _ _ imt (v3x e23)
  refine q_refuse tl24 kG iG eG (fun H25 xB E Q r => ⟨_, rfl, _, rfl, .ref a, r5, rfl, .inr (.inl ⟨a, s, t, ws, d5, rfl, bx_exB b24 xB tl24, dp_extn (exB_extn xB tl24) _ _ hd5, no5.2.1, no5.1, r⟩)⟩) fun H25 xB25 tl25 => ?_
  have s25 := stk_exN (exB_extn xB25 tl24) s24
  have b25 := bx_exB b24 xB25 tl24
  have v25 := dp_extn (exB_extn xB25 tl24) _ _ v24
  obtain ⟨u0, us0, rfl⟩ := List.exists_cons_of_ne_nil one
  refine q_asgV (ed_ixT (K := K) (k := 0) (ds := (u0 :: us0).map swD) (d := swD u0) (ed_var (k := 3) (v := v3) rfl v25) ev_c rfl H25 (Ex.refl _) _ fun vu H26 e26 hvu => ?_)
  refine g_two (K := K) (d1 := pD u0.1) (d2 := pD u0.2) hvu fun w4 w7 u4 u7 => ?_
  have ix0 : ∀ {σ : L2.St} {H' : Hp}, σ[4]? = some (some w4) → Ex H26 H' → EvD K (tOp (rIxT K) (tVar 4) (tC (.int 0))) σ H' (.int u0.1.1) := fun h e => ed_ixT (k := 0) (ds := [.int u0.1.1, .int u0.1.2]) (ed_var h (dp_ex e _ _ u4)) ev_c rfl
  have ix1 : ∀ {σ : L2.St} {H' : Hp}, σ[4]? = some (some w4) → Ex H26 H' → EvD K (tOp (rIxT K) (tVar 4) (tC (.int 1))) σ H' (.int u0.1.2) := fun h e => ed_ixT (k := 1) (ds := [.int u0.1.1, .int u0.1.2]) (ed_var h (dp_ex e _ _ u4)) ev_c rfl
  refine q_asgV (ed_ifT (K := K) (b := decide (u0.1.2 < 2)) (d := .tuple [.int u0.1.1, .bool (if u0.1.2 < 2 then decide (V.int u0.1.2 = V.int 1) else true)]) (et_test (ev_op (EvD.int (ix1 rfl (Ex.refl _))) ev_c rv_I0)) (fun hb => by
      rw [if_pos (of_decide_eq_true hb)]
      exact ed_tup (eda_cons (ix0 rfl (Ex.refl _)) (eda_cons (ed_bool (ev_op (EvD.int (ix1 rfl (Ex.refl _))) ev_c (rv_eq rfl))) eda_nil)) (by simp)) (fun hb => by
      rw [if_neg (of_decide_eq_false hb)]
      exact ed_tup (eda_cons (ix0 rfl (Ex.refl _)) (eda_cons (ed_bool ev_c) eda_nil)) (by simp)) H26 (Ex.refl _) _ fun v8 H27 e27 hv8 => ?_)
  refine gN ?_
  generalize (if u0.1.2 < 2 then decide (V.int u0.1.2 = V.int 1) else true) = bb at *
  have e2527 := e26.trans e27
  have s27 := stk_ex e2527 s25
  have b27 := b25.ex e2527
  have tl27 := tl25.ext e2527
  have h7 := dp_ex e27 _ _ u7
  refine t_refuse tl27 kG iG eG (fun H28 xB E Q r => ?_) fun H28 xB28 tl28 => ?_
  · have y := exB_extn xB tl27
    refine ⟨_, rfl, (ed_tup (K := K) (ds := [.tuple [.tuple [.int u0.1.1, .bool bb], pD u0.2]]) (eda_cons (ed_tup (eda_cons (ed_var (k := 8) (v := v8) rfl (dp_extn y _ _ hv8)) (eda_cons (ed_var (k := 7) (v := w7) rfl (dp_extn y _ _ h7)) eda_nil)) (by simp)) eda_nil) (by simp)) H28 (Ex.refl _) _ fun v H29 e29 hv => ?_⟩
    have nl := nolot_one (ws := u0 :: us0) (d := .tuple [.tuple [.int u0.1.1, .bool bb], pD u0.2]) rfl
    exact ⟨.ref a, v, rfl, .inr (.inl ⟨a, s, t, _, _, rfl, (bx_exB b27 xB tl27).ex e29, hv, nl.2.1, nl.1, fun H' e' => r H' (e29.trans e')⟩)⟩
  · exact k H28 (stk_mono (by omega) (stk_exN (exB_extn xB28 tl27) s27)) tl28

end
end K16
set_option Elab.async false
set_option linter.all false
set_option maxRecDepth 100000
set_option maxHeartbeats 4000000
namespace K16
open PySem PySem.Spec PyProof.Rows L2 Evl DL
theorem rawJ_chk : (fashs.all fun fs => [2, 3, 4, 5].all fun (s : Int) => [1, 2, 3, 4, 5, 6].all fun (t : Int) => (cxs fs s t).isPerm (rawJ s t fs)) = true := by decide +kernel
theorem cxs_perm {fs : Str} {s t : Int} (hf : fs ∈ fashs) (hs : 2 ≤ s ∧ s ≤ 5) (ht : 1 ≤ t ∧ t ≤ 6) : (cxs fs s t).Perm (rawJ s t fs) := by
  have h := List.all_eq_true.mp (List.all_eq_true.mp (List.all_eq_true.mp rawJ_chk fs hf) s (by
    have : s = 2 ∨ s = 3 ∨ s = 4 ∨ s = 5 := by omega
    rcases this with rfl | rfl | rfl | rfl <;> decide)) t (by
    have : t = 1 ∨ t = 2 ∨ t = 3 ∨ t = 4 ∨ t = 5 ∨ t = 6 := by omega
    rcases this with rfl | rfl | rfl | rfl | rfl | rfl <;> decide)
  exact List.isPerm_iff.mp h
end K16
set_option Elab.async false
set_option linter.all false
set_option maxRecDepth 100000
set_option maxHeartbeats 4000000
namespace K16
open PySem PySem.Spec PyProof.Rows L2 Evl DL LamX
/-- a def that a name may hold, called by places and by names -/
structure Fv (P : Program) (w : World) (K : PySem.W.Frag) (mg : Str → Option Value) (base : Heap) (k : Nat) (ps : List Str) (sp : Sp) (f : Addr) : Prop where
  ex : ∃ fd : FuncData, FnOk P w K mg base (L2.CX P w) k f fd ps sp ∧ PySem.W.keepIn K (.ref f) = true ∧ L2.Binds K fd ps [] ∧ KwR K fd ps
def tCallW (i : Nat) (R : Addr → Sp → Prop) (E : XK) (t : TA) : TE := fun σ H Q => ∃ f sp, σ[i]? = some (some (.ref f)) ∧ R f sp ∧ t σ H fun vs H1 => sp vs H1 Q E
def tKwW (i n : Nat) (R : Addr → Sp → Prop) (E : XK) (t : TA) : TE := fun σ H Q => ∃ f sp, σ[i]? = some (some (.ref f)) ∧ R f sp ∧ t σ H fun zs H1 => zs.length = n ∧ sp zs.reverse H1 Q E
section
variable {X : Cx} {k i : Nat} {ps : List Str} {R : Addr → Sp → Prop} {E : XK} {W : WX} {x : Str} {p pos : Pos} {e : Expr} {es : List Expr} {t tk : TA} {kws : List Keyword}
theorem pe_callW (A : ∀ f sp, R f sp → Fv X.prog X.w X.K X.mg X.base k ps sp f) (tk : Takes X W) (hW : ∀ cls d σ H, E cls d H → W cls d σ H) (hr : Room k X.A) (hN : X.N[i]? = some x) (hv : Vis X.env.scope x) (ha : PA X (e :: es) t)
    (hdb : (x == ("__debug__" : Str)) = false := by decide) (hcd : (x == ("__classdict__" : Str)) = false := by decide)
    (he : starEach (e :: es) X.env = (false, eval e X.env) :: starEach es X.env := by rfl) (hpl : (backTo pos (starEach es X.env)).any (·.1) = false := by rfl) : PE X (.Call (.Name x p) (e :: es) [] pos) (tCallW i R E t) := by
  refine ⟨fun pins s σ H Q I h => ?_⟩
  obtain ⟨f, sp, hs, hR, ht⟩ := h
  obtain ⟨fd, F, hk, hb, _⟩ := (A f sp hR).ex
  refine (pe_callL (i := i) (f := f) (sp := sp) (dvs := []) (E := E) F hr hN hv hk hb .nil (passes_call tk hW) ha hdb hcd he hpl).run pins s σ H Q I ⟨hs, ?_⟩
  have e0 : (fun (vs : List V) (H1 : Hp) => sp (vs ++ []) H1 Q E) = fun vs H1 => sp vs H1 Q E := by
    funext vs H1
    rw [List.append_nil]
  show t σ H (fun vs H1 => sp (vs ++ []) H1 Q E)
  rw [e0]
  exact ht
theorem pe_kwW (A : ∀ f sp, R f sp → Fv X.prog X.w X.K X.mg X.base k ps sp f) (tk_ : Takes X W) (hW : ∀ cls d σ H, E cls d H → W cls d σ H) (hr : Room k X.A) (hN : X.N[i]? = some x) (hv : Vis X.env.scope x) (hkw : PK X kws tk)
    (hall : (backToKw pos (keywordEach kws X.env)).all (·.1.isSome) = true := by rfl) (hks : (backToKw pos (keywordEach kws X.env)).filterMap (·.1) = ps.reverse := by rfl) (hdb : (x == ("__debug__" : Str)) = false := by decide) (hcd : (x == ("__classdict__" : Str)) = false := by decide)
    (hpl : ((backTo pos (starEach [] X.env)).any (·.1) || (backToKw pos (keywordEach kws X.env)).any (·.1.isNone)) = false := by rfl) :
    PE X (.Call (.Name x p) [] kws pos) (tKwW i ps.length R E tk) := by
  refine ⟨fun pins s σ H Q I h => ?_⟩
  obtain ⟨f, sp, hs, hR, ht⟩ := h
  obtain ⟨fd, F, hk, _, hb⟩ := (A f sp hR).ex
  refine wpAny_Call_Name_kw (thn ((pe_var (pos := p) hN hv hdb hcd).run pins s σ H (fun v H1 => v = .ref f ∧ H1 = H) I ⟨.ref f, hs, rfl, rfl⟩) fun u s1 ⟨v, H1, I1, r1, q1⟩ => ?_)
  obtain ⟨rfl, rfl⟩ := q1
  cases r1
  refine PySem.W.callWith_KW0 (h₀ := X.base) I.ok.mod.kin hk hall (thn (hkw.run pos pins s1 σ _ _ I1 ht) fun ws s2 z => ?_) hpl
  obtain ⟨zs, H2, I2, rz, l2, q2⟩ := z
  refine ⟨I2.kIn, ?_⟩
  rw [hks]
  exact run_fnN (us := []) (vs := []) F hr (kbn_rev hb) (passes_call tk_ hW) I2 .nil rz rfl (by rw [l2, List.length_reverse]) q2
end
theorem cxs_srt {fs : Str} {s t : Int} (hf : fs ∈ fashs) (hs : 2 ≤ s ∧ s ≤ 5) (ht : 1 ≤ t ∧ t ≤ 6) : srt (rawJ s t fs) = cxs fs s t := by
  have A := cxs_good hf hs ht
  have pm : (srt (rawJ s t fs)).Perm (cxs fs s t) := (srt_perm _).trans (cxs_perm hf hs ht).symm
  have u1 := up_pw A.up
  have u2 := up_pw (srt_rise ((cxs_perm hf hs ht).nodup_iff.mp A.one))
  exact List.Perm.eq_of_pairwise (le := fun a b => PySem.W.dataLt (swD a) (swD b) = true) (fun a b _ _ h1 h2 => by
    have := ltA h1
    rw [h2] at this
    cases this) u2 u1 pm
def grid (s t : Int) : List Pin := (List.range s.toNat).flatMap fun (a : Nat) => (List.range t.toNat).map fun (b : Nat) => ((a : Int), (b : Int))
theorem mem_grid {s t : Int} {p : Pin} (h1 : 0 ≤ p.1) (h2 : p.1 < s) (h3 : 0 ≤ p.2) (h4 : p.2 < t) : p ∈ grid s t := by
  unfold grid
  simp only [List.mem_flatMap, List.mem_map, List.mem_range]
  exact ⟨p.1.toNat, by omega, p.2.toNat, by omega, by
    obtain ⟨a, b⟩ := p
    simp only at h1 h3 ⊢
    rw [Int.toNat_of_nonneg h1, Int.toNat_of_nonneg h3]⟩
theorem pks_grid {s t : Int} {ws : List Sw} (A : Bok s t ws) : ∀ p ∈ pks ws, 0 ≤ p.1 ∧ p.1 < s ∧ 0 ≤ p.2 ∧ p.2 < t := fun p hp => by
  obtain ⟨u, hu, h⟩ := mem_pks.mp hp
  obtain ⟨h1, h2, h3, h4, h5, h6, h7⟩ := A.ok u hu
  rcases h with rfl | rfl
  · exact ⟨h1, by omega, h4, h5⟩
  · exact ⟨by omega, h3, h6, h7⟩
theorem pks_30 {s t : Int} {ws : List Sw} (A : Bok s t ws) : (pks ws).length ≤ 30 := by
  have h := sub_len (pks_nodup ws) (pk := grid s t) fun p hp => by
    obtain ⟨h1, h2, h3, h4⟩ := pks_grid A p hp
    exact mem_grid h1 h2 h3 h4
  have l : (grid s t).length ≤ 5 * 6 := by
    have f := fl_len (f := fun (a : Nat) => (List.range t.toNat).map fun (b : Nat) => ((a : Int), (b : Int))) (M := 6) (fun i => by rw [List.length_map, List.length_range]; have := A.ht.2; omega) s.toNat
    unfold grid
    have : s.toNat * 6 ≤ 5 * 6 := Nat.mul_le_mul_right _ (by have := A.hs.2; omega)
    omega
  omega
section
variable {P : Program} {w : World} {K : PySem.W.Frag} {C : Addr} {σ : L2.St} {H H' : Hp} {te tb : TE} {d : PyData} {ds : List PyData}
theorem own_box (BC : BoxC K C) (BT : BoxT K C) {neg : Bool} {a b : Addr} {s t s' t' : Int} {ws ws' : List Sw} {Q : VK} (ha : BxAt P w K C H a s t ws) (hb : BxAt P w K C H b s' t' ws') (q : ∀ H', Ex H H' → Q (.bl (if neg then !decide (s = s' ∧ t = t' ∧ ws = ws') else decide (s = s' ∧ t = t' ∧ ws = ws'))) H') :
    rOwn K C (spEqB P w K C) neg (.ref a) (.ref b) H Q := by
  obtain ⟨dx, v', d', kvs, g1, _⟩ := id ha
  have ny : PySem.W.notFirst K C (.ref C) = true := by
    unfold PySem.W.notFirst
    simp
  exact ⟨a, dx, _, .ref C, rfl, g1, hb.ty BC BT, ny, a, .ref b, s, t, ws, rfl, ha, .inl ⟨b, s', t', ws', rfl, hb, fun H' e' => ⟨_, rfl, q H' e'⟩⟩⟩
theorem fine_tups {W k : Nat} : ∀ {ds : List PyData}, (∀ d ∈ ds, Fine d W k) → PyData.leavesShortAll 13 ds = true ∧ PyData.showableAll ds = true ∧ PyData.weightAll ds ≤ (W + 1) * ds.length ∧ PyData.depthAll ds ≤ k
  | [], _ => ⟨rfl, rfl, by simp [PyData.weightAll], by simp [PyData.depthAll]⟩
  | d :: ds, h => by
    obtain ⟨h1, h2, h3, h4⟩ := fine_tups (ds := ds) fun e he => h e (List.mem_cons_of_mem _ he)
    have hn := h d List.mem_cons_self
    refine ⟨?_, ?_, ?_, ?_⟩
    · simp only [PyData.leavesShortAll, Bool.and_eq_true]
      exact ⟨hn.short, h1⟩
    · simp only [PyData.showableAll, Bool.and_eq_true]
      exact ⟨hn.shows, h2⟩
    · simp only [PyData.weightAll, List.length_cons]
      have := hn.few
      rw [Nat.mul_add]
      omega
    · simp only [PyData.depthAll]
      have := hn.deep
      omega
theorem fine_tupF {W k : Nat} {ds : List PyData} (h : ∀ d ∈ ds, Fine d W k) : Fine (.tuple ds) ((W + 1) * ds.length + 1) (k + 1) := by
  obtain ⟨h1, h2, h3, h4⟩ := fine_tups h
  refine ⟨by simpa only [PyData.leavesShort] using h1, by simpa only [PyData.showable] using h2, ?_, ?_⟩
  · simp only [PyData.depth]
    omega
  · simp only [PyData.weight]
    omega
theorem fine_lstF {W k : Nat} {ds : List PyData} (h : ∀ d ∈ ds, Fine d W k) : Fine (.list ds) ((W + 1) * ds.length + 1) (k + 1) := by
  obtain ⟨h1, h2, h3, h4⟩ := fine_tups h
  refine ⟨by simpa only [PyData.leavesShort] using h1, by simpa only [PyData.showable] using h2, ?_, ?_⟩
  · simp only [PyData.depth]
    omega
  · simp only [PyData.weight]
    omega
theorem Fine.mono {W k W' k' : Nat} {d : PyData} (h : Fine d W k) (h1 : W ≤ W') (h2 : k ≤ k') : Fine d W' k' := ⟨h.short, h.shows, Nat.le_trans h.deep h2, Nat.le_trans h.few h1⟩
end
section
variable {X : Cx}
/-- x not in t, t a tuple -/
def rNotInT (K : PySem.W.Frag) : R2 := fun x y H Q => ∃ d ds, Dp K H x d ∧ Dp K H y (.tuple ds) ∧ SeqAt.shaped d = true ∧ SeqAt.shaped (.tuple ds) = true ∧ Q (.bl (!ds.any fun z => PyData.eqv z d)) H
theorem op_notInT (K : PySem.W.Frag) (hK : X.K = K) (hu : X.A.units + 65 < cLine) : OpR X (compareOp .NotIn) (rNotInT K) := by
  subst hK
  intro pins s σ H x y v u Q I rx ry h
  obtain ⟨d, ds, hd, he, sd, se, q⟩ := h
  obtain ⟨as, r1⟩ := Dp.reads I d x v hd rx
  obtain ⟨bs, r2⟩ := Dp.reads I (.tuple ds) y u he ry
  exact SeqAt.notIn_tuple_reads r2 r1 (SeqAt.canLay_of_shaped se) (SeqAt.canLay_of_shaped sd) (room_in_shaped sd hu) ⟨.bl _, H, I, rfl, q⟩
theorem ev_notInT {K : PySem.W.Frag} {ta tb : TE} {σ : L2.St} {H : Hp} {d : PyData} {ds : List PyData} (ha : EvD K ta σ H d) (hb : EvD K tb σ H (.tuple ds)) (sd : SeqAt.shaped d = true) (se : SeqAt.shaped (.tuple ds) = true) :
    Ev (tOp (rNotInT K) ta tb) σ H (.bl (!ds.any fun z => PyData.eqv z d)) := fun H1 e Q q =>
  ha H1 e _ fun v H2 e2 hv => hb H2 (e.trans e2) _ fun u H3 e3 hu => ⟨d, ds, dp_ex e3 _ _ hv, hu, sd, se, q H3 (e2.trans e3)⟩
end
theorem fine_swD {s t : Int} {u : Sw} (h : SwOk s t u) (hs : s ≤ 5) (ht : t ≤ 6) : Fine (swD u) 200 4 := by
  obtain ⟨⟨a, b⟩, ⟨c, e⟩⟩ := u
  obtain ⟨h1, h2, h3, h4, h5, h6, h7⟩ := h
  have sm : ∀ i : Int, 0 ≤ i → i ≤ 6 → Sml i := fun i h1 h2 => by unfold Sml; omega
  dsimp only at h1 h2 h3 h4 h5 h6 h7
  refine Fine.mono (fine_tupF (W := 82) (k := 2) (ds := [tI [a, b], tI [c, e]]) fun x hx => ?_) (by simp) (by decide)
  simp only [List.mem_cons, List.not_mem_nil, or_false] at hx
  rcases hx with rfl | rfl
  · exact fine_tI fun n hn => by
      simp only [List.mem_cons, List.not_mem_nil, or_false] at hn
      rcases hn with rfl | rfl
      · exact sm _ h1 (by omega)
      · exact sm _ h4 (by omega)
  · exact fine_tI fun n hn => by
      simp only [List.mem_cons, List.not_mem_nil, or_false] at hn
      rcases hn with rfl | rfl
      · exact sm _ (by omega) (by omega)
      · exact sm _ h6 (by omega)
theorem fine_box {s t : Int} {ws : List Sw} (A : Bok s t ws) : Fine (.list [.int s, .int t, .tuple (ws.map swD)]) 400000 8 := by
  have sm : ∀ i : Int, 0 ≤ i → i ≤ 6 → Sml i := fun i h1 h2 => by unfold Sml; omega
  have := A.hs
  have := A.ht
  have f1 : ∀ d ∈ ws.map swD, Fine d 200 4 := fun d hd => by
    obtain ⟨u, hu, rfl⟩ := List.mem_map.mp hd
    exact fine_swD (A.ok u hu) A.hs.2 A.ht.2
  have f2 := Fine.mono (W' := 90000) (k' := 5) (fine_tupF f1) (by rw [List.length_map]; have := A.few; omega) (by decide)
  refine Fine.mono (fine_lstF (W := 90000) (k := 5) fun x hx => ?_) (by simp) (by decide)
  simp only [List.mem_cons, List.not_mem_nil, or_false] at hx
  rcases hx with rfl | rfl | rfl
  · exact Fine.mono (fine_int (sm _ (by omega) (by omega))) (by decide) (by decide)
  · exact Fine.mono (fine_int (sm _ (by omega) (by omega))) (by decide) (by decide)
  · exact f2
theorem fine_pcs {s t : Int} {ws : List Sw} (A : Bok s t ws) : Fine (.list ((pcs ws).map tupP)) 90000 6 := by
  have sm : ∀ i : Int, 0 ≤ i → i ≤ 6 → Sml i := fun i h1 h2 => by unfold Sml; omega
  have l30 := pks_30 A
  have hp : ∀ d ∈ (pcs ws).map tupP, Fine d 2600 4 := fun d hd => by
    obtain ⟨x, hx, rfl⟩ := List.mem_map.mp hd
    obtain ⟨p, hp, tl, _, e⟩ := (pcs_up ws).2 x hx
    have lc := comp_len ws p
    rw [← e] at lc
    refine Fine.mono (fine_tupF (W := 82) (k := 2) (ds := x.map pD) fun y hy => ?_) (by rw [List.length_map]; omega) (by decide)
    obtain ⟨q, hq, rfl⟩ := List.mem_map.mp hy
    have hk := ((mem_comp hp).mp (e ▸ hq)).on hp
    obtain ⟨h1, h2, h3, h4⟩ := pks_grid A q hk
    have := A.hs.2
    have := A.ht.2
    exact fine_tI (ns := [q.1, q.2]) fun n hn => by
      simp only [List.mem_cons, List.not_mem_nil, or_false] at hn
      rcases hn with rfl | rfl
      · exact sm _ h1 (by omega)
      · exact sm _ h3 (by omega)
  have few : (pcs ws).length ≤ 30 := by
    have nd : ((pcs ws).map fun x => x.headD (0, 0)).Nodup := List.pairwise_map.mpr ((pcs_up ws).1.imp_of_mem fun {x y} hx hy h e => by
      obtain ⟨p, hp, t1, e1, e2⟩ := (pcs_up ws).2 x hx
      obtain ⟨q, hq, t2, e3, e4⟩ := (pcs_up ws).2 y hy
      rw [e1, e3] at e
      have pq : p = q := e
      rw [e2, e4, pq] at h
      have := ltA h
      rw [h] at this
      cases this)
    have := sub_len nd (pk := pks ws) fun q hq => by
      obtain ⟨x, hx, rfl⟩ := List.mem_map.mp hq
      obtain ⟨p, hp, t1, e1, _⟩ := (pcs_up ws).2 x hx
      rw [e1]
      exact hp
    rw [List.length_map] at this
    omega
  exact Fine.mono (fine_lstF hp) (by rw [List.length_map]; omega) (by decide)
theorem any_sws (L : List Sw) (u : Sw) : ((L.map swD).any fun z => PyData.eqv z (swD u)) = decide (u ∈ L) := by
  rw [List.any_map, Bool.eq_iff_iff, List.any_eq_true, decide_eq_true_iff]
  constructor
  · rintro ⟨q, hq, h⟩
    have h : PyData.eqv (swD q) (swD u) = true := h
    rw [eqv_swD] at h
    exact of_decide_eq_true h ▸ hq
  · intro h
    refine ⟨u, h, ?_⟩
    show PyData.eqv (swD u) (swD u) = true
    rw [eqv_swD]
    exact decide_eq_true rfl
theorem shaped_sw (u : Sw) : SeqAt.shaped (swD u) = true := shaped_of (ds := [pD u.1, pD u.2]) fun d hd => by
  simp only [List.mem_cons, List.not_mem_nil, or_false] at hd
  rcases hd with rfl | rfl
  · exact flat_pin _
  · exact flat_pin _
end K16
set_option Elab.async false
set_option linter.all false
set_option maxRecDepth 100000
set_option maxHeartbeats 4000000
namespace K16
open PySem PySem.Spec PyProof.Rows L2 Evl DL LamX
local macro_rules | `(tactic| walk_at "dl") => `(tactic| first
  | exact ev_c | exact ev_var rfl | exact eda_nil
  | exact ed_var rfl (by assumption)
  | exact ed_int ev_c | exact ed_int (ev_var rfl)
  | (refine eda_cons ?_ ?_ <;> walk_at "dl")
  | (refine ed_int ?_; walk_at "dl")
  | (refine ev_op ?_ ?_ rv_I0 <;> walk_at "dl"))

abbrev s_law : Stmt := topS 52
abbrev N_law : List Str := ["_law_script", "_law_state", "_law_turn", "_law_sides_here", "_law_many", "_law_work", "_law_fashion", "_law_due", "_law_made_here", "_law_scope_here", "_law_more", "_law_one", "_law_other", "_law_both", "_law_lost", "_law_left", "_law_bare", "_law_item", "_law_told", "_law_switch"]
theorem sc_law : FnScope N_law ["_law_script"] (defScope s_law) := ⟨rfl, rfl, rfl, by decide +kernel, rfl, by decide +kernel, by decide +kernel⟩
def WkR (P : Program) (w : World) (K : PySem.W.Frag) (CB CT C fP fC fF : Addr) (f : Addr) (sp : Sp) : Prop := ∃ fs ∈ fashs, sp = spKind P w K CB CT C fs ∧ ((f = fP ∧ fs = Str.ofString "plain") ∨ (f = fC ∧ fs = Str.ofString "crossed") ∨ (f = fF ∧ fs = Str.ofString "full"))
def spLaw (K : PySem.W.Frag) (tl : Addr) : Sp := fun vs H Q _ => ∃ (a : Addr) (ns : List Int), vs = [.ref a] ∧ SqL K H a (ns.map V.int) ∧ ns.length ≤ 63 ∧ H tl = some (.tbl #[]) ∧ ∀ H', Q (.bl true) H'
section
variable {P : Program} {w : World} {K : PySem.W.Frag} {C CB CT CW : Addr} {σ : L2.St} {H H' : Hp} {tt : TT} {ta : TA} {te tb : TE} {tz : TS} {D : Ends}
theorem g_twoV {i j : Nat} {T : Addr} {x y : V} {Q : L2.St → Hp → Prop} (h : H T = some (.tup [x, y])) (q : Q ((σ.set i (some x)).set j (some y)) H) : gTup K 2 (gCons (gName i) (gCons (gName j) gNil)) (.ref T) σ H Q := ⟨T, _, rfl, st_of h, rfl, x, _, rfl, y, _, rfl, rfl, q⟩
theorem q_asgM {k : Nat} (M : V → Hp → Prop) (h : ∀ Q : VK, (∀ v H1, M v H1 → Q v H1) → te σ H Q) (q : ∀ v H1, M v H1 → tz D (σ.set k (some v)) H1) : tSeq (tAsg te (gName k)) tz D σ H := h _ q
theorem fash3 : Str.ofString "plain" ∈ fashs ∧ Str.ofString "crossed" ∈ fashs ∧ Str.ofString "full" ∈ fashs := by decide +kernel
/-- work(s, m), work(tracks = m, sides = s) -/
theorem kind_ok {fs : Str} {s m : Int} {E : XK} {Q : VK} (hs : 2 ≤ s ∧ s ≤ 5) (hm : 1 ≤ m ∧ m ≤ 6) (q : ∀ x H', H x = none → Ex H H' → BxAt P w K C H' x s m (cxs fs s m) → Q (.ref x) H') : spKind P w K CB CT C fs [.int s, .int m] H Q E :=
  ⟨.int s, .int m, .int s, .int m, rfl, .int s, .int m, .inl ⟨s, m, rfl, rfl, hs, hm, q⟩⟩
/-- a Box made is the same -/
theorem ev_sameN (BC : BoxC K C) (BT : BoxT K C) {i : Nat} {a : Addr} {s t : Int} {ws : List Sw} (h1 : σ[i]? = some (some (.ref a))) (hb : BxAt P w K C H a s t ws) (h : ∀ H1, Ex H H1 → ∀ Q : VK, (∀ x H2, Ex H1 H2 → BxAt P w K C H2 x s t ws → Q (.ref x) H2) → te σ H1 Q) : Ev (tOp (rOwn K C (spEqB P w K C) true) te (tVar i)) σ H (.bl false) := fun H1 e Q q =>
  h H1 e _ fun x H2 e2 bx => ⟨.ref a, h1, own_box BC BT (neg := true) bx (hb.ex (e.trans e2)) fun H3 e3 => by
    have := q H3 (e2.trans e3)
    simpa using this⟩
theorem ev_sameM (BC : BoxC K C) (BT : BoxT K C) {i : Nat} {a : Addr} {s t : Int} {ws : List Sw} (h1 : σ[i]? = some (some (.ref a))) (hb : BxAt P w K C H a s t ws) (h : ∀ H1, Ex H H1 → ∀ Q : VK, (∀ x H2, Ex H1 H2 → BxAt P w K C H2 x s t ws → Q (.ref x) H2) → te σ H1 Q) : Ev (tOp (rOwn K C (spEqB P w K C) true) (tVar i) te) σ H (.bl false) := fun H1 e Q q =>
  ⟨.ref a, h1, h H1 e _ fun x H2 e2 bx => own_box BC BT (neg := true) (hb.ex (e.trans e2)) bx fun H3 e3 => by
    have := q H3 (e2.trans e3)
    simpa using this⟩
end
section
variable {P : Program} {w : World} {K : PySem.W.Frag} {C CX : Addr} {σ : L2.St} {H H' : Hp} {te : TE}
theorem bx_lst {a L : Addr} {s t : Int} {ws : List Sw} {l : List V} (h : BxAt P w K C H a s t ws) (x : Xp [L] H H') (hL : H L = some (.lst l)) : BxAt P w K C H' a s t ws := by
  obtain ⟨dx, v, d, kvs, h1, h2, h3, h4⟩ := h
  have tx : Tx H H' := x.tx (Ls.one hL)
  have nin : ∀ b o, H b = some o → (∀ l, o ≠ .lst l) → b ∉ [L] := fun b o ho n hm => by
    rw [List.mem_singleton.mp hm, hL] at ho
    exact n _ (Option.some.inj ho).symm
  have im : imm (.tuple (ws.map swD)) = true := by simpa [imm] using immAll_map imm_sw ws
  exact ⟨dx, v, d, kvs, x _ _ h1 (nin _ _ h1 fun _ z => nomatch z), dp_tx tx _ _ im h2, h3.tx tx (x _ _ h3.at_ (nin _ _ h3.at_ fun _ z => nomatch z)), h4⟩
theorem lot_sub {s t : Int} {us ws : List Sw} (A : Bok s t us) (sub : ws.Sublist us) : lotB us (.tuple (ws.map swD)) = true := by
  show ((ws.map swD).all (hasB us) && risesD (ws.map swD)) = true
  rw [pw_up ((up_pw A.up).sublist sub), Bool.and_true, List.all_eq_true]
  intro d hd
  obtain ⟨u, hu, rfl⟩ := List.mem_map.mp hd
  rw [hasB_sw]
  exact decide_eq_true (sub.subset hu)
theorem bsd_bok {s t t' : Int} {us ws : List Sw} (A : Bok s t us) (B : Bok s t' ws) (h6 : t + t' ≤ 6) (few : us.length + ws.length ≤ 400) : Bok s (t + t') (srt (bsd t us ws)) := by
  have pm := srt_perm (bsd t us ws)
  refine ⟨A.hs, ⟨by have := A.ht.1; have := B.ht.1; omega, h6⟩, fun u hu => bsd_ok A B u (pm.mem_iff.mp hu), srt_rise (bsd_one A B), pm.nodup_iff.mpr (bsd_one A B), ?_⟩
  rw [pm.length_eq, bsd, List.length_append, List.length_map]
  exact few
end
theorem chk30 : ([2, 3, 4, 5].all fun (s : Int) => [1, 2, 3].all fun (t : Int) => decide ((cxs (Str.ofString "plain") s t).length ≤ 30)) = true := by decide +kernel
theorem plain30 {s t : Int} (hs : 2 ≤ s ∧ s ≤ 5) (ht : 1 ≤ t ∧ t ≤ 3) : (cxs (Str.ofString "plain") s t).length ≤ 30 := by
  have h := List.all_eq_true.mp (List.all_eq_true.mp chk30 s (by
    have : s = 2 ∨ s = 3 ∨ s = 4 ∨ s = 5 := by omega
    rcases this with rfl | rfl | rfl | rfl <;> decide)) t (by
    have : t = 1 ∨ t = 2 ∨ t = 3 := by omega
    rcases this with rfl | rfl | rfl <;> decide)
  exact of_decide_eq_true h
theorem t_callC {sp : Sp} {E : XK} {te : TE} {ta : TA} {σ : L2.St} {H : Hp} {Q : VK} (h : te σ H fun x H1 => ta σ H1 fun xs H2 => sp ((x :: xs) ++ []) H2 Q E) : tCall sp [] E (tCons te ta) σ H Q := h
section
variable {P : Program} {w : World} {K : PySem.W.Frag} {mg : Str → Option Value} {base : Heap}

theorem ok_law {f : Addr} {fd : FuncData} (F : Fun K "law" "law" s_law f fd) (T : Txt mg) {tl CB CT CX CO CG CW C fP fC fF : Addr} (gfP : mg "plain" = some (.ref fP)) (gfC : mg "crossed" = some (.ref fC)) (gfF : mg "full" = some (.ref fF)) (B : BoxC K C) (BT : BoxT K C) (BX : BoxX P w K mg base C CB CT CW) (OB : BoxQ P w K mg base C)
    (WK : ∀ f sp, WkR P w K CB CT C fP fC fF f sp → Fv P w K mg base 7 ["sides", "tracks"] sp f) (D__law_begun : DF P w K mg base "_law_begun" 1 ["_law_script"] (spBegun K)) (D__law_draw : DF P w K mg base "_law_draw" 1 ["_law_state", "_law_size_here"] (spDraw K)) (D__law_few : DF P w K mg base "_law_few" 3 ["_law_state", "_law_several", "_law_most"] (spFew K)) (D__law_joined : DF P w K mg base "_law_joined" 2 ["_law_sides_here", "_law_many", "_law_fashion"] (spN K 3 R_law_joined)) (D__law_lots : DF P w K mg base "_law_lots" 2 ["_law_joined_here"] (spN K 1 R_law_lots)) (D__law_made : DFX P w K mg base "_law_made" 6 ["_law_scope_here"] (spMade P w K C)) (D__law_scope : DF P w K mg base "_law_scope" 3 ["_law_state", "_law_most"] (spScope K)) (D_beside : DFX P w K mg base "beside" 6 ["one", "other"] (spBeside P w K CT C CX CO)) (D_pieces : DFX P w K mg base "pieces" 2 ["box"] (spPieces P w K C CX)) (D_plain : DFX P w K mg base "plain" 7 ["sides", "tracks"] (spKind P w K CB CT C (Str.ofString "plain"))) (D_without : DFX P w K mg base "without" 6 ["box", "gone"] (spWithout P w K C CX CG)) (DK_beside : DFK P w K mg base (L2.CX P w) "beside" 6 ["one", "other"] (spBeside P w K CT C CX CO)) (DK_without : DFK P w K mg base (L2.CX P w) "without" 6 ["box", "gone"] (spWithout P w K C CX CG)) (DK_pieces : DFK P w K mg base (L2.CX P w) "pieces" 2 ["box"] (spPieces P w K C CX)) (D__law_refused : DFG P w K mg base "_law_refused" 11 ["_law_state", "_law_made_here"] (spRefused P w K C tl)) :
    FnG P w K mg base (L2.CX P w) 13 f fd ["_law_script"] (spLaw K tl) := by
  refine okG F sc_law (fun vs H Q E h => by obtain ⟨_, _, rfl, _⟩ := h; rfl) (fun cdv A outer s0 H vs Q E hg hr h => ?_)
  obtain ⟨a, ns, rfl, hs, hl, htl, k⟩ := h
  refine ⟨_, (pss_cons (ps_set (i := 1) sc_law.nd rfl (.inl rfl) (pe_D D__law_begun (hr.mono (by decide)) (by rfl) (pa_cons (pv 0) pa_nil)))
      (pss_cons (ps_for (passes_of rfl) rfl (pi_range1 (by rfl) T.b_range (pa_cons (pe_op op_add pe_int (pe_callB (call_min2 rfl) (by rfl) T.b_min (by decide +kernel) (pa_cons (pe_callB call_len_seq (by rfl) T.b_len PySem.boot_len (pa_cons (pv 0) pa_nil)) (pa_cons pe_int pa_nil)))) pa_nil)) (pg_name (i := 2) sc_law.nd rfl (Or.inl rfl)) (pss_cons (ps_par (i := 3) (j := 4) (by rfl) sc_law.nd rfl rfl (by decide) rfl rfl (pa_cons (pe_op op_add pe_int (pe_D D__law_draw (hr.mono (by decide)) (by rfl) (pa_cons (pv 1) (pa_cons pe_int pa_nil)))) (pa_cons (pe_op op_add pe_int (pe_D D__law_draw (hr.mono (by decide)) (by rfl) (pa_cons (pv 1) (pa_cons pe_int pa_nil)))) pa_nil)) (by rfl))
      (pss_cons (ps_for (passes_of rfl) rfl (pi_list (pe_lst (pa_cons (pe_tup (pa_cons (pe_glob (v := .ref fP) (by rfl) gfP (show L2.RelV (.ref fP) (.ref fP) from rfl) (by decide)) (pa_cons pe_str pa_nil))) (pa_cons (pe_tup (pa_cons (pe_glob (v := .ref fC) (by rfl) gfC (show L2.RelV (.ref fC) (.ref fC) from rfl) (by decide)) (pa_cons pe_str pa_nil))) (pa_cons (pe_tup (pa_cons (pe_glob (v := .ref fF) (by rfl) gfF (show L2.RelV (.ref fF) (.ref fF) from rfl) (by decide)) (pa_cons pe_str pa_nil))) pa_nil))))) (pg_tup rfl (pgs_cons (pg_name (i := 5) sc_law.nd rfl (Or.inl rfl)) (pgs_cons (pg_name (i := 6) sc_law.nd rfl (Or.inl rfl)) pgs_nil))) (pss_cons (ps_set (i := 7) sc_law.nd rfl (.inl rfl) (pe_callTy call_tuple_of (by rfl) T.b_tuple (by decide +kernel) (pa_cons (pe_D D__law_joined (hr.mono (by decide)) (by rfl) (pa_cons (pv 3) (pa_cons (pv 4) (pa_cons (pv 6) pa_nil)))) pa_nil)))
      (pss_cons (ps_set (i := 8) sc_law.nd rfl (.inl rfl) (pe_callW (i := 5) WK (E := fun _ _ _ => False) (takes_of rfl rfl rfl rfl) (fun _ _ _ _ h => h.elim) (hr.mono (by decide)) rfl (.inl rfl) (pa_cons (pv 3) (pa_cons (pv 4) pa_nil))))
      (pss_cons (ps_if (pt_cmpR op_ne (pe_callB (call_repr hg (hu100 hr)) (by rfl) T.b_repr (by decide +kernel) (pa_cons (pe_lst (pa_cons (pe_fld (pv 8) rfl) (pa_cons (pe_fld (pv 8) rfl) (pa_cons (pe_fld (pv 8) rfl) pa_nil)))) pa_nil)) (pe_callB (call_repr hg (hu100 hr)) (by rfl) T.b_repr (by decide +kernel) (pa_cons (pe_lst (pa_cons (pv 3) (pa_cons (pv 4) (pa_cons (pv 7) pa_nil)))) pa_nil)) (nomark _)) (pss_one (ps_ret pe_bl)) pss_nil)
      (pss_one (ps_if (pt_cmpR (op_boxN OB (hr.mono (by decide))) (pe_kwW (i := 5) WK (E := fun _ _ _ => False) (takes_of rfl rfl rfl rfl) (fun _ _ _ _ h => h.elim) (hr.mono (by decide)) rfl (.inl rfl) (pk_cons (pv 4) (pk_cons (pv 3) pk_nil))) (pv 8) (nomark _)) (pss_one (ps_ret pe_bl)) pss_nil))))))
      (pss_cons (ps_set (i := 9) sc_law.nd rfl (.inl rfl) (pe_D D__law_scope (hr.mono (by decide)) (by rfl) (pa_cons (pv 1) (pa_cons pe_int pa_nil))))
      (pss_cons (ps_set (i := 8) sc_law.nd rfl (.inl rfl) (pe_DX D__law_made (E := fun _ _ _ => False) (takes_of rfl rfl rfl rfl) (fun _ _ _ _ h => h.elim) (hr.mono (by decide)) (by rfl) (pa_cons (pv 9) pa_nil)))
      (pss_cons (ps_set (i := 10) sc_law.nd rfl (.inl rfl) (pe_ifExp (pt_cmpR op_eq (pe_D D__law_draw (hr.mono (by decide)) (by rfl) (pa_cons (pv 1) (pa_cons pe_int pa_nil))) pe_int (nomark _)) (pe_DX D_plain (E := fun _ _ _ => False) (takes_of rfl rfl rfl rfl) (fun _ _ _ _ h => h.elim) (hr.mono (by decide)) (by rfl) (pa_cons (pe_fld (pv 8) rfl) (pa_cons (pe_op op_add pe_int (pe_D D__law_draw (hr.mono (by decide)) (by rfl) (pa_cons (pv 1) (pa_cons pe_int pa_nil)))) pa_nil))) (pv 8)))
      (pss_cons (ps_set (i := 7) sc_law.nd rfl (.inl rfl) (pe_callTy call_list_of (by rfl) T.b_list (by decide +kernel) (pa_cons (pe_fld (pv 8) rfl) pa_nil)))
      (pss_cons (ps_for (passes_of rfl) rfl (pi_tup (pe_fld (pv 10) rfl)) (pg_tup rfl (pgs_cons (pg_name (i := 11) sc_law.nd rfl (Or.inl rfl)) (pgs_cons (pg_name (i := 12) sc_law.nd rfl (Or.inl rfl)) pgs_nil))) (pss_one (ps_expr (pe_bm PySem.F.plainAttrs_list PySem.F.slot_list_append PySem.F.type_list_append mt_append (pv 7) (pa_cons (pe_tup (pa_cons (pe_tup (pa_cons (pe_ix ix_tup (pv 11) pe_int (fun _ _ => rfl)) (pa_cons (pe_op op_add (pe_ix ix_tup (pv 11) pe_int (fun _ _ => rfl)) (pe_fld (pv 8) rfl)) pa_nil))) (pa_cons (pe_tup (pa_cons (pe_ix ix_tup (pv 12) pe_int (fun _ _ => rfl)) (pa_cons (pe_op op_add (pe_ix ix_tup (pv 12) pe_int (fun _ _ => rfl)) (pe_fld (pv 8) rfl)) pa_nil))) pa_nil))) pa_nil)))))
      (pss_cons (ps_set (i := 13) sc_law.nd rfl (.inl rfl) (pe_DX D_beside (E := fun _ _ _ => False) (takes_of rfl rfl rfl rfl) (fun _ _ _ _ h => h.elim) (hr.mono (by decide)) (by rfl) (pa_cons (pv 8) (pa_cons (pv 10) pa_nil))))
      (pss_cons (ps_if (pt_cmpR (op_boxN OB (hr.mono (by decide))) (pv 13) (pe_BoxX BX ⟨rfl, rfl, rfl, rfl, rfl⟩ (E := fun _ _ _ => False) (takes_of rfl rfl rfl rfl) (fun _ _ _ _ h => h.elim) (hr.mono (by decide)) (by rfl) (pa_cons (pe_fld (pv 8) rfl) (pa_cons (pe_op op_add (pe_fld (pv 8) rfl) (pe_fld (pv 10) rfl)) (pa_cons (pe_callTy call_tuple_of (by rfl) T.b_tuple (by decide +kernel) (pa_cons (pe_callB (cr_sortedD (hu64 hr)) (by rfl) T.b_sorted (by decide +kernel) (pa_cons (pv 7) pa_nil)) pa_nil)) pa_nil)))) (nomark _)) (pss_one (ps_ret pe_bl)) pss_nil)
      (pss_cons (ps_if (pt_cmpR (op_boxN OB (hr.mono (by decide))) (pe_DK DK_beside (E := fun _ _ _ => False) (takes_of rfl rfl rfl rfl) (fun _ _ _ _ h => h.elim) (hr.mono (by decide)) (by rfl) (pk_cons (pv 10) (pk_cons (pv 8) pk_nil))) (pv 13) (nomark _)) (pss_one (ps_ret pe_bl)) pss_nil)
      (pss_cons (ps_set (i := 14) sc_law.nd rfl (.inr rfl) (pe_callTy call_tuple_of (by rfl) T.b_tuple (by decide +kernel) (pa_cons (pe_D D__law_few (hr.mono (by decide)) (by rfl) (pa_cons (pv 1) (pa_cons (pe_callTy call_list_of (by rfl) T.b_list (by decide +kernel) (pa_cons (pe_fld (pv 8) rfl) pa_nil)) (pa_cons pe_int pa_nil)))) pa_nil)))
      (pss_cons (ps_set (i := 15) sc_law.nd rfl (.inl rfl) (pe_callTy call_tuple_of (by rfl) T.b_tuple (by decide +kernel) (pa_cons (pe_lc (own := [("_law_switch", 19)]) (g := (gName 19)) (tt := _) rfl sc_law.nd (pi_tup (pe_fld (pv 8) rfl)) (blkOk_by (N := N_law) (sc := defScope s_law) (by decide +kernel)) (fun _ _ _ _ _ => (pg_name (i := 19) sc_law.nd rfl (Or.inl rfl))) (fun _ _ _ _ _ => (pts_one (pt_cmpR (op_notInT K rfl (hu65 hr)) (pv 19) (pv 14) (by rfl)))) (fun _ _ _ _ _ => (pv 19))) pa_nil)))
      (pss_cons (ps_set (i := 16) sc_law.nd rfl (.inl rfl) (pe_DX D_without (E := fun _ _ _ => False) (takes_of rfl rfl rfl rfl) (fun _ _ _ _ h => h.elim) (hr.mono (by decide)) (by rfl) (pa_cons (pv 8) (pa_cons (pv 14) pa_nil))))
      (pss_cons (ps_if (PW.pt (pw_or (pt_cmpR (op_boxN OB (hr.mono (by decide))) (pv 16) (pe_BoxX BX ⟨rfl, rfl, rfl, rfl, rfl⟩ (E := fun _ _ _ => False) (takes_of rfl rfl rfl rfl) (fun _ _ _ _ h => h.elim) (hr.mono (by decide)) (by rfl) (pa_cons (pe_fld (pv 8) rfl) (pa_cons (pe_fld (pv 8) rfl) (pa_cons (pv 15) pa_nil)))) (nomark _)) (pw_or1 (pt_cmpR (op_boxN OB (hr.mono (by decide))) (pe_DK DK_without (E := fun _ _ _ => False) (takes_of rfl rfl rfl rfl) (fun _ _ _ _ h => h.elim) (hr.mono (by decide)) (by rfl) (pk_cons (pv 14) (pk_cons (pv 8) pk_nil))) (pv 16) (nomark _))))) (pss_one (ps_ret pe_bl)) pss_nil)
      (pss_cons (ps_for (passes_of rfl) rfl (pi_list (pe_lst (pa_cons (pv 8) (pa_cons (pv 13) (pa_cons (pv 16) pa_nil))))) (pg_name (i := 17) sc_law.nd rfl (Or.inl rfl)) (pss_cons (ps_set (i := 7) sc_law.nd rfl (.inl rfl) (pe_D D__law_lots (hr.mono (by decide)) (by rfl) (pa_cons (pe_fld (pv 17) rfl) pa_nil)))
      (pss_cons (ps_set (i := 18) sc_law.nd rfl (.inl rfl) (pe_DX D_pieces (E := fun _ _ _ => False) (takes_of rfl rfl rfl rfl) (fun _ _ _ _ h => h.elim) (hr.mono (by decide)) (by rfl) (pa_cons (pv 17) pa_nil)))
      (pss_cons (ps_if (pt_cmpR op_ne (pe_callB (call_repr hg (hu100 hr)) (by rfl) T.b_repr (by decide +kernel) (pa_cons (pe_lst (pa_cons (pv 18) (pa_cons (pe_DK DK_pieces (E := fun _ _ _ => False) (takes_of rfl rfl rfl rfl) (fun _ _ _ _ h => h.elim) (hr.mono (by decide)) (by rfl) (pk_cons (pv 17) pk_nil)) pa_nil))) pa_nil)) (pe_callB (call_repr hg (hu100 hr)) (by rfl) T.b_repr (by decide +kernel) (pa_cons (pe_lst (pa_cons (pv 7) (pa_cons (pv 7) pa_nil))) pa_nil)) (nomark _)) (pss_one (ps_ret pe_bl)) pss_nil)
      (pss_cons (ps_expr (pe_bm PySem.F.plainAttrs_list PySem.F.slot_list_append PySem.F.type_list_append mt_append (pv 18) (pa_cons pe_non pa_nil)))
      (pss_one (ps_if (pt_cmpR op_ne (pe_callB (call_repr hg (hu100 hr)) (by rfl) T.b_repr (by decide +kernel) (pa_cons (pe_DX D_pieces (E := fun _ _ _ => False) (takes_of rfl rfl rfl rfl) (fun _ _ _ _ h => h.elim) (hr.mono (by decide)) (by rfl) (pa_cons (pv 17) pa_nil)) pa_nil)) (pe_callB (call_repr hg (hu100 hr)) (by rfl) T.b_repr (by decide +kernel) (pa_cons (pv 7) pa_nil)) (nomark _)) (pss_one (ps_ret pe_bl)) pss_nil)))))))
      (pss_one (ps_if (pt_not (pt_val (pe_DG hg D__law_refused (takes_of rfl rfl rfl rfl) (hr.mono (by decide)) (by rfl) (pa_cons (pv 1) (pa_cons (pv 8) pa_nil))))) (pss_one (ps_ret pe_bl)) pss_nil))))))))))))))))))
      (pss_one (ps_ret pe_bl)))), ?_⟩
  have tl0 : TabS H tl lamR := TabS.nil htl
  refine ⟨.ref a, rfl, a, ns, rfl, hs, hl, fun st lg cl H1 hst0 hlg0 e1 s1 => ?_⟩
  have sA : SqL K H1 a (ns.map V.int) := ex_l e1 hs
  refine r_for (K := K) (n := 2 + min (ns.length : Int) 5) (eda_cons (ed_int (ev_op ev_c (ev_min2 (ev_is (ev_len (K := K) (ev_var rfl) sA) (by rw [List.length_map])) ev_c) rv_I0)) eda_nil) ⟨by omega, by omega⟩
    (fun i σ' Ha => StK st lg cl (200 * i) Ha ∧ TabS Ha tl lamR ∧ ∃ c2 c3 c4 c5 c6 c7 c8 c9 c10 c11 c12 c13 c14 c15 c16 c17 c18 c19, σ' = [some (.ref a), some (.ref st), c2, c3, c4, c5, c6, c7, c8, c9, c10, c11, c12, c13, c14, c15, c16, c17, c18, c19]) (fun H2 e2 => ⟨stk_ex e2 s1, tl0.ext (e1.trans e2), none, none, none, none, none, none, none, none, none, none, none, none, none, none, none, none, none, none, rfl⟩) ?_ ?_
  case refine_2 =>
    rintro σ' Ha ⟨s2, tl2, c2, c3, c4, c5, c6, c7, c8, c9, c10, c11, c12, c13, c14, c15, c16, c17, c18, c19, rfl⟩
    exact k Ha
  rintro i σ' Ha hi ⟨s2, tl2, c2, c3, c4, c5, c6, c7, c8, c9, c10, c11, c12, c13, c14, c15, c16, c17, c18, c19, rfl⟩
  have hi9 : i ≤ 7 := by omega
  refine gN ?_
  dsimp only [List.set_cons_succ, List.set_cons_zero]
  refine q_parV ?_
  refine ⟨_, rfl, st, lg, cl, _, 4, rfl, by decide, by decide, by omega, s2, fun r1 H3 a1 b1 x3 s3 => ?_⟩
  refine ⟨2, r1, rfl, rfl, ?_⟩
  refine ⟨_, rfl, st, lg, cl, _, 6, rfl, by decide, by decide, by omega, s3, fun r2 H4 a2 b2 x4 s4 => ?_⟩
  refine ⟨1, r2, rfl, rfl, ?_⟩
  refine ⟨_, _, rfl, ?_⟩
  dsimp only [List.set_cons_succ, List.set_cons_zero]
  have tl4 := tabS_xp (tabS_xp tl2 x3 (stk_in s2)) x4 (stk_in s3)
  have hs5 : 2 ≤ 2 + r1 ∧ 2 + r1 ≤ 5 := by omega
  have hm6 : 1 ≤ 1 + r2 ∧ 1 + r2 ≤ 6 := by omega
  generalize 2 + r1 = sd at *
  generalize 1 + r2 = mn at *
  refine ⟨by show 2 ≤ sizeLine; decide, fun T1 q1 => ⟨by show 2 ≤ sizeLine; decide, fun T2 q2 => ⟨by show 2 ≤ sizeLine; decide, fun T3 q3 => ⟨by show 3 ≤ sizeLine; decide, fun L q4 => ?_⟩⟩⟩⟩
  have f1 := Ex.new (o := .tup [.ref fP, .str (Str.ofString "plain")]) q1
  have g1 : L2.upd H4 T1 (.tup [.ref fP, .str (Str.ofString "plain")]) T1 = some (.tup [.ref fP, .str (Str.ofString "plain")]) := upd_same
  generalize L2.upd H4 T1 (.tup [.ref fP, .str (Str.ofString "plain")]) = G1 at *
  have f2 := Ex.new (o := .tup [.ref fC, .str (Str.ofString "crossed")]) q2
  have g2 : L2.upd G1 T2 (.tup [.ref fC, .str (Str.ofString "crossed")]) T2 = some (.tup [.ref fC, .str (Str.ofString "crossed")]) := upd_same
  generalize L2.upd G1 T2 (.tup [.ref fC, .str (Str.ofString "crossed")]) = G2 at *
  have f3 := Ex.new (o := .tup [.ref fF, .str (Str.ofString "full")]) q3
  have g3 : L2.upd G2 T3 (.tup [.ref fF, .str (Str.ofString "full")]) T3 = some (.tup [.ref fF, .str (Str.ofString "full")]) := upd_same
  generalize L2.upd G2 T3 (.tup [.ref fF, .str (Str.ofString "full")]) = G3 at *
  have f4 := Ex.new (o := .lst [.ref T1, .ref T2, .ref T3]) q4
  have g4 : L2.upd G3 L (.lst [.ref T1, .ref T2, .ref T3]) L = some (.lst [.ref T1, .ref T2, .ref T3]) := upd_same
  generalize L2.upd G3 L (.lst [.ref T1, .ref T2, .ref T3]) = H5 at *
  have it : ∀ (j : Nat) (x : V), ([.ref T1, .ref T2, .ref T3] : List V)[j]? = some x → ∃ T f fs, x = .ref T ∧ H5 T = some (.tup [.ref f, .str fs]) ∧ fs ∈ fashs ∧ WkR P w K CB CT C fP fC fF f (spKind P w K CB CT C fs) := fun j x hx => by
    obtain ⟨h1, h2, h3⟩ := fash3
    match j, hx with
    | 0, hx => cases hx; exact ⟨T1, fP, _, rfl, f4 _ _ (f3 _ _ (f2 _ _ g1)), h1, _, h1, rfl, .inl ⟨rfl, rfl⟩⟩
    | 1, hx => cases hx; exact ⟨T2, fC, _, rfl, f4 _ _ (f3 _ _ g2), h2, _, h2, rfl, .inr (.inl ⟨rfl, rfl⟩)⟩
    | 2, hx => cases hx; exact ⟨T3, fF, _, rfl, f4 _ _ g3, h3, _, h3, rfl, .inr (.inr ⟨rfl, rfl⟩)⟩
    | _ + 3, hx => simp at hx
  have e45 : Ex H4 H5 := ((f1.trans f2).trans f3).trans f4
  refine ⟨L, rfl, ⟨_, sq_of g4⟩, ?_⟩
  refine for_it (walk_list (K := K) (a := L) (xs := [.ref T1, .ref T2, .ref T3])) (fun _ σ' Ha => Ex H5 Ha ∧ ∃ c5 c6 c7 c8, σ' = [some (.ref a), some (.ref st), some (.int (i : Int)), some (.int sd), some (.int mn), c5, c6, c7, c8, c9, c10, c11, c12, c13, c14, c15, c16, c17, c18, c19]) ⟨Ex.refl _, c5, c6, c7, c8, rfl⟩ (fun _ _ Ha _ p => sq_of (p.1 _ _ g4)) (fun j x σ' Ha Hb hj p y => ?_) fun σ' Ha p => ?_
  · obtain ⟨p1, c5, c6, c7, c8, rfl⟩ := p
    obtain ⟨rfl, hx⟩ := y
    obtain ⟨T, f', fs, rfl, hT, hfs, hR⟩ := it j x hx
    refine g_twoV (p1 _ _ hT) ?_
    dsimp only [List.set_cons_succ, List.set_cons_zero]
    have A := cxs_good hfs hs5 hm6
    refine q_asgV (ed_tupleOf (K := K) (ds := (cxs fs sd mn).map swD) (EvN.toD (en_is (en_call (R := R_law_joined) (ds := [.int sd, .int mn, .str fs]) (eda_cons (ed_int (ev_var rfl)) (eda_cons (ed_int (ev_var rfl)) (eda_cons (ed_str (ev_var rfl)) eda_nil))) rfl ⟨sd, mn, fs, rfl, hs5.1, hs5.2, hm6.1, hm6.2, rfl⟩) (by rw [srt_data, cxs_srt hfs hs5 hm6]))) Hb (Ex.refl _) _ fun v7 H6 e6 hv7 => ?_)
    refine gN ?_
    dsimp only [List.set_cons_succ, List.set_cons_zero]
    refine q_asgV ?_
    refine ⟨f', _, rfl, hR, _, rfl, _, rfl, kind_ok hs5 hm6 fun x8 H7 hx8 e7 bx => ?_⟩
    refine gN ?_
    dsimp only [List.set_cons_succ, List.set_cons_zero]
    have hv77 := dp_ex e7 _ _ hv7
    have fn := fine_box A
    refine q_when (b := false) (et_test (ev_neS (ev_repr (EvN.toD (en_lst (ds := [.int sd, .int mn, .tuple ((cxs fs sd mn).map swD)]) (eda_cons (ed_int (ev_sides B (i := 8) rfl bx)) (eda_cons (ed_int (ev_tracks B (i := 8) rfl bx)) (eda_cons (ed_switches B (i := 8) rfl bx) eda_nil))) (by simp))) fn (by decide) (by decide)) (ev_repr (EvN.toD (en_lst (ds := [.int sd, .int mn, .tuple ((cxs fs sd mn).map swD)]) (eda_cons (ed_int (ev_var rfl)) (eda_cons (ed_int (ev_var rfl)) (eda_cons (ed_var (k := 7) (v := v7) rfl hv77) eda_nil))) (by simp))) fn (by decide) (by decide)))) (fun z => nomatch z) fun _ H8 e8 => ?_
    refine s_when (b := false) (et_test (ev_sameN B BT (i := 8) rfl (bx.ex e8) fun H9 e9 Q qq => ⟨f', _, rfl, hR, _, rfl, _, rfl, rfl, kind_ok hs5 hm6 fun x9 H10 hx9 e10 bx9 => qq x9 H10 e10 bx9⟩)) (fun z => nomatch z) fun _ H9 e9 => ⟨(((p1.trans e6).trans e7).trans e8).trans e9, _, _, _, _, rfl⟩
  obtain ⟨p1, c5, c6, c7, c8, rfl⟩ := p
  have e4a := e45.trans p1
  have s4a := stk_ex e4a s4
  have tl4a := tl4.ext e4a
  clear it g1 g2 g3 g4 f1 f2 f3 f4
  dsimp only
  refine q_asgV ?_
  refine ⟨_, rfl, st, lg, cl, _, 10, rfl, by decide, by decide, by omega, s4a, fun sc s m us H11 hsc0 hsc x11 s11 => ?_⟩
  refine gN ?_
  dsimp only [List.set_cons_succ, List.set_cons_zero]
  have tl11 := tabS_xp tl4a x11 (stk_in s4a)
  have ok := hsc.1.bok (by decide)
  have m3 : m ≤ 3 := (scopes_bd hsc.1.sc).2.2.2
  have one := hsc.1.one
  have few10 : us.length ≤ 10 := by have := hsc.1.few; omega
  refine q_asgV ⟨_, rfl, sc, 10, s, m, us, rfl, hsc, by decide, fun am H12 ham e12 bm => ?_⟩
  refine gN ?_
  dsimp only [List.set_cons_succ, List.set_cons_zero]
  have s12 := stk_ex e12 s11
  have tl12 := tl11.ext e12
  refine q_asgM (fun v Hx => ∃ b2 t2 ws2, v = .ref b2 ∧ BxAt P w K C Hx b2 s t2 ws2 ∧ Bok s t2 ws2 ∧ t2 ≤ 3 ∧ ws2.length ≤ 30 ∧ BxAt P w K C Hx am s m us ∧ StK st lg cl (200 * i + 60) Hx ∧ TabS Hx tl lamR) (fun Q qq => ?_) ?_
  · refine ⟨_, rfl, st, lg, cl, _, 2, rfl, by decide, by decide, by omega, s12, fun r3 H13 a3 b3 x13 s13 => ?_⟩
    have bm13 := bx_xp bm s12 x13
    have tl13 := tabS_xp tl12 x13 (stk_in s12)
    refine ⟨rfl, _, rfl, ?_⟩
    dsimp only
    split
    · refine t_callC ?_
      refine ev_sides B (i := 8) (σ := [some (.ref a), some (.ref st), some (.int (i : Int)), some (.int sd), some (.int mn), c5, c6, c7, some (.ref am), some (.ref sc), c10, c11, c12, c13, c14, c15, c16, c17, c18, c19]) rfl bm13 H13 (Ex.refl _) _ fun H14 e14 => ?_
      have s14 := stk_ex e14 s13
      refine ⟨_, rfl, st, lg, cl, _, 3, rfl, by decide, by decide, by omega, s14, fun r4 H15 a4 b4 x15 s15 => ?_⟩
      have bm15 := bx_xp (bm13.ex e14) s14 x15
      have tl15 := tabS_xp (tl13.ext e14) x15 (stk_in s14)
      refine ⟨1, r4, rfl, rfl, ?_⟩
      have h4 : 1 ≤ 1 + r4 ∧ 1 + r4 ≤ 6 := by omega
      refine kind_ok ok.hs h4 fun x16 H16 hx16 e16 bx16 => ?_
      exact qq _ H16 ⟨x16, 1 + r4, _, rfl, bx16, cxs_good (by decide +kernel) ok.hs h4, by omega, plain30 ok.hs ⟨h4.1, by omega⟩, bm15.ex e16, stk_mono (by omega) (stk_ex e16 s15), tl15.ext e16⟩
    · exact ⟨_, rfl, qq _ H13 ⟨am, m, us, rfl, bm13, ok, m3, by omega, bm13, stk_mono (by omega) s13, tl13⟩⟩
  rintro v10 H17 ⟨b2, t2, ws2, rfl, bx2, ok2, t23, few30, bm17, s17, tl17⟩
  dsimp only [List.set_cons_succ, List.set_cons_zero]
  refine qn_asg (K := K) (ds := us.map swD) (en_listOfT (ed_switches B (i := 8) rfl bm17)) fun L1 v1 H18 hL1 e18 hl18 hd18 => ?_
  dsimp only [List.set_cons_succ, List.set_cons_zero]
  refine e_for (K := K) (ds := ws2.map swD) (S := [L1]) (ei_tup (Ls.one hl18) (ed_switches B (i := 10) rfl (bx2.ex e18)) (immAll_map imm_sw ws2)) (fun H19 j σ' Ha => Xp [L1] H19 Ha ∧ (∃ vs, Ha L1 = some (.lst vs) ∧ DpAll K Ha vs ((us ++ (ws2.take j).map (shf m)).map swD)) ∧ ∃ y11 y12, σ' = [some (.ref a), some (.ref st), some (.int (i : Int)), some (.int sd), some (.int mn), c5, c6, some (.ref L1), some (.ref am), some (.ref sc), some (.ref b2), y11, y12, c13, c14, c15, c16, c17, c18, c19])
    (fun H19 e19 => ⟨Xp.refl _ _, ⟨v1, e19 _ _ hl18, by simpa using dpa_ex e19 _ _ hd18⟩, c11, c12, rfl⟩) (fun H19 j σ' Ha _ p => p.1) ?_ ?_
  · rintro H19 j d x σ' Ha Hb e19 hx ⟨x1, ⟨vs, hv, hdv⟩, y11, y12, rfl⟩ e20 hy
    rw [List.getElem?_map] at hx
    obtain ⟨u, hu, rfl⟩ := Option.map_eq_some_iff.mp hx
    have tk : ws2.take (j + 1) = ws2.take j ++ [u] := by rw [List.take_add_one, hu]; rfl
    have bmb := (bx_lst (bm17.ex (e18.trans e19)) x1 (e19 _ _ hl18)).ex e20
    refine g_two hy fun w11 w12 u11 u12 => ?_
    have lv := dpa_len hdv
    rw [List.length_map, List.length_append, List.length_map, List.length_take] at lv
    have := ok2.few
    refine d_app (K := K) (l := L1) (xs := vs) (d := swD (shf m u)) (e20 _ _ hv) (ev_var rfl) (ed_tup (ds := [pD (u.1.1, u.1.2 + m), pD (u.2.1, u.2.2 + m)]) (eda_cons (ed_tup (ds := dI [u.1.1, u.1.2 + m]) (eda_cons (ed_ixT (k := 0) (ds := [.int u.1.1, .int u.1.2]) (ed_var (k := 11) (v := w11) rfl u11) ev_c rfl) (eda_cons (ed_int (ev_op (EvD.int (ed_ixT (k := 1) (ds := [.int u.1.1, .int u.1.2]) (d := .int u.1.2) (ed_var (k := 11) (v := w11) rfl u11) ev_c rfl)) (ev_tracks B (i := 8) rfl bmb) rv_I0)) eda_nil)) (by simp))
      (eda_cons (ed_tup (ds := dI [u.2.1, u.2.2 + m]) (eda_cons (ed_ixT (k := 0) (ds := [.int u.2.1, .int u.2.2]) (ed_var (k := 12) (v := w12) rfl u12) ev_c rfl) (eda_cons (ed_int (ev_op (EvD.int (ed_ixT (k := 1) (ds := [.int u.2.1, .int u.2.2]) (d := .int u.2.2) (ed_var (k := 12) (v := w12) rfl u12) ev_c rfl)) (ev_tracks B (i := 8) rfl bmb) rv_I0)) eda_nil)) (by simp)) eda_nil)) (by simp)) (by omega) fun v9 H21 e21 hv9 => ⟨Xp.upd ((x1.then e20).then e21) (by simp), ⟨vs ++ [v9], upd_same, ?_⟩, _, _, rfl⟩
    have tR : Tx H21 (L2.upd H21 L1 (.lst (vs ++ [v9]))) := Tx.lst (e21 _ _ (e20 _ _ hv))
    rw [tk, show (us ++ (ws2.take j ++ [u]).map (shf m)).map swD = (us ++ (ws2.take j).map (shf m)).map swD ++ [swD (shf m u)] by simp]
    exact dpa_app (dpa_tx tR _ _ (immAll_map imm_sw _) (dpa_ex (e20.trans e21) _ _ hdv)) (.cons (dp_tx tR _ _ (imm_sw _) hv9) .nil)
  rintro H19 σ' H20 e19 ⟨x1, ⟨vs, hv, hdv⟩, y11, y12, rfl⟩
  rw [List.length_map, List.take_of_length_le (Nat.le_refl _)] at hdv
  have eF : Ex H17 H20 := fun b o hb => x1 b o (e19 _ _ (e18 _ _ hb)) (by
    have : b ≠ L1 := fun z => by
      rw [z, hL1] at hb
      cases hb
    simpa using this)
  have bm20 := bm17.ex eF
  have bx20 := bx2.ex eF
  have h6 : m + t2 ≤ 6 := by omega
  have few2 := ok2.few
  have ws2f : us.length + ws2.length ≤ 400 := by omega
  have okb := bsd_bok ok ok2 h6 ws2f
  refine q_asgV ?_
  refine ⟨_, rfl, _, rfl, .ref am, .ref b2, rfl, .inl ⟨am, b2, s, m, t2, us, ws2, rfl, rfl, bm20, bx20, ok, ok2, .inl ⟨h6, fun bb H22 hbb e22 bb22 => ?_⟩⟩⟩
  refine gN ?_
  dsimp only [List.set_cons_succ, List.set_cons_zero]
  have bm22 := bm20.ex e22
  have bx22 := bx20.ex e22
  have hl22 := e22 _ _ hv
  have hd22 := dpa_ex e22 _ _ hdv
  have arg : ∀ {Hx : Hp}, Ex H22 Hx → EvDA K (tCons (tFld K (tVar 8) "sides") (tCons (tOp (rI0 fun i j => V.int (i + j)) (tFld K (tVar 8) "tracks") (tFld K (tVar 10) "tracks")) (tCons (tCB (fun xs H Q => ∃ p ys, xs = [.ref p] ∧ ((SqL K H p ys ∧ ∀ l, H l = none → Q (.ref l) (upd H l (.tup ys))) ∨ (SqT K H p ys ∧ Q (.ref p) H))) (tCons (tCB (rSortedD K) (tCons (tVar 7) tNil)) tNil)) tNil))) [some (.ref a), some (.ref st), some (.int (i : Int)), some (.int sd), some (.int mn), c5, c6, some (.ref L1), some (.ref am), some (.ref sc), some (.ref b2), y11, y12, some (.ref bb), c14, c15, c16, c17, c18, c19] Hx [.int s, .int (m + t2), .tuple ((srt (bsd m us ws2)).map swD)] := fun {Hx} e =>
    eda_cons (ed_int (ev_sides B (i := 8) rfl (bm22.ex e))) (eda_cons (ed_int (ev_op (ev_tracks B (i := 8) rfl (bm22.ex e)) (ev_tracks B (i := 10) rfl (bx22.ex e)) rv_I0)) (eda_cons (ed_tupleOf (by
      rw [← srt_data]
      exact EvN.toD (en_sortedD (K := K) (ds := (bsd m us ws2).map swD) (ed_var (k := 7) (v := .ref L1) rfl (.lst (sq_of (e _ _ hl22)) (dpa_ex e _ _ hd22))) (alike_sws _) (sortable_sws _) (depth_sws _)))) eda_nil))
  refine q_when (b := false) (et_test (ev_sameM B BT (i := 13) rfl bb22 fun H23 e23 Q qq => mk_good (C := C) (arg e23) okb.hs okb.ht okb.ok (by have := okb.few; omega) okb.up fun x H' hx e' bx => qq x H' e' bx)) (fun z => nomatch z) fun _ H23 e23 => ?_
  refine q_when (b := false) (et_test (ev_sameN B BT (i := 13) rfl (bb22.ex e23) fun H24 e24 Q qq => ⟨_, rfl, _, rfl, rfl, .ref am, .ref b2, rfl, .inl ⟨am, b2, s, m, t2, us, ws2, rfl, rfl, bm22.ex (e23.trans e24), bx22.ex (e23.trans e24), ok, ok2, .inl ⟨h6, fun x H' hx e' bx => qq x H' e' bx⟩⟩⟩)) (fun z => nomatch z) fun _ H24 e24 => ?_
  have E24 := (eF.trans e22).trans (e23.trans e24)
  have s24 := stk_ex E24 s17
  have tl24 := tl17.ext E24
  have bm24 := bm17.ex E24
  have bb24 := bb22.ex (e23.trans e24)
  refine q_asgV ?_
  refine ⟨_, rfl, ?_⟩
  refine (en_listOfT (ed_switches B (i := 8) (σ := [some (.ref a), some (.ref st), some (.int (i : Int)), some (.int sd), some (.int mn), c5, c6, some (.ref L1), some (.ref am), some (.ref sc), some (.ref b2), y11, y12, some (.ref bb), c14, c15, c16, c17, c18, c19]) rfl bm24)) H24 (Ex.refl _) _ fun l2 vl H25 hl2 e25 h25 hd25 => ?_
  have np := stk_ne s24 hl2
  have s25 := stk_ex e25 s24
  refine ⟨st, lg, cl, l2, _, 3, vl, us, rfl, by decide, by decide, by omega, s25, h25, np.1, np.2.1, hd25, by omega, fun p3 ys ws3 H26 hp3 x26 h26 hd26 sub s26 => ?_⟩
  refine ⟨p3, ys, rfl, .inl ⟨sq_of h26, fun l3 hl3 => ?_⟩⟩
  have e27 := Ex.new (o := .tup ys) hl3
  have hv14 : Dp K (L2.upd H26 l3 (.tup ys)) (.ref l3) (.tuple (ws3.map swD)) := .tup (st_of upd_same) (dpa_ex e27 _ _ hd26)
  refine gN ?_
  dsimp only [List.set_cons_succ, List.set_cons_zero]
  have bm27 := (bx_xp (bm24.ex e25) s25 x26).ex e27
  have bb27 := (bx_xp (bb24.ex e25) s25 x26).ex e27
  have tl27 := (tabS_xp (tl24.ext e25) x26 (stk_in s25)).ext e27
  have s27 := stk_ex e27 s26
  generalize L2.upd H26 l3 (.tup ys) = H27 at *
  have lw : ws3.length ≤ 10 := by have := sub.length_le; omega
  refine q_asgV (ed_tupleOf (K := K) (ds := (lft us ws3).map swD) (EvN.toD (en_is (en_lcD (ei_tupD (ed_switches B (i := 8) rfl bm27)) (by rw [List.length_map]; omega) (fun j => !decide (us.getD j ((0, 0), (0, 0)) ∈ ws3)) (fun j => swD (us.getD j ((0, 0), (0, 0)))) (fun _ _ => imm_sw _) fun H28 j d x Hb' Q' e28 hg' e29 hx kk => ?_) (lft_data us ws3))) H27 (Ex.refl _) _ fun v15 H28 e28 hv15 => ?_)
  · rw [List.getElem?_map] at hg'
    obtain ⟨u, hu, rfl⟩ := Option.map_eq_some_iff.mp hg'
    have gz : us.getD j ((0, 0), (0, 0)) = u := by rw [List.getD_eq_getElem?_getD, hu]; rfl
    rw [gz] at kk
    exact kk _ Hb' (Ex.refl _) rfl (et_test (ev_is (ev_notInT (ed_var (k := 19) (v := x) rfl hx) (ed_var (k := 14) (v := .ref l3) rfl (dp_ex (e28.trans e29) _ _ hv14)) (shaped_sw u) (shaped_sws ws3)) (by rw [any_sws]))) fun _ => ed_var (k := 19) (v := x) rfl hx
  refine gN ?_
  dsimp only [List.set_cons_succ, List.set_cons_zero]
  have bm28 := bm27.ex e28
  have v14 := dp_ex e28 _ _ hv14
  have lot := lot_sub ok sub
  have okl := ok.left ws3
  refine q_asgV ?_
  refine ⟨_, rfl, _, rfl, .ref am, .ref l3, rfl, .inl ⟨am, s, m, us, ws3, rfl, bm28, ok, v14, by omega, lot, fun cb H29 hcb e29 bc => ?_⟩⟩
  refine gN ?_
  dsimp only [List.set_cons_succ, List.set_cons_zero]
  have bm29 := bm28.ex e29
  have v1429 := dp_ex e29 _ _ v14
  have v1529 := dp_ex e29 _ _ hv15
  refine q_when (b := false) (et_is (et_orT (a := false) (b := false) (et_test (ev_sameM B BT (i := 16) rfl bc fun H30 e30 Q qq => mk_good (C := C) (eda_cons (ed_int (ev_sides B (i := 8) rfl (bm29.ex e30))) (eda_cons (ed_int (ev_tracks B (i := 8) rfl (bm29.ex e30))) (eda_cons (ed_var (k := 15) (v := v15) rfl (dp_ex e30 _ _ v1529)) eda_nil))) okl.hs okl.ht okl.ok (by have := okl.few; omega) okl.up fun x H' hx e' bx => qq x H' e' bx)) fun _ =>
    et_test (ev_sameN B BT (i := 16) rfl bc fun H30 e30 Q qq => ⟨_, rfl, _, rfl, rfl, .ref am, .ref l3, rfl, .inl ⟨am, s, m, us, ws3, rfl, bm29.ex e30, ok, dp_ex e30 _ _ v1429, by omega, lot, fun x H' hx e' bx => qq x H' e' bx⟩⟩)) rfl) (fun z => nomatch z) fun _ H30 e30 => ?_
  have E2730 := (e28.trans e29).trans e30
  have s30 := stk_ex E2730 s27
  have tl30 := tl27.ext E2730
  have bm30 := bm29.ex e30
  have bb30 := bb27.ex E2730
  have bc30 := bc.ex e30
  refine ⟨_, rfl, _, rfl, _, rfl, by show 3 ≤ sizeLine; decide, fun L5 q5 => ?_⟩
  have e31 := Ex.new (o := .lst [.ref am, .ref bb, .ref cb]) q5
  have g5 : L2.upd H30 L5 (.lst [.ref am, .ref bb, .ref cb]) L5 = some (.lst [.ref am, .ref bb, .ref cb]) := upd_same
  generalize L2.upd H30 L5 (.lst [.ref am, .ref bb, .ref cb]) = H31 at *
  have it : ∀ (j : Nat) (x : V), ([.ref am, .ref bb, .ref cb] : List V)[j]? = some x → ∃ ab t' ws', x = .ref ab ∧ BxAt P w K C H31 ab s t' ws' ∧ Bok s t' ws' := fun j x hx => by
    match j, hx with
    | 0, hx => cases hx; exact ⟨am, _, _, rfl, bm30.ex e31, ok⟩
    | 1, hx => cases hx; exact ⟨bb, _, _, rfl, bb30.ex e31, okb⟩
    | 2, hx => cases hx; exact ⟨cb, _, _, rfl, bc30.ex e31, okl⟩
    | _ + 3, hx => simp at hx
  refine ⟨L5, rfl, ⟨_, sq_of g5⟩, ?_⟩
  refine for_it (walk_list (K := K) (a := L5) (xs := [.ref am, .ref bb, .ref cb])) (fun _ σ' Ha => Ex H31 Ha ∧ ∃ y7 y17 y18, σ' = [some (.ref a), some (.ref st), some (.int (i : Int)), some (.int sd), some (.int mn), c5, c6, y7, some (.ref am), some (.ref sc), some (.ref b2), y11, y12, some (.ref bb), some (.ref l3), some v15, some (.ref cb), y17, y18, c19]) ⟨Ex.refl _, _, _, _, rfl⟩ (fun _ _ Ha _ p => sq_of (p.1 _ _ g5)) (fun j x σ' Ha Hb hj p y => ?_) fun σ' Ha p => ?_
  · obtain ⟨p1, y7, y17, y18, rfl⟩ := p
    obtain ⟨rfl, hx⟩ := y
    obtain ⟨ab, t', ws', rfl, bx, A⟩ := it j x hx
    have bx := bx.ex p1
    have fn := fine_pcs A
    refine gN ?_
    dsimp only [List.set_cons_succ, List.set_cons_zero]
    refine qn_asg (K := K) (ds := (pcs ws').map tupP) (en_call (R := R_law_lots) (ds := [.tuple (ws'.map swD)]) (eda_cons (ed_switches B (i := 17) rfl bx) eda_nil) rfl ⟨ws', rfl, A.few, rfl⟩) fun p7 v7 H32 hp7 e32 h32 hd32 => ?_
    dsimp only [List.set_cons_succ, List.set_cons_zero]
    refine q_asgV ?_
    refine ⟨_, rfl, .ref ab, rfl, .inl ⟨ab, s, t', ws', rfl, bx.ex e32, A.few, fun p8 v8 H33 hp8 e33 h33 hd33 => ?_⟩⟩
    refine gN ?_
    dsimp only [List.set_cons_succ, List.set_cons_zero]
    have bx33 := bx.ex (e32.trans e33)
    have two : ∀ {d : PyData} {W k : Nat}, Fine d W k → Fine (.list [d, d]) ((W + 1) * 2 + 1) (k + 1) := fun {d W k} f => fine_lstF (ds := [d, d]) fun x hx => by
      simp only [List.mem_cons, List.not_mem_nil, or_false] at hx
      rcases hx with rfl | rfl <;> exact f
    have due33 : Dp K H33 (.ref p7) (.list ((pcs ws').map tupP)) := .lst (sq_of (e33 _ _ h32)) (dpa_ex e33 _ _ hd32)
    have tol33 : Dp K H33 (.ref p8) (.list ((pcs ws').map tupP)) := .lst (sq_of h33) hd33
    refine q_when (b := false) (et_test (ev_neS (ev_repr (EvN.toD (en_lst (ds := [.list ((pcs ws').map tupP), .list ((pcs ws').map tupP)]) (eda_cons (ed_var (k := 18) (v := .ref p8) rfl tol33) (eda_cons (fun H34 e34 Q qq => ⟨_, rfl, rfl, .ref ab, rfl, .inl ⟨ab, s, t', ws', rfl, bx33.ex e34, A.few, fun p u H' hp e' h' hd' => qq (.ref p) H' e' (.lst (sq_of h') hd')⟩⟩) eda_nil)) (by simp))) (two fn) (by decide) (by decide)) (ev_repr (EvN.toD (en_lst (ds := [.list ((pcs ws').map tupP), .list ((pcs ws').map tupP)]) (eda_cons (ed_var (k := 7) (v := .ref p7) rfl due33) (eda_cons (ed_var (k := 7) (v := .ref p7) rfl due33) eda_nil)) (by simp))) (two fn) (by decide) (by decide)))) (fun z => nomatch z) fun _ H34 e34 => ?_
    have h34 := e34 _ _ h33
    have l8 : v8.length ≤ 90000 := by
      have h1 := dpa_len hd33
      have h2 := fn.few
      have h3 : ∀ ds : List PyData, ds.length ≤ PyData.weightAll ds := fun ds => by
        induction ds with
        | nil => simp
        | cons d ds ih =>
          simp only [PyData.weightAll, List.length_cons]
          omega
      have h4 := h3 ((pcs ws').map tupP)
      simp only [PyData.weight] at h2
      omega
    refine qd_app (K := K) (l := p8) (xs := v8) h34 (ev_var rfl) (ed_none ev_c) (by omega) fun vn H35 e35 hvn => ?_
    have e3236 : Ex H32 (L2.upd H35 p8 (.lst (v8 ++ [vn]))) := Ex.mut ((e33.trans e34).trans e35) hp8
    have e36 : Ex Hb (L2.upd H35 p8 (.lst (v8 ++ [vn]))) := e32.trans e3236
    generalize L2.upd H35 p8 (.lst (v8 ++ [vn])) = H36 at *
    have due36 : Dp K H36 (.ref p7) (.list ((pcs ws').map tupP)) := .lst (sq_of (e3236 _ _ h32)) (dpa_ex e3236 _ _ hd32)
    have bx36 := bx.ex e36
    refine s_when (b := false) (et_test (ev_neS (ev_repr (ds := (pcs ws').map tupP) (fun H37 e37 Q qq => ⟨_, rfl, .ref ab, rfl, .inl ⟨ab, s, t', ws', rfl, bx36.ex e37, A.few, fun p u H' hp e' h' hd' => qq (.ref p) H' e' (.lst (sq_of h') hd')⟩⟩) fn (by decide) (by decide)) (ev_repr (ds := (pcs ws').map tupP) (ed_var (k := 7) (v := .ref p7) rfl due36) fn (by decide) (by decide)))) (fun z => nomatch z) fun _ H37 e37 => ⟨(p1.trans e36).trans e37, _, _, _, rfl⟩
  obtain ⟨p1, y7, y17, y18, rfl⟩ := p
  have e3a := e31.trans p1
  have s38 := stk_ex e3a s30
  have tl38 := tl30.ext e3a
  have bm38 := bm30.ex e3a
  dsimp only
  refine ⟨_, rfl, _, rfl, st, lg, cl, am, _, s, m, us, rfl, by omega, s38, bm38, ok, m3, one, tl38, fun H39 s39 tl39 => ?_⟩
  refine ⟨true, rfl, ?_⟩
  show (if (!true) = true then _ else _)
  rw [if_neg (by simp)]
  exact ⟨stk_mono (by omega) s39, tl39, _, _, _, _, _, _, _, _, _, _, _, _, _, _, _, _, _, _, rfl⟩

end
end K16
set_option Elab.async false
set_option linter.all false
set_option maxRecDepth 100000
set_option maxHeartbeats 0
namespace K16
open PySem PySem.Spec PyProof.Rows L2 Evl DL He LamX
/-- Box(switches=.., tracks=.., sides=..) -/
theorem kbn_init {K : PySem.W.Frag} {f : Addr} {fd : FuncData} (F : Fun K "__init__" "Box.__init__" s_init f fd) : KBn K fd ["self", "sides", "tracks", "switches"] 1 ["switches", "tracks", "sides"] (fun us ws => us ++ ws.reverse) (fun vs zs => vs ++ zs.reverse) := by
  obtain ⟨⟨oc, od, kV, doc, pm, an, cdv, ct, osl, rfl, lk, hcd⟩, _⟩ := F
  exact ⟨fun s us ws _ h1 h2 => BindsTo.of_eq (match us, ws, h1, h2 with | [_], [_, _, _], _, _ => rfl), fun r1 r2 => Vals.append r1 (vals_rev r2)⟩
abbrev s__law_caught : Stmt := topS 41
theorem facts_law {l : PySem.W.OpenLaw} {w : World} {K : PySem.W.Frag} {h : Heap} {mg : Str → Option Value} {fa : Addr} (X : K.In h) (G : h.Ns mainGlobals mg) (hfa : mg "law" = some (.ref fa)) (c : KnownY faL fnL tfL exA h K) :
    ∃ (fd : FuncData) (Ts : List (Addr × Addr)) (tl : Addr), (∃ p ∈ Ts, p.2 = tl) ∧ (∀ p ∈ Ts, h.get? p.2 = some { cls := .none, data := .fields #[] }) ∧ (∀ p ∈ Ts, K.lookup p.2 = none) ∧ (∀ p ∈ Ts, PySem.W.CodeHd h p.1 p.2) ∧ (∀ (s : Shared) (u : Value), BindsTo s fd ⟨[u], []⟩ [("_law_script", u)]) ∧
      ∀ base : Heap, K.In base → base.Ns mainGlobals mg → (∀ p ∈ Ts, TabB base mg p.1 p.2) → FnG l.prog w K mg base (L2.CX l.prog w) 13 fa fd ["_law_script"] (spLaw K tl) := by
  have d := c.says
  obtain ⟨xB, m⟩ := ba c.extra
  obtain ⟨xT, m⟩ := ba m
  obtain ⟨xW, m⟩ := ba m
  obtain ⟨xX, m⟩ := ba m
  obtain ⟨xO, m⟩ := ba m
  obtain ⟨xG, m⟩ := ba m
  obtain ⟨nn, m⟩ := ba m
  obtain ⟨tt, m⟩ := ba m
  obtain ⟨b1, m⟩ := ba m
  obtain ⟨b2, m⟩ := ba m
  obtain ⟨b3, m⟩ := ba m
  obtain ⟨b4, m⟩ := ba m
  obtain ⟨b5, m⟩ := ba m
  obtain ⟨b6, m⟩ := ba m
  obtain ⟨b7, m⟩ := ba m
  obtain ⟨b8, m⟩ := ba m
  obtain ⟨qbool, m⟩ := ba m
  obtain ⟨qint, m⟩ := ba m
  obtain ⟨qstr, m⟩ := ba m
  obtain ⟨qlist, m⟩ := ba m
  have qdict := m
  have nn := of_decide_eq_true nn
  have tt := of_decide_eq_true tt
  have b2 := of_decide_eq_true b2
  have b3 := of_decide_eq_true b3
  have b4 := of_decide_eq_true b4
  have b8 := of_decide_eq_true b8
  have qbool := of_decide_eq_true qbool
  have qint := of_decide_eq_true qint
  have qstr := of_decide_eq_true qstr
  have qlist := of_decide_eq_true qlist
  have qdict := of_decide_eq_true qdict
  have BT : BoxT K (ga K "Box") := ⟨eqO_ok b1, nn, tt, b2, b3, b4, b5, b6⟩
  have kT : ∀ d, PySem.W.kitOne K (.type (tyD d)) (.ref (ga K "Box")) = some false := fun d => by
    cases d
    · exact b4
    · exact qbool
    · exact qint
    · exact qstr
    · exact qlist
    · exact b3
    · exact qdict
  obtain ⟨GB, uB⟩ := exc_ok (glo_ok X G (d.fact 57 (f := .glo "BadSides") rfl)) (d.fact 65 (f := .exc "BadSides") rfl)
  obtain ⟨EB, iB⟩ := clsB_ok xB uB nn tt
  have yB : PySem.W.exmOne K (.ref (ga K "BadSides")) (.ref (ga K "CallError")) = some true := of_decide_eq_true (d.fact 71 (f := .exm "BadSides" "CallError" true) rfl)
  obtain ⟨GT, uT⟩ := exc_ok (glo_ok X G (d.fact 58 (f := .glo "BadTracks") rfl)) (d.fact 66 (f := .exc "BadTracks") rfl)
  obtain ⟨ET, iT⟩ := clsB_ok xT uT nn tt
  have yT : PySem.W.exmOne K (.ref (ga K "BadTracks")) (.ref (ga K "CallError")) = some true := of_decide_eq_true (d.fact 72 (f := .exm "BadTracks" "CallError" true) rfl)
  obtain ⟨GW, uW⟩ := exc_ok (glo_ok X G (d.fact 59 (f := .glo "BadSwitches") rfl)) (d.fact 67 (f := .exc "BadSwitches") rfl)
  obtain ⟨EW, iW⟩ := clsB_ok xW uW nn tt
  have yW : PySem.W.exmOne K (.ref (ga K "BadSwitches")) (.ref (ga K "CallError")) = some true := of_decide_eq_true (d.fact 73 (f := .exm "BadSwitches" "CallError" true) rfl)
  obtain ⟨GX, uX⟩ := exc_ok (glo_ok X G (d.fact 60 (f := .glo "BadBox") rfl)) (d.fact 68 (f := .exc "BadBox") rfl)
  obtain ⟨EX, iX⟩ := clsB_ok xX uX nn tt
  have yX : PySem.W.exmOne K (.ref (ga K "BadBox")) (.ref (ga K "CallError")) = some true := of_decide_eq_true (d.fact 74 (f := .exm "BadBox" "CallError" true) rfl)
  obtain ⟨GO, uO⟩ := exc_ok (glo_ok X G (d.fact 61 (f := .glo "OtherSides") rfl)) (d.fact 69 (f := .exc "OtherSides") rfl)
  obtain ⟨EO, iO⟩ := clsB_ok xO uO nn tt
  have yO : PySem.W.exmOne K (.ref (ga K "OtherSides")) (.ref (ga K "CallError")) = some true := of_decide_eq_true (d.fact 75 (f := .exm "OtherSides" "CallError" true) rfl)
  obtain ⟨GG, uG⟩ := exc_ok (glo_ok X G (d.fact 62 (f := .glo "BadGone") rfl)) (d.fact 70 (f := .exc "BadGone") rfl)
  obtain ⟨EG, iG⟩ := clsB_ok xG uG nn tt
  have yG : PySem.W.exmOne K (.ref (ga K "BadGone")) (.ref (ga K "CallError")) = some true := of_decide_eq_true (d.fact 76 (f := .exm "BadGone" "CallError" true) rfl)
  obtain ⟨oc0, kV0, dc0, pm0, cd0, ct0, od0, an0, sl0, l0, c0, k0⟩ := fn_look (st := s_is_number) (d.def_ 0 (d := d_0) rfl)
  have a0 := glo_ok X G (d.fact 0 (f := .glo "is_number") rfl)
  obtain ⟨oc1, kV1, dc1, pm1, cd1, ct1, od1, an1, sl1, l1, c1, k1⟩ := fn_look (st := s_is_within) (d.def_ 1 (d := d_1) rfl)
  have a1 := glo_ok X G (d.fact 1 (f := .glo "is_within") rfl)
  obtain ⟨oc2, kV2, dc2, pm2, cd2, ct2, od2, an2, sl2, l2, c2, k2⟩ := fn_look (st := s_check_sides) (d.def_ 2 (d := d_2) rfl)
  have a2 := glo_ok X G (d.fact 2 (f := .glo "check_sides") rfl)
  obtain ⟨oc3, kV3, dc3, pm3, cd3, ct3, od3, an3, sl3, l3, c3, k3⟩ := fn_look (st := s_check_tracks) (d.def_ 3 (d := d_3) rfl)
  have a3 := glo_ok X G (d.fact 3 (f := .glo "check_tracks") rfl)
  obtain ⟨oc4, kV4, dc4, pm4, cd4, ct4, od4, an4, sl4, l4, c4, k4⟩ := fn_look (st := s_is_tuple_of) (d.def_ 4 (d := d_4) rfl)
  have a4 := glo_ok X G (d.fact 4 (f := .glo "is_tuple_of") rfl)
  obtain ⟨oc5, kV5, dc5, pm5, cd5, ct5, od5, an5, sl5, l5, c5, k5⟩ := fn_look (st := s_is_switch) (d.def_ 5 (d := d_5) rfl)
  have a5 := glo_ok X G (d.fact 5 (f := .glo "is_switch") rfl)
  obtain ⟨oc6, kV6, dc6, pm6, cd6, ct6, od6, an6, sl6, l6, c6, k6⟩ := fn_look (st := s_rises) (d.def_ 6 (d := d_6) rfl)
  have a6 := glo_ok X G (d.fact 6 (f := .glo "rises") rfl)
  obtain ⟨oc7, kV7, dc7, pm7, cd7, ct7, od7, an7, sl7, l7, c7, k7⟩ := fn_look (st := s_is_switch_tuple) (d.def_ 7 (d := d_7) rfl)
  have a7 := glo_ok X G (d.fact 7 (f := .glo "is_switch_tuple") rfl)
  obtain ⟨oc8, kV8, dc8, pm8, cd8, ct8, od8, an8, sl8, l8, c8, k8⟩ := fn_look (st := s_init) (d.def_ 8 (d := d_8) rfl)
  obtain ⟨oc9, kV9, dc9, pm9, cd9, ct9, od9, an9, sl9, l9, c9, k9⟩ := fn_look (st := s_beq) (d.def_ 9 (d := d_9) rfl)
  obtain ⟨oc10, kV10, dc10, pm10, cd10, ct10, od10, an10, sl10, l10, c10, k10⟩ := fn_look (st := s_mate) (d.def_ 10 (d := d_10) rfl)
  have a10 := glo_ok X G (d.fact 8 (f := .glo "mate") rfl)
  obtain ⟨oc11, kV11, dc11, pm11, cd11, ct11, od11, an11, sl11, l11, c11, k11⟩ := fn_look (st := s_is_joined) (d.def_ 11 (d := d_11) rfl)
  have a11 := glo_ok X G (d.fact 9 (f := .glo "is_joined") rfl)
  obtain ⟨oc12, kV12, dc12, pm12, cd12, ct12, od12, an12, sl12, l12, c12, k12⟩ := fn_look (st := s_built) (d.def_ 12 (d := d_12) rfl)
  have a12 := glo_ok X G (d.fact 10 (f := .glo "built") rfl)
  obtain ⟨oc13, kV13, dc13, pm13, cd13, ct13, od13, an13, sl13, l13, c13, k13⟩ := fn_look (st := s_plain) (d.def_ 13 (d := d_13) rfl)
  have a13 := glo_ok X G (d.fact 11 (f := .glo "plain") rfl)
  obtain ⟨oc14, kV14, dc14, pm14, cd14, ct14, od14, an14, sl14, l14, c14, k14⟩ := fn_look (st := s_crossed) (d.def_ 14 (d := d_14) rfl)
  have a14 := glo_ok X G (d.fact 12 (f := .glo "crossed") rfl)
  obtain ⟨oc15, kV15, dc15, pm15, cd15, ct15, od15, an15, sl15, l15, c15, k15⟩ := fn_look (st := s_full) (d.def_ 15 (d := d_15) rfl)
  have a15 := glo_ok X G (d.fact 13 (f := .glo "full") rfl)
  obtain ⟨oc16, kV16, dc16, pm16, cd16, ct16, od16, an16, sl16, l16, c16, k16⟩ := fn_look (st := s__law_begun) (d.def_ 16 (d := d_16) rfl)
  have a16 := glo_ok X G (d.fact 14 (f := .glo "_law_begun") rfl)
  obtain ⟨oc17, kV17, dc17, pm17, cd17, ct17, od17, an17, sl17, l17, c17, k17⟩ := fn_look (st := s__law_draw) (d.def_ 17 (d := d_17) rfl)
  have a17 := glo_ok X G (d.fact 15 (f := .glo "_law_draw") rfl)
  obtain ⟨oc18, kV18, dc18, pm18, cd18, ct18, od18, an18, sl18, l18, c18, k18⟩ := fn_look (st := s__law_mixed) (d.def_ 18 (d := d_18) rfl)
  have a18 := glo_ok X G (d.fact 16 (f := .glo "_law_mixed") rfl)
  obtain ⟨oc19, kV19, dc19, pm19, cd19, ct19, od19, an19, sl19, l19, c19, k19⟩ := fn_look (st := s__law_few) (d.def_ 19 (d := d_19) rfl)
  have a19 := glo_ok X G (d.fact 17 (f := .glo "_law_few") rfl)
  obtain ⟨oc20, kV20, dc20, pm20, cd20, ct20, od20, an20, sl20, l20, c20, k20⟩ := fn_look (st := s__law_mate) (d.def_ 20 (d := d_20) rfl)
  have a20 := glo_ok X G (d.fact 18 (f := .glo "_law_mate") rfl)
  obtain ⟨oc21, kV21, dc21, pm21, cd21, ct21, od21, an21, sl21, l21, c21, k21⟩ := fn_look (st := s__law_pairs) (d.def_ 21 (d := d_21) rfl)
  have a21 := glo_ok X G (d.fact 19 (f := .glo "_law_pairs") rfl)
  obtain ⟨oc22, kV22, dc22, pm22, cd22, ct22, od22, an22, sl22, l22, c22, k22⟩ := fn_look (st := s__law_joined) (d.def_ 22 (d := d_22) rfl)
  have a22 := glo_ok X G (d.fact 20 (f := .glo "_law_joined") rfl)
  obtain ⟨oc23, kV23, dc23, pm23, cd23, ct23, od23, an23, sl23, l23, c23, k23⟩ := fn_look (st := s__law_pins) (d.def_ 23 (d := d_23) rfl)
  have a23 := glo_ok X G (d.fact 21 (f := .glo "_law_pins") rfl)
  obtain ⟨oc24, kV24, dc24, pm24, cd24, ct24, od24, an24, sl24, l24, c24, k24⟩ := fn_look (st := s__law_lots) (d.def_ 24 (d := d_24) rfl)
  have a24 := glo_ok X G (d.fact 22 (f := .glo "_law_lots") rfl)
  obtain ⟨oc25, kV25, dc25, pm25, cd25, ct25, od25, an25, sl25, l25, c25, k25⟩ := fn_look (st := s__law_made) (d.def_ 25 (d := d_25) rfl)
  have a25 := glo_ok X G (d.fact 23 (f := .glo "_law_made") rfl)
  obtain ⟨oc26, kV26, dc26, pm26, cd26, ct26, od26, an26, sl26, l26, c26, k26⟩ := fn_look (st := s__law_pick) (d.def_ 26 (d := d_26) rfl)
  have a26 := glo_ok X G (d.fact 24 (f := .glo "_law_pick") rfl)
  obtain ⟨oc27, kV27, dc27, pm27, cd27, ct27, od27, an27, sl27, l27, c27, k27⟩ := fn_look (st := s__law_scope) (d.def_ 27 (d := d_27) rfl)
  have a27 := glo_ok X G (d.fact 25 (f := .glo "_law_scope") rfl)
  obtain ⟨oc28, kV28, dc28, pm28, cd28, ct28, od28, an28, sl28, l28, c28, k28⟩ := fn_look (st := s_check_box) (d.def_ 28 (d := d_28) rfl)
  have a28 := glo_ok X G (d.fact 26 (f := .glo "check_box") rfl)
  obtain ⟨oc29, kV29, dc29, pm29, cd29, ct29, od29, an29, sl29, l29, c29, k29⟩ := fn_look (st := s_shifted) (d.def_ 29 (d := d_29) rfl)
  have a29 := glo_ok X G (d.fact 27 (f := .glo "shifted") rfl)
  obtain ⟨oc30, kV30, dc30, pm30, cd30, ct30, od30, an30, sl30, l30, c30, k30⟩ := fn_look (st := s_beside) (d.def_ 30 (d := d_30) rfl)
  have a30 := glo_ok X G (d.fact 28 (f := .glo "beside") rfl)
  obtain ⟨oc31, kV31, dc31, pm31, cd31, ct31, od31, an31, sl31, l31, c31, k31⟩ := fn_look (st := s_joined_pins) (d.def_ 31 (d := d_31) rfl)
  have a31 := glo_ok X G (d.fact 29 (f := .glo "joined_pins") rfl)
  obtain ⟨oc32, kV32, dc32, pm32, cd32, ct32, od32, an32, sl32, l32, c32, k32⟩ := fn_look (st := s_piece_of) (d.def_ 32 (d := d_32) rfl)
  have a32 := glo_ok X G (d.fact 30 (f := .glo "piece_of") rfl)
  obtain ⟨oc33, kV33, dc33, pm33, cd33, ct33, od33, an33, sl33, l33, c33, k33⟩ := fn_look (st := s_pieces) (d.def_ 33 (d := d_33) rfl)
  have a33 := glo_ok X G (d.fact 31 (f := .glo "pieces") rfl)
  obtain ⟨oc34, kV34, dc34, pm34, cd34, ct34, od34, an34, sl34, l34, c34, k34⟩ := fn_look (st := s_has_switch) (d.def_ 34 (d := d_34) rfl)
  have a34 := glo_ok X G (d.fact 32 (f := .glo "has_switch") rfl)
  obtain ⟨oc35, kV35, dc35, pm35, cd35, ct35, od35, an35, sl35, l35, c35, k35⟩ := fn_look (st := s_is_lot) (d.def_ 35 (d := d_35) rfl)
  have a35 := glo_ok X G (d.fact 33 (f := .glo "is_lot") rfl)
  obtain ⟨oc36, kV36, dc36, pm36, cd36, ct36, od36, an36, sl36, l36, c36, k36⟩ := fn_look (st := s_without) (d.def_ 36 (d := d_36) rfl)
  have a36 := glo_ok X G (d.fact 34 (f := .glo "without") rfl)
  obtain ⟨oc37, kV37, dc37, pm37, cd37, ct37, od37, an37, sl37, l37, c37, k37⟩ := fn_look (st := s__law_odd) (d.def_ 37 (d := d_37) rfl)
  have a37 := glo_ok X G (d.fact 35 (f := .glo "_law_odd") rfl)
  obtain ⟨oc38, kV38, dc38, pm38, cd38, ct38, od38, an38, sl38, l38, c38, k38⟩ := fn_look (st := s__law_refused) (d.def_ 38 (d := d_38) rfl)
  have a38 := glo_ok X G (d.fact 36 (f := .glo "_law_refused") rfl)
  obtain ⟨oc39, kV39, dc39, pm39, cd39, ct39, od39, an39, sl39, l39, c39, k39⟩ := fn_look (st := s__law_caught) (d.def_ 39 (d := d_39) rfl)
  have a39 := glo_ok X G (d.fact 37 (f := .glo "_law_caught") rfl)
  obtain ⟨oc40, kV40, dc40, pm40, cd40, ct40, od40, an40, sl40, l40, c40, k40⟩ := fn_look (st := s_law) (d.def_ 40 (d := d_40) rfl)
  have a40 := glo_ok X G (d.fact 38 (f := .glo "law") rfl)
  have e : fa = ga K "law" := Value.ref.inj (Option.some.inj (hfa.symm.trans a40))
  subst e
  obtain ⟨cc0, ecc0⟩ := codeIn_ref c38
  subst ecc0
  obtain ⟨t10, t20, t30⟩ := c.tabs ("_law_refused", none) List.mem_cons_self
  have ec0 : (cT K ("_law_refused", none)).1 = cc0 := codeOf_eq l38 rfl
  rw [ec0] at t10
  generalize (cT K ("_law_refused", none)).2 = tb0 at *
  have T : Txt mg := ⟨free_ok X G (d.fact 39 (f := .free "isinstance") rfl), free_ok X G (d.fact 40 (f := .free "int") rfl), free_ok X G (d.fact 41 (f := .free "bool") rfl), free_ok X G (d.fact 42 (f := .free "tuple") rfl), free_ok X G (d.fact 43 (f := .free "list") rfl), free_ok X G (d.fact 44 (f := .free "len") rfl), free_ok X G (d.fact 45 (f := .free "range") rfl), free_ok X G (d.fact 46 (f := .free "zip") rfl), free_ok X G (d.fact 47 (f := .free "max") rfl), free_ok X G (d.fact 48 (f := .free "min") rfl), free_ok X G (d.fact 49 (f := .free "sum") rfl), free_ok X G (d.fact 50 (f := .free "abs") rfl), free_ok X G (d.fact 51 (f := .free "repr") rfl), free_ok X G (d.fact 52 (f := .free "enumerate") rfl), free_ok X G (d.fact 53 (f := .free "sorted") rfl), free_ok X G (d.fact 54 (f := .free "set") rfl), int_ok X G (d.fact 55 (f := .int "MOST_SIDES" 5) rfl), int_ok X G (d.fact 56 (f := .int "MOST_TRACKS" 6) rfl)⟩
  have BN : mg "Box" = some (.ref (ga K "Box")) := glo_ok X G (d.fact 64 (f := .glo "Box") rfl)
  have BC : BoxC K (ga K "Box") := ⟨cls_ok (d.fact 77 (f := .cls "Box") rfl), noat_ok (d.fact 80 (f := .noat "Box" "sides") rfl), noat_ok (d.fact 81 (f := .noat "Box" "tracks") rfl), noat_ok (d.fact 82 (f := .noat "Box" "switches") rfl), noat_ok (d.fact 83 (f := .noat "Box" "known") rfl)⟩
  have F0 := fun_mk (st := s_is_number) l0 c0 k0
  have F1 := fun_mk (st := s_is_within) l1 c1 k1
  have F2 := fun_mk (st := s_check_sides) l2 c2 k2
  have F3 := fun_mk (st := s_check_tracks) l3 c3 k3
  have F4 := fun_mk (st := s_is_tuple_of) l4 c4 k4
  have F5 := fun_mk (st := s_is_switch) l5 c5 k5
  have F6 := fun_mk (st := s_rises) l6 c6 k6
  have F7 := fun_mk (st := s_is_switch_tuple) l7 c7 k7
  have F8 := fun_mk (st := s_init) l8 c8 k8
  have F9 := fun_mk (st := s_beq) l9 c9 k9
  have F10 := fun_mk (st := s_mate) l10 c10 k10
  have F11 := fun_mk (st := s_is_joined) l11 c11 k11
  have F12 := fun_mk (st := s_built) l12 c12 k12
  have F13 := fun_mk (st := s_plain) l13 c13 k13
  have F14 := fun_mk (st := s_crossed) l14 c14 k14
  have F15 := fun_mk (st := s_full) l15 c15 k15
  have F16 := fun_mk (st := s__law_begun) l16 c16 k16
  have F17 := fun_mk (st := s__law_draw) l17 c17 k17
  have F18 := fun_mk (st := s__law_mixed) l18 c18 k18
  have F19 := fun_mk (st := s__law_few) l19 c19 k19
  have F20 := fun_mk (st := s__law_mate) l20 c20 k20
  have F21 := fun_mk (st := s__law_pairs) l21 c21 k21
  have F22 := fun_mk (st := s__law_joined) l22 c22 k22
  have F23 := fun_mk (st := s__law_pins) l23 c23 k23
  have F24 := fun_mk (st := s__law_lots) l24 c24 k24
  have F25 := fun_mk (st := s__law_made) l25 c25 k25
  have F26 := fun_mk (st := s__law_pick) l26 c26 k26
  have F27 := fun_mk (st := s__law_scope) l27 c27 k27
  have F28 := fun_mk (st := s_check_box) l28 c28 k28
  have F29 := fun_mk (st := s_shifted) l29 c29 k29
  have F30 := fun_mk (st := s_beside) l30 c30 k30
  have F31 := fun_mk (st := s_joined_pins) l31 c31 k31
  have F32 := fun_mk (st := s_piece_of) l32 c32 k32
  have F33 := fun_mk (st := s_pieces) l33 c33 k33
  have F34 := fun_mk (st := s_has_switch) l34 c34 k34
  have F35 := fun_mk (st := s_is_lot) l35 c35 k35
  have F36 := fun_mk (st := s_without) l36 c36 k36
  have F37 := fun_mk (st := s__law_odd) l37 c37 k37
  have FC38 : FunC K "_law_refused" "_law_refused" s__law_refused _ _ cc0 := ⟨_, _, _, _, _, _, _, _, rfl, l38, c38⟩
  have F40 := fun_mk (st := s_law) l40 c40 k40
  have CAF : CauF K mg "_law_caught" (ga K "CallError") := by
    have bb : L2.Binds K (PySem.W.fnOf "_law_caught" "_law_caught" (defArgs s__law_caught) (defBody s__law_caught) (defScope s__law_caught) .none kV39 dc39 pm39 an39 cd39 ct39) ["_law_work"] [] := .all fun us hl => match us, hl with | [_], _ => rfl
    exact ⟨_, oc39, od39, an39, sl39, defScope s__law_caught, defArgs s__law_caught, .none, kV39, dc39, pm39, cd39, ct39, _, _, _, _, _, _, _, _, _, _, _, _, _, _, _, a39, k39, l39, c39, bb,
      ⟨rfl, rfl, rfl, by decide +kernel, rfl, by decide +kernel, by decide +kernel⟩, by decide +kernel, glo_ok X G (d.fact 63 (f := .glo "CallError") rfl), by decide +kernel, by decide +kernel, by decide +kernel⟩
  refine ⟨PySem.W.fnOf "law" "law" (defArgs s_law) (defBody s_law) (defScope s_law) .none kV40 dc40 pm40 an40 cd40 ct40, [(cc0, tb0)], tb0, ⟨_, List.mem_cons_self, rfl⟩, ?_, ?_, ?_, fun s v => .of_eq rfl, fun base _ _ TBs => ?_⟩
  · intro p hp
    rcases List.mem_cons.mp hp with rfl | hp
    · exact t30
    · cases hp
  · intro p hp
    rcases List.mem_cons.mp hp with rfl | hp
    · exact t20
    · cases hp
  · intro p hp
    rcases List.mem_cons.mp hp with rfl | hp
    · exact PySem.W.codeHd_of_K X t10
    · cases hp
  have TB0 : TabB base mg cc0 tb0 := TBs _ List.mem_cons_self
  have D0 : DF l.prog w K mg base "is_number" 1 ["thing"] (spD K 1 R_is_number) := ⟨⟨_, _, ok_is_number F0 T, a0, k0, F0.binds (ps := ["thing"]) fun _ _ _ _ _ _ us hl => match us, hl with | [_], _ => rfl⟩⟩
  have D1 : DF l.prog w K mg base "is_within" 2 ["thing", "low", "high"] (spD K 3 R_is_within) := ⟨⟨_, _, ok_is_within F1 T D0, a1, k1, F1.binds (ps := ["thing", "low", "high"]) fun _ _ _ _ _ _ us hl => match us, hl with | [_, _, _], _ => rfl⟩⟩
  have D2 : DFX l.prog w K mg base "check_sides" 3 ["sides", "most"] (spR K 2 R_check_sides (B_check_sides (ga K "BadSides"))) := ⟨⟨_, _, ok_check_sides F2 T D1 GB, a2, k2, F2.binds (ps := ["sides", "most"]) fun _ _ _ _ _ _ us hl => match us, hl with | [_, _], _ => rfl⟩⟩
  have D3 : DFX l.prog w K mg base "check_tracks" 3 ["tracks", "least"] (spR K 2 R_check_tracks1 (B_check_tracks1 (ga K "BadTracks"))) := ⟨⟨_, _, ok_check_tracks F3 T D1 GT, a3, k3, F3.binds (ps := ["tracks", "least"]) fun _ _ _ _ _ _ us hl => match us, hl with | [_, _], _ => rfl⟩⟩
  have D4 : DF l.prog w K mg base "is_tuple_of" 1 ["thing", "many"] (spD K 2 R_is_tuple_of) := ⟨⟨_, _, ok_is_tuple_of F4 T, a4, k4, F4.binds (ps := ["thing", "many"]) fun _ _ _ _ _ _ us hl => match us, hl with | [_, _], _ => rfl⟩⟩
  have D5 : DF l.prog w K mg base "is_switch" 2 ["sides", "tracks", "thing"] (spD K 3 R_is_switchB) := ⟨⟨_, _, ok_is_switch F5 T D4, a5, k5, F5.binds (ps := ["sides", "tracks", "thing"]) fun _ _ _ _ _ _ us hl => match us, hl with | [_, _, _], _ => rfl⟩⟩
  have D6 : DF l.prog w K mg base "rises" 1 ["row"] (spD K 1 R_rises) := ⟨⟨_, _, ok_rises F6 T, a6, k6, F6.binds (ps := ["row"]) fun _ _ _ _ _ _ us hl => match us, hl with | [_], _ => rfl⟩⟩
  have D7 : DF l.prog w K mg base "is_switch_tuple" 3 ["sides", "tracks", "thing"] (spD K 3 R_is_swtB) := ⟨⟨_, _, ok_is_switch_tuple F7 T D5 D6, a7, k7, F7.binds (ps := ["sides", "tracks", "thing"]) fun _ _ _ _ _ _ us hl => match us, hl with | [_, _, _], _ => rfl⟩⟩
  have BX : BoxX l.prog w K mg base (ga K "Box") (ga K "BadSides") (ga K "BadTracks") (ga K "BadSwitches") := ⟨⟨_, _, mkr_ok (d.fact 78 (f := .mkr "Box") rfl), ok_init F8 T BC GW D2 D3 D7, F8.binds (ps := ["self", "sides", "tracks", "switches"]) fun _ _ _ _ _ _ us hl => match us, hl with | [_, _, _, _], _ => rfl, kbn_init F8⟩, BN⟩
  have BM := meth_ok (d.fact 79 (f := .meth "Box" "__eq__") rfl)
  have BQ : BoxQ l.prog w K mg base (ga K "Box") := ⟨⟨_, _, ok_beq F9 T BC BT BN, F9.binds (ps := ["self", "other"]) fun _ _ _ _ _ _ us hl => match us, hl with | [_, _], _ => rfl, ⟨BM.at_, BM.fn, eqO_ok b7, b8⟩⟩⟩
  have D10 : DF l.prog w K mg base "mate" 1 ["track", "tracks"] (spD K 2 R_law_mate) := ⟨⟨_, _, ok_mate F10 T, a10, k10, F10.binds (ps := ["track", "tracks"]) fun _ _ _ _ _ _ us hl => match us, hl with | [_, _], _ => rfl⟩⟩
  have D11 : DF l.prog w K mg base "is_joined" 2 ["kind", "tracks", "track", "other"] (spD K 4 R_is_joined) := ⟨⟨_, _, ok_is_joined F11 T D10, a11, k11, F11.binds (ps := ["kind", "tracks", "track", "other"]) fun _ _ _ _ _ _ us hl => match us, hl with | [_, _, _, _], _ => rfl⟩⟩
  have D12 : DFX l.prog w K mg base "built" 6 ["sides", "tracks", "kind"] (spBuilt l.prog w K (ga K "BadSides") (ga K "BadTracks") (ga K "Box")) := ⟨⟨_, _, ok_built F12 T D2 D3 D11 BX, a12, k12, F12.binds (ps := ["sides", "tracks", "kind"]) fun _ _ _ _ _ _ us hl => match us, hl with | [_, _, _], _ => rfl⟩⟩
  have D13 : DFX l.prog w K mg base "plain" 7 ["sides", "tracks"] (spKind l.prog w K (ga K "BadSides") (ga K "BadTracks") (ga K "Box") (Str.ofString "plain")) := ⟨⟨_, _, ok_plain F13 T D12, a13, k13, F13.binds (ps := ["sides", "tracks"]) fun _ _ _ _ _ _ us hl => match us, hl with | [_, _], _ => rfl⟩⟩
  have D14 : DFX l.prog w K mg base "crossed" 7 ["sides", "tracks"] (spKind l.prog w K (ga K "BadSides") (ga K "BadTracks") (ga K "Box") (Str.ofString "crossed")) := ⟨⟨_, _, ok_crossed F14 T D12, a14, k14, F14.binds (ps := ["sides", "tracks"]) fun _ _ _ _ _ _ us hl => match us, hl with | [_, _], _ => rfl⟩⟩
  have D15 : DFX l.prog w K mg base "full" 7 ["sides", "tracks"] (spKind l.prog w K (ga K "BadSides") (ga K "BadTracks") (ga K "Box") (Str.ofString "full")) := ⟨⟨_, _, ok_full F15 T D12, a15, k15, F15.binds (ps := ["sides", "tracks"]) fun _ _ _ _ _ _ us hl => match us, hl with | [_, _], _ => rfl⟩⟩
  have D16 : DF l.prog w K mg base "_law_begun" 1 ["_law_script"] (spBegun K) := ⟨⟨_, _, ok__law_begun F16 T, a16, k16, F16.binds (ps := ["_law_script"]) fun _ _ _ _ _ _ us hl => match us, hl with | [_], _ => rfl⟩⟩
  have D17 : DF l.prog w K mg base "_law_draw" 1 ["_law_state", "_law_size_here"] (spDraw K) := ⟨⟨_, _, ok__law_draw F17 T, a17, k17, F17.binds (ps := ["_law_state", "_law_size_here"]) fun _ _ _ _ _ _ us hl => match us, hl with | [_, _], _ => rfl⟩⟩
  have D18 : DF l.prog w K mg base "_law_mixed" 2 ["_law_state", "_law_several"] (spMixed K) := ⟨⟨_, _, ok__law_mixed F18 T D17, a18, k18, F18.binds (ps := ["_law_state", "_law_several"]) fun _ _ _ _ _ _ us hl => match us, hl with | [_, _], _ => rfl⟩⟩
  have D19 : DF l.prog w K mg base "_law_few" 3 ["_law_state", "_law_several", "_law_most"] (spFew K) := ⟨⟨_, _, ok__law_few F19 T D17 D18, a19, k19, F19.binds (ps := ["_law_state", "_law_several", "_law_most"]) fun _ _ _ _ _ _ us hl => match us, hl with | [_, _, _], _ => rfl⟩⟩
  have D20 : DF l.prog w K mg base "_law_mate" 1 ["_law_track", "_law_many"] (spD K 2 R_law_mate) := ⟨⟨_, _, ok__law_mate F20 T, a20, k20, F20.binds (ps := ["_law_track", "_law_many"]) fun _ _ _ _ _ _ us hl => match us, hl with | [_, _], _ => rfl⟩⟩
  have D21 : DF l.prog w K mg base "_law_pairs" 1 ["_law_sides_here"] (spN K 1 R_law_pairs) := ⟨⟨_, _, ok__law_pairs F21 T, a21, k21, F21.binds (ps := ["_law_sides_here"]) fun _ _ _ _ _ _ us hl => match us, hl with | [_], _ => rfl⟩⟩
  have D22 : DF l.prog w K mg base "_law_joined" 2 ["_law_sides_here", "_law_many", "_law_fashion"] (spN K 3 R_law_joined) := ⟨⟨_, _, ok__law_joined F22 T D20 D21, a22, k22, F22.binds (ps := ["_law_sides_here", "_law_many", "_law_fashion"]) fun _ _ _ _ _ _ us hl => match us, hl with | [_, _, _], _ => rfl⟩⟩
  have D23 : DF l.prog w K mg base "_law_pins" 1 ["_law_told"] (spN K 1 R_law_pins) := ⟨⟨_, _, ok__law_pins F23 T, a23, k23, F23.binds (ps := ["_law_told"]) fun _ _ _ _ _ _ us hl => match us, hl with | [_], _ => rfl⟩⟩
  have D24 : DF l.prog w K mg base "_law_lots" 2 ["_law_joined_here"] (spN K 1 R_law_lots) := ⟨⟨_, _, ok__law_lots F24 T D23, a24, k24, F24.binds (ps := ["_law_joined_here"]) fun _ _ _ _ _ _ us hl => match us, hl with | [_], _ => rfl⟩⟩
  have D25 : DFX l.prog w K mg base "_law_made" 6 ["_law_scope_here"] (spMade l.prog w K (ga K "Box")) := ⟨⟨_, _, ok__law_made F25 T BX, a25, k25, F25.binds (ps := ["_law_scope_here"]) fun _ _ _ _ _ _ us hl => match us, hl with | [_], _ => rfl⟩⟩
  have D26 : DF l.prog w K mg base "_law_pick" 2 ["_law_state", "_law_several"] (spPick K) := ⟨⟨_, _, ok__law_pick F26 T D17, a26, k26, F26.binds (ps := ["_law_state", "_law_several"]) fun _ _ _ _ _ _ us hl => match us, hl with | [_, _], _ => rfl⟩⟩
  have D27 : DF l.prog w K mg base "_law_scope" 3 ["_law_state", "_law_most"] (spScope K) := ⟨⟨_, _, ok__law_scope F27 T D17 D26 D18 D22, a27, k27, F27.binds (ps := ["_law_state", "_law_most"]) fun _ _ _ _ _ _ us hl => match us, hl with | [_, _], _ => rfl⟩⟩
  have D28 : DFX l.prog w K mg base "check_box" 1 ["box"] (spCkB l.prog w K (ga K "Box") (ga K "BadBox")) := ⟨⟨_, _, ok_check_box F28 T BC BT BN GX, a28, k28, F28.binds (ps := ["box"]) fun _ _ _ _ _ _ us hl => match us, hl with | [_], _ => rfl⟩⟩
  have D29 : DF l.prog w K mg base "shifted" 1 ["switch", "tracks"] (spD K 2 R_shifted) := ⟨⟨_, _, ok_shifted F29 T, a29, k29, F29.binds (ps := ["switch", "tracks"]) fun _ _ _ _ _ _ us hl => match us, hl with | [_, _], _ => rfl⟩⟩
  have D30 : DFX l.prog w K mg base "beside" 6 ["one", "other"] (spBeside l.prog w K (ga K "BadTracks") (ga K "Box") (ga K "BadBox") (ga K "OtherSides")) := ⟨⟨_, _, ok_beside F30 T D28 D29 BC BX GO, a30, k30, F30.binds (ps := ["one", "other"]) fun _ _ _ _ _ _ us hl => match us, hl with | [_, _], _ => rfl⟩⟩
  have K30 : DFK l.prog w K mg base (L2.CX l.prog w) "beside" 6 ["one", "other"] (spBeside l.prog w K (ga K "BadTracks") (ga K "Box") (ga K "BadBox") (ga K "OtherSides")) := ⟨⟨_, _, ok_beside F30 T D28 D29 BC BX GO, a30, k30, DL.Fun.kwr F30 (ps := ["one", "other"]) fun _ _ _ _ _ _ ws hl => match ws, hl with | [_, _], _ => rfl⟩⟩
  have D31 : DF l.prog w K mg base "joined_pins" 1 ["box"] (spNear l.prog w K (ga K "Box")) := ⟨⟨_, _, ok_joined_pins F31 T BC, a31, k31, F31.binds (ps := ["box"]) fun _ _ _ _ _ _ us hl => match us, hl with | [_], _ => rfl⟩⟩
  have D32 : DF l.prog w K mg base "piece_of" 1 ["near", "pin"] (spPiece l.prog w K) := ⟨⟨_, _, ok_piece_of F32 T, a32, k32, F32.binds (ps := ["near", "pin"]) fun _ _ _ _ _ _ us hl => match us, hl with | [_, _], _ => rfl⟩⟩
  have D33 : DFX l.prog w K mg base "pieces" 2 ["box"] (spPieces l.prog w K (ga K "Box") (ga K "BadBox")) := ⟨⟨_, _, ok_pieces F33 T D28 D31 D32, a33, k33, F33.binds (ps := ["box"]) fun _ _ _ _ _ _ us hl => match us, hl with | [_], _ => rfl⟩⟩
  have K33 : DFK l.prog w K mg base (L2.CX l.prog w) "pieces" 2 ["box"] (spPieces l.prog w K (ga K "Box") (ga K "BadBox")) := ⟨⟨_, _, ok_pieces F33 T D28 D31 D32, a33, k33, DL.Fun.kwr F33 (ps := ["box"]) fun _ _ _ _ _ _ ws hl => match ws, hl with | [_], _ => rfl⟩⟩
  have D34 : DF l.prog w K mg base "has_switch" 2 ["box", "thing"] (spHasB l.prog w K (ga K "Box")) := ⟨⟨_, _, ok_has_switch F34 T D0 D4 BC, a34, k34, F34.binds (ps := ["box", "thing"]) fun _ _ _ _ _ _ us hl => match us, hl with | [_, _], _ => rfl⟩⟩
  have D35 : DF l.prog w K mg base "is_lot" 3 ["box", "thing"] (spLotB l.prog w K (ga K "Box")) := ⟨⟨_, _, ok_is_lot F35 T D34 D6, a35, k35, F35.binds (ps := ["box", "thing"]) fun _ _ _ _ _ _ us hl => match us, hl with | [_, _], _ => rfl⟩⟩
  have D36 : DFX l.prog w K mg base "without" 6 ["box", "gone"] (spWithout l.prog w K (ga K "Box") (ga K "BadBox") (ga K "BadGone")) := ⟨⟨_, _, ok_without F36 T D28 D35 BC BX GG, a36, k36, F36.binds (ps := ["box", "gone"]) fun _ _ _ _ _ _ us hl => match us, hl with | [_, _], _ => rfl⟩⟩
  have K36 : DFK l.prog w K mg base (L2.CX l.prog w) "without" 6 ["box", "gone"] (spWithout l.prog w K (ga K "Box") (ga K "BadBox") (ga K "BadGone")) := ⟨⟨_, _, ok_without F36 T D28 D35 BC BX GG, a36, k36, DL.Fun.kwr F36 (ps := ["box", "gone"]) fun _ _ _ _ _ _ ws hl => match ws, hl with | [_, _], _ => rfl⟩⟩
  have D37 : DF l.prog w K mg base "_law_odd" 3 ["_law_state"] (spOdd K) := ⟨⟨_, _, ok__law_odd F37 T D26, a37, k37, F37.binds (ps := ["_law_state"]) fun _ _ _ _ _ _ us hl => match us, hl with | [_], _ => rfl⟩⟩
  have D38 : DFG l.prog w K mg base "_law_refused" 11 ["_law_state", "_law_made_here"] (spRefused l.prog w K (ga K "Box") tb0) := ⟨⟨_, _, ok__law_refused FC38 T TB0 CAF GB GT GX GO GG BC BT yB iB EB yT iT ET yX iX EX yO iO EO yG iG EG kT D37 D26 D30 D14 D15 D33 D13 D36, a38, k38, .all fun us hl => match us, hl with | [_, _], _ => rfl⟩⟩
  have WKt : ∀ f sp, WkR l.prog w K (ga K "BadSides") (ga K "BadTracks") (ga K "Box") (ga K "plain") (ga K "crossed") (ga K "full") f sp → Fv l.prog w K mg base 7 ["sides", "tracks"] sp f := by
    rintro f sp ⟨fs, hf, rfl, h⟩
    rcases h with ⟨rfl, rfl⟩ | ⟨rfl, rfl⟩ | ⟨rfl, rfl⟩
    · exact ⟨⟨_, ok_plain F13 T D12, k13, F13.binds (ps := ["sides", "tracks"]) fun _ _ _ _ _ _ us hl => match us, hl with | [_, _], _ => rfl, DL.Fun.kwr F13 (ps := ["sides", "tracks"]) fun _ _ _ _ _ _ ws hl => match ws, hl with | [_, _], _ => rfl⟩⟩
    · exact ⟨⟨_, ok_crossed F14 T D12, k14, F14.binds (ps := ["sides", "tracks"]) fun _ _ _ _ _ _ us hl => match us, hl with | [_, _], _ => rfl, DL.Fun.kwr F14 (ps := ["sides", "tracks"]) fun _ _ _ _ _ _ ws hl => match ws, hl with | [_, _], _ => rfl⟩⟩
    · exact ⟨⟨_, ok_full F15 T D12, k15, F15.binds (ps := ["sides", "tracks"]) fun _ _ _ _ _ _ us hl => match us, hl with | [_, _], _ => rfl, DL.Fun.kwr F15 (ps := ["sides", "tracks"]) fun _ _ _ _ _ _ ws hl => match ws, hl with | [_, _], _ => rfl⟩⟩
  exact ok_law F40 T a13 a14 a15 BC BT BX BQ WKt D16 D17 D19 D22 D24 D25 D27 D30 D33 D13 D36 K30 K36 K33 D38
theorem cx_out {P : Program} {w : World} {H : Hp} {s s' : Shared} {e : Value} (h : L2.CX P w [] H s (fun _ _ _ => False) e s') : False := by
  obtain ⟨_, _, _, _, _, _, _, _, _, _, _, _, z⟩ := h
  exact z
end K16
set_option Elab.async false
set_option maxRecDepth 100000
open PySem PySem.W PyProof.Rows in
set_option maxRecDepth 100000 in
set_option maxHeartbeats 0 in
theorem PySem.Challenge.cw_allcalls_k02_plain_crossed_full_and_piec_holds : PySem.Challenge.rw_allcalls_k02_plain_crossed_full_and_piec.Holds := by
  w_on; o_law
  refine HandSHeadRun.head_any (r := OpenLaw.row PySem.Challenge.rw_allcalls_k02_plain_crossed_full_and_piec) (q := K16.vq) (H := DL.hookY 5 K16.faL K16.fnL K16.tfL K16.exA) (ob := DL.seeY 5 K16.faL K16.fnL K16.tfL K16.exA) (M := 24000) (loose := K16.nameL) (d := HandSHeadRun.topDef (OpenLaw.row PySem.Challenge.rw_allcalls_k02_plain_crossed_full_and_piec).prog 52) (kwd := []) DL.seeY_eq
    (by kernel_rfl) (fun s => by kernel_rfl) K16.run (by kernel_rfl) (by kernel_rfl) (by kernel_rfl) (by rfl) (by first | assumption | decide +kernel) (by decide +kernel) ⟨rfl, rfl, rfl, rfl, rfl, by decide +kernel⟩ ?hw ?hc
  case hw => w_witness2
  case hc =>
    refine DL.walkTsE (l := PySem.Challenge.rw_allcalls_k02_plain_crossed_full_and_piec) (n := 63) (k := 13) (x := "_law_script") (CX := fun w => L2.CX PySem.Challenge.rw_allcalls_k02_plain_crossed_full_and_piec.prog w) rfl (by decide) (by kernel_rfl) ⟨rfl, by decide, by decide⟩ ?F (fun _ _ _ _ _ z => K16.cx_out z)
    intro w mg fa h Y G hmg0
    obtain ⟨K, KX, c⟩ := Y
    have hmg : mg ("law" : PySem.Str) = some (.ref fa) := by
      have e : (HandSHeadRun.topDef (OpenLaw.row PySem.Challenge.rw_allcalls_k02_plain_crossed_full_and_piec).prog 52).name = ("law" : PySem.Str) := by kernel_rfl
      rw [← e]
      exact hmg0
    obtain ⟨fd, Ts, tl, ⟨p1, m1, e1⟩, t1, t2, t3, hb, hF⟩ := K16.facts_law (l := PySem.Challenge.rw_allcalls_k02_plain_crossed_full_and_piec) KX G hmg c
    exact ⟨K, fd, Ts, K16.spLaw K tl, KX, t1, t2, t3, hb, fun H a ns hl hT hS => ⟨a, ns, rfl, hS, hl, e1 ▸ hT p1 m1, fun _ => rfl⟩, hF⟩
