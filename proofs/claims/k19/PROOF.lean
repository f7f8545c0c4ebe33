import PyProof.Rows.All
import Wide.All
import OpenK.AllK
import Wide.FinOn
import HandS.Evl
import HandS.Iter
import HandS.Conv
import KE.GoesMore
import HandS.Zip
import HandS.Walk
import HandS.TupAny
import HandS.TupMul
import HandS.IsInst
import HandS.Dict
import HandS.Wide
import HandS.Style
import HandS.Words
import HandS.Exc
import HandS.ExcIs
import HandS.ExcOwn
import HandS.TryOnly
import HandS.WordsExc
import HandS.Lambda
import HandS.FStr
import HandS.RaiseMore
import PyProof.ReprRoads
import HandS.Ends
import HandS.EndTab
import HandS.Defaults
import HandS.Finally
import KE.KDictCopyH
import HandS.DictComp
import HandS.DictSubView
import HandS.DeepEq
import PyProof.ReprLen
import HandS.Head2
import HandS.HeadEnd
import HandS.HeadHook4
import PyProof.ExcBaseAll.ValueError
import HandS.ExcInit
import HandS.ExcValue
import HandS.ExcField
import KE.KExcIs
import KE.KeyNested
import KE.SortData
import KE.DataCmp
import HandS.Nested
import HandS.SortKw
import KE.SortKeyHeap
import HandS.Keys
import HandS.SetFor
import KE.LtData
import HandS.Deep
import HandS.TupSets
import PySem.Challenge.RW_allcalls_k19_whole_splits_laid_over_mate
namespace K16
open PySem
/-- the program's top, row by row -/
def topS (i : Nat) : Stmt := PySem.Challenge.pw_allcalls_k19_whole_splits_laid_over_mate.main.body.getD i (.Pass ⟨0, 0, 0, 0⟩)
end K16
set_option Elab.async false
set_option linter.all false
set_option maxRecDepth 100000
set_option maxHeartbeats 2000000
/-! data behind values: what an expression evaluates to, told as data -/
namespace DL
open PySem PySem.Spec PyProof.Rows L2 Evl

section
variable {K : PySem.W.Frag} {H H' : Hp}
mutual
theorem dp_ex (e : Ex H H') : ∀ (d : PyData) (v : V), Dp K H v d → Dp K H' v d
  | .none, _, h => by cases h; exact .non
  | .bool b, _, h => by cases h; exact .bl b
  | .int i, _, h => by cases h; exact .int i
  | .str x, _, h => by cases h; exact .str x
  | .list ds, _, h => by
    cases h with
    | lst hs ha => exact .lst (ex_l e hs) (dpa_ex e ds _ ha)
  | .tuple ds, _, h => by
    cases h with
    | tup hs ha => exact .tup (ex_t e hs) (dpa_ex e ds _ ha)
  | .dict _, _, h => by cases h
theorem dpa_ex (e : Ex H H') : ∀ (ds : List PyData) (vs : List V), DpAll K H vs ds → DpAll K H' vs ds
  | [], _, h => by cases h; exact .nil
  | d :: ds, _, h => by
    cases h with
    | cons h1 h2 => exact .cons (dp_ex e d _ h1) (dpa_ex e ds _ h2)
end
theorem dpa_len : ∀ {vs : List V} {ds : List PyData}, DpAll K H vs ds → vs.length = ds.length
  | _, _, .nil => rfl
  | _, _, .cons _ t => congrArg (· + 1) (dpa_len t)
theorem dpa_get : ∀ {vs : List V} {ds : List PyData} {i : Nat} {d : PyData}, DpAll K H vs ds → ds[i]? = some d → ∃ v, vs[i]? = some v ∧ Dp K H v d
  | _, _, _, _, .nil, e => by simp at e
  | _, _, 0, _, .cons h _, e => ⟨_, rfl, by simp at e; subst e; exact h⟩
  | _, _, i + 1, _, .cons _ t, e => by
    obtain ⟨v, h1, h2⟩ := dpa_get (i := i) t (by simpa using e)
    exact ⟨v, by simpa using h1, h2⟩
theorem dpa_getV : ∀ {vs : List V} {ds : List PyData} {i : Nat} {v : V}, DpAll K H vs ds → vs[i]? = some v → ∃ d, ds[i]? = some d ∧ Dp K H v d
  | _, _, _, _, .nil, e => by simp at e
  | _, _, 0, _, .cons h _, e => ⟨_, rfl, by simp at e; subst e; exact h⟩
  | _, _, i + 1, _, .cons _ t, e => by
    obtain ⟨v, h1, h2⟩ := dpa_getV (i := i) t (by simpa using e)
    exact ⟨v, by simpa using h1, h2⟩
theorem dpa_app : ∀ {vs ws : List V} {ds es : List PyData}, DpAll K H vs ds → DpAll K H ws es → DpAll K H (vs ++ ws) (ds ++ es)
  | _, _, _, _, .nil, h => h
  | _, _, _, _, .cons a t, h => .cons a (dpa_app t h)
theorem dpa_drop : ∀ {vs : List V} {ds : List PyData} (n : Nat), DpAll K H vs ds → DpAll K H (vs.drop n) (ds.drop n)
  | _, _, 0, h => h
  | _, _, _ + 1, .nil => .nil
  | _, _, n + 1, .cons _ t => dpa_drop n t
theorem dpa_take : ∀ {vs : List V} {ds : List PyData} (n : Nat), DpAll K H vs ds → DpAll K H (vs.take n) (ds.take n)
  | _, _, 0, _ => .nil
  | _, _, _ + 1, .nil => .nil
  | _, _, n + 1, .cons a t => .cons a (dpa_take n t)
theorem dpa_set : ∀ {vs : List V} {ds : List PyData} {v : V} {d : PyData} (n : Nat), DpAll K H vs ds → Dp K H v d → DpAll K H (vs.set n v) (ds.set n d)
  | _, _, _, _, _, .nil, _ => .nil
  | _, _, _, _, 0, .cons _ t, h => .cons h t
  | _, _, _, _, n + 1, .cons a t, h => .cons a (dpa_set n t h)
theorem dpa_rep {v : V} {d : PyData} (h : Dp K H v d) : ∀ n, DpAll K H (List.replicate n v) (List.replicate n d)
  | 0 => .nil
  | n + 1 => .cons h (dpa_rep h n)
theorem dpa_rev : ∀ {vs : List V} {ds : List PyData}, DpAll K H vs ds → DpAll K H vs.reverse ds.reverse
  | _, _, .nil => .nil
  | _, _, .cons a t => by
    rw [List.reverse_cons, List.reverse_cons]
    exact dpa_app (dpa_rev t) (.cons a .nil)
/-- ints as data -/
abbrev dI (l : List Int) : List PyData := l.map PyData.int
abbrev tI (l : List Int) : PyData := .tuple (dI l)
theorem dpa_ints : ∀ {l : List Int} {vs : List V}, DpAll K H vs (dI l) → vs = l.map V.int
  | [], _, .nil => rfl
  | i :: l, _, .cons h t => by
    cases h
    rw [dpa_ints t]
    rfl
theorem ints_dpa : ∀ (l : List Int), DpAll K H (l.map V.int) (dI l)
  | [] => .nil
  | i :: l => .cons (.int i) (ints_dpa l)
theorem dp_tI {v : V} {l : List Int} (h : Dp K H v (tI l)) : ∃ a, v = .ref a ∧ SqT K H a (l.map V.int) := by
  cases h with
  | tup hs ha =>
    rw [dpa_ints ha] at hs
    exact ⟨_, rfl, hs⟩
theorem tI_dp {a : Addr} {l : List Int} (h : SqT K H a (l.map V.int)) : Dp K H (.ref a) (tI l) := .tup h (ints_dpa l)
theorem dp_int {v : V} {i : Int} (h : Dp K H v (.int i)) : v = .int i := by
  cases h; rfl
theorem dp_bool {v : V} {i : Bool} (h : Dp K H v (.bool i)) : v = .bl i := by
  cases h; rfl
theorem dp_none {v : V} (h : Dp K H v .none) : v = .non := by
  cases h; rfl
theorem dp_str {v : V} {s : Str} (h : Dp K H v (.str s)) : v = .str s := by
  cases h; rfl

/-! ### evaluation to data -/
def EvD (K : PySem.W.Frag) (te : TE) (σ : L2.St) (H : Hp) (d : PyData) : Prop := ∀ H1, Ex H H1 → ∀ Q : VK, (∀ v H2, Ex H1 H2 → Dp K H2 v d → Q v H2) → te σ H1 Q
/-- a new list -/
def EvN (K : PySem.W.Frag) (te : TE) (σ : L2.St) (H : Hp) (ds : List PyData) : Prop := ∀ H1, Ex H H1 → ∀ Q : VK, (∀ p vs H2, H1 p = none → Ex H1 H2 → H2 p = some (.lst vs) → DpAll K H2 vs ds → Q (.ref p) H2) → te σ H1 Q
def EvDA (K : PySem.W.Frag) (ta : TA) (σ : L2.St) (H : Hp) (ds : List PyData) : Prop := ∀ H1, Ex H H1 → ∀ Q : List V → Hp → Prop, (∀ vs H2, Ex H1 H2 → DpAll K H2 vs ds → Q vs H2) → ta σ H1 Q
variable {σ : L2.St} {ta tb te : TE} {t u : TT} {d : PyData} {ds : List PyData} {v : V} {i j : Int}
theorem EvD.ex (e : Ex H H') (h : EvD K te σ H d) : EvD K te σ H' d := fun H1 a Q q => h H1 (e.trans a) Q q
theorem EvN.ex (e : Ex H H') (h : EvN K te σ H ds) : EvN K te σ H' ds := fun H1 a Q q => h H1 (e.trans a) Q q
theorem EvDA.ex {ta : TA} (e : Ex H H') (h : EvDA K ta σ H ds) : EvDA K ta σ H' ds := fun H1 a Q q => h H1 (e.trans a) Q q
theorem EvN.toD (h : EvN K te σ H ds) : EvD K te σ H (.list ds) := fun H1 a Q q => h H1 a Q fun p vs H2 _ e2 hp hd => q _ H2 e2 (.lst (sq_of hp) hd)
theorem EvD.int (h : EvD K te σ H (.int i)) : Ev te σ H (.int i) := fun H1 a Q q => h H1 a Q fun v H2 e2 hd => by
  rw [dp_int hd]
  exact q H2 e2
theorem EvD.bool {b : Bool} (h : EvD K te σ H (.bool b)) : Ev te σ H (.bl b) := fun H1 a Q q => h H1 a Q fun v H2 e2 hd => by
  rw [dp_bool hd]
  exact q H2 e2
theorem EvD.non (h : EvD K te σ H .none) : Ev te σ H .non := fun H1 a Q q => h H1 a Q fun v H2 e2 hd => by
  rw [dp_none hd]
  exact q H2 e2
theorem ev_d (h : Ev te σ H v) (hd : Dp K H v d) : EvD K te σ H d := fun H1 a Q q => h H1 a Q fun H2 e2 => q v H2 e2 (dp_ex (a.trans e2) d v hd)
theorem ed_int (h : Ev te σ H (.int i)) : EvD K te σ H (.int i) := ev_d h (.int i)
theorem ed_bool {b : Bool} (h : Ev te σ H (.bl b)) : EvD K te σ H (.bool b) := ev_d h (.bl b)
theorem ed_str {b : Str} (h : Ev te σ H (.str b)) : EvD K te σ H (.str b) := ev_d h (.str b)
theorem ed_var {k : Nat} (h : σ[k]? = some (some v)) (hd : Dp K H v d) : EvD K (tVar k) σ H d := ev_d (ev_var h) hd
theorem ed_is {d' : PyData} (h : EvD K te σ H d) (e : d = d') : EvD K te σ H d' := e ▸ h
theorem en_is {ds' : List PyData} (h : EvN K te σ H ds) (e : ds = ds') : EvN K te σ H ds' := e ▸ h
theorem eda_nil : EvDA K tNil σ H [] := fun H1 _ _ q => q [] H1 (Ex.refl H1) .nil
theorem eda_cons {tr : TA} (h : EvD K te σ H d) (hr : EvDA K tr σ H ds) : EvDA K (tCons te tr) σ H (d :: ds) := fun H1 e _ q =>
  h H1 e _ fun v H2 e2 hd => hr H2 (e.trans e2) _ fun vs H3 e3 hv => q (v :: vs) H3 (e2.trans e3) (.cons (dp_ex e3 _ _ hd) hv)
theorem ed_tup {ta : TA} (h : EvDA K ta σ H ds) (hl : ds.length ≤ 100000) : EvD K (tTup ta) σ H (.tuple ds) := fun H1 e _ q =>
  h H1 e _ fun vs H2 e2 hv => ⟨sz_of (by rw [dpa_len hv]; exact hl), fun p hp => q (.ref p) _ (e2.trans (Ex.new hp)) (.tup (st_of upd_same) (dpa_ex (Ex.new hp) _ _ hv))⟩
theorem en_lst {ta : TA} (h : EvDA K ta σ H ds) (hl : ds.length ≤ 100000) : EvN K (tLst ta) σ H ds := fun H1 e _ q =>
  h H1 e _ fun vs H2 e2 hv => ⟨sz_of (by rw [dpa_len hv]; exact hl), fun p hp => q p vs _ (fresh_back e2 hp) (e2.trans (Ex.new hp)) upd_same (dpa_ex (Ex.new hp) _ _ hv)⟩
/-- t[i] -/
theorem ed_ixT {k : Nat} (h : EvD K ta σ H (.tuple ds)) (hi : Ev tb σ H (.int (k : Int))) (hk : ds[k]? = some d) : EvD K (tOp (rIxT K) ta tb) σ H d := fun H1 e Q q =>
  h H1 e _ fun w H2 e2 hw => hi H2 (e.trans e2) _ fun H3 e3 => by
    cases hw with
    | tup hs ha =>
      obtain ⟨y, hy, dy⟩ := dpa_get ha hk
      exact ⟨_, _, (k : Int), y, rfl, rfl, ex_t e3 hs, atI_nat hy, q y H3 (e2.trans e3) (dp_ex e3 _ _ dy)⟩
theorem ed_ixL {k : Nat} (h : EvD K ta σ H (.list ds)) (hi : Ev tb σ H (.int (k : Int))) (hk : ds[k]? = some d) : EvD K (tOp (rIxL K) ta tb) σ H d := fun H1 e Q q =>
  h H1 e _ fun w H2 e2 hw => hi H2 (e.trans e2) _ fun H3 e3 => by
    cases hw with
    | lst hs ha =>
      obtain ⟨y, hy, dy⟩ := dpa_get ha hk
      exact ⟨_, _, (k : Int), y, rfl, rfl, ex_l e3 hs, atI_nat hy, q y H3 (e2.trans e3) (dp_ex e3 _ _ dy)⟩
/-- len -/
theorem ev_lenT (h : EvD K te σ H (.tuple ds)) : Ev (tCB (fun xs H Q => ∃ p ys, xs = [.ref p] ∧ (SqL K H p ys ∨ SqT K H p ys) ∧ Q (.int ys.length) H) (tCons te tNil)) σ H (.int (ds.length : Int)) := fun H1 e Q q =>
  h H1 e _ fun w H2 e2 hw => by
    cases hw with
    | tup hs ha =>
      refine ⟨_, _, rfl, .inr hs, ?_⟩
      rw [dpa_len ha]
      exact q H2 e2
theorem ev_lenL (h : EvD K te σ H (.list ds)) : Ev (tCB (fun xs H Q => ∃ p ys, xs = [.ref p] ∧ (SqL K H p ys ∨ SqT K H p ys) ∧ Q (.int ys.length) H) (tCons te tNil)) σ H (.int (ds.length : Int)) := fun H1 e Q q =>
  h H1 e _ fun w H2 e2 hw => by
    cases hw with
    | lst hs ha =>
      refine ⟨_, _, rfl, .inl hs, ?_⟩
      rw [dpa_len ha]
      exact q H2 e2
/-- the promises: data in, data out; data in, a new list out -/
def spD (K : PySem.W.Frag) (n : Nat) (R : List PyData → PyData → Prop) : Sp := fun vs H Q _ => ∃ ds r, DpAll K H vs ds ∧ ds.length = n ∧ R ds r ∧ ∀ v H', Ex H H' → Dp K H' v r → Q v H'
def spN (K : PySem.W.Frag) (n : Nat) (R : List PyData → List PyData → Prop) : Sp := fun vs H Q _ => ∃ ds r, DpAll K H vs ds ∧ ds.length = n ∧ R ds r ∧ ∀ p ws H', H p = none → Ex H H' → H' p = some (.lst ws) → DpAll K H' ws r → Q (.ref p) H'
theorem spD_len {n : Nat} {R : List PyData → PyData → Prop} {vs : List V} {Q : VK} {E : XK} (h : spD K n R vs H Q E) : vs.length = n := by
  obtain ⟨ds, r, h1, h2, _⟩ := h
  rw [dpa_len h1, h2]
theorem spN_len {n : Nat} {R : List PyData → List PyData → Prop} {vs : List V} {Q : VK} {E : XK} (h : spN K n R vs H Q E) : vs.length = n := by
  obtain ⟨ds, r, h1, h2, _⟩ := h
  rw [dpa_len h1, h2]
theorem ed_call {n : Nat} {R : List PyData → PyData → Prop} {E : XK} {ta : TA} (h : EvDA K ta σ H ds) (hl : ds.length = n) (hr : R ds d) : EvD K (tCall (spD K n R) [] E ta) σ H d := fun H1 e Q q =>
  h H1 e _ fun vs H2 e2 hv => ⟨ds, d, by rw [List.append_nil]; exact hv, hl, hr, fun v H3 e3 hd => q v H3 (e2.trans e3) hd⟩
theorem en_call {n : Nat} {R : List PyData → List PyData → Prop} {r : List PyData} {E : XK} {ta : TA} (h : EvDA K ta σ H ds) (hl : ds.length = n) (hr : R ds r) : EvN K (tCall (spN K n R) [] E ta) σ H r := fun H1 e Q q =>
  h H1 e _ fun vs H2 e2 hv => ⟨ds, r, by rw [List.append_nil]; exact hv, hl, hr, fun p ws H3 hp e3 h3 hd => q p ws H3 (fresh_back e2 hp) (e2.trans e3) h3 hd⟩
/-! ### statements -/
variable {D : Ends} {tu tw tz : TS} {g : TG}
theorem d_asg {k : Nat} (h : EvD K te σ H d) (q : ∀ v H1, Ex H H1 → Dp K H1 v d → D.nx (σ.set k (some v)) H1) : tAsg te (gName k) D σ H := h H (Ex.refl H) _ q
theorem n_asg {k : Nat} (h : EvN K te σ H ds) (q : ∀ p vs H1, H p = none → Ex H H1 → H1 p = some (.lst vs) → DpAll K H1 vs ds → D.nx (σ.set k (some (.ref p))) H1) : tAsg te (gName k) D σ H := h H (Ex.refl H) _ q
theorem d_ret (h : EvD K te σ H d) (q : ∀ v H1, Ex H H1 → Dp K H1 v d → D.rt v H1) : tRet te D σ H := h H (Ex.refl H) _ q
theorem n_ret (h : EvN K te σ H ds) (q : ∀ p vs H1, H p = none → Ex H H1 → H1 p = some (.lst vs) → DpAll K H1 vs ds → D.rt (.ref p) H1) : tRet te D σ H := h H (Ex.refl H) _ q
theorem d_drop (h : EvD K te σ H d) (q : ∀ H1, Ex H H1 → D.nx σ H1) : tDrop te D σ H := h H (Ex.refl H) _ fun _ H1 e _ => q H1 e
/-- xs.append(e), e data that stays when the list at l changes (l is not known at H0) -/
theorem d_app {l : Addr} {xs : List V} (hl : H l = some (.lst xs)) (ha : Ev ta σ H (.ref l)) (h : EvD K te σ H d) (hz : xs.length < 100000) (q : ∀ v H1, Ex H H1 → Dp K H1 v d → D.nx σ (upd H1 l (.lst (xs ++ [v])))) :
    tDrop (tBM K "list" rAppend ta (tCons te tNil)) D σ H := ha H (Ex.refl H) _ fun H1 e1 =>
  ⟨Or.inl ⟨rfl, xs, sq_of (e1 l _ hl)⟩, h H1 e1 _ fun v H2 e2 hd => ⟨l, xs, v, rfl, rfl, e2 l _ (e1 l _ hl), sz_lt hz, q v H2 (e1.trans e2) hd⟩⟩
end
/-! ### data of tuples alone: no change of a list or a dict touches it -/
/-- tuples stay -/
def Tx (H H' : Hp) : Prop := ∀ a xs, Rd H a (.tup xs) → Rd H' a (.tup xs)
theorem Tx.of_ex {H H' : Hp} (e : Ex H H') : Tx H H' := fun _ _ h => ex_rd e h
theorem Tx.trans {H H1 H2 : Hp} (a : Tx H H1) (b : Tx H1 H2) : Tx H H2 := fun x o h => b x o (a x o h)
theorem Tx.refl (H : Hp) : Tx H H := fun _ _ h => h
theorem Tx.upd {H : Hp} {p : Addr} {o u : HO} (h : H p = some o) (n : ∀ xs, o ≠ .tup xs) (n2 : ∀ ob xs, o ≠ .frz ob (.tup xs)) : Tx H (upd H p u) := fun a xs r => by
  rcases r with r | ⟨ob, r⟩
  · have ne : a ≠ p := fun z => by
      rw [z, h] at r
      exact n xs (Option.some.inj r)
    exact Or.inl (by rw [upd_ne ne]; exact r)
  · have ne : a ≠ p := fun z => by
      rw [z, h] at r
      exact n2 ob xs (Option.some.inj r)
    exact Or.inr ⟨ob, by rw [upd_ne ne]; exact r⟩
theorem Tx.lst {H : Hp} {p : Addr} {xs : List V} {u : HO} (h : H p = some (.lst xs)) : Tx H (L2.upd H p u) := Tx.upd h (fun _ z => nomatch z) fun _ _ z => nomatch z
theorem Tx.dct {H : Hp} {p : Addr} {xs : List (Key × V)} {u : HO} (h : H p = some (.dK xs)) : Tx H (L2.upd H p u) := Tx.upd h (fun _ z => nomatch z) fun _ _ z => nomatch z
mutual
def imm : PyData → Bool
  | .none => true
  | .bool _ => true
  | .int _ => true
  | .str _ => true
  | .tuple ds => immAll ds
  | _ => false
def immAll : List PyData → Bool
  | [] => true
  | d :: ds => imm d && immAll ds
end
section
variable {K : PySem.W.Frag} {H H' : Hp}
theorem sqT_tx {a : Addr} {xs : List V} (e : Tx H H') (h : SqT K H a xs) : SqT K H' a xs := by
  rcases h with h | h
  · exact Or.inl (e _ _ h)
  · exact Or.inr h
mutual
theorem dp_tx (e : Tx H H') : ∀ (d : PyData) (v : V), imm d = true → Dp K H v d → Dp K H' v d
  | .none, _, _, h => by cases h; exact .non
  | .bool b, _, _, h => by cases h; exact .bl b
  | .int i, _, _, h => by cases h; exact .int i
  | .str x, _, _, h => by cases h; exact .str x
  | .list ds, _, i, h => by simp [imm] at i
  | .tuple ds, _, i, h => by
    cases h with
    | tup hs ha => exact .tup (sqT_tx e hs) (dpa_tx e ds _ (by simpa [imm] using i) ha)
  | .dict _, _, _, h => by cases h
theorem dpa_tx (e : Tx H H') : ∀ (ds : List PyData) (vs : List V), immAll ds = true → DpAll K H vs ds → DpAll K H' vs ds
  | [], _, _, h => by cases h; exact .nil
  | d :: ds, _, i, h => by
    simp only [immAll, Bool.and_eq_true] at i
    cases h with
    | cons h1 h2 => exact .cons (dp_tx e d _ i.1 h1) (dpa_tx e ds _ i.2 h2)
end
theorem immAll_ints : ∀ l : List Int, immAll (dI l) = true
  | [] => by simp [immAll]
  | i :: l => by
    rw [dI, List.map_cons, immAll, immAll_ints l]
    simp [imm]
theorem imm_tI (l : List Int) : imm (tI l) = true := by
  rw [imm]
  exact immAll_ints l
theorem immAll_tIs : ∀ l : List (List Int), immAll (l.map tI) = true
  | [] => by simp [immAll]
  | i :: l => by rw [List.map_cons, immAll, imm_tI, immAll_tIs l]; rfl
end
end DL
set_option Elab.async false
set_option linter.all false
set_option maxRecDepth 100000
set_option maxHeartbeats 2000000
/-! zip of a list or a tuple and a list or a tuple, in any mix: the pairs are new tuples -/
namespace DL
open PySem PySem.Spec PyProof.Rows L2 Evl

/-- a list or a tuple -/
def SqA (K : PySem.W.Frag) (t : Bool) (H : Hp) (a : Addr) (xs : List V) : Prop := if t then SqT K H a xs else SqL K H a xs
theorem sqa_l {K : PySem.W.Frag} {H : Hp} {a : Addr} {xs : List V} (h : SqL K H a xs) : SqA K false H a xs := h
theorem sqa_t {K : PySem.W.Frag} {H : Hp} {a : Addr} {xs : List V} (h : SqT K H a xs) : SqA K true H a xs := h
/-- the iterator over it, at the i-th turn -/
def ItA (t : Bool) (h : Heap) (it a : Addr) (vs : Array Value) (i : Nat) : Prop :=
  if t then h.IsTupleIter it a i ∧ h.IsTuple a vs else h.IsListIter it a i ∧ h.IsList a vs
theorem drawsA {prog : Program} {w : World} {A : Around} (hh : A.handled = none) (t : Bool) (it a : Addr) (hne : a ≠ it) (vs : Array Value) :
    Draws prog w A it [it, a] vs.size (fun i v => vs[i]? = some v) (fun i h => ItA t h it a vs i) := by
  cases t with
  | true => exact Draws.tuple hh it a hne vs
  | false => exact Draws.list hh it a hne vs
def objA (t : Bool) (a : Addr) : Obj := if t then { cls := .type "tuple_iterator", data := .fields #[.ref a, .int 0 0] } else { cls := .type "list_iterator", data := .fields #[.ref a, .int 0 0] }
def heldA (t : Bool) (a : Addr) (vs : Array Value) (h : Heap) : Prop := if t then h.IsTuple a vs else h.IsList a vs
theorem beginsA (t : Bool) (a : Addr) (vs : Array Value) : Begins (.ref a) (objA t a) (heldA t a vs) := by
  cases t with
  | true => exact begins_tuple a vs
  | false => exact begins_list a vs
theorem itA_new {t : Bool} {h : Heap} {it a : Addr} {vs : Array Value} (ho : h.get? it = some (objA t a)) (hv : heldA t a vs h) : ItA t h it a vs 0 := by
  cases t with
  | true => exact ⟨⟨_, ho, rfl, rfl⟩, hv⟩
  | false => exact ⟨⟨_, ho, rfl, rfl⟩, hv⟩
theorem heldA_kept {t : Bool} {h h' : Heap} {a : Addr} {vs : Array Value} (hv : heldA t a vs h) (k : ∀ o, h.get? a = some o → h'.get? a = some o) : heldA t a vs h' := by
  cases t with
  | true => exact Heap.IsTuple.at (show h.IsTuple a vs from hv) k
  | false => exact Heap.IsList.at (show h.IsList a vs from hv) k
theorem heldA_lt {t : Bool} {h : Heap} {a : Addr} {vs : Array Value} (hv : heldA t a vs h) : a < h.objs.size := by
  cases t with
  | true =>
    obtain ⟨o, ho, _⟩ := (show h.IsTuple a vs from hv)
    exact Heap.lt_size ho
  | false =>
    obtain ⟨o, ho, _⟩ := (show h.IsList a vs from hv)
    exact Heap.lt_size ho

/-- the walk of zip: what stands at a and b, their items in new pairs -/
def ItzM (K : PySem.W.Frag) (t u : Bool) (a b : Addr) : It :=
  ⟨fun i H => ∃ (xs ys : List V) (x y : V), SqA K t H a xs ∧ SqA K u H b ys ∧ xs[i]? = some x ∧ ys[i]? = some y,
    fun i H v H' => ∃ T x y, v = .ref T ∧ H T = none ∧ H' = upd H T (.tup [x, y]) ∧ (∀ xs, SqA K t H a xs → xs[i]? = some x) ∧ ∀ ys, SqA K u H b ys → ys[i]? = some y,
    fun i H => ∃ xs ys : List V, SqA K t H a xs ∧ SqA K u H b ys ∧ (xs.length = i ∧ i ≤ ys.length ∨ ys.length = i ∧ i ≤ xs.length)⟩
section
variable {X : Cx} {pins : List (Addr × Obj)} {σ : L2.St} {H : Hp} {s : Shared} {a b : Addr} {xs ys : List V} {t u : Bool}
theorem held_of (I : Inv X pins σ H s) (h : SqA X.K t H a xs) : ∃ its : List Value, Vals xs its ∧ heldA t a its.toArray s.heap := by
  cases t with
  | true =>
    obtain ⟨its, r, p, _⟩ := I.tuple (show SqT X.K H a xs from h)
    exact ⟨its, r, show s.heap.IsTuple a its.toArray from p⟩
  | false =>
    obtain ⟨its, r, p, _⟩ := I.list (show SqL X.K H a xs from h)
    exact ⟨its, r, p.isList⟩
theorem sqA_inj (I : Inv X pins σ H s) (h : SqA X.K t H a xs) (h' : SqA X.K t H a ys) : xs = ys := by
  cases t with
  | true => exact I.tuple_inj h h'
  | false => exact I.list_inj h h'
theorem held_inj {h : Heap} {vs ws : Array Value} (p : heldA t a vs h) (q : heldA t a ws h) : vs = ws := by
  cases t with
  | true =>
    obtain ⟨o, e, _, n, d⟩ := (show h.IsTuple a vs from p)
    obtain ⟨o', e', _, n', d'⟩ := (show h.IsTuple a ws from q)
    rw [e] at e'; cases e'
    rw [d] at d'
    injection d' with d1 _
  | false =>
    obtain ⟨o, e, _, n, d⟩ := (show h.IsList a vs from p)
    obtain ⟨o', e', _, n', d'⟩ := (show h.IsList a ws from q)
    rw [e] at e'; cases e'
    rw [d] at d'
    injection d' with d1 _
theorem itA_held {h : Heap} {it : Addr} {vs : Array Value} {i : Nat} (x : ItA t h it a vs i) : heldA t a vs h := by
  cases t with
  | true => exact x.2
  | false => exact x.2
theorem itA_obj {h : Heap} {it : Addr} {vs : Array Value} {i : Nat} (x : ItA t h it a vs i) : ∃ o fs, h.get? it = some o ∧ o.data = .fields fs := by
  cases t with
  | true => obtain ⟨⟨o, e, _, d⟩, _⟩ := x; exact ⟨o, _, e, d⟩
  | false => obtain ⟨⟨o, e, _, d⟩, _⟩ := x; exact ⟨o, _, e, d⟩
theorem itA_at {h h' : Heap} {it : Addr} {vs : Array Value} {i : Nat} (x : ItA t h it a vs i) (k : ∀ o, h.get? it = some o → h'.get? it = some o) (k2 : ∀ o, h.get? a = some o → h'.get? a = some o) : ItA t h' it a vs i := by
  cases t with
  | true => exact ⟨x.1.at k, Heap.IsTuple.at x.2 k2⟩
  | false => exact ⟨x.1.at k, Heap.IsList.at x.2 k2⟩
/-- the iterator's own place alone -/
def ItB (t : Bool) (h : Heap) (it a : Addr) (i : Nat) : Prop := if t then h.IsTupleIter it a i else h.IsListIter it a i
theorem itB_of {h : Heap} {it : Addr} {vs : Array Value} {i : Nat} (x : ItA t h it a vs i) : ItB t h it a i := by
  cases t with
  | true => exact x.1
  | false => exact x.1
theorem itA_of {h : Heap} {it : Addr} {vs : Array Value} {i : Nat} (x : ItB t h it a i) (y : heldA t a vs h) : ItA t h it a vs i := by
  cases t with
  | true => exact ⟨x, y⟩
  | false => exact ⟨x, y⟩
theorem itB_obj {h : Heap} {it : Addr} {i : Nat} (x : ItB t h it a i) : ∃ o fs, h.get? it = some o ∧ o.data = .fields fs := by
  cases t with
  | true => obtain ⟨o, e, _, d⟩ := x; exact ⟨o, _, e, d⟩
  | false => obtain ⟨o, e, _, d⟩ := x; exact ⟨o, _, e, d⟩
theorem itB_at {h h' : Heap} {it : Addr} {i : Nat} (x : ItB t h it a i) (k : ∀ o, h.get? it = some o → h'.get? it = some o) : ItB t h' it a i := by
  cases t with
  | true => exact Heap.IsTupleIter.at (show h.IsTupleIter it a i from x) k
  | false => exact Heap.IsListIter.at (show h.IsListIter it a i from x) k
end
/-- the cells of a zip and what it walks lie apart -/
theorem sep_of {z TI TO i1 i2 a b : Addr} (D : ZipApart z TI TO i1 i2 a b) : ZipSep2 z TI TO i1 i2 [i1, a] [i2, b] where
  TIz := D.TIz
  TOz := D.TOz
  TITO := D.TITO
  TIi1 := D.TIi1
  mem1 := by simp
  zf1 := by simp [D.i1z.symm, D.l1z.symm]
  Tf1 := by simp [D.TOi1, D.l1TO.symm]
  TIi2 := D.TIi2
  mem2 := by simp
  zf2 := by simp [D.i2z.symm, D.l2z.symm]
  Tf2 := by simp [D.TOi2, D.l2TO.symm]
  sep1_2 := by simp [D.i12, D.l2i1.symm]
  sep2_1 := by simp [D.i12.symm, D.l1i2.symm]
theorem five {z TI TO i1 i2 : Addr} {P : Addr → Prop} (h1 : P z) (h2 : P TI) (h3 : P TO) (h4 : P i1) (h5 : P i2) : ∀ c, c ∈ [z, TI, TO, i1, i2] → P c := fun c hc => by
  simp only [List.mem_cons, List.not_mem_nil, or_false] at hc
  rcases hc with rfl | rfl | rfl | rfl | rfl
  · exact h1
  · exact h2
  · exact h3
  · exact h4
  · exact h5
theorem turn_zipM {P : Program} {w : World} {K : PySem.W.Frag} {elts : List Expr} {kk : Nat} {tpos : Pos} {t u : Bool} {a b z TI TO i1 i2 : Addr} (D : ZipApart z TI TO i1 i2 a b) :
    Turn P w K (.Tuple elts kk tpos) (ItzM K t u a b) [z, TI, TO, i1, i2] z
      (fun i h => IsZip h z TI TO .none ∧ IsPair h TI (.ref i1) (.ref i2) ∧ (∃ x y, IsPair h TO x y) ∧ ItB t h i1 a i ∧ ItB u h i2 b i) where
  mem := by simp
  obj := fun i h st => by
    obtain ⟨hz, hTI, ⟨x, y, hTO⟩, h1, h2⟩ := st
    refine five ⟨_, hz, fun v q => nomatch q⟩ ⟨_, hTI, fun v q => nomatch q⟩ ⟨_, hTO, fun v q => nomatch q⟩ ?_ ?_
    · obtain ⟨o, fs, e, d⟩ := itB_obj h1
      exact ⟨o, e, fun v q => by rw [d] at q; cases q⟩
    · obtain ⟨o, fs, e, d⟩ := itB_obj h2
      exact ⟨o, e, fun v q => by rw [d] at q; cases q⟩
  keep := fun i h h' st k => by
    obtain ⟨hz, hTI, ⟨x, y, hTO⟩, h1, h2⟩ := st
    exact ⟨k z (by simp) _ hz, k TI (by simp) _ hTI, ⟨x, y, k TO (by simp) _ hTO⟩, itB_at h1 fun o q => k i1 (by simp) o q, itB_at h2 fun o q => k i2 (by simp) o q⟩
  item := by
    intro X hP hw hK hc i pins s σ H E I hf st hg
    subst hP hw hK
    obtain ⟨hz, hTI, ⟨x0, y0, hTO⟩, h1, h2⟩ := st
    obtain ⟨xs, ys, x, y, hqx, hqy, hx, hy⟩ := hg
    obtain ⟨its, rv, p⟩ := held_of I hqx
    obtain ⟨its2, rv2, p2⟩ := held_of I hqy
    obtain ⟨w1, hw1, rw1⟩ := rv.get hx
    obtain ⟨w2, hw2, rw2⟩ := rv2.get hy
    have l1 : i < its.toArray.size := by
      have := (List.getElem?_eq_some_iff.mp hw1).1
      simpa using this
    have l2 : i < its2.toArray.size := by
      have := (List.getElem?_eq_some_iff.mp hw2).1
      simpa using this
    have hh : X.A.in1.handled = none := I.ok.hd hc
    have hzl : z < s.heap.objs.size := Heap.lt_size hz
    refine wpAny_pyNext_zipD2_item (sep_of D) (drawsA hh t i1 a D.l1i1 its.toArray) (drawsA hh u i2 b D.l2i2 its2.toArray) hz hTI hTO (itA_of h1 p) (itA_of h2 p2) l1 l2 fun x1 x2 h' tk e1 e2 z' TO' s1 s2 hT hsz hk => ?_
    have ex1 : x1 = w1 := by
      have q := hw1
      rw [show its[i]? = some x1 by simpa using e1] at q
      exact Option.some.inj q
    have ex2 : x2 = w2 := by
      have q := hw2
      rw [show its2[i]? = some x2 by simpa using e2] at q
      exact Option.some.inj q
    subst ex1 ex2
    refine ⟨_, rfl, wpAny_letOwnedTupleGo_zip (s := { s with heap := h', toks := tk }) z' fun h'' z'' sb => ?_⟩
    have up : ∀ c o, c ≠ z → h'.get? c = some o → h''.get? c = some o := fun c o n q => (sb.2 c n).trans q
    have hT2 := up _ _ (Nat.ne_of_gt hzl) hT
    have new : ObjOk X.prog X.w (upd H s.heap.objs.size (.tup [x, y])) h'' s.heap.objs.size (.tup [x, y]) :=
      ⟨by show 2 ≤ sizeLine; decide, [x1, x2], .cons rw1 (.cons rw2 .nil), ⟨_, hT2, rfl, _, rfl⟩⟩
    have kk : ∀ c o, c ∉ [z, TI, TO, i1, i2] → s.heap.get? c = some o → h''.get? c = some o := fun c o nc q => by
      simp only [List.mem_cons, List.not_mem_nil, or_false, not_or] at nc
      exact up c o nc.1 (hk c o nc.1 nc.2.2.1 nc.2.2.2.1 nc.2.2.2.2 q)
    have I1 : Inv X pins σ (upd H s.heap.objs.size (.tup [x, y])) { s with heap := h'', toks := tk } := I.turnedNew (t' := tk) (ch := [z, TI, TO, i1, i2]) kk hf (Nat.le_refl _) new
    have hTI' : IsPair h'' TI (.ref i1) (.ref i2) := up _ _ D.TIz (hk _ _ D.TIz D.TITO D.TIi1 D.TIi2 hTI)
    refine ⟨.ref s.heap.objs.size, _, I1, rfl, ⟨_, x, y, rfl, I.hok.fresh (Nat.le_refl _), rfl, fun l hl => ?_, fun l hl => ?_⟩, ⟨z'', hTI', ⟨x1, x2, up _ _ D.TOz TO'⟩, ?_, ?_⟩, ?_⟩
    · rw [sqA_inj I hl hqx]
      exact hx
    · rw [sqA_inj I hl hqy]
      exact hy
    · exact itB_at (itB_of s1) fun o q => up _ o D.i1z q
    · exact itB_at (itB_of s2) fun o q => up _ o D.i2z q
    · have lt1 : i1 < s.heap.objs.size := by
        obtain ⟨o, _, e, _⟩ := itB_obj h1
        exact Heap.lt_size e
      have lt2 : i2 < s.heap.objs.size := by
        obtain ⟨o, _, e, _⟩ := itB_obj h2
        exact Heap.lt_size e
      have go : ∀ c, c < s.heap.objs.size → c ∈ [z, TI, TO, i1, i2] → upd H s.heap.objs.size (.tup [x, y]) c = none := fun c l m => by
        rw [upd_ne (Nat.ne_of_lt l)]
        exact (hf c m).1
      exact five (go _ hzl (by simp)) (go _ (Heap.lt_size hTI) (by simp)) (go _ (Heap.lt_size hTO) (by simp)) (go _ lt1 (by simp)) (go _ lt2 (by simp))
  done := by
    intro X hP hw hK hc i pins s σ H E I hf st hg
    subst hP hw hK
    obtain ⟨hz, hTI, ⟨x0, y0, hTO⟩, h1, h2⟩ := st
    obtain ⟨xs, ys, hqx, hqy, hend⟩ := hg
    obtain ⟨its, rv, p⟩ := held_of I hqx
    obtain ⟨its2, rv2, p2⟩ := held_of I hqy
    have n1 : its.toArray.size = xs.length := by rw [List.size_toArray, rv.length]
    have n2 : its2.toArray.size = ys.length := by rw [List.size_toArray, rv2.length]
    have hh : X.A.in1.handled = none := I.ok.hd hc
    refine wpAny_pyNext_zipD2_end (sep_of D) (drawsA hh t i1 a D.l1i1 its.toArray) (drawsA hh u i2 b D.l2i2 its2.toArray) hz hTI hTO (i := i) (itA_of h1 p) (itA_of h2 p2) (by omega) (by omega) (by omega) fun h' tk hk => ⟨rfl, ?_⟩
    refine I.turnedL (t' := tk) (ch := [z, TI, TO, i1, i2]) (fun c o nc q => ?_) hf
    simp only [List.mem_cons, List.not_mem_nil, or_false, not_or] at nc
    exact hk c o nc.1 nc.2.2.1 nc.2.2.2.1 nc.2.2.2.2 q
  self := fun A i s Q E st h => wpAny_pyIter_zip st.1 h

def iZipM (K : PySem.W.Frag) (t u : Bool) (ta : TA) : TI := fun σ H R => ta σ H fun vs H1 => ∃ a b xs ys, vs = [.ref a, .ref b] ∧ SqA K t H1 a xs ∧ SqA K u H1 b ys ∧ R (ItzM K t u a b) H1
theorem pi_zipM {X : Cx} {e e2 : Expr} {ta : TA} {p pos tpos : Pos} {elts : List Expr} {kk : Nat} (t u : Bool) (hg : Gl X "zip") (hm : X.mg "zip" = none) (ha : PA X [e, e2] ta)
    (hs : starEach [e, e2] X.env = (false, eval e X.env) :: starEach [e2] X.env := by rfl)
    (hpl : (backTo pos (starEach [e2] X.env)).any (·.1) = false := by rfl) :
    PI X (.Tuple elts kk tpos) (.Call (.Name "zip" p) [e, e2] [] pos) (iZipM X.K t u ta) := by
  refine ⟨fun pins s σ H R I h => ?_⟩
  refine Call_ (ld_blt I hg hm PyProof.Rows.boot_zip (PyProof.Rows.callWith_type1 (thn (ha.run pos pins s σ H _ I h) fun us s1 q0 => ?_) hs hpl))
  obtain ⟨vs, H1, I1, r1, a, b, xs, ys, rfl, hqx, hqy, q⟩ := q0
  obtain ⟨v1, v2, rfl, ra, rb⟩ := vals2 r1
  cases ra
  cases rb
  obtain ⟨its, rv, p1⟩ := held_of I1 hqx
  obtain ⟨its2, rv2, p2⟩ := held_of I1 hqy
  have fr : ∀ k, FpOk X pins H1 (s1.heap.objs.size + k) := fun k => I1.fpOk (Nat.le_add_right _ _) (I1.hok.fresh (Nat.le_add_right _ _))
  refine zip_begins2 (beginsA t a its.toArray) (beginsA u b its2.toArray) p1 p2 fun h' hz hTI hTO h1 h2 hsz hk => wpAny_pyIter_zip hz ?_
  have I2 : Inv X pins σ H1 { s1 with heap := h' } := I1.kept (t' := s1.toks) hk
  have b1 : ItB t h' s1.heap.objs.size a 0 := itB_of (itA_new (vs := its.toArray) h1 (heldA_kept p1 fun o e => hk a o e))
  have b2 : ItB u h' (s1.heap.objs.size + 1) b 0 := itB_of (itA_new (vs := its2.toArray) h2 (heldA_kept p2 fun o e => hk b o e))
  exact ⟨s1.heap.objs.size + 4, [s1.heap.objs.size + 4, s1.heap.objs.size + 2, s1.heap.objs.size + 3, s1.heap.objs.size, s1.heap.objs.size + 1], _, _, H1, rfl, I2,
    turn_zipM (PySem.W.ktu_apart s1.heap.objs.size a b (heldA_lt p1) (heldA_lt p2)), ⟨hz, hTI, ⟨_, _, hTO⟩, b1, b2⟩, five (fr 4) (fr 2) (fr 3) (fr 0) (fr 1), q⟩
theorem walk_zipM {K : PySem.W.Frag} {a b : Addr} {t u : Bool} {xs ys : List V} {n : Nat} (hn : n = min xs.length ys.length) :
    Walk (ItzM K t u a b) n (fun H => SqA K t H a xs ∧ SqA K u H b ys) (YPair (fun i => xs[i]?) (fun i => ys[i]?)) := by
  subst hn
  refine ⟨fun i _ hi q => ?_, fun _ q => ⟨xs, ys, q.1, q.2, by omega⟩, fun i H v H' _ q y => ?_⟩
  · have h1 : i < xs.length := by omega
    have h2 : i < ys.length := by omega
    exact ⟨xs, ys, xs[i], ys[i], q.1, q.2, List.getElem?_eq_getElem h1, List.getElem?_eq_getElem h2⟩
  · obtain ⟨T, x, z, h1, h2, h3, h4, h5⟩ := y
    exact ⟨T, x, z, h1, h2, h3, h4 xs q.1, h5 ys q.2⟩
end DL
set_option Elab.async false
set_option linter.all false
set_option maxRecDepth 100000
set_option maxHeartbeats 2000000
namespace DL
open PySem PySem.Spec PyProof.Rows L2 Evl

/-! ### what stays but for some lists -/
def Xp (S : List Addr) (H H' : Hp) : Prop := ∀ a o, H a = some o → a ∉ S → H' a = some o
theorem Xp.refl (S : List Addr) (H : Hp) : Xp S H H := fun _ _ h _ => h
theorem Xp.of_ex {S : List Addr} {H H' : Hp} (e : Ex H H') : Xp S H H' := fun a o h _ => e a o h
theorem Xp.to_ex {H H' : Hp} (e : Xp [] H H') : Ex H H' := fun a o h => e a o h (by simp)
theorem Xp.trans {S : List Addr} {H H1 H2 : Hp} (a : Xp S H H1) (b : Xp S H1 H2) : Xp S H H2 := fun x o h n => b x o (a x o h n) n
theorem Xp.then {S : List Addr} {H H1 H2 : Hp} (a : Xp S H H1) (b : Ex H1 H2) : Xp S H H2 := fun x o h n => b x o (a x o h n)
theorem Xp.upd {S : List Addr} {H H1 : Hp} {p : Addr} {o : HO} (a : Xp S H H1) (hp : p ∈ S) : Xp S H (L2.upd H1 p o) := fun x u h n => by
  rw [upd_ne (fun z : x = p => n (by rw [z]; exact hp))]
  exact a x u h n
/-- S holds lists alone -/
def Ls (H : Hp) (S : List Addr) : Prop := ∀ p ∈ S, ∃ l, H p = some (.lst l)
theorem Ls.nil (H : Hp) : Ls H [] := fun p hp => absurd hp (by simp)
theorem Ls.one {H : Hp} {p : Addr} {l : List V} (h : H p = some (.lst l)) : Ls H [p] := fun q hq => by
  have e : q = p := by simpa using hq
  exact ⟨l, e ▸ h⟩
theorem Ls.cons {H : Hp} {p : Addr} {S : List Addr} {l : List V} (h : H p = some (.lst l)) (r : Ls H S) : Ls H (p :: S) := fun q hq => by
  rcases List.mem_cons.mp hq with e | e
  · exact ⟨l, e ▸ h⟩
  · exact r q e
theorem Ls.ex {H H' : Hp} {S : List Addr} (h : Ls H S) (e : Ex H H') : Ls H' S := fun p hp => by
  obtain ⟨l, q⟩ := h p hp
  exact ⟨l, e p _ q⟩
theorem Xp.tx {S : List Addr} {H H' : Hp} (e : Xp S H H') (h : Ls H S) : Tx H H' := fun a xs r => by
  have n : ∀ o, H a = some o → (∀ l, o ≠ .lst l) → a ∉ S := fun o ho hn hs => by
    obtain ⟨l, q⟩ := h a hs
    rw [ho] at q
    exact hn l (Option.some.inj q)
  rcases r with r | ⟨ob, r⟩
  · exact Or.inl (e _ _ r (n _ r fun l z => nomatch z))
  · exact Or.inr ⟨ob, e _ _ r (n _ r fun l z => nomatch z)⟩

section
variable {K : PySem.W.Frag} {σ : L2.St} {H H' : Hp} {ta tb te : TE} {t u : TT} {d : PyData} {ds : List PyData} {v : V}
/-! ### what is walked, told as data -/
/-- n items ds; S: lists that may change meanwhile -/
def EvI (K : PySem.W.Frag) (wi : TI) (σ : L2.St) (H : Hp) (S : List Addr) (ds : List PyData) : Prop :=
  ∀ H1, Ex H H1 → ∀ R : It → Hp → Prop, (∀ J H2, Ex H1 H2 → Walk J ds.length (fun Ha => Xp S H2 Ha) (fun i Ha x Hb => Ex Ha Hb ∧ ∃ d, ds[i]? = some d ∧ Dp K Hb x d) → R J H2) → wi σ H1 R
theorem ei_ex {wi : TI} {S : List Addr} (e : Ex H H') (h : EvI K wi σ H S ds) : EvI K wi σ H' S ds := fun H1 a R q => h H1 (e.trans a) R q
theorem fresh_notin {S : List Addr} {p : Addr} (hS : Ls H S) (hp : H p = none) : p ∉ S := fun hs => by
  obtain ⟨l, q⟩ := hS p hs
  rw [hp] at q
  cases q
/-- a new list -/
theorem ei_new {S : List Addr} (hS : Ls H S) (h : EvN K te σ H ds) (hi : immAll ds = true) : EvI K (iList K te) σ H S ds := fun H1 e R q =>
  h H1 e _ fun p vs H2 hp e2 h2 hd => by
    refine ⟨p, rfl, ⟨vs, sq_of h2⟩, q _ H2 e2 ?_⟩
    have hn : p ∉ S := fresh_notin (hS.ex e) hp
    have hl := dpa_len hd
    rw [← hl]
    refine walk_list.mono (fun Ha x => sq_of (x p _ h2 hn)) fun i Ha x Hb hlt hg y => ?_
    obtain ⟨rfl, hx⟩ := y
    obtain ⟨d, hd1, hd2⟩ := dpa_getV (dpa_tx (hg.tx (hS.ex (e.trans e2))) _ _ hi hd) hx
    exact ⟨Ex.refl _, d, hd1, hd2⟩
/-- a list that stands -/
theorem ei_lst {S : List Addr} {q : Addr} {vs : List V} (hS : Ls H S) (h : Ev te σ H (.ref q)) (hq : H q = some (.lst vs)) (hn : q ∉ S) (hd : DpAll K H vs ds) (hi : immAll ds = true) : EvI K (iList K te) σ H S ds := fun H1 e R r =>
  h H1 e _ fun H2 e2 => by
    have h2 := e2 _ _ (e _ _ hq)
    refine ⟨q, rfl, ⟨vs, sq_of h2⟩, r _ H2 e2 ?_⟩
    rw [← dpa_len hd]
    refine walk_list.mono (fun Ha x => sq_of (x q _ h2 hn)) fun i Ha x Hb hlt hg y => ?_
    obtain ⟨rfl, hx⟩ := y
    obtain ⟨d, hd1, hd2⟩ := dpa_getV (dpa_tx (hg.tx (hS.ex (e.trans e2))) _ _ hi (dpa_ex (e.trans e2) _ _ hd)) hx
    exact ⟨Ex.refl _, d, hd1, hd2⟩
/-- a tuple -/
theorem ei_tup {S : List Addr} (hS : Ls H S) (h : EvD K te σ H (.tuple ds)) (hi : immAll ds = true) : EvI K (iTup K te) σ H S ds := fun H1 e R r =>
  h H1 e _ fun w H2 e2 hw => by
    cases hw with
    | tup hs ha =>
      refine ⟨_, rfl, ⟨_, hs⟩, r _ H2 e2 ?_⟩
      rw [← dpa_len ha]
      refine walk_tup.mono (fun Ha x => sqT_tx (x.tx (hS.ex (e.trans e2))) hs) fun i Ha x Hb hlt hg y => ?_
      obtain ⟨rfl, hx⟩ := y
      obtain ⟨d, hd1, hd2⟩ := dpa_getV (dpa_tx (hg.tx (hS.ex (e.trans e2))) _ _ hi ha) hx
      exact ⟨Ex.refl _, d, hd1, hd2⟩
/-- range -/
theorem rng_get {n : Nat} {f : Nat → PyData} {i : Nat} (h : i < n) : ((List.range n).map f)[i]? = some (f i) := by
  rw [List.getElem?_map, List.getElem?_range h]
  rfl
theorem ei_rng1 {S : List Addr} {ta : TA} {n : Int} (h : EvDA K ta σ H [.int n]) (hn : -(2 ^ 62) ≤ n ∧ n < 2 ^ 62) : EvI K (iRng1 ta) σ H S ((List.range n.toNat).map fun (i : Nat) => PyData.int (i : Int)) := fun H1 e R r =>
  h H1 e _ fun vs H2 e2 hv => by
    cases hv with
    | cons a b =>
      cases b
      cases a
      refine ⟨n, rfl, hn.1, hn.2, r _ H2 e2 ?_⟩
      rw [List.length_map, List.length_range]
      refine walk_range.mono (fun _ _ => trivial) fun i Ha x Hb hlt hg y => ?_
      obtain ⟨rfl, rfl⟩ := y
      refine ⟨Ex.refl _, _, rng_get hlt, ?_⟩
      show Dp K Hb (.int (0 + (i : Int))) (.int (i : Int))
      rw [Int.zero_add]
      exact .int _
theorem ei_rng2 {S : List Addr} {ta : TA} {m n : Int} (h : EvDA K ta σ H [.int m, .int n]) (hn : (-(2 ^ 62) ≤ m ∧ m < 2 ^ 62) ∧ -(2 ^ 62) ≤ n ∧ n < 2 ^ 62) : EvI K (iRng2 ta) σ H S ((List.range (n - m).toNat).map fun (i : Nat) => PyData.int (m + (i : Int))) := fun H1 e R r =>
  h H1 e _ fun vs H2 e2 hv => by
    cases hv with
    | cons a b =>
      cases b with
      | cons b c =>
        cases c
        cases a
        cases b
        refine ⟨m, n, rfl, ⟨hn.1.1, hn.1.2, hn.2.1, hn.2.2⟩, r _ H2 e2 ?_⟩
        rw [List.length_map, List.length_range]
        refine walk_range.mono (fun _ _ => trivial) fun i Ha x Hb hlt hg y => ?_
        obtain ⟨rfl, rfl⟩ := y
        exact ⟨Ex.refl _, _, rng_get hlt, .int _⟩
/-- range(m, e, -1) -/
theorem ei_rngD {S : List Addr} {ta : TA} {m n : Int} (h : EvDA K ta σ H [.int m, .int n, .int (-1)]) (hn : (-(2 ^ 61) ≤ m ∧ m < 2 ^ 61) ∧ -(2 ^ 61) ≤ n ∧ n < 2 ^ 61) (hr : RgC m n (-1) (m - n).toNat) :
    EvI K (iRng3 ta) σ H S ((List.range (m - n).toNat).map fun (i : Nat) => PyData.int (m - (i : Int))) := fun H1 e R r =>
  h H1 e _ fun vs H2 e2 hv => by
    cases hv with
    | cons a b =>
      cases b with
      | cons b c =>
        cases c with
        | cons c f =>
          cases f
          cases a
          cases b
          cases c
          refine ⟨m, n, -1, (m - n).toNat, rfl, hr, r _ H2 e2 ?_⟩
          rw [List.length_map, List.length_range]
          refine walk_rangeC.mono (fun _ _ => trivial) fun i Ha x Hb hlt hg y => ?_
          obtain ⟨rfl, rfl⟩ := y
          refine ⟨Ex.refl _, _, rng_get hlt, ?_⟩
          show Dp K Hb (.int (m + (i : Int) * (-1))) (.int (m - (i : Int)))
          rw [show m + (i : Int) * (-1) = m - (i : Int) by omega]
          exact .int _
/-! ### loops over it -/
variable {D : Ends} {tu tw tz : TS} {g : TG}
/-- a for: Pv of the heap at the start (all is evaluated), the turn, the slots, the heap -/
theorem d_for {wi : TI} {S : List Addr} (h : EvI K wi σ H S ds) (Pv : Hp → Nat → L2.St → Hp → Prop) (h0 : ∀ H2, Ex H H2 → Pv H2 0 σ H2) (hX : ∀ H2 i σ' Ha, i ≤ ds.length → Pv H2 i σ' Ha → Xp S H2 Ha)
    (hs : ∀ H2 i d x σ' Ha Hb, Ex H H2 → ds[i]? = some d → Pv H2 i σ' Ha → Ex Ha Hb → Dp K Hb x d → g x σ' Hb fun σ2 H3 => tu { D with nx := Pv H2 (i + 1), ct := Pv H2 (i + 1), bk := D.nx } σ2 H3)
    (hd : ∀ H2 σ' Ha, Ex H H2 → Pv H2 ds.length σ' Ha → D.nx σ' Ha) : tFor wi g tu D σ H := h H (Ex.refl H) _ fun J H2 e2 w =>
  for_it w (Pv H2) (h0 H2 e2) (fun i σ' Ha hi p => hX H2 i σ' Ha hi p) (fun i x σ' Ha Hb hlt p y => by
    obtain ⟨e, d, hd1, hd2⟩ := y
    exact hs H2 i d x σ' Ha Hb e2 hd1 p e hd2) fun σ' Ha p => hd H2 σ' Ha e2 p
theorem e_for {wi : TI} {S : List Addr} (h : EvI K wi σ H S ds) (Pv : Hp → Nat → L2.St → Hp → Prop) (h0 : ∀ H2, Ex H H2 → Pv H2 0 σ H2) (hX : ∀ H2 i σ' Ha, i ≤ ds.length → Pv H2 i σ' Ha → Xp S H2 Ha)
    (hs : ∀ H2 i d x σ' Ha Hb, Ex H H2 → ds[i]? = some d → Pv H2 i σ' Ha → Ex Ha Hb → Dp K Hb x d → g x σ' Hb fun σ2 H3 => tu { D with nx := Pv H2 (i + 1), ct := Pv H2 (i + 1), bk := tz D } σ2 H3)
    (hd : ∀ H2 σ' Ha, Ex H H2 → Pv H2 ds.length σ' Ha → tz D σ' Ha) : tSeq (tFor wi g tu) tz D σ H := d_for (D := { D with nx := tz D }) h Pv h0 hX hs hd
theorem gl_nil {Q : L2.St → Hp → Prop} : (fun (σ' : L2.St) H' => gNil [] σ' H' Q) = Q := by
  funext a b
  exact propext ⟨fun z => z.2, fun z => ⟨rfl, z⟩⟩
theorem gl_one {g2 : TG} {v : V} {Q : L2.St → Hp → Prop} : (fun (σ1 : L2.St) H1 => g2 v σ1 H1 Q) = fun σ1 H1 => gCons g2 gNil [v] σ1 H1 Q := by
  funext σ1 H1
  apply propext
  constructor
  · intro z
    refine ⟨v, [], rfl, ?_⟩
    rw [gl_nil]
    exact z
  · intro ⟨w, r, e, z⟩
    cases e
    rw [gl_nil] at z
    exact z
/-- targets: a name; a pair of targets; three -/
theorem g_two {g1 g2 : TG} {d1 d2 : PyData} {x : V} {Q : L2.St → Hp → Prop} (h : Dp K H x (.tuple [d1, d2])) (k : ∀ v1 v2, Dp K H v1 d1 → Dp K H v2 d2 → g1 v1 σ H fun σ1 H1 => g2 v2 σ1 H1 Q) :
    gTup K 2 (gCons g1 (gCons g2 gNil)) x σ H Q := by
  cases h with
  | tup hs ha =>
    cases ha with
    | cons a b =>
      cases b with
      | cons b c =>
        cases c
        refine ⟨_, _, rfl, hs, rfl, _, _, rfl, ?_⟩
        have q := k _ _ a b
        rw [gl_one] at q
        exact q
/-- a comprehension without a test -/
theorem en_lc {wi : TI} {vs : List Nat} (h : EvI K wi σ H [] ds) (hl : ds.length ≤ 50000) (f : Nat → PyData) (hi : ∀ i, i < ds.length → imm (f i) = true)
    (hs : ∀ H2 i d x Hb (Q : L2.St → Hp → Prop), Ex H H2 → ds[i]? = some d → Ex H2 Hb → Dp K Hb x d → (∀ σ2 H3, Ex Hb H3 → wipe σ2 vs = wipe σ vs → EvD K te σ2 H3 (f i) → Q σ2 H3) → g x (wipe σ vs) Hb Q) :
    EvN K (tLc wi g tYes te vs) σ H ((List.range ds.length).map f) := fun H1 e Q q => h H1 e _ fun J H2 e2 w => fun Dl hD => by
  have all : ∀ n, n ≤ ds.length → immAll ((List.range n).map f) = true := fun n => by
    induction n with
    | zero => intro _; simp [immAll]
    | succ n ih =>
      intro hn
      have app : ∀ (a b : List PyData), immAll a = true → immAll b = true → immAll (a ++ b) = true := fun a b ha hb => by
        induction a with
        | nil => exact hb
        | cons x a ih =>
          simp only [immAll, Bool.and_eq_true] at ha
          rw [List.cons_append, immAll, ha.1, ih ha.2]
          rfl
      rw [List.range_succ, List.map_append]
      exact app _ _ (ih (by omega)) (by simp [immAll, hi n (by omega)])
  refine lc_it w (fun n Ha => ∃ ws, Ex H2 Ha ∧ Ha Dl = some (.lst ws) ∧ DpAll K Ha ws ((List.range n).map f)) ⟨[], Ex.new hD, upd_same, by simp; exact .nil⟩ (fun n Ha _ p => by
    obtain ⟨ws, p1, _⟩ := p
    exact Xp.of_ex p1) (fun i x Ha Hb hlt p y => ?_) fun Ha p => ?_
  · obtain ⟨ws, p1, p2, p3⟩ := p
    obtain ⟨ey, d, hd1, hd2⟩ := y
    refine hs H2 i d x Hb _ (e.trans e2) hd1 (p1.trans ey) hd2 fun σ2 H3 e3 hw hv => ⟨hw, ?_⟩
    show te σ2 H3 _
    refine hv H3 (Ex.refl _) _ fun v H4 e4 hv4 => ⟨ws, e4 _ _ (e3 _ _ (ey _ _ p2)), ?_, ws ++ [v], ?_, upd_same, ?_⟩
    · have := dpa_len p3
      rw [List.length_map, List.length_range] at this
      exact sz_lt (by omega)
    · exact Ex.mut ((p1.trans ey).trans (e3.trans e4)) hD
    · have at4 : H4 Dl = some (.lst ws) := e4 _ _ (e3 _ _ (ey _ _ p2))
      rw [List.range_succ, List.map_append]
      refine dpa_app (dpa_tx (Tx.lst at4) _ _ (all i (by omega)) (dpa_ex ((ey.trans e3).trans e4) _ _ p3)) ?_
      exact .cons (dp_tx (Tx.lst at4) _ _ (hi i hlt) hv4) .nil
  · obtain ⟨ws, p1, p2, p3⟩ := p
    exact q Dl ws Ha (fresh_back e2 hD) (e2.trans p1) p2 p3
end
end DL
set_option Elab.async false
set_option linter.all false
set_option maxRecDepth 100000
set_option maxHeartbeats 2000000
namespace DL
open PySem PySem.Spec PyProof.Rows L2 Evl

/-! ### defs that are called by name -/
structure DF (P : Program) (w : World) (K : PySem.W.Frag) (mg : Str → Option Value) (base : Heap) (nm : Str) (k : Nat) (ps : List Str) (sp : Sp) : Prop where
  ex : ∃ (f : Addr) (fd : FuncData), FnOk P w K mg base CX0 k f fd ps sp ∧ mg nm = some (.ref f) ∧ PySem.W.keepIn K (.ref f) = true ∧ Binds K fd ps []
theorem pe_D {X : Cx} {nm : Str} {k : Nat} {ps : List Str} {sp : Sp} {e : Expr} {es : List Expr} {t : TA} {p pos : Pos} (F : DF X.prog X.w X.K X.mg X.base nm k ps sp) (hr : Room k X.A) (hg : Gl X nm) (ha : PA X (e :: es) t)
    (hdb : (nm == ("__debug__" : Str)) = false := by decide) (he : starEach (e :: es) X.env = (false, eval e X.env) :: starEach es X.env := by rfl) (hpl : (backTo pos (starEach es X.env)).any (·.1) = false := by rfl) :
    PE X (.Call (.Name nm p) (e :: es) [] pos) (tCall sp [] E0 t) := by
  obtain ⟨f, fd, h1, h2, h3, h4⟩ := F.ex
  exact pe_call h1 hr hg h2 h3 h4 .nil pass0 ha hdb he hpl

/-! ### a list's item, read to be changed -/
def rGetL (K : PySem.W.Frag) : V → V → Hp → VK → Prop := fun o i H Q => ∃ p xs v, ∃ j : Nat, o = .ref p ∧ i = .int (j : Int) ∧ SqL K H p xs ∧ xs[j]? = some v ∧ Q v H
theorem get_list {X : Cx} : PGet X (rGetL X.K) := fun pins s σ H o i ov iv Q I r1 r2 h => by
  obtain ⟨p, xs, v, j, rfl, rfl, hs, hv, q⟩ := h
  obtain ⟨its, rv, pl, hz⟩ := I.list hs
  cases r1
  obtain ⟨t, rfl⟩ := r2
  obtain ⟨u, hu, ru⟩ := rv.get hv
  have hj := (List.getElem?_eq_some_iff.mp hv).1
  have hn := line63
  refine wpAny_getItem_list pl.isList (by omega) (by omega) (x := u) (by simpa using hu) ⟨v, H, I, ru, q⟩

/-! ### max of a tuple of ints -/
section
variable {prog : Program} {w : World} {A : Around} {E : Value → Shared → Prop} {s : Shared} {l : Addr} {its : List Value} {ns : List Int} {Q : Value → Shared → Prop}
theorem max_rawT (hh : A.handled = none) (hl : s.heap.IsTuple l its.toArray) (hi : IntsAre its ns) (hne : 0 < ns.length)
    (h : ∀ h' tk M t', (∀ b o, s.heap.get? b = some o → h'.get? b = some o) → M ∈ ns → (∀ a, a ∈ ns → a ≤ M) → Q (.int M t') { s with heap := h', toks := tk }) :
    wpAny (model prog w) A (call (.builtin "max") [.ref l]) Q E s := by
  have len : its.length = ns.length := hi.length
  have at_ : ∀ (i : Nat) v, its.toArray[i]? = some v → ∃ t, v = .int (ns.getD i 0) t := fun i v hv => by
    have hv' : its[i]? = some v := by simpa using hv
    have go : ∀ {us : List Value} {ms : List Int}, IntsAre us ms → ∀ {i : Nat} {v : Value}, us[i]? = some v → ∃ t, v = .int (ms.getD i 0) t := by
      intro us ms hh
      induction hh with
      | nil => intro i v e; simp at e
      | cons n t _ ih =>
        intro i v e
        cases i with
        | zero => exact ⟨t, by simpa using e.symm⟩
        | succ i =>
          obtain ⟨t', q⟩ := ih (i := i) (v := v) (by simpa using e)
          exact ⟨t', by simpa using q⟩
    exact go hi hv'
  have hlt : l < s.heap.objs.size := by
    obtain ⟨o, ho, _⟩ := hl
    exact Heap.lt_size ho
  refine call_max_walk (wpAny_pyIter_tuple hl ?_)
  refine ⟨s.heap.objs.size, _, _, _, _, _, _, rfl, Walks.tuple (A := A.in1) hh _ l (Nat.ne_of_lt hlt) its.toArray, ⟨⟨_, Heap.get?_push_size _ rfl, rfl, rfl⟩, Heap.IsTuple.push hl _⟩, fun b hb => ?_, ?_, CmpOf.ints_gt (fun i => ns.getD i 0) at_, fun v h' tk hv hk => ?_⟩
  · show b < (s.heap.push _).objs.size
    rw [Heap.size_push]
    simp only [List.mem_cons, List.not_mem_nil, or_false] at hb
    rcases hb with e | e
    · rw [e]; exact Nat.lt_succ_self _
    · rw [e]; exact Nat.lt_succ_of_lt hlt
  · rw [List.size_toArray, len]
    exact hne
  · obtain ⟨t, rfl⟩ := at_ _ _ hv
    obtain ⟨h1, h2⟩ := argBest_gt (fun i => ns.getD i 0) (its.toArray.size - 1)
    have e1 : its.toArray.size = ns.length := by rw [List.size_toArray, len]
    refine h h' tk _ t (fun b o e => hk b o (fun hm => ?_) (Heap.get?_push_of_some _ e)) ?_ fun a ha => ?_
    · have := Heap.lt_size e
      simp only [List.mem_cons, List.not_mem_nil, or_false] at hm
      rw [hm] at this
      exact Nat.lt_irrefl _ this
    · exact PySem.getD_mem (by omega)
    · obtain ⟨j, hj, rfl⟩ := List.getElem_of_mem ha
      have q := h2 j (by omega)
      have ej : ns.getD j 0 = ns[j] := by rw [List.getD_eq_getElem?_getD, List.getElem?_eq_getElem hj]; rfl
      rw [ej] at q
      exact q
end
section
variable {X : Cx}
def rMaxT (K : PySem.W.Frag) : List V → Hp → VK → Prop := fun vs H Q => ∃ (a : Addr) (ns : List Int), vs = [V.ref a] ∧ SqT K H a (ns.map V.int) ∧ 0 < ns.length ∧ ∀ m, m ∈ ns → (∀ y, y ∈ ns → y ≤ m) → Q (.int m) H
theorem cr_maxT (hc : X.calm = true) : CallR X (.builtin "max") (rMaxT X.K) := by
  intro pins s σ H vs us Q I r h
  obtain ⟨a, ns, rfl, hs, hne, q⟩ := h
  obtain ⟨its, rv, hl, _⟩ := I.tuple hs
  rw [Vals.ref1 r]
  exact max_rawT (I.ok.hd hc) (show s.heap.IsTuple a its.toArray from hl) rv.ints hne fun h' tk m t' hk h1 h2 => ⟨.int _, H, I.kept hk, ⟨_, rfl⟩, q m h1 h2⟩
end
end DL
set_option Elab.async false
set_option linter.all false
set_option maxRecDepth 100000
set_option maxHeartbeats 2000000
namespace DL
open PySem PySem.Spec PyProof.Rows L2 Evl
section
variable {K : PySem.W.Frag} {σ : L2.St} {H H' : Hp} {ta tb te : TE} {t u : TT} {d : PyData} {ds es : List PyData} {v : V} {ns : List Int}
/-- a list that is tracked -/
def EvQ (K : PySem.W.Frag) (te : TE) (σ : L2.St) (H : Hp) (ds : List PyData) : Prop := ∀ H1, Ex H H1 → ∀ Q : VK, (∀ p vs H2, Ex H1 H2 → H2 p = some (.lst vs) → DpAll K H2 vs ds → Q (.ref p) H2) → te σ H1 Q
theorem EvN.toQ (h : EvN K te σ H ds) : EvQ K te σ H ds := fun H1 e Q q => h H1 e Q fun p vs H2 _ e2 h2 hd => q p vs H2 e2 h2 hd
theorem EvQ.toD (h : EvQ K te σ H ds) : EvD K te σ H (.list ds) := fun H1 e Q q => h H1 e Q fun p vs H2 e2 h2 hd => q _ H2 e2 (.lst (sq_of h2) hd)
theorem EvQ.ex (e : Ex H H') (h : EvQ K te σ H ds) : EvQ K te σ H' ds := fun H1 a Q q => h H1 (e.trans a) Q q
theorem eq_var {k : Nat} {p : Addr} {vs : List V} (h : σ[k]? = some (some (.ref p))) (hp : H p = some (.lst vs)) (hd : DpAll K H vs ds) : EvQ K (tVar k) σ H ds := fun H1 e Q q =>
  ⟨.ref p, h, q p vs H1 (Ex.refl _) (e _ _ hp) (dpa_ex e _ _ hd)⟩
theorem eq_is {ds' : List PyData} (h : EvQ K te σ H ds) (e : ds = ds') : EvQ K te σ H ds' := e ▸ h

/-! ### max, min, sum -/
theorem ev_maxL {m : Int} (h : EvD K te σ H (.list (dI ns))) (h0 : 0 < ns.length) (hm : m ∈ ns) (hb : ∀ y, y ∈ ns → y ≤ m) : Ev (tCB (rMax K) (tCons te tNil)) σ H (.int m) := fun H1 e Q q =>
  h H1 e _ fun w H2 e2 hw => by
    cases hw with
    | lst hs ha =>
      rw [dpa_ints ha] at hs
      refine ⟨_, ns, rfl, hs, h0, fun m' h1 h2 => ?_⟩
      rw [show m' = m from Int.le_antisymm (hb _ h1) (h2 _ hm)]
      exact q H2 e2
theorem ev_maxT {m : Int} (h : EvD K te σ H (tI ns)) (h0 : 0 < ns.length) (hm : m ∈ ns) (hb : ∀ y, y ∈ ns → y ≤ m) : Ev (tCB (rMaxT K) (tCons te tNil)) σ H (.int m) := fun H1 e Q q =>
  h H1 e _ fun w H2 e2 hw => by
    obtain ⟨a, rfl, hs⟩ := dp_tI hw
    refine ⟨a, ns, rfl, hs, h0, fun m' h1 h2 => ?_⟩
    rw [show m' = m from Int.le_antisymm (hb _ h1) (h2 _ hm)]
    exact q H2 e2
theorem ev_sumL (h : EvD K te σ H (.list (dI ns))) : Ev (tCB (rSum K) (tCons te tNil)) σ H (.int ns.sum) := fun H1 e Q q =>
  h H1 e _ fun w H2 e2 hw => by
    cases hw with
    | lst hs ha =>
      rw [dpa_ints ha] at hs
      exact ⟨_, ns, rfl, hs, q H2 e2⟩
theorem ev_min2 {i j : Int} (ha : Ev ta σ H (.int i)) (hb : Ev tb σ H (.int j)) : Ev (tCB (fun xs H Q => ∃ i j, xs = [.int i, .int j] ∧ Q (.int (if j < i then j else i)) H) (tCons ta (tCons tb tNil))) σ H (.int (min i j)) := fun H1 e Q q =>
  ha H1 e _ fun H2 e2 => hb H2 (e.trans e2) _ fun H3 e3 => ⟨i, j, rfl, by
    have : (if j < i then j else i) = min i j := by
      by_cases h : j < i
      · rw [if_pos h]; omega
      · rw [if_neg h]; omega
    rw [this]
    exact q H3 (e2.trans e3)⟩

/-! ### joining, repeating, cutting -/
theorem en_cat (ha : EvQ K ta σ H ds) (hb : EvQ K tb σ H es) (hl : ds.length + es.length ≤ 100000) : EvN K (tOp rCat ta tb) σ H (ds ++ es) := fun H1 e Q q =>
  ha H1 e _ fun p vs H2 e2 hp hd => hb H2 (e.trans e2) _ fun r ws H3 e3 hr he => ⟨p, r, vs, ws, rfl, rfl, e3 _ _ hp, hr, sz_of (by rw [dpa_len hd, dpa_len he]; exact hl), fun l hl =>
    q l _ _ (fresh_back (e2.trans e3) hl) ((e2.trans e3).trans (Ex.new hl)) upd_same (dpa_ex (Ex.new hl) _ _ (dpa_app (dpa_ex e3 _ _ hd) he))⟩
theorem en_rep {n : Int} (ha : EvQ K ta σ H [d]) (hb : Ev tb σ H (.int n)) (hn : n ≤ 100000) (hn0 : -100000 ≤ n) : EvN K (tOp rRep ta tb) σ H (List.replicate n.toNat d) := fun H1 e Q q =>
  ha H1 e _ fun p vs H2 e2 hp hd => hb H2 (e.trans e2) _ fun H3 e3 => by
    cases hd with
    | cons a b =>
      cases b
      rename_i v
      have hz : ([v] : List V).length * n.toNat ≤ 100000 := by simp; omega
      refine ⟨p, n, [v], rfl, rfl, e3 _ _ hp, by omega, by omega, sz_of hz, fun l hl => ?_⟩
      have ef : (List.replicate n.toNat [v]).flatten = List.replicate n.toNat v := by
        induction n.toNat with
        | zero => rfl
        | succ k ih => rw [List.replicate_succ, List.flatten_cons, ih, List.replicate_succ]; rfl
      rw [ef]
      exact q l _ _ (fresh_back (e2.trans e3) hl) ((e2.trans e3).trans (Ex.new hl)) upd_same (dpa_rep (dp_ex ((e3).trans (Ex.new hl)) _ _ a) _)
theorem ed_cat (ha : EvD K ta σ H (.tuple ds)) (hb : EvD K tb σ H (.tuple es)) (hl : ds.length + es.length ≤ 100000) : EvD K (tOp (rCatA K) ta tb) σ H (.tuple (ds ++ es)) := fun H1 e Q q =>
  ha H1 e _ fun x H2 e2 hx => hb H2 (e.trans e2) _ fun y H3 e3 hy => by
    cases hx with
    | tup h1 a1 =>
      cases hy with
      | tup h2 a2 =>
        have n1 := dpa_len a1
        have n2 := dpa_len a2
        refine ⟨_, _, _, _, rfl, rfl, ex_t e3 h1, h2, sz_of (by omega), fun e0 => ?_, fun _ e0 => ?_, fun _ _ l hl => ?_⟩
        · subst e0
          cases a1
          exact q _ H3 (e2.trans e3) (.tup h2 a2)
        · subst e0
          cases a2
          rw [List.append_nil] at q
          exact q _ H3 (e2.trans e3) (.tup (ex_t e3 h1) (dpa_ex e3 _ _ a1))
        · exact q _ _ ((e2.trans e3).trans (Ex.new hl)) (.tup (st_of upd_same) (dpa_ex (Ex.new hl) _ _ (dpa_app (dpa_ex e3 _ _ a1) a2)))
def cutD (ds : List PyData) (lo hi : Option Int) : List PyData := (ds.drop (HT.sIx ds.length 0 lo)).take (HT.sIx ds.length ds.length hi - HT.sIx ds.length 0 lo)
theorem dpa_cut {vs : List V} {lo hi : Option Int} (h : DpAll K H vs ds) : DpAll K H (cutV vs lo hi) (cutD ds lo hi) := by
  unfold cutV cutD
  rw [dpa_len h]
  exact dpa_take _ (dpa_drop _ h)
theorem ed_sl {tl th : TO} {lo hi : Option Int} (h : EvD K te σ H (.tuple ds)) (h1 : EvO tl σ H lo) (h2 : EvO th σ H hi) : EvD K (tSl (rSlA K) te tl th) σ H (.tuple (cutD ds lo hi)) := fun H1 e Q q =>
  h H1 e _ fun x H2 e2 hx => h1 H2 (e.trans e2) _ fun H3 e3 => h2 H3 ((e.trans e2).trans e3) _ fun H4 e4 => by
    cases hx with
    | tup hs ha =>
      have n1 := dpa_len ha
      refine ⟨_, _, rfl, ex_t (e3.trans e4) hs, fun hw => ?_, fun _ l hl => ?_⟩
      · have ec : cutD ds lo hi = ds := by
          unfold cutD
          rw [← n1, hw.1, hw.2, n1]
          simp
        rw [ec] at q
        exact q _ H4 ((e2.trans e3).trans e4) (.tup (ex_t (e3.trans e4) hs) (dpa_ex (e3.trans e4) _ _ ha))
      · exact q _ _ (((e2.trans e3).trans e4).trans (Ex.new hl)) (.tup (st_of upd_same) (dpa_ex ((e3.trans e4).trans (Ex.new hl)) _ _ (dpa_cut ha)))
theorem en_sl {tl th : TO} {lo hi : Option Int} (h : EvD K te σ H (.list ds)) (h1 : EvO tl σ H lo) (h2 : EvO th σ H hi) : EvN K (tSl (rSlL K) te tl th) σ H (cutD ds lo hi) := fun H1 e Q q =>
  h H1 e _ fun x H2 e2 hx => h1 H2 (e.trans e2) _ fun H3 e3 => h2 H3 ((e.trans e2).trans e3) _ fun H4 e4 => by
    cases hx with
    | lst hs ha =>
      refine ⟨_, _, rfl, ex_l (e3.trans e4) hs, fun l hl => ?_⟩
      exact q _ _ _ (fresh_back ((e2.trans e3).trans e4) hl) (((e2.trans e3).trans e4).trans (Ex.new hl)) upd_same (dpa_ex ((e3.trans e4).trans (Ex.new hl)) _ _ (dpa_cut ha))
theorem en_rev (h : EvD K te σ H (.list ds)) : EvN K (tRevL K te) σ H ds.reverse := fun H1 e Q q =>
  h H1 e _ fun x H2 e2 hx => by
    cases hx with
    | lst hs ha => exact ⟨_, _, rfl, hs, fun l hl => q _ _ _ (fresh_back e2 hl) (e2.trans (Ex.new hl)) upd_same (dpa_ex (Ex.new hl) _ _ (dpa_rev ha))⟩
/-- tuple(x), list(x) -/
theorem ed_tupleOf (h : EvD K te σ H (.list ds)) : EvD K (tCB (fun xs H Q => ∃ p ys, xs = [.ref p] ∧ ((SqL K H p ys ∧ ∀ l, H l = none → Q (.ref l) (upd H l (.tup ys))) ∨ (SqT K H p ys ∧ Q (.ref p) H))) (tCons te tNil)) σ H (.tuple ds) := fun H1 e Q q =>
  h H1 e _ fun x H2 e2 hx => by
    cases hx with
    | lst hs ha => exact ⟨_, _, rfl, .inl ⟨hs, fun l hl => q _ _ (e2.trans (Ex.new hl)) (.tup (st_of upd_same) (dpa_ex (Ex.new hl) _ _ ha))⟩⟩
theorem en_listOf (h : EvD K te σ H (.list ds)) : EvN K (tCB (fun xs H Q => ∃ p ys, xs = [.ref p] ∧ (SqL K H p ys ∨ SqT K H p ys) ∧ ∀ l, H l = none → Q (.ref l) (upd H l (.lst ys))) (tCons te tNil)) σ H ds := fun H1 e Q q =>
  h H1 e _ fun x H2 e2 hx => by
    cases hx with
    | lst hs ha => exact ⟨_, _, rfl, .inl hs, fun l hl => q _ _ _ (fresh_back e2 hl) (e2.trans (Ex.new hl)) upd_same (dpa_ex (Ex.new hl) _ _ ha)⟩
/-! ### tests -/
theorem ev_eqD {e1 e2 : PyData} (ha : EvD K ta σ H e1) (hb : EvD K tb σ H e2) (h1 : SeqAt.shaped e1 = true) (h2 : SeqAt.shaped e2 = true) : Ev (tOp (rEqD K) ta tb) σ H (.bl (PyData.eqv e1 e2)) := fun H1 e Q q =>
  ha H1 e _ fun x H2 e2' hx => hb H2 (e.trans e2') _ fun y H3 e3 hy => ⟨_, _, dp_ex e3 _ _ hx, hy, h1, h2, q H3 (e2'.trans e3)⟩
theorem eqvAll_ints : ∀ a b : List Int, PyData.eqvAll (dI a) (dI b) = decide (a = b)
  | [], [] => by simp [PyData.eqvAll]
  | [], _ :: _ => by simp [PyData.eqvAll]
  | _ :: _, [] => by simp [PyData.eqvAll]
  | x :: a, y :: b => by
    have ih := eqvAll_ints a b
    rw [dI, dI, List.map_cons, List.map_cons, PyData.eqvAll, ih, PyData.eqv]
    by_cases h : x = y
    · subst h; simp
    · simp [h]
theorem eqv_tI (a b : List Int) : PyData.eqv (tI a) (tI b) = decide (a = b) := by
  rw [PyData.eqv]
  exact eqvAll_ints a b
theorem canLay_ints : ∀ a : List Int, PyData.canLayAll0 (dI a) = true
  | [] => by simp [PyData.canLayAll0]
  | x :: a => by simp [PyData.canLayAll0, PyData.canLay0, canLay_ints a]
theorem depth_ints : ∀ a : List Int, PyData.depthAll (dI a) ≤ 1
  | [] => by simp [PyData.depthAll]
  | x :: a => by
    have h := depth_ints a
    rw [dI] at h
    rw [dI, List.map_cons, PyData.depthAll]
    simp only [PyData.depth]
    omega
theorem shaped_tI (a : List Int) : SeqAt.shaped (tI a) = true := by
  have h := depth_ints a
  show ((tI a).canLay0 && decide ((tI a).depth ≤ 64)) = true
  rw [Bool.and_eq_true]
  refine ⟨by rw [PyData.canLay0]; exact canLay_ints a, decide_eq_true ?_⟩
  rw [PyData.depth]
  omega
def isNoneD : PyData → Bool
  | .none => true
  | _ => false
theorem ev_isN {b : Bool} (ha : EvD K ta σ H d) (hb : b = isNoneD d) : Ev (tIsN ta) σ H (.bl b) := fun H1 e Q q =>
  ha H1 e _ fun x H2 e2 hx => by
    have : decide (x = V.non) = b := by
      rw [hb]
      cases hx <;> simp [isNoneD]
    rw [this]
    exact q H2 e2
theorem ev_notN {b : Bool} (ha : EvD K ta σ H d) (hb : b = !isNoneD d) : Ev (tNotN ta) σ H (.bl b) := fun H1 e Q q =>
  ha H1 e _ fun x H2 e2 hx => by
    have : (!decide (x = V.non)) = b := by
      rw [hb]
      cases hx <;> simp [isNoneD]
    rw [this]
    exact q H2 e2
/-- isinstance of an int, a bool, a tuple, a list -/
theorem ev_isi_int {nm : String} {b : Bool} {i : Int} (ha : Ev ta σ H (.int i)) (hb : kitB "int" nm = some b) : Ev (tCB (rIsi K) (tCons ta (tCons (tC (.ty nm)) tNil))) σ H (.bl b) := fun H1 e Q q =>
  ha H1 e _ fun H2 e2 => ⟨_, _, _, _, b, rfl, .ty nm, .base (.int i), kit_ty hb, q H2 e2⟩
theorem tyT {H : Hp} {a : Addr} {xs : List V} (h : SqT K H a xs) : TyX K H (.ref a) (.type "tuple") := by
  rcases h with (h | ⟨o, h⟩) | ⟨o, its, n, hk, hc, _⟩
  · exact .base (.tup h)
  · exact .fTuple h
  · exact .kTuple hk hc
theorem tyL {H : Hp} {a : Addr} {xs : List V} (h : SqL K H a xs) : TyX K H (.ref a) (.type "list") := by
  rcases h with (h | ⟨o, h⟩) | ⟨o, its, n, hk, hc, _⟩
  · exact .base (.lst h)
  · exact .base (.frz h)
  · exact .kList hk hc
theorem ev_isi_tup {nm : String} {b : Bool} (ha : EvD K ta σ H (.tuple ds)) (hb : kitB "tuple" nm = some b) : Ev (tCB (rIsi K) (tCons ta (tCons (tC (.ty nm)) tNil))) σ H (.bl b) := fun H1 e Q q =>
  ha H1 e _ fun x H2 e2 hx => by
    cases hx with
    | tup hs _ => exact ⟨_, _, _, _, b, rfl, .ty nm, tyT hs, kit_ty hb, q H2 e2⟩
/-- isinstance(x, (list, tuple)), x a list -/
theorem ev_isi_lst2 (ha : EvD K ta σ H (.list ds)) (h1 : kitB "list" "list" = some true) : Ev (tCB (rIsiT K) (tCons ta (tCons (tTup (tCons (tC (.ty "list")) (tCons (tC (.ty "tuple")) tNil))) tNil))) σ H (.bl true) := fun H1 e Q q =>
  ha H1 e _ fun x H2 e2 hx => by
    cases hx with
    | lst hs _ =>
      refine ⟨by show 2 ≤ sizeLine; decide, fun p hp => ?_⟩
      refine ⟨_, p, [.ty "list", .ty "tuple"], .type "list", [.type "list", .type "tuple"], true, rfl, upd_same, .cons (.ty _) (.cons (.ty _) .nil), tyL (ex_l (Ex.new hp) hs), ?_, q _ (e2.trans (Ex.new hp))⟩
      exact kitAny_cons (b := true) (kit_ty h1) (fun z => by cases z) fun _ => rfl
/-- a <= b <= c of ints -/
theorem ev_chain {f g : Int → Int → Bool} {tc : TE} {x y z : Int} (ha : Ev ta σ H (.int x)) (hb : Ev tb σ H (.int y)) (hc : Ev tc σ H (.int z)) :
    Ev (tChain (rI0 fun i j => .bl (f i j)) (rI0 fun i j => .bl (g i j)) ta tb tc) σ H (.bl (f x y && g y z)) := fun H1 e Q q =>
  ha H1 e _ fun H2 e2 => hb H2 (e.trans e2) _ fun H3 e3 => ⟨x, y, rfl, rfl, f x y, rfl, by
    cases h : f x y with
    | true =>
      show tc σ H3 _
      refine hc H3 ((e.trans e2).trans e3) _ fun H4 e4 => ⟨y, z, rfl, rfl, ?_⟩
      have := q H4 ((e2.trans e3).trans e4)
      rw [h, Bool.true_and] at this
      exact this
    | false =>
      show Q (.bl false) H3
      have := q H3 (e2.trans e3)
      rw [h, Bool.false_and] at this
      exact this⟩
/-- a list's truth -/
theorem et_lst (h : EvD K te σ H (.list ds)) : EvT (fun σ H Q => te σ H fun x H' => ∃ k, TruV K x H' k ∧ Q k H') σ H (!ds.isEmpty) := fun H1 e Q q =>
  h H1 e _ fun x H2 e2 hx => by
    cases hx with
    | lst hs ha =>
      refine ⟨_, .inl ⟨_, hs, rfl⟩, ?_⟩
      have : (!(List.isEmpty ‹List V›)) = !ds.isEmpty := by
        have n := dpa_len ha
        cases ds with
        | nil => rw [List.eq_nil_of_length_eq_zero n]; rfl
        | cons a b =>
          cases ‹List V› with
          | nil => simp at n
          | cons c d => rfl
      rw [this]
      exact q H2 e2
/-! ### arguments taken apart -/
theorem dpa_one {vs : List V} (h : DpAll K H vs [d]) : ∃ v, vs = [v] ∧ Dp K H v d := by
  cases h with
  | cons a b =>
    cases b
    exact ⟨_, rfl, a⟩
theorem dpa_two {vs : List V} {d2 : PyData} (h : DpAll K H vs [d, d2]) : ∃ v v2, vs = [v, v2] ∧ Dp K H v d ∧ Dp K H v2 d2 := by
  cases h with
  | cons a b =>
    obtain ⟨v, rfl, c⟩ := dpa_one b
    exact ⟨_, _, rfl, a, c⟩
theorem dpa_three {vs : List V} {d2 d3 : PyData} (h : DpAll K H vs [d, d2, d3]) : ∃ v v2 v3, vs = [v, v2, v3] ∧ Dp K H v d ∧ Dp K H v2 d2 ∧ Dp K H v3 d3 := by
  cases h with
  | cons a b =>
    obtain ⟨v, v2, rfl, c, c2⟩ := dpa_two b
    exact ⟨_, _, _, rfl, a, c, c2⟩
theorem dpa_four {vs : List V} {d2 d3 d4 : PyData} (h : DpAll K H vs [d, d2, d3, d4]) : ∃ v v2 v3 v4, vs = [v, v2, v3, v4] ∧ Dp K H v d ∧ Dp K H v2 d2 ∧ Dp K H v3 d3 ∧ Dp K H v4 d4 := by
  cases h with
  | cons a b =>
    obtain ⟨v, v2, v3, rfl, c, c2, c3⟩ := dpa_three b
    exact ⟨_, _, _, _, rfl, a, c, c2, c3⟩
/-- a tuple of ints, an int -/
theorem dpa_ti {vs : List V} {i : Int} (h : DpAll K H vs [d, .int i]) : ∃ v v1, vs = [v, v1] ∧ Dp K H v d ∧ v1 = .int i := by
  obtain ⟨v, v1, rfl, a, b⟩ := dpa_two h
  exact ⟨v, v1, rfl, a, dp_int b⟩
/-- an int, a tuple -/
theorem dpa_it {vs : List V} {i : Int} (h : DpAll K H vs [.int i, d]) : ∃ v, vs = [.int i, v] ∧ Dp K H v d := by
  obtain ⟨v, v1, rfl, a, b⟩ := dpa_two h
  cases dp_int a
  exact ⟨v1, rfl, b⟩
theorem dpa_iti {vs : List V} {i j : Int} (h : DpAll K H vs [.int i, d, .int j]) : ∃ v, vs = [.int i, v, .int j] ∧ Dp K H v d := by
  obtain ⟨v, v1, v2, rfl, a, b, c⟩ := dpa_three h
  cases dp_int a
  cases dp_int c
  exact ⟨v1, rfl, b⟩
theorem decide_vint (a b : Int) : decide (V.int a = V.int b) = decide (a = b) := by
  by_cases h : a = b
  · subst h; simp
  · simp [h]
/-- what is handed back is told by what holds of it -/
def spX (K : PySem.W.Frag) (n : Nat) (Pre : List PyData → Prop) (Post : List PyData → PyData → Prop) : Sp := fun vs H Q _ => ∃ ds, DpAll K H vs ds ∧ ds.length = n ∧ Pre ds ∧ ∀ r v H', Post ds r → Ex H H' → Dp K H' v r → Q v H'
theorem spX_len {n : Nat} {Pre : List PyData → Prop} {Post : List PyData → PyData → Prop} {vs : List V} {Q : VK} {E : XK} (h : spX K n Pre Post vs H Q E) : vs.length = n := by
  obtain ⟨ds, h1, h2, _⟩ := h
  rw [dpa_len h1, h2]
end
end DL
set_option Elab.async false
set_option linter.all false
set_option maxRecDepth 100000
set_option maxHeartbeats 2000000
namespace DL
open PySem PySem.Spec PyProof.Rows L2 Evl
theorem immAll_app : ∀ {a b : List PyData}, immAll a = true → immAll b = true → immAll (a ++ b) = true
  | [], _, _, h => h
  | x :: a, b, ha, hb => by
    simp only [immAll, Bool.and_eq_true] at ha
    rw [List.cons_append, immAll, ha.1, immAll_app ha.2 hb]
    rfl
theorem immAll_map {α : Type} {f : α → PyData} (h : ∀ a, imm (f a) = true) : ∀ l : List α, immAll (l.map f) = true
  | [] => by simp [immAll]
  | a :: l => by rw [List.map_cons, immAll, h a, immAll_map h l]; rfl
theorem immAll_flat {α : Type} {f : α → List PyData} (h : ∀ a, immAll (f a) = true) : ∀ l : List α, immAll (l.flatMap f) = true
  | [] => by simp [immAll]
  | a :: l => by rw [List.flatMap_cons]; exact immAll_app (h a) (immAll_flat h l)
section
variable {K : PySem.W.Frag} {σ : L2.St} {H H' : Hp} {ta tb te : TE} {t u : TT} {d : PyData} {ds es : List PyData} {v : V} {ns : List Int}
/-- two fors, their targets names, the items ints and tuples -/
theorem en_lc2 {wi wi1 : TI} {a b : Nat} {vs vs1 : List Nat} (h : EvI K wi σ H [] ds) (hi : immAll ds = true) (ds1 : Nat → List PyData) (hi1 : ∀ i, immAll (ds1 i) = true) (f : Nat → Nat → PyData) (hf : ∀ i j, imm (f i j) = true)
    (hl : ∀ i, (ds1 i).length ≤ 100) (hn : ds.length ≤ 100) (hw : ∀ x, wipe ((wipe σ vs).set a (some x)) vs = wipe σ vs)
    (hw1 : ∀ x y, wipe ((wipe ((wipe σ vs).set a (some x)) vs1).set b (some y)) vs1 = wipe ((wipe σ vs).set a (some x)) vs1)
    (hs : ∀ i d x H3, ds[i]? = some d → Dp K H3 x d → (∀ S, Ls H3 S → EvI K wi1 ((wipe σ vs).set a (some x)) H3 S (ds1 i)) ∧
      ∀ j d' y H5, (ds1 i)[j]? = some d' → Dp K H5 x d → Dp K H5 y d' → EvD K te ((wipe ((wipe σ vs).set a (some x)) vs1).set b (some y)) H5 (f i j)) :
    EvN K (tLc2 wi (gName a) tYes wi1 (gName b) tYes te vs vs1) σ H ((List.range ds.length).flatMap fun i => (List.range (ds1 i).length).map (f i)) := fun H1 e Q q => h H1 e _ fun J H2 e2 w => fun Dl hD => by
  have len : ∀ n, n ≤ ds.length → (((List.range n).flatMap fun i => (List.range (ds1 i).length).map (f i))).length ≤ 100 * n := fun n => by
    induction n with
    | zero => intro _; simp
    | succ n ih =>
      intro hn
      rw [List.range_succ, List.flatMap_append, List.length_append]
      have h1 := ih (by omega)
      have h2 := hl n
      rw [List.flatMap_cons, List.flatMap_nil, List.append_nil, List.length_map, List.length_range]
      omega
  have imf : ∀ n, immAll ((List.range n).flatMap fun i => (List.range (ds1 i).length).map (f i)) = true := fun n => immAll_flat (fun i => immAll_map (hf i) _) _
  let G : Nat → Hp → Prop := fun n Ha => ∃ ws, Ex H2 Ha ∧ Ha Dl = some (.lst ws) ∧ DpAll K Ha ws ((List.range n).flatMap fun i => (List.range (ds1 i).length).map (f i))
  have G0 : G 0 (upd H2 Dl (.lst [])) := ⟨[], Ex.new hD, upd_same, by simp; exact .nil⟩
  refine ⟨fun i m Ha => m = ds.length - i ∧ i ≤ ds.length ∧ G i Ha, ⟨_, rfl, Nat.zero_le _, G0⟩, ?_⟩
  rintro i m Ha ⟨rfl, hi', p⟩
  obtain ⟨ws, p1, p2, p3⟩ := p
  have gX : Xp [] H2 Ha := Xp.of_ex p1
  by_cases hlt : i < ds.length
  · refine .inr ⟨w.goes i Ha hlt gX, G (i + 1), fun H' p' => ⟨ds.length - (i + 1), by omega, rfl, hlt, p'⟩, fun x Hb y => ?_⟩
    obtain ⟨ey, d, hd1, hd2⟩ := w.yields i Ha x Hb hlt gX y
    refine ⟨hw x, ?_⟩
    show wi1 _ Hb _
    have di : imm d = true := by
      have all : ∀ {l : List PyData} {i : Nat} {d : PyData}, immAll l = true → l[i]? = some d → imm d = true := by
        intro l
        induction l with
        | nil => intro i d _ e; simp at e
        | cons x l ih =>
          intro i d hh e
          simp only [immAll, Bool.and_eq_true] at hh
          cases i with
          | zero => simp at e; subst e; exact hh.1
          | succ i => exact ih hh.2 (by simpa using e)
      exact all hi hd1
    obtain ⟨hq1, hq2⟩ := hs i d x Hb hd1 hd2
    have atB : Hb Dl = some (.lst ws) := ey _ _ p2
    refine hq1 [Dl] (Ls.one atB) Hb (Ex.refl _) _ fun J1 H4 e4 w1 => ?_
    let G1 : Nat → Hp → Prop := fun j Hc => ∃ wt, Xp [Dl] H4 Hc ∧ Ex H2 Hc ∧ Hc Dl = some (.lst wt) ∧ DpAll K Hc wt (((List.range i).flatMap fun i => (List.range (ds1 i).length).map (f i)) ++ (List.range j).map (f i))
    have e24 : Ex H2 H4 := (p1.trans ey).trans e4
    have G10 : G1 0 H4 := ⟨ws, Xp.refl _ _, e24, e4 _ _ atB, by simp; exact dpa_ex (ey.trans e4) _ _ p3⟩
    have tx4 : ∀ {Hc}, Xp [Dl] H4 Hc → Tx H4 Hc := fun z => z.tx ((Ls.one atB).ex e4)
    refine ⟨fun j k Hc => k = (ds1 i).length - j ∧ j ≤ (ds1 i).length ∧ G1 j Hc, ⟨_, rfl, Nat.zero_le _, G10⟩, ?_⟩
    rintro j k Hc ⟨rfl, hj, wt, r1, r2, r3, r4⟩
    by_cases hjt : j < (ds1 i).length
    · refine .inr ⟨w1.goes j Hc hjt r1, G1 (j + 1), fun H' p' => ⟨(ds1 i).length - (j + 1), by omega, rfl, hjt, p'⟩, fun y2 Hd yy => ?_⟩
      obtain ⟨ez, d', hd1', hd2'⟩ := w1.yields j Hc y2 Hd hjt r1 yy
      refine ⟨hw1 x y2, ?_⟩
      show te _ Hd _
      have tx : Tx Hb Hd := ((Tx.of_ex e4).trans (tx4 r1)).trans (Tx.of_ex ez)
      refine hq2 j d' y2 Hd hd1' (dp_tx tx _ _ di hd2) hd2' Hd (Ex.refl _) _ fun v7 H7 e7 hv => ⟨wt, e7 _ _ (ez _ _ r3), ?_, wt ++ [v7], ?_, ?_, upd_same, ?_⟩
      · have l1 := dpa_len r4
        have l2 := len i (by omega)
        have l3 := hl i
        rw [List.length_append, List.length_map, List.length_range] at l1
        exact sz_lt (by omega)
      · exact Xp.upd (Xp.then r1 (ez.trans e7)) (by simp)
      · exact Ex.mut ((r2.trans ez).trans e7) hD
      · have at7 : H7 Dl = some (.lst wt) := e7 _ _ (ez _ _ r3)
        rw [List.range_succ (n := j), List.map_append, ← List.append_assoc]
        refine dpa_app (dpa_tx (Tx.lst at7) _ _ (immAll_app (imf i) (immAll_map (hf i) _)) (dpa_ex (ez.trans e7) _ _ r4)) ?_
        exact .cons (dp_tx (Tx.lst at7) _ _ (hf i j) hv) .nil
    · have ej : j = (ds1 i).length := by omega
      subst ej
      refine .inl ⟨w1.stops Hc r1, wt, r2, r3, ?_⟩
      rw [List.range_succ, List.flatMap_append]
      simpa using r4
  · have ei : i = ds.length := by omega
    subst ei
    exact .inl ⟨w.stops Ha gX, q Dl ws Ha (fresh_back e2 hD) (e2.trans p1) p2 p3⟩
end
/-- a statement, then the rest -/
theorem q_asgD {t1 t2 : TS} {D : Ends} {σ : L2.St} {H : Hp} (h : t1 { D with nx := t2 D } σ H) : tSeq t1 t2 D σ H := h
section
variable {K : PySem.W.Frag} {σ : L2.St} {H H' : Hp} {ta tb te : TE} {d : PyData} {ds : List PyData} {D : Ends} {tz : TS}
theorem qd_asg {k : Nat} (h : EvD K te σ H d) (q : ∀ v H1, Ex H H1 → Dp K H1 v d → tz D (σ.set k (some v)) H1) : tSeq (tAsg te (gName k)) tz D σ H := h H (Ex.refl H) _ q
theorem qn_asg {k : Nat} (h : EvN K te σ H ds) (q : ∀ p vs H1, H p = none → Ex H H1 → H1 p = some (.lst vs) → DpAll K H1 vs ds → tz D (σ.set k (some (.ref p))) H1) : tSeq (tAsg te (gName k)) tz D σ H := h H (Ex.refl H) _ q
theorem qi_asg {k : Nat} {v : V} (h : Ev te σ H v) (q : ∀ H1, Ex H H1 → tz D (σ.set k (some v)) H1) : tSeq (tAsg te (gName k)) tz D σ H := h H (Ex.refl H) _ q
theorem qd_drop (h : EvD K te σ H d) (q : ∀ H1, Ex H H1 → tz D σ H1) : tSeq (tDrop te) tz D σ H := h H (Ex.refl H) _ fun _ H1 e _ => q H1 e
theorem qd_app {l : Addr} {xs : List V} (hl : H l = some (.lst xs)) (ha : Ev ta σ H (.ref l)) (h : EvD K te σ H d) (hz : xs.length < 100000) (q : ∀ v H1, Ex H H1 → Dp K H1 v d → tz D σ (upd H1 l (.lst (xs ++ [v])))) :
    tSeq (tDrop (tBM K "list" rAppend ta (tCons te tNil))) tz D σ H := d_app (D := { D with nx := tz D }) hl ha h hz q
end
/-! ### a tuple times 1 and more -/
theorem tuple_mul1 (l : Addr) (items : Array Value) (n : Nat) (dd : Option Addr) (sl : Array (Option Value)) (u : Tok) :
    Meets (Builtin.«tuple.__mul__» ⟨[.ref l, .int 1 u], []⟩) (fun _ R s => s.heap.get? l = some { cls := .type "tuple", dict := dd, data := .seq items n, slots := sl } ∧ R (.ok (.ret (Value.ref l))) s) :=
  .of_wp fun prog w A R s h => by
    obtain ⟨hp, g, d, tk, os⟩ := s
    obtain ⟨hl, h⟩ := h
    have f1 := AutoSeq1.idx_int
    have c0 : (decide ((1 : Int) < -(2 ^ 63)) || decide ((1 : Int) ≥ 2 ^ 63)) = false := by decide
    have c1 : (items.isEmpty || ((1 : Int) == 1)) = true := by simp
    wp_walk using AutoSeq1.wpAny_loadPart' hl
    repeat (first
      | (refine wpAny_ite_false (decide_eq_false (by rw [c0]; exact Bool.false_ne_true)) ?_; wp_walk using AutoSeq1.wpAny_loadPart' hl)
      | (refine wpAny_ite_true (decide_eq_true c1) ?_; wp_walk using AutoSeq1.wpAny_loadPart' hl))
    exact ⟨_, rfl, h⟩
def rMul1 (K : PySem.W.Frag) : R2 := fun x y H Q => ∃ l xs, x = .ref l ∧ y = .int 1 ∧ SqT K H l xs ∧ Q (.ref l) H
theorem op_mul1 {X : Cx} : OpR X (binaryOp .Mult) (rMul1 X.K) := by
  intro pins s σ H x y v u Q I rx ry h
  obtain ⟨l, xs, rfl, rfl, hT, q⟩ := h
  cases rx
  obtain ⟨t, rfl⟩ := ry
  obtain ⟨its, r, ⟨⟨cls, dd, data, sl⟩, ho, hc, n, hd⟩, hs⟩ := I.tuple hT
  simp only at hc hd
  subst hc hd
  exact wpAny_binaryOp_repeat_ref (T := "tuple") (U := "int") (by decide) ⟨_, ho, rfl⟩ (fun s' => typeIs_int s' 1 t) noFill_tuple_mul F.fills_int_mul F.slot_int_rmul repeat_tuple
    F.slot_int_index.lookup (call_meets F.slot_int_rmul (typeIs_int s 1 t) F.entry_int_rmul (F.args_int_rmul_2 _ _) (int_rmul_tuple 1 t l its.toArray n dd sl)
      ⟨ho, rfl, ⟨_, ho, rfl⟩, call_meets F.slot_tuple_mul ⟨_, ho, rfl⟩ F.entry_tuple_mul (F.args_tuple_mul_2 _ _) (tuple_mul1 l its.toArray n dd sl t) ⟨ho, ⟨.ref l, H, I, rfl, q⟩⟩⟩)
theorem op_repT1 {X : Cx} : OpR X (binaryOp .Mult) (fun x y H Q => rMul1 X.K x y H Q ∨ rRepT X.K x y H Q) := OpR.or op_mul1 op_repT
section
variable {K : PySem.W.Frag} {σ : L2.St} {H H' : Hp} {ta tb te : TE} {d : PyData}
theorem ed_rep1 {n : Int} (ha : EvD K ta σ H (.tuple [d])) (hb : Ev tb σ H (.int n)) (h1 : 1 ≤ n) (h2 : n ≤ 1000) : EvD K (tOp (fun x y H Q => rMul1 K x y H Q ∨ rRepT K x y H Q) ta tb) σ H (.tuple (List.replicate n.toNat d)) := fun H1 e Q q =>
  ha H1 e _ fun x H2 e2 hx => hb H2 (e.trans e2) _ fun H3 e3 => by
    cases hx with
    | tup hs hd =>
      cases hd with
      | cons a b =>
        cases b
        rename_i v
        by_cases hn : n = 1
        · subst hn
          exact .inl ⟨_, _, rfl, rfl, ex_t e3 hs, q _ H3 (e2.trans e3) (.tup (ex_t e3 hs) (.cons (dp_ex e3 _ _ a) .nil))⟩
        · refine .inr ⟨_, n, _, rfl, rfl, ex_t e3 hs, by simp, by omega, h2, by simp, fun l hl => ?_⟩
          have ef : (List.replicate n.toNat [v]).flatten = List.replicate n.toNat v := by
            induction n.toNat with
            | zero => rfl
            | succ k ih => rw [List.replicate_succ, List.flatten_cons, ih, List.replicate_succ]; rfl
          rw [ef]
          exact q _ _ ((e2.trans e3).trans (Ex.new hl)) (.tup (st_of upd_same) (dpa_rep (dp_ex (e3.trans (Ex.new hl)) _ _ a) _))
end
end DL
set_option Elab.async false
set_option linter.all false
set_option maxRecDepth 100000
set_option maxHeartbeats 2000000
namespace DL
open PySem PySem.Spec PyProof.Rows L2 Evl
section
variable {K : PySem.W.Frag} {σ : L2.St} {H H' : Hp} {ta tb te : TE} {d : PyData} {ds es : List PyData} {D : Ends} {tz : TS}
theorem g_three {g1 g2 g3 : TG} {d1 d2 d3 : PyData} {x : V} {Q : L2.St → Hp → Prop} (h : Dp K H x (.tuple [d1, d2, d3])) (k : ∀ v1 v2 v3, Dp K H v1 d1 → Dp K H v2 d2 → Dp K H v3 d3 → g1 v1 σ H fun σ1 H1 => g2 v2 σ1 H1 fun σ2 H2 => g3 v3 σ2 H2 Q) :
    gTup K 3 (gCons g1 (gCons g2 (gCons g3 gNil))) x σ H Q := by
  cases h with
  | tup hs ha =>
    cases ha with
    | cons a b =>
      cases b with
      | cons b c =>
        cases c with
        | cons c f =>
          cases f
          rename_i v1 v2 v3
          refine ⟨_, _, rfl, hs, rfl, v1, [v2, v3], rfl, ?_⟩
          have q := k v1 v2 v3 a b c
          have e : (fun σ1 H1 => g2 v2 σ1 H1 fun σ2 H2 => g3 v3 σ2 H2 Q) = fun σ1 H1 => gCons g2 (gCons g3 gNil) [v2, v3] σ1 H1 Q := by
            funext σ1 H1
            apply propext
            rw [gl_one]
            exact ⟨fun z => ⟨v2, [v3], rfl, z⟩, fun ⟨w, r, e, z⟩ => by cases e; exact z⟩
          rw [← e]
          exact q
/-- a, b = e; a, b, c = e -/
theorem qd_unp2 {a b : Nat} {d1 d2 : PyData} (h : EvD K te σ H (.tuple [d1, d2])) (k : ∀ v1 v2 H1, Ex H H1 → Dp K H1 v1 d1 → Dp K H1 v2 d2 → tz D ((σ.set a (some v1)).set b (some v2)) H1) :
    tSeq (tAsg te (gTup K 2 (gCons (gName a) (gCons (gName b) gNil)))) tz D σ H := h H (Ex.refl _) _ fun v H1 e hv => g_two hv fun v1 v2 h1 h2 => k v1 v2 H1 e h1 h2
theorem qd_unp3 {a b c : Nat} {d1 d2 d3 : PyData} (h : EvD K te σ H (.tuple [d1, d2, d3])) (k : ∀ v1 v2 v3 H1, Ex H H1 → Dp K H1 v1 d1 → Dp K H1 v2 d2 → Dp K H1 v3 d3 → tz D (((σ.set a (some v1)).set b (some v2)).set c (some v3)) H1) :
    tSeq (tAsg te (gTup K 3 (gCons (gName a) (gCons (gName b) (gCons (gName c) gNil))))) tz D σ H := h H (Ex.refl _) _ fun v H1 e hv => g_three hv fun v1 v2 v3 h1 h2 h3 => k v1 v2 v3 H1 e h1 h2 h3
/-- a list that is read and stays meanwhile -/
theorem ei_lstD (h : EvD K te σ H (.list ds)) (hi : immAll ds = true) : EvI K (iList K te) σ H [] ds := fun H1 e R r =>
  h H1 e _ fun w H2 e2 hw => by
    cases hw with
    | lst hs ha =>
      refine ⟨_, rfl, ⟨_, hs⟩, r _ H2 e2 ?_⟩
      rw [← dpa_len ha]
      refine walk_list.mono (fun Ha x => ex_l x.to_ex hs) fun i Ha x Hb hlt hg y => ?_
      obtain ⟨rfl, hx⟩ := y
      obtain ⟨d, hd1, hd2⟩ := dpa_getV (dpa_ex hg.to_ex _ _ ha) hx
      exact ⟨Ex.refl _, d, hd1, hd2⟩
theorem sqL_xp {p q : Addr} {vs : List V} {H1 Ha : Hp} (h : SqL K H q vs) (hp : H p = none) (e : Ex H H1) (x : Xp [p] H1 Ha) : SqL K Ha q vs := by
  have at_ : ∀ o, H q = some o → Ha q = some o := fun o ho => x q o (e q o ho) (fun hm => by
    have : q = p := by simpa using hm
    rw [this, hp] at ho
    cases ho)
  rcases h with (h | ⟨o, h⟩) | h
  · exact .inl (.inl (at_ _ h))
  · exact .inl (.inr ⟨o, at_ _ h⟩)
  · exact .inr h
/-- zip of two lists that are read -/
theorem ei_zipLL {es : List PyData} (ha : EvD K ta σ H (.list ds)) (hb : EvD K tb σ H (.list es)) (hi : immAll ds = true) (hj : immAll es = true) :
    EvI K (iZipM K false false (tCons ta (tCons tb tNil))) σ H [] (List.zipWith (fun x y => PyData.tuple [x, y]) ds es) := fun H1 e R r =>
  ha H1 e _ fun x H2 e2 hx => hb H2 (e.trans e2) _ fun y H3 e3 hy => by
    cases hx with
    | @lst a1 xs1 _ hs1 ha1 =>
      cases hy with
      | @lst a2 xs2 _ hs2 ha2 =>
        have hs1 := ex_l e3 hs1
        have ha1 := dpa_ex e3 _ _ ha1
        refine ⟨_, _, _, _, rfl, sqa_l hs1, sqa_l hs2, r _ H3 (e2.trans e3) ?_⟩
        rw [List.length_zipWith, ← dpa_len ha1, ← dpa_len ha2]
        have w := walk_zipM (K := K) (a := a1) (b := a2) (xs := xs1) (ys := xs2) (t := false) (u := false) (n := min xs1.length xs2.length) rfl
        refine (w.mono (fun Ha x => ⟨ex_l x.to_ex hs1, ex_l x.to_ex hs2⟩) fun i Ha v Hb hlt hg y => ?_)
        obtain ⟨T, v1, v2, rfl, hT, rfl, g1, g2⟩ := y
        obtain ⟨d1, q1, q2⟩ := dpa_getV (dpa_ex (hg.to_ex.trans (Ex.new hT)) _ _ ha1) g1
        obtain ⟨d2, q3, q4⟩ := dpa_getV (dpa_ex (hg.to_ex.trans (Ex.new hT)) _ _ ha2) g2
        refine ⟨Ex.new hT, .tuple [d1, d2], ?_, .tup (st_of upd_same) (.cons q2 (.cons q4 .nil))⟩
        rw [List.getElem?_zipWith, q1, q3]
theorem hu64 {A : Around} {k : Nat} (hr : Room k A) : A.units + 64 < cLine := by
  have := hr.un
  omega
theorem ix_tupK {X : Cx} (K : PySem.W.Frag) (h : X.K = K) : IxR X (rIxT K) := h ▸ ix_tup
theorem ix_listK {X : Cx} (K : PySem.W.Frag) (h : X.K = K) : IxR X (rIxL K) := h ▸ ix_list
theorem immAll_dI (l : List Int) : immAll (dI l) = true := immAll_ints l
theorem immAll_tI (l : List (List Int)) : immAll (l.map tI) = true := immAll_tIs l
end
end DL
set_option Elab.async false
set_option linter.all false
set_option maxRecDepth 100000
set_option maxHeartbeats 2000000
/-! an error that is caught, kept by a name and handed back -/
namespace DL
open PySem PySem.Spec PyProof.Rows L2
/-- an error of the class cls without attributes of its own -/
def ErO (cls : Value) (a : Addr) : HO := .ext fun h => ∃ oe : Obj, h.get? a = some oe ∧ Zc cls none oe ∧ ∃ vs, oe.data = .fields vs
theorem erO_ok {P : Program} {w : World} {H : Hp} {h : Heap} {a : Addr} {cls : Value} {oe : Obj} (e : h.get? a = some oe) (z : Zc cls none oe) (d : ∃ vs, oe.data = .fields vs) : ObjOk P w H h a (ErO cls a) :=
  ⟨⟨oe, e, z, d⟩, ⟨oe, e⟩, fun _ _ p k => by
    obtain ⟨u, hu, r⟩ := p
    exact ⟨u, k u hu, r⟩⟩
section
variable {X : Cx} {pins : List (Addr × Obj)} {σ : L2.St} {H : Hp} {s : Shared}
theorem inv_track {a : Addr} {cls : Value} {oe : Obj} (I : Inv X pins σ H s) (e : s.heap.get? a = some oe) (hn : H a = none) (h0 : X.s_0.heap.get? a = none) (nL : a ≠ X.env.locals) (np : ∀ p ∈ X.pn ++ pins, p.1 ≠ a)
    (z : Zc cls none oe) (d : ∃ vs, oe.data = .fields vs) : Inv X pins σ (upd H a (ErO cls a)) s := by
  have other : ∀ b u, H b = some u → upd H a (ErO cls a) b = some u := fun b u q => by
    rw [upd_ne (ne_of_none q hn)]
    exact q
  obtain ⟨fs, hd⟩ := d
  exact {
    ok := I.ok
    os := I.os
    bare := I.bare
    base := {
      keep := I.base.keep
      slot := I.base.slot
      free := fun b u q n hx => by
        have : b ≠ a := fun y => by rw [y, h0] at q; cases q
        rw [upd_ne this]
        exact I.base.free b u q n hx
      there := I.base.there
      tups := fun b xs q => other _ _ (I.base.tups b xs q)
      frzs := fun b u xs q => other _ _ (I.base.frzs b u xs q)
      tbls := fun b ps q => by
        obtain ⟨more, m⟩ := I.base.tbls b ps q
        exact ⟨more, other _ _ m⟩ }
    loc := I.loc
    cell := I.cell
    free := by rw [upd_ne (Ne.symm nL)]; exact I.free
    freeC := fun y c q => by
      have : c ≠ a := fun eq => by
        obtain ⟨v, o, ho, hv⟩ := I.cell y c q
        rw [eq, e] at ho
        cases ho
        rw [hd] at hv
        cases hv
      rw [upd_ne this]
      exact I.freeC y c q
    pin := fun p hp => by
      obtain ⟨p1, p2, p3⟩ := I.pin p hp
      exact ⟨p1, by rw [upd_ne (np p hp)]; exact p2, p3⟩
    hok := fun b u q => by
      by_cases hb : b = a
      · subst hb
        rw [upd_same] at q
        cases q
        exact erO_ok e z ⟨fs, hd⟩
      · rw [upd_ne hb] at q
        exact (I.hok b u q).stay (fun _ _ _ r => r) (fun _ r => other _ _ r) fun _ _ r => other _ _ r
    len := I.len }
/-- isinstance(e, C) of such an error -/
def rIsK (K : PySem.W.Frag) : List V → Hp → VK → Prop := fun xs H Q => ∃ (a D : Addr) (c : V) (cv : Value) (b : Bool), xs = [.ref a, c] ∧ H a = some (ErO (.ref D) a) ∧ ExcC K D ∧ (∀ u, RelV c u → u = cv) ∧ PySem.W.kitOne K (.ref D) cv = some b ∧ Q (.bl b) H
theorem call_isK : CallR X (.builtin "isinstance") (rIsK X.K) := by
  intro pins s σ H xs us Q I r h
  obtain ⟨a, D, c, cv, b, rfl, ha, C, hcv, e, q⟩ := h
  obtain ⟨u1, u2, rfl, ra, rc⟩ := vals2 r
  cases ra
  have ec := hcv _ rc
  subst ec
  obtain ⟨⟨oe, ho, hz, fs, hd⟩, _⟩ := I.hok a _ ha
  have J : PySem.W.InstAt s.heap a oe D none := by
    cases oe with
    | mk oc od oda osl =>
      obtain ⟨z1, z2⟩ := hz
      have z1 : oc = .ref D := z1
      have z2 : od = none := z2
      have hd : oda = .fields fs := hd
      subst z1 z2 hd
      exact ⟨ho, rfl, rfl, trivial⟩
  exact PySem.W.kia_one (PySem.W.handS_kitx_exc C.hg C.hk C.hs C.hd C.ha C.hn C.ht C.hm) I.kIn J e (fun z => nomatch z) fun tk => ⟨.bl b, H, I.kept (t' := tk) fun _ _ z => z, rfl, q⟩
end
end DL
set_option Elab.async false
set_option linter.all false
set_option maxRecDepth 100000
set_option maxHeartbeats 2000000
namespace DL
open PySem PySem.Spec PyProof.Rows L2
/-- what 'except x as n' wishes of an error that it takes for sure: behind the suite the error is known at its place -/
def wKeep (K : PySem.W.Frag) (c : Value) (i : Nat) (ts : Addr → Value → TS) (D : Ends) : WX := fun cls d σ H => PySem.W.exmOne K cls c = some true ∧ d = none ∧
  ∀ a, H a = none → ts a cls { nx := fun σ2 H2 => D.nx (σ2.set i none) (upd H2 a (ErO cls a)), rt := fun _ _ => False, bk := fun _ _ => False, ct := fun _ _ => False } (σ.set i (some (.ref a))) H
section
variable {X : Cx} {x n : Str} {c : Value} {i : Nat} {body suite : List Stmt} {b₀ : Stmt} {np pos pos' : Pos} {tb : WX → TS} {ts : Addr → Value → TS}
theorem frs_not {B h : Heap} {l : List Env} {a : Addr} {o : Obj} {fs : Array Value} (ff : h.FunFrames B l) (e : h.get? a = some o) (d : o.data = .fields fs) : a ∉ frs l := fun m => by
  obtain ⟨_, u, hu, no⟩ := ff.mem m
  rw [e] at hu
  cases hu
  exact no _ d
theorem ps_keep (hex : X.ex = []) (hst : X.stack = X.env :: X.outer) (hfr : X.env.frame = some X.env.locals) (nd : X.N.Nodup) (hi : X.N[i]? = some n) (loc : X.env.kindOf n = some .local) (cn : Names X x c)
    (hb : ∀ (W : WX) (pn : List (Addr × Obj)) (xe : Value → Shared → Prop), Takes (X.tr pn xe) W → PassesOwn (model X.prog X.w) X.A X.env xe → PSs (X.tr pn xe) body (tb W))
    (hsu : ∀ (a : Addr) (oe : Obj) (cls : Value) (pn : List (Addr × Obj)), Zc cls none oe → (∃ vs, oe.data = .fields vs) → PSs (X.suite a ((a, oe) :: pn)) (b₀ :: suite) (ts a cls)) :
    PS X (.Try body [.ExceptHandler (some (.Name x np)) (some n) (b₀ :: suite) pos'] [] [] pos) (fun D σ H => tb (wKeep X.K c i ts D) D σ H) := by
  constructor
  intro pins s σ H D I h
  have ok := I.ok
  have frames : X.A.frames = some (X.env :: X.outer) := ok.frames.trans (congrArg some hst)
  apply wpAny_Try_except
  have run := (hb (wKeep X.K c i ts D) (X.pn ++ pins)
    (fun e s1 => wpAny (model X.prog X.w) X.A (noteFrame e X.env)
      (fun _ s2 => wpAny (model X.prog X.w) X.A (setFlight e none)
        (fun _ s3 => wpAny (model X.prog X.w) X.A (handleBy e X.env [.ExceptHandler (some (.Name x np)) (some n) (b₀ :: suite) pos']) (SP X pins D) X.xe s3) X.xe s2) X.xe s1)
    (fun u t caught => ?_) PassesOwn.looking).run [] s σ H D (I.toTry _) h
  · refine wpAny_mono run (fun fl t sp => ?_) fun _ _ q => q
    cases fl with
    | ret u =>
      obtain ⟨v, σ1, H1, J, r, q⟩ := sp
      exact ⟨v, σ1, H1, J.ofTry ok, r, q⟩
    | next =>
      obtain ⟨σ1, H1, J, q⟩ := sp
      exact wpAny_execs_nil (show SP X pins D .next t from ⟨σ1, H1, J.ofTry ok, q⟩)
    | brk =>
      obtain ⟨σ1, H1, J, q⟩ := sp
      exact ⟨σ1, H1, J.ofTry ok, q⟩
    | cont =>
      obtain ⟨σ1, H1, J, q⟩ := sp
      exact ⟨σ1, H1, J.ofTry ok, q⟩
  · obtain ⟨a, B, sI, pinsT, σ1, H1, cls, d, rfl, JT, nb, up, sky, na, os, bare, hx, rfl, wish⟩ := caught
    have J : Inv X pins σ1 H1 sI := JT.ofTry ok
    rw [hst] at sky
    show wpAny (model X.prog X.w) X.A (noteFrame (.ref a) X.env) _ _ _
    refine Sky.land Zc.steady frames hfr sky fun hA flA upA => ?_
    have JA : Inv X pins σ1 H1 { t with heap := hA } := J.landed nb flA.1 (up.trans upA) os bare
    obtain ⟨oA, vA, eA, zA, dA⟩ := flA.there
    have nfr := frs_not flA.2.2.1 eA dA
    have nL : a ≠ X.env.locals := fun q => nfr (List.mem_filterMap.mpr ⟨X.env, List.mem_cons_self, hfr.trans (congrArg some q.symm)⟩)
    have nF : a ∉ X.fs := fun q => by
      obtain ⟨en, m, r⟩ := List.mem_filterMap.mp q
      exact nfr (List.mem_filterMap.mpr ⟨en, List.mem_cons_of_mem _ m, r⟩)
    have fresh : sI.heap.get? a = none := by
      cases q : sI.heap.get? a with
      | none => rfl
      | some o =>
        have z := nb a o q (by rw [hst]; exact nfr)
        rw [flA.2.1] at z
        cases z
    have fresh0 : X.s_0.heap.get? a = none := by
      cases q : X.s_0.heap.get? a with
      | none => rfl
      | some o =>
        obtain ⟨u, hu⟩ := J.base.there a o q (by rw [hex]; simp)
        rw [fresh] at hu
        cases hu
    have npin : ∀ p ∈ X.pn ++ pins, p.1 ≠ a := fun p hp q => by
      have z := (J.pin p hp).1
      rw [q, fresh] at z
      cases z
    have SA := JA.suite eA dA na nL nF
    apply wpAny_handleBy_cons
    · apply codeAny_handlers_test
      have LM := PySem.W.exm_one (M := model X.prog X.w) JA.kIn (e := a) (cls := cls) (fun A' Q' E' s' k q => wpAny_typeOf_ref (k _ _ eA) (by rw [zA.1]; exact q)) hx
      have named : ∀ {Q1 E1 : Value → Shared → Prop}, Q1 c { t with heap := hA } → wpAny (model X.prog X.w) (X.A.mark (some (.ref a))) (eval (.Name x np) X.env) Q1 E1 { t with heap := hA } := fun {Q1 E1} q => by
        obtain ⟨g, db, k | ⟨k, bt, nn⟩⟩ := cn
        · exact ld_glob (X := X.suite a ((a, oA) :: (X.pn ++ pins))) SA g k q db
        · exact ld_blt (X := X.suite a ((a, oA) :: (X.pn ++ pins))) SA g k bt q nn db
      apply named
      apply LM.here
      apply codeAny_handlers_suite_as
      refine HandSPX.lands_againZ flA fun hB flB upB => ?_
      have JB : Inv X pins σ1 H1 { t with heap := hB } := J.landed nb flB.1 ((up.trans upA).trans upB) os bare
      obtain ⟨oB, vB, eB, zB, dB⟩ := flB.there
      refine store_ok (X := X.suite a ((a, oB) :: (X.pn ++ pins))) (v := .ref a) (JB.suite eB dB na nL nF) nd hi (.inl loc) rfl (fun s5 S5 => ?_) (.inr loc)
      refine wpAny_mono ((hsu a oB cls (X.pn ++ pins) zB ⟨_, dB⟩).run [] s5 _ H1 _ S5 (wish a na)) (fun fl s6 sp => ?_) fun _ _ q => q.elim
      cases fl with
      | next =>
        obtain ⟨σ6, H6, S6, q6⟩ := sp
        have P6 : Inv X ((a, oB) :: pins) σ6 H6 s6 := {
          ok := ok
          os := S6.os
          bare := S6.bare
          base := S6.base
          loc := S6.loc
          cell := S6.cell
          free := S6.free
          freeC := S6.freeC
          pin := fun p hp => S6.pin p (by
            show p ∈ ((a, oB) :: (X.pn ++ pins)) ++ []
            rw [List.append_nil]
            rcases List.mem_append.mp hp with q | q
            · exact List.mem_cons_of_mem _ (List.mem_append_left _ q)
            · rcases List.mem_cons.mp q with q | q
              · rw [q]; exact List.mem_cons_self
              · exact List.mem_cons_of_mem _ (List.mem_append_right _ q))
          hok := S6.hok
          len := S6.len }
        refine gone_ok P6 nd hi loc fun s7 J7 => ?_
        obtain ⟨g7, n7, l7, _⟩ := J7.pin (a, oB) (List.mem_append_right _ List.mem_cons_self)
        have J8 : Inv X pins (σ6.set i none) H6 s7 := J7.pins_of fun p hp => J7.pin p (List.mem_append_right _ (List.mem_cons_of_mem _ hp))
        exact ⟨_, _, inv_track J8 g7 n7 fresh0 l7 npin zB ⟨_, dB⟩, q6⟩
      | brk => exact (sp.elim fun _ z => z.elim fun _ z => z.2.elim)
      | cont => exact (sp.elim fun _ z => z.elim fun _ z => z.2.elim)
      | ret u => exact (sp.elim fun _ z => z.elim fun _ z => z.elim fun _ z => z.2.2.elim)
    · intro q
      cases q
end
end DL
set_option Elab.async false
set_option linter.all false
set_option maxRecDepth 100000
set_option maxHeartbeats 4000000
/-! a lambda without parameters as a value: made, held by a name, called by a def that catches what it raises -/
namespace DL
open PySem PySem.Spec PyProof.Rows L2 LamX
/-- the lambda at f, its code object at c' -/
def LamO (f c' : Addr) (q : Str) (params : Arguments) (body : Expr) (scope : Scope) (cl : List (Str × Addr)) : HO := .ext fun h => ∃ pm ctv : Value, h.get? f = some (PySem.W.kla_obj "<lambda>" q params body scope cl pm c' ctv)
theorem lamO_ok {P : Program} {w : World} {H : Hp} {h : Heap} {f c' : Addr} {q : Str} {params : Arguments} {body : Expr} {scope : Scope} {cl : List (Str × Addr)} {pm ctv : Value} (e : h.get? f = some (PySem.W.kla_obj "<lambda>" q params body scope cl pm c' ctv)) :
    ObjOk P w H h f (LamO f c' q params body scope cl) := ⟨⟨pm, ctv, e⟩, ⟨_, e⟩, fun _ _ z k => by
  obtain ⟨u, v, r⟩ := z
  exact ⟨u, v, k _ r⟩⟩
def tLamV (T : List (Addr × Str)) (q : Str) (params : Arguments) (body : Expr) (scope : Scope) (cl : List (Str × Addr)) : TE := fun σ H Q => Tabs T H ∧ ∀ f c' H1, ExtN H H1 → Tabs T H1 → H f = none → H1 f = none → H1 c' = some (CodeO c' q) → Q (.ref f) (upd H1 f (LamO f c' q params body scope cl))
section
variable {X : Cx} {T : List (Addr × Str)} {c P : Addr} {params : Arguments} {body : Expr} {scope : Scope} {pos : Pos}
theorem pe_lamV (TB : TabB X.base X.mg c P) (code : X.env.code = .ref c) (hm : (P, X.env.qual ++ "<lambda>") ∈ T) (hu : ∀ p ∈ T, p.1 = P → p.2 = X.env.qual ++ "<lambda>") (L : LamS X.env.scope scope) (hdef : defaultsOf params X.env = ([], [])) :
    PE X (.Lambda params body scope pos) (tLamV T (X.env.qual ++ "<lambda>") params body scope (cloFrom X.env.cells scope.names [])) := by
  constructor
  intro pins s σ H Q I hh
  obtain ⟨tabs, k⟩ := hh
  obtain ⟨ps, atP, tri, among⟩ := tabs _ hm
  have free := L.has I.ok
  apply PySem.W.kla_eval hdef
  have bi : s.heap.BuiltinsAt X.mg P := TB.bm.keeps I.bk
  have heapP : s.heap.get? P = some { cls := .none, data := .fields ps } := I.hok P _ atP
  cases look : codeAmong pos ps.toList with
  | some cv =>
    obtain ⟨c', rfl, hc'⟩ := among pos cv look
    apply PySem.W.kla_makeFunctionHit (mg := X.mg) (c := c) (P := P) (ps := ps) (closure_ok free) I.ok.glob (I.mod.glob.keeps I.bk) code (TB.code.keeps I.bk) heapP tri look bi
    intro ctv h2 tk keep size
    have J : Inv X pins σ H { s with heap := h2, toks := tk } := I.kept keep
    have n2 : H h2.objs.size = none := I.hok.fresh size
    have J2 := J.laid (t' := tk) (h' := h2.push (PySem.W.kla_obj "<lambda>" (X.env.qual ++ "<lambda>") params body scope (cloFrom X.env.cells scope.names []) ((X.mg "__name__").getD .none) c' ctv)) (fun _ _ z => Heap.get?_push_of_some _ z) (Nat.le_refl _)
      (lamO_ok (f := h2.objs.size) (c' := c') (Heap.get?_push_size _ rfl))
    exact ⟨V.ref h2.objs.size, _, J2, rfl, k _ c' H (ExtN.refl H) tabs n2 n2 hc'⟩
  | none =>
    apply PySem.W.kla_makeFunction (mg := X.mg) (c := c) (P := P) (ps := ps) (closure_ok free) I.ok.glob (I.mod.glob.keeps I.bk) code (TB.code.keeps I.bk) heapP tri look TB.gP bi
    intro c' ctv h2 tk but ge lt rec0 tab
    obtain ⟨c2, oc, fs, t, e2, oc2, fd, fq⟩ := rec0
    cases e2
    have nC : H c' = none := I.hok.fresh ge
    have size : s.heap.objs.size ≤ h2.objs.size := Nat.le_trans ge (Nat.le_of_lt lt)
    have nF : H h2.objs.size = none := I.hok.fresh size
    have J := inv_table (t' := tk) (h' := h2) (c := c') (q := X.env.qual ++ "<lambda>") (more := #[rawInt pos.line, rawInt pos.col, .ref c']) I atP (fun b o nb z => but b o nb z) tab ge ⟨oc, fs, t, oc2, fd, fq⟩
    have ext : ExtN H (upd (upd H P (.tbl (ps ++ #[rawInt pos.line, rawInt pos.col, .ref c']))) c' (CodeO c' (X.env.qual ++ "<lambda>"))) := fun b o z n => by
      have b1 : b ≠ c' := ne_of_none z nC
      have b2 : b ≠ P := fun y => by
        rw [y, atP] at z
        exact n ps (Option.some.inj z).symm
      rw [upd_ne b1, upd_ne b2]
      exact z
    have toL : (ps ++ #[rawInt pos.line, rawInt pos.col, .ref c']).toList = ps.toList ++ [rawInt pos.line, rawInt pos.col, .ref c'] := by simp
    have tabs2 : Tabs T (upd (upd H P (.tbl (ps ++ #[rawInt pos.line, rawInt pos.col, .ref c']))) c' (CodeO c' (X.env.qual ++ "<lambda>"))) := fun p hp => by
      by_cases hb : p.1 = P
      · rw [hu p hp hb, hb]
        refine ⟨ps ++ #[rawInt pos.line, rawInt pos.col, .ref c'], ?_, ?_, fun p2 cv z => ?_⟩
        · rw [upd_ne (ne_of_none atP nC), upd_same]
        · rw [toL]
          exact PySem.TriplesOk_snoc _ _ _ _ tri
        · rw [toL] at z
          rcases among_app _ tri z with z | z
          · obtain ⟨c0, g1, g2⟩ := among p2 cv z
            exact ⟨c0, g1, ext _ _ g2 codeO_ne⟩
          · exact ⟨c', z, upd_same⟩
      · obtain ⟨ps2, g1, g2, g3⟩ := tabs p hp
        refine ⟨ps2, ?_, g2, fun p2 cv z => ?_⟩
        · rw [upd_ne (ne_of_none g1 nC), upd_ne hb]
          exact g1
        · obtain ⟨c0, r1, r2⟩ := g3 p2 cv z
          exact ⟨c0, r1, ext _ _ r2 codeO_ne⟩
    have fC : h2.objs.size ≠ c' := Nat.ne_of_gt lt
    have fP : h2.objs.size ≠ P := Nat.ne_of_gt (Nat.lt_of_lt_of_le (Heap.lt_size heapP) size)
    have none1 : upd (upd H P (.tbl (ps ++ #[rawInt pos.line, rawInt pos.col, .ref c']))) c' (CodeO c' (X.env.qual ++ "<lambda>")) h2.objs.size = none := by
      rw [upd_ne fC, upd_ne fP]
      exact nF
    have J2 := J.laid (t' := tk) (h' := h2.push (PySem.W.kla_obj "<lambda>" (X.env.qual ++ "<lambda>") params body scope (cloFrom X.env.cells scope.names []) ((X.mg "__name__").getD .none) c' ctv)) (fun _ _ z => Heap.get?_push_of_some _ z) (Nat.le_refl _)
      (lamO_ok (f := h2.objs.size) (c' := c') (Heap.get?_push_size _ rfl))
    exact ⟨V.ref h2.objs.size, _, J2, rfl, k _ c' _ ext tabs2 nF none1 upd_same⟩
end
end DL
set_option Elab.async false
set_option linter.all false
set_option maxRecDepth 100000
set_option maxHeartbeats 4000000
namespace DL
open PySem PySem.Spec PyProof.Rows L2 LamX
/-- a lambda's text, read in the def that made it: k levels of calls, tb what its expression does with what it raises -/
structure LamD (X : Cx) (k : Nat) (params : Arguments) (body : Expr) (scope : Scope) (tb : XK → TE) : Prop where
  L : LamS X.env.scope scope
  bind : ∀ (q : Str) (cl : List (Str × Addr)) (pm cv ctv : Value), bindArgs (PySem.W.kla_fn "<lambda>" q params body scope cl pm cv ctv) ⟨[], []⟩ = pure []
  run : ∀ (A : Around) (outer : List Env) (s : Shared) (H : Hp) (E : XK) (f c' : Addr), Room k (A.deeper (lamEnv X scope s.heap.objs.size f c')) → PE (lamCx X A outer s H E scope f c') body (tb E)
section
variable {X : Cx} {pins : List (Addr × Obj)} {σ : L2.St} {H : Hp} {s : Shared}
/-- work(), in a def that got the lambda -/
theorem pe_actT {CXg : CXT} {Eg : XK} {Ng : List Str} {qg : Str} {sg : Scope} {g : Addr} {cdg : Value} {params : Arguments} {body : Expr} {scope : Scope} {k i : Nat} {a : Str} {pn : List (Addr × Obj)} {xe : Value → Shared → Prop} {W : WX} {tb : XK → TE} {p1 p2 : Pos}
    (I : Inv X pins σ H s) (D : LamD X k params body scope tb) (tk : Takes ((cxOf CXg X.prog X.w X.K X.mg X.base Ng qg sg g cdg X.A X.stack s H Eg).tr pn xe) W) (hr : Room (k + 1) (X.A.deeper (envOfC qg sg s.heap.objs.size g cdg)))
    (hN : Ng[i]? = some a) (hv : Vis sg a) (hd : (a == ("__debug__" : Str)) = false := by decide) (hcd : (a == ("__classdict__" : Str)) = false := by decide) :
    PE ((cxOf CXg X.prog X.w X.K X.mg X.base Ng qg sg g cdg X.A X.stack s H Eg).tr pn xe) (.Call (.Name a p1) [] [] p2)
      (fun σZ HZ Q => ∃ f c', σZ[i]? = some (some (.ref f)) ∧ HZ f = some (LamO f c' (X.env.qual ++ "<lambda>") params body scope (cloFrom X.env.cells scope.names [])) ∧ HZ c' = some (CodeO c' (X.env.qual ++ "<lambda>")) ∧ tb (WE W σZ) σ HZ Q) := by
  constructor
  intro pinsZ sZ σZ HZ Q IZ hh
  obtain ⟨f, c', at_, hf, hc, go⟩ := hh
  have nm := (pe_var (pos := p1) (i := i) (X := (cxOf CXg X.prog X.w X.K X.mg X.base Ng qg sg g cdg X.A X.stack s H Eg).tr pn xe) hN hv hd hcd).run pinsZ sZ σZ HZ (fun v H1 => v = .ref f ∧ H1 = HZ) IZ ⟨.ref f, at_, rfl, rfl⟩
  apply wpAny_Call_Name_kw
  refine thn nm fun u s1 z => ?_
  obtain ⟨v, H1, I1, rv, rfl, rfl⟩ := z
  obtain rfl : u = Value.ref f := rv
  obtain ⟨⟨pm, ctv, of1⟩, _, _⟩ := I1.hok f _ hf
  obtain ⟨⟨oc, fs, t, oc1, fd, fq⟩, _, _⟩ := I1.hok c' _ hc
  refine PySem.W.callWith_F0 ⟨_, _, _, _, of1⟩ ?_
  have L := D.L
  have inner : codeAny (model X.prog X.w) (X.A.deeper (envOfC qg sg s.heap.objs.size g cdg)) (.call (.ref f) ⟨[], []⟩) (CR (L2.CX X.prog X.w) (envOfC qg sg s.heap.objs.size g cdg :: X.stack) X.prog X.w H1 s1 Q (WE W σZ)) s1 := by
    apply PySem.W.kla_callFunE hr.depth of1 rfl L.co L.gen rfl ⟨c', oc, fs, t, rfl, oc1, fd, fq⟩
    rw [D.bind]
    apply wpAny_pure
    refine wpAny_newFunctionEnv (fun y hy => (L.own y hy).2) (fun y hy => absurd hy (by simp)) (fun h1 ns sb => ?_) L.kind
    refine ⟨I1.nolimit.fresh _ sb, ?_⟩
    have keep : ∀ b o, s1.heap.get? b = some o → h1.get? b = some o := fun b o e => sb.extBut b o (Nat.ne_of_lt (Heap.lt_size e)) (Heap.get?_push_of_some _ e)
    have J := lam_start2 (A := X.A.deeper (envOfC qg sg s.heap.objs.size g cdg)) (outer := envOfC qg sg s.heap.objs.size g cdg :: X.stack) (E := WE W σZ) (f := f) (c' := c') (h₁ := h1) (tk := s1.toks + ([] : List (Str × Value)).length) I L I1.env0 hr.hd I1.base ns keep
    have ran := (D.run _ (envOfC qg sg s.heap.objs.size g cdg :: X.stack) s1 H1 (WE W σZ) f c' (hr.deeper _)).run [] _ _ H1 Q J go
    refine PySem.W.kla_codeExpr (wpAny_mono ran (fun v s2 z => ?_) fun _ _ z => z)
    obtain ⟨x, H2, J2, r2, q2⟩ := z
    exact ⟨x, H2, J2.os, J2.bare, J2.base, J2.hok, r2, q2⟩
  apply wpAny_call
  refine codeAny_mono inner fun r s2 z => ?_
  cases r with
  | ok fl =>
    cases fl with
    | ret u => exact I1.after z
    | next => exact z.elim
    | brk => exact z.elim
    | cont => exact z.elim
  | error e => exact passAt tk σZ pinsZ H1 s1 e s2 I1 z
end
end DL
set_option Elab.async false
set_option linter.all false
set_option maxRecDepth 100000
set_option maxHeartbeats 4000000
namespace DL
open PySem PySem.Spec PyProof.Rows L2 LamX
/-- caught = None / try: work() / except CallError as error: caught = error / return caught -/
abbrev caughtB (k0 : Nat) (p1 p2 p3 p4 p5 p6 p7 p8 p9 p10 p11 p12 p13 p14 : Pos) : List Stmt :=
  [.Assign [.Name "caught" p1] (.Constant .none k0 p2) p3,
   .Try [.Expr (.Call (.Name "work" p4) [] [] p5) p6] [.ExceptHandler (some (.Name "CallError" p7)) (some "error") [.Assign [.Name "caught" p8] (.Name "error" p9) p10] p11] [] [] p12,
   .Return (some (.Name "caught" p13)) p14]
/-- what calling it means: the error, kept, is handed back; None where there is none -/
def TTc (K : PySem.W.Frag) (CS : Addr) (tb : XK → TE) : TE := fun σ H Q => ∀ (E : XK) (Q2 : VK), (∀ cls H', PySem.W.exmOne K cls (.ref CS) = some true → (∀ a, H' a = none → Q (.ref a) (upd H' a (ErO cls a))) → E cls none H') → (∀ v H', Q .non H' → Q2 v H') → tb E σ H Q2
section
variable {X : Cx} {pins : List (Addr × Obj)} {σ : L2.St} {H : Hp} {s : Shared}
theorem caught_run {x : Str} {sg : Scope} {g CS : Addr} {cdg : Value} {params : Arguments} {body : Expr} {scope : Scope} {k k0 : Nat} {tb : XK → TE} {f c' : Addr} {Q : VK} {p1 p2 p3 p4 p5 p6 p7 p8 p9 p10 p11 p12 p13 p14 : Pos}
    (I : Inv X pins σ H s) (D : LamD X k params body scope tb) (hr : Room (k + 1) (X.A.deeper (envOfC x sg s.heap.objs.size g cdg))) (S : FnScope ["work", "caught", "error"] ["work"] sg)
    (ge : sg.names.lookup ("CallError" : Str) = some .globalImplicit) (me : X.mg "CallError" = some (.ref CS)) (le : sg.names.lookup ("error" : Str) = some .local) (lc : sg.names.lookup ("caught" : Str) = some .local) (lw : sg.names.lookup ("work" : Str) = some .local)
    (hf : H f = some (LamO f c' (X.env.qual ++ "<lambda>") params body scope (cloFrom X.env.cells scope.names []))) (hc : H c' = some (CodeO c' (X.env.qual ++ "<lambda>"))) (go : TTc X.K CS tb σ H Q) :
    ∃ t, PSs (cxOf CX0 X.prog X.w X.K X.mg X.base ["work", "caught", "error"] x sg g cdg X.A X.stack s H E0).nox (caughtB k0 p1 p2 p3 p4 p5 p6 p7 p8 p9 p10 p11 p12 p13 p14) t ∧
      t { nx := fun _ H' => Q .non H', rt := Q } (L2.start ["work", "caught", "error"] [.ref f]) H := by
  refine ⟨_, pss_cons (ps_set (i := 1) S.nd rfl (.inl lc) pe_non) (pss_cons
    (ps_keep (X := (cxOf CX0 X.prog X.w X.K X.mg X.base ["work", "caught", "error"] x sg g cdg X.A X.stack s H E0).nox) (i := 2) (c := .ref CS) (ts := fun _ _ => tAsg (tVar 2) (gName 1))
      (tb := fun W => tDrop (fun σZ HZ Q2 => ∃ f c', σZ[0]? = some (some (.ref f)) ∧ HZ f = some (LamO f c' (X.env.qual ++ "<lambda>") params body scope (cloFrom X.env.cells scope.names [])) ∧ HZ c' = some (CodeO c' (X.env.qual ++ "<lambda>")) ∧ tb (WE W σZ) σ HZ Q2))
      rfl rfl rfl S.nd rfl le ⟨ge, by decide, .inl me⟩
      (fun W pn xe tk _ => pss_one (ps_expr (pe_actT (CXg := CX0) (Eg := E0) (Ng := ["work", "caught", "error"]) I D tk hr rfl (.inl lw))))
      (fun a oe cls pn _ _ => pss_one (ps_set (i := 1) S.nd rfl (.inl lc) (pe_var (i := 2) rfl (.inl le))))) (pss_one (ps_ret (pe_var (i := 1) rfl (.inl lc))))), ?_⟩
  refine ⟨f, c', rfl, hf, hc, go _ _ (fun cls H' hx q => ?_) fun v H' q => ?_⟩
  · refine ⟨hx, rfl, fun a na => ?_⟩
    exact ⟨_, rfl, _, rfl, q a na⟩
  · exact ⟨_, rfl, q⟩
/-- x(y), y a lambda of this def -/
theorem pe_caught {x y : Str} {sg : Scope} {pg : Arguments} {g CS : Addr} {dV kV doc pm cdv ct oc : Value} {an od : Option Addr} {osl : Array (Option Value)} {k k0 j : Nat} {p py pos p1 p2 p3 p4 p5 p6 p7 p8 p9 p10 p11 p12 p13 p14 : Pos}
    (hg : Gl X x) (hm : X.mg x = some (.ref g)) (hk : PySem.W.keepIn X.K (.ref g) = true) (lk : X.K.lookup g = some ⟨oc, od, .func (PySem.W.fnOf x x pg (caughtB k0 p1 p2 p3 p4 p5 p6 p7 p8 p9 p10 p11 p12 p13 p14) sg dV kV doc pm an cdv ct), osl⟩)
    (hcg : PySem.W.codeIn X.K cdv x = true) (hb : L2.Binds X.K (PySem.W.fnOf x x pg (caughtB k0 p1 p2 p3 p4 p5 p6 p7 p8 p9 p10 p11 p12 p13 p14) sg dV kV doc pm an cdv ct) ["work"] []) (S : FnScope ["work", "caught", "error"] ["work"] sg)
    (ge : sg.names.lookup ("CallError" : Str) = some .globalImplicit) (me : X.mg "CallError" = some (.ref CS)) (le : sg.names.lookup ("error" : Str) = some .local) (lc : sg.names.lookup ("caught" : Str) = some .local) (lw : sg.names.lookup ("work" : Str) = some .local)
    (hr : Room (k + 2) X.A) (hN : X.N[j]? = some y) (hv : Vis X.env.scope y) (hdb : (x == ("__debug__" : Str)) = false := by decide) (hd : (y == ("__debug__" : Str)) = false := by decide) (hcd : (y == ("__classdict__" : Str)) = false := by decide) :
    PE X (.Call (.Name x p) [.Name y py] [] pos) (fun σ H Q => ∃ f c' params body scope tb, σ[j]? = some (some (.ref f)) ∧ H f = some (LamO f c' (X.env.qual ++ "<lambda>") params body scope (cloFrom X.env.cells scope.names [])) ∧ H c' = some (CodeO c' (X.env.qual ++ "<lambda>")) ∧ LamD X k params body scope tb ∧ TTc X.K CS tb σ H Q) := by
  constructor
  intro pins s σ H Q I hh
  obtain ⟨f, c', params, body, scope, tb, at_, hf, hc, D, go⟩ := hh
  apply wpAny_Call_Name_kw
  refine ld_glob I hg hm ?_ hdb
  have arg := (pa_cons (pe_var (pos := py) (i := j) (X := X) hN hv hd hcd) pa_nil).run pos pins s σ H (fun vs H1 => vs = [.ref f] ∧ H1 = H) I ⟨.ref f, at_, rfl, rfl⟩
  refine PySem.W.callWith_K (h₀ := X.base) I.ok.mod.kin hk (thn arg fun us s1 z => ?_) (by rfl) (by rfl)
  obtain ⟨vs, H1, I1, r, rfl, rfl⟩ := z
  refine ⟨I1.kIn, ?_⟩
  have lu : us.length = 1 := (Vals.length r).symm
  have inner : codeAny (model X.prog X.w) X.A (.call (.ref g) ⟨us, []⟩) (CR CX0 X.stack X.prog X.w H1 s1 Q E0) s1 := by
    refine run_ofS (N := ["work", "caught", "error"]) (ps := ["work"]) (us := us) (vs := [.ref f]) lk hcg S hr I1.env0 ?_ r rfl fun hr2 => ?_
    · have := hb s1 us I1.kIn (by simpa using lu)
      simpa using this
    · obtain ⟨t, ht, q⟩ := caught_run (x := x) (g := g) (cdg := cdv) (k0 := k0) (p1 := p1) (p2 := p2) (p3 := p3) (p4 := p4) (p5 := p5) (p6 := p6) (p7 := p7) (p8 := p8) (p9 := p9) (p10 := p10) (p11 := p11) (p12 := p12) (p13 := p13) (p14 := p14) I1 D hr2 S ge me le lc lw hf hc go
      exact ⟨t, ht.nox, q⟩
  apply wpAny_call
  refine codeAny_mono inner fun r2 s2 z => ?_
  cases r2 with
  | error e => exact (show False from z).elim
  | ok fl =>
    cases fl with
    | ret u => exact I1.after z
    | next => exact z.elim
    | brk => exact z.elim
    | cont => exact z.elim
end
end DL
set_option Elab.async false
set_option linter.all false
set_option maxRecDepth 100000
set_option maxHeartbeats 4000000
/-! defs that may raise an error of an own class; isinstance of data of any kind -/
namespace DL
open PySem PySem.Spec PyProof.Rows L2 Evl
/-- the type of data by its name -/
def tyD : PyData → String
  | .none => "NoneType"
  | .bool _ => "bool"
  | .int _ => "int"
  | .str _ => "str"
  | .list _ => "list"
  | .tuple _ => "tuple"
  | .dict _ => "dict"
section
variable {K : PySem.W.Frag} {σ : L2.St} {H H' : Hp} {ta tb te : TE} {d : PyData} {ds : List PyData} {v : V}
theorem tyD_dp (h : Dp K H v d) : TyX K H v (.type (tyD d)) := by
  cases h with
  | non => exact .base .non
  | bl b => exact .base (.bl b)
  | int i => exact .base (.int i)
  | str x => exact .base (.str x)
  | lst h _ => exact tyL h
  | tup h _ => exact tyT h
/-- isinstance(x, a built-in class) -/
theorem ev_isiD {nm : String} {b : Bool} (ha : EvD K ta σ H d) (hb : kitB (tyD d) nm = some b) : Ev (tCB (rIsi K) (tCons ta (tCons (tC (.ty nm)) tNil))) σ H (.bl b) := fun H1 e Q q =>
  ha H1 e _ fun x H2 e2 hx => ⟨_, _, _, _, b, rfl, .ty nm, tyD_dp hx, kit_ty hb, q H2 e2⟩
/-- data in, data out, or an error of the class at C -/
def spR (K : PySem.W.Frag) (n : Nat) (R : List PyData → PyData → Prop) (B : List PyData → Addr → Prop) : Sp := fun vs H Q E => ∃ ds, DpAll K H vs ds ∧ ds.length = n ∧
  ((∃ r, R ds r ∧ ∀ v H', Ex H H' → Dp K H' v r → Q v H') ∨ ∃ C, B ds C ∧ ∀ H', Ex H H' → E (.ref C) none H')
theorem spR_len {n : Nat} {R : List PyData → PyData → Prop} {B : List PyData → Addr → Prop} {vs : List V} {Q : VK} {E : XK} (h : spR K n R B vs H Q E) : vs.length = n := by
  obtain ⟨ds, h1, h2, _⟩ := h
  rw [dpa_len h1, h2]
theorem ed_callR {n : Nat} {R : List PyData → PyData → Prop} {B : List PyData → Addr → Prop} {E : XK} {tt : TA} (h : EvDA K tt σ H ds) (hl : ds.length = n) (hr : R ds d) : EvD K (tCall (spR K n R B) [] E tt) σ H d := fun H1 e Q q =>
  h H1 e _ fun vs H2 e2 hv => ⟨ds, by rw [List.append_nil]; exact hv, hl, .inl ⟨d, hr, fun v H3 e3 hd => q v H3 (e2.trans e3) hd⟩⟩
/-- an expression that raises -/
def EvB (E : XK) (te : TE) (σ : L2.St) (H : Hp) (C : Addr) : Prop := ∀ H1, Ex H H1 → ∀ Q : VK, (∀ H2, Ex H1 H2 → E (.ref C) none H2) → te σ H1 Q
theorem eb_callR {n : Nat} {R : List PyData → PyData → Prop} {B : List PyData → Addr → Prop} {E : XK} {tt : TA} {C : Addr} (h : EvDA K tt σ H ds) (hl : ds.length = n) (hb : B ds C) : EvB E (tCall (spR K n R B) [] E tt) σ H C := fun H1 e Q q =>
  h H1 e _ fun vs H2 e2 hv => ⟨ds, by rw [List.append_nil]; exact hv, hl, .inr ⟨C, hb, fun H3 e3 => q H3 (e2.trans e3)⟩⟩
/-- a statement e, e raising -/
theorem b_drop {E : XK} {D : Ends} {tz : TS} {C : Addr} (h : EvB E te σ H C) (q : ∀ H1, Ex H H1 → E (.ref C) none H1) : tSeq (tDrop te) tz D σ H := h H (Ex.refl _) _ q
end
/-- a def that may raise, called by its name -/
structure DFX (P : Program) (w : World) (K : PySem.W.Frag) (mg : Str → Option Value) (base : Heap) (nm : Str) (k : Nat) (ps : List Str) (sp : Sp) : Prop where
  ex : ∃ (f : Addr) (fd : FuncData), FnOk P w K mg base (L2.CX P w) k f fd ps sp ∧ mg nm = some (.ref f) ∧ PySem.W.keepIn K (.ref f) = true ∧ Binds K fd ps []
theorem pe_DX {X : Cx} {nm : Str} {k : Nat} {ps : List Str} {sp : Sp} {E : XK} {W : WX} {e : Expr} {es : List Expr} {t : TA} {p pos : Pos} (F : DFX X.prog X.w X.K X.mg X.base nm k ps sp) (tk : Takes X W) (hW : ∀ cls d σ H, E cls d H → W cls d σ H) (hr : Room k X.A) (hg : Gl X nm) (ha : PA X (e :: es) t)
    (hdb : (nm == ("__debug__" : Str)) = false := by decide) (he : starEach (e :: es) X.env = (false, eval e X.env) :: starEach es X.env := by rfl) (hpl : (backTo pos (starEach es X.env)).any (·.1) = false := by rfl) :
    PE X (.Call (.Name nm p) (e :: es) [] pos) (tCall sp [] E t) := by
  obtain ⟨f, fd, h1, h2, h3, h4⟩ := F.ex
  exact pe_call h1 hr hg h2 h3 h4 .nil (passes_call tk hW) ha hdb he hpl
/-- an own error class without own __init__ -/
structure ErC (K : PySem.W.Frag) (mg : Str → Option Value) (nm : Str) (C : Addr) : Prop where
  gC : mg nm = some (.ref C)
  q : ∃ (bmB : List Value), ExcBaseFacts "ValueError" "ValueError.__new__" "ValueError.__init__" bmB ∧ PySem.W.excIn K C bmB "ValueError.__new__" = true
  kC : PySem.W.keepIn K (.ref C) = true
  exC : PySem.W.subIn K (.ref C) (.type "BaseException") = some true
  tyC : PySem.W.typeIn K (.ref C) = some (.type "type")
/-- raise C(e) -/
theorem ps_raiseC {X : Cx} {W : WX} {C : Addr} {x : Str} {e : Expr} {ta : TE} {p pos pos2 : Pos} (hc : X.calm = true) (tk : Takes X W) (T : ErC X.K X.mg x C) (hg : Gl X x) (he : PE X e ta) (hs : starEach [e] X.env = (false, eval e X.env) :: starEach [] X.env := by rfl) (hdb : (x == ("__debug__" : Str)) = false := by decide) :
    PS X (.Raise (some (.Call (.Name x p) [e] [] pos)) none pos2) (fun _ σ H => ta σ H fun _ H1 => W (.ref C) none σ H1) := by
  obtain ⟨bm, F, q⟩ := T.q
  exact ps_raise hc tk (SkE.pmk_own1 F q T.gC T.kC (raises_own T.exC T.tyC) hg he hs hdb)
end DL
set_option Elab.async false
set_option linter.all false
set_option maxRecDepth 100000
set_option maxHeartbeats 4000000
/-! repr of lists and tuples of data; the guards stand empty -/
namespace DL
open PySem PySem.Spec PyProof.Rows L2 Evl
mutual
theorem noDict_dp {K : PySem.W.Frag} {H : Hp} : ∀ (d : PyData) (v : V), Dp K H v d → d.hasDict = false
  | .none, _, _ => by simp [PyData.hasDict]
  | .bool b, _, _ => by simp [PyData.hasDict]
  | .int i, _, _ => by simp [PyData.hasDict]
  | .str x, _, _ => by simp [PyData.hasDict]
  | .list ds, _, h => by
    cases h with
    | lst _ ha => simpa [PyData.hasDict] using noDict_dpa ds _ ha
  | .tuple ds, _, h => by
    cases h with
    | tup _ ha => simpa [PyData.hasDict] using noDict_dpa ds _ ha
  | .dict _, _, h => by cases h
theorem noDict_dpa {K : PySem.W.Frag} {H : Hp} : ∀ (ds : List PyData) (vs : List V), DpAll K H vs ds → PyData.hasDictAll ds = false
  | [], _, _ => by simp [PyData.hasDictAll]
  | d :: ds, _, h => by
    cases h with
    | cons a b =>
      rw [PyData.hasDictAll, noDict_dp d _ a, noDict_dpa ds _ b]
      rfl
end
/-- repr(x), x a list or a tuple of data -/
def rRepr (K : PySem.W.Frag) : List V → Hp → VK → Prop := fun xs H Q => ∃ (a : Addr) (d : PyData), xs = [.ref a] ∧ Dp K H (.ref a) d ∧ d.showable = true ∧ d.depth ≤ 90 ∧ d.shown.length ≤ sizeLine ∧ Q (.str d.shown) H
theorem call_repr {X : Cx} (hg : X.A.guards = some []) (hu : X.A.units + 100 < cLine) : CallR X (.builtin "repr") (rRepr X.K) := by
  intro pins s σ H xs us Q I r h
  obtain ⟨a, d, rfl, hd, hs, h64, hsz, q⟩ := h
  obtain rfl := Vals.ref1 r
  obtain ⟨as, rd⟩ := Dp.reads I d (.ref a) (.ref a) hd rfl
  exact repr_of_reads' rd hs (PyData.noDict_hsm (noDict_dp d _ hd)) hg (by omega) (fun _ _ e => e) (fun h' u tk k => ⟨.str d.shown, H, I.kept k, ⟨u, rfl⟩, q⟩) hsz
theorem guards_deeper (A : Around) (env : Env) : (A.deeper env).guards = A.guards := rfl
end DL
set_option Elab.async false
set_option linter.all false
set_option maxRecDepth 100000
set_option maxHeartbeats 4000000
/-! a law that asks repr: its def runs where no guard stands -/
namespace DL
open PySem PySem.Spec PyProof.Rows L2 Evl
structure FnG (P : Program) (w : World) (K : PySem.W.Frag) (mg : Str → Option Value) (base : Heap) (CX : CXT) (k : Nat) (f : Addr) (fd : FuncData) (ps : List Str) (sp : Sp) : Prop where
  len : ∀ vs H Q E, sp vs H Q E → vs.length = ps.length
  run : ∀ (A : Around) (outer : List Env) (s : Shared) (H : Hp) (args : Args) (us : List Value) (vs : List V) (Q : VK) (E : XK), A.guards = some [] → Room k A → Env0 P w K mg base A outer s H → BindsTo s fd args (ps.zip us) → Vals vs us → sp vs H Q E →
    codeAny (model P w) A (.call (.ref f) args) (CR CX outer P w H s Q E) s
theorem okG {P : Program} {w : World} {K : PySem.W.Frag} {mg : Str → Option Value} {base : Heap} {CX : CXT} {x qual : Str} {st : Stmt} {f : Addr} {fd : FuncData} {N ps : List Str} {k : Nat} {sp : Sp} (F : Fun K x qual st f fd) (S : FnScope N ps (defScope st)) (len : ∀ vs H Q E, sp vs H Q E → vs.length = ps.length)
    (body : ∀ (cdv : Value) (A : Around) (outer : List Env) (s : Shared) (H : Hp) (vs : List V) (Q : VK) (E : XK), A.guards = some [] → Room k (A.deeper (envOfC qual (defScope st) s.heap.objs.size f cdv)) → sp vs H Q E →
      ∃ t, PSs (cxOf CX P w K mg base N qual (defScope st) f cdv A outer s H E) (defBody st) t ∧ t { nx := fun _ H' => Q .non H', rt := Q } (L2.start N vs) H) : FnG P w K mg base CX (k + 1) f fd ps sp := by
  obtain ⟨⟨oc, od, kV, doc, pm, an, cdv, ct, osl, rfl, lk, hcd⟩, _⟩ := F
  exact ⟨len, fun A outer s H args us vs Q E hg hr e0 hb r h => LamX.run_ofS lk hcd S hr e0 hb r (len _ _ _ _ h) fun hr2 => body cdv A outer s H vs Q E hg hr2 h⟩
section
variable {P : Program} {w : World} {K : PySem.W.Frag} {mg mb : Str → Option Value} {CX : CXT} {k : Nat} {fa a : Addr} {fd : FuncData} {x : Str} {sp : Sp} {s1 : Shared} {vs : List Value} {ns : List Int}
theorem callG_at (KX : K.In s1.heap) (hns : s1.heap.Ns mainGlobals mg) (hb : s1.heap.Ns builtinsNs mb) (hbb : ∀ y : Str, y ≠ "__name__" → mb y = bootBuiltins y) (lim : s1.heap.NoLimit) (gens : s1.gens = #[])
    (obj : s1.heap.get? a = some { cls := .type "list", data := .seq vs.toArray }) (room : Room k callerA)
    (F : ∀ base : Heap, K.In base → base.Ns mainGlobals mg → FnG P w K mg base CX k fa fd [x] sp) (bind : ∀ (s : Shared) (u : Value), BindsTo s fd ⟨[u], []⟩ [(x, u)])
    (out : ∀ H e s', CX [] H s1 (fun _ _ _ => False) e s' → False) (H : Hp) (only : Only H) (ask : sp [.ref a] H (fun v _ => v = .bl true) fun _ _ _ => False)
    (held : HOk P w H s1.heap) (atA : ∀ b, H b ≠ none → b = a) (away : H a ≠ none → K.lookup a = none) :
    codeAny (model P w) callerA (.call (.ref fa) ⟨[.ref a], []⟩) (fun r s' => r = .ok (.ret (.bool true)) ∧ OldK s1.heap s'.heap ∧ s'.os = s1.os ∧ AllBare s'.gens) s1 := by
  have free : ∀ {b : Addr} {o : Obj}, s1.heap.get? b = some o → b ≠ a → (hidT s1.heap H).get? b = some o := fun {b o} e n => hidT_get e (by
    cases q : H b with
    | none => rfl
    | some u => exact absurd (atA b (by rw [q]; simp)) n)
  have names : ∀ {b : Addr} {m : Str → Option Value}, s1.heap.Ns b m → (hidT s1.heap H).Ns b m := fun {b m} z => by
    obtain ⟨o, es, ep, e, d, r⟩ := z
    refine ⟨o, es, ep, free e fun y => ?_, d, r⟩
    rw [y, obj] at e
    cases e
    exact nomatch (show Data.seq vs.toArray _ = Data.dict es ep from d)
  have written : K.In (hidT s1.heap H) := fun b o e => by
    by_cases y : b = a
    · refine hidT_get (KX b o e) ?_
      cases q : H b with
      | none => rfl
      | some u =>
        rw [y] at e q
        rw [away (by rw [q]; simp)] at e
        cases e
    · exact free (KX b o e) y
  obtain ⟨mc, l1, l2⟩ := lim
  have modu : Mod K mg (hidT s1.heap H) := ⟨written, names hns, ⟨mb, names hb, hbb⟩, ⟨mc, names l1, l2⟩⟩
  have env : Env0 P w K mg (hidT s1.heap H) callerA [] s1 H := ⟨rfl, modu, fun b o e => of_hidT e, Nat.le_of_eq (hidT_size _ _), trivial, fun b z => (List.not_mem_nil (show b ∈ ([] : List Addr) from z)).elim, held, .of_eq gens⟩
  refine codeAny_mono ((F _ written (names hns)).run callerA [] s1 H ⟨[.ref a], []⟩ [.ref a] [.ref a] _ _ rfl room env (bind s1 (.ref a)) (.cons rfl .nil) ask) fun r s2 z => ?_
  cases r with
  | error e => exact (out H e s2 z).elim
  | ok fl =>
    cases fl with
    | ret u =>
      obtain ⟨v, H2, os, bare, un, held2, rv, rfl⟩ := z
      obtain rfl : u = Value.bool true := rv
      refine ⟨rfl, OldK.of_keep fun b o e => ?_, os, bare⟩
      rcases only b with none_ | ⟨ob, xs, fz⟩
      · exact un.keep b o e none_ (by intro m; exact absurd (show b ∈ ([] : List Addr) from m) (by simp)) (by simp)
      · obtain ⟨o1, _⟩ := held b _ fz
        obtain ⟨o2, _⟩ := held2 b _ (un.frzs b ob _ fz)
        rw [e] at o1
        cases o1
        exact o2
    | next => exact z.elim
    | brk => exact z.elim
    | cont => exact z.elim
/-- the script is one of the module's own lists, or a list of its own -/
theorem callG (KX : K.In s1.heap) (hns : s1.heap.Ns mainGlobals mg) (hb : s1.heap.Ns builtinsNs mb) (hbb : ∀ y : Str, y ≠ "__name__" → mb y = bootBuiltins y) (lim : s1.heap.NoLimit) (gens : s1.gens = #[])
    (obj : s1.heap.get? a = some { cls := .type "list", data := .seq vs.toArray }) (isI : IntsAre vs ns) (few : ns.length ≤ sizeLine) (room : Room k callerA)
    (F : ∀ base : Heap, K.In base → base.Ns mainGlobals mg → FnG P w K mg base CX k fa fd [x] sp) (bind : ∀ (s : Shared) (u : Value), BindsTo s fd ⟨[u], []⟩ [(x, u)])
    (ask : ∀ H : Hp, Only H → SqL K H a (ns.map V.int) → sp [.ref a] H (fun v _ => v = .bl true) fun _ _ _ => False) (out : ∀ H e s', CX [] H s1 (fun _ _ _ => False) e s' → False) :
    codeAny (model P w) callerA (.call (.ref fa) ⟨[.ref a], []⟩) (fun r s' => r = .ok (.ret (.bool true)) ∧ OldK s1.heap s'.heap ∧ s'.os = s1.os ∧ AllBare s'.gens) s1 := by
  have vals := vals_ints isI
  have len := isI.length
  cases known : K.lookup a with
  | some o =>
    have e := KX a o known
    rw [obj] at e
    cases e
    have only : Only (fun _ : Addr => (none : Option HO)) := fun _ => .inl rfl
    have seq : SqL K (fun _ : Addr => (none : Option HO)) a (ns.map V.int) := .inr ⟨_, vs.toArray, _, known, rfl, rfl, rfl, by rw [List.size_toArray, len]; exact few, by simpa using vals⟩
    exact callG_at KX hns hb hbb lim gens obj room F bind out _ only (ask _ only seq) (fun b u z => nomatch (show (none : Option HO) = some u from z)) (fun b z => (z rfl).elim) fun z => (z rfl).elim
  | none =>
    let H : Hp := fun b => if b = a then some (.frz { cls := .type "list", data := .seq vs.toArray } (.lst (ns.map V.int))) else none
    have at_ : H a = some (.frz { cls := .type "list", data := .seq vs.toArray } (.lst (ns.map V.int))) := if_pos rfl
    have off : ∀ b, b ≠ a → H b = none := fun b n => if_neg n
    have only : Only H := fun b => by
      by_cases y : b = a
      · exact .inr ⟨_, _, y ▸ at_⟩
      · exact .inl (off b y)
    have seq : SqL K H a (ns.map V.int) := .inl (.inr ⟨_, at_⟩)
    refine callG_at KX hns hb hbb lim gens obj room F bind out H only (ask H only seq) (fun b u z => ?_) (fun b z => ?_) fun _ => known
    · by_cases y : b = a
      · subst y
        rw [at_] at z
        cases z
        exact ⟨obj, by rw [List.length_map]; exact few, vs, _, vals, obj⟩
      · rw [off b y] at z
        cases z
    · by_cases y : b = a
      · exact y
      · exact absurd (off b y) z
end
theorem walkG {l : PySem.W.OpenLaw} {n k : Nat} {q : Program} {loose : List Str} {XP : (Str → Option Value) → Heap → Prop} {YP : World → Heap → Prop} {d : DefRec} {K : Params → PySem.W.Frag} {CX : World → CXT} {sp : World → Sp} {x : Str}
    (most : l.most = some n) (line : n ≤ sizeLine) (plain : d.params.defaults = []) (room : Room k callerA) (keep : ∀ (w : World) (h : Heap), YP w h → (K w.params).In h)
    (F : ∀ (w : World) (mg : Str → Option Value) (fa : Addr) (h : Heap), (K w.params).In h → h.Ns mainGlobals mg → mg d.name = some (.ref fa) →
      ∃ fd : FuncData, (∀ (s : Shared) (u : Value), BindsTo s fd ⟨[u], []⟩ [(x, u)]) ∧ ∀ base : Heap, (K w.params).In base → base.Ns mainGlobals mg → FnG l.prog w (K w.params) mg base (CX w) k fa fd [x] (sp w))
    (ask : ∀ (w : World) (H : Hp) (a : Addr) (ns : List Int), ns.length ≤ n → Only H → SqL (K w.params) H a (ns.map V.int) → sp w [.ref a] H (fun v _ => v = .bl true) fun _ _ _ => False)
    (out : ∀ (w : World) (H : Hp) (s : Shared) (e : Value) (s' : Shared), CX w [] H s (fun _ _ _ => False) e s' → False) : PySem.W.WalkO q loose XP YP l.row.toRowW d [] (fun f vs => PySem.call f vs) := by
  apply Att.attach_call most plain
  intro w s0 s1 mg mb fa o pm cd doc a vs ns G Y ho hd hcd hmg hobj hints hlen hg
  obtain ⟨fd, hb, hF⟩ := F w mg fa _ (keep w _ Y) G.T.g hmg
  exact callG (keep w _ Y) G.T.g G.T.b G.T.builtins G.T.nolimit hg hobj hints (Nat.le_trans hlen line) room hF hb (fun H h1 h2 => ask w H a ns hlen h1 h2) fun H e s' => out w H s1 e s'
end DL
set_option Elab.async false
set_option linter.all false
set_option maxRecDepth 100000
set_option maxHeartbeats 4000000
/-! the same with the table of the law's own code objects (its lambdas) -/
namespace DL
open PySem PySem.Spec PyProof.Rows L2 Evl LamX
section
variable {P : Program} {w : World} {K : PySem.W.Frag} {mg mb : Str → Option Value} {CX : CXT} {k : Nat} {fa a c T : Addr} {fd : FuncData} {x : Str} {sp : Sp} {s1 : Shared} {vs : List Value} {ns : List Int}
theorem callT_at (KX : K.In s1.heap) (hns : s1.heap.Ns mainGlobals mg) (hb : s1.heap.Ns builtinsNs mb) (hbb : ∀ y : Str, y ≠ "__name__" → mb y = bootBuiltins y) (lim : s1.heap.NoLimit) (gens : s1.gens = #[])
    (tab : s1.heap.get? T = some { cls := .none, data := .fields #[] }) (free_ : K.lookup T = none) (code : PySem.W.CodeHd s1.heap c T)
    (bmod : ∃ (bm : Addr) (ob : Obj), mg "__builtins__" = some (.ref bm) ∧ bm ≠ builtinsNs ∧ s1.heap.get? bm = some ob ∧ ob.cls = .type "module" ∧ ob.dict = some builtinsNs ∧ ob.data = .plain)
    (obj : s1.heap.get? a = some { cls := .type "list", data := .seq vs.toArray }) (room : Room k callerA)
    (F : ∀ base : Heap, K.In base → base.Ns mainGlobals mg → TabB base mg c T → FnG P w K mg base CX k fa fd [x] sp) (bind : ∀ (s : Shared) (u : Value), BindsTo s fd ⟨[u], []⟩ [(x, u)])
    (out : ∀ H e s', CX [] H s1 (fun _ _ _ => False) e s' → False) (H : Hp) (atT : H T = some (.tbl #[])) (only : ∀ b, H b = none ∨ b = T ∨ ∃ o xs, H b = some (.frz o (.lst xs))) (ask : sp [.ref a] H (fun v _ => v = .bl true) fun _ _ _ => False)
    (held : HOk P w H s1.heap) (atA : ∀ b, H b ≠ none → b = a ∨ b = T) (away : H a ≠ none → K.lookup a = none) :
    codeAny (model P w) callerA (.call (.ref fa) ⟨[.ref a], []⟩) (fun r s' => r = .ok (.ret (.bool true)) ∧ OldK s1.heap s'.heap ∧ s'.os = s1.os ∧ AllBare s'.gens) s1 := by
  have none_of : ∀ {b : Addr}, b ≠ a → b ≠ T → H b = none := fun {b} n1 n2 => by
    cases q : H b with
    | none => rfl
    | some u =>
      rcases atA b (by rw [q]; simp) with y | y
      · exact absurd y n1
      · exact absurd y n2
  have free : ∀ {b : Addr} {o : Obj}, s1.heap.get? b = some o → b ≠ a → b ≠ T → (hidT s1.heap H).get? b = some o := fun {b o} e n1 n2 => hidT_get e (none_of n1 n2)
  -- an object that is neither a list nor a table
  have other : ∀ {b : Addr} {o : Obj}, s1.heap.get? b = some o → (∀ us n, o.data ≠ .seq us n) → o.data ≠ .fields #[] → b ≠ a ∧ b ≠ T := fun {b o} e n1 n2 => by
    refine ⟨fun y => ?_, fun y => ?_⟩
    · rw [y, obj] at e
      cases e
      exact n1 _ _ rfl
    · rw [y, tab] at e
      cases e
      exact n2 rfl
  have names : ∀ {b : Addr} {m : Str → Option Value}, s1.heap.Ns b m → (hidT s1.heap H).Ns b m := fun {b m} z => by
    obtain ⟨o, es, ep, e, d, r⟩ := z
    obtain ⟨n1, n2⟩ := other e (fun us n y => by rw [d] at y; cases y) (fun y => by rw [d] at y; cases y)
    exact ⟨o, es, ep, free e n1 n2, d, r⟩
  have written : K.In (hidT s1.heap H) := fun b o e => by
    refine hidT_get (KX b o e) ?_
    cases q : H b with
    | none => rfl
    | some u =>
      rcases atA b (by rw [q]; simp) with y | y
      · rw [y] at e q
        rw [away (by rw [q]; simp)] at e
        cases e
      · rw [y, free_] at e
        cases e
  obtain ⟨mc, l1, l2⟩ := lim
  have modu : L2.Mod K mg (hidT s1.heap H) := ⟨written, names hns, ⟨mb, names hb, hbb⟩, ⟨mc, names l1, l2⟩⟩
  have TB : TabB (hidT s1.heap H) mg c T := by
    refine ⟨?_, ?_, fun z => ?_⟩
    · obtain ⟨o, us, file, tf, flags, tg, inF, text, tt, e1, r1, r2, r3, r4⟩ := code
      obtain ⟨n1, n2⟩ := other e1 (fun us' n y => by rw [r2] at y; cases y) (fun y => by
        rw [r2] at y
        cases y
        simp at r3)
      exact ⟨o, us, file, tf, flags, tg, inF, text, tt, free e1 n1 n2, r1, r2, r3, r4⟩
    · obtain ⟨bm, ob, b1, b2, b3, b4, b5, b6⟩ := bmod
      obtain ⟨n1, n2⟩ := other b3 (fun us n y => by rw [b6] at y; cases y) (fun y => by rw [b6] at y; cases y)
      have nG : bm ≠ mainGlobals := fun y => by
        obtain ⟨o, es, ep, e, d, _⟩ := hns
        rw [y, e] at b3
        cases b3
        rw [d] at b6
        cases b6
      exact ⟨bm, ob, b1, b2, nG, n2, free b3 n1 n2, b4, b5, b6⟩
    · obtain ⟨o, es, ep, e, d, _⟩ := hns
      rw [z, tab] at e
      cases e
      cases d
  have env : Env0 P w K mg (hidT s1.heap H) callerA [] s1 H := ⟨rfl, modu, fun b o e => of_hidT e, Nat.le_of_eq (hidT_size _ _), trivial, fun b z => (List.not_mem_nil (show b ∈ ([] : List Addr) from z)).elim, held, .of_eq gens⟩
  refine codeAny_mono ((F _ written (names hns) TB).run callerA [] s1 H ⟨[.ref a], []⟩ [.ref a] [.ref a] _ _ rfl room env (bind s1 (.ref a)) (.cons rfl .nil) ask) fun r s2 z => ?_
  cases r with
  | error e => exact (out H e s2 z).elim
  | ok fl =>
    cases fl with
    | ret u =>
      obtain ⟨v, H2, os, bare, un, held2, rv, rfl⟩ := z
      obtain rfl : u = Value.bool true := rv
      have kept : ∀ b o, b ≠ T → s1.heap.get? b = some o → s2.heap.get? b = some o := fun b o nb e => by
        rcases only b with none_ | y | ⟨ob, xs, fz⟩
        · exact un.keep b o e none_ (by intro m; exact absurd (show b ∈ ([] : List Addr) from m) (by simp)) (by simp)
        · exact absurd y nb
        · obtain ⟨o1, _⟩ := held b _ fz
          obtain ⟨o2, _⟩ := held2 b _ (un.frzs b ob _ fz)
          rw [e] at o1
          cases o1
          exact o2
      obtain ⟨more, grown⟩ := un.tbls T #[] atT
      have now : s2.heap.get? T = some { cls := .none, data := .fields (#[] ++ more) } := held2 T _ grown
      refine ⟨rfl, ⟨fun b o e => ?_, fun b o e => ?_⟩, os, bare⟩
      · by_cases y : b = T
        · subst y
          rw [tab] at e
          cases e
          exact .inr (.inl ⟨(code.tab tab).isCodeTable, rfl, #[], more, rfl, now⟩)
        · exact .inl (kept b o y e)
      · by_cases y : b = T
        · exact ⟨_, y ▸ now⟩
        · exact ⟨o, kept b o y e⟩
    | next => exact z.elim
    | brk => exact z.elim
    | cont => exact z.elim
theorem callT (KX : K.In s1.heap) (hns : s1.heap.Ns mainGlobals mg) (hb : s1.heap.Ns builtinsNs mb) (hbb : ∀ y : Str, y ≠ "__name__" → mb y = bootBuiltins y) (lim : s1.heap.NoLimit) (gens : s1.gens = #[])
    (tab : s1.heap.get? T = some { cls := .none, data := .fields #[] }) (free_ : K.lookup T = none) (code : PySem.W.CodeHd s1.heap c T)
    (bmod : ∃ (bm : Addr) (ob : Obj), mg "__builtins__" = some (.ref bm) ∧ bm ≠ builtinsNs ∧ s1.heap.get? bm = some ob ∧ ob.cls = .type "module" ∧ ob.dict = some builtinsNs ∧ ob.data = .plain)
    (obj : s1.heap.get? a = some { cls := .type "list", data := .seq vs.toArray }) (isI : IntsAre vs ns) (few : ns.length ≤ sizeLine) (room : Room k callerA)
    (F : ∀ base : Heap, K.In base → base.Ns mainGlobals mg → TabB base mg c T → FnG P w K mg base CX k fa fd [x] sp) (bind : ∀ (s : Shared) (u : Value), BindsTo s fd ⟨[u], []⟩ [(x, u)])
    (ask : ∀ H : Hp, H T = some (.tbl #[]) → SqL K H a (ns.map V.int) → sp [.ref a] H (fun v _ => v = .bl true) fun _ _ _ => False) (out : ∀ H e s', CX [] H s1 (fun _ _ _ => False) e s' → False) :
    codeAny (model P w) callerA (.call (.ref fa) ⟨[.ref a], []⟩) (fun r s' => r = .ok (.ret (.bool true)) ∧ OldK s1.heap s'.heap ∧ s'.os = s1.os ∧ AllBare s'.gens) s1 := by
  have vals := vals_ints isI
  have len := isI.length
  have aT : a ≠ T := fun y => by
    rw [y, tab] at obj
    cases obj
  cases known : K.lookup a with
  | some o =>
    have e := KX a o known
    rw [obj] at e
    cases e
    let H : Hp := fun b => if b = T then some (.tbl #[]) else none
    have at_ : H T = some (.tbl #[]) := if_pos rfl
    have off : ∀ b, b ≠ T → H b = none := fun b n => if_neg n
    have seq : SqL K H a (ns.map V.int) := .inr ⟨_, vs.toArray, _, known, rfl, rfl, rfl, by rw [List.size_toArray, len]; exact few, by simpa using vals⟩
    refine callT_at KX hns hb hbb lim gens tab free_ code bmod obj room F bind out H at_ (fun b => ?_) (ask H at_ seq) (fun b u z => ?_) (fun b z => ?_) fun z => (z (off a aT)).elim
    · by_cases y : b = T
      · exact .inr (.inl y)
      · exact .inl (off b y)
    · by_cases y : b = T
      · subst y
        rw [at_] at z
        cases z
        exact tab
      · rw [off b y] at z
        cases z
    · by_cases y : b = T
      · exact .inr y
      · exact absurd (off b y) z
  | none =>
    let H : Hp := fun b => if b = a then some (.frz { cls := .type "list", data := .seq vs.toArray } (.lst (ns.map V.int))) else if b = T then some (.tbl #[]) else none
    have at_ : H a = some (.frz { cls := .type "list", data := .seq vs.toArray } (.lst (ns.map V.int))) := if_pos rfl
    have atT : H T = some (.tbl #[]) := (if_neg (Ne.symm aT)).trans (if_pos rfl)
    have off : ∀ b, b ≠ a → b ≠ T → H b = none := fun b n1 n2 => (if_neg n1).trans (if_neg n2)
    have seq : SqL K H a (ns.map V.int) := .inl (.inr ⟨_, at_⟩)
    refine callT_at KX hns hb hbb lim gens tab free_ code bmod obj room F bind out H atT (fun b => ?_) (ask H atT seq) (fun b u z => ?_) (fun b z => ?_) fun _ => known
    · by_cases y : b = a
      · exact .inr (.inr ⟨_, _, y ▸ at_⟩)
      · by_cases y2 : b = T
        · exact .inr (.inl y2)
        · exact .inl (off b y y2)
    · by_cases y : b = a
      · subst y
        rw [at_] at z
        cases z
        exact ⟨obj, by rw [List.length_map]; exact few, vs, _, vals, obj⟩
      · by_cases y2 : b = T
        · subst y2
          rw [atT] at z
          cases z
          exact tab
        · rw [off b y y2] at z
          cases z
    · by_cases y : b = a
      · exact .inl y
      · by_cases y2 : b = T
        · exact .inr y2
        · exact absurd (off b y y2) z
end
/-- the head of such a law -/
theorem walkT {l : PySem.W.OpenLaw} {n k : Nat} {q : Program} {loose : List Str} {XP : (Str → Option Value) → Heap → Prop} {YP : World → Heap → Prop} {d : DefRec} {K : Params → PySem.W.Frag} {CX : World → CXT} {x : Str}
    (most : l.most = some n) (line : n ≤ sizeLine) (plain : d.params.defaults = []) (room : Room k callerA) (keep : ∀ (w : World) (h : Heap), YP w h → (K w.params).In h)
    (F : ∀ (w : World) (mg : Str → Option Value) (fa : Addr) (h : Heap), YP w h → (K w.params).In h → h.Ns mainGlobals mg → mg d.name = some (.ref fa) →
      ∃ (fd : FuncData) (c T : Addr) (sp : Sp), h.get? T = some { cls := .none, data := .fields #[] } ∧ (K w.params).lookup T = none ∧ PySem.W.CodeHd h c T ∧ (∀ (s : Shared) (u : Value), BindsTo s fd ⟨[u], []⟩ [(x, u)]) ∧
        (∀ (H : Hp) (a : Addr) (ns : List Int), ns.length ≤ n → H T = some (.tbl #[]) → SqL (K w.params) H a (ns.map V.int) → sp [.ref a] H (fun v _ => v = .bl true) fun _ _ _ => False) ∧
        ∀ base : Heap, (K w.params).In base → base.Ns mainGlobals mg → TabB base mg c T → FnG l.prog w (K w.params) mg base (CX w) k fa fd [x] sp)
    (out : ∀ (w : World) (H : Hp) (s : Shared) (e : Value) (s' : Shared), CX w [] H s (fun _ _ _ => False) e s' → False) : PySem.W.WalkO q loose XP YP l.row.toRowW d [] (fun f vs => PySem.call f vs) := by
  apply Att.attach_call most plain
  intro w s0 s1 mg mb fa o pm cd doc a vs ns G Y ho hd hcd hmg hobj hints hlen hg
  obtain ⟨fd, c, T, sp, t1, t2, t3, bnd, ask, hF⟩ := F w mg fa _ Y (keep w _ Y) G.T.g hmg
  exact callT (keep w _ Y) G.T.g G.T.b G.T.builtins G.T.nolimit hg t1 t2 t3 G.T.bmain hobj hints (Nat.le_trans hlen line) room hF bnd (fun H h1 h2 => ask H a ns hlen h1 h2) fun H e s' => out w H s1 e s'
end DL
set_option Elab.async false
set_option linter.all false
set_option maxRecDepth 100000
set_option maxHeartbeats 4000000
/-! calls by names alone, the last parameter first -/
namespace DL
open PySem PySem.Spec PyProof.Rows L2 Evl
def gR (_ : List Value) (ws : List Value) : List Value := ws.reverse
def gRV (_ : List V) (zs : List V) : List V := zs.reverse
theorem vals_rev : ∀ {zs : List V} {ws : List Value}, Vals zs ws → Vals zs.reverse ws.reverse
  | _, _, .nil => .nil
  | _, _, .cons a t => by
    rw [List.reverse_cons, List.reverse_cons]
    exact Vals.append (vals_rev t) (.cons a .nil)
/-- the parameters bound by their names, in any order -/
def KwR (K : PySem.W.Frag) (fd : FuncData) (ps : List Str) : Prop := ∀ (s : Shared) (ws : List Value), K.In s.heap → ws.length = ps.length → BindsTo s fd ⟨[], ps.reverse.zip ws⟩ (ps.zip ws.reverse)
theorem kbn_rev {K : PySem.W.Frag} {fd : FuncData} {ps : List Str} (h : KwR K fd ps) : KBn K fd ps 0 ps.reverse gR gRV where
  to := fun s us ws k l1 l2 => by
    obtain rfl := List.eq_nil_of_length_eq_zero l1
    exact h s ws k (by rw [l2, List.length_reverse])
  rel := fun _ r => vals_rev r
/-- f(b = y, a = x) -/
def tCallR (n : Nat) (sp : Sp) (E : XK) (tk : TA) : TE := fun σ H Q => tk σ H fun zs H2 => zs.length = n ∧ sp zs.reverse H2 Q E
theorem pe_kw {X : Cx} {CX : CXT} {k : Nat} {f : Addr} {fd : FuncData} {ps : List Str} {sp : Sp} {E : XK} {x : Str} {p pos : Pos} {kws : List Keyword} {tk : TA} (F : FnOk X.prog X.w X.K X.mg X.base CX k f fd ps sp) (hr : Room k X.A) (hg : Gl X x) (hm : X.mg x = some (.ref f)) (hk : PySem.W.keepIn X.K (.ref f) = true)
    (hb : KwR X.K fd ps) (hx : Passes CX X E) (hkw : PK X kws tk) (hall : (backToKw pos (keywordEach kws X.env)).all (·.1.isSome) = true := by rfl) (hks : (backToKw pos (keywordEach kws X.env)).filterMap (·.1) = ps.reverse := by rfl) (hdb : (x == ("__debug__" : Str)) = false := by decide)
    (hpl : ((backTo pos (starEach [] X.env)).any (·.1) || (backToKw pos (keywordEach kws X.env)).any (·.1.isNone)) = false := by rfl) :
    PE X (.Call (.Name x p) [] kws pos) (tCallR ps.length sp E tk) := by
  constructor
  intro pins s σ H Q I h
  apply wpAny_Call_Name_kw
  refine ld_glob I hg hm ?_ hdb
  refine PySem.W.callWith_KW0 (h₀ := X.base) I.ok.mod.kin hk hall (thn (hkw.run pos pins s σ H _ I h) fun ws s2 z => ?_) hpl
  obtain ⟨zs, H2, I2, rz, l2, q2⟩ := z
  refine ⟨I2.kIn, ?_⟩
  rw [hks]
  exact run_fnN (us := []) (vs := []) F hr (kbn_rev hb) hx I2 .nil rz rfl (by rw [l2, List.length_reverse]) q2
/-- defs that are called by names -/
structure DFK (P : Program) (w : World) (K : PySem.W.Frag) (mg : Str → Option Value) (base : Heap) (CX : CXT) (nm : Str) (k : Nat) (ps : List Str) (sp : Sp) : Prop where
  ex : ∃ (f : Addr) (fd : FuncData), FnOk P w K mg base CX k f fd ps sp ∧ mg nm = some (.ref f) ∧ PySem.W.keepIn K (.ref f) = true ∧ KwR K fd ps
theorem pe_DK {X : Cx} {nm : Str} {k : Nat} {ps : List Str} {sp : Sp} {E : XK} {W : WX} {p pos : Pos} {kws : List Keyword} {tk : TA} (F : DFK X.prog X.w X.K X.mg X.base (L2.CX X.prog X.w) nm k ps sp) (tk_ : Takes X W) (hW : ∀ cls d σ H, E cls d H → W cls d σ H) (hr : Room k X.A) (hg : Gl X nm) (hkw : PK X kws tk)
    (hall : (backToKw pos (keywordEach kws X.env)).all (·.1.isSome) = true := by rfl) (hks : (backToKw pos (keywordEach kws X.env)).filterMap (·.1) = ps.reverse := by rfl) (hdb : (nm == ("__debug__" : Str)) = false := by decide)
    (hpl : ((backTo pos (starEach [] X.env)).any (·.1) || (backToKw pos (keywordEach kws X.env)).any (·.1.isNone)) = false := by rfl) :
    PE X (.Call (.Name nm p) [] kws pos) (tCallR ps.length sp E tk) := by
  obtain ⟨f, fd, h1, h2, h3, h4⟩ := F.ex
  exact pe_kw h1 hr hg h2 h3 h4 (passes_call tk_ hW) hkw hall hks hdb hpl
end DL
set_option Elab.async false
set_option linter.all false
set_option maxRecDepth 100000
set_option maxHeartbeats 4000000
/-! dicts with tuple keys: emptied, read as data, shown -/
namespace DL
open PySem PySem.Spec PyProof.Rows L2 Evl
section
variable {X : Cx} {pins : List (Addr × Obj)} {σ : L2.St} {H : Hp} {s : Shared}
def rClearT : V → List V → Hp → VK → Prop := fun x vs H Q => ∃ (a : Addr) (kvs : List (List Key × V)), x = .ref a ∧ vs = [] ∧ H a = some (.dT kvs) ∧ Q .non (upd H a (.dT []))
theorem mt_clearT : MtR X "dict.clear" rClearT := by
  intro pins s σ H x vs v us Q I rx rv h
  obtain ⟨a, kvs, rfl, rfl, e, q⟩ := h
  obtain rfl : v = Value.ref a := rx
  obtain rfl := rv.zero
  obtain ⟨z, hd, xs, rel, o, es, ep, ho, ex, hdat, hl, _, nd⟩ := dt_of I.hok e
  have sz : es.size ≤ sizeLine := by
    have l1 : es.toList.length = xs.length := by rw [hl, List.length_map]
    have l2 := Paired.length rel
    rw [Array.length_toList] at l1
    omega
  refine call_meetsIn PySem.F.slot_dict_clear (s := s) ⟨o, ho, ex.1⟩ PySem.F.entry_dict_clear (PySem.F.args_dict_clear_1 _) (meets_dict_clear_raw a) ⟨es, ep, ⟨o, ho, ex, hdat⟩, sz, fun h' raw same => ?_⟩
  obtain ⟨o2, ho2, ex2, hdat2⟩ := raw
  exact ⟨.non, upd H a (.dT []), d_write (ob := .dT []) I (by rw [e]; exact True.intro) same ⟨o2, ho2⟩ ⟨Nat.zero_le _, hd, [], .nil, o2, #[], ep + 1, ho2, ex2, hdat2, rfl, List.nodup_nil⟩, rfl, q⟩
/-- a dict with tuples of ints for keys and ints for values, as data -/
abbrev KI := List (List Int × Int)
def kvI (m : KI) : List (List Key × V) := m.map fun p => (p.1.map Sum.inl, .int p.2)
def dDict (m : KI) : PyData := .dict (m.map fun p => (tI p.1, PyData.int p.2))
theorem reads_ints {h : Heap} : ∀ {ns : List Int} {us : List Value}, Vals (ns.map V.int) us → ReadsAll h us (dI ns) []
  | [], _, .nil => .nil
  | n :: ns, _, .cons a t => by
    obtain ⟨t0, rfl⟩ := a
    exact ReadsAll.cons (as := []) (.int n t0) (reads_ints t)
theorem reads_tI (I : Inv X pins σ H s) {b : Addr} {ns : List Int} (e : H b = some (.tup (ns.map V.int))) : Reads s.heap (.ref b) (tI ns) [] := by
  obtain ⟨its, r, ⟨⟨cls, dd, data, sl⟩, ho, hc, n, hd⟩, _⟩ := I.tuple (st_of (K := X.K) e)
  simp only at hc hd
  subst hc hd
  exact Reads.tuple ho rfl rfl (by simpa using reads_ints r)
theorem reads_dT (I : Inv X pins σ H s) {a : Addr} {m : KI} (e : H a = some (.dT (kvI m))) : ∃ as, Reads s.heap (.ref a) (dDict m) as ∧ sysModules ∉ as := by
  obtain ⟨z, hd, xs, rel, o, es, ep, ho, ex, hdat, hl, _, nd⟩ := dt_of I.hok e
  have keys : ∀ {m : KI} {xs : List (List Key × Addr × Value)}, KT H (kvI m) xs → ReadsAll s.heap (xs.map fun x => Value.ref x.2.1) (m.map fun p => tI p.1) [] ∧ ReadsAll s.heap (xs.map fun x => x.2.2) (m.map fun p => PyData.int p.2) [] := by
    intro m
    induction m with
    | nil =>
      intro xs h
      cases h
      exact ⟨.nil, .nil⟩
    | cons p m ih =>
      intro xs h
      cases h with
      | @cons _ x _ xs a t =>
        obtain ⟨r1, r2⟩ := ih t
        obtain ⟨_, a2, a3⟩ := a
        have a2 : H x.2.1 = some (.tup (p.1.map V.int)) := by
          have e0 : ((p.1.map (Sum.inl : Int → Key)).map kV) = p.1.map V.int := by rw [List.map_map]; rfl
          rw [← e0]
          exact a2
        obtain ⟨t0, a3⟩ := (show ∃ t, x.2.2 = Value.int p.2 t from a3)
        refine ⟨ReadsAll.cons (as := []) (reads_tI I a2) r1, ?_⟩
        rw [List.map_cons, a3]
        exact ReadsAll.cons (as := []) (.int p.2 t0) r2
  obtain ⟨r1, r2⟩ := keys rel
  refine ⟨[a] ++ [], Reads.dict (as := []) (bs := []) ho ex.1 hdat ?_ ?_, ?_⟩
  · rw [hl, List.map_map, List.map_map]
    exact r1
  · rw [hl, List.map_map, List.map_map]
    exact r2
  · intro q
    have : sysModules = a := by simpa using q
    rw [← this] at hd
    simp at hd
end
end DL
set_option Elab.async false
set_option linter.all false
set_option maxRecDepth 100000
set_option maxHeartbeats 4000000
/-! a dict comprehension whose keys are tuples -/
namespace DL
open PySem PySem.Spec PyProof.Rows L2 Evl
section
variable {X : Cx} {pins : List (Addr × Obj)} {σ : L2.St} {H : Hp} {s : Shared}
/-- the new dict takes one more pair -/
theorem dT_put {E : Value → Shared → Prop} {D b : Addr} {kvs : List (List Key × V)} {k : List Key} {v : V} {r : Value} {Q : Unit → Shared → Prop} (hu : X.A.units + 1 < cLine) (I : Inv X pins σ H s) (hD : H D = some (.dT kvs)) (hb : H b = some (.tup (k.map kV)))
    (sz : kvs.length < sizeLine) (rv : RelV v r) (q : ∀ s', Inv X pins σ (upd H D (.dT (putK kvs k v))) s' → Q () s') : wpAny (model X.prog X.w) X.A (dictSet D (.ref b) r) Q E s := by
  obtain ⟨z, hd, xs, rel, dd⟩ := dt_of I.hok hD
  have lx : xs.length ≤ sizeLine := Paired.length rel ▸ z
  have room : (tupleKind (mixKind X.prog X.w)).room X.A := by
    show X.A.units < cLine
    omega
  refine wpAny_dictSet_heap (hsz := lx) room (key_of I.hok hb) dd fun h' now but => q _ ?_
  obtain ⟨o, es, ep, ho, ex, hdat, hl, _, nd⟩ := now
  refine d_write I (by rw [hD]; exact True.intro) but ⟨o, ho⟩ ⟨Nat.le_trans (length_putK kvs k v) sz, hd, _, (rel.put k hb rv).keeps fun c ys ec => ?_, o, es, ep, ho, ex, hdat, hl, nd⟩
  rw [upd_ne (ne_of ec hD fun y => nomatch y)]
  exact ec
/-- {k: v for ..}: every key a tuple that is known -/
def tDcT (wi : TI) (g : TG) (tt : TT) (tk tv : TE) (vs : List Nat) : TE := fun σ H Q => wi σ H fun J Ha => ∀ D, Ha D = none → ∃ (W : Nat → Hp → Prop) (n : Nat), W 0 (upd Ha D (.dT [])) ∧ ∀ i H, W i H →
  (J.stop i H ∧ Q (.ref D) H) ∨ (i < n ∧ J.go i H ∧ ∀ x Hx, J.yld i H x Hx → g x (wipe σ vs) Hx fun σ2 H2 => wipe σ2 vs = wipe σ vs ∧ tt σ2 H2 fun yes H3 =>
    if yes = true then tk σ2 H3 fun y H4 => tv σ2 H4 fun z H5 => ∃ (kvs : List (List Key × V)) (k : List Key) (b : Addr), y = .ref b ∧ H5 b = some (.tup (k.map kV)) ∧ H5 D = some (.dT kvs) ∧ kvs.length < sizeLine ∧ W (i + 1) (upd H5 D (.dT (putK kvs k z))) else W (i + 1) H3)
theorem pe_dcT {kx vx tg iter : Expr} {ifs : List Expr} {sc : Scope} {own : List (Str × Nat)} {pos : Pos} {wi : TI} {g : TG} {tt : TT} {tk tv : TE} (calm : X.calm = true) (nd : X.N.Nodup) (hu : X.A.units + 1 < cLine) (over : PI X tg iter wi) (blk : BlkOk X.N X.env.scope sc own)
    (pgG : ∀ (s : Shared) (H : Hp) (C : Addr) (cl : List (Str × Addr)) (fp : List Addr), PG (X.blk s H sc (compEnvC sc cl C X.env) fp) tg g)
    (ptG : ∀ (s : Shared) (H : Hp) (C : Addr) (cl : List (Str × Addr)) (fp : List Addr), PTs (X.blk s H sc (compEnvC sc cl C X.env) fp) ifs tt)
    (pkG : ∀ (s : Shared) (H : Hp) (C : Addr) (cl : List (Str × Addr)) (fp : List Addr), PE (X.blk s H sc (compEnvC sc cl C X.env) fp) kx tk)
    (pvG : ∀ (s : Shared) (H : Hp) (C : Addr) (cl : List (Str × Addr)) (fp : List Addr), PE (X.blk s H sc (compEnvC sc cl C X.env) fp) vx tv)
    (plain : ∀ x, foldedSetIterable iter X.env x = pure x := by intro _; rfl) : PE X (.DictComp kx vx [⟨tg, iter, ifs, 0⟩] sc pos) (tDcT wi g tt tk tv (own.map (·.2))) := by
  constructor
  intro pins s σ H Q I ask
  rw [arm_eval_DictComp]
  have fr : ∀ y ∈ sc.names, y.2 = .free → ∃ c, X.env.cells.lookup y.1 = some c := fun y m e => (blk.free y m e).elim (fun k => I.ok.has _ (.inl k)) fun k => I.ok.has _ (.inr k)
  refine wpAny_comprehension_free (use := none) rfl plain (closure_ok fr) blk.kind (fun y m e => by rw [blk.uniq y m, e]) ?_
  refine thn (over.run pins s σ H _ I ask) fun xv sA gotIter => thn gotIter fun itv sB gotIt => ?_
  obtain ⟨it, fp, tn, J, Ha, rfl, IB, T, stB, fB, next⟩ := gotIt
  refine wpAny_newObj_type (newEnv_comp ?_)
  obtain ⟨D, eD⟩ : ∃ D, D = sB.heap.objs.size := ⟨_, rfl⟩
  rw [← eD]
  have freshD : Ha D = none := IB.hok.fresh (Nat.le_of_eq eD.symm)
  obtain ⟨W, lim, w0, turn⟩ := next D freshD
  obtain ⟨sC, eC⟩ : ∃ sC : Shared, sC = { sB with heap := sB.heap.push { cls := .type "dict", data := .dict #[] } } := ⟨_, rfl⟩
  rw [← eC]
  have heapC : sC.heap = sB.heap.push { cls := .type "dict", data := .dict #[] } := by rw [eC]
  have IC : Inv X pins σ (upd Ha D (.dT [])) sC := by
    rw [eC, eD]
    exact IB.laid (t' := sB.toks) (fun b o e => Heap.get?_push_of_some _ e) (Nat.le_refl _) (dt_empty sB.heap IB.big)
  have small : ∀ b ∈ fp, b < sB.heap.objs.size := fun b m => by
    obtain ⟨o, e, _⟩ := T.obj _ _ stB b m
    exact Heap.lt_size e
  have fC : ∀ b ∈ fp, FpOk X pins (upd Ha D (.dT [])) b ∧ b < sC.heap.objs.size := fun b m => by
    have lt := small b m
    refine ⟨⟨?_, (fB b m).2⟩, ?_⟩
    · rw [upd_ne (eD ▸ Nat.ne_of_lt lt)]
      exact (fB b m).1
    · rw [heapC, Heap.size_push]
      exact Nat.lt_succ_of_lt lt
  have stC : tn 0 sC.heap := T.keep _ _ _ stB fun b _ o e => heapC ▸ Heap.get?_push_of_some _ e
  obtain ⟨Hc, eHc⟩ : ∃ Hc, Hc = upd Ha D (.dT []) := ⟨_, rfl⟩
  rw [← eHc] at IC fC w0
  obtain ⟨clo, eclo⟩ : ∃ clo, clo = cellsFrom (sC.heap.objs.size + 1) sc.names (cloFrom X.env.cells sc.names []) := ⟨_, rfl⟩
  obtain ⟨ce, ece⟩ : ∃ ce, ce = compEnvC sc clo sC.heap.objs.size X.env := ⟨_, rfl⟩
  have gP := pgG sC Hc sC.heap.objs.size clo fp
  have tP := ptG sC Hc sC.heap.objs.size clo fp
  have kP := pkG sC Hc sC.heap.objs.size clo fp
  have vP := pvG sC Hc sC.heap.objs.size clo fp
  have IE := block_start IC blk nd fC
  rw [← eclo, ← ece] at IE
  rw [← ece] at gP tP kP vP
  have locE : ce.locals = sC.heap.objs.size := by rw [ece]; rfl
  obtain ⟨sE, eE⟩ : ∃ sE : Shared, sE = { sC with heap := pushCells (sC.heap.push { cls := .type "dict", data := .dict #[] }) sc.names } := ⟨_, rfl⟩
  rw [← eE] at IE
  have stE : tn 0 sE.heap := T.keep _ _ _ stC fun b _ o e => eE ▸ pushCells_keeps _ _ _ _ (Heap.get?_push_of_some _ e)
  have here : ∀ {σ' : L2.St} {H' : Hp} {s' : Shared}, Inv (X.blk sC Hc sc ce fp) [] σ' H' s' → (∀ b ∈ fp, H' b = none) → ∀ b ∈ fp, FpOk (X.blk sC Hc sc ce fp) [] H' b := fun {_ _ _} I' free b m =>
    ⟨free b m, (I'.ok.exf b m).1, I'.ok.exfs b m, .inl m, fun x c e => (I'.ok.exf b m).2 x c e, fun p q => (List.not_mem_nil (show p ∈ ([] : List (Addr × Obj)) from q)).elim⟩
  let Wd : Nat → Shared → Prop := fun n s' => ∃ i H', n = lim - i ∧ Inv (X.blk sC Hc sc ce fp) [] (wipe σ (own.map (·.2))) H' s' ∧ tn i s'.heap ∧ (∀ b ∈ fp, H' b = none) ∧ W i H'
  subst ece eclo
  have loop : codeAny (model X.prog X.w) X.A (.compLoop (.DictComp kx vx [⟨tg, iter, ifs, 0⟩] sc pos) 0 (.ref it) (.ref D) (compEnvC sc (cellsFrom (sC.heap.objs.size + 1) sc.names (cloFrom X.env.cells sc.names [])) sC.heap.objs.size X.env)) (compPost (model X.prog X.w) X.A X.xe none (fun v s' => ∃ x H', Inv X pins σ H' s' ∧ RelV x v ∧ Q x H') (.ref D) sC.heap.objs.size) sE := by
    refine compLoop_anyD Wd ?_ (lim - 0) ⟨0, Hc, rfl, IE, stE, fun b m => (fC b m).1.1, w0⟩
    rintro n s5 ⟨i, H5, rfl, I5, st5, n5, w5⟩
    rcases turn i H5 w5 with ⟨stop, done⟩ | ⟨lt, go, step⟩
    · refine thnF (T.done (X.blk sC Hc sc _ fp) rfl rfl rfl calm i [] s5 _ H5 (fun _ _ => False) I5 (here I5 n5) st5 stop) fun r s6 z => ?_
      obtain ⟨rfl, I6⟩ := z
      have I7 : Inv X pins σ H5 s6 := IC.call' (ch := fp) I6.os I6.base I6.hok I6.bare fun b m => ⟨(fC b m).1.2.2.2.1, (fC b m).1.2.1, (fC b m).1.2.2.2.2.1, (fC b m).1.2.2.2.2.2⟩
      have noC : H5 sC.heap.objs.size = none := I6.free
      obtain ⟨m, ns, _⟩ := I6.loc
      obtain ⟨f0, f1, f2, f3, f4, f5⟩ := IC.fpOk (Nat.le_refl _) noC
      refine ⟨m, ns, fun h9 sb => ?_⟩
      exact ⟨.ref D, H5, I7.turned (t' := s6.toks) (fun b o hb e => (sb.2 b hb).trans e) noC f1 f3 f4 f5, rfl, done⟩
    · refine thnF (T.item (X.blk sC Hc sc _ fp) rfl rfl rfl calm i [] s5 _ H5 (fun _ _ => False) I5 (here I5 n5) st5 go) fun r s6 z => ?_
      obtain ⟨u, rfl, z6⟩ := z
      refine thnF z6 fun _ s7 z7 => ?_
      obtain ⟨x, H7, I7, r7, y7, st7, n7⟩ := z7
      refine thnF (gP.run _ s7 _ H7 x u _ (I7.pinned (here I7 n7) (T.obj _ _ st7)) r7 (step x H7 y7)) fun _ s8 z8 => ?_
      obtain ⟨σ8, H8, I8, w8, q8⟩ := z8
      refine thnF (tP.run _ s8 σ8 H8 _ I8 q8) fun yes s9 z9 => ?_
      obtain ⟨H9, I9, q9⟩ := z9
      have again : ∀ {s' : Shared} {H' : Hp}, Inv (X.blk sC Hc sc (compEnvC sc (cellsFrom (sC.heap.objs.size + 1) sc.names (cloFrom X.env.cells sc.names [])) sC.heap.objs.size X.env) fp) ([] ++ pinsAt fp s7.heap) σ8 H' s' → W (i + 1) H' → ∃ m, m < lim - i ∧ Wd m s' := fun {s' H'} I' nx => by
        have pinned : ∀ b ∈ fp, ∀ o, s7.heap.get? b = some o → s'.heap.get? b = some o ∧ H' b = none := fun b m o e => by
          obtain ⟨z1, z2, _⟩ := I'.pin (b, o) (List.mem_append_right _ (List.mem_append_right _ (mem_pinsAt m e)))
          exact ⟨z1, z2⟩
        have same : (wipe σ (own.map (·.2))).length = σ8.length := (congrArg List.length w8).symm.trans (wipe_length _ _)
        refine ⟨lim - (i + 1), by omega, i + 1, H', rfl, (I'.unpinned (pins := [])).weak same (fun j v e => (wipe_some (w8 ▸ e)).1), T.keep _ _ _ st7 fun b m o e => (pinned b m o e).1, fun b m => ?_, nx⟩
        obtain ⟨o, e, _⟩ := T.obj _ _ st7 b m
        exact (pinned b m o e).2
      cases yes with
      | false => exact again I9 q9
      | true =>
        refine thnF (kP.run _ s9 σ8 H9 _ I9 q9) fun kv s10 z10 => ?_
        obtain ⟨y, H10, I10, r10, q10⟩ := z10
        refine thnF (vP.run _ s10 σ8 H10 _ I10 q10) fun vv s11 z11 => ?_
        obtain ⟨v, H11, I11, r11, kvs, k, b, rfl, hb, hD, sz, nx⟩ := z11
        obtain rfl : kv = Value.ref b := r10
        exact dT_put (X := X.blk sC Hc sc _ fp) hu I11 hD hb sz r11 fun s12 I12 => again I12 nx
  rw [← eE]
  exact codeAny_compStart_dict loop (T.self X.A 0 _ _ _ stE loop)
end
end DL
set_option Elab.async false
set_option linter.all false
set_option maxRecDepth 100000
set_option maxHeartbeats 4000000
/-! list(d.values()) of a dict with tuple keys; repr of such dicts, alone and in lists -/
namespace DL
open PySem PySem.Spec PyProof.Rows L2 Evl
section
variable {X : Cx} {pins : List (Addr × Obj)} {σ : L2.St} {H : Hp} {s : Shared}
def rValsT : V → List V → Hp → VK → Prop := fun x vs H Q => ∃ (a : Addr) (kvs : List (List Key × V)), x = .ref a ∧ vs = [] ∧ H a = some (.dT kvs) ∧ ∀ p, H p = none → Q (.ref p) (upd H p (viewO "dict_values" p a))
theorem mt_valsT : MtR X "dict.values" rValsT := by
  intro pins s σ H x vs v us Q I rx rv h
  obtain ⟨a, kvs, rfl, rfl, e, q⟩ := h
  obtain rfl : v = Value.ref a := rx
  obtain rfl := rv.zero
  obtain ⟨z, hd, xs, rel, o, es, ep, ho, ex, hdat, hl, _, nd⟩ := dt_of I.hok e
  refine call_meetsIn PySem.F.slot_dict_values (s := s) ⟨o, ho, ex.1⟩ PySem.F.entry_dict_values (PySem.F.args_dict_values_1 _) (meets_dict_values_raw a hd) ⟨⟨es, ep, o, ho, ex, hdat⟩, ?_⟩
  exact ⟨.ref s.heap.objs.size, _, I.laid (t' := s.toks) (fun b o q => Heap.get?_push_of_some _ q) (Nat.le_refl _) (viewO_ok (Heap.get?_push_size _ rfl)), rfl, q _ (I.hok.fresh (Nat.le_refl _))⟩
/-- list(view), the values whole numbers -/
def rListVT : List V → Hp → VK → Prop := fun xs H Q => ∃ (p a : Addr) (kvs : List (List Key × V)), xs = [.ref p] ∧ H p = some (viewO "dict_values" p a) ∧ H a = some (.dT kvs) ∧ ∀ r, H r = none → Q (.ref r) (upd H r (.lst (kvs.map Prod.snd)))
theorem call_listVT (calm : X.calm = true) : CallR X (.type "list") rListVT := by
  intro pins s σ H xs us Q I r h
  obtain ⟨p, a, kvs, rfl, hp, ha, q⟩ := h
  obtain rfl := Vals.ref1 r
  have hv : s.heap.get? p = some (DSub.viewOb "dict_values" a) := (show ObjOk X.prog X.w H s.heap p (viewO "dict_values" p a) from I.hok p _ hp).1
  obtain ⟨z, hd, ks, rel, o, es, ep, ho, ex, hdat, hl, _, nd⟩ := dt_of I.hok ha
  have l1 : es.size = ks.length := size_of_entries hl
  have l2 : kvs.length = ks.length := Paired.length rel
  refine PySem.W.kdl_call PySem.KdlSrc.rawValues (I.ok.hd calm) ⟨⟨_, hv, rfl, rfl⟩, o, ho, ex, hdat⟩ (by omega) fun h' tk acc c' keep e it => ?_
  have same : acc.toList = ks.map fun x => x.2.2 := by
    have n1 : acc.toList.length = ks.length := by rw [Array.length_toList, it.1]; exact l1
    refine List.ext_getElem? fun j => ?_
    rw [List.getElem?_map]
    rcases Nat.lt_or_ge j ks.length with lt | ge
    · have lt2 : j < acc.toList.length := by omega
      obtain ⟨hi, eu⟩ := it.2 j acc.toList[j] (by rw [← Array.getElem?_toList]; exact List.getElem?_eq_getElem lt2)
      have at_ : es.toList[j]? = some es[j] := by rw [Array.getElem?_toList, Array.getElem?_eq_getElem hi]
      rw [hl, List.getElem?_map, List.getElem?_eq_getElem lt] at at_
      rw [List.getElem?_eq_getElem lt2, List.getElem?_eq_getElem lt, eu, ← Option.some.inj at_]
      rfl
    · rw [List.getElem?_eq_none ge, List.getElem?_eq_none (by omega)]
      rfl
  have both : ∀ {l : List (List Key × V)} {m : List (List Key × Addr × Value)}, KT H l m → Vals (l.map Prod.snd) (m.map fun x => x.2.2) := by
    intro l m r
    induction r with
    | nil => exact .nil
    | cons g t ih => exact .cons g.2.2 ih
  have vals : Vals (kvs.map Prod.snd) acc.toList := same ▸ both rel
  exact ⟨.ref s.heap.objs.size, _, I.laid (t' := tk) (o := .lst (kvs.map Prod.snd)) keep (Nat.le_refl _) ⟨by rw [List.length_map]; exact z, acc.toList, c', vals, by rw [Array.toArray_toList]; exact e⟩, rfl, q _ (I.hok.fresh (Nat.le_refl _))⟩
/-- repr(d) -/
def rReprT : List V → Hp → VK → Prop := fun xs H Q => ∃ (a : Addr) (m : KI), xs = [.ref a] ∧ H a = some (.dT (kvI m)) ∧ (dDict m).showable = true ∧ (dDict m).depth ≤ 80 ∧ (dDict m).shown.length ≤ sizeLine ∧ Q (.str (dDict m).shown) H
theorem call_reprT (hg : X.A.guards = some []) (hu : X.A.units + 100 < cLine) : CallR X (.builtin "repr") rReprT := by
  intro pins s σ H xs us Q I r h
  obtain ⟨a, m, rfl, ha, hs, hd, sz, q⟩ := h
  obtain rfl := Vals.ref1 r
  obtain ⟨as, rd, nm⟩ := reads_dT I ha
  exact repr_of_reads' rd hs (fun _ => nm) hg (by omega) (fun _ _ e => e) (fun h' u tk k => ⟨.str (dDict m).shown, H, I.kept k, ⟨u, rfl⟩, q⟩) sz
/-- dicts in a row -/
def DTs (H : Hp) : List V → List KI → Prop := Paired fun v m => ∃ a, v = .ref a ∧ H a = some (.dT (kvI m))
theorem reads_dTs (I : Inv X pins σ H s) : ∀ {vs : List V} {ms : List KI} {us : List Value}, DTs H vs ms → Vals vs us → ∃ as, ReadsAll s.heap us (ms.map dDict) as ∧ sysModules ∉ as
  | _, _, _, .nil, .nil => ⟨[], .nil, by simp⟩
  | _, _, _, .cons g t, .cons r rs => by
    obtain ⟨a, rfl, ha⟩ := g
    obtain rfl := r
    obtain ⟨a1, r1, n1⟩ := reads_dT I ha
    obtain ⟨a2, r2, n2⟩ := reads_dTs I t rs
    exact ⟨a1 ++ a2, .cons r1 r2, fun z => (List.mem_append.mp z).elim n1 n2⟩
def dRow (ms : List KI) : PyData := .list (ms.map dDict)
/-- repr([d, ..]) -/
def rReprLT : List V → Hp → VK → Prop := fun xs H Q => ∃ (p : Addr) (vs : List V) (ms : List KI), xs = [.ref p] ∧ H p = some (.lst vs) ∧ DTs H vs ms ∧ ms ≠ [] ∧ (dRow ms).showable = true ∧ (dRow ms).depth ≤ 80 ∧ (dRow ms).shown.length ≤ sizeLine ∧ Q (.str (dRow ms).shown) H
theorem call_reprLT (hg : X.A.guards = some []) (hu : X.A.units + 100 < cLine) : CallR X (.builtin "repr") rReprLT := by
  intro pins s σ H xs us Q I r h
  obtain ⟨p, vs, ms, rfl, hp, hv, ne, hs, hd, sz, q⟩ := h
  obtain rfl := Vals.ref1 r
  obtain ⟨_, us, n, rv, ho⟩ := (show ObjOk X.prog X.w H s.heap p (.lst vs) from I.hok p _ hp)
  obtain ⟨as, rd, nm⟩ := reads_dTs I hv rv
  have sz' : (listText (PyData.shownAll (ms.map dDict))).length ≤ sizeLine := by simpa only [dRow, PyData.shown] using sz
  obtain ⟨bs, below, shows⟩ := ReprAllK.of_readsAll (prog := X.prog) (w := X.w) rd (by simpa [dRow, PyData.showable] using hs) (fun _ => nm) fun t ht => Nat.le_trans (listText_mem_le ht) sz'
  have apart : p ∉ bs := not_mem_of_deeper (.list ho rfl rfl (by simpa using rd)) (by simp only [PyData.depth]; omega) below
  have typed : s.TypeIs (.ref p) "list" := ⟨_, ho, rfl⟩
  have deep : (dRow ms).depth = PyData.depthAll (ms.map dDict) + 1 := by simp only [dRow, PyData.depth]
  refine call_repr_slot (by omega) typed F.slot_list_repr.toG ?_
  cases us with
  | nil =>
    cases rv
    cases hv
    exact absurd rfl ne
  | cons u us =>
    refine call_list_reprK ho rfl rfl apart (by simpa using shows.length_eq) (fun i y e => shows.item i y (by simpa using e)) (show X.A.in1.guards = some [] from hg) (fun b _ => Clear.nil b) (by show X.A.units + 1 + (PyData.depthAll (ms.map dDict) + 1) < cLine; omega) (fun _ _ e => e) (fun h' u' tk k => ⟨listText (PyData.shownAll (ms.map dDict)), u', rfl, .str (dRow ms).shown, H, I.kept k, ⟨u', by simp only [dRow, PyData.shown]⟩, q⟩) sz'
end
end DL
set_option Elab.async false
set_option linter.all false
set_option maxRecDepth 100000
set_option maxHeartbeats 4000000
/-! what a law with lambdas wants besides -/
namespace DL
open PySem PySem.Spec PyProof.Rows L2 Evl LamX
theorem hu100 {A : Around} {k : Nat} (hr : Room k A) : A.units + 100 < cLine := by
  have := hr.un
  omega
/-- all parameters by their names, in any order that the text takes -/
theorem Fun.kwr {K : PySem.W.Frag} {x qual : Str} {st : Stmt} {f : Addr} {fd : FuncData} {ps : List Str} (F : Fun K x qual st f fd)
    (h : ∀ (kV doc pm : Value) (an : Option Addr) (cdv ct : Value) (ws : List Value), ws.length = ps.length → bindArgs (PySem.W.fnOf x qual (defArgs st) (defBody st) (defScope st) .none kV doc pm an cdv ct) ⟨[], ps.reverse.zip ws⟩ = pure (ps.zip ws.reverse)) : KwR K fd ps := by
  obtain ⟨⟨oc, od, kV, doc, pm, an, cdv, ct, osl, rfl, lk, hcd⟩, _⟩ := F
  exact fun s ws _ hl => BindsTo.of_eq (h kV doc pm an cdv ct ws hl)
/-- an own error's class as a value -/
theorem pe_cls {X : Cx} {x : Str} {C : Addr} {p : Pos} (T : ErC X.K X.mg x C) (hg : Gl X x) (hd : (x == ("__debug__" : Str)) = false := by decide) : PE X (.Name x p) (tC (.ref C)) := pe_glob hg T.gC rfl hd
/-- the def that catches what a lambda raises -/
structure CauF (K : PySem.W.Frag) (mg : Str → Option Value) (nm : Str) (CS : Addr) : Prop where
  ex : ∃ (g : Addr) (oc : Value) (od an : Option Addr) (osl : Array (Option Value)) (sg : Scope) (pg : Arguments) (dV kV doc pm cdv ct : Value) (k0 : Nat) (p1 p2 p3 p4 p5 p6 p7 p8 p9 p10 p11 p12 p13 p14 : Pos), mg nm = some (.ref g) ∧ PySem.W.keepIn K (.ref g) = true ∧
    K.lookup g = some ⟨oc, od, .func (PySem.W.fnOf nm nm pg (caughtB k0 p1 p2 p3 p4 p5 p6 p7 p8 p9 p10 p11 p12 p13 p14) sg dV kV doc pm an cdv ct), osl⟩ ∧ PySem.W.codeIn K cdv nm = true ∧
    L2.Binds K (PySem.W.fnOf nm nm pg (caughtB k0 p1 p2 p3 p4 p5 p6 p7 p8 p9 p10 p11 p12 p13 p14) sg dV kV doc pm an cdv ct) ["work"] [] ∧ FnScope ["work", "caught", "error"] ["work"] sg ∧
    sg.names.lookup ("CallError" : Str) = some .globalImplicit ∧ mg "CallError" = some (.ref CS) ∧ sg.names.lookup ("error" : Str) = some .local ∧ sg.names.lookup ("caught" : Str) = some .local ∧ sg.names.lookup ("work" : Str) = some .local
theorem pe_caughtD {X : Cx} {x y : Str} {CS : Addr} {k j : Nat} {p py pos : Pos} (F : CauF X.K X.mg x CS) (hg : Gl X x) (hr : Room (k + 2) X.A) (hN : X.N[j]? = some y) (hv : Vis X.env.scope y)
    (hdb : (x == ("__debug__" : Str)) = false := by decide) (hd : (y == ("__debug__" : Str)) = false := by decide) (hcd : (y == ("__classdict__" : Str)) = false := by decide) :
    PE X (.Call (.Name x p) [.Name y py] [] pos) (fun σ H Q => ∃ f c' params body scope tb, σ[j]? = some (some (.ref f)) ∧ H f = some (LamO f c' (X.env.qual ++ "<lambda>") params body scope (cloFrom X.env.cells scope.names [])) ∧ H c' = some (CodeO c' (X.env.qual ++ "<lambda>")) ∧ LamD X k params body scope tb ∧ TTc X.K CS tb σ H Q) := by
  obtain ⟨g, oc, od, an, osl, sg, pg, dV, kV, doc, pm, cdv, ct, k0, p1, p2, p3, p4, p5, p6, p7, p8, p9, p10, p11, p12, p13, p14, h1, h2, h3, h4, h5, h6, h7, h8, h9, h10, h11⟩ := F.ex
  exact pe_caught hg h1 h2 h3 h4 h5 h6 h7 h8 h9 h10 h11 hr hN hv hdb hd hcd
end DL
set_option Elab.async false
set_option linter.all false
set_option maxRecDepth 100000
set_option maxHeartbeats 4000000
/-! comprehensions with a test, over data -/
namespace DL
open PySem PySem.Spec PyProof.Rows L2 Evl
section
variable {K : PySem.W.Frag} {σ : L2.St} {H : Hp} {ta tb te : TE} {ds : List PyData}
theorem eqV_int (a b : Int) : eqV (.int a) (.int b) = decide (a = b) := by
  unfold eqV
  rfl
theorem inV_ints (n : Int) : ∀ l : List Int, inV (.int n) (l.map V.int) = decide (n ∈ l)
  | [] => by simp [inV]
  | x :: l => by
    have ih := inV_ints n l
    unfold inV at ih ⊢
    rw [List.map_cons, List.any_cons, ih, eqV_int]
    by_cases h : x = n
    · subst h; simp
    · simp [h, Ne.symm h]
theorem flat_ints : ∀ l : List Int, (l.map V.int).all flatV = true
  | [] => rfl
  | _ :: l => by
    rw [List.map_cons, List.all_cons, flat_ints l]
    rfl
/-- n in t -/
theorem ev_inT {n : Int} {l : List Int} (ha : Ev ta σ H (.int n)) (hb : EvD K tb σ H (tI l)) : Ev (tOp (rIn K false) ta tb) σ H (.bl (decide (n ∈ l))) := fun H1 e Q q =>
  ha H1 e _ fun H2 e2 => hb H2 (e.trans e2) _ fun v H3 e3 hv => by
    obtain ⟨p, rfl, hp⟩ := dp_tI hv
    refine ⟨p, _, rfl, .inr hp, rfl, flat_ints l, ?_⟩
    rw [inV_ints]
    exact q H3 (e2.trans e3)
/-- zip of a tuple of ints and a list that stands -/
theorem ei_zipTL {S : List Addr} {q : Addr} {vs : List V} {a : List Int} (hS : Ls H S) (ha : EvD K ta σ H (tI a)) (hb : Ev tb σ H (.ref q)) (hq : H q = some (.lst vs)) (hn : q ∉ S) (hd : DpAll K H vs ds) (hi : immAll ds = true) :
    EvI K (iZipM K true false (tCons ta (tCons tb tNil))) σ H S (List.zipWith (fun x y => PyData.tuple [.int x, y]) a ds) := fun H1 e R r =>
  ha H1 e _ fun x H2 e2 hx => hb H2 (e.trans e2) _ fun H3 e3 => by
    obtain ⟨p, rfl, h1⟩ := dp_tI hx
    have h1 := ex_t e3 h1
    have up := (e.trans e2).trans e3
    have h2 := up _ _ hq
    have d2 := dpa_ex up _ _ hd
    refine ⟨p, q, _, _, rfl, sqa_t h1, sqa_l (sq_of h2), r _ H3 (e2.trans e3) ?_⟩
    rw [List.length_zipWith, ← dpa_len hd]
    have w := walk_zipM (K := K) (a := p) (b := q) (t := true) (u := false) (xs := a.map V.int) (ys := vs) (n := min a.length vs.length) (by simp)
    refine w.mono (fun Ha x => ⟨sqT_tx (x.tx (hS.ex up)) h1, sq_of (x q _ h2 hn)⟩) fun i Ha v Hb hlt hg y => ?_
    obtain ⟨T, v1, v2, rfl, hT, rfl, g1, g2⟩ := y
    simp only [List.getElem?_map] at g1
    obtain ⟨n1, m1, rfl⟩ := Option.map_eq_some_iff.mp g1
    have tx : Tx H3 (upd Ha T (.tup [.int n1, v2])) := (hg.tx (hS.ex up)).trans (Tx.of_ex (Ex.new hT))
    obtain ⟨d, q1, q2⟩ := dpa_getV (dpa_tx tx _ _ hi d2) g2
    refine ⟨Ex.new hT, .tuple [.int n1, d], ?_, .tup (st_of upd_same) (.cons (.int _) (.cons q2 .nil))⟩
    rw [List.getElem?_zipWith, m1, q1]
/-- [f for .. if b], over data -/
theorem en_lcB {wi : TI} {g : TG} {tt : TT} {vs : List Nat} (h : EvI K wi σ H [] ds) (hl : ds.length ≤ 50000) (b : Nat → Bool) (f : Nat → Int)
    (hs : ∀ H2 i d x Hb (Q : L2.St → Hp → Prop), Ex H H2 → ds[i]? = some d → Ex H2 Hb → Dp K Hb x d → (∀ σ2 H3, Ex Hb H3 → wipe σ2 vs = wipe σ vs → EvT tt σ2 H3 (b i) → Ev te σ2 H3 (.int (f i)) → Q σ2 H3) → g x (wipe σ vs) Hb Q) :
    EvN K (tLc wi g tt te vs) σ H (dI (((List.range ds.length).filter b).map f)) := fun H1 e Q q => h H1 e _ fun J H2 e2 w => fun Dl hD => by
  refine lc_it w (fun n Ha => Ex H2 Ha ∧ Ha Dl = some (.lst ((((List.range n).filter b).map f).map V.int))) ⟨Ex.new hD, upd_same⟩ (fun n Ha _ p => Xp.of_ex p.1) (fun i x Ha Hb hlt p y => ?_) fun Ha p => ?_
  · obtain ⟨p1, p2⟩ := p
    obtain ⟨ey, d, hd1, hd2⟩ := y
    have few : ((((List.range i).filter b).map f).map V.int).length < sizeLine := by
      rw [List.length_map, List.length_map]
      have := List.length_filter_le b (List.range i)
      rw [List.length_range] at this
      exact sz_lt (by omega)
    refine hs H2 i d x Hb _ (e.trans e2) hd1 (p1.trans ey) hd2 fun σ2 H3 e3 hw ht hv => ⟨hw, ?_⟩
    refine ht H3 (Ex.refl _) _ fun H4 e4 => ?_
    have at4 : H4 Dl = some (.lst _) := e4 _ _ (e3 _ _ (ey _ _ p2))
    cases hb : b i with
    | false =>
      rw [if_neg (by simp)]
      refine ⟨((p1.trans ey).trans e3).trans e4, ?_⟩
      rw [List.range_succ, List.filter_append, List.filter_cons, hb]
      simpa using at4
    | true =>
      rw [if_pos rfl]
      refine hv H4 e4 _ fun H5 e5 => ⟨_, e5 _ _ at4, few, Ex.mut ((((p1.trans ey).trans e3).trans e4).trans e5) hD, ?_⟩
      rw [upd_same, List.range_succ, List.filter_append, List.filter_cons, hb]
      simp
  · obtain ⟨p1, p2⟩ := p
    exact q Dl _ Ha (fresh_back e2 hD) (e2.trans p1) p2 (ints_dpa _)
end
end DL
set_option Elab.async false
set_option linter.all false
set_option maxRecDepth 100000
set_option maxHeartbeats 4000000
/-! a law's def with its own code object told -/
namespace DL
open PySem PySem.Spec PyProof.Rows L2 Evl
structure FunC (K : PySem.W.Frag) (x qual : Str) (st : Stmt) (f : Addr) (fd : FuncData) (c : Addr) : Prop where
  ex : ∃ (oc : Value) (od : Option Addr) (kV doc pm : Value) (an : Option Addr) (ct : Value) (osl : Array (Option Value)),
    fd = PySem.W.fnOf x qual (defArgs st) (defBody st) (defScope st) .none kV doc pm an (.ref c) ct ∧ K.lookup f = some ⟨oc, od, .func fd, osl⟩ ∧ PySem.W.codeIn K (.ref c) qual = true
theorem okC {P : Program} {w : World} {K : PySem.W.Frag} {mg : Str → Option Value} {base : Heap} {CX : CXT} {x qual : Str} {st : Stmt} {f c : Addr} {fd : FuncData} {N ps : List Str} {k : Nat} {sp : Sp} (F : FunC K x qual st f fd c) (S : FnScope N ps (defScope st)) (len : ∀ vs H Q E, sp vs H Q E → vs.length = ps.length)
    (body : ∀ (A : Around) (outer : List Env) (s : Shared) (H : Hp) (vs : List V) (Q : VK) (E : XK), A.guards = some [] → Room k (A.deeper (envOfC qual (defScope st) s.heap.objs.size f (.ref c))) → sp vs H Q E →
      ∃ t, PSs (cxOf CX P w K mg base N qual (defScope st) f (.ref c) A outer s H E) (defBody st) t ∧ t { nx := fun _ H' => Q .non H', rt := Q } (L2.start N vs) H) : FnG P w K mg base CX (k + 1) f fd ps sp := by
  obtain ⟨oc, od, kV, doc, pm, an, ct, osl, rfl, lk, hcd⟩ := F.ex
  exact ⟨len, fun A outer s H args us vs Q E hg hr e0 hb r h => LamX.run_ofS lk hcd S hr e0 hb r (len _ _ _ _ h) fun hr2 => body A outer s H vs Q E hg hr2 h⟩
theorem op_inK {X : Cx} (K : PySem.W.Frag) (h : X.K = K) : OpR X (compareOp .In) (rIn K false) := h ▸ op_in_seq
end DL
set_option Elab.async false
set_option linter.all false
set_option maxRecDepth 100000
set_option maxHeartbeats 4000000
/-! texts of small data; repr, over data -/
namespace DL
open PySem PySem.Spec PyProof.Rows L2 Evl
/-- data of whole numbers that are not too great -/
structure Fine (d : PyData) (W k : Nat) : Prop where
  short : d.leavesShort 13 = true
  shows : d.showable = true
  deep : d.depth ≤ k
  few : d.weight ≤ W
def Sml (i : Int) : Prop := i.natAbs < 10 ^ 12
theorem sml_of {i : Int} (h1 : -1000000 ≤ i) (h2 : i ≤ 1000000) : Sml i := by
  show i.natAbs < 1000000000000
  omega
theorem w_int {i : Int} (h : Sml i) : (PyData.int i).weight ≤ 40 ∧ (PyData.int i).showable = true := by
  have h : i.natAbs < 10 ^ 12 := h
  have e : (10 : Nat) ^ 12 < 2 ^ 40 := by decide
  by_cases z : i = 0
  · subst z
    exact ⟨by simp [PyData.weight], by simp [PyData.showable]⟩
  · have nz : i.natAbs ≠ 0 := by omega
    have lt : i.natAbs.log2 < 40 := (Nat.log2_lt nz).mpr (by omega)
    refine ⟨?_, ?_⟩
    · simp only [PyData.weight]
      split <;> omega
    · simp only [PyData.showable, decide_eq_true_eq]
      omega
theorem fine_int {i : Int} (h : Sml i) : Fine (.int i) 40 1 where
  short := by
    simp only [PyData.leavesShort, decide_eq_true_eq]
    exact PyData.shown_int_le h
  shows := (w_int h).2
  deep := by simp [PyData.depth]
  few := (w_int h).1
theorem fine_all : ∀ {ns : List Int}, (∀ n ∈ ns, Sml n) → PyData.leavesShortAll 13 (dI ns) = true ∧ PyData.showableAll (dI ns) = true ∧ PyData.weightAll (dI ns) ≤ 41 * ns.length
  | [], _ => ⟨rfl, rfl, by simp [PyData.weightAll]⟩
  | n :: ns, h => by
    obtain ⟨h1, h2, h3⟩ := fine_all (ns := ns) fun m hm => h m (List.mem_cons_of_mem _ hm)
    have hn := fine_int (h n List.mem_cons_self)
    refine ⟨?_, ?_, ?_⟩
    · simp only [dI, List.map_cons, PyData.leavesShortAll, Bool.and_eq_true]
      exact ⟨hn.short, h1⟩
    · simp only [dI, List.map_cons, PyData.showableAll, Bool.and_eq_true]
      exact ⟨hn.shows, h2⟩
    · simp only [dI, List.map_cons, PyData.weightAll, List.length_cons]
      have := hn.few
      simp only [dI] at h3
      omega
theorem fine_tI {ns : List Int} (h : ∀ n ∈ ns, Sml n) : Fine (tI ns) (41 * ns.length) 2 := by
  obtain ⟨h1, h2, h3⟩ := fine_all h
  refine ⟨by simpa only [PyData.leavesShort] using h1, by simpa only [PyData.showable] using h2, ?_, by simpa only [PyData.weight] using h3⟩
  have := depth_ints ns
  simp only [PyData.depth]
  omega
theorem fine_two {d : PyData} {W k : Nat} (h : Fine d W k) : Fine (.list [d, d]) (2 * W + 2) (k + 1) where
  short := by simp [PyData.leavesShort, PyData.leavesShortAll, h.short]
  shows := by simp [PyData.showable, PyData.showableAll, h.shows]
  deep := by
    have := h.deep
    simp only [PyData.depth, PyData.depthAll]
    omega
  few := by
    have := h.few
    simp only [PyData.weight, PyData.weightAll]
    omega
theorem fine_kv : ∀ {m : KI}, (∀ p ∈ m, (∀ n ∈ p.1, Sml n) ∧ Sml p.2 ∧ p.1.length ≤ 3) →
    PyData.leavesShortKv 13 (m.map fun p => (tI p.1, PyData.int p.2)) = true ∧ PyData.showableKv (m.map fun p => (tI p.1, PyData.int p.2)) = true ∧ PyData.weightKv (m.map fun p => (tI p.1, PyData.int p.2)) ≤ 165 * m.length ∧ PyData.depthKv (m.map fun p => (tI p.1, PyData.int p.2)) ≤ 2
  | [], _ => ⟨rfl, rfl, by simp [PyData.weightKv], by simp [PyData.depthKv]⟩
  | p :: m, h => by
    obtain ⟨h1, h2, h3, h4⟩ := fine_kv (m := m) fun q hq => h q (List.mem_cons_of_mem _ hq)
    obtain ⟨a1, a2, a3⟩ := h p List.mem_cons_self
    have f1 := fine_tI a1
    have f2 := fine_int a2
    refine ⟨?_, ?_, ?_, ?_⟩
    · simp only [List.map_cons, PyData.leavesShortKv, Bool.and_eq_true]
      exact ⟨⟨f1.short, f2.short⟩, h1⟩
    · simp only [List.map_cons, PyData.showableKv, Bool.and_eq_true]
      exact ⟨⟨f1.shows, f2.shows⟩, h2⟩
    · simp only [List.map_cons, PyData.weightKv, List.length_cons]
      have := f1.few
      have := f2.few
      omega
    · simp only [List.map_cons, PyData.depthKv]
      have := f1.deep
      have := f2.deep
      omega
theorem fine_dict {m : KI} (h : ∀ p ∈ m, (∀ n ∈ p.1, Sml n) ∧ Sml p.2 ∧ p.1.length ≤ 3) : Fine (dDict m) (165 * m.length) 3 := by
  obtain ⟨h1, h2, h3, h4⟩ := fine_kv h
  refine ⟨by simpa only [dDict, PyData.leavesShort] using h1, by simpa only [dDict, PyData.showable] using h2, ?_, by simpa only [dDict, PyData.weight] using h3⟩
  simp only [dDict, PyData.depth]
  omega
theorem Fine.fits {d : PyData} {W k : Nat} (h : Fine d W k) (hw : W ≤ 2 ^ 20) : d.shown.length ≤ sizeLine := PyData.shown_fits (B := 13) (by decide) (by decide) h.short (Nat.le_trans h.few hw)
section
variable {K : PySem.W.Frag} {σ : L2.St} {H H' : Hp} {ta tb te : TE} {ds : List PyData} {d : PyData}
theorem ev_repr {W k : Nat} (h : EvD K te σ H (.list ds)) (f : Fine (.list ds) W k) (hw : W ≤ 2 ^ 20) (hk : k ≤ 80) : Ev (tCB (rRepr K) (tCons te tNil)) σ H (.str (PyData.list ds).shown) := fun H1 e Q q =>
  h H1 e _ fun v H2 e2 hv => by
    cases hv with
    | lst hs ha => exact ⟨_, _, rfl, .lst hs ha, f.shows, by have := f.deep; omega, f.fits hw, q H2 e2⟩
theorem ev_neS {x : Str} (ha : Ev ta σ H (.str x)) (hb : Ev tb σ H (.str x)) : Ev (tOp rNe ta tb) σ H (.bl false) := fun H1 e Q q =>
  ha H1 e _ fun H2 e2 => hb H2 (e.trans e2) _ fun H3 e3 => ⟨rfl, by
    have : decide (V.str x = V.str x) = true := decide_eq_true rfl
    rw [this]
    exact q H3 (e2.trans e3)⟩
/-- a def called by names -/
theorem ed_callKR {R : List PyData → PyData → Prop} {B : List PyData → Addr → Prop} {E : XK} {tt : TA} {d1 d2 : PyData} (h : EvDA K tt σ H [d2, d1]) (hr : R [d1, d2] d) : EvD K (tCallR 2 (spR K 2 R B) E tt) σ H d := fun H1 e Q q =>
  h H1 e _ fun vs H2 e2 hv => by
    obtain ⟨v2, v1, rfl, a, b⟩ := dpa_two hv
    exact ⟨rfl, [d1, d2], .cons b (.cons a .nil), rfl, .inl ⟨d, hr, fun v H3 e3 hd => q v H3 (e2.trans e3) hd⟩⟩
/-- a dict with tuple keys, a row of such -/
def EvK (te : TE) (σ : L2.St) (H : Hp) (m : KI) : Prop := ∀ H1, Ex H H1 → ∀ Q : VK, (∀ a H2, Ex H1 H2 → H2 a = some (.dT (kvI m)) → Q (.ref a) H2) → te σ H1 Q
def EvKA (ta : TA) (σ : L2.St) (H : Hp) (ms : List KI) : Prop := ∀ H1, Ex H H1 → ∀ Q : List V → Hp → Prop, (∀ vs H2, Ex H1 H2 → DTs H2 vs ms → Q vs H2) → ta σ H1 Q
theorem ek_var {k : Nat} {a : Addr} {m : KI} (h : σ[k]? = some (some (.ref a))) (ha : H a = some (.dT (kvI m))) : EvK (tVar k) σ H m := fun H1 e Q q => ⟨.ref a, h, q a H1 (Ex.refl _) (e _ _ ha)⟩
theorem eka_nil : EvKA tNil σ H [] := fun H1 _ _ q => q [] H1 (Ex.refl H1) .nil
theorem dts_ex {vs : List V} {ms : List KI} (e : Ex H H') (h : DTs H vs ms) : DTs H' vs ms := Paired.mapP h fun _ _ z => by
  obtain ⟨a, e1, e2⟩ := z
  exact ⟨a, e1, e _ _ e2⟩
theorem eka_cons {tr : TA} {m : KI} {ms : List KI} (h : EvK te σ H m) (hr : EvKA tr σ H ms) : EvKA (tCons te tr) σ H (m :: ms) := fun H1 e Q q =>
  h H1 e _ fun a H2 e2 ha => hr H2 (e.trans e2) _ fun vs H3 e3 hv => q _ H3 (e2.trans e3) (.cons ⟨a, rfl, e3 _ _ ha⟩ hv)
theorem ev_reprT {m : KI} {W k : Nat} (h : EvK te σ H m) (f : Fine (dDict m) W k) (hw : W ≤ 2 ^ 20) (hk : k ≤ 80) : Ev (tCB rReprT (tCons te tNil)) σ H (.str (dDict m).shown) := fun H1 e Q q =>
  h H1 e _ fun a H2 e2 ha => ⟨a, m, rfl, ha, f.shows, by have := f.deep; omega, f.fits hw, q H2 e2⟩
theorem ev_reprLT {tt : TA} {m : KI} {W k : Nat} (h : EvKA tt σ H [m, m]) (f : Fine (dDict m) W k) (hw : W ≤ 2 ^ 18) (hk : k ≤ 70) : Ev (tCB rReprLT (tCons (tLst tt) tNil)) σ H (.str (dRow [m, m]).shown) := fun H1 e Q q =>
  h H1 e _ fun vs H2 e2 hv => by
    have f2 : Fine (dRow [m, m]) (2 * W + 2) (k + 1) := fine_two f
    have e20 : (2 : Nat) ^ 20 = 4 * 2 ^ 18 := by decide
    have w2 : 2 * W + 2 ≤ 2 ^ 20 := by
      have e18 : (2 : Nat) ^ 18 = 262144 := by decide
      omega
    have deep2 := f2.deep
    have two : vs.length = 2 := Paired.length hv
    refine ⟨sz_of (by omega), fun p hp => ⟨p, vs, [m, m], rfl, upd_same, dts_ex (Ex.new hp) hv, by simp, f2.shows, by omega, f2.fits w2, q _ (e2.trans (Ex.new hp))⟩⟩
/-- list(d.values()) -/
theorem eq_vals {k : Nat} {a : Addr} {m : KI} (h : σ[k]? = some (some (.ref a))) (ha : H a = some (.dT (kvI m))) : EvQ K (tCB rListVT (tCons (tBM0 K "dict" rValsT (tVar k)) tNil)) σ H (dI (m.map Prod.snd)) := fun H1 e Q q => by
  have ha1 := e _ _ ha
  refine ⟨.ref a, h, .inr (.inr (.inl ⟨rfl, .inr ⟨_, ha1⟩⟩)), a, _, rfl, rfl, ha1, fun p hp => ?_⟩
  have npa : a ≠ p := fun z => by rw [z, hp] at ha1; cases ha1
  refine ⟨p, a, _, rfl, upd_same, by rw [upd_ne npa]; exact ha1, fun r hr => ?_⟩
  have e1 : Ex H1 (upd (upd H1 p (viewO "dict_values" p a)) r (.lst ((kvI m).map Prod.snd))) := (Ex.new hp).trans (Ex.new hr)
  refine q r _ _ e1 upd_same ?_
  have : (kvI m).map Prod.snd = (m.map Prod.snd).map V.int := by simp [kvI]
  rw [this]
  exact ints_dpa _
end
end DL
set_option Elab.async false
set_option linter.all false
set_option maxRecDepth 100000
set_option maxHeartbeats 4000000
/-! a loop over lambdas each of which is called, its error caught and asked for its class -/
namespace DL
open PySem PySem.Spec PyProof.Rows L2 Evl LamX
section
variable {K : PySem.W.Frag} {H H' : Hp}
theorem extn_of_ex (e : Ex H H') : ExtN H H' := fun b o h _ => e b o h
theorem rd_extn (e : ExtN H H') {a : Addr} {u : HO} (n : ∀ ps, u ≠ .tbl ps) (h : Rd H a u) : Rd H' a u := by
  rcases h with h | ⟨o, h⟩
  · exact .inl (e _ _ h n)
  · exact .inr ⟨o, e _ _ h fun _ z => nomatch z⟩
theorem sqL_extn (e : ExtN H H') {a : Addr} {xs : List V} (h : SqL K H a xs) : SqL K H' a xs := h.elim (fun r => .inl (rd_extn e (fun _ z => nomatch z) r)) .inr
theorem sqT_extn (e : ExtN H H') {a : Addr} {xs : List V} (h : SqT K H a xs) : SqT K H' a xs := h.elim (fun r => .inl (rd_extn e (fun _ z => nomatch z) r)) .inr
mutual
theorem dp_extn (e : ExtN H H') : ∀ (d : PyData) (v : V), Dp K H v d → Dp K H' v d
  | .none, _, h => by cases h; exact .non
  | .bool b, _, h => by cases h; exact .bl b
  | .int i, _, h => by cases h; exact .int i
  | .str x, _, h => by cases h; exact .str x
  | .list ds, _, h => by
    cases h with
    | lst s r => exact .lst (sqL_extn e s) (dpa_extn e ds _ r)
  | .tuple ds, _, h => by
    cases h with
    | tup s r => exact .tup (sqT_extn e s) (dpa_extn e ds _ r)
  | .dict _, _, h => by cases h
theorem dpa_extn (e : ExtN H H') : ∀ (ds : List PyData) (vs : List V), DpAll K H vs ds → DpAll K H' vs ds
  | [], _, h => by cases h; exact .nil
  | d :: ds, _, h => by
    cases h with
    | cons a r => exact .cons (dp_extn e d _ a) (dpa_extn e ds _ r)
end
theorem extn_new {a : Addr} {o : HO} (e : ExtN H H') (h : H a = none) : ExtN H (upd H' a o) := fun b u hb n => by
  rw [upd_ne (fun z => by rw [z, h] at hb; cases hb)]
  exact e b u hb n
theorem tabs_ex {T : List (Addr × Str)} (t : Tabs T H) (e : Ex H H') : Tabs T H' := fun p hp => TabS.ext (t p hp) e
abbrev noArgs : Arguments := { posonlyargs := [], args := [], vararg := none, kwonlyargs := [], kw_defaults := [], kwarg := none, defaults := [] }
/-- the lambda's value, and what calling it through the def comes to -/
abbrev tCaught (X : Cx) (CS : Addr) (k j : Nat) : TE := fun σ H Q => ∃ f c' params body scope tb, σ[j]? = some (some (.ref f)) ∧ H f = some (LamO f c' (X.env.qual ++ "<lambda>") params body scope (cloFrom X.env.cells scope.names [])) ∧
  H c' = some (CodeO c' (X.env.qual ++ "<lambda>")) ∧ LamD X k params body scope tb ∧ TTc X.K CS tb σ H Q
/-- raises an error of the class C, whatever comes -/
def Raises (C : Addr) (tb : XK → TE) (σ : L2.St) (H : Hp) : Prop := ∀ H1, ExtN H H1 → ∀ (E : XK) (Q : VK), (∀ H2, Ex H1 H2 → E (.ref C) none H2) → tb E σ H1 Q
theorem Raises.ex {C : Addr} {tb : XK → TE} {σ : L2.St} (h : Raises C tb σ H) (e : ExtN H H') : Raises C tb σ H' := fun H1 a => h H1 (e.trans a)
/-- one such lambda at hand -/
structure LamAt (X : Cx) (C : Addr) (k : Nat) (f : Addr) (σ : L2.St) (H : Hp) : Prop where
  ex : ∃ c' params body scope tb, H f = some (LamO f c' (X.env.qual ++ "<lambda>") params body scope (cloFrom X.env.cells scope.names [])) ∧ H c' = some (CodeO c' (X.env.qual ++ "<lambda>")) ∧ LamD X k params body scope tb ∧ Raises C tb σ H
theorem LamAt.extn {X : Cx} {C : Addr} {k : Nat} {f : Addr} {σ : L2.St} (h : LamAt X C k f σ H) (e : ExtN H H') : LamAt X C k f σ H' := by
  obtain ⟨c', params, body, scope, tb, h1, h2, h3, h4⟩ := h
  exact ⟨c', params, body, scope, tb, e _ _ h1 (fun _ z => nomatch z), e _ _ h2 (fun _ z => nomatch z), h3, h4.ex e⟩
/-- isinstance(caught(work), C), the error an own one of C -/
theorem ev_raised {X : Cx} {CS C f : Addr} {k j : Nat} {σ σ0 : L2.St} (hj : σ[j]? = some (some (.ref f))) (h : LamAt X C k f σ H) (kC : PySem.W.exmOne X.K (.ref C) (.ref CS) = some true) (iC : PySem.W.kitOne X.K (.ref C) (.ref C) = some true) (eC : ExcC X.K C) :
    Ev (tCB (rIsK X.K) (tCons (tCaught X CS k j) (tCons (tC (.ref C)) tNil))) σ H (.bl true) := fun H1 e Q q => by
  obtain ⟨c', params, body, scope, tb, h1, h2, h3, h4⟩ := h.extn (extn_of_ex e)
  refine ⟨f, c', params, body, scope, tb, hj, h1, h2, h3, fun E Q2 r1 r2 => ?_⟩
  refine h4 H1 (ExtN.refl _) E Q2 fun H2 e2 => r1 (.ref C) H2 kC fun a ha => ?_
  exact ⟨a, C, .ref C, .ref C, true, rfl, upd_same, eC, fun u z => z, iC, q _ (e2.trans (Ex.new ha))⟩
theorem d_lams {X : Cx} {T : List (Addr × Str)} {CS C : Addr} {k : Nat} {σ : L2.St} {D : Ends} {b1 b2 b3 : Expr} {s1 s2 s3 : Scope} {g1 g2 g3 : XK → TE} (tabs : Tabs T H)
    (kC : PySem.W.exmOne X.K (.ref C) (.ref CS) = some true) (iC : PySem.W.kitOne X.K (.ref C) (.ref C) = some true) (eC : ExcC X.K C) (len : 15 < σ.length)
    (L1 : LamD X k noArgs b1 s1 g1) (L2 : LamD X k noArgs b2 s2 g2) (L3 : LamD X k noArgs b3 s3 g3)
    (r1 : ∀ y, Raises C g1 (σ.set 15 y) H) (r2 : ∀ y, Raises C g2 (σ.set 15 y) H) (r3 : ∀ y, Raises C g3 (σ.set 15 y) H) (q : ∀ y H', ExtN H H' → Tabs T H' → D.nx (σ.set 15 y) H') :
    tFor (iList X.K (tLst (tCons (tLamV T (X.env.qual ++ "<lambda>") noArgs b1 s1 (cloFrom X.env.cells s1.names [])) (tCons (tLamV T (X.env.qual ++ "<lambda>") noArgs b2 s2 (cloFrom X.env.cells s2.names [])) (tCons (tLamV T (X.env.qual ++ "<lambda>") noArgs b3 s3 (cloFrom X.env.cells s3.names [])) tNil))))) (gName 15)
      (tIfS (tNot (tB (tCB (rIsK X.K) (tCons (tCaught X CS k 15) (tCons (tC (.ref C)) tNil))))) (tRet (tC (.bl false))) tNext) D σ H := by
  refine ⟨tabs, fun f1 c1 H1 x1 t1 n1 m1 k1 => ?_⟩
  have t1' := tabs_ex t1 (Ex.new (o := LamO f1 c1 (X.env.qual ++ "<lambda>") noArgs b1 s1 (cloFrom X.env.cells s1.names [])) m1)
  have x1' := extn_new (o := LamO f1 c1 (X.env.qual ++ "<lambda>") noArgs b1 s1 (cloFrom X.env.cells s1.names [])) x1 n1
  have a1 : upd H1 f1 (LamO f1 c1 (X.env.qual ++ "<lambda>") noArgs b1 s1 (cloFrom X.env.cells s1.names [])) f1 = some _ := upd_same
  have k1' := Ex.new (o := LamO f1 c1 (X.env.qual ++ "<lambda>") noArgs b1 s1 (cloFrom X.env.cells s1.names [])) m1 _ _ k1
  generalize upd H1 f1 (LamO f1 c1 (X.env.qual ++ "<lambda>") noArgs b1 s1 (cloFrom X.env.cells s1.names [])) = G1 at *
  refine ⟨t1', fun f2 c2 H2 x2 t2 n2 m2 k2 => ?_⟩
  have t2' := tabs_ex t2 (Ex.new (o := LamO f2 c2 (X.env.qual ++ "<lambda>") noArgs b2 s2 (cloFrom X.env.cells s2.names [])) m2)
  have x2' := extn_new (o := LamO f2 c2 (X.env.qual ++ "<lambda>") noArgs b2 s2 (cloFrom X.env.cells s2.names [])) x2 n2
  have a2 : upd H2 f2 (LamO f2 c2 (X.env.qual ++ "<lambda>") noArgs b2 s2 (cloFrom X.env.cells s2.names [])) f2 = some _ := upd_same
  have k2' := Ex.new (o := LamO f2 c2 (X.env.qual ++ "<lambda>") noArgs b2 s2 (cloFrom X.env.cells s2.names [])) m2 _ _ k2
  generalize upd H2 f2 (LamO f2 c2 (X.env.qual ++ "<lambda>") noArgs b2 s2 (cloFrom X.env.cells s2.names [])) = G2 at *
  refine ⟨t2', fun f3 c3 H3 x3 t3 n3 m3 k3 => ?_⟩
  have t3' := tabs_ex t3 (Ex.new (o := LamO f3 c3 (X.env.qual ++ "<lambda>") noArgs b3 s3 (cloFrom X.env.cells s3.names [])) m3)
  have x3' := extn_new (o := LamO f3 c3 (X.env.qual ++ "<lambda>") noArgs b3 s3 (cloFrom X.env.cells s3.names [])) x3 n3
  have a3 : upd H3 f3 (LamO f3 c3 (X.env.qual ++ "<lambda>") noArgs b3 s3 (cloFrom X.env.cells s3.names [])) f3 = some _ := upd_same
  have k3' := Ex.new (o := LamO f3 c3 (X.env.qual ++ "<lambda>") noArgs b3 s3 (cloFrom X.env.cells s3.names [])) m3 _ _ k3
  generalize upd H3 f3 (LamO f3 c3 (X.env.qual ++ "<lambda>") noArgs b3 s3 (cloFrom X.env.cells s3.names [])) = G3 at *
  have up23 := x2'.trans x3'
  refine ⟨by show 3 ≤ sizeLine; decide, fun p hp => ?_⟩
  refine ⟨p, rfl, ⟨_, sq_of upd_same⟩, ?_⟩
  have ex4 := Ex.new (o := .lst [.ref f1, .ref f2, .ref f3]) hp
  have at4 : upd G3 p (.lst [.ref f1, .ref f2, .ref f3]) p = some (.lst [.ref f1, .ref f2, .ref f3]) := upd_same
  have t4 := tabs_ex t3' ex4
  have x4 := (x1'.trans up23).trans (extn_of_ex ex4)
  have l1 : ∀ y, LamAt X C k f1 (σ.set 15 y) (upd G3 p (.lst [.ref f1, .ref f2, .ref f3])) := fun y => LamAt.extn (H := G1) ⟨c1, noArgs, b1, s1, g1, a1, k1', L1, (r1 y).ex x1'⟩ (up23.trans (extn_of_ex ex4))
  have l2 : ∀ y, LamAt X C k f2 (σ.set 15 y) (upd G3 p (.lst [.ref f1, .ref f2, .ref f3])) := fun y => LamAt.extn (H := G2) ⟨c2, noArgs, b2, s2, g2, a2, k2', L2, (r2 y).ex (x1'.trans x2')⟩ (x3'.trans (extn_of_ex ex4))
  have l3 : ∀ y, LamAt X C k f3 (σ.set 15 y) (upd G3 p (.lst [.ref f1, .ref f2, .ref f3])) := fun y => LamAt.extn (H := G3) ⟨c3, noArgs, b3, s3, g3, a3, k3', L3, (r3 y).ex (x1'.trans up23)⟩ (extn_of_ex ex4)
  generalize upd G3 p (.lst [.ref f1, .ref f2, .ref f3]) = G4 at *
  obtain ⟨y0, hy0⟩ : ∃ y0, σ[15]? = some y0 := ⟨σ[15], List.getElem?_eq_getElem len⟩
  have same : σ = σ.set 15 y0 := by
    refine List.ext_getElem? fun i => ?_
    by_cases e : i = 15
    · subst e
      rw [hy0, List.getElem?_set_self len]
    · rw [List.getElem?_set_ne (Ne.symm e)]
  refine for_it (walk_list (K := X.K) (xs := [.ref f1, .ref f2, .ref f3])) (fun _ σ' Ha => Ex G4 Ha ∧ ∃ y, σ' = σ.set 15 y) ⟨Ex.refl _, y0, same⟩ (fun i σ' Ha _ z => sq_of (z.1 _ _ at4)) ?_ ?_
  · rintro i x σ' Ha Hb hi ⟨xa, y, rfl⟩ ⟨rfl, hx⟩
    show tIfS _ _ _ _ ((σ.set 15 y).set 15 (some x)) Hb
    rw [List.set_set]
    have here : (σ.set 15 (some x))[15]? = some (some x) := List.getElem?_set_self len
    have lam : ∃ f, x = .ref f ∧ LamAt X C k f (σ.set 15 (some x)) Hb := by
      have hi' : i = 0 ∨ i = 1 ∨ i = 2 := by simp at hi; omega
      rcases hi' with rfl | rfl | rfl
      · cases hx
        exact ⟨f1, rfl, (l1 _).extn (extn_of_ex xa)⟩
      · cases hx
        exact ⟨f2, rfl, (l2 _).extn (extn_of_ex xa)⟩
      · cases hx
        exact ⟨f3, rfl, (l3 _).extn (extn_of_ex xa)⟩
    obtain ⟨f, rfl, la⟩ := lam
    refine s_when (b := false) (et_not (a := true) (et_B (ev_raised (σ0 := σ) here la kC iC eC))) (fun z => nomatch z) fun _ Hc ec => ?_
    exact ⟨xa.trans ec, _, rfl⟩
  · rintro σ' Ha ⟨xa, y, rfl⟩
    exact q y Ha (x4.trans (extn_of_ex xa)) (tabs_ex t4 xa)
end
end DL
set_option Elab.async false
set_option linter.all false
set_option maxRecDepth 100000
set_option maxHeartbeats 4000000
/-! the head of a law with lambdas, its table found by the law's name -/
namespace DL
open PySem PySem.Spec PyProof.Rows L2 Evl LamX
theorem walkT2 {l : PySem.W.OpenLaw} {n k : Nat} {q : Program} {loose : List Str} {XP : (Str → Option Value) → Heap → Prop} {YP : World → Heap → Prop} {d : DefRec} {K : Params → PySem.W.Frag} {CX : World → CXT} {x : Str}
    (most : l.most = some n) (line : n ≤ sizeLine) (plain : d.params.defaults = []) (room : Room k callerA) (keep : ∀ (w : World) (h : Heap), YP w h → (K w.params).In h) (here : (recsOf q).find? (fun e => e.name == d.name) = some d)
    (F : ∀ (w : World) (mg : Str → Option Value) (fa : Addr) (h : Heap), (K w.params).In h → h.Ns mainGlobals mg → mg d.name = some (.ref fa) →
      ∃ (fd : FuncData) (c T : Addr) (sp : Sp), PySem.W.tabIn (K w.params) d.name = some (c, T) ∧ (K w.params).lookup T = none ∧ (∀ (s : Shared) (u : Value), BindsTo s fd ⟨[u], []⟩ [(x, u)]) ∧
        (∀ (H : Hp) (a : Addr) (ns : List Int), ns.length ≤ n → H T = some (.tbl #[]) → SqL (K w.params) H a (ns.map V.int) → sp [.ref a] H (fun v _ => v = .bl true) fun _ _ _ => False) ∧
        ∀ base : Heap, (K w.params).In base → base.Ns mainGlobals mg → TabB base mg c T → FnG l.prog w (K w.params) mg base (CX w) k fa fd [x] sp)
    (out : ∀ (w : World) (H : Hp) (s : Shared) (e : Value) (s' : Shared), CX w [] H s (fun _ _ _ => False) e s' → False) : PySem.W.WalkO q loose XP YP l.row.toRowW d [] (fun f vs => PySem.call f vs) := by
  apply Att.attach_call most plain
  intro w s0 s1 mg mb fa o pm cd doc a vs ns G Y ho hd hcd hmg hobj hints hlen hg
  obtain ⟨fd, c, T, sp, t1, t2, bnd, ask, hF⟩ := F w mg fa _ (keep w _ Y) G.T.g hmg
  obtain ⟨hC, hT⟩ := PySem.W.tab_of G.T (keep w _ Y) here t1
  exact callT (keep w _ Y) G.T.g G.T.b G.T.builtins G.T.nolimit hg hT t2 hC G.T.bmain hobj hints (Nat.le_trans hlen line) room hF bnd (fun H h1 h2 => ask H a ns hlen h1 h2) fun H e s' => out w H s1 e s'
end DL
set_option Elab.async false
set_option linter.all false
set_option maxRecDepth 100000
set_option maxHeartbeats 4000000
/-! the head of a law: one run of the top, looked at in parts; the written part is found by names -/
namespace DL
open PySem PySem.Spec PyProof.Rows L2 Evl LamX He
/-- what the names reach, and the interpreter's statics -/
def fragY (look : Addr → Option Obj) (n : Nat) : PySem.W.Frag := frT look (asD look n ++ [cStatics])
/-- what is known of the written part: facts, defs, one more look, the empty tables of some defs -/
structure KnownY (fa : List Fa) (fn : List DefD) (tf : List Defn) (ex : PySem.W.Frag → Bool) (hp : Heap) (K : PySem.W.Frag) : Prop where
  says : SaysD fa fn K
  extra : ex K = true
  tabs : ∀ one ∈ tf, PySem.W.codeHdIn K (cT K one).1 (cT K one).2 = true ∧ K.lookup (cT K one).2 = none ∧ hp.get? (cT K one).2 = some { cls := .none, data := .fields #[] }
abbrev SeenY : Type := (AlD × Bool) × Bool
def lookY (n : Nat) (fa : List Fa) (fn : List DefD) (tf : List Defn) (ex : PySem.W.Frag → Bool) (look : Addr → Option Obj) : SeenY :=
  ((obsD fa fn (fragY look n), ex (fragY look n)), tabsB look tf (fragY look n))
def dueY (fn : List DefD) : SeenY := ((valD fn, true), true)
theorem tabs_known {look : Addr → Option Obj} {as : List Addr} : ∀ {tf : List Defn}, tabsB look tf (frT look as) = true →
    ∀ one ∈ tf, PySem.W.codeHdIn (frT look as) (cT (frT look as) one).1 (cT (frT look as) one).2 = true ∧ (frT look as).lookup (cT (frT look as) one).2 = none ∧ look (cT (frT look as) one).2 = some { cls := .none, data := .fields #[] } := by
  intro tf told one mem
  have here := List.all_eq_true.mp told one mem
  rw [Bool.and_eq_true] at here
  cases at_ : look (cT (frT look as) one).2 with
  | none => rw [at_] at here; exact absurd here.2 Bool.false_ne_true
  | some ob =>
    rw [at_] at here
    exact ⟨here.1, frT_none at_ here.2, by rw [emptyTab_eq here.2]⟩
theorem known_of {n : Nat} {fa : List Fa} {fn : List DefD} {tf : List Defn} {ex : PySem.W.Frag → Bool} {hp : Heap} (told : lookY n fa fn tf ex hp.get? = dueY fn) : KnownY fa fn tf ex hp (fragY hp.get? n) := by
  obtain ⟨p1, p3⟩ := Prod.mk.inj told
  obtain ⟨p1, p2⟩ := Prod.mk.inj p1
  exact ⟨p1, p2, tabs_known p3⟩
def hookY (n : Nat) (fa : List Fa) (fn : List DefD) (tf : List Defn) (ex : PySem.W.Frag → Bool) : PySem.W.Hook where
  α := SeenY
  obs := fun sh => lookY n fa fn tf ex sh.heap.get?
  val := fun _ => dueY fn
  says := fun _ hp => ∃ K : PySem.W.Frag, K.In hp ∧ KnownY fa fn tf ex hp K
  of := fun _ _ told => ⟨_, frT_in, known_of told⟩
  keeps := fun _ _ _ ⟨K, inn, kn⟩ stay => ⟨K, PySem.W.Frag.In.keeps inn stay, ⟨kn.says, kn.extra, fun one mem => ⟨(kn.tabs one mem).1, (kn.tabs one mem).2.1, stay _ _ (kn.tabs one mem).2.2⟩⟩⟩
def seeY (n : Nat) (fa : List Fa) (fn : List DefD) (tf : List Defn) (ex : PySem.W.Frag → Bool) (st : PySem.W.SharedT) : SeenY := lookY n fa fn tf ex (HandSHeadRun.getT st)
theorem seeY_eq {n : Nat} {fa : List Fa} {fn : List DefD} {tf : List Defn} {ex : PySem.W.Frag → Bool} (st : PySem.W.SharedT) : seeY n fa fn tf ex st = (hookY n fa fn tf ex).obs st.abs := by
  have same : HandSHeadRun.getT st = st.abs.heap.get? := funext (HandSHeadRun.getT_eq st)
  show lookY n fa fn tf ex (HandSHeadRun.getT st) = lookY n fa fn tf ex st.abs.heap.get?
  rw [same]
/-- the state behind the top -/
noncomputable abbrev lastY (r : PySem.W.OpenRow) (M : Nat) (w : World) (os : OsState) : Option PySem.W.SharedT := HandSHeadRun.endF (HandSHeadRun.stepQ (HandSHeadRun.denQ HandSHeadRun.tabQ) r.prog w) M r.prog w os
theorem some_parts {α β γ δ : Type} {x : Option α} {f : α → β} {g : α → γ} {k : α → δ} {a : β} {b : γ} {c : δ} (h1 : x.map f = some a) (h2 : x.map g = some b) (h3 : x.map k = some c) : x.map (fun s => (f s, g s, k s)) = some (a, b, c) := by
  cases x with
  | none => cases h1
  | some y =>
    cases h1
    cases h2
    cases h3
    rfl
theorem some_pair {α β γ : Type} {x : Option α} {f : α → β} {g : α → γ} {a : β} {b : γ} (h1 : x.map f = some a) (h2 : x.map g = some b) : x.map (fun s => (f s, g s)) = some (a, b) := by
  cases x with
  | none => cases h1
  | some y =>
    cases h1
    cases h2
    rfl
theorem some_and {α : Type} {x : Option α} {f g : α → Bool} (h1 : x.map f = some true) (h2 : x.map g = some true) : x.map (fun s => f s && g s) = some true := by
  cases x with
  | none => cases h1
  | some y =>
    have e1 := Option.some.inj h1
    have e2 := Option.some.inj h2
    show some (f y && g y) = some true
    rw [e1, e2] <;> rfl
/-- the run's equation from looks of their own -/
theorem run_of {r : PySem.W.OpenRow} {q : Program} {n M : Nat} {fa : List Fa} {fn : List DefD} {tf : List Defn} {ex : PySem.W.Frag → Bool} {loose : List Str} {w : World}
    (h1 : ∀ os : OsState, (lastY r M w os).map (fun s => (HandSHeadRun.looksF r.prog (PySem.W.boot_heap w.params) s.abs, HandSHeadRun.seenQ q loose (importedModules r.prog.main.body) (fun s => PySem.W.xlAt q [] s && PySem.W.recOk r.toRowW.records s) s.abs)) = some (true, PySem.W.openGood q loose))
    (h2 : ∀ os : OsState, (lastY r M w os).map (fun s => obsD fa fn (fragY (HandSHeadRun.getT s) n)) = some (valD fn))
    (h3 : ∀ os : OsState, (lastY r M w os).map (fun s => ex (fragY (HandSHeadRun.getT s) n)) = some true)
    (h4 : ∀ os : OsState, (lastY r M w os).map (fun s => tabsB (HandSHeadRun.getT s) tf (fragY (HandSHeadRun.getT s) n)) = some true) :
    HandSHeadRun.RunEq r q (hookY n fa fn tf ex) (seeY n fa fn tf ex) M loose w := fun os => by
  have all := some_pair (some_pair (h2 os) (h3 os)) (h4 os)
  have two := h1 os
  cases e : lastY r M w os with
  | none => rw [e] at all; cases all
  | some st =>
    rw [e] at all two
    have all2 : seeY n fa fn tf ex st = dueY fn := Option.some.inj all
    obtain ⟨t1, t2⟩ := Prod.mk.inj (Option.some.inj two)
    show (lastY r M w os).map _ = _
    rw [e]
    exact congrArg some (Prod.ext t1 (Prod.ext t2 all2))
/-- the head of a law whose written part is found by a look -/
theorem walkGE {l : PySem.W.OpenLaw} {n k : Nat} {q : Program} {loose : List Str} {XP : (Str → Option Value) → Heap → Prop} {YP : World → Heap → Prop} {d : DefRec} {CX : World → CXT} {x : Str}
    (most : l.most = some n) (line : n ≤ sizeLine) (plain : d.params.defaults = []) (room : Room k callerA)
    (F : ∀ (w : World) (mg : Str → Option Value) (fa : Addr) (h : Heap), YP w h → h.Ns mainGlobals mg → mg d.name = some (.ref fa) →
      ∃ (K : PySem.W.Frag) (fd : FuncData) (sp : Sp), K.In h ∧ (∀ (s : Shared) (u : Value), BindsTo s fd ⟨[u], []⟩ [(x, u)]) ∧
        (∀ (H : Hp) (a : Addr) (ns : List Int), ns.length ≤ n → Only H → SqL K H a (ns.map V.int) → sp [.ref a] H (fun v _ => v = .bl true) fun _ _ _ => False) ∧
        ∀ base : Heap, K.In base → base.Ns mainGlobals mg → FnG l.prog w K mg base (CX w) k fa fd [x] sp)
    (out : ∀ (w : World) (H : Hp) (s : Shared) (e : Value) (s' : Shared), CX w [] H s (fun _ _ _ => False) e s' → False) : PySem.W.WalkO q loose XP YP l.row.toRowW d [] (fun f vs => PySem.call f vs) := by
  apply Att.attach_call most plain
  intro w s0 s1 mg mb fa o pm cd doc a vs ns G Y ho hd hcd hmg hobj hints hlen hg
  obtain ⟨K, fd, sp, KX, hb, ask, hF⟩ := F w mg fa _ Y G.T.g hmg
  exact callG KX G.T.g G.T.b G.T.builtins G.T.nolimit hg hobj hints (Nat.le_trans hlen line) room hF hb (fun H h1 h2 => ask H a ns hlen h1 h2) fun H e s' => out w H s1 e s'
/-- .. of a law with lambdas of its own: c its code object, T its table -/
theorem walkTE {l : PySem.W.OpenLaw} {n k : Nat} {q : Program} {loose : List Str} {XP : (Str → Option Value) → Heap → Prop} {YP : World → Heap → Prop} {d : DefRec} {CX : World → CXT} {x : Str}
    (most : l.most = some n) (line : n ≤ sizeLine) (plain : d.params.defaults = []) (room : Room k callerA)
    (F : ∀ (w : World) (mg : Str → Option Value) (fa : Addr) (h : Heap), YP w h → h.Ns mainGlobals mg → mg d.name = some (.ref fa) →
      ∃ (K : PySem.W.Frag) (fd : FuncData) (c T : Addr) (sp : Sp), K.In h ∧ h.get? T = some { cls := .none, data := .fields #[] } ∧ K.lookup T = none ∧ PySem.W.CodeHd h c T ∧ (∀ (s : Shared) (u : Value), BindsTo s fd ⟨[u], []⟩ [(x, u)]) ∧
        (∀ (H : Hp) (a : Addr) (ns : List Int), ns.length ≤ n → H T = some (.tbl #[]) → SqL K H a (ns.map V.int) → sp [.ref a] H (fun v _ => v = .bl true) fun _ _ _ => False) ∧
        ∀ base : Heap, K.In base → base.Ns mainGlobals mg → TabB base mg c T → FnG l.prog w K mg base (CX w) k fa fd [x] sp)
    (out : ∀ (w : World) (H : Hp) (s : Shared) (e : Value) (s' : Shared), CX w [] H s (fun _ _ _ => False) e s' → False) : PySem.W.WalkO q loose XP YP l.row.toRowW d [] (fun f vs => PySem.call f vs) := by
  apply Att.attach_call most plain
  intro w s0 s1 mg mb fa o pm cd doc a vs ns G Y ho hd hcd hmg hobj hints hlen hg
  obtain ⟨K, fd, c, T, sp, KX, t1, t2, t3, bnd, ask, hF⟩ := F w mg fa _ Y G.T.g hmg
  exact callT KX G.T.g G.T.b G.T.builtins G.T.nolimit hg t1 t2 t3 G.T.bmain hobj hints (Nat.le_trans hlen line) room hF bnd (fun H h1 h2 => ask H a ns hlen h1 h2) fun H e s' => out w H s1 e s'
/-- a def without defaults, as a look finds it -/
theorem fn_look {K : PySem.W.Frag} {x qual : Str} {st : Stmt} {f : Addr} (F : ∃ fd, FunD K x qual (defArgs st) (defBody st) (defScope st) [] [] f fd) :
    ∃ (oc kV dc pm cd ct : Value) (od an : Option Addr) (sl : Array (Option Value)), K.lookup f = some ⟨oc, od, .func (PySem.W.fnOf x qual (defArgs st) (defBody st) (defScope st) .none kV dc pm an cd ct), sl⟩ ∧ PySem.W.codeIn K cd qual = true ∧ PySem.W.keepIn K (.ref f) = true := by
  obtain ⟨fd, F⟩ := F
  obtain ⟨oc, od, dV, kV, dc, pm, an, cd, ct, sl, e1, e2, e3, e4, _⟩ := F.ex
  rcases e4 with ⟨_, e5⟩ | ⟨e5, _⟩
  · subst e5
    subst e1
    exact ⟨oc, kV, dc, pm, cd, ct, od, an, sl, e2, e3, F.kp⟩
  · exact absurd rfl e5
end DL
set_option Elab.async false
set_option linter.all false
set_option maxRecDepth 100000
set_option maxHeartbeats 4000000
/-! the head of a law where more defs than one have lambdas: Ts, their code objects and tables -/
namespace DL
open PySem PySem.Spec PyProof.Rows L2 Evl LamX He
section
variable {P : Program} {w : World} {K : PySem.W.Frag} {mg mb : Str → Option Value} {CX : CXT} {k : Nat} {fa a : Addr} {Ts : List (Addr × Addr)} {fd : FuncData} {x : Str} {sp : Sp} {s1 : Shared} {vs : List Value} {ns : List Int}
theorem callTs_at (KX : K.In s1.heap) (hns : s1.heap.Ns mainGlobals mg) (hb : s1.heap.Ns builtinsNs mb) (hbb : ∀ y : Str, y ≠ "__name__" → mb y = bootBuiltins y) (lim : s1.heap.NoLimit) (gens : s1.gens = #[])
    (tab : ∀ p ∈ Ts, s1.heap.get? p.2 = some { cls := .none, data := .fields #[] }) (free_ : ∀ p ∈ Ts, K.lookup p.2 = none) (code : ∀ p ∈ Ts, PySem.W.CodeHd s1.heap p.1 p.2)
    (bmod : ∃ (bm : Addr) (ob : Obj), mg "__builtins__" = some (.ref bm) ∧ bm ≠ builtinsNs ∧ s1.heap.get? bm = some ob ∧ ob.cls = .type "module" ∧ ob.dict = some builtinsNs ∧ ob.data = .plain)
    (obj : s1.heap.get? a = some { cls := .type "list", data := .seq vs.toArray }) (room : Room k callerA)
    (F : ∀ base : Heap, K.In base → base.Ns mainGlobals mg → (∀ p ∈ Ts, TabB base mg p.1 p.2) → FnG P w K mg base CX k fa fd [x] sp) (bind : ∀ (s : Shared) (u : Value), BindsTo s fd ⟨[u], []⟩ [(x, u)])
    (out : ∀ H e s', CX [] H s1 (fun _ _ _ => False) e s' → False) (H : Hp) (atT : ∀ p ∈ Ts, H p.2 = some (.tbl #[])) (only : ∀ b, H b = none ∨ (∃ p ∈ Ts, b = p.2) ∨ ∃ o xs, H b = some (.frz o (.lst xs))) (ask : sp [.ref a] H (fun v _ => v = .bl true) fun _ _ _ => False)
    (held : HOk P w H s1.heap) (atA : ∀ b, H b ≠ none → b = a ∨ ∃ p ∈ Ts, b = p.2) (away : H a ≠ none → K.lookup a = none) :
    codeAny (model P w) callerA (.call (.ref fa) ⟨[.ref a], []⟩) (fun r s' => r = .ok (.ret (.bool true)) ∧ OldK s1.heap s'.heap ∧ s'.os = s1.os ∧ AllBare s'.gens) s1 := by
  have none_of : ∀ {b : Addr}, b ≠ a → (∀ p ∈ Ts, b ≠ p.2) → H b = none := fun {b} n1 n2 => by
    cases q : H b with
    | none => rfl
    | some u =>
      rcases atA b (by rw [q]; simp) with y | y
      · exact absurd y n1
      · obtain ⟨p, hp, y⟩ := y
        exact absurd y (n2 p hp)
  have free : ∀ {b : Addr} {o : Obj}, s1.heap.get? b = some o → b ≠ a → (∀ p ∈ Ts, b ≠ p.2) → (hidT s1.heap H).get? b = some o := fun {b o} e n1 n2 => hidT_get e (none_of n1 n2)
  -- an object that is neither a list nor a table
  have other : ∀ {b : Addr} {o : Obj}, s1.heap.get? b = some o → (∀ us n, o.data ≠ .seq us n) → o.data ≠ .fields #[] → b ≠ a ∧ ∀ p ∈ Ts, b ≠ p.2 := fun {b o} e n1 n2 => by
    refine ⟨fun y => ?_, fun p hp y => ?_⟩
    · rw [y, obj] at e
      cases e
      exact n1 _ _ rfl
    · rw [y, tab p hp] at e
      cases e
      exact n2 rfl
  have names : ∀ {b : Addr} {m : Str → Option Value}, s1.heap.Ns b m → (hidT s1.heap H).Ns b m := fun {b m} z => by
    obtain ⟨o, es, ep, e, d, r⟩ := z
    obtain ⟨n1, n2⟩ := other e (fun us n y => by rw [d] at y; cases y) (fun y => by rw [d] at y; cases y)
    exact ⟨o, es, ep, free e n1 n2, d, r⟩
  have written : K.In (hidT s1.heap H) := fun b o e => by
    refine hidT_get (KX b o e) ?_
    cases q : H b with
    | none => rfl
    | some u =>
      rcases atA b (by rw [q]; simp) with y | y
      · rw [y] at e q
        rw [away (by rw [q]; simp)] at e
        cases e
      · obtain ⟨p, hp, y⟩ := y
        rw [y, free_ p hp] at e
        cases e
  obtain ⟨mc, l1, l2⟩ := lim
  have modu : L2.Mod K mg (hidT s1.heap H) := ⟨written, names hns, ⟨mb, names hb, hbb⟩, ⟨mc, names l1, l2⟩⟩
  have TB : ∀ p ∈ Ts, TabB (hidT s1.heap H) mg p.1 p.2 := fun p hp => by
    refine ⟨?_, ?_, fun z => ?_⟩
    · obtain ⟨o, us, file, tf, flags, tg, inF, text, tt, e1, r1, r2, r3, r4⟩ := code p hp
      obtain ⟨n1, n2⟩ := other e1 (fun us' n y => by rw [r2] at y; cases y) (fun y => by
        rw [r2] at y
        cases y
        simp at r3)
      exact ⟨o, us, file, tf, flags, tg, inF, text, tt, free e1 n1 n2, r1, r2, r3, r4⟩
    · obtain ⟨bm, ob, b1, b2, b3, b4, b5, b6⟩ := bmod
      obtain ⟨n1, n2⟩ := other b3 (fun us n y => by rw [b6] at y; cases y) (fun y => by rw [b6] at y; cases y)
      have nG : bm ≠ mainGlobals := fun y => by
        obtain ⟨o, es, ep, e, d, _⟩ := hns
        rw [y, e] at b3
        cases b3
        rw [d] at b6
        cases b6
      exact ⟨bm, ob, b1, b2, nG, n2 p hp, free b3 n1 n2, b4, b5, b6⟩
    · obtain ⟨o, es, ep, e, d, _⟩ := hns
      rw [z, tab p hp] at e
      cases e
      cases d
  have env : Env0 P w K mg (hidT s1.heap H) callerA [] s1 H := ⟨rfl, modu, fun b o e => of_hidT e, Nat.le_of_eq (hidT_size _ _), trivial, fun b z => (List.not_mem_nil (show b ∈ ([] : List Addr) from z)).elim, held, .of_eq gens⟩
  refine codeAny_mono ((F _ written (names hns) TB).run callerA [] s1 H ⟨[.ref a], []⟩ [.ref a] [.ref a] _ _ rfl room env (bind s1 (.ref a)) (.cons rfl .nil) ask) fun r s2 z => ?_
  cases r with
  | error e => exact (out H e s2 z).elim
  | ok fl =>
    cases fl with
    | ret u =>
      obtain ⟨v, H2, os, bare, un, held2, rv, rfl⟩ := z
      obtain rfl : u = Value.bool true := rv
      have kept : ∀ b o, (∀ p ∈ Ts, b ≠ p.2) → s1.heap.get? b = some o → s2.heap.get? b = some o := fun b o nb e => by
        rcases only b with none_ | y | ⟨ob, xs, fz⟩
        · exact un.keep b o e none_ (by intro m; exact absurd (show b ∈ ([] : List Addr) from m) (by simp)) (by simp)
        · obtain ⟨p, hp, y⟩ := y
          exact absurd y (nb p hp)
        · obtain ⟨o1, _⟩ := held b _ fz
          obtain ⟨o2, _⟩ := held2 b _ (un.frzs b ob _ fz)
          rw [e] at o1
          cases o1
          exact o2
      have now : ∀ p ∈ Ts, ∃ more, s2.heap.get? p.2 = some { cls := .none, data := .fields (#[] ++ more) } := fun p hp => by
        obtain ⟨more, grown⟩ := un.tbls p.2 #[] (atT p hp)
        exact ⟨more, held2 p.2 _ grown⟩
      have which : ∀ b : Addr, (∃ p ∈ Ts, b = p.2) ∨ ∀ p ∈ Ts, b ≠ p.2 := fun b => by
        by_cases y : ∃ p ∈ Ts, b = p.2
        · exact .inl y
        · exact .inr fun p hp e => y ⟨p, hp, e⟩
      refine ⟨rfl, ⟨fun b o e => ?_, fun b o e => ?_⟩, os, bare⟩
      · rcases which b with ⟨p, hp, y⟩ | y
        · subst y
          rw [tab p hp] at e
          cases e
          obtain ⟨more, at_⟩ := now p hp
          exact .inr (.inl ⟨((code p hp).tab (tab p hp)).isCodeTable, rfl, #[], more, rfl, at_⟩)
        · exact .inl (kept b o y e)
      · rcases which b with ⟨p, hp, y⟩ | y
        · obtain ⟨more, at_⟩ := now p hp
          exact ⟨_, y ▸ at_⟩
        · exact ⟨o, kept b o y e⟩
    | next => exact z.elim
    | brk => exact z.elim
    | cont => exact z.elim
theorem callTs (KX : K.In s1.heap) (hns : s1.heap.Ns mainGlobals mg) (hb : s1.heap.Ns builtinsNs mb) (hbb : ∀ y : Str, y ≠ "__name__" → mb y = bootBuiltins y) (lim : s1.heap.NoLimit) (gens : s1.gens = #[])
    (tab : ∀ p ∈ Ts, s1.heap.get? p.2 = some { cls := .none, data := .fields #[] }) (free_ : ∀ p ∈ Ts, K.lookup p.2 = none) (code : ∀ p ∈ Ts, PySem.W.CodeHd s1.heap p.1 p.2)
    (bmod : ∃ (bm : Addr) (ob : Obj), mg "__builtins__" = some (.ref bm) ∧ bm ≠ builtinsNs ∧ s1.heap.get? bm = some ob ∧ ob.cls = .type "module" ∧ ob.dict = some builtinsNs ∧ ob.data = .plain)
    (obj : s1.heap.get? a = some { cls := .type "list", data := .seq vs.toArray }) (isI : IntsAre vs ns) (few : ns.length ≤ sizeLine) (room : Room k callerA)
    (F : ∀ base : Heap, K.In base → base.Ns mainGlobals mg → (∀ p ∈ Ts, TabB base mg p.1 p.2) → FnG P w K mg base CX k fa fd [x] sp) (bind : ∀ (s : Shared) (u : Value), BindsTo s fd ⟨[u], []⟩ [(x, u)])
    (ask : ∀ H : Hp, (∀ p ∈ Ts, H p.2 = some (.tbl #[])) → SqL K H a (ns.map V.int) → sp [.ref a] H (fun v _ => v = .bl true) fun _ _ _ => False) (out : ∀ H e s', CX [] H s1 (fun _ _ _ => False) e s' → False) :
    codeAny (model P w) callerA (.call (.ref fa) ⟨[.ref a], []⟩) (fun r s' => r = .ok (.ret (.bool true)) ∧ OldK s1.heap s'.heap ∧ s'.os = s1.os ∧ AllBare s'.gens) s1 := by
  have vals := vals_ints isI
  have len := isI.length
  have aT : ∀ p ∈ Ts, a ≠ p.2 := fun p hp y => by
    rw [y, tab p hp] at obj
    cases obj
  have which : ∀ b : Addr, (∃ p ∈ Ts, b = p.2) ∨ ∀ p ∈ Ts, b ≠ p.2 := fun b => by
    by_cases y : ∃ p ∈ Ts, b = p.2
    · exact .inl y
    · exact .inr fun p hp e => y ⟨p, hp, e⟩
  cases known : K.lookup a with
  | some o =>
    have e := KX a o known
    rw [obj] at e
    cases e
    let H : Hp := fun b => if (∃ p ∈ Ts, b = p.2) then some (.tbl #[]) else none
    have at_ : ∀ p ∈ Ts, H p.2 = some (.tbl #[]) := fun p hp => if_pos ⟨p, hp, rfl⟩
    have off : ∀ b, (∀ p ∈ Ts, b ≠ p.2) → H b = none := fun b n => if_neg fun ⟨p, hp, e⟩ => n p hp e
    have seq : SqL K H a (ns.map V.int) := .inr ⟨_, vs.toArray, _, known, rfl, rfl, rfl, by rw [List.size_toArray, len]; exact few, by simpa using vals⟩
    refine callTs_at KX hns hb hbb lim gens tab free_ code bmod obj room F bind out H at_ (fun b => ?_) (ask H at_ seq) (fun b u z => ?_) (fun b z => ?_) fun z => (z (off a aT)).elim
    · rcases which b with y | y
      · exact .inr (.inl y)
      · exact .inl (off b y)
    · rcases which b with ⟨p, hp, y⟩ | y
      · subst y
        rw [at_ p hp] at z
        cases z
        exact tab p hp
      · rw [off b y] at z
        cases z
    · rcases which b with y | y
      · exact .inr y
      · exact absurd (off b y) z
  | none =>
    let H : Hp := fun b => if b = a then some (.frz { cls := .type "list", data := .seq vs.toArray } (.lst (ns.map V.int))) else if (∃ p ∈ Ts, b = p.2) then some (.tbl #[]) else none
    have at_ : H a = some (.frz { cls := .type "list", data := .seq vs.toArray } (.lst (ns.map V.int))) := if_pos rfl
    have atT : ∀ p ∈ Ts, H p.2 = some (.tbl #[]) := fun p hp => (if_neg (Ne.symm (aT p hp))).trans (if_pos ⟨p, hp, rfl⟩)
    have off : ∀ b, b ≠ a → (∀ p ∈ Ts, b ≠ p.2) → H b = none := fun b n1 n2 => (if_neg n1).trans (if_neg fun ⟨p, hp, e⟩ => n2 p hp e)
    have seq : SqL K H a (ns.map V.int) := .inl (.inr ⟨_, at_⟩)
    refine callTs_at KX hns hb hbb lim gens tab free_ code bmod obj room F bind out H atT (fun b => ?_) (ask H atT seq) (fun b u z => ?_) (fun b z => ?_) fun _ => known
    · by_cases y : b = a
      · exact .inr (.inr ⟨_, _, y ▸ at_⟩)
      · rcases which b with y2 | y2
        · exact .inr (.inl y2)
        · exact .inl (off b y y2)
    · by_cases y : b = a
      · subst y
        rw [at_] at z
        cases z
        exact ⟨obj, by rw [List.length_map]; exact few, vs, _, vals, obj⟩
      · rcases which b with ⟨p, hp, y2⟩ | y2
        · subst y2
          rw [atT p hp] at z
          cases z
          exact tab p hp
        · rw [off b y y2] at z
          cases z
    · by_cases y : b = a
      · exact .inl y
      · rcases which b with y2 | y2
        · exact .inr y2
        · exact absurd (off b y y2) z
end
theorem walkTsE {l : PySem.W.OpenLaw} {n k : Nat} {q : Program} {loose : List Str} {XP : (Str → Option Value) → Heap → Prop} {YP : World → Heap → Prop} {d : DefRec} {CX : World → CXT} {x : Str}
    (most : l.most = some n) (line : n ≤ sizeLine) (plain : d.params.defaults = []) (room : Room k callerA)
    (F : ∀ (w : World) (mg : Str → Option Value) (fa : Addr) (h : Heap), YP w h → h.Ns mainGlobals mg → mg d.name = some (.ref fa) →
      ∃ (K : PySem.W.Frag) (fd : FuncData) (Ts : List (Addr × Addr)) (sp : Sp), K.In h ∧ (∀ p ∈ Ts, h.get? p.2 = some { cls := .none, data := .fields #[] }) ∧ (∀ p ∈ Ts, K.lookup p.2 = none) ∧ (∀ p ∈ Ts, PySem.W.CodeHd h p.1 p.2) ∧ (∀ (s : Shared) (u : Value), BindsTo s fd ⟨[u], []⟩ [(x, u)]) ∧
        (∀ (H : Hp) (a : Addr) (ns : List Int), ns.length ≤ n → (∀ p ∈ Ts, H p.2 = some (.tbl #[])) → SqL K H a (ns.map V.int) → sp [.ref a] H (fun v _ => v = .bl true) fun _ _ _ => False) ∧
        ∀ base : Heap, K.In base → base.Ns mainGlobals mg → (∀ p ∈ Ts, TabB base mg p.1 p.2) → FnG l.prog w K mg base (CX w) k fa fd [x] sp)
    (out : ∀ (w : World) (H : Hp) (s : Shared) (e : Value) (s' : Shared), CX w [] H s (fun _ _ _ => False) e s' → False) : PySem.W.WalkO q loose XP YP l.row.toRowW d [] (fun f vs => PySem.call f vs) := by
  apply Att.attach_call most plain
  intro w s0 s1 mg mb fa o pm cd doc a vs ns G Y ho hd hcd hmg hobj hints hlen hg
  obtain ⟨K, fd, Ts, sp, KX, t1, t2, t3, bnd, ask, hF⟩ := F w mg fa _ Y G.T.g hmg
  exact callTs KX G.T.g G.T.b G.T.builtins G.T.nolimit hg t1 t2 t3 G.T.bmain hobj hints (Nat.le_trans hlen line) room hF bnd (fun H h1 h2 => ask H a ns hlen h1 h2) fun H e s' => out w H s1 e s'
end DL
set_option Elab.async false
set_option linter.all false
set_option maxRecDepth 100000
set_option maxHeartbeats 0
namespace K16
open PySem PySem.Spec PyProof.Rows L2 Evl DL He LamX
abbrev r__law_begun : Stmt := topS 58
abbrev r__law_draw : Stmt := topS 59
abbrev r__law_pick : Stmt := topS 60
abbrev r__law_pairs : Stmt := topS 62
abbrev r__law_sums : Stmt := topS 65
abbrev r__law_let : Stmt := topS 66
abbrev r_is_number : Stmt := topS 10
abbrev r_is_within : Stmt := topS 11
abbrev r_check_sides : Stmt := topS 18
abbrev r_is_tuple_of : Stmt := topS 12
abbrev r_many_pairs : Stmt := topS 32
abbrev r_is_load_of : Stmt := topS 34
abbrev r_check_load : Stmt := topS 35
abbrev r_side_pairs : Stmt := topS 31
abbrev r_sums_at_sides : Stmt := topS 37
abbrev r_is_let : Stmt := topS 43
abbrev r_wire_rows : Stmt := topS 50
abbrev r_mates_way : Stmt := topS 49
abbrev r__law_laid : Stmt := topS 67
abbrev r__law_load : Stmt := topS 64
abbrev r__law_pins : Stmt := topS 63
abbrev r_check_tracks : Stmt := topS 19
abbrev r_mate : Stmt := topS 25
abbrev r_is_joined : Stmt := topS 26
abbrev r_is_switch : Stmt := topS 21
abbrev r_rises : Stmt := topS 13
abbrev r_is_switch_tuple : Stmt := topS 22
abbrev r_init : Stmt := inClass (topS 17) 0
abbrev r_built : Stmt := topS 27
abbrev r_crossed : Stmt := topS 28
abbrev r_check_box : Stmt := topS 20
abbrev r_check_box_load : Stmt := topS 55
abbrev r_has_switch : Stmt := topS 23
abbrev r_is_lot : Stmt := topS 24
abbrev r_is_way_of : Stmt := topS 52
abbrev r_pair_place : Stmt := topS 33
abbrev r_load_of : Stmt := topS 53
abbrev r_is_way_for : Stmt := topS 56
abbrev r_check_room : Stmt := topS 42
abbrev r_is_below : Stmt := topS 36
abbrev r_reduced : Stmt := topS 45
abbrev r_is_part : Stmt := topS 46
abbrev r_let_loads : Stmt := topS 38
abbrev r_mates_rooms : Stmt := topS 44
abbrev r_part_off : Stmt := topS 47
abbrev r_crossed_split : Stmt := topS 48
abbrev r__law_caught : Stmt := topS 61
abbrev r_law : Stmt := topS 68
def clsB (K : PySem.W.Frag) (C : Addr) : Bool :=
  eqO (PySem.W.findIn K (.ref C) "__getattribute__") (some (some (.builtin "BaseException.__getattribute__"))) && (eqO (PySem.W.findIn K (.ref C) "__getattr__") (some none) && (PySem.W.hasDictIn K C && (eqO (PySem.W.findIn K (.ref C) "__class__") (some (some (.builtin "object.__class__"))) &&
  (decide (PySem.W.mroIn K C (.type "object") = some true) && decide (PySem.W.kitOne K (.ref C) (.ref C) = some true)))))
theorem clsB_ok {K : PySem.W.Frag} {C : Addr} (h : clsB K C = true) (e : PySem.W.subIn K (.ref C) (.type "BaseException") = some true) (n : PySem.W.specialIn K (.builtin "object.__class__") "__get__" = some (some (.builtin "getset_descriptor.__get__"))) (t : PySem.W.takesIn K (.builtin "object.__class__") = some true) :
    ExcC K C ∧ PySem.W.kitOne K (.ref C) (.ref C) = some true := by
  obtain ⟨h1, h⟩ := ba h
  obtain ⟨h2, h⟩ := ba h
  obtain ⟨h3, h⟩ := ba h
  obtain ⟨h4, h⟩ := ba h
  obtain ⟨h5, h6⟩ := ba h
  exact ⟨⟨eqO_ok h1, eqO_ok h2, e, h3, eqO_ok h4, n, t, of_decide_eq_true h5⟩, of_decide_eq_true h6⟩
theorem exc_ok {K : PySem.W.Frag} {x : Str} {mg : Str → Option Value} (g : mg x = some (.ref (ga K x))) (c : (Fa.exc x).ok K = true) : ErC K mg x (ga K x) ∧ PySem.W.subIn K (.ref (ga K x)) (.type "BaseException") = some true := by
  obtain ⟨h1, h⟩ := ba c
  obtain ⟨h2, h⟩ := ba h
  obtain ⟨h3, h4⟩ := ba h
  exact ⟨⟨g, ⟨_, PySem.F.excBase_ValueError, h1⟩, h2, of_decide_eq_true h3, of_decide_eq_true h4⟩, of_decide_eq_true h3⟩
def boxB (K : PySem.W.Frag) (C : Addr) : Bool := eqO (PySem.W.findIn K (.ref C) "__class__") (some (some (.builtin "object.__class__"))) && (decide (PySem.W.mroIn K C (.type "object") = some true) && decide (PySem.W.kitOne K (.ref C) (.ref C) = some true))
def exA (K : PySem.W.Frag) : Bool := clsB K (ga K "BadSides") && (clsB K (ga K "BadLoad") && (clsB K (ga K "BadRoom") && (decide (PySem.W.specialIn K (.builtin "object.__class__") "__get__" = some (some (.builtin "getset_descriptor.__get__"))) && (decide (PySem.W.takesIn K (.builtin "object.__class__") = some true) && (boxB K (ga K "Box") && !decide ((cT K ("wire_rows", none)).2 = (cT K ("law", none)).2))))))
def d_0 : DefD := ⟨("_law_begun", none), "_law_begun", "_law_begun", defArgs r__law_begun, defBody r__law_begun, defScope r__law_begun, [], []⟩
def d_1 : DefD := ⟨("_law_draw", none), "_law_draw", "_law_draw", defArgs r__law_draw, defBody r__law_draw, defScope r__law_draw, [], []⟩
def d_2 : DefD := ⟨("_law_pick", none), "_law_pick", "_law_pick", defArgs r__law_pick, defBody r__law_pick, defScope r__law_pick, [], []⟩
def d_3 : DefD := ⟨("_law_pairs", none), "_law_pairs", "_law_pairs", defArgs r__law_pairs, defBody r__law_pairs, defScope r__law_pairs, [], []⟩
def d_4 : DefD := ⟨("_law_sums", none), "_law_sums", "_law_sums", defArgs r__law_sums, defBody r__law_sums, defScope r__law_sums, [], []⟩
def d_5 : DefD := ⟨("_law_let", none), "_law_let", "_law_let", defArgs r__law_let, defBody r__law_let, defScope r__law_let, [], []⟩
def d_6 : DefD := ⟨("is_number", none), "is_number", "is_number", defArgs r_is_number, defBody r_is_number, defScope r_is_number, [], []⟩
def d_7 : DefD := ⟨("is_within", none), "is_within", "is_within", defArgs r_is_within, defBody r_is_within, defScope r_is_within, [], []⟩
def d_8 : DefD := ⟨("check_sides", none), "check_sides", "check_sides", defArgs r_check_sides, defBody r_check_sides, defScope r_check_sides, [], []⟩
def d_9 : DefD := ⟨("is_tuple_of", none), "is_tuple_of", "is_tuple_of", defArgs r_is_tuple_of, defBody r_is_tuple_of, defScope r_is_tuple_of, [], []⟩
def d_10 : DefD := ⟨("many_pairs", none), "many_pairs", "many_pairs", defArgs r_many_pairs, defBody r_many_pairs, defScope r_many_pairs, [], []⟩
def d_11 : DefD := ⟨("is_load_of", none), "is_load_of", "is_load_of", defArgs r_is_load_of, defBody r_is_load_of, defScope r_is_load_of, [], []⟩
def d_12 : DefD := ⟨("check_load", none), "check_load", "check_load", defArgs r_check_load, defBody r_check_load, defScope r_check_load, [], []⟩
def d_13 : DefD := ⟨("side_pairs", none), "side_pairs", "side_pairs", defArgs r_side_pairs, defBody r_side_pairs, defScope r_side_pairs, [], []⟩
def d_14 : DefD := ⟨("sums_at_sides", none), "sums_at_sides", "sums_at_sides", defArgs r_sums_at_sides, defBody r_sums_at_sides, defScope r_sums_at_sides, [], []⟩
def d_15 : DefD := ⟨("is_let", none), "is_let", "is_let", defArgs r_is_let, defBody r_is_let, defScope r_is_let, [], []⟩
def d_16 : DefD := ⟨("wire_rows", none), "wire_rows", "wire_rows", defArgs r_wire_rows, defBody r_wire_rows, defScope r_wire_rows, [], []⟩
def d_17 : DefD := ⟨("mates_way", none), "mates_way", "mates_way", defArgs r_mates_way, defBody r_mates_way, defScope r_mates_way, [], []⟩
def d_18 : DefD := ⟨("_law_laid", none), "_law_laid", "_law_laid", defArgs r__law_laid, defBody r__law_laid, defScope r__law_laid, [], []⟩
def d_19 : DefD := ⟨("_law_load", none), "_law_load", "_law_load", defArgs r__law_load, defBody r__law_load, defScope r__law_load, [], []⟩
def d_20 : DefD := ⟨("_law_pins", none), "_law_pins", "_law_pins", defArgs r__law_pins, defBody r__law_pins, defScope r__law_pins, [], []⟩
def d_21 : DefD := ⟨("check_tracks", none), "check_tracks", "check_tracks", defArgs r_check_tracks, defBody r_check_tracks, defScope r_check_tracks, [], []⟩
def d_22 : DefD := ⟨("mate", none), "mate", "mate", defArgs r_mate, defBody r_mate, defScope r_mate, [], []⟩
def d_23 : DefD := ⟨("is_joined", none), "is_joined", "is_joined", defArgs r_is_joined, defBody r_is_joined, defScope r_is_joined, [], []⟩
def d_24 : DefD := ⟨("is_switch", none), "is_switch", "is_switch", defArgs r_is_switch, defBody r_is_switch, defScope r_is_switch, [], []⟩
def d_25 : DefD := ⟨("rises", none), "rises", "rises", defArgs r_rises, defBody r_rises, defScope r_rises, [], []⟩
def d_26 : DefD := ⟨("is_switch_tuple", none), "is_switch_tuple", "is_switch_tuple", defArgs r_is_switch_tuple, defBody r_is_switch_tuple, defScope r_is_switch_tuple, [], []⟩
def d_27 : DefD := ⟨("Box", some "__init__"), "__init__", "Box.__init__", defArgs r_init, defBody r_init, defScope r_init, [], []⟩
def d_28 : DefD := ⟨("built", none), "built", "built", defArgs r_built, defBody r_built, defScope r_built, [], []⟩
def d_29 : DefD := ⟨("crossed", none), "crossed", "crossed", defArgs r_crossed, defBody r_crossed, defScope r_crossed, [], []⟩
def d_30 : DefD := ⟨("check_box", none), "check_box", "check_box", defArgs r_check_box, defBody r_check_box, defScope r_check_box, [], []⟩
def d_31 : DefD := ⟨("check_box_load", none), "check_box_load", "check_box_load", defArgs r_check_box_load, defBody r_check_box_load, defScope r_check_box_load, [], []⟩
def d_32 : DefD := ⟨("has_switch", none), "has_switch", "has_switch", defArgs r_has_switch, defBody r_has_switch, defScope r_has_switch, [], []⟩
def d_33 : DefD := ⟨("is_lot", none), "is_lot", "is_lot", defArgs r_is_lot, defBody r_is_lot, defScope r_is_lot, [], []⟩
def d_34 : DefD := ⟨("is_way_of", none), "is_way_of", "is_way_of", defArgs r_is_way_of, defBody r_is_way_of, defScope r_is_way_of, [], []⟩
def d_35 : DefD := ⟨("pair_place", none), "pair_place", "pair_place", defArgs r_pair_place, defBody r_pair_place, defScope r_pair_place, [], []⟩
def d_36 : DefD := ⟨("load_of", none), "load_of", "load_of", defArgs r_load_of, defBody r_load_of, defScope r_load_of, [], []⟩
def d_37 : DefD := ⟨("is_way_for", none), "is_way_for", "is_way_for", defArgs r_is_way_for, defBody r_is_way_for, defScope r_is_way_for, [], []⟩
def d_38 : DefD := ⟨("check_room", none), "check_room", "check_room", defArgs r_check_room, defBody r_check_room, defScope r_check_room, [], []⟩
def d_39 : DefD := ⟨("is_below", none), "is_below", "is_below", defArgs r_is_below, defBody r_is_below, defScope r_is_below, [], []⟩
def d_40 : DefD := ⟨("reduced", none), "reduced", "reduced", defArgs r_reduced, defBody r_reduced, defScope r_reduced, [], []⟩
def d_41 : DefD := ⟨("is_part", none), "is_part", "is_part", defArgs r_is_part, defBody r_is_part, defScope r_is_part, [], []⟩
def d_42 : DefD := ⟨("let_loads", none), "let_loads", "let_loads", defArgs r_let_loads, defBody r_let_loads, defScope r_let_loads, [], []⟩
def d_43 : DefD := ⟨("mates_rooms", none), "mates_rooms", "mates_rooms", defArgs r_mates_rooms, defBody r_mates_rooms, defScope r_mates_rooms, [], []⟩
def d_44 : DefD := ⟨("part_off", none), "part_off", "part_off", defArgs r_part_off, defBody r_part_off, defScope r_part_off, [], []⟩
def d_45 : DefD := ⟨("crossed_split", none), "crossed_split", "crossed_split", defArgs r_crossed_split, defBody r_crossed_split, defScope r_crossed_split, [], []⟩
def d_46 : DefD := ⟨("_law_caught", none), "_law_caught", "_law_caught", defArgs r__law_caught, defBody r__law_caught, defScope r__law_caught, [], []⟩
def d_47 : DefD := ⟨("law", none), "law", "law", defArgs r_law, defBody r_law, defScope r_law, [], []⟩
def fnL : List DefD := [d_0, d_1, d_2, d_3, d_4, d_5, d_6, d_7, d_8, d_9, d_10, d_11, d_12, d_13, d_14, d_15, d_16, d_17, d_18, d_19, d_20, d_21, d_22, d_23, d_24, d_25, d_26, d_27, d_28, d_29, d_30, d_31, d_32, d_33, d_34, d_35, d_36, d_37, d_38, d_39, d_40, d_41, d_42, d_43, d_44, d_45, d_46, d_47]
def faL : List Fa := [.glo "_law_begun", .glo "_law_draw", .glo "_law_pick", .glo "_law_pairs", .glo "_law_sums", .glo "_law_let", .glo "is_number", .glo "is_within", .glo "check_sides", .glo "is_tuple_of", .glo "many_pairs", .glo "is_load_of", .glo "check_load", .glo "side_pairs", .glo "sums_at_sides", .glo "is_let", .glo "wire_rows", .glo "mates_way", .glo "_law_laid", .glo "_law_load", .glo "_law_pins", .glo "check_tracks", .glo "mate", .glo "is_joined", .glo "is_switch", .glo "rises", .glo "is_switch_tuple", .glo "built", .glo "crossed", .glo "check_box", .glo "check_box_load", .glo "has_switch", .glo "is_lot", .glo "is_way_of", .glo "pair_place", .glo "load_of", .glo "is_way_for", .glo "check_room", .glo "is_below", .glo "reduced", .glo "is_part", .glo "let_loads", .glo "mates_rooms", .glo "part_off", .glo "crossed_split", .glo "_law_caught", .glo "law", .free "isinstance", .free "int", .free "bool", .free "tuple", .free "list", .free "len", .free "range", .free "zip", .free "max", .free "min", .free "sum", .free "abs", .free "repr", .free "enumerate", .free "sorted", .free "set", .int "MOST_NUMBER" 99, .int "MOST_SIDES" 5, .int "MOST_TRACKS" 6, .int "MOST_ROOM" 99, .int "MOST_LET" 20000, .glo "BadSides", .glo "BadLoad", .glo "BadRoom", .glo "CallError", .glo "Box", .exc "BadSides", .exc "BadLoad", .exc "BadRoom", .exm "BadSides" "CallError" true, .exm "BadLoad" "CallError" true, .exm "BadRoom" "CallError" true, .cls "Box", .mkr "Box", .noat "Box" "sides", .noat "Box" "tracks", .noat "Box" "switches", .noat "Box" "known"]
def tfL : List Defn := [("law", none), ("wire_rows", none)]
abbrev RR : PySem.W.OpenRow := PySem.W.OpenLaw.row PySem.Challenge.rw_allcalls_k19_whole_splits_laid_over_mate
abbrev vq : Program := PySem.W.view RR.prog [68]
def names0 : List Str := [Str.ofString "CallError", Str.ofString "BadBox", Str.ofString "BadLoad", Str.ofString "BadRoom", Str.ofString "BadSides", Str.ofString "BadSwitches", Str.ofString "BadTracks", Str.ofString "TooMany", Str.ofString "is_number", Str.ofString "is_within", Str.ofString "is_tuple_of", Str.ofString "rises"]
def names1 : List Str := [Str.ofString "MOST_SIDES", Str.ofString "MOST_TRACKS", Str.ofString "Box", Str.ofString "check_sides", Str.ofString "check_tracks", Str.ofString "check_box", Str.ofString "is_switch", Str.ofString "is_switch_tuple", Str.ofString "has_switch", Str.ofString "is_lot", Str.ofString "mate", Str.ofString "is_joined"]
def names2 : List Str := [Str.ofString "built", Str.ofString "crossed", Str.ofString "MOST_NUMBER", Str.ofString "side_pairs", Str.ofString "many_pairs", Str.ofString "pair_place", Str.ofString "is_load_of", Str.ofString "check_load", Str.ofString "is_below", Str.ofString "sums_at_sides", Str.ofString "let_loads", Str.ofString "MOST_ROOM"]
def names3 : List Str := [Str.ofString "MOST_LET", Str.ofString "check_room", Str.ofString "is_let", Str.ofString "mates_rooms", Str.ofString "reduced", Str.ofString "is_part", Str.ofString "part_off", Str.ofString "crossed_split", Str.ofString "mates_way", Str.ofString "wire_rows", Str.ofString "is_way_of", Str.ofString "load_of"]
def names4 : List Str := [Str.ofString "check_box_load", Str.ofString "is_way_for", Str.ofString "_law_begun", Str.ofString "_law_draw", Str.ofString "_law_pick", Str.ofString "_law_caught", Str.ofString "_law_pairs", Str.ofString "_law_pins", Str.ofString "_law_load", Str.ofString "_law_sums", Str.ofString "_law_let", Str.ofString "_law_laid"]
def nameL : List Str := names0 ++ names1 ++ names2 ++ names3 ++ names4
theorem run1 (w : World) (os : OsState) : (lastY RR 24000 w os).map (fun s => (HandSHeadRun.looksF RR.prog (PySem.W.boot_heap w.params) s.abs, HandSHeadRun.seenQ vq nameL (importedModules RR.prog.main.body) (fun s => PySem.W.xlAt vq [] s && PySem.W.recOk RR.toRowW.records s) s.abs)) = some (true, PySem.W.openGood vq nameL) := by
  kernel_rfl
theorem run2 (w : World) (os : OsState) : (lastY RR 24000 w os).map (fun s => obsD faL fnL (fragY (HandSHeadRun.getT s) 5)) = some (valD fnL) := by
  kernel_rfl
theorem run3 (w : World) (os : OsState) : (lastY RR 24000 w os).map (fun s => exA (fragY (HandSHeadRun.getT s) 5)) = some true := by
  kernel_rfl
theorem run4 (w : World) (os : OsState) : (lastY RR 24000 w os).map (fun s => tabsB (HandSHeadRun.getT s) tfL (fragY (HandSHeadRun.getT s) 5)) = some true := by
  kernel_rfl
theorem run (w : World) : HandSHeadRun.RunEq RR vq (hookY 5 faL fnL tfL exA) (seeY 5 faL fnL tfL exA) 24000 nameL w := run_of (run1 w) (run2 w) (run3 w) (run4 w)
end K16
set_option Elab.async false
set_option linter.all false
set_option maxRecDepth 100000
set_option maxHeartbeats 4000000
/-! an own exception class with its own __init__, called by keywords: from type.__call__ on -/
namespace PySem
namespace KwE
open Builtin Builtin.ObjectAttr HandSPX
section
variable {M : Model} {A : Around} {E : Value → Shared → Prop} {h : Heap} {g : Array GenState} {d : Drawn} {t : Nat} {os : OsState}
variable {nm q : Str} {C N : Addr} {bs bm bmB : List Value} {hdct : Bool} {sn : List Str} {sub : List Value} {ab : Bool} {col : Option Bool} {dd : Option Addr} {k0 k1 k2 k3 k5 : Option Value} {B newId initId : String} {kw : List (Str × Value)}
theorem check_new (F : ExcBaseFacts B newId initId bmB) (hT : ∀ X : String, bm.contains (.type X) = bmB.contains (.type X)) {rest : List Value} {Q : Unit → Shared → Prop}
    (hC : h.get? C = some (excClassObj nm q C N bs bm hdct sn sub ab col dd k0 k1 k2 k3 k5 newId)) (hq : Q () ⟨h, g, d, t, os⟩) : wpAny M A (checkBuiltinCall newId ⟨.ref C :: rest, kw⟩) Q E ⟨h, g, d, t, os⟩ := by
  have hcont : (Value.ref C :: bm).contains (.type B) = true := by rw [List.contains_cons, hT, F.hasB, Bool.or_true]
  have hstar := F.noStar
  simp only [checkBuiltinCall, F.newKind, F.newSplit, F.newRow]
  repeat (first | refine wpAny_loadPart_at hC ?_ | (refine wpAny_isSubtype_exc hC ?_; rw [hcont]) | refine wpAny_staticBase_exc hC ?_ | refine wpAny_madeBy_exc hC ?_ | simp only [bne_self_eq_false, Bool.false_eq_true, if_false] | wp_step)
  exact hq
end
section
variable {prog : Program} {w : World} {A : Around} {E : Value → Shared → Prop} {R : Result → Shared → Prop} {h : Heap} {g : Array GenState} {d : Drawn} {t : Nat} {os : OsState}
variable {nm q : Str} {C N : Addr} {bs bm bmB : List Value} {hdct : Bool} {sn : List Str} {sub : List Value} {ab : Bool} {col : Option Bool} {dd : Option Addr} {k0 k1 k2 k3 k5 : Option Value} {B newId initId : String} {kw : List (Str × Value)}
theorem new_kw (F : ExcBaseFacts B newId initId bmB) (hT : ∀ X : String, bm.contains (.type X) = bmB.contains (.type X)) {rest : List Value}
    (hC : h.get? C = some (excClassObj nm q C N bs bm hdct sn sub ab col dd k0 k1 k2 k3 k5 newId))
    (hq : R (.ok (.ret (.ref (h.objs.size + 1)))) ⟨(h.push { cls := .type "tuple", data := .seq rest.toArray }).push
      { cls := .ref C, data := .fields #[.ref h.objs.size, .none, .none, .none, .bool false, .none] }, g, d, t, os⟩) (hrest : rest.length ≤ sizeLine) :
    codeAny (model prog w) A (.builtin newId ⟨.ref C :: rest, kw⟩) R ⟨h, g, d, t, os⟩ := by
  have hends := F.ends
  have hcB : (Value.ref C :: bm).contains (.type B) = true := by rw [List.contains_cons, hT, F.hasB, Bool.or_true]
  have hcA : (Value.ref C :: bm).contains (.type "AttributeError") = false := by rw [List.contains_cons, hT, F.noAttr]; rfl
  have hcN : (Value.ref C :: bm).contains (.type "NameError") = false := by rw [List.contains_cons, hT, F.noName]; rfl
  refine codeAny_builtinAt F.entry ?_
  unfold Builtin.«BaseException.__new__»
  refine wpAt_bind ?_
  show wpAt _ _ _ (stack >>= _) _ _ _
  refine wpAt_bind (wpAt_stack fun p below => wpAt_of_wpAny ?_)
  wp_walk
  refine wpAt_of_wpAny ?_
  rw [F.owner]
  repeat (first | with_reducible refine wpAny_madeHere_exc F.canon hC ?_ | with_reducible refine wpAny_loadPart_at hC ?_ | (with_reducible refine wpAny_isSubtype_exc hC ?_; first | rw [hcB] | rw [hcA] | rw [hcN]) | wp_step)
  show R _ _
  rw [Heap.size_push]
  exact hq

theorem type_call_kw (F : ExcBaseFacts B newId initId bmB) (hT : ∀ X : String, bm.contains (.type X) = bmB.contains (.type X)) {rest : List Value} {fI : Addr} {Q : Fin → Shared → Prop}
    (hC : h.get? C = some (excClassObj nm q C N bs bm hdct sn sub ab col dd k0 k1 k2 k3 k5 newId))
    (hi : W.Looks (model prog w) h (typeLookup (.ref C) "__init__") (some (.ref fI))) (hb : ∀ self, W.Looks (model prog w) h (bindSpecial (.ref fI) self) (.ref fI, [self])) (hrest : rest.length ≤ sizeLine)
    (hq : codeAny (model prog w) A (.call (.ref fI) ⟨.ref (h.objs.size + 1) :: rest, kw⟩)
      (fun r s' => match r with | .ok (.ret v) => v = .none ∧ Q (.done (.ret (.ref (h.objs.size + 1)))) s' | .ok _ => False | .error e => E e s')
      ⟨(h.push (W.kdv_tup rest)).push (excO C h.objs.size), g, d, t, os⟩) :
    wpAny (model prog w) A (Builtin.«type.__call__» ⟨.ref C :: rest, kw⟩) Q E ⟨h, g, d, t, os⟩ := by
  repeat (first | with_reducible refine wpAny_loadPart_at hC ?_ | with_reducible refine wpAny_madeBy_exc hC ?_ | wp_step)
  refine codeAny_call_builtin_code (Code.quiet_builtin _ F.quiet) (check_new F hT hC ?_)
  refine new_kw F hT hC ?_ hrest
  show wpAny _ _ _ _ _ _
  have k : ∀ b o, h.get? b = some o → ((h.push (W.kdv_tup rest)).push (excO C h.objs.size)).get? b = some o := fun b o e => Heap.get?_push_of_some _ (Heap.get?_push_of_some _ e)
  have hC₁ := k _ _ hC
  have hget : ((h.push (W.kdv_tup rest)).push (excO C h.objs.size)).get? (h.objs.size + 1) = some (excO C h.objs.size) := by heap_get
  have hcC : (Value.ref C :: bm).contains (.ref C) = true := by simp
  have i1 := hi.keeps k
  have b1 := (hb (.ref (h.objs.size + 1))).keeps k
  unfold isInstance
  repeat (first | with_reducible refine wpAny_loadPart_at hget ?_ | (with_reducible refine wpAny_isSubtype_exc hC₁ ?_; rw [hcC]) | wp_step)
  show wpAny _ _ (typeLookup (.ref C) _) _ _ _
  refine i1.at ?_
  refine wpAny_holding (wpAny_bind (b1.at ?_))
  refine wpAny_bind (wpAny_call (codeAny_mono hq fun r s' z => ?_))
  rcases r with e | (v | _ | _ | _) <;> first | exact z | exact z.elim | skip
  obtain ⟨rfl, z⟩ := z
  first
    | exact wpAny_pure (wpAny_pure z)
    | (wp_walk; exact z)
theorem check_type_call {M : Model} {rest : List Value} {Q : Unit → Shared → Prop} (hC : h.get? C = some (excClassObj nm q C N bs bm hdct sn sub ab col dd k0 k1 k2 k3 k5 newId))
    (hq : Q () ⟨h, g, d, t, os⟩) : wpAny M A (checkBuiltinCall "type.__call__" ⟨.ref C :: rest, kw⟩) Q E ⟨h, g, d, t, os⟩ := by
  have f3 := tc_sub
  have hT : (⟨h, g, d, t, os⟩ : Shared).TypeIs (.ref C) "type" := ⟨_, hC, rfl⟩
  simp only [checkBuiltinCall, tc_kind, tc_split]
  repeat (any_goals (first | assumption | with_reducible refine wpAny_loadPart_at hC ?_ | with_reducible refine wpAny_onRaise ?_ | with_reducible refine wpAny_map ?_ | wp_step))
theorem call_kw (F : ExcBaseFacts B newId initId bmB) (hT : ∀ X : String, bm.contains (.type X) = bmB.contains (.type X)) {rest : List Value} {fI : Addr}
    (hC : h.get? C = some (excClassObj nm q C N bs bm hdct sn sub ab col dd k0 k1 k2 k3 k5 newId))
    (hi : W.Looks (model prog w) h (typeLookup (.ref C) "__init__") (some (.ref fI))) (hb : ∀ self, W.Looks (model prog w) h (bindSpecial (.ref fI) self) (.ref fI, [self])) (hrest : rest.length ≤ sizeLine)
    (hq : codeAny (model prog w) (A.under (.builtin "type.__call__" ⟨.ref C :: rest, kw⟩)) (.call (.ref fI) ⟨.ref (h.objs.size + 1) :: rest, kw⟩) (W.InitBack (h.objs.size + 1) R)
      ⟨(h.push (W.kdv_tup rest)).push (excO C h.objs.size), g, d, t, os⟩) :
    codeAny (model prog w) A (.call (.ref C) ⟨rest, kw⟩) R ⟨h, g, d, t, os⟩ := by
  have f1 := tc_lookup
  have f2 := tc_bind (.ref C)
  have hTy : (⟨h, g, d, t, os⟩ : Shared).TypeIs (.ref C) "type" := ⟨_, hC, rfl⟩
  refine codeAny_of_tree ?_
  show wpAny _ _ (callAny (.ref C) _) _ _ _
  repeat (any_goals (first | assumption | with_reducible refine wpAny_loadPart_at hC ?_ | wp_step))
  refine ⟨rfl, ?_⟩
  refine codeAny_call_builtin_at (Code.quiet_builtin _ (by decide +kernel)) entry_typeCall (check_type_call hC (type_call_kw F hT hC hi hb hrest ?_))
  refine codeAny_mono hq fun r s' z => ?_
  rcases r with e | (v | _ | _ | _) <;> exact z
end
end KwE
end PySem
set_option Elab.async false
set_option linter.all false
set_option maxRecDepth 100000
set_option maxHeartbeats 4000000
/-! own exceptions as values: isinstance, fields, making them, their base's __init__ -/
namespace DL
open PySem PySem.Spec PyProof.Rows L2 Evl
variable {X : Cx} {pins : List (Addr × Obj)} {σ : L2.St} {H : Hp} {s : Shared}
/-- at a: an exception of the class at C, without or with own fields -/
def XcAt (H : Hp) (a C : Addr) : Prop := H a = some (ExO (.ref C) a) ∨ ∃ (d : Addr) (fs : List (Str × V)), H a = some (exo a C (some d)) ∧ H d = some (exd d fs)
theorem xc_inst {a C : Addr} (I : Inv X pins σ H s) (h : XcAt H a C) : ∃ oe od, PySem.W.InstAt s.heap a oe C od := by
  rcases h with h | ⟨d, fs, h, hd⟩
  · obtain ⟨⟨oe, vs, ho, hz, hd, h1, _⟩, _, _⟩ := I.hok a _ h
    refine ⟨oe, none, ?_⟩
    cases oe with
    | mk oc od oda osl =>
      obtain ⟨z1, z2⟩ := hz
      have z1 : oc = .ref C := z1
      have z2 : od = none := z2
      have hd : oda = .fields vs := hd
      subst z1 z2 hd
      exact ⟨ho, rfl, rfl, trivial⟩
  · obtain ⟨t1, ho⟩ := exo_at I.hok h
    obtain ⟨mA, hns, rel⟩ := exd_at I.hok hd
    obtain ⟨od, ho2, hl⟩ := lookIn_ns hns
    exact ⟨_, some od, ho, rfl, rfl, ho2⟩
theorem xc_ex {H' : Hp} {a C : Addr} (e : Ex H H') (h : XcAt H a C) : XcAt H' a C := by
  rcases h with h | ⟨d, fs, h, hd⟩
  · exact .inl (e _ _ h)
  · exact .inr ⟨d, fs, e _ _ h, e _ _ hd⟩
/-- isinstance(e, C) -/
def rIsX (K : PySem.W.Frag) : List V → Hp → VK → Prop := fun xs H Q => ∃ (a D : Addr) (c : V) (cv : Value) (b : Bool), xs = [.ref a, c] ∧ XcAt H a D ∧ ExcC K D ∧ (∀ u, RelV c u → u = cv) ∧ PySem.W.kitOne K (.ref D) cv = some b ∧ Q (.bl b) H
theorem call_isX : CallR X (.builtin "isinstance") (rIsX X.K) := by
  intro pins s σ H xs us Q I r h
  obtain ⟨a, D, c, cv, b, rfl, ha, C, hcv, e, q⟩ := h
  obtain ⟨u1, u2, rfl, ra, rc⟩ := vals2 r
  cases ra
  have ec := hcv _ rc
  subst ec
  obtain ⟨oe, od, J⟩ := xc_inst I ha
  have hcl : (PySem.W.clsIn X.K D).isSome = true := by
    obtain ⟨cd, hc, _⟩ := PySem.W.any_some C.hd
    rw [hc]
    rfl
  exact PySem.W.kia_one (PySem.W.kitx_exc hcl C.hg C.hk C.hs C.ha C.hn C.ht C.hm) I.kIn J e (fun z => nomatch z) fun tk => ⟨.bl b, H, I.kept (t' := tk) fun _ _ z => z, rfl, q⟩
/-- e.f -/
def tXget (K : PySem.W.Frag) (f : Str) (te : TE) : TE := fun σ H Q => te σ H fun x H1 => ∃ (a C d : Addr) (fs : List (Str × V)) (v : V), x = .ref a ∧ H1 a = some (exo a C (some d)) ∧ H1 d = some (exd d fs) ∧ XfC K C ∧ PySem.W.findIn K (.ref C) f = some none ∧ fs.lookup f = some v ∧ Q v H1
theorem pe_xget {e : Expr} {te : TE} {pos : Pos} {n : Str} (he : PE X e te) (hb : attributeBase e n X.env (eval e X.env) = eval e X.env := by rfl) : PE X (.Attribute e n pos) (tXget X.K n te) := by
  refine ⟨fun pins s σ H Q I h => ?_⟩
  refine attr_of hb (thn (he.run pins s σ H _ I h) fun u s1 hh => ?_)
  obtain ⟨x, H1, I1, rx, a, C, d, fs, v, rfl, ha, hd, T, hno, l, q⟩ := hh
  obtain rfl : u = Value.ref a := rx
  obtain ⟨t1, ho⟩ := exo_at I1.hok ha
  obtain ⟨mA, hns, rel⟩ := exd_at I1.hok hd
  obtain ⟨od, ho2, hl⟩ := lookIn_ns hns
  obtain ⟨u, hu, ru⟩ := RelO.some_of (v := v) (o := mA n) (by rw [← l]; exact rel n)
  have J : PySem.W.InstAt s1.heap a _ C (some od) := ⟨ho, rfl, rfl, ho2⟩
  exact PySem.HandSPX.exc_get I1.kIn J T.ga T.gg T.exC (PySem.W.findObj_own T.hdC hno rfl (by rw [hl, hu])) (handed_of ru) ⟨v, H1, I1.tok _, ru, q⟩
/-- B.__init__(self, ..), B an own class that has ValueError's -/
structure BiC (K : PySem.W.Frag) (mg : Str → Option Value) (nm : Str) (B : Addr) : Prop where
  gC : mg nm = some (.ref B)
  rd : PySem.W.readsIn K B (.type "type") = true
  ga : PySem.W.specialIn K (.ref B) "__getattribute__" = some (some (.builtin "type.__getattribute__"))
  fi : PySem.W.findCls K (.ref B) (.type "type") "__init__" = some (.val (.builtin "ValueError.__init__"))
theorem pe_binit {x : Str} {B : Addr} {ta : TA} {e : Expr} {es : List Expr} {p1 p2 pos : Pos} {pl : Sem Bool} (T : BiC X.K X.mg x B) (hg : Gl X x) (ha : PA X (e :: es) ta)
    (hc : eval (.Call (.Attribute (.Name x p1) "__init__" p2) (e :: es) [] pos) X.env = (do
      let ov ← eval (.Name x p1) X.env
      standAt p2.atName
      let (f, first) ← holding [ov] (getMethod ov "__init__" pl)
      callWith pos f first (backTo pos (starEach (e :: es) X.env)) (backToKw pos (keywordEach [] X.env))) := by rfl)
    (he : starEach (e :: es) X.env = (false, eval e X.env) :: starEach es X.env := by rfl) (hpl : (backTo pos (starEach es X.env)).any (·.1) = false := by rfl) (hdb : (x == ("__debug__" : Str)) = false := by decide) :
    PE X (.Call (.Attribute (.Name x p1) "__init__" p2) (e :: es) [] pos) (tVeI X.K ta) := by
  refine ⟨fun pins s σ H Q I h => ?_⟩
  refine PySem.W.methodCall_KW (ld_glob I hg T.gC ?_ hdb) hc
  refine PySem.W.method_cls I.kIn T.ga (PySem.W.cls_value I.kIn T.rd T.fi (by decide +kernel) ?_)
  show wpAny _ _ (callWith pos (Value.builtin "ValueError.__init__") [] (backTo pos (starEach (e :: es) X.env)) []) _ _ _
  refine PyProof.Rows.callWith_method1 (thn (ha.run pos pins _ σ H _ (I.tok _) h) fun us s1 ⟨vs, H1, I1, r1, a, C, ws, ev, hl, T, ea, q⟩ => ?_) he hpl
  subst ev
  cases r1 with
  | @cons _ u0 _ ur ra rw' =>
    obtain rfl : u0 = Value.ref a := ra
    have hlen : ur.length ≤ sizeLine := by
      rw [← Paired.length rw', sizeLine_eq]
      omega
    exact oinit_ok T I1 ea hlen fun s' J => ⟨.non, H1, J, rfl, q⟩
/-- C(e, ..) as a value, C's own __init__ keeping sp -/
def tOexV (C : Addr) (sp : Sp) (ta : TA) : TE := fun σ H Q => ta σ H fun vs H1 => vs.length ≤ 1000 ∧ ∀ a, H1 a = none → sp (.ref a :: vs) (upd H1 a (exo a C none)) (fun v H2 => v = .non ∧ Q (.ref a) H2) (fun _ _ _ => False)
section
variable {CX : CXT} {x : Str} {C fI : Addr} {k : Nat} {fd : FuncData} {ps : List Str} {sp : Sp} {ta : TA} {e : Expr} {es : List Expr} {p pos : Pos}
theorem pe_oex (gu : X.A.guards = some []) (T : OexC X.K C) (iC : PySem.W.findIn X.K (.ref C) "__init__" = some (some (.ref fI))) (tI : PySem.W.typeIn X.K (.ref fI) = some (.type "function"))
    (F1 : FnG X.prog X.w X.K X.mg X.base CX k fI fd ps sp) (hr : Room (k + 1) X.A) (hb : L2.Binds X.K fd ps []) (hx : Passes CX X (fun _ _ _ => False)) (hg : Gl X x) (hm : X.mg x = some (.ref C)) (ha : PA X (e :: es) ta)
    (hdb : (x == ("__debug__" : Str)) = false := by decide) (he : starEach (e :: es) X.env = (false, eval e X.env) :: starEach es X.env := by rfl) (hpl : (backTo pos (starEach es X.env)).any (·.1) = false := by rfl) :
    PE X (.Call (.Name x p) (e :: es) [] pos) (tOexV C sp ta) := by
  refine ⟨fun pins s σ H Q I h => ?_⟩
  obtain ⟨nm, q, N, bs, bm, sn, sub, ab, col, dd, k0, k1, k2, k3, k5, hC, hbm⟩ := T.cls
  refine wpAny_Call_Name_kw (ld_glob I hg hm ?_ hdb)
  refine PySem.W.callWith_K (h₀ := X.base) I.ok.mod.kin T.kC (thn (ha.run pos pins s σ H _ I h) fun us s1 ⟨vs, H1, I1, r1, hz, q1⟩ => ⟨I1.kIn, ?_⟩) he hpl
  show wpAny _ _ (call (.ref C) us) _ _ _
  obtain ⟨hp, g, dr, tk, os⟩ := s1
  have hsz : hp.objs.size ≤ hp.objs.size + 1 := Nat.le_succ _
  have hn : H1 (hp.objs.size + 1) = none := I1.hok.fresh hsz
  have hq := q1 (hp.objs.size + 1) hn
  have kk : ∀ b o, hp.get? b = some o → ((hp.push (PySem.W.kdv_tup us)).push (PySem.HandSPX.excO C hp.objs.size)).get? b = some o := fun b o e => Heap.get?_push_of_some _ (Heap.get?_push_of_some _ e)
  have hget : ((hp.push (PySem.W.kdv_tup us)).push (PySem.HandSPX.excO C hp.objs.size)).get? (hp.objs.size + 1) = some (PySem.HandSPX.excO C hp.objs.size) := by heap_get
  have I2 : Inv X pins σ (upd H1 (hp.objs.size + 1) (exo (hp.objs.size + 1) C none)) ⟨(hp.push (PySem.W.kdv_tup us)).push (PySem.HandSPX.excO C hp.objs.size), g, dr, tk, os⟩ :=
    I1.laid (t' := tk) (a := hp.objs.size + 1) (o := exo (hp.objs.size + 1) C none) (h' := (hp.push (PySem.W.kdv_tup us)).push (PySem.HandSPX.excO C hp.objs.size)) kk hsz (exo_ok hget)
  have r2 : Vals (V.ref (hp.objs.size + 1) :: vs) (Value.ref (hp.objs.size + 1) :: us) := .cons rfl r1
  have hl : (Value.ref (hp.objs.size + 1) :: us ++ []).length = ps.length := by
    have e := r2.length
    rw [F1.len _ _ _ _ hq] at e
    rw [List.append_nil]
    exact e.symm
  have hus : us.length ≤ sizeLine := by
    rw [← Paired.length r1, sizeLine_eq]
    omega
  refine wpAny_call (PySem.HandSPX.call_own F.excBase_ValueError (fun Y => PySem.HandSPX.refsVE_contains Y bm hbm) (I1.kIn _ _ hC) (PySem.W.looks_findIn I1.kIn iC) (fun self => PySem.W.bind_fn I1.kIn self tI) hus
    (codeAny_mono (F1.run _ X.stack _ _ ⟨Value.ref (hp.objs.size + 1) :: us, []⟩ (Value.ref (hp.objs.size + 1) :: us) _ _ (fun _ _ _ => False) gu (hr.make C us []) (I2.env0.make C us []) (by have b := hb _ (Value.ref (hp.objs.size + 1) :: us) I2.kIn hl; rwa [List.append_nil] at b) r2 hq) fun r s' hq' => ?_))
  cases r with
  | error er => exact hx pins σ _ _ er s' I2 hq'
  | ok fl =>
    cases fl with
    | ret u =>
      obtain ⟨v, H2, os2, bare2, un2, hok2, rv, ev, q2⟩ := hq'
      subst ev
      exact ⟨rv, .ref (hp.objs.size + 1), H2, I2.call' (ch := []) os2 un2 hok2 bare2 (fun b z => absurd z (by simp)), rfl, q2⟩
    | next => exact False.elim hq'
    | brk => exact False.elim hq'
    | cont => exact False.elim hq'
/-- C(f = e) -/
theorem pe_oexK {f : Str} {kws : List Keyword} {tk : TA} (gu : X.A.guards = some []) (T : OexC X.K C) (iC : PySem.W.findIn X.K (.ref C) "__init__" = some (some (.ref fI))) (tI : PySem.W.typeIn X.K (.ref fI) = some (.type "function"))
    (F1 : FnG X.prog X.w X.K X.mg X.base CX k fI fd ["self", f] sp) (hr : Room (k + 1) X.A) (hb : ∀ (s : Shared) (u v : Value), X.K.In s.heap → BindsTo s fd ⟨[u], [(f, v)]⟩ [("self", u), (f, v)]) (hx : Passes CX X (fun _ _ _ => False)) (hg : Gl X x) (hm : X.mg x = some (.ref C)) (hkw : PK X kws tk)
    (hall : (backToKw pos (keywordEach kws X.env)).all (·.1.isSome) = true := by rfl) (hks : (backToKw pos (keywordEach kws X.env)).filterMap (·.1) = [f] := by rfl) (hdb : (x == ("__debug__" : Str)) = false := by decide)
    (hpl : ((backTo pos (starEach [] X.env)).any (·.1) || (backToKw pos (keywordEach kws X.env)).any (·.1.isNone)) = false := by rfl) :
    PE X (.Call (.Name x p) [] kws pos) (tOexV C sp tk) := by
  refine ⟨fun pins s σ H Q I h => ?_⟩
  obtain ⟨nm, q, N, bs, bm, sn, sub, ab, col, dd, k0, k1, k2, k3, k5, hC, hbm⟩ := T.cls
  refine wpAny_Call_Name_kw (ld_glob I hg hm ?_ hdb)
  refine PySem.W.callWith_KW0 (h₀ := X.base) I.ok.mod.kin T.kC hall (thn (hkw.run pos pins s σ H _ I h) fun ws s1 z => ?_) hpl
  obtain ⟨vs, H1, I1, r1, hz, q1⟩ := z
  refine ⟨I1.kIn, ?_⟩
  rw [hks]
  show wpAny _ _ (call (.ref C) [] ([f].zip ws)) _ _ _
  obtain ⟨hp, g, dr, tk, os⟩ := s1
  have hsz : hp.objs.size ≤ hp.objs.size + 1 := Nat.le_succ _
  have hn : H1 (hp.objs.size + 1) = none := I1.hok.fresh hsz
  have hq := q1 (hp.objs.size + 1) hn
  have hl := F1.len _ _ _ _ hq
  obtain ⟨v1, w1, rfl, rfl, rv1⟩ : ∃ v1 w1, vs = [v1] ∧ ws = [w1] ∧ RelV v1 w1 := by
    cases r1 with
    | nil => exact absurd hl (by simp)
    | cons a b =>
      cases b with
      | nil => exact ⟨_, _, rfl, rfl, a⟩
      | cons _ _ => exact absurd hl (by simp)
  have kk : ∀ b o, hp.get? b = some o → ((hp.push (PySem.W.kdv_tup [])).push (PySem.HandSPX.excO C hp.objs.size)).get? b = some o := fun b o e => Heap.get?_push_of_some _ (Heap.get?_push_of_some _ e)
  have hget : ((hp.push (PySem.W.kdv_tup [])).push (PySem.HandSPX.excO C hp.objs.size)).get? (hp.objs.size + 1) = some (PySem.HandSPX.excO C hp.objs.size) := by heap_get
  have I2 : Inv X pins σ (upd H1 (hp.objs.size + 1) (exo (hp.objs.size + 1) C none)) ⟨(hp.push (PySem.W.kdv_tup [])).push (PySem.HandSPX.excO C hp.objs.size), g, dr, tk, os⟩ :=
    I1.laid (t' := tk) (a := hp.objs.size + 1) (o := exo (hp.objs.size + 1) C none) (h' := (hp.push (PySem.W.kdv_tup [])).push (PySem.HandSPX.excO C hp.objs.size)) kk hsz (exo_ok hget)
  have r2 : Vals (V.ref (hp.objs.size + 1) :: [v1]) (Value.ref (hp.objs.size + 1) :: [w1]) := .cons rfl (.cons rv1 .nil)
  refine wpAny_call (PySem.KwE.call_kw (kw := [(f, w1)]) F.excBase_ValueError (fun Y => PySem.HandSPX.refsVE_contains Y bm hbm) (I1.kIn _ _ hC) (PySem.W.looks_findIn I1.kIn iC) (fun self => PySem.W.bind_fn I1.kIn self tI) (Nat.zero_le _)
    (codeAny_mono (F1.run _ X.stack _ _ ⟨[Value.ref (hp.objs.size + 1)], [(f, w1)]⟩ [Value.ref (hp.objs.size + 1), w1] _ _ (fun _ _ _ => False) gu (hr.make C [] [(f, w1)]) (I2.env0.make C [] [(f, w1)]) (hb _ _ _ I2.kIn) r2 hq) fun r s' hq' => ?_))
  cases r with
  | error er => exact hx pins σ _ _ er s' I2 hq'
  | ok fl =>
    cases fl with
    | ret u =>
      obtain ⟨v, H2, os2, bare2, un2, hok2, rv, ev, q2⟩ := hq'
      subst ev
      exact ⟨rv, .ref (hp.objs.size + 1), H2, I2.call' (ch := []) os2 un2 hok2 bare2 (fun b z => absurd z (by simp)), rfl, q2⟩
    | next => exact False.elim hq'
    | brk => exact False.elim hq'
    | cont => exact False.elim hq'
end
end DL
namespace DL
open PySem PySem.Spec PyProof.Rows L2 Evl
section
variable {X : Cx} {CX : CXT} {k : Nat} {f : Addr} {fd : FuncData} {ps : List Str} {sp : Sp} {E : XK} {x : Str} {e : Expr} {es : List Expr} {t : TA} {p pos : Pos}
theorem pe_callG (gu : X.A.guards = some []) (F : FnG X.prog X.w X.K X.mg X.base CX k f fd ps sp) (hr : Room k X.A) (hg : Gl X x) (hm : X.mg x = some (.ref f)) (hk : PySem.W.keepIn X.K (.ref f) = true) (hb : L2.Binds X.K fd ps []) (hx : Passes CX X E)
    (ha : PA X (e :: es) t) (hdb : (x == ("__debug__" : Str)) = false := by decide) (he : starEach (e :: es) X.env = (false, eval e X.env) :: starEach es X.env := by rfl) (hpl : (backTo pos (starEach es X.env)).any (·.1) = false := by rfl) :
    PE X (.Call (.Name x p) (e :: es) [] pos) (tCall sp [] E t) := by
  refine ⟨fun pins s σ H Q I h => ?_⟩
  refine wpAny_Call_Name_kw (ld_glob I hg hm ?_ hdb)
  refine PySem.W.callWith_K (h₀ := X.base) I.ok.mod.kin hk (thn (ha.run pos pins s σ H _ I h) fun us s1 ⟨vs, H1, I1, r, q⟩ => ⟨I1.kIn, ?_⟩) he hpl
  have q : sp (vs ++ []) H1 Q E := q
  have r2 : Vals (vs ++ []) (us ++ []) := r.append .nil
  have hl : (us ++ []).length = ps.length := by rw [← r2.length]; exact F.len _ _ _ _ q
  refine wpAny_call (codeAny_mono (F.run X.A X.stack s1 H1 ⟨us, []⟩ (us ++ []) (vs ++ []) Q E gu hr I1.env0 (hb s1 us I1.kIn hl) r2 q) fun r s' hq => ?_)
  cases r with
  | error e => exact hx pins σ H1 s1 e s' I1 hq
  | ok fl =>
    cases fl with
    | ret u => exact I1.after hq
    | next => exact False.elim hq
    | brk => exact False.elim hq
    | cont => exact False.elim hq
end
/-- a def that wants that no guard stands, called by its name -/
structure DFG (P : Program) (w : World) (K : PySem.W.Frag) (mg : Str → Option Value) (base : Heap) (nm : Str) (k : Nat) (ps : List Str) (sp : Sp) : Prop where
  ex : ∃ (f : Addr) (fd : FuncData), FnG P w K mg base (L2.CX P w) k f fd ps sp ∧ mg nm = some (.ref f) ∧ PySem.W.keepIn K (.ref f) = true ∧ L2.Binds K fd ps []
theorem pe_DG {X : Cx} {nm : Str} {k : Nat} {ps : List Str} {sp : Sp} {W : WX} {e : Expr} {es : List Expr} {t : TA} {p pos : Pos} (gu : X.A.guards = some []) (F : DFG X.prog X.w X.K X.mg X.base nm k ps sp) (tk : Takes X W) (hr : Room k X.A) (hg : Gl X nm) (ha : PA X (e :: es) t)
    (hdb : (nm == ("__debug__" : Str)) = false := by decide) (he : starEach (e :: es) X.env = (false, eval e X.env) :: starEach es X.env := by rfl) (hpl : (backTo pos (starEach es X.env)).any (·.1) = false := by rfl) :
    PE X (.Call (.Name nm p) (e :: es) [] pos) (tCall sp [] (fun _ _ _ => False) t) := by
  obtain ⟨f, fd, h1, h2, h3, h4⟩ := F.ex
  exact pe_callG gu h1 hr hg h2 h3 h4 (passes_call tk (fun _ _ _ _ h => h.elim)) ha hdb he hpl
end DL
set_option Elab.async false
set_option linter.all false
set_option maxRecDepth 100000
set_option maxHeartbeats 4000000
/-! texts of any small data, dicts among them: repr and f-strings -/
namespace DL
open PySem PySem.Spec PyProof.Rows L2 Evl
variable {X : Cx} {pins : List (Addr × Obj)} {σ : L2.St} {H H' : Hp} {s : Shared} {K : PySem.W.Frag}
/-- v tells d; {} and {0: 0} among them -/
inductive Itm (K : PySem.W.Frag) (H : Hp) : V → PyData → Prop
  | dp {v : V} {d : PyData} (h : Dp K H v d) : Itm K H v d
  | d0 {a : Addr} (h : H a = some (.dK [])) : Itm K H (.ref a) (.dict [])
  | d1 {a : Addr} (h : H a = some (.dK [(.inl 0, .int 0)])) : Itm K H (.ref a) (.dict [(.int 0, .int 0)])
theorem itm_ex {v : V} {d : PyData} (e : Ex H H') (h : Itm K H v d) : Itm K H' v d := by
  cases h with
  | dp h => exact .dp (dp_ex e _ _ h)
  | d0 h => exact .d0 (e _ _ h)
  | d1 h => exact .d1 (e _ _ h)
theorem itm_reads {a : Addr} {d : PyData} (I : Inv X pins σ H s) (h : Itm X.K H (.ref a) d) : ∃ as, Reads s.heap (.ref a) d as ∧ (d.hasDict = true → sysModules ∉ as) := by
  generalize hv : V.ref a = v at h
  cases h with
  | dp h =>
    subst hv
    obtain ⟨as, rd⟩ := Dp.reads I d (.ref a) (.ref a) h rfl
    exact ⟨as, rd, PyData.noDict_hsm (noDict_dp d _ h)⟩
  | d0 h =>
    cases hv
    obtain ⟨_, hs, vs, kv, o, es, ep, ho, ex, hdat, _, pr, _⟩ := I.hok a _ h
    cases kv
    have e0 : es.toList = [] := by
      cases hes : es.toList with
      | nil => rfl
      | cons _ _ =>
        rw [hes] at pr
        cases pr
    refine ⟨a :: [] ++ [], Reads.dict (as := []) (bs := []) ho ex.1 hdat (by rw [e0]; exact .nil) (by rw [e0]; exact .nil), fun _ q => ?_⟩
    have : sysModules = a := by simpa using q
    rw [← this] at hs
    simp at hs
  | d1 h =>
    cases hv
    obtain ⟨_, hs, vs, kv, o, es, ep, ho, ex, hdat, _, pr, _⟩ := I.hok a _ h
    obtain ⟨k1, v1, rfl, ek, ev⟩ : ∃ k1 v1, vs = [(k1, v1)] ∧ k1 = (Sum.inl 0 : Key) ∧ RelV (.int 0) v1 := by
      cases kv with
      | cons a b =>
        cases b
        exact ⟨_, _, rfl, a.1.symm, a.2⟩
    subst ek
    obtain ⟨e1, hes, ke, ve⟩ : ∃ e1, es.toList = [e1] ∧ keyIs (.inl 0) e1.key = true ∧ e1.val = v1 := by
      generalize es.toList = l at pr
      cases pr with
      | cons a b c =>
        cases c
        exact ⟨_, rfl, a, b⟩
    obtain ⟨t0, ev⟩ := (show ∃ t, v1 = Value.int 0 t from ev)
    obtain ⟨t1, ke⟩ := Value.isInt_shape (k := 0) (v := e1.key) ke
    refine ⟨a :: [] ++ [], Reads.dict (as := []) (bs := []) ho ex.1 hdat (by rw [hes]; exact ReadsAll.cons (as := []) (by show Reads _ e1.key (.int 0) []; rw [ke]; exact .int 0 t1) .nil) (by rw [hes]; exact ReadsAll.cons (as := []) (by show Reads _ e1.val (.int 0) []; rw [ve, ev]; exact .int 0 t0) .nil), fun _ q => ?_⟩
    have : sysModules = a := by simpa using q
    rw [← this] at hs
    simp at hs
/-- data with a short text -/
structure Txd (d : PyData) : Prop where
  shows : d.showable = true
  deep : d.depth ≤ 60
  len : d.shown.length ≤ 1000
  s1 : ∀ x, d = .str x → x.length ≤ 1000 ∧ (reprText x).length ≤ 1000
  i1 : ∀ i, d = .int i → i.natAbs.log2 < 1900 ∧ (Str.ofString (toString i)).length ≤ 1000
def tellR : PyData → Str
  | .none => "None"
  | .bool b => if b then "True" else "False"
  | .int i => toString i
  | .str x => reprText x
  | d => d.shown
/-- repr(x), x any small data -/
def rReprD (K : PySem.W.Frag) : List V → Hp → VK → Prop := fun xs H Q => ∃ (v : V) (d : PyData), xs = [v] ∧ Itm K H v d ∧ Txd d ∧ Q (.str (tellR d)) H
theorem line1000 : 1000 ≤ sizeLine := by decide
theorem call_reprD (hg : X.A.guards = some []) (hu : X.A.units + 100 < cLine) : CallR X (.builtin "repr") (rReprD X.K) := by
  intro pins s σ H xs us Q I r h
  obtain ⟨v, d, rfl, hd, T, q⟩ := h
  obtain ⟨u, rfl, ru⟩ := vals1 r
  cases v with
  | ref a =>
    cases ru
    obtain ⟨as, rd, sm⟩ := itm_reads I hd
    have e : tellR d = d.shown := by
      cases rd <;> rfl
    rw [e] at q
    exact repr_of_reads' rd T.shows sm hg (by have := T.deep; omega) (fun _ _ e => e) (fun h' u tk k => ⟨.str d.shown, H, I.kept k, ⟨u, rfl⟩, q⟩) (Nat.le_trans T.len line1000)
  | _ => 
    cases hd with
    | dp hd =>
      cases hd <;> first
        | (obtain rfl := ru; exact PySem.P.repr_of_none ⟨.str _, H, I.tok _, ⟨_, rfl⟩, q⟩)
        | (obtain rfl := ru; exact PySem.P.repr_of_bool ⟨.str _, H, I.tok _, ⟨_, rfl⟩, q⟩)
        | (obtain ⟨t, rfl⟩ := ru; exact PySem.P.repr_of_int (by have := (T.i1 _ rfl).1; omega) ⟨.str _, H, I.tok _, ⟨_, rfl⟩, q⟩)
        | (obtain ⟨t, rfl⟩ := ru; exact PySem.P.repr_of_str ⟨.str _, H, I.tok _, ⟨_, rfl⟩, q⟩ (Nat.le_trans (T.s1 _ rfl).2 line1000))
/-- {x}, x any small data: some short text -/
def tFmtD (K : PySem.W.Frag) (te : TE) : TE := fun σ H Q => te σ H fun x H1 => ∃ d, Itm K H1 x d ∧ Txd d ∧ ∀ m : Str, m.length ≤ 1000 → Q (.str m) H1
theorem pe_fmtD {e : Expr} {te : TE} {pos : Pos} (hg : X.A.guards = some []) (hu : X.A.units + 100 < cLine) (he : PE X e te) : PE X (.FormattedValue e (-1) none pos) (tFmtD X.K te) := by
  refine ⟨fun pins s σ H Q I h => ?_⟩
  refine wpAny_FormattedValue_plain (thn (he.run pins s σ H _ I h) fun v s1 hv => ?_)
  obtain ⟨x, H1, I1, ru, d, hd, T, q⟩ := hv
  cases x with
  | ref a =>
    cases ru
    obtain ⟨as, rd, sm⟩ := itm_reads I1 hd
    exact formatField_of_reads rd T.shows sm hg (by have := T.deep; omega) (fun _ _ e => e) (fun h' u tk k => ⟨.str d.shown, H1, I1.kept k, ⟨u, rfl⟩, q _ T.len⟩) (Nat.le_trans T.len line1000)
  | _ => 
    cases hd with
    | dp hd =>
      cases hd <;> first
        | (obtain rfl := ru; exact wpAny_formatField_none ⟨.str "None", H1, I1.tok _, ⟨_, rfl⟩, q _ (by decide)⟩)
        | (obtain rfl := ru; exact wpAny_formatField_bool ⟨.str _, H1, I1.tok _, ⟨_, rfl⟩, q _ (by split <;> decide)⟩)
        | (obtain ⟨t, rfl⟩ := ru; exact wpAny_formatField_int (by have := (T.i1 _ rfl).1; omega) ⟨.str _, H1, I1.tok _, ⟨_, rfl⟩, q _ (T.i1 _ rfl).2⟩)
        | (obtain ⟨t, rfl⟩ := ru; exact wpAny_formatField_str ⟨.str _, H1, I1, ⟨t, rfl⟩, q _ (T.s1 _ rfl).1⟩ ⟨.str _, H1, I1.tok _, ⟨_, rfl⟩, q _ (T.s1 _ rfl).1⟩ (Nat.le_trans (T.s1 _ rfl).1 line1000))
end DL
set_option Elab.async false
set_option linter.all false
set_option maxRecDepth 100000
set_option maxHeartbeats 4000000
namespace K16
open PySem PySem.Spec PyProof.Rows L2 Evl DL

/-- what the module's names hold -/
structure Txt (mg : Str → Option Value) : Prop where
  b_isinstance : mg "isinstance" = none
  b_int : mg "int" = none
  b_bool : mg "bool" = none
  b_tuple : mg "tuple" = none
  b_list : mg "list" = none
  b_len : mg "len" = none
  b_range : mg "range" = none
  b_zip : mg "zip" = none
  b_max : mg "max" = none
  b_min : mg "min" = none
  b_sum : mg "sum" = none
  b_abs : mg "abs" = none
  b_repr : mg "repr" = none
  b_enumerate : mg "enumerate" = none
  b_sorted : mg "sorted" = none
  b_set : mg "set" = none
  c_MOST_NUMBER : ∃ t, mg "MOST_NUMBER" = some (.int 99 t)
  c_MOST_SIDES : ∃ t, mg "MOST_SIDES" = some (.int 5 t)
  c_MOST_TRACKS : ∃ t, mg "MOST_TRACKS" = some (.int 6 t)
  c_MOST_ROOM : ∃ t, mg "MOST_ROOM" = some (.int 99 t)
  c_MOST_LET : ∃ t, mg "MOST_LET" = some (.int 20000 t)
theorem pe_const {X : Cx} {x : Str} {n : Int} {pos : Pos} (h : ∃ t, X.mg x = some (.int n t)) (hg : Gl X x) (hd : (x == ("__debug__" : Str)) = false := by decide) : PE X (.Name x pos) (tC (.int n)) := by
  obtain ⟨t, h⟩ := h
  exact pe_glob hg h ⟨t, rfl⟩ hd
def isNum : PyData → Bool
  | .int _ => true
  | _ => false
def isIn (d : PyData) (a b : Int) : Bool := match d with
  | .int i => decide (a ≤ i) && decide (i ≤ b)
  | _ => false
def isBool : PyData → Bool
  | .bool _ => true
  | _ => false
theorem kit_int (d : PyData) : kitB (tyD d) "int" = some (isNum d || isBool d) := by
  cases d
  · show kitB "NoneType" "int" = some false; decide +kernel
  · show kitB "bool" "int" = some true; decide +kernel
  · show kitB "int" "int" = some true; decide +kernel
  · show kitB "str" "int" = some false; decide +kernel
  · show kitB "list" "int" = some false; decide +kernel
  · show kitB "tuple" "int" = some false; decide +kernel
  · show kitB "dict" "int" = some false; decide +kernel
theorem kit_bool (d : PyData) : kitB (tyD d) "bool" = some (isBool d) := by
  cases d
  · show kitB "NoneType" "bool" = some false; decide +kernel
  · show kitB "bool" "bool" = some true; decide +kernel
  · show kitB "int" "bool" = some false; decide +kernel
  · show kitB "str" "bool" = some false; decide +kernel
  · show kitB "list" "bool" = some false; decide +kernel
  · show kitB "tuple" "bool" = some false; decide +kernel
  · show kitB "dict" "bool" = some false; decide +kernel
def isTup : PyData → Option (List PyData)
  | .tuple ds => some ds
  | _ => none
theorem kit_tuple (d : PyData) : kitB (tyD d) "tuple" = some (isTup d).isSome := by
  cases d
  · show kitB "NoneType" "tuple" = some false; decide +kernel
  · show kitB "bool" "tuple" = some false; decide +kernel
  · show kitB "int" "tuple" = some false; decide +kernel
  · show kitB "str" "tuple" = some false; decide +kernel
  · show kitB "list" "tuple" = some false; decide +kernel
  · show kitB "tuple" "tuple" = some true; decide +kernel
  · show kitB "dict" "tuple" = some false; decide +kernel
local macro_rules | `(tactic| walk_at "dl") => `(tactic| first
  | exact ev_c | exact ev_var rfl | exact eda_nil
  | exact ed_var rfl (by assumption)
  | exact ed_int ev_c | exact ed_int (ev_var rfl)
  | (refine eda_cons ?_ ?_ <;> walk_at "dl")
  | (refine ed_int ?_; walk_at "dl")
  | (refine ev_op ?_ ?_ rv_I0 <;> walk_at "dl"))

section
variable {P : Program} {w : World} {K : PySem.W.Frag} {mg : Str → Option Value} {base : Heap}
def R_is_number (ds : List PyData) (r : PyData) : Prop := ∃ d, ds = [d] ∧ r = .bool (isNum d)
abbrev s_is_number : Stmt := topS 10
abbrev N_is_number : List Str := ["thing"]
theorem sc_is_number : FnScope N_is_number ["thing"] (defScope s_is_number) := ⟨rfl, rfl, rfl, by decide +kernel, rfl, by decide +kernel, by decide +kernel⟩
theorem ok_is_number {f : Addr} {fd : FuncData} (F : Fun K "is_number" "is_number" s_is_number f fd) (T : Txt mg)
      :
    FnOk P w K mg base CX0 1 f fd ["thing"] (spD K 1 R_is_number) := by
  refine F.ok sc_is_number (fun vs H Q E h => spD_len h) (fun cdv A outer s H vs Q E hr h => ?_)
  obtain ⟨ds, r, hd, _, ⟨d, rfl, rfl⟩, k⟩ := h
  obtain ⟨v0, rfl, d0⟩ := dpa_one hd
  refine ⟨_, (pss_one (ps_ret (pe_and (pe_callB call_isi (by rfl) T.b_isinstance (by decide +kernel) (pa_cons (pv 0) (pa_cons (pe_bltn (v := .ty "int") (u := .type "int") (by rfl) T.b_int (by decide +kernel) rfl) pa_nil))) (pe_one (pe_not (pe_callB call_isi (by rfl) T.b_isinstance (by decide +kernel) (pa_cons (pv 0) (pa_cons (pe_bltn (v := .ty "bool") (u := .type "bool") (by rfl) T.b_bool (by decide +kernel) rfl) pa_nil)))))))), ?_⟩
  refine d_ret (K := K) (ed_bool (ev_is (ev_andV (ev_isiD (ed_var rfl d0) (kit_int d)) fun _ => ev_notV (ev_isiD (ed_var rfl d0) (kit_bool d))) ?_)) k
  cases d <;> rfl

def R_is_within (ds : List PyData) (r : PyData) : Prop := ∃ (d : PyData) (a b : Int), ds = [d, .int a, .int b] ∧ r = .bool (isIn d a b)
abbrev s_is_within : Stmt := topS 11
abbrev N_is_within : List Str := ["thing", "low", "high"]
theorem sc_is_within : FnScope N_is_within ["thing", "low", "high"] (defScope s_is_within) := ⟨rfl, rfl, rfl, by decide +kernel, rfl, by decide +kernel, by decide +kernel⟩
theorem ok_is_within {f : Addr} {fd : FuncData} (F : Fun K "is_within" "is_within" s_is_within f fd) (T : Txt mg)
    (D_is_number : DF P w K mg base "is_number" 1 ["thing"] (spD K 1 R_is_number))  :
    FnOk P w K mg base CX0 2 f fd ["thing", "low", "high"] (spD K 3 R_is_within) := by
  refine F.ok sc_is_within (fun vs H Q E h => spD_len h) (fun cdv A outer s H vs Q E hr h => ?_)
  obtain ⟨ds, r, hd, _, ⟨d, a, b, rfl, rfl⟩, k⟩ := h
  obtain ⟨v0, v1, v2, rfl, d0, d1, d2⟩ := dpa_three hd
  cases dp_int d1
  cases dp_int d2
  refine ⟨_, (pss_one (ps_ret (pe_and (pe_D D_is_number (hr.mono (by decide)) (by rfl) (pa_cons (pv 0) pa_nil)) (pe_one (pe_chain op_le op_le (pv 1) (pv 0) (pv 2)))))), ?_⟩
  cases d with
  | int i =>
    cases dp_int d0
    exact d_ret (K := K) (ed_bool (ev_andV (a := true) (EvD.bool (ed_call (R := R_is_number) (ds := [.int i]) (by walk_at "dl") rfl ⟨_, rfl, rfl⟩)) fun _ => ev_chain (by walk_at "dl") (by walk_at "dl") (by walk_at "dl"))) k
  | _ => exact d_ret (K := K) (ed_bool (ev_andV (a := false) (b := false) (EvD.bool (ed_call (R := R_is_number) (eda_cons (ed_var rfl d0) eda_nil) rfl ⟨_, rfl, rfl⟩)) fun z => nomatch z)) k

def isTupOf (d : PyData) (m : Int) : Bool := match d with
  | .tuple ds => decide ((ds.length : Int) = m)
  | _ => false
def R_is_tuple_of (ds : List PyData) (r : PyData) : Prop := ∃ (d : PyData) (m : Int), ds = [d, .int m] ∧ r = .bool (isTupOf d m)
abbrev s_is_tuple_of : Stmt := topS 12
abbrev N_is_tuple_of : List Str := ["thing", "many"]
theorem sc_is_tuple_of : FnScope N_is_tuple_of ["thing", "many"] (defScope s_is_tuple_of) := ⟨rfl, rfl, rfl, by decide +kernel, rfl, by decide +kernel, by decide +kernel⟩
theorem ok_is_tuple_of {f : Addr} {fd : FuncData} (F : Fun K "is_tuple_of" "is_tuple_of" s_is_tuple_of f fd) (T : Txt mg)
      :
    FnOk P w K mg base CX0 1 f fd ["thing", "many"] (spD K 2 R_is_tuple_of) := by
  refine F.ok sc_is_tuple_of (fun vs H Q E h => spD_len h) (fun cdv A outer s H vs Q E hr h => ?_)
  obtain ⟨ds, r, hd, _, ⟨d, m, rfl, rfl⟩, k⟩ := h
  obtain ⟨v0, v1, rfl, d0, d1⟩ := dpa_two hd
  cases dp_int d1
  refine ⟨_, (pss_one (ps_ret (pe_and (pe_callB call_isi (by rfl) T.b_isinstance (by decide +kernel) (pa_cons (pv 0) (pa_cons (pe_bltn (v := .ty "tuple") (u := .type "tuple") (by rfl) T.b_tuple (by decide +kernel) rfl) pa_nil))) (pe_one (pe_cmpR op_eq (pe_callB call_len_seq (by rfl) T.b_len PySem.boot_len (pa_cons (pv 0) pa_nil)) (pv 1) (nomark _)))))), ?_⟩
  cases d with
  | tuple es => exact d_ret (K := K) (ed_bool (ev_andV (a := true) (ev_isiD (ed_var rfl d0) (kit_tuple _)) fun _ => ev_is (ev_op (ev_lenT (ed_var rfl d0)) (ev_var rfl) (rv_eq rfl)) (by rw [decide_vint]))) k
  | _ => exact d_ret (K := K) (ed_bool (ev_andV (a := false) (b := false) (ev_isiD (ed_var rfl d0) (kit_tuple _)) fun z => nomatch z)) k

/-- an item of any kind in, data out -/
def spI (K : PySem.W.Frag) (R : PyData → PyData → Prop) : Sp := fun vs H Q _ => ∃ v d r, vs = [v] ∧ Itm K H v d ∧ R d r ∧ ∀ v H', Ex H H' → Dp K H' v r → Q v H'
def isRow : PyData → Bool
  | .list _ => true
  | .tuple _ => true
  | _ => false
def R_is_row (d r : PyData) : Prop := r = .bool (isRow d)
theorem itm_ty {v : V} {d : PyData} {H : Hp} (h : Itm K H v d) : TyX K H v (.type (tyD d)) := by
  cases h with
  | dp h => exact tyD_dp h
  | d0 h => exact .base (.dK h)
  | d1 h => exact .base (.dK h)
theorem kit_row (d : PyData) : PySem.W.kitAny K (.type (tyD d)) [.type "list", .type "tuple"] = some (isRow d) := by
  cases d
  · exact kitAny_cons (b := false) (kit_ty (show kitB "NoneType" "list" = some false by decide +kernel)) (fun _ => kitAny_cons (b := false) (kit_ty (show kitB "NoneType" "tuple" = some false by decide +kernel)) (fun _ => rfl) fun z => nomatch z) fun z => nomatch z
  · exact kitAny_cons (b := false) (kit_ty (show kitB "bool" "list" = some false by decide +kernel)) (fun _ => kitAny_cons (b := false) (kit_ty (show kitB "bool" "tuple" = some false by decide +kernel)) (fun _ => rfl) fun z => nomatch z) fun z => nomatch z
  · exact kitAny_cons (b := false) (kit_ty (show kitB "int" "list" = some false by decide +kernel)) (fun _ => kitAny_cons (b := false) (kit_ty (show kitB "int" "tuple" = some false by decide +kernel)) (fun _ => rfl) fun z => nomatch z) fun z => nomatch z
  · exact kitAny_cons (b := false) (kit_ty (show kitB "str" "list" = some false by decide +kernel)) (fun _ => kitAny_cons (b := false) (kit_ty (show kitB "str" "tuple" = some false by decide +kernel)) (fun _ => rfl) fun z => nomatch z) fun z => nomatch z
  · exact kitAny_cons (b := true) (kit_ty (show kitB "list" "list" = some true by decide +kernel)) (fun z => nomatch z) fun _ => rfl
  · exact kitAny_cons (b := false) (kit_ty (show kitB "tuple" "list" = some false by decide +kernel)) (fun _ => kitAny_cons (b := true) (kit_ty (show kitB "tuple" "tuple" = some true by decide +kernel)) (fun z => nomatch z) fun _ => rfl) fun z => nomatch z
  · exact kitAny_cons (b := false) (kit_ty (show kitB "dict" "list" = some false by decide +kernel)) (fun _ => kitAny_cons (b := false) (kit_ty (show kitB "dict" "tuple" = some false by decide +kernel)) (fun _ => rfl) fun z => nomatch z) fun z => nomatch z
/-- isinstance(x, (list, tuple)), x an item at a name -/
theorem ev_row {σ : L2.St} {H : Hp} {i : Nat} {v : V} {d : PyData} (hi : σ[i]? = some (some v)) (h : Itm K H v d) : Ev (tCB (rIsiT K) (tCons (tVar i) (tCons (tTup (tCons (tC (.ty "list")) (tCons (tC (.ty "tuple")) tNil))) tNil))) σ H (.bl (isRow d)) := fun H1 e Q q => by
  refine ⟨v, hi, ?_⟩
  refine ⟨by show 2 ≤ sizeLine; decide, fun p hp => ?_⟩
  exact ⟨_, p, [.ty "list", .ty "tuple"], _, [.type "list", .type "tuple"], _, rfl, upd_same, .cons (.ty _) (.cons (.ty _) .nil), itm_ty (itm_ex (e.trans (Ex.new hp)) h), kit_row d, q _ (Ex.new hp)⟩
def R_check_sides (ds : List PyData) (r : PyData) : Prop := ∃ d, ds = [d, .int 5] ∧ isIn d 2 5 = true ∧ r = .none
def B_check_sides (CB : Addr) (ds : List PyData) (C : Addr) : Prop := ∃ d, ds = [d, .int 5] ∧ isIn d 2 5 = false ∧ C = CB
variable {CB CL CR : Addr}
abbrev s_check_sides : Stmt := topS 18
abbrev N_check_sides : List Str := ["sides", "most"]
theorem sc_check_sides : FnScope N_check_sides ["sides", "most"] (defScope s_check_sides) := ⟨rfl, rfl, rfl, by decide +kernel, rfl, by decide +kernel, by decide +kernel⟩
theorem ok_check_sides {f : Addr} {fd : FuncData} (F : Fun K "check_sides" "check_sides" s_check_sides f fd) (T : Txt mg)
    (D_is_within : DF P w K mg base "is_within" 2 ["thing", "low", "high"] (spD K 3 R_is_within)) (TB : ErC K mg "BadSides" CB)  :
    FnOk P w K mg base (L2.CX P w) 3 f fd ["sides", "most"] (spR K 2 R_check_sides (B_check_sides CB)) := by
  refine F.okX sc_check_sides (fun vs H Q E h => spR_len h) (fun cdv A outer s H vs Q E hr h => ?_)
  obtain ⟨ds, hd, _, h⟩ := h
  obtain ⟨d, rfl⟩ : ∃ d, ds = [d, .int 5] := by
    rcases h with ⟨r, ⟨d, e, _⟩, _⟩ | ⟨C, ⟨d, e, _⟩, _⟩
    · exact ⟨d, e⟩
    · exact ⟨d, e⟩
  obtain ⟨v0, v1, rfl, d0, d1⟩ := dpa_two hd
  cases dp_int d1
  refine ⟨_, (pss_one (ps_if (pt_not (pt_val (pe_D D_is_within (hr.mono (by decide)) (by rfl) (pa_cons (pv 0) (pa_cons pe_int (pa_cons (pv 1) pa_nil)))))) (pss_one (ps_raiseC rfl (takes_of rfl rfl rfl rfl) TB (by rfl) (pe_joined (.cons pe_str (.cons (pe_fmt (pv 1)) .nil))))) pss_nil)), ?_⟩
  refine s_when (b := !isIn d 2 5) (et_not (et_B (EvD.bool (ed_call (R := R_is_within) (ds := [d, .int 2, .int 5]) (eda_cons (ed_var rfl d0) (eda_cons (ed_int ev_c) (eda_cons (ed_int (ev_var rfl)) eda_nil))) rfl ⟨_, _, _, rfl, rfl⟩)))) (fun hb H1 e1 => ?_) fun hb H1 e1 => ?_
  · have hb : isIn d 2 5 = false := by simpa using hb
    rcases h with ⟨r, ⟨d', e, g, _⟩, _⟩ | ⟨C, ⟨d', e, g, rfl⟩, k⟩
    · cases e
      rw [g] at hb
      cases hb
    · refine ⟨_, rfl, by decide +kernel, .int 5, rfl, .inr ⟨5, rfl, by decide, ?_⟩⟩
      refine ⟨_, rfl, by decide +kernel, ?_⟩
      exact k H1 e1
  · have hb : isIn d 2 5 = true := by simpa using hb
    rcases h with ⟨r, ⟨d', e, g, rfl⟩, k⟩ | ⟨C, ⟨d', e, g, rfl⟩, k⟩
    · exact k .non H1 e1 .non
    · cases e
      rw [g] at hb
      cases hb

def R_check_room (ds : List PyData) (r : PyData) : Prop := ∃ d, ds = [d] ∧ isIn d 0 99 = true ∧ r = .none
def B_check_room (CR : Addr) (ds : List PyData) (C : Addr) : Prop := ∃ d, ds = [d] ∧ isIn d 0 99 = false ∧ C = CR
abbrev s_check_room : Stmt := topS 42
abbrev N_check_room : List Str := ["room"]
theorem sc_check_room : FnScope N_check_room ["room"] (defScope s_check_room) := ⟨rfl, rfl, rfl, by decide +kernel, rfl, by decide +kernel, by decide +kernel⟩
theorem ok_check_room {f : Addr} {fd : FuncData} (F : Fun K "check_room" "check_room" s_check_room f fd) (T : Txt mg)
    (D_is_within : DF P w K mg base "is_within" 2 ["thing", "low", "high"] (spD K 3 R_is_within)) (TR : ErC K mg "BadRoom" CR)  :
    FnOk P w K mg base (L2.CX P w) 3 f fd ["room"] (spR K 1 R_check_room (B_check_room CR)) := by
  refine F.okX sc_check_room (fun vs H Q E h => spR_len h) (fun cdv A outer s H vs Q E hr h => ?_)
  obtain ⟨ds, hd, _, h⟩ := h
  obtain ⟨d, rfl⟩ : ∃ d, ds = [d] := by
    rcases h with ⟨r, ⟨d, e, _⟩, _⟩ | ⟨C, ⟨d, e, _⟩, _⟩
    · exact ⟨d, e⟩
    · exact ⟨d, e⟩
  obtain ⟨v0, rfl, d0⟩ := dpa_one hd
  refine ⟨_, (pss_one (ps_if (pt_not (pt_val (pe_D D_is_within (hr.mono (by decide)) (by rfl) (pa_cons (pv 0) (pa_cons pe_int (pa_cons (pe_const T.c_MOST_ROOM (by rfl)) pa_nil)))))) (pss_one (ps_raiseC rfl (takes_of rfl rfl rfl rfl) TR (by rfl) pe_str)) pss_nil)), ?_⟩
  refine s_when (b := !isIn d 0 99) (et_not (et_B (EvD.bool (ed_call (R := R_is_within) (ds := [d, .int 0, .int 99]) (eda_cons (ed_var rfl d0) (eda_cons (ed_int ev_c) (eda_cons (ed_int ev_c) eda_nil))) rfl ⟨_, _, _, rfl, rfl⟩)))) (fun hb H1 e1 => ?_) fun hb H1 e1 => ?_
  · have hb : isIn d 0 99 = false := by simpa using hb
    rcases h with ⟨r, ⟨d', e, g, _⟩, _⟩ | ⟨C, ⟨d', e, g, rfl⟩, k⟩
    · cases e
      rw [g] at hb
      cases hb
    · exact k H1 e1
  · have hb : isIn d 0 99 = true := by simpa using hb
    rcases h with ⟨r, ⟨d', e, g, rfl⟩, k⟩ | ⟨C, ⟨d', e, g, rfl⟩, k⟩
    · exact k .non H1 e1 .non
    · cases e
      rw [g] at hb
      cases hb

end
end K16
set_option Elab.async false
set_option linter.all false
set_option maxRecDepth 100000
set_option maxHeartbeats 4000000
namespace K16
open PySem PySem.Spec PyProof.Rows L2 Evl DL
local macro_rules | `(tactic| walk_at "dl") => `(tactic| first
  | exact ev_c | exact ev_var rfl | exact eda_nil
  | exact ed_var rfl (by assumption)
  | exact ed_int ev_c | exact ed_int (ev_var rfl)
  | (refine eda_cons ?_ ?_ <;> walk_at "dl")
  | (refine ed_int ?_; walk_at "dl")
  | (refine ev_op ?_ ?_ rv_I0 <;> walk_at "dl"))

section
variable {P : Program} {w : World} {K : PySem.W.Frag} {mg : Str → Option Value} {base : Heap}
variable {CB CL CR : Addr}
def plc (s a b : Int) : Int := a * (2 * s - a - 1) / 2 + b - a - 1
def R_pair_place (ds : List PyData) (r : PyData) : Prop := ∃ s a b : Int, ds = [.int s, .int a, .int b] ∧ (0 ≤ a ∧ a ≤ 1000) ∧ r = .int (plc s a b)
def pD (p : Int × Int) : PyData := tI [p.1, p.2]
def prs (s : Int) : List (Int × Int) := (List.range s.toNat).flatMap fun (i : Nat) => (List.range (s - ((i : Int) + 1)).toNat).map fun (j : Nat) => ((i : Int), (i : Int) + 1 + (j : Int))
def np (s : Int) : Nat := (prs s).length
def R_side_pairs (ds : List PyData) (r : List PyData) : Prop := ∃ s : Int, ds = [.int s] ∧ 0 ≤ s ∧ s ≤ 5 ∧ r = (prs s).map pD
abbrev s_side_pairs : Stmt := topS 31
abbrev N_side_pairs : List Str := ["sides", "side", "far"]
theorem sc_side_pairs : FnScope N_side_pairs ["sides"] (defScope s_side_pairs) := ⟨rfl, rfl, rfl, by decide +kernel, rfl, by decide +kernel, by decide +kernel⟩
theorem ok_side_pairs {f : Addr} {fd : FuncData} (F : Fun K "side_pairs" "side_pairs" s_side_pairs f fd) (T : Txt mg)
      :
    FnOk P w K mg base CX0 1 f fd ["sides"] (spN K 1 R_side_pairs) := by
  refine F.ok sc_side_pairs (fun vs H Q E h => spN_len h) (fun cdv A outer s H vs Q E hr h => ?_)
  obtain ⟨ds, r, hd, _, ⟨x, rfl, h1, h2, rfl⟩, k⟩ := h
  obtain rfl := dpa_ints (l := [x]) hd
  refine ⟨_, (pss_one (ps_ret (pe_lc2 (own := [("side", 1), ("far", 2)]) (vs1 := [2]) (g := (gName 1)) (tt := tYes) (g1 := (gName 2)) (tt1 := tYes) rfl sc_side_pairs.nd (pi_range1 (by rfl) T.b_range (pa_cons (pv 0) pa_nil)) (blkOk_by (N := N_side_pairs) (sc := defScope s_side_pairs) (by decide +kernel)) (by decide) (fun _ _ _ _ _ => (pg_name (i := 1) sc_side_pairs.nd rfl (Or.inl rfl))) (fun _ _ _ _ _ => pts_nil) (fun _ _ _ _ _ => (pi_range2 (by rfl) T.b_range (pa_cons (pe_op op_add (pv 1) pe_int) (pa_cons (pv 0) pa_nil)))) (fun _ _ _ _ _ => (pg_name (i := 2) sc_side_pairs.nd rfl (Or.inl rfl))) (fun _ _ _ _ _ => pts_nil) (fun _ _ _ _ _ => (pe_tup (pa_cons (pv 1) (pa_cons (pv 2) pa_nil))))))), ?_⟩
  refine n_ret (en_is (en_lc2 (ei_rng1 (n := x) (by walk_at "dl") (by omega)) (immAll_map (fun _ => by simp [imm]) _) (fun i => (List.range (x - ((i : Int) + 1)).toNat).map fun (j : Nat) => PyData.int ((i : Int) + 1 + (j : Int)))
    (fun i => immAll_map (fun _ => by simp [imm]) _) (fun i j => tI [(i : Int), (i : Int) + 1 + (j : Int)]) (fun i j => imm_tI _) (fun i => by rw [List.length_map, List.length_range]; omega) (by rw [List.length_map, List.length_range]; omega)
    (fun _ => rfl) (fun _ _ => rfl) fun i d y H3 hd1 hd2 => ?_) ?_) k
  · have hlt : i < x.toNat := by
      have := (List.getElem?_eq_some_iff.mp hd1).1
      simpa using this
    rw [rng_get hlt] at hd1
    cases hd1
    cases hd2
    refine ⟨fun S hS => ei_rng2 (m := (i : Int) + 1) (n := x) (eda_cons (ed_int (ev_op (ev_var rfl) ev_c rv_I0)) (eda_cons (ed_int (ev_var rfl)) eda_nil)) (by omega), fun j d' y H5 hj hx hy => ?_⟩
    have hlt2 : j < (x - ((i : Int) + 1)).toNat := by
      have := (List.getElem?_eq_some_iff.mp hj).1
      simpa using this
    rw [rng_get hlt2] at hj
    cases hj
    cases hy
    exact ed_tup (eda_cons (ed_int (ev_var rfl)) (eda_cons (ed_int (ev_var rfl)) eda_nil)) (by simp)
  · unfold prs
    rw [List.map_flatMap, List.length_map, List.length_range]
    congr 1
    funext i
    rw [List.map_map, List.length_map, List.length_range]
    rfl

theorem np_all : np 2 = 1 ∧ np 3 = 3 ∧ np 4 = 6 ∧ np 5 = 10 := by decide
def R_many_pairs (ds : List PyData) (r : PyData) : Prop := ∃ s : Int, ds = [.int s] ∧ 2 ≤ s ∧ s ≤ 5 ∧ r = .int ((np s : Nat) : Int)
abbrev s_many_pairs : Stmt := topS 32
abbrev N_many_pairs : List Str := ["sides"]
theorem sc_many_pairs : FnScope N_many_pairs ["sides"] (defScope s_many_pairs) := ⟨rfl, rfl, rfl, by decide +kernel, rfl, by decide +kernel, by decide +kernel⟩
theorem ok_many_pairs {f : Addr} {fd : FuncData} (F : Fun K "many_pairs" "many_pairs" s_many_pairs f fd) (T : Txt mg)
      :
    FnOk P w K mg base CX0 1 f fd ["sides"] (spD K 1 R_many_pairs) := by
  refine F.ok sc_many_pairs (fun vs H Q E h => spD_len h) (fun cdv A outer s H vs Q E hr h => ?_)
  obtain ⟨ds, r, hd, _, ⟨x, rfl, h1, h2, rfl⟩, k⟩ := h
  obtain rfl := dpa_ints (l := [x]) hd
  refine ⟨_, (pss_one (ps_ret (pe_op op_fdiv (pe_op op_mul (pv 0) (pe_op op_sub (pv 0) pe_int)) pe_int))), ?_⟩
  refine d_ret (d := .int ((np x : Nat) : Int)) (ed_int ?_) k
  have i1 : Ev (tOp (rI0 fun i j => .int (i - j)) (tVar 0) (tC (.int 1))) (L2.start N_many_pairs (List.map V.int [x])) H (.int (x - 1)) := ev_op (ev_var rfl) ev_c rv_I0
  have i2 := ev_op (r := rI CMul fun i j => .int (i * j)) (ev_var (i := 0) (v := .int x) rfl) i1 (rv_I (.inl (by omega)))
  have i3 := ev_op (r := rI CDiv fun i j => .int (i / j)) i2 (ev_c (v := .int 2)) (rv_I (by unfold CDiv; omega))
  refine ev_is i3 ?_
  have hs' : x = 2 ∨ x = 3 ∨ x = 4 ∨ x = 5 := by omega
  rcases hs' with rfl | rfl | rfl | rfl
  · rw [np_all.1] <;> rfl
  · rw [np_all.2.1] <;> rfl
  · rw [np_all.2.2.1] <;> rfl
  · rw [np_all.2.2.2] <;> rfl

def R_no_wires (ds : List PyData) (r : PyData) : Prop := ∃ s : Int, ds = [.int s] ∧ 2 ≤ s ∧ s ≤ 5 ∧ r = tI (List.replicate (np s) 0)
theorem np_le {s : Int} (h1 : 2 ≤ s) (h2 : s ≤ 5) : 1 ≤ np s ∧ np s ≤ 10 := by
  have : s = 2 ∨ s = 3 ∨ s = 4 ∨ s = 5 := by omega
  rcases this with rfl | rfl | rfl | rfl <;> decide
theorem et_is {t : TT} {σ : L2.St} {H : Hp} {a b : Bool} (h : EvT t σ H a) (e : a = b) : EvT t σ H b := e ▸ h
/-- not isinstance(x, int) or isinstance(x, bool) or x < 0 or x > 99 -/
theorem within_test {σ : L2.St} {H : Hp} {te tm : TE} {e : PyData} (h : EvD K te σ H e) (hm : Ev tm σ H (.int 99)) :
    EvT (tOr (tNot (tB (tCB (rIsi K) (tCons te (tCons (tC (.ty "int")) tNil))))) (tOr (tB (tCB (rIsi K) (tCons te (tCons (tC (.ty "bool")) tNil)))) (tOr (tTest (tOp (rI0 fun i j => V.bl (decide (i < j))) te (tC (.int 0)))) (tTest (tOp (rI0 fun i j => V.bl (decide (j < i))) te tm))))) σ H (!isIn e 0 99) := by
  have one : EvT (tNot (tB (tCB (rIsi K) (tCons te (tCons (tC (.ty "int")) tNil))))) σ H (!(isNum e || isBool e)) := et_not (et_B (ev_isiD h (kit_int e)))
  have two : EvT (tB (tCB (rIsi K) (tCons te (tCons (tC (.ty "bool")) tNil)))) σ H (isBool e) := et_B (ev_isiD h (kit_bool e))
  cases e with
  | int i =>
    refine et_is (et_or (b := (false || (decide (i < 0) || decide (99 < i)))) one fun _ => et_or (b := decide (i < 0) || decide (99 < i)) two fun _ => et_or (et_test (ev_op (EvD.int h) ev_c rv_I0)) fun _ => et_test (ev_op (EvD.int h) hm rv_I0)) ?_
    show (false || (false || (decide (i < 0) || decide (99 < i)))) = !(decide (0 ≤ i) && decide (i ≤ 99))
    by_cases h1 : i < 0
    · simp [h1, Int.not_le.mpr h1]
    · by_cases h2 : 99 < i
      · simp [h1, h2, Int.not_le.mpr h2]
      · simp [h1, h2, Int.not_lt.mp h1, Int.not_lt.mp h2]
  | bool b => exact et_is (et_or (b := true) one fun _ => et_is (et_or (b := true) two fun z => nomatch z) rfl) rfl
  | none => exact et_is (et_or (b := true) one fun z => nomatch z) rfl
  | str x => exact et_is (et_or (b := true) one fun z => nomatch z) rfl
  | list xs => exact et_is (et_or (b := true) one fun z => nomatch z) rfl
  | tuple xs => exact et_is (et_or (b := true) one fun z => nomatch z) rfl
  | dict xs => exact et_is (et_or (b := true) one fun z => nomatch z) rfl
/-- a load of so many sides -/
def Ld (s : Int) (l : List Int) : Prop := l.length = np s ∧ ∀ x ∈ l, 0 ≤ x ∧ x ≤ 99
def ldOk (s : Int) (d : PyData) : Bool := match d with
  | .tuple es => decide (es.length = np s) && es.all (fun e => isIn e 0 99)
  | _ => false
def R_is_load_of (ds : List PyData) (r : PyData) : Prop := ∃ (s : Int) (d : PyData), ds = [.int s, d] ∧ 2 ≤ s ∧ s ≤ 5 ∧ r = .bool (ldOk s d)
theorem ldOk_tI {s : Int} {l : List Int} (h : Ld s l) : ldOk s (tI l) = true := by
  show (decide ((dI l).length = np s) && (dI l).all (fun e => isIn e 0 99)) = true
  rw [decide_eq_true (by rw [dI, List.length_map]; exact h.1), Bool.true_and, List.all_eq_true]
  intro e he
  obtain ⟨x, hx, rfl⟩ := List.mem_map.mp he
  have := h.2 x hx
  simp [isIn, this.1, this.2]
/-- what is a load is a tuple of such numbers -/
theorem ldOk_of {s : Int} {d : PyData} (h : ldOk s d = true) : ∃ l, d = tI l ∧ Ld s l := by
  cases d with
  | tuple es =>
    have h : (decide (es.length = np s) && es.all (fun e => isIn e 0 99)) = true := h
    rw [Bool.and_eq_true, decide_eq_true_eq, List.all_eq_true] at h
    obtain ⟨h1, h2⟩ := h
    have all : ∀ es : List PyData, (∀ e ∈ es, isIn e 0 99 = true) → ∃ l : List Int, es = dI l ∧ ∀ x ∈ l, 0 ≤ x ∧ x ≤ 99 := fun es => by
      induction es with
      | nil => exact fun _ => ⟨[], rfl, fun x hx => by simp at hx⟩
      | cons e es ih =>
        intro h
        obtain ⟨l, e1, e2⟩ := ih fun e he => h e (List.mem_cons_of_mem _ he)
        have := h e List.mem_cons_self
        cases e with
        | int i =>
          have b : (decide ((0 : Int) ≤ i) && decide (i ≤ 99)) = true := this
          rw [Bool.and_eq_true, decide_eq_true_eq, decide_eq_true_eq] at b
          refine ⟨i :: l, by rw [e1]; rfl, fun x hx => ?_⟩
          rcases List.mem_cons.mp hx with rfl | hx
          · exact b
          · exact e2 x hx
        | _ => cases this
    obtain ⟨l, rfl, e2⟩ := all es h2
    exact ⟨l, rfl, by simpa [dI] using h1, e2⟩
  | _ => cases h
/-- a tuple that is read, whatever its items -/
theorem ei_tupD {σ : L2.St} {H : Hp} {te : TE} {ds : List PyData} (h : EvD K te σ H (.tuple ds)) : EvI K (iTup K te) σ H [] ds := fun H1 e R r =>
  h H1 e _ fun w H2 e2 hw => by
    cases hw with
    | tup hs ha =>
      refine ⟨_, rfl, ⟨_, hs⟩, r _ H2 e2 ?_⟩
      rw [← dpa_len ha]
      refine walk_tup.mono (fun Ha x => ex_t x.to_ex hs) fun i Ha x Hb hlt hg y => ?_
      obtain ⟨rfl, hx⟩ := y
      obtain ⟨d, hd1, hd2⟩ := dpa_getV (dpa_ex hg.to_ex _ _ ha) hx
      exact ⟨Ex.refl _, d, hd1, hd2⟩
abbrev s_is_load_of : Stmt := topS 34
abbrev N_is_load_of : List Str := ["sides", "thing", "number"]
theorem sc_is_load_of : FnScope N_is_load_of ["sides", "thing"] (defScope s_is_load_of) := ⟨rfl, rfl, rfl, by decide +kernel, rfl, by decide +kernel, by decide +kernel⟩
theorem ok_is_load_of {f : Addr} {fd : FuncData} (F : Fun K "is_load_of" "is_load_of" s_is_load_of f fd) (T : Txt mg)
    (D_is_tuple_of : DF P w K mg base "is_tuple_of" 1 ["thing", "many"] (spD K 2 R_is_tuple_of)) (D_many_pairs : DF P w K mg base "many_pairs" 1 ["sides"] (spD K 1 R_many_pairs))  :
    FnOk P w K mg base CX0 2 f fd ["sides", "thing"] (spD K 2 R_is_load_of) := by
  refine F.ok sc_is_load_of (fun vs H Q E h => spD_len h) (fun cdv A outer s H vs Q E hr h => ?_)
  obtain ⟨ds, r, hd, _, ⟨x, d, rfl, h1, h2, rfl⟩, k⟩ := h
  obtain ⟨v0, v1, rfl, d0, d1⟩ := dpa_two hd
  cases dp_int d0
  refine ⟨_, (pss_cons (ps_if (pt_not (pt_val (pe_D D_is_tuple_of (hr.mono (by decide)) (by rfl) (pa_cons (pv 1) (pa_cons (pe_D D_many_pairs (hr.mono (by decide)) (by rfl) (pa_cons (pv 0) pa_nil)) pa_nil))))) (pss_one (ps_ret pe_bl)) pss_nil)
      (pss_cons (ps_for PassesOwn.never rfl (pi_tup (pv 1)) (pg_name (i := 2) sc_is_load_of.nd rfl (Or.inl rfl)) (pss_one (ps_if (PW.pt (pw_or (pt_not (pt_val (pe_callB call_isi (by rfl) T.b_isinstance (by decide +kernel) (pa_cons (pv 2) (pa_cons (pe_bltn (v := .ty "int") (u := .type "int") (by rfl) T.b_int (by decide +kernel) rfl) pa_nil))))) (pw_or (pt_val (pe_callB call_isi (by rfl) T.b_isinstance (by decide +kernel) (pa_cons (pv 2) (pa_cons (pe_bltn (v := .ty "bool") (u := .type "bool") (by rfl) T.b_bool (by decide +kernel) rfl) pa_nil)))) (pw_or (pt_cmpR op_lt (pv 2) pe_int (nomark _)) (pw_or1 (pt_cmpR op_gt (pv 2) (pe_const T.c_MOST_NUMBER (by rfl)) (nomark _))))))) (pss_one (ps_ret pe_bl)) pss_nil)))
      (pss_one (ps_ret pe_bl)))), ?_⟩
  refine q_when (b := !isTupOf d ((np x : Nat) : Int)) (et_not (et_B (EvD.bool (ed_call (K := K) (R := R_is_tuple_of) (ds := [d, .int ((np x : Nat) : Int)]) (eda_cons (ed_var (v := v1) rfl d1) (eda_cons (ed_call (R := R_many_pairs) (ds := [.int x]) (by walk_at "dl") rfl ⟨x, rfl, h1, h2, rfl⟩) eda_nil)) rfl ⟨d, _, rfl, rfl⟩)))) (fun hb H1 e1 => ?_) fun hb H1 e1 => ?_
  · have hb : isTupOf d ((np x : Nat) : Int) = false := by simpa using hb
    have lo : ldOk x d = false := by
      cases d with
      | tuple es =>
        have : ¬ ((es.length : Int) = ((np x : Nat) : Int)) := of_decide_eq_false hb
        show (decide (es.length = np x) && _) = false
        rw [decide_eq_false (fun z => this (by rw [z]))]
        rfl
      | _ => rfl
    rw [lo] at k
    exact d_ret (K := K) (ed_bool ev_c) fun v H2 e2 hv => k v H2 (e1.trans e2) hv
  · have hb : isTupOf d ((np x : Nat) : Int) = true := by simpa using hb
    cases d with
    | tuple es =>
      have len : es.length = np x := by
        have := of_decide_eq_true hb
        omega
      have lo : ldOk x (.tuple es) = es.all (fun e => isIn e 0 99) := by
        show (decide (es.length = np x) && _) = _
        rw [decide_eq_true len]
        rfl
      rw [lo] at k
      refine e_for (ei_tupD (K := K) (ed_var (v := v1) rfl (dp_ex e1 _ _ d1))) (fun H2 i σ' Ha => Ex H2 Ha ∧ (∀ j, j < i → ∀ e, es[j]? = some e → isIn e 0 99 = true) ∧ ∃ y, σ' = [some (.int x), some v1, y]) (fun H2 e2 => ⟨Ex.refl _, fun j hj => absurd hj (by omega), none, rfl⟩) (fun H2 i σ' Ha _ p => Xp.of_ex p.1) ?_ ?_
      · rintro H2 i e y σ' Ha Hb e2 he ⟨p1, pn, z, rfl⟩ e3 hy
        refine s_when (b := !isIn e 0 99) (within_test (ed_var (v := y) rfl hy) ev_c) (fun hn H4 e4 => ?_) fun hn H4 e4 => ?_
        · have hn : isIn e 0 99 = false := by simpa using hn
          have al : es.all (fun e => isIn e 0 99) = false := by
            rw [List.all_eq_false]
            exact ⟨e, List.mem_of_getElem? he, by simp [hn]⟩
          rw [al] at k
          exact d_ret (K := K) (ed_bool ev_c) fun v H5 e5 hv => k v H5 (((((e1.trans e2).trans p1).trans e3).trans e4).trans e5) hv
        · refine ⟨(p1.trans e3).trans e4, fun j hj e' he' => ?_, _, rfl⟩
          by_cases hji : j = i
          · subst hji
            rw [he] at he'
            cases he'
            simpa using hn
          · exact pn j (by omega) e' he'
      · rintro H2 σ' Ha e2 ⟨p1, pn, z, rfl⟩
        have al : es.all (fun e => isIn e 0 99) = true := by
          rw [List.all_eq_true]
          intro e he
          obtain ⟨j, hj, rfl⟩ := List.getElem_of_mem he
          exact pn j hj _ (List.getElem?_eq_getElem hj)
        rw [al] at k
        exact d_ret (K := K) (ed_bool ev_c) fun v H3 e3 hv => k v H3 (((e1.trans e2).trans p1).trans e3) hv
    | _ => cases hb

def R_check_load (ds : List PyData) (r : PyData) : Prop := ∃ (s : Int) (l : List Int), ds = [.int s, tI l] ∧ 2 ≤ s ∧ s ≤ 5 ∧ Ld s l ∧ r = .none
def B_check_load (CL : Addr) (ds : List PyData) (C : Addr) : Prop := ∃ (s : Int) (d : PyData), ds = [.int s, d] ∧ 2 ≤ s ∧ s ≤ 5 ∧ ldOk s d = false ∧ C = CL
abbrev s_check_load : Stmt := topS 35
abbrev N_check_load : List Str := ["sides", "load"]
theorem sc_check_load : FnScope N_check_load ["sides", "load"] (defScope s_check_load) := ⟨rfl, rfl, rfl, by decide +kernel, rfl, by decide +kernel, by decide +kernel⟩
theorem ok_check_load {f : Addr} {fd : FuncData} (F : Fun K "check_load" "check_load" s_check_load f fd) (T : Txt mg)
    (D_is_load_of : DF P w K mg base "is_load_of" 2 ["sides", "thing"] (spD K 2 R_is_load_of)) (TL : ErC K mg "BadLoad" CL)  :
    FnOk P w K mg base (L2.CX P w) 3 f fd ["sides", "load"] (spR K 2 R_check_load (B_check_load CL)) := by
  refine F.okX sc_check_load (fun vs H Q E h => spR_len h) (fun cdv A outer s H vs Q E hr h => ?_)
  obtain ⟨ds, hd, _, h⟩ := h
  obtain ⟨x, d, rfl, h1, h2⟩ : ∃ (x : Int) (d : PyData), ds = [.int x, d] ∧ 2 ≤ x ∧ x ≤ 5 := by
    rcases h with ⟨r, ⟨s, l, e, g1, g2, _⟩, _⟩ | ⟨C, ⟨s, d, e, g1, g2, _⟩, _⟩
    · exact ⟨s, tI l, e, g1, g2⟩
    · exact ⟨s, d, e, g1, g2⟩
  obtain ⟨v0, v1, rfl, d0, d1⟩ := dpa_two hd
  cases dp_int d0
  refine ⟨_, (pss_one (ps_if (pt_not (pt_val (pe_D D_is_load_of (hr.mono (by decide)) (by rfl) (pa_cons (pv 0) (pa_cons (pv 1) pa_nil))))) (pss_one (ps_raiseC rfl (takes_of rfl rfl rfl rfl) TL (by rfl) pe_str)) pss_nil)), ?_⟩
  refine s_when (b := !ldOk x d) (et_not (et_B (EvD.bool (ed_call (R := R_is_load_of) (ds := [.int x, d]) (by walk_at "dl") rfl ⟨x, d, rfl, h1, h2, rfl⟩)))) (fun hb H1 e1 => ?_) fun hb H1 e1 => ?_
  · have hb : ldOk x d = false := by simpa using hb
    rcases h with ⟨r, ⟨s, l, e, g1, g2, g3, _⟩, _⟩ | ⟨C, ⟨s, d', e, _, _, _, rfl⟩, k⟩
    · cases e
      rw [ldOk_tI g3] at hb
      cases hb
    · exact k H1 e1
  · have hb : ldOk x d = true := by simpa using hb
    rcases h with ⟨r, ⟨s, l, e, g1, g2, g3, rfl⟩, k⟩ | ⟨C, ⟨s, d', e, _, _, g, rfl⟩, k⟩
    · exact k .non H1 e1 .non
    · cases e
      rw [g] at hb
      cases hb

end
end K16
set_option Elab.async false
set_option linter.all false
set_option maxRecDepth 100000
set_option maxHeartbeats 4000000
namespace K16
open PySem PySem.Spec PyProof.Rows L2 Evl DL
local macro_rules | `(tactic| walk_at "dl") => `(tactic| first
  | exact ev_c | exact ev_var rfl | exact eda_nil
  | exact ed_var rfl (by assumption)
  | exact ed_int ev_c | exact ed_int (ev_var rfl)
  | (refine eda_cons ?_ ?_ <;> walk_at "dl")
  | (refine ed_int ?_; walk_at "dl")
  | (refine ev_op ?_ ?_ rv_I0 <;> walk_at "dl"))

/-- two lists of ints, item by item -/
def zw (f : Int → Int → Int) (a b : List Int) : List Int := List.zipWith f a b
theorem pairs_get {a b : List Int} {i : Nat} {d : PyData} (h : (List.zipWith (fun x y => PyData.tuple [.int x, .int y]) a b)[i]? = some d) : ∃ x y, a[i]? = some x ∧ b[i]? = some y ∧ d = .tuple [.int x, .int y] := by
  rw [List.getElem?_zipWith] at h
  cases h1 : a[i]? with
  | none => rw [h1] at h; simp at h
  | some x =>
    cases h2 : b[i]? with
    | none => rw [h1, h2] at h; simp at h
    | some y => rw [h1, h2] at h; exact ⟨x, y, rfl, rfl, by simpa using h.symm⟩
theorem range_zip (f : Int → Int → Int) : ∀ (a b : List Int), (List.range (min a.length b.length)).map (fun i => f (a.getD i 0) (b.getD i 0)) = zw f a b := fun a b => by
  apply List.ext_getElem?
  intro i
  rw [List.getElem?_map, zw, List.getElem?_zipWith]
  by_cases h : i < min a.length b.length
  · have h1 : i < a.length := by omega
    have h2 : i < b.length := by omega
    rw [List.getElem?_range h, List.getElem?_eq_getElem h1, List.getElem?_eq_getElem h2]
    simp [List.getD_eq_getElem?_getD, h1, h2]
  · have h3 : ¬ (i < a.length ∧ i < b.length) := by omega
    rw [List.getElem?_eq_none (by simpa using h)]
    by_cases h1 : i < a.length
    · have h2 : b[i]? = none := List.getElem?_eq_none (by omega)
      rw [h2]
      cases a[i]? <;> rfl
    · rw [List.getElem?_eq_none (by omega : a.length ≤ i)]
      rfl
section
variable {K : PySem.W.Frag} {σ : L2.St} {H : Hp} {ta tb te : TE} {a b : List Int}
/-- zip of two tuples of ints -/
theorem ei_zipTT {S : List Addr} (hS : Ls H S) (ha : EvD K ta σ H (tI a)) (hb : EvD K tb σ H (tI b)) : EvI K (iZipM K true true (tCons ta (tCons tb tNil))) σ H S (List.zipWith (fun x y => PyData.tuple [.int x, .int y]) a b) := fun H1 e R r =>
  ha H1 e _ fun x H2 e2 hx => hb H2 (e.trans e2) _ fun y H3 e3 hy => by
    obtain ⟨p, rfl, h1⟩ := dp_tI hx
    obtain ⟨q, rfl, h2⟩ := dp_tI hy
    have h1 := ex_t e3 h1
    refine ⟨p, q, _, _, rfl, sqa_t h1, sqa_t h2, r _ H3 (e2.trans e3) ?_⟩
    rw [List.length_zipWith]
    have w := walk_zipM (K := K) (a := p) (b := q) (t := true) (u := true) (xs := a.map V.int) (ys := b.map V.int) (n := min a.length b.length) (by simp)
    refine w.mono (fun Ha x => ⟨sqT_tx (x.tx (hS.ex ((e.trans e2).trans e3))) h1, sqT_tx (x.tx (hS.ex ((e.trans e2).trans e3))) h2⟩) fun i Ha v Hb hlt hg y => ?_
    obtain ⟨T, v1, v2, rfl, hT, rfl, g1, g2⟩ := y
    simp only [List.getElem?_map] at g1 g2
    obtain ⟨n1, m1, rfl⟩ := Option.map_eq_some_iff.mp g1
    obtain ⟨n2, m2, rfl⟩ := Option.map_eq_some_iff.mp g2
    refine ⟨Ex.new hT, .tuple [.int n1, .int n2], ?_, .tup (st_of upd_same) (.cons (.int _) (.cons (.int _) .nil))⟩
    rw [List.getElem?_zipWith, m1, m2]
end
section
variable {P : Program} {w : World} {K : PySem.W.Frag} {mg : Str → Option Value} {base : Heap}
def R_summed (ds : List PyData) (r : PyData) : Prop := ∃ a b : List Int, ds = [tI a, tI b] ∧ a.length ≤ 100 ∧ r = tI (zw (· + ·) a b)
theorem cut_lo (ds : List PyData) (p : Nat) (h : p ≤ ds.length) : DL.cutD ds none (some (p : Int)) = ds.take p := by
  unfold DL.cutD
  rw [HT.sIx_none, HT.sIx_nat, Nat.min_eq_left h]
  rfl
theorem cut_hi (ds : List PyData) (p : Nat) (h : p ≤ ds.length) : DL.cutD ds (some (p : Int)) none = ds.drop p := by
  unfold DL.cutD
  rw [HT.sIx_none, HT.sIx_nat, Nat.min_eq_left h]
  exact List.take_of_length_le (by simp)
def R_raised (ds : List PyData) (r : PyData) : Prop := ∃ (l : List Int) (p : Nat) (y : Int), ds = [tI l, .int (p : Int), .int y] ∧ p < l.length ∧ l.length ≤ 100 ∧ r = tI (l.set p (l.getD p 0 + y))
end

/-- the greatest -/
def mxl : List Int → Int
  | [] => 0
  | x :: r => r.foldl max x
theorem foldl_max_ge : ∀ (r : List Int) (x : Int), x ≤ r.foldl max x ∧ (∀ y ∈ r, y ≤ r.foldl max x) ∧ (r.foldl max x = x ∨ r.foldl max x ∈ r)
  | [], x => ⟨Int.le_refl _, fun y hy => by simp at hy, .inl rfl⟩
  | y :: r, x => by
    obtain ⟨h1, h2, h3⟩ := foldl_max_ge r (max x y)
    rw [List.foldl_cons]
    refine ⟨by omega, fun z hz => ?_, ?_⟩
    · rcases List.mem_cons.mp hz with rfl | hz
      · omega
      · exact h2 z hz
    · rcases h3 with h3 | h3
      · rw [h3]
        by_cases h : y ≤ x
        · exact .inl (by omega)
        · exact .inr (List.mem_cons.mpr (.inl (by omega)))
      · exact .inr (List.mem_cons_of_mem _ h3)
theorem mxl_mem {l : List Int} (h : 0 < l.length) : mxl l ∈ l := by
  cases l with
  | nil => simp at h
  | cons x r =>
    rcases (foldl_max_ge r x).2.2 with e | e
    · exact List.mem_cons.mpr (.inl e)
    · exact List.mem_cons_of_mem _ e
theorem mxl_ge {l : List Int} {y : Int} (h : y ∈ l) : y ≤ mxl l := by
  cases l with
  | nil => simp at h
  | cons x r =>
    rcases List.mem_cons.mp h with rfl | h
    · exact (foldl_max_ge r y).1
    · exact (foldl_max_ge r x).2.1 y h
section
variable {K : PySem.W.Frag} {σ : L2.St} {H H2 Ha : Hp} {ta tb te : TE}
theorem xp_fresh {p : Addr} (e : Ex H H2) (x : Xp [p] H2 Ha) (h : H p = none) : Ex H Ha := fun a o ho => x a o (e a o ho) (fun hm => by
  have : a = p := by simpa using hm
  rw [this, h] at ho
  cases ho)
/-- xs[i] op= e, a list of ints -/
theorem d_augL {D : Ends} {f : Int → Int → Int} {l : Addr} {ns : List Int} {a b j : Nat} {y : Int} (hl : H l = some (.lst (ns.map V.int))) (ho : σ[a]? = some (some (.ref l))) (hi : σ[b]? = some (some (.int (j : Int)))) (hj : j < ns.length) (he : Ev te σ H (.int y))
    (k : ∀ H1, Ex H H1 → D.nx σ (upd H1 l (.lst ((ns.set j (f (ns.getD j 0) y)).map V.int)))) : tAugS (tVar a) (tVar b) te (rGetL K) (ipI f) rSetL D σ H := by
  have g : (ns.map V.int)[j]? = some (.int (ns.getD j 0)) := by
    rw [List.getElem?_map, List.getElem?_eq_getElem hj, List.getD_eq_getElem?_getD, List.getElem?_eq_getElem hj]
    rfl
  refine ⟨_, ho, _, hi, l, _, _, j, rfl, rfl, sq_of hl, g, ?_⟩
  refine he H (Ex.refl _) _ fun H1 e1 => ⟨_, _, rfl, rfl, l, ns.map V.int, (j : Int), j, rfl, rfl, e1 _ _ hl, ixN_nat (by rw [List.length_map]; exact hj), ?_⟩
  have q := k H1 e1
  rw [List.map_set] at q
  exact q
theorem q_augL {D : Ends} {tz : TS} {f : Int → Int → Int} {l : Addr} {ns : List Int} {a b j : Nat} {y : Int} (hl : H l = some (.lst (ns.map V.int))) (ho : σ[a]? = some (some (.ref l))) (hi : σ[b]? = some (some (.int (j : Int)))) (hj : j < ns.length) (he : Ev te σ H (.int y))
    (k : ∀ H1, Ex H H1 → tz D σ (upd H1 l (.lst ((ns.set j (f (ns.getD j 0) y)).map V.int)))) : tSeq (tAugS (tVar a) (tVar b) te (rGetL K) (ipI f) rSetL) tz D σ H := d_augL (D := { D with nx := tz D }) hl ho hi hj he k
/-- zip of a new list of pairs and a tuple of ints -/
theorem ei_zipNT {S : List Addr} {ps : List (Int × Int)} {b : List Int} (hS : Ls H S) (ha : EvN K ta σ H (ps.map pD)) (hb : EvD K tb σ H (tI b)) :
    EvI K (iZipM K false true (tCons ta (tCons tb tNil))) σ H S (List.zipWith (fun p y => PyData.tuple [pD p, .int y]) ps b) := fun H1 e R r =>
  ha H1 e _ fun p vs H2 hp e2 h2 hd => hb H2 (e.trans e2) _ fun y H3 e3 hy => by
    obtain ⟨q, rfl, h4⟩ := dp_tI hy
    have h3 := e3 _ _ h2
    have hd3 := dpa_ex e3 _ _ hd
    have hn : p ∉ S := fresh_notin (hS.ex e) hp
    have lv : vs.length = ps.length := by rw [dpa_len hd, List.length_map]
    refine ⟨p, q, _, _, rfl, sqa_l (sq_of h3), sqa_t h4, r _ H3 (e2.trans e3) ?_⟩
    rw [List.length_zipWith]
    have w := walk_zipM (K := K) (a := p) (b := q) (t := false) (u := true) (xs := vs) (ys := b.map V.int) (n := min ps.length b.length) (by rw [lv, List.length_map])
    have ls3 := hS.ex ((e.trans e2).trans e3)
    refine w.mono (fun Ha x => ⟨sq_of (x p _ h3 hn), sqT_tx (x.tx ls3) h4⟩) fun i Ha v Hb hlt hg y => ?_
    obtain ⟨T, v1, v2, rfl, hT, rfl, g1, g2⟩ := y
    simp only [List.getElem?_map] at g2
    obtain ⟨n2, m2, rfl⟩ := Option.map_eq_some_iff.mp g2
    have tx : Tx H3 (upd Ha T (.tup [v1, .int n2])) := (hg.tx ls3).trans (Tx.of_ex (Ex.new hT))
    obtain ⟨d1, q1, q2⟩ := dpa_getV (dpa_tx tx _ _ (immAll_map (fun _ => imm_tI _) _) hd3) g1
    rw [List.getElem?_map] at q1
    obtain ⟨pp, m1, rfl⟩ := Option.map_eq_some_iff.mp q1
    refine ⟨Ex.new hT, .tuple [pD pp, .int n2], ?_, .tup (st_of upd_same) (.cons q2 (.cons (.int _) .nil))⟩
    rw [List.getElem?_zipWith, m1, m2]
end
section
variable {P : Program} {w : World} {K : PySem.W.Frag} {mg : Str → Option Value} {base : Heap}
def stp (acc : List Int) (q : (Int × Int) × Int) : List Int :=
  (acc.set q.1.1.toNat (acc.getD q.1.1.toNat 0 + q.2)).set q.1.2.toNat ((acc.set q.1.1.toNat (acc.getD q.1.1.toNat 0 + q.2)).getD q.1.2.toNat 0 + q.2)
def sms (s : Int) (l : List Int) : List Int := ((prs s).zip l).foldl stp (List.replicate s.toNat 0)
theorem stp_len (acc : List Int) (q : (Int × Int) × Int) : (stp acc q).length = acc.length := by simp [stp]
theorem stps_len : ∀ (qs : List ((Int × Int) × Int)) (acc : List Int), (qs.foldl stp acc).length = acc.length
  | [], _ => rfl
  | q :: qs, acc => by rw [List.foldl_cons, stps_len qs, stp_len]
theorem sms_len (s : Int) (l : List Int) : (sms s l).length = s.toNat := by rw [sms, stps_len, List.length_replicate]
theorem prs_in {s : Int} (h1 : 0 ≤ s) (h2 : s ≤ 5) {p : Int × Int} (h : p ∈ prs s) : 0 ≤ p.1 ∧ p.1 < p.2 ∧ p.2 < s := by
  unfold prs at h
  rw [List.mem_flatMap] at h
  obtain ⟨i, hi, h⟩ := h
  obtain ⟨j, hj, rfl⟩ := List.mem_map.mp h
  have := List.mem_range.mp hi
  have := List.mem_range.mp hj
  show 0 ≤ (i : Int) ∧ (i : Int) < (i : Int) + 1 + (j : Int) ∧ (i : Int) + 1 + (j : Int) < s
  omega
def R_sums_at_sides (ds : List PyData) (r : List PyData) : Prop := ∃ (s : Int) (l : List Int), ds = [.int s, tI l] ∧ 2 ≤ s ∧ s ≤ 5 ∧ r = dI (sms s l)
abbrev s_sums_at_sides : Stmt := topS 37
abbrev N_sums_at_sides : List Str := ["sides", "load", "sums", "side", "far", "number"]
theorem sc_sums_at_sides : FnScope N_sums_at_sides ["sides", "load"] (defScope s_sums_at_sides) := ⟨rfl, rfl, rfl, by decide +kernel, rfl, by decide +kernel, by decide +kernel⟩
theorem ok_sums_at_sides {f : Addr} {fd : FuncData} (F : Fun K "sums_at_sides" "sums_at_sides" s_sums_at_sides f fd) (T : Txt mg)
    (D_side_pairs : DF P w K mg base "side_pairs" 1 ["sides"] (spN K 1 R_side_pairs))  :
    FnOk P w K mg base CX0 2 f fd ["sides", "load"] (spN K 2 R_sums_at_sides) := by
  refine F.ok sc_sums_at_sides (fun vs H Q E h => spN_len h) (fun cdv A outer s H vs Q E hr h => ?_)
  obtain ⟨ds, r, hd, _, ⟨x, l, rfl, h1, h2, rfl⟩, k⟩ := h
  obtain ⟨v0, rfl, d0⟩ := dpa_it hd
  refine ⟨_, (pss_cons (ps_set (i := 2) sc_sums_at_sides.nd rfl (.inl rfl) (pe_op op_rep (pe_lst (pa_cons pe_int pa_nil)) (pv 0)))
      (pss_cons (ps_for PassesOwn.never rfl (pi_zipM false true (by rfl) T.b_zip (pa_cons (pe_D D_side_pairs (hr.mono (by decide)) (by rfl) (pa_cons (pv 0) pa_nil)) (pa_cons (pv 1) pa_nil))) (pg_tup rfl (pgs_cons (pg_tup rfl (pgs_cons (pg_name (i := 3) sc_sums_at_sides.nd rfl (Or.inl rfl)) (pgs_cons (pg_name (i := 4) sc_sums_at_sides.nd rfl (Or.inl rfl)) pgs_nil))) (pgs_cons (pg_name (i := 5) sc_sums_at_sides.nd rfl (Or.inl rfl)) pgs_nil))) (pss_cons (ps_augS (pv 2) (pv 3) get_list (pv 5) ip_add set_list)
      (pss_one (ps_augS (pv 2) (pv 4) get_list (pv 5) ip_add set_list))))
      (pss_one (ps_ret (pv 2))))), ?_⟩
  refine qn_asg (K := K) (en_rep (d := .int 0) (EvN.toQ (en_lst (eda_cons (ed_int ev_c) eda_nil) (by simp))) (ev_var rfl) (by omega) (by omega)) fun p vs H1 hp e1 h1' hd1 => ?_
  have hz : vs = (List.replicate x.toNat (0 : Int)).map V.int := by
    have := dpa_ints (l := List.replicate x.toNat 0) (by rw [dI, List.map_replicate]; exact hd1)
    exact this
  subst hz
  have d1 := dp_ex e1 _ _ d0
  refine e_for (S := [p]) (ei_zipNT (ps := prs x) (b := l) (Ls.one h1') (en_call (R := R_side_pairs) (ds := [.int x]) (by walk_at "dl") rfl ⟨x, rfl, by omega, h2, rfl⟩) (ed_var (v := v0) rfl d1))
    (fun H2 i σ' Ha => Xp [p] H2 Ha ∧ Ha p = some (.lst (((((prs x).zip l).take i).foldl stp (List.replicate x.toNat 0)).map V.int)) ∧ ∃ a b c, σ' = [some (.int x), some v0, some (.ref p), a, b, c])
    (fun H2 e2 => ⟨Xp.refl _ _, e2 _ _ h1', none, none, none, rfl⟩) (fun H2 i σ' Ha _ q => q.1) ?_ ?_
  · rintro H2 i d y σ' Ha Hb e2 hg ⟨p1, p2, a, b, c, rfl⟩ e3 hd2
    rw [List.getElem?_zipWith] at hg
    cases g1 : (prs x)[i]? with
    | none => rw [g1] at hg; simp at hg
    | some pp =>
      cases g2 : l[i]? with
      | none => rw [g1, g2] at hg; simp at hg
      | some n =>
        rw [g1, g2] at hg
        have hg : PyData.tuple [pD pp, .int n] = d := by simpa using hg
        subst hg
        obtain ⟨q1, q2, q3⟩ := prs_in (by omega) h2 (List.mem_of_getElem? g1)
        refine g_two hd2 fun w1 w2 u1 u2 => g_two u1 fun w3 w4 u3 u4 => ?_
        cases u2
        cases u3
        cases u4
        have at_ := e3 _ _ p2
        have len : ((((prs x).zip l).take i).foldl stp (List.replicate x.toNat 0)).length = x.toNat := by rw [stps_len, List.length_replicate]
        refine q_augL (j := pp.1.toNat) at_ rfl (by rw [Int.toNat_of_nonneg q1]; rfl) (by omega) (ev_var rfl) fun H3 e4 => ?_
        refine d_augL (j := pp.2.toNat) upd_same rfl (by rw [Int.toNat_of_nonneg (by omega)]; rfl) (by rw [List.length_set]; omega) (ev_var rfl) fun H4 e5 => ?_
        refine ⟨Xp.upd (Xp.then (Xp.upd ((p1.then e3).then e4) (by simp)) e5) (by simp), ?_, _, _, _, rfl⟩
        rw [upd_same, List.take_add_one, show ((prs x).zip l)[i]? = some (pp, n) by rw [List.getElem?_zip_eq_some]; exact ⟨g1, g2⟩]
        simp only [Option.toList_some, List.foldl_append, List.foldl_cons, List.foldl_nil]
        rfl
  · rintro H2 σ' Ha e2 ⟨p1, p2, a, b, c, rfl⟩
    have e0 : Ex H Ha := xp_fresh (e1.trans e2) p1 hp
    rw [List.length_zipWith, List.take_of_length_le (by rw [List.length_zip]; omega)] at p2
    exact ⟨.ref p, rfl, k p _ Ha hp e0 p2 (ints_dpa _)⟩

def R_is_let (ds : List PyData) (r : PyData) : Prop := ∃ (s : Int) (l : List Int) (m : Int), ds = [.int s, tI l, .int m] ∧ 2 ≤ s ∧ s ≤ 5 ∧ r = .bool (decide (mxl (sms s l) ≤ m))
abbrev s_is_let : Stmt := topS 43
abbrev N_is_let : List Str := ["sides", "load", "room"]
theorem sc_is_let : FnScope N_is_let ["sides", "load", "room"] (defScope s_is_let) := ⟨rfl, rfl, rfl, by decide +kernel, rfl, by decide +kernel, by decide +kernel⟩
theorem ok_is_let {f : Addr} {fd : FuncData} (F : Fun K "is_let" "is_let" s_is_let f fd) (T : Txt mg)
    (D_sums_at_sides : DF P w K mg base "sums_at_sides" 2 ["sides", "load"] (spN K 2 R_sums_at_sides))  :
    FnOk P w K mg base CX0 3 f fd ["sides", "load", "room"] (spD K 3 R_is_let) := by
  refine F.ok sc_is_let (fun vs H Q E h => spD_len h) (fun cdv A outer s H vs Q E hr h => ?_)
  obtain ⟨ds, r, hd, _, ⟨x, l, m, rfl, h1, h2, rfl⟩, k⟩ := h
  obtain ⟨v0, rfl, d0⟩ := dpa_iti hd
  refine ⟨_, (pss_one (ps_ret (pe_cmpR op_le (pe_callB (cr_max rfl) (by rfl) T.b_max (by decide +kernel) (pa_cons (pe_D D_sums_at_sides (hr.mono (by decide)) (by rfl) (pa_cons (pv 0) (pa_cons (pv 1) pa_nil))) pa_nil)) (pv 2) (nomark _)))), ?_⟩
  have h0 : 0 < (sms x l).length := by rw [sms_len]; omega
  exact d_ret (ed_bool (ev_op (ev_maxL (EvN.toD (en_call (ds := [.int x, tI l]) (by walk_at "dl") rfl ⟨x, l, rfl, h1, h2, rfl⟩)) h0 (mxl_mem h0) fun y hy => mxl_ge hy) (ev_var rfl) rv_I0)) k

end
end K16
set_option Elab.async false
set_option linter.all false
set_option maxRecDepth 100000
set_option maxHeartbeats 4000000
namespace K16
open PySem PySem.Spec PyProof.Rows L2 Evl DL
local macro_rules | `(tactic| walk_at "dl") => `(tactic| first
  | exact ev_c | exact ev_var rfl | exact eda_nil
  | exact ed_var rfl (by assumption)
  | exact ed_int ev_c | exact ed_int (ev_var rfl)
  | (refine eda_cons ?_ ?_ <;> walk_at "dl")
  | (refine ed_int ?_; walk_at "dl")
  | (refine ev_op ?_ ?_ rv_I0 <;> walk_at "dl"))
section
variable {P : Program} {w : World} {K : PySem.W.Frag} {mg : Str → Option Value} {base : Heap}
def R_reduced (ds : List PyData) (r : PyData) : Prop := ∃ a b : List Int, ds = [tI a, tI b] ∧ a.length ≤ 100 ∧ r = tI (zw (· - ·) a b)
abbrev s_reduced : Stmt := topS 45
abbrev N_reduced : List Str := ["load", "part", "number", "own"]
theorem sc_reduced : FnScope N_reduced ["load", "part"] (defScope s_reduced) := ⟨rfl, rfl, rfl, by decide +kernel, rfl, by decide +kernel, by decide +kernel⟩
theorem ok_reduced {f : Addr} {fd : FuncData} (F : Fun K "reduced" "reduced" s_reduced f fd) (T : Txt mg)
      :
    FnOk P w K mg base CX0 1 f fd ["load", "part"] (spD K 2 R_reduced) := by
  refine F.ok sc_reduced (fun vs H Q E h => spD_len h) (fun cdv A outer s H vs Q E hr h => ?_)
  obtain ⟨ds, r, hd, _, ⟨a, b, rfl, h1, rfl⟩, k⟩ := h
  obtain ⟨v0, v1, rfl, d0, d1⟩ := dpa_two hd
  refine ⟨_, (pss_one (ps_ret (pe_callTy call_tuple_of (by rfl) T.b_tuple (by decide +kernel) (pa_cons (pe_lc (own := [("number", 2), ("own", 3)]) (g := (gTup K 2 (gCons (gName 2) (gCons (gName 3) gNil)))) (tt := tYes) rfl sc_reduced.nd (pi_zipM true true (by rfl) T.b_zip (pa_cons (pv 0) (pa_cons (pv 1) pa_nil))) (blkOk_by (N := N_reduced) (sc := defScope s_reduced) (by decide +kernel)) (fun _ _ _ _ _ => (pg_tup rfl (pgs_cons (pg_name (i := 2) sc_reduced.nd rfl (Or.inl rfl)) (pgs_cons (pg_name (i := 3) sc_reduced.nd rfl (Or.inl rfl)) pgs_nil)))) (fun _ _ _ _ _ => pts_nil) (fun _ _ _ _ _ => (pe_op op_sub (pv 2) (pv 3)))) pa_nil)))), ?_⟩
  refine d_ret (ed_is (ed_tupleOf (EvN.toD (en_lc (ei_zipTT (Ls.nil _) (ed_var rfl d0) (ed_var rfl d1)) (by rw [List.length_zipWith]; omega) (fun i => .int (a.getD i 0 - b.getD i 0)) (fun _ _ => by simp [imm]) fun H2 i d y Hb Q' e2 hd1 e3 hd2 k2 => ?_))) ?_) k
  · obtain ⟨n, m, g1, g2, rfl⟩ := pairs_get hd1
    refine g_two hd2 fun w1 w2 u1 u2 => ?_
    cases u1
    cases u2
    refine k2 _ Hb (Ex.refl _) rfl (ed_int (ev_is (ev_op (ev_var rfl) (ev_var rfl) rv_I0) ?_))
    rw [List.getD_eq_getElem?_getD, List.getD_eq_getElem?_getD, g1, g2] <;> rfl
  · rw [List.length_zipWith, ← range_zip]
    show PyData.tuple _ = PyData.tuple (List.map PyData.int (List.map _ _))
    rw [List.map_map]
    rfl

def blw (a b : List Int) : Bool := (List.zipWith (fun x y => decide (x ≤ y)) a b).all id
def R_is_below (ds : List PyData) (r : PyData) : Prop := ∃ a b : List Int, ds = [tI a, tI b] ∧ r = .bool (blw a b)
theorem blw_no {a b : List Int} {i : Nat} {x y : Int} (h1 : a[i]? = some x) (h2 : b[i]? = some y) (h : ¬ x ≤ y) : blw a b = false := by
  unfold blw
  rw [List.all_eq_false]
  refine ⟨false, List.mem_of_getElem? (i := i) ?_, by simp⟩
  rw [List.getElem?_zipWith, h1, h2]
  simp [h]
theorem blw_yes {a b : List Int} (h : ∀ (i : Nat) x y, a[i]? = some x → b[i]? = some y → x ≤ y) : blw a b = true := by
  unfold blw
  rw [List.all_eq_true]
  intro z hz
  obtain ⟨i, hi⟩ := List.mem_iff_getElem?.mp hz
  rw [List.getElem?_zipWith] at hi
  cases h1 : a[i]? with
  | none => rw [h1] at hi; simp at hi
  | some x =>
    cases h2 : b[i]? with
    | none => rw [h1, h2] at hi; simp at hi
    | some y =>
      rw [h1, h2] at hi
      have := h i x y h1 h2
      simpa [this] using hi.symm
abbrev s_is_below : Stmt := topS 36
abbrev N_is_below : List Str := ["one", "other", "low", "high"]
theorem sc_is_below : FnScope N_is_below ["one", "other"] (defScope s_is_below) := ⟨rfl, rfl, rfl, by decide +kernel, rfl, by decide +kernel, by decide +kernel⟩
theorem ok_is_below {f : Addr} {fd : FuncData} (F : Fun K "is_below" "is_below" s_is_below f fd) (T : Txt mg)
      :
    FnOk P w K mg base CX0 1 f fd ["one", "other"] (spD K 2 R_is_below) := by
  refine F.ok sc_is_below (fun vs H Q E h => spD_len h) (fun cdv A outer s H vs Q E hr h => ?_)
  obtain ⟨ds, r, hd, _, ⟨a, b, rfl, rfl⟩, k⟩ := h
  obtain ⟨v0, v1, rfl, d0, d1⟩ := dpa_two hd
  refine ⟨_, (pss_cons (ps_for PassesOwn.never rfl (pi_zipM true true (by rfl) T.b_zip (pa_cons (pv 0) (pa_cons (pv 1) pa_nil))) (pg_tup rfl (pgs_cons (pg_name (i := 2) sc_is_below.nd rfl (Or.inl rfl)) (pgs_cons (pg_name (i := 3) sc_is_below.nd rfl (Or.inl rfl)) pgs_nil))) (pss_one (ps_if (pt_cmpR op_gt (pv 2) (pv 3) (nomark _)) (pss_one (ps_ret pe_bl)) pss_nil)))
      (pss_one (ps_ret pe_bl))), ?_⟩
  refine e_for (ei_zipTT (Ls.nil _) (ed_var rfl d0) (ed_var rfl d1)) (fun H2 i σ' Ha => Ex H2 Ha ∧ (∃ y z, σ' = [some v0, some v1, y, z]) ∧ ∀ j, j < i → ∀ x y, a[j]? = some x → b[j]? = some y → x ≤ y) (fun H2 e2 => ⟨Ex.refl _, ⟨none, none, rfl⟩, fun j hj => absurd hj (by omega)⟩) (fun H2 i σ' Ha _ p => Xp.of_ex p.1) ?_ ?_
  · rintro H2 i d y σ' Ha Hb e2 hd1 ⟨p1, ⟨z1, z2, rfl⟩, p3⟩ e3 hd2
    obtain ⟨n, m, g1, g2, rfl⟩ := pairs_get hd1
    refine g_two hd2 fun w1 w2 u1 u2 => ?_
    cases u1
    cases u2
    refine s_when (b := decide (m < n)) (et_test (ev_op (ev_var rfl) (ev_var rfl) rv_I0)) (fun hb H3 e4 => ?_) fun hb H3 e4 => ⟨(p1.trans e3).trans e4, ⟨_, _, rfl⟩, fun j hj x y q1 q2 => ?_⟩
    · have no := blw_no g1 g2 (by have := of_decide_eq_true hb; omega)
      rw [no] at k
      exact d_ret (ed_bool ev_c) fun v H4 e5 hv => k v H4 (((e2.trans (p1.trans e3)).trans e4).trans e5) hv
    · by_cases ej : j = i
      · subst ej
        rw [g1] at q1
        rw [g2] at q2
        cases q1
        cases q2
        have := of_decide_eq_false hb
        omega
      · exact p3 j (by omega) x y q1 q2
  · rintro H2 σ' Ha e2 ⟨p1, ⟨z1, z2, rfl⟩, p3⟩
    have yes : blw a b = true := blw_yes fun i x y q1 q2 => p3 i (by
      rw [List.length_zipWith]
      have l1 := (List.getElem?_eq_some_iff.mp q1).1
      have l2 := (List.getElem?_eq_some_iff.mp q2).1
      omega) x y q1 q2
    rw [yes] at k
    exact d_ret (ed_bool ev_c) fun v H4 e5 hv => k v H4 ((e2.trans p1).trans e5) hv

end
end K16
set_option Elab.async false
set_option linter.all false
set_option maxRecDepth 100000
set_option maxHeartbeats 4000000
namespace K16
open PySem PySem.Spec PyProof.Rows L2 Evl DL
local macro_rules | `(tactic| walk_at "dl") => `(tactic| first
  | exact ev_c | exact ev_var rfl | exact eda_nil
  | exact ed_var rfl (by assumption)
  | exact ed_int ev_c | exact ed_int (ev_var rfl)
  | (refine eda_cons ?_ ?_ <;> walk_at "dl")
  | (refine ed_int ?_; walk_at "dl")
  | (refine ev_op ?_ ?_ rv_I0 <;> walk_at "dl"))

section
variable {K : PySem.W.Frag} {σ : L2.St} {H : Hp} {ta tb te : TE} {d : PyData}
/-- xs.append((e, x)) -/
theorem app_pair {D : Ends} {l : Addr} {xs : List V} {v : V} {i k : Nat} (hl : H l = some (.lst xs)) (ha : σ[i]? = some (some (.ref l))) (h : EvD K te σ H d) (hv : σ[k]? = some (some v)) (hz : xs.length < 100000)
    (q : ∀ T a H1, Ex H H1 → H T = none → H1 T = some (.tup [a, v]) → Dp K H1 a d → D.nx σ (upd H1 l (.lst (xs ++ [.ref T])))) :
    tDrop (tBM K "list" rAppend (tVar i) (tCons (tTup (tCons te (tCons (tVar k) tNil))) tNil)) D σ H :=
  ⟨_, ha, Or.inl ⟨rfl, xs, sq_of hl⟩, h H (Ex.refl _) _ fun a H1 e1 hd => ⟨v, hv, by show 2 ≤ sizeLine; decide, fun T hT => ⟨l, xs, .ref T, rfl, rfl, Ex.new hT _ _ (e1 _ _ hl), sz_lt hz,
    q T a _ (e1.trans (Ex.new hT)) (fresh_back e1 hT) upd_same (dp_ex (Ex.new hT) _ _ hd)⟩⟩⟩
theorem et_lstV {k : Nat} {l : Addr} {xs : List V} (h : σ[k]? = some (some (.ref l))) (hl : H l = some (.lst xs)) : EvT (fun σ H Q => tVar k σ H fun x H' => ∃ k, TruV K x H' k ∧ Q k H') σ H (!xs.isEmpty) := fun H1 e Q q =>
  ⟨_, h, _, .inl ⟨xs, sq_of (e _ _ hl), rfl⟩, q H1 (Ex.refl _)⟩
end
section
variable {P : Program} {w : World} {K : PySem.W.Frag} {mg : Str → Option Value} {base : Heap}
theorem xp_fresh2 {p r : Addr} {H H2 Ha : Hp} (e : Ex H H2) (hp : H p = none) (hr : H r = none) (x : Xp [p, r] H2 Ha) : Ex H Ha := fun a o ho => x a o (e a o ho) (fun hm => by
  rcases (by simpa using hm : a = p ∨ a = r) with rfl | rfl
  · rw [hp] at ho; cases ho
  · rw [hr] at ho; cases ho)
theorem gpair {T : Addr} {v1 v2 : V} {σ : L2.St} {H : Hp} {i j : Nat} {Q : L2.St → Hp → Prop} (h : SqT K H T [v1, v2]) (q : Q ((σ.set i (some v1)).set j (some v2)) H) : gTup K 2 (gCons (gName i) (gCons (gName j) gNil)) (.ref T) σ H Q :=
  ⟨T, [v1, v2], rfl, h, rfl, v1, [v2], rfl, v2, [], rfl, rfl, q⟩
abbrev LS := List (List Int × List Int) × List (List Int)
def subr (rm : List Int) (q : Int × Int) (n : Int) : List Int := (rm.set q.1.toNat (rm.getD q.1.toNat 0 - n)).set q.2.toNat ((rm.set q.1.toNat (rm.getD q.1.toNat 0 - n)).getD q.2.toNat 0 - n)
def lnew (s : Int) (l rm : List Int) : List (List Int × List Int) :=
  (List.range (min (rm.getD ((prs s).getD l.length (0, 0)).1.toNat 0) (rm.getD ((prs s).getD l.length (0, 0)).2.toNat 0) - -1).toNat).map fun (i : Nat) =>
    (l ++ [min (rm.getD ((prs s).getD l.length (0, 0)).1.toNat 0) (rm.getD ((prs s).getD l.length (0, 0)).2.toNat 0) - (i : Int)],
      subr rm ((prs s).getD l.length (0, 0)) (min (rm.getD ((prs s).getD l.length (0, 0)).1.toNat 0) (rm.getD ((prs s).getD l.length (0, 0)).2.toNat 0) - (i : Int)))
def lstep (s : Int) (st : LS) : LS := match st.1.getLast? with
  | none => st
  | some (l, rm) => if l.length = np s then (st.1.dropLast, st.2 ++ [l]) else (st.1.dropLast ++ lnew s l rm, st.2)
def liter (s t : Int) : Nat → LS
  | 0 => ([([], List.replicate s.toNat t)], [])
  | n + 1 => lstep s (liter s t n)
def LL (s t : Int) : List (List Int) := (liter s t 1000).2
structure Good (s : Int) (n : Nat) (st : LS) : Prop where
  its : ∀ q ∈ st.1, q.1.length ≤ np s ∧ q.2.length = s.toNat ∧ ∀ i : Nat, 0 ≤ q.2.getD i 0 ∧ q.2.getD i 0 ≤ 2
  l1 : st.1.length ≤ 1 + 3 * n
  l2 : st.2.length ≤ n
theorem getD_set {l : List Int} {i j : Nat} {v : Int} (h : i < l.length) : (l.set i v).getD j 0 = if j = i then v else l.getD j 0 := by
  rw [List.getD_eq_getElem?_getD, List.getD_eq_getElem?_getD, List.getElem?_set]
  by_cases e : j = i
  · subst e; simp [h]
  · rw [if_neg (Ne.symm e), if_neg e]
theorem prs_get {s : Int} (h1 : 2 ≤ s) (h2 : s ≤ 5) {k : Nat} (h : k < np s) : (prs s)[k]? = some ((prs s).getD k (0, 0)) ∧ 0 ≤ ((prs s).getD k (0, 0)).1 ∧ ((prs s).getD k (0, 0)).1 < ((prs s).getD k (0, 0)).2 ∧ ((prs s).getD k (0, 0)).2 < s := by
  have h' : k < (prs s).length := h
  have e : (prs s)[k]? = some ((prs s).getD k (0, 0)) := by rw [List.getD_eq_getElem?_getD, List.getElem?_eq_getElem h']; rfl
  exact ⟨e, prs_in (by omega) h2 (List.mem_of_getElem? e)⟩
theorem good_step {s : Int} (h1 : 2 ≤ s) (h2 : s ≤ 5) {n : Nat} {st : LS} (g : Good s n st) : Good s (n + 1) (lstep s st) := by
  have gl1 := g.l1
  have gl2 := g.l2
  unfold lstep
  cases hlast : st.1.getLast? with
  | none => exact (show Good s (n + 1) st from ⟨g.its, by omega, by omega⟩)
  | some q =>
    obtain ⟨l, rm⟩ := q
    have hm : (l, rm) ∈ st.1 := List.mem_of_getLast? hlast
    obtain ⟨g1, g2, g3⟩ := g.its _ hm
    have g1 : l.length ≤ np s := g1
    have g2 : rm.length = s.toNat := g2
    have g3 : ∀ i : Nat, 0 ≤ rm.getD i 0 ∧ rm.getD i 0 ≤ 2 := g3
    have dl : st.1.dropLast.length = st.1.length - 1 := List.length_dropLast
    show Good s (n + 1) (if l.length = np s then _ else _)
    split
    · exact ⟨fun q hq => g.its q (List.dropLast_subset _ hq), by show st.1.dropLast.length ≤ _; omega, by show (st.2 ++ [l]).length ≤ _; rw [List.length_append, List.length_singleton]; omega⟩
    · rename_i hne
      have hlt : l.length < np s := by omega
      obtain ⟨_, p1, p2, p3⟩ := prs_get h1 h2 hlt
      have ga := g3 ((prs s).getD l.length (0, 0)).1.toNat
      have gb := g3 ((prs s).getD l.length (0, 0)).2.toNat
      refine ⟨fun q hq => ?_, ?_, by show st.2.length ≤ _; omega⟩
      · rcases List.mem_append.mp hq with hq | hq
        · exact g.its q (List.dropLast_subset _ hq)
        · obtain ⟨i, hi, rfl⟩ := List.mem_map.mp hq
          have hi := List.mem_range.mp hi
          have sl : ∀ n, (subr rm ((prs s).getD l.length (0, 0)) n).length = rm.length := fun n => by simp [subr]
          refine ⟨by show (l ++ [_]).length ≤ _; rw [List.length_append, List.length_singleton]; omega, by rw [sl]; exact g2, fun j => ?_⟩
          have gj := g3 j
          show 0 ≤ (subr rm _ _).getD j 0 ∧ _
          unfold subr
          rw [getD_set (by rw [List.length_set]; omega), getD_set (by omega), getD_set (by omega)]
          have ne : ¬ ((prs s).getD l.length (0, 0)).2.toNat = ((prs s).getD l.length (0, 0)).1.toNat := by omega
          rw [if_neg ne]
          split
          · omega
          · split <;> omega
      · show (st.1.dropLast ++ lnew s l rm).length ≤ _
        rw [List.length_append, dl, lnew, List.length_map, List.length_range]
        omega
theorem good_iter {s t : Int} (h1 : 2 ≤ s) (h2 : s ≤ 5) (h3 : 0 ≤ t) (h4 : t ≤ 2) : ∀ n, Good s n (liter s t n)
  | 0 => ⟨fun q hq => by
      have e : q = ([], List.replicate s.toNat t) := by simpa [liter] using hq
      subst e
      refine ⟨by simp, by simp, fun i => ?_⟩
      show 0 ≤ (List.replicate s.toNat t).getD i 0 ∧ (List.replicate s.toNat t).getD i 0 ≤ 2
      rw [List.getD_eq_getElem?_getD, List.getElem?_replicate]
      split
      · exact ⟨h3, h4⟩
      · exact ⟨Int.le_refl _, by decide⟩, by simp [liter], by simp [liter]⟩
  | n + 1 => good_step h1 h2 (good_iter h1 h2 h3 h4 n)
theorem liter_stop {s t : Int} {n : Nat} (h : (liter s t n).1 = []) : ∀ k, liter s t (n + k) = liter s t n
  | 0 => rfl
  | k + 1 => by
    show lstep s (liter s t (n + k)) = _
    rw [liter_stop h k]
    unfold lstep
    rw [h]
    rfl
/-- an item of rest: (load, room) -/
def Itm (K : PySem.W.Frag) (p r : Addr) (H : Hp) (v : V) (q : List Int × List Int) : Prop := ∃ T a b, v = .ref T ∧ H T = some (.tup [a, .ref b]) ∧ Dp K H a (tI q.1) ∧ H b = some (.lst (q.2.map V.int)) ∧ b ≠ p ∧ b ≠ r
theorem itm_ex {p r : Addr} {H H' : Hp} {v : V} {q : List Int × List Int} (e : Ex H H') (h : Itm K p r H v q) : Itm K p r H' v q := by
  obtain ⟨T, a, b, rfl, h1, h2, h3, h4, h5⟩ := h
  exact ⟨T, a, b, rfl, e _ _ h1, dp_ex e _ _ h2, e _ _ h3, h4, h5⟩
/-- found or rest itself changes -/
theorem itm_upd {p r c : Addr} {H : Hp} {o : List V} {u : HO} {v : V} {q : List Int × List Int} (hc : H c = some (.lst o)) (hn : c = p ∨ c = r) (h : Itm K p r H v q) : Itm K p r (L2.upd H c u) v q := by
  obtain ⟨T, a, b, rfl, h1, h2, h3, h4, h5⟩ := h
  refine ⟨T, a, b, rfl, ?_, dp_tx (Tx.lst hc) _ _ (imm_tI _) h2, ?_, h4, h5⟩
  · rw [upd_ne (ne_of h1 hc (fun z => nomatch z))]
    exact h1
  · rw [upd_ne (by rcases hn with rfl | rfl <;> assumption)]
    exact h3
theorem itms_ex {p r : Addr} {H H' : Hp} {vs : List V} {m : List (List Int × List Int)} (e : Ex H H') (h : Paired (Itm K p r H) vs m) : Paired (Itm K p r H') vs m := by
  induction h with
  | nil => exact .nil
  | cons a _ ih => exact .cons (itm_ex e a) ih
theorem itms_upd {p r c : Addr} {H : Hp} {o : List V} {u : HO} {vs : List V} {m : List (List Int × List Int)} (hc : H c = some (.lst o)) (hn : c = p ∨ c = r) (h : Paired (Itm K p r H) vs m) : Paired (Itm K p r (L2.upd H c u)) vs m := by
  induction h with
  | nil => exact .nil
  | cons a _ ih => exact .cons (itm_upd hc hn a) ih
def R_let_loads (ds : List PyData) (r : List PyData) : Prop := ∃ s t : Int, ds = [.int s, .int t, .int 20000] ∧ 2 ≤ s ∧ s ≤ 5 ∧ 0 ≤ t ∧ t ≤ 2 ∧ (liter s t 1000).1 = [] ∧ r = (LL s t).map tI
/-- the loop's word at the n-th turn -/
def LW (K : PySem.W.Frag) (s t : Int) (pq p r : Addr) (Hs : Hp) (n : Nat) (σ : L2.St) (Ha : Hp) : Prop :=
  Xp [p, r] Hs Ha ∧ (∃ ws, Ha r = some (.lst ws) ∧ Paired (Itm K p r Ha) ws (liter s t n).1) ∧ (∃ vs, Ha p = some (.lst vs) ∧ DpAll K Ha vs ((liter s t n).2.map tI)) ∧
  ∃ a b c d e f, σ = [some (.int s), some (.int t), some (.int 20000), some (.ref pq), some (.ref p), some (.ref r), a, b, c, d, e, f]
theorem paired_last {α β : Type} {F : α → β → Prop} {l : List α} {m : List β} {y : β} (h : Paired F l m) (e : m.getLast? = some y) : ∃ x, l[l.length - 1]? = some x ∧ F x y ∧ Paired F l.dropLast m.dropLast := by
  have hl := Paired.length h
  rw [List.getLast?_eq_getElem?] at e
  have get : ∀ {l : List α} {m : List β} {i : Nat} {b : β}, Paired F l m → m[i]? = some b → ∃ a, l[i]? = some a ∧ F a b := by
    intro l m i b hh
    induction hh generalizing i with
    | nil => intro e; simp at e
    | cons h _ ih =>
      intro e
      cases i with
      | zero => exact ⟨_, rfl, by simp at e; subst e; exact h⟩
      | succ i => exact ih (by simpa using e)
  obtain ⟨x, hx, hf⟩ := get h e
  refine ⟨x, by rw [hl]; exact hx, hf, ?_⟩
  have dl : ∀ {l : List α} {m : List β}, Paired F l m → Paired F l.dropLast m.dropLast := by
    intro l m hh
    induction hh with
    | nil => exact .nil
    | @cons a b as bs h t ih =>
      cases t with
      | nil => exact .nil
      | cons h2 t2 => exact .cons h ih
  exact dl h
theorem paired_app {α β : Type} {F : α → β → Prop} : ∀ {l : List α} {m : List β} {l2 : List α} {m2 : List β}, Paired F l m → Paired F l2 m2 → Paired F (l ++ l2) (m ++ m2)
  | _, _, _, _, .nil, h => h
  | _, _, _, _, .cons a t, h => .cons a (paired_app t h)
abbrev s_let_loads : Stmt := topS 38
abbrev N_let_loads : List Str := ["sides", "tracks", "most", "pairs", "found", "rest", "load", "room", "side", "far", "number", "left"]
theorem sc_let_loads : FnScope N_let_loads ["sides", "tracks", "most"] (defScope s_let_loads) := ⟨rfl, rfl, rfl, by decide +kernel, rfl, by decide +kernel, by decide +kernel⟩
theorem ok_let_loads {f : Addr} {fd : FuncData} (F : Fun K "let_loads" "let_loads" s_let_loads f fd) (T : Txt mg)
    (D_side_pairs : DF P w K mg base "side_pairs" 1 ["sides"] (spN K 1 R_side_pairs))  :
    FnOk P w K mg base CX0 2 f fd ["sides", "tracks", "most"] (spN K 3 R_let_loads) := by
  refine F.ok sc_let_loads (fun vs H Q E h => spN_len h) (fun cdv A outer s H vs Q E hr h => ?_)
  obtain ⟨ds, r, hd, _, ⟨x, t, rfl, h1, h2, h3, h4, h5, rfl⟩, k⟩ := h
  obtain rfl := dpa_ints (l := [x, t, 20000]) hd
  refine ⟨_, (pss_cons (ps_set (i := 3) sc_let_loads.nd rfl (.inl rfl) (pe_D D_side_pairs (hr.mono (by decide)) (by rfl) (pa_cons (pv 0) pa_nil)))
      (pss_cons (ps_set (i := 4) sc_let_loads.nd rfl (.inl rfl) (pe_lst pa_nil))
      (pss_cons (ps_set (i := 5) sc_let_loads.nd rfl (.inl rfl) (pe_lst (pa_cons (pe_tup (pa_cons (pe_tup pa_nil) (pa_cons (pe_op op_rep (pe_lst (pa_cons (pv 1) pa_nil)) (pv 0)) pa_nil))) pa_nil)))
      (pss_cons (ps_while PassesOwn.never (pt_truth (pv 5) (by intro _; rfl)) (pss_cons (ps_asg (pe_bm0 PySem.F.plainAttrs_list PySem.F.slot_list_pop PySem.F.type_list_pop mt_pop (pv 5)) (pg_tup rfl (pgs_cons (pg_name (i := 6) sc_let_loads.nd rfl (Or.inl rfl)) (pgs_cons (pg_name (i := 7) sc_let_loads.nd rfl (Or.inl rfl)) pgs_nil))))
      (pss_cons (ps_if (pt_cmpR op_eq (pe_callB call_len_seq (by rfl) T.b_len PySem.boot_len (pa_cons (pv 6) pa_nil)) (pe_callB call_len_seq (by rfl) T.b_len PySem.boot_len (pa_cons (pv 3) pa_nil)) (nomark _)) (pss_cons (ps_expr (pe_bm PySem.F.plainAttrs_list PySem.F.slot_list_append PySem.F.type_list_append mt_append (pv 4) (pa_cons (pv 6) pa_nil)))
      (pss_cons (ps_if (pt_cmpR op_gt (pe_callB call_len_seq (by rfl) T.b_len PySem.boot_len (pa_cons (pv 4) pa_nil)) (pv 2) (nomark _)) (pss_one ps_never) pss_nil)
      (pss_one ps_continue))) pss_nil)
      (pss_cons (ps_asg (pe_ix ix_list (pv 3) (pe_callB call_len_seq (by rfl) T.b_len PySem.boot_len (pa_cons (pv 6) pa_nil)) (fun _ _ => rfl)) (pg_tup rfl (pgs_cons (pg_name (i := 8) sc_let_loads.nd rfl (Or.inl rfl)) (pgs_cons (pg_name (i := 9) sc_let_loads.nd rfl (Or.inl rfl)) pgs_nil))))
      (pss_one (ps_for PassesOwn.never rfl (pi_range3 (by rfl) T.b_range (pa_cons (pe_callB (call_min2 rfl) (by rfl) T.b_min (by decide +kernel) (pa_cons (pe_ix ix_list (pv 7) (pv 8) (fun _ _ => rfl)) (pa_cons (pe_ix ix_list (pv 7) (pv 9) (fun _ _ => rfl)) pa_nil))) (pa_cons (pe_un un_neg pe_int) (pa_cons (pe_un un_neg pe_int) pa_nil)))) (pg_name (i := 10) sc_let_loads.nd rfl (Or.inl rfl)) (pss_cons (ps_set (i := 11) sc_let_loads.nd rfl (.inl rfl) (pe_callTy call_list_of (by rfl) T.b_list (by decide +kernel) (pa_cons (pv 7) pa_nil)))
      (pss_cons (ps_augS (pv 11) (pv 8) get_list (pv 10) ip_sub set_list)
      (pss_cons (ps_augS (pv 11) (pv 9) get_list (pv 10) ip_sub set_list)
      (pss_one (ps_expr (pe_bm PySem.F.plainAttrs_list PySem.F.slot_list_append PySem.F.type_list_append mt_append (pv 5) (pa_cons (pe_tup (pa_cons (pe_op op_catA (pv 6) (pe_tup (pa_cons (pv 10) pa_nil))) (pa_cons (pv 11) pa_nil))) pa_nil)))))))))))))
      (pss_one (ps_ret (pv 4))))))), ?_⟩
  refine qn_asg (K := K) (en_call (R := R_side_pairs) (ds := [.int x]) (by walk_at "dl") rfl ⟨x, rfl, by omega, h2, rfl⟩) fun pq wq H1 hpq e1 h1' hd1 => ?_
  refine qn_asg (K := K) (en_lst eda_nil (by simp)) fun p vs H2 hp e2 h2' hd2 => ?_
  cases hd2
  refine ⟨by show 0 ≤ sizeLine; decide, fun a0 ha0 => ?_⟩
  refine en_rep (K := K) (σ := [some (.int x), some (.int t), some (.int 20000), some (.ref pq), some (.ref p), none, none, none, none, none, none, none]) (d := .int t) (EvN.toQ (en_lst (eda_cons (ed_int (ev_var rfl)) eda_nil) (by simp))) (ev_var rfl) (by omega) (by omega) _ (Ex.refl _) _ fun b wb H4 hb e4 h4' hd4 => ?_
  refine ⟨by show 2 ≤ sizeLine; decide, fun T0 hT0 => ⟨by show 1 ≤ sizeLine; decide, fun r hr0 => ?_⟩⟩
  have e24 : Ex H2 H4 := (Ex.new ha0).trans e4
  have e25 : Ex H2 (upd (upd H4 T0 (.tup [.ref a0, .ref b])) r (.lst [.ref T0])) := (e24.trans (Ex.new hT0)).trans (Ex.new hr0)
  have hpq1 : H1 pq ≠ none := by rw [h1']; simp
  have npp : pq ≠ p := fun z => by rw [z] at hpq1; exact hpq1 hp
  have h2p : H2 p ≠ none := by rw [h2']; simp
  have hpT : p ≠ T0 := fun z => h2p (fresh_back e24 (z ▸ hT0))
  have hpr : p ≠ r := fun z => h2p (fresh_back (e24.trans (Ex.new hT0)) (z ▸ hr0))
  have nqr : pq ≠ r := fun z => hpq1 (fresh_back ((e2.trans e24).trans (Ex.new hT0)) (z ▸ hr0))
  have hbr : b ≠ r := fun z => by
    have q := Ex.new hT0 (o := .tup [.ref a0, .ref b]) b _ h4'
    have z2 := hr0
    rw [← z, q] at z2
    cases z2
  have hrn : H r = none := fresh_back ((e1.trans e2).trans (e24.trans (Ex.new hT0))) hr0
  have hbp : b ≠ p := fun z => by
    have q := (Ex.new ha0 (o := .tup [])) p _ h2'
    rw [← z, hb] at q
    cases q
  have hab : upd H2 a0 (.tup []) a0 = some (.tup []) := upd_same
  generalize hHs : upd (upd H4 T0 (.tup [.ref a0, .ref b])) r (.lst [.ref T0]) = Hs at e25 ⊢
  have e4s : Ex H4 Hs := hHs ▸ (Ex.new hT0).trans (Ex.new hr0)
  have hsr : Hs r = some (.lst [.ref T0]) := by rw [← hHs]; exact upd_same
  have hsT : Hs T0 = some (.tup [.ref a0, .ref b]) := by
    rw [← hHs, upd_ne (fun z => by rw [← z, upd_same] at hr0; cases hr0)]
    exact upd_same
  have hspq : Hs pq = some (.lst wq) := e25 _ _ (e2 _ _ h1')
  have dpq : DpAll K Hs wq ((prs x).map pD) := dpa_ex (e2.trans e25) _ _ hd1
  have ipq : immAll ((prs x).map pD) = true := immAll_map (fun _ => imm_tI _) _
  have lsS : Ls Hs [p, r] := Ls.cons (e25 _ _ h2') (Ls.one hsr)
  have hb' : DpAll K Hs wb (dI (List.replicate x.toNat t)) := by
    rw [dI, List.map_replicate]
    exact dpa_ex e4s _ _ hd4
  rw [dpa_ints hb'] at h4'
  have w0 : LW K x t pq p r Hs 0 [some (.int x), some (.int t), some (.int 20000), some (.ref pq), some (.ref p), some (.ref r), none, none, none, none, none, none] Hs :=
    ⟨Xp.refl _ _, ⟨_, hsr, .cons ⟨T0, .ref a0, b, rfl, hsT, .tup (st_of (e4s _ _ (e4 _ _ hab))) .nil, e4s _ _ h4', hbp, hbr⟩ .nil⟩, ⟨[], e25 _ _ h2', .nil⟩, none, none, none, none, none, none, rfl⟩
  have lnp : ∀ {l : List Int}, ((dI l).length : Int) = (l.length : Int) := fun {l} => by rw [dI, List.length_map]
  refine ⟨fun m σ' Ha => ∃ n, m = 1000 - n ∧ n ≤ 1000 ∧ LW K x t pq p r Hs n σ' Ha, ⟨_, 0, rfl, by decide, w0⟩, ?_⟩
  rintro m σ' Ha ⟨n, rfl, hn, xp, ⟨ws, hrw, pws⟩, ⟨vs, hpv, dvs⟩, a, b, c, d, e, f, rfl⟩
  have gd := good_iter h1 h2 h3 h4 n
  refine et_lstV (K := K) rfl hrw Ha (Ex.refl _) _ fun Hb eb => ?_
  have hrw := eb _ _ hrw
  have hpv := eb _ _ hpv
  have dvs := dpa_ex eb _ _ dvs
  have pws := itms_ex eb pws
  have xp := xp.then eb
  cases hlast : (liter x t n).1.getLast? with
  | none =>
    have em : (liter x t n).1 = [] := List.getLast?_eq_none_iff.mp hlast
    have lw := Paired.length pws
    rw [em] at lw
    have wn : ws = [] := List.eq_nil_of_length_eq_zero lw
    subst wn
    show tRet (tVar 4) _ _ _
    have el : liter x t 1000 = liter x t n := by
      have := liter_stop em (1000 - n)
      rwa [show n + (1000 - n) = 1000 by omega] at this
    refine ⟨.ref p, rfl, k p vs Hb (fresh_back e1 hp) (xp_fresh2 ((e1.trans e2).trans e25) (fresh_back e1 hp) hrn xp) hpv ?_⟩
    rw [LL, el]
    exact dvs
  | some q =>
    obtain ⟨l, rm⟩ := q
    have hm : (l, rm) ∈ (liter x t n).1 := List.mem_of_getLast? hlast
    obtain ⟨g1, g2, g3⟩ := gd.its _ hm
    have g1 : l.length ≤ np x := g1
    have g2 : rm.length = x.toNat := g2
    have g3 : ∀ i : Nat, 0 ≤ rm.getD i 0 ∧ rm.getD i 0 ≤ 2 := g3
    have gl1 := gd.l1
    have gl2 := gd.l2
    obtain ⟨y, hy, ⟨T, va, b, rfl, hT, da, hbl, nbp, nbr⟩, pd⟩ := paired_last pws hlast
    have lw := Paired.length pws
    have n0 : (liter x t n).1 ≠ [] := fun z => by rw [z] at hm; cases hm
    have hlt : n < 1000 := by
      by_cases hne : n = 1000
      · subst hne
        exact absurd h5 n0
      · omega
    have wne : ws ≠ [] := fun z => by
      rw [z] at lw
      exact n0 (List.eq_nil_of_length_eq_zero lw.symm)
    have tst : (!ws.isEmpty) = true := by cases ws with | nil => exact absurd rfl wne | cons _ _ => rfl
    rw [if_pos tst]
    refine ⟨LW K x t pq p r Hs (n + 1), fun σ2 H2 z => ⟨1000 - (n + 1), by omega, n + 1, rfl, by omega, z⟩, ?_⟩
    have lst1 : liter x t (n + 1) = if l.length = np x then ((liter x t n).1.dropLast, (liter x t n).2 ++ [l]) else ((liter x t n).1.dropLast ++ lnew x l rm, (liter x t n).2) := by
      show lstep x (liter x t n) = _
      unfold lstep
      rw [hlast]
    refine ⟨.ref r, rfl, Or.inl ⟨rfl, ws, sq_of hrw⟩, r, ws, .ref T, rfl, rfl, hrw, hy, ?_⟩
    have rT : T ≠ r := ne_of hT hrw (fun z => nomatch z)
    refine gpair (K := K) (st_of (by rw [upd_ne rT]; exact hT)) ?_
    have pd := itms_upd (u := .lst ws.dropLast) hrw (Or.inr rfl) pd
    have tx1 : Tx Hb (upd Hb r (.lst ws.dropLast)) := Tx.lst hrw
    have dvs := dpa_tx tx1 _ _ (immAll_tI _) dvs
    have da := dp_tx tx1 _ _ (imm_tI _) da
    have xp : Xp [p, r] Hs (upd Hb r (.lst ws.dropLast)) := Xp.upd xp (by simp)
    have hbl : upd Hb r (.lst ws.dropLast) b = some (.lst (rm.map V.int)) := by rw [upd_ne nbr]; exact hbl
    have hpv : upd Hb r (.lst ws.dropLast) p = some (.lst vs) := by rw [upd_ne hpr]; exact hpv
    have hrw' : upd Hb r (.lst ws.dropLast) r = some (.lst ws.dropLast) := upd_same
    clear hrw hT hy
    generalize upd Hb r (.lst ws.dropLast) = Hc at *
    have hcq : Hc pq = some (.lst wq) := xp _ _ hspq (by simp [npp, nqr])
    have dcq : DpAll K Hc wq ((prs x).map pD) := dpa_tx (xp.tx lsS) _ _ ipq dpq
    show tSeq _ _ _ [some (.int x), some (.int t), some (.int 20000), some (.ref pq), some (.ref p), some (.ref r), some va, some (.ref b), c, d, e, f] Hc
    refine q_when (b := decide (l.length = np x)) (et_test (ev_is (ev_op (ev_lenT (ed_var (K := K) rfl da)) (ev_lenL (K := K) (ds := (prs x).map pD) (ed_var rfl (.lst (sq_of hcq) dcq))) (rv_eq rfl)) ?_)) (fun hb Hd ed => ?_) fun hb Hd ed => ?_
    · congr 1
      rw [decide_vint, lnp, List.length_map]
      exact decide_eq_decide.mpr ⟨fun h => Int.ofNat.inj h, fun h => congrArg Nat.cast h⟩
    · have hb := of_decide_eq_true hb
      rw [if_pos hb] at lst1
      have lv := dpa_len dvs
      rw [List.length_map] at lv
      refine qd_app (K := K) (d := tI l) (ed _ _ hpv) (ev_var rfl) (ed_var rfl (dp_ex ed _ _ da)) (by omega) fun v He ee hv => ?_
      have hpe : He p = some (.lst vs) := ee _ _ (ed _ _ hpv)
      have dn : DpAll K (upd He p (.lst (vs ++ [v]))) (vs ++ [v]) (((liter x t n).2 ++ [l]).map tI) := by
        rw [List.map_append]
        exact dpa_app (dpa_tx (Tx.lst hpe) _ _ (immAll_tI _) (dpa_ex (ed.trans ee) _ _ dvs)) (.cons (dp_tx (Tx.lst hpe) _ _ (imm_tI _) hv) .nil)
      refine q_when (b := false) (et_test (ev_is (ev_op (ev_lenL (K := K) (ed_var rfl (.lst (sq_of upd_same) dn))) (ev_var rfl) rv_I0) ?_)) (fun h => nomatch h) fun _ Hf ef => ?_
      · rw [List.length_map, List.length_append, List.length_singleton]
        congr 1
        exact decide_eq_false (by omega)
      show LW K x t pq p r Hs (n + 1) _ Hf
      refine ⟨(Xp.upd (xp.then (ed.trans ee)) (by simp)).then ef, ⟨ws.dropLast, ef _ _ ?_, ?_⟩, ⟨vs ++ [v], ef _ _ upd_same, ?_⟩, _, _, _, _, _, _, rfl⟩
      · rw [upd_ne (Ne.symm hpr)]
        exact ee _ _ (ed _ _ hrw')
      · rw [lst1]
        exact itms_ex ef (itms_upd hpe (Or.inl rfl) (itms_ex (ed.trans ee) pd))
      · rw [lst1]
        exact dpa_ex ef _ _ dn
    · have hb := of_decide_eq_false hb
      rw [if_neg hb] at lst1
      have hll : l.length < np x := by omega
      obtain ⟨pe, p1, p2, p3⟩ := prs_get h1 h2 hll
      unfold lnew at lst1
      generalize (prs x).getD l.length (0, 0) = q at *
      obtain ⟨q1, q2⟩ := q
      have p1 : 0 ≤ q1 := p1
      have p2 : q1 < q2 := p2
      have p3 : q2 < x := p3
      obtain ⟨qa, rfl⟩ := Int.eq_ofNat_of_zero_le p1
      obtain ⟨qb, rfl⟩ := Int.eq_ofNat_of_zero_le (by omega : 0 ≤ q2)
      have ga := g3 qa
      have gb := g3 qb
      have hcq := ed _ _ hcq
      have dcq := dpa_ex ed _ _ dcq
      refine qd_unp2 (K := K) (d1 := .int (qa : Int)) (d2 := .int (qb : Int)) (ed_ixL (K := K) (ds := (prs x).map pD) (k := l.length) (ed_var rfl (.lst (sq_of hcq) dcq)) (ev_is (ev_lenT (ed_var (K := K) rfl (dp_ex ed _ _ da))) (by rw [lnp])) (by rw [List.getElem?_map, pe]; rfl)) fun v1 v2 He ee hv1 hv2 => ?_
      cases dp_int hv1
      cases dp_int hv2
      have ece := ed.trans ee
      have da := dp_ex ece _ _ da
      have hbl := ece _ _ hbl
      have hpv := ece _ _ hpv
      have dvs := dpa_ex ece _ _ dvs
      have hrw' := ece _ _ hrw'
      have pd := itms_ex ece pd
      have xp := xp.then ece
      have lrm : (rm.map V.int).length = x.toNat := by rw [List.length_map, g2]
      have at_ : ∀ j : Nat, j < x.toNat → atI (rm.map V.int) (j : Int) = some (.int (rm.getD j 0)) := fun j hj => atI_nat (by
        rw [List.getElem?_map, List.getElem?_eq_getElem (by omega), List.getD_eq_getElem?_getD, List.getElem?_eq_getElem (by omega)]
        rfl)
      show tFor _ _ _ _ [some (.int x), some (.int t), some (.int 20000), some (.ref pq), some (.ref p), some (.ref r), some va, some (.ref b), some (.int (qa : Int)), some (.int (qb : Int)), e, f] He
      generalize hmn : min (rm.getD qa 0) (rm.getD qb 0) = mn at *
      have lst1 : liter x t (n + 1) = ((liter x t n).1.dropLast ++ (List.range (mn - -1).toNat).map fun (i : Nat) => (l ++ [mn - (i : Int)], subr rm ((qa : Int), (qb : Int)) (mn - (i : Int))), (liter x t n).2) := by
        rw [lst1]
        show (_ ++ List.map _ (List.range (min (rm.getD qa 0) (rm.getD qb 0) - -1).toNat), _) = _
        rw [← hmn]
        rfl
      have dl : (liter x t n).1.dropLast.length = (liter x t n).1.length - 1 := List.length_dropLast
      refine d_for (S := [r]) (ei_rngD (K := K) (m := mn) (n := -1) (eda_cons (ed_int (ev_is (ev_min2 (ev_op (ev_var rfl) (ev_var rfl) (rv_ixL (K := K) (sq_of hbl) (at_ qa (by omega)))) (ev_op (ev_var rfl) (ev_var rfl) (rv_ixL (K := K) (sq_of hbl) (at_ qb (by omega))))) (by rw [hmn]))) (eda_cons (ed_int (ev_un ev_c ru_neg)) (eda_cons (ed_int (ev_un ev_c ru_neg)) eda_nil))) ⟨⟨by omega, by omega⟩, by decide, by decide⟩ (RgC.neg (by omega) (by omega) (by decide) (by decide)))
        (fun H2 i σ' Hx => Xp [r] H2 Hx ∧ (∃ ws', Hx r = some (.lst ws') ∧ Paired (Itm K p r Hx) ws' ((liter x t n).1.dropLast ++ (List.range i).map fun (i : Nat) => (l ++ [mn - (i : Int)], subr rm ((qa : Int), (qb : Int)) (mn - (i : Int))))) ∧ ∃ e f, σ' = [some (.int x), some (.int t), some (.int 20000), some (.ref pq), some (.ref p), some (.ref r), some va, some (.ref b), some (.int (qa : Int)), some (.int (qb : Int)), e, f])
        (fun H2 e2 => ⟨Xp.refl _ _, ⟨_, e2 _ _ hrw', by simpa using itms_ex e2 pd⟩, e, f, rfl⟩) (fun H2 i σ' Ha _ z => z.1) ?_ ?_
      · rintro Hg i d y σ' Hx Hy eg hdi ⟨xg, ⟨w2, hw2, pw2⟩, e, f, rfl⟩ ey hy
        have hil : i < (mn - -1).toNat := by simpa using (List.getElem?_eq_some_iff.mp hdi).1
        rw [rng_get hil] at hdi
        cases hdi
        cases dp_int hy
        have byG : ∀ a o, He a = some o → a ≠ r → Hy a = some o := fun a o h n => ey _ _ (xg _ _ (eg _ _ h) (by simpa using n))
        have txg : Tx He Hy := (Tx.of_ex eg).trans ((xg.tx (Ls.one (eg _ _ hrw'))).trans (Tx.of_ex ey))
        have hbl' := byG _ _ hbl nbr
        have da' := dp_tx txg _ _ (imm_tI _) da
        have hpy := byG _ _ hpv hpr
        have hry := ey _ _ hw2
        refine qn_asg (K := K) (en_listOf (K := K) (ds := dI rm) (ed_var rfl (.lst (sq_of hbl') (ints_dpa rm)))) fun c wc H5 hc e5 h5 hd5 => ?_
        rw [dpa_ints hd5] at h5
        refine q_augL (K := K) (j := qa) h5 rfl rfl (by omega) (ev_var rfl) fun H6 e6 => ?_
        refine q_augL (K := K) (j := qb) (ns := rm.set qa (rm.getD qa 0 - (mn - (i : Int)))) upd_same rfl rfl (by rw [List.length_set]; omega) (ev_var rfl) fun H7 e7 => ?_
        have x7 : Ex Hy H7 := (Ex.mut (e5.trans e6) hc).trans e7
        have x8 := Ex.mut (o := .lst (((rm.set qa (rm.getD qa 0 - (mn - (i : Int)))).set qb ((rm.set qa (rm.getD qa 0 - (mn - (i : Int)))).getD qb 0 - (mn - (i : Int)))).map V.int)) x7 hc
        have hc8 : upd H7 c (.lst (((rm.set qa (rm.getD qa 0 - (mn - (i : Int)))).set qb ((rm.set qa (rm.getD qa 0 - (mn - (i : Int)))).getD qb 0 - (mn - (i : Int)))).map V.int)) c = _ := upd_same
        generalize upd H7 c (.lst (((rm.set qa (rm.getD qa 0 - (mn - (i : Int)))).set qb ((rm.set qa (rm.getD qa 0 - (mn - (i : Int)))).getD qb 0 - (mn - (i : Int)))).map V.int)) = H8 at x8 hc8 ⊢
        have ncr : c ≠ r := fun z => by rw [z, hry] at hc; cases hc
        have ncp : c ≠ p := fun z => by rw [z, hpy] at hc; cases hc
        have lw2 := Paired.length pw2
        rw [List.length_append, List.length_map, List.length_range] at lw2
        refine app_pair (K := K) (d := tI (l ++ [mn - (i : Int)])) (x8 _ _ hry) rfl (ed_is (ed_cat (ds := dI l) (es := [.int (mn - (i : Int))]) (ed_var rfl (dp_ex x8 _ _ da')) (ed_tup (eda_cons (ed_int (ev_var rfl)) eda_nil) (by simp)) ?_) ?_) rfl (by omega) fun T2 a2 H9 e9 hT2 hn2 hd2 => ?_
        · rw [List.length_map]
          have : np x ≤ 10 := by
            have : x = 2 ∨ x = 3 ∨ x = 4 ∨ x = 5 := by omega
            rcases this with rfl | rfl | rfl | rfl <;> decide
          show l.length + 1 ≤ _
          omega
        · show _ = PyData.tuple (List.map PyData.int (l ++ [mn - (i : Int)]))
          rw [List.map_append]
          rfl
        · have hr9 := e9 _ _ (x8 _ _ hry)
          refine ⟨Xp.upd (xg.then (ey.trans (x8.trans e9))) (by simp), ⟨_, upd_same, ?_⟩, _, _, rfl⟩
          rw [List.range_succ, List.map_append, ← List.append_assoc]
          refine itms_upd hr9 (Or.inr rfl) (paired_app (itms_ex (ey.trans (x8.trans e9)) pw2) (.cons ⟨T2, a2, c, rfl, hn2, hd2, ?_, ncp, ncr⟩ .nil))
          exact e9 _ _ hc8
      · rintro Hg σ' Hx eg ⟨xg, ⟨w2, hw2, pw2⟩, e, f, rfl⟩
        show LW K x t pq p r Hs (n + 1) _ Hx
        rw [List.length_map, List.length_range] at pw2
        have txg : Tx He Hx := (Tx.of_ex eg).trans (xg.tx (Ls.one (eg _ _ hrw')))
        refine ⟨(xp.then eg).trans fun a o ho hn => xg a o ho (fun z => hn (by simp at z; simp [z])), ⟨w2, hw2, by rw [lst1]; exact pw2⟩, ⟨vs, xg _ _ (eg _ _ hpv) (by simpa using hpr), by rw [lst1]; exact dpa_tx txg _ _ (immAll_tI _) dvs⟩, _, _, _, _, _, _, rfl⟩

end
end K16
set_option Elab.async false
set_option linter.all false
set_option maxRecDepth 100000
set_option maxHeartbeats 0
/-! five sides: each load that is let by an even room has a part let by 2 that leaves what the room less 2 lets; by an odd room a part let by 1 alike -/
namespace K18
/-- the parts of a load that are let by t and leave what R - t lets -/
def Prt (t R l0 l1 l2 l3 l4 l5 l6 l7 l8 l9 : Int) : Prop := ∃ p0 p1 p2 p3 p4 p5 p6 p7 p8 p9 : Int, (0 ≤ p0 ∧ 0 ≤ p1 ∧ 0 ≤ p2 ∧ 0 ≤ p3 ∧ 0 ≤ p4 ∧ 0 ≤ p5 ∧ 0 ≤ p6 ∧ 0 ≤ p7 ∧ 0 ≤ p8 ∧ 0 ≤ p9) ∧ (p0 ≤ l0 ∧ p1 ≤ l1 ∧ p2 ≤ l2 ∧ p3 ≤ l3 ∧ p4 ≤ l4 ∧ p5 ≤ l5 ∧ p6 ≤ l6 ∧ p7 ≤ l7 ∧ p8 ≤ l8 ∧ p9 ≤ l9) ∧ (p0 + p1 + p2 + p3 ≤ t ∧ p0 + p4 + p5 + p6 ≤ t ∧ p1 + p4 + p7 + p8 ≤ t ∧ p2 + p5 + p7 + p9 ≤ t ∧ p3 + p6 + p8 + p9 ≤ t) ∧ ((l0 + l1 + l2 + l3) - (p0 + p1 + p2 + p3) ≤ R - t ∧ (l0 + l4 + l5 + l6) - (p0 + p4 + p5 + p6) ≤ R - t ∧ (l1 + l4 + l7 + l8) - (p1 + p4 + p7 + p8) ≤ R - t ∧ (l2 + l5 + l7 + l9) - (p2 + p5 + p7 + p9) ≤ R - t ∧ (l3 + l6 + l8 + l9) - (p3 + p6 + p8 + p9) ≤ R - t)
theorem up0 {a b c d R : Int} (h : a + b + c + d < R) : a + 1 + b + c + d ≤ R := by omega
theorem kp0 {a b c d e S : Int} (h : (a + 1 + b + c + d) - e ≤ S) : (a + b + c + d) - e ≤ S := by omega
theorem dn0 {e f g h t : Int} (x : e + f + g + h ≤ t) : e - 1 + f + g + h ≤ t := by omega
theorem dr0 {a b c d e f g h S : Int} (x : (a + 1 + b + c + d) - (e + f + g + h) ≤ S) : (a + b + c + d) - (e - 1 + f + g + h) ≤ S := by omega
theorem up1 {a b c d R : Int} (h : a + b + c + d < R) : a + (b + 1) + c + d ≤ R := by omega
theorem kp1 {a b c d e S : Int} (h : (a + (b + 1) + c + d) - e ≤ S) : (a + b + c + d) - e ≤ S := by omega
theorem dn1 {e f g h t : Int} (x : e + f + g + h ≤ t) : e + (f - 1) + g + h ≤ t := by omega
theorem dr1 {a b c d e f g h S : Int} (x : (a + (b + 1) + c + d) - (e + f + g + h) ≤ S) : (a + b + c + d) - (e + (f - 1) + g + h) ≤ S := by omega
theorem up2 {a b c d R : Int} (h : a + b + c + d < R) : a + b + (c + 1) + d ≤ R := by omega
theorem kp2 {a b c d e S : Int} (h : (a + b + (c + 1) + d) - e ≤ S) : (a + b + c + d) - e ≤ S := by omega
theorem dn2 {e f g h t : Int} (x : e + f + g + h ≤ t) : e + f + (g - 1) + h ≤ t := by omega
theorem dr2 {a b c d e f g h S : Int} (x : (a + b + (c + 1) + d) - (e + f + g + h) ≤ S) : (a + b + c + d) - (e + f + (g - 1) + h) ≤ S := by omega
theorem up3 {a b c d R : Int} (h : a + b + c + d < R) : a + b + c + (d + 1) ≤ R := by omega
theorem kp3 {a b c d e S : Int} (h : (a + b + c + (d + 1)) - e ≤ S) : (a + b + c + d) - e ≤ S := by omega
theorem dn3 {e f g h t : Int} (x : e + f + g + h ≤ t) : e + f + g + (h - 1) ≤ t := by omega
theorem dr3 {a b c d e f g h S : Int} (x : (a + b + c + (d + 1)) - (e + f + g + h) ≤ S) : (a + b + c + d) - (e + f + g + (h - 1)) ≤ S := by omega
theorem eq0 {a b c d e R : Int} (h0 : a ≤ R) (h1 : b ≤ R) (h2 : c ≤ R) (h3 : d ≤ R) (h4 : e ≤ R) (h : 5 * R - (a + b + c + d + e) ≤ 0) : a = R := by omega
theorem eq1 {a b c d e R : Int} (h0 : a ≤ R) (h1 : b ≤ R) (h2 : c ≤ R) (h3 : d ≤ R) (h4 : e ≤ R) (h : 5 * R - (a + b + c + d + e) ≤ 0) : b = R := by omega
theorem eq2 {a b c d e R : Int} (h0 : a ≤ R) (h1 : b ≤ R) (h2 : c ≤ R) (h3 : d ≤ R) (h4 : e ≤ R) (h : 5 * R - (a + b + c + d + e) ≤ 0) : c = R := by omega
theorem eq3 {a b c d e R : Int} (h0 : a ≤ R) (h1 : b ≤ R) (h2 : c ≤ R) (h3 : d ≤ R) (h4 : e ≤ R) (h : 5 * R - (a + b + c + d + e) ≤ 0) : d = R := by omega
theorem ps1 {a p : Int} (n : 0 ≤ a) (h : ¬ p ≤ a) : 0 ≤ p - 1 := by omega
theorem ps2 {a p : Int} (h : p ≤ a + 1) : p - 1 ≤ a := by omega
theorem gt1 {a b : Int} (h : ¬ a ≤ b) : b + 1 ≤ a := by omega
theorem sm2 {x p R t : Int} (h : x = R) (q : p = t) : x - p ≤ R - t := by omega
theorem sm3 {x p R t : Int} (h : x ≤ R) (q : p = t) : x - p ≤ R - t := by omega
theorem le1 {a : Int} (h : 2 ≤ a) : 1 ≤ a := by omega
theorem lf2a {l0 l1 l2 l3 l4 l5 l6 l7 l8 l9 R : Int} (p0 p1 p2 p3 p4 p5 p6 p7 p8 p9 : Int) (t0 : l0 + l1 + l2 + l3 = R) (t1 : l0 + l4 + l5 + l6 = R) (t2 : l1 + l4 + l7 + l8 = R) (t3 : l2 + l5 + l7 + l9 = R) (t4 : l3 + l6 + l8 + l9 ≤ R) (hp : 0 ≤ p0 ∧ 0 ≤ p1 ∧ 0 ≤ p2 ∧ 0 ≤ p3 ∧ 0 ≤ p4 ∧ 0 ≤ p5 ∧ 0 ≤ p6 ∧ 0 ≤ p7 ∧ 0 ≤ p8 ∧ 0 ≤ p9) (hs : p0 + p1 + p2 + p3 = 2 ∧ p0 + p4 + p5 + p6 = 2 ∧ p1 + p4 + p7 + p8 = 2 ∧ p2 + p5 + p7 + p9 = 2 ∧ p3 + p6 + p8 + p9 = 2) (hl : p0 ≤ l0 ∧ p1 ≤ l1 ∧ p2 ≤ l2 ∧ p3 ≤ l3 ∧ p4 ≤ l4 ∧ p5 ≤ l5 ∧ p6 ≤ l6 ∧ p7 ≤ l7 ∧ p8 ≤ l8 ∧ p9 ≤ l9) : Prt 2 R l0 l1 l2 l3 l4 l5 l6 l7 l8 l9 :=
  ⟨p0, p1, p2, p3, p4, p5, p6, p7, p8, p9, hp, hl, ⟨Int.le_of_eq hs.1, Int.le_of_eq hs.2.1, Int.le_of_eq hs.2.2.1, Int.le_of_eq hs.2.2.2.1, Int.le_of_eq hs.2.2.2.2⟩, ⟨sm2 t0 hs.1, sm2 t1 hs.2.1, sm2 t2 hs.2.2.1, sm2 t3 hs.2.2.2.1, sm3 t4 hs.2.2.2.2⟩⟩
theorem lf2b {l0 l1 l2 l3 l4 l5 l6 l7 l8 l9 R : Int} (p0 p1 p2 p3 p4 p5 p6 p7 p8 p9 : Int) (t0 : l0 + l1 + l2 + l3 = R) (t1 : l0 + l4 + l5 + l6 = R) (t2 : l1 + l4 + l7 + l8 = R) (t3 : l2 + l5 + l7 + l9 = R) (t4 : (l3 + l6 + l8 + l9) - (p3 + p6 + p8 + p9) ≤ R - 2) (hp : 0 ≤ p0 ∧ 0 ≤ p1 ∧ 0 ≤ p2 ∧ 0 ≤ p3 ∧ 0 ≤ p4 ∧ 0 ≤ p5 ∧ 0 ≤ p6 ∧ 0 ≤ p7 ∧ 0 ≤ p8 ∧ 0 ≤ p9) (hs : p0 + p1 + p2 + p3 = 2 ∧ p0 + p4 + p5 + p6 = 2 ∧ p1 + p4 + p7 + p8 = 2 ∧ p2 + p5 + p7 + p9 = 2 ∧ p3 + p6 + p8 + p9 ≤ 2) (hl : p0 ≤ l0 ∧ p1 ≤ l1 ∧ p2 ≤ l2 ∧ p3 ≤ l3 ∧ p4 ≤ l4 ∧ p5 ≤ l5 ∧ p6 ≤ l6 ∧ p7 ≤ l7 ∧ p8 ≤ l8 ∧ p9 ≤ l9) : Prt 2 R l0 l1 l2 l3 l4 l5 l6 l7 l8 l9 :=
  ⟨p0, p1, p2, p3, p4, p5, p6, p7, p8, p9, hp, hl, ⟨Int.le_of_eq hs.1, Int.le_of_eq hs.2.1, Int.le_of_eq hs.2.2.1, Int.le_of_eq hs.2.2.2.1, hs.2.2.2.2⟩, ⟨sm2 t0 hs.1, sm2 t1 hs.2.1, sm2 t2 hs.2.2.1, sm2 t3 hs.2.2.2.1, t4⟩⟩
theorem lf1a {l0 l1 l2 l3 l4 l5 l6 l7 l8 l9 R : Int} (p0 p1 p2 p3 p4 p5 p6 p7 p8 p9 : Int) (t0 : l0 + l1 + l2 + l3 = R) (t1 : l0 + l4 + l5 + l6 = R) (t2 : l1 + l4 + l7 + l8 = R) (t3 : l2 + l5 + l7 + l9 = R) (t4 : l3 + l6 + l8 + l9 ≤ R) (hp : 0 ≤ p0 ∧ 0 ≤ p1 ∧ 0 ≤ p2 ∧ 0 ≤ p3 ∧ 0 ≤ p4 ∧ 0 ≤ p5 ∧ 0 ≤ p6 ∧ 0 ≤ p7 ∧ 0 ≤ p8 ∧ 0 ≤ p9) (hs : p0 + p1 + p2 + p3 = 1 ∧ p0 + p4 + p5 + p6 = 1 ∧ p1 + p4 + p7 + p8 = 1 ∧ p2 + p5 + p7 + p9 = 1 ∧ p3 + p6 + p8 + p9 = 1) (hl : p0 ≤ l0 ∧ p1 ≤ l1 ∧ p2 ≤ l2 ∧ p3 ≤ l3 ∧ p4 ≤ l4 ∧ p5 ≤ l5 ∧ p6 ≤ l6 ∧ p7 ≤ l7 ∧ p8 ≤ l8 ∧ p9 ≤ l9) : Prt 1 R l0 l1 l2 l3 l4 l5 l6 l7 l8 l9 :=
  ⟨p0, p1, p2, p3, p4, p5, p6, p7, p8, p9, hp, hl, ⟨Int.le_of_eq hs.1, Int.le_of_eq hs.2.1, Int.le_of_eq hs.2.2.1, Int.le_of_eq hs.2.2.2.1, Int.le_of_eq hs.2.2.2.2⟩, ⟨sm2 t0 hs.1, sm2 t1 hs.2.1, sm2 t2 hs.2.2.1, sm2 t3 hs.2.2.2.1, sm3 t4 hs.2.2.2.2⟩⟩
theorem lf1b {l0 l1 l2 l3 l4 l5 l6 l7 l8 l9 R : Int} (p0 p1 p2 p3 p4 p5 p6 p7 p8 p9 : Int) (t0 : l0 + l1 + l2 + l3 = R) (t1 : l0 + l4 + l5 + l6 = R) (t2 : l1 + l4 + l7 + l8 = R) (t3 : l2 + l5 + l7 + l9 = R) (t4 : (l3 + l6 + l8 + l9) - (p3 + p6 + p8 + p9) ≤ R - 1) (hp : 0 ≤ p0 ∧ 0 ≤ p1 ∧ 0 ≤ p2 ∧ 0 ≤ p3 ∧ 0 ≤ p4 ∧ 0 ≤ p5 ∧ 0 ≤ p6 ∧ 0 ≤ p7 ∧ 0 ≤ p8 ∧ 0 ≤ p9) (hs : p0 + p1 + p2 + p3 = 1 ∧ p0 + p4 + p5 + p6 = 1 ∧ p1 + p4 + p7 + p8 = 1 ∧ p2 + p5 + p7 + p9 = 1 ∧ p3 + p6 + p8 + p9 ≤ 1) (hl : p0 ≤ l0 ∧ p1 ≤ l1 ∧ p2 ≤ l2 ∧ p3 ≤ l3 ∧ p4 ≤ l4 ∧ p5 ≤ l5 ∧ p6 ≤ l6 ∧ p7 ≤ l7 ∧ p8 ≤ l8 ∧ p9 ≤ l9) : Prt 1 R l0 l1 l2 l3 l4 l5 l6 l7 l8 l9 :=
  ⟨p0, p1, p2, p3, p4, p5, p6, p7, p8, p9, hp, hl, ⟨Int.le_of_eq hs.1, Int.le_of_eq hs.2.1, Int.le_of_eq hs.2.2.1, Int.le_of_eq hs.2.2.2.1, hs.2.2.2.2⟩, ⟨sm2 t0 hs.1, sm2 t1 hs.2.1, sm2 t2 hs.2.2.1, sm2 t3 hs.2.2.2.1, t4⟩⟩
theorem pad0 {t l0 l1 l2 l3 l4 l5 l6 l7 l8 l9 R : Int} (n : 0 ≤ l0) (h : Prt t R (l0 + 1) l1 l2 l3 l4 l5 l6 l7 l8 l9) : Prt t R l0 l1 l2 l3 l4 l5 l6 l7 l8 l9 := by
  obtain ⟨p0, p1, p2, p3, p4, p5, p6, p7, p8, p9, ⟨a0, a1, a2, a3, a4, a5, a6, a7, a8, a9⟩, ⟨b0, b1, b2, b3, b4, b5, b6, b7, b8, b9⟩, ⟨d0, d1, d2, d3, d4⟩, e0, e1, e2, e3, e4⟩ := h
  by_cases y : p0 ≤ l0
  · exact ⟨p0, p1, p2, p3, p4, p5, p6, p7, p8, p9, ⟨a0, a1, a2, a3, a4, a5, a6, a7, a8, a9⟩, ⟨y, b1, b2, b3, b4, b5, b6, b7, b8, b9⟩, ⟨d0, d1, d2, d3, d4⟩, kp0 e0, kp0 e1, e2, e3, e4⟩
  · exact ⟨p0 - 1, p1, p2, p3, p4, p5, p6, p7, p8, p9, ⟨ps1 n y, a1, a2, a3, a4, a5, a6, a7, a8, a9⟩, ⟨ps2 b0, b1, b2, b3, b4, b5, b6, b7, b8, b9⟩, ⟨dn0 d0, dn0 d1, d2, d3, d4⟩, dr0 e0, dr0 e1, e2, e3, e4⟩
theorem pad1 {t l0 l1 l2 l3 l4 l5 l6 l7 l8 l9 R : Int} (n : 0 ≤ l1) (h : Prt t R l0 (l1 + 1) l2 l3 l4 l5 l6 l7 l8 l9) : Prt t R l0 l1 l2 l3 l4 l5 l6 l7 l8 l9 := by
  obtain ⟨p0, p1, p2, p3, p4, p5, p6, p7, p8, p9, ⟨a0, a1, a2, a3, a4, a5, a6, a7, a8, a9⟩, ⟨b0, b1, b2, b3, b4, b5, b6, b7, b8, b9⟩, ⟨d0, d1, d2, d3, d4⟩, e0, e1, e2, e3, e4⟩ := h
  by_cases y : p1 ≤ l1
  · exact ⟨p0, p1, p2, p3, p4, p5, p6, p7, p8, p9, ⟨a0, a1, a2, a3, a4, a5, a6, a7, a8, a9⟩, ⟨b0, y, b2, b3, b4, b5, b6, b7, b8, b9⟩, ⟨d0, d1, d2, d3, d4⟩, kp1 e0, e1, kp0 e2, e3, e4⟩
  · exact ⟨p0, p1 - 1, p2, p3, p4, p5, p6, p7, p8, p9, ⟨a0, ps1 n y, a2, a3, a4, a5, a6, a7, a8, a9⟩, ⟨b0, ps2 b1, b2, b3, b4, b5, b6, b7, b8, b9⟩, ⟨dn1 d0, d1, dn0 d2, d3, d4⟩, dr1 e0, e1, dr0 e2, e3, e4⟩
theorem pad2 {t l0 l1 l2 l3 l4 l5 l6 l7 l8 l9 R : Int} (n : 0 ≤ l2) (h : Prt t R l0 l1 (l2 + 1) l3 l4 l5 l6 l7 l8 l9) : Prt t R l0 l1 l2 l3 l4 l5 l6 l7 l8 l9 := by
  obtain ⟨p0, p1, p2, p3, p4, p5, p6, p7, p8, p9, ⟨a0, a1, a2, a3, a4, a5, a6, a7, a8, a9⟩, ⟨b0, b1, b2, b3, b4, b5, b6, b7, b8, b9⟩, ⟨d0, d1, d2, d3, d4⟩, e0, e1, e2, e3, e4⟩ := h
  by_cases y : p2 ≤ l2
  · exact ⟨p0, p1, p2, p3, p4, p5, p6, p7, p8, p9, ⟨a0, a1, a2, a3, a4, a5, a6, a7, a8, a9⟩, ⟨b0, b1, y, b3, b4, b5, b6, b7, b8, b9⟩, ⟨d0, d1, d2, d3, d4⟩, kp2 e0, e1, e2, kp0 e3, e4⟩
  · exact ⟨p0, p1, p2 - 1, p3, p4, p5, p6, p7, p8, p9, ⟨a0, a1, ps1 n y, a3, a4, a5, a6, a7, a8, a9⟩, ⟨b0, b1, ps2 b2, b3, b4, b5, b6, b7, b8, b9⟩, ⟨dn2 d0, d1, d2, dn0 d3, d4⟩, dr2 e0, e1, e2, dr0 e3, e4⟩
theorem pad3 {t l0 l1 l2 l3 l4 l5 l6 l7 l8 l9 R : Int} (n : 0 ≤ l3) (h : Prt t R l0 l1 l2 (l3 + 1) l4 l5 l6 l7 l8 l9) : Prt t R l0 l1 l2 l3 l4 l5 l6 l7 l8 l9 := by
  obtain ⟨p0, p1, p2, p3, p4, p5, p6, p7, p8, p9, ⟨a0, a1, a2, a3, a4, a5, a6, a7, a8, a9⟩, ⟨b0, b1, b2, b3, b4, b5, b6, b7, b8, b9⟩, ⟨d0, d1, d2, d3, d4⟩, e0, e1, e2, e3, e4⟩ := h
  by_cases y : p3 ≤ l3
  · exact ⟨p0, p1, p2, p3, p4, p5, p6, p7, p8, p9, ⟨a0, a1, a2, a3, a4, a5, a6, a7, a8, a9⟩, ⟨b0, b1, b2, y, b4, b5, b6, b7, b8, b9⟩, ⟨d0, d1, d2, d3, d4⟩, kp3 e0, e1, e2, e3, kp0 e4⟩
  · exact ⟨p0, p1, p2, p3 - 1, p4, p5, p6, p7, p8, p9, ⟨a0, a1, a2, ps1 n y, a4, a5, a6, a7, a8, a9⟩, ⟨b0, b1, b2, ps2 b3, b4, b5, b6, b7, b8, b9⟩, ⟨dn3 d0, d1, d2, d3, dn0 d4⟩, dr3 e0, e1, e2, e3, dr0 e4⟩
theorem pad4 {t l0 l1 l2 l3 l4 l5 l6 l7 l8 l9 R : Int} (n : 0 ≤ l4) (h : Prt t R l0 l1 l2 l3 (l4 + 1) l5 l6 l7 l8 l9) : Prt t R l0 l1 l2 l3 l4 l5 l6 l7 l8 l9 := by
  obtain ⟨p0, p1, p2, p3, p4, p5, p6, p7, p8, p9, ⟨a0, a1, a2, a3, a4, a5, a6, a7, a8, a9⟩, ⟨b0, b1, b2, b3, b4, b5, b6, b7, b8, b9⟩, ⟨d0, d1, d2, d3, d4⟩, e0, e1, e2, e3, e4⟩ := h
  by_cases y : p4 ≤ l4
  · exact ⟨p0, p1, p2, p3, p4, p5, p6, p7, p8, p9, ⟨a0, a1, a2, a3, a4, a5, a6, a7, a8, a9⟩, ⟨b0, b1, b2, b3, y, b5, b6, b7, b8, b9⟩, ⟨d0, d1, d2, d3, d4⟩, e0, kp1 e1, kp1 e2, e3, e4⟩
  · exact ⟨p0, p1, p2, p3, p4 - 1, p5, p6, p7, p8, p9, ⟨a0, a1, a2, a3, ps1 n y, a5, a6, a7, a8, a9⟩, ⟨b0, b1, b2, b3, ps2 b4, b5, b6, b7, b8, b9⟩, ⟨d0, dn1 d1, dn1 d2, d3, d4⟩, e0, dr1 e1, dr1 e2, e3, e4⟩
theorem pad5 {t l0 l1 l2 l3 l4 l5 l6 l7 l8 l9 R : Int} (n : 0 ≤ l5) (h : Prt t R l0 l1 l2 l3 l4 (l5 + 1) l6 l7 l8 l9) : Prt t R l0 l1 l2 l3 l4 l5 l6 l7 l8 l9 := by
  obtain ⟨p0, p1, p2, p3, p4, p5, p6, p7, p8, p9, ⟨a0, a1, a2, a3, a4, a5, a6, a7, a8, a9⟩, ⟨b0, b1, b2, b3, b4, b5, b6, b7, b8, b9⟩, ⟨d0, d1, d2, d3, d4⟩, e0, e1, e2, e3, e4⟩ := h
  by_cases y : p5 ≤ l5
  · exact ⟨p0, p1, p2, p3, p4, p5, p6, p7, p8, p9, ⟨a0, a1, a2, a3, a4, a5, a6, a7, a8, a9⟩, ⟨b0, b1, b2, b3, b4, y, b6, b7, b8, b9⟩, ⟨d0, d1, d2, d3, d4⟩, e0, kp2 e1, e2, kp1 e3, e4⟩
  · exact ⟨p0, p1, p2, p3, p4, p5 - 1, p6, p7, p8, p9, ⟨a0, a1, a2, a3, a4, ps1 n y, a6, a7, a8, a9⟩, ⟨b0, b1, b2, b3, b4, ps2 b5, b6, b7, b8, b9⟩, ⟨d0, dn2 d1, d2, dn1 d3, d4⟩, e0, dr2 e1, e2, dr1 e3, e4⟩
theorem pad6 {t l0 l1 l2 l3 l4 l5 l6 l7 l8 l9 R : Int} (n : 0 ≤ l6) (h : Prt t R l0 l1 l2 l3 l4 l5 (l6 + 1) l7 l8 l9) : Prt t R l0 l1 l2 l3 l4 l5 l6 l7 l8 l9 := by
  obtain ⟨p0, p1, p2, p3, p4, p5, p6, p7, p8, p9, ⟨a0, a1, a2, a3, a4, a5, a6, a7, a8, a9⟩, ⟨b0, b1, b2, b3, b4, b5, b6, b7, b8, b9⟩, ⟨d0, d1, d2, d3, d4⟩, e0, e1, e2, e3, e4⟩ := h
  by_cases y : p6 ≤ l6
  · exact ⟨p0, p1, p2, p3, p4, p5, p6, p7, p8, p9, ⟨a0, a1, a2, a3, a4, a5, a6, a7, a8, a9⟩, ⟨b0, b1, b2, b3, b4, b5, y, b7, b8, b9⟩, ⟨d0, d1, d2, d3, d4⟩, e0, kp3 e1, e2, e3, kp1 e4⟩
  · exact ⟨p0, p1, p2, p3, p4, p5, p6 - 1, p7, p8, p9, ⟨a0, a1, a2, a3, a4, a5, ps1 n y, a7, a8, a9⟩, ⟨b0, b1, b2, b3, b4, b5, ps2 b6, b7, b8, b9⟩, ⟨d0, dn3 d1, d2, d3, dn1 d4⟩, e0, dr3 e1, e2, e3, dr1 e4⟩
theorem pad7 {t l0 l1 l2 l3 l4 l5 l6 l7 l8 l9 R : Int} (n : 0 ≤ l7) (h : Prt t R l0 l1 l2 l3 l4 l5 l6 (l7 + 1) l8 l9) : Prt t R l0 l1 l2 l3 l4 l5 l6 l7 l8 l9 := by
  obtain ⟨p0, p1, p2, p3, p4, p5, p6, p7, p8, p9, ⟨a0, a1, a2, a3, a4, a5, a6, a7, a8, a9⟩, ⟨b0, b1, b2, b3, b4, b5, b6, b7, b8, b9⟩, ⟨d0, d1, d2, d3, d4⟩, e0, e1, e2, e3, e4⟩ := h
  by_cases y : p7 ≤ l7
  · exact ⟨p0, p1, p2, p3, p4, p5, p6, p7, p8, p9, ⟨a0, a1, a2, a3, a4, a5, a6, a7, a8, a9⟩, ⟨b0, b1, b2, b3, b4, b5, b6, y, b8, b9⟩, ⟨d0, d1, d2, d3, d4⟩, e0, e1, kp2 e2, kp2 e3, e4⟩
  · exact ⟨p0, p1, p2, p3, p4, p5, p6, p7 - 1, p8, p9, ⟨a0, a1, a2, a3, a4, a5, a6, ps1 n y, a8, a9⟩, ⟨b0, b1, b2, b3, b4, b5, b6, ps2 b7, b8, b9⟩, ⟨d0, d1, dn2 d2, dn2 d3, d4⟩, e0, e1, dr2 e2, dr2 e3, e4⟩
theorem pad8 {t l0 l1 l2 l3 l4 l5 l6 l7 l8 l9 R : Int} (n : 0 ≤ l8) (h : Prt t R l0 l1 l2 l3 l4 l5 l6 l7 (l8 + 1) l9) : Prt t R l0 l1 l2 l3 l4 l5 l6 l7 l8 l9 := by
  obtain ⟨p0, p1, p2, p3, p4, p5, p6, p7, p8, p9, ⟨a0, a1, a2, a3, a4, a5, a6, a7, a8, a9⟩, ⟨b0, b1, b2, b3, b4, b5, b6, b7, b8, b9⟩, ⟨d0, d1, d2, d3, d4⟩, e0, e1, e2, e3, e4⟩ := h
  by_cases y : p8 ≤ l8
  · exact ⟨p0, p1, p2, p3, p4, p5, p6, p7, p8, p9, ⟨a0, a1, a2, a3, a4, a5, a6, a7, a8, a9⟩, ⟨b0, b1, b2, b3, b4, b5, b6, b7, y, b9⟩, ⟨d0, d1, d2, d3, d4⟩, e0, e1, kp3 e2, e3, kp2 e4⟩
  · exact ⟨p0, p1, p2, p3, p4, p5, p6, p7, p8 - 1, p9, ⟨a0, a1, a2, a3, a4, a5, a6, a7, ps1 n y, a9⟩, ⟨b0, b1, b2, b3, b4, b5, b6, b7, ps2 b8, b9⟩, ⟨d0, d1, dn3 d2, d3, dn2 d4⟩, e0, e1, dr3 e2, e3, dr2 e4⟩
theorem pad9 {t l0 l1 l2 l3 l4 l5 l6 l7 l8 l9 R : Int} (n : 0 ≤ l9) (h : Prt t R l0 l1 l2 l3 l4 l5 l6 l7 l8 (l9 + 1)) : Prt t R l0 l1 l2 l3 l4 l5 l6 l7 l8 l9 := by
  obtain ⟨p0, p1, p2, p3, p4, p5, p6, p7, p8, p9, ⟨a0, a1, a2, a3, a4, a5, a6, a7, a8, a9⟩, ⟨b0, b1, b2, b3, b4, b5, b6, b7, b8, b9⟩, ⟨d0, d1, d2, d3, d4⟩, e0, e1, e2, e3, e4⟩ := h
  by_cases y : p9 ≤ l9
  · exact ⟨p0, p1, p2, p3, p4, p5, p6, p7, p8, p9, ⟨a0, a1, a2, a3, a4, a5, a6, a7, a8, a9⟩, ⟨b0, b1, b2, b3, b4, b5, b6, b7, b8, y⟩, ⟨d0, d1, d2, d3, d4⟩, e0, e1, e2, kp3 e3, kp3 e4⟩
  · exact ⟨p0, p1, p2, p3, p4, p5, p6, p7, p8, p9 - 1, ⟨a0, a1, a2, a3, a4, a5, a6, a7, a8, ps1 n y⟩, ⟨b0, b1, b2, b3, b4, b5, b6, b7, b8, ps2 b9⟩, ⟨d0, d1, d2, dn3 d3, dn3 d4⟩, e0, e1, e2, dr3 e3, dr3 e4⟩
theorem even_w {l0 l1 l2 l3 l4 l5 l6 l7 l8 l9 R : Int} (hn : 0 ≤ l0 ∧ 0 ≤ l1 ∧ 0 ≤ l2 ∧ 0 ≤ l3 ∧ 0 ≤ l4 ∧ 0 ≤ l5 ∧ 0 ≤ l6 ∧ 0 ≤ l7 ∧ 0 ≤ l8 ∧ 0 ≤ l9) (t0 : l0 + l1 + l2 + l3 = R) (t1 : l0 + l4 + l5 + l6 = R) (t2 : l1 + l4 + l7 + l8 = R) (t3 : l2 + l5 + l7 + l9 = R) (t4 : l3 + l6 + l8 + l9 ≤ R) (r1 : R % 2 = 0) (r2 : 2 ≤ R) : Prt 2 R l0 l1 l2 l3 l4 l5 l6 l7 l8 l9 := by
  obtain ⟨n0, n1, n2, n3, n4, n5, n6, n7, n8, n9⟩ := hn
  by_cases z1 : l3 ≤ 1
  ·
    by_cases z2 : l6 ≤ 1
    ·
      by_cases z3 : l8 ≤ 1
      ·
        by_cases z4 : l9 ≤ 1
        ·
          by_cases z5 : l0 ≤ 1
          ·
            by_cases z6 : l1 ≤ 1
            ·
              by_cases z7 : l2 ≤ 1
              ·
                by_cases z8 : l6 ≤ 0
                ·
                  by_cases z9 : l0 ≤ 0
                  ·
                    by_cases z10 : l1 ≤ 0
                    ·
                      by_cases z11 : l4 ≤ 1
                      ·
                        exact lf2a 0 0 1 1 1 1 0 0 1 0 t0 t1 t2 t3 t4 (by decide) (by decide) ⟨n0, n1, by omega, by omega, by omega, by omega, n6, n7, by omega, n9⟩
                      ·
                        exact lf2a 0 0 1 1 2 0 0 0 0 1 t0 t1 t2 t3 t4 (by decide) (by decide) ⟨n0, n1, by omega, by omega, gt1 z11, n5, n6, n7, n8, by omega⟩
                    ·
                      by_cases z12 : l2 ≤ 0
                      ·
                        by_cases z13 : l4 ≤ 0
                        ·
                          exact lf2a 0 1 0 1 0 2 0 0 1 0 t0 t1 t2 t3 t4 (by decide) (by decide) ⟨n0, gt1 z10, n2, by omega, n4, by omega, n6, n7, by omega, n9⟩
                        ·
                          exact lf2a 0 1 0 1 1 1 0 0 0 1 t0 t1 t2 t3 t4 (by decide) (by decide) ⟨n0, gt1 z10, n2, by omega, gt1 z13, by omega, n6, n7, n8, by omega⟩
                      ·
                        exact lf2b 0 1 1 0 1 1 0 0 0 0 t0 t1 t2 t3 (by omega) (by decide) (by decide) ⟨n0, gt1 z10, gt1 z12, n3, by omega, by omega, n6, n7, n8, n9⟩
                  ·
                    by_cases z14 : l1 ≤ 0
                    ·
                      by_cases z15 : l2 ≤ 0
                      ·
                        by_cases z16 : l4 ≤ 0
                        ·
                          exact lf2a 1 0 0 1 0 1 0 1 1 0 t0 t1 t2 t3 t4 (by decide) (by decide) ⟨gt1 z9, n1, n2, by omega, n4, by omega, n6, by omega, by omega, n9⟩
                        ·
                          exact lf2a 1 0 0 1 1 0 0 1 0 1 t0 t1 t2 t3 t4 (by decide) (by decide) ⟨gt1 z9, n1, n2, by omega, gt1 z16, n5, n6, by omega, n8, by omega⟩
                      ·
                        by_cases z17 : l7 ≤ 0
                        ·
                          exact lf2a 1 0 1 0 1 0 0 0 1 1 t0 t1 t2 t3 t4 (by decide) (by decide) ⟨gt1 z9, n1, gt1 z15, n3, by omega, n5, n6, n7, by omega, by omega⟩
                        ·
                          exact lf2b 1 0 1 0 1 0 0 1 0 0 t0 t1 t2 t3 (by omega) (by decide) (by decide) ⟨gt1 z9, n1, gt1 z15, n3, by omega, n5, n6, gt1 z17, n8, n9⟩
                    ·
                      by_cases z18 : l7 ≤ 0
                      ·
                        exact lf2a 1 1 0 0 0 1 0 0 1 1 t0 t1 t2 t3 t4 (by decide) (by decide) ⟨gt1 z9, gt1 z14, n2, n3, n4, by omega, n6, n7, by omega, by omega⟩
                      ·
                        exact lf2b 1 1 0 0 0 1 0 1 0 0 t0 t1 t2 t3 (by omega) (by decide) (by decide) ⟨gt1 z9, gt1 z14, n2, n3, n4, by omega, n6, gt1 z18, n8, n9⟩
                ·
                  by_cases z19 : l1 ≤ 0
                  ·
                    by_cases z20 : l0 ≤ 0
                    ·
                      exact lf2a 0 0 1 1 1 0 1 1 0 0 t0 t1 t2 t3 t4 (by decide) (by decide) ⟨n0, n1, by omega, by omega, by omega, n5, gt1 z8, by omega, n8, n9⟩
                    ·
                      by_cases z21 : l2 ≤ 0
                      ·
                        exact lf2a 1 0 0 1 0 0 1 2 0 0 t0 t1 t2 t3 t4 (by decide) (by decide) ⟨gt1 z20, n1, n2, by omega, n4, n5, gt1 z8, by omega, n8, n9⟩
                      ·
                        exact lf2a 1 0 1 0 0 0 1 1 1 0 t0 t1 t2 t3 t4 (by decide) (by decide) ⟨gt1 z20, n1, gt1 z21, n3, n4, n5, gt1 z8, by omega, by omega, n9⟩
                  ·
                    by_cases z22 : l3 ≤ 0
                    ·
                      by_cases z23 : l0 ≤ 0
                      ·
                        by_cases z24 : l4 ≤ 0
                        ·
                          exact lf2a 0 1 1 0 0 1 1 0 1 0 t0 t1 t2 t3 t4 (by decide) (by decide) ⟨n0, gt1 z19, by omega, n3, n4, by omega, gt1 z8, n7, by omega, n9⟩
                        ·
                          exact lf2a 0 1 1 0 1 0 1 0 0 1 t0 t1 t2 t3 t4 (by decide) (by decide) ⟨n0, gt1 z19, by omega, n3, gt1 z24, n5, gt1 z8, n7, n8, by omega⟩
                      ·
                        exact lf2a 1 1 0 0 0 0 1 1 0 1 t0 t1 t2 t3 t4 (by decide) (by decide) ⟨gt1 z23, gt1 z19, n2, n3, n4, n5, gt1 z8, by omega, n8, by omega⟩
                    ·
                      exact lf2a 0 1 0 1 0 1 1 1 0 0 t0 t1 t2 t3 t4 (by decide) (by decide) ⟨n0, gt1 z19, n2, gt1 z22, n4, by omega, gt1 z8, by omega, n8, n9⟩
              ·
                by_cases z25 : R - (l3 + l6 + l8 + l9) ≤ 0
                ·
                  exact lf2a 0 0 2 0 1 0 1 0 1 0 t0 t1 t2 t3 t4 (by decide) (by decide) ⟨n0, n1, gt1 z7, n3, by omega, n5, by omega, n7, by omega, n9⟩
                ·
                  by_cases z26 : l4 ≤ 1
                  ·
                    exact lf2a 0 0 2 0 1 0 1 0 1 0 t0 t1 t2 t3 t4 (by decide) (by decide) ⟨n0, n1, gt1 z7, n3, by omega, n5, by omega, n7, by omega, n9⟩
                  ·
                    exact lf2b 0 0 2 0 2 0 0 0 0 0 t0 t1 t2 t3 (by omega) (by decide) (by decide) ⟨n0, n1, gt1 z7, n3, gt1 z26, n5, n6, n7, n8, n9⟩
            ·
              by_cases z27 : l5 ≤ 1
              ·
                exact lf2a 0 2 0 0 0 1 1 0 0 1 t0 t1 t2 t3 t4 (by decide) (by decide) ⟨n0, gt1 z6, n2, n3, n4, by omega, by omega, n7, n8, by omega⟩
              ·
                by_cases z28 : R - (l3 + l6 + l8 + l9) ≤ 0
                ·
                  exact lf2a 0 1 0 1 0 2 0 0 1 0 t0 t1 t2 t3 t4 (by decide) (by decide) ⟨n0, le1 (gt1 z6), n2, by omega, n4, gt1 z27, n6, n7, by omega, n9⟩
                ·
                  exact lf2b 0 2 0 0 0 2 0 0 0 0 t0 t1 t2 t3 (by omega) (by decide) (by decide) ⟨n0, gt1 z6, n2, n3, n4, gt1 z27, n6, n7, n8, n9⟩
          ·
            by_cases z29 : l7 ≤ 1
            ·
              exact lf2a 2 0 0 0 0 0 0 1 1 1 t0 t1 t2 t3 t4 (by decide) (by decide) ⟨gt1 z5, n1, n2, n3, n4, n5, n6, by omega, by omega, by omega⟩
            ·
              by_cases z30 : R - (l3 + l6 + l8 + l9) ≤ 0
              ·
                exact lf2a 1 0 0 1 0 0 1 2 0 0 t0 t1 t2 t3 t4 (by decide) (by decide) ⟨le1 (gt1 z5), n1, n2, by omega, n4, n5, by omega, gt1 z29, n8, n9⟩
              ·
                exact lf2b 2 0 0 0 0 0 0 2 0 0 t0 t1 t2 t3 (by omega) (by decide) (by decide) ⟨gt1 z5, n1, n2, n3, n4, n5, n6, gt1 z29, n8, n9⟩
        ·
          by_cases z31 : l0 ≤ 0
          ·
            by_cases z32 : l1 ≤ 1
            ·
              exact lf2a 0 0 1 1 2 0 0 0 0 1 t0 t1 t2 t3 t4 (by decide) (by decide) ⟨n0, n1, by omega, by omega, by omega, n5, n6, n7, n8, le1 (gt1 z4)⟩
            ·
              exact lf2a 0 1 0 1 1 1 0 0 0 1 t0 t1 t2 t3 t4 (by decide) (by decide) ⟨n0, le1 (gt1 z32), n2, by omega, by omega, by omega, n6, n7, n8, le1 (gt1 z4)⟩
          ·
            by_cases z33 : l1 ≤ 0
            ·
              by_cases z34 : l0 ≤ 1
              ·
                exact lf2a 0 0 1 1 2 0 0 0 0 1 t0 t1 t2 t3 t4 (by decide) (by decide) ⟨n0, n1, by omega, by omega, by omega, n5, n6, n7, n8, le1 (gt1 z4)⟩
              ·
                exact lf2a 1 0 0 1 1 0 0 1 0 1 t0 t1 t2 t3 t4 (by decide) (by decide) ⟨le1 (gt1 z34), n1, n2, by omega, by omega, n5, n6, by omega, n8, le1 (gt1 z4)⟩
            ·
              by_cases z35 : l4 ≤ 0
              ·
                by_cases z36 : l0 ≤ 1
                ·
                  exact lf2a 0 2 0 0 0 1 1 0 0 1 t0 t1 t2 t3 t4 (by decide) (by decide) ⟨n0, by omega, n2, n3, n4, by omega, by omega, n7, n8, le1 (gt1 z4)⟩
                ·
                  exact lf2a 1 1 0 0 0 0 1 1 0 1 t0 t1 t2 t3 t4 (by decide) (by decide) ⟨le1 (gt1 z36), gt1 z33, n2, n3, n4, n5, by omega, by omega, n8, le1 (gt1 z4)⟩
              ·
                exact lf2a 1 1 0 0 1 0 0 0 0 2 t0 t1 t2 t3 t4 (by decide) (by decide) ⟨gt1 z31, gt1 z33, n2, n3, gt1 z35, n5, n6, n7, n8, gt1 z4⟩
      ·
        by_cases z37 : l2 ≤ 0
        ·
          by_cases z38 : l5 ≤ 1
          ·
            exact lf2a 2 0 0 0 0 0 0 1 1 1 t0 t1 t2 t3 t4 (by decide) (by decide) ⟨by omega, n1, n2, n3, n4, n5, n6, by omega, le1 (gt1 z3), by omega⟩
          ·
            exact lf2a 1 1 0 0 0 1 0 0 1 1 t0 t1 t2 t3 t4 (by decide) (by decide) ⟨by omega, by omega, n2, n3, n4, le1 (gt1 z38), n6, n7, le1 (gt1 z3), by omega⟩
        ·
          by_cases z39 : l5 ≤ 0
          ·
            by_cases z40 : l2 ≤ 1
            ·
              exact lf2a 2 0 0 0 0 0 0 1 1 1 t0 t1 t2 t3 t4 (by decide) (by decide) ⟨by omega, n1, n2, n3, n4, n5, n6, by omega, le1 (gt1 z3), by omega⟩
            ·
              exact lf2a 1 0 1 0 1 0 0 0 1 1 t0 t1 t2 t3 t4 (by decide) (by decide) ⟨by omega, n1, le1 (gt1 z40), n3, by omega, n5, n6, n7, le1 (gt1 z3), by omega⟩
          ·
            by_cases z41 : l0 ≤ 0
            ·
              by_cases z42 : l1 ≤ 0
              ·
                exact lf2a 0 0 1 1 1 1 0 0 1 0 t0 t1 t2 t3 t4 (by decide) (by decide) ⟨n0, n1, gt1 z37, by omega, by omega, gt1 z39, n6, n7, le1 (gt1 z3), n9⟩
              ·
                exact lf2a 0 1 0 1 0 2 0 0 1 0 t0 t1 t2 t3 t4 (by decide) (by decide) ⟨n0, gt1 z42, n2, by omega, n4, by omega, n6, n7, le1 (gt1 z3), n9⟩
            ·
              exact lf2a 1 0 1 0 0 1 0 0 2 0 t0 t1 t2 t3 t4 (by decide) (by decide) ⟨gt1 z41, n1, gt1 z37, n3, n4, gt1 z39, n6, n7, gt1 z3, n9⟩
    ·
      by_cases z43 : l7 ≤ 0
      ·
        by_cases z44 : l1 ≤ 1
        ·
          exact lf2a 0 0 2 0 1 0 1 0 1 0 t0 t1 t2 t3 t4 (by decide) (by decide) ⟨n0, n1, by omega, n3, by omega, n5, le1 (gt1 z2), n7, by omega, n9⟩
        ·
          by_cases z45 : l5 ≤ 0
          ·
            exact lf2a 0 1 1 0 1 0 1 0 0 1 t0 t1 t2 t3 t4 (by decide) (by decide) ⟨n0, le1 (gt1 z44), by omega, n3, by omega, n5, le1 (gt1 z2), n7, n8, by omega⟩
          ·
            by_cases z46 : l9 ≤ 0
            ·
              exact lf2a 0 1 1 0 0 1 1 0 1 0 t0 t1 t2 t3 t4 (by decide) (by decide) ⟨n0, le1 (gt1 z44), by omega, n3, n4, gt1 z45, le1 (gt1 z2), n7, by omega, n9⟩
            ·
              exact lf2a 0 2 0 0 0 1 1 0 0 1 t0 t1 t2 t3 t4 (by decide) (by decide) ⟨n0, gt1 z44, n2, n3, n4, gt1 z45, le1 (gt1 z2), n7, n8, gt1 z46⟩
      ·
        by_cases z47 : l1 ≤ 0
        ·
          by_cases z48 : l0 ≤ 0
          ·
            exact lf2a 0 0 1 1 1 0 1 1 0 0 t0 t1 t2 t3 t4 (by decide) (by decide) ⟨n0, n1, by omega, by omega, by omega, n5, le1 (gt1 z2), gt1 z43, n8, n9⟩
          ·
            exact lf2a 1 0 1 0 0 0 1 1 1 0 t0 t1 t2 t3 t4 (by decide) (by decide) ⟨gt1 z48, n1, by omega, n3, n4, n5, le1 (gt1 z2), gt1 z43, by omega, n9⟩
        ·
          by_cases z49 : l2 ≤ 0
          ·
            by_cases z50 : l0 ≤ 0
            ·
              exact lf2a 0 1 0 1 0 1 1 1 0 0 t0 t1 t2 t3 t4 (by decide) (by decide) ⟨n0, gt1 z47, n2, by omega, n4, by omega, le1 (gt1 z2), gt1 z43, n8, n9⟩
            ·
              exact lf2a 1 1 0 0 0 0 1 1 0 1 t0 t1 t2 t3 t4 (by decide) (by decide) ⟨gt1 z50, gt1 z47, n2, n3, n4, n5, le1 (gt1 z2), gt1 z43, n8, by omega⟩
          ·
            exact lf2a 0 1 1 0 0 0 2 1 0 0 t0 t1 t2 t3 t4 (by decide) (by decide) ⟨n0, gt1 z47, gt1 z49, n3, n4, n5, gt1 z2, gt1 z43, n8, n9⟩
  ·
    by_cases z51 : l4 ≤ 0
    ·
      by_cases z52 : l5 ≤ 1
      ·
        exact lf2a 1 0 0 1 0 0 1 2 0 0 t0 t1 t2 t3 t4 (by decide) (by decide) ⟨by omega, n1, n2, le1 (gt1 z1), n4, n5, by omega, by omega, n8, n9⟩
      ·
        by_cases z53 : l8 ≤ 0
        ·
          exact lf2a 0 1 0 1 0 1 1 1 0 0 t0 t1 t2 t3 t4 (by decide) (by decide) ⟨n0, by omega, n2, le1 (gt1 z1), n4, le1 (gt1 z52), by omega, by omega, n8, n9⟩
        ·
          by_cases z54 : l1 ≤ 0
          ·
            exact lf2a 1 0 0 1 0 1 0 1 1 0 t0 t1 t2 t3 t4 (by decide) (by decide) ⟨by omega, n1, n2, le1 (gt1 z1), n4, le1 (gt1 z52), n6, by omega, gt1 z53, n9⟩
          ·
            exact lf2a 0 1 0 1 0 2 0 0 1 0 t0 t1 t2 t3 t4 (by decide) (by decide) ⟨n0, gt1 z54, n2, le1 (gt1 z1), n4, gt1 z52, n6, n7, gt1 z53, n9⟩
    ·
      by_cases z55 : l5 ≤ 0
      ·
        by_cases z56 : l2 ≤ 1
        ·
          by_cases z57 : l4 ≤ 1
          ·
            exact lf2a 1 0 0 1 0 0 1 2 0 0 t0 t1 t2 t3 t4 (by decide) (by decide) ⟨by omega, n1, n2, le1 (gt1 z1), n4, n5, by omega, by omega, n8, n9⟩
          ·
            exact lf2a 1 0 0 1 1 0 0 1 0 1 t0 t1 t2 t3 t4 (by decide) (by decide) ⟨by omega, n1, n2, le1 (gt1 z1), le1 (gt1 z57), n5, n6, by omega, n8, by omega⟩
        ·
          by_cases z58 : l9 ≤ 1
          ·
            exact lf2a 0 0 1 1 1 0 1 1 0 0 t0 t1 t2 t3 t4 (by decide) (by decide) ⟨n0, n1, le1 (gt1 z56), le1 (gt1 z1), gt1 z51, n5, by omega, by omega, n8, n9⟩
          ·
            by_cases z59 : l4 ≤ 1
            ·
              exact lf2a 0 0 1 1 1 0 1 1 0 0 t0 t1 t2 t3 t4 (by decide) (by decide) ⟨n0, n1, le1 (gt1 z56), le1 (gt1 z1), gt1 z51, n5, by omega, by omega, n8, n9⟩
            ·
              exact lf2a 0 0 1 1 2 0 0 0 0 1 t0 t1 t2 t3 t4 (by decide) (by decide) ⟨n0, n1, le1 (gt1 z56), le1 (gt1 z1), gt1 z59, n5, n6, n7, n8, le1 (gt1 z58)⟩
      ·
        by_cases z60 : l7 ≤ 0
        ·
          by_cases z61 : l8 ≤ 1
          ·
            by_cases z62 : l1 ≤ 0
            ·
              exact lf2a 0 0 1 1 1 1 0 0 1 0 t0 t1 t2 t3 t4 (by decide) (by decide) ⟨n0, n1, by omega, le1 (gt1 z1), gt1 z51, gt1 z55, n6, n7, by omega, n9⟩
            ·
              exact lf2a 0 1 0 1 1 1 0 0 0 1 t0 t1 t2 t3 t4 (by decide) (by decide) ⟨n0, gt1 z62, n2, le1 (gt1 z1), gt1 z51, gt1 z55, n6, n7, n8, by omega⟩
          ·
            by_cases z63 : l2 ≤ 0
            ·
              exact lf2a 0 1 0 1 0 2 0 0 1 0 t0 t1 t2 t3 t4 (by decide) (by decide) ⟨n0, by omega, n2, le1 (gt1 z1), n4, by omega, n6, n7, le1 (gt1 z61), n9⟩
            ·
              exact lf2a 0 0 1 1 1 1 0 0 1 0 t0 t1 t2 t3 t4 (by decide) (by decide) ⟨n0, n1, gt1 z63, le1 (gt1 z1), gt1 z51, gt1 z55, n6, n7, le1 (gt1 z61), n9⟩
        ·
          exact lf2a 0 0 0 2 1 1 0 1 0 0 t0 t1 t2 t3 t4 (by decide) (by decide) ⟨n0, n1, n2, gt1 z1, gt1 z51, gt1 z55, n6, gt1 z60, n8, n9⟩
theorem odd_w {l0 l1 l2 l3 l4 l5 l6 l7 l8 l9 R : Int} (hn : 0 ≤ l0 ∧ 0 ≤ l1 ∧ 0 ≤ l2 ∧ 0 ≤ l3 ∧ 0 ≤ l4 ∧ 0 ≤ l5 ∧ 0 ≤ l6 ∧ 0 ≤ l7 ∧ 0 ≤ l8 ∧ 0 ≤ l9) (t0 : l0 + l1 + l2 + l3 = R) (t1 : l0 + l4 + l5 + l6 = R) (t2 : l1 + l4 + l7 + l8 = R) (t3 : l2 + l5 + l7 + l9 = R) (t4 : l3 + l6 + l8 + l9 ≤ R) (r1 : R % 2 = 1) (r2 : 1 ≤ R) : Prt 1 R l0 l1 l2 l3 l4 l5 l6 l7 l8 l9 := by
  obtain ⟨n0, n1, n2, n3, n4, n5, n6, n7, n8, n9⟩ := hn
  by_cases z0 : 1 ≤ l0 ∧ 1 ≤ l7
  · obtain ⟨u, w⟩ := z0
    exact lf1b 1 0 0 0 0 0 0 1 0 0 t0 t1 t2 t3 (by omega) (by decide) (by decide) ⟨by omega, n1, n2, n3, n4, n5, n6, by omega, n8, n9⟩
  by_cases z1 : 1 ≤ l1 ∧ 1 ≤ l5
  · obtain ⟨u, w⟩ := z1
    exact lf1b 0 1 0 0 0 1 0 0 0 0 t0 t1 t2 t3 (by omega) (by decide) (by decide) ⟨n0, by omega, n2, n3, n4, by omega, n6, n7, n8, n9⟩
  by_cases z2 : 1 ≤ l2 ∧ 1 ≤ l4
  · obtain ⟨u, w⟩ := z2
    exact lf1b 0 0 1 0 1 0 0 0 0 0 t0 t1 t2 t3 (by omega) (by decide) (by decide) ⟨n0, n1, by omega, n3, by omega, n5, n6, n7, n8, n9⟩
  exact (show False by omega).elim
theorem even_w0 {l0 l1 l2 l3 l4 l5 l6 l7 l8 l9 R : Int} (hn : 0 ≤ l0 ∧ 0 ≤ l1 ∧ 0 ≤ l2 ∧ 0 ≤ l3 ∧ 0 ≤ l4 ∧ 0 ≤ l5 ∧ 0 ≤ l6 ∧ 0 ≤ l7 ∧ 0 ≤ l8 ∧ 0 ≤ l9) (t1 : l0 + l4 + l5 + l6 = R) (t2 : l1 + l4 + l7 + l8 = R) (t3 : l2 + l5 + l7 + l9 = R) (t4 : l3 + l6 + l8 + l9 = R) (tw : l0 + l1 + l2 + l3 ≤ R) (r1 : R % 2 = 0) (r2 : 2 ≤ R) : Prt 2 R l0 l1 l2 l3 l4 l5 l6 l7 l8 l9 := by
  obtain ⟨n0, n1, n2, n3, n4, n5, n6, n7, n8, n9⟩ := hn
  obtain ⟨p6, p8, p9, p3, p4, p5, p0, p7, p1, p2, ⟨a6, a8, a9, a3, a4, a5, a0, a7, a1, a2⟩, ⟨b6, b8, b9, b3, b4, b5, b0, b7, b1, b2⟩, ⟨d0, d1, d2, d3, d4⟩, e0, e1, e2, e3, e4⟩ := even_w (l0 := l6) (l1 := l8) (l2 := l9) (l3 := l3) (l4 := l4) (l5 := l5) (l6 := l0) (l7 := l7) (l8 := l1) (l9 := l2) ⟨n6, n8, n9, n3, n4, n5, n0, n7, n1, n2⟩ (by omega) (by omega) (by omega) (by omega) (by omega) r1 r2
  exact ⟨p0, p1, p2, p3, p4, p5, p6, p7, p8, p9, ⟨a0, a1, a2, a3, a4, a5, a6, a7, a8, a9⟩, ⟨b0, b1, b2, b3, b4, b5, b6, b7, b8, b9⟩, ⟨by omega, by omega, by omega, by omega, by omega⟩, by omega, by omega, by omega, by omega, by omega⟩
theorem even_w1 {l0 l1 l2 l3 l4 l5 l6 l7 l8 l9 R : Int} (hn : 0 ≤ l0 ∧ 0 ≤ l1 ∧ 0 ≤ l2 ∧ 0 ≤ l3 ∧ 0 ≤ l4 ∧ 0 ≤ l5 ∧ 0 ≤ l6 ∧ 0 ≤ l7 ∧ 0 ≤ l8 ∧ 0 ≤ l9) (t0 : l0 + l1 + l2 + l3 = R) (t2 : l1 + l4 + l7 + l8 = R) (t3 : l2 + l5 + l7 + l9 = R) (t4 : l3 + l6 + l8 + l9 = R) (tw : l0 + l4 + l5 + l6 ≤ R) (r1 : R % 2 = 0) (r2 : 2 ≤ R) : Prt 2 R l0 l1 l2 l3 l4 l5 l6 l7 l8 l9 := by
  obtain ⟨n0, n1, n2, n3, n4, n5, n6, n7, n8, n9⟩ := hn
  obtain ⟨p3, p1, p2, p0, p8, p9, p6, p7, p4, p5, ⟨a3, a1, a2, a0, a8, a9, a6, a7, a4, a5⟩, ⟨b3, b1, b2, b0, b8, b9, b6, b7, b4, b5⟩, ⟨d0, d1, d2, d3, d4⟩, e0, e1, e2, e3, e4⟩ := even_w (l0 := l3) (l1 := l1) (l2 := l2) (l3 := l0) (l4 := l8) (l5 := l9) (l6 := l6) (l7 := l7) (l8 := l4) (l9 := l5) ⟨n3, n1, n2, n0, n8, n9, n6, n7, n4, n5⟩ (by omega) (by omega) (by omega) (by omega) (by omega) r1 r2
  exact ⟨p0, p1, p2, p3, p4, p5, p6, p7, p8, p9, ⟨a0, a1, a2, a3, a4, a5, a6, a7, a8, a9⟩, ⟨b0, b1, b2, b3, b4, b5, b6, b7, b8, b9⟩, ⟨by omega, by omega, by omega, by omega, by omega⟩, by omega, by omega, by omega, by omega, by omega⟩
theorem even_w2 {l0 l1 l2 l3 l4 l5 l6 l7 l8 l9 R : Int} (hn : 0 ≤ l0 ∧ 0 ≤ l1 ∧ 0 ≤ l2 ∧ 0 ≤ l3 ∧ 0 ≤ l4 ∧ 0 ≤ l5 ∧ 0 ≤ l6 ∧ 0 ≤ l7 ∧ 0 ≤ l8 ∧ 0 ≤ l9) (t0 : l0 + l1 + l2 + l3 = R) (t1 : l0 + l4 + l5 + l6 = R) (t3 : l2 + l5 + l7 + l9 = R) (t4 : l3 + l6 + l8 + l9 = R) (tw : l1 + l4 + l7 + l8 ≤ R) (r1 : R % 2 = 0) (r2 : 2 ≤ R) : Prt 2 R l0 l1 l2 l3 l4 l5 l6 l7 l8 l9 := by
  obtain ⟨n0, n1, n2, n3, n4, n5, n6, n7, n8, n9⟩ := hn
  obtain ⟨p0, p3, p2, p1, p6, p5, p4, p9, p8, p7, ⟨a0, a3, a2, a1, a6, a5, a4, a9, a8, a7⟩, ⟨b0, b3, b2, b1, b6, b5, b4, b9, b8, b7⟩, ⟨d0, d1, d2, d3, d4⟩, e0, e1, e2, e3, e4⟩ := even_w (l0 := l0) (l1 := l3) (l2 := l2) (l3 := l1) (l4 := l6) (l5 := l5) (l6 := l4) (l7 := l9) (l8 := l8) (l9 := l7) ⟨n0, n3, n2, n1, n6, n5, n4, n9, n8, n7⟩ (by omega) (by omega) (by omega) (by omega) (by omega) r1 r2
  exact ⟨p0, p1, p2, p3, p4, p5, p6, p7, p8, p9, ⟨a0, a1, a2, a3, a4, a5, a6, a7, a8, a9⟩, ⟨b0, b1, b2, b3, b4, b5, b6, b7, b8, b9⟩, ⟨by omega, by omega, by omega, by omega, by omega⟩, by omega, by omega, by omega, by omega, by omega⟩
theorem even_w3 {l0 l1 l2 l3 l4 l5 l6 l7 l8 l9 R : Int} (hn : 0 ≤ l0 ∧ 0 ≤ l1 ∧ 0 ≤ l2 ∧ 0 ≤ l3 ∧ 0 ≤ l4 ∧ 0 ≤ l5 ∧ 0 ≤ l6 ∧ 0 ≤ l7 ∧ 0 ≤ l8 ∧ 0 ≤ l9) (t0 : l0 + l1 + l2 + l3 = R) (t1 : l0 + l4 + l5 + l6 = R) (t2 : l1 + l4 + l7 + l8 = R) (t4 : l3 + l6 + l8 + l9 = R) (tw : l2 + l5 + l7 + l9 ≤ R) (r1 : R % 2 = 0) (r2 : 2 ≤ R) : Prt 2 R l0 l1 l2 l3 l4 l5 l6 l7 l8 l9 := by
  obtain ⟨n0, n1, n2, n3, n4, n5, n6, n7, n8, n9⟩ := hn
  obtain ⟨p0, p1, p3, p2, p4, p6, p5, p8, p7, p9, ⟨a0, a1, a3, a2, a4, a6, a5, a8, a7, a9⟩, ⟨b0, b1, b3, b2, b4, b6, b5, b8, b7, b9⟩, ⟨d0, d1, d2, d3, d4⟩, e0, e1, e2, e3, e4⟩ := even_w (l0 := l0) (l1 := l1) (l2 := l3) (l3 := l2) (l4 := l4) (l5 := l6) (l6 := l5) (l7 := l8) (l8 := l7) (l9 := l9) ⟨n0, n1, n3, n2, n4, n6, n5, n8, n7, n9⟩ (by omega) (by omega) (by omega) (by omega) (by omega) r1 r2
  exact ⟨p0, p1, p2, p3, p4, p5, p6, p7, p8, p9, ⟨a0, a1, a2, a3, a4, a5, a6, a7, a8, a9⟩, ⟨b0, b1, b2, b3, b4, b5, b6, b7, b8, b9⟩, ⟨by omega, by omega, by omega, by omega, by omega⟩, by omega, by omega, by omega, by omega, by omega⟩
theorem even_all (n : Nat) : ∀ {l0 l1 l2 l3 l4 l5 l6 l7 l8 l9 R : Int} (hn : 0 ≤ l0 ∧ 0 ≤ l1 ∧ 0 ≤ l2 ∧ 0 ≤ l3 ∧ 0 ≤ l4 ∧ 0 ≤ l5 ∧ 0 ≤ l6 ∧ 0 ≤ l7 ∧ 0 ≤ l8 ∧ 0 ≤ l9) (h0 : l0 + l1 + l2 + l3 ≤ R) (h1 : l0 + l4 + l5 + l6 ≤ R) (h2 : l1 + l4 + l7 + l8 ≤ R) (h3 : l2 + l5 + l7 + l9 ≤ R) (h4 : l3 + l6 + l8 + l9 ≤ R) (r1 : R % 2 = 0) (r2 : 2 ≤ R) (slack : 5 * R - 2 * (l0 + l1 + l2 + l3 + l4 + l5 + l6 + l7 + l8 + l9) ≤ (n : Int)), Prt 2 R l0 l1 l2 l3 l4 l5 l6 l7 l8 l9 := by
  induction n with
  | zero =>
    intro l0 l1 l2 l3 l4 l5 l6 l7 l8 l9 R hn h0 h1 h2 h3 h4 r1 r2 sl
    have hn' := hn
    obtain ⟨n0, n1, n2, n3, n4, n5, n6, n7, n8, n9⟩ := hn
    have sl2 : 5 * R - ((l0 + l1 + l2 + l3) + (l0 + l4 + l5 + l6) + (l1 + l4 + l7 + l8) + (l2 + l5 + l7 + l9) + (l3 + l6 + l8 + l9)) ≤ 0 := by clear hn' n0 n1 n2 n3 n4 n5 n6 n7 n8 n9 h0 h1 h2 h3 h4 r1 r2; omega
    exact even_w hn' (eq0 h0 h1 h2 h3 h4 sl2) (eq1 h0 h1 h2 h3 h4 sl2) (eq2 h0 h1 h2 h3 h4 sl2) (eq3 h0 h1 h2 h3 h4 sl2) h4 r1 r2
  | succ n ih =>
    intro l0 l1 l2 l3 l4 l5 l6 l7 l8 l9 R hn h0 h1 h2 h3 h4 r1 r2 sl
    have hn' := hn
    obtain ⟨n0, n1, n2, n3, n4, n5, n6, n7, n8, n9⟩ := hn
    by_cases z0 : l0 + l1 + l2 + l3 < R ∧ l0 + l4 + l5 + l6 < R
    · obtain ⟨y1, y2⟩ := z0
      exact pad0 n0 (ih ⟨Int.le_add_one n0, n1, n2, n3, n4, n5, n6, n7, n8, n9⟩ (up0 y1) (up0 y2) h2 h3 h4 r1 r2 (by clear ih hn' n0 n1 n2 n3 n4 n5 n6 n7 n8 n9 h0 h1 h2 h3 h4 y1 y2 r1 r2; omega))
    by_cases z1 : l0 + l1 + l2 + l3 < R ∧ l1 + l4 + l7 + l8 < R
    · obtain ⟨y1, y2⟩ := z1
      exact pad1 n1 (ih ⟨n0, Int.le_add_one n1, n2, n3, n4, n5, n6, n7, n8, n9⟩ (up1 y1) h1 (up0 y2) h3 h4 r1 r2 (by clear ih hn' n0 n1 n2 n3 n4 n5 n6 n7 n8 n9 h0 h1 h2 h3 h4 y1 y2 r1 r2; omega))
    by_cases z2 : l0 + l1 + l2 + l3 < R ∧ l2 + l5 + l7 + l9 < R
    · obtain ⟨y1, y2⟩ := z2
      exact pad2 n2 (ih ⟨n0, n1, Int.le_add_one n2, n3, n4, n5, n6, n7, n8, n9⟩ (up2 y1) h1 h2 (up0 y2) h4 r1 r2 (by clear ih hn' n0 n1 n2 n3 n4 n5 n6 n7 n8 n9 h0 h1 h2 h3 h4 y1 y2 r1 r2; omega))
    by_cases z3 : l0 + l1 + l2 + l3 < R ∧ l3 + l6 + l8 + l9 < R
    · obtain ⟨y1, y2⟩ := z3
      exact pad3 n3 (ih ⟨n0, n1, n2, Int.le_add_one n3, n4, n5, n6, n7, n8, n9⟩ (up3 y1) h1 h2 h3 (up0 y2) r1 r2 (by clear ih hn' n0 n1 n2 n3 n4 n5 n6 n7 n8 n9 h0 h1 h2 h3 h4 y1 y2 r1 r2; omega))
    by_cases z4 : l0 + l4 + l5 + l6 < R ∧ l1 + l4 + l7 + l8 < R
    · obtain ⟨y1, y2⟩ := z4
      exact pad4 n4 (ih ⟨n0, n1, n2, n3, Int.le_add_one n4, n5, n6, n7, n8, n9⟩ h0 (up1 y1) (up1 y2) h3 h4 r1 r2 (by clear ih hn' n0 n1 n2 n3 n4 n5 n6 n7 n8 n9 h0 h1 h2 h3 h4 y1 y2 r1 r2; omega))
    by_cases z5 : l0 + l4 + l5 + l6 < R ∧ l2 + l5 + l7 + l9 < R
    · obtain ⟨y1, y2⟩ := z5
      exact pad5 n5 (ih ⟨n0, n1, n2, n3, n4, Int.le_add_one n5, n6, n7, n8, n9⟩ h0 (up2 y1) h2 (up1 y2) h4 r1 r2 (by clear ih hn' n0 n1 n2 n3 n4 n5 n6 n7 n8 n9 h0 h1 h2 h3 h4 y1 y2 r1 r2; omega))
    by_cases z6 : l0 + l4 + l5 + l6 < R ∧ l3 + l6 + l8 + l9 < R
    · obtain ⟨y1, y2⟩ := z6
      exact pad6 n6 (ih ⟨n0, n1, n2, n3, n4, n5, Int.le_add_one n6, n7, n8, n9⟩ h0 (up3 y1) h2 h3 (up1 y2) r1 r2 (by clear ih hn' n0 n1 n2 n3 n4 n5 n6 n7 n8 n9 h0 h1 h2 h3 h4 y1 y2 r1 r2; omega))
    by_cases z7 : l1 + l4 + l7 + l8 < R ∧ l2 + l5 + l7 + l9 < R
    · obtain ⟨y1, y2⟩ := z7
      exact pad7 n7 (ih ⟨n0, n1, n2, n3, n4, n5, n6, Int.le_add_one n7, n8, n9⟩ h0 h1 (up2 y1) (up2 y2) h4 r1 r2 (by clear ih hn' n0 n1 n2 n3 n4 n5 n6 n7 n8 n9 h0 h1 h2 h3 h4 y1 y2 r1 r2; omega))
    by_cases z8 : l1 + l4 + l7 + l8 < R ∧ l3 + l6 + l8 + l9 < R
    · obtain ⟨y1, y2⟩ := z8
      exact pad8 n8 (ih ⟨n0, n1, n2, n3, n4, n5, n6, n7, Int.le_add_one n8, n9⟩ h0 h1 (up3 y1) h3 (up2 y2) r1 r2 (by clear ih hn' n0 n1 n2 n3 n4 n5 n6 n7 n8 n9 h0 h1 h2 h3 h4 y1 y2 r1 r2; omega))
    by_cases z9 : l2 + l5 + l7 + l9 < R ∧ l3 + l6 + l8 + l9 < R
    · obtain ⟨y1, y2⟩ := z9
      exact pad9 n9 (ih ⟨n0, n1, n2, n3, n4, n5, n6, n7, n8, Int.le_add_one n9⟩ h0 h1 h2 (up3 y1) (up3 y2) r1 r2 (by clear ih hn' n0 n1 n2 n3 n4 n5 n6 n7 n8 n9 h0 h1 h2 h3 h4 y1 y2 r1 r2; omega))
    by_cases c0 : l0 + l1 + l2 + l3 < R
    · exact even_w0 hn' (Int.le_antisymm h1 (Int.not_lt.mp fun x => z0 ⟨c0, x⟩)) (Int.le_antisymm h2 (Int.not_lt.mp fun x => z1 ⟨c0, x⟩)) (Int.le_antisymm h3 (Int.not_lt.mp fun x => z2 ⟨c0, x⟩)) (Int.le_antisymm h4 (Int.not_lt.mp fun x => z3 ⟨c0, x⟩)) h0 r1 r2
    by_cases c1 : l0 + l4 + l5 + l6 < R
    · exact even_w1 hn' (Int.le_antisymm h0 (Int.not_lt.mp c0)) (Int.le_antisymm h2 (Int.not_lt.mp fun x => z4 ⟨c1, x⟩)) (Int.le_antisymm h3 (Int.not_lt.mp fun x => z5 ⟨c1, x⟩)) (Int.le_antisymm h4 (Int.not_lt.mp fun x => z6 ⟨c1, x⟩)) h1 r1 r2
    by_cases c2 : l1 + l4 + l7 + l8 < R
    · exact even_w2 hn' (Int.le_antisymm h0 (Int.not_lt.mp c0)) (Int.le_antisymm h1 (Int.not_lt.mp c1)) (Int.le_antisymm h3 (Int.not_lt.mp fun x => z7 ⟨c2, x⟩)) (Int.le_antisymm h4 (Int.not_lt.mp fun x => z8 ⟨c2, x⟩)) h2 r1 r2
    by_cases c3 : l2 + l5 + l7 + l9 < R
    · exact even_w3 hn' (Int.le_antisymm h0 (Int.not_lt.mp c0)) (Int.le_antisymm h1 (Int.not_lt.mp c1)) (Int.le_antisymm h2 (Int.not_lt.mp c2)) (Int.le_antisymm h4 (Int.not_lt.mp fun x => z9 ⟨c3, x⟩)) h3 r1 r2
    exact even_w hn' (Int.le_antisymm h0 (Int.not_lt.mp c0)) (Int.le_antisymm h1 (Int.not_lt.mp c1)) (Int.le_antisymm h2 (Int.not_lt.mp c2)) (Int.le_antisymm h3 (Int.not_lt.mp c3)) h4 r1 r2
theorem odd_w0 {l0 l1 l2 l3 l4 l5 l6 l7 l8 l9 R : Int} (hn : 0 ≤ l0 ∧ 0 ≤ l1 ∧ 0 ≤ l2 ∧ 0 ≤ l3 ∧ 0 ≤ l4 ∧ 0 ≤ l5 ∧ 0 ≤ l6 ∧ 0 ≤ l7 ∧ 0 ≤ l8 ∧ 0 ≤ l9) (t1 : l0 + l4 + l5 + l6 = R) (t2 : l1 + l4 + l7 + l8 = R) (t3 : l2 + l5 + l7 + l9 = R) (t4 : l3 + l6 + l8 + l9 = R) (tw : l0 + l1 + l2 + l3 ≤ R) (r1 : R % 2 = 1) (r2 : 1 ≤ R) : Prt 1 R l0 l1 l2 l3 l4 l5 l6 l7 l8 l9 := by
  obtain ⟨n0, n1, n2, n3, n4, n5, n6, n7, n8, n9⟩ := hn
  obtain ⟨p6, p8, p9, p3, p4, p5, p0, p7, p1, p2, ⟨a6, a8, a9, a3, a4, a5, a0, a7, a1, a2⟩, ⟨b6, b8, b9, b3, b4, b5, b0, b7, b1, b2⟩, ⟨d0, d1, d2, d3, d4⟩, e0, e1, e2, e3, e4⟩ := odd_w (l0 := l6) (l1 := l8) (l2 := l9) (l3 := l3) (l4 := l4) (l5 := l5) (l6 := l0) (l7 := l7) (l8 := l1) (l9 := l2) ⟨n6, n8, n9, n3, n4, n5, n0, n7, n1, n2⟩ (by omega) (by omega) (by omega) (by omega) (by omega) r1 r2
  exact ⟨p0, p1, p2, p3, p4, p5, p6, p7, p8, p9, ⟨a0, a1, a2, a3, a4, a5, a6, a7, a8, a9⟩, ⟨b0, b1, b2, b3, b4, b5, b6, b7, b8, b9⟩, ⟨by omega, by omega, by omega, by omega, by omega⟩, by omega, by omega, by omega, by omega, by omega⟩
theorem odd_w1 {l0 l1 l2 l3 l4 l5 l6 l7 l8 l9 R : Int} (hn : 0 ≤ l0 ∧ 0 ≤ l1 ∧ 0 ≤ l2 ∧ 0 ≤ l3 ∧ 0 ≤ l4 ∧ 0 ≤ l5 ∧ 0 ≤ l6 ∧ 0 ≤ l7 ∧ 0 ≤ l8 ∧ 0 ≤ l9) (t0 : l0 + l1 + l2 + l3 = R) (t2 : l1 + l4 + l7 + l8 = R) (t3 : l2 + l5 + l7 + l9 = R) (t4 : l3 + l6 + l8 + l9 = R) (tw : l0 + l4 + l5 + l6 ≤ R) (r1 : R % 2 = 1) (r2 : 1 ≤ R) : Prt 1 R l0 l1 l2 l3 l4 l5 l6 l7 l8 l9 := by
  obtain ⟨n0, n1, n2, n3, n4, n5, n6, n7, n8, n9⟩ := hn
  obtain ⟨p3, p1, p2, p0, p8, p9, p6, p7, p4, p5, ⟨a3, a1, a2, a0, a8, a9, a6, a7, a4, a5⟩, ⟨b3, b1, b2, b0, b8, b9, b6, b7, b4, b5⟩, ⟨d0, d1, d2, d3, d4⟩, e0, e1, e2, e3, e4⟩ := odd_w (l0 := l3) (l1 := l1) (l2 := l2) (l3 := l0) (l4 := l8) (l5 := l9) (l6 := l6) (l7 := l7) (l8 := l4) (l9 := l5) ⟨n3, n1, n2, n0, n8, n9, n6, n7, n4, n5⟩ (by omega) (by omega) (by omega) (by omega) (by omega) r1 r2
  exact ⟨p0, p1, p2, p3, p4, p5, p6, p7, p8, p9, ⟨a0, a1, a2, a3, a4, a5, a6, a7, a8, a9⟩, ⟨b0, b1, b2, b3, b4, b5, b6, b7, b8, b9⟩, ⟨by omega, by omega, by omega, by omega, by omega⟩, by omega, by omega, by omega, by omega, by omega⟩
theorem odd_w2 {l0 l1 l2 l3 l4 l5 l6 l7 l8 l9 R : Int} (hn : 0 ≤ l0 ∧ 0 ≤ l1 ∧ 0 ≤ l2 ∧ 0 ≤ l3 ∧ 0 ≤ l4 ∧ 0 ≤ l5 ∧ 0 ≤ l6 ∧ 0 ≤ l7 ∧ 0 ≤ l8 ∧ 0 ≤ l9) (t0 : l0 + l1 + l2 + l3 = R) (t1 : l0 + l4 + l5 + l6 = R) (t3 : l2 + l5 + l7 + l9 = R) (t4 : l3 + l6 + l8 + l9 = R) (tw : l1 + l4 + l7 + l8 ≤ R) (r1 : R % 2 = 1) (r2 : 1 ≤ R) : Prt 1 R l0 l1 l2 l3 l4 l5 l6 l7 l8 l9 := by
  obtain ⟨n0, n1, n2, n3, n4, n5, n6, n7, n8, n9⟩ := hn
  obtain ⟨p0, p3, p2, p1, p6, p5, p4, p9, p8, p7, ⟨a0, a3, a2, a1, a6, a5, a4, a9, a8, a7⟩, ⟨b0, b3, b2, b1, b6, b5, b4, b9, b8, b7⟩, ⟨d0, d1, d2, d3, d4⟩, e0, e1, e2, e3, e4⟩ := odd_w (l0 := l0) (l1 := l3) (l2 := l2) (l3 := l1) (l4 := l6) (l5 := l5) (l6 := l4) (l7 := l9) (l8 := l8) (l9 := l7) ⟨n0, n3, n2, n1, n6, n5, n4, n9, n8, n7⟩ (by omega) (by omega) (by omega) (by omega) (by omega) r1 r2
  exact ⟨p0, p1, p2, p3, p4, p5, p6, p7, p8, p9, ⟨a0, a1, a2, a3, a4, a5, a6, a7, a8, a9⟩, ⟨b0, b1, b2, b3, b4, b5, b6, b7, b8, b9⟩, ⟨by omega, by omega, by omega, by omega, by omega⟩, by omega, by omega, by omega, by omega, by omega⟩
theorem odd_w3 {l0 l1 l2 l3 l4 l5 l6 l7 l8 l9 R : Int} (hn : 0 ≤ l0 ∧ 0 ≤ l1 ∧ 0 ≤ l2 ∧ 0 ≤ l3 ∧ 0 ≤ l4 ∧ 0 ≤ l5 ∧ 0 ≤ l6 ∧ 0 ≤ l7 ∧ 0 ≤ l8 ∧ 0 ≤ l9) (t0 : l0 + l1 + l2 + l3 = R) (t1 : l0 + l4 + l5 + l6 = R) (t2 : l1 + l4 + l7 + l8 = R) (t4 : l3 + l6 + l8 + l9 = R) (tw : l2 + l5 + l7 + l9 ≤ R) (r1 : R % 2 = 1) (r2 : 1 ≤ R) : Prt 1 R l0 l1 l2 l3 l4 l5 l6 l7 l8 l9 := by
  obtain ⟨n0, n1, n2, n3, n4, n5, n6, n7, n8, n9⟩ := hn
  obtain ⟨p0, p1, p3, p2, p4, p6, p5, p8, p7, p9, ⟨a0, a1, a3, a2, a4, a6, a5, a8, a7, a9⟩, ⟨b0, b1, b3, b2, b4, b6, b5, b8, b7, b9⟩, ⟨d0, d1, d2, d3, d4⟩, e0, e1, e2, e3, e4⟩ := odd_w (l0 := l0) (l1 := l1) (l2 := l3) (l3 := l2) (l4 := l4) (l5 := l6) (l6 := l5) (l7 := l8) (l8 := l7) (l9 := l9) ⟨n0, n1, n3, n2, n4, n6, n5, n8, n7, n9⟩ (by omega) (by omega) (by omega) (by omega) (by omega) r1 r2
  exact ⟨p0, p1, p2, p3, p4, p5, p6, p7, p8, p9, ⟨a0, a1, a2, a3, a4, a5, a6, a7, a8, a9⟩, ⟨b0, b1, b2, b3, b4, b5, b6, b7, b8, b9⟩, ⟨by omega, by omega, by omega, by omega, by omega⟩, by omega, by omega, by omega, by omega, by omega⟩
theorem odd_all (n : Nat) : ∀ {l0 l1 l2 l3 l4 l5 l6 l7 l8 l9 R : Int} (hn : 0 ≤ l0 ∧ 0 ≤ l1 ∧ 0 ≤ l2 ∧ 0 ≤ l3 ∧ 0 ≤ l4 ∧ 0 ≤ l5 ∧ 0 ≤ l6 ∧ 0 ≤ l7 ∧ 0 ≤ l8 ∧ 0 ≤ l9) (h0 : l0 + l1 + l2 + l3 ≤ R) (h1 : l0 + l4 + l5 + l6 ≤ R) (h2 : l1 + l4 + l7 + l8 ≤ R) (h3 : l2 + l5 + l7 + l9 ≤ R) (h4 : l3 + l6 + l8 + l9 ≤ R) (r1 : R % 2 = 1) (r2 : 1 ≤ R) (slack : 5 * R - 2 * (l0 + l1 + l2 + l3 + l4 + l5 + l6 + l7 + l8 + l9) ≤ (n : Int)), Prt 1 R l0 l1 l2 l3 l4 l5 l6 l7 l8 l9 := by
  induction n with
  | zero =>
    intro l0 l1 l2 l3 l4 l5 l6 l7 l8 l9 R hn h0 h1 h2 h3 h4 r1 r2 sl
    have hn' := hn
    obtain ⟨n0, n1, n2, n3, n4, n5, n6, n7, n8, n9⟩ := hn
    have sl2 : 5 * R - ((l0 + l1 + l2 + l3) + (l0 + l4 + l5 + l6) + (l1 + l4 + l7 + l8) + (l2 + l5 + l7 + l9) + (l3 + l6 + l8 + l9)) ≤ 0 := by clear hn' n0 n1 n2 n3 n4 n5 n6 n7 n8 n9 h0 h1 h2 h3 h4 r1 r2; omega
    exact odd_w hn' (eq0 h0 h1 h2 h3 h4 sl2) (eq1 h0 h1 h2 h3 h4 sl2) (eq2 h0 h1 h2 h3 h4 sl2) (eq3 h0 h1 h2 h3 h4 sl2) h4 r1 r2
  | succ n ih =>
    intro l0 l1 l2 l3 l4 l5 l6 l7 l8 l9 R hn h0 h1 h2 h3 h4 r1 r2 sl
    have hn' := hn
    obtain ⟨n0, n1, n2, n3, n4, n5, n6, n7, n8, n9⟩ := hn
    by_cases z0 : l0 + l1 + l2 + l3 < R ∧ l0 + l4 + l5 + l6 < R
    · obtain ⟨y1, y2⟩ := z0
      exact pad0 n0 (ih ⟨Int.le_add_one n0, n1, n2, n3, n4, n5, n6, n7, n8, n9⟩ (up0 y1) (up0 y2) h2 h3 h4 r1 r2 (by clear ih hn' n0 n1 n2 n3 n4 n5 n6 n7 n8 n9 h0 h1 h2 h3 h4 y1 y2 r1 r2; omega))
    by_cases z1 : l0 + l1 + l2 + l3 < R ∧ l1 + l4 + l7 + l8 < R
    · obtain ⟨y1, y2⟩ := z1
      exact pad1 n1 (ih ⟨n0, Int.le_add_one n1, n2, n3, n4, n5, n6, n7, n8, n9⟩ (up1 y1) h1 (up0 y2) h3 h4 r1 r2 (by clear ih hn' n0 n1 n2 n3 n4 n5 n6 n7 n8 n9 h0 h1 h2 h3 h4 y1 y2 r1 r2; omega))
    by_cases z2 : l0 + l1 + l2 + l3 < R ∧ l2 + l5 + l7 + l9 < R
    · obtain ⟨y1, y2⟩ := z2
      exact pad2 n2 (ih ⟨n0, n1, Int.le_add_one n2, n3, n4, n5, n6, n7, n8, n9⟩ (up2 y1) h1 h2 (up0 y2) h4 r1 r2 (by clear ih hn' n0 n1 n2 n3 n4 n5 n6 n7 n8 n9 h0 h1 h2 h3 h4 y1 y2 r1 r2; omega))
    by_cases z3 : l0 + l1 + l2 + l3 < R ∧ l3 + l6 + l8 + l9 < R
    · obtain ⟨y1, y2⟩ := z3
      exact pad3 n3 (ih ⟨n0, n1, n2, Int.le_add_one n3, n4, n5, n6, n7, n8, n9⟩ (up3 y1) h1 h2 h3 (up0 y2) r1 r2 (by clear ih hn' n0 n1 n2 n3 n4 n5 n6 n7 n8 n9 h0 h1 h2 h3 h4 y1 y2 r1 r2; omega))
    by_cases z4 : l0 + l4 + l5 + l6 < R ∧ l1 + l4 + l7 + l8 < R
    · obtain ⟨y1, y2⟩ := z4
      exact pad4 n4 (ih ⟨n0, n1, n2, n3, Int.le_add_one n4, n5, n6, n7, n8, n9⟩ h0 (up1 y1) (up1 y2) h3 h4 r1 r2 (by clear ih hn' n0 n1 n2 n3 n4 n5 n6 n7 n8 n9 h0 h1 h2 h3 h4 y1 y2 r1 r2; omega))
    by_cases z5 : l0 + l4 + l5 + l6 < R ∧ l2 + l5 + l7 + l9 < R
    · obtain ⟨y1, y2⟩ := z5
      exact pad5 n5 (ih ⟨n0, n1, n2, n3, n4, Int.le_add_one n5, n6, n7, n8, n9⟩ h0 (up2 y1) h2 (up1 y2) h4 r1 r2 (by clear ih hn' n0 n1 n2 n3 n4 n5 n6 n7 n8 n9 h0 h1 h2 h3 h4 y1 y2 r1 r2; omega))
    by_cases z6 : l0 + l4 + l5 + l6 < R ∧ l3 + l6 + l8 + l9 < R
    · obtain ⟨y1, y2⟩ := z6
      exact pad6 n6 (ih ⟨n0, n1, n2, n3, n4, n5, Int.le_add_one n6, n7, n8, n9⟩ h0 (up3 y1) h2 h3 (up1 y2) r1 r2 (by clear ih hn' n0 n1 n2 n3 n4 n5 n6 n7 n8 n9 h0 h1 h2 h3 h4 y1 y2 r1 r2; omega))
    by_cases z7 : l1 + l4 + l7 + l8 < R ∧ l2 + l5 + l7 + l9 < R
    · obtain ⟨y1, y2⟩ := z7
      exact pad7 n7 (ih ⟨n0, n1, n2, n3, n4, n5, n6, Int.le_add_one n7, n8, n9⟩ h0 h1 (up2 y1) (up2 y2) h4 r1 r2 (by clear ih hn' n0 n1 n2 n3 n4 n5 n6 n7 n8 n9 h0 h1 h2 h3 h4 y1 y2 r1 r2; omega))
    by_cases z8 : l1 + l4 + l7 + l8 < R ∧ l3 + l6 + l8 + l9 < R
    · obtain ⟨y1, y2⟩ := z8
      exact pad8 n8 (ih ⟨n0, n1, n2, n3, n4, n5, n6, n7, Int.le_add_one n8, n9⟩ h0 h1 (up3 y1) h3 (up2 y2) r1 r2 (by clear ih hn' n0 n1 n2 n3 n4 n5 n6 n7 n8 n9 h0 h1 h2 h3 h4 y1 y2 r1 r2; omega))
    by_cases z9 : l2 + l5 + l7 + l9 < R ∧ l3 + l6 + l8 + l9 < R
    · obtain ⟨y1, y2⟩ := z9
      exact pad9 n9 (ih ⟨n0, n1, n2, n3, n4, n5, n6, n7, n8, Int.le_add_one n9⟩ h0 h1 h2 (up3 y1) (up3 y2) r1 r2 (by clear ih hn' n0 n1 n2 n3 n4 n5 n6 n7 n8 n9 h0 h1 h2 h3 h4 y1 y2 r1 r2; omega))
    by_cases c0 : l0 + l1 + l2 + l3 < R
    · exact odd_w0 hn' (Int.le_antisymm h1 (Int.not_lt.mp fun x => z0 ⟨c0, x⟩)) (Int.le_antisymm h2 (Int.not_lt.mp fun x => z1 ⟨c0, x⟩)) (Int.le_antisymm h3 (Int.not_lt.mp fun x => z2 ⟨c0, x⟩)) (Int.le_antisymm h4 (Int.not_lt.mp fun x => z3 ⟨c0, x⟩)) h0 r1 r2
    by_cases c1 : l0 + l4 + l5 + l6 < R
    · exact odd_w1 hn' (Int.le_antisymm h0 (Int.not_lt.mp c0)) (Int.le_antisymm h2 (Int.not_lt.mp fun x => z4 ⟨c1, x⟩)) (Int.le_antisymm h3 (Int.not_lt.mp fun x => z5 ⟨c1, x⟩)) (Int.le_antisymm h4 (Int.not_lt.mp fun x => z6 ⟨c1, x⟩)) h1 r1 r2
    by_cases c2 : l1 + l4 + l7 + l8 < R
    · exact odd_w2 hn' (Int.le_antisymm h0 (Int.not_lt.mp c0)) (Int.le_antisymm h1 (Int.not_lt.mp c1)) (Int.le_antisymm h3 (Int.not_lt.mp fun x => z7 ⟨c2, x⟩)) (Int.le_antisymm h4 (Int.not_lt.mp fun x => z8 ⟨c2, x⟩)) h2 r1 r2
    by_cases c3 : l2 + l5 + l7 + l9 < R
    · exact odd_w3 hn' (Int.le_antisymm h0 (Int.not_lt.mp c0)) (Int.le_antisymm h1 (Int.not_lt.mp c1)) (Int.le_antisymm h2 (Int.not_lt.mp c2)) (Int.le_antisymm h4 (Int.not_lt.mp fun x => z9 ⟨c3, x⟩)) h3 r1 r2
    exact odd_w hn' (Int.le_antisymm h0 (Int.not_lt.mp c0)) (Int.le_antisymm h1 (Int.not_lt.mp c1)) (Int.le_antisymm h2 (Int.not_lt.mp c2)) (Int.le_antisymm h3 (Int.not_lt.mp c3)) h4 r1 r2
end K18
set_option Elab.async false
set_option linter.all false
set_option maxRecDepth 100000
set_option maxHeartbeats 4000000
namespace K16
open PySem PySem.Spec PyProof.Rows L2 Evl DL
/-! each load that is let by an even room has a part let by 2 that leaves what the room less 2 lets; each one let by an odd room has a part let by 1 alike -/
theorem gt1 {a b : Int} (h : ¬ a ≤ b) : b + 1 ≤ a := by omega
theorem le1 {a : Int} (h : 2 ≤ a) : 1 ≤ a := by omega
theorem sa2 {x y px py R t : Int} (g : 0 + x + y ≤ R) (q : t ≤ px + py) : 0 + (x - px) + (y - py) ≤ R - t := by omega
theorem sb2 {x y px py R t u : Int} (g : ¬ R - (0 + x + y) ≤ u) (q : t ≤ px + py + (u + 1)) : 0 + (x - px) + (y - py) ≤ R - t := by omega
theorem sa3 {x y z px py pz R t : Int} (g : 0 + x + y + z ≤ R) (q : t ≤ px + py + pz) : 0 + (x - px) + (y - py) + (z - pz) ≤ R - t := by omega
theorem sb3 {x y z px py pz R t u : Int} (g : ¬ R - (0 + x + y + z) ≤ u) (q : t ≤ px + py + pz + (u + 1)) : 0 + (x - px) + (y - py) + (z - pz) ≤ R - t := by omega
def in21 (p : List Int) : Bool := (LL 2 1).contains p
theorem leaf21 {a R : Int} (pa : Int) (hm : in21 [pa] = true) (h : pa ≤ a ∧ 0 + (a - pa) ≤ R - 1 ∧ 0 + (a - pa) ≤ R - 1) :
    ∃ p ∈ LL 2 1, blw p [a] = true ∧ ∀ y ∈ sms 2 (zw (· - ·) [a] p), y ≤ R - 1 := by
  obtain ⟨ha, k0, k1⟩ := h
  refine ⟨[pa], List.contains_iff_mem.mp hm, ?_, ?_⟩
  · simp [blw, ha]
  · intro y hy
    have hy : y ∈ [0 + (a - pa), 0 + (a - pa)] := hy
    simp only [List.mem_cons, List.not_mem_nil, or_false] at hy
    rcases hy with rfl | rfl <;> assumption
theorem heart21 {a R : Int} (hn : 0 ≤ a) (g0 : 0 + a ≤ R) (g1 : 0 + a ≤ R) (hR : R % 2 = 1 ∧ 1 ≤ R) : ∃ p ∈ LL 2 1, blw p [a] = true ∧ ∀ y ∈ sms 2 (zw (· - ·) [a] p), y ≤ R - 1 := by
  have na := hn
  obtain ⟨r1, r2⟩ := hR
  by_cases z1 : a ≤ 0
  ·
    exact leaf21 (0) (by decide +kernel) (by omega)
  ·
    exact leaf21 (1) (by decide +kernel) (by omega)
def in22 (p : List Int) : Bool := (LL 2 2).contains p
theorem leaf22 {a R : Int} (pa : Int) (hm : in22 [pa] = true) (h : pa ≤ a ∧ 0 + (a - pa) ≤ R - 2 ∧ 0 + (a - pa) ≤ R - 2) :
    ∃ p ∈ LL 2 2, blw p [a] = true ∧ ∀ y ∈ sms 2 (zw (· - ·) [a] p), y ≤ R - 2 := by
  obtain ⟨ha, k0, k1⟩ := h
  refine ⟨[pa], List.contains_iff_mem.mp hm, ?_, ?_⟩
  · simp [blw, ha]
  · intro y hy
    have hy : y ∈ [0 + (a - pa), 0 + (a - pa)] := hy
    simp only [List.mem_cons, List.not_mem_nil, or_false] at hy
    rcases hy with rfl | rfl <;> assumption
theorem heart22 {a R : Int} (hn : 0 ≤ a) (g0 : 0 + a ≤ R) (g1 : 0 + a ≤ R) (hR : R % 2 = 0 ∧ 2 ≤ R) : ∃ p ∈ LL 2 2, blw p [a] = true ∧ ∀ y ∈ sms 2 (zw (· - ·) [a] p), y ≤ R - 2 := by
  have na := hn
  obtain ⟨r1, r2⟩ := hR
  by_cases z1 : a ≤ 0
  ·
    exact leaf22 (0) (by decide +kernel) (by omega)
  ·
    by_cases z2 : a ≤ 1
    ·
      exact leaf22 (1) (by decide +kernel) (by omega)
    ·
      exact leaf22 (2) (by decide +kernel) (by omega)
theorem ex31 : LL 3 1 = ([[0, 0, 0], [0, 0, 1], [0, 1, 0], [1, 0, 0]] : List (List Int)) := by decide +kernel
def in31 (p : List Int) : Bool := ([[0, 0, 0], [0, 0, 1], [0, 1, 0], [1, 0, 0]] : List (List Int)).contains p
theorem leaf31 {a b c R : Int} (pa pb pc : Int) (hm : in31 [pa, pb, pc] = true) (h : pa ≤ a ∧ pb ≤ b ∧ pc ≤ c ∧ 0 + (a - pa) + (b - pb) ≤ R - 1 ∧ 0 + (a - pa) + (c - pc) ≤ R - 1 ∧ 0 + (b - pb) + (c - pc) ≤ R - 1) :
    ∃ p ∈ LL 3 1, blw p [a, b, c] = true ∧ ∀ y ∈ sms 3 (zw (· - ·) [a, b, c] p), y ≤ R - 1 := by
  obtain ⟨ha, hb, hc, k0, k1, k2⟩ := h
  refine ⟨[pa, pb, pc], (by rw [ex31]; exact List.contains_iff_mem.mp hm), ?_, ?_⟩
  · simp [blw, ha, hb, hc]
  · intro y hy
    have hy : y ∈ [0 + (a - pa) + (b - pb), 0 + (a - pa) + (c - pc), 0 + (b - pb) + (c - pc)] := hy
    simp only [List.mem_cons, List.not_mem_nil, or_false] at hy
    rcases hy with rfl | rfl | rfl <;> assumption
theorem heart31 {a b c R : Int} (hn : 0 ≤ a ∧ 0 ≤ b ∧ 0 ≤ c) (g0 : 0 + a + b ≤ R) (g1 : 0 + a + c ≤ R) (g2 : 0 + b + c ≤ R) (hR : R % 2 = 1 ∧ 1 ≤ R) : ∃ p ∈ LL 3 1, blw p [a, b, c] = true ∧ ∀ y ∈ sms 3 (zw (· - ·) [a, b, c] p), y ≤ R - 1 := by
  obtain ⟨na, nb, nc⟩ := hn
  obtain ⟨r1, r2⟩ := hR
  by_cases z1 : a ≤ 0
  ·
    by_cases z2 : b ≤ 0
    ·
      by_cases z3 : c ≤ 0
      ·
        exact leaf31 (0) (0) (0) (by decide +kernel) ⟨na, nb, nc, by omega, by omega, by omega⟩
      ·
        exact leaf31 (0) (0) (1) (by decide +kernel) ⟨na, nb, gt1 z3, by omega, sa2 g1 (by decide), sa2 g2 (by decide)⟩
    ·
      exact leaf31 (0) (1) (0) (by decide +kernel) ⟨na, gt1 z2, nc, sa2 g0 (by decide), by omega, sa2 g2 (by decide)⟩
  ·
    by_cases z2 : R - (0 + b + c) ≤ 0
    ·
      by_cases z3 : R - (0 + a + b) ≤ 0
      ·
        exact leaf31 (0) (1) (0) (by decide +kernel) ⟨na, by omega, nc, sa2 g0 (by decide), by omega, sa2 g2 (by decide)⟩
      ·
        exact leaf31 (0) (0) (1) (by decide +kernel) ⟨na, nb, by omega, sb2 z3 (by decide), sa2 g1 (by decide), sa2 g2 (by decide)⟩
    ·
      exact leaf31 (1) (0) (0) (by decide +kernel) ⟨gt1 z1, nb, nc, sa2 g0 (by decide), sa2 g1 (by decide), sb2 z2 (by decide)⟩
theorem ex32 : LL 3 2 = ([[0, 0, 0], [0, 0, 1], [0, 0, 2], [0, 1, 0], [0, 1, 1], [0, 2, 0], [1, 0, 0], [1, 0, 1], [1, 1, 0], [1, 1, 1], [2, 0, 0]] : List (List Int)) := by decide +kernel
def in32 (p : List Int) : Bool := ([[0, 0, 0], [0, 0, 1], [0, 0, 2], [0, 1, 0], [0, 1, 1], [0, 2, 0], [1, 0, 0], [1, 0, 1], [1, 1, 0], [1, 1, 1], [2, 0, 0]] : List (List Int)).contains p
theorem leaf32 {a b c R : Int} (pa pb pc : Int) (hm : in32 [pa, pb, pc] = true) (h : pa ≤ a ∧ pb ≤ b ∧ pc ≤ c ∧ 0 + (a - pa) + (b - pb) ≤ R - 2 ∧ 0 + (a - pa) + (c - pc) ≤ R - 2 ∧ 0 + (b - pb) + (c - pc) ≤ R - 2) :
    ∃ p ∈ LL 3 2, blw p [a, b, c] = true ∧ ∀ y ∈ sms 3 (zw (· - ·) [a, b, c] p), y ≤ R - 2 := by
  obtain ⟨ha, hb, hc, k0, k1, k2⟩ := h
  refine ⟨[pa, pb, pc], (by rw [ex32]; exact List.contains_iff_mem.mp hm), ?_, ?_⟩
  · simp [blw, ha, hb, hc]
  · intro y hy
    have hy : y ∈ [0 + (a - pa) + (b - pb), 0 + (a - pa) + (c - pc), 0 + (b - pb) + (c - pc)] := hy
    simp only [List.mem_cons, List.not_mem_nil, or_false] at hy
    rcases hy with rfl | rfl | rfl <;> assumption
theorem heart32 {a b c R : Int} (hn : 0 ≤ a ∧ 0 ≤ b ∧ 0 ≤ c) (g0 : 0 + a + b ≤ R) (g1 : 0 + a + c ≤ R) (g2 : 0 + b + c ≤ R) (hR : R % 2 = 0 ∧ 2 ≤ R) : ∃ p ∈ LL 3 2, blw p [a, b, c] = true ∧ ∀ y ∈ sms 3 (zw (· - ·) [a, b, c] p), y ≤ R - 2 := by
  obtain ⟨na, nb, nc⟩ := hn
  obtain ⟨r1, r2⟩ := hR
  by_cases z1 : a ≤ 0
  ·
    by_cases z2 : b ≤ 1
    ·
      by_cases z3 : c ≤ 1
      ·
        by_cases z4 : b ≤ 0
        ·
          by_cases z5 : c ≤ 0
          ·
            exact leaf32 (0) (0) (0) (by decide +kernel) ⟨na, nb, nc, by omega, by omega, by omega⟩
          ·
            exact leaf32 (0) (0) (1) (by decide +kernel) ⟨na, nb, gt1 z5, by omega, by omega, by omega⟩
        ·
          by_cases z5 : c ≤ 0
          ·
            exact leaf32 (0) (1) (0) (by decide +kernel) ⟨na, gt1 z4, nc, by omega, by omega, by omega⟩
          ·
            exact leaf32 (0) (1) (1) (by decide +kernel) ⟨na, gt1 z4, gt1 z5, by omega, by omega, sa2 g2 (by decide)⟩
      ·
        exact leaf32 (0) (0) (2) (by decide +kernel) ⟨na, nb, gt1 z3, by omega, sa2 g1 (by decide), sa2 g2 (by decide)⟩
    ·
      exact leaf32 (0) (2) (0) (by decide +kernel) ⟨na, gt1 z2, nc, sa2 g0 (by decide), by omega, sa2 g2 (by decide)⟩
  ·
    by_cases z2 : b ≤ 0
    ·
      by_cases z3 : c ≤ 0
      ·
        by_cases z4 : a ≤ 1
        ·
          exact leaf32 (1) (0) (0) (by decide +kernel) ⟨gt1 z1, nb, nc, by omega, by omega, by omega⟩
        ·
          exact leaf32 (2) (0) (0) (by decide +kernel) ⟨gt1 z4, nb, nc, sa2 g0 (by decide), sa2 g1 (by decide), by omega⟩
      ·
        exact leaf32 (1) (0) (1) (by decide +kernel) ⟨gt1 z1, nb, gt1 z3, by omega, sa2 g1 (by decide), by omega⟩
    ·
      by_cases z3 : c ≤ 0
      ·
        exact leaf32 (1) (1) (0) (by decide +kernel) ⟨gt1 z1, gt1 z2, nc, sa2 g0 (by decide), by omega, by omega⟩
      ·
        exact leaf32 (1) (1) (1) (by decide +kernel) ⟨gt1 z1, gt1 z2, gt1 z3, sa2 g0 (by decide), sa2 g1 (by decide), sa2 g2 (by decide)⟩
theorem ex41 : LL 4 1 = ([[0, 0, 0, 0, 0, 0], [0, 0, 0, 0, 0, 1], [0, 0, 0, 0, 1, 0], [0, 0, 0, 1, 0, 0], [0, 0, 1, 0, 0, 0], [0, 0, 1, 1, 0, 0], [0, 1, 0, 0, 0, 0], [0, 1, 0, 0, 1, 0], [1, 0, 0, 0, 0, 0], [1, 0, 0, 0, 0, 1]] : List (List Int)) := by decide +kernel
def in41 (p : List Int) : Bool := ([[0, 0, 0, 0, 0, 0], [0, 0, 0, 0, 0, 1], [0, 0, 0, 0, 1, 0], [0, 0, 0, 1, 0, 0], [0, 0, 1, 0, 0, 0], [0, 0, 1, 1, 0, 0], [0, 1, 0, 0, 0, 0], [0, 1, 0, 0, 1, 0], [1, 0, 0, 0, 0, 0], [1, 0, 0, 0, 0, 1]] : List (List Int)).contains p
theorem leaf41 {a b c d e f R : Int} (pa pb pc pd pe pf : Int) (hm : in41 [pa, pb, pc, pd, pe, pf] = true) (h : pa ≤ a ∧ pb ≤ b ∧ pc ≤ c ∧ pd ≤ d ∧ pe ≤ e ∧ pf ≤ f ∧ 0 + (a - pa) + (b - pb) + (c - pc) ≤ R - 1 ∧ 0 + (a - pa) + (d - pd) + (e - pe) ≤ R - 1 ∧ 0 + (b - pb) + (d - pd) + (f - pf) ≤ R - 1 ∧ 0 + (c - pc) + (e - pe) + (f - pf) ≤ R - 1) :
    ∃ p ∈ LL 4 1, blw p [a, b, c, d, e, f] = true ∧ ∀ y ∈ sms 4 (zw (· - ·) [a, b, c, d, e, f] p), y ≤ R - 1 := by
  obtain ⟨ha, hb, hc, hd, he, hf, k0, k1, k2, k3⟩ := h
  refine ⟨[pa, pb, pc, pd, pe, pf], (by rw [ex41]; exact List.contains_iff_mem.mp hm), ?_, ?_⟩
  · simp [blw, ha, hb, hc, hd, he, hf]
  · intro y hy
    have hy : y ∈ [0 + (a - pa) + (b - pb) + (c - pc), 0 + (a - pa) + (d - pd) + (e - pe), 0 + (b - pb) + (d - pd) + (f - pf), 0 + (c - pc) + (e - pe) + (f - pf)] := hy
    simp only [List.mem_cons, List.not_mem_nil, or_false] at hy
    rcases hy with rfl | rfl | rfl | rfl <;> assumption
theorem heart41 {a b c d e f R : Int} (hn : 0 ≤ a ∧ 0 ≤ b ∧ 0 ≤ c ∧ 0 ≤ d ∧ 0 ≤ e ∧ 0 ≤ f) (g0 : 0 + a + b + c ≤ R) (g1 : 0 + a + d + e ≤ R) (g2 : 0 + b + d + f ≤ R) (g3 : 0 + c + e + f ≤ R) (hR : R % 2 = 1 ∧ 1 ≤ R) : ∃ p ∈ LL 4 1, blw p [a, b, c, d, e, f] = true ∧ ∀ y ∈ sms 4 (zw (· - ·) [a, b, c, d, e, f] p), y ≤ R - 1 := by
  obtain ⟨na, nb, nc, nd, ne, nf⟩ := hn
  obtain ⟨r1, r2⟩ := hR
  by_cases z1 : a ≤ 0
  ·
    by_cases z2 : b ≤ 0
    ·
      by_cases z3 : e ≤ 0
      ·
        by_cases z4 : f ≤ 0
        ·
          by_cases z5 : c ≤ 0
          ·
            by_cases z6 : d ≤ 0
            ·
              exact leaf41 (0) (0) (0) (0) (0) (0) (by decide +kernel) ⟨na, nb, nc, nd, ne, nf, by omega, by omega, by omega, by omega⟩
            ·
              exact leaf41 (0) (0) (0) (1) (0) (0) (by decide +kernel) ⟨na, nb, nc, gt1 z6, ne, nf, by omega, sa3 g1 (by decide), sa3 g2 (by decide), by omega⟩
          ·
            by_cases z6 : d ≤ 0
            ·
              exact leaf41 (0) (0) (1) (0) (0) (0) (by decide +kernel) ⟨na, nb, gt1 z5, nd, ne, nf, sa3 g0 (by decide), by omega, by omega, sa3 g3 (by decide)⟩
            ·
              exact leaf41 (0) (0) (1) (1) (0) (0) (by decide +kernel) ⟨na, nb, gt1 z5, gt1 z6, ne, nf, sa3 g0 (by decide), sa3 g1 (by decide), sa3 g2 (by decide), sa3 g3 (by decide)⟩
        ·
          exact leaf41 (0) (0) (0) (0) (0) (1) (by decide +kernel) ⟨na, nb, nc, nd, ne, gt1 z4, by omega, by omega, sa3 g2 (by decide), sa3 g3 (by decide)⟩
      ·
        by_cases z4 : R - (0 + b + d + f) ≤ 0
        ·
          by_cases z5 : c ≤ 0
          ·
            by_cases z6 : R - (0 + a + d + e) ≤ 0
            ·
              exact leaf41 (0) (0) (0) (1) (0) (0) (by decide +kernel) ⟨na, nb, nc, by omega, ne, nf, by omega, sa3 g1 (by decide), sa3 g2 (by decide), by omega⟩
            ·
              exact leaf41 (0) (0) (0) (0) (0) (1) (by decide +kernel) ⟨na, nb, nc, nd, ne, by omega, by omega, sb3 z6 (by decide), sa3 g2 (by decide), sa3 g3 (by decide)⟩
          ·
            exact leaf41 (0) (0) (1) (1) (0) (0) (by decide +kernel) ⟨na, nb, gt1 z5, by omega, ne, nf, sa3 g0 (by decide), sa3 g1 (by decide), sa3 g2 (by decide), sa3 g3 (by decide)⟩
        ·
          exact leaf41 (0) (0) (0) (0) (1) (0) (by decide +kernel) ⟨na, nb, nc, nd, gt1 z3, nf, by omega, sa3 g1 (by decide), sb3 z4 (by decide), sa3 g3 (by decide)⟩
    ·
      by_cases z3 : e ≤ 0
      ·
        by_cases z4 : R - (0 + c + e + f) ≤ 0
        ·
          by_cases z5 : d ≤ 0
          ·
            by_cases z6 : R - (0 + a + b + c) ≤ 0
            ·
              exact leaf41 (0) (0) (1) (0) (0) (0) (by decide +kernel) ⟨na, nb, by omega, nd, ne, nf, sa3 g0 (by decide), by omega, by omega, sa3 g3 (by decide)⟩
            ·
              exact leaf41 (0) (0) (0) (0) (0) (1) (by decide +kernel) ⟨na, nb, nc, nd, ne, by omega, sb3 z6 (by decide), by omega, sa3 g2 (by decide), sa3 g3 (by decide)⟩
          ·
            exact leaf41 (0) (0) (1) (1) (0) (0) (by decide +kernel) ⟨na, nb, by omega, gt1 z5, ne, nf, sa3 g0 (by decide), sa3 g1 (by decide), sa3 g2 (by decide), sa3 g3 (by decide)⟩
        ·
          exact leaf41 (0) (1) (0) (0) (0) (0) (by decide +kernel) ⟨na, gt1 z2, nc, nd, ne, nf, sa3 g0 (by decide), by omega, sa3 g2 (by decide), sb3 z4 (by decide)⟩
      ·
        exact leaf41 (0) (1) (0) (0) (1) (0) (by decide +kernel) ⟨na, gt1 z2, nc, nd, gt1 z3, nf, sa3 g0 (by decide), sa3 g1 (by decide), sa3 g2 (by decide), sa3 g3 (by decide)⟩
  ·
    by_cases z2 : f ≤ 0
    ·
      by_cases z3 : R - (0 + b + d + f) ≤ 0
      ·
        by_cases z4 : c ≤ 0
        ·
          by_cases z5 : e ≤ 0
          ·
            by_cases z6 : R - (0 + a + b + c) ≤ 0
            ·
              exact leaf41 (0) (1) (0) (0) (0) (0) (by decide +kernel) ⟨na, by omega, nc, nd, ne, nf, sa3 g0 (by decide), by omega, sa3 g2 (by decide), by omega⟩
            ·
              exact leaf41 (0) (0) (0) (1) (0) (0) (by decide +kernel) ⟨na, nb, nc, by omega, ne, nf, sb3 z6 (by decide), sa3 g1 (by decide), sa3 g2 (by decide), by omega⟩
          ·
            exact leaf41 (0) (1) (0) (0) (1) (0) (by decide +kernel) ⟨na, by omega, nc, nd, gt1 z5, nf, sa3 g0 (by decide), sa3 g1 (by decide), sa3 g2 (by decide), sa3 g3 (by decide)⟩
        ·
          exact leaf41 (0) (0) (1) (1) (0) (0) (by decide +kernel) ⟨na, nb, gt1 z4, by omega, ne, nf, sa3 g0 (by decide), sa3 g1 (by decide), sa3 g2 (by decide), sa3 g3 (by decide)⟩
      ·
        by_cases z4 : R - (0 + c + e + f) ≤ 0
        ·
          by_cases z5 : b ≤ 0
          ·
            by_cases z6 : d ≤ 0
            ·
              by_cases z7 : R - (0 + a + b + c) ≤ 0
              ·
                exact leaf41 (0) (0) (1) (0) (0) (0) (by decide +kernel) ⟨na, nb, by omega, nd, ne, nf, sa3 g0 (by decide), by omega, sb3 z3 (by decide), sa3 g3 (by decide)⟩
              ·
                exact leaf41 (0) (0) (0) (0) (1) (0) (by decide +kernel) ⟨na, nb, nc, nd, by omega, nf, sb3 z7 (by decide), sa3 g1 (by decide), sb3 z3 (by decide), sa3 g3 (by decide)⟩
            ·
              exact leaf41 (0) (0) (1) (1) (0) (0) (by decide +kernel) ⟨na, nb, by omega, gt1 z6, ne, nf, sa3 g0 (by decide), sa3 g1 (by decide), sa3 g2 (by decide), sa3 g3 (by decide)⟩
          ·
            exact leaf41 (0) (1) (0) (0) (1) (0) (by decide +kernel) ⟨na, gt1 z5, nc, nd, by omega, nf, sa3 g0 (by decide), sa3 g1 (by decide), sa3 g2 (by decide), sa3 g3 (by decide)⟩
        ·
          exact leaf41 (1) (0) (0) (0) (0) (0) (by decide +kernel) ⟨gt1 z1, nb, nc, nd, ne, nf, sa3 g0 (by decide), sa3 g1 (by decide), sb3 z3 (by decide), sb3 z4 (by decide)⟩
    ·
      exact leaf41 (1) (0) (0) (0) (0) (1) (by decide +kernel) ⟨gt1 z1, nb, nc, nd, ne, gt1 z2, sa3 g0 (by decide), sa3 g1 (by decide), sa3 g2 (by decide), sa3 g3 (by decide)⟩
theorem ex42 : LL 4 2 = ([[0, 0, 0, 0, 0, 0], [0, 0, 0, 0, 0, 1], [0, 0, 0, 0, 0, 2], [0, 0, 0, 0, 1, 0], [0, 0, 0, 0, 1, 1], [0, 0, 0, 0, 2, 0], [0, 0, 0, 1, 0, 0], [0, 0, 0, 1, 0, 1], [0, 0, 0, 1, 1, 0], [0, 0, 0, 1, 1, 1], [0, 0, 0, 2, 0, 0], [0, 0, 1, 0, 0, 0], [0, 0, 1, 0, 0, 1], [0, 0, 1, 0, 1, 0], [0, 0, 1, 1, 0, 0], [0, 0, 1, 1, 0, 1], [0, 0, 1, 1, 1, 0], [0, 0, 1, 2, 0, 0], [0, 0, 2, 0, 0, 0], [0, 0, 2, 1, 0, 0], [0, 0, 2, 2, 0, 0], [0, 1, 0, 0, 0, 0], [0, 1, 0, 0, 0, 1], [0, 1, 0, 0, 1, 0], [0, 1, 0, 0, 1, 1], [0, 1, 0, 0, 2, 0], [0, 1, 0, 1, 0, 0], [0, 1, 0, 1, 1, 0], [0, 1, 1, 0, 0, 0], [0, 1, 1, 0, 0, 1], [0, 1, 1, 0, 1, 0], [0, 1, 1, 1, 0, 0], [0, 1, 1, 1, 1, 0], [0, 2, 0, 0, 0, 0], [0, 2, 0, 0, 1, 0], [0, 2, 0, 0, 2, 0], [1, 0, 0, 0, 0, 0], [1, 0, 0, 0, 0, 1], [1, 0, 0, 0, 0, 2], [1, 0, 0, 0, 1, 0], [1, 0, 0, 0, 1, 1], [1, 0, 0, 1, 0, 0], [1, 0, 0, 1, 0, 1], [1, 0, 1, 0, 0, 0], [1, 0, 1, 0, 0, 1], [1, 0, 1, 0, 1, 0], [1, 0, 1, 1, 0, 0], [1, 0, 1, 1, 0, 1], [1, 1, 0, 0, 0, 0], [1, 1, 0, 0, 0, 1], [1, 1, 0, 0, 1, 0], [1, 1, 0, 0, 1, 1], [1, 1, 0, 1, 0, 0], [2, 0, 0, 0, 0, 0], [2, 0, 0, 0, 0, 1], [2, 0, 0, 0, 0, 2]] : List (List Int)) := by decide +kernel
def in42 (p : List Int) : Bool := ([[0, 0, 0, 0, 0, 0], [0, 0, 0, 0, 0, 1], [0, 0, 0, 0, 0, 2], [0, 0, 0, 0, 1, 0], [0, 0, 0, 0, 1, 1], [0, 0, 0, 0, 2, 0], [0, 0, 0, 1, 0, 0], [0, 0, 0, 1, 0, 1], [0, 0, 0, 1, 1, 0], [0, 0, 0, 1, 1, 1], [0, 0, 0, 2, 0, 0], [0, 0, 1, 0, 0, 0], [0, 0, 1, 0, 0, 1], [0, 0, 1, 0, 1, 0], [0, 0, 1, 1, 0, 0], [0, 0, 1, 1, 0, 1], [0, 0, 1, 1, 1, 0], [0, 0, 1, 2, 0, 0], [0, 0, 2, 0, 0, 0], [0, 0, 2, 1, 0, 0], [0, 0, 2, 2, 0, 0], [0, 1, 0, 0, 0, 0], [0, 1, 0, 0, 0, 1], [0, 1, 0, 0, 1, 0], [0, 1, 0, 0, 1, 1], [0, 1, 0, 0, 2, 0], [0, 1, 0, 1, 0, 0], [0, 1, 0, 1, 1, 0], [0, 1, 1, 0, 0, 0], [0, 1, 1, 0, 0, 1], [0, 1, 1, 0, 1, 0], [0, 1, 1, 1, 0, 0], [0, 1, 1, 1, 1, 0], [0, 2, 0, 0, 0, 0], [0, 2, 0, 0, 1, 0], [0, 2, 0, 0, 2, 0], [1, 0, 0, 0, 0, 0], [1, 0, 0, 0, 0, 1], [1, 0, 0, 0, 0, 2], [1, 0, 0, 0, 1, 0], [1, 0, 0, 0, 1, 1], [1, 0, 0, 1, 0, 0], [1, 0, 0, 1, 0, 1], [1, 0, 1, 0, 0, 0], [1, 0, 1, 0, 0, 1], [1, 0, 1, 0, 1, 0], [1, 0, 1, 1, 0, 0], [1, 0, 1, 1, 0, 1], [1, 1, 0, 0, 0, 0], [1, 1, 0, 0, 0, 1], [1, 1, 0, 0, 1, 0], [1, 1, 0, 0, 1, 1], [1, 1, 0, 1, 0, 0], [2, 0, 0, 0, 0, 0], [2, 0, 0, 0, 0, 1], [2, 0, 0, 0, 0, 2]] : List (List Int)).contains p
theorem leaf42 {a b c d e f R : Int} (pa pb pc pd pe pf : Int) (hm : in42 [pa, pb, pc, pd, pe, pf] = true) (h : pa ≤ a ∧ pb ≤ b ∧ pc ≤ c ∧ pd ≤ d ∧ pe ≤ e ∧ pf ≤ f ∧ 0 + (a - pa) + (b - pb) + (c - pc) ≤ R - 2 ∧ 0 + (a - pa) + (d - pd) + (e - pe) ≤ R - 2 ∧ 0 + (b - pb) + (d - pd) + (f - pf) ≤ R - 2 ∧ 0 + (c - pc) + (e - pe) + (f - pf) ≤ R - 2) :
    ∃ p ∈ LL 4 2, blw p [a, b, c, d, e, f] = true ∧ ∀ y ∈ sms 4 (zw (· - ·) [a, b, c, d, e, f] p), y ≤ R - 2 := by
  obtain ⟨ha, hb, hc, hd, he, hf, k0, k1, k2, k3⟩ := h
  refine ⟨[pa, pb, pc, pd, pe, pf], (by rw [ex42]; exact List.contains_iff_mem.mp hm), ?_, ?_⟩
  · simp [blw, ha, hb, hc, hd, he, hf]
  · intro y hy
    have hy : y ∈ [0 + (a - pa) + (b - pb) + (c - pc), 0 + (a - pa) + (d - pd) + (e - pe), 0 + (b - pb) + (d - pd) + (f - pf), 0 + (c - pc) + (e - pe) + (f - pf)] := hy
    simp only [List.mem_cons, List.not_mem_nil, or_false] at hy
    rcases hy with rfl | rfl | rfl | rfl <;> assumption
theorem heart42 {a b c d e f R : Int} (hn : 0 ≤ a ∧ 0 ≤ b ∧ 0 ≤ c ∧ 0 ≤ d ∧ 0 ≤ e ∧ 0 ≤ f) (g0 : 0 + a + b + c ≤ R) (g1 : 0 + a + d + e ≤ R) (g2 : 0 + b + d + f ≤ R) (g3 : 0 + c + e + f ≤ R) (hR : R % 2 = 0 ∧ 2 ≤ R) : ∃ p ∈ LL 4 2, blw p [a, b, c, d, e, f] = true ∧ ∀ y ∈ sms 4 (zw (· - ·) [a, b, c, d, e, f] p), y ≤ R - 2 := by
  obtain ⟨na, nb, nc, nd, ne, nf⟩ := hn
  obtain ⟨r1, r2⟩ := hR
  by_cases z1 : R - (0 + a + b + c) ≤ 1
  ·
    by_cases z2 : R - (0 + a + d + e) ≤ 1
    ·
      by_cases z3 : R - (0 + b + d + f) ≤ 1
      ·
        by_cases z4 : R - (0 + c + e + f) ≤ 1
        ·
          by_cases z5 : a ≤ 1
          ·
            by_cases z6 : b ≤ 1
            ·
              by_cases z7 : c ≤ 1
              ·
                by_cases z8 : a ≤ 0
                ·
                  by_cases z9 : b ≤ 0
                  ·
                    by_cases z10 : d ≤ 1
                    ·
                      by_cases z11 : e ≤ 0
                      ·
                        by_cases z12 : f ≤ 0
                        ·
                          exact leaf42 (0) (0) (1) (1) (0) (0) (by decide +kernel) ⟨na, nb, by omega, by omega, ne, nf, by omega, by omega, by omega, by omega⟩
                        ·
                          exact leaf42 (0) (0) (1) (1) (0) (1) (by decide +kernel) ⟨na, nb, by omega, by omega, ne, gt1 z12, by omega, by omega, sa3 g2 (by decide), sa3 g3 (by decide)⟩
                      ·
                        exact leaf42 (0) (0) (1) (1) (1) (0) (by decide +kernel) ⟨na, nb, by omega, by omega, gt1 z11, nf, by omega, sa3 g1 (by decide), by omega, sa3 g3 (by decide)⟩
                    ·
                      exact leaf42 (0) (0) (1) (2) (0) (0) (by decide +kernel) ⟨na, nb, by omega, gt1 z10, ne, nf, by omega, sa3 g1 (by decide), sa3 g2 (by decide), by omega⟩
                  ·
                    by_cases z10 : c ≤ 0
                    ·
                      by_cases z11 : d ≤ 0
                      ·
                        by_cases z12 : e ≤ 1
                        ·
                          by_cases z13 : f ≤ 0
                          ·
                            exact leaf42 (0) (1) (0) (0) (1) (0) (by decide +kernel) ⟨na, gt1 z9, nc, nd, by omega, nf, by omega, by omega, by omega, by omega⟩
                          ·
                            exact leaf42 (0) (1) (0) (0) (1) (1) (by decide +kernel) ⟨na, gt1 z9, nc, nd, by omega, gt1 z13, by omega, by omega, sa3 g2 (by decide), sa3 g3 (by decide)⟩
                        ·
                          exact leaf42 (0) (1) (0) (0) (2) (0) (by decide +kernel) ⟨na, gt1 z9, nc, nd, gt1 z12, nf, by omega, sa3 g1 (by decide), by omega, sa3 g3 (by decide)⟩
                      ·
                        exact leaf42 (0) (1) (0) (1) (1) (0) (by decide +kernel) ⟨na, gt1 z9, nc, gt1 z11, by omega, nf, by omega, sa3 g1 (by decide), sa3 g2 (by decide), by omega⟩
                    ·
                      by_cases z11 : d ≤ 0
                      ·
                        exact leaf42 (0) (1) (1) (0) (1) (0) (by decide +kernel) ⟨na, gt1 z9, gt1 z10, nd, by omega, nf, sa3 g0 (by decide), by omega, by omega, sa3 g3 (by decide)⟩
                      ·
                        by_cases z12 : e ≤ 0
                        ·
                          exact leaf42 (0) (1) (1) (1) (0) (0) (by decide +kernel) ⟨na, gt1 z9, gt1 z10, gt1 z11, ne, nf, sa3 g0 (by decide), by omega, sa3 g2 (by decide), by omega⟩
                        ·
                          exact leaf42 (0) (1) (1) (1) (1) (0) (by decide +kernel) ⟨na, gt1 z9, gt1 z10, gt1 z11, gt1 z12, nf, sa3 g0 (by decide), sa3 g1 (by decide), sa3 g2 (by decide), sa3 g3 (by decide)⟩
                ·
                  by_cases z9 : b ≤ 0
                  ·
                    by_cases z10 : c ≤ 0
                    ·
                      by_cases z11 : d ≤ 0
                      ·
                        by_cases z12 : e ≤ 0
                        ·
                          by_cases z13 : f ≤ 1
                          ·
                            exact leaf42 (1) (0) (0) (0) (0) (1) (by decide +kernel) ⟨gt1 z8, nb, nc, nd, ne, by omega, by omega, by omega, by omega, by omega⟩
                          ·
                            exact leaf42 (1) (0) (0) (0) (0) (2) (by decide +kernel) ⟨gt1 z8, nb, nc, nd, ne, gt1 z13, by omega, by omega, sa3 g2 (by decide), sa3 g3 (by decide)⟩
                        ·
                          exact leaf42 (1) (0) (0) (0) (1) (1) (by decide +kernel) ⟨gt1 z8, nb, nc, nd, gt1 z12, by omega, by omega, sa3 g1 (by decide), by omega, sa3 g3 (by decide)⟩
                      ·
                        exact leaf42 (1) (0) (0) (1) (0) (1) (by decide +kernel) ⟨gt1 z8, nb, nc, gt1 z11, ne, by omega, by omega, sa3 g1 (by decide), sa3 g2 (by decide), by omega⟩
                    ·
                      by_cases z11 : d ≤ 0
                      ·
                        exact leaf42 (1) (0) (1) (0) (0) (1) (by decide +kernel) ⟨gt1 z8, nb, gt1 z10, nd, ne, by omega, sa3 g0 (by decide), by omega, by omega, sa3 g3 (by decide)⟩
                      ·
                        by_cases z12 : f ≤ 0
                        ·
                          exact leaf42 (1) (0) (1) (1) (0) (0) (by decide +kernel) ⟨gt1 z8, nb, gt1 z10, gt1 z11, ne, nf, sa3 g0 (by decide), sa3 g1 (by decide), by omega, by omega⟩
                        ·
                          exact leaf42 (1) (0) (1) (1) (0) (1) (by decide +kernel) ⟨gt1 z8, nb, gt1 z10, gt1 z11, ne, gt1 z12, sa3 g0 (by decide), sa3 g1 (by decide), sa3 g2 (by decide), sa3 g3 (by decide)⟩
                  ·
                    by_cases z10 : e ≤ 0
                    ·
                      exact leaf42 (1) (1) (0) (0) (0) (1) (by decide +kernel) ⟨gt1 z8, gt1 z9, nc, nd, ne, by omega, sa3 g0 (by decide), by omega, sa3 g2 (by decide), by omega⟩
                    ·
                      by_cases z11 : f ≤ 0
                      ·
                        exact leaf42 (1) (1) (0) (0) (1) (0) (by decide +kernel) ⟨gt1 z8, gt1 z9, nc, nd, gt1 z10, nf, sa3 g0 (by decide), sa3 g1 (by decide), by omega, by omega⟩
                      ·
                        exact leaf42 (1) (1) (0) (0) (1) (1) (by decide +kernel) ⟨gt1 z8, gt1 z9, nc, nd, gt1 z10, gt1 z11, sa3 g0 (by decide), sa3 g1 (by decide), sa3 g2 (by decide), sa3 g3 (by decide)⟩
              ·
                by_cases z8 : d ≤ 1
                ·
                  exact leaf42 (0) (0) (2) (1) (0) (0) (by decide +kernel) ⟨na, nb, gt1 z7, by omega, ne, nf, sa3 g0 (by decide), by omega, by omega, sa3 g3 (by decide)⟩
                ·
                  exact leaf42 (0) (0) (2) (2) (0) (0) (by decide +kernel) ⟨na, nb, gt1 z7, gt1 z8, ne, nf, sa3 g0 (by decide), sa3 g1 (by decide), sa3 g2 (by decide), sa3 g3 (by decide)⟩
            ·
              by_cases z7 : e ≤ 1
              ·
                exact leaf42 (0) (2) (0) (0) (1) (0) (by decide +kernel) ⟨na, gt1 z6, nc, nd, by omega, nf, sa3 g0 (by decide), by omega, sa3 g2 (by decide), by omega⟩
              ·
                exact leaf42 (0) (2) (0) (0) (2) (0) (by decide +kernel) ⟨na, gt1 z6, nc, nd, gt1 z7, nf, sa3 g0 (by decide), sa3 g1 (by decide), sa3 g2 (by decide), sa3 g3 (by decide)⟩
          ·
            by_cases z6 : f ≤ 1
            ·
              exact leaf42 (2) (0) (0) (0) (0) (1) (by decide +kernel) ⟨gt1 z5, nb, nc, nd, ne, by omega, sa3 g0 (by decide), sa3 g1 (by decide), by omega, by omega⟩
            ·
              exact leaf42 (2) (0) (0) (0) (0) (2) (by decide +kernel) ⟨gt1 z5, nb, nc, nd, ne, gt1 z6, sa3 g0 (by decide), sa3 g1 (by decide), sa3 g2 (by decide), sa3 g3 (by decide)⟩
        ·
          by_cases z5 : a ≤ 0
          ·
            exact leaf42 (0) (1) (0) (1) (0) (0) (by decide +kernel) ⟨na, by omega, nc, by omega, ne, nf, by omega, by omega, sa3 g2 (by decide), sb3 z4 (by decide)⟩
          ·
            by_cases z6 : b ≤ 0
            ·
              exact leaf42 (1) (0) (0) (1) (0) (0) (by decide +kernel) ⟨gt1 z5, nb, nc, by omega, ne, nf, by omega, sa3 g1 (by decide), by omega, sb3 z4 (by decide)⟩
            ·
              by_cases z7 : d ≤ 0
              ·
                exact leaf42 (1) (1) (0) (0) (0) (0) (by decide +kernel) ⟨gt1 z5, gt1 z6, nc, nd, ne, nf, sa3 g0 (by decide), by omega, by omega, sb3 z4 (by decide)⟩
              ·
                exact leaf42 (1) (1) (0) (1) (0) (0) (by decide +kernel) ⟨gt1 z5, gt1 z6, nc, gt1 z7, ne, nf, sa3 g0 (by decide), sa3 g1 (by decide), sa3 g2 (by decide), sb3 z4 (by decide)⟩
      ·
        by_cases z4 : R - (0 + c + e + f) ≤ 1
        ·
          by_cases z5 : a ≤ 0
          ·
            exact leaf42 (0) (0) (1) (0) (1) (0) (by decide +kernel) ⟨na, nb, by omega, nd, by omega, nf, by omega, by omega, sb3 z3 (by decide), sa3 g3 (by decide)⟩
          ·
            by_cases z6 : c ≤ 0
            ·
              exact leaf42 (1) (0) (0) (0) (1) (0) (by decide +kernel) ⟨gt1 z5, nb, nc, nd, by omega, nf, by omega, sa3 g1 (by decide), sb3 z3 (by decide), by omega⟩
            ·
              by_cases z7 : e ≤ 0
              ·
                exact leaf42 (1) (0) (1) (0) (0) (0) (by decide +kernel) ⟨gt1 z5, nb, gt1 z6, nd, ne, nf, sa3 g0 (by decide), by omega, sb3 z3 (by decide), by omega⟩
              ·
                exact leaf42 (1) (0) (1) (0) (1) (0) (by decide +kernel) ⟨gt1 z5, nb, gt1 z6, nd, gt1 z7, nf, sa3 g0 (by decide), sa3 g1 (by decide), sb3 z3 (by decide), sa3 g3 (by decide)⟩
        ·
          by_cases z5 : a ≤ 1
          ·
            exact leaf42 (1) (0) (0) (0) (0) (0) (by decide +kernel) ⟨by omega, nb, nc, nd, ne, nf, by omega, by omega, sb3 z3 (by decide), sb3 z4 (by decide)⟩
          ·
            exact leaf42 (2) (0) (0) (0) (0) (0) (by decide +kernel) ⟨gt1 z5, nb, nc, nd, ne, nf, sa3 g0 (by decide), sa3 g1 (by decide), sb3 z3 (by decide), sb3 z4 (by decide)⟩
    ·
      by_cases z3 : R - (0 + b + d + f) ≤ 1
      ·
        by_cases z4 : R - (0 + c + e + f) ≤ 1
        ·
          by_cases z5 : b ≤ 0
          ·
            exact leaf42 (0) (0) (1) (0) (0) (1) (by decide +kernel) ⟨na, nb, by omega, nd, ne, by omega, by omega, sb3 z2 (by decide), by omega, sa3 g3 (by decide)⟩
          ·
            by_cases z6 : c ≤ 0
            ·
              exact leaf42 (0) (1) (0) (0) (0) (1) (by decide +kernel) ⟨na, gt1 z5, nc, nd, ne, by omega, by omega, sb3 z2 (by decide), sa3 g2 (by decide), by omega⟩
            ·
              by_cases z7 : f ≤ 0
              ·
                exact leaf42 (0) (1) (1) (0) (0) (0) (by decide +kernel) ⟨na, gt1 z5, gt1 z6, nd, ne, nf, sa3 g0 (by decide), sb3 z2 (by decide), by omega, by omega⟩
              ·
                exact leaf42 (0) (1) (1) (0) (0) (1) (by decide +kernel) ⟨na, gt1 z5, gt1 z6, nd, ne, gt1 z7, sa3 g0 (by decide), sb3 z2 (by decide), sa3 g2 (by decide), sa3 g3 (by decide)⟩
        ·
          by_cases z5 : b ≤ 1
          ·
            exact leaf42 (0) (1) (0) (0) (0) (0) (by decide +kernel) ⟨na, by omega, nc, nd, ne, nf, by omega, sb3 z2 (by decide), by omega, sb3 z4 (by decide)⟩
          ·
            exact leaf42 (0) (2) (0) (0) (0) (0) (by decide +kernel) ⟨na, gt1 z5, nc, nd, ne, nf, sa3 g0 (by decide), sb3 z2 (by decide), sa3 g2 (by decide), sb3 z4 (by decide)⟩
      ·
        by_cases z4 : c ≤ 1
        ·
          by_cases z5 : c ≤ 0
          ·
            exact leaf42 (1) (1) (0) (0) (0) (0) (by decide +kernel) ⟨by omega, by omega, nc, nd, ne, nf, sa3 g0 (by decide), sb3 z2 (by decide), sb3 z3 (by decide), by omega⟩
          ·
            by_cases z6 : a ≤ 0
            ·
              exact leaf42 (0) (0) (1) (0) (0) (0) (by decide +kernel) ⟨na, nb, gt1 z5, nd, ne, nf, by omega, sb3 z2 (by decide), sb3 z3 (by decide), by omega⟩
            ·
              exact leaf42 (1) (0) (1) (0) (0) (0) (by decide +kernel) ⟨gt1 z6, nb, gt1 z5, nd, ne, nf, sa3 g0 (by decide), sb3 z2 (by decide), sb3 z3 (by decide), by omega⟩
        ·
          exact leaf42 (0) (0) (2) (0) (0) (0) (by decide +kernel) ⟨na, nb, gt1 z4, nd, ne, nf, sa3 g0 (by decide), sb3 z2 (by decide), sb3 z3 (by decide), sa3 g3 (by decide)⟩
  ·
    by_cases z2 : R - (0 + a + d + e) ≤ 1
    ·
      by_cases z3 : R - (0 + b + d + f) ≤ 1
      ·
        by_cases z4 : R - (0 + c + e + f) ≤ 1
        ·
          by_cases z5 : d ≤ 0
          ·
            exact leaf42 (0) (0) (0) (0) (1) (1) (by decide +kernel) ⟨na, nb, nc, nd, by omega, by omega, sb3 z1 (by decide), by omega, by omega, sa3 g3 (by decide)⟩
          ·
            by_cases z6 : e ≤ 0
            ·
              exact leaf42 (0) (0) (0) (1) (0) (1) (by decide +kernel) ⟨na, nb, nc, gt1 z5, ne, by omega, sb3 z1 (by decide), by omega, sa3 g2 (by decide), by omega⟩
            ·
              by_cases z7 : f ≤ 0
              ·
                exact leaf42 (0) (0) (0) (1) (1) (0) (by decide +kernel) ⟨na, nb, nc, gt1 z5, gt1 z6, nf, sb3 z1 (by decide), sa3 g1 (by decide), by omega, by omega⟩
              ·
                exact leaf42 (0) (0) (0) (1) (1) (1) (by decide +kernel) ⟨na, nb, nc, gt1 z5, gt1 z6, gt1 z7, sb3 z1 (by decide), sa3 g1 (by decide), sa3 g2 (by decide), sa3 g3 (by decide)⟩
        ·
          by_cases z5 : d ≤ 1
          ·
            exact leaf42 (0) (0) (0) (1) (0) (0) (by decide +kernel) ⟨na, nb, nc, by omega, ne, nf, sb3 z1 (by decide), by omega, by omega, sb3 z4 (by decide)⟩
          ·
            exact leaf42 (0) (0) (0) (2) (0) (0) (by decide +kernel) ⟨na, nb, nc, gt1 z5, ne, nf, sb3 z1 (by decide), sa3 g1 (by decide), sa3 g2 (by decide), sb3 z4 (by decide)⟩
      ·
        by_cases z4 : e ≤ 1
        ·
          by_cases z5 : e ≤ 0
          ·
            exact leaf42 (1) (0) (0) (1) (0) (0) (by decide +kernel) ⟨by omega, nb, nc, by omega, ne, nf, sb3 z1 (by decide), sa3 g1 (by decide), sb3 z3 (by decide), by omega⟩
          ·
            by_cases z6 : a ≤ 0
            ·
              exact leaf42 (0) (0) (0) (0) (1) (0) (by decide +kernel) ⟨na, nb, nc, nd, gt1 z5, nf, sb3 z1 (by decide), by omega, sb3 z3 (by decide), by omega⟩
            ·
              exact leaf42 (1) (0) (0) (0) (1) (0) (by decide +kernel) ⟨gt1 z6, nb, nc, nd, gt1 z5, nf, sb3 z1 (by decide), sa3 g1 (by decide), sb3 z3 (by decide), by omega⟩
        ·
          exact leaf42 (0) (0) (0) (0) (2) (0) (by decide +kernel) ⟨na, nb, nc, nd, gt1 z4, nf, sb3 z1 (by decide), sa3 g1 (by decide), sb3 z3 (by decide), sa3 g3 (by decide)⟩
    ·
      by_cases z3 : f ≤ 1
      ·
        by_cases z4 : R - (0 + b + d + f) ≤ 1
        ·
          by_cases z5 : f ≤ 0
          ·
            exact leaf42 (0) (1) (0) (1) (0) (0) (by decide +kernel) ⟨na, by omega, nc, by omega, ne, nf, sb3 z1 (by decide), sb3 z2 (by decide), sa3 g2 (by decide), by omega⟩
          ·
            by_cases z6 : b ≤ 0
            ·
              exact leaf42 (0) (0) (0) (0) (0) (1) (by decide +kernel) ⟨na, nb, nc, nd, ne, gt1 z5, sb3 z1 (by decide), sb3 z2 (by decide), by omega, by omega⟩
            ·
              exact leaf42 (0) (1) (0) (0) (0) (1) (by decide +kernel) ⟨na, gt1 z6, nc, nd, ne, gt1 z5, sb3 z1 (by decide), sb3 z2 (by decide), sa3 g2 (by decide), by omega⟩
        ·
          by_cases z5 : R - (0 + c + e + f) ≤ 1
          ·
            by_cases z6 : c ≤ 0
            ·
              exact leaf42 (0) (0) (0) (0) (0) (1) (by decide +kernel) ⟨na, nb, nc, nd, ne, by omega, sb3 z1 (by decide), sb3 z2 (by decide), sb3 z4 (by decide), by omega⟩
            ·
              by_cases z7 : c ≤ 1
              ·
                exact leaf42 (0) (0) (1) (0) (1) (0) (by decide +kernel) ⟨na, nb, gt1 z6, nd, by omega, nf, sb3 z1 (by decide), sb3 z2 (by decide), sb3 z4 (by decide), sa3 g3 (by decide)⟩
              ·
                exact leaf42 (0) (0) (2) (0) (0) (0) (by decide +kernel) ⟨na, nb, gt1 z7, nd, ne, nf, sa3 g0 (by decide), sb3 z2 (by decide), sb3 z4 (by decide), sa3 g3 (by decide)⟩
          ·
            exact leaf42 (0) (0) (0) (0) (0) (0) (by decide +kernel) ⟨na, nb, nc, nd, ne, nf, sb3 z1 (by decide), sb3 z2 (by decide), sb3 z4 (by decide), sb3 z5 (by decide)⟩
      ·
        exact leaf42 (0) (0) (0) (0) (0) (2) (by decide +kernel) ⟨na, nb, nc, nd, ne, gt1 z3, sb3 z1 (by decide), sb3 z2 (by decide), sa3 g2 (by decide), sa3 g3 (by decide)⟩
def rng (t : Int) : List Int := if t = 2 then [0, 1, 2] else [0, 1]
theorem rng_mem {t x : Int} (ht : t = 2 ∨ t = 1) (h0 : 0 ≤ x) (h1 : x ≤ t) : x ∈ rng t := by
  rcases ht with rfl | rfl
  · have : x = 0 ∨ x = 1 ∨ x = 2 := by omega
    rcases this with rfl | rfl | rfl <;> decide
  · have : x = 0 ∨ x = 1 := by omega
    rcases this with rfl | rfl <;> decide
def E5 (t : Int) : List (List Int) := (rng t).flatMap fun p0 => (rng t).flatMap fun p1 => if t < p0 + p1 then [] else (rng t).flatMap fun p2 => if t < p0 + p1 + p2 then [] else (rng t).flatMap fun p3 => if t < p0 + p1 + p2 + p3 then [] else (rng t).flatMap fun p4 => if t < p0 + p4 ∨ t < p1 + p4 then [] else (rng t).flatMap fun p5 => if t < p0 + p4 + p5 ∨ t < p2 + p5 then [] else (rng t).flatMap fun p6 => if t < p0 + p4 + p5 + p6 ∨ t < p3 + p6 then [] else (rng t).flatMap fun p7 => if t < p1 + p4 + p7 ∨ t < p2 + p5 + p7 then [] else (rng t).flatMap fun p8 => if t < p1 + p4 + p7 + p8 ∨ t < p3 + p6 + p8 then [] else (rng t).flatMap fun p9 => if t < p2 + p5 + p7 + p9 ∨ t < p3 + p6 + p8 + p9 then [] else [[p0, p1, p2, p3, p4, p5, p6, p7, p8, p9]]
theorem E5_ok : LL 5 2 = E5 2 ∧ LL 5 1 = E5 1 := by decide +kernel
theorem LL5_mem {t p0 p1 p2 p3 p4 p5 p6 p7 p8 p9 : Int} (ht : t = 2 ∨ t = 1) (n0 : 0 ≤ p0) (n1 : 0 ≤ p1) (n2 : 0 ≤ p2) (n3 : 0 ≤ p3) (n4 : 0 ≤ p4) (n5 : 0 ≤ p5) (n6 : 0 ≤ p6) (n7 : 0 ≤ p7) (n8 : 0 ≤ p8) (n9 : 0 ≤ p9) (d0 : p0 + p1 + p2 + p3 ≤ t) (d1 : p0 + p4 + p5 + p6 ≤ t) (d2 : p1 + p4 + p7 + p8 ≤ t) (d3 : p2 + p5 + p7 + p9 ≤ t) (d4 : p3 + p6 + p8 + p9 ≤ t) : [p0, p1, p2, p3, p4, p5, p6, p7, p8, p9] ∈ LL 5 t := by
  have e : LL 5 t = E5 t := by
    rcases ht with rfl | rfl
    · exact E5_ok.1
    · exact E5_ok.2
  rw [e]
  unfold E5
  refine List.mem_flatMap.mpr ⟨p0, rng_mem ht n0 (by omega), ?_⟩
  refine List.mem_flatMap.mpr ⟨p1, rng_mem ht n1 (by omega), ?_⟩
  rw [if_neg (by omega)]
  refine List.mem_flatMap.mpr ⟨p2, rng_mem ht n2 (by omega), ?_⟩
  rw [if_neg (by omega)]
  refine List.mem_flatMap.mpr ⟨p3, rng_mem ht n3 (by omega), ?_⟩
  rw [if_neg (by omega)]
  refine List.mem_flatMap.mpr ⟨p4, rng_mem ht n4 (by omega), ?_⟩
  rw [if_neg (by omega)]
  refine List.mem_flatMap.mpr ⟨p5, rng_mem ht n5 (by omega), ?_⟩
  rw [if_neg (by omega)]
  refine List.mem_flatMap.mpr ⟨p6, rng_mem ht n6 (by omega), ?_⟩
  rw [if_neg (by omega)]
  refine List.mem_flatMap.mpr ⟨p7, rng_mem ht n7 (by omega), ?_⟩
  rw [if_neg (by omega)]
  refine List.mem_flatMap.mpr ⟨p8, rng_mem ht n8 (by omega), ?_⟩
  rw [if_neg (by omega)]
  refine List.mem_flatMap.mpr ⟨p9, rng_mem ht n9 (by omega), ?_⟩
  rw [if_neg (by omega)]
  exact List.mem_singleton.mpr rfl
end K16
set_option Elab.async false
set_option linter.all false
set_option maxRecDepth 100000
set_option maxHeartbeats 4000000
/-! keys of any depth: data as keys, dicts that have them -/
namespace DL
open PySem PySem.Spec PyProof.Rows L2 Evl

mutual
/-- data as a key: numbers, texts, None and tuples of such -/
def keyD : PyData → Option NestedKey
  | .none => some .none
  | .bool b => some (.num (if b = true then 1 else 0))
  | .int i => some (.num i)
  | .str x => some (.text x)
  | .tuple ds => (keyDs ds).map .tup
  | _ => none
def keyDs : List PyData → Option (List NestedKey)
  | [] => some []
  | d :: ds => match keyD d, keyDs ds with
    | some k, some ks => some (k :: ks)
    | _, _ => none
end
theorem keyDs_cons {d : PyData} {ds : List PyData} {ks : List NestedKey} (h : keyDs (d :: ds) = some ks) : ∃ k ks', ks = k :: ks' ∧ keyD d = some k ∧ keyDs ds = some ks' := by
  rw [keyDs] at h
  cases h1 : keyD d with
  | none => rw [h1] at h; cases h
  | some k =>
    cases h2 : keyDs ds with
    | none => rw [h1, h2] at h; cases h
    | some ks' =>
      rw [h1, h2] at h
      exact ⟨k, ks', (Option.some.inj h).symm, rfl, rfl⟩
section
variable {X : Cx} {pins : List (Addr × Obj)} {σ : L2.St} {H : Hp} {s : Shared}
mutual
theorem nested_of (I : Inv X pins σ H s) : ∀ (d : PyData) (k : NestedKey) (v : V) (u : Value), keyD d = some k → Dp X.K H v d → RelV v u → NestedIs s.heap k u
  | .none, k, v, u, hk, hd, r => by
    rw [keyD] at hk
    cases hk
    cases hd
    cases r
    exact .none
  | .bool b, k, v, u, hk, hd, r => by
    rw [keyD] at hk
    cases hk
    cases hd
    cases r
    exact .bool rfl
  | .int i, k, v, u, hk, hd, r => by
    rw [keyD] at hk
    cases hk
    cases hd
    obtain ⟨t, rfl⟩ := r
    exact .int i t
  | .str x, k, v, u, hk, hd, r => by
    rw [keyD] at hk
    cases hk
    cases hd
    obtain ⟨t, rfl⟩ := r
    exact .text x t
  | .list _, _, _, _, hk, _, _ => by rw [keyD] at hk <;> cases hk
  | .dict _, _, _, _, hk, _, _ => by rw [keyD] at hk <;> cases hk
  | .tuple ds, k, v, u, hk, hd, r => by
    rw [keyD] at hk
    obtain ⟨ks, hks, rfl⟩ := Option.map_eq_some_iff.mp hk
    cases hd with
    | tup hs ha =>
      cases r
      obtain ⟨its, rv, p, _⟩ := I.tuple hs
      obtain ⟨o, ho, hc, n, hd⟩ := p
      exact .tup ho hc hd (by simpa using nested_all I ds ks _ _ hks ha rv)
theorem nested_all (I : Inv X pins σ H s) : ∀ (ds : List PyData) (ks : List NestedKey) (vs : List V) (us : List Value), keyDs ds = some ks → DpAll X.K H vs ds → Vals vs us → NestedAll s.heap ks us
  | [], ks, vs, us, hk, hd, r => by
    rw [keyDs] at hk
    cases hk
    cases hd
    cases r
    exact .nil
  | d :: ds, ks, vs, us, hk, hd, r => by
    obtain ⟨k, ks', rfl, h1, h2⟩ := keyDs_cons hk
    cases hd with
    | cons a b =>
      cases r with
      | cons r1 r2 => exact .cons (nested_of I d k _ _ h1 a r1) (nested_all I ds ks' _ _ h2 b r2)
end
end

/-! ### the dict -/
/-- a dict of keys of any depth: each key, the object that is it, the value -/
def NdO (P : Program) (w : World) (d : Addr) (kvs : List (NestedKey × Addr × V)) : HO := .ext fun h => kvs.length ≤ sizeLine ∧ (d == sysModules) = false ∧
  ∃ xs : List (NestedKey × Addr × Value), Paired (fun p q => p.1 = q.1 ∧ p.2.1 = q.2.1 ∧ RelV p.2.2 q.2.2) kvs xs ∧
    ∃ o es ep, h.get? d = some o ∧ o.ExactDict ∧ o.data = .dict es ep ∧ es.toList = xs.map (entryOfKey (nestedKind P w)) ∧ (xs.map (·.1)).Nodup
/-- it stands at d, and its keys are what they are -/
structure Nd (P : Program) (w : World) (K : PySem.W.Frag) (H : Hp) (d : Addr) (kvs : List (NestedKey × Addr × V)) : Prop where
  at_ : H d = some (NdO P w d kvs)
  keys : ∀ x ∈ kvs, ∃ dd, Dp K H (.ref x.2.1) dd ∧ imm dd = true ∧ keyD dd = some x.1 ∧ x.1.depth ≤ 8
theorem ndO_ok {P : Program} {w : World} {H : Hp} {h : Heap} {d : Addr} {kvs : List (NestedKey × Addr × V)} (hl : kvs.length ≤ sizeLine) (hs : (d == sysModules) = false) {xs : List (NestedKey × Addr × Value)} (pr : Paired (fun p q => p.1 = q.1 ∧ p.2.1 = q.2.1 ∧ RelV p.2.2 q.2.2) kvs xs)
    {o : Obj} {es : Array DictEntry} {ep : Nat} (h1 : h.get? d = some o) (h2 : o.ExactDict) (h3 : o.data = .dict es ep) (h4 : es.toList = xs.map (entryOfKey (nestedKind P w))) (h5 : (xs.map (·.1)).Nodup) : ObjOk P w H h d (NdO P w d kvs) :=
  ⟨⟨hl, hs, xs, pr, o, es, ep, h1, h2, h3, h4, h5⟩, ⟨o, h1⟩, fun _ _ z k => by
    obtain ⟨a, b, xs, pr, o, es, ep, e1, e2⟩ := z
    exact ⟨a, b, xs, pr, o, es, ep, k _ e1, e2⟩⟩
theorem Nd.tx {P : Program} {w : World} {K : PySem.W.Frag} {H H' : Hp} {d : Addr} {kvs : List (NestedKey × Addr × V)} (N : Nd P w K H d kvs) (t : Tx H H') (h : H' d = some (NdO P w d kvs)) : Nd P w K H' d kvs :=
  ⟨h, fun x hx => by
    obtain ⟨dd, a, b, c⟩ := N.keys x hx
    exact ⟨dd, dp_tx t _ _ b a, b, c⟩⟩
theorem Nd.ex {P : Program} {w : World} {K : PySem.W.Frag} {H H' : Hp} {d : Addr} {kvs : List (NestedKey × Addr × V)} (N : Nd P w K H d kvs) (e : Ex H H') : Nd P w K H' d kvs := N.tx (Tx.of_ex e) (e _ _ N.at_)
theorem paired_mem {α β : Type} {F : α → β → Prop} : ∀ {xs : List α} {ys : List β}, Paired F xs ys → ∀ y ∈ ys, ∃ x ∈ xs, F x y
  | _, _, .nil, y, hy => absurd hy (by simp)
  | _, _, .cons h t, y, hy => by
    rcases List.mem_cons.mp hy with rfl | hy
    · exact ⟨_, List.mem_cons_self, h⟩
    · obtain ⟨x, hx, hf⟩ := paired_mem t y hy
      exact ⟨x, List.mem_cons_of_mem _ hx, hf⟩
/-- whether it has a key -/
def hasN (kvs : List (NestedKey × Addr × V)) (k : NestedKey) : Bool := kvs.any fun x => decide (x.1 = k)
theorem has_pair {kvs : List (NestedKey × Addr × V)} {xs : List (NestedKey × Addr × Value)} (pr : Paired (fun p q => p.1 = q.1 ∧ p.2.1 = q.2.1 ∧ RelV p.2.2 q.2.2) kvs xs) (k : NestedKey) : (atKey xs k).isSome = hasN kvs k := by
  unfold atKey hasN
  rw [Option.isSome_map]
  induction pr with
  | nil => rfl
  | @cons p q ps qs h t ih =>
    rw [List.find?_cons, List.any_cons, ← h.1]
    cases e : decide (p.1 = k) with
    | true => rfl
    | false => simpa using ih
theorem val_pair {kvs : List (NestedKey × Addr × V)} {xs : List (NestedKey × Addr × Value)} (pr : Paired (fun p q => p.1 = q.1 ∧ p.2.1 = q.2.1 ∧ RelV p.2.2 q.2.2) kvs xs) {k : NestedKey} {v : V} (h : (kvs.find? fun x => decide (x.1 = k)).map (·.2.2) = some v) : ∃ p, atKey xs k = some p ∧ RelV v p.2 := by
  unfold atKey
  induction pr with
  | nil => cases h
  | @cons p q ps qs hh t ih =>
    rw [List.find?_cons] at h ⊢
    rw [← hh.1]
    cases e : decide (p.1 = k) with
    | true =>
      rw [e] at h
      cases h
      exact ⟨q.2, rfl, hh.2.2⟩
    | false =>
      rw [e] at h
      exact ih h
section
variable {X : Cx} {pins : List (Addr × Obj)} {σ : L2.St} {H : Hp} {s : Shared}
theorem nd_open (I : Inv X pins σ H s) {d : Addr} {kvs : List (NestedKey × Addr × V)} (N : Nd X.prog X.w X.K H d kvs) : kvs.length ≤ sizeLine ∧ (d == sysModules) = false ∧
    ∃ xs : List (NestedKey × Addr × Value), Paired (fun p q => p.1 = q.1 ∧ p.2.1 = q.2.1 ∧ RelV p.2.2 q.2.2) kvs xs ∧ s.heap.DictOfH (nestedKind X.prog X.w) d xs := by
  obtain ⟨⟨hl, hs, xs, pr, o, es, ep, h1, h2, h3, h4, h5⟩, _, _⟩ := (show ObjOk X.prog X.w H s.heap d (NdO X.prog X.w d kvs) from I.hok d _ N.at_)
  refine ⟨hl, hs, xs, pr, o, es, ep, h1, h2, h3, h4, fun x hx => ?_, h5⟩
  obtain ⟨p, hp, e1, e2, _⟩ := paired_mem pr x hx
  obtain ⟨dd, a, _, c, dep⟩ := N.keys p hp
  rw [← e1, ← e2]
  exact ⟨nested_of I dd _ _ _ c a rfl, dep⟩
/-- k in d, d such a dict -/
def rInN (P : Program) (w : World) (K : PySem.W.Frag) (neg : Bool) : R2 := fun x y H Q => ∃ d kvs a dd k, x = .ref a ∧ y = .ref d ∧ Nd P w K H d kvs ∧ Dp K H (.ref a) dd ∧ keyD dd = some k ∧ k.depth ≤ 8 ∧ Q (.bl (if neg then !hasN kvs k else hasN kvs k)) H
theorem op_inN (hu : X.A.units + 64 < cLine) : OpR X (compareOp .In) (rInN X.prog X.w X.K false) := by
  intro pins s σ H x y v u Q I rx ry h
  obtain ⟨d, kvs, a, dd, k, rfl, rfl, N, hd, hk, dep, q⟩ := h
  cases rx
  cases ry
  obtain ⟨_, hs, xs, pr, D⟩ := nd_open I N
  refine wpAny_in_heap (knd := nestedKind X.prog X.w) (show X.A.in1.units + 8 < cLine from ?_) ⟨nested_of I dd k _ _ hk hd rfl, dep⟩ hs D ?_
  · have : X.A.in1.units ≤ X.A.units + 1 := by
      show X.A.in1.units ≤ _
      exact Nat.le_of_eq rfl
    omega
  · rw [has_pair pr]
    exact ⟨.bl _, H, I.tok _, rfl, q⟩
theorem op_notInN (hu : X.A.units + 64 < cLine) : OpR X (compareOp .NotIn) (rInN X.prog X.w X.K true) := by
  intro pins s σ H x y v u Q I rx ry h
  obtain ⟨d, kvs, a, dd, k, rfl, rfl, N, hd, hk, dep, q⟩ := h
  cases rx
  cases ry
  obtain ⟨_, hs, xs, pr, D⟩ := nd_open I N
  refine wpAny_notIn_heap (knd := nestedKind X.prog X.w) (show X.A.in1.units + 8 < cLine from ?_) ⟨nested_of I dd k _ _ hk hd rfl, dep⟩ hs D ?_
  · have : X.A.in1.units ≤ X.A.units + 1 := by
      show X.A.in1.units ≤ _
      exact Nat.le_of_eq rfl
    omega
  · rw [has_pair pr]
    exact ⟨.bl _, H, I.tok _, rfl, q⟩
end
end DL
set_option Elab.async false
set_option linter.all false
set_option maxRecDepth 100000
set_option maxHeartbeats 4000000
/-! data compared and sorted -/
namespace DL
open PySem PySem.Spec PyProof.Rows L2 Evl
open PySem.W (alike alikeAll dataLt AllAlike Sortable dataLe EachIs)

def rLtD (K : PySem.W.Frag) : R2 := fun x y H Q => ∃ d e, Dp K H x d ∧ Dp K H y e ∧ alike d e = true ∧ d ≠ .none ∧ d.depth ≤ 50 ∧ Q (.bl (dataLt d e)) H
/-- a rises to b -/
def leD (a b : PyData) : Bool := !dataLt b a
def rSortedD (K : PySem.W.Frag) : List V → Hp → VK → Prop := fun vs H Q => ∃ (a : Addr) (xs : List V) (ds : List PyData), vs = [.ref a] ∧ SqL K H a xs ∧ DpAll K H xs ds ∧ AllAlike ds ∧ Sortable ds ∧ (∀ d ∈ ds, d.depth ≤ 50) ∧
  ∀ p ys, H p = none → DpAll K H ys (ds.mergeSort leD) → Q (.ref p) (upd H p (.lst ys))
theorem each_zip {K : PySem.W.Frag} {H : Hp} : ∀ {xs : List V} {its : List Value} {ds : List PyData}, Vals xs its → DpAll K H xs ds → EachIs (fun (v : Value) (b : V × PyData) => RelV b.1 v ∧ Dp K H b.1 b.2) its (xs.zip ds)
  | _, _, _, .nil, .nil => .nil
  | _, _, _, .cons r rs, .cons d ds => .cons ⟨r, d⟩ (each_zip rs ds)
theorem zip_snd {K : PySem.W.Frag} {H : Hp} : ∀ {xs : List V} {ds : List PyData}, DpAll K H xs ds → (xs.zip ds).map Prod.snd = ds
  | _, _, .nil => rfl
  | _, _, .cons _ t => congrArg (List.cons _) (zip_snd t)
theorem each_vals {K : PySem.W.Frag} {H : Hp} : ∀ {its : List Value} {bs : List (V × PyData)}, EachIs (fun (v : Value) (b : V × PyData) => RelV b.1 v ∧ Dp K H b.1 b.2) its bs → Vals (bs.map Prod.fst) its ∧ DpAll K H (bs.map Prod.fst) (bs.map Prod.snd)
  | _, _, .nil => ⟨.nil, .nil⟩
  | _, _, .cons h t => ⟨.cons h.1 (each_vals t).1, .cons h.2 (each_vals t).2⟩
section
variable {X : Cx}
theorem op_ltD (hu : X.A.units + 64 < cLine) : OpR X (compareOp .Lt) (rLtD X.K) := by
  intro pins s σ H x y v u Q I rx ry h
  obtain ⟨d, e, hd, he, al, nn, dep, q⟩ := h
  obtain ⟨as, r1⟩ := Dp.reads I d x v hd rx
  obtain ⟨bs, r2⟩ := Dp.reads I e y u he ry
  exact PySem.W.lt_data r1 r2 al nn (by omega) ⟨.bl _, H, I, rfl, q⟩
theorem cr_sortedD (hu : X.A.units + 64 < cLine) : CallR X (.builtin "sorted") (rSortedD X.K) := by
  intro pins s σ H vs us Q I r h
  obtain ⟨a, xs, ds, rfl, hs, hd, al, so, dep, q⟩ := h
  obtain rfl := Vals.ref1 r
  obtain ⟨its, rv, pl, hz⟩ := I.list hs
  have ez := each_zip rv hd
  have en := zip_snd hd
  have len : (xs.zip ds).length = xs.length := by rw [List.length_zip, dpa_len hd, Nat.min_self]
  refine PySem.W.sorted_data (β := V × PyData) (enc := Prod.snd) (R := fun v b => RelV b.1 v ∧ Dp X.K H b.1 b.2) (bs := xs.zip ds) pl.isList ez (ez.mono fun v b z => Dp.reads I b.2 b.1 v z.2 z.1) (by rw [en]; exact al) (by rw [en]; exact so) (by rw [len]; exact hz) (fun b hb => ?_) fun out lo eo => ?_
  · have := dep b.2 (by rw [← en]; exact List.mem_map_of_mem hb)
    omega
  · obtain ⟨vo, dpo⟩ := each_vals eo
    obtain ⟨c, hc⟩ := sortedAll_at s.heap its out.toArray
    have nw : H (s.heap.objs.size + 1) = none := I.hok.fresh (Nat.le_succ _)
    have srt : ((xs.zip ds).mergeSort (dataLe false Prod.snd)).map Prod.snd = ds.mergeSort leD := by
      rw [List.map_mergeSort (r := dataLe false Prod.snd) (s := leD) (f := Prod.snd) (fun _ _ _ _ => rfl), en]
    rw [srt] at dpo
    refine ⟨.ref (s.heap.objs.size + 1), _, I.laid (t' := s.toks) (o := .lst (((xs.zip ds).mergeSort (dataLe false Prod.snd)).map Prod.fst)) (fun _ _ z => sortedAll_old z) (Nat.le_succ _) ?_, rfl, q _ _ nw dpo⟩
    exact ⟨by rw [List.length_map, List.length_mergeSort, len]; exact hz, out, c, vo, hc⟩
end
section
variable {K : PySem.W.Frag} {σ : L2.St} {H : Hp} {ta tb te : TE} {d e : PyData} {ds : List PyData}
theorem ev_ltD (ha : EvD K ta σ H d) (hb : EvD K tb σ H e) (al : alike d e = true) (nn : d ≠ .none) (dep : d.depth ≤ 50) : Ev (tOp (rLtD K) ta tb) σ H (.bl (dataLt d e)) := fun H1 x Q q =>
  ha H1 x _ fun v H2 e2 hv => hb H2 (x.trans e2) _ fun u H3 e3 hu => ⟨d, e, dp_ex e3 _ _ hv, hu, al, nn, dep, q H3 (e2.trans e3)⟩
theorem en_sortedD (h : EvD K te σ H (.list ds)) (al : AllAlike ds) (so : Sortable ds) (dep : ∀ d ∈ ds, d.depth ≤ 50) : EvN K (tCB (rSortedD K) (tCons te tNil)) σ H (ds.mergeSort leD) := fun H1 e Q q =>
  h H1 e _ fun v H2 e2 hv => by
    cases hv with
    | lst hs ha => exact ⟨_, _, ds, rfl, hs, ha, al, so, dep, fun p ys hp hy => q p ys _ (fresh_back e2 hp) (e2.trans (Ex.new hp)) upd_same (dpa_ex (Ex.new hp) _ _ hy)⟩
end
end DL
set_option Elab.async false
set_option linter.all false
set_option maxRecDepth 100000
set_option maxHeartbeats 4000000
namespace K16
open PySem PySem.Spec PyProof.Rows L2 Evl DL
local macro_rules | `(tactic| walk_at "dl") => `(tactic| first
  | exact ev_c | exact ev_var rfl | exact eda_nil
  | exact ed_var rfl (by assumption)
  | exact ed_int ev_c | exact ed_int (ev_var rfl)
  | (refine eda_cons ?_ ?_ <;> walk_at "dl")
  | (refine ed_int ?_; walk_at "dl")
  | (refine ev_op ?_ ?_ rv_I0 <;> walk_at "dl"))

section
variable {X : Cx} {a b c d : Expr} {ta tb tc td : TE}
/-- a op b op c op d -/
def tChain3 (r1 r2 r3 : R2) (ta tb tc td : TE) : TE := fun σ H Q => ta σ H fun x H1 => tb σ H1 fun y H2 => r1 x y H2 fun z H3 => ∃ k, z = .bl k ∧
  (if k = true then tc σ H3 fun u H4 => r2 y u H4 fun z2 H5 => ∃ k2, z2 = .bl k2 ∧ (if k2 = true then td σ H5 fun v H6 => r3 u v H6 Q else Q (.bl false) H5) else Q (.bl false) H3)
theorem pe_chain3 {o1 o2 o3 : CmpOp} {r1 r2 r3 : R2} {pos : Pos} (h1 : OpR X (compareOp o1) r1) (h2 : OpR X (compareOp o2) r2) (h3 : OpR X (compareOp o3) r3) (ha : PE X a ta) (hb : PE X b tb) (hc : PE X c tc) (hd : PE X d td)
    (hm : lastMarks [o1, o2, o3] [b, c, d] = false := by with_unfolding_all rfl) : PE X (.Compare a [o1, o2, o3] [b, c, d] pos) (tChain3 r1 r2 r3 ta tb tc td) := by
  constructor
  intro pins s σ H Q I h
  apply Compare_chain _ hm
  refine thn (ha.run pins s σ H _ I h) fun va sa za => ?_
  obtain ⟨x, Ha, Ia, ra, qa⟩ := za
  apply chain_link
  refine thn (hb.run pins sa σ Ha _ Ia qa) fun vb sb zb => ?_
  obtain ⟨y, Hb, Ib, rb, qb⟩ := zb
  refine thn (h1 pins sb σ Hb x y va vb _ Ib ra rb qb) fun ve se ze => ?_
  obtain ⟨e, He, Ie, re, k, rfl, qe⟩ := ze
  cases re
  apply wpAny_truthy_bool
  cases k with
  | false => exact ite_ff ⟨.bl false, He, Ie, rfl, qe⟩
  | true =>
    refine ite_tt ?_
    apply chain_link
    refine thn (hc.run pins se σ He _ Ie qe) fun vc sc zc => ?_
    obtain ⟨u, Hc, Ic, rc, qc⟩ := zc
    refine thn (h2 pins sc σ Hc y u vb vc _ Ic rb rc qc) fun vf sf zf => ?_
    obtain ⟨f, Hf, If, rf, k2, rfl, qf⟩ := zf
    cases rf
    apply wpAny_truthy_bool
    cases k2 with
    | false => exact ite_ff ⟨.bl false, Hf, If, rfl, qf⟩
    | true =>
      refine ite_tt (chain_last ?_)
      refine thn (hd.run pins sf σ Hf _ If qf) fun vd sd zd => ?_
      obtain ⟨v, Hd, Id, rd, qd⟩ := zd
      exact h3 pins sd σ Hd u v vc vd Q Id rc rd qd
end
section
variable {σ : L2.St} {H : Hp} {ta tb tc td : TE}
/-- where all three hold -/
theorem ev_chain3 {f g h : Int → Int → Bool} {x y z u : Int} (ha : Ev ta σ H (.int x)) (hb : Ev tb σ H (.int y)) (hc : Ev tc σ H (.int z)) (hd : Ev td σ H (.int u)) (e1 : f x y = true) (e2 : g y z = true) (e3 : h z u = true) :
    Ev (tChain3 (rI0 fun i j => .bl (f i j)) (rI0 fun i j => .bl (g i j)) (rI0 fun i j => .bl (h i j)) ta tb tc td) σ H (.bl true) := fun H1 e Q q =>
  ha H1 e _ fun H2 e2' => hb H2 (e.trans e2') _ fun H3 e3' => ⟨x, y, rfl, rfl, f x y, rfl, by
    rw [e1]
    show tc σ H3 _
    refine hc H3 ((e.trans e2').trans e3') _ fun H4 e4 => ⟨y, z, rfl, rfl, g y z, rfl, ?_⟩
    rw [e2]
    show td σ H4 _
    refine hd H4 (((e.trans e2').trans e3').trans e4) _ fun H5 e5 => ⟨z, u, rfl, rfl, ?_⟩
    show Q (.bl (h z u)) H5
    rw [e3]
    exact q H5 (((e2'.trans e3').trans e4).trans e5)⟩
end
/-! ### rows that rise -/
def risesD (xs : List PyData) : Bool := (List.zipWith PySem.W.dataLt xs xs.tail).all id
section
variable {P : Program} {w : World} {K : PySem.W.Frag} {mg : Str → Option Value} {base : Heap}

theorem rises_no {xs : List PyData} {i : Nat} {a b : PyData} (h1 : xs[i]? = some a) (h2 : xs[i + 1]? = some b) (h : PySem.W.dataLt a b = false) : risesD xs = false := by
  unfold risesD
  rw [List.all_eq_false]
  refine ⟨false, List.mem_of_getElem? (i := i) ?_, by simp⟩
  rw [List.getElem?_zipWith, h1, List.getElem?_tail, h2]
  simp [h]
theorem rises_yes {xs : List PyData} (h : ∀ (i : Nat) a b, xs[i]? = some a → xs[i + 1]? = some b → PySem.W.dataLt a b = true) : risesD xs = true := by
  unfold risesD
  rw [List.all_eq_true]
  intro z hz
  obtain ⟨i, hi⟩ := List.mem_iff_getElem?.mp hz
  rw [List.getElem?_zipWith, List.getElem?_tail] at hi
  cases h1 : xs[i]? with
  | none => rw [h1] at hi; simp at hi
  | some x =>
    cases h2 : xs[i + 1]? with
    | none => rw [h1, h2] at hi; simp at hi
    | some y =>
      rw [h1, h2] at hi
      have := h i x y h1 h2
      simpa [this] using hi.symm
/-- data of one kind, small -/
def Row (xs : List PyData) : Prop := PySem.W.AllAlike xs ∧ (∀ x ∈ xs, x ≠ .none ∧ x.depth ≤ 50) ∧ xs.length ≤ 1000
def R_rises (ds : List PyData) (r : PyData) : Prop := ∃ xs, ds = [.tuple xs] ∧ Row xs ∧ r = .bool (risesD xs)
abbrev s_rises : Stmt := topS 13
abbrev N_rises : List Str := ["row", "k"]
theorem sc_rises : FnScope N_rises ["row"] (defScope s_rises) := ⟨rfl, rfl, rfl, by decide +kernel, rfl, by decide +kernel, by decide +kernel⟩
theorem ok_rises {f : Addr} {fd : FuncData} (F : Fun K "rises" "rises" s_rises f fd) (T : Txt mg)
      :
    FnOk P w K mg base CX0 1 f fd ["row"] (spD K 1 R_rises) := by
  refine F.ok sc_rises (fun vs H Q E h => spD_len h) (fun cdv A outer s H vs Q E hr h => ?_)
  obtain ⟨ds, r, hd, _, ⟨xs, rfl, ⟨al, ok, hl⟩, rfl⟩, k⟩ := h
  obtain ⟨v0, rfl, d0⟩ := dpa_one hd
  refine ⟨_, (pss_cons (ps_for PassesOwn.never rfl (pi_range2 (by rfl) T.b_range (pa_cons pe_int (pa_cons (pe_callB call_len_seq (by rfl) T.b_len PySem.boot_len (pa_cons (pv 0) pa_nil)) pa_nil))) (pg_name (i := 1) sc_rises.nd rfl (Or.inl rfl)) (pss_one (ps_if (pt_not (pt_cmpR (op_ltD (hu64 hr)) (pe_ix ix_tup (pv 0) (pe_op op_sub (pv 1) pe_int) (fun _ _ => rfl)) (pe_ix ix_tup (pv 0) (pv 1) (fun _ _ => rfl)) (nomark _))) (pss_one (ps_ret pe_bl)) pss_nil)))
      (pss_one (ps_ret pe_bl))), ?_⟩
  refine e_for (ei_rng2 (K := K) (S := []) (m := 1) (n := (xs.length : Int)) (eda_cons (ed_int ev_c) (eda_cons (ed_int (ev_lenT (ed_var (v := v0) rfl d0))) eda_nil)) (by omega)) (fun H2 i σ' Ha => Ex H2 Ha ∧ (∀ j, j < i → ∀ a b, xs[j]? = some a → xs[j + 1]? = some b → PySem.W.dataLt a b = true) ∧ ∃ y, σ' = [some v0, y]) (fun H2 e2 => ⟨Ex.refl _, fun j hj => absurd hj (by omega), none, rfl⟩) (fun H2 i σ' Ha _ p => Xp.of_ex p.1) ?_ ?_
  · rintro H2 i d y σ' Ha Hb e2 hd1 ⟨p1, pn, z, rfl⟩ e3 hy
    have hlt : i < ((xs.length : Int) - 1).toNat := by
      have := (List.getElem?_eq_some_iff.mp hd1).1
      simpa using this
    rw [rng_get hlt] at hd1
    cases hd1
    cases hy
    have g1 : xs[i]? = some (xs[i]'(by omega)) := List.getElem?_eq_getElem (by omega)
    have g2 : xs[i + 1]? = some (xs[i + 1]'(by omega)) := List.getElem?_eq_getElem (by omega)
    have m1 := List.mem_of_getElem? g1
    have m2 := List.mem_of_getElem? g2
    have dv := dp_ex ((e2.trans p1).trans e3) _ _ d0
    refine s_when (b := !PySem.W.dataLt (xs[i]'(by omega)) (xs[i + 1]'(by omega))) (et_not (et_test (ev_ltD (K := K) (ed_ixT (k := i) (ed_var rfl dv) (ev_is (ev_op (ev_var rfl) ev_c rv_I0) (congrArg V.int (by omega))) g1) (ed_ixT (k := i + 1) (ed_var rfl dv) (ev_is (ev_var rfl) (congrArg V.int (by omega))) g2) (al _ m1 _ m2) (ok _ m1).1 (ok _ m1).2))) (fun hb H3 e4 => ?_) fun hb H3 e4 => ⟨(p1.trans e3).trans e4, fun j hj a b q1 q2 => ?_, _, rfl⟩
    · have no := rises_no g1 g2 (by simpa using hb)
      rw [no] at k
      exact d_ret (ed_bool ev_c) fun v H4 e5 hv => k v H4 (((e2.trans (p1.trans e3)).trans e4).trans e5) hv
    · by_cases ej : j = i
      · subst ej
        rw [g1] at q1
        rw [g2] at q2
        cases q1
        cases q2
        simpa using hb
      · exact pn j (by omega) a b q1 q2
  · rintro H2 σ' Ha e2 ⟨p1, pn, z, rfl⟩
    have yes : risesD xs = true := rises_yes fun i a b q1 q2 => pn i (by
      have := (List.getElem?_eq_some_iff.mp q2).1
      rw [List.length_map, List.length_range]
      omega) a b q1 q2
    rw [yes] at k
    exact d_ret (ed_bool ev_c) fun v H4 e5 hv => k v H4 ((e2.trans p1).trans e5) hv

/-- tracks, where they are well -/
def R_check_tracks (ds : List PyData) (r : PyData) : Prop := ∃ x l : Int, ds = [.int x, .int l] ∧ l ≤ x ∧ x ≤ 6 ∧ r = .none
abbrev s_check_tracks : Stmt := topS 19
abbrev N_check_tracks : List Str := ["tracks", "least"]
theorem sc_check_tracks : FnScope N_check_tracks ["tracks", "least"] (defScope s_check_tracks) := ⟨rfl, rfl, rfl, by decide +kernel, rfl, by decide +kernel, by decide +kernel⟩
theorem ok_check_tracks {f : Addr} {fd : FuncData} (F : Fun K "check_tracks" "check_tracks" s_check_tracks f fd) (T : Txt mg)
    (D_is_within : DF P w K mg base "is_within" 2 ["thing", "low", "high"] (spD K 3 R_is_within))  :
    FnOk P w K mg base CX0 3 f fd ["tracks", "least"] (spD K 2 R_check_tracks) := by
  refine F.ok sc_check_tracks (fun vs H Q E h => spD_len h) (fun cdv A outer s H vs Q E hr h => ?_)
  obtain ⟨ds, r, hd, _, ⟨x, l, rfl, h1, h2, rfl⟩, k⟩ := h
  obtain rfl := dpa_ints (l := [x, l]) hd
  refine ⟨_, (pss_one (ps_if (pt_not (pt_val (pe_D D_is_within (hr.mono (by decide)) (by rfl) (pa_cons (pv 0) (pa_cons (pv 1) (pa_cons (pe_const T.c_MOST_TRACKS (by rfl)) pa_nil)))))) (pss_one ps_never) pss_nil)), ?_⟩
  refine s_when (b := false) (et_not (a := true) (et_B (EvD.bool (ed_call (R := R_is_within) (ds := [.int x, .int l, .int 6]) (by walk_at "dl") rfl ⟨_, _, _, rfl, ?_⟩)))) (fun hb => nomatch hb) fun hb H1 e1 => k .non H1 e1 .non
  show PyData.bool true = .bool (decide (l ≤ x) && decide (x ≤ 6))
  rw [decide_eq_true h1, decide_eq_true h2, Bool.and_self]

theorem int_of_get {l : List Int} {i : Nat} {x : PyData} (h : (dI l)[i]? = some x) : ∃ n, x = .int n := by
  obtain ⟨n, _, e⟩ := List.mem_map.mp (List.mem_of_getElem? h)
  exact ⟨n, e.symm⟩
/-! ### switches -/
abbrev Sw := (Int × Int) × (Int × Int)
def swD (w : Sw) : PyData := .tuple [pD w.1, pD w.2]
def SwOk (s t : Int) (w : Sw) : Prop := 0 ≤ w.1.1 ∧ w.1.1 < w.2.1 ∧ w.2.1 < s ∧ 0 ≤ w.1.2 ∧ w.1.2 < t ∧ 0 ≤ w.2.2 ∧ w.2.2 < t
def R_is_switch (ds : List PyData) (r : PyData) : Prop := ∃ (s t : Int) (w : Sw), ds = [.int s, .int t, swD w] ∧ SwOk s t w ∧ r = .bool true
abbrev s_is_switch : Stmt := topS 21
abbrev N_is_switch : List Str := ["sides", "tracks", "thing", "side", "track", "far", "other", "number"]
theorem sc_is_switch : FnScope N_is_switch ["sides", "tracks", "thing"] (defScope s_is_switch) := ⟨rfl, rfl, rfl, by decide +kernel, rfl, by decide +kernel, by decide +kernel⟩
theorem ok_is_switch {f : Addr} {fd : FuncData} (F : Fun K "is_switch" "is_switch" s_is_switch f fd) (T : Txt mg)
    (D_is_tuple_of : DF P w K mg base "is_tuple_of" 1 ["thing", "many"] (spD K 2 R_is_tuple_of))  :
    FnOk P w K mg base CX0 2 f fd ["sides", "tracks", "thing"] (spD K 3 R_is_switch) := by
  refine F.ok sc_is_switch (fun vs H Q E h => spD_len h) (fun cdv A outer s H vs Q E hr h => ?_)
  obtain ⟨ds, r, hd, _, ⟨s, t, ⟨⟨a, b⟩, ⟨c, d⟩⟩, rfl, h0, rfl⟩, k⟩ := h
  obtain ⟨v0, v1, v2, rfl, d0, d1, d2⟩ := dpa_three hd
  cases dp_int d0
  cases dp_int d1
  obtain ⟨g1, g2, g3, g4, g5, g6, g7⟩ := h0
  refine ⟨_, (pss_cons (ps_if (PW.pt (pw_or (pt_not (pt_val (pe_D D_is_tuple_of (hr.mono (by decide)) (by rfl) (pa_cons (pv 2) (pa_cons pe_int pa_nil))))) (pw_or (pt_not (pt_val (pe_D D_is_tuple_of (hr.mono (by decide)) (by rfl) (pa_cons (pe_ix ix_tup (pv 2) pe_int (fun _ _ => rfl)) (pa_cons pe_int pa_nil))))) (pw_or1 (pt_not (pt_val (pe_D D_is_tuple_of (hr.mono (by decide)) (by rfl) (pa_cons (pe_ix ix_tup (pv 2) pe_int (fun _ _ => rfl)) (pa_cons pe_int pa_nil))))))))) (pss_one (ps_ret pe_bl)) pss_nil)
      (pss_cons (ps_asg (pv 2) (pg_tup rfl (pgs_cons (pg_tup rfl (pgs_cons (pg_name (i := 3) sc_is_switch.nd rfl (Or.inl rfl)) (pgs_cons (pg_name (i := 4) sc_is_switch.nd rfl (Or.inl rfl)) pgs_nil))) (pgs_cons (pg_tup rfl (pgs_cons (pg_name (i := 5) sc_is_switch.nd rfl (Or.inl rfl)) (pgs_cons (pg_name (i := 6) sc_is_switch.nd rfl (Or.inl rfl)) pgs_nil))) pgs_nil))))
      (pss_cons (ps_for PassesOwn.never rfl (pi_tup (pe_tup (pa_cons (pv 3) (pa_cons (pv 4) (pa_cons (pv 5) (pa_cons (pv 6) pa_nil)))))) (pg_name (i := 7) sc_is_switch.nd rfl (Or.inl rfl)) (pss_one (ps_if (PW.pt (pw_or (pt_not (pt_val (pe_callB call_isi (by rfl) T.b_isinstance (by decide +kernel) (pa_cons (pv 7) (pa_cons (pe_bltn (v := .ty "int") (u := .type "int") (by rfl) T.b_int (by decide +kernel) rfl) pa_nil))))) (pw_or1 (pt_val (pe_callB call_isi (by rfl) T.b_isinstance (by decide +kernel) (pa_cons (pv 7) (pa_cons (pe_bltn (v := .ty "bool") (u := .type "bool") (by rfl) T.b_bool (by decide +kernel) rfl) pa_nil))))))) (pss_one (ps_ret pe_bl)) pss_nil)))
      (pss_one (ps_ret (pe_and (pe_chain3 op_le op_lt op_lt pe_int (pv 3) (pv 5) (pv 0)) (pe_and (pe_chain op_le op_lt pe_int (pv 4) (pv 1)) (pe_one (pe_chain op_le op_lt pe_int (pv 6) (pv 1)))))))))), ?_⟩
  have i0 : ∀ {H : Hp} {σ : L2.St}, σ[2]? = some (some v2) → Dp K H v2 (swD ((a, b), (c, d))) → EvD K (tVar 2) σ H (swD ((a, b), (c, d))) := fun h1 h2 => ed_var h1 h2
  have tt : ∀ {te : TE} {σ : L2.St} {H : Hp} {es : List PyData}, EvD K te σ H (.tuple es) → es.length = 2 → EvT (tNot (tB (tCall (spD K 2 R_is_tuple_of) [] E0 (tCons te (tCons (tC (.int 2)) tNil))))) σ H false := fun {te σ H es} h1 h2 => et_not (a := true) (et_B (EvD.bool (ed_call (R := R_is_tuple_of) (ds := [.tuple es, .int 2]) (eda_cons h1 (eda_cons (ed_int ev_c) eda_nil)) rfl ⟨_, _, rfl, by show PyData.bool true = .bool (decide ((es.length : Int) = 2)); rw [h2]; rfl⟩)))
  refine q_when (b := false) (et_or (tt (ed_var rfl d2) rfl) fun _ => et_or (tt (ed_ixT (k := 0) (ed_var (v := v2) rfl d2) ev_c rfl) rfl) fun _ => tt (ed_ixT (k := 1) (ed_var (v := v2) rfl d2) ev_c rfl) rfl) (fun hb => nomatch hb) fun _ H1 e1 => ?_
  have dv := dp_ex e1 _ _ d2
  refine ed_var (K := K) (k := 2) (v := v2) rfl dv H1 (Ex.refl _) _ fun v H2 e2 hv => g_two hv fun p1 p2 q1 q2 => ?_
  refine g_two (d1 := .int a) (d2 := .int b) q1 fun w1 w2 u1 u2 => ?_
  refine g_two (d1 := .int c) (d2 := .int d) q2 fun w3 w4 u3 u4 => ?_
  cases dp_int u1
  cases dp_int u2
  cases dp_int u3
  cases dp_int u4
  refine e_for (ei_tupD (K := K) (ed_tup (ds := dI [a, b, c, d]) (eda_cons (ed_int (ev_var rfl)) (eda_cons (ed_int (ev_var rfl)) (eda_cons (ed_int (ev_var rfl)) (eda_cons (ed_int (ev_var rfl)) eda_nil)))) (by simp))) (fun H3 i σ' Ha => Ex H3 Ha ∧ ∃ y, σ' = [some (.int s), some (.int t), some v2, some (.int a), some (.int b), some (.int c), some (.int d), y]) (fun H3 e3 => ⟨Ex.refl _, none, rfl⟩) (fun H3 i σ' Ha _ p => Xp.of_ex p.1) ?_ ?_
  · rintro H3 i x y σ' Ha Hb e3 hx ⟨p1, z, rfl⟩ e4 hy
    obtain ⟨n, rfl⟩ := int_of_get hx
    cases dp_int hy
    refine s_when (b := false) (et_or (b := false) (et_not (a := true) (et_B (ev_isiD (d := .int n) (ed_int (ev_var rfl)) (kit_int _)))) fun _ => et_B (ev_isiD (d := .int n) (ed_int (ev_var rfl)) (kit_bool _))) (fun hb => nomatch hb) fun _ H5 e5 => ⟨(p1.trans e4).trans e5, _, rfl⟩
  · rintro H3 σ' Ha e3 ⟨p1, z, rfl⟩
    refine d_ret (K := K) (ed_bool (ev_andV (a := true) (ev_chain3 ev_c (ev_var rfl) (ev_var rfl) (ev_var rfl) (decide_eq_true g1) (decide_eq_true g2) (decide_eq_true g3)) fun _ => ev_is (ev_andV (ev_chain ev_c (ev_var rfl) (ev_var rfl)) fun _ => ev_chain ev_c (ev_var rfl) (ev_var rfl)) ?_)) fun v H4 e4 hv => k v H4 (((e1.trans e2).trans (e3.trans p1)).trans e4) hv
    simp [g4, g5, g6, g7]

theorem alike_sw (a b : Sw) : PySem.W.alike (swD a) (swD b) = true := rfl
theorem row_sw {ws : List Sw} (hl : ws.length ≤ 1000) : Row (ws.map swD) := by
  refine ⟨fun d hd e he => ?_, fun d hd => ?_, by rw [List.length_map]; exact hl⟩
  · obtain ⟨a, _, rfl⟩ := List.mem_map.mp hd
    obtain ⟨b, _, rfl⟩ := List.mem_map.mp he
    rfl
  · obtain ⟨a, _, rfl⟩ := List.mem_map.mp hd
    exact ⟨(fun z => nomatch z), by show (swD a).depth ≤ 50; simp [swD, pD, PyData.depth, PyData.depthAll]⟩
def R_is_switch_tuple (ds : List PyData) (r : PyData) : Prop := ∃ (s t : Int) (ws : List Sw), ds = [.int s, .int t, .tuple (ws.map swD)] ∧ (∀ w ∈ ws, SwOk s t w) ∧ ws.length ≤ 1000 ∧ r = .bool (risesD (ws.map swD))
abbrev s_is_switch_tuple : Stmt := topS 22
abbrev N_is_switch_tuple : List Str := ["sides", "tracks", "thing", "item"]
theorem sc_is_switch_tuple : FnScope N_is_switch_tuple ["sides", "tracks", "thing"] (defScope s_is_switch_tuple) := ⟨rfl, rfl, rfl, by decide +kernel, rfl, by decide +kernel, by decide +kernel⟩
theorem ok_is_switch_tuple {f : Addr} {fd : FuncData} (F : Fun K "is_switch_tuple" "is_switch_tuple" s_is_switch_tuple f fd) (T : Txt mg)
    (D_is_switch : DF P w K mg base "is_switch" 2 ["sides", "tracks", "thing"] (spD K 3 R_is_switch)) (D_rises : DF P w K mg base "rises" 1 ["row"] (spD K 1 R_rises))  :
    FnOk P w K mg base CX0 3 f fd ["sides", "tracks", "thing"] (spD K 3 R_is_switch_tuple) := by
  refine F.ok sc_is_switch_tuple (fun vs H Q E h => spD_len h) (fun cdv A outer s H vs Q E hr h => ?_)
  obtain ⟨ds, r, hd, _, ⟨s, t, ws, rfl, ok, hl, rfl⟩, k⟩ := h
  obtain ⟨v0, v1, v2, rfl, d0, d1, d2⟩ := dpa_three hd
  cases dp_int d0
  cases dp_int d1
  refine ⟨_, (pss_cons (ps_if (pt_not (pt_val (pe_callB call_isi (by rfl) T.b_isinstance (by decide +kernel) (pa_cons (pv 2) (pa_cons (pe_bltn (v := .ty "tuple") (u := .type "tuple") (by rfl) T.b_tuple (by decide +kernel) rfl) pa_nil))))) (pss_one (ps_ret pe_bl)) pss_nil)
      (pss_cons (ps_for PassesOwn.never rfl (pi_tup (pv 2)) (pg_name (i := 3) sc_is_switch_tuple.nd rfl (Or.inl rfl)) (pss_one (ps_if (pt_not (pt_val (pe_D D_is_switch (hr.mono (by decide)) (by rfl) (pa_cons (pv 0) (pa_cons (pv 1) (pa_cons (pv 3) pa_nil)))))) (pss_one (ps_ret pe_bl)) pss_nil)))
      (pss_one (ps_ret (pe_D D_rises (hr.mono (by decide)) (by rfl) (pa_cons (pv 2) pa_nil)))))), ?_⟩
  refine q_when (b := false) (et_not (a := true) (et_B (ev_isiD (ed_var (v := v2) rfl d2) (kit_tuple _)))) (fun hb => nomatch hb) fun _ H1 e1 => ?_
  refine e_for (ei_tupD (K := K) (ed_var (v := v2) rfl (dp_ex e1 _ _ d2))) (fun H2 i σ' Ha => Ex H2 Ha ∧ ∃ y, σ' = [some (.int s), some (.int t), some v2, y]) (fun H2 e2 => ⟨Ex.refl _, none, rfl⟩) (fun H2 i σ' Ha _ p => Xp.of_ex p.1) ?_ ?_
  · rintro H2 i x y σ' Ha Hb e2 hx ⟨p1, z, rfl⟩ e3 hy
    obtain ⟨w, hw, rfl⟩ := List.mem_map.mp (List.mem_of_getElem? hx)
    refine s_when (b := false) (et_not (a := true) (et_B (EvD.bool (ed_call (R := R_is_switch) (ds := [.int s, .int t, swD w]) (eda_cons (ed_int (ev_var rfl)) (eda_cons (ed_int (ev_var rfl)) (eda_cons (ed_var (v := y) rfl hy) eda_nil))) rfl ⟨s, t, w, rfl, ok w hw, rfl⟩)))) (fun hb => nomatch hb) fun _ H5 e5 => ⟨(p1.trans e3).trans e5, _, rfl⟩
  · rintro H2 σ' Ha e2 ⟨p1, z, rfl⟩
    exact d_ret (K := K) (ed_call (R := R_rises) (ds := [.tuple (ws.map swD)]) (eda_cons (ed_var (v := v2) rfl (dp_ex ((e1.trans e2).trans p1) _ _ d2)) eda_nil) rfl ⟨_, rfl, row_sw hl, rfl⟩) fun v H4 e4 hv => k v H4 (((e1.trans e2).trans p1).trans e4) hv

end
end K16
set_option Elab.async false
set_option linter.all false
set_option maxRecDepth 100000
set_option maxHeartbeats 4000000
/-! such a dict is changed; a dict comprehension whose keys are of any depth -/
namespace DL
open PySem PySem.Spec PyProof.Rows L2 Evl
section
variable {X : Cx} {pins : List (Addr × Obj)} {σ : L2.St} {H : Hp} {s : Shared}
/-- a pair more, or another value -/
def putN (kvs : List (NestedKey × Addr × V)) (k : NestedKey) (b : Addr) (v : V) : List (NestedKey × Addr × V) := if hasN kvs k then kvs.map (fun x => if x.1 = k then (x.1, x.2.1, v) else x) else kvs ++ [(k, b, v)]
theorem putN_len (kvs : List (NestedKey × Addr × V)) (k : NestedKey) (b : Addr) (v : V) : (putN kvs k b v).length ≤ kvs.length + 1 := by
  unfold putN
  split
  · rw [List.length_map]
    omega
  · simp
theorem pair_map {α β : Type} {F : α → β → Prop} {f : α → α} {g : β → β} (h : ∀ a b, F a b → F (f a) (g b)) : ∀ {xs : List α} {ys : List β}, Paired F xs ys → Paired F (xs.map f) (ys.map g)
  | _, _, .nil => .nil
  | _, _, .cons a t => .cons (h _ _ a) (pair_map h t)
theorem pair_app {α β : Type} {F : α → β → Prop} {a : α} {b : β} (h : F a b) : ∀ {xs : List α} {ys : List β}, Paired F xs ys → Paired F (xs ++ [a]) (ys ++ [b])
  | _, _, .nil => .cons h .nil
  | _, _, .cons a t => .cons a (pair_app h t)
theorem put_pair {kvs : List (NestedKey × Addr × V)} {xs : List (NestedKey × Addr × Value)} (pr : Paired (fun p q => p.1 = q.1 ∧ p.2.1 = q.2.1 ∧ RelV p.2.2 q.2.2) kvs xs) (k : NestedKey) (b : Addr) {v : V} {r : Value} (rv : RelV v r) :
    Paired (fun p q => p.1 = q.1 ∧ p.2.1 = q.2.1 ∧ RelV p.2.2 q.2.2) (putN kvs k b v) (storedH xs k b r) := by
  unfold putN storedH
  rw [has_pair pr]
  split
  · refine pair_map (fun p q h => ?_) pr
    unfold putAt
    obtain ⟨h1, h2, h3⟩ := h
    by_cases e : p.1 = k
    · rw [if_pos e, if_pos (h1 ▸ e)]
      exact ⟨h1, h2, rv⟩
    · rw [if_neg e, if_neg (h1 ▸ e)]
      exact ⟨h1, h2, h3⟩
  · exact pair_app ⟨rfl, rfl, rv⟩ pr
theorem putN_mem {kvs : List (NestedKey × Addr × V)} {k : NestedKey} {b : Addr} {v : V} {x : NestedKey × Addr × V} (h : x ∈ putN kvs k b v) : (∃ y ∈ kvs, y.1 = x.1 ∧ y.2.1 = x.2.1) ∨ x = (k, b, v) := by
  unfold putN at h
  split at h
  · obtain ⟨y, hy, rfl⟩ := List.mem_map.mp h
    refine .inl ⟨y, hy, ?_⟩
    split <;> exact ⟨rfl, rfl⟩
  · rcases List.mem_append.mp h with h | h
    · exact .inl ⟨x, h, rfl, rfl⟩
    · exact .inr (List.mem_singleton.mp h)
theorem tx_nd {P : Program} {w : World} {H : Hp} {D d : Addr} {kvs : List (NestedKey × Addr × V)} {u : HO} (h : H D = some (NdO P w d kvs)) : Tx H (L2.upd H D u) := Tx.upd h (fun _ z => nomatch z) fun _ _ z => nomatch z
theorem Nd.put {P : Program} {w : World} {K : PySem.W.Frag} {H : Hp} {D b : Addr} {kvs : List (NestedKey × Addr × V)} {k : NestedKey} {v : V} {dd : PyData} (N : Nd P w K H D kvs) (hb : Dp K H (.ref b) dd) (hi : imm dd = true) (hk : keyD dd = some k) (dep : k.depth ≤ 8) : Nd P w K (L2.upd H D (NdO P w D (putN kvs k b v))) D (putN kvs k b v) :=
  ⟨upd_same, fun x hx => by
    have t := tx_nd (u := NdO P w D (putN kvs k b v)) N.at_
    rcases putN_mem hx with ⟨y, hy, e1, e2⟩ | rfl
    · obtain ⟨d2, a, i, c, dp⟩ := N.keys y hy
      exact ⟨d2, e2 ▸ dp_tx t _ _ i a, i, e1 ▸ c, e1 ▸ dp⟩
    · exact ⟨dd, dp_tx t _ _ hi hb, hi, hk, dep⟩⟩
/-- the dict takes one more pair -/
theorem nd_put {E : Value → Shared → Prop} {D b : Addr} {kvs : List (NestedKey × Addr × V)} {k : NestedKey} {v : V} {r : Value} {dd : PyData} {Q : Unit → Shared → Prop} (hu : X.A.units + 64 < cLine) (I : Inv X pins σ H s) (N : Nd X.prog X.w X.K H D kvs) (hb : Dp X.K H (.ref b) dd) (hk : keyD dd = some k) (dep : k.depth ≤ 8)
    (sz : kvs.length < sizeLine) (rv : RelV v r) (q : ∀ s', Inv X pins σ (upd H D (NdO X.prog X.w D (putN kvs k b v))) s' → Q () s') : wpAny (model X.prog X.w) X.A (dictSet D (.ref b) r) Q E s := by
  obtain ⟨z, hd, xs, rel, dd'⟩ := nd_open I N
  have lx : xs.length ≤ sizeLine := Paired.length rel ▸ z
  have room : (nestedKind X.prog X.w).room X.A := by
    show X.A.units + 8 < cLine
    omega
  refine wpAny_dictSet_heap (hsz := lx) room ⟨nested_of I dd k _ _ hk hb rfl, dep⟩ dd' fun h' now but => q _ ?_
  obtain ⟨o, es, ep, ho, ex, hdat, hl, _, nd⟩ := now
  have pl := putN_len kvs k b v
  exact d_write I (by rw [N.at_]; exact True.intro) but ⟨o, ho⟩ (ndO_ok (by omega) hd (put_pair rel k b rv) ho ex hdat hl nd)
theorem nd_empty {P : Program} {w : World} {H : Hp} (h : Heap) (hb : sysModules < h.objs.size) : ObjOk P w H (h.push { cls := .type "dict", data := .dict #[] }) h.objs.size (NdO P w h.objs.size []) :=
  ndO_ok (Nat.zero_le _) (by
    have : h.objs.size ≠ sysModules := Nat.ne_of_gt hb
    simpa using this) (xs := []) .nil (Heap.get?_push_size _ rfl) ⟨rfl, rfl, rfl⟩ rfl rfl List.nodup_nil
/-- {k: v for ..} -/
def tDcN (P : Program) (w : World) (K : PySem.W.Frag) (wi : TI) (g : TG) (tt : TT) (tk tv : TE) (vs : List Nat) : TE := fun σ H Q => wi σ H fun J Ha => ∀ D, Ha D = none → ∃ (W : Nat → Hp → Prop) (n : Nat), W 0 (upd Ha D (NdO P w D [])) ∧ ∀ i H, W i H →
  (J.stop i H ∧ Q (.ref D) H) ∨ (i < n ∧ J.go i H ∧ ∀ x Hx, J.yld i H x Hx → g x (wipe σ vs) Hx fun σ2 H2 => wipe σ2 vs = wipe σ vs ∧ tt σ2 H2 fun yes H3 =>
    if yes = true then tk σ2 H3 fun y H4 => tv σ2 H4 fun z H5 => ∃ (kvs : List (NestedKey × Addr × V)) (k : NestedKey) (b : Addr) (dd : PyData), y = .ref b ∧ Dp K H5 (.ref b) dd ∧ keyD dd = some k ∧ k.depth ≤ 8 ∧ Nd P w K H5 D kvs ∧ kvs.length < sizeLine ∧ W (i + 1) (upd H5 D (NdO P w D (putN kvs k b z))) else W (i + 1) H3)
theorem pe_dcN {kx vx tg iter : Expr} {ifs : List Expr} {sc : Scope} {own : List (Str × Nat)} {pos : Pos} {wi : TI} {g : TG} {tt : TT} {tk tv : TE} (calm : X.calm = true) (nd : X.N.Nodup) (hu : X.A.units + 64 < cLine) (over : PI X tg iter wi) (blk : BlkOk X.N X.env.scope sc own)
    (pgG : ∀ (s : Shared) (H : Hp) (C : Addr) (cl : List (Str × Addr)) (fp : List Addr), PG (X.blk s H sc (compEnvC sc cl C X.env) fp) tg g)
    (ptG : ∀ (s : Shared) (H : Hp) (C : Addr) (cl : List (Str × Addr)) (fp : List Addr), PTs (X.blk s H sc (compEnvC sc cl C X.env) fp) ifs tt)
    (pkG : ∀ (s : Shared) (H : Hp) (C : Addr) (cl : List (Str × Addr)) (fp : List Addr), PE (X.blk s H sc (compEnvC sc cl C X.env) fp) kx tk)
    (pvG : ∀ (s : Shared) (H : Hp) (C : Addr) (cl : List (Str × Addr)) (fp : List Addr), PE (X.blk s H sc (compEnvC sc cl C X.env) fp) vx tv)
    (plain : ∀ x, foldedSetIterable iter X.env x = pure x := by intro _; rfl) : PE X (.DictComp kx vx [⟨tg, iter, ifs, 0⟩] sc pos) (tDcN X.prog X.w X.K wi g tt tk tv (own.map (·.2))) := by
  constructor
  intro pins s σ H Q I ask
  rw [arm_eval_DictComp]
  have fr : ∀ y ∈ sc.names, y.2 = .free → ∃ c, X.env.cells.lookup y.1 = some c := fun y m e => (blk.free y m e).elim (fun k => I.ok.has _ (.inl k)) fun k => I.ok.has _ (.inr k)
  refine wpAny_comprehension_free (use := none) rfl plain (closure_ok fr) blk.kind (fun y m e => by rw [blk.uniq y m, e]) ?_
  refine thn (over.run pins s σ H _ I ask) fun xv sA gotIter => thn gotIter fun itv sB gotIt => ?_
  obtain ⟨it, fp, tn, J, Ha, rfl, IB, T, stB, fB, next⟩ := gotIt
  refine wpAny_newObj_type (newEnv_comp ?_)
  obtain ⟨D, eD⟩ : ∃ D, D = sB.heap.objs.size := ⟨_, rfl⟩
  rw [← eD]
  have freshD : Ha D = none := IB.hok.fresh (Nat.le_of_eq eD.symm)
  obtain ⟨W, lim, w0, turn⟩ := next D freshD
  obtain ⟨sC, eC⟩ : ∃ sC : Shared, sC = { sB with heap := sB.heap.push { cls := .type "dict", data := .dict #[] } } := ⟨_, rfl⟩
  rw [← eC]
  have heapC : sC.heap = sB.heap.push { cls := .type "dict", data := .dict #[] } := by rw [eC]
  have IC : Inv X pins σ (upd Ha D (NdO X.prog X.w D [])) sC := by
    rw [eC, eD]
    exact IB.laid (t' := sB.toks) (fun b o e => Heap.get?_push_of_some _ e) (Nat.le_refl _) (nd_empty sB.heap IB.big)
  have small : ∀ b ∈ fp, b < sB.heap.objs.size := fun b m => by
    obtain ⟨o, e, _⟩ := T.obj _ _ stB b m
    exact Heap.lt_size e
  have fC : ∀ b ∈ fp, FpOk X pins (upd Ha D (NdO X.prog X.w D [])) b ∧ b < sC.heap.objs.size := fun b m => by
    have lt := small b m
    refine ⟨⟨?_, (fB b m).2⟩, ?_⟩
    · rw [upd_ne (eD ▸ Nat.ne_of_lt lt)]
      exact (fB b m).1
    · rw [heapC, Heap.size_push]
      exact Nat.lt_succ_of_lt lt
  have stC : tn 0 sC.heap := T.keep _ _ _ stB fun b _ o e => heapC ▸ Heap.get?_push_of_some _ e
  obtain ⟨Hc, eHc⟩ : ∃ Hc, Hc = upd Ha D (NdO X.prog X.w D []) := ⟨_, rfl⟩
  rw [← eHc] at IC fC w0
  obtain ⟨clo, eclo⟩ : ∃ clo, clo = cellsFrom (sC.heap.objs.size + 1) sc.names (cloFrom X.env.cells sc.names []) := ⟨_, rfl⟩
  obtain ⟨ce, ece⟩ : ∃ ce, ce = compEnvC sc clo sC.heap.objs.size X.env := ⟨_, rfl⟩
  have gP := pgG sC Hc sC.heap.objs.size clo fp
  have tP := ptG sC Hc sC.heap.objs.size clo fp
  have kP := pkG sC Hc sC.heap.objs.size clo fp
  have vP := pvG sC Hc sC.heap.objs.size clo fp
  have IE := block_start IC blk nd fC
  rw [← eclo, ← ece] at IE
  rw [← ece] at gP tP kP vP
  have locE : ce.locals = sC.heap.objs.size := by rw [ece]; rfl
  obtain ⟨sE, eE⟩ : ∃ sE : Shared, sE = { sC with heap := pushCells (sC.heap.push { cls := .type "dict", data := .dict #[] }) sc.names } := ⟨_, rfl⟩
  rw [← eE] at IE
  have stE : tn 0 sE.heap := T.keep _ _ _ stC fun b _ o e => eE ▸ pushCells_keeps _ _ _ _ (Heap.get?_push_of_some _ e)
  have here : ∀ {σ' : L2.St} {H' : Hp} {s' : Shared}, Inv (X.blk sC Hc sc ce fp) [] σ' H' s' → (∀ b ∈ fp, H' b = none) → ∀ b ∈ fp, FpOk (X.blk sC Hc sc ce fp) [] H' b := fun {_ _ _} I' free b m =>
    ⟨free b m, (I'.ok.exf b m).1, I'.ok.exfs b m, .inl m, fun x c e => (I'.ok.exf b m).2 x c e, fun p q => (List.not_mem_nil (show p ∈ ([] : List (Addr × Obj)) from q)).elim⟩
  let Wd : Nat → Shared → Prop := fun n s' => ∃ i H', n = lim - i ∧ Inv (X.blk sC Hc sc ce fp) [] (wipe σ (own.map (·.2))) H' s' ∧ tn i s'.heap ∧ (∀ b ∈ fp, H' b = none) ∧ W i H'
  subst ece eclo
  have loop : codeAny (model X.prog X.w) X.A (.compLoop (.DictComp kx vx [⟨tg, iter, ifs, 0⟩] sc pos) 0 (.ref it) (.ref D) (compEnvC sc (cellsFrom (sC.heap.objs.size + 1) sc.names (cloFrom X.env.cells sc.names [])) sC.heap.objs.size X.env)) (compPost (model X.prog X.w) X.A X.xe none (fun v s' => ∃ x H', Inv X pins σ H' s' ∧ RelV x v ∧ Q x H') (.ref D) sC.heap.objs.size) sE := by
    refine compLoop_anyD Wd ?_ (lim - 0) ⟨0, Hc, rfl, IE, stE, fun b m => (fC b m).1.1, w0⟩
    rintro n s5 ⟨i, H5, rfl, I5, st5, n5, w5⟩
    rcases turn i H5 w5 with ⟨stop, done⟩ | ⟨lt, go, step⟩
    · refine thnF (T.done (X.blk sC Hc sc _ fp) rfl rfl rfl calm i [] s5 _ H5 (fun _ _ => False) I5 (here I5 n5) st5 stop) fun r s6 z => ?_
      obtain ⟨rfl, I6⟩ := z
      have I7 : Inv X pins σ H5 s6 := IC.call' (ch := fp) I6.os I6.base I6.hok I6.bare fun b m => ⟨(fC b m).1.2.2.2.1, (fC b m).1.2.1, (fC b m).1.2.2.2.2.1, (fC b m).1.2.2.2.2.2⟩
      have noC : H5 sC.heap.objs.size = none := I6.free
      obtain ⟨m, ns, _⟩ := I6.loc
      obtain ⟨f0, f1, f2, f3, f4, f5⟩ := IC.fpOk (Nat.le_refl _) noC
      refine ⟨m, ns, fun h9 sb => ?_⟩
      exact ⟨.ref D, H5, I7.turned (t' := s6.toks) (fun b o hb e => (sb.2 b hb).trans e) noC f1 f3 f4 f5, rfl, done⟩
    · refine thnF (T.item (X.blk sC Hc sc _ fp) rfl rfl rfl calm i [] s5 _ H5 (fun _ _ => False) I5 (here I5 n5) st5 go) fun r s6 z => ?_
      obtain ⟨u, rfl, z6⟩ := z
      refine thnF z6 fun _ s7 z7 => ?_
      obtain ⟨x, H7, I7, r7, y7, st7, n7⟩ := z7
      refine thnF (gP.run _ s7 _ H7 x u _ (I7.pinned (here I7 n7) (T.obj _ _ st7)) r7 (step x H7 y7)) fun _ s8 z8 => ?_
      obtain ⟨σ8, H8, I8, w8, q8⟩ := z8
      refine thnF (tP.run _ s8 σ8 H8 _ I8 q8) fun yes s9 z9 => ?_
      obtain ⟨H9, I9, q9⟩ := z9
      have again : ∀ {s' : Shared} {H' : Hp}, Inv (X.blk sC Hc sc (compEnvC sc (cellsFrom (sC.heap.objs.size + 1) sc.names (cloFrom X.env.cells sc.names [])) sC.heap.objs.size X.env) fp) ([] ++ pinsAt fp s7.heap) σ8 H' s' → W (i + 1) H' → ∃ m, m < lim - i ∧ Wd m s' := fun {s' H'} I' nx => by
        have pinned : ∀ b ∈ fp, ∀ o, s7.heap.get? b = some o → s'.heap.get? b = some o ∧ H' b = none := fun b m o e => by
          obtain ⟨z1, z2, _⟩ := I'.pin (b, o) (List.mem_append_right _ (List.mem_append_right _ (mem_pinsAt m e)))
          exact ⟨z1, z2⟩
        have same : (wipe σ (own.map (·.2))).length = σ8.length := (congrArg List.length w8).symm.trans (wipe_length _ _)
        refine ⟨lim - (i + 1), by omega, i + 1, H', rfl, (I'.unpinned (pins := [])).weak same (fun j v e => (wipe_some (w8 ▸ e)).1), T.keep _ _ _ st7 fun b m o e => (pinned b m o e).1, fun b m => ?_, nx⟩
        obtain ⟨o, e, _⟩ := T.obj _ _ st7 b m
        exact (pinned b m o e).2
      cases yes with
      | false => exact again I9 q9
      | true =>
        refine thnF (kP.run _ s9 σ8 H9 _ I9 q9) fun kv s10 z10 => ?_
        obtain ⟨y, H10, I10, r10, q10⟩ := z10
        refine thnF (vP.run _ s10 σ8 H10 _ I10 q10) fun vv s11 z11 => ?_
        obtain ⟨v, H11, I11, r11, kvs, k, b, dd, rfl, hb, hk, dep, hD, sz, nx⟩ := z11
        obtain rfl : kv = Value.ref b := r10
        exact nd_put (X := X.blk sC Hc sc _ fp) hu I11 hD hb hk dep sz r11 fun s12 I12 => again I12 nx
  rw [← eE]
  exact codeAny_compStart_dict loop (T.self X.A 0 _ _ _ stE loop)
end
end DL
set_option Elab.async false
set_option linter.all false
set_option maxRecDepth 100000
set_option maxHeartbeats 4000000
namespace DL
open PySem PySem.Spec PyProof.Rows L2 Evl
/-- a datum that is a tuple and a key -/
def KeyT (d : PyData) : Prop := (∃ ds, d = .tuple ds) ∧ ∃ k, keyD d = some k ∧ k.depth ≤ 8
theorem hasN_put {kvs : List (NestedKey × Addr × V)} {k k' : NestedKey} {b : Addr} {v : V} : hasN (putN kvs k b v) k' = (hasN kvs k' || decide (k = k')) := by
  unfold putN
  by_cases h : hasN kvs k = true
  · rw [if_pos h]
    unfold hasN at h ⊢
    rw [List.any_map]
    have e : ((fun x : NestedKey × Addr × V => decide (x.1 = k')) ∘ fun x => if x.1 = k then (x.1, x.2.1, v) else x) = fun x => decide (x.1 = k') := by
      funext x
      show decide ((if x.1 = k then (x.1, x.2.1, v) else x).1 = k') = _
      by_cases e : x.1 = k
      · rw [if_pos e]
      · rw [if_neg e]
    rw [e]
    by_cases e2 : k = k'
    · subst e2
      rw [h] <;> rfl
    · rw [decide_eq_false e2, Bool.or_false]
  · rw [if_neg h]
    unfold hasN
    rw [List.any_append]
    simp
section
variable {P : Program} {w : World} {K : PySem.W.Frag} {σ : L2.St} {H : Hp} {te : TE} {ds : List PyData}
/-- {x: True for x in t} -/
theorem ev_dcN {i : Nat} {vs : List Nat} {Q : VK} (h : EvD K te σ H (.tuple ds)) (hi : immAll ds = true) (hk : ∀ d ∈ ds, KeyT d) (hl : ds.length ≤ 50000) (hw : ∀ x, wipe ((wipe σ vs).set i (some x)) vs = wipe σ vs) (hg : ∀ x, ((wipe σ vs).set i (some x))[i]? = some (some x))
    (q : ∀ D kvs H', H D = none → Ex H H' → Nd P w K H' D kvs → (∀ k, hasN kvs k = ds.any fun d => decide (keyD d = some k)) → Q (.ref D) H') : tDcN P w K (iTup K te) (gName i) tYes (tVar i) (tC (.bl true)) vs σ H Q := by
  refine ei_tup (K := K) (S := []) (Ls.nil _) h hi H (Ex.refl _) _ fun J H2 e2 wk => ?_
  intro D hD
  refine ⟨fun j Ha => j ≤ ds.length ∧ Ex H2 Ha ∧ ∃ kvs, Nd P w K Ha D kvs ∧ kvs.length ≤ j ∧ ∀ k, hasN kvs k = (ds.take j).any fun d => decide (keyD d = some k), ds.length, ⟨Nat.zero_le _, Ex.new hD, [], ⟨upd_same, fun x hx => by simp at hx⟩, by simp, fun k => by simp [hasN]⟩, ?_⟩
  rintro j Ha ⟨hj, xa, kvs, N, lk, hh⟩
  have gX : Xp [] H2 Ha := Xp.of_ex xa
  by_cases hlt : j < ds.length
  · refine .inr ⟨hlt, wk.goes j Ha hlt gX, fun x Hx y => ?_⟩
    obtain ⟨ey, d, g1, g2⟩ := wk.yields j Ha x Hx hlt gX y
    show _ ∧ _
    refine ⟨hw x, ?_⟩
    dsimp only [tYes]
    rw [if_pos rfl]
    obtain ⟨⟨dt, rfl⟩, k, hk1, hk2⟩ := hk d (List.mem_of_getElem? g1)
    obtain ⟨b, rfl⟩ : ∃ b, x = .ref b := by
      cases g2 with
      | tup _ _ => exact ⟨_, rfl⟩
    have iT : imm (.tuple dt) = true := by
      have all : ∀ {l : List PyData} {i : Nat} {d : PyData}, immAll l = true → l[i]? = some d → imm d = true := by
        intro l
        induction l with
        | nil => intro i d _ e; simp at e
        | cons x l ih =>
          intro i d hh e
          simp only [immAll, Bool.and_eq_true] at hh
          cases i with
          | zero => simp at e; subst e; exact hh.1
          | succ i => exact ih hh.2 (by simpa using e)
      exact all hi g1
    refine ⟨.ref b, hg _, kvs, k, b, _, rfl, g2, hk1, hk2, N.ex ey, sz_lt (by omega), hlt, ?_, putN kvs k b (.bl true), (N.ex ey).put g2 iT hk1 hk2, Nat.le_trans (putN_len _ _ _ _) (by omega), fun k' => ?_⟩
    · exact Ex.mut (xa.trans ey) hD
    · rw [hasN_put, hh, List.take_add_one, g1, Option.toList_some, List.any_append]
      have : ([PyData.tuple dt].any fun d => decide (keyD d = some k')) = decide (k = k') := by
        rw [List.any_cons, List.any_nil, Bool.or_false, hk1]
        simp
      rw [this]
  · have ej : j = ds.length := by omega
    subst ej
    rw [List.take_length] at hh
    exact .inl ⟨wk.stops Ha gX, q D kvs Ha (fresh_back e2 hD) (e2.trans xa) N hh⟩
end
end DL
set_option Elab.async false
set_option linter.all false
set_option maxRecDepth 100000
set_option maxHeartbeats 4000000
namespace K16
open PySem PySem.Spec PyProof.Rows L2 Evl DL
local macro_rules | `(tactic| walk_at "dl") => `(tactic| first
  | exact ev_c | exact ev_var rfl | exact eda_nil
  | exact ed_var rfl (by assumption)
  | exact ed_int ev_c | exact ed_int (ev_var rfl)
  | (refine eda_cons ?_ ?_ <;> walk_at "dl")
  | (refine ed_int ?_; walk_at "dl")
  | (refine ev_op ?_ ?_ rv_I0 <;> walk_at "dl"))

section
variable {P : Program} {w : World} {K : PySem.W.Frag} {mg : Str → Option Value} {base : Heap}

/-- a def that may raise, called where it doesn't -/
theorem calm_of {f : Addr} {fd : FuncData} {k : Nat} {ps : List Str} {sp sp' : Sp} (F : FnOk P w K mg base (L2.CX P w) k f fd ps sp) (h : ∀ vs H Q E, sp' vs H Q E → sp vs H Q (fun _ _ _ => False)) : FnOk P w K mg base CX0 k f fd ps sp' := by
  refine ⟨fun vs H Q E q => F.len _ _ _ _ (h _ _ _ _ q), fun A outer s H args us vs Q E hr e0 hb r q => codeAny_mono (F.run A outer s H args us vs Q _ hr e0 hb r (h _ _ _ _ q)) fun o s' z => ?_⟩
  cases o with
  | ok fl => cases fl <;> exact z
  | error e =>
    obtain ⟨_, _, _, _, _, _, _, _, _, _, _, _, no⟩ := (show L2.CX P w outer H s (fun _ _ _ => False) e s' from z)
    exact no.elim
theorem calmD {nm : Str} {k n : Nat} {ps : List Str} {R : List PyData → PyData → Prop} {B : List PyData → Addr → Prop} (F : DFX P w K mg base nm k ps (spR K n R B)) : DF P w K mg base nm k ps (spD K n R) := by
  obtain ⟨f, fd, h1, h2⟩ := F.ex
  exact ⟨f, fd, calm_of h1 fun vs H Q E ⟨ds, r, hd, hl, hr, q⟩ => ⟨ds, hd, hl, .inl ⟨r, hr, q⟩⟩, h2⟩
/-! ### keys that are switches -/
def keyOf (u : Sw) : NestedKey := .tup [.tup [.num u.1.1, .num u.1.2], .tup [.num u.2.1, .num u.2.2]]
theorem key_sw (u : Sw) : keyD (swD u) = some (keyOf u) := by
  simp [swD, pD, keyD, keyDs, keyOf]
theorem keyOf_inj {u v : Sw} (h : keyOf u = keyOf v) : u = v := by
  obtain ⟨⟨a, b⟩, ⟨c, d⟩⟩ := u
  obtain ⟨⟨a', b'⟩, ⟨c', d'⟩⟩ := v
  simp [keyOf] at h
  obtain ⟨⟨rfl, rfl⟩, rfl, rfl⟩ := h
  rfl
theorem keyT_sw (u : Sw) : KeyT (swD u) := ⟨⟨_, rfl⟩, keyOf u, key_sw u, by simp [keyOf, NestedKey.depth, NestedKey.depthAll]⟩
theorem imm_sw (u : Sw) : imm (swD u) = true := by simp [swD, imm, immAll, pD]
theorem has_sw (ws : List Sw) (u : Sw) : ((ws.map swD).any fun d => decide (keyD d = some (keyOf u))) = decide (u ∈ ws) := by
  rw [List.any_map]
  have e : ((fun d => decide (keyD d = some (keyOf u))) ∘ swD) = fun x => decide (x = u) := by
    funext x
    show decide (keyD (swD x) = some (keyOf u)) = _
    rw [key_sw]
    by_cases h : x = u
    · subst h
      simp
    · rw [decide_eq_false h, decide_eq_false fun z => h (keyOf_inj (Option.some.inj z))]
  rw [e, Bool.eq_iff_iff, List.any_eq_true, decide_eq_true_eq]
  exact ⟨fun ⟨x, h1, h2⟩ => of_decide_eq_true h2 ▸ h1, fun h => ⟨u, h, decide_eq_true rfl⟩⟩
/-! ### a Box -/
structure BoxC (K : PySem.W.Frag) (C : Addr) : Prop where
  cls : Cls K C
  a1 : NoAttr K C "sides"
  a2 : NoAttr K C "tracks"
  a3 : NoAttr K C "switches"
  a4 : NoAttr K C "known"
def BoxFs (s t : Int) (v : V) (d : Addr) : List (Str × V) := [("sides", .int s), ("tracks", .int t), ("switches", v), ("known", .ref d)]
/-- a Box stands at a -/
def BxAt (P : Program) (w : World) (K : PySem.W.Frag) (C : Addr) (H : Hp) (a : Addr) (s t : Int) (ws : List Sw) : Prop :=
  ∃ dx v d kvs, H a = some (.ins C dx (BoxFs s t v d)) ∧ Dp K H v (.tuple (ws.map swD)) ∧ Nd P w K H d kvs ∧ ∀ u : Sw, hasN kvs (keyOf u) = decide (u ∈ ws)
theorem BxAt.ex {C : Addr} {H H' : Hp} {a : Addr} {s t : Int} {ws : List Sw} (h : BxAt P w K C H a s t ws) (e : Ex H H') : BxAt P w K C H' a s t ws := by
  obtain ⟨dx, v, d, kvs, h1, h2, h3, h4⟩ := h
  exact ⟨dx, v, d, kvs, e _ _ h1, dp_ex e _ _ h2, h3.ex e, h4⟩
theorem q_fld {K : PySem.W.Frag} {i j : Nat} {f : Str} {tz : TS} {D : Ends} {σ : L2.St} {H : Hp} {a C dx : Addr} {fs fs' : List (Str × V)} {y : V} (hy : σ[j]? = some (some y)) (ha : σ[i]? = some (some (.ref a))) (ho : H a = some (.ins C dx fs)) (hc : Cls K C) (hn : NoAttr K C f) (hl : fs.length < 1000)
    (hp : putF f y fs = fs') (q : tz D σ (upd H a (.ins C dx fs'))) : tSeq (sFld K (tVar i) (tVar j) f) tz D σ H := ⟨y, hy, .ref a, ha, a, C, dx, fs, rfl, ho, hc, hn, hl, hp ▸ q⟩
def spInit (P : Program) (w : World) (K : PySem.W.Frag) (C : Addr) : Sp := fun vs H Q _ => ∃ x dx s t ws v, vs = [.ref x, .int s, .int t, v] ∧ H x = some (.ins C dx []) ∧ Dp K H v (.tuple (ws.map swD)) ∧ (2 ≤ s ∧ s ≤ 5) ∧ (1 ≤ t ∧ t ≤ 6) ∧
  (∀ u ∈ ws, SwOk s t u) ∧ ws.length ≤ 1000 ∧ risesD (ws.map swD) = true ∧ ∀ H', Xp [x] H H' → BxAt P w K C H' x s t ws → Q .non H'
theorem tx_ins {H : Hp} {p : Addr} {C dx : Addr} {fs : List (Str × V)} {u : HO} (h : H p = some (.ins C dx fs)) : Tx H (L2.upd H p u) := Tx.upd h (fun _ z => nomatch z) fun _ _ z => nomatch z
abbrev s_Box : Stmt := topS 17
abbrev s_init : Stmt := inClass s_Box 0
abbrev N_init : List Str := ["self", "sides", "tracks", "switches", "switch"]
theorem sc_init : FnScope N_init ["self", "sides", "tracks", "switches"] (defScope s_init) := ⟨rfl, rfl, rfl, by decide +kernel, rfl, by decide +kernel, by decide +kernel⟩
theorem ok_init {f C : Addr} {fd : FuncData} (F : Fun K "__init__" "Box.__init__" s_init f fd) (T : Txt mg) (B : BoxC K C)
    (D_check_sides : DF P w K mg base "check_sides" 3 ["sides", "most"] (spD K 2 R_check_sides)) (D_check_tracks : DF P w K mg base "check_tracks" 3 ["tracks", "least"] (spD K 2 R_check_tracks)) (D_is_switch_tuple : DF P w K mg base "is_switch_tuple" 3 ["sides", "tracks", "thing"] (spD K 3 R_is_switch_tuple)) :
    FnOk P w K mg base CX0 4 f fd ["self", "sides", "tracks", "switches"] (spInit P w K C) := by
  refine F.ok sc_init (fun vs H Q E h => by obtain ⟨_, _, _, _, _, _, rfl, _⟩ := h; rfl) (fun cdv A outer s0 H vs Q E hr h => ?_)
  obtain ⟨x, dx, s, t, ws, v, rfl, hx, hv, hs, ht, ok, hl, ri, k⟩ := h
  refine ⟨_, (pss_cons (ps_expr (pe_D D_check_sides (hr.mono (by decide)) (by rfl) (pa_cons (pv 1) (pa_cons (pe_const T.c_MOST_SIDES (by rfl)) pa_nil))))
      (pss_cons (ps_expr (pe_D D_check_tracks (hr.mono (by decide)) (by rfl) (pa_cons (pv 2) (pa_cons pe_int pa_nil))))
      (pss_cons (ps_if (pt_not (pt_val (pe_D D_is_switch_tuple (hr.mono (by decide)) (by rfl) (pa_cons (pv 1) (pa_cons (pv 2) (pa_cons (pv 3) pa_nil)))))) (pss_one ps_never) pss_nil)
      (pss_cons (ps_fld (pv 0) (pv 1) rfl)
      (pss_cons (ps_fld (pv 0) (pv 2) rfl)
      (pss_cons (ps_fld (pv 0) (pv 3) rfl)
      (pss_one (ps_fld (pv 0) (pe_dcN (own := [("switch", 4)]) (g := (gName 4)) (tt := tYes) rfl sc_init.nd (hu64 hr) (pi_tup (pv 3)) (blkOk_by (N := N_init) (sc := defScope s_init) (by decide +kernel)) (fun _ _ _ _ _ => (pg_name (i := 4) sc_init.nd rfl (Or.inl rfl))) (fun _ _ _ _ _ => pts_nil) (fun _ _ _ _ _ => (pv 4)) (fun _ _ _ _ _ => pe_bl)) rfl)))))))), ?_⟩
  refine qd_drop (K := K) (ed_call (R := R_check_sides) (ds := [.int s, .int 5]) (eda_cons (ed_int (ev_var rfl)) (eda_cons (ed_int ev_c) eda_nil)) rfl ⟨.int s, rfl, by show (decide (2 ≤ s) && decide (s ≤ 5)) = true; rw [decide_eq_true hs.1, decide_eq_true hs.2]; rfl, rfl⟩) fun H1 e1 => ?_
  refine qd_drop (K := K) (ed_call (R := R_check_tracks) (ds := [.int t, .int 1]) (eda_cons (ed_int (ev_var rfl)) (eda_cons (ed_int ev_c) eda_nil)) rfl ⟨t, 1, rfl, ht.1, ht.2, rfl⟩) fun H2 e2 => ?_
  have E2 := e1.trans e2
  refine q_when (b := false) (et_not (a := true) (et_B (EvD.bool (ed_call (K := K) (R := R_is_switch_tuple) (ds := [.int s, .int t, .tuple (ws.map swD)]) (eda_cons (ed_int (ev_var rfl)) (eda_cons (ed_int (ev_var rfl)) (eda_cons (ed_var (v := v) rfl (dp_ex E2 _ _ hv)) eda_nil))) rfl ⟨s, t, ws, rfl, ok, hl, by rw [ri]⟩)))) (fun hb => nomatch hb) fun _ H3 e3 => ?_
  have E3 := E2.trans e3
  refine q_fld (y := .int s) (fs' := [("sides", .int s)]) rfl rfl (E3 _ _ hx) B.cls B.a1 (by decide) rfl ?_
  refine q_fld (y := .int t) (fs' := [("sides", .int s), ("tracks", .int t)]) rfl rfl upd_same B.cls B.a2 (by simp) rfl ?_
  refine q_fld (y := v) (fs' := [("sides", .int s), ("tracks", .int t), ("switches", v)]) rfl rfl upd_same B.cls B.a3 (by simp) rfl ?_
  rw [upd_upd, upd_upd]
  have t6 := tx_ins (u := .ins C dx [("sides", .int s), ("tracks", .int t), ("switches", v)]) (E3 _ _ hx)
  have hv6 := dp_tx t6 _ _ (by simpa [imm] using immAll_map imm_sw ws) (dp_ex E3 _ _ hv)
  refine ev_dcN (K := K) (ed_var (v := v) rfl hv6) (immAll_map imm_sw ws) (fun d hd => by obtain ⟨u, _, rfl⟩ := List.mem_map.mp hd; exact keyT_sw u) (by rw [List.length_map]; omega) (fun _ => rfl) (fun _ => rfl) fun D kvs H7 hD e7 N hh => ?_
  have x7 := e7 _ _ (upd_same (H := H3) (a := x) (o := .ins C dx [("sides", .int s), ("tracks", .int t), ("switches", v)]))
  have nDx : D ≠ x := fun z => by
    rw [z, upd_same] at hD
    cases hD
  have t8 := tx_ins (u := .ins C dx (BoxFs s t v D)) x7
  refine ⟨.ref x, rfl, x, C, dx, _, rfl, x7, B.cls, B.a4, by simp, ?_⟩
  refine k _ ?_ ⟨dx, v, D, kvs, upd_same, dp_tx t8 _ _ (by simpa [imm] using immAll_map imm_sw ws) (dp_ex e7 _ _ hv6), N.tx t8 (by rw [upd_ne nDx]; exact N.at_), fun u => by rw [hh, has_sw]⟩
  exact Xp.upd ((Xp.upd (Xp.of_ex E3) (by simp)).then e7) (by simp)
end
end K16
set_option Elab.async false
set_option linter.all false
set_option maxRecDepth 100000
set_option maxHeartbeats 4000000
namespace K16
open PySem PySem.Spec PyProof.Rows L2 Evl DL
local macro_rules | `(tactic| walk_at "dl") => `(tactic| first
  | exact ev_c | exact ev_var rfl | exact eda_nil
  | exact ed_var rfl (by assumption)
  | exact ed_int ev_c | exact ed_int (ev_var rfl)
  | (refine eda_cons ?_ ?_ <;> walk_at "dl")
  | (refine ed_int ?_; walk_at "dl")
  | (refine ev_op ?_ ?_ rv_I0 <;> walk_at "dl"))

section
variable {X : Cx}
/-- Box can be called -/
structure BoxD (P : Program) (w : World) (K : PySem.W.Frag) (mg : Str → Option Value) (base : Heap) (C : Addr) : Prop where
  ex : ∃ (f : Addr) (fd : FuncData), Mk K C f ∧ FnOk P w K mg base CX0 4 f fd ["self", "sides", "tracks", "switches"] (spInit P w K C) ∧ Binds K fd ["self", "sides", "tracks", "switches"] []
  nm : mg "Box" = some (.ref C)
  bx : BoxC K C
theorem pe_Box {C : Addr} {e : Expr} {es : List Expr} {t : TA} {p pos : Pos} (B : BoxD X.prog X.w X.K X.mg X.base C) (hr : Room 5 X.A) (hg : Gl X "Box") (ha : PA X (e :: es) t)
    (he : starEach (e :: es) X.env = (false, eval e X.env) :: starEach es X.env := by rfl) (hpl : (backTo pos (starEach es X.env)).any (·.1) = false := by rfl) : PE X (.Call (.Name "Box" p) (e :: es) [] pos) (tMake C (spInit X.prog X.w X.K C) [] E0 t) := by
  obtain ⟨f, fd, h1, h2, h3⟩ := B.ex
  exact pe_make h1 h2 hr hg B.nm h3 .nil pass0 ha (by decide) he hpl
end
section
variable {P : Program} {w : World} {K : PySem.W.Frag} {mg : Str → Option Value} {base : Heap}
variable {C : Addr}
/-- a Box is made of data -/
theorem ev_Box {ta : TA} {σ : L2.St} {H : Hp} {s t : Int} {ws : List Sw} {Q : VK} (h : EvDA K ta σ H [.int s, .int t, .tuple (ws.map swD)]) (hs : 2 ≤ s ∧ s ≤ 5) (ht : 1 ≤ t ∧ t ≤ 6) (ok : ∀ u ∈ ws, SwOk s t u) (hl : ws.length ≤ 1000) (ri : risesD (ws.map swD) = true)
    (q : ∀ a H', H a = none → Ex H H' → BxAt P w K C H' a s t ws → Q (.ref a) H') : tMake C (spInit P w K C) [] E0 ta σ H Q := by
  refine h H (Ex.refl _) _ fun vs H1 e1 hv => ?_
  obtain ⟨v0, v1, v2, rfl, d0, d1, d2⟩ := dpa_three hv
  cases dp_int d0
  cases dp_int d1
  intro x dx hx hdx ne
  have eN : Ex H1 (upd (upd H1 dx (.own x)) x (.ins C dx [])) := (Ex.new hdx).trans (Ex.new (by rw [upd_ne (Ne.symm ne)]; exact hx))
  refine ⟨x, dx, s, t, ws, v2, rfl, upd_same, dp_ex eN _ _ d2, hs, ht, ok, hl, ri, fun H' xp b => ⟨rfl, q x H' (fresh_back e1 hx) (e1.trans fun a o ha => ?_) b⟩⟩
  have nx : a ≠ x := fun z => by
    rw [z, hx] at ha
    cases ha
  exact xp a o (eN a o ha) (by simpa using nx)
/-! ### what is asked of a Box -/
def spHas (P : Program) (w : World) (K : PySem.W.Frag) (C : Addr) : Sp := fun vs H Q _ => ∃ (a : Addr) (s t : Int) (ws : List Sw) (v : V) (u : Sw), vs = [.ref a, v] ∧ BxAt P w K C H a s t ws ∧ Dp K H v (swD u) ∧ ∀ H', Ex H H' → Q (.bl (decide (u ∈ ws))) H'
def spLot (P : Program) (w : World) (K : PySem.W.Frag) (C : Addr) : Sp := fun vs H Q _ => ∃ (a : Addr) (s t : Int) (ws : List Sw) (v : V) (us : List Sw), vs = [.ref a, v] ∧ BxAt P w K C H a s t ws ∧ Dp K H v (.tuple (us.map swD)) ∧ us.length ≤ 1000 ∧ (∀ u ∈ us, u ∈ ws) ∧ ∀ H', Ex H H' → Q (.bl (risesD (us.map swD))) H'
theorem ev_has {i j : Nat} {σ : L2.St} {H : Hp} {a : Addr} {s t : Int} {ws : List Sw} {v : V} {u : Sw} (h1 : σ[i]? = some (some (.ref a))) (h2 : σ[j]? = some (some v)) (hb : BxAt P w K C H a s t ws) (hv : Dp K H v (swD u)) : Ev (tCall (spHas P w K C) [] E0 (tCons (tVar i) (tCons (tVar j) tNil))) σ H (.bl (decide (u ∈ ws))) :=
  fun H1 e Q q => ⟨.ref a, h1, v, h2, a, s, t, ws, v, u, rfl, hb.ex e, dp_ex e _ _ hv, fun H' e' => q H' e'⟩
theorem ev_known (B : BoxC K C) {i j : Nat} {σ : L2.St} {H : Hp} {a : Addr} {s t : Int} {ws : List Sw} {v : V} {u : Sw} (h1 : σ[i]? = some (some (.ref a))) (h2 : σ[j]? = some (some v)) (hb : BxAt P w K C H a s t ws) (hv : Dp K H v (swD u)) : Ev (tOp (rInN P w K false) (tVar j) (tFld K (tVar i) "known")) σ H (.bl (decide (u ∈ ws))) :=
  fun H1 e Q q => by
    obtain ⟨dx, v', d, kvs, g1, g2, g3, g4⟩ := hb.ex e
    obtain ⟨av, rfl⟩ : ∃ av, v = .ref av := by
      cases hv with
      | tup _ _ => exact ⟨_, rfl⟩
    refine ⟨_, h2, .ref a, h1, a, C, dx, BoxFs s t v' d, .ref d, rfl, g1, B.cls, B.a4, rfl, d, kvs, av, swD u, keyOf u, rfl, rfl, g3, dp_ex e _ _ hv, key_sw u, by simp [keyOf, NestedKey.depth, NestedKey.depthAll], ?_⟩
    show Q (.bl (hasN kvs (keyOf u))) H1
    rw [g4]
    exact q H1 (Ex.refl _)
theorem two_of {u : Sw} {i : Nat} {x : PyData} (h : ([pD u.1, pD u.2] : List PyData)[i]? = some x) : ∃ p, x = pD p := by
  have := List.mem_of_getElem? h
  simp only [List.mem_cons, List.not_mem_nil, or_false] at this
  rcases this with rfl | rfl
  · exact ⟨_, rfl⟩
  · exact ⟨_, rfl⟩
theorem two_test {te : TE} {σ : L2.St} {H : Hp} {es : List PyData} (h1 : EvD K te σ H (.tuple es)) (h2 : es.length = 2) : EvT (tNot (tB (tCall (spD K 2 R_is_tuple_of) [] E0 (tCons te (tCons (tC (.int 2)) tNil))))) σ H false :=
  et_not (a := true) (et_B (EvD.bool (ed_call (R := R_is_tuple_of) (ds := [.tuple es, .int 2]) (eda_cons h1 (eda_cons (ed_int ev_c) eda_nil)) rfl ⟨_, _, rfl, by show PyData.bool true = .bool (decide ((es.length : Int) = 2)); rw [h2]; rfl⟩)))
theorem num_test {te : TE} {σ : L2.St} {H : Hp} {n : Int} (h : EvD K te σ H (.int n)) : EvT (tNot (tB (tCall (spD K 1 R_is_number) [] E0 (tCons te tNil)))) σ H false :=
  et_not (a := true) (et_B (EvD.bool (ed_call (R := R_is_number) (ds := [.int n]) (eda_cons h eda_nil) rfl ⟨_, rfl, rfl⟩)))
abbrev s_has_switch : Stmt := topS 23
abbrev N_has_switch : List Str := ["box", "thing", "pin"]
theorem sc_has_switch : FnScope N_has_switch ["box", "thing"] (defScope s_has_switch) := ⟨rfl, rfl, rfl, by decide +kernel, rfl, by decide +kernel, by decide +kernel⟩
theorem ok_has_switch {f : Addr} {fd : FuncData} (F : Fun K "has_switch" "has_switch" s_has_switch f fd) (T : Txt mg)
    (D_is_number : DF P w K mg base "is_number" 1 ["thing"] (spD K 1 R_is_number)) (D_is_tuple_of : DF P w K mg base "is_tuple_of" 1 ["thing", "many"] (spD K 2 R_is_tuple_of)) (B : BoxC K C) :
    FnOk P w K mg base CX0 2 f fd ["box", "thing"] (spHas P w K C) := by
  refine F.ok sc_has_switch (fun vs H Q E h => by obtain ⟨_, _, _, _, _, _, rfl, _⟩ := h; rfl) (fun cdv A outer s H vs Q E hr h => ?_)
  obtain ⟨a, s, t, ws, v, u, rfl, hb, hv, k⟩ := h
  refine ⟨_, (pss_cons (ps_if (pt_not (pt_val (pe_D D_is_tuple_of (hr.mono (by decide)) (by rfl) (pa_cons (pv 1) (pa_cons pe_int pa_nil))))) (pss_one (ps_ret pe_bl)) pss_nil)
      (pss_cons (ps_for PassesOwn.never rfl (pi_tup (pv 1)) (pg_name (i := 2) sc_has_switch.nd rfl (Or.inl rfl)) (pss_one (ps_if (PW.pt (pw_or (pt_not (pt_val (pe_D D_is_tuple_of (hr.mono (by decide)) (by rfl) (pa_cons (pv 2) (pa_cons pe_int pa_nil))))) (pw_or (pt_not (pt_val (pe_D D_is_number (hr.mono (by decide)) (by rfl) (pa_cons (pe_ix ix_tup (pv 2) pe_int (fun _ _ => rfl)) pa_nil)))) (pw_or1 (pt_not (pt_val (pe_D D_is_number (hr.mono (by decide)) (by rfl) (pa_cons (pe_ix ix_tup (pv 2) pe_int (fun _ _ => rfl)) pa_nil)))))))) (pss_one (ps_ret pe_bl)) pss_nil)))
      (pss_one (ps_ret (pe_cmpR (op_inN (hu64 hr)) (pv 1) (pe_fld (pv 0) rfl) (by rfl)))))), ?_⟩
  refine q_when (b := false) (two_test (es := [pD u.1, pD u.2]) (ed_var (v := v) rfl hv) rfl) (fun hb => nomatch hb) fun _ H1 e1 => ?_
  refine e_for (ei_tupD (K := K) (ds := [pD u.1, pD u.2]) (ed_var (v := v) rfl (dp_ex e1 _ _ hv))) (fun H2 i σ' Ha => Ex H2 Ha ∧ ∃ y, σ' = [some (.ref a), some v, y]) (fun H2 e2 => ⟨Ex.refl _, none, rfl⟩) (fun H2 i σ' Ha _ p => Xp.of_ex p.1) ?_ ?_
  · rintro H2 i x y σ' Ha Hb e2 hx ⟨p1, z, rfl⟩ e3 hy
    obtain ⟨p, rfl⟩ := two_of hx
    refine s_when (b := false) (et_or (b := false) (two_test (es := [.int p.1, .int p.2]) (ed_var (v := y) rfl hy) rfl) fun _ => et_or (b := false) (num_test (n := p.1) (ed_ixT (k := 0) (ds := [.int p.1, .int p.2]) (ed_var (v := y) rfl hy) ev_c rfl)) fun _ => num_test (n := p.2) (ed_ixT (k := 1) (ds := [.int p.1, .int p.2]) (ed_var (v := y) rfl hy) ev_c rfl)) (fun hb => nomatch hb) fun _ H5 e5 => ⟨(p1.trans e3).trans e5, _, rfl⟩
  · rintro H2 σ' Ha e2 ⟨p1, z, rfl⟩
    have E := (e1.trans e2).trans p1
    exact s_ret (ev_known B rfl rfl (hb.ex E) (dp_ex E _ _ hv)) fun H4 e4 => k H4 (E.trans e4)

abbrev s_is_lot : Stmt := topS 24
abbrev N_is_lot : List Str := ["box", "thing", "item"]
theorem sc_is_lot : FnScope N_is_lot ["box", "thing"] (defScope s_is_lot) := ⟨rfl, rfl, rfl, by decide +kernel, rfl, by decide +kernel, by decide +kernel⟩
theorem ok_is_lot {f : Addr} {fd : FuncData} (F : Fun K "is_lot" "is_lot" s_is_lot f fd) (T : Txt mg)
    (D_has_switch : DF P w K mg base "has_switch" 2 ["box", "thing"] (spHas P w K C)) (D_rises : DF P w K mg base "rises" 1 ["row"] (spD K 1 R_rises))  :
    FnOk P w K mg base CX0 3 f fd ["box", "thing"] (spLot P w K C) := by
  refine F.ok sc_is_lot (fun vs H Q E h => by obtain ⟨_, _, _, _, _, _, rfl, _⟩ := h; rfl) (fun cdv A outer s H vs Q E hr h => ?_)
  obtain ⟨a, s, t, ws, v, us, rfl, hb, hv, hl, hm, k⟩ := h
  refine ⟨_, (pss_cons (ps_if (pt_not (pt_val (pe_callB call_isi (by rfl) T.b_isinstance (by decide +kernel) (pa_cons (pv 1) (pa_cons (pe_bltn (v := .ty "tuple") (u := .type "tuple") (by rfl) T.b_tuple (by decide +kernel) rfl) pa_nil))))) (pss_one (ps_ret pe_bl)) pss_nil)
      (pss_cons (ps_for PassesOwn.never rfl (pi_tup (pv 1)) (pg_name (i := 2) sc_is_lot.nd rfl (Or.inl rfl)) (pss_one (ps_if (pt_not (pt_val (pe_D D_has_switch (hr.mono (by decide)) (by rfl) (pa_cons (pv 0) (pa_cons (pv 2) pa_nil))))) (pss_one (ps_ret pe_bl)) pss_nil)))
      (pss_one (ps_ret (pe_D D_rises (hr.mono (by decide)) (by rfl) (pa_cons (pv 1) pa_nil)))))), ?_⟩
  refine q_when (b := false) (et_not (a := true) (et_B (ev_isiD (ed_var (v := v) rfl hv) (kit_tuple _)))) (fun hb => nomatch hb) fun _ H1 e1 => ?_
  refine e_for (ei_tupD (K := K) (ds := us.map swD) (ed_var (v := v) rfl (dp_ex e1 _ _ hv))) (fun H2 i σ' Ha => Ex H2 Ha ∧ ∃ y, σ' = [some (.ref a), some v, y]) (fun H2 e2 => ⟨Ex.refl _, none, rfl⟩) (fun H2 i σ' Ha _ p => Xp.of_ex p.1) ?_ ?_
  · rintro H2 i x y σ' Ha Hb e2 hx ⟨p1, z, rfl⟩ e3 hy
    obtain ⟨u, hu, rfl⟩ := List.mem_map.mp (List.mem_of_getElem? hx)
    have E := ((e1.trans e2).trans p1).trans e3
    refine s_when (b := false) (et_not (a := true) (et_B (ev_is (ev_has (i := 0) (j := 2) rfl rfl (hb.ex E) hy) (by rw [decide_eq_true (hm u hu)])))) (fun hb => nomatch hb) fun _ H5 e5 => ⟨(p1.trans e3).trans e5, _, rfl⟩
  · rintro H2 σ' Ha e2 ⟨p1, z, rfl⟩
    have E := (e1.trans e2).trans p1
    exact s_ret (EvD.bool (ed_call (K := K) (R := R_rises) (ds := [.tuple (us.map swD)]) (eda_cons (ed_var (v := v) rfl (dp_ex E _ _ hv)) eda_nil) rfl ⟨_, rfl, row_sw hl, rfl⟩)) fun H4 e4 => k H4 (E.trans e4)

/-! ### mates -/
def mateI (k t : Int) : Int := if (if k % 2 = 0 then k + 1 else k - 1) < t then (if k % 2 = 0 then k + 1 else k - 1) else k
def R_mate (ds : List PyData) (r : PyData) : Prop := ∃ k t : Int, ds = [.int k, .int t] ∧ r = .int (mateI k t)
abbrev s_mate : Stmt := topS 25
abbrev N_mate : List Str := ["track", "tracks", "other"]
theorem sc_mate : FnScope N_mate ["track", "tracks"] (defScope s_mate) := ⟨rfl, rfl, rfl, by decide +kernel, rfl, by decide +kernel, by decide +kernel⟩
theorem ok_mate {f : Addr} {fd : FuncData} (F : Fun K "mate" "mate" s_mate f fd) (T : Txt mg)
      :
    FnOk P w K mg base CX0 1 f fd ["track", "tracks"] (spD K 2 R_mate) := by
  refine F.ok sc_mate (fun vs H Q E h => spD_len h) (fun cdv A outer s H vs Q E hr h => ?_)
  obtain ⟨ds, r, hd, _, ⟨k0, t, rfl, rfl⟩, k⟩ := h
  obtain rfl := dpa_ints (l := [k0, t]) hd
  refine ⟨_, (pss_cons (ps_set (i := 2) sc_mate.nd rfl (.inl rfl) (pe_ifExp (pt_cmpR op_eq (pe_op op_mod (pv 0) pe_int) pe_int (nomark _)) (pe_op op_add (pv 0) pe_int) (pe_op op_sub (pv 0) pe_int)))
      (pss_one (ps_ret (pe_ifExp (pt_cmpR op_lt (pv 2) (pv 1) (nomark _)) (pv 2) (pv 0))))), ?_⟩
  refine qi_asg (v := .int (if k0 % 2 = 0 then k0 + 1 else k0 - 1)) ?_ fun H1 e1 => ?_
  · refine ev_if (b := decide (k0 % 2 = 0)) (et_test (ev_is (ev_op (ev_op (ev_var rfl) ev_c (rv_I (by decide))) ev_c (rv_eq rfl)) (by rw [decide_vint]))) (fun h => ?_) fun h => ?_
    · rw [if_pos (of_decide_eq_true h)]
      exact ev_op (ev_var rfl) ev_c rv_I0
    · rw [if_neg (of_decide_eq_false h)]
      exact ev_op (ev_var rfl) ev_c rv_I0
  · refine d_ret (K := K) (d := .int (mateI k0 t)) (ed_int ?_) fun v H2 e2 hv => k v H2 (e1.trans e2) hv
    refine ev_if (b := decide ((if k0 % 2 = 0 then k0 + 1 else k0 - 1) < t)) (et_test (ev_op (ev_var rfl) (ev_var rfl) rv_I0)) (fun h => ?_) fun h => ?_
    · unfold mateI
      rw [if_pos (of_decide_eq_true h)]
      exact ev_var rfl
    · unfold mateI
      rw [if_neg (of_decide_eq_false h)]
      exact ev_var rfl

def R_is_joined (ds : List PyData) (r : PyData) : Prop := ∃ t k o : Int, ds = [.str "crossed", .int t, .int k, .int o] ∧ r = .bool (decide (o = mateI k t))
abbrev s_is_joined : Stmt := topS 26
abbrev N_is_joined : List Str := ["kind", "tracks", "track", "other"]
theorem sc_is_joined : FnScope N_is_joined ["kind", "tracks", "track", "other"] (defScope s_is_joined) := ⟨rfl, rfl, rfl, by decide +kernel, rfl, by decide +kernel, by decide +kernel⟩
theorem ok_is_joined {f : Addr} {fd : FuncData} (F : Fun K "is_joined" "is_joined" s_is_joined f fd) (T : Txt mg)
    (D_mate : DF P w K mg base "mate" 1 ["track", "tracks"] (spD K 2 R_mate))  :
    FnOk P w K mg base CX0 2 f fd ["kind", "tracks", "track", "other"] (spD K 4 R_is_joined) := by
  refine F.ok sc_is_joined (fun vs H Q E h => spD_len h) (fun cdv A outer s H vs Q E hr h => ?_)
  obtain ⟨ds, r, hd, _, ⟨t, k0, o, rfl, rfl⟩, k⟩ := h
  obtain ⟨v0, v1, v2, v3, rfl, d0, d1, d2, d3⟩ := dpa_four hd
  cases dp_str d0
  cases dp_int d1
  cases dp_int d2
  cases dp_int d3
  refine ⟨_, (pss_cons (ps_if (pt_cmpR op_eq (pv 0) pe_str (nomark _)) (pss_one (ps_ret (pe_cmpR op_eq (pv 3) (pv 2) (nomark _)))) pss_nil)
      (pss_cons (ps_if (pt_cmpR op_eq (pv 0) pe_str (nomark _)) (pss_one (ps_ret (pe_cmpR op_eq (pv 3) (pe_D D_mate (hr.mono (by decide)) (by rfl) (pa_cons (pv 2) (pa_cons (pv 1) pa_nil))) (nomark _)))) pss_nil)
      (pss_one (ps_ret pe_bl)))), ?_⟩
  refine q_when (b := false) (et_test (ev_is (ev_op (ev_var rfl) ev_c (rv_eq rfl)) (congrArg V.bl (by decide)))) (fun hb => nomatch hb) fun _ H1 e1 => ?_
  refine q_when (b := true) (et_test (ev_is (ev_op (ev_var rfl) ev_c (rv_eq rfl)) (congrArg V.bl (by decide)))) (fun _ H2 e2 => ?_) fun hb => nomatch hb
  refine d_ret (K := K) (ed_bool (ev_is (ev_op (ev_var rfl) (EvD.int (ed_call (K := K) (R := R_mate) (ds := [.int k0, .int t]) (eda_cons (ed_int (ev_var rfl)) (eda_cons (ed_int (ev_var rfl)) eda_nil)) rfl ⟨k0, t, rfl, rfl⟩)) (rv_eq rfl)) (by rw [decide_vint]))) fun v H3 e3 hv => k v H3 ((e1.trans e2).trans e3) hv

end
end K16
set_option Elab.async false
set_option linter.all false
set_option maxRecDepth 100000
set_option maxHeartbeats 4000000
namespace K16
open PySem PySem.Spec PyProof.Rows L2 Evl DL
local macro_rules | `(tactic| walk_at "dl") => `(tactic| first
  | exact ev_c | exact ev_var rfl | exact eda_nil
  | exact ed_var rfl (by assumption)
  | exact ed_int ev_c | exact ed_int (ev_var rfl)
  | (refine eda_cons ?_ ?_ <;> walk_at "dl")
  | (refine ed_int ?_; walk_at "dl")
  | (refine ev_op ?_ ?_ rv_I0 <;> walk_at "dl"))

section
variable {P : Program} {w : World} {K : PySem.W.Frag} {mg : Str → Option Value} {base : Heap}
variable {C : Addr}
/-! ### switches of a crossed Box -/
def j4 (t a k c : Int) : List Sw := (List.range t.toNat).flatMap fun (o : Nat) => if (o : Int) = mateI k t then [((a, k), (c, (o : Int)))] else []
def j3 (s t a k : Int) : List Sw := (List.range (s - (a + 1)).toNat).flatMap fun (c : Nat) => j4 t a k (a + 1 + (c : Int))
def j2 (s t a : Int) : List Sw := (List.range t.toNat).flatMap fun (k : Nat) => j3 s t a (k : Int)
def cxs (s t : Int) : List Sw := (List.range s.toNat).flatMap fun (a : Nat) => j2 s t (a : Int)
theorem fl_succ {α : Type} (f : Nat → List α) (i : Nat) : (List.range (i + 1)).flatMap f = (List.range i).flatMap f ++ f i := by
  rw [List.range_succ, List.flatMap_append]
  simp
theorem fl_len {α : Type} {f : Nat → List α} {M : Nat} (h : ∀ i, (f i).length ≤ M) : ∀ n, ((List.range n).flatMap f).length ≤ n * M
  | 0 => by simp
  | n + 1 => by
    have h1 := fl_len h n
    have h2 := h n
    rw [fl_succ, List.length_append, Nat.succ_mul]
    omega
theorem j4_len {t a k c : Int} (ht : t ≤ 6) : (j4 t a k c).length ≤ 6 := by
  have h := fl_len (f := fun (o : Nat) => if (o : Int) = mateI k t then [((a, k), (c, (o : Int)))] else []) (M := 1) (fun i => by split <;> simp) t.toNat
  show ((List.range t.toNat).flatMap _).length ≤ 6
  omega
theorem j3_len {s t a k : Int} (hs : s ≤ 5) (ha : 0 ≤ a) (ht : t ≤ 6) : (j3 s t a k).length ≤ 24 := by
  have h := fl_len (f := fun (c : Nat) => j4 t a k (a + 1 + (c : Int))) (M := 6) (fun i => j4_len ht) (s - (a + 1)).toNat
  show ((List.range (s - (a + 1)).toNat).flatMap _).length ≤ 24
  omega
theorem j2_len {s t a : Int} (hs : s ≤ 5) (ha : 0 ≤ a) (ht : t ≤ 6) : (j2 s t a).length ≤ 144 := by
  have h := fl_len (f := fun (k : Nat) => j3 s t a (k : Int)) (M := 24) (fun i => j3_len hs ha ht) t.toNat
  show ((List.range t.toNat).flatMap _).length ≤ 144
  omega
theorem pre_len {s t : Int} (hs : s ≤ 5) (ht : t ≤ 6) (n : Nat) : ((List.range n).flatMap fun (a : Nat) => j2 s t (a : Int)).length ≤ n * 144 := fl_len (fun i => j2_len hs (by omega) ht) n
theorem cxs_mem {s t : Int} {u : Sw} : u ∈ cxs s t ↔ 0 ≤ u.1.1 ∧ u.1.1 < u.2.1 ∧ u.2.1 < s ∧ 0 ≤ u.1.2 ∧ u.1.2 < t ∧ 0 ≤ u.2.2 ∧ u.2.2 < t ∧ u.2.2 = mateI u.1.2 t := by
  obtain ⟨⟨a, k⟩, ⟨c, o⟩⟩ := u
  simp only [cxs, j2, j3, j4, List.mem_flatMap, List.mem_range]
  constructor
  · rintro ⟨a', ha, k', hk, c', hc, o', ho, h⟩
    split at h
    · rename_i hm
      simp only [List.mem_singleton, Prod.mk.injEq] at h
      obtain ⟨⟨rfl, rfl⟩, rfl, rfl⟩ := h
      exact ⟨by omega, by show (a' : Int) < _; omega, by show (a' : Int) + 1 + (c' : Int) < s; omega, by show (0 : Int) ≤ (k' : Int); omega, by show (k' : Int) < t; omega, by show (0 : Int) ≤ (o' : Int); omega, by show (o' : Int) < t; omega, hm⟩
    · simp at h
  · intro ⟨h1, h2, h3, h4, h5, h6, h7, h8⟩
    refine ⟨a.toNat, by omega, k.toNat, by omega, (c - (a + 1)).toNat, ?_, o.toNat, by omega, ?_⟩
    · rw [Int.toNat_of_nonneg h1]
      omega
    · rw [Int.toNat_of_nonneg h1, Int.toNat_of_nonneg h4, Int.toNat_of_nonneg h6, Int.toNat_of_nonneg (show 0 ≤ c - (a + 1) by omega), if_pos h8, show a + 1 + (c - (a + 1)) = c by omega]
      exact List.mem_singleton.mpr rfl
theorem cxs_ok {s t : Int} : ∀ u ∈ cxs s t, SwOk s t u := fun u hu => by
  obtain ⟨h1, h2, h3, h4, h5, h6, h7, _⟩ := cxs_mem.mp hu
  exact ⟨h1, h2, h3, h4, h5, h6, h7⟩
theorem cxs_len {s t : Int} (hs : 2 ≤ s ∧ s ≤ 5) (ht : 1 ≤ t ∧ t ≤ 6) : (cxs s t).length ≤ 1000 := by
  have := pre_len hs.2 ht.2 s.toNat
  show ((List.range s.toNat).flatMap _).length ≤ 1000
  omega
def riseAll : Bool := [2, 3, 4, 5].all fun (s : Int) => [1, 2, 3, 4, 5, 6].all fun (t : Int) => risesD ((cxs s t).map swD)
theorem rise_all : riseAll = true := by decide +kernel
theorem cxs_rise {s t : Int} (hs : 2 ≤ s ∧ s ≤ 5) (ht : 1 ≤ t ∧ t ≤ 6) : risesD ((cxs s t).map swD) = true := by
  have h := List.all_eq_true.mp (List.all_eq_true.mp rise_all s (by
    have : s = 2 ∨ s = 3 ∨ s = 4 ∨ s = 5 := by omega
    rcases this with rfl | rfl | rfl | rfl <;> decide)) t (by
    have : t = 1 ∨ t = 2 ∨ t = 3 ∨ t = 4 ∨ t = 5 ∨ t = 6 := by omega
    rcases this with rfl | rfl | rfl | rfl | rfl | rfl <;> decide)
  exact h
/-! ### the list while it grows -/
def LstAt (K : PySem.W.Frag) (H : Hp) (l : Addr) (ws : List Sw) : Prop := ∃ vs, H l = some (.lst vs) ∧ DpAll K H vs (ws.map swD)
theorem LstAt.ex {H H' : Hp} {l : Addr} {ws : List Sw} (h : LstAt K H l ws) (e : Ex H H') : LstAt K H' l ws := by
  obtain ⟨vs, h1, h2⟩ := h
  exact ⟨vs, e _ _ h1, dpa_ex e _ _ h2⟩
theorem LstAt.app {H : Hp} {l : Addr} {ws : List Sw} {u : Sw} {vs : List V} {v : V} (h1 : H l = some (.lst vs)) (h2 : DpAll K H vs (ws.map swD)) (hv : Dp K H v (swD u)) : LstAt K (upd H l (.lst (vs ++ [v]))) l (ws ++ [u]) := by
  refine ⟨_, upd_same, ?_⟩
  rw [List.map_append]
  exact dpa_app (dpa_tx (Tx.lst h1) _ _ (immAll_map imm_sw _) h2) (.cons (dp_tx (Tx.lst h1) _ _ (imm_sw u) hv) .nil)
theorem LstAt.is {H : Hp} {l : Addr} {ws ws' : List Sw} (h : LstAt K H l ws) (e : ws = ws') : LstAt K H l ws' := e ▸ h
def spBuilt (P : Program) (w : World) (K : PySem.W.Frag) (C : Addr) : Sp := fun vs H Q _ => ∃ s t : Int, vs = [.int s, .int t, .str "crossed"] ∧ (2 ≤ s ∧ s ≤ 5) ∧ (1 ≤ t ∧ t ≤ 6) ∧ ∀ a H', H a = none → Ex H H' → BxAt P w K C H' a s t (cxs s t) → Q (.ref a) H'
def spCrossed (P : Program) (w : World) (K : PySem.W.Frag) (C : Addr) : Sp := fun vs H Q _ => ∃ s t : Int, vs = [.int s, .int t] ∧ (2 ≤ s ∧ s ≤ 5) ∧ (1 ≤ t ∧ t ≤ 6) ∧ ∀ a H', H a = none → Ex H H' → BxAt P w K C H' a s t (cxs s t) → Q (.ref a) H'
abbrev s_built : Stmt := topS 27
abbrev N_built : List Str := ["sides", "tracks", "kind", "switches", "side", "track", "far", "other"]
theorem sc_built : FnScope N_built ["sides", "tracks", "kind"] (defScope s_built) := ⟨rfl, rfl, rfl, by decide +kernel, rfl, by decide +kernel, by decide +kernel⟩
theorem ok_built {f : Addr} {fd : FuncData} (F : Fun K "built" "built" s_built f fd) (T : Txt mg)
    (D_check_sides : DF P w K mg base "check_sides" 3 ["sides", "most"] (spD K 2 R_check_sides)) (D_check_tracks : DF P w K mg base "check_tracks" 3 ["tracks", "least"] (spD K 2 R_check_tracks)) (D_is_joined : DF P w K mg base "is_joined" 2 ["kind", "tracks", "track", "other"] (spD K 4 R_is_joined)) (BD : BoxD P w K mg base C) :
    FnOk P w K mg base CX0 6 f fd ["sides", "tracks", "kind"] (spBuilt P w K C) := by
  refine F.ok sc_built (fun vs H Q E h => by obtain ⟨_, _, rfl, _⟩ := h; rfl) (fun cdv A outer s H vs Q E hr h => ?_)
  obtain ⟨s, t, rfl, hs, ht, k⟩ := h
  refine ⟨_, (pss_cons (ps_expr (pe_D D_check_sides (hr.mono (by decide)) (by rfl) (pa_cons (pv 0) (pa_cons (pe_const T.c_MOST_SIDES (by rfl)) pa_nil))))
      (pss_cons (ps_expr (pe_D D_check_tracks (hr.mono (by decide)) (by rfl) (pa_cons (pv 1) (pa_cons pe_int pa_nil))))
      (pss_cons (ps_set (i := 3) sc_built.nd rfl (.inl rfl) (pe_lst pa_nil))
      (pss_cons (ps_for PassesOwn.never rfl (pi_range1 (by rfl) T.b_range (pa_cons (pv 0) pa_nil)) (pg_name (i := 4) sc_built.nd rfl (Or.inl rfl)) (pss_one (ps_for PassesOwn.never rfl (pi_range1 (by rfl) T.b_range (pa_cons (pv 1) pa_nil)) (pg_name (i := 5) sc_built.nd rfl (Or.inl rfl)) (pss_one (ps_for PassesOwn.never rfl (pi_range2 (by rfl) T.b_range (pa_cons (pe_op op_add (pv 4) pe_int) (pa_cons (pv 0) pa_nil))) (pg_name (i := 6) sc_built.nd rfl (Or.inl rfl)) (pss_one (ps_for PassesOwn.never rfl (pi_range1 (by rfl) T.b_range (pa_cons (pv 1) pa_nil)) (pg_name (i := 7) sc_built.nd rfl (Or.inl rfl)) (pss_one (ps_if (pt_val (pe_D D_is_joined (hr.mono (by decide)) (by rfl) (pa_cons (pv 2) (pa_cons (pv 1) (pa_cons (pv 5) (pa_cons (pv 7) pa_nil)))))) (pss_one (ps_expr (pe_bm PySem.F.plainAttrs_list PySem.F.slot_list_append PySem.F.type_list_append mt_append (pv 3) (pa_cons (pe_tup (pa_cons (pe_tup (pa_cons (pv 4) (pa_cons (pv 5) pa_nil))) (pa_cons (pe_tup (pa_cons (pv 6) (pa_cons (pv 7) pa_nil))) pa_nil))) pa_nil)))) pss_nil)))))))))
      (pss_one (ps_ret (pe_Box BD (hr.mono (by decide)) (by rfl) (pa_cons (pv 0) (pa_cons (pv 1) (pa_cons (pe_callTy call_tuple_of (by rfl) T.b_tuple (by decide +kernel) (pa_cons (pv 3) pa_nil)) pa_nil)))))))))), ?_⟩
  refine qd_drop (K := K) (ed_call (R := R_check_sides) (ds := [.int s, .int 5]) (eda_cons (ed_int (ev_var rfl)) (eda_cons (ed_int ev_c) eda_nil)) rfl ⟨.int s, rfl, by show (decide (2 ≤ s) && decide (s ≤ 5)) = true; rw [decide_eq_true hs.1, decide_eq_true hs.2]; rfl, rfl⟩) fun H1 e1 => ?_
  refine qd_drop (K := K) (ed_call (R := R_check_tracks) (ds := [.int t, .int 1]) (eda_cons (ed_int (ev_var rfl)) (eda_cons (ed_int ev_c) eda_nil)) rfl ⟨t, 1, rfl, ht.1, ht.2, rfl⟩) fun H2 e2 => ?_
  refine qn_asg (K := K) (en_lst eda_nil (by simp)) fun l vs0 H3 hl0 e3 hl hd0 => ?_
  have L0 : LstAt K H3 l [] := ⟨vs0, hl, hd0⟩
  refine e_for (ei_rng1 (K := K) (S := [l]) (n := s) (by walk_at "dl") (by omega)) (fun H4 i σ2 Hc => Xp [l] H4 Hc ∧ LstAt K Hc l ((List.range i).flatMap fun (a : Nat) => j2 s t (a : Int)) ∧ ∃ y1 y2 y3 y4, σ2 = [some (.int s), some (.int t), some (.str "crossed"), some (.ref l), y1, y2, y3, y4]) (fun H4 e4 => ⟨Xp.refl _ _, (L0.ex e4).is (by simp), none, none, none, none, rfl⟩) (fun H4 i σ2 Hc _ p => p.1) ?_ ?_
  · rintro H4 a d x σ2 Ha Hb e4 hd1 ⟨p1, p2, y1, y2, y3, y4, rfl⟩ e5 hx
    have hlt : a < s.toNat := by
      have := (List.getElem?_eq_some_iff.mp hd1).1
      simpa using this
    rw [rng_get hlt] at hd1
    cases hd1
    cases hx
    refine d_for (ei_rng1 (K := K) (S := [l]) (n := t) (by walk_at "dl") (by omega)) (fun H4 i σ2 Hc => Xp [l] H4 Hc ∧ LstAt K Hc l (((List.range a).flatMap fun (a : Nat) => j2 s t (a : Int)) ++ (List.range i).flatMap fun (k : Nat) => j3 s t (a : Int) (k : Int)) ∧ ∃ y2 y3 y4, σ2 = [some (.int s), some (.int t), some (.str "crossed"), some (.ref l), some (.int (a : Int)), y2, y3, y4]) (fun H5 e6 => ⟨Xp.refl _ _, ((p2.ex e5).ex e6).is (by simp), y2, y3, y4, rfl⟩) (fun H5 i σ2 Hc _ p => p.1) ?_ ?_
    · rintro H5 k0 d x σ2 Hc Hd e6 hd1 ⟨q1, q2, z2, z3, z4, rfl⟩ e7 hx
      have hlt : k0 < t.toNat := by
        have := (List.getElem?_eq_some_iff.mp hd1).1
        simpa using this
      rw [rng_get hlt] at hd1
      cases hd1
      cases hx
      refine d_for (ei_rng2 (K := K) (S := [l]) (m := (a : Int) + 1) (n := s) (eda_cons (ed_int (ev_op (ev_var rfl) ev_c rv_I0)) (eda_cons (ed_int (ev_var rfl)) eda_nil)) (by omega)) (fun H4 i σ2 Hc => Xp [l] H4 Hc ∧ LstAt K Hc l ((((List.range a).flatMap fun (a : Nat) => j2 s t (a : Int)) ++ (List.range k0).flatMap fun (k : Nat) => j3 s t (a : Int) (k : Int)) ++ (List.range i).flatMap fun (c : Nat) => j4 t (a : Int) (k0 : Int) ((a : Int) + 1 + (c : Int))) ∧ ∃ y3 y4, σ2 = [some (.int s), some (.int t), some (.str "crossed"), some (.ref l), some (.int (a : Int)), some (.int (k0 : Int)), y3, y4]) (fun H6 e8 => ⟨Xp.refl _ _, ((q2.ex e7).ex e8).is (by simp), z3, z4, rfl⟩) (fun H6 i σ2 Hc _ p => p.1) ?_ ?_
      · rintro H6 c d x σ2 He Hf e8 hd1 ⟨r1, r2, u3, u4, rfl⟩ e9 hx
        have hlt : c < (s - ((a : Int) + 1)).toNat := by
          have := (List.getElem?_eq_some_iff.mp hd1).1
          simpa using this
        rw [rng_get hlt] at hd1
        cases hd1
        cases hx
        refine d_for (ei_rng1 (K := K) (S := [l]) (n := t) (by walk_at "dl") (by omega)) (fun H4 i σ2 Hc => Xp [l] H4 Hc ∧ LstAt K Hc l (((((List.range a).flatMap fun (a : Nat) => j2 s t (a : Int)) ++ (List.range k0).flatMap fun (k : Nat) => j3 s t (a : Int) (k : Int)) ++ (List.range c).flatMap fun (c : Nat) => j4 t (a : Int) (k0 : Int) ((a : Int) + 1 + (c : Int))) ++ (List.range i).flatMap fun (o : Nat) => if (o : Int) = mateI (k0 : Int) t then [(((a : Int), (k0 : Int)), ((a : Int) + 1 + (c : Int), (o : Int)))] else []) ∧ ∃ y4, σ2 = [some (.int s), some (.int t), some (.str "crossed"), some (.ref l), some (.int (a : Int)), some (.int (k0 : Int)), some (.int ((a : Int) + 1 + (c : Int))), y4]) (fun H7 e10 => ⟨Xp.refl _ _, ((r2.ex e9).ex e10).is (by simp), u4, rfl⟩) (fun H7 i σ2 Hc _ p => p.1) ?_ ?_
        · rintro H7 o d x σ2 Hg Hh e10 hd1 ⟨o1, o2, w4, rfl⟩ e11 hx
          have hlt : o < t.toNat := by
            have := (List.getElem?_eq_some_iff.mp hd1).1
            simpa using this
          rw [rng_get hlt] at hd1
          cases hd1
          cases hx
          refine s_when (b := decide ((o : Int) = mateI (k0 : Int) t)) (et_B (EvD.bool (ed_call (K := K) (R := R_is_joined) (ds := [.str "crossed", .int t, .int (k0 : Int), .int (o : Int)]) (eda_cons (ed_str (ev_var rfl)) (eda_cons (ed_int (ev_var rfl)) (eda_cons (ed_int (ev_var rfl)) (eda_cons (ed_int (ev_var rfl)) eda_nil)))) rfl ⟨t, _, _, rfl, rfl⟩))) (fun hb H8 e12 => ?_) fun hb H8 e12 => ?_
          · obtain ⟨vs, g1, g2⟩ := (o2.ex e11).ex e12
            have lv := dpa_len g2
            refine d_app (K := K) g1 (ev_var rfl) (d := swD (((a : Int), (k0 : Int)), ((a : Int) + 1 + (c : Int), (o : Int)))) (ed_tup (ds := [pD ((a : Int), (k0 : Int)), pD ((a : Int) + 1 + (c : Int), (o : Int))]) (eda_cons (ed_tup (ds := dI [(a : Int), (k0 : Int)]) (eda_cons (ed_int (ev_var rfl)) (eda_cons (ed_int (ev_var rfl)) eda_nil)) (by simp)) (eda_cons (ed_tup (ds := dI [(a : Int) + 1 + (c : Int), (o : Int)]) (eda_cons (ed_int (ev_var rfl)) (eda_cons (ed_int (ev_var rfl)) eda_nil)) (by simp)) eda_nil)) (by simp)) ?_ fun v H9 e13 hv => ?_
            · have b1 := pre_len (s := s) hs.2 ht.2 a
              have b2 := fl_len (f := fun (k : Nat) => j3 s t (a : Int) (k : Int)) (M := 24) (fun i => j3_len hs.2 (by omega) ht.2) k0
              have b3 := fl_len (f := fun (c : Nat) => j4 t (a : Int) (k0 : Int) ((a : Int) + 1 + (c : Int))) (M := 6) (fun i => j4_len ht.2) c
              have b4 := fl_len (f := fun (o : Nat) => if (o : Int) = mateI (k0 : Int) t then [(((a : Int), (k0 : Int)), ((a : Int) + 1 + (c : Int), (o : Int)))] else []) (M := 1) (fun i => by split <;> simp) o
              rw [lv, List.length_map, List.length_append, List.length_append, List.length_append]
              have : a * 144 ≤ 5 * 144 := Nat.mul_le_mul_right _ (by omega)
              have : k0 * 24 ≤ 6 * 24 := Nat.mul_le_mul_right _ (by omega)
              omega
            · refine ⟨Xp.upd ((((o1.then e11).then e12).then e13)) (by simp), (LstAt.app (e13 _ _ g1) (dpa_ex e13 _ _ g2) hv).is ?_, _, rfl⟩
              rw [fl_succ, if_pos (of_decide_eq_true hb), ← List.append_assoc]
          · refine ⟨(o1.then e11).then e12, ((o2.ex e11).ex e12).is ?_, _, rfl⟩
            rw [fl_succ, if_neg (of_decide_eq_false hb), List.append_nil]
        · rintro H7 σ2 Hg e10 ⟨o1, o2, w4, rfl⟩
          rw [List.length_map, List.length_range] at o2
          refine ⟨((r1.then e9).then e10).trans o1, o2.is ?_, _, _, rfl⟩
          rw [fl_succ, ← List.append_assoc]
          rfl
      · rintro H6 σ2 He e8 ⟨r1, r2, u3, u4, rfl⟩
        rw [List.length_map, List.length_range] at r2
        refine ⟨((q1.then e7).then e8).trans r1, r2.is ?_, _, _, _, rfl⟩
        rw [fl_succ, ← List.append_assoc]
        rfl
    · rintro H5 σ2 Hc e6 ⟨q1, q2, z2, z3, z4, rfl⟩
      rw [List.length_map, List.length_range] at q2
      refine ⟨((p1.then e5).then e6).trans q1, q2.is ?_, _, _, _, _, rfl⟩
      rw [fl_succ]
      rfl
  · rintro H4 σ2 Ha e4 ⟨p1, p2, y1, y2, y3, y4, rfl⟩
    rw [List.length_map, List.length_range] at p2
    obtain ⟨vs, g1, g2⟩ := p2
    have xE : Ex H3 H4 := e4
    have xp : Xp [l] H3 Ha := (Xp.of_ex e4).trans p1
    have E : Ex H Ha := fun b o hb => xp b o (((e1.trans e2).trans e3) b o hb) (by
      have : b ≠ l := fun z => by
        have := (e1.trans e2) b o hb
        rw [z, hl0] at this
        cases this
      simpa using this)
    refine ev_Box (C := C) (s := s) (t := t) (ws := cxs s t) (eda_cons (ed_int (ev_var rfl)) (eda_cons (ed_int (ev_var rfl)) (eda_cons (ed_tupleOf (EvQ.toD (eq_var (K := K) (k := 3) rfl g1 g2))) eda_nil))) hs ht cxs_ok (cxs_len hs ht) (cxs_rise hs ht) fun x H' hx e' b => ?_
    exact k x H' (fresh_back E hx) (E.trans e') b

abbrev s_crossed : Stmt := topS 28
abbrev N_crossed : List Str := ["sides", "tracks"]
theorem sc_crossed : FnScope N_crossed ["sides", "tracks"] (defScope s_crossed) := ⟨rfl, rfl, rfl, by decide +kernel, rfl, by decide +kernel, by decide +kernel⟩
theorem ok_crossed {f : Addr} {fd : FuncData} (F : Fun K "crossed" "crossed" s_crossed f fd) (T : Txt mg)
    (D_built : DF P w K mg base "built" 6 ["sides", "tracks", "kind"] (spBuilt P w K C))  :
    FnOk P w K mg base CX0 7 f fd ["sides", "tracks"] (spCrossed P w K C) := by
  refine F.ok sc_crossed (fun vs H Q E h => by obtain ⟨_, _, rfl, _⟩ := h; rfl) (fun cdv A outer s H vs Q E hr h => ?_)
  obtain ⟨s, t, rfl, hs, ht, k⟩ := h
  refine ⟨_, (pss_one (ps_ret (pe_D D_built (hr.mono (by decide)) (by rfl) (pa_cons (pv 0) (pa_cons (pv 1) (pa_cons pe_str pa_nil)))))), ?_⟩
  exact ⟨_, rfl, _, rfl, s, t, rfl, hs, ht, fun a H' ha e b => k a H' ha e b⟩

end
end K16
set_option Elab.async false
set_option linter.all false
set_option maxRecDepth 100000
set_option maxHeartbeats 4000000
/-! {} and d[k] = v where keys are of any depth; walks while things that are no tuples change -/
namespace DL
open PySem PySem.Spec PyProof.Rows L2 Evl
/-- {} -/
def tDNewN (P : Program) (w : World) : TE := fun _ H Q => ∀ p, H p = none → Q (.ref p) (upd H p (NdO P w p []))
/-- d[k] = v -/
def sDPutN (P : Program) (w : World) (K : PySem.W.Frag) (td ty tv : TE) : TS := fun D σ H => tv σ H fun z H1 => td σ H1 fun x H2 => ty σ H2 fun y H3 => ∃ (d : Addr) (kvs : List (NestedKey × Addr × V)) (k : NestedKey) (b : Addr) (dd : PyData),
  x = .ref d ∧ y = .ref b ∧ Dp K H3 (.ref b) dd ∧ keyD dd = some k ∧ k.depth ≤ 8 ∧ Nd P w K H3 d kvs ∧ kvs.length < sizeLine ∧ D.nx σ (upd H3 d (NdO P w d (putN kvs k b z)))
section
variable {X : Cx} {o i value : Expr} {pos pos' : Pos} {td ty tv : TE}
theorem pe_dnewN : PE X (.Dict [] [] pos) (tDNewN X.prog X.w) := by
  constructor
  intro pins s σ H Q I h
  apply wpAny_Dict_empty
  have J := I.laid (a := s.heap.objs.size) (o := NdO X.prog X.w s.heap.objs.size []) (t' := s.toks) (fun _ _ q => Heap.get?_push_of_some _ q) (Nat.le_refl _) (nd_empty s.heap I.big)
  exact ⟨.ref s.heap.objs.size, _, J, rfl, h _ (I.hok.fresh (Nat.le_refl _))⟩
theorem ps_dputN (hu : X.A.units + 64 < cLine) (ho : PE X o td) (hi : PE X i ty) (hv : PE X value tv) (hs : swapsWith value (some (.Subscript o i pos')) pos.line X.env = pure false) :
    PS X (.Assign [.Subscript o i pos'] value pos) (sDPutN X.prog X.w X.K td ty tv) := by
  constructor
  intro pins s σ H D I h
  apply wpAny_Assign_Subscript _ hs
  refine thn (hv.run pins s σ H _ I h) fun r s1 z1 => ?_
  obtain ⟨v, H1, I1, rv, q1⟩ := z1
  refine thn (ho.run pins s1 σ H1 _ I1 q1) fun u s2 z2 => ?_
  obtain ⟨x, H2, I2, rx, q2⟩ := z2
  refine thn (hi.run pins s2 σ H2 _ I2 q2) fun iv s3 z3 => ?_
  obtain ⟨y, H3, I3, ry, d, kvs, k, b, dd, rfl, rfl, hb, hk, dep, N, sz, q3⟩ := z3
  obtain rfl : u = Value.ref d := rx
  obtain rfl : iv = Value.ref b := ry
  obtain ⟨z, hd, xs, rel, dd'⟩ := nd_open I3 N
  have lx : xs.length ≤ sizeLine := Paired.length rel ▸ z
  have room : (nestedKind X.prog X.w).room X.A.in1 := by
    show X.A.in1.units + 8 < cLine
    have : X.A.in1.units ≤ X.A.units + 1 := Nat.le_of_eq rfl
    omega
  refine wpAny_setItem_heap (hsz := lx) room ⟨nested_of I3 dd k _ _ hk hb rfl, dep⟩ dd' fun h' now but => ?_
  obtain ⟨ob, es, ep, ho, ex, hdat, hl, _, nd⟩ := now
  have pl := putN_len kvs k b v
  exact ⟨σ, _, d_write I3 (by rw [N.at_]; exact True.intro) but ⟨ob, ho⟩ (ndO_ok (by omega) hd (put_pair rel k b rv) ho ex hdat hl nd), q3⟩
end
/-- no tuples stand at S -/
def NT (H : Hp) (S : List Addr) : Prop := ∀ p ∈ S, ∃ o, H p = some o ∧ (∀ xs, o ≠ .tup xs) ∧ ∀ ob xs, o ≠ .frz ob (.tup xs)
theorem NT.nd {P : Program} {w : World} {H : Hp} {d : Addr} {kvs : List (NestedKey × Addr × V)} (h : H d = some (NdO P w d kvs)) : NT H [d] := fun p hp => by
  obtain rfl : p = d := by simpa using hp
  exact ⟨_, h, (fun _ z => nomatch z), fun _ _ z => nomatch z⟩
theorem NT.ex {H H' : Hp} {S : List Addr} (h : NT H S) (e : Ex H H') : NT H' S := fun p hp => by
  obtain ⟨o, a, b⟩ := h p hp
  exact ⟨o, e _ _ a, b⟩
theorem Xp.txN {S : List Addr} {H H' : Hp} (e : Xp S H H') (h : NT H S) : Tx H H' := fun a xs r => by
  have out : ∀ o, H a = some o → ((∃ ys, o = .tup ys) ∨ ∃ ob ys, o = .frz ob (.tup ys)) → a ∉ S := fun o ho c hs => by
    obtain ⟨u, hu, n1, n2⟩ := h a hs
    obtain rfl : u = o := Option.some.inj (hu.symm.trans ho)
    rcases c with ⟨ys, rfl⟩ | ⟨ob, ys, rfl⟩
    · exact n1 ys rfl
    · exact n2 ob ys rfl
  rcases r with r | ⟨ob, r⟩
  · exact Or.inl (e _ _ r (out _ r (.inl ⟨_, rfl⟩)))
  · exact Or.inr ⟨ob, e _ _ r (out _ r (.inr ⟨_, _, rfl⟩))⟩
/-- a tuple is walked -/
theorem ei_tupN {K : PySem.W.Frag} {σ : L2.St} {H : Hp} {te : TE} {ds : List PyData} {S : List Addr} (hS : NT H S) (h : EvD K te σ H (.tuple ds)) (hi : immAll ds = true) : EvI K (iTup K te) σ H S ds := fun H1 e R r =>
  h H1 e _ fun w H2 e2 hw => by
    cases hw with
    | tup hs ha =>
      refine ⟨_, rfl, ⟨_, hs⟩, r _ H2 e2 ?_⟩
      have N2 := hS.ex (e.trans e2)
      rw [← dpa_len ha]
      refine walk_tup.mono (fun Ha x => sqT_tx (x.txN N2) hs) fun i Ha x Hb hlt hg y => ?_
      obtain ⟨rfl, hx⟩ := y
      obtain ⟨d, g1, g2⟩ := dpa_getV (dpa_tx (hg.txN N2) _ _ hi ha) hx
      exact ⟨Ex.refl _, d, g1, g2⟩
section
variable {P : Program} {w : World} {K : PySem.W.Frag} {σ : L2.St} {H : Hp} {ta : TE}
/-- k in d -/
theorem ev_inN {i j : Nat} {d b : Addr} {kvs : List (NestedKey × Addr × V)} {k : NestedKey} {dd : PyData} (h1 : σ[i]? = some (some (.ref b))) (h2 : σ[j]? = some (some (.ref d))) (N : Nd P w K H d kvs) (hb : Dp K H (.ref b) dd) (hk : keyD dd = some k) (dep : k.depth ≤ 8) :
    Ev (tOp (rInN P w K false) (tVar i) (tVar j)) σ H (.bl (hasN kvs k)) := fun H1 e Q q => ⟨_, h1, _, h2, d, kvs, b, dd, k, rfl, rfl, N.ex e, dp_ex e _ _ hb, hk, dep, q H1 (Ex.refl _)⟩
/-- d[k] = True -/
theorem q_dputN {i j : Nat} {d b : Addr} {kvs : List (NestedKey × Addr × V)} {k : NestedKey} {dd : PyData} {v : V} {tz : TS} {D : Ends} (h1 : σ[i]? = some (some (.ref d))) (h2 : σ[j]? = some (some (.ref b))) (N : Nd P w K H d kvs) (hb : Dp K H (.ref b) dd) (hk : keyD dd = some k) (dep : k.depth ≤ 8) (sz : kvs.length < 100000)
    (q : tz D σ (upd H d (NdO P w d (putN kvs k b v)))) : tSeq (sDPutN P w K (tVar i) (tVar j) (tC v)) tz D σ H := ⟨_, h1, _, h2, d, kvs, k, b, dd, rfl, rfl, hb, hk, dep, N, sz_lt sz, q⟩
theorem s_dputN {i j : Nat} {d b : Addr} {kvs : List (NestedKey × Addr × V)} {k : NestedKey} {dd : PyData} {v : V} {D : Ends} (h1 : σ[i]? = some (some (.ref d))) (h2 : σ[j]? = some (some (.ref b))) (N : Nd P w K H d kvs) (hb : Dp K H (.ref b) dd) (hk : keyD dd = some k) (dep : k.depth ≤ 8) (sz : kvs.length < 100000)
    (q : D.nx σ (upd H d (NdO P w d (putN kvs k b v)))) : sDPutN P w K (tVar i) (tVar j) (tC v) D σ H := ⟨_, h1, _, h2, d, kvs, k, b, dd, rfl, rfl, hb, hk, dep, N, sz_lt sz, q⟩
end
end DL
set_option Elab.async false
set_option linter.all false
set_option maxRecDepth 100000
set_option maxHeartbeats 4000000
namespace K16
open PySem PySem.Spec PyProof.Rows L2 Evl DL
local macro_rules | `(tactic| walk_at "dl") => `(tactic| first
  | exact ev_c | exact ev_var rfl | exact eda_nil
  | exact ed_var rfl (by assumption)
  | exact ed_int ev_c | exact ed_int (ev_var rfl)
  | (refine eda_cons ?_ ?_ <;> walk_at "dl")
  | (refine ed_int ?_; walk_at "dl")
  | (refine ev_op ?_ ?_ rv_I0 <;> walk_at "dl"))

section
variable {P : Program} {w : World} {K : PySem.W.Frag} {mg : Str → Option Value} {base : Heap}
variable {C : Addr}
/-! ### ways -/
def pkey (p : Int × Int) : NestedKey := .tup [.num p.1, .num p.2]
theorem key_pD (p : Int × Int) : keyD (pD p) = some (pkey p) := by simp [pD, keyD, keyDs, pkey]
theorem pkey_inj {p q : Int × Int} (h : pkey p = pkey q) : p = q := by
  obtain ⟨a, b⟩ := p
  obtain ⟨c, d⟩ := q
  simp [pkey] at h
  obtain ⟨rfl, rfl⟩ := h
  rfl
theorem pkey_dep (p : Int × Int) : (pkey p).depth ≤ 8 := by simp [pkey, NestedKey.depth, NestedKey.depthAll]
theorem imm_pD (p : Int × Int) : imm (pD p) = true := by simp [pD, imm, immAll]
def pinsOf (us : List Sw) : List (Int × Int) := us.flatMap fun u => [u.1, u.2]
theorem pins_take {us : List Sw} {i : Nat} {u : Sw} (h : us[i]? = some u) : pinsOf (us.take (i + 1)) = pinsOf (us.take i) ++ [u.1, u.2] := by
  unfold pinsOf
  rw [List.take_add_one, h, Option.toList_some, List.flatMap_append]
  simp
theorem pins_new {us : List Sw} {i : Nat} {u : Sw} (h : us[i]? = some u) (nd : (pinsOf us).Nodup) : u.1 ∉ pinsOf (us.take i) ∧ u.2 ∉ pinsOf (us.take i) ∧ u.1 ≠ u.2 := by
  have e : pinsOf us = (pinsOf (us.take i) ++ [u.1, u.2]) ++ pinsOf (us.drop (i + 1)) := by
    rw [← pins_take h]
    unfold pinsOf
    rw [← List.flatMap_append, List.take_append_drop]
  rw [e, List.nodup_append, List.nodup_append] at nd
  obtain ⟨⟨_, n2, n3⟩, _, _⟩ := nd
  exact ⟨fun z => n3 _ z _ (by simp) rfl, fun z => n3 _ z _ (by simp) rfl, by simpa using n2⟩
def spWayOf (P : Program) (w : World) (K : PySem.W.Frag) (C : Addr) : Sp := fun vs H Q _ => ∃ (a : Addr) (s t : Int) (ws : List Sw) (v : V) (us : List Sw), vs = [.ref a, v] ∧ BxAt P w K C H a s t ws ∧ Dp K H v (.tuple (us.map swD)) ∧ us.length ≤ 1000 ∧ (∀ u ∈ us, u ∈ ws) ∧ risesD (us.map swD) = true ∧ (pinsOf us).Nodup ∧
  ∀ H', Ex H H' → Q (.bl true) H'
theorem ref_of {H : Hp} {v : V} {ds : List PyData} (h : Dp K H v (.tuple ds)) : ∃ a, v = .ref a := by
  cases h with
  | tup _ _ => exact ⟨_, rfl⟩
abbrev s_is_way_of : Stmt := topS 52
abbrev N_is_way_of : List Str := ["box", "thing", "taken", "low", "high"]
theorem sc_is_way_of : FnScope N_is_way_of ["box", "thing"] (defScope s_is_way_of) := ⟨rfl, rfl, rfl, by decide +kernel, rfl, by decide +kernel, by decide +kernel⟩
theorem ok_is_way_of {f : Addr} {fd : FuncData} (F : Fun K "is_way_of" "is_way_of" s_is_way_of f fd) (T : Txt mg)
    (D_is_lot : DF P w K mg base "is_lot" 3 ["box", "thing"] (spLot P w K C))  :
    FnOk P w K mg base CX0 4 f fd ["box", "thing"] (spWayOf P w K C) := by
  refine F.ok sc_is_way_of (fun vs H Q E h => by obtain ⟨_, _, _, _, _, _, rfl, _⟩ := h; rfl) (fun cdv A outer s H vs Q E hr h => ?_)
  obtain ⟨a, s, t, ws, v, us, rfl, hb, hv, hl, hm, ri, nd, k⟩ := h
  refine ⟨_, (pss_cons (ps_if (pt_not (pt_val (pe_D D_is_lot (hr.mono (by decide)) (by rfl) (pa_cons (pv 0) (pa_cons (pv 1) pa_nil))))) (pss_one (ps_ret pe_bl)) pss_nil)
      (pss_cons (ps_set (i := 2) sc_is_way_of.nd rfl (.inl rfl) pe_dnewN)
      (pss_cons (ps_for PassesOwn.never rfl (pi_tup (pv 1)) (pg_tup rfl (pgs_cons (pg_name (i := 3) sc_is_way_of.nd rfl (Or.inl rfl)) (pgs_cons (pg_name (i := 4) sc_is_way_of.nd rfl (Or.inl rfl)) pgs_nil))) (pss_cons (ps_if (PW.pt (pw_or (pt_cmpR (op_inN (hu64 hr)) (pv 3) (pv 2) (by rfl)) (pw_or1 (pt_cmpR (op_inN (hu64 hr)) (pv 4) (pv 2) (by rfl))))) (pss_one (ps_ret pe_bl)) pss_nil)
      (pss_cons (ps_dputN (hu64 hr) (pv 2) (pv 3) pe_bl rfl)
      (pss_one (ps_dputN (hu64 hr) (pv 2) (pv 4) pe_bl rfl)))))
      (pss_one (ps_ret pe_bl))))), ?_⟩
  refine q_when (b := false) (et_not (a := true) (et_B (fun H1 e1 Q1 q1 => ⟨.ref a, rfl, v, rfl, a, s, t, ws, v, us, rfl, hb.ex e1, dp_ex e1 _ _ hv, hl, hm, fun H2 e2 => by rw [ri]; exact q1 H2 e2⟩))) (fun hb => nomatch hb) fun _ H1 e1 => ?_
  intro td htd
  have eT : Ex H1 (upd H1 td (NdO P w td [])) := Ex.new htd
  have iT : immAll (us.map swD) = true := immAll_map imm_sw us
  refine e_for (ei_tupN (K := K) (S := [td]) (NT.nd upd_same) (ed_var (v := v) rfl (dp_ex eT _ _ (dp_ex e1 _ _ hv))) iT) (fun H4 i σ' Ha => Xp [td] H4 Ha ∧ ∃ kvs, Nd P w K Ha td kvs ∧ (∀ p, hasN kvs (pkey p) = decide (p ∈ pinsOf (us.take i))) ∧ kvs.length ≤ 2 * i ∧ ∃ y1 y2, σ' = [some (.ref a), some v, some (.ref td), y1, y2])
    (fun H4 e4 => ⟨Xp.refl _ _, [], ⟨e4 _ _ upd_same, fun x hx => by simp at hx⟩, fun p => by simp [hasN, pinsOf], by simp, none, none, rfl⟩) (fun H4 i σ' Ha _ p => p.1) ?_ ?_
  · rintro H4 i d x σ' Ha Hb e4 hd1 ⟨p1, kvs, N, hh, lk, y1, y2, rfl⟩ e5 hx
    rw [List.getElem?_map] at hd1
    obtain ⟨u, hu, rfl⟩ := Option.map_eq_some_iff.mp hd1
    have hi := (List.getElem?_eq_some_iff.mp hu).1
    obtain ⟨f1, f2, f3⟩ := pins_new hu nd
    refine g_two (d1 := pD u.1) (d2 := pD u.2) hx fun v1 v2 h1 h2 => ?_
    obtain ⟨b1, rfl⟩ := ref_of h1
    obtain ⟨b2, rfl⟩ := ref_of h2
    refine q_when (b := false) (et_or (a := false) (b := false) (et_test (ev_is (ev_inN (i := 3) (j := 2) rfl rfl (N.ex e5) h1 (key_pD _) (pkey_dep _)) (by rw [hh, decide_eq_false f1]))) fun _ => et_test (ev_is (ev_inN (i := 4) (j := 2) rfl rfl (N.ex e5) h2 (key_pD _) (pkey_dep _)) (by rw [hh, decide_eq_false f2]))) (fun hb => nomatch hb) fun _ H5 e6 => ?_
    have N5 := (N.ex e5).ex e6
    have g1 := dp_ex e6 _ _ h1
    have g2 := dp_ex e6 _ _ h2
    have N6 := N5.put (v := .bl true) g1 (imm_pD _) (key_pD _) (pkey_dep _)
    have t6 := tx_nd (u := NdO P w td (putN kvs (pkey u.1) b1 (.bl true))) N5.at_
    have g3 := dp_tx t6 _ _ (imm_pD _) g2
    have l1 := putN_len kvs (pkey u.1) b1 (.bl true)
    have l2 := putN_len (putN kvs (pkey u.1) b1 (.bl true)) (pkey u.2) b2 (.bl true)
    refine q_dputN rfl rfl N5 g1 (key_pD _) (pkey_dep _) (by omega) ?_
    refine s_dputN rfl rfl N6 g3 (key_pD _) (pkey_dep _) (by omega) ?_
    refine ⟨Xp.upd (Xp.upd ((p1.then e5).then e6) (by simp)) (by simp), _, N6.put g3 (imm_pD _) (key_pD _) (pkey_dep _), fun p => ?_, by omega, _, _, rfl⟩
    rw [hasN_put, hasN_put, hh, pins_take hu]
    have c1 : decide (pkey u.1 = pkey p) = decide (p = u.1) := by
      by_cases z : p = u.1
      · rw [z]
        simp
      · rw [decide_eq_false z, decide_eq_false fun y => z (pkey_inj y).symm]
    have c2 : decide (pkey u.2 = pkey p) = decide (p = u.2) := by
      by_cases z : p = u.2
      · rw [z]
        simp
      · rw [decide_eq_false z, decide_eq_false fun y => z (pkey_inj y).symm]
    rw [c1, c2, Bool.eq_iff_iff]
    simp [List.mem_append, or_assoc]
  · rintro H4 σ' Ha e4 ⟨p1, kvs, N, hh, lk, y1, y2, rfl⟩
    have E : Ex H Ha := fun b o hb' => p1 b o (e4 _ _ (eT _ _ (e1 _ _ hb'))) (by
      have : b ≠ td := fun z => by
        have := e1 _ _ hb'
        rw [z, htd] at this
        cases this
      simpa using this)
    exact s_ret ev_c fun H5 e5 => k H5 (E.trans e5)

end
end K16
set_option Elab.async false
set_option linter.all false
set_option maxRecDepth 100000
set_option maxHeartbeats 4000000
namespace K16
open PySem PySem.Spec PyProof.Rows L2 Evl DL
local macro_rules | `(tactic| walk_at "dl") => `(tactic| first
  | exact ev_c | exact ev_var rfl | exact eda_nil
  | exact ed_var rfl (by assumption)
  | exact ed_int ev_c | exact ed_int (ev_var rfl)
  | (refine eda_cons ?_ ?_ <;> walk_at "dl")
  | (refine ed_int ?_; walk_at "dl")
  | (refine ev_op ?_ ?_ rv_I0 <;> walk_at "dl"))

section
variable {P : Program} {w : World} {K : PySem.W.Frag} {mg : Str → Option Value} {base : Heap}
variable {C : Addr}
abbrev s_pair_place : Stmt := topS 33
abbrev N_pair_place : List Str := ["sides", "side", "far"]
theorem sc_pair_place : FnScope N_pair_place ["sides", "side", "far"] (defScope s_pair_place) := ⟨rfl, rfl, rfl, by decide +kernel, rfl, by decide +kernel, by decide +kernel⟩
theorem ok_pair_place {f : Addr} {fd : FuncData} (F : Fun K "pair_place" "pair_place" s_pair_place f fd) (T : Txt mg)
      :
    FnOk P w K mg base CX0 1 f fd ["sides", "side", "far"] (spD K 3 R_pair_place) := by
  refine F.ok sc_pair_place (fun vs H Q E h => spD_len h) (fun cdv A outer s H vs Q E hr h => ?_)
  obtain ⟨ds, r, hd, _, ⟨x, a, b, rfl, ⟨h1, h2⟩, rfl⟩, k⟩ := h
  obtain rfl := dpa_ints (l := [x, a, b]) hd
  refine ⟨_, (pss_one (ps_ret (pe_op op_sub (pe_op op_sub (pe_op op_add (pe_op op_fdiv (pe_op op_mul (pv 1) (pe_op op_sub (pe_op op_sub (pe_op op_mul pe_int (pv 0)) (pv 1)) pe_int)) pe_int) (pv 2)) (pv 1)) pe_int))), ?_⟩
  refine d_ret (d := .int (plc x a b)) (ed_int ?_) k
  have i1 : Ev (tOp (rI CMul fun i j => .int (i * j)) (tC (.int 2)) (tVar 0)) (L2.start N_pair_place (List.map V.int [x, a, b])) H (.int (2 * x)) := ev_op ev_c (ev_var rfl) (rv_I (.inl (by omega)))
  have i2 := ev_op (r := rI0 fun i j => .int (i - j)) (ev_op (r := rI0 fun i j => .int (i - j)) i1 (ev_var (i := 1) (v := .int a) rfl) rv_I0) (ev_c (v := .int 1)) rv_I0
  have i3 := ev_op (r := rI CMul fun i j => .int (i * j)) (ev_var (i := 1) (v := .int a) rfl) i2 (rv_I (.inl (by omega)))
  have i4 := ev_op (r := rI CDiv fun i j => .int (i / j)) i3 (ev_c (v := .int 2)) (rv_I (by unfold CDiv; omega))
  exact ev_op (ev_op (ev_op i4 (ev_var (v := .int b) rfl) rv_I0) (ev_var (v := .int a) rfl) rv_I0) ev_c rv_I0

/-! ### the load of a way -/
def cntI (us : List Sw) (p : Int × Int) : Int := ((us.filter fun u => decide (u.1.1 = p.1 ∧ u.2.1 = p.2)).length : Nat)
def loadOf (s : Int) (us : List Sw) : List Int := (prs s).map (cntI us)
theorem cnt_app (us : List Sw) (u : Sw) (p : Int × Int) : cntI (us ++ [u]) p = cntI us p + if u.1.1 = p.1 ∧ u.2.1 = p.2 then 1 else 0 := by
  unfold cntI
  rw [List.filter_append, List.length_append]
  by_cases h : u.1.1 = p.1 ∧ u.2.1 = p.2
  · rw [if_pos h, List.filter_cons_of_pos (by simpa using h)]
    simp
  · rw [if_neg h, List.filter_cons_of_neg (by simpa using h)]
    simp
def chkP : Bool := [2, 3, 4, 5].all fun (s : Int) => decide ((prs s).Nodup) && (prs s).all fun p => decide (0 ≤ plc s p.1 p.2) && decide ((prs s)[(plc s p.1 p.2).toNat]? = some p)
theorem chkP_ok : chkP = true := by decide +kernel
theorem plc_ok {s : Int} (h1 : 2 ≤ s) (h2 : s ≤ 5) : (prs s).Nodup ∧ ∀ p ∈ prs s, 0 ≤ plc s p.1 p.2 ∧ (prs s)[(plc s p.1 p.2).toNat]? = some p := by
  have h := List.all_eq_true.mp chkP_ok s (by
    have : s = 2 ∨ s = 3 ∨ s = 4 ∨ s = 5 := by omega
    rcases this with rfl | rfl | rfl | rfl <;> decide)
  rw [Bool.and_eq_true, decide_eq_true_eq, List.all_eq_true] at h
  refine ⟨h.1, fun p hp => ?_⟩
  have := h.2 p hp
  rw [Bool.and_eq_true, decide_eq_true_eq, decide_eq_true_eq] at this
  exact this
theorem prs_mem {s a b : Int} (h : 0 ≤ a ∧ a < b ∧ b < s) : (a, b) ∈ prs s := by
  unfold prs
  rw [List.mem_flatMap]
  refine ⟨a.toNat, by rw [List.mem_range]; omega, ?_⟩
  rw [List.mem_map]
  refine ⟨(b - (a + 1)).toNat, by rw [List.mem_range, Int.toNat_of_nonneg h.1]; omega, ?_⟩
  rw [Int.toNat_of_nonneg h.1, Int.toNat_of_nonneg (by omega)]
  show (a, a + 1 + (b - (a + 1))) = (a, b)
  rw [show a + 1 + (b - (a + 1)) = b by omega]
theorem load_step {s : Int} (h1 : 2 ≤ s) (h2 : s ≤ 5) {us : List Sw} {u : Sw} (hu : 0 ≤ u.1.1 ∧ u.1.1 < u.2.1 ∧ u.2.1 < s) : (loadOf s us).set (plc s u.1.1 u.2.1).toNat ((loadOf s us).getD (plc s u.1.1 u.2.1).toNat 0 + 1) = loadOf s (us ++ [u]) := by
  obtain ⟨nd, ok⟩ := plc_ok h1 h2
  obtain ⟨_, at_⟩ := ok _ (prs_mem hu)
  have lt := (List.getElem?_eq_some_iff.mp at_).1
  refine List.ext_getElem? fun j => ?_
  unfold loadOf
  rw [List.getElem?_set, List.getElem?_map, List.getElem?_map, List.getD_eq_getElem?_getD, List.getElem?_map]
  by_cases ej : (plc s u.1.1 u.2.1).toNat = j
  · subst ej
    rw [if_pos rfl, if_pos (by rw [List.length_map]; exact lt), at_]
    show some (cntI us _ + 1) = some (cntI (us ++ [u]) _)
    rw [cnt_app, if_pos ⟨rfl, rfl⟩]
  · rw [if_neg ej]
    cases hq : (prs s)[j]? with
    | none => rfl
    | some q =>
      show some (cntI us q) = some (cntI (us ++ [u]) q)
      rw [cnt_app, if_neg, Int.add_zero]
      rintro ⟨e1, e2⟩
      obtain ⟨lj, ej2⟩ := List.getElem?_eq_some_iff.mp hq
      obtain ⟨li, ei2⟩ := List.getElem?_eq_some_iff.mp at_
      have : q = (u.1.1, u.2.1) := by rw [e1, e2]
      exact ej ((List.getElem_inj nd).mp (ei2.trans (this.symm.trans ej2.symm)))
theorem load_nil (s : Int) : loadOf s [] = List.replicate (prs s).length 0 := by
  unfold loadOf
  rw [List.eq_replicate_iff]
  exact ⟨by simp, fun b hb => by
    obtain ⟨p, _, rfl⟩ := List.mem_map.mp hb
    rfl⟩
def R_load_of (ds : List PyData) (r : PyData) : Prop := ∃ (s : Int) (us : List Sw), ds = [.int s, .tuple (us.map swD)] ∧ 2 ≤ s ∧ s ≤ 5 ∧ (∀ u ∈ us, 0 ≤ u.1.1 ∧ u.1.1 < u.2.1 ∧ u.2.1 < s) ∧ r = tI (loadOf s us)
theorem d_augE {D : Ends} {σ : L2.St} {H : Hp} {te ti : TE} {f : Int → Int → Int} {l : Addr} {ns : List Int} {a j : Nat} {y : Int} (hl : H l = some (.lst (ns.map V.int))) (ho : σ[a]? = some (some (.ref l))) (hi : Ev ti σ H (.int (j : Int))) (hj : j < ns.length) (he : ∀ H1, Ex H H1 → Ev te σ H1 (.int y))
    (k : ∀ H1, Ex H H1 → D.nx σ (upd H1 l (.lst ((ns.set j (f (ns.getD j 0) y)).map V.int)))) : tAugS (tVar a) ti te (rGetL K) (ipI f) rSetL D σ H := by
  have g : (ns.map V.int)[j]? = some (.int (ns.getD j 0)) := by
    rw [List.getElem?_map, List.getElem?_eq_getElem hj, List.getD_eq_getElem?_getD, List.getElem?_eq_getElem hj]
    rfl
  refine ⟨_, ho, hi H (Ex.refl _) _ fun H0 e0 => ⟨l, _, _, j, rfl, rfl, sq_of (e0 _ _ hl), g, ?_⟩⟩
  refine he H0 e0 H0 (Ex.refl _) _ fun H1 e1 => ⟨_, _, rfl, rfl, l, ns.map V.int, (j : Int), j, rfl, rfl, e1 _ _ (e0 _ _ hl), ixN_nat (by rw [List.length_map]; exact hj), ?_⟩
  have q := k H1 (e0.trans e1)
  rw [List.map_set] at q
  exact q
abbrev s_load_of : Stmt := topS 53
abbrev N_load_of : List Str := ["sides", "way", "numbers", "side", "_", "far"]
theorem sc_load_of : FnScope N_load_of ["sides", "way"] (defScope s_load_of) := ⟨rfl, rfl, rfl, by decide +kernel, rfl, by decide +kernel, by decide +kernel⟩
theorem ok_load_of {f : Addr} {fd : FuncData} (F : Fun K "load_of" "load_of" s_load_of f fd) (T : Txt mg)
    (D_pair_place : DF P w K mg base "pair_place" 1 ["sides", "side", "far"] (spD K 3 R_pair_place)) (D_side_pairs : DF P w K mg base "side_pairs" 1 ["sides"] (spN K 1 R_side_pairs))  :
    FnOk P w K mg base CX0 2 f fd ["sides", "way"] (spD K 2 R_load_of) := by
  refine F.ok sc_load_of (fun vs H Q E h => spD_len h) (fun cdv A outer s H vs Q E hr h => ?_)
  obtain ⟨ds, r, hd, _, ⟨s, us, rfl, h1, h2, hu, rfl⟩, k⟩ := h
  obtain ⟨v0, rfl, d0⟩ := dpa_it hd
  refine ⟨_, (pss_cons (ps_set (i := 2) sc_load_of.nd rfl (.inl rfl) (pe_op op_rep (pe_lst (pa_cons pe_int pa_nil)) (pe_callB call_len_seq (by rfl) T.b_len PySem.boot_len (pa_cons (pe_D D_side_pairs (hr.mono (by decide)) (by rfl) (pa_cons (pv 0) pa_nil)) pa_nil))))
      (pss_cons (ps_for PassesOwn.never rfl (pi_tup (pv 1)) (pg_tup rfl (pgs_cons (pg_tup rfl (pgs_cons (pg_name (i := 3) sc_load_of.nd rfl (Or.inl rfl)) (pgs_cons (pg_name (i := 4) sc_load_of.nd rfl (Or.inl rfl)) pgs_nil))) (pgs_cons (pg_tup rfl (pgs_cons (pg_name (i := 5) sc_load_of.nd rfl (Or.inl rfl)) (pgs_cons (pg_name (i := 4) sc_load_of.nd rfl (Or.inl rfl)) pgs_nil))) pgs_nil))) (pss_one (ps_augS (pv 2) (pe_D D_pair_place (hr.mono (by decide)) (by rfl) (pa_cons (pv 0) (pa_cons (pv 3) (pa_cons (pv 5) pa_nil)))) get_list pe_int ip_add set_list)))
      (pss_one (ps_ret (pe_callTy call_tuple_of (by rfl) T.b_tuple (by decide +kernel) (pa_cons (pv 2) pa_nil)))))), ?_⟩
  have np10 := np_le h1 h2
  refine qn_asg (K := K) (en_rep (d := .int 0) (n := (((prs s).map pD).length : Int)) (EvN.toQ (en_lst (eda_cons (ed_int ev_c) eda_nil) (by simp))) (ev_lenL (EvN.toD (en_call (R := R_side_pairs) (ds := [.int s]) (eda_cons (ed_int (ev_var rfl)) eda_nil) rfl ⟨s, rfl, by omega, h2, rfl⟩))) (by rw [List.length_map]; show ((np s : Nat) : Int) ≤ _; omega) (by omega)) fun l vs H1 hl e1 h1' hd1 => ?_
  have hz : vs = (loadOf s []).map V.int := by
    have := dpa_ints (l := loadOf s []) (by rw [load_nil, dI, List.map_replicate]; rw [List.length_map, Int.toNat_natCast] at hd1; exact hd1)
    exact this
  subst hz
  have ll : ∀ us, (loadOf s us).length = (prs s).length := fun us => by rw [loadOf, List.length_map]
  refine e_for (S := [l]) (ei_tup (K := K) (Ls.one h1') (ed_var (v := v0) rfl (dp_ex e1 _ _ d0)) (immAll_map imm_sw us)) (fun H2 i σ' Ha => Xp [l] H2 Ha ∧ Ha l = some (.lst ((loadOf s (us.take i)).map V.int)) ∧ ∃ a b c, σ' = [some (.int s), some v0, some (.ref l), a, b, c]) (fun H2 e2 => ⟨Xp.refl _ _, e2 _ _ h1', none, none, none, rfl⟩) (fun H2 i σ' Ha _ q => q.1) ?_ ?_
  · rintro H2 i d x σ' Ha Hb e2 hd2 ⟨p1, p2, y1, y2, y3, rfl⟩ e3 hx
    rw [List.getElem?_map] at hd2
    obtain ⟨u, g1, rfl⟩ := Option.map_eq_some_iff.mp hd2
    have uu := hu u (List.mem_of_getElem? g1)
    obtain ⟨nd, ok⟩ := plc_ok h1 h2
    obtain ⟨pl0, at_⟩ := ok _ (prs_mem uu)
    have lt := (List.getElem?_eq_some_iff.mp at_).1
    refine g_two (d1 := pD u.1) (d2 := pD u.2) hx fun v1 v2 q1 q2 => ?_
    refine g_two (d1 := .int u.1.1) (d2 := .int u.1.2) q1 fun w1 w2 u1 u2 => ?_
    refine g_two (d1 := .int u.2.1) (d2 := .int u.2.2) q2 fun w3 w4 u3 u4 => ?_
    cases dp_int u1
    cases dp_int u2
    cases dp_int u3
    cases dp_int u4
    refine d_augE (j := (plc s u.1.1 u.2.1).toNat) (e3 _ _ p2) rfl (ev_is (EvD.int (ed_call (K := K) (R := R_pair_place) (ds := [.int s, .int u.1.1, .int u.2.1]) (eda_cons (ed_int (ev_var rfl)) (eda_cons (ed_int (ev_var rfl)) (eda_cons (ed_int (ev_var rfl)) eda_nil))) rfl ⟨s, _, _, rfl, ⟨uu.1, by omega⟩, rfl⟩)) (by rw [Int.toNat_of_nonneg pl0])) (by rw [ll]; exact lt) (fun _ _ => ev_c) fun H4 e4 => ?_
    refine ⟨Xp.upd ((p1.then e3).then e4) (by simp), ?_, _, _, _, rfl⟩
    rw [upd_same, List.take_add_one, g1, Option.toList_some, load_step h1 h2 uu]
  · rintro H2 σ' Ha e2 ⟨p1, p2, y1, y2, y3, rfl⟩
    have e0 : Ex H Ha := xp_fresh (e1.trans e2) p1 hl
    rw [List.length_map, List.take_length] at p2
    exact d_ret (K := K) (ed_tupleOf (EvQ.toD (eq_var (K := K) (k := 2) rfl p2 (ints_dpa _)))) fun v H4 e4 hv => k v H4 (e0.trans e4) hv

/-! ### what is asked first -/
/-- isinstance tells a Box -/
structure BoxI (K : PySem.W.Frag) (C : Addr) : Prop where
  ha : PySem.W.findIn K (.ref C) "__class__" = some (some (.builtin "object.__class__"))
  hn : PySem.W.specialIn K (.builtin "object.__class__") "__get__" = some (some (.builtin "getset_descriptor.__get__"))
  ht : PySem.W.takesIn K (.builtin "object.__class__") = some true
  hm : PySem.W.mroIn K C (.type "object") = some true
  is : PySem.W.kitOne K (.ref C) (.ref C) = some true
def spChkB (P : Program) (w : World) (K : PySem.W.Frag) (C : Addr) : Sp := fun vs H Q _ => ∃ (a : Addr) (s t : Int) (ws : List Sw), vs = [.ref a] ∧ BxAt P w K C H a s t ws ∧ ∀ H', Ex H H' → Q .non H'
def spChkBL (P : Program) (w : World) (K : PySem.W.Frag) (C : Addr) : Sp := fun vs H Q _ => ∃ (a : Addr) (s t : Int) (ws : List Sw) (v : V) (l : List Int), vs = [.ref a, v] ∧ BxAt P w K C H a s t ws ∧ 2 ≤ s ∧ s ≤ 5 ∧ Dp K H v (tI l) ∧ Ld s l ∧ ∀ H', Ex H H' → Q .non H'
def spWayFor (P : Program) (w : World) (K : PySem.W.Frag) (C : Addr) : Sp := fun vs H Q _ => ∃ (a : Addr) (s t : Int) (ws : List Sw) (v0 v : V) (us : List Sw), vs = [.ref a, v0, v] ∧ BxAt P w K C H a s t ws ∧ 2 ≤ s ∧ s ≤ 5 ∧ Dp K H v0 (tI (loadOf s us)) ∧ Ld s (loadOf s us) ∧ Dp K H v (.tuple (us.map swD)) ∧ us.length ≤ 1000 ∧ (∀ u ∈ us, u ∈ ws) ∧
  (∀ u ∈ us, 0 ≤ u.1.1 ∧ u.1.1 < u.2.1 ∧ u.2.1 < s) ∧ risesD (us.map swD) = true ∧ (pinsOf us).Nodup ∧ ∀ H', Ex H H' → Q (.bl true) H'
theorem ev_sides (B : BoxC K C) {i : Nat} {σ : L2.St} {H : Hp} {a : Addr} {s t : Int} {ws : List Sw} (h1 : σ[i]? = some (some (.ref a))) (hb : BxAt P w K C H a s t ws) : Ev (tFld K (tVar i) "sides") σ H (.int s) := fun H1 e Q q => by
  obtain ⟨dx, v', d, kvs, g1, g2, g3, g4⟩ := hb.ex e
  exact ⟨.ref a, h1, a, C, dx, BoxFs s t v' d, .int s, rfl, g1, B.cls, B.a1, rfl, q H1 (Ex.refl _)⟩
abbrev s_check_box : Stmt := topS 20
abbrev N_check_box : List Str := ["box"]
theorem sc_check_box : FnScope N_check_box ["box"] (defScope s_check_box) := ⟨rfl, rfl, rfl, by decide +kernel, rfl, by decide +kernel, by decide +kernel⟩
theorem ok_check_box {f : Addr} {fd : FuncData} (F : Fun K "check_box" "check_box" s_check_box f fd) (T : Txt mg)
     (B : BoxC K C) (I : BoxI K C) (BN : mg "Box" = some (.ref C)) :
    FnOk P w K mg base CX0 1 f fd ["box"] (spChkB P w K C) := by
  refine F.ok sc_check_box (fun vs H Q E h => by obtain ⟨_, _, _, _, rfl, _⟩ := h; rfl) (fun cdv A outer s H vs Q E hr h => ?_)
  obtain ⟨a, s, t, ws, rfl, hb, k⟩ := h
  refine ⟨_, (pss_one (ps_if (pt_not (pt_val (pe_callB call_isi (by rfl) T.b_isinstance (by decide +kernel) (pa_cons (pv 0) (pa_cons (pe_glob (v := .ref C) (by rfl) BN rfl) pa_nil))))) (pss_one ps_never) pss_nil)), ?_⟩
  refine s_when (b := false) (et_not (a := true) (et_B (fun H1 e1 Q1 q1 => ?_))) (fun hb => nomatch hb) fun _ H1 e1 => k H1 e1
  obtain ⟨dx, v', d, kvs, g1, g2, g3, g4⟩ := hb.ex e1
  exact ⟨.ref a, rfl, .ref a, .ref C, .ref C, .ref C, true, rfl, .own C, .base (.ins g1 B.cls I.ha I.hn I.ht I.hm), I.is, q1 H1 (Ex.refl _)⟩

abbrev s_check_box_load : Stmt := topS 55
abbrev N_check_box_load : List Str := ["box", "load"]
theorem sc_check_box_load : FnScope N_check_box_load ["box", "load"] (defScope s_check_box_load) := ⟨rfl, rfl, rfl, by decide +kernel, rfl, by decide +kernel, by decide +kernel⟩
theorem ok_check_box_load {f : Addr} {fd : FuncData} (F : Fun K "check_box_load" "check_box_load" s_check_box_load f fd) (T : Txt mg)
    (D_check_box : DF P w K mg base "check_box" 1 ["box"] (spChkB P w K C)) (D_check_load : DF P w K mg base "check_load" 3 ["sides", "load"] (spD K 2 R_check_load)) (B : BoxC K C) :
    FnOk P w K mg base CX0 4 f fd ["box", "load"] (spChkBL P w K C) := by
  refine F.ok sc_check_box_load (fun vs H Q E h => by obtain ⟨_, _, _, _, _, _, rfl, _⟩ := h; rfl) (fun cdv A outer s H vs Q E hr h => ?_)
  obtain ⟨a, s, t, ws, v, l, rfl, hb, h1, h2, hv, hl, k⟩ := h
  refine ⟨_, (pss_cons (ps_expr (pe_D D_check_box (hr.mono (by decide)) (by rfl) (pa_cons (pv 0) pa_nil)))
      (pss_one (ps_expr (pe_D D_check_load (hr.mono (by decide)) (by rfl) (pa_cons (pe_fld (pv 0) rfl) (pa_cons (pv 1) pa_nil)))))), ?_⟩
  refine ⟨.ref a, rfl, a, s, t, ws, rfl, hb, fun H1 e1 => ?_⟩
  refine d_drop (K := K) (ed_call (R := R_check_load) (ds := [.int s, tI l]) (eda_cons (ed_int (ev_sides B (i := 0) rfl (hb.ex e1))) (eda_cons (ed_var (v := v) rfl (dp_ex e1 _ _ hv)) eda_nil)) rfl ⟨s, l, rfl, h1, h2, hl, rfl⟩) fun H2 e2 => k H2 (e1.trans e2)

abbrev s_is_way_for : Stmt := topS 56
abbrev N_is_way_for : List Str := ["box", "load", "thing"]
theorem sc_is_way_for : FnScope N_is_way_for ["box", "load", "thing"] (defScope s_is_way_for) := ⟨rfl, rfl, rfl, by decide +kernel, rfl, by decide +kernel, by decide +kernel⟩
theorem ok_is_way_for {f : Addr} {fd : FuncData} (F : Fun K "is_way_for" "is_way_for" s_is_way_for f fd) (T : Txt mg)
    (D_check_box_load : DF P w K mg base "check_box_load" 4 ["box", "load"] (spChkBL P w K C)) (D_is_way_of : DF P w K mg base "is_way_of" 4 ["box", "thing"] (spWayOf P w K C)) (D_load_of : DF P w K mg base "load_of" 2 ["sides", "way"] (spD K 2 R_load_of)) (B : BoxC K C) :
    FnOk P w K mg base CX0 5 f fd ["box", "load", "thing"] (spWayFor P w K C) := by
  refine F.ok sc_is_way_for (fun vs H Q E h => by obtain ⟨_, _, _, _, _, _, _, rfl, _⟩ := h; rfl) (fun cdv A outer s H vs Q E hr h => ?_)
  obtain ⟨a, s, t, ws, v0, v, us, rfl, hb, h1, h2, hv0, hl, hv, hn, hm, hp, ri, nd, k⟩ := h
  refine ⟨_, (pss_cons (ps_expr (pe_D D_check_box_load (hr.mono (by decide)) (by rfl) (pa_cons (pv 0) (pa_cons (pv 1) pa_nil))))
      (pss_one (ps_ret (pe_and (pe_D D_is_way_of (hr.mono (by decide)) (by rfl) (pa_cons (pv 0) (pa_cons (pv 2) pa_nil))) (pe_one (pe_cmpR (op_eqD (hu64 hr)) (pe_D D_load_of (hr.mono (by decide)) (by rfl) (pa_cons (pe_fld (pv 0) rfl) (pa_cons (pv 2) pa_nil))) (pv 1) (nomark _))))))), ?_⟩
  refine ⟨.ref a, rfl, v0, rfl, a, s, t, ws, v0, loadOf s us, rfl, hb, h1, h2, hv0, hl, fun H1 e1 => ?_⟩
  have w1 : Ev (tCall (spWayOf P w K C) [] E0 (tCons (tVar 0) (tCons (tVar 2) tNil))) (L2.start N_is_way_for [.ref a, v0, v]) H1 (.bl true) := fun H2 e2 Q2 q2 => ⟨.ref a, rfl, v, rfl, a, s, t, ws, v, us, rfl, (hb.ex e1).ex e2, dp_ex (e1.trans e2) _ _ hv, hn, hm, ri, nd, fun H3 e3 => q2 H3 e3⟩
  refine s_ret (v := .bl true) (ev_andV (a := true) (b := true) w1 fun _ => ev_is (ev_eqD (K := K) (ed_call (R := R_load_of) (ds := [.int s, .tuple (us.map swD)]) (eda_cons (ed_int (ev_sides B (i := 0) rfl (hb.ex e1))) (eda_cons (ed_var (v := v) rfl (dp_ex e1 _ _ hv)) eda_nil)) rfl ⟨s, us, rfl, h1, h2, hp, rfl⟩) (ed_var (v := v0) rfl (dp_ex e1 _ _ hv0)) (shaped_tI _) (shaped_tI _)) (by rw [eqv_tI, decide_eq_true rfl])) fun H3 e3 => k H3 (e1.trans e3)

end
end K16
set_option Elab.async false
set_option linter.all false
set_option maxRecDepth 100000
set_option maxHeartbeats 4000000
/-! a lambda of one parameter, called by a built-in -/
namespace DL
open PySem PySem.Spec PyProof.Rows L2 Evl LamX NdefX
/-- the lambda's words as a nested function's -/
abbrev lamNF (q : Str) (params : Arguments) (scope : Scope) (cl : List (Str × Addr)) (c' : Addr) : NF := ⟨"<lambda>", q, params, [], scope, cl, c'⟩
/-- a lambda of the parameter p, read in the def that makes it; fr: what it captures, js: the slots of those -/
structure LamD1 (X : Cx) (k : Nat) (params : Arguments) (body : Expr) (scope : Scope) (p : Str) (N fr : List Str) (js : List Nat) (tb : TE) : Prop where
  S : NScope N [p] fr scope
  caps : Caps X (cloFrom X.env.cells scope.names []) fr js
  bind : ∀ (q : Str) (cl : List (Str × Addr)) (pm cv ctv : Value) (us : List Value), us.length = 1 → bindArgs (PySem.W.kla_fn "<lambda>" q params body scope cl pm cv ctv) ⟨us, []⟩ = pure ([p].zip us)
  run : ∀ (A : Around) (outer : List Env) (s : Shared) (H : Hp) (q : Str) (cl : List (Str × Addr)) (f c' : Addr), Room k (A.deeper (envF (lamNF q params scope cl c') f s.heap.objs.size)) →
    PE (ncx CX0 X.prog X.w X.K X.mg X.base N (lamNF q params scope cl c') f A outer s H E0) body tb
section
variable {X : Cx} {pins : List (Addr × Obj)} {σ : L2.St} {H : Hp} {s : Shared}
theorem lam1_call {A' : Around} {k : Nat} {params : Arguments} {body : Expr} {scope : Scope} {p : Str} {N fr : List Str} {js : List Nat} {tb : TE} {f c' : Addr} {x : V} {u : Value} {Q : VK} {E : Value → Shared → Prop}
    (I : Inv X pins σ H s) (D : LamD1 X k params body scope p N fr js tb) (ef : A'.frames = X.A.frames) (hr : Room (k + 1) A')
    (hf : H f = some (LamO f c' (X.env.qual ++ "<lambda>") params body scope (cloFrom X.env.cells scope.names []))) (hc : H c' = some (CodeO c' (X.env.qual ++ "<lambda>"))) (rx : RelV x u) (go : tb (startF N [x] (js.map (slotAt σ))) H Q) :
    wpAny (model X.prog X.w) A' (call (.ref f) [u]) (EP X pins σ Q) E s := by
  obtain ⟨⟨pm, ctv, of1⟩, _, _⟩ := I.hok f _ hf
  obtain ⟨⟨oc, fs, t, oc1, fd, fq⟩, _, _⟩ := I.hok c' _ hc
  have e1 := I.env0
  have e0 : Env0 X.prog X.w X.K X.mg X.base A' X.stack s H := ⟨by rw [ef]; exact e1.frames, e1.mod, e1.bs, e1.bsz, e1.funs, e1.frf, e1.hok, e1.bare⟩
  have cells := cells_of I D.caps
  have inner : codeAny (model X.prog X.w) A' (.call (.ref f) ⟨[u], []⟩) (CR CX0 X.stack X.prog X.w H s Q E0) s := by
    apply PySem.W.kla_callFunE hr.depth of1 rfl D.S.co D.S.gen rfl ⟨c', oc, fs, t, rfl, oc1, fd, fq⟩
    rw [D.bind _ _ _ _ _ [u] rfl]
    apply wpAny_pure
    refine wpAny_newFunctionEnv D.S.nocell (fun y hy => ?_) (fun h1 ns sb => ?_) D.S.kind
    · exact D.S.par y.1 (List.of_mem_zip (show (y.1, y.2) ∈ [p].zip [u] from hy)).1
    refine ⟨I.nolimit.fresh _ sb, ?_⟩
    have keep : ∀ b o, s.heap.get? b = some o → h1.get? b = some o := fun b o e => sb.extBut b o (Nat.ne_of_lt (Heap.lt_size e)) (Heap.get?_push_of_some _ e)
    have J := inv_startN (CX := CX0) (N := N) (F := lamNF (X.env.qual ++ "<lambda>") params scope (cloFrom X.env.cells scope.names []) c') (f := f) (E := E0) (us := [u]) (vs := [x]) (h₁ := h1) (tk := s.toks + ([p].zip [u]).length) D.S hr.hd e0 rfl (.cons rx .nil) cells ns keep
    have ran := (D.run A' X.stack s H (X.env.qual ++ "<lambda>") (cloFrom X.env.cells scope.names []) f c' (hr.deeper _)).run [] _ _ H Q J go
    refine PySem.W.kla_codeExpr (wpAny_mono ran (fun v s2 z => ?_) fun _ _ z => z)
    obtain ⟨y, H2, J2, r2, q2⟩ := z
    exact ⟨y, H2, J2.os, J2.bare, J2.base, J2.hok, r2, q2⟩
  apply wpAny_call
  refine codeAny_mono inner fun r s2 z => ?_
  cases r with
  | error e => exact (show False from z).elim
  | ok fl =>
    cases fl with
    | ret v => exact I.after z
    | next => exact z.elim
    | brk => exact z.elim
    | cont => exact z.elim
end
end DL
set_option Elab.async false
set_option linter.all false
set_option maxRecDepth 100000
set_option maxHeartbeats 4000000
/-! sorted(range(n), key=f), f a lambda of one parameter -/
namespace DL
open PySem PySem.Spec PyProof.Rows L2 Evl LamX NdefX
open PySem.W (alike AllAlike Sortable dataLe EachIs KeepsBut keyH_end dataKind SortsAt keyedOut_each)
section
variable {X : Cx} {pins : List (Addr × Obj)} {σ : L2.St} {H : Hp} {s : Shared}
theorem inv_pin2 {kS a : Addr} {o1 o2 : Obj} (I : Inv X pins σ H s) (g1 : s.heap.get? kS = some o1) (g2 : s.heap.get? a = some o2) (f1 : FpOk X pins H kS) (f2 : FpOk X pins H a) (n1 : ∀ v, o1.data ≠ .cell v) (n2 : ∀ v, o2.data ≠ .cell v) : Inv X (pins ++ [(kS, o1), (a, o2)]) σ H s :=
  I.pins_of fun p hp => by
    rcases List.mem_append.mp hp with hp | hp
    · exact I.pin p (List.mem_append_right _ hp)
    · simp only [List.mem_cons, List.not_mem_nil, or_false] at hp
      rcases hp with rfl | rfl
      · exact ⟨g1, f1.1, f1.2.1, f1.2.2.1, n1⟩
      · exact ⟨g2, f2.1, f2.2.1, f2.2.2.1, n2⟩
theorem fp_at {H' : Hp} {b : Addr} (f : FpOk X pins H b) (h : H' b = none) : FpOk X pins H' b := ⟨h, f.2⟩
theorem inv_turn {b : Addr} {h' : Heap} {t' : Nat} (I : Inv X pins σ H s) (f : FpOk X pins H b) (k : ∀ c o, c ≠ b → s.heap.get? c = some o → h'.get? c = some o) : Inv X pins σ H { s with heap := h', toks := t' } :=
  I.turned k f.1 f.2.1 f.2.2.2.1 f.2.2.2.2.1 f.2.2.2.2.2
theorem each_reads (I : Inv X pins σ H s) : ∀ {vs : List V} {us : List Value} {ds : List PyData}, Vals vs us → DpAll X.K H vs ds → EachIs (fun v d => ∃ as, Reads s.heap v d as) us ds
  | _, _, _, .nil, .nil => .nil
  | _, _, _, .cons r rs, .cons d ds => .cons (Dp.reads I _ _ _ d r) (each_reads I rs ds)
/-- what a key's turn asks: i's key is k i -/
def KeyTurn (X : Cx) (N : List Str) (ws : List (Option V)) (tb : TE) (H : Hp) (k : Int → PyData) (ns : List Int) : Prop := ∀ i ∈ ns, ∀ H1, Ex H H1 → ∀ Q1 : VK, (∀ v H2, Ex H1 H2 → Dp X.K H2 v (k i) → Q1 v H2) → tb (startF N [.int i] ws) H1 Q1
theorem each_vals2 : ∀ {us : List Value} {ns : List Int}, EachIs (fun (v : Value) (i : Int) => ∃ t, v = .int i t) us ns → Vals (ns.map V.int) us
  | _, _, .nil => .nil
  | _, _, .cons h t => .cons h (each_vals2 t)
theorem sort_walk {A' : Around} {kd : Nat} {params : Arguments} {body : Expr} {scope : Scope} {p : Str} {N fr : List Str} {js : List Nat} {tb : TE} {f c' a : Addr} {its : List Value} {ns : List Int} {k : Int → PyData} {n0 : Nat} {P : PySem.Fin → Shared → Prop} {E : Value → Shared → Prop}
    (I : Inv X pins σ H s) (D : LamD1 X kd params body scope p N fr js tb) (ef : A'.frames = X.A.frames) (hr : Room (kd + 1) A')
    (hf : H f = some (LamO f c' (X.env.qual ++ "<lambda>") params body scope (cloFrom X.env.cells scope.names []))) (hc : H c' = some (CodeO c' (X.env.qual ++ "<lambda>")))
    (ha : s.heap.get? a = some (seqObj "list" its.toArray n0)) (fa : FpOk X pins H a) (ei : EachIs (fun (v : Value) (i : Int) => ∃ t, v = .int i t) its ns) (hn : ns.length ≤ 1000) (al : AllAlike (ns.map k)) (so : Sortable (ns.map k)) (dep : ∀ d ∈ ns.map k, d.depth ≤ 50)
    (turn : KeyTurn X N (js.map (slotAt σ)) tb H k ns)
    (q : ∀ H' s', Ex H H' → Inv X pins σ (upd H' a (.lst ((ns.mergeSort (dataLe false k)).map V.int))) s' → H' a = none → P (.done (.ret .none)) s') :
    wpAny (model X.prog X.w) A' (ksk_tree a (.ref f) false) P E s := by
  have lenI : its.length = ns.length := ei.length
  have hz : its.length ≤ sizeLine := by
    rw [lenI]
    exact Nat.le_trans hn (by decide)
  have lt := Heap.lt_size ha
  obtain ⟨e1, hb⟩ : ∃ e1, (s.heap.update a (Obj.mapSeq fun _ => (#[] : Array Value))).get? a = some (seqObj "list" #[] e1) := ⟨_, get?_update_seq ha fun _ => #[]⟩
  unfold ksk_tree
  apply wpAny_bind
  apply listItems_at ha rfl
  apply wpAny_bind
  refine listUpdate_at ha rfl ?_ (by rw [List.size_toArray]; exact hz) (Nat.zero_le _)
  apply wpAny_bind
  apply seqEpoch_at hb rfl
  apply wpAny_bind
  refine wpAny_newTuple ?_ hz
  apply wpAny_bind
  refine wpAny_newList ?_ (Nat.zero_le _)
  apply wpAny_holding
  obtain ⟨hC, eC⟩ : ∃ hC, hC = (s.heap.update a (Obj.mapSeq fun _ => (#[] : Array Value))).push (seqObj "tuple" its.toArray 0) := ⟨_, rfl⟩
  have szC : hC.objs.size = s.heap.objs.size + 1 := by rw [eC, size_push', Heap.size_update]
  have turnA : Inv X pins σ H { s with heap := hC.push (seqObj "list" #[] 0) } := inv_turn (t' := s.toks) I fa fun c o nc hco => by
    rw [eC]
    exact Heap.get?_push_of_some _ (Heap.get?_push_of_some _ ((Heap.get?_update_other _ _ (Ne.symm nc)).trans hco))
  have gA : (hC.push (seqObj "list" #[] 0)).get? a = some (seqObj "list" #[] e1) := by
    rw [eC]
    exact Heap.get?_push_of_some _ (Heap.get?_push_of_some _ hb)
  have gK : (hC.push (seqObj "list" #[] 0)).get? hC.objs.size = some (seqObj "list" #[] 0) := Heap.get?_push_size _ rfl
  obtain ⟨kS, eK⟩ : ∃ kS, kS = hC.objs.size := ⟨_, rfl⟩
  have fK : FpOk X pins H kS := I.fpOk (by rw [eK, szC]; omega) (I.hok.fresh (by rw [eK, szC]; omega))
  have nKa : kS ≠ a := by
    rw [eK, szC]
    exact Nat.ne_of_gt (Nat.lt_succ_of_lt lt)
  show wpAny (model X.prog X.w) A' (ksk_rest a (.ref f) false its.toArray e1 (.ref ((s.heap.update a (Obj.mapSeq fun _ => (#[] : Array Value))).push (seqObj "tuple" its.toArray 0)).objs.size)) P E { s with heap := ((s.heap.update a (Obj.mapSeq fun _ => (#[] : Array Value))).push (seqObj "tuple" its.toArray 0)).push (seqObj "list" #[] 0) }
  rw [← eC]
  rw [← eK] at gK ⊢
  unfold ksk_rest
  apply wpAny_bind
  apply wpAny_rule
  rw [List.forIn_toArray]
  apply wpAny_bind
  refine ksk_fold (fun i s' => ∃ Hi kA e kvs, Inv X pins σ Hi s' ∧ Ex H Hi ∧ Hi kS = none ∧ Hi a = none ∧ s'.heap.get? kS = some (seqObj "list" kA e) ∧ s'.heap.get? a = some (seqObj "list" #[] e1) ∧ Vals kvs kA.toList ∧ DpAll X.K Hi kvs ((ns.take i).map k)) its 0 _
    ⟨H, #[], 0, [], turnA, Ex.refl _, fK.1, fa.1, gK, gA, .nil, by simp; exact .nil⟩ ?_ ?_
  · rintro j x s' hx ⟨Hi, kA, e, kvs, J, xi, n1, n2, g1, g2, rv, dv⟩
    simp only [Nat.zero_add] at dv ⊢
    have hj : j < its.length := (List.getElem?_eq_some_iff.mp hx).1
    have gi : ns[j]? = some (ns[j]'(by omega)) := List.getElem?_eq_getElem (by omega)
    obtain ⟨t, ex⟩ : ∃ t, x = .int (ns[j]'(by omega)) t := by
      have rr := (each_vals2 ei).get (i := j) (x := .int (ns[j]'(by omega))) (by rw [List.getElem?_map, gi]; rfl)
      obtain ⟨u, hu, ru⟩ := rr
      rw [hx] at hu
      cases hu
      exact ru
    have J2 := inv_pin2 J g1 g2 (fp_at fK n1) (fp_at fa n2) (fun _ z => nomatch z) fun _ z => nomatch z
    apply wpAny_bind
    apply wpAny_attempt
    refine wpAny_mono (lam1_call (E := fun _ _ => False) (x := .int (ns[j]'(by omega))) (Q := fun v H2 => Ex Hi H2 ∧ Dp X.K H2 v (k (ns[j]'(by omega)))) J2 D ef hr (xi _ _ hf) (xi _ _ hc) ⟨t, ex⟩ (turn _ (List.mem_of_getElem? gi) Hi xi _ fun v H2 e2 hd => ⟨e2, hd⟩)) (fun u s2 z => ?_) fun _ _ z => z.elim
    obtain ⟨y, H2, J3, ry, e2, hd⟩ := z
    have pK := J3.pin (kS, seqObj "list" kA e) (by simp)
    have pA := J3.pin (a, seqObj "list" #[] e1) (by simp)
    have J4 : Inv X pins σ H2 s2 := J3.unpinned
    have lk : kA.size = j := by
      have l1 : kvs.length = kA.toList.length := Vals.length rv
      have l2 := dpa_len dv
      rw [List.length_map, List.length_take] at l2
      have l3 : kA.toList.length = kA.size := Array.length_toList
      omega
    obtain ⟨e3, hK2⟩ : ∃ e3, (s2.heap.update kS (Obj.mapSeq (·.push u))).get? kS = some (seqObj "list" (kA.push u) e3) := ⟨_, get?_update_seq pK.1 (·.push u)⟩
    dsimp only
    apply wpAny_bind
    refine listUpdate_at pK.1 rfl ?_ (by rw [lk]; exact Nat.le_trans (by omega) hz) (by rw [Array.size_push, lk]; exact Nat.le_trans (Nat.succ_le_succ (Nat.le_trans (Nat.le_of_lt hj) hz)) (Nat.le_refl _))
    apply wpAny_pure
    refine ⟨rfl, H2, kA.push u, e3, kvs ++ [y], inv_turn (t' := s2.toks) J4 (fp_at fK pK.2.1) (fun c o nc hco => (Heap.get?_update_other _ _ (Ne.symm nc)).trans hco), xi.trans e2, pK.2.1, pA.2.1, hK2, (Heap.get?_update_other _ _ nKa).trans pA.1, ?_, ?_⟩
    · rw [Array.toList_push]
      exact rv.append (.cons ry .nil)
    · rw [List.take_add_one, gi, Option.toList_some, List.map_append]
      exact dpa_app (dpa_ex e2 _ _ dv) (.cons hd .nil)
  · rintro s' ⟨Hi, kA, e, kvs, J, xi, n1, n2, g1, g2, rv, dv⟩
    have tk : ns.take (0 + its.length) = ns := List.take_of_length_le (by omega)
    rw [tk] at dv
    have er := each_reads J rv dv
    have lk : kA.size = its.length := by
      have l1 : kvs.length = kA.toList.length := Vals.length rv
      have l2 := dpa_len dv
      rw [List.length_map] at l2
      have l3 : kA.toList.length = kA.size := Array.length_toList
      omega
    obtain ⟨G, G1, G2⟩ := restrict s'.heap (fun b => !decide (b = kS))
    apply wpAny_bind
    apply listItems_at g1 rfl
    have srt : SortsAt X.prog X.w A' s' (dataKind s'.heap (ns.map k)) kA.toList := SortsAt.data er al so fun d hd => by
      have := dep d hd
      have := hr.units
      omega
    refine keyH_end (a := a) (kS := kS) (e := e) (e1 := e1) (κ := dataKind s'.heap (ns.map k)) (h₁ := G) (fun b o nb hb' => ?_) (G2 kS (by simp)) g1 g2 nKa srt lk hz fun h3 t3 c3 k3 g3 => ?_
    · by_cases z : b = kS
      · rw [z, G2 kS (by simp)] at hb'
        cases hb'
      · rw [G1 b (by simpa using z)] at hb'
        exact hb'
    · have old : (h3.update a fun _ => seqObj "list" #[] e1).get? a = some (seqObj "list" #[] e1) := Heap.get?_update_self _ g3 rfl
      have J2 : Inv X pins σ Hi { s' with heap := h3.update a fun _ => seqObj "list" #[] e1, toks := t3 } := inv_turn J (fp_at fK n1) fun c o nc hco => by
        by_cases z : c = a
        · rw [z] at hco ⊢
          rw [old, ← g2, hco]
        · rw [Heap.get?_update_other _ _ (Ne.symm z)]
          exact k3 c o z (by rw [G1 c (by simpa using nc)]; exact hco)
      have eo := keyedOut_each (rev := false) k ⟨s'.heap, kA.toList, al, rfl, er⟩ ei
      have vo := each_vals2 eo
      have J3 : Inv X pins σ (upd Hi a (.lst ((ns.mergeSort (dataLe false k)).map V.int))) { s' with heap := h3, toks := t3 } := J2.take (h' := h3) (t' := t3) (fun b o nb hb' => by rw [Heap.get?_update_other _ _ (Ne.symm nb)] at hb'; exact hb') (fp_at fa n2) ⟨by
        rw [List.length_map, List.length_mergeSort]
        exact Nat.le_trans hn (by decide), _, c3, vo, g3⟩
      exact q Hi _ xi J3 n2
end
end DL
set_option Elab.async false
set_option linter.all false
set_option maxRecDepth 100000
set_option maxHeartbeats 4000000
/-! the expression sorted(range(n), key=lambda ..); a lambda made where all but its table stays -/
namespace DL
open PySem PySem.Spec PyProof.Rows L2 Evl LamX NdefX
open PySem.W (alike AllAlike Sortable dataLe EachIs)
/-- 0 .. n - 1 -/
def rgN (n : Nat) : List Int := (List.range n).map fun (i : Nat) => (i : Int)
theorem each_of {f : Nat → Int} : ∀ {us : List Value} (m : Nat), (∀ (i : Nat) u, us[i]? = some u → ∃ t, u = Value.int (f (m + i)) t) → EachIs (fun (v : Value) (i : Int) => ∃ t, v = .int i t) us ((List.range us.length).map fun i => f (m + i))
  | [], _, _ => .nil
  | u :: us, m, h => by
    rw [List.length_cons, List.range_succ_eq_map, List.map_cons, List.map_map]
    refine .cons (h 0 u rfl) ?_
    have r := each_of (f := f) (us := us) (m + 1) fun i v hv => by
      have := h (i + 1) v (by simpa using hv)
      rwa [show m + (i + 1) = m + 1 + i by omega] at this
    have e : (fun i => f (m + 1 + i)) = ((fun i => f (m + i)) ∘ Nat.succ) := by
      funext i
      show f (m + 1 + i) = f (m + (i + 1))
      rw [show m + (i + 1) = m + 1 + i by omega]
    rwa [e] at r
section
variable {X : Cx}
/-- range(n), the object -/
def rRange1 : List V → Hp → VK → Prop := fun vs H Q => ∃ n, vs = [V.int n] ∧ ∀ p, H p = none → Q (.ref p) (upd H p (.rng 0 n))
theorem cr_range1 : CallR X (.type "range") rRange1 := by
  intro pins s σ H vs us Q I r h
  obtain ⟨n, rfl, q⟩ := h
  obtain ⟨u, rfl, ru⟩ := vals1 r
  obtain ⟨t, rfl⟩ := ru
  refine call_range_1 ⟨.ref s.heap.objs.size, upd H s.heap.objs.size (.rng 0 n), I.laid (t' := s.toks + 2) (fun b o e => Heap.get?_push_of_some _ e) (Nat.le_refl _) ?_, rfl, q _ (I.hok.fresh (Nat.le_refl _))⟩
  exact ⟨_, _, _, Heap.get?_push_size _ rfl⟩
/-- sorted(range(n), key=f) -/
def tSortL (X : Cx) (k : Nat) (params : Arguments) (body : Expr) (scope : Scope) (p : Str) (N fr : List Str) (js : List Nat) (tb : TE) (t tk : TA) : TE := fun σ H Q => t σ H fun vs H1 => tk σ H1 fun zs H2 => ∃ (r f c' : Addr) (n : Nat) (key : Int → PyData),
  vs = [.ref r] ∧ zs = [.ref f] ∧ H2 r = some (.rng 0 (n : Int)) ∧ H2 f = some (LamO f c' (X.env.qual ++ "<lambda>") params body scope (cloFrom X.env.cells scope.names [])) ∧ H2 c' = some (CodeO c' (X.env.qual ++ "<lambda>")) ∧
  n ≤ 1000 ∧ Builtin.Range.small 0 (n : Int) 1 = true ∧ Builtin.Range.rangeSize 0 (n : Int) 1 = (n : Int) ∧ AllAlike ((rgN n).map key) ∧ Sortable ((rgN n).map key) ∧ (∀ d ∈ (rgN n).map key, d.depth ≤ 50) ∧ KeyTurn X N (js.map (slotAt σ)) tb H2 key (rgN n) ∧
  ∀ a H', H2 a = none → Ex H2 H' → H' a = some (.lst (((rgN n).mergeSort (dataLe false key)).map V.int)) → Q (.ref a) H'
theorem pe_sortL {k : Nat} {params : Arguments} {body : Expr} {scope : Scope} {p0 : Str} {N fr : List Str} {js : List Nat} {tb : TE} {t tk : TA} {x : Str} {p pos : Pos} {e : Expr} {kw : Keyword} (calm : X.calm = true) (D : X.Ok → LamD1 X k params body scope p0 N fr js tb) (hr : Room (k + 4) X.A)
    (hx : x = "sorted") (hg : Gl X x) (hm : X.mg x = none) (ha : PA X [e] t) (hk : PK X [kw] tk)
    (he : backTo pos (starEach [e] X.env) = (false, eval e X.env) :: backTo pos (starEach [] X.env) := by rfl) (hpl : (backTo pos (starEach [e] X.env)).any (·.1) = false := by rfl)
    (hall : (backToKw pos (keywordEach [kw] X.env)).all (·.1.isSome) = true := by rfl) (hnone : (backToKw pos (keywordEach [kw] X.env)).any (·.1.isNone) = false := by rfl) (hks : (backToKw pos (keywordEach [kw] X.env)).filterMap (·.1) = [Str.ofString "key"] := by rfl) :
    PE X (.Call (.Name x p) [e] [kw] pos) (tSortL X k params body scope p0 N fr js tb t tk) := by
  subst hx
  constructor
  intro pins s σ H Q I h
  apply wpAny_Call_Name_kw
  refine ld_blt (u := .builtin "sorted") I hg hm (by decide +kernel) ?_ (by decide) (by decide)
  apply PyProof.Rows.callWith_kw _ he hpl hall hnone
  refine thn (ha.run pos pins s σ H _ I h) fun us s1 z1 => ?_
  obtain ⟨vs, H1, I1, r1, q1⟩ := z1
  refine thn (hk.run pos pins s1 σ H1 _ I1 q1) fun ws s2 z2 => ?_
  obtain ⟨zs, H2, I2, r2, r, f, c', n, key, rfl, rfl, hR, hf, hc, hn, sm, rs, al, so, dep, turn, q⟩ := z2
  obtain rfl := Vals.ref1 r1
  obtain rfl := Vals.ref1 r2
  rw [hks]
  show wpAny (model X.prog X.w) X.A (call (.builtin "sorted") [.ref r] [(Str.ofString "key", .ref f)]) (EP X pins σ Q) X.xe s2
  obtain ⟨t0, t1, t2, ho⟩ := (show ObjOk X.prog X.w H2 s2.heap r (.rng 0 (n : Int)) from I2.hok r _ hR)
  refine call_function_entry_kw kind_sorted plain_sorted entry_sorted (ksk_s1 _ _) ?_
  unfold Builtin.«sorted»
  apply wpAny_bind
  refine wpAny_pure ?_
  apply wpAny_bind
  refine collect_range (A := X.A.in1) (I2.ok.hd calm) ho sm (n := n) rs (Nat.le_trans hn (by decide)) fun h3 tk3 acc keep items => ?_
  have I3 : Inv X pins σ H2 { s2 with heap := h3, toks := tk3 } := I2.kept keep
  obtain ⟨lenA, at_⟩ := items
  have lenL : acc.toList.length = n := by rw [Array.length_toList, lenA]
  have ei : EachIs (fun (v : Value) (i : Int) => ∃ t, v = .int i t) acc.toList (rgN n) := by
    have := each_of (f := fun i => (i : Int)) (us := acc.toList) 0 fun i v hv => by
      obtain ⟨t, e⟩ := at_ i v (by rw [← Array.getElem?_toList]; exact hv)
      exact ⟨t, by rw [e, show (0 + (i : Int) * 1) = ((0 + i : Nat) : Int) by omega]⟩
    rw [lenL] at this
    have e : (List.range n).map (fun i => ((0 + i : Nat) : Int)) = rgN n := by
      exact List.map_congr_left fun i _ => by rw [Nat.zero_add]
    rwa [e] at this
  apply wpAny_bind
  refine wpAny_newList ?_ (by rw [lenL]; exact Nat.le_trans hn (by decide))
  have gA : (h3.push (seqObj "list" acc.toList.toArray 0)).get? h3.objs.size = some (seqObj "list" acc.toList.toArray 0) := Heap.get?_push_size _ rfl
  show wpAny _ _ _ _ _ { s2 with heap := h3.push (seqObj "list" acc.toList.toArray 0), toks := tk3 }
  have I4 : Inv X pins σ H2 { s2 with heap := h3.push (seqObj "list" acc.toList.toArray 0), toks := tk3 } := I3.kept fun _ _ z => Heap.get?_push_of_some _ z
  have fA : FpOk X pins H2 h3.objs.size := I3.fpOk (Nat.le_refl _) (I3.hok.fresh (Nat.le_refl _))
  apply wpAny_bind
  apply wpAny_holding
  refine wpAny_call_entry_kw slot_list_sort ⟨_, gA, rfl⟩ entry_list_sort ?_ (ksk_l1 _ _)
  rw [ksk_t1]
  refine sort_walk (A' := X.A.in1.in1) (kd := k) I4 (D I2.ok) rfl (((hr.mono (by omega : k + 3 ≤ k + 4)).in1).in1) hf hc gA fA ei (by simp [rgN]; exact hn) al so dep turn fun H' s' x' J na => ?_
  refine ⟨_, rfl, wpAny_pure ⟨_, rfl, .ref h3.objs.size, _, J, rfl, q _ _ fA.1 (fun b o hb => ?_) upd_same⟩⟩
  rw [upd_ne (ne_of_none (x' _ _ hb) na)]
  exact x' _ _ hb
end
end DL
set_option Elab.async false
set_option linter.all false
set_option maxRecDepth 100000
set_option maxHeartbeats 4000000
/-! a lambda is made: all but its table stays, and where its code was there already all stays -/
namespace DL
open PySem PySem.Spec PyProof.Rows L2 Evl LamX NdefX
/-- what a lambda takes from around is there -/
def LamF (sc scope : Scope) : Prop := ∀ y ∈ scope.names, y.2 = .free → sc.names.lookup y.1 = some .cell ∨ sc.names.lookup y.1 = some .free
def lamFB (sc scope : Scope) : Bool := scope.names.all fun y => !decide (y.2 = .free) || decide (sc.names.lookup y.1 = some .cell) || decide (sc.names.lookup y.1 = some .free)
theorem lamF_by {sc scope : Scope} (h : lamFB sc scope = true) : LamF sc scope := fun y hy e => by
  have := List.all_eq_true.mp h y hy
  simp only [Bool.or_eq_true, Bool.not_eq_true', decide_eq_true_eq, decide_eq_false_iff_not] at this
  rcases this with (z | z) | z
  · exact absurd e z
  · exact .inl z
  · exact .inr z
/-- the lambda's code at pos is in the table at P -/
def HasC (H : Hp) (P : Addr) (pos : Pos) : Prop := ∃ ps cv, H P = some (.tbl ps) ∧ codeAmong pos ps.toList = some cv
theorem HasC.ex {H H' : Hp} {P : Addr} {pos : Pos} (h : HasC H P pos) (e : Ex H H') : HasC H' P pos := by
  obtain ⟨ps, cv, a, b⟩ := h
  exact ⟨ps, cv, e _ _ a, b⟩
/-- all but what stands at P stays -/
def ExB (P : Addr) (H H' : Hp) : Prop := ∀ b o, H b = some o → b ≠ P → H' b = some o
theorem ExB.of {P : Addr} {H H' : Hp} (e : Ex H H') : ExB P H H' := fun b o h _ => e b o h
theorem ExB.trans {P : Addr} {H H1 H2 : Hp} (a : ExB P H H1) (b : ExB P H1 H2) : ExB P H H2 := fun c o h n => b c o (a c o h n) n
theorem ExB.tx {P : Addr} {H H' : Hp} (e : ExB P H H') {ps : Array Value} (h : H P = some (.tbl ps)) : Tx H H' := fun a xs r => by
  rcases r with r | ⟨ob, r⟩
  · exact Or.inl (e _ _ r fun z => by rw [z, h] at r; cases r)
  · exact Or.inr ⟨ob, e _ _ r fun z => by rw [z, h] at r; cases r⟩
theorem among_new {pos : Pos} {c : Value} (l : List Value) (h : TriplesOk l) (hn : codeAmong pos l = none) : codeAmong pos (l ++ [rawInt pos.line, rawInt pos.col, c]) = some c := by
  fun_induction TriplesOk l with
  | case1 =>
    simp only [List.nil_append, rawInt, codeAmong]
    rw [if_pos (by simp)]
  | case2 a t b u x rest ih =>
    simp only [List.cons_append, codeAmong] at hn ⊢
    split at hn
    · cases hn
    · rename_i q
      rw [if_neg q]
      exact ih h hn
  | case3 l h1 h2 => exact h.elim
/-- the lambda's making -/
def tLamB (P : Addr) (q : Str) (pos : Pos) (params : Arguments) (body : Expr) (scope : Scope) (cl : List (Str × Addr)) : TE := fun σ H Q => TabS H P q ∧ ∀ f c' H1, ExB P H H1 → TabS H1 P q → HasC H1 P pos → (HasC H P pos → H1 = H) → H f = none → H1 f = none → H1 c' = some (CodeO c' q) →
  Q (.ref f) (upd H1 f (LamO f c' q params body scope cl))
section
variable {X : Cx} {c P : Addr} {params : Arguments} {body : Expr} {scope : Scope} {pos : Pos}
theorem pe_lamB (TB : TabB X.base X.mg c P) (code : X.env.code = .ref c) (hF : LamF X.env.scope scope) (hdef : defaultsOf params X.env = ([], [])) :
    PE X (.Lambda params body scope pos) (tLamB P (X.env.qual ++ "<lambda>") pos params body scope (cloFrom X.env.cells scope.names [])) := by
  constructor
  intro pins s σ H Q I hh
  obtain ⟨tab, k⟩ := hh
  obtain ⟨ps, atP, tri, among⟩ := id tab
  have free : ∀ y ∈ scope.names, y.2 = .free → ∃ c, X.env.cells.lookup y.1 = some c := fun y hy e => (hF y hy e).elim (fun z => I.ok.has _ (.inl z)) fun z => I.ok.has _ (.inr z)
  apply PySem.W.kla_eval hdef
  have bi : s.heap.BuiltinsAt X.mg P := TB.bm.keeps I.bk
  have heapP : s.heap.get? P = some { cls := .none, data := .fields ps } := I.hok P _ atP
  cases look : codeAmong pos ps.toList with
  | some cv =>
    obtain ⟨c', rfl, hc'⟩ := among pos cv look
    apply PySem.W.kla_makeFunctionHit (mg := X.mg) (c := c) (P := P) (ps := ps) (closure_ok free) I.ok.glob (I.mod.glob.keeps I.bk) code (TB.code.keeps I.bk) heapP tri look bi
    intro ctv h2 tk keep size
    have J : Inv X pins σ H { s with heap := h2, toks := tk } := I.kept keep
    have n2 : H h2.objs.size = none := I.hok.fresh size
    have J2 := J.laid (t' := tk) (h' := h2.push (PySem.W.kla_obj "<lambda>" (X.env.qual ++ "<lambda>") params body scope (cloFrom X.env.cells scope.names []) ((X.mg "__name__").getD .none) c' ctv)) (fun _ _ z => Heap.get?_push_of_some _ z) (Nat.le_refl _)
      (lamO_ok (f := h2.objs.size) (c' := c') (Heap.get?_push_size _ rfl))
    exact ⟨V.ref h2.objs.size, _, J2, rfl, k _ c' H (ExB.of (Ex.refl H)) tab ⟨ps, _, atP, look⟩ (fun _ => rfl) n2 n2 hc'⟩
  | none =>
    apply PySem.W.kla_makeFunction (mg := X.mg) (c := c) (P := P) (ps := ps) (closure_ok free) I.ok.glob (I.mod.glob.keeps I.bk) code (TB.code.keeps I.bk) heapP tri look TB.gP bi
    intro c' ctv h2 tk but ge lt rec0 tabH
    obtain ⟨c2, oc, fs, t, e2, oc2, fd, fq⟩ := rec0
    cases e2
    have nC : H c' = none := I.hok.fresh ge
    have size : s.heap.objs.size ≤ h2.objs.size := Nat.le_trans ge (Nat.le_of_lt lt)
    have nF : H h2.objs.size = none := I.hok.fresh size
    have J := inv_table (t' := tk) (h' := h2) (c := c') (q := X.env.qual ++ "<lambda>") (more := #[rawInt pos.line, rawInt pos.col, .ref c']) I atP (fun b o nb z => but b o nb z) tabH ge ⟨oc, fs, t, oc2, fd, fq⟩
    have nPc : P ≠ c' := ne_of_none atP nC
    have ext : ExB P H (upd (upd H P (.tbl (ps ++ #[rawInt pos.line, rawInt pos.col, .ref c']))) c' (CodeO c' (X.env.qual ++ "<lambda>"))) := fun b o z nb => by
      rw [upd_ne (ne_of_none z nC), upd_ne nb]
      exact z
    have toL : (ps ++ #[rawInt pos.line, rawInt pos.col, .ref c']).toList = ps.toList ++ [rawInt pos.line, rawInt pos.col, .ref c'] := by simp
    have newP : upd (upd H P (.tbl (ps ++ #[rawInt pos.line, rawInt pos.col, .ref c']))) c' (CodeO c' (X.env.qual ++ "<lambda>")) P = some (.tbl (ps ++ #[rawInt pos.line, rawInt pos.col, .ref c'])) := by rw [upd_ne nPc, upd_same]
    have tab2 : TabS (upd (upd H P (.tbl (ps ++ #[rawInt pos.line, rawInt pos.col, .ref c']))) c' (CodeO c' (X.env.qual ++ "<lambda>"))) P (X.env.qual ++ "<lambda>") := by
      refine ⟨_, newP, by rw [toL]; exact PySem.TriplesOk_snoc _ _ _ _ tri, fun p2 cv z => ?_⟩
      rw [toL] at z
      rcases among_app _ tri z with z | z
      · obtain ⟨c0, g1, g2⟩ := among p2 cv z
        exact ⟨c0, g1, ext _ _ g2 fun y => by rw [y, atP] at g2; exact codeO_ne ps (Option.some.inj g2).symm⟩
      · exact ⟨c', z, upd_same⟩
    have has2 : HasC (upd (upd H P (.tbl (ps ++ #[rawInt pos.line, rawInt pos.col, .ref c']))) c' (CodeO c' (X.env.qual ++ "<lambda>"))) P pos := ⟨_, .ref c', newP, by rw [toL]; exact among_new _ tri look⟩
    have fC : h2.objs.size ≠ c' := Nat.ne_of_gt lt
    have fP : h2.objs.size ≠ P := Nat.ne_of_gt (Nat.lt_of_lt_of_le (Heap.lt_size heapP) size)
    have none1 : upd (upd H P (.tbl (ps ++ #[rawInt pos.line, rawInt pos.col, .ref c']))) c' (CodeO c' (X.env.qual ++ "<lambda>")) h2.objs.size = none := by
      rw [upd_ne fC, upd_ne fP]
      exact nF
    have J2 := J.laid (t' := tk) (h' := h2.push (PySem.W.kla_obj "<lambda>" (X.env.qual ++ "<lambda>") params body scope (cloFrom X.env.cells scope.names []) ((X.mg "__name__").getD .none) c' ctv)) (fun _ _ z => Heap.get?_push_of_some _ z) (Nat.le_refl _)
      (lamO_ok (f := h2.objs.size) (c' := c') (Heap.get?_push_size _ rfl))
    refine ⟨V.ref h2.objs.size, _, J2, rfl, k _ c' _ ext tab2 has2 (fun z => ?_) nF none1 upd_same⟩
    obtain ⟨ps', cv, a, b⟩ := z
    rw [atP] at a
    cases a
    rw [look] at b
    cases b
end
end DL
set_option Elab.async false
set_option linter.all false
set_option maxRecDepth 100000
set_option maxHeartbeats 4000000
/-! the wires of a load let by 2: what the program's walk finds -/
namespace K16
open PySem PySem.Spec PyProof.Rows L2 Evl DL
abbrev Mx := List (List Int)
def rowM (m : Mx) (i : Nat) : List Int := m.getD i []
def getM (m : Mx) (i j : Nat) : Int := (rowM m i).getD j 0
def putM (m : Mx) (i j : Nat) (v : Int) : Mx := m.set i ((rowM m i).set j v)
def decM (m : Mx) (i j : Nat) : Mx := putM m i j (getM m i j - 1)
def zeroM (s : Nat) : Mx := List.replicate s (List.replicate s 0)
/-- the matrix of a load: pair by pair -/
def fillM (ps : List ((Int × Int) × Int)) (m : Mx) : Mx := ps.foldl (fun m p => putM (putM m p.1.1.toNat p.1.2.toNat p.2) p.1.2.toNat p.1.1.toNat p.2) m
def loadM (s : Int) (l : List Int) : Mx := fillM ((prs s).zip l) (zeroM s.toNat)
def farOf (r : List Int) : Nat := r.findIdx fun x => decide (0 < x)
/-- one row of wires -/
def walkW : Nat → Mx → Nat → List (Nat × Nat) → Option (Mx × List (Nat × Nat))
  | 0, _, _, _ => none
  | f + 1, m, i, acc => if 0 < (rowM m i).sum then
      if farOf (rowM m i) < (rowM m i).length then walkW f (decM (decM m i (farOf (rowM m i))) (farOf (rowM m i)) i) (farOf (rowM m i)) (acc ++ [(i, farOf (rowM m i))]) else none
    else some (m, acc)
def rowsW : List Nat → Mx → List (List (Nat × Nat)) → Option (List (List (Nat × Nat)))
  | [], _, acc => some acc
  | i :: is, m, acc => match walkW 25 m i [] with
    | some (m', r) => rowsW is m' (acc ++ [r])
    | none => none
def startsW (m : Mx) (s : Nat) : List Nat := ((List.range s).filter fun i => decide ((rowM m i).sum = 1)) ++ (List.range s).filter fun i => !decide ((rowM m i).sum = 1)
def wireW (s : Int) (l : List Int) : Option (List (List (Nat × Nat))) := rowsW (startsW (loadM s l) s.toNat) (loadM s l) []
def swW (p : Nat × Nat) : Sw := if p.1 ≤ p.2 then (((p.1 : Int), 0), ((p.2 : Int), 1)) else (((p.2 : Int), 1), ((p.1 : Int), 0))
/-- what is found is well: switches of mates, each pin once, the load given back -/
def goodW (s : Int) (l : List Int) (ws : List Sw) : Bool := ws.all (fun u => decide (0 ≤ u.1.1) && decide (u.1.1 < u.2.1) && decide (u.2.1 < s) && ((decide (u.1.2 = 0) && decide (u.2.2 = 1)) || (decide (u.1.2 = 1) && decide (u.2.2 = 0)))) && decide ((pinsOf ws).Nodup) && decide (loadOf s ws = l)
def chkW (s : Int) (l : List Int) : Bool := match wireW s l with
  | some rows => goodW s l (rows.flatten.map swW) && rows.all (fun r => decide (r.length ≤ 25)) && decide (rows.length ≤ 10)
  | none => false
end K16
set_option Elab.async false
set_option linter.all false
set_option maxRecDepth 100000
set_option maxHeartbeats 4000000
/-! the wires of a load let by 2: what the program's walk finds -/
namespace K16
open PySem PySem.Spec PyProof.Rows L2 Evl DL
theorem chkW2 : (LL 2 2).all (chkW 2) = true := by decide +kernel
theorem chkW3 : (LL 3 2).all (chkW 3) = true := by decide +kernel
theorem chkW4 : (LL 4 2).all (chkW 4) = true := by decide +kernel
theorem chkW5 : (LL 5 2).all (chkW 5) = true := by decide +kernel
end K16
set_option Elab.async false
set_option linter.all false
set_option maxRecDepth 100000
set_option maxHeartbeats 4000000
namespace K16
open PySem PySem.Spec PyProof.Rows L2 Evl DL
theorem prs5 : prs 5 = [(0, 1), (0, 2), (0, 3), (0, 4), (1, 2), (1, 3), (1, 4), (2, 3), (2, 4), (3, 4)] := by decide
theorem st01 (a b c d e x : Int) : stp [a, b, c, d, e] ((0, 1), x) = [a + x, b + x, c, d, e] := rfl
theorem st02 (a b c d e x : Int) : stp [a, b, c, d, e] ((0, 2), x) = [a + x, b, c + x, d, e] := rfl
theorem st03 (a b c d e x : Int) : stp [a, b, c, d, e] ((0, 3), x) = [a + x, b, c, d + x, e] := rfl
theorem st04 (a b c d e x : Int) : stp [a, b, c, d, e] ((0, 4), x) = [a + x, b, c, d, e + x] := rfl
theorem st12 (a b c d e x : Int) : stp [a, b, c, d, e] ((1, 2), x) = [a, b + x, c + x, d, e] := rfl
theorem st13 (a b c d e x : Int) : stp [a, b, c, d, e] ((1, 3), x) = [a, b + x, c, d + x, e] := rfl
theorem st14 (a b c d e x : Int) : stp [a, b, c, d, e] ((1, 4), x) = [a, b + x, c, d, e + x] := rfl
theorem st23 (a b c d e x : Int) : stp [a, b, c, d, e] ((2, 3), x) = [a, b, c + x, d + x, e] := rfl
theorem st24 (a b c d e x : Int) : stp [a, b, c, d, e] ((2, 4), x) = [a, b, c + x, d, e + x] := rfl
theorem st34 (a b c d e x : Int) : stp [a, b, c, d, e] ((3, 4), x) = [a, b, c, d + x, e + x] := rfl
theorem sms5 (x0 x1 x2 x3 x4 x5 x6 x7 x8 x9 : Int) : sms 5 [x0, x1, x2, x3, x4, x5, x6, x7, x8, x9] = [0 + x0 + x1 + x2 + x3, 0 + x0 + x4 + x5 + x6, 0 + x1 + x4 + x7 + x8, 0 + x2 + x5 + x7 + x9, 0 + x3 + x6 + x8 + x9] := by
  unfold sms
  rw [prs5]
  show List.foldl stp [0, 0, 0, 0, 0] [((0, 1), x0), ((0, 2), x1), ((0, 3), x2), ((0, 4), x3), ((1, 2), x4), ((1, 3), x5), ((1, 4), x6), ((2, 3), x7), ((2, 4), x8), ((3, 4), x9)] = _
  rw [List.foldl_cons, st01]
  rw [List.foldl_cons, st02]
  rw [List.foldl_cons, st03]
  rw [List.foldl_cons, st04]
  rw [List.foldl_cons, st12]
  rw [List.foldl_cons, st13]
  rw [List.foldl_cons, st14]
  rw [List.foldl_cons, st23]
  rw [List.foldl_cons, st24]
  rw [List.foldl_cons, st34]
  rfl
theorem zw10 (l0 l1 l2 l3 l4 l5 l6 l7 l8 l9 p0 p1 p2 p3 p4 p5 p6 p7 p8 p9 : Int) : zw (· - ·) [l0, l1, l2, l3, l4, l5, l6, l7, l8, l9] [p0, p1, p2, p3, p4, p5, p6, p7, p8, p9] = [l0 - p0, l1 - p1, l2 - p2, l3 - p3, l4 - p4, l5 - p5, l6 - p6, l7 - p7, l8 - p8, l9 - p9] := rfl
theorem five_of {t R l0 l1 l2 l3 l4 l5 l6 l7 l8 l9 : Int} (ht : t = 2 ∨ t = 1) (h : K18.Prt t R l0 l1 l2 l3 l4 l5 l6 l7 l8 l9) : ∃ p ∈ LL 5 t, blw p [l0, l1, l2, l3, l4, l5, l6, l7, l8, l9] = true ∧ ∀ y ∈ sms 5 (zw (· - ·) [l0, l1, l2, l3, l4, l5, l6, l7, l8, l9] p), y ≤ R - t := by
  obtain ⟨p0, p1, p2, p3, p4, p5, p6, p7, p8, p9, ⟨n0, n1, n2, n3, n4, n5, n6, n7, n8, n9⟩, ⟨b0, b1, b2, b3, b4, b5, b6, b7, b8, b9⟩, ⟨d0, d1, d2, d3, d4⟩, e0, e1, e2, e3, e4⟩ := h
  refine ⟨[p0, p1, p2, p3, p4, p5, p6, p7, p8, p9], LL5_mem ht n0 n1 n2 n3 n4 n5 n6 n7 n8 n9 d0 d1 d2 d3 d4, ?_, ?_⟩
  · simp [blw, b0, b1, b2, b3, b4, b5, b6, b7, b8, b9]
  · intro y hy
    rw [zw10, sms5] at hy
    simp only [List.mem_cons, List.not_mem_nil, or_false] at hy
    rcases hy with rfl | rfl | rfl | rfl | rfl <;> omega
theorem heart55 {t R l0 l1 l2 l3 l4 l5 l6 l7 l8 l9 : Int} (hn : 0 ≤ l0 ∧ 0 ≤ l1 ∧ 0 ≤ l2 ∧ 0 ≤ l3 ∧ 0 ≤ l4 ∧ 0 ≤ l5 ∧ 0 ≤ l6 ∧ 0 ≤ l7 ∧ 0 ≤ l8 ∧ 0 ≤ l9) (g0 : 0 + l0 + l1 + l2 + l3 ≤ R) (g1 : 0 + l0 + l4 + l5 + l6 ≤ R) (g2 : 0 + l1 + l4 + l7 + l8 ≤ R) (g3 : 0 + l2 + l5 + l7 + l9 ≤ R) (g4 : 0 + l3 + l6 + l8 + l9 ≤ R) (ho : t = 2 ∧ R % 2 = 0 ∧ 2 ≤ R ∨ t = 1 ∧ R % 2 = 1 ∧ 1 ≤ R) : ∃ p ∈ LL 5 t, blw p [l0, l1, l2, l3, l4, l5, l6, l7, l8, l9] = true ∧ ∀ y ∈ sms 5 (zw (· - ·) [l0, l1, l2, l3, l4, l5, l6, l7, l8, l9] p), y ≤ R - t := by
  rcases ho with ⟨rfl, r1, r2⟩ | ⟨rfl, r1, r2⟩
  · exact five_of (.inl rfl) (K18.even_all (5 * R - 2 * (l0 + l1 + l2 + l3 + l4 + l5 + l6 + l7 + l8 + l9)).toNat hn (by omega) (by omega) (by omega) (by omega) (by omega) r1 r2 (by omega))
  · exact five_of (.inr rfl) (K18.odd_all (5 * R - 2 * (l0 + l1 + l2 + l3 + l4 + l5 + l6 + l7 + l8 + l9)).toNat hn (by omega) (by omega) (by omega) (by omega) (by omega) r1 r2 (by omega))
end K16
set_option Elab.async false
set_option linter.all false
set_option maxRecDepth 100000
set_option maxHeartbeats 4000000
namespace K16
open PySem PySem.Spec PyProof.Rows L2 Evl DL
local macro_rules | `(tactic| walk_at "dl") => `(tactic| first
  | exact ev_c | exact ev_var rfl | exact eda_nil
  | exact ed_var rfl (by assumption)
  | exact ed_int ev_c | exact ed_int (ev_var rfl)
  | (refine eda_cons ?_ ?_ <;> walk_at "dl")
  | (refine ed_int ?_; walk_at "dl")
  | (refine ev_op ?_ ?_ rv_I0 <;> walk_at "dl"))

theorem mxl_le {l : List Int} {R : Int} (h0 : 0 < l.length) (h : ∀ y ∈ l, y ≤ R) : mxl l ≤ R := h _ (mxl_mem h0)
theorem len_succ {l : List Int} {n : Nat} (h : l.length = n + 1) : ∃ a m, l = a :: m ∧ m.length = n := by
  cases l with
  | nil => cases h
  | cons a m => exact ⟨a, m, rfl, by simpa using h⟩
theorem heart {s own R : Int} {l : List Int} (h1 : 2 ≤ s) (h2 : s ≤ 5) (hl : Ld s l) (hm : mxl (sms s l) ≤ R) (ho : own = 2 ∧ R % 2 = 0 ∧ 2 ≤ R ∨ own = 1 ∧ R % 2 = 1 ∧ 1 ≤ R) :
    ∃ p ∈ LL s own, blw p l = true ∧ mxl (sms s (zw (· - ·) l p)) ≤ R - own := by
  have hy : ∀ y ∈ sms s l, y ≤ R := fun y hy => Int.le_trans (mxl_ge hy) hm
  have fin : (∃ p ∈ LL s own, blw p l = true ∧ ∀ y ∈ sms s (zw (· - ·) l p), y ≤ R - own) → ∃ p ∈ LL s own, blw p l = true ∧ mxl (sms s (zw (· - ·) l p)) ≤ R - own := fun ⟨p, a, b, c⟩ =>
    ⟨p, a, b, mxl_le (by rw [sms_len]; omega) c⟩
  apply fin
  obtain ⟨hlen, hb⟩ := hl
  have hs' : s = 2 ∨ s = 3 ∨ s = 4 ∨ s = 5 := by omega
  rcases hs' with rfl | rfl | rfl | rfl
  · match l, hlen with
    | [a], _ =>
      have n := hb a (by simp)
      have g : ∀ y ∈ [0 + a, 0 + a], y ≤ R := hy
      rcases ho with ⟨rfl, hR⟩ | ⟨rfl, hR⟩
      · exact heart22 n.1 (g _ (by simp)) (g _ (by simp)) hR
      · exact heart21 n.1 (g _ (by simp)) (g _ (by simp)) hR
  · match l, hlen with
    | [a, b, c], _ =>
      have na := hb a (by simp)
      have nb := hb b (by simp)
      have nc := hb c (by simp)
      have g : ∀ y ∈ [0 + a + b, 0 + a + c, 0 + b + c], y ≤ R := hy
      rcases ho with ⟨rfl, hR⟩ | ⟨rfl, hR⟩
      · exact heart32 ⟨na.1, nb.1, nc.1⟩ (g _ (by simp)) (g _ (by simp)) (g _ (by simp)) hR
      · exact heart31 ⟨na.1, nb.1, nc.1⟩ (g _ (by simp)) (g _ (by simp)) (g _ (by simp)) hR
  · match l, hlen with
    | [a, b, c, d, e, f], _ =>
      have na := hb a (by simp)
      have nb := hb b (by simp)
      have nc := hb c (by simp)
      have nd := hb d (by simp)
      have ne := hb e (by simp)
      have nf := hb f (by simp)
      have g : ∀ y ∈ [0 + a + b + c, 0 + a + d + e, 0 + b + d + f, 0 + c + e + f], y ≤ R := hy
      rcases ho with ⟨rfl, hR⟩ | ⟨rfl, hR⟩
      · exact heart42 ⟨na.1, nb.1, nc.1, nd.1, ne.1, nf.1⟩ (g _ (by simp)) (g _ (by simp)) (g _ (by simp)) (g _ (by simp)) hR
      · exact heart41 ⟨na.1, nb.1, nc.1, nd.1, ne.1, nf.1⟩ (g _ (by simp)) (g _ (by simp)) (g _ (by simp)) (g _ (by simp)) hR
  · have hlen : l.length = 10 := hlen.trans (by decide)
    obtain ⟨l0, m0, e0, h0⟩ := len_succ hlen
    subst e0
    obtain ⟨l1, m1, e1, h1⟩ := len_succ h0
    subst e1
    obtain ⟨l2, m2, e2, h2⟩ := len_succ h1
    subst e2
    obtain ⟨l3, m3, e3, h3⟩ := len_succ h2
    subst e3
    obtain ⟨l4, m4, e4, h4⟩ := len_succ h3
    subst e4
    obtain ⟨l5, m5, e5, h5⟩ := len_succ h4
    subst e5
    obtain ⟨l6, m6, e6, h6⟩ := len_succ h5
    subst e6
    obtain ⟨l7, m7, e7, h7⟩ := len_succ h6
    subst e7
    obtain ⟨l8, m8, e8, h8⟩ := len_succ h7
    subst e8
    obtain ⟨l9, m9, e9, h9⟩ := len_succ h8
    subst e9
    have e9 := List.eq_nil_of_length_eq_zero h9
    subst e9
    have n0 := hb l0 (by simp)
    have n1 := hb l1 (by simp)
    have n2 := hb l2 (by simp)
    have n3 := hb l3 (by simp)
    have n4 := hb l4 (by simp)
    have n5 := hb l5 (by simp)
    have n6 := hb l6 (by simp)
    have n7 := hb l7 (by simp)
    have n8 := hb l8 (by simp)
    have n9 := hb l9 (by simp)
    rw [sms5] at hy
    exact heart55 ⟨n0.1, n1.1, n2.1, n3.1, n4.1, n5.1, n6.1, n7.1, n8.1, n9.1⟩ (hy _ (by simp)) (hy _ (by simp)) (hy _ (by simp)) (hy _ (by simp)) (hy _ (by simp)) ho
def goodL (s t : Int) : Bool := (LL s t).all fun p => decide (p.length = np s) && p.all (fun x => decide (0 ≤ x) && decide (x ≤ 2)) && decide (mxl (sms s p) ≤ t)
theorem goods {s own : Int} (h1 : 2 ≤ s) (h2 : s ≤ 5) (ho : own = 2 ∨ own = 1) : goodL s own = true ∧ (liter s own 1000).1 = [] := by
  have hs' : s = 2 ∨ s = 3 ∨ s = 4 ∨ s = 5 := by omega
  have key : (goodL 2 2 && goodL 3 2 && goodL 4 2 && goodL 5 2 && goodL 2 1 && goodL 3 1 && goodL 4 1 && goodL 5 1) = true := by decide +kernel
  have em : (liter 2 2 1000).1 = [] ∧ (liter 3 2 1000).1 = [] ∧ (liter 4 2 1000).1 = [] ∧ (liter 5 2 1000).1 = [] ∧ (liter 2 1 1000).1 = [] ∧ (liter 3 1 1000).1 = [] ∧ (liter 4 1 1000).1 = [] ∧ (liter 5 1 1000).1 = [] := by decide +kernel
  simp only [Bool.and_eq_true] at key
  obtain ⟨⟨⟨⟨⟨⟨⟨a, b⟩, c⟩, d⟩, e⟩, f⟩, g⟩, i⟩ := key
  obtain ⟨a', b', c', d', e', f', g', i'⟩ := em
  rcases hs' with rfl | rfl | rfl | rfl <;> rcases ho with rfl | rfl
  · exact ⟨a, a'⟩
  · exact ⟨e, e'⟩
  · exact ⟨b, b'⟩
  · exact ⟨f, f'⟩
  · exact ⟨c, c'⟩
  · exact ⟨g, g'⟩
  · exact ⟨d, d'⟩
  · exact ⟨i, i'⟩
theorem good_mem {s own : Int} (h1 : 2 ≤ s) (h2 : s ≤ 5) (ho : own = 2 ∨ own = 1) {p : List Int} (h : p ∈ LL s own) : Ld s p ∧ mxl (sms s p) ≤ own := by
  have g := (goods h1 h2 ho).1
  have g := List.all_eq_true.mp g p h
  simp only [Bool.and_eq_true, decide_eq_true_eq, List.all_eq_true] at g
  exact ⟨⟨g.1.1, fun x hx => by have := g.1.2 x hx; omega⟩, g.2⟩
section
variable {P : Program} {w : World} {K : PySem.W.Frag} {mg : Str → Option Value} {base : Heap}
def okp (s : Int) (l : List Int) (m : Int) (p : List Int) : Bool := blw p l && decide (mxl (sms s (zw (· - ·) l p)) ≤ m)
def R_is_part (ds : List PyData) (r : PyData) : Prop := ∃ (s : Int) (l p : List Int) (m : Int), ds = [.int s, tI l, tI p, .int m] ∧ 2 ≤ s ∧ s ≤ 5 ∧ Ld s l ∧ Ld s p ∧ r = .bool (okp s l m p)
abbrev s_is_part : Stmt := topS 46
abbrev N_is_part : List Str := ["sides", "load", "part", "room"]
theorem sc_is_part : FnScope N_is_part ["sides", "load", "part", "room"] (defScope s_is_part) := ⟨rfl, rfl, rfl, by decide +kernel, rfl, by decide +kernel, by decide +kernel⟩
theorem ok_is_part {f : Addr} {fd : FuncData} (F : Fun K "is_part" "is_part" s_is_part f fd) (T : Txt mg)
    (D_is_below : DF P w K mg base "is_below" 1 ["one", "other"] (spD K 2 R_is_below)) (D_is_let : DF P w K mg base "is_let" 3 ["sides", "load", "room"] (spD K 3 R_is_let)) (D_reduced : DF P w K mg base "reduced" 1 ["load", "part"] (spD K 2 R_reduced))  :
    FnOk P w K mg base CX0 4 f fd ["sides", "load", "part", "room"] (spD K 4 R_is_part) := by
  refine F.ok sc_is_part (fun vs H Q E h => spD_len h) (fun cdv A outer s H vs Q E hr h => ?_)
  obtain ⟨ds, r, hd, _, ⟨x, l, p, m, rfl, h1, h2, hl, hp, rfl⟩, k⟩ := h
  obtain ⟨v0, v1, v2, v3, rfl, d0, d1, d2, d3⟩ := dpa_four hd
  cases dp_int d0
  cases dp_int d3
  refine ⟨_, (pss_one (ps_ret (pe_and (pe_D D_is_below (hr.mono (by decide)) (by rfl) (pa_cons (pv 2) (pa_cons (pv 1) pa_nil))) (pe_one (pe_D D_is_let (hr.mono (by decide)) (by rfl) (pa_cons (pv 0) (pa_cons (pe_D D_reduced (hr.mono (by decide)) (by rfl) (pa_cons (pv 1) (pa_cons (pv 2) pa_nil))) (pa_cons (pv 3) pa_nil)))))))), ?_⟩
  have np10 := np_le (s := x) h1 (by omega)
  have ll : l.length = np x := hl.1
  have lp : p.length = np x := hp.1
  exact d_ret (K := K) (ed_bool (ev_andV (a := blw p l) (EvD.bool (ed_call (R := R_is_below) (ds := [tI p, tI l]) (eda_cons (ed_var (v := v2) rfl d2) (eda_cons (ed_var (v := v1) rfl d1) eda_nil)) rfl ⟨p, l, rfl, rfl⟩)) fun _ => EvD.bool (ed_call (R := R_is_let) (ds := [.int x, tI (zw (· - ·) l p), .int m]) (eda_cons (ed_int (ev_var rfl)) (eda_cons (ed_call (R := R_reduced) (ds := [tI l, tI p]) (eda_cons (ed_var (v := v1) rfl d1) (eda_cons (ed_var (v := v2) rfl d2) eda_nil)) rfl ⟨l, p, rfl, by omega, rfl⟩) (eda_cons (ed_int (ev_var rfl)) eda_nil))) rfl ⟨x, _, m, rfl, h1, by omega, rfl⟩))) k

def R_part_off (ds : List PyData) (r : PyData) : Prop := ∃ (s : Int) (l : List Int) (L : List (List Int)) (m : Int) (part : List Int), ds = [.int s, tI l, .list (L.map tI), .int m] ∧ 2 ≤ s ∧ s ≤ 5 ∧ (∀ p ∈ L, Ld s p) ∧ Ld s l ∧ L.find? (okp s l m) = some part ∧ r = tI part
theorem find_at {α : Type} {f : α → Bool} : ∀ {l : List α} {i : Nat} {x : α}, l[i]? = some x → f x = true → (∀ j, j < i → ∀ y, l[j]? = some y → f y = false) → l.find? f = some x
  | [], _, _, h, _, _ => by simp at h
  | a :: l, 0, x, h, hx, _ => by
    simp at h
    subst h
    rw [List.find?_cons, hx]
  | a :: l, i + 1, x, h, hx, hn => by
    rw [List.find?_cons, hn 0 (by omega) a rfl]
    exact find_at (by simpa using h) hx fun j hj y hy => hn (j + 1) (by omega) y (by simpa using hy)
abbrev s_part_off : Stmt := topS 47
abbrev N_part_off : List Str := ["sides", "load", "parts", "room", "part"]
theorem sc_part_off : FnScope N_part_off ["sides", "load", "parts", "room"] (defScope s_part_off) := ⟨rfl, rfl, rfl, by decide +kernel, rfl, by decide +kernel, by decide +kernel⟩
theorem ok_part_off {f : Addr} {fd : FuncData} (F : Fun K "part_off" "part_off" s_part_off f fd) (T : Txt mg)
    (D_is_part : DF P w K mg base "is_part" 4 ["sides", "load", "part", "room"] (spD K 4 R_is_part))  :
    FnOk P w K mg base CX0 5 f fd ["sides", "load", "parts", "room"] (spD K 4 R_part_off) := by
  refine F.ok sc_part_off (fun vs H Q E h => spD_len h) (fun cdv A outer s H vs Q E hr h => ?_)
  obtain ⟨ds, r, hd, _, ⟨x, l, L, m, part, rfl, h1, h2, h3, hl, hf, rfl⟩, k⟩ := h
  obtain ⟨v0, v1, v2, v3, rfl, d0, d1, d2, d3⟩ := dpa_four hd
  cases dp_int d0
  cases dp_int d3
  refine ⟨_, (pss_cons (ps_for PassesOwn.never rfl (pi_list (pv 2)) (pg_name (i := 4) sc_part_off.nd rfl (Or.inl rfl)) (pss_one (ps_if (pt_val (pe_D D_is_part (hr.mono (by decide)) (by rfl) (pa_cons (pv 0) (pa_cons (pv 1) (pa_cons (pv 4) (pa_cons (pv 3) pa_nil)))))) (pss_one (ps_ret (pv 4))) pss_nil)))
      (pss_one (ps_ret pe_non))), ?_⟩
  refine e_for (S := []) (ei_lstD (K := K) (ds := L.map tI) (ed_var (v := v2) rfl d2) (immAll_tI _))
    (fun H2 i σ' Ha => Ex H2 Ha ∧ (∀ j, j < i → ∀ y, L[j]? = some y → okp x l m y = false) ∧ ∃ a, σ' = [some (.int x), some v1, some v2, some (.int m), a])
    (fun H2 e2 => ⟨Ex.refl _, fun j hj => absurd hj (by omega), none, rfl⟩) (fun H2 i σ' Ha _ z => Xp.of_ex z.1) ?_ ?_
  · rintro H2 i d y σ' Ha Hb e2 hdi ⟨p1, pn, a, rfl⟩ eb hy
    rw [List.getElem?_map] at hdi
    obtain ⟨p, hp, rfl⟩ := Option.map_eq_some_iff.mp hdi
    have hg := h3 p (List.mem_of_getElem? hp)
    have d1 := dp_ex ((e2.trans p1).trans eb) _ _ d1
    show tIfS _ _ _ _ [some (.int x), some v1, some v2, some (.int m), some y] Hb
    refine s_when (b := okp x l m p) (et_B (EvD.bool (ed_call (R := R_is_part) (ds := [.int x, tI l, tI p, .int m]) (eda_cons (ed_int (ev_var rfl)) (eda_cons (ed_var (v := v1) rfl d1) (eda_cons (ed_var (v := y) rfl hy) (eda_cons (ed_int (ev_var rfl)) eda_nil)))) rfl ⟨x, l, p, m, rfl, h1, h2, hl, hg, rfl⟩))) (fun hb H4 e4 => ?_) fun hb H4 e4 => ?_
    · have e := find_at hp hb pn
      rw [hf] at e
      cases e
      exact d_ret (K := K) (ed_var rfl (dp_ex e4 _ _ hy)) fun v H5 e5 hv => k v H5 ((((e2.trans p1).trans eb).trans e4).trans e5) hv
    · refine ⟨(p1.trans eb).trans e4, fun j hj z hz => ?_, _, rfl⟩
      by_cases hji : j = i
      · subst hji
        rw [hp] at hz
        cases hz
        exact hb
      · exact pn j (by omega) z hz
  · rintro H2 σ' Ha e2 ⟨p1, pn, a, rfl⟩
    exfalso
    have m1 := List.mem_of_find?_eq_some hf
    have m2 := List.find?_some hf
    obtain ⟨i, hi, e⟩ := List.getElem_of_mem m1
    have q := pn i (by rw [List.length_map]; exact hi) part (by rw [List.getElem?_eq_getElem hi, e])
    rw [m2] at q
    cases q

end
end K16
set_option Elab.async false
set_option linter.all false
set_option maxRecDepth 100000
set_option maxHeartbeats 4000000
/-! name = {a dict comprehension} on one line, the name a local -/
namespace DL
open PySem PySem.Spec PyProof.Rows L2 Evl
variable {X : Cx}
theorem ps_setDc {i : Nat} {y : Str} {py : Pos} {kx vx tg iter : Expr} {ifs : List Expr} {scope : Scope} {own : List (Str × Nat)} {pos spos : Pos} {wi : TI} {g : TG} {tt : TT} {tk tv : TE} (hc : X.calm = true) (hN : X.N.Nodup) (hy : X.N[i]? = some y) (hyl : X.env.scope.names.lookup y = some .local)
    (hsw : swapsWith (.DictComp kx vx [⟨tg, iter, ifs, 0⟩] scope pos) (some (.Name y py)) spos.line X.env = pure true) (hi : PI X tg iter wi) (ok : BlkOk X.N X.env.scope scope own)
    (hg : ∀ (s : Shared) (H : Hp) (C : Addr) (cl : List (Str × Addr)) (fp : List Addr), PG (X.blk s H scope (compEnvC scope cl C X.env) fp) tg g) (ht : ∀ (s : Shared) (H : Hp) (C : Addr) (cl : List (Str × Addr)) (fp : List Addr), PTs (X.blk s H scope (compEnvC scope cl C X.env) fp) ifs tt)
    (hk : ∀ (s : Shared) (H : Hp) (C : Addr) (cl : List (Str × Addr)) (fp : List Addr), PE (X.blk s H scope (compEnvC scope cl C X.env) fp) kx tk)
    (he : ∀ (s : Shared) (H : Hp) (C : Addr) (cl : List (Str × Addr)) (fp : List Addr), PE (X.blk s H scope (compEnvC scope cl C X.env) fp) vx tv) (hs : ∀ x, foldedSetIterable iter X.env x = pure x := by intro _; rfl) :
    PS X (.Assign [.Name y py] (.DictComp kx vx [⟨tg, iter, ifs, 0⟩] scope pos) spos) (tAsg (tDc wi g tt tk tv (own.map (·.2))) (gName i)) := by
  refine ⟨fun pins s σ H D I h => ?_⟩
  rw [exec_Assign_Name_used _ _ _ _ hsw]
  refine wpAny_bind (wpAny_standAt (wpAny_bind ?_))
  show wpAny _ X.A (do let _ ← comprehension (.DictComp kx vx [⟨tg, iter, ifs, 0⟩] scope pos) scope X.env (firstIterPos [⟨tg, iter, ifs, 0⟩] pos) newDict false (eval iter X.env) (some (assign (.Name y py) X.env))) _ _ s
  have h : tDc wi g tt tk tv (own.map (·.2)) σ H (fun x H1 => gName i x σ H1 D.nx) := h
  refine wpAny_bind (thn (dc_core (Qf := fun _ s' => SP X pins D .next s') hc hN I hi ok hg ht hk he hs h fun L C s' m H' I' q hn f => ?_) fun _ s' hq => wpAny_pure (wpAny_pure hq))
  show wpAny _ _ (assign (.Name y py) X.env (.ref L)) _ _ _
  refine wpAny_assign_Name (store_ok2 (v := V.ref L) I' hN hy (.inl hyl) rfl (fun s2 I2 ⟨a, sb, ha⟩ => ?_) (.inr hyl))
  obtain ⟨f0, f1, f2, f3, f4, f5⟩ := f
  have haC : C ≠ a := by
    rcases ha with z | z
    · rw [z]; exact f1
    · exact fun e => f4 y a z e.symm
  refine ⟨m, hn.sameBut sb haC, fun h3 sb3 => ?_⟩
  exact ⟨_, H', I2.turned (t' := s2.toks) (fun b o hb e => (sb3.2 b hb).trans e) f0 f1 f3 f4 f5, q⟩
theorem swd_true {kx vx : Expr} {gs : List Comprehension} {scope : Scope} {pos py : Pos} {y : Str} {l : Nat} {env : Env} (hk : env.scope.kind = .function) (hy : env.scope.names.lookup y = some .local) (hl : (py.line == pos.line) = true)
    (ha : (scope.names.any fun (n, k) => n == y && (k == .local || k == .cell)) = false) : swapsWith (.DictComp kx vx gs scope pos) (some (.Name y py)) l env = pure true := by
  have ky : env.kindOf y = some .local := hy
  have hb : env.blockKind = .function := by unfold Env.blockKind; rw [hk]; rfl
  unfold swapsWith
  simp only [hb, ky, ha, Expr.pos, hl]
  rfl
end DL
set_option Elab.async false
set_option linter.all false
set_option maxRecDepth 100000
set_option maxHeartbeats 4000000
namespace K16
open PySem PySem.Spec PyProof.Rows L2 Evl DL
local macro_rules | `(tactic| walk_at "dl") => `(tactic| first
  | exact ev_c | exact ev_var rfl | exact eda_nil
  | exact ed_var rfl (by assumption)
  | exact ed_int ev_c | exact ed_int (ev_var rfl)
  | (refine eda_cons ?_ ?_ <;> walk_at "dl")
  | (refine ed_int ?_; walk_at "dl")
  | (refine ev_op ?_ ?_ rv_I0 <;> walk_at "dl"))
section
variable {P : Program} {w : World} {K : PySem.W.Frag} {mg : Str → Option Value} {base : Heap}
variable {CB CL CR : Addr}
theorem isIn_int {i a b : Int} (h1 : a ≤ i) (h2 : i ≤ b) : isIn (.int i) a b = true := by simp [isIn, h1, h2]
def zer (s : Int) : List Int := List.replicate (np s) 0
theorem zw_len {f : Int → Int → Int} {a b : List Int} (h : a.length = b.length) : (zw f a b).length = a.length := by simp [zw, h]
/-- the parts hold: so many, each a load within its room, and their sum -/
structure Adds (s : Int) (l : List Int) (rooms : List Int) (ps : List (List Int)) : Prop where
  len : ps.length = rooms.length
  ld : ∀ p ∈ ps, Ld s p
  fit : ∀ (i : Nat) p r, ps[i]? = some p → rooms[i]? = some r → mxl (sms s p) ≤ r
  sum : ps.foldl (zw (· + ·)) (zer s) = l
def mrm (r : Int) : List Int := List.replicate (r / 2).toNat 2 ++ List.replicate (r % 2).toNat 1
def R_mates_rooms (ds : List PyData) (r : List PyData) : Prop := ∃ x : Int, ds = [.int x] ∧ 0 ≤ x ∧ x ≤ 99 ∧ r = dI (mrm x)
abbrev s_mates_rooms : Stmt := topS 44
abbrev N_mates_rooms : List Str := ["room"]
theorem sc_mates_rooms : FnScope N_mates_rooms ["room"] (defScope s_mates_rooms) := ⟨rfl, rfl, rfl, by decide +kernel, rfl, by decide +kernel, by decide +kernel⟩
theorem ok_mates_rooms {f : Addr} {fd : FuncData} (F : Fun K "mates_rooms" "mates_rooms" s_mates_rooms f fd) (T : Txt mg)
      :
    FnOk P w K mg base CX0 1 f fd ["room"] (spN K 1 R_mates_rooms) := by
  refine F.ok sc_mates_rooms (fun vs H Q E h => spN_len h) (fun cdv A outer s H vs Q E hr h => ?_)
  obtain ⟨ds, r, hd, _, ⟨x, rfl, h1, h2, rfl⟩, k⟩ := h
  obtain rfl := dpa_ints (l := [x]) hd
  refine ⟨_, (pss_one (ps_ret (pe_op op_cat (pe_op op_rep (pe_lst (pa_cons pe_int pa_nil)) (pe_op op_fdiv (pv 0) pe_int)) (pe_op op_rep (pe_lst (pa_cons pe_int pa_nil)) (pe_op op_mod (pv 0) pe_int))))), ?_⟩
  refine n_ret (en_is (en_cat (EvN.toQ (en_rep (d := .int 2) (n := x / 2) (EvN.toQ (en_lst (eda_cons (ed_int ev_c) eda_nil) (by simp))) (ev_op (ev_var rfl) ev_c (rv_I (by unfold CDiv; omega))) (by omega) (by omega)))
    (EvN.toQ (en_rep (d := .int 1) (n := x % 2) (EvN.toQ (en_lst (eda_cons (ed_int ev_c) eda_nil) (by simp))) (ev_op (ev_var rfl) ev_c (rv_I (by omega))) (by omega) (by omega))) (by simp; omega)) ?_) k
  show _ = (mrm x).map PyData.int
  rw [mrm, List.map_append, List.map_replicate, List.map_replicate]

theorem cut_take {ds : List PyData} {k : Nat} (h : k ≤ ds.length) : cutD ds none (some (k : Int)) = ds.take k := by
  have e : HT.sIx ds.length ds.length (some (k : Int)) = k := by
    rw [HT.sIx_nat]
    omega
  have e0 : HT.sIx ds.length 0 none = 0 := by simp [HT.sIx]
  rw [DL.cutD, e, e0]
  simp
def mrmOk (m : Nat) : Bool := (List.range (mrm (m : Int)).length).all (fun k => decide (((mrm (m : Int)).take (k + 1)).sum = ((mrm (m : Int)).take k).sum + (mrm (m : Int)).getD k 0) &&
  (((mrm (m : Int)).getD k 0 == 2 && ((mrm (m : Int)).take (k + 1)).sum % 2 == 0 && decide (2 ≤ ((mrm (m : Int)).take (k + 1)).sum)) || ((mrm (m : Int)).getD k 0 == 1 && ((mrm (m : Int)).take (k + 1)).sum % 2 == 1 && decide (1 ≤ ((mrm (m : Int)).take (k + 1)).sum)))) &&
  decide ((mrm (m : Int)).sum = (m : Int)) && decide ((mrm (m : Int)).length ≤ 50)
theorem mrm_all : (List.range 100).all mrmOk = true := by decide +kernel
theorem mrm_ok {m : Int} (h1 : 0 ≤ m) (h2 : m ≤ 99) : (mrm m).sum = m ∧ (mrm m).length ≤ 50 ∧ ∀ k, k < (mrm m).length → ((mrm m).take (k + 1)).sum = ((mrm m).take k).sum + (mrm m).getD k 0 ∧
    ((mrm m).getD k 0 = 2 ∧ ((mrm m).take (k + 1)).sum % 2 = 0 ∧ 2 ≤ ((mrm m).take (k + 1)).sum ∨ (mrm m).getD k 0 = 1 ∧ ((mrm m).take (k + 1)).sum % 2 = 1 ∧ 1 ≤ ((mrm m).take (k + 1)).sum) := by
  obtain ⟨n, rfl⟩ := Int.eq_ofNat_of_zero_le h1
  have g := List.all_eq_true.mp mrm_all n (List.mem_range.mpr (by omega))
  simp only [mrmOk, Bool.and_eq_true, decide_eq_true_eq, List.all_eq_true, Bool.or_eq_true, beq_iff_eq, List.mem_range] at g
  refine ⟨g.1.2, g.2, fun k hk => ?_⟩
  obtain ⟨a, b⟩ := g.1.1 k hk
  refine ⟨a, ?_⟩
  rcases b with b | b
  · exact .inl ⟨b.1.1, b.1.2, b.2⟩
  · exact .inr ⟨b.1.1, b.1.2, b.2⟩
theorem zw_back : ∀ {a b : List Int}, a.length = b.length → zw (· + ·) (zw (· - ·) a b) b = a
  | [], [], _ => rfl
  | x :: a, y :: b, h => by
    have ih := zw_back (a := a) (b := b) (by simpa using h)
    show (x - y + y) :: zw (· + ·) (zw (· - ·) a b) b = x :: a
    rw [ih, Int.sub_add_cancel]
theorem zw_sub_ld : ∀ {a b : List Int}, blw b a = true → (∀ x ∈ a, 0 ≤ x ∧ x ≤ 99) → (∀ x ∈ b, 0 ≤ x ∧ x ≤ 99) → ∀ x ∈ zw (· - ·) a b, 0 ≤ x ∧ x ≤ 99
  | [], _, _, _, _, x, hx => by simp [zw] at hx
  | _ :: _, [], _, _, _, x, hx => by simp [zw] at hx
  | p :: a, q :: b, h, ha, hb, x, hx => by
    rw [blw, List.zipWith_cons_cons, List.all_cons, Bool.and_eq_true] at h
    rcases List.mem_cons.mp (show x ∈ (p - q) :: zw (· - ·) a b from hx) with rfl | hx
    · have h1 : q ≤ p := of_decide_eq_true h.1
      have h2 := ha p List.mem_cons_self
      have h3 := hb q List.mem_cons_self
      omega
    · exact zw_sub_ld (a := a) (b := b) h.2 (fun y hy => ha y (List.mem_cons_of_mem _ hy)) (fun y hy => hb y (List.mem_cons_of_mem _ hy)) x hx
theorem zer_of {s : Int} {l : List Int} (h1 : 2 ≤ s) (h2 : s ≤ 5) (hl : Ld s l) (h : mxl (sms s l) ≤ 0) : l = zer s := by
  have hy : ∀ y ∈ sms s l, y ≤ 0 := fun y hy => Int.le_trans (mxl_ge hy) h
  obtain ⟨hlen, hb⟩ := hl
  have hs' : s = 2 ∨ s = 3 ∨ s = 4 ∨ s = 5 := by omega
  rcases hs' with rfl | rfl | rfl | rfl
  · match l, hlen with
    | [a], _ =>
      have n := hb a (by simp)
      have g : ∀ y ∈ [0 + a, 0 + a], y ≤ 0 := hy
      have g1 := g (0 + a) (by simp)
      have : a = 0 := by omega
      subst this
      rfl
  · match l, hlen with
    | [a, b, c], _ =>
      have na := hb a (by simp)
      have nb := hb b (by simp)
      have nc := hb c (by simp)
      have g : ∀ y ∈ [0 + a + b, 0 + a + c, 0 + b + c], y ≤ 0 := hy
      have g1 := g (0 + a + b) (by simp)
      have g2 := g (0 + a + c) (by simp)
      have : a = 0 ∧ b = 0 ∧ c = 0 := by omega
      obtain ⟨rfl, rfl, rfl⟩ := this
      rfl
  · match l, hlen with
    | [a, b, c, d, e, f], _ =>
      have na := hb a (by simp)
      have nb := hb b (by simp)
      have nc := hb c (by simp)
      have nd := hb d (by simp)
      have ne := hb e (by simp)
      have nf := hb f (by simp)
      have g : ∀ y ∈ [0 + a + b + c, 0 + a + d + e, 0 + b + d + f, 0 + c + e + f], y ≤ 0 := hy
      have g1 := g (0 + a + b + c) (by simp)
      have g2 := g (0 + a + d + e) (by simp)
      have g3 := g (0 + b + d + f) (by simp)
      have : a = 0 ∧ b = 0 ∧ c = 0 ∧ d = 0 ∧ e = 0 ∧ f = 0 := by omega
      obtain ⟨rfl, rfl, rfl, rfl, rfl, rfl⟩ := this
      rfl
  · have hlen : l.length = 10 := hlen.trans (by decide)
    obtain ⟨l0, m0, e0, h0⟩ := len_succ hlen
    subst e0
    obtain ⟨l1, m1, e1, h1⟩ := len_succ h0
    subst e1
    obtain ⟨l2, m2, e2, h2⟩ := len_succ h1
    subst e2
    obtain ⟨l3, m3, e3, h3⟩ := len_succ h2
    subst e3
    obtain ⟨l4, m4, e4, h4⟩ := len_succ h3
    subst e4
    obtain ⟨l5, m5, e5, h5⟩ := len_succ h4
    subst e5
    obtain ⟨l6, m6, e6, h6⟩ := len_succ h5
    subst e6
    obtain ⟨l7, m7, e7, h7⟩ := len_succ h6
    subst e7
    obtain ⟨l8, m8, e8, h8⟩ := len_succ h7
    subst e8
    obtain ⟨l9, m9, e9, h9⟩ := len_succ h8
    subst e9
    have e9 := List.eq_nil_of_length_eq_zero h9
    subst e9
    have n0 := hb l0 (by simp)
    have n1 := hb l1 (by simp)
    have n2 := hb l2 (by simp)
    have n3 := hb l3 (by simp)
    have n4 := hb l4 (by simp)
    have n5 := hb l5 (by simp)
    have n6 := hb l6 (by simp)
    have n7 := hb l7 (by simp)
    have n8 := hb l8 (by simp)
    have n9 := hb l9 (by simp)
    rw [sms5] at hy
    have g0 := hy (0 + l0 + l1 + l2 + l3) (by simp)
    have g1 := hy (0 + l0 + l4 + l5 + l6) (by simp)
    have g2 := hy (0 + l1 + l4 + l7 + l8) (by simp)
    have g3 := hy (0 + l2 + l5 + l7 + l9) (by simp)
    have g4 := hy (0 + l3 + l6 + l8 + l9) (by simp)
    have : l0 = 0 ∧ l1 = 0 ∧ l2 = 0 ∧ l3 = 0 ∧ l4 = 0 ∧ l5 = 0 ∧ l6 = 0 ∧ l7 = 0 ∧ l8 = 0 ∧ l9 = 0 := by omega
    obtain ⟨rfl, rfl, rfl, rfl, rfl, rfl, rfl, rfl, rfl, rfl⟩ := this
    rfl
/-- the parts, the last one first: the part ahead as long as it fits, else the first that does -/
def nxt (s own m : Int) (left : List Int) (same : Bool) (qs : List (List Int)) : List Int := match qs with
  | [] => ((LL s own).find? (okp s left m)).getD []
  | pp :: _ => if same && okp s left m pp then pp else ((LL s own).find? (okp s left m)).getD []
def crG (s : Int) (rooms : List Int) : Nat → List Int → List (List Int) → List (List Int)
  | 0, _, qs => qs
  | k + 1, left, qs => crG s rooms k (zw (· - ·) left (nxt s (rooms.getD k 0) (rooms.take k).sum left (decide (rooms.getD k 0 = rooms.getD (k + 1) 0)) qs)) (nxt s (rooms.getD k 0) (rooms.take k).sum left (decide (rooms.getD k 0 = rooms.getD (k + 1) 0)) qs :: qs)
def crs (s : Int) (l : List Int) (m : Int) : List (List Int) := crG s (mrm m) (mrm m).length l []
theorem cut_drop {ds : List PyData} {k : Nat} (h : k ≤ ds.length) : cutD ds (some (k : Int)) none = ds.drop k := by
  have e : HT.sIx ds.length 0 (some (k : Int)) = k := by
    rw [HT.sIx_nat]
    omega
  have e0 : HT.sIx ds.length ds.length none = ds.length := by simp [HT.sIx]
  rw [DL.cutD, e, e0]
  rw [List.take_of_length_le (by rw [List.length_drop]; exact Nat.le_refl _)]
def B_cs (CB CL CR : Addr) (ds : List PyData) (C : Addr) : Prop := ∃ a0 a1 a2, ds = [a0, a1, a2] ∧ ((isIn a0 2 5 = false ∧ C = CB) ∨ (∃ s : Int, a0 = .int s ∧ 2 ≤ s ∧ s ≤ 5 ∧ ldOk s a1 = false ∧ C = CL) ∨ ∃ (s : Int) (l : List Int), a0 = .int s ∧ a1 = tI l ∧ 2 ≤ s ∧ s ≤ 5 ∧ Ld s l ∧ isIn a2 0 99 = false ∧ C = CR)
def spCS (K : PySem.W.Frag) (CB CL CR : Addr) : Sp := fun vs H Q E => ∃ ds, DpAll K H vs ds ∧ ds.length = 3 ∧
  ((∃ (s : Int) (l : List Int) (m : Int), ds = [.int s, tI l, .int m] ∧ 2 ≤ s ∧ s ≤ 5 ∧ Ld s l ∧ 0 ≤ m ∧ m ≤ 99 ∧ ∀ v H', Ex H H' → Dp K H' v (if mxl (sms s l) ≤ m then .list ((crs s l m).map tI) else .none) → (mxl (sms s l) ≤ m → Adds s l (mrm m) (crs s l m)) → (∀ p, v = .ref p → H p = none) → Q v H') ∨
    ∃ C, B_cs CB CL CR ds C ∧ ∀ H', Ex H H' → E (.ref C) none H')
/-- the dict of the loads of both rooms -/
def PD (K : PySem.W.Frag) (s : Int) (H : Hp) (D p : Addr) : Prop := D ≠ p ∧ ∃ a1 a2 ws1 ws2, H D = some (.dK [(.inl 1, .ref a1), (.inl 2, .ref a2)]) ∧ a1 ≠ p ∧ a2 ≠ p ∧ H a1 = some (.lst ws1) ∧ H a2 = some (.lst ws2) ∧ DpAll K H ws1 ((LL s 1).map tI) ∧ DpAll K H ws2 ((LL s 2).map tI)
theorem pd_xp {K : PySem.W.Frag} {s : Int} {H H' : Hp} {D p : Addr} {ys : List V} (hp : H p = some (.lst ys)) (x : Xp [p] H H') (h : PD K s H D p) : PD K s H' D p := by
  obtain ⟨n, a1, a2, ws1, ws2, hD, n1, n2, h1, h2, d1, d2⟩ := h
  have tx : Tx H H' := x.tx (Ls.one hp)
  exact ⟨n, a1, a2, ws1, ws2, x _ _ hD (by simpa using n), n1, n2, x _ _ h1 (by simpa using n1), x _ _ h2 (by simpa using n2), dpa_tx tx _ _ (immAll_tI _) d1, dpa_tx tx _ _ (immAll_tI _) d2⟩
/-- the loop's word at the i-th turn -/
def CW (K : PySem.W.Frag) (s : Int) (l : List Int) (m : Int) (v1 : V) (q p D : Addr) (H2 : Hp) (i : Nat) (σ : L2.St) (Ha : Hp) : Prop :=
  Xp [p] H2 Ha ∧ ∃ (qs : List (List Int)) (left : List Int) (ws : List V) (vl vp : V) (a b c : Option V), Ha p = some (.lst ws) ∧ DpAll K Ha ws (qs.reverse.map tI) ∧ qs.length = i ∧ Ld s left ∧ mxl (sms s left) ≤ ((mrm m).take ((mrm m).length - i)).sum ∧
    Paired (fun part r => mxl (sms s part) ≤ r) qs ((mrm m).drop ((mrm m).length - i)) ∧ (∀ part ∈ qs, Ld s part) ∧ qs.foldl (zw (· + ·)) left = l ∧ crG s (mrm m) ((mrm m).length - i) left qs = crs s l m ∧ Dp K Ha vl (tI left) ∧
    ((qs = [] ∧ vp = .non) ∨ ∃ pp qs', qs = pp :: qs' ∧ Dp K Ha vp (tI pp) ∧ pp ∈ LL s ((mrm m).getD ((mrm m).length - i) 0)) ∧
    σ = [some (.int s), some v1, some (.int m), some (.ref q), some (.ref p), some vl, some (.ref D), some vp, a, b, c]
theorem cs_end {K : PySem.W.Frag} {x m own : Int} {l left pt : List Int} {v1 vl v : V} {q p D : Addr} {H8 H9 : Hp} {i kk : Nat} {qs : List (List Int)} {ws : List V} {c : Option V} (h1 : 2 ≤ x) (h2 : x ≤ 5) (r0 : own = 2 ∨ own = 1) (xp : Xp [p] H8 H9) (hp : H9 p = some (.lst ws)) (dws : DpAll K H9 ws (qs.reverse.map tI)) (lqs : qs.length = i)
    (kk1 : kk < (mrm m).length) (m2 : (mrm m).length ≤ 50) (hkk : (mrm m).length - i = kk + 1) (hown : (mrm m).getD kk 0 = own) (hle : Ld x left) (pr : Paired (fun part r => mxl (sms x part) ≤ r) qs ((mrm m).drop (kk + 1))) (hld : ∀ part ∈ qs, Ld x part) (hfo : qs.foldl (zw (· + ·)) left = l) (hcr : crG x (mrm m) kk (zw (· - ·) left pt) (pt :: qs) = crs x l m) (dl : Dp K H9 vl (tI left))
    (hin : pt ∈ LL x own) (hok : okp x left ((mrm m).take kk).sum pt = true) (hv : Dp K H9 v (tI pt)) {Dx : Ends} (z : ∀ σ' H', CW K x l m v1 q p D H8 (i + 1) σ' H' → Dx.nx σ' H') :
    tSeq (tAsg (tCall (spD K 2 R_reduced) [] E0 (tCons (tVar 5) (tCons (tVar 7) tNil))) (gName 5)) (tDrop (tBM K "list" rAppend (tVar 4) (tCons (tVar 7) tNil))) Dx [some (.int x), some v1, some (.int m), some (.ref q), some (.ref p), some vl, some (.ref D), some v, some (.int (kk : Int)), some (.int ((mrm m).take kk).sum), c] H9 := by
  have np10 := np_le (s := x) h1 (by omega)
  obtain ⟨g1, g2⟩ := good_mem h1 h2 r0 hin
  simp only [okp, Bool.and_eq_true, decide_eq_true_eq] at hok
  obtain ⟨f1, f2⟩ := hok
  refine qd_asg (K := K) (ed_call (R := R_reduced) (ds := [tI left, tI pt]) (eda_cons (ed_var rfl dl) (eda_cons (ed_var rfl hv) eda_nil)) rfl ⟨left, pt, rfl, by rw [hle.1]; omega, rfl⟩) fun vr Ha2 e10 hvr => ?_
  have lws := dpa_len dws
  rw [List.length_map, List.length_reverse] at lws
  refine d_app (K := K) (d := tI pt) (e10 _ _ hp) (ev_var rfl) (ed_var (v := v) rfl (dp_ex e10 _ _ hv)) (by omega) fun vv Hc e11 hvv => z _ _ ?_
  have hpc := e11 _ _ (e10 _ _ hp)
  refine ⟨Xp.upd (xp.then (e10.trans e11)) (by simp), pt :: qs, zw (· - ·) left pt, _, vr, v, _, _, _, upd_same, ?_, by rw [List.length_cons, lqs], ⟨by rw [zw_len (by rw [hle.1, g1.1])]; exact hle.1, zw_sub_ld f1 hle.2 g1.2⟩, ?_, ?_, ?_, ?_, by rw [show (mrm m).length - (i + 1) = kk by omega]; exact hcr, dp_tx (Tx.lst hpc) _ _ (imm_tI _) (dp_ex e11 _ _ hvr), .inr ⟨pt, qs, rfl, dp_tx (Tx.lst hpc) _ _ (imm_tI _) (dp_ex (e10.trans e11) _ _ hv), ?_⟩, rfl⟩
  · rw [List.reverse_cons, List.map_append]
    exact dpa_app (dpa_tx (Tx.lst hpc) _ _ (immAll_tI _) (dpa_ex (e10.trans e11) _ _ dws)) (.cons (dp_tx (Tx.lst hpc) _ _ (imm_tI _) hvv) .nil)
  · rw [show (mrm m).length - (i + 1) = kk by omega]
    exact f2
  · rw [show (mrm m).length - (i + 1) = kk by omega, List.drop_eq_getElem_cons kk1]
    refine .cons ?_ pr
    have : (mrm m)[kk]'kk1 = own := by
      rw [← hown, List.getD_eq_getElem?_getD, List.getElem?_eq_getElem kk1]
      rfl
    rw [this]
    exact g2
  · intro z hz
    rcases List.mem_cons.mp hz with rfl | hz
    · exact g1
    · exact hld z hz
  · rw [List.foldl_cons, zw_back (by rw [hle.1, g1.1])]
    exact hfo
  · rw [show (mrm m).length - (i + 1) = kk by omega, hown]
    exact hin
abbrev s_crossed_split : Stmt := topS 48
abbrev N_crossed_split : List Str := ["sides", "load", "room", "rooms", "found", "left", "parts", "part", "k", "rest", "own"]
theorem sc_crossed_split : FnScope N_crossed_split ["sides", "load", "room"] (defScope s_crossed_split) := ⟨rfl, rfl, rfl, by decide +kernel, rfl, by decide +kernel, by decide +kernel⟩
theorem ok_crossed_split {f : Addr} {fd : FuncData} (F : Fun K "crossed_split" "crossed_split" s_crossed_split f fd) (T : Txt mg)
    (D_check_load : DFX P w K mg base "check_load" 3 ["sides", "load"] (spR K 2 R_check_load (B_check_load CL))) (D_check_room : DFX P w K mg base "check_room" 3 ["room"] (spR K 1 R_check_room (B_check_room CR))) (D_check_sides : DFX P w K mg base "check_sides" 3 ["sides", "most"] (spR K 2 R_check_sides (B_check_sides CB))) (D_is_let : DF P w K mg base "is_let" 3 ["sides", "load", "room"] (spD K 3 R_is_let)) (D_is_part : DF P w K mg base "is_part" 4 ["sides", "load", "part", "room"] (spD K 4 R_is_part)) (D_let_loads : DF P w K mg base "let_loads" 2 ["sides", "tracks", "most"] (spN K 3 R_let_loads)) (D_mates_rooms : DF P w K mg base "mates_rooms" 1 ["room"] (spN K 1 R_mates_rooms)) (D_part_off : DF P w K mg base "part_off" 5 ["sides", "load", "parts", "room"] (spD K 4 R_part_off)) (D_reduced : DF P w K mg base "reduced" 1 ["load", "part"] (spD K 2 R_reduced)) :
    FnOk P w K mg base (L2.CX P w) 6 f fd ["sides", "load", "room"] (spCS K CB CL CR) := by
  refine F.okX sc_crossed_split (fun vs H Q E h => by obtain ⟨ds, hd, h3, _⟩ := h; rw [dpa_len hd, h3]; rfl) (fun cdv A outer s H vs Q E hr h => ?_)
  obtain ⟨ds, hd, _, h⟩ := h
  refine ⟨_, (pss_cons (ps_expr (pe_DX D_check_sides (takes_of rfl rfl rfl rfl) (fun _ _ _ _ h => h) (hr.mono (by decide)) (by rfl) (pa_cons (pv 0) (pa_cons (pe_const T.c_MOST_SIDES (by rfl)) pa_nil))))
      (pss_cons (ps_expr (pe_DX D_check_load (takes_of rfl rfl rfl rfl) (fun _ _ _ _ h => h) (hr.mono (by decide)) (by rfl) (pa_cons (pv 0) (pa_cons (pv 1) pa_nil))))
      (pss_cons (ps_expr (pe_DX D_check_room (takes_of rfl rfl rfl rfl) (fun _ _ _ _ h => h) (hr.mono (by decide)) (by rfl) (pa_cons (pv 2) pa_nil)))
      (pss_cons (ps_if (pt_not (pt_val (pe_D D_is_let (hr.mono (by decide)) (by rfl) (pa_cons (pv 0) (pa_cons (pv 1) (pa_cons (pv 2) pa_nil)))))) (pss_one (ps_ret pe_non)) pss_nil)
      (pss_cons (ps_set (i := 3) sc_crossed_split.nd rfl (.inl rfl) (pe_D D_mates_rooms (hr.mono (by decide)) (by rfl) (pa_cons (pv 2) pa_nil)))
      (pss_cons (ps_set (i := 4) sc_crossed_split.nd rfl (.inl rfl) (pe_lst pa_nil))
      (pss_cons (ps_set (i := 5) sc_crossed_split.nd rfl (.inl rfl) (pv 1))
      (pss_cons (ps_setDc (i := 6) (own := [("own", 10)]) (g := (gName 10)) (tt := tYes) rfl sc_crossed_split.nd rfl rfl (swd_true rfl rfl rfl (by decide +kernel)) (pi_tup (pe_tup (pa_cons pe_int (pa_cons pe_int pa_nil)))) (blkOk_by (N := N_crossed_split) (sc := defScope s_crossed_split) (by decide +kernel)) (fun _ _ _ _ _ => (pg_name (i := 10) sc_crossed_split.nd rfl (Or.inl rfl))) (fun _ _ _ _ _ => pts_nil) (fun _ _ _ _ _ => (pv 10)) (fun _ _ _ _ _ => (pe_D D_let_loads (hr.mono (by decide)) (by rfl) (pa_cons (pv 0) (pa_cons (pv 10) (pa_cons (pe_const T.c_MOST_LET (by rfl)) pa_nil))))))
      (pss_cons (ps_set (i := 7) sc_crossed_split.nd rfl (.inl rfl) pe_non)
      (pss_cons (ps_for (passes_of rfl) rfl (pi_range3 (by rfl) T.b_range (pa_cons (pe_op op_sub (pe_callB call_len_seq (by rfl) T.b_len PySem.boot_len (pa_cons (pv 3) pa_nil)) pe_int) (pa_cons (pe_un un_neg pe_int) (pa_cons (pe_un un_neg pe_int) pa_nil)))) (pg_name (i := 8) sc_crossed_split.nd rfl (Or.inl rfl)) (pss_cons (ps_set (i := 9) sc_crossed_split.nd rfl (.inl rfl) (pe_op op_sub (pv 2) (pe_callB (cr_sum rfl) (by rfl) T.b_sum (by decide +kernel) (pa_cons (pe_slice sl_list (pv 3) (po_some (pv 8)) po_none) pa_nil))))
      (pss_cons (ps_if (PW.pt (pw_or (pt_cmp (pc_isN (pv 7))) (pw_or (pt_cmpR op_ne (pe_ix ix_list (pv 3) (pv 8) (fun _ _ => rfl)) (pe_ix ix_list (pv 3) (pe_op op_add (pv 8) pe_int) (fun _ _ => rfl)) (nomark _)) (pw_or1 (pt_not (pt_val (pe_D D_is_part (hr.mono (by decide)) (by rfl) (pa_cons (pv 0) (pa_cons (pv 5) (pa_cons (pv 7) (pa_cons (pv 9) pa_nil))))))))))) (pss_one (ps_set (i := 7) sc_crossed_split.nd rfl (.inl rfl) (pe_D D_part_off (hr.mono (by decide)) (by rfl) (pa_cons (pv 0) (pa_cons (pv 5) (pa_cons (pe_dget (hu_of hr) (pv 6) (pe_ix ix_list (pv 3) (pv 8) (fun _ _ => rfl)) (fun _ _ => rfl)) (pa_cons (pv 9) pa_nil))))))) pss_nil)
      (pss_cons (ps_set (i := 5) sc_crossed_split.nd rfl (.inl rfl) (pe_D D_reduced (hr.mono (by decide)) (by rfl) (pa_cons (pv 5) (pa_cons (pv 7) pa_nil))))
      (pss_one (ps_expr (pe_bm PySem.F.plainAttrs_list PySem.F.slot_list_append PySem.F.type_list_append mt_append (pv 4) (pa_cons (pv 7) pa_nil))))))))
      (pss_one (ps_ret (pe_revL (pv 4)))))))))))))), ?_⟩
  rcases h with ⟨x, l, m, rfl, h1, h2, hl, h3, h4, k⟩ | ⟨C, ⟨a0, a1, a2, rfl, hb⟩, k⟩
  rotate_left
  · obtain ⟨v0, v1, v2, rfl, d0, d1, d2⟩ := dpa_three hd
    rcases hb with ⟨hb, rfl⟩ | ⟨x, rfl, h1, h2, hb, rfl⟩ | ⟨x, l, rfl, rfl, h1, h2, hl, hb, rfl⟩
    · exact b_drop (eb_callR (K := K) (R := R_check_sides) (B := B_check_sides C) (ds := [a0, .int 5]) (by walk_at "dl") rfl ⟨a0, rfl, hb, rfl⟩) fun H1 e1 => k H1 e1
    · cases dp_int d0
      refine qd_drop (K := K) (d := .none) (ed_callR (R := R_check_sides) (B := B_check_sides CB) (ds := [.int x, .int 5]) (by walk_at "dl") rfl ⟨_, rfl, isIn_int h1 h2, rfl⟩) fun H1 e1 => ?_
      have d1 := dp_ex e1 _ _ d1
      exact b_drop (eb_callR (K := K) (R := R_check_load) (B := B_check_load C) (ds := [.int x, a1]) (by walk_at "dl") rfl ⟨x, a1, rfl, h1, h2, hb, rfl⟩) fun H2 e2 => k H2 (e1.trans e2)
    · cases dp_int d0
      refine qd_drop (K := K) (d := .none) (ed_callR (R := R_check_sides) (B := B_check_sides CB) (ds := [.int x, .int 5]) (by walk_at "dl") rfl ⟨_, rfl, isIn_int h1 h2, rfl⟩) fun H1 e1 => ?_
      have d1 := dp_ex e1 _ _ d1
      have d2 := dp_ex e1 _ _ d2
      refine qd_drop (K := K) (d := .none) (ed_callR (R := R_check_load) (B := B_check_load CL) (ds := [.int x, tI l]) (by walk_at "dl") rfl ⟨x, l, rfl, h1, h2, hl, rfl⟩) fun H2 e2 => ?_
      have d2 := dp_ex e2 _ _ d2
      exact b_drop (eb_callR (K := K) (R := R_check_room) (B := B_check_room C) (ds := [a2]) (by walk_at "dl") rfl ⟨a2, rfl, hb, rfl⟩) fun H3 e3 => k H3 ((e1.trans e2).trans e3)
  obtain ⟨v0, v1, v2, rfl, d0, d1, d2⟩ := dpa_three hd
  cases dp_int d0
  cases dp_int d2
  have np10 := np_le (s := x) h1 (by omega)
  refine (qd_drop (K := K) (d := .none) (ed_callR (R := R_check_sides) (B := B_check_sides CB) (ds := [.int x, .int 5]) (by walk_at "dl") rfl ⟨_, rfl, isIn_int h1 h2, rfl⟩) fun H1 e1 => ?_)
  have d1 := dp_ex e1 _ _ d1
  refine (qd_drop (K := K) (d := .none) (ed_callR (R := R_check_load) (B := B_check_load CL) (ds := [.int x, tI l]) (by walk_at "dl") rfl ⟨x, l, rfl, h1, by omega, hl, rfl⟩) fun H2 e2 => ?_)
  refine (qd_drop (K := K) (d := .none) (ed_callR (R := R_check_room) (B := B_check_room CR) (ds := [.int m]) (by walk_at "dl") rfl ⟨_, rfl, isIn_int h3 h4, rfl⟩) fun H3 e3 => ?_)
  have d1 := dp_ex (e2.trans e3) _ _ d1
  have e03 := (e1.trans e2).trans e3
  refine q_when (b := !decide (mxl (sms x l) ≤ m)) (et_not (et_B (EvD.bool (ed_call (R := R_is_let) (ds := [.int x, tI l, .int m]) (by walk_at "dl") rfl ⟨x, l, m, rfl, h1, by omega, rfl⟩)))) (fun hb H4 e4 => ?_) fun hb H4 e4 => ?_
  · have hb : ¬ mxl (sms x l) ≤ m := by simpa using hb
    refine d_ret (K := K) (d := .none) (ev_d ev_c .non) fun v H5 e5 hv => k v H5 ((e03.trans e4).trans e5) (by rw [if_neg hb]; exact hv) (fun z => absurd z hb) (fun p z => by subst z; cases hv)
  have hb : mxl (sms x l) ≤ m := by simpa using hb
  have d1 := dp_ex e4 _ _ d1
  obtain ⟨m1, m2, m3⟩ := mrm_ok h3 h4
  refine qn_asg (K := K) (en_call (R := R_mates_rooms) (ds := [.int m]) (by walk_at "dl") rfl ⟨m, rfl, h3, h4, rfl⟩) fun q wq H5 hq e5 h5' hd5 => ?_
  refine qn_asg (K := K) (en_lst eda_nil (by simp)) fun p ws H6 hp e6 h6' hd6 => ?_
  cases hd6
  have d1 := dp_ex (e5.trans e6) _ _ d1
  have e06 := ((e03.trans e4).trans e5).trans e6
  have hq6 := e6 _ _ h5'
  have dq6 := dpa_ex e6 _ _ hd5
  refine qd_asg (K := K) (ed_var (v := v1) rfl d1) fun v5 H7 e7 d5 => ?_
  have npq : q ≠ p := fun z => by rw [z] at h5'; rw [hp] at h5'; cases h5'
  have hq7 := e7 _ _ hq6
  have dq7 := dpa_ex e7 _ _ dq6
  have h7' := e7 _ _ h6'
  have lst1 := (goods h1 h2 (own := 1) (.inr rfl)).2
  have lst2 := (goods h1 h2 (own := 2) (.inl rfl)).2
  show tSeq (tAsg (tDc _ _ _ _ _ _) _) _ _ [some (.int x), some v1, some (.int m), some (.ref q), some (.ref p), some v5, none, none, none, none, none] H7
  refine ⟨by show 2 ≤ sizeLine; decide, fun T hT => ⟨T, rfl, ⟨_, st_of upd_same⟩, fun D hD => ?_⟩⟩
  have eT := Ex.new (o := .tup [V.int 1, V.int 2]) hT
  have hT1 : upd H7 T (.tup [V.int 1, V.int 2]) T = some (.tup [V.int 1, V.int 2]) := upd_same
  generalize upd H7 T (.tup [V.int 1, V.int 2]) = Ht at *
  have hpt := eT _ _ h7'
  have nDp : D ≠ p := fun z => by rw [z, hpt] at hD; cases hD
  refine dc_tup (K := K) (xs := [V.int 1, V.int 2]) (fun i Ha => Ex Ht Ha ∧ ((i = 0 ∧ Ha D = some (.dK [])) ∨ (i = 1 ∧ ∃ a1 ws1, Ha D = some (.dK [(.inl 1, .ref a1)]) ∧ a1 ≠ p ∧ a1 ≠ D ∧ Ha a1 = some (.lst ws1) ∧ DpAll K Ha ws1 ((LL x 1).map tI)) ∨ (i = 2 ∧ PD K x Ha D p))) ?_ ?_ ?_ ?_
  · exact ⟨Ex.new hD, .inl ⟨rfl, upd_same⟩⟩
  · exact fun i Ha _ z => st_of (z.1 _ _ hT1)
  · rintro i y Ha hi ⟨ea, z⟩
    refine ⟨rfl, ?_⟩
    dsimp only [tYes]
    rw [if_pos rfl]
    have hpa := ea _ _ hpt
    rcases z with ⟨rfl, hDa⟩ | ⟨rfl, a1, ws1, hDa, n1, n1D, ha1, da1⟩ | ⟨rfl, _⟩
    · cases hi
      refine ⟨_, rfl, en_call (K := K) (R := R_let_loads) (ds := [.int x, .int 1, .int 20000]) (by walk_at "dl") rfl ⟨x, 1, rfl, h1, by omega, by omega, by omega, lst1, rfl⟩ Ha (Ex.refl _) _ fun a1 ws1 Hb ha1 eb hb1 db1 => ?_⟩
      have n1 : a1 ≠ p := fun z => by rw [z, hpa] at ha1; cases ha1
      have n1D : a1 ≠ D := fun z => by rw [z, hDa] at ha1; cases ha1
      have hDb := eb _ _ hDa
      refine ⟨[], .inl 1, rfl, hDb, by decide, Ex.mut (ea.trans eb) hD, .inr (.inl ⟨rfl, a1, ws1, upd_same, n1, n1D, by rw [upd_ne n1D]; exact hb1, dpa_tx (Tx.upd hDb (fun _ z => nomatch z) fun _ _ z => nomatch z) _ _ (immAll_tI _) db1⟩)⟩
    · cases hi
      refine ⟨_, rfl, en_call (K := K) (R := R_let_loads) (ds := [.int x, .int 2, .int 20000]) (by walk_at "dl") rfl ⟨x, 2, rfl, h1, by omega, by omega, by omega, lst2, rfl⟩ Ha (Ex.refl _) _ fun a2 ws2 Hb ha2 eb hb2 db2 => ?_⟩
      have n2 : a2 ≠ p := fun z => by rw [z, hpa] at ha2; cases ha2
      have n2D : a2 ≠ D := fun z => by rw [z, hDa] at ha2; cases ha2
      have hDb := eb _ _ hDa
      have txb : Tx Hb (upd Hb D (.dK [(.inl 1, .ref a1), (.inl 2, .ref a2)])) := Tx.upd hDb (fun _ z => nomatch z) fun _ _ z => nomatch z
      refine ⟨[(.inl 1, .ref a1)], .inl 2, rfl, hDb, by show 1 < sizeLine; decide, ?_⟩
      have pk : putK [((Sum.inl 1 : Key), V.ref a1)] (.inl 2) (.ref a2) = [(.inl 1, .ref a1), (.inl 2, .ref a2)] := by simp [putK]
      rw [pk]
      exact ⟨Ex.mut (ea.trans eb) hD, .inr (.inr ⟨rfl, nDp, a1, a2, ws1, ws2, upd_same, n1, n2, by rw [upd_ne n1D]; exact eb _ _ ha1, by rw [upd_ne n2D]; exact hb2, dpa_tx txb _ _ (immAll_tI _) (dpa_ex eb _ _ da1), dpa_tx txb _ _ (immAll_tI _) db2⟩)⟩
    · cases hi
  rintro Hd ⟨ed, z⟩
  have pd : PD K x Hd D p := by
    rcases z with ⟨z, _⟩ | ⟨z, _⟩ | ⟨_, z⟩
    · cases z
    · cases z
    · exact z
  have e7 := (e7.trans eT).trans ed
  have hq7 := ed _ _ (eT _ _ hq7)
  have dq7 := dpa_ex (eT.trans ed) _ _ dq7
  have h7' := ed _ _ hpt
  have d5 := dp_ex (eT.trans ed) _ _ d5
  have dq7' := dpa_ints dq7
  have lq : ((dI (mrm m)).length : Int) = ((mrm m).length : Int) := by rw [dI, List.length_map]
  show tSeq (tAsg (tC .non) (gName 7)) _ _ [some (.int x), some v1, some (.int m), some (.ref q), some (.ref p), some v5, some (.ref D), none, none, none, none] Hd
  refine qi_asg (v := .non) ev_c fun He ee => ?_
  have pd := pd_xp h7' (Xp.of_ex ee) pd
  have hq7 := ee _ _ hq7
  have dq7 := dpa_ex ee _ _ dq7
  have h7' := ee _ _ h7'
  have d5 := dp_ex ee _ _ d5
  have e7 := e7.trans ee
  show tSeq _ _ _ [some (.int x), some v1, some (.int m), some (.ref q), some (.ref p), some v5, some (.ref D), some .non, none, none, none] He
  refine e_for (S := [p]) (ei_rngD (K := K) (m := ((mrm m).length : Int) - 1) (n := -1) (eda_cons (ed_int (ev_is (ev_op (ev_lenL (ed_var (K := K) rfl (.lst (sq_of hq7) dq7))) ev_c rv_I0) (by rw [lq]))) (eda_cons (ed_int (ev_un ev_c ru_neg)) (eda_cons (ed_int (ev_un ev_c ru_neg)) eda_nil))) ⟨⟨by omega, by omega⟩, by decide, by decide⟩ (RgC.neg (by omega) (by omega) (by decide) (by decide)))
    (fun H2 i σ' Ha => CW K x l m v1 q p D H2 i σ' Ha)
    (fun H8 e8 => ⟨Xp.refl _ _, [], l, [], v5, .non, none, none, none, e8 _ _ h7', .nil, rfl, hl, ?_, ?_, fun part z => by simp at z, rfl, by rw [Nat.sub_zero]; rfl, dp_ex e8 _ _ d5, .inl ⟨rfl, rfl⟩, rfl⟩) (fun H2 i σ' Ha _ z => z.1) ?_ ?_
  · rw [Nat.sub_zero, List.take_length, m1]
    exact hb
  · rw [Nat.sub_zero, List.drop_length]
    exact .nil
  · rintro H8 i d y σ' Ha Hb e8 hdi ⟨xp, qs, left, ws, vl, vp, a, b, c, hpa, dws, lqs, hle, hm, pr, hld, hfo, hcr, dl, hvp0, rfl⟩ eb hy
    have hil : i < (mrm m).length := by
      have := (List.getElem?_eq_some_iff.mp hdi).1
      simp at this
      omega
    rw [rng_get (by omega)] at hdi
    cases hdi
    cases dp_int hy
    obtain ⟨kk, hkk⟩ : ∃ kk, (mrm m).length - i = kk + 1 := ⟨(mrm m).length - i - 1, by omega⟩
    have ek : ((mrm m).length : Int) - 1 - (i : Int) = (kk : Int) := by omega
    rw [ek]
    rw [hkk] at hm pr hvp0 hcr
    have hcr : crG x (mrm m) kk (zw (· - ·) left (nxt x ((mrm m).getD kk 0) ((mrm m).take kk).sum left (decide ((mrm m).getD kk 0 = (mrm m).getD (kk + 1) 0)) qs)) (nxt x ((mrm m).getD kk 0) ((mrm m).take kk).sum left (decide ((mrm m).getD kk 0 = (mrm m).getD (kk + 1) 0)) qs :: qs) = crs x l m := hcr
    obtain ⟨r1, r2⟩ := m3 kk (by omega)
    obtain ⟨p1, p2, p3, p4⟩ := heart h1 h2 hle hm (own := (mrm m).getD kk 0) r2
    have r0 : (mrm m).getD kk 0 = 2 ∨ (mrm m).getD kk 0 = 1 := by
      rcases r2 with z | z
      · exact .inl z.1
      · exact .inr z.1
    have rle : ((mrm m).take (kk + 1)).sum - (mrm m).getD kk 0 = ((mrm m).take kk).sum := by omega
    rw [rle] at p4
    have rest : m - ((mrm m).drop kk).sum = ((mrm m).take kk).sum := by
      have := List.sum_append (l₁ := (mrm m).take kk) (l₂ := (mrm m).drop kk)
      rw [List.take_append_drop, m1] at this
      omega
    generalize hown : (mrm m).getD kk 0 = own at *
    obtain ⟨part, hf⟩ : ∃ part, (LL x own).find? (okp x left ((mrm m).take kk).sum) = some part := by
      cases hc : (LL x own).find? (okp x left ((mrm m).take kk).sum) with
      | some part => exact ⟨part, rfl⟩
      | none =>
        have := List.find?_eq_none.mp hc p1 p2
        simp [okp, p3, p4] at this
    have tx : Tx H8 Hb := (xp.tx (Ls.one (e8 _ _ h7'))).trans (Tx.of_ex eb)
    have hqb : Hb q = some (.lst wq) := eb _ _ (xp _ _ (e8 _ _ hq7) (by simpa using npq))
    have dqb : DpAll K Hb wq (dI (mrm m)) := by
      rw [dq7']
      exact ints_dpa _
    have pdb : PD K x Hb D p := pd_xp (e8 _ _ h7') (xp.then eb) (pd_xp h7' (Xp.of_ex e8) pd)
    have dl := dp_ex eb _ _ dl
    have hgk : (dI (mrm m))[kk]? = some (.int own) := by
      rw [dI, List.getElem?_map, List.getElem?_eq_getElem (by omega), ← hown, List.getD_eq_getElem?_getD, List.getElem?_eq_getElem (by omega)]
      rfl
    have hpb := eb _ _ hpa
    have ixk : ∀ {σ : L2.St} {H : Hp}, σ[3]? = some (some (.ref q)) → σ[8]? = some (some (.int (kk : Int))) → Ex Hb H → Ev (tOp (rIxL K) (tVar 3) (tVar 8)) σ H (.int own) := fun hs hk e => EvD.int (ed_ixL (K := K) (ds := dI (mrm m)) (k := kk) (ed_var hs (dp_ex e _ _ (.lst (sq_of hqb) dqb))) (ev_var hk) hgk)
    show tSeq _ _ _ [some (.int x), some v1, some (.int m), some (.ref q), some (.ref p), some vl, some (.ref D), some vp, some (.int (kk : Int)), b, c] Hb
    refine qi_asg (v := .int ((mrm m).take kk).sum) (ev_is (ev_op (ev_var rfl) (ev_sumL (K := K) (ns := (mrm m).drop kk) (ed_is (EvN.toD (en_sl (K := K) (ds := dI (mrm m)) (ed_var rfl (.lst (sq_of hqb) dqb)) (eo_some (ev_var (v := .int (kk : Int)) rfl)) eo_none)) (by rw [cut_drop (by rw [dI, List.length_map]; omega), dI, dI, List.map_drop]))) rv_I0) (by rw [rest])) fun Hc ec => ?_
    show tSeq _ _ _ [some (.int x), some v1, some (.int m), some (.ref q), some (.ref p), some vl, some (.ref D), some vp, some (.int (kk : Int)), some (.int ((mrm m).take kk).sum), c] Hc
    have kk1 : kk < (mrm m).length := by omega
    have fin : ∀ (pt : List Int) (v : V) (H9 : Hp), nxt x own ((mrm m).take kk).sum left (decide (own = (mrm m).getD (kk + 1) 0)) qs = pt → Ex Hb H9 → Dp K H9 v (tI pt) → pt ∈ LL x own → okp x left ((mrm m).take kk).sum pt = true → ∀ (Dx : Ends) (z : ∀ σ' H', CW K x l m v1 q p D H8 (i + 1) σ' H' → Dx.nx σ' H'), tSeq (tAsg (tCall (spD K 2 R_reduced) [] E0 (tCons (tVar 5) (tCons (tVar 7) tNil))) (gName 5)) (tDrop (tBM K "list" rAppend (tVar 4) (tCons (tVar 7) tNil))) Dx
        [some (.int x), some v1, some (.int m), some (.ref q), some (.ref p), some vl, some (.ref D), some v, some (.int (kk : Int)), some (.int ((mrm m).take kk).sum), c] H9 := fun pt v H9 hnx e9 hv hin hok Dx z =>
      cs_end h1 h2 r0 (xp.then (eb.trans e9)) (e9 _ _ hpb) (dpa_ex (eb.trans e9) _ _ dws) lqs kk1 m2 hkk hown hle pr hld hfo (by rw [hnx] at hcr; exact hcr) (dp_ex e9 _ _ dl) hin hok hv z
    have sfin : ∀ p ∈ LL x own, Ld x p := fun p hp => (good_mem h1 h2 r0 hp).1
    have getD : ∀ {H9 : Hp} {σ : L2.St}, Ex Hb H9 → σ[3]? = some (some (.ref q)) → σ[6]? = some (some (.ref D)) → σ[8]? = some (some (.int (kk : Int))) → EvD K (tDGet (tVar 6) (tOp (rIxL K) (tVar 3) (tVar 8))) σ H9 (.list ((LL x own).map tI)) := fun e9 h3 h6 h8 Hx ex Q hQ => by
      obtain ⟨_, a1, a2, ws1, ws2, hD, _, _, ha1, ha2, da1, da2⟩ := pdb
      refine ⟨.ref D, h6, ixk h3 h8 (e9.trans ex) Hx (Ex.refl _) _ fun Hy ey => ?_⟩
      have ez := (e9.trans ex).trans ey
      rcases r0 with z | z
      · rw [z]
        refine ⟨D, .ref a2, rfl, ?_, hQ _ Hy ey (.lst (sq_of (ez _ _ ha2)) (by rw [z]; exact dpa_ex ez _ _ da2))⟩
        exact .inl ⟨_, .inl 2, .inl (ez _ _ hD), rfl, by simp [valV]⟩
      · rw [z]
        refine ⟨D, .ref a1, rfl, ?_, hQ _ Hy ey (.lst (sq_of (ez _ _ ha1)) (by rw [z]; exact dpa_ex ez _ _ da1))⟩
        exact .inl ⟨_, .inl 1, .inl (ez _ _ hD), rfl, by simp [valV]⟩
    have hm9 : okp x left ((mrm m).take kk).sum part = true := List.find?_some hf
    have hi9 := List.mem_of_find?_eq_some hf
    rcases hvp0 with ⟨rfl, rfl⟩ | ⟨pp, qs', rfl, hvp, hpp⟩
    · refine q_when (b := true) (et_is (et_or (a := true) (b := true) (et_B (ev_isN (K := K) (d := .none) (ed_var rfl .non) rfl)) fun z => nomatch z) rfl) (fun _ H9 e9 => ?_) fun z => nomatch z
      refine d_asg (K := K) (ed_call (R := R_part_off) (ds := [.int x, tI left, .list ((LL x own).map tI), .int ((mrm m).take kk).sum]) (eda_cons (ed_int (ev_var rfl)) (eda_cons (ed_var rfl (dp_ex (ec.trans e9) _ _ dl)) (eda_cons (getD (ec.trans e9) rfl rfl rfl) (eda_cons (ed_int (ev_var rfl)) eda_nil)))) rfl ⟨x, left, LL x own, _, part, rfl, h1, h2, sfin, hle, hf, rfl⟩) fun v9 Hx ex hv9 => ?_
      exact fin part v9 Hx (by show ((LL x own).find? (okp x left ((mrm m).take kk).sum)).getD [] = part; rw [hf]; rfl) ((ec.trans e9).trans ex) hv9 hi9 hm9 _ fun σ' H' z => z
    · have hvp := dp_ex (eb.trans ec) _ _ hvp
      have hlp : Ld x pp := hld pp List.mem_cons_self
      have k1 : kk + 1 < (mrm m).length := by
        rw [List.length_cons] at lqs
        omega
      have hg1 : (dI (mrm m))[kk + 1]? = some (.int ((mrm m).getD (kk + 1) 0)) := by
        rw [dI, List.getElem?_map, List.getElem?_eq_getElem k1, List.getD_eq_getElem?_getD, List.getElem?_eq_getElem k1]
        rfl
      have ix1 : Ev (tOp (rIxL K) (tVar 3) (tOp (rI0 fun i j => V.int (i + j)) (tVar 8) (tC (.int 1)))) [some (.int x), some v1, some (.int m), some (.ref q), some (.ref p), some vl, some (.ref D), some vp, some (.int (kk : Int)), some (.int ((mrm m).take kk).sum), c] Hc (.int ((mrm m).getD (kk + 1) 0)) :=
        EvD.int (ed_ixL (K := K) (ds := dI (mrm m)) (k := kk + 1) (ed_var rfl (dp_ex ec _ _ (.lst (sq_of hqb) dqb))) (ev_is (ev_op (ev_var rfl) ev_c rv_I0) (by push_cast; rfl)) hg1)
      refine q_when (b := false || (!decide (V.int own = V.int ((mrm m).getD (kk + 1) 0)) || !okp x left ((mrm m).take kk).sum pp)) (et_or (a := false) (et_B (ev_isN (K := K) (d := tI pp) (ed_var (v := vp) rfl hvp) rfl)) fun _ => et_or (et_test (ev_op (ixk rfl rfl ec) ix1 (rv_ne rfl))) fun _ => et_not (et_B (EvD.bool (ed_call (R := R_is_part) (ds := [.int x, tI left, tI pp, .int ((mrm m).take kk).sum]) (eda_cons (ed_int (ev_var rfl)) (eda_cons (ed_var rfl (dp_ex ec _ _ dl)) (eda_cons (ed_var (v := vp) rfl hvp) (eda_cons (ed_int (ev_var rfl)) eda_nil)))) rfl ⟨x, left, pp, _, rfl, h1, h2, hle, hlp, rfl⟩)))) (fun hb8 H9 e9 => ?_) fun hb9 H9 e9 => ?_
      · refine d_asg (K := K) (ed_call (R := R_part_off) (ds := [.int x, tI left, .list ((LL x own).map tI), .int ((mrm m).take kk).sum]) (eda_cons (ed_int (ev_var rfl)) (eda_cons (ed_var rfl (dp_ex (ec.trans e9) _ _ dl)) (eda_cons (getD (ec.trans e9) rfl rfl rfl) (eda_cons (ed_int (ev_var rfl)) eda_nil)))) rfl ⟨x, left, LL x own, _, part, rfl, h1, h2, sfin, hle, hf, rfl⟩) fun v9 Hx ex hv9 => ?_
        refine fin part v9 Hx ?_ ((ec.trans e9).trans ex) hv9 hi9 hm9 _ fun σ' H' z => z
        have no : (decide (own = (mrm m).getD (kk + 1) 0) && okp x left ((mrm m).take kk).sum pp) = false := by
          rw [Bool.false_or, Bool.or_eq_true] at hb8
          rw [Bool.and_eq_false_iff]
          rcases hb8 with hb8 | hb8
          · refine .inl (decide_eq_false fun z => ?_)
            rw [← z] at hb8
            simp at hb8
          · exact .inr (by simpa using hb8)
        show (if (decide (own = (mrm m).getD (kk + 1) 0) && okp x left ((mrm m).take kk).sum pp) = true then pp else ((LL x own).find? (okp x left ((mrm m).take kk).sum)).getD []) = part
        rw [no, hf]
        rfl
      · simp only [Bool.or_eq_false_iff, Bool.not_eq_false', decide_eq_true_eq] at hb9
        obtain ⟨_, b2, b3⟩ := hb9
        have eo : own = (mrm m).getD (kk + 1) 0 := V.int.inj b2
        exact fin pp vp H9 (by show (if (decide (own = (mrm m).getD (kk + 1) 0) && okp x left ((mrm m).take kk).sum pp) = true then pp else _) = pp; rw [decide_eq_true eo, b3]; rfl) (ec.trans e9) (dp_ex e9 _ _ hvp) (by rw [eo]; exact hpp) b3 _ fun σ' H' z => z
  · rintro H8 σ' Ha e8 ⟨xp, qs, left, ws, vl, vp, a, b, c, hpa, dws, lqs, hle, hm, pr, hld, hfo, hcr, dl, _, rfl⟩
    have ln : (((List.range (((mrm m).length : Int) - 1 - -1).toNat).map fun (i : Nat) => PyData.int (((mrm m).length : Int) - 1 - (i : Int))).length) = (mrm m).length := by
      rw [List.length_map, List.length_range]
      omega
    rw [ln] at lqs hm pr hcr
    rw [Nat.sub_self] at hcr
    have hcr : qs = crs x l m := hcr
    rw [Nat.sub_self, List.take_zero] at hm
    rw [Nat.sub_self, List.drop_zero] at pr
    have hz := zer_of h1 h2 hle hm
    rw [hz] at hfo
    have e0 : Ex H Ha := xp_fresh (((e06).trans e7).trans e8) xp (fresh_back (((e03.trans e4).trans e5)) hp)
    refine n_ret (K := K) (ds := qs.map tI) (en_is (en_rev (K := K) (ds := qs.reverse.map tI) (ed_var rfl (.lst (sq_of hpa) dws))) (by rw [← List.map_reverse, List.reverse_reverse])) fun p9 w9 H9 hp9 e9 h99 hv => k _ H9 (e0.trans e9) (by rw [if_pos hb, ← hcr]; exact .lst (sq_of h99) hv) (fun _ => hcr ▸ ⟨Paired.length pr, hld, fun i p r hp hr => ?_, hfo⟩) (fun p z => by cases z; exact fresh_back e0 hp9)
    have get : ∀ {α β : Type} {F : α → β → Prop} {l : List α} {m : List β} {i : Nat} {a : α} {b : β}, Paired F l m → l[i]? = some a → m[i]? = some b → F a b := by
      intro α β F l m i a b h h1 h2
      obtain ⟨b', h3, h4⟩ := paired_get h h1
      rw [h2] at h3
      cases h3
      exact h4
    exact get (F := fun part r => mxl (sms x part) ≤ r) pr hp hr

end
end K16
set_option Elab.async false
set_option linter.all false
set_option maxRecDepth 100000
set_option maxHeartbeats 4000000
/-! each load let by 2 has a way that is well -/
namespace K16
open PySem PySem.Spec PyProof.Rows L2 Evl DL
theorem zw_zero : ∀ (p : List Int) (n : Nat), p.length ≤ n → zw (· + ·) (List.replicate n 0) p = p
  | [], _, _ => by simp [zw]
  | x :: p, 0, h => by simp at h
  | x :: p, n + 1, h => by
    have ih := zw_zero p n (by simpa using h)
    rw [List.replicate_succ]
    show (0 + x) :: zw (· + ·) (List.replicate n 0) p = x :: p
    rw [ih, Int.zero_add]
theorem LL_of {s : Int} {l : List Int} (h1 : 2 ≤ s) (h2 : s ≤ 5) (hl : Ld s l) (hm : mxl (sms s l) ≤ 2) : l ∈ LL s 2 := by
  obtain ⟨p, hp, hb, hm0⟩ := heart (own := 2) (R := 2) h1 h2 hl hm (.inl ⟨rfl, rfl, by omega⟩)
  obtain ⟨gp, _⟩ := good_mem h1 h2 (.inl rfl) hp
  have len : l.length = p.length := hl.1.trans gp.1.symm
  have ld0 : Ld s (zw (· - ·) l p) := ⟨by rw [zw, List.length_zipWith, ← len, Nat.min_self]; exact hl.1, zw_sub_ld hb hl.2 gp.2⟩
  have z := zer_of h1 h2 ld0 hm0
  have back := zw_back len
  rw [z] at back
  have e : zw (· + ·) (zer s) p = p := zw_zero p (np s) (Nat.le_of_eq gp.1)
  rw [e] at back
  rw [← back]
  exact hp
theorem chk_of {s : Int} {l : List Int} (h1 : 2 ≤ s) (h2 : s ≤ 5) (hl : Ld s l) (hm : mxl (sms s l) ≤ 2) : chkW s l = true := by
  have h := LL_of h1 h2 hl hm
  have hs : s = 2 ∨ s = 3 ∨ s = 4 ∨ s = 5 := by omega
  rcases hs with rfl | rfl | rfl | rfl
  · exact List.all_eq_true.mp chkW2 l h
  · exact List.all_eq_true.mp chkW3 l h
  · exact List.all_eq_true.mp chkW4 l h
  · exact List.all_eq_true.mp chkW5 l h
/-- what mates_way wants to know of the load, and what its switches are -/
theorem way_of {s : Int} {l : List Int} (h1 : 2 ≤ s) (h2 : s ≤ 5) (hl : Ld s l) (hm : mxl (sms s l) ≤ 2) : ∃ rows, wireW s l = some rows ∧ (∀ r ∈ rows, r.length ≤ 25) ∧ rows.length ≤ 10 ∧
    (∀ u ∈ rows.flatten.map swW, 0 ≤ u.1.1 ∧ u.1.1 < u.2.1 ∧ u.2.1 < s ∧ ((u.1.2 = 0 ∧ u.2.2 = 1) ∨ (u.1.2 = 1 ∧ u.2.2 = 0))) ∧ (pinsOf (rows.flatten.map swW)).Nodup ∧ loadOf s (rows.flatten.map swW) = l := by
  have c := chk_of h1 h2 hl hm
  unfold chkW at c
  cases hw : wireW s l with
  | none => rw [hw] at c; cases c
  | some rows =>
    rw [hw] at c
    simp only [goodW, Bool.and_eq_true, Bool.or_eq_true, decide_eq_true_eq, List.all_eq_true] at c
    obtain ⟨⟨⟨⟨c1, c2⟩, c3⟩, c4⟩, c5⟩ := c
    exact ⟨rows, rfl, c4, c5, fun u hu => by
      obtain ⟨⟨⟨a, b⟩, d⟩, e⟩ := c1 u hu
      exact ⟨a, b, d, e⟩, c2, c3⟩
end K16
set_option Elab.async false
set_option linter.all false
set_option maxRecDepth 100000
set_option maxHeartbeats 4000000
/-! switches sorted -/
namespace K16
open PySem PySem.Spec PyProof.Rows L2 Evl DL
open PySem.W (dataLt dataLe)
theorem lt_pD (p q : Int × Int) : dataLt (pD p) (pD q) = decide (p.1 < q.1 ∨ (p.1 = q.1 ∧ p.2 < q.2)) := PySem.W.dataLt_ii _ _ _ _
theorem eqv_pD (p q : Int × Int) : PyData.eqv (pD p) (pD q) = decide (p = q) := by
  show PyData.eqv (tI [p.1, p.2]) (tI [q.1, q.2]) = _
  rw [eqv_tI, Bool.eq_iff_iff]
  simp [Prod.ext_iff]
theorem lt_swD (a b : Sw) : dataLt (swD a) (swD b) = if a.1 = b.1 then (if a.2 = b.2 then false else dataLt (pD a.2) (pD b.2)) else dataLt (pD a.1) (pD b.1) := by
  show dataLt (.tuple [pD a.1, pD a.2]) (.tuple [pD b.1, pD b.2]) = _
  rw [PySem.W.dataLt_pair rfl rfl, eqv_pD, eqv_pD]
  simp
theorem sw_tri {a b : Sw} (h : dataLt (swD b) (swD a) = false) (n : a ≠ b) : dataLt (swD a) (swD b) = true := by
  obtain ⟨⟨a1, a2⟩, ⟨a3, a4⟩⟩ := a
  obtain ⟨⟨b1, b2⟩, ⟨b3, b4⟩⟩ := b
  rw [lt_swD] at h ⊢
  simp only [lt_pD, Prod.mk.injEq] at h ⊢
  have n' : ¬ (((a1 = b1 ∧ a2 = b2)) ∧ a3 = b3 ∧ a4 = b4) := fun z => n (by obtain ⟨⟨rfl, rfl⟩, rfl, rfl⟩ := z; rfl)
  by_cases e1 : a1 = b1 ∧ a2 = b2
  · rw [if_pos e1]
    rw [if_pos ⟨e1.1.symm, e1.2.symm⟩] at h
    have e2 : ¬ (a3 = b3 ∧ a4 = b4) := fun z => n' ⟨e1, z⟩
    rw [if_neg e2]
    rw [if_neg fun z => e2 ⟨z.1.symm, z.2.symm⟩] at h
    have h := of_decide_eq_false h
    exact decide_eq_true (by omega)
  · rw [if_neg e1]
    rw [if_neg fun z => e1 ⟨z.1.symm, z.2.symm⟩] at h
    have h := of_decide_eq_false h
    exact decide_eq_true (by omega)
def srt (us : List Sw) : List Sw := us.mergeSort fun a b => leD (swD a) (swD b)
theorem srt_data (us : List Sw) : (us.map swD).mergeSort leD = (srt us).map swD := (List.map_mergeSort (r := fun a b => leD (swD a) (swD b)) (s := leD) (f := swD) (fun _ _ _ _ => rfl)).symm
theorem srt_perm (us : List Sw) : (srt us).Perm us := List.mergeSort_perm _ _
theorem srt_rise {us : List Sw} (nd : us.Nodup) : risesD ((srt us).map swD) = true := by
  have tot := PySem.W.sortLe_total (listOrd itemOrd) false (fun u : Sw => PySem.W.keyToks (swD u))
  have pw : (srt us).Pairwise (fun a b => leD (swD a) (swD b) = true) := List.pairwise_mergeSort (fun a b c h1 h2 => tot.trans a b c h1 h2) (fun a b => by
    exact Bool.or_eq_true _ _ ▸ tot.total a b) us
  have nd2 : (srt us).Nodup := (srt_perm us).nodup_iff.mpr nd
  refine rises_yes fun i a b h1 h2 => ?_
  rw [List.getElem?_map] at h1 h2
  obtain ⟨u, g1, rfl⟩ := Option.map_eq_some_iff.mp h1
  obtain ⟨v, g2, rfl⟩ := Option.map_eq_some_iff.mp h2
  obtain ⟨l1, e1⟩ := List.getElem?_eq_some_iff.mp g1
  obtain ⟨l2, e2⟩ := List.getElem?_eq_some_iff.mp g2
  have le := List.pairwise_iff_getElem.mp pw i (i + 1) l1 l2 (by omega)
  rw [e1, e2] at le
  have ne : u ≠ v := fun z => by
    have e3 : (srt us)[i] = (srt us)[i + 1] := e1.trans (z.trans e2.symm)
    have := (List.getElem_inj nd2).mp e3
    omega
  exact sw_tri (by simpa [leD] using le) ne
theorem pins_perm {us us' : List Sw} (h : us.Perm us') : (pinsOf us).Perm (pinsOf us') := h.flatMap_right _
theorem load_perm {us us' : List Sw} (h : us.Perm us') (s : Int) : loadOf s us = loadOf s us' := by
  unfold loadOf
  refine List.map_congr_left fun p _ => ?_
  unfold cntI
  rw [(h.filter _).length_eq]
theorem nodup_of_pins : ∀ {us : List Sw}, (pinsOf us).Nodup → us.Nodup
  | [], _ => List.nodup_nil
  | u :: us, h => by
    have e : pinsOf (u :: us) = [u.1, u.2] ++ pinsOf us := by simp [pinsOf]
    rw [e, List.nodup_append] at h
    obtain ⟨_, h2, h3⟩ := h
    refine List.nodup_cons.mpr ⟨fun z => ?_, nodup_of_pins h2⟩
    have : u.1 ∈ pinsOf us := by
      unfold pinsOf
      rw [List.mem_flatMap]
      exact ⟨u, z, by simp⟩
    exact h3 u.1 (by simp) u.1 this rfl
end K16
set_option Elab.async false
set_option linter.all false
set_option maxRecDepth 100000
set_option maxHeartbeats 4000000
/-! a list of lists of numbers, read and written -/
namespace K16
open PySem PySem.Spec PyProof.Rows L2 Evl DL
def Mat (H : Hp) (L : Addr) (as : List Addr) (m : Mx) : Prop := H L = some (.lst (as.map V.ref)) ∧ as.Nodup ∧ L ∉ as ∧ as.length = m.length ∧ ∀ (i : Nat) a r, as[i]? = some a → m[i]? = some r → H a = some (.lst (r.map V.int))
theorem Mat.ex {H H' : Hp} {L : Addr} {as : List Addr} {m : Mx} (h : Mat H L as m) (e : Ex H H') : Mat H' L as m := ⟨e _ _ h.1, h.2.1, h.2.2.1, h.2.2.2.1, fun i a r h1 h2 => e _ _ (h.2.2.2.2 i a r h1 h2)⟩
theorem Mat.row {H : Hp} {L : Addr} {as : List Addr} {m : Mx} (h : Mat H L as m) {i : Nat} (hi : i < m.length) : ∃ a, as[i]? = some a ∧ H a = some (.lst ((rowM m i).map V.int)) := by
  have la : i < as.length := by rw [h.2.2.2.1]; exact hi
  refine ⟨as[i], List.getElem?_eq_getElem la, h.2.2.2.2 i _ _ (List.getElem?_eq_getElem la) ?_⟩
  rw [List.getElem?_eq_getElem hi, rowM, List.getD_eq_getElem?_getD, List.getElem?_eq_getElem hi]
  rfl
theorem Mat.put {H : Hp} {L : Addr} {as : List Addr} {m : Mx} (h : Mat H L as m) {i : Nat} {a : Addr} (ha : as[i]? = some a) (r' : List Int) : Mat (upd H a (.lst (r'.map V.int))) L as (m.set i r') := by
  obtain ⟨h1, h2, h3, h4, h5⟩ := h
  have ma : a ∈ as := List.mem_of_getElem? ha
  have nL : L ≠ a := fun z => h3 (z ▸ ma)
  refine ⟨by rw [upd_ne nL]; exact h1, h2, h3, by rw [List.length_set]; exact h4, fun j b r g1 g2 => ?_⟩
  rw [List.getElem?_set] at g2
  by_cases e : i = j
  · subst e
    rw [ha] at g1
    cases g1
    rw [if_pos rfl] at g2
    split at g2
    · cases g2
      exact upd_same
    · cases g2
  · rw [if_neg e] at g2
    obtain ⟨l1, e1⟩ := List.getElem?_eq_some_iff.mp ha
    obtain ⟨l2, e2⟩ := List.getElem?_eq_some_iff.mp g1
    have nb : b ≠ a := fun z => e ((List.getElem_inj h2).mp (e1.trans (z.symm.trans e2.symm)))
    rw [upd_ne nb]
    exact h5 j b r g1 g2
/-- S: the addresses of the matrix -/
theorem Mat.in_ {H : Hp} {L : Addr} {as : List Addr} {m : Mx} (h : Mat H L as m) {i : Nat} {a : Addr} (ha : as[i]? = some a) : a ∈ L :: as := List.mem_cons_of_mem _ (List.mem_of_getElem? ha)
section
variable {K : PySem.W.Frag} {σ : L2.St} {H : Hp} {te tf : TE} {L : Addr} {as : List Addr} {m : Mx} {i j k : Nat} {D : Ends} {tz : TS}
theorem ev_mrow {a : Addr} (h : Mat H L as m) (ha : as[i]? = some a) (hL : σ[k]? = some (some (.ref L))) (ti : Ev te σ H (.int (i : Int))) : Ev (tOp (rIxL K) (tVar k) te) σ H (.ref a) :=
  ev_op (ev_var hL) ti (rv_ixL (sq_of h.1) (atI_nat (by rw [List.getElem?_map, ha]; rfl)))
theorem ev_cell (h : Mat H L as m) (hi : i < m.length) (hj : j < (rowM m i).length) (hL : σ[k]? = some (some (.ref L))) (ti : Ev te σ H (.int (i : Int))) (tj : Ev tf σ H (.int (j : Int))) : Ev (tOp (rIxL K) (tOp (rIxL K) (tVar k) te) tf) σ H (.int (getM m i j)) := by
  obtain ⟨a, ha, hr⟩ := h.row hi
  refine ev_op (ev_mrow h ha hL ti) tj (rv_ixL (sq_of hr) (atI_nat ?_))
  rw [List.getElem?_map, List.getElem?_eq_getElem hj, getM, List.getD_eq_getElem?_getD, List.getElem?_eq_getElem hj]
  rfl
theorem ev_rsum (h : Mat H L as m) (hi : i < m.length) (hL : σ[k]? = some (some (.ref L))) (ti : Ev te σ H (.int (i : Int))) : Ev (tCB (rSum K) (tCons (tOp (rIxL K) (tVar k) te) tNil)) σ H (.int (rowM m i).sum) := by
  obtain ⟨a, ha, hr⟩ := h.row hi
  exact fun H1 e Q q => ev_mrow h ha hL ti H1 e _ fun H2 e2 => ⟨a, rowM m i, rfl, sq_of (e2 _ _ (e _ _ hr)), q H2 e2⟩
/-- left[i][j] = v -/
theorem q_putM {tv : TE} {v : Int} (h : Mat H L as m) (hi : i < m.length) (hj : j < (rowM m i).length) (hL : σ[k]? = some (some (.ref L))) (ti : Ev te σ H (.int (i : Int))) (tj : Ev tf σ H (.int (j : Int))) (hv : Ev tv σ H (.int v))
    (q : ∀ H', Xp (L :: as) H H' → Mat H' L as (putM m i j v) → tz D σ H') : tSeq (tAsg tv (gSub (tOp (rIxL K) (tVar k) te) tf rSetL)) tz D σ H := by
  obtain ⟨a, ha, hr⟩ := h.row hi
  refine q_setL (l := a) (j := j) hr hv (ev_mrow h ha hL ti) tj (by rw [List.length_map]; exact hj) fun H1 e1 => q _ (Xp.upd (Xp.of_ex e1) (h.in_ ha)) ?_
  rw [← List.map_set]
  exact (h.ex e1).put ha _
theorem s_putM {tv : TE} {v : Int} (h : Mat H L as m) (hi : i < m.length) (hj : j < (rowM m i).length) (hL : σ[k]? = some (some (.ref L))) (ti : Ev te σ H (.int (i : Int))) (tj : Ev tf σ H (.int (j : Int))) (hv : Ev tv σ H (.int v))
    (q : ∀ H', Xp (L :: as) H H' → Mat H' L as (putM m i j v) → D.nx σ H') : tAsg tv (gSub (tOp (rIxL K) (tVar k) te) tf rSetL) D σ H :=
  q_putM (tz := fun D => D.nx) (D := D) h hi hj hL ti tj hv q
/-- left[i][j] -= 1 -/
theorem q_decM (h : Mat H L as m) (hi : i < m.length) (hj : j < (rowM m i).length) (hL : σ[k]? = some (some (.ref L))) (ti : Ev te σ H (.int (i : Int))) (tj : Ev tf σ H (.int (j : Int)))
    (q : ∀ H', Xp (L :: as) H H' → Mat H' L as (decM m i j) → tz D σ H') : tSeq (tAugS (tOp (rIxL K) (tVar k) te) tf (tC (.int 1)) (rGetL K) (ipI fun a b => a - b) rSetL) tz D σ H := by
  obtain ⟨a, ha, hr⟩ := h.row hi
  refine ev_mrow h ha hL ti H (Ex.refl _) _ fun H1 e1 => tj H1 e1 _ fun H2 e2 => ?_
  have e := e1.trans e2
  have g : ((rowM m i).map V.int)[j]? = some (.int (getM m i j)) := by
    rw [List.getElem?_map, List.getElem?_eq_getElem hj, getM, List.getD_eq_getElem?_getD, List.getElem?_eq_getElem hj]
    rfl
  refine ⟨a, _, _, j, rfl, rfl, sq_of (e _ _ hr), g, ?_⟩
  refine ⟨_, _, rfl, rfl, a, (rowM m i).map V.int, (j : Int), j, rfl, rfl, e _ _ hr, ixN_nat (by rw [List.length_map]; exact hj), ?_⟩
  have n := q (upd H2 a (.lst (((rowM m i).set j (getM m i j - 1)).map V.int))) (Xp.upd (Xp.of_ex e) (h.in_ ha)) ((h.ex e).put ha _)
  rw [List.map_set] at n
  exact n
end
end K16
set_option Elab.async false
set_option linter.all false
set_option maxRecDepth 100000
set_option maxHeartbeats 4000000
namespace K16
open PySem PySem.Spec PyProof.Rows L2 Evl DL
local macro_rules | `(tactic| walk_at "dl") => `(tactic| first
  | exact ev_c | exact ev_var rfl | exact eda_nil
  | exact ed_var rfl (by assumption)
  | exact ed_int ev_c | exact ed_int (ev_var rfl)
  | (refine eda_cons ?_ ?_ <;> walk_at "dl")
  | (refine ed_int ?_; walk_at "dl")
  | (refine ev_op ?_ ?_ rv_I0 <;> walk_at "dl"))

section
variable {P : Program} {w : World} {K : PySem.W.Frag} {mg : Str → Option Value} {base : Heap}

def R_law_pins (ds : List PyData) (r : List PyData) : Prop := ∃ us : List Sw, ds = [.tuple (us.map swD)] ∧ us.length ≤ 1000 ∧ r = (pinsOf us).map pD
theorem pins_len (us : List Sw) : (pinsOf us).length = 2 * us.length := by
  induction us with
  | nil => rfl
  | cons u us ih =>
    show ([u.1, u.2] ++ pinsOf us).length = _
    rw [List.length_append, ih, List.length_cons]
    simp
    omega
abbrev s__law_pins : Stmt := topS 63
abbrev N__law_pins : List Str := ["told", "found", "switch"]
theorem sc__law_pins : FnScope N__law_pins ["told"] (defScope s__law_pins) := ⟨rfl, rfl, rfl, by decide +kernel, rfl, by decide +kernel, by decide +kernel⟩
theorem ok__law_pins {f : Addr} {fd : FuncData} (F : Fun K "_law_pins" "_law_pins" s__law_pins f fd) (T : Txt mg)
      :
    FnOk P w K mg base CX0 1 f fd ["told"] (spN K 1 R_law_pins) := by
  refine F.ok sc__law_pins (fun vs H Q E h => spN_len h) (fun cdv A outer s H vs Q E hr h => ?_)
  obtain ⟨ds, r, hd, _, ⟨us, rfl, hl, rfl⟩, k⟩ := h
  obtain ⟨v0, rfl, d0⟩ := dpa_one hd
  refine ⟨_, (pss_cons (ps_set (i := 1) sc__law_pins.nd rfl (.inl rfl) (pe_lst pa_nil))
      (pss_cons (ps_for PassesOwn.never rfl (pi_tup (pv 0)) (pg_name (i := 2) sc__law_pins.nd rfl (Or.inl rfl)) (pss_one (ps_set (i := 1) sc__law_pins.nd rfl (.inl rfl) (pe_op op_cat (pv 1) (pe_lst (pa_cons (pe_ix ix_tup (pv 2) pe_int (fun _ _ => rfl)) (pa_cons (pe_ix ix_tup (pv 2) pe_int (fun _ _ => rfl)) pa_nil)))))))
      (pss_one (ps_ret (pv 1))))), ?_⟩
  refine qn_asg (K := K) (en_lst eda_nil (by simp)) fun p0 vs0 H1 hp0 e1 h1 hd1 => ?_
  refine e_for (ei_tupD (K := K) (ed_var (v := v0) rfl (dp_ex e1 _ _ d0))) (fun H2 i σ' Ha => Ex H2 Ha ∧ ∃ p vs, H p = none ∧ Ha p = some (.lst vs) ∧ DpAll K Ha vs ((pinsOf (us.take i)).map pD) ∧ ∃ y, σ' = [some v0, some (.ref p), y])
    (fun H2 e2 => ⟨Ex.refl _, p0, vs0, hp0, e2 _ _ h1, by simpa [pinsOf] using dpa_ex e2 _ _ hd1, none, rfl⟩) (fun H2 i σ' Ha _ q => Xp.of_ex q.1) ?_ ?_
  · rintro H2 i d y σ' Ha Hb e2 hd2 ⟨x1, p, vs, np, hp, dv, z, rfl⟩ e3 hy
    rw [List.getElem?_map] at hd2
    obtain ⟨u, hu, rfl⟩ := Option.map_eq_some_iff.mp hd2
    have lv := dpa_len dv
    have hi := (List.getElem?_eq_some_iff.mp hu).1
    have dv3 := dpa_ex e3 _ _ dv
    refine n_asg (K := K) (en_cat (eq_var (k := 1) rfl (e3 _ _ hp) dv3) (EvN.toQ (en_lst (ds := [pD u.1, pD u.2]) (eda_cons (ed_ixT (k := 0) (ds := [pD u.1, pD u.2]) (ed_var (v := y) rfl hy) ev_c rfl) (eda_cons (ed_ixT (k := 1) (ds := [pD u.1, pD u.2]) (ed_var (v := y) rfl hy) ev_c rfl) eda_nil)) (by simp))) (by rw [List.length_map, pins_len, List.length_take]; simp; omega)) fun p' vs' H5 hp' e5 h5 hd5 => ?_
    refine ⟨(x1.trans e3).trans e5, p', vs', fresh_back ((((e1.trans e2).trans x1).trans e3)) hp', h5, ?_, _, rfl⟩
    rw [pins_take hu, List.map_append]
    exact hd5
  · rintro H2 σ' Ha e2 ⟨x1, p, vs, np, hp, dv, z, rfl⟩
    rw [List.length_map, List.take_length] at dv
    exact s_ret (v := .ref p) (ev_var rfl) fun H5 e5 => k p vs H5 np (((e1.trans e2).trans x1).trans e5) (e5 _ _ hp) (dpa_ex e5 _ _ dv)

end
end K16
set_option Elab.async false
set_option linter.all false
set_option maxRecDepth 100000
set_option maxHeartbeats 4000000
/-! parts laid over their mates: what comes out is a way of the crossed box -/
namespace K16
open PySem PySem.Spec PyProof.Rows L2 Evl DL
def wys (s : Int) (l : List Int) : List Sw := match wireW s l with
  | some rows => srt (rows.flatten.map swW)
  | none => []
def shf (z : Int) (u : Sw) : Sw := ((u.1.1, u.1.2 + z), (u.2.1, u.2.2 + z))
def laidE (s : Int) (ps : List (List Int)) (n : Nat) : List Sw := (List.range n).flatMap fun k => (wys s (ps.getD k [])).map (shf (2 * (k : Int)))
def oddJ (s : Int) (l : List Int) : List Nat := (List.range (np s)).filter fun j => decide (0 < l.getD j 0)
def oddU (s t : Int) (j : Nat) : Sw := ((((prs s).getD j (0, 0)).1, t), (((prs s).getD j (0, 0)).2, t))
def oddS (s t : Int) (l : List Int) : List Sw := (oddJ s l).map (oddU s t)
def lstP (ps : List (List Int)) : List Int := ps.getLast?.getD []
def laidS (s m : Int) (ps : List (List Int)) : List Sw := laidE s ps (m / 2).toNat ++ if m % 2 = 1 then oddS s (m - 1) (lstP ps) else []
/-! ### counting -/
theorem cnt_append (us vs : List Sw) (p : Int × Int) : cntI (us ++ vs) p = cntI us p + cntI vs p := by
  unfold cntI
  rw [List.filter_append, List.length_append]
  omega
theorem load_append (s : Int) (us vs : List Sw) : loadOf s (us ++ vs) = zw (· + ·) (loadOf s us) (loadOf s vs) := by
  unfold loadOf zw
  rw [List.zipWith_map]
  induction prs s with
  | nil => rfl
  | cons p ps ih => rw [List.map_cons, List.zipWith_cons_cons, ih, cnt_append]
theorem cnt_shf (us : List Sw) (z : Int) (p : Int × Int) : cntI (us.map (shf z)) p = cntI us p := by
  unfold cntI
  rw [List.filter_map, List.length_map]
  rfl
theorem load_shf (s : Int) (us : List Sw) (z : Int) : loadOf s (us.map (shf z)) = loadOf s us := by
  unfold loadOf
  exact List.map_congr_left fun p _ => cnt_shf us z p
theorem load_nil' (s : Int) : loadOf s [] = zer s := load_nil s
theorem pins_app (us vs : List Sw) : pinsOf (us ++ vs) = pinsOf us ++ pinsOf vs := by
  unfold pinsOf
  rw [List.flatMap_append]
def shp (z : Int) (p : Int × Int) : Int × Int := (p.1, p.2 + z)
theorem pins_shf (us : List Sw) (z : Int) : pinsOf (us.map (shf z)) = (pinsOf us).map (shp z) := by
  unfold pinsOf
  rw [List.flatMap_map, List.map_flatMap]
  rfl
theorem shp_inj (z : Int) : Function.Injective (shp z) := fun p q h => by
  obtain ⟨a, b⟩ := p
  obtain ⟨c, d⟩ := q
  simp only [shp, Prod.mk.injEq] at h
  have : b = d := by omega
  rw [h.1, this]
theorem nodup_shp {l : List (Int × Int)} (h : l.Nodup) (z : Int) : (l.map (shp z)).Nodup := List.Pairwise.map _ (fun a b n e => n (shp_inj z e)) h
theorem mem_pins {us : List Sw} {p : Int × Int} : p ∈ pinsOf us ↔ ∃ u ∈ us, p = u.1 ∨ p = u.2 := by
  unfold pinsOf
  simp
theorem pins_tk {us : List Sw} : ∀ p ∈ pinsOf us, ∃ u ∈ us, p = u.1 ∨ p = u.2 := fun p h => mem_pins.mp h
/-! ### one part -/
/-- well laid over the tracks from z up to e -/
structure WellL (s z e m : Int) (l : List Int) (us : List Sw) : Prop where
  at_ : ∀ u ∈ us, 0 ≤ u.1.1 ∧ u.1.1 < u.2.1 ∧ u.2.1 < s ∧ z ≤ u.1.2 ∧ u.1.2 < e ∧ z ≤ u.2.2 ∧ u.2.2 < e ∧ u.2.2 = mateI u.1.2 m
  nd : (pinsOf us).Nodup
  load : loadOf s us = l
theorem WellL.app {s z e f m : Int} {l k : List Int} {us vs : List Sw} (a : WellL s z e m l us) (b : WellL s e f m k vs) (hz : z ≤ e) (hf : e ≤ f) : WellL s z f m (zw (· + ·) l k) (us ++ vs) where
  at_ := fun u hu => by
    rcases List.mem_append.mp hu with h | h
    · have := a.at_ u h
      omega
    · have := b.at_ u h
      omega
  nd := by
    rw [pins_app, List.nodup_append]
    refine ⟨a.nd, b.nd, fun p hp q hq e => ?_⟩
    subst e
    obtain ⟨u, hu, h1⟩ := mem_pins.mp hp
    obtain ⟨v, hv, h2⟩ := mem_pins.mp hq
    have x := a.at_ u hu
    have y := b.at_ v hv
    have t1 : p.2 < e := by rcases h1 with rfl | rfl <;> omega
    have t2 : e ≤ p.2 := by rcases h2 with h2 | h2 <;> rw [h2] <;> omega
    omega
  load := by rw [load_append, a.load, b.load]
theorem WellL.mono {s z e f m : Int} {l : List Int} {us : List Sw} (a : WellL s z e m l us) (h : e ≤ f) : WellL s z f m l us where
  at_ := fun u hu => by
    have := a.at_ u hu
    omega
  nd := a.nd
  load := a.load
theorem well_nil {s z m : Int} (h : 0 ≤ s) : WellL s z z m (zer s) [] := ⟨fun u h => by simp at h, by simp [pinsOf], load_nil' s⟩
theorem wys_ok {s : Int} {l : List Int} (h1 : 2 ≤ s) (h2 : s ≤ 5) (hl : Ld s l) (hm : mxl (sms s l) ≤ 2) : ∃ rows, wireW s l = some rows ∧ (∀ r ∈ rows, r.length ≤ 25) ∧ rows.length ≤ 10 ∧ wys s l = srt (rows.flatten.map swW) ∧
    (∀ u ∈ wys s l, 0 ≤ u.1.1 ∧ u.1.1 < u.2.1 ∧ u.2.1 < s ∧ ((u.1.2 = 0 ∧ u.2.2 = 1) ∨ (u.1.2 = 1 ∧ u.2.2 = 0))) ∧ (pinsOf (wys s l)).Nodup ∧ loadOf s (wys s l) = l := by
  obtain ⟨rows, hw, c4, c5, c1, c2, c3⟩ := way_of h1 h2 hl hm
  have e : wys s l = srt (rows.flatten.map swW) := by
    unfold wys
    rw [hw]
  refine ⟨rows, hw, c4, c5, e, fun u hu => c1 u ?_, ?_, ?_⟩
  · rw [e] at hu
    exact (srt_perm _).mem_iff.mp hu
  · rw [e]
    exact (pins_perm (srt_perm _)).nodup_iff.mpr c2
  · rw [e, load_perm (srt_perm _)]
    exact c3
theorem well_pair {s m : Int} {l : List Int} {k : Nat} (h1 : 2 ≤ s) (h2 : s ≤ 5) (hl : Ld s l) (hm : mxl (sms s l) ≤ 2) (hk : 2 * (k : Int) + 2 ≤ m) : WellL s (2 * (k : Int)) (2 * ((k + 1 : Nat) : Int)) m l ((wys s l).map (shf (2 * (k : Int)))) := by
  obtain ⟨rows, _, _, _, _, c1, c2, c3⟩ := wys_ok h1 h2 hl hm
  refine ⟨fun u hu => ?_, ?_, ?_⟩
  · obtain ⟨v, hv, rfl⟩ := List.mem_map.mp hu
    obtain ⟨a, b, c, d⟩ := c1 v hv
    refine ⟨a, b, c, ?_⟩
    show 2 * (k : Int) ≤ v.1.2 + 2 * (k : Int) ∧ v.1.2 + 2 * (k : Int) < 2 * ((k + 1 : Nat) : Int) ∧ 2 * (k : Int) ≤ v.2.2 + 2 * (k : Int) ∧ v.2.2 + 2 * (k : Int) < 2 * ((k + 1 : Nat) : Int) ∧ v.2.2 + 2 * (k : Int) = mateI (v.1.2 + 2 * (k : Int)) m
    rcases d with ⟨d1, d2⟩ | ⟨d1, d2⟩ <;> rw [d1, d2] <;> refine ⟨by omega, by omega, by omega, by omega, ?_⟩ <;> unfold mateI
    · rw [if_pos (show (0 + 2 * (k : Int)) % 2 = 0 by omega), if_pos (by omega)]
      omega
    · rw [if_neg (show ¬ (1 + 2 * (k : Int)) % 2 = 0 by omega), if_pos (by omega)]
      omega
  · rw [pins_shf]
    exact nodup_shp c2 _
  · rw [load_shf]
    exact c3
/-! ### the last, single track -/
def chkO (s : Int) (l : List Int) : Bool := decide (loadOf s (oddS s 0 l) = l) && decide ((pinsOf (oddS s 0 l)).Nodup) && (oddS s 0 l).all fun u => decide (0 ≤ u.1.1) && decide (u.1.1 < u.2.1) && decide (u.2.1 < s) && decide (u.1.2 = 0) && decide (u.2.2 = 0)
theorem chkO_all : ([2, 3, 4, 5] : List Int).all (fun s => (LL s 1).all (chkO s)) = true := by decide +kernel
theorem LL1_of {s : Int} {l : List Int} (h1 : 2 ≤ s) (h2 : s ≤ 5) (hl : Ld s l) (hm : mxl (sms s l) ≤ 1) : l ∈ LL s 1 := by
  obtain ⟨p, hp, hb, hm0⟩ := heart (own := 1) (R := 1) h1 h2 hl hm (.inr ⟨rfl, rfl, by omega⟩)
  obtain ⟨gp, _⟩ := good_mem h1 h2 (.inr rfl) hp
  have len : l.length = p.length := hl.1.trans gp.1.symm
  have ld0 : Ld s (zw (· - ·) l p) := ⟨by rw [zw, List.length_zipWith, ← len, Nat.min_self]; exact hl.1, zw_sub_ld hb hl.2 gp.2⟩
  have z := zer_of h1 h2 ld0 hm0
  have back := zw_back len
  rw [z] at back
  have e : zw (· + ·) (zer s) p = p := zw_zero p (np s) (Nat.le_of_eq gp.1)
  rw [e] at back
  rw [← back]
  exact hp
theorem odd_shf (s t : Int) (l : List Int) : oddS s t l = (oddS s 0 l).map (shf t) := by
  unfold oddS
  rw [List.map_map]
  refine List.map_congr_left fun j _ => ?_
  simp [oddU, shf]
theorem well_odd {s m : Int} {l : List Int} (h1 : 2 ≤ s) (h2 : s ≤ 5) (hl : Ld s l) (hm : mxl (sms s l) ≤ 1) (h0 : 1 ≤ m) (ho : m % 2 = 1) : WellL s (m - 1) m m l (oddS s (m - 1) l) := by
  have c := List.all_eq_true.mp (List.all_eq_true.mp chkO_all s (by
    have : s = 2 ∨ s = 3 ∨ s = 4 ∨ s = 5 := by omega
    rcases this with rfl | rfl | rfl | rfl <;> decide)) l (LL1_of h1 h2 hl hm)
  unfold chkO at c
  simp only [Bool.and_eq_true, decide_eq_true_eq, List.all_eq_true] at c
  obtain ⟨⟨c1, c2⟩, c3⟩ := c
  rw [odd_shf]
  refine ⟨fun u hu => ?_, ?_, ?_⟩
  · obtain ⟨v, hv, rfl⟩ := List.mem_map.mp hu
    obtain ⟨⟨⟨⟨a, b⟩, c⟩, d⟩, e⟩ := c3 v hv
    refine ⟨a, b, c, ?_⟩
    show m - 1 ≤ v.1.2 + (m - 1) ∧ v.1.2 + (m - 1) < m ∧ m - 1 ≤ v.2.2 + (m - 1) ∧ v.2.2 + (m - 1) < m ∧ v.2.2 + (m - 1) = mateI (v.1.2 + (m - 1)) m
    rw [d, e]
    refine ⟨by omega, by omega, by omega, by omega, ?_⟩
    unfold mateI
    rw [if_pos (show (0 + (m - 1)) % 2 = 0 by omega), if_neg (by omega)]
  · rw [pins_shf]
    exact nodup_shp c2 _
  · rw [load_shf]
    exact c1
/-! ### all parts -/
theorem laid_succ (s : Int) (ps : List (List Int)) (k : Nat) : laidE s ps (k + 1) = laidE s ps k ++ (wys s (ps.getD k [])).map (shf (2 * (k : Int))) := by
  unfold laidE
  rw [fl_succ]
/-- what the parts are known for -/
structure Parts (s m : Int) (ps : List (List Int)) : Prop where
  len : ps.length = (m / 2).toNat + (m % 2).toNat
  two : ∀ k, k < (m / 2).toNat → Ld s (ps.getD k []) ∧ mxl (sms s (ps.getD k [])) ≤ 2
  one : m % 2 = 1 → Ld s (lstP ps) ∧ mxl (sms s (lstP ps)) ≤ 1
theorem mrm_len {m : Int} (h : 0 ≤ m) : (mrm m).length = (m / 2).toNat + (m % 2).toNat := by simp [mrm]
theorem parts_of {s m : Int} {l : List Int} {ps : List (List Int)} (h : 0 ≤ m) (a : Adds s l (mrm m) ps) : Parts s m ps where
  len := a.len.trans (mrm_len h)
  two := fun k hk => by
    have lt : k < ps.length := by rw [a.len, mrm_len h]; omega
    have e : ps[k]? = some (ps.getD k []) := by rw [List.getD_eq_getElem?_getD, List.getElem?_eq_getElem lt]; rfl
    refine ⟨a.ld _ (List.mem_of_getElem? e), a.fit k _ 2 e ?_⟩
    unfold mrm
    rw [List.getElem?_append_left (by simpa using hk), List.getElem?_replicate, if_pos hk]
  one := fun ho => by
    have ln : ps.length = (m / 2).toNat + 1 := by rw [a.len, mrm_len h]; omega
    have e : ps[(m / 2).toNat]? = some (lstP ps) := by
      unfold lstP
      rw [List.getLast?_eq_getElem?, ln, Nat.add_sub_cancel, List.getElem?_eq_getElem (by omega)]
      rfl
    refine ⟨a.ld _ (List.mem_of_getElem? e), a.fit _ _ 1 e ?_⟩
    unfold mrm
    rw [List.getElem?_append_right (by simp), List.getElem?_replicate]
    simp
    omega
theorem well_laidE {s m : Int} {ps : List (List Int)} (h1 : 2 ≤ s) (h2 : s ≤ 5) (h0 : 0 ≤ m) (p : Parts s m ps) : ∀ k, k ≤ (m / 2).toNat → WellL s 0 (2 * (k : Int)) m ((ps.take k).foldl (zw (· + ·)) (zer s)) (laidE s ps k)
  | 0, _ => well_nil (z := 0) (by omega)
  | k + 1, hk => by
    have ih := well_laidE h1 h2 h0 p k (by omega)
    obtain ⟨q1, q2⟩ := p.two k hk
    have lt : k < ps.length := by have := p.len; omega
    have w := ih.app (well_pair (m := m) (k := k) h1 h2 q1 q2 (by omega)) (by omega) (by omega)
    rw [laid_succ]
    have e : ps.take (k + 1) = ps.take k ++ [ps.getD k []] := by
      rw [List.take_add_one, List.getD_eq_getElem?_getD, List.getElem?_eq_getElem lt]
      rfl
    rw [e, List.foldl_append]
    exact w
theorem well_laid {s m : Int} {l : List Int} {ps : List (List Int)} (h1 : 2 ≤ s) (h2 : s ≤ 5) (h0 : 0 ≤ m) (a : Adds s l (mrm m) ps) : WellL s 0 m m l (laidS s m ps) := by
  have p := parts_of h0 a
  have w := well_laidE h1 h2 h0 p (m / 2).toNat (Nat.le_refl _)
  unfold laidS
  by_cases ho : m % 2 = 1
  · rw [if_pos ho]
    obtain ⟨q1, q2⟩ := p.one ho
    have w2 := well_odd (m := m) h1 h2 q1 q2 (by omega) ho
    have e : 2 * (((m / 2).toNat : Nat) : Int) = m - 1 := by omega
    rw [e] at w
    have w3 := w.app w2 (by omega) (by omega)
    have ln : ps.length = (m / 2).toNat + 1 := by have := p.len; omega
    have ee : ps = ps.take (m / 2).toNat ++ [lstP ps] := by
      have e2 : ps[(m / 2).toNat]? = some (lstP ps) := by
        unfold lstP
        rw [List.getLast?_eq_getElem?, ln, Nat.add_sub_cancel, List.getElem?_eq_getElem (by omega)]
        rfl
      have e3 := List.take_add_one (l := ps) (i := (m / 2).toNat)
      rw [e2, List.take_of_length_le (by omega)] at e3
      exact e3
    have fs : ps.foldl (zw (· + ·)) (zer s) = zw (· + ·) ((ps.take (m / 2).toNat).foldl (zw (· + ·)) (zer s)) (lstP ps) := by
      conv => lhs; rw [ee]
      rw [List.foldl_append]
      rfl
    rw [← fs, a.sum] at w3
    exact w3
  · rw [if_neg ho, List.append_nil]
    have e : 2 * (((m / 2).toNat : Nat) : Int) = m := by omega
    have ln : ps.length = (m / 2).toNat := by have := p.len; omega
    rw [e, List.take_of_length_le (by omega), a.sum] at w
    exact w
theorem nd_len {α : Type} [DecidableEq α] : ∀ (l D : List α), l.Nodup → (∀ x ∈ l, x ∈ D) → l.length ≤ D.length
  | [], _, _, _ => by simp
  | a :: l, D, h, s => by
    have ha := s a List.mem_cons_self
    have nd := List.nodup_cons.mp h
    have ih := nd_len l (D.erase a) nd.2 fun x hx => (List.mem_erase_of_ne (fun e => nd.1 (by rw [← e]; exact hx))).mpr (s x (List.mem_cons_of_mem _ hx))
    rw [List.length_erase_of_mem ha] at ih
    have := List.length_pos_of_mem ha
    rw [List.length_cons]
    omega
/-- few pins, so few switches -/
theorem few_pins {s m : Int} {l : List Int} {us : List Sw} (h2 : s ≤ 5) (h4 : m ≤ 6) (w : WellL s 0 m m l us) : (pinsOf us).length ≤ 30 := by
  have sub : ∀ p ∈ pinsOf us, p ∈ (List.range 5).flatMap fun (a : Nat) => (List.range 6).map fun (b : Nat) => ((a : Int), (b : Int)) := fun p hp => by
    obtain ⟨u, hu, h⟩ := mem_pins.mp hp
    have x := w.at_ u hu
    have r : 0 ≤ p.1 ∧ p.1 < 5 ∧ 0 ≤ p.2 ∧ p.2 < 6 := by rcases h with rfl | rfl <;> omega
    rw [List.mem_flatMap]
    refine ⟨p.1.toNat, by rw [List.mem_range]; omega, ?_⟩
    rw [List.mem_map]
    refine ⟨p.2.toNat, by rw [List.mem_range]; omega, ?_⟩
    rw [Int.toNat_of_nonneg r.1, Int.toNat_of_nonneg r.2.2.1]
  have := nd_len _ _ w.nd sub
  have e : ((List.range 5).flatMap fun (a : Nat) => (List.range 6).map fun (b : Nat) => ((a : Int), (b : Int))).length = 30 := by decide +kernel
  omega
theorem well_in {s m : Int} {l : List Int} {us : List Sw} (w : WellL s 0 m m l us) : ∀ u ∈ us, u ∈ cxs s m := fun u hu => by
  have x := w.at_ u hu
  exact cxs_mem.mpr ⟨x.1, x.2.1, x.2.2.1, x.2.2.2.1, x.2.2.2.2.1, x.2.2.2.2.2.1, x.2.2.2.2.2.2.1, x.2.2.2.2.2.2.2⟩
theorem well_perm {s m : Int} {l : List Int} {us vs : List Sw} (w : WellL s 0 m m l us) (h : vs.Perm us) : WellL s 0 m m l vs where
  at_ := fun u hu => w.at_ u (h.mem_iff.mp hu)
  nd := (pins_perm h).nodup_iff.mpr w.nd
  load := (load_perm h s).trans w.load
end K16
set_option Elab.async false
set_option linter.all false
set_option maxRecDepth 100000
set_option maxHeartbeats 4000000
namespace K16
open PySem PySem.Spec PyProof.Rows L2 Evl DL LamX
local macro_rules | `(tactic| walk_at "dl") => `(tactic| first
  | exact ev_c | exact ev_var rfl | exact eda_nil
  | exact ed_var rfl (by assumption)
  | exact ed_int ev_c | exact ed_int (ev_var rfl)
  | (refine eda_cons ?_ ?_ <;> walk_at "dl")
  | (refine ed_int ?_; walk_at "dl")
  | (refine ev_op ?_ ?_ rv_I0 <;> walk_at "dl"))

section
/-- a def with a lambda, called -/
theorem okT {P : Program} {w : World} {K : PySem.W.Frag} {mg : Str → Option Value} {base : Heap} {x qual : Str} {st : Stmt} {f c : Addr} {fd : FuncData} {N ps : List Str} {k : Nat} {sp : Sp} (F : FunC K x qual st f fd c) (S : FnScope N ps (defScope st)) (len : ∀ vs H Q E, sp vs H Q E → vs.length = ps.length)
    (body : ∀ (A : Around) (outer : List Env) (s : Shared) (H : Hp) (vs : List V) (Q : VK) (E : XK), Room k (A.deeper (envOfC qual (defScope st) s.heap.objs.size f (.ref c))) → sp vs H Q E →
      ∃ t, PSs (cxOf CX0 P w K mg base N qual (defScope st) f (.ref c) A outer s H E).nox (defBody st) t ∧ t { nx := fun _ H' => Q .non H', rt := Q } (L2.start N vs) H) : FnOk P w K mg base CX0 (k + 1) f fd ps sp := by
  obtain ⟨oc, od, kV, doc, pm, an, ct, osl, rfl, lk, hcd⟩ := F.ex
  refine ⟨len, fun A outer s H args us vs Q E hr e0 hb r h => LamX.run_ofS lk hcd S hr e0 hb r (len _ _ _ _ h) fun hr2 => ?_⟩
  obtain ⟨t, h1, h2⟩ := body A outer s H vs Q E hr2 h
  exact ⟨t, h1.nox, h2⟩
abbrev s_wire_rows : Stmt := topS 50
abbrev N_wire_rows : List Str := ["sides", "load", "side", "far", "number", "rows", "starts", "start", "row", "left", "_", "other"]
theorem sc_wire_rows : FnScope N_wire_rows ["sides", "load"] (defScope s_wire_rows) := ⟨rfl, rfl, rfl, by decide +kernel, rfl, by decide +kernel, by decide +kernel⟩
/-- the key's lambda -/
def wLam : Expr := match (defBody s_wire_rows).getD 3 (.Pass ⟨0, 0, 0, 0⟩) with
  | .Assign _ (.Call _ _ [kw] _) _ => kw.value
  | _ => .Constant .none 0 ⟨0, 0, 0, 0⟩
def lamPar : Expr → Arguments
  | .Lambda a _ _ _ => a
  | _ => { posonlyargs := [], args := [], vararg := none, kwonlyargs := [], kw_defaults := [], kwarg := none, defaults := [] }
def lamBod : Expr → Expr
  | .Lambda _ b _ _ => b
  | e => e
def lamSco : Expr → Scope
  | .Lambda _ _ s _ => s
  | _ => { kind := .function, names := [], isGenerator := false, isCoroutine := false }
def lamPos : Expr → Pos
  | .Lambda _ _ _ p => p
  | _ => ⟨0, 0, 0, 0⟩
end
section
variable {P : Program} {w : World} {K : PySem.W.Frag} {mg : Str → Option Value} {base : Heap}

/-- the key's words -/
abbrev tKey (K : PySem.W.Frag) : TE := tTup (tCons (tOp rNe (tCB (rSum K) (tCons (tOp (rIxL K) (tVar 1) (tVar 0)) tNil)) (tC (.int 1))) (tCons (tVar 0) tNil))
theorem lamD_wire {X : Cx} (hN : X.N = N_wire_rows) (hs : X.env.scope = defScope s_wire_rows) (ok : X.Ok) (T : Txt X.mg) : LamD1 X 1 (lamPar wLam) (lamBod wLam) (lamSco wLam) "one" ["one", "left"] ["left"] [9] (tKey X.K) where
  S := NdefX.nscope_by (by decide +kernel)
  caps := NdefX.Caps.made ok (by rw [hs]; decide +kernel) (by decide +kernel) (by rw [hN]; rfl)
  bind := fun q cl pm cv ctv us hl => match us, hl with | [_], _ => rfl
  run := fun A outer s H q cl f c' hr => pe_tup (pa_cons (pe_cmpR op_ne (pe_callB (cr_sum rfl) (by rfl) T.b_sum (by decide +kernel) (pa_cons (pe_ix ix_list (pv 1) (pv 0) (fun _ _ => rfl)) pa_nil)) pe_int (nomark _)) (pa_cons (pv 0) pa_nil))
end
section
variable {P : Program} {w : World} {K : PySem.W.Frag} {mg : Str → Option Value} {base : Heap}

/-! ### the matrix, made and filled -/
def DimM (m : Mx) (s : Nat) : Prop := m.length = s ∧ ∀ i, i < s → (rowM m i).length = s
theorem dim_zero (s : Nat) : DimM (zeroM s) s := by
  refine ⟨by simp [zeroM], fun i hi => ?_⟩
  rw [rowM, zeroM, List.getD_eq_getElem?_getD, List.getElem?_replicate, if_pos hi]
  simp
theorem dim_put {m : Mx} {s : Nat} (h : DimM m s) (i j : Nat) (v : Int) : DimM (putM m i j v) s := by
  refine ⟨by rw [putM, List.length_set]; exact h.1, fun k hk => ?_⟩
  rw [rowM, putM, List.getD_eq_getElem?_getD, List.getElem?_set]
  by_cases e : i = k
  · subst e
    rw [if_pos rfl, if_pos (by rw [h.1]; exact hk)]
    show ((rowM m i).set j v).length = s
    rw [List.length_set]
    exact h.2 i hk
  · rw [if_neg e, ← List.getD_eq_getElem?_getD]
    exact h.2 k hk
theorem Mat.ls {H : Hp} {L : Addr} {as : List Addr} {m : Mx} (h : Mat H L as m) : Ls H (L :: as) := fun p hp => by
  rcases List.mem_cons.mp hp with rfl | hp
  · exact ⟨_, h.1⟩
  · obtain ⟨i, hi⟩ := List.mem_iff_getElem?.mp hp
    have lt : i < m.length := by
      rw [← h.2.2.2.1]
      exact (List.getElem?_eq_some_iff.mp hi).1
    exact ⟨_, h.2.2.2.2 i p _ hi (List.getElem?_eq_getElem lt)⟩
/-- [[0] * s for _ in range(s)] -/
theorem mk_mat (K : PySem.W.Frag) {s : Int} {σ : L2.St} {H : Hp} {Q : VK} (h1 : 0 ≤ s) (h2 : s ≤ 5) (h0 : ∀ y, ((wipe σ [10]).set 10 y)[0]? = some (some (.int s))) (h0' : σ[0]? = some (some (.int s))) (hw : ∀ y, wipe ((wipe σ [10]).set 10 y) [10] = wipe σ [10])
    (q : ∀ L as H', H L = none → (∀ a ∈ as, H a = none) → Ex H H' → Mat H' L as (zeroM s.toNat) → Q (.ref L) H') :
    tLc (iRng1 (tCons (tVar 0) tNil)) (gName 10) tYes (tOp rRep (tLst (tCons (tC (.int 0)) tNil)) (tVar 0)) [10] σ H Q := by
  refine ei_rng1 (K := K) (S := []) (n := s) (eda_cons (ed_int (ev_var h0')) eda_nil) (by omega) H (Ex.refl _) _ fun J H2 e2 wk => fun Dl hD => ?_
  refine lc_it wk (fun n Ha => Ex H2 Ha ∧ ∃ as : List Addr, Ha Dl = some (.lst (as.map V.ref)) ∧ as.Nodup ∧ Dl ∉ as ∧ as.length = n ∧ (∀ a ∈ as, H2 a = none ∧ Ha a = some (.lst ((List.replicate s.toNat (0 : Int)).map V.int)))) ⟨Ex.new hD, [], upd_same, List.nodup_nil, by simp, rfl, by simp⟩ (fun n Ha _ p => Xp.of_ex p.1) (fun i x Ha Hb hlt p y => ?_) fun Ha p => ?_
  · obtain ⟨xa, as, g1, g2, g3, g4, g5⟩ := p
    obtain ⟨ey, d, hd1, hd2⟩ := y
    refine ⟨hw _, ?_⟩
    show tOp rRep (tLst (tCons (tC (.int 0)) tNil)) (tVar 0) ((wipe σ [10]).set 10 (some x)) Hb _
    refine en_rep (K := K) (d := .int 0) (n := s) (EvN.toQ (en_lst (eda_cons (ed_int ev_c) eda_nil) (by simp))) (ev_var (h0 _)) (by omega) (by omega) Hb (Ex.refl _) _ fun p ws H4 hp e4 h4 hd4 => ?_
    have hz : ws = (List.replicate s.toNat (0 : Int)).map V.int := dpa_ints (l := List.replicate s.toNat 0) (by rw [dI, List.map_replicate]; exact hd4)
    have nD : p ≠ Dl := fun z => by
      rw [z, ey _ _ g1] at hp
      cases hp
    have nH2 : H2 p = none := by
      cases e : H2 p with
      | none => rfl
      | some o =>
        rw [ey _ _ (xa _ _ e)] at hp
        cases hp
    have np : p ∉ as := fun z => by
      rw [ey _ _ (g5 p z).2] at hp
      cases hp
    have lenS : i < 5 := by
      rw [List.length_map, List.length_range] at hlt
      omega
    refine ⟨as.map V.ref, e4 _ _ (ey _ _ g1), sz_lt (by rw [List.length_map]; omega), Ex.mut (xa.trans (ey.trans e4)) hD, as ++ [p], by rw [upd_same, List.map_append]; rfl, ?_, ?_, by rw [List.length_append, g4]; rfl, fun a ha => ?_⟩
    · exact List.nodup_append.mpr ⟨g2, List.pairwise_singleton _ _, fun a ha b hb => by
        rw [List.mem_singleton.mp hb]
        exact fun z => np (z ▸ ha)⟩
    · intro z
      rcases List.mem_append.mp z with z | z
      · exact g3 z
      · exact nD (List.mem_singleton.mp z).symm
    · rcases List.mem_append.mp ha with ha | ha
      · have nb : a ≠ Dl := fun z => g3 (z ▸ ha)
        exact ⟨(g5 a ha).1, by rw [upd_ne nb]; exact e4 _ _ (ey _ _ (g5 a ha).2)⟩
      · rw [List.mem_singleton.mp ha, upd_ne nD, h4, hz]
        exact ⟨nH2, rfl⟩
  · obtain ⟨xa, as, g1, g2, g3, g4, g5⟩ := p
    rw [List.length_map, List.length_range] at g4
    refine q Dl as Ha (fresh_back e2 hD) (fun a ha => fresh_back e2 (g5 a ha).1) (e2.trans xa) ⟨g1, g2, g3, by rw [g4, zeroM, List.length_replicate], fun i a r h3 h4 => ?_⟩
    rw [(g5 a (List.mem_of_getElem? h3)).2]
    rw [zeroM, List.getElem?_replicate] at h4
    split at h4
    · cases h4
      rfl
    · cases h4
end
end K16
set_option Elab.async false
set_option linter.all false
set_option maxRecDepth 100000
set_option maxHeartbeats 4000000
/-! the starts in their order -/
namespace K16
open PySem PySem.Spec PyProof.Rows L2 Evl DL
open PySem.W (dataLe dataLt alike AllAlike Sortable)
def pK (m : Mx) (i : Int) : Bool := decide ((rowM m i.toNat).sum = 1)
def keyF (m : Mx) (i : Int) : PyData := .tuple [.bool (!pK m i), .int i]
theorem le_key (m : Mx) (a b : Int) : dataLe false (keyF m) a b = ((pK m a && !pK m b) || (decide (pK m a = pK m b) && decide (a ≤ b))) := by
  show (!dataLt (keyF m b) (keyF m a)) = _
  unfold keyF
  rw [PySem.W.dataLt_pair rfl rfl, PySem.W.dataLt_bool, PySem.W.dataLt_int]
  cases ha : pK m a <;> cases hb : pK m b <;> simp [PyData.eqv]
  all_goals first
    | decide
    | (rw [Bool.eq_iff_iff]
       simp
       omega)
theorem starts_eq (m : Mx) (n : Nat) : (rgN n).mergeSort (dataLe false (keyF m)) = (startsW m n).map fun (i : Nat) => (i : Int) := by
  refine List.Perm.eq_of_pairwise (le := fun a b => dataLe false (keyF m) a b = true) (fun a b _ _ h1 h2 => ?_) (List.pairwise_mergeSort (fun a b c h1 h2 => ?_) (fun a b => ?_) _) ?_ ?_
  · rw [le_key] at h1 h2
    cases ha : pK m a <;> cases hb : pK m b <;> simp [ha, hb] at h1 h2 <;> omega
  · rw [le_key] at h1 h2 ⊢
    cases ha : pK m a <;> cases hb : pK m b <;> cases hc : pK m c <;> simp [ha, hb, hc] at h1 h2 ⊢ <;> omega
  · rw [le_key, le_key]
    cases ha : pK m a <;> cases hb : pK m b <;> simp [ha, hb] <;> omega
  · unfold startsW
    rw [List.pairwise_map, List.pairwise_append, List.pairwise_filter, List.pairwise_filter]
    refine ⟨List.pairwise_lt_range.imp fun {a b} h pa pb => ?_, List.pairwise_lt_range.imp fun {a b} h pa pb => ?_, fun a ha b hb => ?_⟩
    · have e1 : pK m (a : Int) = true := by simpa [pK] using pa
      have e2 : pK m (b : Int) = true := by simpa [pK] using pb
      rw [le_key, e1, e2]
      simp
      omega
    · have e1 : pK m (a : Int) = false := by simpa [pK] using pa
      have e2 : pK m (b : Int) = false := by simpa [pK] using pb
      rw [le_key, e1, e2]
      simp
      omega
    · have e1 : pK m (a : Int) = true := by simpa [pK] using (List.mem_filter.mp ha).2
      have e2 : pK m (b : Int) = false := by simpa [pK] using (List.mem_filter.mp hb).2
      rw [le_key, e1, e2]
      simp
  · refine (List.mergeSort_perm _ _).trans ?_
    exact (List.Perm.map _ (List.filter_append_perm (fun i => decide ((rowM m i).sum = 1)) (List.range n))).symm
theorem key_alike (m : Mx) (n : Nat) : AllAlike ((rgN n).map (keyF m)) := fun d hd e he => by
  obtain ⟨a, _, rfl⟩ := List.mem_map.mp hd
  obtain ⟨b, _, rfl⟩ := List.mem_map.mp he
  rfl
theorem key_sortable (m : Mx) (n : Nat) : Sortable ((rgN n).map (keyF m)) := Sortable.tuples fun b => ⟨_, _, rfl⟩
theorem key_depth (m : Mx) (n : Nat) : ∀ d ∈ (rgN n).map (keyF m), d.depth ≤ 50 := fun d hd => by
  obtain ⟨a, _, rfl⟩ := List.mem_map.mp hd
  simp [keyF, PyData.depth, PyData.depthAll]
end K16
set_option Elab.async false
set_option linter.all false
set_option maxRecDepth 100000
set_option maxHeartbeats 4000000
/-! sorted(range(e), key=lambda ..), read -/
namespace DL
open PySem PySem.Spec PyProof.Rows L2 Evl LamX NdefX
open PySem.W (alike AllAlike Sortable dataLe EachIs)
theorem ev_sortL {X : Cx} {k : Nat} {params : Arguments} {body : Expr} {scope : Scope} {p : Str} {N fr : List Str} {js : List Nat} {tb te : TE} {P : Addr} {pos : Pos} {σ : L2.St} {H : Hp} {Q : VK} {n : Nat} {key : Int → PyData}
    (he : Ev te σ H (.int (n : Int))) (hT : TabS H P (X.env.qual ++ "<lambda>")) (hn : n ≤ 1000) (sm : Builtin.Range.small 0 (n : Int) 1 = true) (rs : Builtin.Range.rangeSize 0 (n : Int) 1 = (n : Int)) (al : AllAlike ((rgN n).map key)) (so : Sortable ((rgN n).map key)) (dep : ∀ d ∈ (rgN n).map key, d.depth ≤ 50)
    (turn : ∀ H5, (∀ b o, H b = some o → (∀ ps, o ≠ .tbl ps) → H5 b = some o) → KeyTurn X N (js.map (slotAt σ)) tb H5 key (rgN n))
    (q : ∀ a H6, H a = none → ExB P H H6 → (HasC H P pos → Ex H H6) → TabS H6 P (X.env.qual ++ "<lambda>") → HasC H6 P pos → H6 a = some (.lst (((rgN n).mergeSort (dataLe false key)).map V.int)) → Q (.ref a) H6) :
    tSortL X k params body scope p N fr js tb (tCons (tCB rRange1 (tCons te tNil)) tNil) (tCons (tLamB P (X.env.qual ++ "<lambda>") pos params body scope (cloFrom X.env.cells scope.names [])) tNil) σ H Q := by
  obtain ⟨ps0, hP, _, _⟩ := id hT
  refine he H (Ex.refl _) _ fun H1 e1 => ⟨_, rfl, fun r hr => ?_⟩
  have eR : Ex H (upd H1 r (.rng 0 (n : Int))) := e1.trans (Ex.new hr)
  refine ⟨hT.ext fun b o z => eR _ _ z, fun f c' H4 xB tS hC same n0 n1 hc' => ?_⟩
  have hPR := eR _ _ hP
  have nTB : ∀ b o, (upd H1 r (.rng 0 (n : Int))) b = some o → (∀ ps, o ≠ .tbl ps) → b ≠ P := fun b o z n y => by
    rw [y, hPR] at z
    exact n ps0 (Option.some.inj z).symm
  have eF : Ex H4 (upd H4 f (LamO f c' (X.env.qual ++ "<lambda>") params body scope (cloFrom X.env.cells scope.names []))) := Ex.new n1
  have rR := eF _ _ (xB r _ upd_same (nTB r _ upd_same fun _ z => nomatch z))
  refine ⟨r, f, c', n, key, rfl, rfl, rR, upd_same, eF _ _ hc', hn, sm, rs, al, so, dep, turn _ fun b o z nt => eF _ _ (xB _ _ (eR _ _ z) (nTB _ _ (eR _ _ z) nt)), fun a H6 ha e6 hs => ?_⟩
  have hHa : H a = none := by
    cases z : H a with
    | none => rfl
    | some o =>
      by_cases e : a = P
      · rw [e] at ha
        obtain ⟨ps, cv, z1, _⟩ := hC
        rw [eF _ _ z1] at ha
        cases ha
      · rw [eF _ _ (xB _ _ (eR _ _ z) e)] at ha
        cases ha
  refine q a H6 hHa (fun b o z nb => e6 _ _ (eF _ _ (xB _ _ (eR _ _ z) nb))) (fun hc b o z => ?_) (tS.ext fun b o z => e6 _ _ (eF _ _ z)) ((hC.ex eF).ex e6) hs
  have e4 := same (hc.ex eR)
  rw [e4] at eF
  exact e6 _ _ (by rw [e4]; exact eF _ _ (eR _ _ z))
end DL
set_option Elab.async false
set_option linter.all false
set_option maxRecDepth 100000
set_option maxHeartbeats 1500000
namespace K16
open PySem PySem.Spec PyProof.Rows L2 Evl DL LamX
local macro_rules | `(tactic| walk_at "dl") => `(tactic| first
  | exact ev_c | exact ev_var rfl | exact eda_nil
  | exact ed_var rfl (by assumption)
  | exact ed_int ev_c | exact ed_int (ev_var rfl)
  | (refine eda_cons ?_ ?_ <;> walk_at "dl")
  | (refine ed_int ?_; walk_at "dl")
  | (refine ev_op ?_ ?_ rv_I0 <;> walk_at "dl"))

section
variable {P : Program} {w : World} {K : PySem.W.Frag} {mg : Str → Option Value} {base : Heap}

def prD (p : Nat × Nat) : PyData := tI [(p.1 : Int), (p.2 : Int)]
/-- rows of pairs at p -/
def RowsAt (K : PySem.W.Frag) (H : Hp) (p : Addr) (bs : List Addr) (rows : List (List (Nat × Nat))) : Prop := H p = some (.lst (bs.map V.ref)) ∧ Paired (fun b r => ∃ ws, H b = some (.lst ws) ∧ DpAll K H ws (r.map prD)) bs rows
abbrev qW : Str := (("wire_rows" : Str) ++ ".<locals>.") ++ "<lambda>"
abbrev pW : Pos := lamPos wLam
theorem imm_pr (p : Nat × Nat) : imm (prD p) = true := by simp [prD, imm, immAll]
def spWire (K : PySem.W.Frag) (tb : Addr) : Sp := fun vs H Q _ => ∃ (s : Int) (l : List Int) (rows : List (List (Nat × Nat))) (v : V), vs = [.int s, v] ∧ 2 ≤ s ∧ s ≤ 5 ∧ Dp K H v (tI l) ∧ Ld s l ∧ wireW s l = some rows ∧ TabS H tb qW ∧
  ((HasC H tb (lamPos wLam) ∧ ∀ p bs H', H p = none → (∀ b ∈ bs, H b = none) → Ex H H' → RowsAt K H' p bs rows → Q (.ref p) H') ∨ ∀ p bs H', H p = none → (∀ b ∈ bs, H b = none) → ExB tb H H' → TabS H' tb qW → HasC H' tb (lamPos wLam) → RowsAt K H' p bs rows → Q (.ref p) H')
theorem given_first {n : Nat} {f : Nat → Bool} {v : Nat → V} {k : Nat} (hk : k < n) (h1 : f k = true) (h0 : ∀ j, j < k → f j = false) : (given n f v)[0]? = some (v k) := by
  have nil : ∀ j, j ≤ k → given j f v = [] := fun j => by
    induction j with
    | zero => intro _; rfl
    | succ j ih => intro hj; rw [given_no (h0 j (by omega)), ih (by omega)]
  have more : ∀ m, (given (k + 1 + m) f v)[0]? = some (v k) := fun m => by
    induction m with
    | zero => rw [Nat.add_zero, given_yes h1, nil k (Nat.le_refl _)]; rfl
    | succ m ih =>
      rw [← Nat.add_assoc]
      cases e : f (k + 1 + m) with
      | true =>
        rw [given_yes e, List.getElem?_append_left]
        · exact ih
        · exact (List.getElem?_eq_some_iff.mp ih).1
      | false => rw [given_no e]; exact ih
  have := more (n - (k + 1))
  rwa [show k + 1 + (n - (k + 1)) = n by omega] at this
theorem far_at {r : List Int} (h : farOf r < r.length) : 0 < r.getD (farOf r) 0 ∧ ∀ j, j < farOf r → ¬ 0 < r.getD j 0 := by
  have h1 := List.findIdx_getElem (p := fun x => decide ((0 : Int) < x)) (xs := r) (w := h)
  refine ⟨?_, fun j hj => ?_⟩
  · rw [List.getD_eq_getElem?_getD, List.getElem?_eq_getElem h]
    exact of_decide_eq_true h1
  · have h2 := List.not_of_lt_findIdx (p := fun x => decide ((0 : Int) < x)) (xs := r) hj
    rw [List.getD_eq_getElem?_getD, List.getElem?_eq_getElem (by unfold farOf at hj h; omega)]
    simpa using h2
theorem Xp.updN {S : List Addr} {H H1 : Hp} {p : Addr} {o : HO} (a : Xp S H H1) (hp : H p = none) : Xp S H (L2.upd H1 p o) := fun x u h n => by
  rw [upd_ne (ne_of_none h hp)]
  exact a x u h n
theorem Xp.less {S S' : List Addr} {H H1 : Hp} (a : Xp S H H1) (h : ∀ x ∈ S, x ∈ S' ∨ H x = none) : Xp S' H H1 := fun x u hx n => a x u hx fun z => by
  rcases h x z with y | y
  · exact n y
  · rw [y] at hx
    cases hx
theorem fill_dim {s : Nat} : ∀ (ps : List ((Int × Int) × Int)) (m : Mx), DimM m s → DimM (fillM ps m) s
  | [], _, h => h
  | p :: ps, m, h => fill_dim ps _ (dim_put (dim_put h _ _ _) _ _ _)
theorem fill_snoc (ps : List ((Int × Int) × Int)) (p : (Int × Int) × Int) (m : Mx) : fillM (ps ++ [p]) m = putM (putM (fillM ps m) p.1.1.toNat p.1.2.toNat p.2) p.1.2.toNat p.1.1.toNat p.2 := by
  unfold fillM
  rw [List.foldl_append]
  rfl
/-- while a row of wires is walked -/
def WP (K : PySem.W.Frag) (s : Int) (v : V) (c : Option V) (R SA W L : Addr) (as : List Addr) (st : Nat) (H8 : Hp) (mE : Mx) (r : List (Nat × Nat)) (f : Nat) (σw : L2.St) (Hw : Hp) : Prop := ∃ m' i' acc', walkW f m' i' acc' = some (mE, r) ∧ i' < s.toNat ∧ Mat Hw L as m' ∧ DimM m' s.toNat ∧ Xp (W :: L :: as) H8 Hw ∧
  (∃ ws, Hw W = some (.lst ws) ∧ DpAll K Hw ws (acc'.map prD)) ∧ acc'.length + f = 25 ∧ ∃ y3, σw = [some (.int s), some v, some (.int (i' : Int)), y3, c, some (.ref R), some (.ref SA), some (.int (st : Int)), some (.ref W), some (.ref L), none, none]
/-- at the i-th start -/
def MP (K : PySem.W.Frag) (s : Int) (v : V) (c : Option V) (R SA L : Addr) (as : List Addr) (sts : List Nat) (rows : List (List (Nat × Nat))) (H6 : Hp) (i : Nat) (σ' : L2.St) (Ha : Hp) : Prop := Xp (R :: L :: as) H6 Ha ∧ ∃ m acc bs, rowsW (sts.drop i) m acc = some rows ∧ Mat Ha L as m ∧ DimM m s.toNat ∧ RowsAt K Ha R bs acc ∧
  (∀ b ∈ bs, b ∉ R :: L :: as ∧ H6 b = none) ∧ acc.length = i ∧ ∃ y2 y3 y7 y8, σ' = [some (.int s), some v, y2, y3, c, some (.ref R), some (.ref SA), y7, y8, some (.ref L), none, none]
theorem paired_xp {K : PySem.W.Frag} {H H' : Hp} {S : List Addr} (x : Xp S H H') (t : Tx H H') : ∀ {bs : List Addr} {rows : List (List (Nat × Nat))}, (∀ b ∈ bs, b ∉ S) → Paired (fun b r => ∃ ws, H b = some (.lst ws) ∧ DpAll K H ws (r.map prD)) bs rows → Paired (fun b r => ∃ ws, H' b = some (.lst ws) ∧ DpAll K H' ws (r.map prD)) bs rows
  | _, _, _, .nil => .nil
  | _, _, n, .cons ⟨ws, h1, h2⟩ r => .cons ⟨ws, x _ _ h1 (n _ List.mem_cons_self), dpa_tx t _ _ (immAll_map imm_pr _) h2⟩ (paired_xp x t (fun b hb => n b (List.mem_cons_of_mem _ hb)) r)
theorem paired_snoc {α β : Type} {F : α → β → Prop} {a : α} {b : β} (h : F a b) : ∀ {xs : List α} {ys : List β}, Paired F xs ys → Paired F (xs ++ [a]) (ys ++ [b])
  | _, _, .nil => .cons h .nil
  | _, _, .cons x r => .cons x (paired_snoc h r)
theorem Mat.other {H : Hp} {L W : Addr} {as : List Addr} {m : Mx} {o : HO} (h : Mat H L as m) (n : W ∉ L :: as) : Mat (upd H W o) L as m :=
  ⟨by rw [upd_ne fun z => n (by rw [← z]; exact List.mem_cons_self)]; exact h.1, h.2.1, h.2.2.1, h.2.2.2.1, fun i a r h1 h2 => by
    rw [upd_ne fun z => n (by rw [← z]; exact h.in_ h1)]
    exact h.2.2.2.2 i a r h1 h2⟩
theorem paired_some {K : PySem.W.Frag} {H : Hp} : ∀ {bs : List Addr} {rows : List (List (Nat × Nat))}, Paired (fun b r => ∃ ws, H b = some (.lst ws) ∧ DpAll K H ws (r.map prD)) bs rows → (∀ b ∈ bs, ∃ o, H b = some o) ∧ bs.length = rows.length
  | _, _, .nil => ⟨by simp, rfl⟩
  | _, _, .cons ⟨ws, h1, h2⟩ r => by
    obtain ⟨a, l⟩ := paired_some r
    exact ⟨fun b hb => by
      rcases List.mem_cons.mp hb with rfl | hb
      · exact ⟨_, h1⟩
      · exact a b hb, congrArg (· + 1) l⟩
theorem tab_xp {H H' : Hp} {S : List Addr} {tb : Addr} {q : Str} {pos : Pos} (x : Xp S H H') (ls : Ls H S) (t : TabS H tb q) (c : HasC H tb pos) : TabS H' tb q ∧ HasC H' tb pos := by
  obtain ⟨ps, h1, h2, h3⟩ := t
  have out : ∀ b o, H b = some o → (∀ l, o ≠ .lst l) → b ∉ S := fun b o hb n z => by
    obtain ⟨l, hl⟩ := ls b z
    rw [hl] at hb
    exact n l (Option.some.inj hb).symm
  have k1 : H' tb = some (.tbl ps) := x _ _ h1 (out _ _ h1 fun _ z => nomatch z)
  refine ⟨⟨ps, k1, h2, fun p cv hc => ?_⟩, ?_⟩
  · obtain ⟨c0, e1, e2⟩ := h3 p cv hc
    exact ⟨c0, e1, x _ _ e2 (out _ _ e2 fun _ z => by unfold CodeO at z; cases z)⟩
  · obtain ⟨ps', cv, z1, z2⟩ := c
    rw [h1] at z1
    cases z1
    exact ⟨ps, cv, k1, z2⟩
theorem q_te {te : TE} {tz : TS} {D : Ends} {σ : L2.St} {H : Hp} {i : Nat} (h : te σ H fun v H1 => tz D (σ.set i (some v)) H1) : tSeq (tAsg te (gName i)) tz D σ H := h
theorem ok_wire_rows {f cc tb : Addr} {fd : FuncData} (F : FunC K "wire_rows" "wire_rows" s_wire_rows f fd cc) (T : Txt mg) (TB : TabB base mg cc tb) (D_side_pairs : DF P w K mg base "side_pairs" 1 ["sides"] (spN K 1 R_side_pairs)) :
    FnOk P w K mg base CX0 9 f fd ["sides", "load"] (spWire K tb) := by
  refine okT F sc_wire_rows (fun vs H Q E h => by obtain ⟨_, _, _, _, rfl, _⟩ := h; rfl) (fun A outer s0 H vs Q E hr h => ?_)
  have D1 := fun ok => lamD_wire (X := (cxOf CX0 P w K mg base N_wire_rows "wire_rows" (defScope s_wire_rows) f (.ref cc) A outer s0 H E).nox) rfl rfl ok T
  obtain ⟨s, l, rows, v, rfl, h1, h2, hv, hl, hw, hT, fin⟩ := h
  refine ⟨_, (pss_cons (ps_set (i := 9) sc_wire_rows.nd rfl (.inr rfl) (pe_lc (own := [("_", 10)]) (g := (gName 10)) (tt := tYes) rfl sc_wire_rows.nd (pi_range1 (by rfl) T.b_range (pa_cons (pv 0) pa_nil)) (blkOk_by (N := N_wire_rows) (sc := defScope s_wire_rows) (by decide +kernel)) (fun _ _ _ _ _ => (pg_name (i := 10) sc_wire_rows.nd rfl (Or.inl rfl))) (fun _ _ _ _ _ => pts_nil) (fun _ _ _ _ _ => (pe_op op_rep (pe_lst (pa_cons pe_int pa_nil)) (pv 0)))))
      (pss_cons (ps_for PassesOwn.never rfl (pi_zipM false true (by rfl) T.b_zip (pa_cons (pe_D D_side_pairs (hr.mono (by decide)) (by rfl) (pa_cons (pv 0) pa_nil)) (pa_cons (pv 1) pa_nil))) (pg_tup rfl (pgs_cons (pg_tup rfl (pgs_cons (pg_name (i := 2) sc_wire_rows.nd rfl (Or.inr rfl)) (pgs_cons (pg_name (i := 3) sc_wire_rows.nd rfl (Or.inl rfl)) pgs_nil))) (pgs_cons (pg_name (i := 4) sc_wire_rows.nd rfl (Or.inl rfl)) pgs_nil))) (pss_cons (ps_asg (pv 4) (pg_sub (pe_ix ix_list (pv 9) (pv 2) (fun _ _ => rfl)) (pv 3) set_list))
      (pss_one (ps_asg (pv 4) (pg_sub (pe_ix ix_list (pv 9) (pv 3) (fun _ _ => rfl)) (pv 2) set_list)))))
      (pss_cons (ps_set (i := 5) sc_wire_rows.nd rfl (.inl rfl) (pe_lst pa_nil))
      (pss_cons (ps_set (i := 6) sc_wire_rows.nd rfl (.inl rfl) (pe_sortL (k := 1) rfl (fun ok => D1 ok) (hr.mono (by decide)) rfl (by rfl) T.b_sorted (pa_cons (pe_callTy cr_range1 (by rfl) T.b_range (by decide +kernel) (pa_cons (pv 0) pa_nil)) pa_nil) (pk_cons (pe_lamB (params := lamPar wLam) (body := lamBod wLam) (scope := lamSco wLam) (pos := lamPos wLam) TB rfl (lamF_by (by show lamFB (defScope s_wire_rows) (lamSco wLam) = true; decide +kernel)) rfl) pk_nil)))
      (pss_cons (ps_for PassesOwn.never rfl (pi_list (pv 6)) (pg_name (i := 7) sc_wire_rows.nd rfl (Or.inl rfl)) (pss_cons (ps_set (i := 8) sc_wire_rows.nd rfl (.inl rfl) (pe_lst pa_nil))
      (pss_cons (ps_set (i := 2) sc_wire_rows.nd rfl (.inr rfl) (pv 7))
      (pss_cons (ps_while PassesOwn.never (pt_cmpR op_gt (pe_callB (cr_sum rfl) (by rfl) T.b_sum (by decide +kernel) (pa_cons (pe_ix ix_list (pv 9) (pv 2) (fun _ _ => rfl)) pa_nil)) pe_int (nomark _)) (pss_cons (ps_set (i := 3) sc_wire_rows.nd rfl (.inl rfl) (pe_ix ix_list (pe_lc (own := [("other", 11)]) (g := (gName 11)) (tt := _) rfl sc_wire_rows.nd (pi_range1 (by rfl) T.b_range (pa_cons (pv 0) pa_nil)) (blkOk_by (N := N_wire_rows) (sc := defScope s_wire_rows) (by decide +kernel)) (fun _ _ _ _ _ => (pg_name (i := 11) sc_wire_rows.nd rfl (Or.inl rfl))) (fun _ _ _ _ _ => (pts_one (pt_cmpR op_gt (pe_ix (ix_listK K rfl) (pe_ix (ix_listK K rfl) (pv 9) (pv 2) (fun _ _ => rfl)) (pv 11) (fun _ _ => rfl)) pe_int (nomark _)))) (fun _ _ _ _ _ => (pv 11))) pe_int (fun _ _ => rfl)))
      (pss_cons (ps_augS (pe_ix ix_list (pv 9) (pv 2) (fun _ _ => rfl)) (pv 3) get_list pe_int ip_sub set_list)
      (pss_cons (ps_augS (pe_ix ix_list (pv 9) (pv 3) (fun _ _ => rfl)) (pv 2) get_list pe_int ip_sub set_list)
      (pss_cons (ps_expr (pe_bm PySem.F.plainAttrs_list PySem.F.slot_list_append PySem.F.type_list_append mt_append (pv 8) (pa_cons (pe_tup (pa_cons (pv 2) (pa_cons (pv 3) pa_nil))) pa_nil)))
      (pss_one (ps_set (i := 2) sc_wire_rows.nd rfl (.inr rfl) (pv 3))))))))
      (pss_one (ps_expr (pe_bm PySem.F.plainAttrs_list PySem.F.slot_list_append PySem.F.type_list_append mt_append (pv 5) (pa_cons (pv 8) pa_nil))))))))
      (pss_one (ps_ret (pv 5)))))))), ?_⟩
  refine q_te ?_
  refine mk_mat K (s := s) (by omega) h2 ?_ ?_ ?_ fun L as H1 hL hA e1 M1 => ?_
  · exact fun _ => rfl
  · rfl
  · exact fun _ => rfl
  have np10 := np_le h1 h2
  have d1 := dp_ex e1 _ _ hv
  refine e_for (S := L :: as) (ei_zipNT (K := K) (ps := prs s) (b := l) M1.ls (en_call (R := R_side_pairs) (ds := [.int s]) (eda_cons (ed_int (ev_var rfl)) eda_nil) rfl ⟨s, rfl, by omega, h2, rfl⟩) (ed_var (v := v) rfl d1))
    (fun H2 i σ' Ha => Xp (L :: as) H2 Ha ∧ Mat Ha L as (fillM (((prs s).zip l).take i) (zeroM s.toNat)) ∧ ∃ a b c, σ' = [some (.int s), some v, a, b, c, none, none, none, none, some (.ref L), none, none])
    (fun H2 e2 => ⟨Xp.refl _ _, M1.ex e2, none, none, none, rfl⟩) (fun H2 i σ' Ha _ q => q.1) ?_ ?_
  · rintro H2 i d y σ' Ha Hb e2 hg ⟨p1, p2, a, b, c, rfl⟩ e3 hd2
    rw [List.getElem?_zipWith] at hg
    cases g1 : (prs s)[i]? with
    | none => rw [g1] at hg; simp at hg
    | some pp =>
      cases g2 : l[i]? with
      | none => rw [g1, g2] at hg; simp at hg
      | some n =>
        rw [g1, g2] at hg
        have hg : PyData.tuple [pD pp, .int n] = d := by simpa using hg
        subst hg
        obtain ⟨q1, q2, q3⟩ := prs_in (by omega) h2 (List.mem_of_getElem? g1)
        refine g_two hd2 fun w1 w2 u1 u2 => ?_
        refine g_two (d1 := .int pp.1) (d2 := .int pp.2) u1 fun w3 w4 u3 u4 => ?_
        cases dp_int u2
        cases dp_int u3
        cases dp_int u4
        have dm := fill_dim (((prs s).zip l).take i) _ (dim_zero s.toNat)
        have t1 : ((pp.1.toNat : Nat) : Int) = pp.1 := Int.toNat_of_nonneg q1
        have t2 : ((pp.2.toNat : Nat) : Int) = pp.2 := Int.toNat_of_nonneg (by omega)
        refine q_putM (k := 9) (i := pp.1.toNat) (j := pp.2.toNat) (p2.ex e3) (by rw [dm.1]; omega) (by rw [dm.2 _ (by omega)]; omega) rfl (ev_is (ev_var rfl) (by rw [t1])) (ev_is (ev_var rfl) (by rw [t2])) (ev_var rfl) fun H3 x3 M3 => ?_
        have dm2 := dim_put dm pp.1.toNat pp.2.toNat n
        refine s_putM (k := 9) (i := pp.2.toNat) (j := pp.1.toNat) M3 (by rw [dm2.1]; omega) (by rw [dm2.2 _ (by omega)]; omega) rfl (ev_is (ev_var rfl) (by rw [t2])) (ev_is (ev_var rfl) (by rw [t1])) (ev_var rfl) fun H4 x4 M4 => ?_
        refine ⟨((p1.then e3).trans x3).trans x4, ?_, _, _, _, rfl⟩
        rw [List.take_add_one, show ((prs s).zip l)[i]? = some (pp, n) by rw [List.getElem?_zip_eq_some]; exact ⟨g1, g2⟩, Option.toList_some, fill_snoc]
        exact M4
  · rintro H2 σ' Ha e2 ⟨p1, p2, a, b, c, rfl⟩
    rw [List.length_zipWith, List.take_of_length_le (by rw [List.length_zip]; omega)] at p2
    have p2 : Mat Ha L as (loadM s l) := p2
    have dm : DimM (loadM s l) s.toNat := fill_dim _ _ (dim_zero s.toNat)
    have eHa : Ex H Ha := fun x o hx => p1 x o (e2 _ _ (e1 _ _ hx)) (fun z => by
      rcases List.mem_cons.mp z with z | z
      · rw [z, hL] at hx; cases hx
      · rw [hA x z] at hx; cases hx)
    refine qn_asg (K := K) (en_lst eda_nil (by simp)) fun R ws0 H3 hR e3 hR3 hd0 => ?_
    cases hd0
    have M3 : Mat H3 L as (loadM s l) := p2.ex e3
    obtain ⟨ps0, hP0, tri0, among0⟩ := id hT
    have eH3 : Ex H H3 := eHa.trans e3
    have nRL : R ≠ L := fun z => by rw [z, p2.1] at hR; cases hR
    have nRas : R ∉ as := fun z => by
      obtain ⟨lw, hlw⟩ := p2.ls R (List.mem_cons_of_mem _ z)
      rw [hlw] at hR
      cases hR
    have sN : ((s.toNat : Nat) : Int) = s := Int.toNat_of_nonneg (by omega)
    have s4 : s = 2 ∨ s = 3 ∨ s = 4 ∨ s = 5 := by omega
    refine q_te ?_
    have qe : (cxOf CX0 P w K mg base N_wire_rows (Str.ofString "wire_rows") (defScope s_wire_rows) f (Value.ref cc) A outer s0 H E).nox.env.qual ++ (Str.ofString "<lambda>") = qW := congrArg (fun z : Str => z ++ Str.ofString "<lambda>") (show (cxOf CX0 P w K mg base N_wire_rows (Str.ofString "wire_rows") (defScope s_wire_rows) f (Value.ref cc) A outer s0 H E).nox.env.qual = Str.ofString "wire_rows" ++ Str.ofString ".<locals>." from rfl)
    generalize lamPar wLam = par
    generalize lamBod wLam = bod
    generalize lamSco wLam = sco
    generalize lamPos wLam = lps at fin ⊢
    refine ev_sortL (n := s.toNat) (key := keyF (loadM s l)) ?_ ?_ (by omega) ?_ ?_ (key_alike _ _) (key_sortable _ _) (key_depth _ _) (fun H5 to5 => ?_) fun SA H6 hSA xB same6 T6 hC6 hS6 => ?_
    · rw [sN]
      exact ev_var rfl
    · rw [qe]
      exact hT.ext fun b o z => eH3 _ _ z
    · rcases s4 with rfl | rfl | rfl | rfl <;> decide
    · rcases s4 with rfl | rfl | rfl | rfl <;> decide
    · have M5 : Mat H5 L as (loadM s l) := ⟨to5 _ _ M3.1 (fun _ z => nomatch z), M3.2.1, M3.2.2.1, M3.2.2.2.1, fun i a r h3 h4 => to5 _ _ (M3.2.2.2.2 i a r h3 h4) fun _ z => nomatch z⟩
      intro i hi H7 e7 Q1 q1
      obtain ⟨j, hj, rfl⟩ := List.mem_map.mp hi
      have hj := List.mem_range.mp hj
      refine ed_tup (K := K) (ds := [.bool (!pK (loadM s l) (j : Int)), .int (j : Int)]) (eda_cons (ed_bool (ev_is (ev_op (ev_rsum (k := 1) (i := j) (M5.ex e7) (by rw [dm.1]; exact hj) rfl (ev_var rfl)) ev_c (rv_ne rfl)) ?_)) (eda_cons (ed_int (ev_var rfl)) eda_nil)) (by simp) H7 (Ex.refl _) Q1 q1
      rw [decide_vint]
      rfl
    · have nTB : ∀ b o, H3 b = some o → (∀ ps, o ≠ .tbl ps) → b ≠ tb := fun b o z n y => by
        rw [y, eH3 _ _ hP0] at z
        exact n ps0 (Option.some.inj z).symm
      have M6 : Mat H6 L as (loadM s l) := ⟨xB _ _ M3.1 (nTB _ _ M3.1 fun _ z => nomatch z), M3.2.1, M3.2.2.1, M3.2.2.2.1, fun i a r h3 h4 => xB _ _ (M3.2.2.2.2 i a r h3 h4) (nTB _ _ (M3.2.2.2.2 i a r h3 h4) fun _ z => nomatch z)⟩
      have R6 : H6 R = some (.lst []) := xB _ _ hR3 (nTB _ _ hR3 fun _ z => nomatch z)
      rw [starts_eq] at hS6
      rw [qe] at T6
      have nSA : SA ∉ R :: L :: as := fun z => by
        rcases List.mem_cons.mp z with z | z
        · rw [z, hR3] at hSA; cases hSA
        · rcases List.mem_cons.mp z with z | z
          · rw [z, M3.1] at hSA; cases hSA
          · obtain ⟨lw, hlw⟩ := M3.ls SA (List.mem_cons_of_mem _ z)
            rw [hlw] at hSA; cases hSA
      refine q_forL (K := K) (ev_var rfl) (sq_of hS6) (MP K s v c R SA L as (startsW (loadM s l) s.toNat) rows H6) (fun H7 e7 => ?_) (fun i σ' H' _ p => sq_of (p.1 SA _ hS6 nSA)) ?_ ?_
      · exact ⟨Xp.of_ex e7, loadM s l, [], [], hw, M6.ex e7, dm, ⟨e7 _ _ R6, .nil⟩, by simp, rfl, _, _, _, _, rfl⟩
      · rintro i x σ' Ha hx ⟨xa, m, acc, bs, hrw, Mm, Dm, ⟨gR, pr⟩, nb, lac, y2, y3, y7, y8, rfl⟩
        rw [List.getElem?_map, List.getElem?_map] at hx
        cases hst : (startsW (loadM s l) s.toNat)[i]? with
        | none => rw [hst] at hx; cases hx
        | some st =>
          rw [hst] at hx
          cases hx
          have stlt : st < s.toNat := by
            have := List.mem_of_getElem? hst
            unfold startsW at this
            rcases List.mem_append.mp this with z | z <;> exact List.mem_range.mp (List.mem_filter.mp z).1
          have idx := (List.getElem?_eq_some_iff.mp hst).1
          rw [List.drop_eq_getElem_cons idx, show (startsW (loadM s l) s.toNat)[i] = st from (List.getElem?_eq_some_iff.mp hst).2, rowsW] at hrw
          cases hwk : walkW 25 m st [] with
          | none => rw [hwk] at hrw; cases hrw
          | some pr2 =>
            obtain ⟨mE, rr⟩ := pr2
            rw [hwk] at hrw
            have hrw : rowsW ((startsW (loadM s l) s.toNat).drop (i + 1)) mE (acc ++ [rr]) = some rows := hrw
            refine qn_asg (K := K) (en_lst eda_nil (by simp)) fun W ws0 H7 hW e7 hW7 hd0 => ?_
            cases hd0
            have nWR : W ≠ R := fun z => by rw [z, gR] at hW; cases hW
            have nWL : W ∉ L :: as := fun z => by
              obtain ⟨lw, hlw⟩ := Mm.ls W z
              rw [hlw] at hW; cases hW
            refine qi_asg (v := .int (st : Int)) (ev_var rfl) fun H8 e8 => ?_
            refine q_while (WP K s v c R SA W L as st H8 mE rr) 25 ⟨m, st, [], hwk, stlt, (Mm.ex e7).ex e8, Dm, Xp.refl _ _, ⟨[], e8 _ _ hW7, .nil⟩, rfl, _, rfl⟩ ?_
            rintro f2 σw Hw ⟨m', i', acc', hwk', hi', M', D', xw, ⟨ws, gW, gd⟩, lf, yy, rfl⟩
            refine ⟨decide (0 < (rowM m' i').sum), et_test (ev_op (ev_rsum (k := 9) (i := i') M' (by rw [D'.1]; exact hi') rfl (ev_var rfl)) ev_c rv_I0), fun hb H9 e9 => ?_, fun hb H9 e9 => ?_⟩
            · cases f2 with
              | zero => simp [walkW] at hwk'
              | succ f2 =>
                rw [walkW, if_pos (of_decide_eq_true hb)] at hwk'
                by_cases hf : farOf (rowM m' i') < (rowM m' i').length
                · rw [if_pos hf] at hwk'
                  have ls := D'.2 i' hi'
                  have hf2 : farOf (rowM m' i') < s.toNat := by rw [← ls]; exact hf
                  obtain ⟨fp, fn⟩ := far_at hf
                  refine ⟨WP K s v c R SA W L as st H8 mE rr f2, fun σ2 H2 n => ⟨f2, Nat.lt_succ_self _, n⟩, ?_⟩
                  have M9 := M'.ex e9
                  refine qi_asg (v := .int ((farOf (rowM m' i') : Nat) : Int)) (ev_opL1 (el_lcR1 (n := s) (fun j => decide (0 < getM m' i' j)) (fun j => .int (j : Int)) (ea_cons (ev_var rfl) ea_nil) (by omega) (fun _ => rfl) (fun j H1 e1 hj => et_test (ev_op (ev_cell (k := 9) (i := i') (j := j) (M9.ex e1) (by rw [D'.1]; exact hi') (by rw [ls]; omega) rfl (ev_var rfl) (ev_var rfl)) ev_c rv_I0)) (fun j H1 e1 hj _ => ev_var rfl)) (fun _ _ => ev_c) (fun p H1 hp e1 => rv_ixL (i := ((0 : Nat) : Int)) (sq_of hp) (atI_nat (given_first hf2 (decide_eq_true fp) fun j hj => decide_eq_false (fn j hj))))) fun H10 e10 => ?_
                  have D1 : DimM (decM m' i' (farOf (rowM m' i'))) s.toNat := dim_put D' _ _ _
                  refine q_decM (k := 9) (i := i') (j := farOf (rowM m' i')) (M9.ex e10) (by rw [D'.1]; exact hi') hf rfl (ev_var rfl) (ev_var rfl) fun H11 x11 M11 => ?_
                  refine q_decM (k := 9) (i := farOf (rowM m' i')) (j := i') M11 (by rw [D1.1]; exact hf2) (by rw [D1.2 _ hf2]; exact hi') rfl (ev_var rfl) (ev_var rfl) fun H12 x12 M12 => ?_
                  have t12 : Tx H10 H12 := (x11.tx (M9.ex e10).ls).trans (x12.tx M11.ls)
                  have g12 := x12 _ _ (x11 _ _ (e10 _ _ (e9 _ _ gW)) nWL) nWL
                  have d12 := dpa_tx t12 _ _ (immAll_map imm_pr _) (dpa_ex (e9.trans e10) _ _ gd)
                  have lw := dpa_len d12
                  rw [List.length_map] at lw
                  refine qd_app (l := W) (xs := ws) g12 (ev_var rfl) (d := prD (i', farOf (rowM m' i'))) (ed_tup (ds := dI [(i' : Int), ((farOf (rowM m' i') : Nat) : Int)]) (eda_cons (ed_int (ev_var rfl)) (eda_cons (ed_int (ev_var rfl)) eda_nil)) (by simp)) (by omega) fun u H13 e13 hu => ?_
                  refine s_asg (ev_var rfl) fun H14 e14 => ?_
                  have D2 : DimM (decM (decM m' i' (farOf (rowM m' i'))) (farOf (rowM m' i')) i') s.toNat := dim_put D1 _ _ _
                  have gg : H13 W = some (.lst ws) := e13 _ _ g12
                  refine ⟨_, farOf (rowM m' i'), acc' ++ [(i', farOf (rowM m' i'))], hwk', hf2, ((M12.ex e13).other nWL).ex e14, D2, Xp.then (Xp.upd (Xp.then ((Xp.less (((Xp.then xw e9).then e10)) (fun x hx => .inl hx)).trans (Xp.less (x11.trans x12) fun x hx => .inl (List.mem_cons_of_mem _ hx))) e13) List.mem_cons_self) e14, ⟨ws ++ [u], e14 _ _ upd_same, ?_⟩, by rw [List.length_append]; simp; omega, _, rfl⟩
                  rw [List.map_append]
                  exact dpa_ex e14 _ _ (dpa_app (dpa_tx (Tx.lst gg) _ _ (immAll_map imm_pr _) (dpa_ex e13 _ _ d12)) (.cons (dp_tx (Tx.lst gg) _ _ (imm_pr _) hu) .nil))
                · rw [if_neg hf] at hwk'
                  cases hwk'
            · cases f2 with
              | zero => simp [walkW] at hwk'
              | succ f2 =>
                rw [walkW, if_neg (of_decide_eq_false hb)] at hwk'
                cases hwk'
                obtain ⟨ps1, ps2⟩ := paired_some pr
                have nRWL : R ∉ W :: L :: as := fun z => by
                  rcases List.mem_cons.mp z with z | z
                  · exact nWR z.symm
                  · rcases List.mem_cons.mp z with z | z
                    · exact nRL z
                    · exact nRas z
                have gR9 := e9 _ _ (xw _ _ (e8 _ _ (e7 _ _ gR)) nRWL)
                have lb : i < 100000 := by
                  have l0 : (startsW (loadM s l) s.toNat).length ≤ 2 * s.toNat := by
                    unfold startsW
                    rw [List.length_append]
                    have a1 := List.length_filter_le (fun i => decide ((rowM (loadM s l) i).sum = 1)) (List.range s.toNat)
                    have b1 := List.length_filter_le (fun i => !decide ((rowM (loadM s l) i).sum = 1)) (List.range s.toNat)
                    rw [List.length_range] at a1 b1
                    omega
                  omega
                refine s_app (l := R) (v := .ref W) gR9 (ev_var rfl) (ev_var rfl) (by rw [List.length_map, ps2, lac]; exact lb) fun H10 e10 => ?_
                have x8 : Xp (R :: L :: as) H6 H8 := (xa.then e7).then e8
                have xW : Xp (R :: L :: as) H6 Hw := fun x o hx nx => xw x o (x8 x o hx nx) fun z => by
                  rcases List.mem_cons.mp z with z | z
                  · have := xa x o hx nx
                    rw [z, hW] at this
                    cases this
                  · exact nx (List.mem_cons_of_mem _ z)
                have lsW : Ls H8 (W :: L :: as) := Ls.cons (e8 _ _ hW7) ((Mm.ex e7).ex e8).ls
                have g10 : H10 R = _ := e10 _ _ gR9
                have pA := paired_xp (S := []) (Xp.of_ex (e7.trans e8)) (Tx.of_ex (e7.trans e8)) (fun _ _ => by simp) pr
                have pB := paired_xp xw (xw.tx lsW) (fun b hb z => by
                  rcases List.mem_cons.mp z with z | z
                  · obtain ⟨o, ho⟩ := ps1 b hb
                    rw [z, hW] at ho
                    cases ho
                  · exact (nb b hb).1 (List.mem_cons_of_mem _ z)) pA
                have pC := paired_xp (S := []) (Xp.of_ex (e9.trans e10)) (Tx.of_ex (e9.trans e10)) (fun _ _ => by simp) pB
                have pD' := paired_xp (S := [R]) (H' := upd H10 R (.lst (bs.map V.ref ++ [.ref W]))) (Xp.upd (Xp.refl _ _) (by simp)) (Tx.lst g10) (fun b hb z => (nb b hb).1 (by rw [List.mem_singleton.mp z]; exact List.mem_cons_self)) pC
                have nR2 : R ∉ L :: as := fun z => nRWL (List.mem_cons_of_mem _ z)
                refine ⟨Xp.upd ((xW.then e9).then e10) List.mem_cons_self, mE, acc ++ [rr], bs ++ [W], hrw, ((M'.ex e9).ex e10).other nR2, D', ⟨by rw [upd_same, List.map_append]; rfl, paired_snoc ⟨ws, ?_, ?_⟩ pD'⟩, fun b hbb => ?_, by rw [List.length_append, lac]; rfl, _, _, _, _, rfl⟩
                · rcases List.mem_append.mp hbb with hbb | hbb
                  · exact nb b hbb
                  · rw [List.mem_singleton.mp hbb]
                    have nW3 : W ∉ R :: L :: as := fun z => by
                      rcases List.mem_cons.mp z with z | z
                      · exact nWR z
                      · exact nWL z
                    refine ⟨nW3, ?_⟩
                    cases z : H6 W with
                    | none => rfl
                    | some o =>
                      rw [xa W o z nW3] at hW
                      cases hW
                · rw [upd_ne nWR]
                  exact e10 _ _ (e9 _ _ gW)
                · exact dpa_tx (Tx.lst g10) _ _ (immAll_map imm_pr _) (dpa_ex (e9.trans e10) _ _ gd)
      · rintro σ' Ha ⟨xa, m, acc, bs, hrw, Mm, Dm, ⟨gR, pr⟩, nb, lac, y2, y3, y7, y8, rfl⟩
        rw [List.length_map, List.length_map, List.drop_eq_nil_of_le (Nat.le_refl _), rowsW] at hrw
        cases hrw
        have hR0 : H R = none := fresh_back eHa hR
        have nS : ∀ x o, H x = some o → x ∉ R :: L :: as := fun x o hx z => by
          rcases List.mem_cons.mp z with z | z
          · rw [z, hR0] at hx; cases hx
          · rcases List.mem_cons.mp z with z | z
            · rw [z, hL] at hx; cases hx
            · rw [hA x z] at hx; cases hx
        refine s_ret (v := .ref R) (ev_var rfl) fun H9 e9 => ?_
        have pr9 := paired_xp (S := []) (Xp.of_ex e9) (Tx.of_ex e9) (fun _ _ => by simp) pr
        have ls6 : Ls H6 (R :: L :: as) := Ls.cons R6 M6.ls
        obtain ⟨T9, C9⟩ := tab_xp xa ls6 T6 hC6
        have nb0 : ∀ b ∈ bs, H b = none := fun b hb => by
          cases z : H b with
          | none => rfl
          | some o =>
            have n6 := (nb b hb).2
            by_cases y : b = tb
            · obtain ⟨ps9, h9, _⟩ := T6
              rw [y, h9] at n6
              cases n6
            · rw [xB _ _ (eH3 _ _ z) y] at n6
              cases n6
        rcases fin with ⟨hc, kk⟩ | kk
        · exact kk R bs H9 hR0 nb0 (fun b o hb => e9 _ _ (xa _ _ (same6 (hc.ex eH3) _ _ (eH3 _ _ hb)) (nS _ _ hb))) ⟨e9 _ _ gR, pr9⟩
        · exact kk R bs H9 hR0 nb0 (fun b o hb nb' => e9 _ _ (xa _ _ (xB _ _ (eH3 _ _ hb) nb') (nS _ _ hb))) (T9.ext fun b o z => e9 _ _ z) (C9.ex e9) ⟨e9 _ _ gR, pr9⟩
end
end K16
set_option Elab.async false
set_option linter.all false
set_option maxRecDepth 100000
set_option maxHeartbeats 4000000
namespace K16
open PySem PySem.Spec PyProof.Rows L2 Evl DL LamX
local macro_rules | `(tactic| walk_at "dl") => `(tactic| first
  | exact ev_c | exact ev_var rfl | exact eda_nil
  | exact ed_var rfl (by assumption)
  | exact ed_int ev_c | exact ed_int (ev_var rfl)
  | (refine eda_cons ?_ ?_ <;> walk_at "dl")
  | (refine ed_int ?_; walk_at "dl")
  | (refine ev_op ?_ ?_ rv_I0 <;> walk_at "dl"))

section
variable {P : Program} {w : World} {K : PySem.W.Frag} {mg : Str → Option Value} {base : Heap}
variable {CB CL : Addr}
def wayD (rows : List (List (Nat × Nat))) : PyData := .tuple (((rows.flatten.map swW).map swD).mergeSort leD)
def B_mw (CB CL : Addr) (d0 d1 : PyData) (C : Addr) : Prop := (isIn d0 2 5 = false ∧ C = CB) ∨ (∃ s : Int, d0 = .int s ∧ 2 ≤ s ∧ s ≤ 5 ∧ ldOk s d1 = false ∧ C = CL) ∨ ∃ (s : Int) (l : List Int), d0 = .int s ∧ d1 = tI l ∧ 2 ≤ s ∧ s ≤ 5 ∧ Ld s l ∧ ¬ mxl (sms s l) ≤ 2 ∧ C = CL
def spMates (K : PySem.W.Frag) (tb CB CL : Addr) : Sp := fun vs H Q E => ∃ d0 d1, DpAll K H vs [d0, d1] ∧
  ((∃ (s : Int) (l : List Int) (rows : List (List (Nat × Nat))), d0 = .int s ∧ d1 = tI l ∧ 2 ≤ s ∧ s ≤ 5 ∧ Ld s l ∧ mxl (sms s l) ≤ 2 ∧ wireW s l = some rows ∧ (∀ r ∈ rows, r.length ≤ 25) ∧ rows.length ≤ 10 ∧ TabS H tb qW ∧
    ((HasC H tb (lamPos wLam) ∧ ∀ v H', Ex H H' → Dp K H' v (wayD rows) → Q v H') ∨ ∀ v H', ExB tb H H' → TabS H' tb qW → HasC H' tb (lamPos wLam) → Dp K H' v (wayD rows) → Q v H')) ∨
    ∃ C, B_mw CB CL d0 d1 C ∧ ∀ H', Ex H H' → E (.ref C) none H')
theorem alike_pin (a b : Int × Int) : PySem.W.alike (pD a) (pD b) = true := rfl
theorem lt_sw (p : Nat × Nat) : PySem.W.dataLt (pD ((p.1 : Int), 0)) (pD ((p.2 : Int), 1)) = decide (p.1 ≤ p.2) := by
  show PySem.W.dataLt (.tuple [.int (p.1 : Int), .int 0]) (.tuple [.int (p.2 : Int), .int 1]) = _
  rw [PySem.W.dataLt_ii, Bool.eq_iff_iff]
  simp
  omega
theorem ev_wire {tb : Addr} {σ : L2.St} {H : Hp} {s : Int} {l : List Int} {rows : List (List (Nat × Nat))} {v : V} {Q : VK} (g0 : σ[0]? = some (some (.int s))) (g1 : σ[1]? = some (some v)) (h1 : 2 ≤ s) (h2 : s ≤ 5) (hv : Dp K H v (tI l)) (hl : Ld s l) (hw : wireW s l = some rows) (hT : TabS H tb qW)
    (q : ∀ p bs H', H p = none → (∀ b ∈ bs, H b = none) → (HasC H tb (lamPos wLam) → Ex H H') → ExB tb H H' → TabS H' tb qW → HasC H' tb (lamPos wLam) → RowsAt K H' p bs rows → Q (.ref p) H') : tCall (spWire K tb) [] E0 (tCons (tVar 0) (tCons (tVar 1) tNil)) σ H Q := by
  refine ⟨.int s, g0, v, g1, s, l, rows, v, rfl, h1, h2, hv, hl, hw, hT, ?_⟩
  by_cases hc : HasC H tb (lamPos wLam)
  · exact .inl ⟨hc, fun p bs H' hp hb e RA => q p bs H' hp hb (fun _ => e) (ExB.of e) (hT.ext e) (hc.ex e) RA⟩
  · exact .inr fun p bs H' hp hb x t c RA => q p bs H' hp hb (fun z => absurd z hc) x t c RA
theorem paired_get {α β : Type} {F : α → β → Prop} : ∀ {xs : List α} {ys : List β} {i : Nat} {a : α}, Paired F xs ys → xs[i]? = some a → ∃ b, ys[i]? = some b ∧ F a b
  | _, _, _, _, .nil, h => by simp at h
  | _, _, 0, _, .cons h _, e => ⟨_, rfl, by simp at e; subst e; exact h⟩
  | _, _, i + 1, _, .cons _ t, e => by
    obtain ⟨b, h1, h2⟩ := paired_get (i := i) t (by simpa using e)
    exact ⟨b, by simpa using h1, h2⟩
theorem ed_ifD {σ : L2.St} {H : Hp} {t : TT} {ta tb : TE} {d : PyData} {b : Bool} (h : EvT t σ H b) (h1 : b = true → EvD K ta σ H d) (h2 : b = false → EvD K tb σ H d) : EvD K (tIf t ta tb) σ H d := fun H1 e Q q => h H1 e _ fun H2 e2 => by
  cases b with
  | true => exact h1 rfl H2 (e.trans e2) Q fun v H3 e3 hv => q v H3 (e2.trans e3) hv
  | false => exact h2 rfl H2 (e.trans e2) Q fun v H3 e3 hv => q v H3 (e2.trans e3) hv
abbrev s_mates_way : Stmt := topS 49
abbrev N_mates_way : List Str := ["sides", "load", "found", "row", "side", "far", "one", "other"]
theorem sc_mates_way : FnScope N_mates_way ["sides", "load"] (defScope s_mates_way) := ⟨rfl, rfl, rfl, by decide +kernel, rfl, by decide +kernel, by decide +kernel⟩
theorem ok_mates_way {f tb : Addr} {fd : FuncData} (F : Fun K "mates_way" "mates_way" s_mates_way f fd) (T : Txt mg) (D_check_sides : DFX P w K mg base "check_sides" 3 ["sides", "most"] (spR K 2 R_check_sides (B_check_sides CB))) (D_check_load : DFX P w K mg base "check_load" 3 ["sides", "load"] (spR K 2 R_check_load (B_check_load CL))) (D_is_let : DF P w K mg base "is_let" 3 ["sides", "load", "room"] (spD K 3 R_is_let)) (D_wire_rows : DF P w K mg base "wire_rows" 9 ["sides", "load"] (spWire K tb)) (TL : ErC K mg "BadLoad" CL) :
    FnOk P w K mg base (L2.CX P w) 11 f fd ["sides", "load"] (spMates K tb CB CL) := by
  refine F.okX sc_mates_way (fun vs H Q E h => by obtain ⟨d0, d1, hd, _⟩ := h; rw [dpa_len hd]; rfl) (fun cdv A outer s0 H vs Q E hr h => ?_)
  obtain ⟨d0, d1, hd, h⟩ := h
  obtain ⟨v0, v1, rfl, e0, e1⟩ := dpa_two hd
  refine ⟨_, (pss_cons (ps_expr (pe_DX D_check_sides (takes_of rfl rfl rfl rfl) (fun _ _ _ _ h => h) (hr.mono (by decide)) (by rfl) (pa_cons (pv 0) (pa_cons (pe_const T.c_MOST_SIDES (by rfl)) pa_nil))))
      (pss_cons (ps_expr (pe_DX D_check_load (takes_of rfl rfl rfl rfl) (fun _ _ _ _ h => h) (hr.mono (by decide)) (by rfl) (pa_cons (pv 0) (pa_cons (pv 1) pa_nil))))
      (pss_cons (ps_if (pt_not (pt_val (pe_D D_is_let (hr.mono (by decide)) (by rfl) (pa_cons (pv 0) (pa_cons (pv 1) (pa_cons pe_int pa_nil)))))) (pss_one (ps_raiseC rfl (takes_of rfl rfl rfl rfl) TL (by rfl) pe_str)) pss_nil)
      (pss_cons (ps_set (i := 2) sc_mates_way.nd rfl (.inl rfl) (pe_lst pa_nil))
      (pss_cons (ps_for (passes_of rfl) rfl (pi_list (pe_D D_wire_rows (hr.mono (by decide)) (by rfl) (pa_cons (pv 0) (pa_cons (pv 1) pa_nil)))) (pg_name (i := 3) sc_mates_way.nd rfl (Or.inl rfl)) (pss_one (ps_for (passes_of rfl) rfl (pi_list (pv 3)) (pg_tup rfl (pgs_cons (pg_name (i := 4) sc_mates_way.nd rfl (Or.inl rfl)) (pgs_cons (pg_name (i := 5) sc_mates_way.nd rfl (Or.inl rfl)) pgs_nil))) (pss_cons (ps_set (i := 6) sc_mates_way.nd rfl (.inl rfl) (pe_tup (pa_cons (pv 4) (pa_cons pe_int pa_nil))))
      (pss_cons (ps_set (i := 7) sc_mates_way.nd rfl (.inl rfl) (pe_tup (pa_cons (pv 5) (pa_cons pe_int pa_nil))))
      (pss_one (ps_expr (pe_bm PySem.F.plainAttrs_list PySem.F.slot_list_append PySem.F.type_list_append mt_append (pv 2) (pa_cons (pe_ifExp (pt_cmpR (op_ltD (hu64 hr)) (pv 6) (pv 7) (nomark _)) (pe_tup (pa_cons (pv 6) (pa_cons (pv 7) pa_nil))) (pe_tup (pa_cons (pv 7) (pa_cons (pv 6) pa_nil)))) pa_nil)))))))))
      (pss_one (ps_ret (pe_callTy call_tuple_of (by rfl) T.b_tuple (by decide +kernel) (pa_cons (pe_callB (cr_sortedD (hu64 hr)) (by rfl) T.b_sorted (by decide +kernel) (pa_cons (pv 2) pa_nil)) pa_nil))))))))), ?_⟩
  rcases h with ⟨x, l, rows, rfl, rfl, h1, h2, hl, hm, hw, hr25, hr10, hT, fin⟩ | ⟨C, hb, k⟩
  rotate_left
  · rcases hb with ⟨hb, rfl⟩ | ⟨x, rfl, h1, h2, hb, rfl⟩ | ⟨x, l, rfl, rfl, h1, h2, hl, hb, rfl⟩
    · exact b_drop (eb_callR (K := K) (R := R_check_sides) (B := B_check_sides C) (ds := [d0, .int 5]) (eda_cons (ed_var (v := v0) rfl e0) (eda_cons (ed_int ev_c) eda_nil)) rfl ⟨d0, rfl, hb, rfl⟩) fun H1 e1 => k H1 e1
    · cases dp_int e0
      refine qd_drop (K := K) (d := .none) (ed_callR (R := R_check_sides) (B := B_check_sides CB) (ds := [.int x, .int 5]) (eda_cons (ed_int (ev_var rfl)) (eda_cons (ed_int ev_c) eda_nil)) rfl ⟨_, rfl, isIn_int h1 h2, rfl⟩) fun H1 x1 => ?_
      exact b_drop (eb_callR (K := K) (R := R_check_load) (B := B_check_load C) (ds := [.int x, d1]) (eda_cons (ed_int (ev_var rfl)) (eda_cons (ed_var (v := v1) rfl (dp_ex x1 _ _ e1)) eda_nil)) rfl ⟨x, d1, rfl, h1, h2, hb, rfl⟩) fun H2 x2 => k H2 (x1.trans x2)
    · cases dp_int e0
      refine qd_drop (K := K) (d := .none) (ed_callR (R := R_check_sides) (B := B_check_sides CB) (ds := [.int x, .int 5]) (eda_cons (ed_int (ev_var rfl)) (eda_cons (ed_int ev_c) eda_nil)) rfl ⟨_, rfl, isIn_int h1 h2, rfl⟩) fun H1 x1 => ?_
      have e2 := dp_ex x1 _ _ e1
      refine qd_drop (K := K) (d := .none) (ed_callR (R := R_check_load) (B := B_check_load C) (ds := [.int x, tI l]) (eda_cons (ed_int (ev_var rfl)) (eda_cons (ed_var (v := v1) rfl e2) eda_nil)) rfl ⟨x, l, rfl, h1, h2, hl, rfl⟩) fun H2 x2 => ?_
      have e3 := dp_ex x2 _ _ e2
      refine q_when (b := true) (et_is (et_not (et_B (EvD.bool (ed_call (K := K) (R := R_is_let) (ds := [.int x, tI l, .int 2]) (eda_cons (ed_int (ev_var rfl)) (eda_cons (ed_var (v := v1) rfl e3) (eda_cons (ed_int ev_c) eda_nil))) rfl ⟨x, l, 2, rfl, h1, h2, rfl⟩)))) (by rw [decide_eq_false hb]; rfl)) (fun _ H3 x3 => k H3 ((x1.trans x2).trans x3)) fun z => nomatch z
  cases dp_int e0
  refine qd_drop (K := K) (d := .none) (ed_callR (R := R_check_sides) (B := B_check_sides CB) (ds := [.int x, .int 5]) (eda_cons (ed_int (ev_var rfl)) (eda_cons (ed_int ev_c) eda_nil)) rfl ⟨_, rfl, isIn_int h1 h2, rfl⟩) fun H1 x1 => ?_
  have e2 := dp_ex x1 _ _ e1
  refine qd_drop (K := K) (d := .none) (ed_callR (R := R_check_load) (B := B_check_load CL) (ds := [.int x, tI l]) (eda_cons (ed_int (ev_var rfl)) (eda_cons (ed_var (v := v1) rfl e2) eda_nil)) rfl ⟨x, l, rfl, h1, h2, hl, rfl⟩) fun H2 x2 => ?_
  have e3 := dp_ex x2 _ _ e2
  refine q_when (b := false) (et_is (et_not (et_B (EvD.bool (ed_call (K := K) (R := R_is_let) (ds := [.int x, tI l, .int 2]) (eda_cons (ed_int (ev_var rfl)) (eda_cons (ed_var (v := v1) rfl e3) (eda_cons (ed_int ev_c) eda_nil))) rfl ⟨x, l, 2, rfl, h1, h2, rfl⟩)))) (by rw [decide_eq_true hm]; rfl)) (fun z => nomatch z) fun _ H3 x3 => ?_
  have e4 := dp_ex x3 _ _ e3
  refine qn_asg (K := K) (en_lst eda_nil (by simp)) fun Fd ws0 H4 hF x4 hF4 hd0 => ?_
  cases hd0
  have e5 := dp_ex x4 _ _ e4
  have X4 : Ex H H4 := ((x1.trans x2).trans x3).trans x4
  have len : ∀ i, ((rows.take i).flatten).length ≤ 250 := fun i => by
    have all : ∀ rs : List (List (Nat × Nat)), (∀ r ∈ rs, r.length ≤ 25) → rs.flatten.length ≤ 25 * rs.length := fun rs => by
      induction rs with
      | nil => intro _; simp
      | cons r rs ih =>
        intro h
        have a := h r List.mem_cons_self
        have b := ih fun r hr => h r (List.mem_cons_of_mem _ hr)
        rw [List.flatten_cons, List.length_append, List.length_cons]
        omega
    have a := all (rows.take i) fun r hr => hr25 r (List.mem_of_mem_take hr)
    have b : (rows.take i).length ≤ rows.length := by rw [List.length_take]; omega
    omega
  have TH4 : TabS H4 tb qW := hT.ext X4
  obtain ⟨ps0, hP0, _, _⟩ := id TH4
  refine ev_wire rfl rfl h1 h2 e5 hl hw TH4 fun p bs H7 hp hbs ex7 xB7 T7 C7 RA => ?_
  obtain ⟨gp, pr⟩ := RA
  have F7 : H7 Fd = some (.lst []) := xB7 _ _ hF4 fun z => by rw [z, hP0] at hF4; cases hF4
  have npF : p ∉ [Fd] := fun z => by
    rw [List.mem_singleton.mp z, hF4] at hp
    cases hp
  refine ⟨p, rfl, ⟨_, sq_of gp⟩, for_list (xs := bs.map V.ref) (fun i σ' Ha => Xp [Fd] H7 Ha ∧ LstAt K Ha Fd ((rows.take i).flatten.map swW) ∧ ∃ y3 y4 y5 y6 y7, σ' = [some (.int x), some v1, some (.ref Fd), y3, y4, y5, y6, y7]) ⟨Xp.refl _ _, ⟨[], F7, by simp; exact .nil⟩, none, none, none, none, none, rfl⟩ (fun i σ' Ha _ q => sq_of (q.1 p _ gp npF)) ?_ ?_⟩
  · rintro i xv σ' Ha hx ⟨xa, La, y3, y4, y5, y6, y7, rfl⟩
    rw [List.getElem?_map] at hx
    obtain ⟨b, hb, rfl⟩ := Option.map_eq_some_iff.mp hx
    obtain ⟨r, hrr, ws, gb, db⟩ := paired_get pr hb
    have nbF : b ∉ [Fd] := fun z => by
      have := hbs b (List.mem_of_getElem? hb)
      rw [List.mem_singleton.mp z, hF4] at this
      cases this
    have gb2 := xa b _ gb nbF
    have db2 := dpa_tx (xa.tx (Ls.one F7)) _ _ (immAll_map imm_pr _) db
    obtain ⟨fs, gF, dF⟩ := id La
    refine d_for (ei_lst (K := K) (S := [Fd]) (q := b) (vs := ws) (ds := r.map prD) (Ls.one gF) (ev_var rfl) gb2 nbF db2 (immAll_map imm_pr _)) (fun H8 j σ2 Hc => Xp [Fd] H8 Hc ∧ LstAt K Hc Fd ((rows.take i).flatten.map swW ++ (r.take j).map swW) ∧ ∃ z4 z5 z6 z7, σ2 = [some (.int x), some v1, some (.ref Fd), some (.ref b), z4, z5, z6, z7]) (fun H8 e8 => ⟨Xp.refl _ _, (La.ex e8).is (by simp), _, _, _, _, rfl⟩) (fun H8 j σ2 Hc _ q => q.1) ?_ ?_
    · rintro H8 j d y σ2 Hc Hd x8 hd2 ⟨xc, Lc, z4, z5, z6, z7, rfl⟩ x9 hy
      rw [List.getElem?_map] at hd2
      obtain ⟨pp, hpp, rfl⟩ := Option.map_eq_some_iff.mp hd2
      refine g_two (d1 := .int (pp.1 : Int)) (d2 := .int (pp.2 : Int)) hy fun w1 w2 u1 u2 => ?_
      cases dp_int u1
      cases dp_int u2
      refine qd_asg (K := K) (d := pD ((pp.1 : Int), 0)) (ed_tup (ds := dI [(pp.1 : Int), 0]) (eda_cons (ed_int (ev_var rfl)) (eda_cons (ed_int ev_c) eda_nil)) (by simp)) fun va H9 e9 ha => ?_
      refine qd_asg (K := K) (d := pD ((pp.2 : Int), 1)) (ed_tup (ds := dI [(pp.2 : Int), 1]) (eda_cons (ed_int (ev_var rfl)) (eda_cons (ed_int ev_c) eda_nil)) (by simp)) fun vb H10 e10 hb2 => ?_
      obtain ⟨vs2, gL, dL⟩ := ((Lc.ex x9).ex e9).ex e10
      have ha2 := dp_ex e10 _ _ ha
      have lv := dpa_len dL
      have ll := len i
      have lr : (r.take j).length ≤ 25 := by
        have := hr25 r (List.mem_of_getElem? hrr)
        rw [List.length_take]
        omega
      refine d_app (K := K) gL (ev_var rfl) (d := swD (swW pp)) (ed_ifD (b := decide (pp.1 ≤ pp.2)) (et_test (ev_is (ev_ltD (K := K) (ed_var (v := va) rfl ha2) (ed_var (v := vb) rfl hb2) rfl (fun z => nomatch z) (by simp [pD, PyData.depth, PyData.depthAll])) (by rw [lt_sw]))) (fun hq => ?_) fun hq => ?_) (by rw [lv, List.length_map, List.length_append, List.length_map, List.length_map]; omega) fun u H11 e11 hu => ?_
      · have e : swW pp = (((pp.1 : Int), 0), ((pp.2 : Int), 1)) := if_pos (of_decide_eq_true hq)
        rw [e]
        exact ed_tup (ds := [pD ((pp.1 : Int), 0), pD ((pp.2 : Int), 1)]) (eda_cons (ed_var (v := va) rfl ha2) (eda_cons (ed_var (v := vb) rfl hb2) eda_nil)) (by simp)
      · have e : swW pp = (((pp.2 : Int), 1), ((pp.1 : Int), 0)) := if_neg (of_decide_eq_false hq)
        rw [e]
        exact ed_tup (ds := [pD ((pp.2 : Int), 1), pD ((pp.1 : Int), 0)]) (eda_cons (ed_var (v := vb) rfl hb2) (eda_cons (ed_var (v := va) rfl ha2) eda_nil)) (by simp)
      · refine ⟨Xp.upd ((((xc.then x9).then e9).then e10).then e11) (by simp), (LstAt.app (e11 _ _ gL) (dpa_ex e11 _ _ dL) hu).is ?_, _, _, _, _, rfl⟩
        rw [List.take_add_one, hpp, Option.toList_some, List.map_append, List.append_assoc]
        rfl
    · rintro H8 σ2 Hc x8 ⟨xc, Lc, z4, z5, z6, z7, rfl⟩
      rw [List.length_map, List.take_length] at Lc
      refine ⟨(xa.then x8).trans xc, Lc.is ?_, _, _, _, _, _, rfl⟩
      rw [List.take_add_one, hrr, Option.toList_some, List.flatten_append, List.map_append]
      simp
  · rintro σ' Ha ⟨xa, La, y3, y4, y5, y6, y7, rfl⟩
    obtain ⟨_, lenP⟩ := paired_some pr
    rw [List.length_map, lenP, List.take_length] at La
    obtain ⟨fs, gF, dF⟩ := La
    refine d_ret (K := K) (d := wayD rows) (ed_tupleOf (EvN.toD (en_sortedD (EvQ.toD (eq_var (K := K) (k := 2) rfl gF dF)) (fun d hd e he => ?_) (.inl fun d hd => ?_) fun d hd => ?_))) fun v H9 e9 hv => ?_
    · obtain ⟨a, _, rfl⟩ := List.mem_map.mp hd
      obtain ⟨b, _, rfl⟩ := List.mem_map.mp he
      rfl
    · obtain ⟨a, _, rfl⟩ := List.mem_map.mp hd
      exact ⟨_, _, rfl⟩
    · obtain ⟨a, _, rfl⟩ := List.mem_map.mp hd
      simp [swD, pD, PyData.depth, PyData.depthAll]
    · have nF : H Fd = none := fresh_back (((x1.trans x2).trans x3)) hF
      have ls7 : Ls H7 [Fd] := Ls.one F7
      obtain ⟨T9, C9⟩ := tab_xp xa ls7 T7 C7
      have nS : ∀ b o, H b = some o → b ∉ [Fd] := fun b o hb z => by
        rw [List.mem_singleton.mp z, nF] at hb
        cases hb
      rcases fin with ⟨hc, kk⟩ | kk
      · exact kk v H9 (fun b o hb => e9 _ _ (xa _ _ (ex7 (hc.ex X4) _ _ (X4 _ _ hb)) (nS _ _ hb))) hv
      · exact kk v H9 (fun b o hb nb => e9 _ _ (xa _ _ (xB7 _ _ (X4 _ _ hb) nb) (nS _ _ hb))) (T9.ext fun b o z => e9 _ _ z) (C9.ex e9) hv
end
end K16
set_option Elab.async false
set_option linter.all false
set_option maxRecDepth 100000
set_option maxHeartbeats 4000000
/-! xs.count(t), tuples of numbers -/
namespace DL
open PySem PySem.Spec PyProof.Rows L2 Evl
def rCntT (K : PySem.W.Frag) : V → List V → Hp → VK → Prop := fun x xs H Q => ∃ (p : Addr) (ys : List V) (ls : List (List Int)) (kv : V) (k : List Int), x = .ref p ∧ xs = [kv] ∧ SqL K H p ys ∧ DpAll K H ys (ls.map tI) ∧ Dp K H kv (tI k) ∧ (∀ l ∈ ls, l.length = k.length) ∧ Q (.int (ls.count k : Nat)) H
theorem alike_tI : ∀ {a b : List Int}, a.length = b.length → PySem.W.alikeAll (dI a) (dI b) = true
  | [], [], _ => by simp [PySem.W.alikeAll]
  | x :: a, y :: b, h => by
    have ih := alike_tI (a := a) (b := b) (by simpa using h)
    rw [dI, dI, List.map_cons, List.map_cons, PySem.W.alikeAll]
    simp only [PySem.W.alike, Bool.true_and]
    exact ih
section
variable {X : Cx} {pins : List (Addr × Obj)} {σ : L2.St} {H : Hp} {s : Shared}
open Classical in
/-- whether the object is the tuple k -/
noncomputable def isTk (K : PySem.W.Frag) (H : Hp) (k : List Int) (u : Value) : Bool := decide (∃ a, u = .ref a ∧ SqT K H a (k.map V.int))
theorem map_int_inj {a b : List Int} (h : a.map V.int = b.map V.int) : a = b := List.map_inj_right (fun _ _ z => by cases z; rfl) |>.mp h
theorem isTk_iff {K : PySem.W.Frag} {k : List Int} {u : Value} : isTk K H k u = true ↔ ∃ a, u = .ref a ∧ SqT K H a (k.map V.int) := by
  classical
  unfold isTk
  exact decide_eq_true_iff
theorem isTk_at (I : Inv X pins σ H s) {k l : List Int} {v : V} {u : Value} (hd : Dp X.K H v (tI l)) (r : RelV v u) : isTk X.K H k u = decide (l = k) := by
  obtain ⟨a, rfl, hs⟩ := dp_tI hd
  cases r
  rw [Bool.eq_iff_iff, isTk_iff, decide_eq_true_iff]
  refine ⟨?_, fun e => ⟨a, rfl, e ▸ hs⟩⟩
  rintro ⟨b, hb, h2⟩
  cases hb
  exact map_int_inj (I.tuple_inj hs h2)
theorem cnt_at (I : Inv X pins σ H s) {k : List Int} : ∀ {ys : List V} {us : List Value} {ls : List (List Int)}, Vals ys us → DpAll X.K H ys (ls.map tI) → us.countP (isTk X.K H k) = ls.count k
  | _, _, [], .nil, _ => rfl
  | _, _, l :: ls, .cons r rs, h => by
    cases h with
    | cons h1 h2 =>
      rw [List.countP_cons, List.count_cons, cnt_at I rs h2, isTk_at I h1 r]
      by_cases e : l = k
      · simp [e]
      · simp [e]
theorem mt_countT (hu : X.A.units + 64 < cLine) : MtR X "list.count" (rCntT X.K) := by
  intro pins s σ H x xs v us Q I rx rxs h
  obtain ⟨p, ys, ls, kv, k, rfl, rfl, hs, hd, hk, hl, q⟩ := h
  cases rx
  obtain ⟨u, rfl, ru⟩ := rxs.one
  obtain ⟨its, rv, ⟨⟨cls, dd, data, sl⟩, n, ho, hc, hdn, hdt⟩, hlen⟩ := I.list hs
  simp only at hc hdt
  subst hc hdt
  obtain ⟨bs, rk⟩ := Dp.reads I _ _ _ hk ru
  refine call_meets PySem.F.slot_list_count ⟨_, ho, rfl⟩ PySem.F.entry_list_count (PySem.F.args_list_count_2 _ _)
    (SeqAt.list_countAt p its.toArray n dd sl u (isTk X.K H k)) ⟨ho, fun y hy => ?_, ?_⟩
  · obtain ⟨i, hi⟩ := List.mem_iff_getElem?.mp (show y ∈ its by simpa using hy)
    have li := (List.getElem?_eq_some_iff.mp hi).1
    have ly : i < ys.length := by
      have := Vals.length rv
      omega
    have gy : ys[i]? = some ys[i] := List.getElem?_eq_getElem ly
    obtain ⟨y', hy', ry⟩ := rv.get gy
    rw [hi] at hy'
    cases hy'
    obtain ⟨d, hd1, hd2⟩ := dpa_getV hd gy
    rw [List.getElem?_map] at hd1
    obtain ⟨l, hl1, rfl⟩ := Option.map_eq_some_iff.mp hd1
    obtain ⟨as, r1⟩ := Dp.reads I _ _ _ hd2 ry
    have al : PySem.W.alike (tI l) (tI k) = true := alike_tI (hl l (List.mem_of_getElem? hl1))
    have dp : (tI l).depth ≤ 2 := by
      have := depth_ints l
      simp only [tI, PyData.depth]
      omega
    exact (PySem.W.eqAt_alike (tI l) (tI k) _ s y u as bs r1 rk al (by show X.A.units + 1 + _ < cLine; omega)).cast (by rw [eqv_tI, isTk_at I hd2 ry])
  · have ec : its.toArray.toList.countP (isTk X.K H k) = ls.count k := cnt_at I rv hd
    refine ⟨.int (ls.count k : Nat), H, I.tok _, ⟨s.toks, ?_⟩, q⟩
    show Value.int ((its.toArray.toList.countP (isTk X.K H k) : Nat) : Int) s.toks = Value.int ((ls.count k : Nat) : Int) s.toks
    rw [ec]
end
end DL
set_option Elab.async false
set_option linter.all false
set_option maxRecDepth 100000
set_option maxHeartbeats 4000000
namespace K16
open PySem PySem.Spec PyProof.Rows L2 Evl DL
local macro_rules | `(tactic| walk_at "dl") => `(tactic| first
  | exact ev_c | exact ev_var rfl | exact eda_nil
  | exact ed_var rfl (by assumption)
  | exact ed_int ev_c | exact ed_int (ev_var rfl)
  | (refine eda_cons ?_ ?_ <;> walk_at "dl")
  | (refine ed_int ?_; walk_at "dl")
  | (refine ev_op ?_ ?_ rv_I0 <;> walk_at "dl"))

section
variable {K : PySem.W.Frag} {σ : L2.St} {H H' : Hp} {ta tb te : TE} {D : Ends} {tz : TS} {st lg cl : Addr}
/-! ### the drawing state -/
def kL : Key := .inr "large"
def kC : Key := .inr "cells"
def kF : Key := .inr "left"
def kT : Key := .inr "turn"
theorem k_ne : kL ≠ kC ∧ kL ≠ kF ∧ kL ≠ kT ∧ kC ≠ kF ∧ kC ≠ kT ∧ kF ≠ kT := by decide +kernel
def dk (lg cl : Addr) (l t : Int) : List (Key × V) := [(kL, .ref lg), (kC, .ref cl), (kF, .int l), (kT, .int t)]
theorem dk_L {l t : Int} : valV (dk lg cl l t) kL = some (.ref lg) := valV_pos rfl
theorem dk_C {l t : Int} : valV (dk lg cl l t) kC = some (.ref cl) := by
  obtain ⟨a, b, c, d, e, f⟩ := k_ne
  rw [dk, valV_neg a, valV_pos rfl]
theorem dk_F {l t : Int} : valV (dk lg cl l t) kF = some (.int l) := by
  obtain ⟨a, b, c, d, e, f⟩ := k_ne
  rw [dk, valV_neg b, valV_neg d, valV_pos rfl]
theorem dk_T {l t : Int} : valV (dk lg cl l t) kT = some (.int t) := by
  obtain ⟨a, b, c, d, e, f⟩ := k_ne
  rw [dk, valV_neg c, valV_neg e, valV_neg f, valV_pos rfl]
theorem put_F {l t l' : Int} : putK (dk lg cl l t) kF (.int l') = dk lg cl l' t := by
  obtain ⟨a, b, c, d, e, f⟩ := k_ne
  simp [putK, dk, a, b, c, d, e, f, Ne.symm f]
theorem put_T {l t t' : Int} : putK (dk lg cl l t) kT (.int t') = dk lg cl l t' := by
  obtain ⟨a, b, c, d, e, f⟩ := k_ne
  simp [putK, dk, a, b, c, d, e, f]
def StK (st lg cl : Addr) (n : Nat) (H : Hp) : Prop := ∃ (l t : Int) (xs cs : List Int), H st = some (.dK (dk lg cl l t)) ∧ H lg = some (.lst (xs.map V.int)) ∧ H cl = some (.lst (cs.map V.int)) ∧ cl ≠ lg ∧ 0 ≤ t ∧ t ≤ (n : Int)
theorem stk_ex {n : Nat} (e : Ex H H') (h : StK st lg cl n H) : StK st lg cl n H' := by
  obtain ⟨l, t, xs, cs, h1, h2, h3, h4⟩ := h
  exact ⟨l, t, xs, cs, e _ _ h1, e _ _ h2, e _ _ h3, h4⟩
theorem stk_mono {n m : Nat} (hnm : n ≤ m) (h : StK st lg cl n H) : StK st lg cl m H := by
  obtain ⟨l, t, xs, cs, h1, h2, h3, h4, h5, h6⟩ := h
  exact ⟨l, t, xs, cs, h1, h2, h3, h4, h5, by omega⟩
/-- tuples stay while the state changes -/
theorem stk_tx {n : Nat} (h : StK st lg cl n H) (x : Xp [st, lg] H H') : Tx H H' := by
  obtain ⟨l, t, xs, cs, h1, h2, h3, h4⟩ := h
  intro a ys r
  have nin : ∀ o, H a = some o → (∀ l, o ≠ .lst l) → (∀ l, o ≠ .dK l) → a ∉ [st, lg] := fun o ho n1 n2 hm => by
    rcases (by simpa using hm : a = st ∨ a = lg) with rfl | rfl
    · rw [h1] at ho
      exact n2 _ (Option.some.inj ho).symm
    · rw [h2] at ho
      exact n1 _ (Option.some.inj ho).symm
  rcases r with r | ⟨ob, r⟩
  · exact .inl (x _ _ r (nin _ r (fun _ z => nomatch z) fun _ z => nomatch z))
  · exact .inr ⟨ob, x _ _ r (nin _ r (fun _ z => nomatch z) fun _ z => nomatch z)⟩
theorem ev_dget {i : Nat} {k : Key} {kvs : List (Key × V)} {v : V} (hs : σ[i]? = some (some (.ref st))) (h : H st = some (.dK kvs)) (hv : valV kvs k = some v) : Ev (tDGet (tVar i) (tC (kV k))) σ H v := fun H1 e Q q =>
  ⟨.ref st, hs, st, v, rfl, hv ▸ DGet.k (e _ _ h), q H1 (Ex.refl _)⟩
theorem s_dput {i : Nat} {k : Key} {kvs : List (Key × V)} {v : V} (hs : σ[i]? = some (some (.ref st))) (h : H st = some (.dK kvs)) (hl : kvs.length ≤ 1000) (hv : Ev te σ H v) (q : ∀ H1, Ex H H1 → D.nx σ (upd H1 st (.dK (putK kvs k v)))) :
    sDPut (tVar i) (tC (kV k)) te D σ H := hv H (Ex.refl _) _ fun H1 e => ⟨.ref st, hs, st, _, rfl, DPut.k (e _ _ h) (sz_lt (by omega)), q H1 e⟩
theorem q_dput {i : Nat} {k : Key} {kvs : List (Key × V)} {v : V} (hs : σ[i]? = some (some (.ref st))) (h : H st = some (.dK kvs)) (hl : kvs.length ≤ 1000) (hv : Ev te σ H v) (q : ∀ H1, Ex H H1 → tz D σ (upd H1 st (.dK (putK kvs k v)))) :
    tSeq (sDPut (tVar i) (tC (kV k)) te) tz D σ H := s_dput (D := { D with nx := tz D }) hs h hl hv q
theorem ev_int1 {i : Int} (h : Ev ta σ H (.int i)) : Ev (tCB (fun xs H Q => (∃ i, xs = [.int i] ∧ Q (.int i) H) ∨ ∃ k, xs = [.bl k] ∧ Q (.int (if k then 1 else 0)) H) (tCons ta tNil)) σ H (.int i) := fun H1 e Q q =>
  h H1 e _ fun H2 e2 => .inl ⟨i, rfl, q H2 e2⟩
theorem shaped_dI (a : List Int) : SeqAt.shaped (.list (dI a)) = true := by
  have h := depth_ints a
  show ((PyData.list (dI a)).canLay0 && decide ((PyData.list (dI a)).depth ≤ 64)) = true
  rw [Bool.and_eq_true]
  refine ⟨by rw [PyData.canLay0]; exact canLay_ints a, decide_eq_true ?_⟩
  rw [PyData.depth]
  omega
theorem eqv_nil (a : List Int) : PyData.eqv (.list (dI a)) (.list []) = a.isEmpty := by
  rw [PyData.eqv]
  cases a with
  | nil => simp [PyData.eqvAll]
  | cons x a => simp [PyData.eqvAll]
/-- x != [] -/
theorem ev_neNil {a : List Int} (ha : EvD K ta σ H (.list (dI a))) : Ev (tOp (rNeD K) ta (tLst tNil)) σ H (.bl (!a.isEmpty)) := fun H1 e Q q =>
  ha H1 e _ fun x H2 e2 hx => EvN.toD (en_lst eda_nil (by simp)) H2 (e.trans e2) _ fun y H3 e3 hy => ⟨_, _, dp_ex e3 _ _ hx, hy, shaped_dI a, shaped_dI [], by
    rw [eqv_nil]
    exact q H3 (e2.trans e3)⟩
end
section
variable {P : Program} {w : World} {K : PySem.W.Frag} {mg : Str → Option Value} {base : Heap}

def spDraw (K : PySem.W.Frag) : Sp := fun vs H Q _ => ∃ (st lg cl : Addr) (n : Nat) (size : Int), vs = [.ref st, .int size] ∧ 1 ≤ size ∧ size ≤ 1000 ∧ n ≤ 10000 ∧ StK st lg cl n H ∧
  ∀ r H', 0 ≤ r → r < size → Xp [st, lg] H H' → StK st lg cl (n + 1) H' → Q (.int r) H'
abbrev s__law_draw : Stmt := topS 59
abbrev N__law_draw : List Str := ["state", "size_here", "found", "turn", "cell", "mixed"]
theorem sc__law_draw : FnScope N__law_draw ["state", "size_here"] (defScope s__law_draw) := ⟨rfl, rfl, rfl, by decide +kernel, rfl, by decide +kernel, by decide +kernel⟩
theorem ok__law_draw {f : Addr} {fd : FuncData} (F : Fun K "_law_draw" "_law_draw" s__law_draw f fd) (T : Txt mg)
      :
    FnOk P w K mg base CX0 1 f fd ["state", "size_here"] (spDraw K) := by
  refine F.ok sc__law_draw (fun vs H Q E h => by obtain ⟨_, _, _, _, _, rfl, _⟩ := h; rfl) (fun cdv A outer s H vs Q E hr h => ?_)
  obtain ⟨st, lg, cl, n, size, rfl, h1, h2, h3, hst, k⟩ := h
  refine ⟨_, (pss_cons (ps_while PassesOwn.never (PW.pt (pw_and (pt_cmpR op_eq (pe_dget (hu_of hr) (pv 0) pe_str (fun _ _ => rfl)) pe_int (nomark _)) (pw_and1 (pt_cmpR (op_neD (hu64 hr)) (pe_dget (hu_of hr) (pv 0) pe_str (fun _ _ => rfl)) (pe_lst pa_nil) (nomark _))))) (pss_one (ps_dput (hu_of hr) (pv 0) pe_str (pe_bm PySem.F.plainAttrs_list PySem.F.slot_list_pop PySem.F.type_list_pop mt_popAt (pe_dget (hu_of hr) (pv 0) pe_str (fun _ _ => rfl)) (pa_cons pe_int pa_nil)) rfl)))
      (pss_cons (ps_if (pt_cmpR op_gt (pe_dget (hu_of hr) (pv 0) pe_str (fun _ _ => rfl)) pe_int (nomark _)) (pss_cons (ps_set (i := 2) sc__law_draw.nd rfl (.inl rfl) (pe_op op_mod (pe_callTy call_int1 (by rfl) T.b_int (by decide +kernel) (pa_cons (pe_dget (hu_of hr) (pv 0) pe_str (fun _ _ => rfl)) pa_nil)) (pv 1)))
      (pss_cons (ps_dput (hu_of hr) (pv 0) pe_str (pe_op op_fdiv (pe_dget (hu_of hr) (pv 0) pe_str (fun _ _ => rfl)) (pv 1)) rfl)
      (pss_one (ps_ret (pv 2))))) pss_nil)
      (pss_cons (ps_set (i := 3) sc__law_draw.nd rfl (.inl rfl) (pe_op op_add (pe_dget (hu_of hr) (pv 0) pe_str (fun _ _ => rfl)) pe_int))
      (pss_cons (ps_dput (hu_of hr) (pv 0) pe_str (pv 3) rfl)
      (pss_cons (ps_set (i := 4) sc__law_draw.nd rfl (.inl rfl) (pe_ifExp (pt_cmpR (op_neD (hu64 hr)) (pe_dget (hu_of hr) (pv 0) pe_str (fun _ _ => rfl)) (pe_lst pa_nil) (nomark _)) (pe_ix ix_list (pe_dget (hu_of hr) (pv 0) pe_str (fun _ _ => rfl)) (pe_op op_mod (pe_callTy call_int1 (by rfl) T.b_int (by decide +kernel) (pa_cons (pv 3) pa_nil)) (pe_callB call_len_seq (by rfl) T.b_len PySem.boot_len (pa_cons (pe_dget (hu_of hr) (pv 0) pe_str (fun _ _ => rfl)) pa_nil))) (fun _ _ => rfl)) pe_int))
      (pss_cons (ps_set (i := 5) sc__law_draw.nd rfl (.inl rfl) (pe_op op_mod (pe_callTy call_int1 (by rfl) T.b_int (by decide +kernel) (pa_cons (pe_op op_pow (pe_op op_add (pe_op op_add (pe_op op_mod (pe_callTy call_int1 (by rfl) T.b_int (by decide +kernel) (pa_cons (pv 4) pa_nil)) pe_int) (pe_op op_mul pe_int (pv 3))) pe_int) pe_int) pa_nil)) pe_int))
      (pss_one (ps_ret (pe_op op_mod (pe_callTy call_int1 (by rfl) T.b_int (by decide +kernel) (pa_cons (pe_op op_fdiv (pe_op op_mod (pe_callTy call_int1 (by rfl) T.b_int (by decide +kernel) (pa_cons (pe_op op_pow (pe_op op_add (pv 5) (pe_op op_mul pe_int (pv 3))) pe_int) pa_nil)) pe_int) pe_int) pa_nil)) (pv 1)))))))))), ?_⟩
  obtain ⟨l0, t0, xs0, cs, a1, a2, a3, a4, a5, a6⟩ := hst
  have cst : cl ≠ st := fun z => by rw [z, a1] at a3; cases a3
  have lst : lg ≠ st := fun z => by rw [z, a1] at a2; cases a2
  have kF' : V.str "left" = kV kF := rfl
  refine ⟨fun m σ' Ha => ∃ (l : Int) (xs : List Int), m = xs.length ∧ Xp [st, lg] H Ha ∧ Ha st = some (.dK (dk lg cl l t0)) ∧ Ha lg = some (.lst (xs.map V.int)) ∧ σ' = [some (.ref st), some (.int size), none, none, none, none], ⟨_, l0, xs0, rfl, Xp.refl _ _, a1, a2, rfl⟩, ?_⟩
  rintro m σ' Ha ⟨l, xs, rfl, xp, b1, b2, rfl⟩
  have b3 : Ha cl = some (.lst (cs.map V.int)) := xp _ _ a3 (by simp [cst, a4])
  refine et_and (a := decide (V.int l = V.int 0)) (b := !xs.isEmpty) (et_test (ev_op (ev_dget (k := kF) rfl b1 dk_F) ev_c (rv_eq rfl))) (fun _ => et_test (ev_neNil (K := K) (ed_is (d := .list (dI xs)) (ev_d (ev_dget (k := kL) rfl b1 dk_L) (.lst (sq_of b2) (ints_dpa xs))) rfl))) Ha (Ex.refl _) _ fun Hb eb => ?_
  have b1 := eb _ _ b1
  have b2 := eb _ _ b2
  have b3 := eb _ _ b3
  have xp := xp.then eb
  by_cases hx : (decide (V.int l = V.int 0) && !xs.isEmpty) = true
  · rw [if_pos hx]
    cases xs with
    | nil => simp at hx
    | cons x xs =>
      refine ⟨fun σ2 H2 => ∃ (l : Int), Xp [st, lg] H H2 ∧ H2 st = some (.dK (dk lg cl l t0)) ∧ H2 lg = some (.lst (xs.map V.int)) ∧ σ2 = [some (.ref st), some (.int size), none, none, none, none], fun σ2 H2 ⟨l, z⟩ => ⟨xs.length, by simp, l, xs, rfl, z⟩, ?_⟩
      refine ⟨.ref st, rfl, st, .ref lg, rfl, (dk_L (lg := lg) (cl := cl) (l := l) (t := t0)) ▸ DGet.k (k := kL) b1, Or.inl ⟨rfl, _, sq_of b2⟩, lg, _, 0, 0, .int x, rfl, rfl, b2, by decide, by decide, by simp [seqIndex?], rfl, .ref st, rfl, st, _, rfl, DPut.k (k := kF) (by rw [upd_ne (Ne.symm lst)]; exact b1) (by show 4 < sizeLine; decide), ?_⟩
      rw [put_F]
      exact ⟨x, Xp.upd (Xp.upd xp (by simp)) (by simp), upd_same, by rw [upd_ne lst, upd_same]; simp, rfl⟩
  rw [if_neg hx]
  show tSeq _ _ _ [some (.ref st), some (.int size), none, none, none, none] Hb
  refine q_when (b := decide ((0 : Int) < l)) (et_test (ev_op (ev_dget (k := kF) rfl b1 dk_F) ev_c rv_I0)) (fun hb Hc ec => ?_) fun hb Hc ec => ?_
  · have b1 := ec _ _ b1
    refine qi_asg (ev_op (ev_int1 (ev_dget (k := kF) rfl b1 dk_F)) (ev_var rfl) (rv_I (by omega))) fun Hd ed => ?_
    have b1 := ed _ _ b1
    refine q_dput (k := kF) rfl b1 (by simp [dk]) (ev_op (ev_dget (k := kF) rfl b1 dk_F) (ev_var rfl) (rv_I ⟨by omega, by omega⟩)) fun He ee => ?_
    rw [put_F]
    refine ⟨_, rfl, k (l % size) _ (Int.emod_nonneg _ (by omega)) (Int.emod_lt_of_pos _ (by omega)) (Xp.upd (xp.then ((ec.trans ed).trans ee)) (by simp)) ⟨l / size, t0, xs, cs, upd_same, ?_, ?_, a4, a5, by omega⟩⟩
    · rw [upd_ne lst]
      exact ee _ _ (ed _ _ (ec _ _ b2))
    · rw [upd_ne cst]
      exact ee _ _ (ed _ _ (ec _ _ b3))
  have b1 := ec _ _ b1
  refine qi_asg (ev_op (ev_dget (k := kT) rfl b1 dk_T) ev_c rv_I0) fun Hd ed => ?_
  have b1 := ed _ _ b1
  refine q_dput (k := kT) rfl b1 (by simp [dk]) (ev_var rfl) fun He ee => ?_
  rw [put_T]
  have c1 : upd He st (.dK (dk lg cl l (t0 + 1))) st = some (.dK (dk lg cl l (t0 + 1))) := upd_same
  have c2 : upd He st (.dK (dk lg cl l (t0 + 1))) lg = some (.lst (xs.map V.int)) := by
    rw [upd_ne lst]
    exact ee _ _ (ed _ _ (ec _ _ b2))
  have c3 : upd He st (.dK (dk lg cl l (t0 + 1))) cl = some (.lst (cs.map V.int)) := by
    rw [upd_ne cst]
    exact ee _ _ (ed _ _ (ec _ _ b3))
  have xp2 : Xp [st, lg] H (upd He st (.dK (dk lg cl l (t0 + 1)))) := Xp.upd (xp.then ((ec.trans ed).trans ee)) (by simp)
  generalize upd He st (.dK (dk lg cl l (t0 + 1))) = Hf at *
  obtain ⟨c, hc⟩ : ∃ c : Int, Ev (tIf (tTest (tOp (rNeD K) (tDGet (tVar 0) (tC (.str "cells"))) (tLst tNil)))
      (tOp (rIxL K) (tDGet (tVar 0) (tC (.str "cells"))) (tOp (rI (fun _ j => 0 < j) fun i j => .int (i % j)) (tCB (fun xs H Q => (∃ i, xs = [.int i] ∧ Q (.int i) H) ∨ ∃ k, xs = [.bl k] ∧ Q (.int (if k then 1 else 0)) H) (tCons (tVar 3) tNil)) (tCB (fun xs H Q => ∃ p ys, xs = [.ref p] ∧ (SqL K H p ys ∨ SqT K H p ys) ∧ Q (.int ys.length) H) (tCons (tDGet (tVar 0) (tC (.str "cells"))) tNil))))
      (tC (.int 0))) [some (.ref st), some (.int size), none, some (.int (t0 + 1)), none, none] Hf (.int c) := by
    have dc : EvD K (tDGet (tVar 0) (tC (.str "cells"))) [some (.ref st), some (.int size), none, some (.int (t0 + 1)), none, none] Hf (.list (dI cs)) := ev_d (ev_dget (k := kC) rfl c1 dk_C) (.lst (sq_of c3) (ints_dpa cs))
    refine ⟨if (!cs.isEmpty) = true then cs.getD ((t0 + 1) % (cs.length : Int)).toNat 0 else 0, ev_if (b := !cs.isEmpty) (et_test (ev_neNil dc)) (fun h => ?_) fun h => ?_⟩
    · rw [if_pos h]
      have hl : 0 < cs.length := by cases cs with | nil => simp at h | cons _ _ => simp
      have m1 := Int.emod_nonneg (t0 + 1) (show ((cs.length : Int)) ≠ 0 by omega)
      have m2 := Int.emod_lt_of_pos (t0 + 1) (show (0 : Int) < (cs.length : Int) by omega)
      refine ev_op (ev_dget (k := kC) rfl c1 dk_C) (ev_op (ev_int1 (ev_var rfl)) (ev_is (ev_lenL dc) (by rw [dI, List.length_map])) (rv_I (by omega))) (rv_ixL (K := K) (sq_of c3) ?_)
      obtain ⟨j, hj⟩ := Int.eq_ofNat_of_zero_le m1
      rw [hj] at m2 ⊢
      refine atI_nat ?_
      rw [Int.toNat_natCast, List.getElem?_map, List.getElem?_eq_getElem (by omega), List.getD_eq_getElem?_getD, List.getElem?_eq_getElem (by omega)]
      rfl
    · rw [h]
      exact ev_c
  refine qi_asg hc fun Hg eg => ?_
  have u1 := Int.emod_nonneg c (show (2147483563 : Int) ≠ 0 by decide)
  have u2 := Int.emod_lt_of_pos c (show (0 : Int) < 2147483563 by decide)
  refine qi_asg (v := .int (((c % 2147483563 + 40692 * (t0 + 1) + 24681) ^ (3 : Int).toNat) % 2147483629)) (ev_op (ev_int1 (ev_op (ev_op (ev_op (ev_op (ev_int1 (ev_var rfl)) ev_c (rv_I (by decide))) (ev_op ev_c (ev_var rfl) (rv_I (.inl ⟨by decide, by decide⟩))) rv_I0) ev_c rv_I0) ev_c (rv_I ⟨by decide, by decide, by omega⟩))) ev_c (rv_I (by decide))) fun Hh eh => ?_
  have w1 := Int.emod_nonneg ((c % 2147483563 + 40692 * (t0 + 1) + 24681) ^ (3 : Int).toNat) (show (2147483629 : Int) ≠ 0 by decide)
  have w2 := Int.emod_lt_of_pos ((c % 2147483563 + 40692 * (t0 + 1) + 24681) ^ (3 : Int).toNat) (show (0 : Int) < 2147483629 by decide)
  generalize ((c % 2147483563 + 40692 * (t0 + 1) + 24681) ^ (3 : Int).toNat) % 2147483629 = M at *
  refine s_ret (ev_op (ev_int1 (ev_op (ev_op (ev_int1 (ev_op (ev_op (ev_var rfl) (ev_op ev_c (ev_var rfl) (rv_I (.inl ⟨by decide, by decide⟩))) rv_I0) ev_c (rv_I ⟨by decide, by decide, by omega⟩))) ev_c (rv_I (by decide))) ev_c (rv_I ⟨by decide, by decide⟩))) (ev_var rfl) (rv_I (by omega))) fun Hi ei => ?_
  exact k _ _ (Int.emod_nonneg _ (by omega)) (Int.emod_lt_of_pos _ (by omega)) (xp2.then ((eg.trans eh).trans ei)) (stk_ex ((eg.trans eh).trans ei) ⟨l, t0 + 1, xs, cs, c1, c2, c3, a4, by omega, by omega⟩)

end
end K16
set_option Elab.async false
set_option linter.all false
set_option maxRecDepth 100000
set_option maxHeartbeats 4000000
namespace K16
open PySem PySem.Spec PyProof.Rows L2 Evl DL
local macro_rules | `(tactic| walk_at "dl") => `(tactic| first
  | exact ev_c | exact ev_var rfl | exact eda_nil
  | exact ed_var rfl (by assumption)
  | exact ed_int ev_c | exact ed_int (ev_var rfl)
  | (refine eda_cons ?_ ?_ <;> walk_at "dl")
  | (refine ed_int ?_; walk_at "dl")
  | (refine ev_op ?_ ?_ rv_I0 <;> walk_at "dl"))

section
variable {P : Program} {w : World} {K : PySem.W.Frag} {mg : Str → Option Value} {base : Heap}

/-- one of any values -/
def spPick (K : PySem.W.Frag) : Sp := fun vs H Q _ => ∃ (st lg cl : Addr) (n : Nat) (a : Addr) (xs : List V), vs = [.ref st, .ref a] ∧ H a = some (.lst xs) ∧ a ≠ lg ∧ 1 ≤ xs.length ∧ xs.length ≤ 1000 ∧ n ≤ 10000 ∧ StK st lg cl n H ∧
  ∀ r H', r ∈ xs → Xp [st, lg] H H' → StK st lg cl (n + 1) H' → Q r H'
def lpr (s : Int) : List PyData := (List.range s.toNat).flatMap fun (i : Nat) => (List.range (s - ((i : Int) + 1)).toNat).map fun (j : Nat) => PyData.tuple [.int (i : Int), .int ((i : Int) + 1 + (j : Int))]
def R_law_pairs (ds : List PyData) (r : List PyData) : Prop := ∃ s : Int, ds = [.int s] ∧ 2 ≤ s ∧ s ≤ 5 ∧ r = lpr s
theorem lpr_imm (s : Int) : immAll (lpr s) = true := immAll_flat (fun i => immAll_map (fun j => by simp [imm, immAll]) _) _
theorem lpr_len {s : Int} (h1 : 2 ≤ s) (h2 : s ≤ 5) : (lpr s).length = np s ∧ np s ≤ 10 := by
  have hs' : s = 2 ∨ s = 3 ∨ s = 4 ∨ s = 5 := by omega
  rcases hs' with rfl | rfl | rfl | rfl <;> decide
abbrev s__law_pick : Stmt := topS 60
abbrev N__law_pick : List Str := ["state", "several"]
theorem sc__law_pick : FnScope N__law_pick ["state", "several"] (defScope s__law_pick) := ⟨rfl, rfl, rfl, by decide +kernel, rfl, by decide +kernel, by decide +kernel⟩
theorem ok__law_pick {f : Addr} {fd : FuncData} (F : Fun K "_law_pick" "_law_pick" s__law_pick f fd) (T : Txt mg)
    (D__law_draw : DF P w K mg base "_law_draw" 1 ["state", "size_here"] (spDraw K))  :
    FnOk P w K mg base CX0 2 f fd ["state", "several"] (spPick K) := by
  refine F.ok sc__law_pick (fun vs H Q E h => by obtain ⟨_, _, _, _, _, _, rfl, _⟩ := h; rfl) (fun cdv A outer s H vs Q E hr h => ?_)
  obtain ⟨st, lg, cl, n, a, xs, rfl, ha, hal, h1, h2, h3, hst, k⟩ := h
  refine ⟨_, (pss_one (ps_ret (pe_ix ix_list (pv 1) (pe_D D__law_draw (hr.mono (by decide)) (by rfl) (pa_cons (pv 0) (pa_cons (pe_callB call_len_seq (by rfl) T.b_len PySem.boot_len (pa_cons (pv 1) pa_nil)) pa_nil))) (fun _ _ => rfl)))), ?_⟩
  have hast : a ≠ st := fun z => by
    obtain ⟨_, _, _, _, q, _⟩ := hst
    rw [← z, ha] at q
    cases q
  refine ⟨.ref a, rfl, .ref st, rfl, .ref a, rfl, a, xs, rfl, .inl (sq_of ha), st, lg, cl, n, (xs.length : Int), rfl, by omega, by omega, h3, hst, fun r H' r0 r1 x s => ?_⟩
  obtain ⟨j, rfl⟩ := Int.eq_ofNat_of_zero_le r0
  have hj : j < xs.length := by omega
  refine ⟨a, xs, (j : Int), xs[j], rfl, rfl, sq_of (x _ _ ha (by simp [hast, hal])), atI_nat (List.getElem?_eq_getElem hj), k _ H' (List.getElem_mem hj) x s⟩

abbrev s__law_pairs : Stmt := topS 62
abbrev N__law_pairs : List Str := ["sides_here", "found", "one", "other"]
theorem sc__law_pairs : FnScope N__law_pairs ["sides_here"] (defScope s__law_pairs) := ⟨rfl, rfl, rfl, by decide +kernel, rfl, by decide +kernel, by decide +kernel⟩
theorem ok__law_pairs {f : Addr} {fd : FuncData} (F : Fun K "_law_pairs" "_law_pairs" s__law_pairs f fd) (T : Txt mg)
      :
    FnOk P w K mg base CX0 1 f fd ["sides_here"] (spN K 1 R_law_pairs) := by
  refine F.ok sc__law_pairs (fun vs H Q E h => spN_len h) (fun cdv A outer s H vs Q E hr h => ?_)
  obtain ⟨ds, r, hd, _, ⟨x, rfl, h1, h2, rfl⟩, k⟩ := h
  obtain ⟨v0, rfl, d0⟩ := dpa_one hd
  cases dp_int d0
  refine ⟨_, (pss_cons (ps_set (i := 1) sc__law_pairs.nd rfl (.inl rfl) (pe_lst pa_nil))
      (pss_cons (ps_for PassesOwn.never rfl (pi_range1 (by rfl) T.b_range (pa_cons (pv 0) pa_nil)) (pg_name (i := 2) sc__law_pairs.nd rfl (Or.inr rfl)) (pss_one (ps_set (i := 1) sc__law_pairs.nd rfl (.inl rfl) (pe_op op_cat (pv 1) (pe_lc (own := [("other", 3)]) (g := (gName 3)) (tt := tYes) rfl sc__law_pairs.nd (pi_range2 (by rfl) T.b_range (pa_cons (pe_op op_add (pv 2) pe_int) (pa_cons (pv 0) pa_nil))) (blkOk_by (N := N__law_pairs) (sc := defScope s__law_pairs) (by decide +kernel)) (fun _ _ _ _ _ => (pg_name (i := 3) sc__law_pairs.nd rfl (Or.inl rfl))) (fun _ _ _ _ _ => pts_nil) (fun _ _ _ _ _ => (pe_tup (pa_cons (pv 2) (pa_cons (pv 3) pa_nil)))))))))
      (pss_one (ps_ret (pv 1))))), ?_⟩
  refine qn_asg (K := K) (en_lst eda_nil (by simp)) fun p vs H1 hp e1 h1' hd1 => ?_
  cases hd1
  refine e_for (S := []) (ei_rng1 (K := K) (n := x) (eda_cons (ed_int (ev_var rfl)) eda_nil) ⟨by omega, by omega⟩) (fun H2 i σ' Ha => Ex H2 Ha ∧ ∃ p ws a b, H p = none ∧ Ha p = some (.lst ws) ∧ DpAll K Ha ws ((List.range i).flatMap fun (i : Nat) => (List.range (x - ((i : Int) + 1)).toNat).map fun (j : Nat) => PyData.tuple [.int (i : Int), .int ((i : Int) + 1 + (j : Int))]) ∧ σ' = [some (.int x), some (.ref p), a, b])
    (fun H2 e2 => ⟨Ex.refl _, p, [], none, none, hp, e2 _ _ h1', .nil, rfl⟩) (fun H2 i σ' Ha _ z => Xp.of_ex z.1) ?_ ?_
  · rintro H2 i d y σ' Ha Hb e2 hdi ⟨p1, p, ws, a, b, hp, hpa, dws, rfl⟩ eb hy
    have hi : i < x.toNat := by simpa using (List.getElem?_eq_some_iff.mp hdi).1
    rw [rng_get hi] at hdi
    cases hdi
    cases dp_int hy
    have hpb := eb _ _ hpa
    have dwb := dpa_ex eb _ _ dws
    have small : ∀ i : Nat, ((List.range i).flatMap fun (i : Nat) => (List.range (x - ((i : Int) + 1)).toNat).map fun (j : Nat) => PyData.tuple [.int (i : Int), .int ((i : Int) + 1 + (j : Int))]).length ≤ 4 * i := fun i => by
      induction i with
      | zero => simp
      | succ i ih =>
        rw [List.range_succ, List.flatMap_append, List.length_append, List.flatMap_cons, List.flatMap_nil, List.append_nil, List.length_map, List.length_range]
        omega
    have sm := small i
    show tAsg _ (gName 1) _ [some (.int x), some (.ref p), some (.int (i : Int)), b] Hb
    refine n_asg (K := K) (en_cat (eq_var rfl hpb dwb) (EvN.toQ (en_lc (K := K) (ei_rng2 (S := []) (K := K) (m := (i : Int) + 1) (n := x) (eda_cons (ed_int (ev_op (ev_var rfl) ev_c rv_I0)) (eda_cons (ed_int (ev_var rfl)) eda_nil)) ⟨⟨by omega, by omega⟩, by omega, by omega⟩) (by rw [List.length_map, List.length_range]; omega)
      (fun j => PyData.tuple [.int (i : Int), .int ((i : Int) + 1 + (j : Int))]) (fun j _ => by simp [imm, immAll]) ?_)) ?_) fun p2 ws2 Hc hp2 ec h2' hd2 => ?_
    · intro H3 j d y Hd Q e3 hdj ed hy kk
      have hj : j < (x - ((i : Int) + 1)).toNat := by simpa using (List.getElem?_eq_some_iff.mp hdj).1
      rw [rng_get hj] at hdj
      cases hdj
      cases dp_int hy
      exact kk _ Hd (Ex.refl _) rfl (ed_tup (eda_cons (ed_int (ev_var rfl)) (eda_cons (ed_int (ev_var rfl)) eda_nil)) (by simp))
    · simp only [List.length_map, List.length_range]
      omega
    · refine ⟨(p1.trans eb).trans ec, p2, ws2, _, _, fresh_back (((e1.trans e2).trans p1).trans eb) hp2, h2', ?_, rfl⟩
      rw [List.range_succ, List.flatMap_append, List.flatMap_cons, List.flatMap_nil, List.append_nil]
      simpa using hd2
  · rintro H2 σ' Ha e2 ⟨p1, p, ws, a, b, hp, hpa, dws, rfl⟩
    refine ⟨.ref p, rfl, k p ws Ha hp ((e1.trans e2).trans p1) hpa ?_⟩
    rw [List.length_map, List.length_range] at dws
    exact dws

end
end K16
set_option Elab.async false
set_option linter.all false
set_option maxRecDepth 100000
set_option maxHeartbeats 4000000
namespace K16
open PySem PySem.Spec PyProof.Rows L2 Evl DL
local macro_rules | `(tactic| walk_at "dl") => `(tactic| first
  | exact ev_c | exact ev_var rfl | exact eda_nil
  | exact ed_var rfl (by assumption)
  | exact ed_int ev_c | exact ed_int (ev_var rfl)
  | (refine eda_cons ?_ ?_ <;> walk_at "dl")
  | (refine ed_int ?_; walk_at "dl")
  | (refine ev_op ?_ ?_ rv_I0 <;> walk_at "dl"))

section
variable {P : Program} {w : World} {K : PySem.W.Frag} {mg : Str → Option Value} {base : Heap}

def spLoad (K : PySem.W.Frag) : Sp := fun vs H Q _ => ∃ (sc : Addr) (s : Int) (v : V) (us : List Sw), vs = [.ref sc, v] ∧ H sc = some (.dK [(.inr "sides", .int s)]) ∧ 2 ≤ s ∧ s ≤ 5 ∧ Dp K H v (.tuple (us.map swD)) ∧ us.length ≤ 1000 ∧ ∀ v' H', Ex H H' → Dp K H' v' (tI (loadOf s us)) → Q v' H'
theorem mt_countTK {X : Cx} (K : PySem.W.Frag) (h : X.K = K) (hu : X.A.units + 64 < cLine) : MtR X "list.count" (rCntT K) := h ▸ mt_countT hu
theorem pe_K {X : Cx} {K : PySem.W.Frag} {T : String} {e : Expr} {r to t} (h : X.K = K) (p : PE X e (tBM X.K T r to t)) : PE X e (tBM K T r to t) := h ▸ p
theorem ed_countT {K : PySem.W.Frag} {σ : L2.St} {H : Hp} {i j : Nat} {l : Addr} {ys : List V} {ls : List (List Int)} {k : List Int} {kv : V} (hi : σ[i]? = some (some (.ref l))) (hj : σ[j]? = some (some kv)) (hl : H l = some (.lst ys)) (hd : DpAll K H ys (ls.map tI)) (hk : Dp K H kv (tI k))
    (hn : ∀ l ∈ ls, l.length = k.length) : EvD K (tBM K "list" (rCntT K) (tVar i) (tCons (tVar j) tNil)) σ H (.int (ls.count k : Nat)) := fun H1 e Q q => by
  refine ev_var hi H1 e _ fun H2 e2 => ⟨Or.inl ⟨rfl, ys, sq_of (e2 _ _ (e _ _ hl))⟩, ?_⟩
  refine eda_cons (ed_var hj hk) eda_nil H2 (e.trans e2) _ fun vs H3 e3 hv => ?_
  cases hv with
  | cons h1 h2 =>
    cases h2
    have ee := (e.trans e2).trans e3
    exact ⟨l, ys, ls, _, k, rfl, rfl, sq_of (ee _ _ hl), dpa_ex ee _ _ hd, h1, hn, q _ H3 (e2.trans e3) (.int _)⟩
theorem val_S {v : V} : valV [((.inr "sides" : Key), v)] (.inr "sides") = some v := by
  simp [valV]
theorem lpr_eq (s : Int) : lpr s = (prs s).map fun p => tI [p.1, p.2] := by
  unfold lpr prs
  rw [List.map_flatMap]
  simp [tI, dI, List.map_map, Function.comp_def]
def endsOf (u : Sw) : List Int := [u.1.1, u.2.1]
theorem cnt_ends (us : List Sw) (p : Int × Int) : (((us.map endsOf).count [p.1, p.2] : Nat) : Int) = cntI us p := by
  unfold cntI
  congr 1
  rw [← List.countP_eq_length_filter, List.count, List.countP_map]
  refine List.countP_congr fun u _ => ?_
  simp [endsOf]
abbrev s__law_load : Stmt := topS 64
abbrev N__law_load : List Str := ["scope", "told", "ends_here", "switch", "pair"]
theorem sc__law_load : FnScope N__law_load ["scope", "told"] (defScope s__law_load) := ⟨rfl, rfl, rfl, by decide +kernel, rfl, by decide +kernel, by decide +kernel⟩
theorem ok__law_load {f : Addr} {fd : FuncData} (F : Fun K "_law_load" "_law_load" s__law_load f fd) (T : Txt mg)
    (D__law_pairs : DF P w K mg base "_law_pairs" 1 ["sides_here"] (spN K 1 R_law_pairs))  :
    FnOk P w K mg base CX0 2 f fd ["scope", "told"] (spLoad K) := by
  refine F.ok sc__law_load (fun vs H Q E h => by obtain ⟨_, _, _, _, rfl, _⟩ := h; rfl) (fun cdv A outer s H vs Q E hr h => ?_)
  obtain ⟨sc, s, v, us, rfl, hsc, h1, h2, hv, hl, k⟩ := h
  refine ⟨_, (pss_cons (ps_set (i := 2) sc__law_load.nd rfl (.inr rfl) (pe_lc (own := [("switch", 3)]) (g := (gName 3)) (tt := tYes) rfl sc__law_load.nd (pi_tup (pv 1)) (blkOk_by (N := N__law_load) (sc := defScope s__law_load) (by decide +kernel)) (fun _ _ _ _ _ => (pg_name (i := 3) sc__law_load.nd rfl (Or.inl rfl))) (fun _ _ _ _ _ => pts_nil) (fun _ _ _ _ _ => (pe_tup (pa_cons (pe_ix (ix_tupK K rfl) (pe_ix (ix_tupK K rfl) (pv 3) pe_int (fun _ _ => rfl)) pe_int (fun _ _ => rfl)) (pa_cons (pe_ix (ix_tupK K rfl) (pe_ix (ix_tupK K rfl) (pv 3) pe_int (fun _ _ => rfl)) pe_int (fun _ _ => rfl)) pa_nil))))))
      (pss_one (ps_ret (pe_callTy call_tuple_of (by rfl) T.b_tuple (by decide +kernel) (pa_cons (pe_lc (own := [("pair", 4)]) (g := (gName 4)) (tt := tYes) rfl sc__law_load.nd (pi_list (pe_D D__law_pairs (hr.mono (by decide)) (by rfl) (pa_cons (pe_dget (hu_of hr) (pv 0) pe_str (fun _ _ => rfl)) pa_nil))) (blkOk_by (N := N__law_load) (sc := defScope s__law_load) (by decide +kernel)) (fun _ _ _ _ _ => (pg_name (i := 4) sc__law_load.nd rfl (Or.inl rfl))) (fun _ _ _ _ _ => pts_nil) (fun _ _ _ _ _ => (pe_K (K := K) rfl (pe_bm PySem.F.plainAttrs_list PySem.F.slot_list_count PySem.F.type_list_count (mt_countTK K rfl (hu64 hr)) (pv 2) (pa_cons (pv 4) pa_nil))))) pa_nil))))), ?_⟩
  refine qn_asg (K := K) (en_is (en_lc (ei_tupD (ed_var (v := v) rfl hv)) (by rw [List.length_map]; omega) (fun i => tI (endsOf (us.getD i ((0, 0), (0, 0))))) (fun _ _ => imm_tI _) fun H2 i d x Hb Q' e2 hd1 e3 hd2 k2 => ?_) (?_ : _ = (us.map endsOf).map tI)) fun E vs1 H1 hE e1 hE1 dE => ?_
  · rw [List.getElem?_map] at hd1
    obtain ⟨u, hu, rfl⟩ := Option.map_eq_some_iff.mp hd1
    refine k2 _ Hb (Ex.refl _) rfl ?_
    rw [List.getD_eq_getElem?_getD, hu]
    show EvD K _ _ _ (.tuple [.int u.1.1, .int u.2.1])
    exact ed_tup (eda_cons (ed_ixT (k := 0) (ds := [.int u.1.1, .int u.1.2]) (ed_ixT (k := 0) (ds := [pD u.1, pD u.2]) (ed_var (v := x) rfl hd2) ev_c rfl) ev_c rfl) (eda_cons (ed_ixT (k := 0) (ds := [.int u.2.1, .int u.2.2]) (ed_ixT (k := 1) (ds := [pD u.1, pD u.2]) (ed_var (v := x) rfl hd2) ev_c rfl) ev_c rfl) eda_nil)) (by simp)
  · rw [List.length_map, List.map_map]
    refine List.ext_getElem? fun i => ?_
    rw [List.getElem?_map, List.getElem?_map]
    by_cases hi : i < us.length
    · rw [List.getElem?_range hi, List.getElem?_eq_getElem hi]
      simp [List.getD_eq_getElem?_getD, List.getElem?_eq_getElem hi]
    · rw [List.getElem?_eq_none (by simpa using Nat.le_of_not_lt hi), List.getElem?_eq_none (Nat.le_of_not_lt hi)]
      rfl
  · refine d_ret (ed_is (ed_tupleOf (EvN.toD (en_lc (ei_new (Ls.nil _) (en_call (R := R_law_pairs) (ds := [.int s]) (eda_cons (ed_int (ev_dget (k := .inr "sides") rfl (e1 _ _ hsc) val_S)) eda_nil) rfl ⟨s, rfl, h1, h2, rfl⟩) (lpr_imm s)) (by have := lpr_len h1 h2; omega) (fun i => .int (cntI us ((prs s).getD i (0, 0)))) (fun _ _ => by simp [imm]) fun H2 i d y Hb Q' e2 hd1 e3 hd2 k2 => ?_))) ?_) fun v' H' e' d' => k _ _ (e1.trans e') d'
    · rw [lpr_eq, List.getElem?_map] at hd1
      obtain ⟨p, hp, rfl⟩ := Option.map_eq_some_iff.mp hd1
      refine k2 _ Hb (Ex.refl _) rfl ?_
      have ee := e2.trans e3
      refine ed_is (ed_countT (l := E) (ys := vs1) (ls := us.map endsOf) (k := [p.1, p.2]) (kv := y) rfl rfl (ee _ _ hE1) (dpa_ex ee _ _ dE) hd2 ?_) ?_
      · intro l hl
        obtain ⟨u, _, rfl⟩ := List.mem_map.mp hl
        rfl
      · rw [cnt_ends, List.getD_eq_getElem?_getD, hp]
        rfl
    · rw [lpr_eq, List.length_map]
      show PyData.tuple _ = PyData.tuple (((prs s).map (cntI us)).map PyData.int)
      congr 1
      refine List.ext_getElem? fun i => ?_
      rw [List.getElem?_map, List.getElem?_map, List.getElem?_map]
      by_cases hi : i < (prs s).length
      · rw [List.getElem?_range hi, List.getElem?_eq_getElem hi]
        simp [List.getD_eq_getElem?_getD, List.getElem?_eq_getElem hi]
      · rw [List.getElem?_eq_none (by simpa using Nat.le_of_not_lt hi), List.getElem?_eq_none (Nat.le_of_not_lt hi)]
        rfl

end
end K16
set_option Elab.async false
set_option linter.all false
set_option maxRecDepth 100000
set_option maxHeartbeats 4000000
namespace K16
open PySem PySem.Spec PyProof.Rows L2 Evl DL
local macro_rules | `(tactic| walk_at "dl") => `(tactic| first
  | exact ev_c | exact ev_var rfl | exact eda_nil
  | exact ed_var rfl (by assumption)
  | exact ed_int ev_c | exact ed_int (ev_var rfl)
  | (refine eda_cons ?_ ?_ <;> walk_at "dl")
  | (refine ed_int ?_; walk_at "dl")
  | (refine ev_op ?_ ?_ rv_I0 <;> walk_at "dl"))

section
variable {P : Program} {w : World} {K : PySem.W.Frag} {mg : Str → Option Value} {base : Heap}

def spDrawn (K : PySem.W.Frag) : Sp := fun vs H Q _ => ∃ (st lg cl : Addr) (n : Nat) (s : Int), vs = [.ref st, .int s] ∧ 2 ≤ s ∧ s ≤ 5 ∧ n ≤ 9000 ∧ StK st lg cl n H ∧
  ∀ l v H', Ld s l → Xp [st, lg] H H' → StK st lg cl (n + 21) H' → Dp K H' v (tI l) → Q v H'
def spBegun (K : PySem.W.Frag) : Sp := fun vs H Q _ => ∃ (a : Addr) (ns : List Int), vs = [.ref a] ∧ SqL K H a (ns.map V.int) ∧ ns.length ≤ 63 ∧
  ∀ st lg cl H', H st = none → H lg = none → Ex H H' → StK st lg cl 0 H' → Q (.ref st) H'
theorem stk_ne {st lg cl D : Addr} {n : Nat} {H : Hp} (h : StK st lg cl n H) (hD : H D = none) : D ≠ st ∧ D ≠ lg ∧ D ≠ cl := by
  obtain ⟨l, t, xs, cs, h1, h2, h3, _⟩ := h
  refine ⟨fun z => ?_, fun z => ?_, fun z => ?_⟩
  · rw [z, h1] at hD; cases hD
  · rw [z, h2] at hD; cases hD
  · rw [z, h3] at hD; cases hD
theorem stk_upd {st lg cl D : Addr} {n : Nat} {H : Hp} {u : HO} (h : StK st lg cl n H) (hD : D ≠ st ∧ D ≠ lg ∧ D ≠ cl) : StK st lg cl n (L2.upd H D u) := by
  obtain ⟨l, t, xs, cs, h1, h2, h3, h4⟩ := h
  exact ⟨l, t, xs, cs, by rw [upd_ne (Ne.symm hD.1)]; exact h1, by rw [upd_ne (Ne.symm hD.2.1)]; exact h2, by rw [upd_ne (Ne.symm hD.2.2)]; exact h3, h4⟩
theorem merge_dk {lg cl : Addr} : mergeK [] (dk lg cl 0 0) = dk lg cl 0 0 := by
  obtain ⟨a, b, c, d, e, f⟩ := k_ne
  simp [mergeK, putK, dk, a, b, c, d, e, f]
theorem ev_absI {K : PySem.W.Frag} {σ : L2.St} {H : Hp} {ta : TE} {i : Int} (h : Ev ta σ H (.int i)) : Ev (tCB (fun xs H Q => ∃ i, xs = [.int i] ∧ Q (.int (if i < 0 then -i else i)) H) (tCons ta tNil)) σ H (.int (if i < 0 then -i else i)) := fun H1 e Q q =>
  h H1 e _ fun H2 e2 => ⟨i, rfl, q H2 e2⟩
theorem given_ints (n : Nat) (f : Nat → Bool) (g : Nat → Int) : given n f (fun i => V.int (g i)) = (((List.range n).filter f).map g).map V.int := by
  rw [given, List.map_map]
  rfl
abbrev s__law_begun : Stmt := topS 58
abbrev N__law_begun : List Str := ["script", "cells_here", "large", "cell"]
theorem sc__law_begun : FnScope N__law_begun ["script"] (defScope s__law_begun) := ⟨rfl, rfl, rfl, by decide +kernel, rfl, by decide +kernel, by decide +kernel⟩
theorem ok__law_begun {f : Addr} {fd : FuncData} (F : Fun K "_law_begun" "_law_begun" s__law_begun f fd) (T : Txt mg)
      :
    FnOk P w K mg base CX0 1 f fd ["script"] (spBegun K) := by
  refine F.ok sc__law_begun (fun vs H Q E h => by obtain ⟨_, _, rfl, _⟩ := h; rfl) (fun cdv A outer s H vs Q E hr h => ?_)
  obtain ⟨a, ns, rfl, hs, hl, k⟩ := h
  refine ⟨_, (pss_cons (ps_setLc (i := 1) (own := [("cell", 3)]) (g := (gName 3)) (tt := tYes) rfl sc__law_begun.nd rfl rfl (sw_true rfl rfl rfl (by decide +kernel)) (pi_list (pv 0)) (blkOk_by (N := N__law_begun) (sc := defScope s__law_begun) (by decide +kernel)) (fun _ _ _ _ _ => (pg_name (i := 3) sc__law_begun.nd rfl (Or.inl rfl))) (fun _ _ _ _ _ => pts_nil) (fun _ _ _ _ _ => (pe_callB call_abs (by rfl) T.b_abs (by decide +kernel) (pa_cons (pv 3) pa_nil))))
      (pss_cons (ps_setLc (i := 2) (own := [("cell", 3)]) (g := (gName 3)) (tt := _) rfl sc__law_begun.nd rfl rfl (sw_true rfl rfl rfl (by decide +kernel)) (pi_list (pv 1)) (blkOk_by (N := N__law_begun) (sc := defScope s__law_begun) (by decide +kernel)) (fun _ _ _ _ _ => (pg_name (i := 3) sc__law_begun.nd rfl (Or.inl rfl))) (fun _ _ _ _ _ => (pts_one (pt_cmpR op_ge (pv 3) (pe_op op_pow pe_int pe_int) (nomark _)))) (fun _ _ _ _ _ => (pe_op op_sub (pv 3) (pe_op op_pow pe_int pe_int))))
      (pss_one (ps_ret (pe_disp (pps_cons pe_str (pv 2) (pps_cons pe_str (pv 1) (pps_cons pe_str pe_int (pps_cons pe_str pe_int pps_nil)))) (by rfl) (by rfl) (fun z => by cases z) (by decide)))))), ?_⟩
  have c2 : ∀ (i : Nat) (x : V), (ns.map V.int)[i]? = some x → x = .int (ns.getD i 0) := fun i x h => by
    rw [List.getElem?_map] at h
    cases g : ns[i]? with
    | none => rw [g] at h; simp at h
    | some z => rw [g] at h; simp at h; rw [← h, List.getD_eq_getElem?_getD, g]; rfl
  refine q_asgL (xs := given (ns.map V.int).length (fun _ => true) fun i => V.int (if ns.getD i 0 < 0 then -(ns.getD i 0) else ns.getD i 0)) (el_lcL (K := K) (a := a) (xs := ns.map V.int) _ _ (ev_var rfl) hs (by rw [List.length_map]; omega) (fun x => rfl) (fun i x H1 e1 hx H2 e2 Q q => q H2 (Ex.refl _)) fun i x H1 e1 hx _ => ?_) fun cl H1 hcl e1 h1 => ?_
  · rw [c2 i x hx]
    exact ev_absI (K := K) (ev_var rfl)
  rw [given_ints] at h1
  generalize hcs : ((List.range (ns.map V.int).length).filter fun _ => true).map (fun i => if ns.getD i 0 < 0 then -(ns.getD i 0) else ns.getD i 0) = cs at h1
  have lcs : cs.length ≤ 63 := by
    rw [← hcs, List.length_map]
    refine Nat.le_trans (List.length_filter_le _ _) ?_
    rw [List.length_range, List.length_map]
    exact hl
  have c3 : ∀ (i : Nat) (x : V), (cs.map V.int)[i]? = some x → x = .int (cs.getD i 0) := fun i x h => by
    rw [List.getElem?_map] at h
    cases g : cs[i]? with
    | none => rw [g] at h; simp at h
    | some z => rw [g] at h; simp at h; rw [← h, List.getD_eq_getElem?_getD, g]; rfl
  refine q_asgL (xs := given (cs.map V.int).length (fun i => decide ((10 : Int) ^ (18 : Int).toNat ≤ cs.getD i 0)) fun i => V.int (cs.getD i 0 - (10 : Int) ^ (18 : Int).toNat)) (el_lcL (K := K) (a := cl) (xs := cs.map V.int) _ _ (ev_var rfl) (sq_of h1) (by rw [List.length_map]; omega) (fun x => rfl) (fun i x H2 e2 hx => ?_) fun i x H2 e2 hx _ => ?_) fun lg H2 hlg e2 h2 => ?_
  · rw [c3 i x hx]
    exact et_test (ev_op (ev_var rfl) (ev_op ev_c ev_c (rv_I ⟨by decide, by decide, by decide⟩)) rv_I0)
  · rw [c3 i x hx]
    exact ev_op (ev_var rfl) (ev_op ev_c ev_c (rv_I ⟨by decide, by decide, by decide⟩)) rv_I0
  rw [given_ints] at h2
  generalize hxs : ((List.range (cs.map V.int).length).filter fun i => decide ((10 : Int) ^ (18 : Int).toNat ≤ cs.getD i 0)).map (fun i => cs.getD i 0 - (10 : Int) ^ (18 : Int).toNat) = xs at h2
  show tRet (tDisp _) _ [some (.ref a), some (.ref cl), some (.ref lg), none] H2
  refine fun st hst => ⟨.ref lg, rfl, .ref cl, rfl, upd_same, dk lg cl 0 0, rfl, by show 4 ≤ 15; decide, ?_⟩
  rw [merge_dk]
  have e2' := Ex.new (o := .dK []) hst
  have ncl : cl ≠ lg := fun z => by rw [z] at h1; rw [hlg] at h1; cases h1
  have nst1 : lg ≠ st := fun z => by rw [← z] at hst; rw [hst] at h2; cases h2
  have nst2 : cl ≠ st := fun z => by
    have := e2 _ _ h1
    rw [z, hst] at this
    cases this
  refine k st lg cl _ (fresh_back (e1.trans e2) hst) (fresh_back e1 hlg) (Ex.mut ((e1.trans e2).trans e2') (fresh_back (e1.trans e2) hst)) ⟨0, 0, xs, cs, upd_same, ?_, ?_, ncl, by decide, by decide⟩
  · rw [upd_ne nst1, upd_ne nst1]
    exact h2
  · rw [upd_ne nst2, upd_ne nst2]
    exact e2 _ _ h1

end
end K16
set_option Elab.async false
set_option linter.all false
set_option maxRecDepth 100000
set_option maxHeartbeats 4000000
namespace K16
open PySem PySem.Spec PyProof.Rows L2 Evl DL
local macro_rules | `(tactic| walk_at "dl") => `(tactic| first
  | exact ev_c | exact ev_var rfl | exact eda_nil
  | exact ed_var rfl (by assumption)
  | exact ed_int ev_c | exact ed_int (ev_var rfl)
  | (refine eda_cons ?_ ?_ <;> walk_at "dl")
  | (refine ed_int ?_; walk_at "dl")
  | (refine ev_op ?_ ?_ rv_I0 <;> walk_at "dl"))
theorem lpr_prs (s : Int) : lpr s = (prs s).map pD := by
  unfold lpr prs
  rw [List.map_flatMap]
  simp only [List.map_map]
  rfl
/-- the numbers of the pairs that P lets, summed -/
def fsum (s : Int) (l : List Int) (p : Int × Int → Bool) : Int := (((List.range (np s)).filter fun j => p ((prs s).getD j (0, 0))).map fun j => l.getD j 0).sum
theorem prs2 : prs 2 = [(0, 1)] := by decide
theorem prs3 : prs 3 = [(0, 1), (0, 2), (1, 2)] := by decide
theorem prs4 : prs 4 = [(0, 1), (0, 2), (0, 3), (1, 2), (1, 3), (2, 3)] := by decide
theorem rng1 : List.range 1 = [0] := rfl
theorem rng3 : List.range 3 = [0, 1, 2] := rfl
theorem rng6 : List.range 6 = [0, 1, 2, 3, 4, 5] := rfl
theorem npn : np 2 = 1 ∧ np 3 = 3 ∧ np 4 = 6 := by decide
theorem np5 : np 5 = 10 := by decide
theorem rng10 : List.range 10 = [0, 1, 2, 3, 4, 5, 6, 7, 8, 9] := rfl
theorem fsum_side {s : Int} {l : List Int} {i : Nat} (h1 : 2 ≤ s) (h2 : s ≤ 5) (hl : l.length = np s) (hi : i < s.toNat) : fsum s l (fun q => decide ((i : Int) ∈ [q.1, q.2])) = (sms s l).getD i 0 := by
  have hs' : s = 2 ∨ s = 3 ∨ s = 4 ∨ s = 5 := by omega
  rcases hs' with rfl | rfl | rfl | rfl
  · match l, hl with
    | [a], _ =>
      have hi' : i = 0 ∨ i = 1 := by simp at hi; omega
      rcases hi' with rfl | rfl <;> (unfold fsum; rw [npn.1, prs2, rng1]; simp [sms, prs2, stp])
  · match l, hl with
    | [a, b, c], _ =>
      have hi' : i = 0 ∨ i = 1 ∨ i = 2 := by simp at hi; omega
      rcases hi' with rfl | rfl | rfl <;> (unfold fsum; rw [npn.2.1, prs3, rng3]; simp [sms, prs3, stp])
  · match l, hl with
    | [a, b, c, d, e, f], _ =>
      have hi' : i = 0 ∨ i = 1 ∨ i = 2 ∨ i = 3 := by simp at hi; omega
      rcases hi' with rfl | rfl | rfl | rfl <;> (unfold fsum; rw [npn.2.2, prs4, rng6]; simp [sms, prs4, stp]; try omega)
  · have h10 : l.length = 10 := hl.trans (by decide)
    obtain ⟨l0, m0, e0, h0⟩ := len_succ h10
    subst e0
    obtain ⟨l1, m1, e1, h1⟩ := len_succ h0
    subst e1
    obtain ⟨l2, m2, e2, h2⟩ := len_succ h1
    subst e2
    obtain ⟨l3, m3, e3, h3⟩ := len_succ h2
    subst e3
    obtain ⟨l4, m4, e4, h4⟩ := len_succ h3
    subst e4
    obtain ⟨l5, m5, e5, h5⟩ := len_succ h4
    subst e5
    obtain ⟨l6, m6, e6, h6⟩ := len_succ h5
    subst e6
    obtain ⟨l7, m7, e7, h7⟩ := len_succ h6
    subst e7
    obtain ⟨l8, m8, e8, h8⟩ := len_succ h7
    subst e8
    obtain ⟨l9, m9, e9, h9⟩ := len_succ h8
    subst e9
    have e9 := List.eq_nil_of_length_eq_zero h9
    subst e9
    have hi' : i = 0 ∨ i = 1 ∨ i = 2 ∨ i = 3 ∨ i = 4 := by simp at hi; omega
    rcases hi' with rfl | rfl | rfl | rfl | rfl <;> (unfold fsum; rw [np5, prs5, rng10, sms5]; simp; try omega)
def seqD (t : Bool) (ds : List PyData) : PyData := match t with
  | true => .tuple ds
  | false => .list ds
section
variable {K : PySem.W.Frag} {σ : L2.St} {H H' : Hp} {ta tb te : TE} {d : PyData} {ds es : List PyData} {v : V} {t u : Bool}
theorem seq_sqa (h : Dp K H v (seqD t ds)) : ∃ a xs, v = .ref a ∧ SqA K t H a xs ∧ DpAll K H xs ds := by
  cases t with
  | true =>
    cases h with
    | tup hs ha => exact ⟨_, _, rfl, sqa_t hs, ha⟩
  | false =>
    cases h with
    | lst hs ha => exact ⟨_, _, rfl, sqa_l hs, ha⟩
theorem sqa_ex {a : Addr} {xs : List V} (e : Ex H H') (h : SqA K t H a xs) : SqA K t H' a xs := by
  cases t with
  | true => exact sqa_t (ex_t e h)
  | false => exact sqa_l (ex_l e h)
/-- zip of two lists or tuples that are read, whatever their items -/
theorem ei_zipG (ha : EvD K ta σ H (seqD t ds)) (hb : EvD K tb σ H (seqD u es)) : EvI K (iZipM K t u (tCons ta (tCons tb tNil))) σ H [] (List.zipWith (fun x y => PyData.tuple [x, y]) ds es) := by
  intro H1 e R r
  refine ha H1 e _ fun x H2 e2 hx => hb H2 (e.trans e2) _ fun y H3 e3 hy => ?_
  obtain ⟨a1, xs1, rfl, hs1, ha1⟩ := seq_sqa hx
  obtain ⟨a2, xs2, rfl, hs2, ha2⟩ := seq_sqa hy
  have hs1 := sqa_ex e3 hs1
  have ha1 := dpa_ex e3 _ _ ha1
  refine ⟨_, _, _, _, rfl, hs1, hs2, r _ H3 (e2.trans e3) ?_⟩
  rw [List.length_zipWith, ← dpa_len ha1, ← dpa_len ha2]
  have w := walk_zipM (K := K) (a := a1) (b := a2) (xs := xs1) (ys := xs2) (t := t) (u := u) (n := min xs1.length xs2.length) rfl
  refine (w.mono (fun Ha x => ⟨sqa_ex x.to_ex hs1, sqa_ex x.to_ex hs2⟩) fun i Ha v Hb hlt hg y => ?_)
  obtain ⟨T, v1, v2, rfl, hT, rfl, g1, g2⟩ := y
  obtain ⟨d1, q1, q2⟩ := dpa_getV (dpa_ex (hg.to_ex.trans (Ex.new hT)) _ _ ha1) g1
  obtain ⟨d2, q3, q4⟩ := dpa_getV (dpa_ex (hg.to_ex.trans (Ex.new hT)) _ _ ha2) g2
  refine ⟨Ex.new hT, .tuple [d1, d2], ?_, .tup (st_of upd_same) (.cons q2 (.cons q4 .nil))⟩
  rw [List.getElem?_zipWith, q1, q3]
/-- enumerate of a list -/
theorem ei_enum (ha : EvD K ta σ H (.list ds)) : EvI K (iEnum K (tCons ta tNil)) σ H [] ((List.range ds.length).map fun (i : Nat) => PyData.tuple [.int (i : Int), ds.getD i .none]) := by
  intro H1 e R r
  refine ha H1 e _ fun x H2 e2 hx => ?_
  cases hx with
  | @lst a1 xs1 _ hs1 ha1 =>
    refine ⟨_, _, rfl, hs1, r _ H2 e2 ?_⟩
    rw [List.length_map, List.length_range, ← dpa_len ha1]
    refine (walk_enum (K := K) (a := a1) (xs := xs1)).mono (fun Ha x => ex_l x.to_ex hs1) fun i Ha v Hb hlt hg y => ?_
    obtain ⟨T, v1, v2, rfl, hT, rfl, g1, g2⟩ := y
    obtain ⟨d2, q3, q4⟩ := dpa_getV (dpa_ex (hg.to_ex.trans (Ex.new hT)) _ _ ha1) g2
    cases g1
    have hi : i < ds.length := (List.getElem?_eq_some_iff.mp q3).1
    refine ⟨Ex.new hT, .tuple [.int (i : Int), d2], ?_, .tup (st_of upd_same) (.cons (.int _) (.cons q4 .nil))⟩
    rw [List.getElem?_map, List.getElem?_range hlt]
    simp [List.getD_eq_getElem?_getD, q3]
end
section
variable {P : Program} {w : World} {K : PySem.W.Frag} {mg : Str → Option Value} {base : Heap}
def R_law_is_whole (ds : List PyData) (r : PyData) : Prop := ∃ d, ds = [d] ∧ r = .bool (isNum d)
def R_law_is_load (ds : List PyData) (r : PyData) : Prop := ∃ (s : Int) (d : PyData), ds = [.int s, d] ∧ 2 ≤ s ∧ s ≤ 5 ∧ r = .bool (ldOk s d)
theorem filt_nil (es : List PyData) : ((((List.range es.length).filter fun i => !isIn (es.getD i .none) 0 99).map fun _ => (1 : Int))).isEmpty = es.all (fun e => isIn e 0 99) := by
  rw [Bool.eq_iff_iff, List.isEmpty_iff, List.map_eq_nil_iff, List.filter_eq_nil_iff, List.all_eq_true]
  constructor
  · intro h e he
    obtain ⟨i, hi, rfl⟩ := List.getElem_of_mem he
    have := h i (by simpa using hi)
    simpa [List.getD_eq_getElem?_getD, hi] using this
  · intro h i hi
    have hi : i < es.length := by simpa using hi
    have := h es[i] (List.getElem_mem hi)
    simpa [List.getD_eq_getElem?_getD, hi] using this
def R_law_sums (ds : List PyData) (r : List PyData) : Prop := ∃ (s : Int) (l : List Int), ds = [.int s, tI l] ∧ 2 ≤ s ∧ s ≤ 5 ∧ l.length = np s ∧ r = dI (sms s l)
abbrev s__law_sums : Stmt := topS 65
abbrev N__law_sums : List Str := ["sides_here", "load", "found", "side", "number", "pair"]
theorem sc__law_sums : FnScope N__law_sums ["sides_here", "load"] (defScope s__law_sums) := ⟨rfl, rfl, rfl, by decide +kernel, rfl, by decide +kernel, by decide +kernel⟩
theorem ok__law_sums {f : Addr} {fd : FuncData} (F : Fun K "_law_sums" "_law_sums" s__law_sums f fd) (T : Txt mg)
    (D__law_pairs : DF P w K mg base "_law_pairs" 1 ["sides_here"] (spN K 1 R_law_pairs))  :
    FnOk P w K mg base CX0 2 f fd ["sides_here", "load"] (spN K 2 R_law_sums) := by
  refine F.ok sc__law_sums (fun vs H Q E h => spN_len h) (fun cdv A outer s H vs Q E hr h => ?_)
  obtain ⟨ds, r, hd, _, ⟨s, l, rfl, h1, h2, hl, rfl⟩, k⟩ := h
  obtain ⟨v0, v1, rfl, d0, d1⟩ := dpa_two hd
  cases dp_int d0
  refine ⟨_, (pss_cons (ps_set (i := 2) sc__law_sums.nd rfl (.inl rfl) (pe_lst pa_nil))
      (pss_cons (ps_for PassesOwn.never rfl (pi_range1 (by rfl) T.b_range (pa_cons (pv 0) pa_nil)) (pg_name (i := 3) sc__law_sums.nd rfl (Or.inr rfl)) (pss_one (ps_expr (pe_bm PySem.F.plainAttrs_list PySem.F.slot_list_append PySem.F.type_list_append mt_append (pv 2) (pa_cons (pe_callB (cr_sum rfl) (by rfl) T.b_sum (by decide +kernel) (pa_cons (pe_lc (own := [("number", 4), ("pair", 5)]) (g := (gTup K 2 (gCons (gName 4) (gCons (gName 5) gNil)))) (tt := _) rfl sc__law_sums.nd (pi_zipM true false (by rfl) T.b_zip (pa_cons (pv 1) (pa_cons (pe_D D__law_pairs (hr.mono (by decide)) (by rfl) (pa_cons (pv 0) pa_nil)) pa_nil))) (blkOk_by (N := N__law_sums) (sc := defScope s__law_sums) (by decide +kernel)) (fun _ _ _ _ _ => (pg_tup rfl (pgs_cons (pg_name (i := 4) sc__law_sums.nd rfl (Or.inl rfl)) (pgs_cons (pg_name (i := 5) sc__law_sums.nd rfl (Or.inl rfl)) pgs_nil)))) (fun _ _ _ _ _ => (pts_one (pt_cmpR (op_inK K rfl) (pv 3) (pv 5) (by rfl)))) (fun _ _ _ _ _ => (pv 4))) pa_nil)) pa_nil)))))
      (pss_one (ps_ret (pv 2))))), ?_⟩
  have len := sms_len s l
  have lp := lpr_len h1 h2
  refine qn_asg (K := K) (en_lst eda_nil (by simp)) fun p vs H1 hp e1 h1' hd1 => ?_
  cases hd1
  have d1 := dp_ex e1 _ _ d1
  refine e_for (K := K) (S := [p]) (ei_rng1 (n := s) (by walk_at "dl") (by omega)) (fun H2 i σ' Ha => Xp [p] H2 Ha ∧ Ha p = some (.lst (((sms s l).take i).map V.int)) ∧ ∃ a b c, σ' = [some (.int s), some v1, some (.ref p), a, b, c])
    (fun H2 e2 => ⟨Xp.refl _ _, by simpa using e2 _ _ h1', none, none, none, rfl⟩) (fun H2 i σ' Ha _ q => q.1) ?_ ?_
  · rintro H2 i d y σ' Ha Hb e2 hg ⟨p1, p2, a, b, c, rfl⟩ e3 hy
    have hlt : i < s.toNat := by have := (List.getElem?_eq_some_iff.mp hg).1; simpa using this
    rw [rng_get hlt] at hg
    cases hg
    cases hy
    have at1 := e3 _ _ p2
    have tx : Tx H1 Hb := ((Tx.of_ex e2).trans (p1.tx (Ls.one (e2 _ _ h1')))).trans (Tx.of_ex e3)
    have d1 := dp_tx tx _ _ (imm_tI _) d1
    show tDrop _ _ [some (.int s), some v1, some (.ref p), some (.int (i : Int)), b, c] Hb
    have zl : (List.zipWith (fun x y => PyData.tuple [x, y]) (dI l) (lpr s)).length = np s := by rw [List.length_zipWith, List.length_map, hl, lp.1, Nat.min_self]
    have key : EvN K (tLc (iZipM K true false (tCons (tVar 1) (tCons (tCall (spN K 1 R_law_pairs) [] E0 (tCons (tVar 0) tNil)) tNil))) (gTup K 2 (gCons (gName 4) (gCons (gName 5) gNil))) (tTest (tOp (rIn K false) (tVar 3) (tVar 5))) (tVar 4) [4, 5]) [some (.int s), some v1, some (.ref p), some (.int (i : Int)), b, c] Hb (dI (((List.range (np s)).filter fun j => decide ((i : Int) ∈ [((prs s).getD j (0, 0)).1, ((prs s).getD j (0, 0)).2])).map fun j => l.getD j 0)) := by
      rw [← zl]
      refine en_lcB (ei_zipG (t := true) (u := false) (ds := dI l) (es := lpr s) (ed_var (v := v1) rfl d1) (EvN.toD (en_call (R := R_law_pairs) (ds := [.int s]) (by walk_at "dl") rfl ⟨s, rfl, h1, h2, rfl⟩))) (by have := lp.2; omega) (fun j => decide ((i : Int) ∈ [((prs s).getD j (0, 0)).1, ((prs s).getD j (0, 0)).2])) (fun j => l.getD j 0) fun H2 j d x Hb Q' e2 hg e3 hx kk => ?_
      have hj : j < np s := by have := (List.getElem?_eq_some_iff.mp hg).1; omega
      rw [lpr_prs, List.getElem?_zipWith, List.getElem?_map, List.getElem?_map, List.getElem?_eq_getElem (show j < l.length by rw [hl]; exact hj), List.getElem?_eq_getElem (show j < (prs s).length from hj)] at hg
      cases hg
      refine g_two hx fun w1 w2 u1 u2 => ?_
      cases dp_int u1
      have gl : l.getD j 0 = l[j]'(by rw [hl]; exact hj) := by rw [List.getD_eq_getElem?_getD, List.getElem?_eq_getElem (show j < l.length by rw [hl]; exact hj)]; rfl
      have gp : (prs s).getD j (0, 0) = (prs s)[j]'hj := by rw [List.getD_eq_getElem?_getD, List.getElem?_eq_getElem (show j < (prs s).length from hj)]; rfl
      refine kk _ Hb (Ex.refl _) rfl ?_ ?_
      · rw [gp]
        exact et_test (ev_inT (ev_var rfl) (ed_var (v := w2) rfl u2))
      · rw [gl]
        exact ev_var rfl
    refine d_app (K := K) (d := .int ((sms s l).getD i 0)) at1 (ev_var rfl) (ed_int ?_) (by rw [List.length_map, List.length_take]; omega) fun v H3 e4 hv => ?_
    · rw [← fsum_side h1 h2 hl hlt]
      exact ev_sumL (EvN.toD key)
    · cases dp_int hv
      have g : (sms s l)[i]? = some ((sms s l).getD i 0) := by rw [List.getD_eq_getElem?_getD, List.getElem?_eq_getElem (by omega)]; rfl
      refine ⟨Xp.upd ((p1.then e3).then e4) (by simp), ?_, _, _, _, rfl⟩
      rw [upd_same, List.take_succ, g]
      simp
  · rintro H2 σ' Ha e2 ⟨p1, p2, a, b, c, rfl⟩
    have e0 : Ex H Ha := xp_fresh (e1.trans e2) p1 hp
    rw [List.length_map, List.length_range, List.take_of_length_le (by omega)] at p2
    exact ⟨.ref p, rfl, k p _ Ha hp e0 p2 (ints_dpa _)⟩

end
end K16
set_option Elab.async false
set_option linter.all false
set_option maxRecDepth 100000
set_option maxHeartbeats 4000000
namespace K16
open PySem PySem.Spec PyProof.Rows L2 Evl DL
local macro_rules | `(tactic| walk_at "dl") => `(tactic| first
  | exact ev_c | exact ev_var rfl | exact eda_nil
  | exact ed_var rfl (by assumption)
  | exact ed_int ev_c | exact ed_int (ev_var rfl)
  | (refine eda_cons ?_ ?_ <;> walk_at "dl")
  | (refine ed_int ?_; walk_at "dl")
  | (refine ev_op ?_ ?_ rv_I0 <;> walk_at "dl"))

def R_law_sumsL (ds : List PyData) (r : List PyData) : Prop := ∃ (s : Int) (l : List Int), ds = [.int s, .list (dI l)] ∧ 2 ≤ s ∧ s ≤ 5 ∧ l.length = np s ∧ r = dI (sms s l)
section
variable {P : Program} {w : World} {K : PySem.W.Frag} {mg : Str → Option Value} {base : Heap}
theorem ok__law_sumsL {f : Addr} {fd : FuncData} (F : Fun K "_law_sums" "_law_sums" s__law_sums f fd) (T : Txt mg)
    (D__law_pairs : DF P w K mg base "_law_pairs" 1 ["sides_here"] (spN K 1 R_law_pairs))  :
    FnOk P w K mg base CX0 2 f fd ["sides_here", "load"] (spN K 2 R_law_sumsL) := by
  refine F.ok sc__law_sums (fun vs H Q E h => spN_len h) (fun cdv A outer s H vs Q E hr h => ?_)
  obtain ⟨ds, r, hd, _, ⟨s, l, rfl, h1, h2, hl, rfl⟩, k⟩ := h
  obtain ⟨v0, v1, rfl, d0, d1⟩ := dpa_two hd
  cases dp_int d0
  refine ⟨_, (pss_cons (ps_set (i := 2) sc__law_sums.nd rfl (.inl rfl) (pe_lst pa_nil))
      (pss_cons (ps_for PassesOwn.never rfl (pi_range1 (by rfl) T.b_range (pa_cons (pv 0) pa_nil)) (pg_name (i := 3) sc__law_sums.nd rfl (Or.inr rfl)) (pss_one (ps_expr (pe_bm PySem.F.plainAttrs_list PySem.F.slot_list_append PySem.F.type_list_append mt_append (pv 2) (pa_cons (pe_callB (cr_sum rfl) (by rfl) T.b_sum (by decide +kernel) (pa_cons (pe_lc (own := [("number", 4), ("pair", 5)]) (g := (gTup K 2 (gCons (gName 4) (gCons (gName 5) gNil)))) (tt := _) rfl sc__law_sums.nd (pi_zipM false false (by rfl) T.b_zip (pa_cons (pv 1) (pa_cons (pe_D D__law_pairs (hr.mono (by decide)) (by rfl) (pa_cons (pv 0) pa_nil)) pa_nil))) (blkOk_by (N := N__law_sums) (sc := defScope s__law_sums) (by decide +kernel)) (fun _ _ _ _ _ => (pg_tup rfl (pgs_cons (pg_name (i := 4) sc__law_sums.nd rfl (Or.inl rfl)) (pgs_cons (pg_name (i := 5) sc__law_sums.nd rfl (Or.inl rfl)) pgs_nil)))) (fun _ _ _ _ _ => (pts_one (pt_cmpR (op_inK K rfl) (pv 3) (pv 5) (by rfl)))) (fun _ _ _ _ _ => (pv 4))) pa_nil)) pa_nil)))))
      (pss_one (ps_ret (pv 2))))), ?_⟩
  have len := sms_len s l
  have lp := lpr_len h1 h2
  refine qn_asg (K := K) (en_lst eda_nil (by simp)) fun p vs H1 hp e1 h1' hd1 => ?_
  cases hd1
  have dl : ∀ H2, Ex H1 H2 → ∀ Ha, Xp [p] H2 Ha → Dp K Ha v1 (.list (dI l)) := fun H2 e2 Ha x => by
    cases d1 with
    | lst hs ha =>
      obtain rfl := dpa_ints ha
      exact .lst (sqL_xp hs hp (e1.trans e2) x) (ints_dpa l)
  have d1 := dp_ex e1 _ _ d1
  refine e_for (K := K) (S := [p]) (ei_rng1 (n := s) (by walk_at "dl") (by omega)) (fun H2 i σ' Ha => Xp [p] H2 Ha ∧ Ha p = some (.lst (((sms s l).take i).map V.int)) ∧ ∃ a b c, σ' = [some (.int s), some v1, some (.ref p), a, b, c])
    (fun H2 e2 => ⟨Xp.refl _ _, by simpa using e2 _ _ h1', none, none, none, rfl⟩) (fun H2 i σ' Ha _ q => q.1) ?_ ?_
  · rintro H2 i d y σ' Ha Hb e2 hg ⟨p1, p2, a, b, c, rfl⟩ e3 hy
    have hlt : i < s.toNat := by have := (List.getElem?_eq_some_iff.mp hg).1; simpa using this
    rw [rng_get hlt] at hg
    cases hg
    cases hy
    have at1 := e3 _ _ p2
    have tx : Tx H1 Hb := ((Tx.of_ex e2).trans (p1.tx (Ls.one (e2 _ _ h1')))).trans (Tx.of_ex e3)
    have d1 : Dp K Hb v1 (.list (dI l)) := dp_ex e3 _ _ (dl H2 e2 Ha p1)
    show tDrop _ _ [some (.int s), some v1, some (.ref p), some (.int (i : Int)), b, c] Hb
    have zl : (List.zipWith (fun x y => PyData.tuple [x, y]) (dI l) (lpr s)).length = np s := by rw [List.length_zipWith, List.length_map, hl, lp.1, Nat.min_self]
    have key : EvN K (tLc (iZipM K false false (tCons (tVar 1) (tCons (tCall (spN K 1 R_law_pairs) [] E0 (tCons (tVar 0) tNil)) tNil))) (gTup K 2 (gCons (gName 4) (gCons (gName 5) gNil))) (tTest (tOp (rIn K false) (tVar 3) (tVar 5))) (tVar 4) [4, 5]) [some (.int s), some v1, some (.ref p), some (.int (i : Int)), b, c] Hb (dI (((List.range (np s)).filter fun j => decide ((i : Int) ∈ [((prs s).getD j (0, 0)).1, ((prs s).getD j (0, 0)).2])).map fun j => l.getD j 0)) := by
      rw [← zl]
      refine en_lcB (ei_zipG (t := false) (u := false) (ds := dI l) (es := lpr s) (ed_var (v := v1) rfl d1) (EvN.toD (en_call (R := R_law_pairs) (ds := [.int s]) (by walk_at "dl") rfl ⟨s, rfl, h1, h2, rfl⟩))) (by have := lp.2; omega) (fun j => decide ((i : Int) ∈ [((prs s).getD j (0, 0)).1, ((prs s).getD j (0, 0)).2])) (fun j => l.getD j 0) fun H2 j d x Hb Q' e2 hg e3 hx kk => ?_
      have hj : j < np s := by have := (List.getElem?_eq_some_iff.mp hg).1; omega
      rw [lpr_prs, List.getElem?_zipWith, List.getElem?_map, List.getElem?_map, List.getElem?_eq_getElem (show j < l.length by rw [hl]; exact hj), List.getElem?_eq_getElem (show j < (prs s).length from hj)] at hg
      cases hg
      refine g_two hx fun w1 w2 u1 u2 => ?_
      cases dp_int u1
      have gl : l.getD j 0 = l[j]'(by rw [hl]; exact hj) := by rw [List.getD_eq_getElem?_getD, List.getElem?_eq_getElem (show j < l.length by rw [hl]; exact hj)]; rfl
      have gp : (prs s).getD j (0, 0) = (prs s)[j]'hj := by rw [List.getD_eq_getElem?_getD, List.getElem?_eq_getElem (show j < (prs s).length from hj)]; rfl
      refine kk _ Hb (Ex.refl _) rfl ?_ ?_
      · rw [gp]
        exact et_test (ev_inT (ev_var rfl) (ed_var (v := w2) rfl u2))
      · rw [gl]
        exact ev_var rfl
    refine d_app (K := K) (d := .int ((sms s l).getD i 0)) at1 (ev_var rfl) (ed_int ?_) (by rw [List.length_map, List.length_take]; omega) fun v H3 e4 hv => ?_
    · rw [← fsum_side h1 h2 hl hlt]
      exact ev_sumL (EvN.toD key)
    · cases dp_int hv
      have g : (sms s l)[i]? = some ((sms s l).getD i 0) := by rw [List.getD_eq_getElem?_getD, List.getElem?_eq_getElem (by omega)]; rfl
      refine ⟨Xp.upd ((p1.then e3).then e4) (by simp), ?_, _, _, _, rfl⟩
      rw [upd_same, List.take_succ, g]
      simp
  · rintro H2 σ' Ha e2 ⟨p1, p2, a, b, c, rfl⟩
    have e0 : Ex H Ha := xp_fresh (e1.trans e2) p1 hp
    rw [List.length_map, List.length_range, List.take_of_length_le (by omega)] at p2
    exact ⟨.ref p, rfl, k p _ Ha hp e0 p2 (ints_dpa _)⟩

end
end K16
set_option Elab.async false
set_option linter.all false
set_option maxRecDepth 100000
set_option maxHeartbeats 4000000
/-! len(set(xs)) of tuples of ints; x not in t, data of any depth -/
namespace K16
open PySem PySem.Spec PyProof.Rows L2 Evl DL
section
variable {X : Cx}
def tLenSetT (K : PySem.W.Frag) (ta : TE) : TE := fun σ H Q => ta σ H fun x H1 => ∃ (l : Addr) (xs : List V) (ls : List (List Int)), x = V.ref l ∧ SqL K H1 l xs ∧ DpAll K H1 xs (ls.map tI) ∧ ls.length < 64 ∧ ls.Nodup ∧ Q (.int ls.length) H1
theorem keys_of {K : PySem.W.Frag} {H : Hp} : ∀ {ls : List (List Int)} {xs : List V}, DpAll K H xs (ls.map tI) → ∃ ks : List (Addr × List Int), xs = ks.map (fun p => V.ref p.1) ∧ ls = ks.map (·.2) ∧ ∀ p ∈ ks, SqT K H p.1 (p.2.map V.int)
  | [], _, .nil => ⟨[], rfl, rfl, fun _ h => by simp at h⟩
  | l :: ls, _, .cons h t => by
    obtain ⟨a, rfl, ha⟩ := dp_tI h
    obtain ⟨ks, rfl, rfl, hk⟩ := keys_of t
    refine ⟨(a, l) :: ks, rfl, rfl, fun p hp => ?_⟩
    rcases List.mem_cons.mp hp with rfl | hp
    · exact ha
    · exact hk p hp
theorem nodup_len {α : Type} [DecidableEq α] {a b : List α} (ha : a.Nodup) (hb : b.Nodup) (h : ∀ x, x ∈ a ↔ x ∈ b) : a.length = b.length := ((List.perm_ext_iff_of_nodup ha hb).mpr h).length_eq
theorem pe_lenSetT {a : Expr} {ta : TE} {p p2 q pos : Pos} (hc : X.calm = true) (hu : X.A.units + 64 < cLine) (hg : Gl X "len") (hm : X.mg "len" = none) (hg2 : Gl X "set") (hm2 : X.mg "set" = none) (ha : PE X a ta)
    (na : starEach [a] X.env = (false, eval a X.env) :: starEach [] X.env := by rfl) : PE X (.Call (.Name "len" p) [.Call (.Name "set" p2) [a] [] q] [] pos) (tLenSetT X.K ta) := by
  refine ⟨fun pins s σ H Q I h => ?_⟩
  refine Call_ (ld_blt I hg hm PySem.boot_len ?_)
  refine PyProof.Rows.callWith_builtin1 (PyProof.Rows.args_cons ?_ rfl) rfl rfl
  refine Call_ (ld_blt I hg2 hm2 PyProof.Rows.boot_set ?_)
  refine PyProof.Rows.callWith_type1 (PyProof.Rows.args_cons (thn (ha.run pins s σ H _ I h) fun v s1 ⟨x, H1, I1, r1, q1⟩ => PyProof.Rows.args_nil ?_) na) na rfl
  obtain ⟨l, xs, ls, rfl, hq, hd, h1, hnd, q1⟩ := q1
  cases r1
  obtain ⟨ks, rfl, rfl, hk⟩ := keys_of hd
  obtain ⟨its, r, pl, hz⟩ := I1.list hq
  refine call_set_tups (P := X.prog) (w := X.w) ks (I1.ok.hd hc) pl.isList (by simpa using refs_of_vals r) (fun p hp => I1.isT (hk p hp)) (by simpa using h1) (by omega) fun h' tk L es ep t R g k => ?_
  refine PyProof.Rows.args_nil ?_
  obtain ⟨o, ho, hex, hd⟩ := R.ob
  have I2 : Inv X pins σ H1 { s1 with heap := h', toks := tk } := I1.kept fun b o e => k b o e
  have sz := SetTR.size (s := { s1 with heap := h', toks := tk }) R
  have fits := SetTR.fits (s := { s1 with heap := h', toks := tk }) R
  have few := R.few
  have len : L.length = (ks.map (·.2)).length := by
    rw [← List.length_map (f := (·.2)) (as := L)]
    refine nodup_len R.nd hnd fun x => ⟨fun hx => ?_, fun hx => ?_⟩
    · obtain ⟨p, hp, rfl⟩ := List.mem_map.mp hx
      exact List.mem_map_of_mem (List.mem_of_mem_take (g.sub p hp))
    · obtain ⟨p, hp, rfl⟩ := List.mem_map.mp hx
      exact g.all p (by rw [List.take_length]; exact hp)
  refine call_len_set ho hex hd fits (by rw [sz]; omega) ⟨.int (ks.map (·.2)).length, H1, I2.tok _, ⟨_, by rw [sz, len]⟩, q1⟩
theorem lenSet_K {K : PySem.W.Frag} {e : Expr} {ta : TE} (h : X.K = K) (p : PE X e (tLenSetT X.K ta)) : PE X e (tLenSetT K ta) := h ▸ p
theorem ev_lenSet {K : PySem.W.Frag} {te : TE} {σ : L2.St} {H : Hp} {ls : List (List Int)} (h : EvN K te σ H (ls.map tI)) (hl : ls.length < 64) (hn : ls.Nodup) : Ev (tLenSetT K te) σ H (.int (ls.length : Int)) := fun H1 e Q q =>
  h H1 e _ fun p vs H2 _ e2 hp hd => ⟨p, vs, ls, rfl, sq_of hp, hd, hl, hn, q H2 e2⟩
/-- x not in t, t a tuple -/
def rNotInT (K : PySem.W.Frag) : R2 := fun x y H Q => ∃ d ds, Dp K H x d ∧ Dp K H y (.tuple ds) ∧ SeqAt.shaped d = true ∧ SeqAt.shaped (.tuple ds) = true ∧ Q (.bl (!ds.any fun z => PyData.eqv z d)) H
theorem op_notInT (K : PySem.W.Frag) (hK : X.K = K) (hu : X.A.units + 65 < cLine) : OpR X (compareOp .NotIn) (rNotInT K) := by
  subst hK
  intro pins s σ H x y v u Q I rx ry h
  obtain ⟨d, ds, hd, he, sd, se, q⟩ := h
  obtain ⟨as, r1⟩ := Dp.reads I d x v hd rx
  obtain ⟨bs, r2⟩ := Dp.reads I (.tuple ds) y u he ry
  exact SeqAt.notIn_tuple_reads r2 r1 (SeqAt.canLay_of_shaped se) (SeqAt.canLay_of_shaped sd) (room_in_shaped sd hu) ⟨.bl _, H, I, rfl, q⟩
theorem ev_notInT {K : PySem.W.Frag} {ta tb : TE} {σ : L2.St} {H : Hp} {d : PyData} {ds : List PyData} (ha : EvD K ta σ H d) (hb : EvD K tb σ H (.tuple ds)) (sd : SeqAt.shaped d = true) (se : SeqAt.shaped (.tuple ds) = true) :
    Ev (tOp (rNotInT K) ta tb) σ H (.bl (!ds.any fun z => PyData.eqv z d)) := fun H1 e Q q =>
  ha H1 e _ fun v H2 e2 hv => hb H2 (e.trans e2) _ fun u H3 e3 hu => ⟨d, ds, dp_ex e3 _ _ hv, hu, sd, se, q H3 (e2.trans e3)⟩
end
end K16
set_option Elab.async false
set_option linter.all false
set_option maxRecDepth 100000
set_option maxHeartbeats 4000000
namespace K16
open PySem PySem.Spec PyProof.Rows L2 Evl DL LamX
local macro_rules | `(tactic| walk_at "dl") => `(tactic| first
  | exact ev_c | exact ev_var rfl | exact eda_nil
  | exact ed_var rfl (by assumption)
  | exact ed_int ev_c | exact ed_int (ev_var rfl)
  | (refine eda_cons ?_ ?_ <;> walk_at "dl")
  | (refine ed_int ?_; walk_at "dl")
  | (refine ev_op ?_ ?_ rv_I0 <;> walk_at "dl"))

section
variable {P : Program} {w : World} {K : PySem.W.Frag} {mg : Str → Option Value} {base : Heap} {tb : Addr}
/-- mates_way where it is called with a load let by two, and its lambda's code lies there already -/
def spMatesE (K : PySem.W.Frag) (tb : Addr) : Sp := fun vs H Q _ => ∃ (s : Int) (l : List Int), DpAll K H vs [.int s, tI l] ∧ 2 ≤ s ∧ s ≤ 5 ∧ Ld s l ∧ mxl (sms s l) ≤ 2 ∧ TabS H tb qW ∧ HasC H tb (lamPos wLam) ∧
  ∀ v H', Ex H H' → Dp K H' v (.tuple ((wys s l).map swD)) → Q v H'
theorem mates_E {CB CL : Addr} (F : DFX P w K mg base "mates_way" 11 ["sides", "load"] (spMates K tb CB CL)) : DF P w K mg base "mates_way" 11 ["sides", "load"] (spMatesE K tb) := by
  obtain ⟨f, fd, h1, h2⟩ := F.ex
  refine ⟨f, fd, calm_of h1 fun vs H Q E ⟨s, l, hd, g1, g2, hl, hm, hT, hC, q⟩ => ?_, h2⟩
  obtain ⟨rows, hw, c4, c5, e, _⟩ := wys_ok g1 g2 hl hm
  refine ⟨_, _, hd, .inl ⟨s, l, rows, rfl, rfl, g1, g2, hl, hm, hw, c4, c5, hT, .inl ⟨hC, fun v H' x hv => q v H' x ?_⟩⟩⟩
  rw [e, ← srt_data]
  exact hv
theorem ed_mates {ta : TA} {σ : L2.St} {H : Hp} {s : Int} {l : List Int} (h : EvDA K ta σ H [.int s, tI l]) (h1 : 2 ≤ s) (h2 : s ≤ 5) (hl : Ld s l) (hm : mxl (sms s l) ≤ 2) (hT : TabS H tb qW) (hC : HasC H tb (lamPos wLam)) :
    EvD K (tCall (spMatesE K tb) [] E0 ta) σ H (.tuple ((wys s l).map swD)) := fun H1 e Q q =>
  h H1 e _ fun vs H2 e2 hv => ⟨s, l, by rw [List.append_nil]; exact hv, h1, h2, hl, hm, hT.ext (e.trans e2), hC.ex (e.trans e2), fun v H3 e3 hd => q v H3 (e2.trans e3) hd⟩
/-- a comprehension with a test, its items data -/
theorem en_lcBD {σ : L2.St} {H : Hp} {ds : List PyData} {te : TE} {wi : TI} {g : TG} {tt : TT} {vs : List Nat} (h : EvI K wi σ H [] ds) (hl : ds.length ≤ 50000) (b : Nat → Bool) (f : Nat → PyData) (hi : ∀ i, imm (f i) = true)
    (hs : ∀ H2 i d x Hb (Q : L2.St → Hp → Prop), Ex H H2 → ds[i]? = some d → Ex H2 Hb → Dp K Hb x d → (∀ σ2 H3, Ex Hb H3 → wipe σ2 vs = wipe σ vs → EvT tt σ2 H3 (b i) → EvD K te σ2 H3 (f i) → Q σ2 H3) → g x (wipe σ vs) Hb Q) :
    EvN K (tLc wi g tt te vs) σ H (((List.range ds.length).filter b).map f) := fun H1 e Q q => h H1 e _ fun J H2 e2 w => fun Dl hD => by
  have all : ∀ l : List Nat, immAll (l.map f) = true := fun l => by
    induction l with
    | nil => simp [immAll]
    | cons n l ih => rw [List.map_cons, immAll, ih, hi n]; rfl
  refine lc_it w (fun n Ha => ∃ ws, Ex H2 Ha ∧ Ha Dl = some (.lst ws) ∧ DpAll K Ha ws (((List.range n).filter b).map f)) ⟨[], Ex.new hD, upd_same, by simp; exact .nil⟩ (fun n Ha _ p => by
    obtain ⟨ws, p1, _⟩ := p
    exact Xp.of_ex p1) (fun i x Ha Hb hlt p y => ?_) fun Ha p => ?_
  · obtain ⟨ws, p1, p2, p3⟩ := p
    obtain ⟨ey, d, hd1, hd2⟩ := y
    refine hs H2 i d x Hb _ (e.trans e2) hd1 (p1.trans ey) hd2 fun σ2 H3 e3 hw ht hv => ⟨hw, ?_⟩
    refine ht H3 (Ex.refl _) _ fun H4 e4 => ?_
    have at4 : H4 Dl = some (.lst ws) := e4 _ _ (e3 _ _ (ey _ _ p2))
    have x4 := ((p1.trans ey).trans e3).trans e4
    have p4 := dpa_ex ((ey.trans e3).trans e4) _ _ p3
    cases hb : b i with
    | false =>
      rw [if_neg (by simp)]
      refine ⟨ws, x4, at4, ?_⟩
      rw [List.range_succ, List.filter_append, List.filter_cons, hb]
      simpa using p4
    | true =>
      rw [if_pos rfl]
      refine hv H4 e4 _ fun v H5 e5 hv5 => ⟨ws, e5 _ _ at4, ?_, ws ++ [v], Ex.mut (x4.trans e5) hD, upd_same, ?_⟩
      · have := dpa_len p3
        rw [List.length_map] at this
        have := List.length_filter_le b (List.range i)
        rw [List.length_range] at this
        exact sz_lt (by omega)
      · have tx : Tx H5 (upd H5 Dl (.lst (ws ++ [v]))) := Tx.lst (e5 _ _ at4)
        rw [List.range_succ, List.filter_append, List.filter_cons, hb, List.map_append]
        exact dpa_app (dpa_tx tx _ _ (all _) (dpa_ex e5 _ _ p4)) (.cons (dp_tx tx _ _ (hi i) hv5) .nil)
  · obtain ⟨ws, p1, p2, p3⟩ := p
    exact q Dl ws Ha (fresh_back e2 hD) (e2.trans p1) p2 p3
theorem ed_ixLast {σ : L2.St} {H : Hp} {ta tb : TE} {ds : List PyData} {d : PyData} (h : EvD K ta σ H (.list ds)) (hi : Ev tb σ H (.int (-1))) (hk : ds.getLast? = some d) : EvD K (tOp (rIxL K) ta tb) σ H d := fun H1 e Q q =>
  h H1 e _ fun w H2 e2 hw => hi H2 (e.trans e2) _ fun H3 e3 => by
    cases hw with
    | lst hs ha =>
      have ln := dpa_len ha
      obtain ⟨y, hy, dy⟩ := dpa_get ha (by rw [← List.getLast?_eq_getElem?]; exact hk)
      rw [← ln, ← List.getLast?_eq_getElem?] at hy
      obtain ⟨ys, hys⟩ := List.getLast?_eq_some_iff.mp hy
      rw [hys] at hs
      exact ⟨_, _, (-1 : Int), y, rfl, rfl, ex_l e3 hs, atI_last _ _, q y H3 (e2.trans e3) (dp_ex e3 _ _ dy)⟩
theorem q_ifT {t : TT} {sa tz : TS} {D : Ends} {σ : L2.St} {H : Hp} (M : L2.St → Hp → Prop) (h : ∀ Z : L2.St → Hp → Prop, (∀ σ' H', M σ' H' → Z σ' H') → tIfS t sa tNext { D with nx := Z } σ H) (q : ∀ σ' H', M σ' H' → tz D σ' H') : tSeq (tIfS t sa tNext) tz D σ H := h (tz D) q
def spLaid (K : PySem.W.Frag) (tb : Addr) : Sp := fun vs H Q _ => ∃ (s m : Int) (v : V) (ps : List (List Int)), vs = [.int s, .int m, v] ∧ 2 ≤ s ∧ s ≤ 5 ∧ 1 ≤ m ∧ m ≤ 6 ∧ Dp K H v (.list (ps.map tI)) ∧ Parts s m ps ∧ TabS H tb qW ∧ HasC H tb (lamPos wLam) ∧
  ∀ v' H', Ex H H' → Dp K H' v' (.tuple ((srt (laidS s m ps)).map swD)) → Q v' H'
theorem imm_swD (u : Sw) : imm (swD u) = true := imm_sw u
abbrev s__law_laid : Stmt := topS 67
abbrev N__law_laid : List Str := ["sides_here", "many", "parts", "found", "spot", "one", "other", "pairs_here", "pair", "number"]
theorem sc__law_laid : FnScope N__law_laid ["sides_here", "many", "parts"] (defScope s__law_laid) := ⟨rfl, rfl, rfl, by decide +kernel, rfl, by decide +kernel, by decide +kernel⟩
theorem ok__law_laid {f : Addr} {fd : FuncData} (F : Fun K "_law_laid" "_law_laid" s__law_laid f fd) (T : Txt mg)
    (D__law_pairs : DF P w K mg base "_law_pairs" 1 ["sides_here"] (spN K 1 R_law_pairs)) (D_mates_way : DF P w K mg base "mates_way" 11 ["sides", "load"] (spMatesE K tb))  :
    FnOk P w K mg base CX0 12 f fd ["sides_here", "many", "parts"] (spLaid K tb) := by
  refine F.ok sc__law_laid (fun vs H Q E h => by obtain ⟨_, _, _, _, rfl, _⟩ := h; rfl) (fun cdv A outer s H vs Q E hr h => ?_)
  obtain ⟨s, m, v2, ps, rfl, h1, h2, h3, h4, d2, pp, hT, hC, k⟩ := h
  refine ⟨_, (pss_cons (ps_set (i := 3) sc__law_laid.nd rfl (.inl rfl) (pe_lst pa_nil))
      (pss_cons (ps_for PassesOwn.never rfl (pi_range1 (by rfl) T.b_range (pa_cons (pe_op op_fdiv (pv 1) pe_int) pa_nil)) (pg_name (i := 4) sc__law_laid.nd rfl (Or.inl rfl)) (pss_one (ps_for PassesOwn.never rfl (pi_tup (pe_D D_mates_way (hr.mono (by decide)) (by rfl) (pa_cons (pv 0) (pa_cons (pe_ix ix_list (pv 2) (pv 4) (fun _ _ => rfl)) pa_nil)))) (pg_tup rfl (pgs_cons (pg_name (i := 5) sc__law_laid.nd rfl (Or.inl rfl)) (pgs_cons (pg_name (i := 6) sc__law_laid.nd rfl (Or.inl rfl)) pgs_nil))) (pss_one (ps_expr (pe_bm PySem.F.plainAttrs_list PySem.F.slot_list_append PySem.F.type_list_append mt_append (pv 3) (pa_cons (pe_tup (pa_cons (pe_tup (pa_cons (pe_ix ix_tup (pv 5) pe_int (fun _ _ => rfl)) (pa_cons (pe_op op_add (pe_ix ix_tup (pv 5) pe_int (fun _ _ => rfl)) (pe_op op_mul pe_int (pv 4))) pa_nil))) (pa_cons (pe_tup (pa_cons (pe_ix ix_tup (pv 6) pe_int (fun _ _ => rfl)) (pa_cons (pe_op op_add (pe_ix ix_tup (pv 6) pe_int (fun _ _ => rfl)) (pe_op op_mul pe_int (pv 4))) pa_nil))) pa_nil))) pa_nil)))))))
      (pss_cons (ps_if (pt_cmpR op_gt (pv 1) (pe_op op_mul pe_int (pe_op op_fdiv (pv 1) pe_int)) (nomark _)) (pss_cons (ps_setLc (i := 7) (own := [("pair", 8), ("number", 9)]) (g := (gTup K 2 (gCons (gName 8) (gCons (gName 9) gNil)))) (tt := _) rfl sc__law_laid.nd rfl rfl (sw_true rfl rfl rfl (by decide +kernel)) (pi_zipM false true (by rfl) T.b_zip (pa_cons (pe_D D__law_pairs (hr.mono (by decide)) (by rfl) (pa_cons (pv 0) pa_nil)) (pa_cons (pe_ix ix_list (pv 2) (pe_un un_neg pe_int) (fun _ _ => rfl)) pa_nil))) (blkOk_by (N := N__law_laid) (sc := defScope s__law_laid) (by decide +kernel)) (fun _ _ _ _ _ => (pg_tup rfl (pgs_cons (pg_name (i := 8) sc__law_laid.nd rfl (Or.inl rfl)) (pgs_cons (pg_name (i := 9) sc__law_laid.nd rfl (Or.inl rfl)) pgs_nil)))) (fun _ _ _ _ _ => (pts_one (pt_cmpR op_gt (pv 9) pe_int (nomark _)))) (fun _ _ _ _ _ => (pv 8)))
      (pss_one (ps_set (i := 3) sc__law_laid.nd rfl (.inl rfl) (pe_op op_cat (pv 3) (pe_lc (own := [("pair", 8)]) (g := (gName 8)) (tt := tYes) rfl sc__law_laid.nd (pi_list (pv 7)) (blkOk_by (N := N__law_laid) (sc := defScope s__law_laid) (by decide +kernel)) (fun _ _ _ _ _ => (pg_name (i := 8) sc__law_laid.nd rfl (Or.inl rfl))) (fun _ _ _ _ _ => pts_nil) (fun _ _ _ _ _ => (pe_tup (pa_cons (pe_tup (pa_cons (pe_ix (ix_tupK K rfl) (pv 8) pe_int (fun _ _ => rfl)) (pa_cons (pe_op op_sub (pv 1) pe_int) pa_nil))) (pa_cons (pe_tup (pa_cons (pe_ix (ix_tupK K rfl) (pv 8) pe_int (fun _ _ => rfl)) (pa_cons (pe_op op_sub (pv 1) pe_int) pa_nil))) pa_nil))))))))) pss_nil)
      (pss_one (ps_ret (pe_callTy call_tuple_of (by rfl) T.b_tuple (by decide +kernel) (pa_cons (pe_callB (cr_sortedD (hu64 hr)) (by rfl) T.b_sorted (by decide +kernel) (pa_cons (pv 3) pa_nil)) pa_nil))))))), ?_⟩
  have lp := lpr_len h1 h2
  have np0 := np_le h1 h2
  have lenE : ∀ n, n ≤ (m / 2).toNat → (laidE s ps n).length ≤ 15 := fun n hn => by
    have w := (well_laidE h1 h2 (by omega) pp n hn).mono (f := m) (by omega)
    have := few_pins h2 h4 w
    have := pins_len (laidE s ps n)
    omega
  refine qn_asg (K := K) (en_lst eda_nil (by simp)) fun Fd vs0 H1 hF e1 hF1 hd0 => ?_
  cases hd0
  have L0 : LstAt K H1 Fd [] := ⟨[], hF1, .nil⟩
  have T1 := hT.ext e1
  have C1 := hC.ex e1
  obtain ⟨va, vsP, rfl, hP, dP⟩ : ∃ a xs, v2 = V.ref a ∧ SqL K H a xs ∧ DpAll K H xs (ps.map tI) := by
    cases d2 with
    | lst hs ha => exact ⟨_, _, rfl, hs, ha⟩
  have dv : ∀ Ha, Xp [Fd] H1 Ha → Dp K Ha (.ref va) (.list (ps.map tI)) := fun Ha x =>
    .lst (sqL_xp hP hF e1 x) (dpa_tx ((Tx.of_ex e1).trans (x.tx (Ls.one hF1))) _ _ (immAll_tIs ps) dP)
  refine e_for (K := K) (S := [Fd]) (ei_rng1 (n := m / 2) (eda_cons (ed_int (ev_op (ev_var rfl) ev_c (rv_I (by unfold CDiv; omega)))) eda_nil) (by omega)) (fun H2 i σ' Ha => Xp [Fd] H2 Ha ∧ LstAt K Ha Fd (laidE s ps i) ∧ ∃ y4 y5 y6 y7 y8 y9, σ' = [some (.int s), some (.int m), some (.ref va), some (.ref Fd), y4, y5, y6, y7, y8, y9])
    (fun H2 e2 => ⟨Xp.refl _ _, (L0.ex e2).is (by simp [laidE]), none, none, none, none, none, none, rfl⟩) (fun _ _ _ _ _ q => q.1) ?_ ?_
  · rintro H2 n d x σ' Ha Hb e2 hd ⟨xa, La, y4, y5, y6, y7, y8, y9, rfl⟩ e3 hx
    have hlt : n < (m / 2).toNat := by
      have := (List.getElem?_eq_some_iff.mp hd).1
      simpa using this
    rw [rng_get hlt] at hd
    cases hd
    cases hx
    obtain ⟨q1, q2⟩ := pp.two n hlt
    have lt : n < ps.length := by have := pp.len; omega
    have xb : Xp [Fd] H1 Hb := ((Xp.of_ex e2).trans xa).then e3
    obtain ⟨Tb, Cb⟩ := tab_xp xb (Ls.one hF1) T1 C1
    obtain ⟨fs, gF, dF⟩ := La.ex e3
    have lenN := lenE (n + 1) (by omega)
    rw [laid_succ, List.length_append, List.length_map] at lenN
    refine d_for (ei_tup (K := K) (S := [Fd]) (ds := (wys s (ps.getD n [])).map swD) (Ls.one gF) (ed_mates (eda_cons (ed_int (ev_var rfl)) (eda_cons (ed_ixL (ds := ps.map tI) (k := n) (ed_var rfl (dv Hb xb)) (ev_var rfl) (by rw [List.getElem?_map, List.getD_eq_getElem?_getD, List.getElem?_eq_getElem lt]; rfl)) eda_nil)) h1 h2 q1 q2 Tb Cb) (immAll_map imm_swD _))
      (fun H8 j σ2 Hc => Xp [Fd] H8 Hc ∧ LstAt K Hc Fd (laidE s ps n ++ ((wys s (ps.getD n [])).take j).map (shf (2 * (n : Int)))) ∧ ∃ z5 z6, σ2 = [some (.int s), some (.int m), some (.ref va), some (.ref Fd), some (.int (n : Int)), z5, z6, y7, y8, y9])
      (fun H8 e8 => ⟨Xp.refl _ _, ((La.ex e3).ex e8).is (by simp), _, _, rfl⟩) (fun _ _ _ _ _ q => q.1) ?_ ?_
    · rintro H8 j d y σ2 Hc Hd x8 hd2 ⟨xc, Lc, z5, z6, rfl⟩ x9 hy
      rw [List.getElem?_map] at hd2
      obtain ⟨u, hu, rfl⟩ := Option.map_eq_some_iff.mp hd2
      refine g_two (d1 := pD u.1) (d2 := pD u.2) hy fun w1 w2 u1 u2 => ?_
      obtain ⟨vs2, gL, dL⟩ := Lc.ex x9
      have lv := dpa_len dL
      have lj : ((wys s (ps.getD n [])).take j).length ≤ (wys s (ps.getD n [])).length := by rw [List.length_take]; omega
      refine d_app (K := K) gL (ev_var rfl) (d := swD (shf (2 * (n : Int)) u)) (ed_tup (ds := [pD (shf (2 * (n : Int)) u).1, pD (shf (2 * (n : Int)) u).2])
        (eda_cons (ed_tup (ds := dI [u.1.1, u.1.2 + 2 * (n : Int)]) (eda_cons (ed_ixT (k := 0) (ds := dI [u.1.1, u.1.2]) (ed_var (v := w1) rfl u1) ev_c rfl) (eda_cons (ed_int (ev_op (EvD.int (i := u.1.2) (ed_ixT (k := 1) (ds := dI [u.1.1, u.1.2]) (ed_var (v := w1) rfl u1) ev_c rfl)) (ev_op ev_c (ev_var rfl) (rv_I (.inl (by omega)))) rv_I0)) eda_nil)) (by simp))
        (eda_cons (ed_tup (ds := dI [u.2.1, u.2.2 + 2 * (n : Int)]) (eda_cons (ed_ixT (k := 0) (ds := dI [u.2.1, u.2.2]) (ed_var (v := w2) rfl u2) ev_c rfl) (eda_cons (ed_int (ev_op (EvD.int (i := u.2.2) (ed_ixT (k := 1) (ds := dI [u.2.1, u.2.2]) (ed_var (v := w2) rfl u2) ev_c rfl)) (ev_op ev_c (ev_var rfl) (rv_I (.inl (by omega)))) rv_I0)) eda_nil)) (by simp)) eda_nil)) (by simp))
        (by rw [lv, List.length_map, List.length_append, List.length_map]; omega) fun v H11 e11 hv => ?_
      refine ⟨Xp.upd ((xc.then x9).then e11) (by simp), (LstAt.app (e11 _ _ gL) (dpa_ex e11 _ _ dL) hv).is ?_, _, _, rfl⟩
      rw [List.take_add_one, hu, Option.toList_some, List.map_append, List.append_assoc]
      rfl
    · rintro H8 σ2 Hc x8 ⟨xc, Lc, z5, z6, rfl⟩
      rw [List.length_map, List.take_length] at Lc
      exact ⟨((xa.then e3).then x8).trans xc, Lc.is (laid_succ s ps n).symm, _, _, _, _, _, _, rfl⟩
  · rintro H2 σ' Ha e2 ⟨xa, La, y4, y5, y6, y7, y8, y9, rfl⟩
    rw [List.length_map, List.length_range] at La
    have xb : Xp [Fd] H1 Ha := (Xp.of_ex e2).trans xa
    have lenM := lenE _ (Nat.le_refl _)
    refine q_ifT (fun σ' H' => Xp [Fd] H1 H' ∧ ∃ p z4 z5 z6 z7 z8 z9, σ' = [some (.int s), some (.int m), some (.ref va), some (.ref p), z4, z5, z6, z7, z8, z9] ∧ LstAt K H' p (laidS s m ps)) (fun Z hZ => ?_) ?_
    · refine s_when (b := decide (2 * (m / 2) < m)) (et_test (ev_op (ev_var rfl) (ev_op ev_c (ev_op (ev_var rfl) ev_c (rv_I (by unfold CDiv; omega))) (rv_I (.inl (by omega)))) rv_I0)) (fun hb H5 e5 => ?_) (fun hb H5 e5 => ?_)
      · have ho : m % 2 = 1 := by have := of_decide_eq_true hb; omega
        obtain ⟨q1, q2⟩ := pp.one ho
        have ln : ps.length = (m / 2).toNat + 1 := by have := pp.len; omega
        have hlast : ps.getLast? = some (lstP ps) := by
          unfold lstP
          rw [List.getLast?_eq_getElem?, ln, Nat.add_sub_cancel, List.getElem?_eq_getElem (by omega)]
          rfl
        have L5 := La.ex e5
        have x5 := xb.then e5
        have zl : (List.zipWith (fun x y => PyData.tuple [x, y]) (lpr s) (dI (lstP ps))).length = np s := by rw [List.length_zipWith, List.length_map, q1.1, lp.1, Nat.min_self]
        have lenJ : (oddJ s (lstP ps)).length ≤ np s := by
          have := List.length_filter_le (fun j => decide (0 < (lstP ps).getD j 0)) (List.range (np s))
          rw [List.length_range] at this
          exact this
        refine qn_asg (K := K) (ds := (oddJ s (lstP ps)).map fun j => pD ((prs s).getD j (0, 0))) (en_is (en_lcBD (ei_zipG (t := false) (u := true) (ds := lpr s) (es := dI (lstP ps)) (EvN.toD (en_call (R := R_law_pairs) (ds := [.int s]) (eda_cons (ed_int (ev_var rfl)) eda_nil) rfl ⟨s, rfl, h1, h2, rfl⟩)) (ed_ixLast (ds := ps.map tI) (d := tI (lstP ps)) (ed_var (k := 2) rfl (dv H5 x5)) (ev_un ev_c ru_neg) (by rw [List.getLast?_map, hlast]; rfl)))
          (by rw [zl]; omega) (fun j => decide (0 < (lstP ps).getD j 0)) (fun j => pD ((prs s).getD j (0, 0))) (fun j => imm_pD _) fun H6 j d x Hb Q' e6 hg e7 hx kk => ?_) (by rw [zl]; rfl)) fun p7 vs7 H7 hp7 e7 h7 d7 => ?_
        · have hj : j < np s := by have := (List.getElem?_eq_some_iff.mp hg).1; omega
          rw [lpr_prs, List.getElem?_zipWith, List.getElem?_map, List.getElem?_map, List.getElem?_eq_getElem (show j < (prs s).length from hj), List.getElem?_eq_getElem (show j < (lstP ps).length by rw [q1.1]; exact hj)] at hg
          cases hg
          refine g_two hx fun w1 w2 u1 u2 => ?_
          cases dp_int u2
          have gl : (lstP ps).getD j 0 = (lstP ps)[j]'(by rw [q1.1]; exact hj) := by rw [List.getD_eq_getElem?_getD, List.getElem?_eq_getElem (show j < (lstP ps).length by rw [q1.1]; exact hj)]; rfl
          have gp : (prs s).getD j (0, 0) = (prs s)[j]'hj := by rw [List.getD_eq_getElem?_getD, List.getElem?_eq_getElem (show j < (prs s).length from hj)]; rfl
          refine kk _ Hb (Ex.refl _) rfl ?_ ?_
          · rw [gl]
            exact et_test (ev_op (ev_var rfl) ev_c rv_I0)
          · rw [gp]
            exact ed_var (v := w1) rfl u1
        · obtain ⟨fs, gF, dF⟩ := L5.ex e7
          have lf := dpa_len dF
          rw [List.length_map] at lf
          refine n_asg (K := K) (ds := (laidS s m ps).map swD) (en_is (en_cat (eq_var (k := 3) rfl gF dF) (EvN.toQ (en_lc (ei_lst (S := []) (Ls.nil _) (ev_var rfl) h7 (by simp) d7 (immAll_map (fun j => imm_pD ((prs s).getD j (0, 0))) (oddJ s (lstP ps)))) (by rw [List.length_map]; omega) (fun i => swD (oddU s (m - 1) ((oddJ s (lstP ps)).getD i 0))) (fun _ _ => imm_swD _) fun H8 i d x Hb Q' e8 hg e9 hx kk => ?_)) ?_) ?_) fun p9 vs9 H9 hp9 e9 h9 d9 => ?_
          · rw [List.getElem?_map] at hg
            obtain ⟨jj, hjj, rfl⟩ := Option.map_eq_some_iff.mp hg
            have ej : (oddJ s (lstP ps)).getD i 0 = jj := by rw [List.getD_eq_getElem?_getD, hjj]; rfl
            refine kk _ Hb (Ex.refl _) rfl ?_
            rw [ej]
            exact ed_tup (ds := [pD (oddU s (m - 1) jj).1, pD (oddU s (m - 1) jj).2]) (eda_cons (ed_tup (ds := dI [((prs s).getD jj (0, 0)).1, m - 1]) (eda_cons (ed_ixT (k := 0) (ds := dI [((prs s).getD jj (0, 0)).1, ((prs s).getD jj (0, 0)).2]) (ed_var (v := x) rfl hx) ev_c rfl) (eda_cons (ed_int (ev_op (ev_var rfl) ev_c rv_I0)) eda_nil)) (by simp))
              (eda_cons (ed_tup (ds := dI [((prs s).getD jj (0, 0)).2, m - 1]) (eda_cons (ed_ixT (k := 1) (ds := dI [((prs s).getD jj (0, 0)).1, ((prs s).getD jj (0, 0)).2]) (ed_var (v := x) rfl hx) ev_c rfl) (eda_cons (ed_int (ev_op (ev_var rfl) ev_c rv_I0)) eda_nil)) (by simp)) eda_nil)) (by simp)
          · rw [List.length_map, List.length_map, List.length_map, List.length_range]
            omega
          · unfold laidS oddS
            rw [if_pos ho, List.length_map, List.map_append, List.map_map]
            congr 1
            refine List.ext_getElem? fun i => ?_
            rw [List.getElem?_map, List.getElem?_map]
            by_cases hi : i < (oddJ s (lstP ps)).length
            · rw [List.getElem?_range hi, List.getElem?_eq_getElem hi]
              simp [List.getD_eq_getElem?_getD, List.getElem?_eq_getElem hi]
            · rw [List.getElem?_eq_none (by simpa using Nat.le_of_not_lt hi), List.getElem?_eq_none (Nat.le_of_not_lt hi)]
              rfl
          · exact hZ _ _ ⟨(x5.then e7).then e9, p9, _, _, _, _, _, _, rfl, vs9, h9, d9⟩
      · have ho : ¬ m % 2 = 1 := by have := of_decide_eq_false hb; omega
        refine hZ _ _ ⟨xb.then e5, Fd, _, _, _, _, _, _, rfl, (La.ex e5).is ?_⟩
        unfold laidS
        rw [if_neg ho, List.append_nil]
    · rintro σ' Hf ⟨xf, p, z4, z5, z6, z7, z8, z9, rfl, Lf⟩
      obtain ⟨fs, gF, dF⟩ := Lf
      have ex : Ex H Hf := xp_fresh e1 xf hF
      refine d_ret (K := K) (d := .tuple ((srt (laidS s m ps)).map swD)) (ed_is (ed_tupleOf (EvN.toD (en_sortedD (EvQ.toD (eq_var (K := K) (k := 3) rfl gF dF)) (fun d hd e he => ?_) (.inl fun d hd => ?_) fun d hd => ?_))) (by rw [srt_data])) fun v H9 e9 hv => k v H9 (ex.trans e9) hv
      · obtain ⟨a, _, rfl⟩ := List.mem_map.mp hd
        obtain ⟨b, _, rfl⟩ := List.mem_map.mp he
        rfl
      · obtain ⟨a, _, rfl⟩ := List.mem_map.mp hd
        exact ⟨_, _, rfl⟩
      · obtain ⟨a, _, rfl⟩ := List.mem_map.mp hd
        simp [swD, pD, PyData.depth, PyData.depthAll]

end
end K16
set_option Elab.async false
set_option linter.all false
set_option maxRecDepth 100000
set_option maxHeartbeats 4000000
namespace K16
open PySem PySem.Spec PyProof.Rows L2 Evl DL
local macro_rules | `(tactic| walk_at "dl") => `(tactic| first
  | exact ev_c | exact ev_var rfl | exact eda_nil
  | exact ed_var rfl (by assumption)
  | exact ed_int ev_c | exact ed_int (ev_var rfl)
  | (refine eda_cons ?_ ?_ <;> walk_at "dl")
  | (refine ed_int ?_; walk_at "dl")
  | (refine ev_op ?_ ?_ rv_I0 <;> walk_at "dl"))

section
variable {P : Program} {w : World} {K : PySem.W.Frag} {mg : Str → Option Value} {base : Heap}

theorem gN {i : Nat} {x : V} {Q : L2.St → Hp → Prop} (h : Q (σ.set i (some x)) H) : gName i x σ H Q := h
theorem max_ex : ∀ (ns : List Int), ns ≠ [] → ∃ M ∈ ns, ∀ y ∈ ns, y ≤ M
  | [a], _ => ⟨a, by simp, by simp⟩
  | a :: b :: ns, _ => by
    obtain ⟨M, h, hb⟩ := max_ex (b :: ns) (by simp)
    by_cases c : M ≤ a
    · refine ⟨a, by simp, fun y hy => ?_⟩
      rcases List.mem_cons.mp hy with rfl | hy
      · omega
      · have := hb y hy
        omega
    · refine ⟨M, List.mem_cons_of_mem _ h, fun y hy => ?_⟩
      rcases List.mem_cons.mp hy with rfl | hy
      · omega
      · exact hb y hy
def Lt (s m : Int) (l : List Int) : Prop := l.length = np s ∧ (∀ z ∈ l, 0 ≤ z) ∧ ∀ z ∈ sms s l, z ≤ m
def spLet (K : PySem.W.Frag) : Sp := fun vs H Q _ => ∃ (st lg cl : Addr) (n : Nat) (s m : Int), vs = [.ref st, .int s, .int m] ∧ 2 ≤ s ∧ s ≤ 5 ∧ 0 ≤ m ∧ n ≤ 8000 ∧ StK st lg cl n H ∧
  ∀ l v' H', Lt s m l → Xp [st, lg] H H' → StK st lg cl (n + 40) H' → Dp K H' v' (tI l) → Q v' H'
abbrev s__law_let : Stmt := topS 66
abbrev N__law_let : List Str := ["state", "sides_here", "many", "found", "lap", "spot", "more"]
theorem sc__law_let : FnScope N__law_let ["state", "sides_here", "many"] (defScope s__law_let) := ⟨rfl, rfl, rfl, by decide +kernel, rfl, by decide +kernel, by decide +kernel⟩
theorem ok__law_let {f : Addr} {fd : FuncData} (F : Fun K "_law_let" "_law_let" s__law_let f fd) (T : Txt mg)
    (D__law_draw : DF P w K mg base "_law_draw" 1 ["state", "size_here"] (spDraw K)) (D__law_pairs : DF P w K mg base "_law_pairs" 1 ["sides_here"] (spN K 1 R_law_pairs)) (D__law_sums : DF P w K mg base "_law_sums" 2 ["sides_here", "load"] (spN K 2 R_law_sumsL))  :
    FnOk P w K mg base CX0 3 f fd ["state", "sides_here", "many"] (spLet K) := by
  refine F.ok sc__law_let (fun vs H Q E h => by obtain ⟨_, _, _, _, _, _, rfl, _⟩ := h; rfl) (fun cdv A outer s H vs Q E hr h => ?_)
  obtain ⟨st, lg, cl, n, s, m, rfl, h1, h2, hm, hn, hst, k⟩ := h
  refine ⟨_, (pss_cons (ps_set (i := 3) sc__law_let.nd rfl (.inl rfl) (pe_op op_rep (pe_lst (pa_cons pe_int pa_nil)) (pe_callB call_len_seq (by rfl) T.b_len PySem.boot_len (pa_cons (pe_D D__law_pairs (hr.mono (by decide)) (by rfl) (pa_cons (pv 1) pa_nil)) pa_nil))))
      (pss_cons (ps_for PassesOwn.never rfl (pi_range1 (by rfl) T.b_range (pa_cons (pe_op op_add pe_int (pe_D D__law_draw (hr.mono (by decide)) (by rfl) (pa_cons (pv 0) (pa_cons pe_int pa_nil)))) pa_nil)) (pg_name (i := 4) sc__law_let.nd rfl (Or.inl rfl)) (pss_cons (ps_set (i := 5) sc__law_let.nd rfl (.inl rfl) (pe_D D__law_draw (hr.mono (by decide)) (by rfl) (pa_cons (pv 0) (pa_cons (pe_callB call_len_seq (by rfl) T.b_len PySem.boot_len (pa_cons (pv 3) pa_nil)) pa_nil))))
      (pss_cons (ps_set (i := 6) sc__law_let.nd rfl (.inl rfl) (pe_op op_cat (pe_op op_cat (pe_slice sl_list (pv 3) po_none (po_some (pv 5))) (pe_lst (pa_cons (pe_op op_add (pe_ix ix_list (pv 3) (pv 5) (fun _ _ => rfl)) pe_int) pa_nil))) (pe_slice sl_list (pv 3) (po_some (pe_op op_add (pv 5) pe_int)) po_none)))
      (pss_one (ps_set (i := 3) sc__law_let.nd rfl (.inl rfl) (pe_ifExp (pt_cmpR op_le (pe_callB (cr_max rfl) (by rfl) T.b_max (by decide +kernel) (pa_cons (pe_D D__law_sums (hr.mono (by decide)) (by rfl) (pa_cons (pv 1) (pa_cons (pv 6) pa_nil))) pa_nil)) (pv 2) (nomark _)) (pv 6) (pv 3)))))))
      (pss_one (ps_ret (pe_callTy call_tuple_of (by rfl) T.b_tuple (by decide +kernel) (pa_cons (pv 3) pa_nil)))))), ?_⟩
  have lp := lpr_len h1 h2
  have np0 := np_le h1 h2
  refine qn_asg (K := K) (en_rep (n := (np s : Int)) (d := .int 0) (EvN.toQ (en_lst (eda_cons (ed_int ev_c) eda_nil) (by simp))) (lp.1 ▸ ev_lenL (EvN.toD (en_call (R := R_law_pairs) (ds := [.int s]) (by walk_at "dl") rfl ⟨s, rfl, h1, h2, rfl⟩))) (by omega) (by omega)) fun p vs H1 hp e1 h1' hd1 => ?_
  have hd1 : DpAll K H1 vs (dI (List.replicate (np s) 0)) := by
    have e : List.replicate ((np s : Int)).toNat (PyData.int 0) = dI (List.replicate (np s) 0) := by simp [dI]
    rw [← e]; exact hd1
  obtain rfl := dpa_ints hd1
  have npk := stk_ne hst hp
  refine ⟨.ref st, rfl, st, lg, cl, n, 30, rfl, by decide, by decide, by omega, stk_ex e1 hst, fun r H2 r0 r1 x2 s2 => ?_⟩
  refine ⟨2, r, rfl, rfl, 2 + r, rfl, by omega, by omega, ?_⟩
  refine for_it walk_range (fun i σ' Ha => ∃ (l : List Int) (p : Addr) (c4 c5 c6 : Option V), Lt s m l ∧ p ≠ st ∧ p ≠ lg ∧ Ha p = some (.lst (l.map V.int)) ∧ Xp [st, lg] H1 Ha ∧ StK st lg cl (n + 1 + i) Ha ∧ σ' = [some (.ref st), some (.int s), some (.int m), some (.ref p), c4, c5, c6])
    ⟨List.replicate (np s) 0, p, none, none, none, ?_, npk.1, npk.2.1, x2 _ _ h1' (by simp [npk.1, npk.2.1]), x2, s2, rfl⟩ (fun i σ' Ha _ z => trivial) (fun i x σ' Ha Hb hi z w => ?_) fun σ' Ha z => ?_
  · refine ⟨by simp, fun z hz => by rw [List.eq_of_mem_replicate hz]; omega, fun z hz => ?_⟩
    have zz : ∀ z ∈ sms s (List.replicate (np s) 0), z = 0 := by
      obtain rfl | rfl | rfl | rfl : s = 2 ∨ s = 3 ∨ s = 4 ∨ s = 5 := by omega
      all_goals decide +kernel
    rw [zz z hz]
    exact hm
  · obtain ⟨l, p, c4, c5, c6, hl, n1, n2, hp2, xa, sa, rfl⟩ := z
    obtain ⟨rfl, rfl⟩ : Hb = Ha ∧ x = .int (0 + (i : Int)) := by first | exact w | exact ⟨w.2, w.1⟩ | exact ⟨w.1.symm, w.2⟩ | exact ⟨w.2.symm, w.1⟩
    have jl0 := hl.1
    have hi31 : i < 31 := by omega
    have hl0 := hl.1
    refine gN (i := 4) ?_
    dsimp only [List.set_cons_succ, List.set_cons_zero]
    refine ⟨.ref st, rfl, ev_lenL (K := K) (ed_var (v := .ref p) rfl (.lst (sq_of hp2) (ints_dpa l))) Hb (Ex.refl _) _ fun Hc ec => ?_⟩
    refine ⟨st, lg, cl, n + 1 + i, ((dI l).length : Int), rfl, by rw [List.length_map]; omega, by rw [List.length_map]; omega, by omega, stk_ex ec sa, fun r' Hd t0 t1 x3 s3 => ?_⟩
    rw [List.length_map] at t1
    obtain ⟨j, rfl⟩ := Int.eq_ofNat_of_zero_le t0
    have jl : j < l.length := by omega
    have hpd := x3 _ _ (ec _ _ hp2) (by simp [n1, n2])
    have xd := (xa.then ec).trans x3
    refine gN (i := 5) ?_
    dsimp only [List.set_cons_succ, List.set_cons_zero]
    have dl : Dp K Hd (.ref p) (.list (dI l)) := .lst (sq_of hpd) (ints_dpa l)
    refine qn_asg (K := K) (en_cat (EvN.toQ (en_cat (EvN.toQ (en_sl (ed_var rfl dl) eo_none (eo_some (ev_var rfl)))) (EvN.toQ (en_lst (eda_cons (ed_int (ev_op (EvD.int (i := l.getD j 0) (ed_ixL (ds := dI l) (k := j) (ed_var rfl dl) (ev_var rfl) (by rw [List.getElem?_map, List.getElem?_eq_getElem jl, List.getD_eq_getElem?_getD, List.getElem?_eq_getElem jl]; rfl))) ev_c rv_I0)) eda_nil) (by simp))) ?_)) (EvN.toQ (en_sl (ed_var rfl dl) (eo_some (ev_op (ev_var rfl) ev_c rv_I0)) eo_none)) ?_) fun q ws He hq ee hqe dq => ?_
    · rw [cut_lo _ _ (by rw [List.length_map]; omega), List.length_take, List.length_map]
      simp
      omega
    · rw [cut_lo _ _ (by rw [List.length_map]; omega), show ((j : Int) + 1) = ((j + 1 : Nat) : Int) by omega, cut_hi _ _ (by rw [List.length_map]; omega), List.length_append, List.length_take, List.length_drop, List.length_map]
      simp
      omega
    · have eqm : cutD (dI l) none (some (j : Int)) ++ [PyData.int (l.getD j 0 + 1)] ++ cutD (dI l) (some ((j : Int) + 1)) none = dI (l.set j (l.getD j 0 + 1)) := by
        rw [cut_lo _ _ (by rw [List.length_map]; omega), show ((j : Int) + 1) = ((j + 1 : Nat) : Int) by omega, cut_hi _ _ (by rw [List.length_map]; omega)]
        simp [dI, List.set_eq_take_append_cons_drop, jl]
      have dq : DpAll K He ws (dI (l.set j (l.getD j 0 + 1))) := eqm ▸ dq
      generalize hl2 : l.set j (l.getD j 0 + 1) = l2 at dq
      obtain rfl := dpa_ints dq
      have len2 : l2.length = np s := by rw [← hl2, List.length_set]; exact hl.1
      have ge2 : ∀ z ∈ l2, 0 ≤ z := fun z hz => by
        rw [← hl2] at hz
        rcases List.mem_or_eq_of_mem_set hz with hz | rfl
        · exact hl.2.1 z hz
        · have := hl.2.1 (l.getD j 0) (by rw [List.getD_eq_getElem?_getD, List.getElem?_eq_getElem jl]; exact List.getElem_mem jl)
          omega
      have ls := sms_len s l2
      have ne : 0 < (sms s l2).length := by omega
      obtain ⟨M, hM, hb⟩ := max_ex (sms s l2) (fun z => by rw [z] at ne; exact absurd ne (by decide))
      have npq := stk_ne s3 hq
      dsimp only [List.set_cons_succ, List.set_cons_zero]
      refine et_test (ev_op (ev_maxL (K := K) (EvN.toD (en_call (K := K) (R := R_law_sumsL) (ds := [.int s, .list (dI l2)]) (eda_cons (ed_int (ev_var rfl)) (eda_cons (ed_var (v := .ref q) rfl (.lst (sq_of hqe) dq)) eda_nil)) rfl ⟨s, l2, rfl, h1, h2, len2, rfl⟩)) ne hM hb) (ev_var rfl) rv_I0) He (Ex.refl _) _ fun Hf ef => ?_
      have xf := xd.then (ee.trans ef)
      have sf := stk_ex (ee.trans ef) s3
      by_cases c : decide (M ≤ m) = true
      · rw [if_pos c]
        have c : M ≤ m := of_decide_eq_true c
        exact ⟨.ref q, rfl, l2, q, _, _, _, ⟨len2, ge2, fun z hz => Int.le_trans (hb z hz) c⟩, npq.1, npq.2.1, ef _ _ hqe, xf, stk_mono (by omega) sf, rfl⟩
      · rw [if_neg c]
        exact ⟨.ref p, rfl, l, p, _, _, _, hl, n1, n2, (ee.trans ef) _ _ hpd, xf, stk_mono (by omega) sf, rfl⟩
  · obtain ⟨l, p, c4, c5, c6, hl, n1, n2, hp2, xa, sa, rfl⟩ := z
    refine d_ret (K := K) (ed_tupleOf (ed_var (v := .ref p) rfl (.lst (sq_of hp2) (ints_dpa l)))) fun v H' e hv => ?_
    exact k l v H' hl (fun b ob hb hn' => (xa.then e) b ob (e1 _ _ hb) hn') (stk_mono (by omega) (stk_ex e sa)) hv

end
end K16
set_option Elab.async false
set_option linter.all false
set_option maxRecDepth 100000
set_option maxHeartbeats 4000000
/-! caught(lambda: ..): the lambda made in the very call -/
namespace DL
open PySem PySem.Spec PyProof.Rows L2 Evl LamX NdefX
def tCauL (K : PySem.W.Frag) (CS P : Addr) (q : Str) (pos : Pos) (params : Arguments) (body : Expr) (scope : Scope) (cl : List (Str × Addr)) (tb : XK → TE) : TE := fun σ H Q => tLamB P q pos params body scope cl σ H fun _ H1 => TTc K CS tb σ H1 Q
theorem pe_caughtL {X : Cx} {x : Str} {CS P c : Addr} {k : Nat} {params : Arguments} {body : Expr} {scope : Scope} {lp p pos : Pos} {tb : XK → TE} (F : CauF X.K X.mg x CS) (hg : Gl X x) (hr : Room (k + 2) X.A) (TB : TabB X.base X.mg c P) (code : X.env.code = .ref c) (hF : LamF X.env.scope scope) (hdef : defaultsOf params X.env = ([], []))
    (D : LamD X k params body scope tb) (hdb : (x == ("__debug__" : Str)) = false := by decide) :
    PE X (.Call (.Name x p) [.Lambda params body scope lp] [] pos) (tCauL X.K CS P (X.env.qual ++ "<lambda>") lp params body scope (cloFrom X.env.cells scope.names []) tb) := by
  obtain ⟨g, oc, od, an, osl, sg, pg, dV, kV, doc, pm, cdv, ct, k0, p1, p2, p3, p4, p5, p6, p7, p8, p9, p10, p11, p12, p13, p14, hm, hk, lk, hcg, hb, S, ge, me, le, lc, lw⟩ := F.ex
  constructor
  intro pins s σ H Q I hh
  obtain ⟨tab, kk⟩ := hh
  apply wpAny_Call_Name_kw
  refine ld_glob I hg hm ?_ hdb
  have arg := (pa_cons (pe_lamB (pos := lp) TB code hF hdef) pa_nil).run pos pins s σ H (fun vs H1 => ∃ f c', vs = [.ref f] ∧ H1 f = some (LamO f c' (X.env.qual ++ "<lambda>") params body scope (cloFrom X.env.cells scope.names [])) ∧ H1 c' = some (CodeO c' (X.env.qual ++ "<lambda>")) ∧ TTc X.K CS tb σ H1 Q) I
    ⟨tab, fun f c' H1 xB tS hC same n0 n1 hc' => ⟨f, c', rfl, upd_same, Ex.new n1 _ _ hc', kk f c' H1 xB tS hC same n0 n1 hc'⟩⟩
  refine PySem.W.callWith_K (h₀ := X.base) I.ok.mod.kin hk (thn arg fun us s1 z => ?_) (by rfl) (by rfl)
  obtain ⟨vs, H1, I1, r, f, c', rfl, hf, hc, go⟩ := z
  refine ⟨I1.kIn, ?_⟩
  have lu : us.length = 1 := (Vals.length r).symm
  have inner : codeAny (model X.prog X.w) X.A (.call (.ref g) ⟨us, []⟩) (CR CX0 X.stack X.prog X.w H1 s1 Q E0) s1 := by
    refine run_ofS (N := ["work", "caught", "error"]) (ps := ["work"]) (us := us) (vs := [.ref f]) lk hcg S hr I1.env0 ?_ r rfl fun hr2 => ?_
    · have := hb s1 us I1.kIn (by simpa using lu)
      simpa using this
    · obtain ⟨t, ht, q⟩ := caught_run (x := x) (g := g) (cdg := cdv) (k0 := k0) (p1 := p1) (p2 := p2) (p3 := p3) (p4 := p4) (p5 := p5) (p6 := p6) (p7 := p7) (p8 := p8) (p9 := p9) (p10 := p10) (p11 := p11) (p12 := p12) (p13 := p13) (p14 := p14) I1 D hr2 S ge me le lc lw hf hc go
      exact ⟨t, ht.nox, q⟩
  apply wpAny_call
  refine codeAny_mono inner fun r2 s2 z => ?_
  cases r2 with
  | error e => exact (show False from z).elim
  | ok fl =>
    cases fl with
    | ret u => exact I1.after z
    | next => exact z.elim
    | brk => exact z.elim
    | cont => exact z.elim
/-- if not isinstance(caught(lambda: ..), C): return False, where it raises a C -/
theorem q_refuse {K : PySem.W.Frag} {CS C P : Addr} {q : Str} {pos : Pos} {params : Arguments} {body : Expr} {scope : Scope} {cl : List (Str × Addr)} {tb : XK → TE} {tz : TS} {D : Ends} {σ : L2.St} {H : Hp} (tab : TabS H P q)
    (kC : PySem.W.exmOne K (.ref C) (.ref CS) = some true) (iC : PySem.W.kitOne K (.ref C) (.ref C) = some true) (eC : ExcC K C)
    (r : ∀ H1, ExB P H H1 → ∀ (E : XK) (Q : VK), (∀ H2, Ex H1 H2 → E (.ref C) none H2) → tb E σ H1 Q)
    (z : ∀ H', ExB P H H' → TabS H' P q → tz D σ H') :
    tSeq (tIfS (tNot (tB (tCB (rIsK K) (tCons (tCauL K CS P q pos params body scope cl tb) (tCons (tC (.ref C)) tNil))))) (tRet (tC (.bl false))) tNext) tz D σ H := by
  refine ⟨tab, fun f c' H1 xB tS hC same n0 n1 hc' E Q2 r1 r2 => ?_⟩
  have x1 := xB.trans (ExB.of (Ex.new (o := LamO f c' q params body scope cl) n1))
  refine r _ x1 E Q2 fun H2 e2 => r1 (.ref C) H2 kC fun a ha => ?_
  refine ⟨a, C, .ref C, .ref C, true, rfl, upd_same, eC, fun u z => z, iC, ?_⟩
  have e3 := e2.trans (Ex.new (o := ErO (.ref C) a) ha)
  refine ⟨true, rfl, ?_⟩
  exact z _ (x1.trans (ExB.of e3)) (tS.ext fun b o y => e3 _ _ (Ex.new n1 _ _ y))
end DL
set_option Elab.async false
set_option linter.all false
set_option maxRecDepth 100000
set_option maxHeartbeats 4000000
namespace K16
open PySem PySem.Spec PyProof.Rows L2 Evl DL LamX
section
variable {K : PySem.W.Frag} {σ : L2.St} {H H' : Hp} {ta tb te : TE} {tz : TS} {D : Ends}
theorem q_ifS {t : TT} {sa sb : TS} {b : Bool} (h : EvT t σ H b) (h1 : b = true → ∀ H1, Ex H H1 → sa { D with nx := tz D } σ H1) (h2 : b = false → ∀ H1, Ex H H1 → sb { D with nx := tz D } σ H1) : tSeq (tIfS t sa sb) tz D σ H := h H (Ex.refl _) _ fun H1 e1 => by
  cases b with
  | true => exact h1 rfl H1 e1
  | false => exact h2 rfl H1 e1
theorem s_ifS {t : TT} {sa sb : TS} {b : Bool} (h : EvT t σ H b) (h1 : b = true → ∀ H1, Ex H H1 → sa D σ H1) (h2 : b = false → ∀ H1, Ex H H1 → sb D σ H1) : tIfS t sa sb D σ H := h H (Ex.refl _) _ fun H1 e1 => by
  cases b with
  | true => exact h1 rfl H1 e1
  | false => exact h2 rfl H1 e1
theorem tcons_lst {t : TA} {Q : List V → Hp → Prop} (h : t σ H fun xs H1 => xs.length ≤ sizeLine ∧ ∀ p, H1 p = none → Q [.ref p] (L2.upd H1 p (.lst xs))) : tCons (tLst t) tNil σ H Q := h
theorem tcons_c {v : V} {t : TA} {Q : List V → Hp → Prop} (h : t σ H fun xs H2 => Q (v :: xs) H2) : tCons (tC v) t σ H Q := h
theorem tcons_e {t : TA} {Q : List V → Hp → Prop} (h : te σ H fun x H1 => t σ H1 fun xs H2 => Q (x :: xs) H2) : tCons te t σ H Q := h
theorem en_listT {ds : List PyData} (h : EvD K ta σ H (.tuple ds)) : EvN K (tCB (fun xs H Q => ∃ p ys, xs = [.ref p] ∧ (SqL K H p ys ∨ SqT K H p ys) ∧ ∀ l, H l = none → Q (.ref l) (L2.upd H l (.lst ys))) (tCons ta tNil)) σ H ds := fun H1 e Q q =>
  h H1 e _ fun v H2 e2 hv => by
    cases hv with
    | tup hs ha => exact ⟨_, _, rfl, .inr hs, fun p hp => q p _ _ (fresh_back e2 hp) (e2.trans (Ex.new hp)) upd_same (dpa_ex (Ex.new hp) _ _ ha)⟩
theorem q_no {t : TT} {sa : TS} (h : EvT t σ H false) (q : ∀ H1, Ex H H1 → tz D σ H1) : tSeq (tIfS t sa tNext) tz D σ H := q_ifS h (fun z => nomatch z) fun _ H1 e => q H1 e
theorem s_no {t : TT} {sa : TS} (h : EvT t σ H false) (q : ∀ H1, Ex H H1 → D.nx σ H1) : tIfS t sa tNext D σ H := s_ifS h (fun z => nomatch z) fun _ H1 e => q H1 e
theorem r_for {ta : TA} {g : TG} {tu : TS} {n : Int} (h : EvDA K ta σ H [.int n]) (hn : -(2 ^ 62) ≤ n ∧ n < 2 ^ 62) (Pv : Nat → L2.St → Hp → Prop) (h0 : ∀ H2, Ex H H2 → Pv 0 σ H2)
    (hs : ∀ (i : Nat) σ' Ha, (i : Int) < n → Pv i σ' Ha → g (.int (i : Int)) σ' Ha fun σ2 H3 => tu { D with nx := Pv (i + 1), ct := Pv (i + 1), bk := tz D } σ2 H3) (hd : ∀ σ' Ha, Pv n.toNat σ' Ha → tz D σ' Ha) : tSeq (tFor (iRng1 ta) g tu) tz D σ H :=
  h H (Ex.refl _) _ fun vs H2 e2 hv => by
    cases hv with
    | cons a b =>
      cases b
      cases a
      refine ⟨n, rfl, hn.1, hn.2, ?_⟩
      refine for_it (D := { D with nx := tz D }) walk_range Pv (h0 H2 e2) (fun _ _ _ _ _ => trivial) (fun i x σ' Ha Hb hi p y => ?_) fun σ' Ha p => hd σ' Ha p
      obtain ⟨rfl, rfl⟩ := y
      have e0 : (V.int (0 + (i : Int))) = .int (i : Int) := by rw [Int.zero_add]
      dsimp only
      rw [e0]
      exact hs i σ' Hb (by omega) p
theorem g_two2 {K : PySem.W.Frag} {g1 g2 : TG} {p : Addr} {v1 v2 : V} {σ : L2.St} {H : Hp} {Q : L2.St → Hp → Prop} (h : H p = some (.tup [v1, v2])) (k : g1 v1 σ H fun σ1 H1 => g2 v2 σ1 H1 Q) : gTup K 2 (gCons g1 (gCons g2 gNil)) (.ref p) σ H Q := by
  refine ⟨_, _, rfl, st_of h, rfl, _, _, rfl, ?_⟩
  rw [gl_one] at k
  exact k
theorem ev_neg1 {σ : L2.St} {H : Hp} : Ev (tUn (rU fun i => V.int (-i)) (tC (.int 1))) σ H (.int (-1)) := fun H1 e Q q => ⟨1, rfl, q H1 (Ex.refl _)⟩
theorem stk_in {st lg cl : Addr} {H : Hp} {n : Nat} (h : StK st lg cl n H) : ∀ p ∈ [st, lg], (∃ l, H p = some (.lst l)) ∨ (∃ l, H p = some (.dK l)) ∨ (∃ l, H p = some (.dT l)) ∨ H p = none := by
  obtain ⟨l, t, xs, cs, h1, h2, _⟩ := h
  intro p hp
  rcases (by simpa using hp : p = st ∨ p = lg) with rfl | rfl
  · exact .inr (.inl ⟨_, h1⟩)
  · exact .inl ⟨_, h2⟩
theorem ldOk_len {s : Int} {ds : List PyData} (h : ds.length ≠ np s) : ldOk s (.tuple ds) = false := by
  show (decide (ds.length = np s) && _) = false
  rw [decide_eq_false h]
  rfl
theorem ldOk_hd {s : Int} {d : PyData} {ds : List PyData} (h : isIn d 0 99 = false) : ldOk s (.tuple (d :: ds)) = false := by
  show (decide _ && ((d :: ds).all fun e => isIn e 0 99)) = false
  rw [List.all_cons, h, Bool.false_and, Bool.and_false]
theorem cut1 (ds : List PyData) (h : ds ≠ []) : DL.cutD ds (some 1) none = ds.drop 1 := by
  cases ds with
  | nil => exact absurd rfl h
  | cons d ds =>
    unfold DL.cutD HT.sIx
    simp
theorem fine_none : Fine .none 4 1 := ⟨by decide +kernel, by decide +kernel, by decide +kernel, by decide +kernel⟩
theorem fine_bool (b : Bool) : Fine (.bool b) 10 1 := by
  cases b
  · exact ⟨by decide +kernel, by decide +kernel, by decide +kernel, by decide +kernel⟩
  · exact ⟨by decide +kernel, by decide +kernel, by decide +kernel, by decide +kernel⟩
theorem mrm_eq (m : Int) (h : 0 ≤ m) : List.replicate (m / 2).toNat (2 : Int) ++ List.replicate (m - 2 * (m / 2)).toNat 1 = mrm m := by
  rw [mrm, show m - 2 * (m / 2) = m % 2 by omega]
theorem e_cb {R : List V → Hp → VK → Prop} {ta : TA} {Q : VK} (h : ta σ H fun xs H1 => R xs H1 Q) : tCB R ta σ H Q := h
/-! ### tables -/
theorem tabS_xp {P : Addr} {q : Str} {S : List Addr} (t : TabS H P q) (x : Xp S H H') (h : ∀ p ∈ S, (∃ l, H p = some (.lst l)) ∨ (∃ l, H p = some (.dK l)) ∨ (∃ l, H p = some (.dT l)) ∨ H p = none) : TabS H' P q := by
  obtain ⟨ps, h1, h2, h3⟩ := t
  have nin : ∀ a o, H a = some o → (∀ l, o ≠ .lst l) → (∀ l, o ≠ .dK l) → (∀ l, o ≠ .dT l) → a ∉ S := fun a o ho n1 n2 n3 hm => by
    rcases h a hm with ⟨l, q⟩ | ⟨l, q⟩ | ⟨l, q⟩ | q
    · rw [q] at ho; exact n1 _ (Option.some.inj ho).symm
    · rw [q] at ho; exact n2 _ (Option.some.inj ho).symm
    · rw [q] at ho; exact n3 _ (Option.some.inj ho).symm
    · rw [q] at ho; cases ho
  refine ⟨ps, x _ _ h1 (nin _ _ h1 (fun _ z => nomatch z) (fun _ z => nomatch z) fun _ z => nomatch z), h2, fun pos cv hc => ?_⟩
  obtain ⟨c, e1, e2⟩ := h3 pos cv hc
  exact ⟨c, e1, x _ _ e2 (nin _ _ e2 (fun _ z => nomatch z) (fun _ z => nomatch z) fun _ z => nomatch z)⟩
theorem exB_extn {P : Addr} {q : Str} (x : ExB P H H') (t : TabS H P q) : ExtN H H' := fun b o h n => x b o h fun z => by
  obtain ⟨ps, h1, _⟩ := t
  rw [z, h1] at h
  exact n ps (Option.some.inj h).symm
theorem tabS_exB {P P2 : Addr} {q q2 : Str} (x : ExB P H H') (t : TabS H P q) (n : P2 ≠ P) (t2 : TabS H P2 q2) : TabS H' P2 q2 := by
  obtain ⟨ps, h1, h2, h3⟩ := t2
  refine ⟨ps, x _ _ h1 n, h2, fun pos cv hc => ?_⟩
  obtain ⟨c, e1, e2⟩ := h3 pos cv hc
  exact ⟨c, e1, exB_extn x t _ _ e2 codeO_ne⟩
theorem stk_exN {st lg cl : Addr} {n : Nat} (e : ExtN H H') (h : StK st lg cl n H) : StK st lg cl n H' := by
  obtain ⟨l, t, xs, cs, h1, h2, h3, h4⟩ := h
  exact ⟨l, t, xs, cs, e _ _ h1 (fun _ z => nomatch z), e _ _ h2 (fun _ z => nomatch z), e _ _ h3 (fun _ z => nomatch z), h4⟩
/-! ### loads that are let -/
theorem lt_ld {s m : Int} {l : List Int} (h1 : 2 ≤ s) (h2 : s ≤ 5) (h : Lt s m l) (hm : m ≤ 6) : Ld s l := by
  obtain ⟨hl, h0, hs⟩ := h
  refine ⟨hl, fun x hx => ?_⟩
  have x0 := h0 x hx
  obtain ⟨j, hj, rfl⟩ := List.getElem_of_mem hx
  obtain ⟨_, p0, p1, p2⟩ := prs_get h1 h2 (k := j) (by omega)
  obtain ⟨i, hi⟩ := Int.eq_ofNat_of_zero_le p0
  have hlt : i < s.toNat := by omega
  have fs := fsum_side h1 h2 hl hlt
  have sl := sms_len s l
  have mem : (sms s l).getD i 0 ∈ sms s l := by
    rw [List.getD_eq_getElem?_getD, List.getElem?_eq_getElem (by omega)]
    exact List.getElem_mem _
  have le := hs _ mem
  have single : ∀ (xs : List Int), (∀ y ∈ xs, 0 ≤ y) → ∀ y ∈ xs, y ≤ xs.sum := fun xs => by
    induction xs with
    | nil => intro _ y hy; simp at hy
    | cons a xs ih =>
      intro h0 y hy
      have nn : 0 ≤ xs.sum := by
        have : ∀ zs : List Int, (∀ y ∈ zs, 0 ≤ y) → 0 ≤ zs.sum := fun zs => by
          induction zs with
          | nil => intro _; simp
          | cons b zs ih =>
            intro hz
            have := ih fun y hy => hz y (List.mem_cons_of_mem _ hy)
            have := hz b List.mem_cons_self
            rw [List.sum_cons]
            omega
        exact this xs fun y hy => h0 y (List.mem_cons_of_mem _ hy)
      have ha := h0 a List.mem_cons_self
      rw [List.sum_cons]
      rcases List.mem_cons.mp hy with rfl | hy
      · omega
      · have := ih (fun y hy => h0 y (List.mem_cons_of_mem _ hy)) y hy
        omega
  have at_ : l.getD j 0 = l[j] := by rw [List.getD_eq_getElem?_getD, List.getElem?_eq_getElem hj]; rfl
  have u := single (((List.range (np s)).filter fun k => decide ((i : Int) ∈ [((prs s).getD k (0, 0)).1, ((prs s).getD k (0, 0)).2])).map fun k => l.getD k 0) (fun y hy => by
    obtain ⟨k, _, rfl⟩ := List.mem_map.mp hy
    rw [List.getD_eq_getElem?_getD]
    cases g : l[k]? with
    | none => exact Int.le_refl _
    | some z => exact h0 z (List.mem_of_getElem? g)) (l.getD j 0) (List.mem_map.mpr ⟨j, by rw [List.mem_filter, List.mem_range]; exact ⟨by omega, by rw [hi]; simp⟩, rfl⟩)
  have fs : (((List.range (np s)).filter fun k => decide ((i : Int) ∈ [((prs s).getD k (0, 0)).1, ((prs s).getD k (0, 0)).2])).map fun k => l.getD k 0).sum = (sms s l).getD i 0 := fs
  rw [fs, at_] at u
  omega
theorem lt_mxl {s m : Int} {l : List Int} (h1 : 2 ≤ s) (h : Lt s m l) : mxl (sms s l) ≤ m := mxl_le (by rw [sms_len]; omega) h.2.2
theorem three_no {s : Int} {t : List Int} (h1 : 2 ≤ s) (h2 : s ≤ 5) (h : Ld s (3 :: t)) : ¬ mxl (sms s (3 :: t)) ≤ 2 := fun z => by
  have m := LL_of h1 h2 h z
  have g := List.all_eq_true.mp (goods h1 h2 (.inl rfl)).1 _ m
  simp only [Bool.and_eq_true, decide_eq_true_eq, List.all_eq_true] at g
  have := g.1.2 3 List.mem_cons_self
  omega
/-! ### mates_way, called by the law -/
theorem wys_facts {s : Int} {l : List Int} (h1 : 2 ≤ s) (h2 : s ≤ 5) (hl : Ld s l) (hm : mxl (sms s l) ≤ 2) : (∀ u ∈ wys s l, u ∈ cxs s 2) ∧ (∀ u ∈ wys s l, 0 ≤ u.1.1 ∧ u.1.1 < u.2.1 ∧ u.2.1 < s) ∧ (wys s l).length ≤ 15 ∧ risesD ((wys s l).map swD) = true ∧ (pinsOf (wys s l)).Nodup ∧ loadOf s (wys s l) = l := by
  obtain ⟨rows, _, _, _, e, c1, c2, c3⟩ := wys_ok h1 h2 hl hm
  have w : WellL s 0 2 2 l (wys s l) := ⟨fun u hu => by
    obtain ⟨a, b, c, d⟩ := c1 u hu
    refine ⟨a, b, c, ?_⟩
    rcases d with ⟨d1, d2⟩ | ⟨d1, d2⟩ <;> rw [d1, d2] <;> decide, c2, c3⟩
  have f := few_pins h2 (by omega) w
  rw [pins_len] at f
  refine ⟨well_in w, fun u hu => ⟨(c1 u hu).1, (c1 u hu).2.1, (c1 u hu).2.2.1⟩, by omega, ?_, c2, c3⟩
  rw [e]
  refine srt_rise (nodup_of_pins ?_)
  rw [e] at c2
  exact (pins_perm (srt_perm _)).nodup_iff.mp c2
theorem q_mates {tb CB CL : Addr} {E : XK} {i j k : Nat} {s : Int} {l : List Int} {v : V} (gi : σ[i]? = some (some (.int s))) (gj : σ[j]? = some (some v)) (hv : Dp K H v (tI l)) (h1 : 2 ≤ s) (h2 : s ≤ 5) (hl : Ld s l) (hm : mxl (sms s l) ≤ 2) (hT : TabS H tb qW)
    (q : ∀ v' H', ExB tb H H' → TabS H' tb qW → HasC H' tb (lamPos wLam) → Dp K H' v' (.tuple ((wys s l).map swD)) → tz D (σ.set k (some v')) H') :
    tSeq (tAsg (tCall (spMates K tb CB CL) [] E (tCons (tVar i) (tCons (tVar j) tNil))) (gName k)) tz D σ H := by
  obtain ⟨rows, hw, c4, c5, e, _⟩ := wys_ok h1 h2 hl hm
  have ee : wayD rows = .tuple ((wys s l).map swD) := by rw [e, ← srt_data]; rfl
  refine ⟨_, gi, _, gj, .int s, tI l, .cons (.int s) (.cons hv .nil), .inl ⟨s, l, rows, rfl, rfl, h1, h2, hl, hm, hw, c4, c5, hT, ?_⟩⟩
  by_cases hc : HasC H tb (lamPos wLam)
  · exact .inl ⟨hc, fun v' H' x hd => q v' H' (ExB.of x) (hT.ext x) (hc.ex x) (ee ▸ hd)⟩
  · exact .inr fun v' H' x t c hd => q v' H' x t c (ee ▸ hd)
theorem ed_matesK {tb CB CL : Addr} {E : XK} {tt : TA} {s : Int} {l : List Int} (h1 : 2 ≤ s) (h2 : s ≤ 5) (hl : Ld s l) (hm : mxl (sms s l) ≤ 2) (hT : TabS H tb qW) (hC : HasC H tb (lamPos wLam)) (h : EvDA K tt σ H [tI l, .int s]) :
    EvD K (tCallR 2 (spMates K tb CB CL) E tt) σ H (.tuple ((wys s l).map swD)) := fun H1 e Q q =>
  h H1 e _ fun vs H2 e2 hv => by
    obtain ⟨v2, v1, rfl, a, b⟩ := dpa_two hv
    obtain ⟨rows, hw, c4, c5, ew, _⟩ := wys_ok h1 h2 hl hm
    have ee : wayD rows = .tuple ((wys s l).map swD) := by rw [ew, ← srt_data]; rfl
    exact ⟨rfl, .int s, tI l, .cons b (.cons a .nil), .inl ⟨s, l, rows, rfl, rfl, h1, h2, hl, hm, hw, c4, c5, hT.ext (e.trans e2), .inl ⟨hC.ex (e.trans e2), fun v' H' x hd => q v' H' (e2.trans x) (ee ▸ hd)⟩⟩⟩
/-! ### texts of ways -/
theorem fine_sws : ∀ {us : List Sw}, (∀ u ∈ us, Sml u.1.1 ∧ Sml u.1.2 ∧ Sml u.2.1 ∧ Sml u.2.2) → PyData.leavesShortAll 13 (us.map swD) = true ∧ PyData.showableAll (us.map swD) = true ∧ PyData.weightAll (us.map swD) ≤ 200 * us.length ∧ PyData.depthAll (us.map swD) ≤ 3
  | [], _ => ⟨rfl, rfl, by simp [PyData.weightAll], by simp [PyData.depthAll]⟩
  | u :: us, h => by
    obtain ⟨h1, h2, h3, h4⟩ := fine_sws (us := us) fun m hm => h m (List.mem_cons_of_mem _ hm)
    obtain ⟨a, b, c, d⟩ := h u List.mem_cons_self
    have f1 := fine_tI (ns := [u.1.1, u.1.2]) (by simp [a, b])
    have f2 := fine_tI (ns := [u.2.1, u.2.2]) (by simp [c, d])
    have w1 := f1.few
    have w2 := f2.few
    have p1 := f1.deep
    have p2 := f2.deep
    simp only [List.length_cons, List.length_nil] at w1 w2
    refine ⟨?_, ?_, ?_, ?_⟩
    · rw [List.map_cons, PyData.leavesShortAll, h1, Bool.and_true]
      show (PyData.tuple [tI [u.1.1, u.1.2], tI [u.2.1, u.2.2]]).leavesShort 13 = true
      rw [PyData.leavesShort, PyData.leavesShortAll, PyData.leavesShortAll, PyData.leavesShortAll, f1.short, f2.short]
      rfl
    · rw [List.map_cons, PyData.showableAll, h2, Bool.and_true]
      show (PyData.tuple [tI [u.1.1, u.1.2], tI [u.2.1, u.2.2]]).showable = true
      rw [PyData.showable, PyData.showableAll, PyData.showableAll, PyData.showableAll, f1.shows, f2.shows]
      rfl
    · rw [List.map_cons, PyData.weightAll, List.length_cons]
      have e : (swD u).weight = (PyData.tuple [tI [u.1.1, u.1.2], tI [u.2.1, u.2.2]]).weight := rfl
      rw [e]
      simp only [PyData.weight, PyData.weightAll] at w1 w2 ⊢
      omega
    · rw [List.map_cons, PyData.depthAll]
      have e : (swD u).depth = (PyData.tuple [tI [u.1.1, u.1.2], tI [u.2.1, u.2.2]]).depth := rfl
      rw [e]
      simp only [PyData.depth, PyData.depthAll] at p1 p2 ⊢
      omega
theorem fine_way {us : List Sw} (h : ∀ u ∈ us, Sml u.1.1 ∧ Sml u.1.2 ∧ Sml u.2.1 ∧ Sml u.2.2) (hl : us.length ≤ 15) : Fine (.tuple (us.map swD)) 4000 5 := by
  obtain ⟨h1, h2, h3, h4⟩ := fine_sws h
  refine ⟨by simpa only [PyData.leavesShort] using h1, by simpa only [PyData.showable] using h2, ?_, ?_⟩
  · simp only [PyData.depth]
    omega
  · simp only [PyData.weight]
    omega
theorem fine_wys {s : Int} {l : List Int} (h1 : 2 ≤ s) (h2 : s ≤ 5) (hl : Ld s l) (hm : mxl (sms s l) ≤ 2) : Fine (.tuple ((wys s l).map swD)) 4000 5 := by
  obtain ⟨a, b, c, _⟩ := wys_facts h1 h2 hl hm
  refine fine_way (fun u hu => ?_) c
  obtain ⟨x1, x2, x3, x4, x5, x6, x7, _⟩ := cxs_mem.mp (a u hu)
  exact ⟨sml_of (by omega) (by omega), sml_of (by omega) (by omega), sml_of (by omega) (by omega), sml_of (by omega) (by omega)⟩
theorem ev_reprT2 {ds : List PyData} {W k : Nat} (h : EvD K te σ H (.tuple ds)) (f : Fine (.tuple ds) W k) (hw : W ≤ 2 ^ 20) (hk : k ≤ 80) : Ev (tCB (rRepr K) (tCons te tNil)) σ H (.str (PyData.tuple ds).shown) := fun H1 e Q q =>
  h H1 e _ fun v H2 e2 hv => by
    cases hv with
    | tup hs ha => exact ⟨_, _, rfl, .tup hs ha, f.shows, by have := f.deep; omega, f.fits hw, q H2 e2⟩
/-! ### comparisons -/
theorem depth_sw (u : Sw) : (swD u).depth ≤ 3 := by simp [swD, pD, PyData.depth, PyData.depthAll]
theorem lay_sw (u : Sw) : (swD u).canLay0 = true := by simp [swD, pD, PyData.canLay0, PyData.canLayAll0]
theorem shaped_sw (u : Sw) : SeqAt.shaped (swD u) = true := by
  show ((swD u).canLay0 && decide ((swD u).depth ≤ 64)) = true
  rw [lay_sw, decide_eq_true (Nat.le_trans (depth_sw u) (by decide))]
  rfl
theorem lay_sws : ∀ us : List Sw, PyData.canLayAll0 (us.map swD) = true
  | [] => by simp [PyData.canLayAll0]
  | u :: us => by
    rw [List.map_cons, PyData.canLayAll0, lay_sw, lay_sws us]
    rfl
theorem depth_sws : ∀ us : List Sw, PyData.depthAll (us.map swD) ≤ 3
  | [] => by simp [PyData.depthAll]
  | u :: us => by
    have := depth_sws us
    have := depth_sw u
    rw [List.map_cons, PyData.depthAll]
    omega
theorem shaped_sws (us : List Sw) : SeqAt.shaped (.tuple (us.map swD)) = true := by
  have := depth_sws us
  show ((PyData.tuple (us.map swD)).canLay0 && decide ((PyData.tuple (us.map swD)).depth ≤ 64)) = true
  have e1 : (PyData.tuple (us.map swD)).canLay0 = true := by
    simp only [PyData.canLay0]
    exact lay_sws us
  have e2 : (PyData.tuple (us.map swD)).depth ≤ 64 := by
    simp only [PyData.depth]
    omega
  rw [e1, decide_eq_true e2]
  rfl
theorem eqv_sw (u : Sw) : PyData.eqv (swD u) (swD u) = true := by
  have e : PyData.eqv (swD u) (swD u) = (PyData.eqv (pD u.1) (pD u.1) && (PyData.eqv (pD u.2) (pD u.2) && true)) := by simp [swD, PyData.eqv, PyData.eqvAll]
  rw [e, eqv_pD, eqv_pD]
  simp
theorem any_sw {us : List Sw} {u : Sw} (h : u ∈ us) : (!(us.map swD).any fun z => PyData.eqv z (swD u)) = false := by
  have : ((us.map swD).any fun z => PyData.eqv z (swD u)) = true := List.any_eq_true.mpr ⟨swD u, List.mem_map_of_mem h, eqv_sw u⟩
  rw [this]
  rfl
theorem ev_neD {e1 e2 : PyData} (ha : EvD K ta σ H e1) (hb : EvD K tb σ H e2) (h1 : SeqAt.shaped e1 = true) (h2 : SeqAt.shaped e2 = true) : Ev (tOp (rNeD K) ta tb) σ H (.bl (!PyData.eqv e1 e2)) := fun H1 e Q q =>
  ha H1 e _ fun x H2 e2' hx => hb H2 (e.trans e2') _ fun y H3 e3 hy => ⟨_, _, dp_ex e3 _ _ hx, hy, h1, h2, q H3 (e2'.trans e3)⟩
theorem et_notTrue (h : Ev ta σ H (.bl true)) : EvT (tTest (tOp rNotB ta (tC (.bl true)))) σ H false :=
  et_test (fun H1 e Q q => h H1 e _ fun H2 e2 => ⟨true, true, rfl, rfl, q H2 e2⟩)
theorem ed_switches {P : Program} {w : World} {C a : Addr} {i : Nat} {s t : Int} {ws : List Sw} (B : BoxC K C) (h1 : σ[i]? = some (some (.ref a))) (hb : BxAt P w K C H a s t ws) : EvD K (tFld K (tVar i) "switches") σ H (.tuple (ws.map swD)) := fun H1 e Q q => by
  obtain ⟨dx, v', d, kvs, g1, g2, g3, g4⟩ := hb.ex e
  exact ⟨.ref a, h1, a, C, dx, BoxFs s t v' d, v', rfl, g1, B.cls, B.a3, rfl, q v' H1 (Ex.refl _) g2⟩
/-! ### is_way_for and the law's own load -/
theorem ev_wayFor {P : Program} {w : World} {C : Addr} {tx : TE} {i j : Nat} {s t : Int} {l : List Int} {us : List Sw} {v0 v : V} (hx : ∀ H1, Ex H H1 → ∀ Q : VK, (∀ a H2, Ex H1 H2 → BxAt P w K C H2 a s t (cxs s t) → Q (.ref a) H2) → tx σ H1 Q)
    (gi : σ[i]? = some (some v0)) (gj : σ[j]? = some (some v)) (h1 : 2 ≤ s) (h2 : s ≤ 5) (d0 : Dp K H v0 (tI l)) (hl : Ld s l) (d : Dp K H v (.tuple (us.map swD))) (few : us.length ≤ 1000) (hin : ∀ u ∈ us, u ∈ cxs s t) (hs : ∀ u ∈ us, 0 ≤ u.1.1 ∧ u.1.1 < u.2.1 ∧ u.2.1 < s) (ri : risesD (us.map swD) = true) (nd : (pinsOf us).Nodup) (el : loadOf s us = l) :
    Ev (tCall (spWayFor P w K C) [] E0 (tCons tx (tCons (tVar i) (tCons (tVar j) tNil)))) σ H (.bl true) := fun H1 e Q q =>
  hx H1 e _ fun a H2 e2 bx => ⟨v0, gi, v, gj, a, s, t, cxs s t, v0, v, us, rfl, bx, h1, h2, by rw [el]; exact dp_ex (e.trans e2) _ _ d0, by rw [el]; exact hl, dp_ex (e.trans e2) _ _ d, few, hin, hs, ri, nd, fun H3 e3 => q H3 (e2.trans e3)⟩
theorem box_crossed {P : Program} {w : World} {C : Addr} {ta : TA} {s t : Int} (h : EvDA K ta σ H [.int s, .int t]) (hs : 2 ≤ s ∧ s ≤ 5) (ht : 1 ≤ t ∧ t ≤ 6) : ∀ H1, Ex H H1 → ∀ Q : VK, (∀ a H2, Ex H1 H2 → BxAt P w K C H2 a s t (cxs s t) → Q (.ref a) H2) → tCall (spCrossed P w K C) [] E0 ta σ H1 Q := fun H1 e Q q =>
  h H1 e _ fun vs H2 e2 hv => by
    obtain ⟨u1, u2, rfl, a1, a2⟩ := dpa_two hv
    cases dp_int a1
    cases dp_int a2
    exact ⟨s, t, rfl, hs, ht, fun a H3 _ e3 bx => q a H3 (e2.trans e3) bx⟩
theorem ed_loadL {i j : Nat} {s : Int} {v : V} {us : List Sw} (gi : σ[i]? = some (some (.int s))) (gj : σ[j]? = some (some v)) (h1 : 2 ≤ s) (h2 : s ≤ 5) (d : Dp K H v (.tuple (us.map swD))) (few : us.length ≤ 1000) :
    EvD K (tCall (spLoad K) [] E0 (tCons (tDisp [(tC (.str "sides"), tVar i)]) (tCons (tVar j) tNil))) σ H (tI (loadOf s us)) := fun H1 e Q q => by
  intro p hp
  have e1 : Ex H1 (upd H1 p (.dK [])) := Ex.new hp
  refine ⟨.int s, gi, upd_same, [(.inr "sides", .int s)], rfl, by show 1 ≤ 15; decide, v, gj, p, s, v, us, rfl, ?_, h1, h2, ?_, few, fun v' H' x hd => q v' H' ?_ hd⟩
  · rw [upd_same]
    rfl
  · exact dp_tx (Tx.dct upd_same) _ _ (by simp only [imm]; exact immAll_map imm_sw us) (dp_ex (e.trans e1) _ _ d)
  · exact fun b o hb => x b o (by rw [upd_ne (fun z => by rw [z, hp] at hb; cases hb)]; exact e1 _ _ hb)
theorem hasC_xp {P : Addr} {pos : Pos} {S : List Addr} (t : HasC H P pos) (x : Xp S H H') (h : ∀ p ∈ S, (∃ l, H p = some (.lst l)) ∨ (∃ l, H p = some (.dK l)) ∨ (∃ l, H p = some (.dT l)) ∨ H p = none) : HasC H' P pos := by
  obtain ⟨ps, cv, h1, h2⟩ := t
  refine ⟨ps, cv, x _ _ h1 fun hm => ?_, h2⟩
  rcases h P hm with ⟨l, q⟩ | ⟨l, q⟩ | ⟨l, q⟩ | q <;> rw [q] at h1 <;> cases h1
theorem d_refuse {CS C P : Addr} {q : Str} {pos : Pos} {params : Arguments} {body : Expr} {scope : Scope} {cl : List (Str × Addr)} {tb : XK → TE} (tab : TabS H P q)
    (kC : PySem.W.exmOne K (.ref C) (.ref CS) = some true) (iC : PySem.W.kitOne K (.ref C) (.ref C) = some true) (eC : ExcC K C)
    (r : ∀ H1, ExB P H H1 → ∀ (E : XK) (Q : VK), (∀ H2, Ex H1 H2 → E (.ref C) none H2) → tb E σ H1 Q)
    (z : ∀ H', ExB P H H' → TabS H' P q → D.nx σ H') :
    tIfS (tNot (tB (tCB (rIsK K) (tCons (tCauL K CS P q pos params body scope cl tb) (tCons (tC (.ref C)) tNil))))) (tRet (tC (.bl false))) tNext D σ H :=
  q_refuse (D := D) (tz := fun D' => D'.nx) tab kC iC eC r z
/-- a value that is data wherever it stands -/
def Lone (v : V) (d : PyData) : Prop := ∀ (K : PySem.W.Frag) (H : Hp), Dp K H v d
theorem hu65 {A : Around} {k : Nat} (hr : Room k A) : A.units + 65 < cLine := by
  have := hr.un
  omega
theorem pe_fldK {X : Cx} {e : Expr} {f : Str} {pos : Pos} {ta : TE} (h : X.K = K) (he : PE X e ta) (hb : attributeBase e f X.env (eval e X.env) = eval e X.env) : PE X (.Attribute e f pos) (tFld K ta f) := h ▸ pe_fld he hb
end
end K16
set_option Elab.async false
set_option linter.all false
set_option maxRecDepth 100000
set_option maxHeartbeats 4000000
namespace K16
open PySem PySem.Spec PyProof.Rows L2 Evl DL LamX
local macro_rules | `(tactic| walk_at "dl") => `(tactic| first
  | exact ev_c | exact ev_var rfl | exact eda_nil
  | exact ed_var rfl (by assumption)
  | exact ed_int ev_c | exact ed_int (ev_var rfl)
  | (refine eda_cons ?_ ?_ <;> walk_at "dl")
  | (refine ed_int ?_; walk_at "dl")
  | (refine ev_op ?_ ?_ rv_I0 <;> walk_at "dl"))

abbrev s_law : Stmt := topS 68
abbrev N_law : List Str := ["script", "state", "turn", "many", "load", "told", "laid", "made", "odd", "sides_here", "wrong", "switch"]
theorem sc_law : FnScope N_law ["script"] (defScope s_law) := ⟨rfl, rfl, rfl, by decide +kernel, rfl, by decide +kernel, by decide +kernel⟩
/-- the name that the law's lambdas bear -/
def lamQ : Str := (envOfC "law" (defScope s_law) 0 0 .none).qual ++ "<lambda>"
def spLaw (K : PySem.W.Frag) (tl tb : Addr) : Sp := fun vs H Q _ => ∃ (a : Addr) (ns : List Int), vs = [.ref a] ∧ SqL K H a (ns.map V.int) ∧ ns.length ≤ 63 ∧ H tl = some (.tbl #[]) ∧ H tb = some (.tbl #[]) ∧ ∀ H', Q (.bl true) H'
section
variable {P : Program} {w : World} {K : PySem.W.Frag} {mg : Str → Option Value} {base : Heap}
theorem ok_law {f : Addr} {fd : FuncData} {cc : Addr} (F : FunC K "law" "law" s_law f fd cc) (T : Txt mg) {tl tb CS CB CL CR C : Addr} (TB : TabB base mg cc tl) (nt : tb ≠ tl) (CA : CauF K mg "_law_caught" CS) (GBadSides : ErC K mg "BadSides" CB) (GBadLoad : ErC K mg "BadLoad" CL)
    (kCB : PySem.W.exmOne K (.ref CB) (.ref CS) = some true) (kCL : PySem.W.exmOne K (.ref CL) (.ref CS) = some true) (iB : PySem.W.kitOne K (.ref CB) (.ref CB) = some true) (iL : PySem.W.kitOne K (.ref CL) (.ref CL) = some true) (eB : ExcC K CB) (eL : ExcC K CL) (B : BoxC K C)
    (D__law_begun : DF P w K mg base "_law_begun" 1 ["script"] (spBegun K)) (D__law_draw : DF P w K mg base "_law_draw" 1 ["state", "size_here"] (spDraw K)) (D__law_pick : DF P w K mg base "_law_pick" 2 ["state", "several"] (spPick K)) (D__law_let : DF P w K mg base "_law_let" 3 ["state", "sides_here", "many"] (spLet K)) (D__law_laid : DF P w K mg base "_law_laid" 12 ["sides_here", "many", "parts"] (spLaid K tb)) (D__law_load : DF P w K mg base "_law_load" 2 ["scope", "told"] (spLoad K)) (D__law_pins : DF P w K mg base "_law_pins" 1 ["told"] (spN K 1 R_law_pins)) (D_crossed : DF P w K mg base "crossed" 7 ["sides", "tracks"] (spCrossed P w K C)) (D_is_way_for : DF P w K mg base "is_way_for" 5 ["box", "load", "thing"] (spWayFor P w K C))
    (D_mates_way : DFX P w K mg base "mates_way" 11 ["sides", "load"] (spMates K tb CB CL)) (D_crossed_split : DFX P w K mg base "crossed_split" 6 ["sides", "load", "room"] (spCS K CB CL CR)) (DK_mates_way : DFK P w K mg base (L2.CX P w) "mates_way" 11 ["sides", "load"] (spMates K tb CB CL)) :
    FnG P w K mg base (L2.CX P w) 14 f fd ["script"] (spLaw K tl tb) := by
  refine okC F sc_law (fun vs H Q E h => by obtain ⟨_, _, rfl, _⟩ := h; rfl) (fun A outer s0 H vs Q E hg hr h => ?_)
  obtain ⟨a, ns, rfl, hs, hl, htl, htb, k⟩ := h
  refine ⟨_, (pss_cons (ps_set (i := 1) sc_law.nd rfl (.inl rfl) (pe_D D__law_begun (hr.mono (by decide)) (by rfl) (pa_cons (pv 0) pa_nil)))
      (pss_cons (ps_for (passes_of rfl) rfl (pi_range1 (by rfl) T.b_range (pa_cons (pe_op op_add pe_int (pe_callB (call_min2 rfl) (by rfl) T.b_min (by decide +kernel) (pa_cons (pe_callB call_len_seq (by rfl) T.b_len PySem.boot_len (pa_cons (pv 0) pa_nil)) (pa_cons pe_int pa_nil)))) pa_nil)) (pg_name (i := 2) sc_law.nd rfl (Or.inl rfl)) (pss_cons (ps_asg (pe_tup (pa_cons (pe_op op_add pe_int (pe_D D__law_draw (hr.mono (by decide)) (by rfl) (pa_cons (pv 1) (pa_cons pe_int pa_nil)))) (pa_cons (pe_op op_add pe_int (pe_D D__law_draw (hr.mono (by decide)) (by rfl) (pa_cons (pv 1) (pa_cons pe_int pa_nil)))) pa_nil))) (pg_tup rfl (pgs_cons (pg_name (i := 9) sc_law.nd rfl (Or.inr rfl)) (pgs_cons (pg_name (i := 3) sc_law.nd rfl (Or.inl rfl)) pgs_nil))))
      (pss_cons (ps_set (i := 4) sc_law.nd rfl (.inl rfl) (pe_D D__law_let (hr.mono (by decide)) (by rfl) (pa_cons (pv 1) (pa_cons (pv 9) (pa_cons pe_int pa_nil)))))
      (pss_cons (ps_set (i := 5) sc_law.nd rfl (.inl rfl) (pe_DX D_mates_way (E := fun _ _ _ => False) (takes_of rfl rfl rfl rfl) (fun _ _ _ _ h => h.elim) (hr.mono (by decide)) (by rfl) (pa_cons (pv 9) (pa_cons (pv 4) pa_nil))))
      (pss_cons (ps_if (pt_cmpR op_ne (pe_callB (call_repr hg (hu100 hr)) (by rfl) T.b_repr (by decide +kernel) (pa_cons (pe_DK DK_mates_way (takes_of rfl rfl rfl rfl) (fun _ _ _ _ h => h.elim) (E := fun _ _ _ => False) (hr.mono (by decide)) (by rfl) (pk_cons (pv 4) (pk_cons (pv 9) pk_nil))) pa_nil)) (pe_callB (call_repr hg (hu100 hr)) (by rfl) T.b_repr (by decide +kernel) (pa_cons (pv 5) pa_nil)) (nomark _)) (pss_one (ps_ret pe_bl)) pss_nil)
      (pss_cons (ps_if (pt_cmpR op_notBl (pe_D D_is_way_for (hr.mono (by decide)) (by rfl) (pa_cons (pe_D D_crossed (hr.mono (by decide)) (by rfl) (pa_cons (pv 9) (pa_cons pe_int pa_nil))) (pa_cons (pv 4) (pa_cons (pv 5) pa_nil)))) pe_bl (nomark _)) (pss_one (ps_ret pe_bl)) pss_nil)
      (pss_cons (ps_set (i := 4) sc_law.nd rfl (.inl rfl) (pe_D D__law_let (hr.mono (by decide)) (by rfl) (pa_cons (pv 1) (pa_cons (pv 9) (pa_cons (pv 3) pa_nil)))))
      (pss_cons (ps_set (i := 6) sc_law.nd rfl (.inl rfl) (pe_D D__law_laid (hr.mono (by decide)) (by rfl) (pa_cons (pv 9) (pa_cons (pv 3) (pa_cons (pe_DX D_crossed_split (E := fun _ _ _ => False) (takes_of rfl rfl rfl rfl) (fun _ _ _ _ h => h.elim) (hr.mono (by decide)) (by rfl) (pa_cons (pv 9) (pa_cons (pv 4) (pa_cons (pv 3) pa_nil)))) pa_nil)))))
      (pss_cons (ps_set (i := 7) sc_law.nd rfl (.inr rfl) (pe_D D_crossed (hr.mono (by decide)) (by rfl) (pa_cons (pv 9) (pa_cons (pv 3) pa_nil))))
      (pss_cons (ps_if (PW.pt (pw_or (pt_cmpR (op_neD (hu64 hr)) (pe_D D__law_load (hr.mono (by decide)) (by rfl) (pa_cons (pe_disp (pps_cons pe_str (pv 9) pps_nil) (by rfl) (by rfl) (fun z => by cases z) (by decide)) (pa_cons (pv 6) pa_nil))) (pv 4) (nomark _)) (pw_or1 (pt_cmpR op_ne (lenSet_K (K := K) rfl (pe_lenSetT rfl (hu64 hr) (by rfl) T.b_len (by rfl) T.b_set (pe_D D__law_pins (hr.mono (by decide)) (by rfl) (pa_cons (pv 6) pa_nil)))) (pe_op op_mul pe_int (pe_callB call_len_seq (by rfl) T.b_len PySem.boot_len (pa_cons (pv 6) pa_nil))) (nomark _))))) (pss_one (ps_ret pe_bl)) pss_nil)
      (pss_cons (ps_if (pt_cmpR (op_neD (hu64 hr)) (pe_lc (own := [("switch", 11)]) (g := (gName 11)) (tt := _) rfl sc_law.nd (pi_tup (pv 6)) (blkOk_by (N := N_law) (sc := defScope s_law) (by decide +kernel)) (fun _ _ _ _ _ => (pg_name (i := 11) sc_law.nd rfl (Or.inl rfl))) (fun _ _ _ _ _ => (pts_one (pt_cmpR (op_notInT K rfl (hu65 hr)) (pv 11) (pe_fldK (K := K) rfl (pv 7) rfl) (by rfl)))) (fun _ _ _ _ _ => pe_int)) (pe_lst pa_nil) (nomark _)) (pss_one (ps_ret pe_bl)) pss_nil)
      (pss_cons (ps_if (PW.pt (pw_and (pt_cmpR op_lt (pv 3) pe_int (nomark _)) (pw_and (pt_cmpR op_lt (pv 9) pe_int (nomark _)) (pw_and1 (pt_cmpR op_notBl (pe_D D_is_way_for (hr.mono (by decide)) (by rfl) (pa_cons (pv 7) (pa_cons (pv 4) (pa_cons (pv 6) pa_nil)))) pe_bl (nomark _)))))) (pss_one (ps_ret pe_bl)) pss_nil)
      (pss_cons (ps_set (i := 8) sc_law.nd rfl (.inr rfl) (pe_D D__law_pick (hr.mono (by decide)) (by rfl) (pa_cons (pv 1) (pa_cons (pe_lst (pa_cons pe_int (pa_cons pe_int (pa_cons pe_bl (pa_cons pe_non pa_nil))))) pa_nil))))
      (pss_cons (ps_set (i := 10) sc_law.nd rfl (.inr rfl) (pe_D D__law_pick (hr.mono (by decide)) (by rfl) (pa_cons (pv 1) (pa_cons (pe_lst (pa_cons pe_non (pa_cons (pe_callTy call_list_of (by rfl) T.b_list (by decide +kernel) (pa_cons (pv 4) pa_nil)) (pa_cons (pe_op op_catA (pv 4) (pe_tup (pa_cons pe_int pa_nil))) (pa_cons (pe_op op_catA (pe_tup (pa_cons pe_int pa_nil)) (pe_slice sl_tupA (pv 4) (po_some pe_int) po_none)) (pa_cons (pe_op op_catA (pe_tup (pa_cons (pe_un un_neg pe_int) pa_nil)) (pe_slice sl_tupA (pv 4) (po_some pe_int) po_none)) (pa_cons (pe_op op_catA (pe_tup (pa_cons pe_bl pa_nil)) (pe_slice sl_tupA (pv 4) (po_some pe_int) po_none)) (pa_cons (pe_slice sl_tupA (pv 4) (po_some pe_int) po_none) pa_nil)))))))) pa_nil))))
      (pss_cons (ps_if (pt_not (pt_val (pe_callB call_isK (by rfl) T.b_isinstance (by decide +kernel) (pa_cons (pe_caughtL (k := 11) CA rfl hr TB rfl (lamF_by (by show lamFB (defScope s_law) _ = true; decide +kernel)) rfl ⟨lamS_by (by show lamSB (defScope s_law) _ = true; decide +kernel), fun _ _ _ _ _ => rfl, fun A2 outer2 s2 H2 E2 f2 c2' hr2 => pe_DX D_mates_way (takes_of rfl rfl rfl rfl) (fun _ _ _ _ h => h) (hr2.mono (by decide)) (by rfl) (pa_cons (pv 8) (pa_cons (pv 10) pa_nil))⟩) (pa_cons (pe_cls GBadSides (by rfl)) pa_nil))))) (pss_one (ps_ret pe_bl)) pss_nil)
      (pss_one (ps_if (pt_not (pt_val (pe_callB call_isK (by rfl) T.b_isinstance (by decide +kernel) (pa_cons (pe_caughtL (k := 11) CA rfl hr TB rfl (lamF_by (by show lamFB (defScope s_law) _ = true; decide +kernel)) rfl ⟨lamS_by (by show lamSB (defScope s_law) _ = true; decide +kernel), fun _ _ _ _ _ => rfl, fun A2 outer2 s2 H2 E2 f2 c2' hr2 => pe_DX D_mates_way (takes_of rfl rfl rfl rfl) (fun _ _ _ _ h => h) (hr2.mono (by decide)) (by rfl) (pa_cons (pv 9) (pa_cons (pv 10) pa_nil))⟩) (pa_cons (pe_cls GBadLoad (by rfl)) pa_nil))))) (pss_one (ps_ret pe_bl)) pss_nil)))))))))))))))))
      (pss_one (ps_ret pe_bl)))), ?_⟩
  have tl0 : TabS H tl lamQ := TabS.nil htl
  have tb0 : TabS H tb qW := TabS.nil htb
  refine ⟨.ref a, rfl, a, ns, rfl, hs, hl, fun st lg cl H1 hst0 hlg0 e1 s1 => ?_⟩
  have sA : SqL K H1 a (ns.map V.int) := ex_l e1 hs
  refine r_for (K := K) (n := 3 + min (ns.length : Int) 6) (eda_cons (ed_int (ev_op ev_c (ev_min2 (ev_is (ev_len (K := K) (ev_var rfl) sA) (by rw [List.length_map])) ev_c) rv_I0)) eda_nil) ⟨by omega, by omega⟩
    (fun i σ' Ha => StK st lg cl (100 * i) Ha ∧ TabS Ha tl lamQ ∧ TabS Ha tb qW ∧ ∃ c2 c3 c4 c5 c6 c7 c8 c9 c10 c11, σ' = [some (.ref a), some (.ref st), c2, c3, c4, c5, c6, c7, c8, c9, c10, c11]) (fun H2 e2 => ⟨stk_ex e2 s1, tl0.ext (e1.trans e2), tb0.ext (e1.trans e2), none, none, none, none, none, none, none, none, none, none, rfl⟩) ?_ ?_
  · rintro i σ' Ha hi ⟨s2, tl2, tb2, c2, c3, c4, c5, c6, c7, c8, c9, c10, c11, rfl⟩
    have hi9 : i ≤ 8 := by omega
    -- sides and tracks
    refine ⟨.ref st, rfl, st, lg, cl, _, 4, rfl, by decide, by decide, by omega, s2, fun r3 H3 r0 r1 x3 s3 => ⟨2, r3, rfl, rfl, ?_⟩⟩
    obtain ⟨s, hs2⟩ : ∃ s, s = 2 + r3 := ⟨_, rfl⟩
    have h1 : 2 ≤ s := by omega
    have h2 : s ≤ 5 := by omega
    have tl3 := tabS_xp tl2 x3 (stk_in s2)
    have tb3 := tabS_xp tb2 x3 (stk_in s2)
    refine ⟨.ref st, rfl, st, lg, cl, _, 6, rfl, by decide, by decide, by omega, s3, fun r4 H4 r0' r1' x4 s4 => ⟨1, r4, rfl, rfl, ?_⟩⟩
    obtain ⟨m, hm2⟩ : ∃ m, m = 1 + r4 := ⟨_, rfl⟩
    have m1 : 1 ≤ m := by omega
    have m6 : m ≤ 6 := by omega
    have tl4 := tabS_xp tl3 x4 (stk_in s3)
    have tb4 := tabS_xp tb3 x4 (stk_in s3)
    refine ⟨by show 2 ≤ sizeLine; decide, fun p6 q6 => ?_⟩
    refine g_two2 (K := K) upd_same (gN (gN ?_))
    dsimp only [List.set_cons_succ, List.set_cons_zero]
    rw [← hs2, ← hm2]
    have e6 := Ex.new (o := .tup [.int s, .int m]) q6
    have s6 := stk_ex e6 s4
    have tl6 := tl4.ext e6
    have tb6 := tb4.ext e6
    generalize L2.upd H4 p6 (.tup [.int s, .int m]) = H6 at *
    have np10 := np_le h1 h2
    -- a load let by two
    refine ⟨.ref st, rfl, .int s, rfl, st, lg, cl, _, s, 2, rfl, h1, h2, by decide, by omega, s6, fun l v4 H7 hlt x7 s7 d7 => ?_⟩
    refine gN (i := 4) ?_
    dsimp only [List.set_cons_succ, List.set_cons_zero]
    have tl7 := tabS_xp tl6 x7 (stk_in s6)
    have tb7 := tabS_xp tb6 x7 (stk_in s6)
    have ld := lt_ld h1 h2 hlt (by decide)
    have ml := lt_mxl h1 hlt
    have fw := fine_wys h1 h2 ld ml
    obtain ⟨w1, w2, w3, w4, w5, w6⟩ := wys_facts h1 h2 ld ml
    refine q_mates (i := 9) (j := 4) (k := 5) rfl rfl d7 h1 h2 ld ml tb7 fun v5 H8 xB8 tb8 hC8 d8 => ?_
    dsimp only [List.set_cons_succ, List.set_cons_zero]
    have xN := exB_extn xB8 tb7
    have s8 := stk_exN xN s7
    have tl8 := tabS_exB xB8 tb7 (Ne.symm nt) tl7
    have d48 := dp_extn xN _ _ d7
    refine q_no (et_test (ev_neS (ev_reprT2 (ed_matesK h1 h2 ld ml tb8 hC8 (eda_cons (ed_var (k := 4) rfl d48) (eda_cons (ed_int (ev_var rfl)) eda_nil))) fw (by decide) (by decide)) (ev_reprT2 (ed_var rfl d8) fw (by decide) (by decide)))) fun H9 e9 => ?_
    refine q_no (et_notTrue (ev_wayFor (K := K) (t := 2) (l := l) (us := wys s l) (box_crossed (eda_cons (ed_int (ev_var rfl)) (eda_cons (ed_int ev_c) eda_nil)) ⟨h1, h2⟩ ⟨by decide, by decide⟩) rfl rfl h1 h2 (dp_ex e9 _ _ d48) ld (dp_ex e9 _ _ d8) (by omega) w1 w2 w4 w5 w6)) fun H10 e10 => ?_
    have e810 := e9.trans e10
    have s10 := stk_ex e810 s8
    have tl10 := tl8.ext e810
    have tb10 := tb8.ext e810
    have hC10 := hC8.ex e810
    -- a load let by all tracks
    refine ⟨.ref st, rfl, .int s, rfl, .int m, rfl, st, lg, cl, _, s, m, rfl, h1, h2, by omega, by omega, s10, fun l2 v42 H11 hlt2 x11 s11 d11 => ?_⟩
    refine gN (i := 4) ?_
    dsimp only [List.set_cons_succ, List.set_cons_zero]
    have tl11 := tabS_xp tl10 x11 (stk_in s10)
    have tb11 := tabS_xp tb10 x11 (stk_in s10)
    have hC11 := hasC_xp hC10 x11 (stk_in s10)
    have ld2 := lt_ld h1 h2 hlt2 m6
    have ml2 := lt_mxl h1 hlt2
    refine ⟨.int s, rfl, .int m, rfl, .int s, rfl, v42, rfl, .int m, rfl, ?_⟩
    refine ⟨[.int s, tI l2, .int m], .cons (.int s) (.cons d11 (.cons (.int m) .nil)), rfl, .inl ⟨s, l2, m, rfl, h1, h2, ld2, by omega, by omega, fun v12 H12 e12 hv12 hA _ => ?_⟩⟩
    rw [if_pos ml2] at hv12
    have A := hA ml2
    refine ⟨s, m, v12, crs s l2 m, rfl, h1, h2, m1, m6, hv12, parts_of (by omega) A, tb11.ext e12, hC11.ex e12, fun v6 H13 e13 d13 => ?_⟩
    refine gN (i := 6) ?_
    dsimp only [List.set_cons_succ, List.set_cons_zero]
    have W : WellL s 0 m m l2 (srt (laidS s m (crs s l2 m))) := well_perm (well_laid h1 h2 (by omega) A) (srt_perm _)
    have ri2 : risesD ((srt (laidS s m (crs s l2 m))).map swD) = true := srt_rise (nodup_of_pins (well_laid h1 h2 (by omega) A).nd)
    generalize srt (laidS s m (crs s l2 m)) = us at *
    have few := few_pins h2 m6 W
    have few' := few
    rw [pins_len] at few'
    refine box_crossed (eda_cons (ed_int (ev_var rfl)) (eda_cons (ed_int (ev_var rfl)) eda_nil)) ⟨h1, h2⟩ ⟨m1, m6⟩ H13 (Ex.refl _) _ fun bx H14 e14 b14 => ?_
    refine gN (i := 7) ?_
    dsimp only [List.set_cons_succ, List.set_cons_zero]
    have d4 := dp_ex ((e12.trans e13).trans e14) _ _ d11
    have d6 := dp_ex e14 _ _ d13
    refine q_no (et_is (et_or (a := false) (b := false) (et_test (ev_is (ev_neD (K := K) (ed_loadL (i := 9) (j := 6) rfl rfl h1 h2 d6 (by omega)) (ed_var (k := 4) rfl d4) (shaped_tI _) (shaped_tI _)) (by rw [eqv_tI, W.load, decide_eq_true rfl]; rfl))) fun _ => et_test (ev_is (ev_op (ev_lenSet (K := K) (ls := (pinsOf us).map fun p => [p.1, p.2]) (en_is (en_call (R := R_law_pins) (ds := [.tuple (us.map swD)]) (eda_cons (ed_var rfl d6) eda_nil) rfl ⟨us, rfl, by omega, rfl⟩) (by rw [List.map_map]; rfl)) (by rw [List.length_map]; omega) ?_) (ev_op ev_c (ev_lenT (ed_var (K := K) rfl d6)) (rv_I (.inl (by omega)))) (rv_ne rfl)) (by rw [List.length_map, List.length_map, pins_len]; simp))) rfl) fun H15 e15 => ?_
    · exact List.Pairwise.map _ (fun p q n e => n (by obtain ⟨a1, a2⟩ := p; obtain ⟨b1, b2⟩ := q; simp only [List.cons.injEq, and_true] at e; rw [e.1, e.2])) W.nd
    have d6 := dp_ex e15 _ _ d6
    have b15 := b14.ex e15
    refine q_no (et_test (ev_is (ev_neNil (K := K) (a := []) (EvN.toD (en_is (en_lcB (ei_tupD (ed_var (k := 6) rfl d6)) (by rw [List.length_map]; omega) (fun _ => false) (fun _ => 1) fun H2 j d x Hb Q' e2 hg e3 hx kk => ?_) (by simp [dI])))) rfl)) fun H16 e16 => ?_
    · rw [List.getElem?_map] at hg
      obtain ⟨u, hu, rfl⟩ := Option.map_eq_some_iff.mp hg
      refine kk _ Hb (Ex.refl _) rfl (et_test (ev_is (ev_notInT (K := K) (ed_var (v := x) rfl hx) (ed_switches B (i := 7) rfl (b15.ex (e2.trans e3))) (shaped_sw u) (shaped_sws _)) (by rw [any_sw (well_in W u (List.mem_of_getElem? hu))]))) ev_c
    have d4 := dp_ex (e15.trans e16) _ _ d4
    have d6 := dp_ex e16 _ _ d6
    have b16 := b15.ex e16
    refine q_no (et_is (et_and (a := decide (m < 5)) (b := false) (et_test (ev_op (ev_var rfl) ev_c rv_I0)) fun _ => et_is (et_and (a := decide (s < 5)) (b := false) (et_test (ev_op (ev_var rfl) ev_c rv_I0)) fun _ => et_notTrue (ev_wayFor (K := K) (t := m) (l := l2) (us := us) (fun H1 e1 Q q => ⟨.ref bx, rfl, q bx H1 (Ex.refl _) (b16.ex e1)⟩) rfl rfl h1 h2 d4 ld2 d6 (by omega) (well_in W) (fun u hu => ⟨(W.at_ u hu).1, (W.at_ u hu).2.1, (W.at_ u hu).2.2.1⟩) ri2 W.nd W.load)) (by simp)) (by simp)) fun H17 e17 => ?_
    have e17' := ((((e12.trans e13).trans e14).trans e15).trans e16).trans e17
    have d4 := dp_ex e17' _ _ d11
    have s17 := stk_ex e17' s11
    have tl17 := tl11.ext e17'
    have tb17 := tb11.ext e17'
    have ne : dI l2 ≠ [] := fun z => by
      have := congrArg List.length z
      rw [dI, List.length_map, List.length_nil, ld2.1] at this
      omega
    have ll : l2.length ≤ 10 := by rw [ld2.1]; exact np10.2
    -- odd
    refine ⟨.ref st, rfl, ?_⟩
    refine tcons_lst ?_
    refine ⟨by show 4 ≤ sizeLine; decide, fun p1 q1 => ?_⟩
    have f1 := Ex.new (o := .lst [.int 1, .int 6, .bl true, .non]) q1
    have np1 := stk_ne s17 q1
    refine ⟨st, lg, cl, _, p1, _, rfl, upd_same, np1.2.1, by simp, by simp, by omega, stk_ex f1 s17, fun v8 G1 hr8 y1 t1 => ?_⟩
    refine gN (i := 8) ?_
    dsimp only [List.set_cons_succ, List.set_cons_zero]
    obtain ⟨d8, lone8, in8⟩ : ∃ d8, Lone v8 d8 ∧ isIn d8 2 5 = false := by
      simp only [List.mem_cons, List.not_mem_nil, or_false] at hr8
      rcases hr8 with rfl | rfl | rfl | rfl
      · exact ⟨.int 1, fun _ _ => .int 1, rfl⟩
      · exact ⟨.int 6, fun _ _ => .int 6, rfl⟩
      · exact ⟨.bool true, fun _ _ => .bl true, rfl⟩
      · exact ⟨.none, fun _ _ => .non, rfl⟩
    have y01 : Xp [st, lg] H17 G1 := (Xp.of_ex f1).trans y1
    have tlG1 := tabS_xp tl17 y01 (stk_in s17)
    have tbG1 := tabS_xp tb17 y01 (stk_in s17)
    have d21 := dp_tx (stk_tx s17 y01) _ _ (imm_tI _) d4
    -- wrong
    have cut : ∀ G, Ex G1 G → EvD K (tSl (rSlA K) (tVar 4) (tPart (tC (.int 1))) tNoPart) [some (.ref a), some (.ref st), some (.int (i : Int)), some (.int m), some v42, some v5, some v6, some (.ref bx), some v8, some (.int s), c10, c11] G (.tuple ((dI l2).drop 1)) := fun G e => ed_is (ed_sl (ed_var (k := 4) (v := v42) rfl (dp_ex e _ _ d21)) (eo_some ev_c) eo_none) (by rw [cut1 _ ne])
    have dl : (dI l2).length = l2.length := by rw [dI, List.length_map]
    refine ⟨.ref st, rfl, ?_⟩
    refine tcons_lst ?_
    refine tcons_c ?_
    refine tcons_e ?_
    refine en_listT (K := K) (ta := tVar 4) (ed_var rfl d21) G1 (Ex.refl _) _ fun pl vl G2 hpl g2 hvl dvl => ?_
    refine tcons_e ?_
    refine (ed_cat (K := K) (ed_var (k := 4) (v := v42) rfl (dp_ex g2 _ _ d21)) (ed_tup (eda_cons (ed_int ev_c) eda_nil) (by simp)) (by rw [List.length_map]; simp; omega)) G2 (Ex.refl _) _ fun v20 G3 g3 d20 => ?_
    refine tcons_e ?_
    refine (ed_cat (K := K) (ds := [.int 3]) (es := (dI l2).drop 1) (ed_tup (eda_cons (ed_int ev_c) eda_nil) (by simp)) (cut G3 (g2.trans g3)) (by simp; omega)) G3 (Ex.refl _) _ fun v21 G4 g4 d21' => ?_
    refine tcons_e ?_
    refine (ed_cat (K := K) (ds := [.int (-1)]) (es := (dI l2).drop 1) (ed_tup (eda_cons (ed_int ev_neg1) eda_nil) (by simp)) (cut G4 ((g2.trans g3).trans g4)) (by simp; omega)) G4 (Ex.refl _) _ fun v22 G5 g5 d22 => ?_
    refine tcons_e ?_
    refine (ed_cat (K := K) (ds := [.bool true]) (es := (dI l2).drop 1) (ed_tup (eda_cons (ed_bool ev_c) eda_nil) (by simp)) (cut G5 (((g2.trans g3).trans g4).trans g5)) (by simp; omega)) G5 (Ex.refl _) _ fun v23 G6 g6 d23 => ?_
    refine tcons_e ?_
    refine cut G6 ((((g2.trans g3).trans g4).trans g5).trans g6) G6 (Ex.refl _) _ fun v24 G7 g7 d24 => ?_
    refine ⟨by show 7 ≤ sizeLine; decide, fun p2 q2 => ?_⟩
    have g8 := Ex.new (o := .lst [.non, .ref pl, v20, v21, v22, v23, v24]) q2
    have g38 := ((((g3.trans g4).trans g5).trans g6).trans g7).trans g8
    have t8 := stk_ex (g2.trans g38) t1
    have npl := stk_ne t1 hpl
    have np2 := stk_ne (stk_ex (((((g2.trans g3).trans g4).trans g5).trans g6).trans g7) t1) q2
    have tlG8 := tlG1.ext (g2.trans g38)
    have tbG8 := tbG1.ext (g2.trans g38)
    refine ⟨st, lg, cl, _, p2, _, rfl, upd_same, np2.2.1, by simp, by simp, by omega, t8, fun v10 G9 hr10 y9 t9 => ?_⟩
    refine gN (i := 10) ?_
    dsimp only [List.set_cons_succ, List.set_cons_zero]
    have tlG9 := tabS_xp tlG8 y9 (stk_in t8)
    have tbG9 := tabS_xp tbG8 y9 (stk_in t8)
    have cons_imm : ∀ d : PyData, imm d = true → imm (.tuple ([d] ++ (dI l2).drop 1)) = true := fun d hd => by
      have e : (dI l2).drop 1 = dI (l2.drop 1) := by rw [dI, dI, List.map_drop]
      rw [e]
      show immAll (d :: dI (l2.drop 1)) = true
      rw [immAll, hd, immAll_ints]
      rfl
    have ldrop : l2.length = np s := ld2.1
    have wrong : ∃ d, Dp K G9 v10 d ∧ (ldOk s d = false ∨ ∃ l', d = tI l' ∧ Ld s l' ∧ ¬ mxl (sms s l') ≤ 2) := by
      have mv : ∀ (d : PyData) (v : V) (G : Hp), Ex G (upd G7 p2 (.lst [.non, .ref pl, v20, v21, v22, v23, v24])) → imm d = true → Dp K G v d → Dp K G9 v d := fun d v G e hi hd => dp_tx (stk_tx t8 y9) _ _ hi (dp_ex e _ _ hd)
      simp only [List.mem_cons, List.not_mem_nil, or_false] at hr10
      rcases hr10 with rfl | rfl | rfl | rfl | rfl | rfl | rfl
      · exact ⟨.none, .non, .inl rfl⟩
      · refine ⟨.list (dI l2), .lst (sq_of (y9 _ _ (g38 _ _ hvl) (by simp [npl.1, npl.2.1]))) (dpa_tx (stk_tx t8 y9) _ _ (immAll_ints _) (dpa_ex g38 _ _ dvl)), .inl rfl⟩
      · refine ⟨_, mv _ _ _ (((((g4.trans g5).trans g6).trans g7).trans g8)) ?_ d20, .inl (ldOk_len (by simp; omega))⟩
        have e : dI l2 ++ [PyData.int 0] = dI (l2 ++ [0]) := by simp [dI]
        rw [e]
        exact imm_tI _
      · refine ⟨_, mv _ _ _ ((((g5.trans g6).trans g7).trans g8)) (cons_imm _ rfl) d21', .inr ⟨3 :: l2.drop 1, by simp [dI, List.map_drop], ?_, ?_⟩⟩
        · refine ⟨by rw [List.length_cons, List.length_drop]; omega, fun x hx => ?_⟩
          rcases List.mem_cons.mp hx with rfl | hx
          · decide
          · exact ld2.2 x (List.mem_of_mem_drop hx)
        · refine three_no h1 h2 ⟨by rw [List.length_cons, List.length_drop]; omega, fun x hx => ?_⟩
          rcases List.mem_cons.mp hx with rfl | hx
          · decide
          · exact ld2.2 x (List.mem_of_mem_drop hx)
      · exact ⟨_, mv _ _ _ (((g6.trans g7).trans g8)) (cons_imm _ rfl) d22, .inl (ldOk_hd rfl)⟩
      · exact ⟨_, mv _ _ _ ((g7.trans g8)) (cons_imm _ rfl) d23, .inl (ldOk_hd rfl)⟩
      · refine ⟨_, mv _ _ _ g8 ?_ d24, .inl (ldOk_len (by simp; omega))⟩
        have e : (dI l2).drop 1 = dI (l2.drop 1) := by rw [dI, dI, List.map_drop]
        rw [e]
        exact imm_tI _
    obtain ⟨dw, hdw, bad⟩ := wrong
    refine q_refuse tlG9 kCB iB eB (fun K1 z1 E1 Q1 r1 => ?_) fun K2 z2 tlK2 => ?_
    · exact ⟨v8, rfl, v10, rfl, d8, dw, .cons (lone8 K K1) (.cons (dp_extn (exB_extn z1 tlG9) _ _ hdw) .nil), .inr ⟨CB, .inl ⟨in8, rfl⟩, fun H' e => r1 H' e⟩⟩
    have zN := exB_extn z2 tlG9
    have hdw2 := dp_extn zN _ _ hdw
    have tbK2 := tabS_exB z2 tlG9 nt tbG9
    have sK2 := stk_exN zN t9
    refine d_refuse tlK2 kCL iL eL (fun K3 z3 E1 Q1 r1 => ?_) fun K4 z4 tlK4 => ?_
    · refine ⟨.int s, rfl, v10, rfl, .int s, dw, .cons (.int s) (.cons (dp_extn (exB_extn z3 tlK2) _ _ hdw2) .nil), .inr ⟨CL, ?_, fun H' e => r1 H' e⟩⟩
      rcases bad with bad | ⟨l', rfl, ldl, no⟩
      · exact .inr (.inl ⟨s, rfl, h1, h2, bad, rfl⟩)
      · exact .inr (.inr ⟨s, l', rfl, rfl, h1, h2, ldl, no, rfl⟩)
    exact ⟨stk_mono (by omega) (stk_exN (exB_extn z4 tlK2) sK2), tlK4, tabS_exB z4 tlK2 nt tbK2, _, _, _, _, _, _, _, _, _, _, rfl⟩
  · rintro σ' Ha _
    exact k Ha
end
end K16
set_option Elab.async false
set_option linter.all false
set_option maxRecDepth 100000
set_option maxHeartbeats 0
namespace K16
open PySem PySem.Spec PyProof.Rows L2 Evl DL He LamX
abbrev s__law_caught : Stmt := topS 61
theorem boxB_ok {K : PySem.W.Frag} {C : Addr} (h : boxB K C = true) (n : PySem.W.specialIn K (.builtin "object.__class__") "__get__" = some (some (.builtin "getset_descriptor.__get__"))) (t : PySem.W.takesIn K (.builtin "object.__class__") = some true) : BoxI K C := by
  obtain ⟨h1, h⟩ := ba h
  obtain ⟨h2, h3⟩ := ba h
  exact ⟨eqO_ok h1, n, t, of_decide_eq_true h2, of_decide_eq_true h3⟩
theorem facts_law {l : PySem.W.OpenLaw} {w : World} {K : PySem.W.Frag} {h : Heap} {mg : Str → Option Value} {fa : Addr} (X : K.In h) (G : h.Ns mainGlobals mg) (hfa : mg "law" = some (.ref fa)) (c : KnownY faL fnL tfL exA h K) :
    ∃ (fd : FuncData) (Ts : List (Addr × Addr)) (tl tw : Addr), (∃ p ∈ Ts, p.2 = tl) ∧ (∃ p ∈ Ts, p.2 = tw) ∧ (∀ p ∈ Ts, h.get? p.2 = some { cls := .none, data := .fields #[] }) ∧ (∀ p ∈ Ts, K.lookup p.2 = none) ∧ (∀ p ∈ Ts, PySem.W.CodeHd h p.1 p.2) ∧ (∀ (s : Shared) (u : Value), BindsTo s fd ⟨[u], []⟩ [("script", u)]) ∧
      ∀ base : Heap, K.In base → base.Ns mainGlobals mg → (∀ p ∈ Ts, TabB base mg p.1 p.2) → FnG l.prog w K mg base (L2.CX l.prog w) 14 fa fd ["script"] (spLaw K tl tw) := by
  have d := c.says
  obtain ⟨xB, m⟩ := ba c.extra
  obtain ⟨xL, m⟩ := ba m
  obtain ⟨xR, m⟩ := ba m
  obtain ⟨nn, m⟩ := ba m
  obtain ⟨tt, m⟩ := ba m
  obtain ⟨bxB, ne⟩ := ba m
  have nn := of_decide_eq_true nn
  have tt := of_decide_eq_true tt
  have ne : (cT K ("wire_rows", none)).2 ≠ (cT K ("law", none)).2 := fun z => by
    rw [decide_eq_true z] at ne
    cases ne
  have BI := boxB_ok bxB nn tt
  obtain ⟨GB, uB⟩ := exc_ok (glo_ok X G (d.fact 68 (f := .glo "BadSides") rfl)) (d.fact 73 (f := .exc "BadSides") rfl)
  obtain ⟨EB, iB⟩ := clsB_ok xB uB nn tt
  have yB : PySem.W.exmOne K (.ref (ga K "BadSides")) (.ref (ga K "CallError")) = some true := of_decide_eq_true (d.fact 76 (f := .exm "BadSides" "CallError" true) rfl)
  obtain ⟨GL, uL⟩ := exc_ok (glo_ok X G (d.fact 69 (f := .glo "BadLoad") rfl)) (d.fact 74 (f := .exc "BadLoad") rfl)
  obtain ⟨EL, iL⟩ := clsB_ok xL uL nn tt
  have yL : PySem.W.exmOne K (.ref (ga K "BadLoad")) (.ref (ga K "CallError")) = some true := of_decide_eq_true (d.fact 77 (f := .exm "BadLoad" "CallError" true) rfl)
  obtain ⟨GR, uR⟩ := exc_ok (glo_ok X G (d.fact 70 (f := .glo "BadRoom") rfl)) (d.fact 75 (f := .exc "BadRoom") rfl)
  obtain ⟨ER, iR⟩ := clsB_ok xR uR nn tt
  have yR : PySem.W.exmOne K (.ref (ga K "BadRoom")) (.ref (ga K "CallError")) = some true := of_decide_eq_true (d.fact 78 (f := .exm "BadRoom" "CallError" true) rfl)
  obtain ⟨oc0, kV0, dc0, pm0, cd0, ct0, od0, an0, sl0, l0, c0, k0⟩ := fn_look (st := s__law_begun) (d.def_ 0 (d := d_0) rfl)
  have a0 := glo_ok X G (d.fact 0 (f := .glo "_law_begun") rfl)
  obtain ⟨oc1, kV1, dc1, pm1, cd1, ct1, od1, an1, sl1, l1, c1, k1⟩ := fn_look (st := s__law_draw) (d.def_ 1 (d := d_1) rfl)
  have a1 := glo_ok X G (d.fact 1 (f := .glo "_law_draw") rfl)
  obtain ⟨oc2, kV2, dc2, pm2, cd2, ct2, od2, an2, sl2, l2, c2, k2⟩ := fn_look (st := s__law_pick) (d.def_ 2 (d := d_2) rfl)
  have a2 := glo_ok X G (d.fact 2 (f := .glo "_law_pick") rfl)
  obtain ⟨oc3, kV3, dc3, pm3, cd3, ct3, od3, an3, sl3, l3, c3, k3⟩ := fn_look (st := s__law_pairs) (d.def_ 3 (d := d_3) rfl)
  have a3 := glo_ok X G (d.fact 3 (f := .glo "_law_pairs") rfl)
  obtain ⟨oc4, kV4, dc4, pm4, cd4, ct4, od4, an4, sl4, l4, c4, k4⟩ := fn_look (st := s__law_sums) (d.def_ 4 (d := d_4) rfl)
  have a4 := glo_ok X G (d.fact 4 (f := .glo "_law_sums") rfl)
  obtain ⟨oc5, kV5, dc5, pm5, cd5, ct5, od5, an5, sl5, l5, c5, k5⟩ := fn_look (st := s__law_let) (d.def_ 5 (d := d_5) rfl)
  have a5 := glo_ok X G (d.fact 5 (f := .glo "_law_let") rfl)
  obtain ⟨oc6, kV6, dc6, pm6, cd6, ct6, od6, an6, sl6, l6, c6, k6⟩ := fn_look (st := s_is_number) (d.def_ 6 (d := d_6) rfl)
  have a6 := glo_ok X G (d.fact 6 (f := .glo "is_number") rfl)
  obtain ⟨oc7, kV7, dc7, pm7, cd7, ct7, od7, an7, sl7, l7, c7, k7⟩ := fn_look (st := s_is_within) (d.def_ 7 (d := d_7) rfl)
  have a7 := glo_ok X G (d.fact 7 (f := .glo "is_within") rfl)
  obtain ⟨oc8, kV8, dc8, pm8, cd8, ct8, od8, an8, sl8, l8, c8, k8⟩ := fn_look (st := s_check_sides) (d.def_ 8 (d := d_8) rfl)
  have a8 := glo_ok X G (d.fact 8 (f := .glo "check_sides") rfl)
  obtain ⟨oc9, kV9, dc9, pm9, cd9, ct9, od9, an9, sl9, l9, c9, k9⟩ := fn_look (st := s_is_tuple_of) (d.def_ 9 (d := d_9) rfl)
  have a9 := glo_ok X G (d.fact 9 (f := .glo "is_tuple_of") rfl)
  obtain ⟨oc10, kV10, dc10, pm10, cd10, ct10, od10, an10, sl10, l10, c10, k10⟩ := fn_look (st := s_many_pairs) (d.def_ 10 (d := d_10) rfl)
  have a10 := glo_ok X G (d.fact 10 (f := .glo "many_pairs") rfl)
  obtain ⟨oc11, kV11, dc11, pm11, cd11, ct11, od11, an11, sl11, l11, c11, k11⟩ := fn_look (st := s_is_load_of) (d.def_ 11 (d := d_11) rfl)
  have a11 := glo_ok X G (d.fact 11 (f := .glo "is_load_of") rfl)
  obtain ⟨oc12, kV12, dc12, pm12, cd12, ct12, od12, an12, sl12, l12, c12, k12⟩ := fn_look (st := s_check_load) (d.def_ 12 (d := d_12) rfl)
  have a12 := glo_ok X G (d.fact 12 (f := .glo "check_load") rfl)
  obtain ⟨oc13, kV13, dc13, pm13, cd13, ct13, od13, an13, sl13, l13, c13, k13⟩ := fn_look (st := s_side_pairs) (d.def_ 13 (d := d_13) rfl)
  have a13 := glo_ok X G (d.fact 13 (f := .glo "side_pairs") rfl)
  obtain ⟨oc14, kV14, dc14, pm14, cd14, ct14, od14, an14, sl14, l14, c14, k14⟩ := fn_look (st := s_sums_at_sides) (d.def_ 14 (d := d_14) rfl)
  have a14 := glo_ok X G (d.fact 14 (f := .glo "sums_at_sides") rfl)
  obtain ⟨oc15, kV15, dc15, pm15, cd15, ct15, od15, an15, sl15, l15, c15, k15⟩ := fn_look (st := s_is_let) (d.def_ 15 (d := d_15) rfl)
  have a15 := glo_ok X G (d.fact 15 (f := .glo "is_let") rfl)
  obtain ⟨oc16, kV16, dc16, pm16, cd16, ct16, od16, an16, sl16, l16, c16, k16⟩ := fn_look (st := s_wire_rows) (d.def_ 16 (d := d_16) rfl)
  have a16 := glo_ok X G (d.fact 16 (f := .glo "wire_rows") rfl)
  obtain ⟨oc17, kV17, dc17, pm17, cd17, ct17, od17, an17, sl17, l17, c17, k17⟩ := fn_look (st := s_mates_way) (d.def_ 17 (d := d_17) rfl)
  have a17 := glo_ok X G (d.fact 17 (f := .glo "mates_way") rfl)
  obtain ⟨oc18, kV18, dc18, pm18, cd18, ct18, od18, an18, sl18, l18, c18, k18⟩ := fn_look (st := s__law_laid) (d.def_ 18 (d := d_18) rfl)
  have a18 := glo_ok X G (d.fact 18 (f := .glo "_law_laid") rfl)
  obtain ⟨oc19, kV19, dc19, pm19, cd19, ct19, od19, an19, sl19, l19, c19, k19⟩ := fn_look (st := s__law_load) (d.def_ 19 (d := d_19) rfl)
  have a19 := glo_ok X G (d.fact 19 (f := .glo "_law_load") rfl)
  obtain ⟨oc20, kV20, dc20, pm20, cd20, ct20, od20, an20, sl20, l20, c20, k20⟩ := fn_look (st := s__law_pins) (d.def_ 20 (d := d_20) rfl)
  have a20 := glo_ok X G (d.fact 20 (f := .glo "_law_pins") rfl)
  obtain ⟨oc21, kV21, dc21, pm21, cd21, ct21, od21, an21, sl21, l21, c21, k21⟩ := fn_look (st := s_check_tracks) (d.def_ 21 (d := d_21) rfl)
  have a21 := glo_ok X G (d.fact 21 (f := .glo "check_tracks") rfl)
  obtain ⟨oc22, kV22, dc22, pm22, cd22, ct22, od22, an22, sl22, l22, c22, k22⟩ := fn_look (st := s_mate) (d.def_ 22 (d := d_22) rfl)
  have a22 := glo_ok X G (d.fact 22 (f := .glo "mate") rfl)
  obtain ⟨oc23, kV23, dc23, pm23, cd23, ct23, od23, an23, sl23, l23, c23, k23⟩ := fn_look (st := s_is_joined) (d.def_ 23 (d := d_23) rfl)
  have a23 := glo_ok X G (d.fact 23 (f := .glo "is_joined") rfl)
  obtain ⟨oc24, kV24, dc24, pm24, cd24, ct24, od24, an24, sl24, l24, c24, k24⟩ := fn_look (st := s_is_switch) (d.def_ 24 (d := d_24) rfl)
  have a24 := glo_ok X G (d.fact 24 (f := .glo "is_switch") rfl)
  obtain ⟨oc25, kV25, dc25, pm25, cd25, ct25, od25, an25, sl25, l25, c25, k25⟩ := fn_look (st := s_rises) (d.def_ 25 (d := d_25) rfl)
  have a25 := glo_ok X G (d.fact 25 (f := .glo "rises") rfl)
  obtain ⟨oc26, kV26, dc26, pm26, cd26, ct26, od26, an26, sl26, l26, c26, k26⟩ := fn_look (st := s_is_switch_tuple) (d.def_ 26 (d := d_26) rfl)
  have a26 := glo_ok X G (d.fact 26 (f := .glo "is_switch_tuple") rfl)
  obtain ⟨oc27, kV27, dc27, pm27, cd27, ct27, od27, an27, sl27, l27, c27, k27⟩ := fn_look (st := s_init) (d.def_ 27 (d := d_27) rfl)
  obtain ⟨oc28, kV28, dc28, pm28, cd28, ct28, od28, an28, sl28, l28, c28, k28⟩ := fn_look (st := s_built) (d.def_ 28 (d := d_28) rfl)
  have a28 := glo_ok X G (d.fact 27 (f := .glo "built") rfl)
  obtain ⟨oc29, kV29, dc29, pm29, cd29, ct29, od29, an29, sl29, l29, c29, k29⟩ := fn_look (st := s_crossed) (d.def_ 29 (d := d_29) rfl)
  have a29 := glo_ok X G (d.fact 28 (f := .glo "crossed") rfl)
  obtain ⟨oc30, kV30, dc30, pm30, cd30, ct30, od30, an30, sl30, l30, c30, k30⟩ := fn_look (st := s_check_box) (d.def_ 30 (d := d_30) rfl)
  have a30 := glo_ok X G (d.fact 29 (f := .glo "check_box") rfl)
  obtain ⟨oc31, kV31, dc31, pm31, cd31, ct31, od31, an31, sl31, l31, c31, k31⟩ := fn_look (st := s_check_box_load) (d.def_ 31 (d := d_31) rfl)
  have a31 := glo_ok X G (d.fact 30 (f := .glo "check_box_load") rfl)
  obtain ⟨oc32, kV32, dc32, pm32, cd32, ct32, od32, an32, sl32, l32, c32, k32⟩ := fn_look (st := s_has_switch) (d.def_ 32 (d := d_32) rfl)
  have a32 := glo_ok X G (d.fact 31 (f := .glo "has_switch") rfl)
  obtain ⟨oc33, kV33, dc33, pm33, cd33, ct33, od33, an33, sl33, l33, c33, k33⟩ := fn_look (st := s_is_lot) (d.def_ 33 (d := d_33) rfl)
  have a33 := glo_ok X G (d.fact 32 (f := .glo "is_lot") rfl)
  obtain ⟨oc34, kV34, dc34, pm34, cd34, ct34, od34, an34, sl34, l34, c34, k34⟩ := fn_look (st := s_is_way_of) (d.def_ 34 (d := d_34) rfl)
  have a34 := glo_ok X G (d.fact 33 (f := .glo "is_way_of") rfl)
  obtain ⟨oc35, kV35, dc35, pm35, cd35, ct35, od35, an35, sl35, l35, c35, k35⟩ := fn_look (st := s_pair_place) (d.def_ 35 (d := d_35) rfl)
  have a35 := glo_ok X G (d.fact 34 (f := .glo "pair_place") rfl)
  obtain ⟨oc36, kV36, dc36, pm36, cd36, ct36, od36, an36, sl36, l36, c36, k36⟩ := fn_look (st := s_load_of) (d.def_ 36 (d := d_36) rfl)
  have a36 := glo_ok X G (d.fact 35 (f := .glo "load_of") rfl)
  obtain ⟨oc37, kV37, dc37, pm37, cd37, ct37, od37, an37, sl37, l37, c37, k37⟩ := fn_look (st := s_is_way_for) (d.def_ 37 (d := d_37) rfl)
  have a37 := glo_ok X G (d.fact 36 (f := .glo "is_way_for") rfl)
  obtain ⟨oc38, kV38, dc38, pm38, cd38, ct38, od38, an38, sl38, l38, c38, k38⟩ := fn_look (st := s_check_room) (d.def_ 38 (d := d_38) rfl)
  have a38 := glo_ok X G (d.fact 37 (f := .glo "check_room") rfl)
  obtain ⟨oc39, kV39, dc39, pm39, cd39, ct39, od39, an39, sl39, l39, c39, k39⟩ := fn_look (st := s_is_below) (d.def_ 39 (d := d_39) rfl)
  have a39 := glo_ok X G (d.fact 38 (f := .glo "is_below") rfl)
  obtain ⟨oc40, kV40, dc40, pm40, cd40, ct40, od40, an40, sl40, l40, c40, k40⟩ := fn_look (st := s_reduced) (d.def_ 40 (d := d_40) rfl)
  have a40 := glo_ok X G (d.fact 39 (f := .glo "reduced") rfl)
  obtain ⟨oc41, kV41, dc41, pm41, cd41, ct41, od41, an41, sl41, l41, c41, k41⟩ := fn_look (st := s_is_part) (d.def_ 41 (d := d_41) rfl)
  have a41 := glo_ok X G (d.fact 40 (f := .glo "is_part") rfl)
  obtain ⟨oc42, kV42, dc42, pm42, cd42, ct42, od42, an42, sl42, l42, c42, k42⟩ := fn_look (st := s_let_loads) (d.def_ 42 (d := d_42) rfl)
  have a42 := glo_ok X G (d.fact 41 (f := .glo "let_loads") rfl)
  obtain ⟨oc43, kV43, dc43, pm43, cd43, ct43, od43, an43, sl43, l43, c43, k43⟩ := fn_look (st := s_mates_rooms) (d.def_ 43 (d := d_43) rfl)
  have a43 := glo_ok X G (d.fact 42 (f := .glo "mates_rooms") rfl)
  obtain ⟨oc44, kV44, dc44, pm44, cd44, ct44, od44, an44, sl44, l44, c44, k44⟩ := fn_look (st := s_part_off) (d.def_ 44 (d := d_44) rfl)
  have a44 := glo_ok X G (d.fact 43 (f := .glo "part_off") rfl)
  obtain ⟨oc45, kV45, dc45, pm45, cd45, ct45, od45, an45, sl45, l45, c45, k45⟩ := fn_look (st := s_crossed_split) (d.def_ 45 (d := d_45) rfl)
  have a45 := glo_ok X G (d.fact 44 (f := .glo "crossed_split") rfl)
  obtain ⟨oc46, kV46, dc46, pm46, cd46, ct46, od46, an46, sl46, l46, c46, k46⟩ := fn_look (st := s__law_caught) (d.def_ 46 (d := d_46) rfl)
  have a46 := glo_ok X G (d.fact 45 (f := .glo "_law_caught") rfl)
  obtain ⟨oc47, kV47, dc47, pm47, cd47, ct47, od47, an47, sl47, l47, c47, k47⟩ := fn_look (st := s_law) (d.def_ 47 (d := d_47) rfl)
  have a47 := glo_ok X G (d.fact 46 (f := .glo "law") rfl)
  have e : fa = ga K "law" := Value.ref.inj (Option.some.inj (hfa.symm.trans a47))
  subst e
  obtain ⟨cc0, ecc0⟩ := codeIn_ref c47
  subst ecc0
  obtain ⟨t10, t20, t30⟩ := c.tabs ("law", none) List.mem_cons_self
  have ec0 : (cT K ("law", none)).1 = cc0 := codeOf_eq l47 rfl
  rw [ec0] at t10
  obtain ⟨cc1, ecc1⟩ := codeIn_ref c16
  subst ecc1
  obtain ⟨t11, t21, t31⟩ := c.tabs ("wire_rows", none) (List.mem_cons_of_mem _ List.mem_cons_self)
  have ec1 : (cT K ("wire_rows", none)).1 = cc1 := codeOf_eq l16 rfl
  rw [ec1] at t11
  generalize (cT K ("law", none)).2 = tb0 at *
  generalize (cT K ("wire_rows", none)).2 = tb1 at *
  have T : Txt mg := ⟨free_ok X G (d.fact 47 (f := .free "isinstance") rfl), free_ok X G (d.fact 48 (f := .free "int") rfl), free_ok X G (d.fact 49 (f := .free "bool") rfl), free_ok X G (d.fact 50 (f := .free "tuple") rfl), free_ok X G (d.fact 51 (f := .free "list") rfl), free_ok X G (d.fact 52 (f := .free "len") rfl), free_ok X G (d.fact 53 (f := .free "range") rfl), free_ok X G (d.fact 54 (f := .free "zip") rfl), free_ok X G (d.fact 55 (f := .free "max") rfl), free_ok X G (d.fact 56 (f := .free "min") rfl), free_ok X G (d.fact 57 (f := .free "sum") rfl), free_ok X G (d.fact 58 (f := .free "abs") rfl), free_ok X G (d.fact 59 (f := .free "repr") rfl), free_ok X G (d.fact 60 (f := .free "enumerate") rfl), free_ok X G (d.fact 61 (f := .free "sorted") rfl), free_ok X G (d.fact 62 (f := .free "set") rfl), int_ok X G (d.fact 63 (f := .int "MOST_NUMBER" 99) rfl), int_ok X G (d.fact 64 (f := .int "MOST_SIDES" 5) rfl), int_ok X G (d.fact 65 (f := .int "MOST_TRACKS" 6) rfl), int_ok X G (d.fact 66 (f := .int "MOST_ROOM" 99) rfl), int_ok X G (d.fact 67 (f := .int "MOST_LET" 20000) rfl)⟩
  have BN : mg "Box" = some (.ref (ga K "Box")) := glo_ok X G (d.fact 72 (f := .glo "Box") rfl)
  have BC : BoxC K (ga K "Box") := ⟨cls_ok (d.fact 79 (f := .cls "Box") rfl), noat_ok (d.fact 81 (f := .noat "Box" "sides") rfl), noat_ok (d.fact 82 (f := .noat "Box" "tracks") rfl), noat_ok (d.fact 83 (f := .noat "Box" "switches") rfl), noat_ok (d.fact 84 (f := .noat "Box" "known") rfl)⟩
  have F0 := fun_mk (st := s__law_begun) l0 c0 k0
  have F1 := fun_mk (st := s__law_draw) l1 c1 k1
  have F2 := fun_mk (st := s__law_pick) l2 c2 k2
  have F3 := fun_mk (st := s__law_pairs) l3 c3 k3
  have F4 := fun_mk (st := s__law_sums) l4 c4 k4
  have F5 := fun_mk (st := s__law_let) l5 c5 k5
  have F6 := fun_mk (st := s_is_number) l6 c6 k6
  have F7 := fun_mk (st := s_is_within) l7 c7 k7
  have F8 := fun_mk (st := s_check_sides) l8 c8 k8
  have F9 := fun_mk (st := s_is_tuple_of) l9 c9 k9
  have F10 := fun_mk (st := s_many_pairs) l10 c10 k10
  have F11 := fun_mk (st := s_is_load_of) l11 c11 k11
  have F12 := fun_mk (st := s_check_load) l12 c12 k12
  have F13 := fun_mk (st := s_side_pairs) l13 c13 k13
  have F14 := fun_mk (st := s_sums_at_sides) l14 c14 k14
  have F15 := fun_mk (st := s_is_let) l15 c15 k15
  have FC16 : FunC K "wire_rows" "wire_rows" s_wire_rows _ _ cc1 := ⟨_, _, _, _, _, _, _, _, rfl, l16, c16⟩
  have F16 := fun_mk (st := s_wire_rows) l16 c16 k16
  have F17 := fun_mk (st := s_mates_way) l17 c17 k17
  have F18 := fun_mk (st := s__law_laid) l18 c18 k18
  have F19 := fun_mk (st := s__law_load) l19 c19 k19
  have F20 := fun_mk (st := s__law_pins) l20 c20 k20
  have F21 := fun_mk (st := s_check_tracks) l21 c21 k21
  have F22 := fun_mk (st := s_mate) l22 c22 k22
  have F23 := fun_mk (st := s_is_joined) l23 c23 k23
  have F24 := fun_mk (st := s_is_switch) l24 c24 k24
  have F25 := fun_mk (st := s_rises) l25 c25 k25
  have F26 := fun_mk (st := s_is_switch_tuple) l26 c26 k26
  have F27 := fun_mk (st := s_init) l27 c27 k27
  have F28 := fun_mk (st := s_built) l28 c28 k28
  have F29 := fun_mk (st := s_crossed) l29 c29 k29
  have F30 := fun_mk (st := s_check_box) l30 c30 k30
  have F31 := fun_mk (st := s_check_box_load) l31 c31 k31
  have F32 := fun_mk (st := s_has_switch) l32 c32 k32
  have F33 := fun_mk (st := s_is_lot) l33 c33 k33
  have F34 := fun_mk (st := s_is_way_of) l34 c34 k34
  have F35 := fun_mk (st := s_pair_place) l35 c35 k35
  have F36 := fun_mk (st := s_load_of) l36 c36 k36
  have F37 := fun_mk (st := s_is_way_for) l37 c37 k37
  have F38 := fun_mk (st := s_check_room) l38 c38 k38
  have F39 := fun_mk (st := s_is_below) l39 c39 k39
  have F40 := fun_mk (st := s_reduced) l40 c40 k40
  have F41 := fun_mk (st := s_is_part) l41 c41 k41
  have F42 := fun_mk (st := s_let_loads) l42 c42 k42
  have F43 := fun_mk (st := s_mates_rooms) l43 c43 k43
  have F44 := fun_mk (st := s_part_off) l44 c44 k44
  have F45 := fun_mk (st := s_crossed_split) l45 c45 k45
  have FC47 : FunC K "law" "law" s_law _ _ cc0 := ⟨_, _, _, _, _, _, _, _, rfl, l47, c47⟩
  have CAF : CauF K mg "_law_caught" (ga K "CallError") := by
    have bb : L2.Binds K (PySem.W.fnOf "_law_caught" "_law_caught" (defArgs s__law_caught) (defBody s__law_caught) (defScope s__law_caught) .none kV46 dc46 pm46 an46 cd46 ct46) ["work"] [] := .all fun us hl => match us, hl with | [_], _ => rfl
    exact ⟨_, oc46, od46, an46, sl46, defScope s__law_caught, defArgs s__law_caught, .none, kV46, dc46, pm46, cd46, ct46, _, _, _, _, _, _, _, _, _, _, _, _, _, _, _, a46, k46, l46, c46, bb,
      ⟨rfl, rfl, rfl, by decide +kernel, rfl, by decide +kernel, by decide +kernel⟩, by decide +kernel, glo_ok X G (d.fact 71 (f := .glo "CallError") rfl), by decide +kernel, by decide +kernel, by decide +kernel⟩
  refine ⟨PySem.W.fnOf "law" "law" (defArgs s_law) (defBody s_law) (defScope s_law) .none kV47 dc47 pm47 an47 (.ref cc0) ct47, [(cc0, tb0), (cc1, tb1)], tb0, tb1, ⟨_, List.mem_cons_self, rfl⟩, ⟨_, List.mem_cons_of_mem _ List.mem_cons_self, rfl⟩, ?_, ?_, ?_, fun s v => .of_eq rfl, fun base _ _ TBs => ?_⟩
  · intro p hp
    rcases List.mem_cons.mp hp with rfl | hp
    · exact t30
    · rcases List.mem_cons.mp hp with rfl | hp
      · exact t31
      · cases hp
  · intro p hp
    rcases List.mem_cons.mp hp with rfl | hp
    · exact t20
    · rcases List.mem_cons.mp hp with rfl | hp
      · exact t21
      · cases hp
  · intro p hp
    rcases List.mem_cons.mp hp with rfl | hp
    · exact PySem.W.codeHd_of_K X t10
    · rcases List.mem_cons.mp hp with rfl | hp
      · exact PySem.W.codeHd_of_K X t11
      · cases hp
  have TB0 : TabB base mg cc0 tb0 := TBs _ List.mem_cons_self
  have TB1 : TabB base mg cc1 tb1 := TBs _ (List.mem_cons_of_mem _ List.mem_cons_self)
  have D0 : DF l.prog w K mg base "_law_begun" 1 ["script"] (spBegun K) := ⟨⟨_, _, ok__law_begun F0 T, a0, k0, F0.binds (ps := ["script"]) fun _ _ _ _ _ _ us hl => match us, hl with | [_], _ => rfl⟩⟩
  have D1 : DF l.prog w K mg base "_law_draw" 1 ["state", "size_here"] (spDraw K) := ⟨⟨_, _, ok__law_draw F1 T, a1, k1, F1.binds (ps := ["state", "size_here"]) fun _ _ _ _ _ _ us hl => match us, hl with | [_, _], _ => rfl⟩⟩
  have D2 : DF l.prog w K mg base "_law_pick" 2 ["state", "several"] (spPick K) := ⟨⟨_, _, ok__law_pick F2 T D1, a2, k2, F2.binds (ps := ["state", "several"]) fun _ _ _ _ _ _ us hl => match us, hl with | [_, _], _ => rfl⟩⟩
  have D3 : DF l.prog w K mg base "_law_pairs" 1 ["sides_here"] (spN K 1 R_law_pairs) := ⟨⟨_, _, ok__law_pairs F3 T, a3, k3, F3.binds (ps := ["sides_here"]) fun _ _ _ _ _ _ us hl => match us, hl with | [_], _ => rfl⟩⟩
  have D4 : DF l.prog w K mg base "_law_sums" 2 ["sides_here", "load"] (spN K 2 R_law_sumsL) := ⟨⟨_, _, ok__law_sumsL F4 T D3, a4, k4, F4.binds (ps := ["sides_here", "load"]) fun _ _ _ _ _ _ us hl => match us, hl with | [_, _], _ => rfl⟩⟩
  have D5 : DF l.prog w K mg base "_law_let" 3 ["state", "sides_here", "many"] (spLet K) := ⟨⟨_, _, ok__law_let F5 T D1 D3 D4, a5, k5, F5.binds (ps := ["state", "sides_here", "many"]) fun _ _ _ _ _ _ us hl => match us, hl with | [_, _, _], _ => rfl⟩⟩
  have D6 : DF l.prog w K mg base "is_number" 1 ["thing"] (spD K 1 R_is_number) := ⟨⟨_, _, ok_is_number F6 T, a6, k6, F6.binds (ps := ["thing"]) fun _ _ _ _ _ _ us hl => match us, hl with | [_], _ => rfl⟩⟩
  have D7 : DF l.prog w K mg base "is_within" 2 ["thing", "low", "high"] (spD K 3 R_is_within) := ⟨⟨_, _, ok_is_within F7 T D6, a7, k7, F7.binds (ps := ["thing", "low", "high"]) fun _ _ _ _ _ _ us hl => match us, hl with | [_, _, _], _ => rfl⟩⟩
  have D8 : DFX l.prog w K mg base "check_sides" 3 ["sides", "most"] (spR K 2 R_check_sides (B_check_sides (ga K "BadSides"))) := ⟨⟨_, _, ok_check_sides F8 T D7 GB, a8, k8, F8.binds (ps := ["sides", "most"]) fun _ _ _ _ _ _ us hl => match us, hl with | [_, _], _ => rfl⟩⟩
  have D9 : DF l.prog w K mg base "is_tuple_of" 1 ["thing", "many"] (spD K 2 R_is_tuple_of) := ⟨⟨_, _, ok_is_tuple_of F9 T, a9, k9, F9.binds (ps := ["thing", "many"]) fun _ _ _ _ _ _ us hl => match us, hl with | [_, _], _ => rfl⟩⟩
  have D10 : DF l.prog w K mg base "many_pairs" 1 ["sides"] (spD K 1 R_many_pairs) := ⟨⟨_, _, ok_many_pairs F10 T, a10, k10, F10.binds (ps := ["sides"]) fun _ _ _ _ _ _ us hl => match us, hl with | [_], _ => rfl⟩⟩
  have D11 : DF l.prog w K mg base "is_load_of" 2 ["sides", "thing"] (spD K 2 R_is_load_of) := ⟨⟨_, _, ok_is_load_of F11 T D9 D10, a11, k11, F11.binds (ps := ["sides", "thing"]) fun _ _ _ _ _ _ us hl => match us, hl with | [_, _], _ => rfl⟩⟩
  have D12 : DFX l.prog w K mg base "check_load" 3 ["sides", "load"] (spR K 2 R_check_load (B_check_load (ga K "BadLoad"))) := ⟨⟨_, _, ok_check_load F12 T D11 GL, a12, k12, F12.binds (ps := ["sides", "load"]) fun _ _ _ _ _ _ us hl => match us, hl with | [_, _], _ => rfl⟩⟩
  have D13 : DF l.prog w K mg base "side_pairs" 1 ["sides"] (spN K 1 R_side_pairs) := ⟨⟨_, _, ok_side_pairs F13 T, a13, k13, F13.binds (ps := ["sides"]) fun _ _ _ _ _ _ us hl => match us, hl with | [_], _ => rfl⟩⟩
  have D14 : DF l.prog w K mg base "sums_at_sides" 2 ["sides", "load"] (spN K 2 R_sums_at_sides) := ⟨⟨_, _, ok_sums_at_sides F14 T D13, a14, k14, F14.binds (ps := ["sides", "load"]) fun _ _ _ _ _ _ us hl => match us, hl with | [_, _], _ => rfl⟩⟩
  have D15 : DF l.prog w K mg base "is_let" 3 ["sides", "load", "room"] (spD K 3 R_is_let) := ⟨⟨_, _, ok_is_let F15 T D14, a15, k15, F15.binds (ps := ["sides", "load", "room"]) fun _ _ _ _ _ _ us hl => match us, hl with | [_, _, _], _ => rfl⟩⟩
  have D16 : DF l.prog w K mg base "wire_rows" 9 ["sides", "load"] (spWire K tb1) := ⟨⟨_, _, ok_wire_rows FC16 T TB1 D13, a16, k16, F16.binds (ps := ["sides", "load"]) fun _ _ _ _ _ _ us hl => match us, hl with | [_, _], _ => rfl⟩⟩
  have D17 : DFX l.prog w K mg base "mates_way" 11 ["sides", "load"] (spMates K tb1 (ga K "BadSides") (ga K "BadLoad")) := ⟨⟨_, _, ok_mates_way F17 T D8 D12 D15 D16 GL, a17, k17, F17.binds (ps := ["sides", "load"]) fun _ _ _ _ _ _ us hl => match us, hl with | [_, _], _ => rfl⟩⟩
  have K17 : DFK l.prog w K mg base (L2.CX l.prog w) "mates_way" 11 ["sides", "load"] (spMates K tb1 (ga K "BadSides") (ga K "BadLoad")) := ⟨⟨_, _, ok_mates_way F17 T D8 D12 D15 D16 GL, a17, k17, DL.Fun.kwr F17 (ps := ["sides", "load"]) fun _ _ _ _ _ _ ws hl => match ws, hl with | [_, _], _ => rfl⟩⟩
  have D18 : DF l.prog w K mg base "_law_laid" 12 ["sides_here", "many", "parts"] (spLaid K tb1) := ⟨⟨_, _, ok__law_laid F18 T D3 (mates_E D17), a18, k18, F18.binds (ps := ["sides_here", "many", "parts"]) fun _ _ _ _ _ _ us hl => match us, hl with | [_, _, _], _ => rfl⟩⟩
  have D19 : DF l.prog w K mg base "_law_load" 2 ["scope", "told"] (spLoad K) := ⟨⟨_, _, ok__law_load F19 T D3, a19, k19, F19.binds (ps := ["scope", "told"]) fun _ _ _ _ _ _ us hl => match us, hl with | [_, _], _ => rfl⟩⟩
  have D20 : DF l.prog w K mg base "_law_pins" 1 ["told"] (spN K 1 R_law_pins) := ⟨⟨_, _, ok__law_pins F20 T, a20, k20, F20.binds (ps := ["told"]) fun _ _ _ _ _ _ us hl => match us, hl with | [_], _ => rfl⟩⟩
  have D21 : DF l.prog w K mg base "check_tracks" 3 ["tracks", "least"] (spD K 2 R_check_tracks) := ⟨⟨_, _, ok_check_tracks F21 T D7, a21, k21, F21.binds (ps := ["tracks", "least"]) fun _ _ _ _ _ _ us hl => match us, hl with | [_, _], _ => rfl⟩⟩
  have D22 : DF l.prog w K mg base "mate" 1 ["track", "tracks"] (spD K 2 R_mate) := ⟨⟨_, _, ok_mate F22 T, a22, k22, F22.binds (ps := ["track", "tracks"]) fun _ _ _ _ _ _ us hl => match us, hl with | [_, _], _ => rfl⟩⟩
  have D23 : DF l.prog w K mg base "is_joined" 2 ["kind", "tracks", "track", "other"] (spD K 4 R_is_joined) := ⟨⟨_, _, ok_is_joined F23 T D22, a23, k23, F23.binds (ps := ["kind", "tracks", "track", "other"]) fun _ _ _ _ _ _ us hl => match us, hl with | [_, _, _, _], _ => rfl⟩⟩
  have D24 : DF l.prog w K mg base "is_switch" 2 ["sides", "tracks", "thing"] (spD K 3 R_is_switch) := ⟨⟨_, _, ok_is_switch F24 T D9, a24, k24, F24.binds (ps := ["sides", "tracks", "thing"]) fun _ _ _ _ _ _ us hl => match us, hl with | [_, _, _], _ => rfl⟩⟩
  have D25 : DF l.prog w K mg base "rises" 1 ["row"] (spD K 1 R_rises) := ⟨⟨_, _, ok_rises F25 T, a25, k25, F25.binds (ps := ["row"]) fun _ _ _ _ _ _ us hl => match us, hl with | [_], _ => rfl⟩⟩
  have D26 : DF l.prog w K mg base "is_switch_tuple" 3 ["sides", "tracks", "thing"] (spD K 3 R_is_switch_tuple) := ⟨⟨_, _, ok_is_switch_tuple F26 T D24 D25, a26, k26, F26.binds (ps := ["sides", "tracks", "thing"]) fun _ _ _ _ _ _ us hl => match us, hl with | [_, _, _], _ => rfl⟩⟩
  have BD : BoxD l.prog w K mg base (ga K "Box") := ⟨⟨_, _, mkr_ok (d.fact 80 (f := .mkr "Box") rfl), ok_init F27 T BC (calmD D8) D21 D26, F27.binds (ps := ["self", "sides", "tracks", "switches"]) fun _ _ _ _ _ _ us hl => match us, hl with | [_, _, _, _], _ => rfl⟩, BN, BC⟩
  have D28 : DF l.prog w K mg base "built" 6 ["sides", "tracks", "kind"] (spBuilt l.prog w K (ga K "Box")) := ⟨⟨_, _, ok_built F28 T (calmD D8) D21 D23 BD, a28, k28, F28.binds (ps := ["sides", "tracks", "kind"]) fun _ _ _ _ _ _ us hl => match us, hl with | [_, _, _], _ => rfl⟩⟩
  have D29 : DF l.prog w K mg base "crossed" 7 ["sides", "tracks"] (spCrossed l.prog w K (ga K "Box")) := ⟨⟨_, _, ok_crossed F29 T D28, a29, k29, F29.binds (ps := ["sides", "tracks"]) fun _ _ _ _ _ _ us hl => match us, hl with | [_, _], _ => rfl⟩⟩
  have D30 : DF l.prog w K mg base "check_box" 1 ["box"] (spChkB l.prog w K (ga K "Box")) := ⟨⟨_, _, ok_check_box F30 T BC BI BN, a30, k30, F30.binds (ps := ["box"]) fun _ _ _ _ _ _ us hl => match us, hl with | [_], _ => rfl⟩⟩
  have D31 : DF l.prog w K mg base "check_box_load" 4 ["box", "load"] (spChkBL l.prog w K (ga K "Box")) := ⟨⟨_, _, ok_check_box_load F31 T D30 (calmD D12) BC, a31, k31, F31.binds (ps := ["box", "load"]) fun _ _ _ _ _ _ us hl => match us, hl with | [_, _], _ => rfl⟩⟩
  have D32 : DF l.prog w K mg base "has_switch" 2 ["box", "thing"] (spHas l.prog w K (ga K "Box")) := ⟨⟨_, _, ok_has_switch F32 T D6 D9 BC, a32, k32, F32.binds (ps := ["box", "thing"]) fun _ _ _ _ _ _ us hl => match us, hl with | [_, _], _ => rfl⟩⟩
  have D33 : DF l.prog w K mg base "is_lot" 3 ["box", "thing"] (spLot l.prog w K (ga K "Box")) := ⟨⟨_, _, ok_is_lot F33 T D32 D25, a33, k33, F33.binds (ps := ["box", "thing"]) fun _ _ _ _ _ _ us hl => match us, hl with | [_, _], _ => rfl⟩⟩
  have D34 : DF l.prog w K mg base "is_way_of" 4 ["box", "thing"] (spWayOf l.prog w K (ga K "Box")) := ⟨⟨_, _, ok_is_way_of F34 T D33, a34, k34, F34.binds (ps := ["box", "thing"]) fun _ _ _ _ _ _ us hl => match us, hl with | [_, _], _ => rfl⟩⟩
  have D35 : DF l.prog w K mg base "pair_place" 1 ["sides", "side", "far"] (spD K 3 R_pair_place) := ⟨⟨_, _, ok_pair_place F35 T, a35, k35, F35.binds (ps := ["sides", "side", "far"]) fun _ _ _ _ _ _ us hl => match us, hl with | [_, _, _], _ => rfl⟩⟩
  have D36 : DF l.prog w K mg base "load_of" 2 ["sides", "way"] (spD K 2 R_load_of) := ⟨⟨_, _, ok_load_of F36 T D35 D13, a36, k36, F36.binds (ps := ["sides", "way"]) fun _ _ _ _ _ _ us hl => match us, hl with | [_, _], _ => rfl⟩⟩
  have D37 : DF l.prog w K mg base "is_way_for" 5 ["box", "load", "thing"] (spWayFor l.prog w K (ga K "Box")) := ⟨⟨_, _, ok_is_way_for F37 T D31 D34 D36 BC, a37, k37, F37.binds (ps := ["box", "load", "thing"]) fun _ _ _ _ _ _ us hl => match us, hl with | [_, _, _], _ => rfl⟩⟩
  have D38 : DFX l.prog w K mg base "check_room" 3 ["room"] (spR K 1 R_check_room (B_check_room (ga K "BadRoom"))) := ⟨⟨_, _, ok_check_room F38 T D7 GR, a38, k38, F38.binds (ps := ["room"]) fun _ _ _ _ _ _ us hl => match us, hl with | [_], _ => rfl⟩⟩
  have D39 : DF l.prog w K mg base "is_below" 1 ["one", "other"] (spD K 2 R_is_below) := ⟨⟨_, _, ok_is_below F39 T, a39, k39, F39.binds (ps := ["one", "other"]) fun _ _ _ _ _ _ us hl => match us, hl with | [_, _], _ => rfl⟩⟩
  have D40 : DF l.prog w K mg base "reduced" 1 ["load", "part"] (spD K 2 R_reduced) := ⟨⟨_, _, ok_reduced F40 T, a40, k40, F40.binds (ps := ["load", "part"]) fun _ _ _ _ _ _ us hl => match us, hl with | [_, _], _ => rfl⟩⟩
  have D41 : DF l.prog w K mg base "is_part" 4 ["sides", "load", "part", "room"] (spD K 4 R_is_part) := ⟨⟨_, _, ok_is_part F41 T D39 D15 D40, a41, k41, F41.binds (ps := ["sides", "load", "part", "room"]) fun _ _ _ _ _ _ us hl => match us, hl with | [_, _, _, _], _ => rfl⟩⟩
  have D42 : DF l.prog w K mg base "let_loads" 2 ["sides", "tracks", "most"] (spN K 3 R_let_loads) := ⟨⟨_, _, ok_let_loads F42 T D13, a42, k42, F42.binds (ps := ["sides", "tracks", "most"]) fun _ _ _ _ _ _ us hl => match us, hl with | [_, _, _], _ => rfl⟩⟩
  have D43 : DF l.prog w K mg base "mates_rooms" 1 ["room"] (spN K 1 R_mates_rooms) := ⟨⟨_, _, ok_mates_rooms F43 T, a43, k43, F43.binds (ps := ["room"]) fun _ _ _ _ _ _ us hl => match us, hl with | [_], _ => rfl⟩⟩
  have D44 : DF l.prog w K mg base "part_off" 5 ["sides", "load", "parts", "room"] (spD K 4 R_part_off) := ⟨⟨_, _, ok_part_off F44 T D41, a44, k44, F44.binds (ps := ["sides", "load", "parts", "room"]) fun _ _ _ _ _ _ us hl => match us, hl with | [_, _, _, _], _ => rfl⟩⟩
  have D45 : DFX l.prog w K mg base "crossed_split" 6 ["sides", "load", "room"] (spCS K (ga K "BadSides") (ga K "BadLoad") (ga K "BadRoom")) := ⟨⟨_, _, ok_crossed_split F45 T D12 D38 D8 D15 D41 D42 D43 D44 D40, a45, k45, F45.binds (ps := ["sides", "load", "room"]) fun _ _ _ _ _ _ us hl => match us, hl with | [_, _, _], _ => rfl⟩⟩
  exact ok_law FC47 T TB0 ne CAF GB GL yB yL iB iL EB EL BC D0 D1 D2 D5 D18 D19 D20 D29 D37 D17 D45 K17
theorem cx_out {P : Program} {w : World} {H : Hp} {s s' : Shared} {e : Value} (h : L2.CX P w [] H s (fun _ _ _ => False) e s') : False := by
  obtain ⟨_, _, _, _, _, _, _, _, _, _, _, _, z⟩ := h
  exact z
end K16
set_option Elab.async false
set_option maxRecDepth 100000
open PySem PySem.W PyProof.Rows in
set_option maxRecDepth 100000 in
set_option maxHeartbeats 0 in
theorem PySem.Challenge.cw_allcalls_k19_whole_splits_laid_over_mate_holds : PySem.Challenge.rw_allcalls_k19_whole_splits_laid_over_mate.Holds := by
  w_on; o_law
  refine HandSHeadRun.head_any (r := OpenLaw.row PySem.Challenge.rw_allcalls_k19_whole_splits_laid_over_mate) (q := K16.vq) (H := DL.hookY 5 K16.faL K16.fnL K16.tfL K16.exA) (ob := DL.seeY 5 K16.faL K16.fnL K16.tfL K16.exA) (M := 24000) (loose := K16.nameL) (d := HandSHeadRun.topDef (OpenLaw.row PySem.Challenge.rw_allcalls_k19_whole_splits_laid_over_mate).prog 68) (kwd := []) DL.seeY_eq
    (by kernel_rfl) (fun s => by kernel_rfl) K16.run (by kernel_rfl) (by kernel_rfl) (by kernel_rfl) (by rfl) (by first | assumption | decide +kernel) (by decide +kernel) ⟨rfl, rfl, rfl, rfl, rfl, by decide +kernel⟩ ?hw ?hc
  case hw => w_witness2
  case hc =>
    refine DL.walkTsE (l := PySem.Challenge.rw_allcalls_k19_whole_splits_laid_over_mate) (n := 63) (k := 14) (x := "script") (CX := fun w => L2.CX PySem.Challenge.rw_allcalls_k19_whole_splits_laid_over_mate.prog w) rfl (by decide) (by kernel_rfl) ⟨rfl, by decide, by decide⟩ ?F (fun _ _ _ _ _ z => K16.cx_out z)
    intro w mg fa h Y G hmg0
    obtain ⟨K, KX, c⟩ := Y
    have hmg : mg ("law" : PySem.Str) = some (.ref fa) := by
      have e : (HandSHeadRun.topDef (OpenLaw.row PySem.Challenge.rw_allcalls_k19_whole_splits_laid_over_mate).prog 68).name = ("law" : PySem.Str) := by kernel_rfl
      rw [← e]
      exact hmg0
    obtain ⟨fd, Ts, tl, tw, ⟨p1, m1, e1⟩, ⟨p2, m2, e2⟩, t1, t2, t3, hb, hF⟩ := K16.facts_law (l := PySem.Challenge.rw_allcalls_k19_whole_splits_laid_over_mate) KX G hmg c
    exact ⟨K, fd, Ts, K16.spLaw K tl tw, KX, t1, t2, t3, hb, fun H a ns hl hT hS => ⟨a, ns, rfl, hS, hl, e1 ▸ hT p1 m1, e2 ▸ hT p2 m2, fun _ => rfl⟩, hF⟩
