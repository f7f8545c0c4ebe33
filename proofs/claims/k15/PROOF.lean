import PyProof.Rows.All
import Wide.All
import OpenK.AllK
import Wide.FinOn
import HandS.Evl
import HandS.Iter
import HandS.Conv
import KE.GoesMore
import HandS.Zip
import HandS.Walk
import HandS.TupAny
import HandS.TupMul
import HandS.IsInst
import HandS.Dict
import HandS.Wide
import HandS.Style
import HandS.Words
import HandS.Exc
import HandS.ExcIs
import HandS.ExcOwn
import HandS.TryOnly
import HandS.WordsExc
import HandS.Lambda
import HandS.FStr
import HandS.RaiseMore
import PyProof.ReprRoads
import HandS.Ends
import HandS.EndTab
import HandS.Defaults
import HandS.Finally
import KE.KDictCopyH
import HandS.DictComp
import HandS.DictSubView
import HandS.DeepEq
import PyProof.ReprLen
import HandS.Head2
import HandS.HeadEnd
import HandS.HeadHook4
import HandS.ExcInit
import HandS.ExcValue
import HandS.ExcField
import KE.KExcIs
import PyProof.ExcBaseAll.ValueError
import PySem.Challenge.RW_allcalls_k15_sums_at_sides_and_triangles
set_option Elab.async false
set_option linter.all false
set_option maxRecDepth 100000
set_option maxHeartbeats 2000000
/-! data behind values: what an expression evaluates to, told as data -/
namespace DL
open PySem PySem.Spec PyProof.Rows L2 Evl

section
variable {K : PySem.W.Frag} {H H' : Hp}
mutual
theorem dp_ex (e : Ex H H') : ∀ (d : PyData) (v : V), Dp K H v d → Dp K H' v d
  | .none, _, h => by cases h; exact .non
  | .bool b, _, h => by cases h; exact .bl b
  | .int i, _, h => by cases h; exact .int i
  | .str x, _, h => by cases h; exact .str x
  | .list ds, _, h => by
    cases h with
    | lst hs ha => exact .lst (ex_l e hs) (dpa_ex e ds _ ha)
  | .tuple ds, _, h => by
    cases h with
    | tup hs ha => exact .tup (ex_t e hs) (dpa_ex e ds _ ha)
  | .dict _, _, h => by cases h
theorem dpa_ex (e : Ex H H') : ∀ (ds : List PyData) (vs : List V), DpAll K H vs ds → DpAll K H' vs ds
  | [], _, h => by cases h; exact .nil
  | d :: ds, _, h => by
    cases h with
    | cons h1 h2 => exact .cons (dp_ex e d _ h1) (dpa_ex e ds _ h2)
end
theorem dpa_len : ∀ {vs : List V} {ds : List PyData}, DpAll K H vs ds → vs.length = ds.length
  | _, _, .nil => rfl
  | _, _, .cons _ t => congrArg (· + 1) (dpa_len t)
theorem dpa_get : ∀ {vs : List V} {ds : List PyData} {i : Nat} {d : PyData}, DpAll K H vs ds → ds[i]? = some d → ∃ v, vs[i]? = some v ∧ Dp K H v d
  | _, _, _, _, .nil, e => by simp at e
  | _, _, 0, _, .cons h _, e => ⟨_, rfl, by simp at e; subst e; exact h⟩
  | _, _, i + 1, _, .cons _ t, e => by
    obtain ⟨v, h1, h2⟩ := dpa_get (i := i) t (by simpa using e)
    exact ⟨v, by simpa using h1, h2⟩
theorem dpa_getV : ∀ {vs : List V} {ds : List PyData} {i : Nat} {v : V}, DpAll K H vs ds → vs[i]? = some v → ∃ d, ds[i]? = some d ∧ Dp K H v d
  | _, _, _, _, .nil, e => by simp at e
  | _, _, 0, _, .cons h _, e => ⟨_, rfl, by simp at e; subst e; exact h⟩
  | _, _, i + 1, _, .cons _ t, e => by
    obtain ⟨v, h1, h2⟩ := dpa_getV (i := i) t (by simpa using e)
    exact ⟨v, by simpa using h1, h2⟩
theorem dpa_app : ∀ {vs ws : List V} {ds es : List PyData}, DpAll K H vs ds → DpAll K H ws es → DpAll K H (vs ++ ws) (ds ++ es)
  | _, _, _, _, .nil, h => h
  | _, _, _, _, .cons a t, h => .cons a (dpa_app t h)
theorem dpa_drop : ∀ {vs : List V} {ds : List PyData} (n : Nat), DpAll K H vs ds → DpAll K H (vs.drop n) (ds.drop n)
  | _, _, 0, h => h
  | _, _, _ + 1, .nil => .nil
  | _, _, n + 1, .cons _ t => dpa_drop n t
theorem dpa_take : ∀ {vs : List V} {ds : List PyData} (n : Nat), DpAll K H vs ds → DpAll K H (vs.take n) (ds.take n)
  | _, _, 0, _ => .nil
  | _, _, _ + 1, .nil => .nil
  | _, _, n + 1, .cons a t => .cons a (dpa_take n t)
theorem dpa_set : ∀ {vs : List V} {ds : List PyData} {v : V} {d : PyData} (n : Nat), DpAll K H vs ds → Dp K H v d → DpAll K H (vs.set n v) (ds.set n d)
  | _, _, _, _, _, .nil, _ => .nil
  | _, _, _, _, 0, .cons _ t, h => .cons h t
  | _, _, _, _, n + 1, .cons a t, h => .cons a (dpa_set n t h)
theorem dpa_rep {v : V} {d : PyData} (h : Dp K H v d) : ∀ n, DpAll K H (List.replicate n v) (List.replicate n d)
  | 0 => .nil
  | n + 1 => .cons h (dpa_rep h n)
theorem dpa_rev : ∀ {vs : List V} {ds : List PyData}, DpAll K H vs ds → DpAll K H vs.reverse ds.reverse
  | _, _, .nil => .nil
  | _, _, .cons a t => by
    rw [List.reverse_cons, List.reverse_cons]
    exact dpa_app (dpa_rev t) (.cons a .nil)
/-- ints as data -/
abbrev dI (l : List Int) : List PyData := l.map PyData.int
abbrev tI (l : List Int) : PyData := .tuple (dI l)
theorem dpa_ints : ∀ {l : List Int} {vs : List V}, DpAll K H vs (dI l) → vs = l.map V.int
  | [], _, .nil => rfl
  | i :: l, _, .cons h t => by
    cases h
    rw [dpa_ints t]
    rfl
theorem ints_dpa : ∀ (l : List Int), DpAll K H (l.map V.int) (dI l)
  | [] => .nil
  | i :: l => .cons (.int i) (ints_dpa l)
theorem dp_tI {v : V} {l : List Int} (h : Dp K H v (tI l)) : ∃ a, v = .ref a ∧ SqT K H a (l.map V.int) := by
  cases h with
  | tup hs ha =>
    rw [dpa_ints ha] at hs
    exact ⟨_, rfl, hs⟩
theorem tI_dp {a : Addr} {l : List Int} (h : SqT K H a (l.map V.int)) : Dp K H (.ref a) (tI l) := .tup h (ints_dpa l)
theorem dp_int {v : V} {i : Int} (h : Dp K H v (.int i)) : v = .int i := by
  cases h; rfl
theorem dp_bool {v : V} {i : Bool} (h : Dp K H v (.bool i)) : v = .bl i := by
  cases h; rfl
theorem dp_none {v : V} (h : Dp K H v .none) : v = .non := by
  cases h; rfl
theorem dp_str {v : V} {s : Str} (h : Dp K H v (.str s)) : v = .str s := by
  cases h; rfl

/-! ### evaluation to data -/
def EvD (K : PySem.W.Frag) (te : TE) (σ : L2.St) (H : Hp) (d : PyData) : Prop := ∀ H1, Ex H H1 → ∀ Q : VK, (∀ v H2, Ex H1 H2 → Dp K H2 v d → Q v H2) → te σ H1 Q
/-- a new list -/
def EvN (K : PySem.W.Frag) (te : TE) (σ : L2.St) (H : Hp) (ds : List PyData) : Prop := ∀ H1, Ex H H1 → ∀ Q : VK, (∀ p vs H2, H1 p = none → Ex H1 H2 → H2 p = some (.lst vs) → DpAll K H2 vs ds → Q (.ref p) H2) → te σ H1 Q
def EvDA (K : PySem.W.Frag) (ta : TA) (σ : L2.St) (H : Hp) (ds : List PyData) : Prop := ∀ H1, Ex H H1 → ∀ Q : List V → Hp → Prop, (∀ vs H2, Ex H1 H2 → DpAll K H2 vs ds → Q vs H2) → ta σ H1 Q
variable {σ : L2.St} {ta tb te : TE} {t u : TT} {d : PyData} {ds : List PyData} {v : V} {i j : Int}
theorem EvD.ex (e : Ex H H') (h : EvD K te σ H d) : EvD K te σ H' d := fun H1 a Q q => h H1 (e.trans a) Q q
theorem EvN.ex (e : Ex H H') (h : EvN K te σ H ds) : EvN K te σ H' ds := fun H1 a Q q => h H1 (e.trans a) Q q
theorem EvDA.ex {ta : TA} (e : Ex H H') (h : EvDA K ta σ H ds) : EvDA K ta σ H' ds := fun H1 a Q q => h H1 (e.trans a) Q q
theorem EvN.toD (h : EvN K te σ H ds) : EvD K te σ H (.list ds) := fun H1 a Q q => h H1 a Q fun p vs H2 _ e2 hp hd => q _ H2 e2 (.lst (sq_of hp) hd)
theorem EvD.int (h : EvD K te σ H (.int i)) : Ev te σ H (.int i) := fun H1 a Q q => h H1 a Q fun v H2 e2 hd => by
  rw [dp_int hd]
  exact q H2 e2
theorem EvD.bool {b : Bool} (h : EvD K te σ H (.bool b)) : Ev te σ H (.bl b) := fun H1 a Q q => h H1 a Q fun v H2 e2 hd => by
  rw [dp_bool hd]
  exact q H2 e2
theorem EvD.non (h : EvD K te σ H .none) : Ev te σ H .non := fun H1 a Q q => h H1 a Q fun v H2 e2 hd => by
  rw [dp_none hd]
  exact q H2 e2
theorem ev_d (h : Ev te σ H v) (hd : Dp K H v d) : EvD K te σ H d := fun H1 a Q q => h H1 a Q fun H2 e2 => q v H2 e2 (dp_ex (a.trans e2) d v hd)
theorem ed_int (h : Ev te σ H (.int i)) : EvD K te σ H (.int i) := ev_d h (.int i)
theorem ed_bool {b : Bool} (h : Ev te σ H (.bl b)) : EvD K te σ H (.bool b) := ev_d h (.bl b)
theorem ed_str {b : Str} (h : Ev te σ H (.str b)) : EvD K te σ H (.str b) := ev_d h (.str b)
theorem ed_var {k : Nat} (h : σ[k]? = some (some v)) (hd : Dp K H v d) : EvD K (tVar k) σ H d := ev_d (ev_var h) hd
theorem ed_is {d' : PyData} (h : EvD K te σ H d) (e : d = d') : EvD K te σ H d' := e ▸ h
theorem en_is {ds' : List PyData} (h : EvN K te σ H ds) (e : ds = ds') : EvN K te σ H ds' := e ▸ h
theorem eda_nil : EvDA K tNil σ H [] := fun H1 _ _ q => q [] H1 (Ex.refl H1) .nil
theorem eda_cons {tr : TA} (h : EvD K te σ H d) (hr : EvDA K tr σ H ds) : EvDA K (tCons te tr) σ H (d :: ds) := fun H1 e _ q =>
  h H1 e _ fun v H2 e2 hd => hr H2 (e.trans e2) _ fun vs H3 e3 hv => q (v :: vs) H3 (e2.trans e3) (.cons (dp_ex e3 _ _ hd) hv)
theorem ed_tup {ta : TA} (h : EvDA K ta σ H ds) (hl : ds.length ≤ 100000) : EvD K (tTup ta) σ H (.tuple ds) := fun H1 e _ q =>
  h H1 e _ fun vs H2 e2 hv => ⟨sz_of (by rw [dpa_len hv]; exact hl), fun p hp => q (.ref p) _ (e2.trans (Ex.new hp)) (.tup (st_of upd_same) (dpa_ex (Ex.new hp) _ _ hv))⟩
theorem en_lst {ta : TA} (h : EvDA K ta σ H ds) (hl : ds.length ≤ 100000) : EvN K (tLst ta) σ H ds := fun H1 e _ q =>
  h H1 e _ fun vs H2 e2 hv => ⟨sz_of (by rw [dpa_len hv]; exact hl), fun p hp => q p vs _ (fresh_back e2 hp) (e2.trans (Ex.new hp)) upd_same (dpa_ex (Ex.new hp) _ _ hv)⟩
/-- t[i] -/
theorem ed_ixT {k : Nat} (h : EvD K ta σ H (.tuple ds)) (hi : Ev tb σ H (.int (k : Int))) (hk : ds[k]? = some d) : EvD K (tOp (rIxT K) ta tb) σ H d := fun H1 e Q q =>
  h H1 e _ fun w H2 e2 hw => hi H2 (e.trans e2) _ fun H3 e3 => by
    cases hw with
    | tup hs ha =>
      obtain ⟨y, hy, dy⟩ := dpa_get ha hk
      exact ⟨_, _, (k : Int), y, rfl, rfl, ex_t e3 hs, atI_nat hy, q y H3 (e2.trans e3) (dp_ex e3 _ _ dy)⟩
theorem ed_ixL {k : Nat} (h : EvD K ta σ H (.list ds)) (hi : Ev tb σ H (.int (k : Int))) (hk : ds[k]? = some d) : EvD K (tOp (rIxL K) ta tb) σ H d := fun H1 e Q q =>
  h H1 e _ fun w H2 e2 hw => hi H2 (e.trans e2) _ fun H3 e3 => by
    cases hw with
    | lst hs ha =>
      obtain ⟨y, hy, dy⟩ := dpa_get ha hk
      exact ⟨_, _, (k : Int), y, rfl, rfl, ex_l e3 hs, atI_nat hy, q y H3 (e2.trans e3) (dp_ex e3 _ _ dy)⟩
/-- len -/
theorem ev_lenT (h : EvD K te σ H (.tuple ds)) : Ev (tCB (fun xs H Q => ∃ p ys, xs = [.ref p] ∧ (SqL K H p ys ∨ SqT K H p ys) ∧ Q (.int ys.length) H) (tCons te tNil)) σ H (.int (ds.length : Int)) := fun H1 e Q q =>
  h H1 e _ fun w H2 e2 hw => by
    cases hw with
    | tup hs ha =>
      refine ⟨_, _, rfl, .inr hs, ?_⟩
      rw [dpa_len ha]
      exact q H2 e2
theorem ev_lenL (h : EvD K te σ H (.list ds)) : Ev (tCB (fun xs H Q => ∃ p ys, xs = [.ref p] ∧ (SqL K H p ys ∨ SqT K H p ys) ∧ Q (.int ys.length) H) (tCons te tNil)) σ H (.int (ds.length : Int)) := fun H1 e Q q =>
  h H1 e _ fun w H2 e2 hw => by
    cases hw with
    | lst hs ha =>
      refine ⟨_, _, rfl, .inl hs, ?_⟩
      rw [dpa_len ha]
      exact q H2 e2
/-- the promises: data in, data out; data in, a new list out -/
def spD (K : PySem.W.Frag) (n : Nat) (R : List PyData → PyData → Prop) : Sp := fun vs H Q _ => ∃ ds r, DpAll K H vs ds ∧ ds.length = n ∧ R ds r ∧ ∀ v H', Ex H H' → Dp K H' v r → Q v H'
def spN (K : PySem.W.Frag) (n : Nat) (R : List PyData → List PyData → Prop) : Sp := fun vs H Q _ => ∃ ds r, DpAll K H vs ds ∧ ds.length = n ∧ R ds r ∧ ∀ p ws H', H p = none → Ex H H' → H' p = some (.lst ws) → DpAll K H' ws r → Q (.ref p) H'
theorem spD_len {n : Nat} {R : List PyData → PyData → Prop} {vs : List V} {Q : VK} {E : XK} (h : spD K n R vs H Q E) : vs.length = n := by
  obtain ⟨ds, r, h1, h2, _⟩ := h
  rw [dpa_len h1, h2]
theorem spN_len {n : Nat} {R : List PyData → List PyData → Prop} {vs : List V} {Q : VK} {E : XK} (h : spN K n R vs H Q E) : vs.length = n := by
  obtain ⟨ds, r, h1, h2, _⟩ := h
  rw [dpa_len h1, h2]
theorem ed_call {n : Nat} {R : List PyData → PyData → Prop} {E : XK} {ta : TA} (h : EvDA K ta σ H ds) (hl : ds.length = n) (hr : R ds d) : EvD K (tCall (spD K n R) [] E ta) σ H d := fun H1 e Q q =>
  h H1 e _ fun vs H2 e2 hv => ⟨ds, d, by rw [List.append_nil]; exact hv, hl, hr, fun v H3 e3 hd => q v H3 (e2.trans e3) hd⟩
theorem en_call {n : Nat} {R : List PyData → List PyData → Prop} {r : List PyData} {E : XK} {ta : TA} (h : EvDA K ta σ H ds) (hl : ds.length = n) (hr : R ds r) : EvN K (tCall (spN K n R) [] E ta) σ H r := fun H1 e Q q =>
  h H1 e _ fun vs H2 e2 hv => ⟨ds, r, by rw [List.append_nil]; exact hv, hl, hr, fun p ws H3 hp e3 h3 hd => q p ws H3 (fresh_back e2 hp) (e2.trans e3) h3 hd⟩
/-! ### statements -/
variable {D : Ends} {tu tw tz : TS} {g : TG}
theorem d_asg {k : Nat} (h : EvD K te σ H d) (q : ∀ v H1, Ex H H1 → Dp K H1 v d → D.nx (σ.set k (some v)) H1) : tAsg te (gName k) D σ H := h H (Ex.refl H) _ q
theorem n_asg {k : Nat} (h : EvN K te σ H ds) (q : ∀ p vs H1, H p = none → Ex H H1 → H1 p = some (.lst vs) → DpAll K H1 vs ds → D.nx (σ.set k (some (.ref p))) H1) : tAsg te (gName k) D σ H := h H (Ex.refl H) _ q
theorem d_ret (h : EvD K te σ H d) (q : ∀ v H1, Ex H H1 → Dp K H1 v d → D.rt v H1) : tRet te D σ H := h H (Ex.refl H) _ q
theorem n_ret (h : EvN K te σ H ds) (q : ∀ p vs H1, H p = none → Ex H H1 → H1 p = some (.lst vs) → DpAll K H1 vs ds → D.rt (.ref p) H1) : tRet te D σ H := h H (Ex.refl H) _ q
theorem d_drop (h : EvD K te σ H d) (q : ∀ H1, Ex H H1 → D.nx σ H1) : tDrop te D σ H := h H (Ex.refl H) _ fun _ H1 e _ => q H1 e
/-- xs.append(e), e data that stays when the list at l changes (l is not known at H0) -/
theorem d_app {l : Addr} {xs : List V} (hl : H l = some (.lst xs)) (ha : Ev ta σ H (.ref l)) (h : EvD K te σ H d) (hz : xs.length < 100000) (q : ∀ v H1, Ex H H1 → Dp K H1 v d → D.nx σ (upd H1 l (.lst (xs ++ [v])))) :
    tDrop (tBM K "list" rAppend ta (tCons te tNil)) D σ H := ha H (Ex.refl H) _ fun H1 e1 =>
  ⟨Or.inl ⟨rfl, xs, sq_of (e1 l _ hl)⟩, h H1 e1 _ fun v H2 e2 hd => ⟨l, xs, v, rfl, rfl, e2 l _ (e1 l _ hl), sz_lt hz, q v H2 (e1.trans e2) hd⟩⟩
end
/-! ### data of tuples alone: no change of a list or a dict touches it -/
/-- tuples stay -/
def Tx (H H' : Hp) : Prop := ∀ a xs, Rd H a (.tup xs) → Rd H' a (.tup xs)
theorem Tx.of_ex {H H' : Hp} (e : Ex H H') : Tx H H' := fun _ _ h => ex_rd e h
theorem Tx.trans {H H1 H2 : Hp} (a : Tx H H1) (b : Tx H1 H2) : Tx H H2 := fun x o h => b x o (a x o h)
theorem Tx.refl (H : Hp) : Tx H H := fun _ _ h => h
theorem Tx.upd {H : Hp} {p : Addr} {o u : HO} (h : H p = some o) (n : ∀ xs, o ≠ .tup xs) (n2 : ∀ ob xs, o ≠ .frz ob (.tup xs)) : Tx H (upd H p u) := fun a xs r => by
  rcases r with r | ⟨ob, r⟩
  · have ne : a ≠ p := fun z => by
      rw [z, h] at r
      exact n xs (Option.some.inj r)
    exact Or.inl (by rw [upd_ne ne]; exact r)
  · have ne : a ≠ p := fun z => by
      rw [z, h] at r
      exact n2 ob xs (Option.some.inj r)
    exact Or.inr ⟨ob, by rw [upd_ne ne]; exact r⟩
theorem Tx.lst {H : Hp} {p : Addr} {xs : List V} {u : HO} (h : H p = some (.lst xs)) : Tx H (L2.upd H p u) := Tx.upd h (fun _ z => nomatch z) fun _ _ z => nomatch z
theorem Tx.dct {H : Hp} {p : Addr} {xs : List (Key × V)} {u : HO} (h : H p = some (.dK xs)) : Tx H (L2.upd H p u) := Tx.upd h (fun _ z => nomatch z) fun _ _ z => nomatch z
mutual
def imm : PyData → Bool
  | .none => true
  | .bool _ => true
  | .int _ => true
  | .str _ => true
  | .tuple ds => immAll ds
  | _ => false
def immAll : List PyData → Bool
  | [] => true
  | d :: ds => imm d && immAll ds
end
section
variable {K : PySem.W.Frag} {H H' : Hp}
theorem sqT_tx {a : Addr} {xs : List V} (e : Tx H H') (h : SqT K H a xs) : SqT K H' a xs := by
  rcases h with h | h
  · exact Or.inl (e _ _ h)
  · exact Or.inr h
mutual
theorem dp_tx (e : Tx H H') : ∀ (d : PyData) (v : V), imm d = true → Dp K H v d → Dp K H' v d
  | .none, _, _, h => by cases h; exact .non
  | .bool b, _, _, h => by cases h; exact .bl b
  | .int i, _, _, h => by cases h; exact .int i
  | .str x, _, _, h => by cases h; exact .str x
  | .list ds, _, i, h => by simp [imm] at i
  | .tuple ds, _, i, h => by
    cases h with
    | tup hs ha => exact .tup (sqT_tx e hs) (dpa_tx e ds _ (by simpa [imm] using i) ha)
  | .dict _, _, _, h => by cases h
theorem dpa_tx (e : Tx H H') : ∀ (ds : List PyData) (vs : List V), immAll ds = true → DpAll K H vs ds → DpAll K H' vs ds
  | [], _, _, h => by cases h; exact .nil
  | d :: ds, _, i, h => by
    simp only [immAll, Bool.and_eq_true] at i
    cases h with
    | cons h1 h2 => exact .cons (dp_tx e d _ i.1 h1) (dpa_tx e ds _ i.2 h2)
end
theorem immAll_ints : ∀ l : List Int, immAll (dI l) = true
  | [] => by simp [immAll]
  | i :: l => by
    rw [dI, List.map_cons, immAll, immAll_ints l]
    simp [imm]
theorem imm_tI (l : List Int) : imm (tI l) = true := by
  rw [imm]
  exact immAll_ints l
theorem immAll_tIs : ∀ l : List (List Int), immAll (l.map tI) = true
  | [] => by simp [immAll]
  | i :: l => by rw [List.map_cons, immAll, imm_tI, immAll_tIs l]; rfl
end
end DL
set_option Elab.async false
set_option linter.all false
set_option maxRecDepth 100000
set_option maxHeartbeats 2000000
/-! zip of a list or a tuple and a list or a tuple, in any mix: the pairs are new tuples -/
namespace DL
open PySem PySem.Spec PyProof.Rows L2 Evl

/-- a list or a tuple -/
def SqA (K : PySem.W.Frag) (t : Bool) (H : Hp) (a : Addr) (xs : List V) : Prop := if t then SqT K H a xs else SqL K H a xs
theorem sqa_l {K : PySem.W.Frag} {H : Hp} {a : Addr} {xs : List V} (h : SqL K H a xs) : SqA K false H a xs := h
theorem sqa_t {K : PySem.W.Frag} {H : Hp} {a : Addr} {xs : List V} (h : SqT K H a xs) : SqA K true H a xs := h
/-- the iterator over it, at the i-th turn -/
def ItA (t : Bool) (h : Heap) (it a : Addr) (vs : Array Value) (i : Nat) : Prop :=
  if t then h.IsTupleIter it a i ∧ h.IsTuple a vs else h.IsListIter it a i ∧ h.IsList a vs
theorem drawsA {prog : Program} {w : World} {A : Around} (hh : A.handled = none) (t : Bool) (it a : Addr) (hne : a ≠ it) (vs : Array Value) :
    Draws prog w A it [it, a] vs.size (fun i v => vs[i]? = some v) (fun i h => ItA t h it a vs i) := by
  cases t with
  | true => exact Draws.tuple hh it a hne vs
  | false => exact Draws.list hh it a hne vs
def objA (t : Bool) (a : Addr) : Obj := if t then { cls := .type "tuple_iterator", data := .fields #[.ref a, .int 0 0] } else { cls := .type "list_iterator", data := .fields #[.ref a, .int 0 0] }
def heldA (t : Bool) (a : Addr) (vs : Array Value) (h : Heap) : Prop := if t then h.IsTuple a vs else h.IsList a vs
theorem beginsA (t : Bool) (a : Addr) (vs : Array Value) : Begins (.ref a) (objA t a) (heldA t a vs) := by
  cases t with
  | true => exact begins_tuple a vs
  | false => exact begins_list a vs
theorem itA_new {t : Bool} {h : Heap} {it a : Addr} {vs : Array Value} (ho : h.get? it = some (objA t a)) (hv : heldA t a vs h) : ItA t h it a vs 0 := by
  cases t with
  | true => exact ⟨⟨_, ho, rfl, rfl⟩, hv⟩
  | false => exact ⟨⟨_, ho, rfl, rfl⟩, hv⟩
theorem heldA_kept {t : Bool} {h h' : Heap} {a : Addr} {vs : Array Value} (hv : heldA t a vs h) (k : ∀ o, h.get? a = some o → h'.get? a = some o) : heldA t a vs h' := by
  cases t with
  | true => exact Heap.IsTuple.at (show h.IsTuple a vs from hv) k
  | false => exact Heap.IsList.at (show h.IsList a vs from hv) k
theorem heldA_lt {t : Bool} {h : Heap} {a : Addr} {vs : Array Value} (hv : heldA t a vs h) : a < h.objs.size := by
  cases t with
  | true =>
    obtain ⟨o, ho, _⟩ := (show h.IsTuple a vs from hv)
    exact Heap.lt_size ho
  | false =>
    obtain ⟨o, ho, _⟩ := (show h.IsList a vs from hv)
    exact Heap.lt_size ho

/-- the walk of zip: what stands at a and b, their items in new pairs -/
def ItzM (K : PySem.W.Frag) (t u : Bool) (a b : Addr) : It :=
  ⟨fun i H => ∃ (xs ys : List V) (x y : V), SqA K t H a xs ∧ SqA K u H b ys ∧ xs[i]? = some x ∧ ys[i]? = some y,
    fun i H v H' => ∃ T x y, v = .ref T ∧ H T = none ∧ H' = upd H T (.tup [x, y]) ∧ (∀ xs, SqA K t H a xs → xs[i]? = some x) ∧ ∀ ys, SqA K u H b ys → ys[i]? = some y,
    fun i H => ∃ xs ys : List V, SqA K t H a xs ∧ SqA K u H b ys ∧ (xs.length = i ∧ i ≤ ys.length ∨ ys.length = i ∧ i ≤ xs.length)⟩
section
variable {X : Cx} {pins : List (Addr × Obj)} {σ : L2.St} {H : Hp} {s : Shared} {a b : Addr} {xs ys : List V} {t u : Bool}
theorem held_of (I : Inv X pins σ H s) (h : SqA X.K t H a xs) : ∃ its : List Value, Vals xs its ∧ heldA t a its.toArray s.heap := by
  cases t with
  | true =>
    obtain ⟨its, r, p, _⟩ := I.tuple (show SqT X.K H a xs from h)
    exact ⟨its, r, show s.heap.IsTuple a its.toArray from p⟩
  | false =>
    obtain ⟨its, r, p, _⟩ := I.list (show SqL X.K H a xs from h)
    exact ⟨its, r, p.isList⟩
theorem sqA_inj (I : Inv X pins σ H s) (h : SqA X.K t H a xs) (h' : SqA X.K t H a ys) : xs = ys := by
  cases t with
  | true => exact I.tuple_inj h h'
  | false => exact I.list_inj h h'
theorem held_inj {h : Heap} {vs ws : Array Value} (p : heldA t a vs h) (q : heldA t a ws h) : vs = ws := by
  cases t with
  | true =>
    obtain ⟨o, e, _, n, d⟩ := (show h.IsTuple a vs from p)
    obtain ⟨o', e', _, n', d'⟩ := (show h.IsTuple a ws from q)
    rw [e] at e'; cases e'
    rw [d] at d'
    injection d' with d1 _
  | false =>
    obtain ⟨o, e, _, n, d⟩ := (show h.IsList a vs from p)
    obtain ⟨o', e', _, n', d'⟩ := (show h.IsList a ws from q)
    rw [e] at e'; cases e'
    rw [d] at d'
    injection d' with d1 _
theorem itA_held {h : Heap} {it : Addr} {vs : Array Value} {i : Nat} (x : ItA t h it a vs i) : heldA t a vs h := by
  cases t with
  | true => exact x.2
  | false => exact x.2
theorem itA_obj {h : Heap} {it : Addr} {vs : Array Value} {i : Nat} (x : ItA t h it a vs i) : ∃ o fs, h.get? it = some o ∧ o.data = .fields fs := by
  cases t with
  | true => obtain ⟨⟨o, e, _, d⟩, _⟩ := x; exact ⟨o, _, e, d⟩
  | false => obtain ⟨⟨o, e, _, d⟩, _⟩ := x; exact ⟨o, _, e, d⟩
theorem itA_at {h h' : Heap} {it : Addr} {vs : Array Value} {i : Nat} (x : ItA t h it a vs i) (k : ∀ o, h.get? it = some o → h'.get? it = some o) (k2 : ∀ o, h.get? a = some o → h'.get? a = some o) : ItA t h' it a vs i := by
  cases t with
  | true => exact ⟨x.1.at k, Heap.IsTuple.at x.2 k2⟩
  | false => exact ⟨x.1.at k, Heap.IsList.at x.2 k2⟩
/-- the iterator's own place alone -/
def ItB (t : Bool) (h : Heap) (it a : Addr) (i : Nat) : Prop := if t then h.IsTupleIter it a i else h.IsListIter it a i
theorem itB_of {h : Heap} {it : Addr} {vs : Array Value} {i : Nat} (x : ItA t h it a vs i) : ItB t h it a i := by
  cases t with
  | true => exact x.1
  | false => exact x.1
theorem itA_of {h : Heap} {it : Addr} {vs : Array Value} {i : Nat} (x : ItB t h it a i) (y : heldA t a vs h) : ItA t h it a vs i := by
  cases t with
  | true => exact ⟨x, y⟩
  | false => exact ⟨x, y⟩
theorem itB_obj {h : Heap} {it : Addr} {i : Nat} (x : ItB t h it a i) : ∃ o fs, h.get? it = some o ∧ o.data = .fields fs := by
  cases t with
  | true => obtain ⟨o, e, _, d⟩ := x; exact ⟨o, _, e, d⟩
  | false => obtain ⟨o, e, _, d⟩ := x; exact ⟨o, _, e, d⟩
theorem itB_at {h h' : Heap} {it : Addr} {i : Nat} (x : ItB t h it a i) (k : ∀ o, h.get? it = some o → h'.get? it = some o) : ItB t h' it a i := by
  cases t with
  | true => exact Heap.IsTupleIter.at (show h.IsTupleIter it a i from x) k
  | false => exact Heap.IsListIter.at (show h.IsListIter it a i from x) k
end
/-- the cells of a zip and what it walks lie apart -/
theorem sep_of {z TI TO i1 i2 a b : Addr} (D : ZipApart z TI TO i1 i2 a b) : ZipSep2 z TI TO i1 i2 [i1, a] [i2, b] where
  TIz := D.TIz
  TOz := D.TOz
  TITO := D.TITO
  TIi1 := D.TIi1
  mem1 := by simp
  zf1 := by simp [D.i1z.symm, D.l1z.symm]
  Tf1 := by simp [D.TOi1, D.l1TO.symm]
  TIi2 := D.TIi2
  mem2 := by simp
  zf2 := by simp [D.i2z.symm, D.l2z.symm]
  Tf2 := by simp [D.TOi2, D.l2TO.symm]
  sep1_2 := by simp [D.i12, D.l2i1.symm]
  sep2_1 := by simp [D.i12.symm, D.l1i2.symm]
theorem five {z TI TO i1 i2 : Addr} {P : Addr → Prop} (h1 : P z) (h2 : P TI) (h3 : P TO) (h4 : P i1) (h5 : P i2) : ∀ c, c ∈ [z, TI, TO, i1, i2] → P c := fun c hc => by
  simp only [List.mem_cons, List.not_mem_nil, or_false] at hc
  rcases hc with rfl | rfl | rfl | rfl | rfl
  · exact h1
  · exact h2
  · exact h3
  · exact h4
  · exact h5
theorem turn_zipM {P : Program} {w : World} {K : PySem.W.Frag} {elts : List Expr} {kk : Nat} {tpos : Pos} {t u : Bool} {a b z TI TO i1 i2 : Addr} (D : ZipApart z TI TO i1 i2 a b) :
    Turn P w K (.Tuple elts kk tpos) (ItzM K t u a b) [z, TI, TO, i1, i2] z
      (fun i h => IsZip h z TI TO .none ∧ IsPair h TI (.ref i1) (.ref i2) ∧ (∃ x y, IsPair h TO x y) ∧ ItB t h i1 a i ∧ ItB u h i2 b i) where
  mem := by simp
  obj := fun i h st => by
    obtain ⟨hz, hTI, ⟨x, y, hTO⟩, h1, h2⟩ := st
    refine five ⟨_, hz, fun v q => nomatch q⟩ ⟨_, hTI, fun v q => nomatch q⟩ ⟨_, hTO, fun v q => nomatch q⟩ ?_ ?_
    · obtain ⟨o, fs, e, d⟩ := itB_obj h1
      exact ⟨o, e, fun v q => by rw [d] at q; cases q⟩
    · obtain ⟨o, fs, e, d⟩ := itB_obj h2
      exact ⟨o, e, fun v q => by rw [d] at q; cases q⟩
  keep := fun i h h' st k => by
    obtain ⟨hz, hTI, ⟨x, y, hTO⟩, h1, h2⟩ := st
    exact ⟨k z (by simp) _ hz, k TI (by simp) _ hTI, ⟨x, y, k TO (by simp) _ hTO⟩, itB_at h1 fun o q => k i1 (by simp) o q, itB_at h2 fun o q => k i2 (by simp) o q⟩
  item := by
    intro X hP hw hK hc i pins s σ H E I hf st hg
    subst hP hw hK
    obtain ⟨hz, hTI, ⟨x0, y0, hTO⟩, h1, h2⟩ := st
    obtain ⟨xs, ys, x, y, hqx, hqy, hx, hy⟩ := hg
    obtain ⟨its, rv, p⟩ := held_of I hqx
    obtain ⟨its2, rv2, p2⟩ := held_of I hqy
    obtain ⟨w1, hw1, rw1⟩ := rv.get hx
    obtain ⟨w2, hw2, rw2⟩ := rv2.get hy
    have l1 : i < its.toArray.size := by
      have := (List.getElem?_eq_some_iff.mp hw1).1
      simpa using this
    have l2 : i < its2.toArray.size := by
      have := (List.getElem?_eq_some_iff.mp hw2).1
      simpa using this
    have hh : X.A.in1.handled = none := I.ok.hd hc
    have hzl : z < s.heap.objs.size := Heap.lt_size hz
    refine wpAny_pyNext_zipD2_item (sep_of D) (drawsA hh t i1 a D.l1i1 its.toArray) (drawsA hh u i2 b D.l2i2 its2.toArray) hz hTI hTO (itA_of h1 p) (itA_of h2 p2) l1 l2 fun x1 x2 h' tk e1 e2 z' TO' s1 s2 hT hsz hk => ?_
    have ex1 : x1 = w1 := by
      have q := hw1
      rw [show its[i]? = some x1 by simpa using e1] at q
      exact Option.some.inj q
    have ex2 : x2 = w2 := by
      have q := hw2
      rw [show its2[i]? = some x2 by simpa using e2] at q
      exact Option.some.inj q
    subst ex1 ex2
    refine ⟨_, rfl, wpAny_letOwnedTupleGo_zip (s := { s with heap := h', toks := tk }) z' fun h'' z'' sb => ?_⟩
    have up : ∀ c o, c ≠ z → h'.get? c = some o → h''.get? c = some o := fun c o n q => (sb.2 c n).trans q
    have hT2 := up _ _ (Nat.ne_of_gt hzl) hT
    have new : ObjOk X.prog X.w (upd H s.heap.objs.size (.tup [x, y])) h'' s.heap.objs.size (.tup [x, y]) :=
      ⟨by show 2 ≤ sizeLine; decide, [x1, x2], .cons rw1 (.cons rw2 .nil), ⟨_, hT2, rfl, _, rfl⟩⟩
    have kk : ∀ c o, c ∉ [z, TI, TO, i1, i2] → s.heap.get? c = some o → h''.get? c = some o := fun c o nc q => by
      simp only [List.mem_cons, List.not_mem_nil, or_false, not_or] at nc
      exact up c o nc.1 (hk c o nc.1 nc.2.2.1 nc.2.2.2.1 nc.2.2.2.2 q)
    have I1 : Inv X pins σ (upd H s.heap.objs.size (.tup [x, y])) { s with heap := h'', toks := tk } := I.turnedNew (t' := tk) (ch := [z, TI, TO, i1, i2]) kk hf (Nat.le_refl _) new
    have hTI' : IsPair h'' TI (.ref i1) (.ref i2) := up _ _ D.TIz (hk _ _ D.TIz D.TITO D.TIi1 D.TIi2 hTI)
    refine ⟨.ref s.heap.objs.size, _, I1, rfl, ⟨_, x, y, rfl, I.hok.fresh (Nat.le_refl _), rfl, fun l hl => ?_, fun l hl => ?_⟩, ⟨z'', hTI', ⟨x1, x2, up _ _ D.TOz TO'⟩, ?_, ?_⟩, ?_⟩
    · rw [sqA_inj I hl hqx]
      exact hx
    · rw [sqA_inj I hl hqy]
      exact hy
    · exact itB_at (itB_of s1) fun o q => up _ o D.i1z q
    · exact itB_at (itB_of s2) fun o q => up _ o D.i2z q
    · have lt1 : i1 < s.heap.objs.size := by
        obtain ⟨o, _, e, _⟩ := itB_obj h1
        exact Heap.lt_size e
      have lt2 : i2 < s.heap.objs.size := by
        obtain ⟨o, _, e, _⟩ := itB_obj h2
        exact Heap.lt_size e
      have go : ∀ c, c < s.heap.objs.size → c ∈ [z, TI, TO, i1, i2] → upd H s.heap.objs.size (.tup [x, y]) c = none := fun c l m => by
        rw [upd_ne (Nat.ne_of_lt l)]
        exact (hf c m).1
      exact five (go _ hzl (by simp)) (go _ (Heap.lt_size hTI) (by simp)) (go _ (Heap.lt_size hTO) (by simp)) (go _ lt1 (by simp)) (go _ lt2 (by simp))
  done := by
    intro X hP hw hK hc i pins s σ H E I hf st hg
    subst hP hw hK
    obtain ⟨hz, hTI, ⟨x0, y0, hTO⟩, h1, h2⟩ := st
    obtain ⟨xs, ys, hqx, hqy, hend⟩ := hg
    obtain ⟨its, rv, p⟩ := held_of I hqx
    obtain ⟨its2, rv2, p2⟩ := held_of I hqy
    have n1 : its.toArray.size = xs.length := by rw [List.size_toArray, rv.length]
    have n2 : its2.toArray.size = ys.length := by rw [List.size_toArray, rv2.length]
    have hh : X.A.in1.handled = none := I.ok.hd hc
    refine wpAny_pyNext_zipD2_end (sep_of D) (drawsA hh t i1 a D.l1i1 its.toArray) (drawsA hh u i2 b D.l2i2 its2.toArray) hz hTI hTO (i := i) (itA_of h1 p) (itA_of h2 p2) (by omega) (by omega) (by omega) fun h' tk hk => ⟨rfl, ?_⟩
    refine I.turnedL (t' := tk) (ch := [z, TI, TO, i1, i2]) (fun c o nc q => ?_) hf
    simp only [List.mem_cons, List.not_mem_nil, or_false, not_or] at nc
    exact hk c o nc.1 nc.2.2.1 nc.2.2.2.1 nc.2.2.2.2 q
  self := fun A i s Q E st h => wpAny_pyIter_zip st.1 h

def iZipM (K : PySem.W.Frag) (t u : Bool) (ta : TA) : TI := fun σ H R => ta σ H fun vs H1 => ∃ a b xs ys, vs = [.ref a, .ref b] ∧ SqA K t H1 a xs ∧ SqA K u H1 b ys ∧ R (ItzM K t u a b) H1
theorem pi_zipM {X : Cx} {e e2 : Expr} {ta : TA} {p pos tpos : Pos} {elts : List Expr} {kk : Nat} (t u : Bool) (hg : Gl X "zip") (hm : X.mg "zip" = none) (ha : PA X [e, e2] ta)
    (hs : starEach [e, e2] X.env = (false, eval e X.env) :: starEach [e2] X.env := by rfl)
    (hpl : (backTo pos (starEach [e2] X.env)).any (·.1) = false := by rfl) :
    PI X (.Tuple elts kk tpos) (.Call (.Name "zip" p) [e, e2] [] pos) (iZipM X.K t u ta) := by
  refine ⟨fun pins s σ H R I h => ?_⟩
  refine Call_ (ld_blt I hg hm PyProof.Rows.boot_zip (PyProof.Rows.callWith_type1 (thn (ha.run pos pins s σ H _ I h) fun us s1 q0 => ?_) hs hpl))
  obtain ⟨vs, H1, I1, r1, a, b, xs, ys, rfl, hqx, hqy, q⟩ := q0
  obtain ⟨v1, v2, rfl, ra, rb⟩ := vals2 r1
  cases ra
  cases rb
  obtain ⟨its, rv, p1⟩ := held_of I1 hqx
  obtain ⟨its2, rv2, p2⟩ := held_of I1 hqy
  have fr : ∀ k, FpOk X pins H1 (s1.heap.objs.size + k) := fun k => I1.fpOk (Nat.le_add_right _ _) (I1.hok.fresh (Nat.le_add_right _ _))
  refine zip_begins2 (beginsA t a its.toArray) (beginsA u b its2.toArray) p1 p2 fun h' hz hTI hTO h1 h2 hsz hk => wpAny_pyIter_zip hz ?_
  have I2 : Inv X pins σ H1 { s1 with heap := h' } := I1.kept (t' := s1.toks) hk
  have b1 : ItB t h' s1.heap.objs.size a 0 := itB_of (itA_new (vs := its.toArray) h1 (heldA_kept p1 fun o e => hk a o e))
  have b2 : ItB u h' (s1.heap.objs.size + 1) b 0 := itB_of (itA_new (vs := its2.toArray) h2 (heldA_kept p2 fun o e => hk b o e))
  exact ⟨s1.heap.objs.size + 4, [s1.heap.objs.size + 4, s1.heap.objs.size + 2, s1.heap.objs.size + 3, s1.heap.objs.size, s1.heap.objs.size + 1], _, _, H1, rfl, I2,
    turn_zipM (PySem.W.ktu_apart s1.heap.objs.size a b (heldA_lt p1) (heldA_lt p2)), ⟨hz, hTI, ⟨_, _, hTO⟩, b1, b2⟩, five (fr 4) (fr 2) (fr 3) (fr 0) (fr 1), q⟩
theorem walk_zipM {K : PySem.W.Frag} {a b : Addr} {t u : Bool} {xs ys : List V} {n : Nat} (hn : n = min xs.length ys.length) :
    Walk (ItzM K t u a b) n (fun H => SqA K t H a xs ∧ SqA K u H b ys) (YPair (fun i => xs[i]?) (fun i => ys[i]?)) := by
  subst hn
  refine ⟨fun i _ hi q => ?_, fun _ q => ⟨xs, ys, q.1, q.2, by omega⟩, fun i H v H' _ q y => ?_⟩
  · have h1 : i < xs.length := by omega
    have h2 : i < ys.length := by omega
    exact ⟨xs, ys, xs[i], ys[i], q.1, q.2, List.getElem?_eq_getElem h1, List.getElem?_eq_getElem h2⟩
  · obtain ⟨T, x, z, h1, h2, h3, h4, h5⟩ := y
    exact ⟨T, x, z, h1, h2, h3, h4 xs q.1, h5 ys q.2⟩
end DL
set_option Elab.async false
set_option linter.all false
set_option maxRecDepth 100000
set_option maxHeartbeats 2000000
namespace DL
open PySem PySem.Spec PyProof.Rows L2 Evl

/-! ### what stays but for some lists -/
def Xp (S : List Addr) (H H' : Hp) : Prop := ∀ a o, H a = some o → a ∉ S → H' a = some o
theorem Xp.refl (S : List Addr) (H : Hp) : Xp S H H := fun _ _ h _ => h
theorem Xp.of_ex {S : List Addr} {H H' : Hp} (e : Ex H H') : Xp S H H' := fun a o h _ => e a o h
theorem Xp.to_ex {H H' : Hp} (e : Xp [] H H') : Ex H H' := fun a o h => e a o h (by simp)
theorem Xp.trans {S : List Addr} {H H1 H2 : Hp} (a : Xp S H H1) (b : Xp S H1 H2) : Xp S H H2 := fun x o h n => b x o (a x o h n) n
theorem Xp.then {S : List Addr} {H H1 H2 : Hp} (a : Xp S H H1) (b : Ex H1 H2) : Xp S H H2 := fun x o h n => b x o (a x o h n)
theorem Xp.upd {S : List Addr} {H H1 : Hp} {p : Addr} {o : HO} (a : Xp S H H1) (hp : p ∈ S) : Xp S H (L2.upd H1 p o) := fun x u h n => by
  rw [upd_ne (fun z : x = p => n (by rw [z]; exact hp))]
  exact a x u h n
/-- S holds lists alone -/
def Ls (H : Hp) (S : List Addr) : Prop := ∀ p ∈ S, ∃ l, H p = some (.lst l)
theorem Ls.nil (H : Hp) : Ls H [] := fun p hp => absurd hp (by simp)
theorem Ls.one {H : Hp} {p : Addr} {l : List V} (h : H p = some (.lst l)) : Ls H [p] := fun q hq => by
  have e : q = p := by simpa using hq
  exact ⟨l, e ▸ h⟩
theorem Ls.cons {H : Hp} {p : Addr} {S : List Addr} {l : List V} (h : H p = some (.lst l)) (r : Ls H S) : Ls H (p :: S) := fun q hq => by
  rcases List.mem_cons.mp hq with e | e
  · exact ⟨l, e ▸ h⟩
  · exact r q e
theorem Ls.ex {H H' : Hp} {S : List Addr} (h : Ls H S) (e : Ex H H') : Ls H' S := fun p hp => by
  obtain ⟨l, q⟩ := h p hp
  exact ⟨l, e p _ q⟩
theorem Xp.tx {S : List Addr} {H H' : Hp} (e : Xp S H H') (h : Ls H S) : Tx H H' := fun a xs r => by
  have n : ∀ o, H a = some o → (∀ l, o ≠ .lst l) → a ∉ S := fun o ho hn hs => by
    obtain ⟨l, q⟩ := h a hs
    rw [ho] at q
    exact hn l (Option.some.inj q)
  rcases r with r | ⟨ob, r⟩
  · exact Or.inl (e _ _ r (n _ r fun l z => nomatch z))
  · exact Or.inr ⟨ob, e _ _ r (n _ r fun l z => nomatch z)⟩

section
variable {K : PySem.W.Frag} {σ : L2.St} {H H' : Hp} {ta tb te : TE} {t u : TT} {d : PyData} {ds : List PyData} {v : V}
/-! ### what is walked, told as data -/
/-- n items ds; S: lists that may change meanwhile -/
def EvI (K : PySem.W.Frag) (wi : TI) (σ : L2.St) (H : Hp) (S : List Addr) (ds : List PyData) : Prop :=
  ∀ H1, Ex H H1 → ∀ R : It → Hp → Prop, (∀ J H2, Ex H1 H2 → Walk J ds.length (fun Ha => Xp S H2 Ha) (fun i Ha x Hb => Ex Ha Hb ∧ ∃ d, ds[i]? = some d ∧ Dp K Hb x d) → R J H2) → wi σ H1 R
theorem ei_ex {wi : TI} {S : List Addr} (e : Ex H H') (h : EvI K wi σ H S ds) : EvI K wi σ H' S ds := fun H1 a R q => h H1 (e.trans a) R q
theorem fresh_notin {S : List Addr} {p : Addr} (hS : Ls H S) (hp : H p = none) : p ∉ S := fun hs => by
  obtain ⟨l, q⟩ := hS p hs
  rw [hp] at q
  cases q
/-- a new list -/
theorem ei_new {S : List Addr} (hS : Ls H S) (h : EvN K te σ H ds) (hi : immAll ds = true) : EvI K (iList K te) σ H S ds := fun H1 e R q =>
  h H1 e _ fun p vs H2 hp e2 h2 hd => by
    refine ⟨p, rfl, ⟨vs, sq_of h2⟩, q _ H2 e2 ?_⟩
    have hn : p ∉ S := fresh_notin (hS.ex e) hp
    have hl := dpa_len hd
    rw [← hl]
    refine walk_list.mono (fun Ha x => sq_of (x p _ h2 hn)) fun i Ha x Hb hlt hg y => ?_
    obtain ⟨rfl, hx⟩ := y
    obtain ⟨d, hd1, hd2⟩ := dpa_getV (dpa_tx (hg.tx (hS.ex (e.trans e2))) _ _ hi hd) hx
    exact ⟨Ex.refl _, d, hd1, hd2⟩
/-- a list that stands -/
theorem ei_lst {S : List Addr} {q : Addr} {vs : List V} (hS : Ls H S) (h : Ev te σ H (.ref q)) (hq : H q = some (.lst vs)) (hn : q ∉ S) (hd : DpAll K H vs ds) (hi : immAll ds = true) : EvI K (iList K te) σ H S ds := fun H1 e R r =>
  h H1 e _ fun H2 e2 => by
    have h2 := e2 _ _ (e _ _ hq)
    refine ⟨q, rfl, ⟨vs, sq_of h2⟩, r _ H2 e2 ?_⟩
    rw [← dpa_len hd]
    refine walk_list.mono (fun Ha x => sq_of (x q _ h2 hn)) fun i Ha x Hb hlt hg y => ?_
    obtain ⟨rfl, hx⟩ := y
    obtain ⟨d, hd1, hd2⟩ := dpa_getV (dpa_tx (hg.tx (hS.ex (e.trans e2))) _ _ hi (dpa_ex (e.trans e2) _ _ hd)) hx
    exact ⟨Ex.refl _, d, hd1, hd2⟩
/-- a tuple -/
theorem ei_tup {S : List Addr} (hS : Ls H S) (h : EvD K te σ H (.tuple ds)) (hi : immAll ds = true) : EvI K (iTup K te) σ H S ds := fun H1 e R r =>
  h H1 e _ fun w H2 e2 hw => by
    cases hw with
    | tup hs ha =>
      refine ⟨_, rfl, ⟨_, hs⟩, r _ H2 e2 ?_⟩
      rw [← dpa_len ha]
      refine walk_tup.mono (fun Ha x => sqT_tx (x.tx (hS.ex (e.trans e2))) hs) fun i Ha x Hb hlt hg y => ?_
      obtain ⟨rfl, hx⟩ := y
      obtain ⟨d, hd1, hd2⟩ := dpa_getV (dpa_tx (hg.tx (hS.ex (e.trans e2))) _ _ hi ha) hx
      exact ⟨Ex.refl _, d, hd1, hd2⟩
/-- range -/
theorem rng_get {n : Nat} {f : Nat → PyData} {i : Nat} (h : i < n) : ((List.range n).map f)[i]? = some (f i) := by
  rw [List.getElem?_map, List.getElem?_range h]
  rfl
theorem ei_rng1 {S : List Addr} {ta : TA} {n : Int} (h : EvDA K ta σ H [.int n]) (hn : -(2 ^ 62) ≤ n ∧ n < 2 ^ 62) : EvI K (iRng1 ta) σ H S ((List.range n.toNat).map fun (i : Nat) => PyData.int (i : Int)) := fun H1 e R r =>
  h H1 e _ fun vs H2 e2 hv => by
    cases hv with
    | cons a b =>
      cases b
      cases a
      refine ⟨n, rfl, hn.1, hn.2, r _ H2 e2 ?_⟩
      rw [List.length_map, List.length_range]
      refine walk_range.mono (fun _ _ => trivial) fun i Ha x Hb hlt hg y => ?_
      obtain ⟨rfl, rfl⟩ := y
      refine ⟨Ex.refl _, _, rng_get hlt, ?_⟩
      show Dp K Hb (.int (0 + (i : Int))) (.int (i : Int))
      rw [Int.zero_add]
      exact .int _
theorem ei_rng2 {S : List Addr} {ta : TA} {m n : Int} (h : EvDA K ta σ H [.int m, .int n]) (hn : (-(2 ^ 62) ≤ m ∧ m < 2 ^ 62) ∧ -(2 ^ 62) ≤ n ∧ n < 2 ^ 62) : EvI K (iRng2 ta) σ H S ((List.range (n - m).toNat).map fun (i : Nat) => PyData.int (m + (i : Int))) := fun H1 e R r =>
  h H1 e _ fun vs H2 e2 hv => by
    cases hv with
    | cons a b =>
      cases b with
      | cons b c =>
        cases c
        cases a
        cases b
        refine ⟨m, n, rfl, ⟨hn.1.1, hn.1.2, hn.2.1, hn.2.2⟩, r _ H2 e2 ?_⟩
        rw [List.length_map, List.length_range]
        refine walk_range.mono (fun _ _ => trivial) fun i Ha x Hb hlt hg y => ?_
        obtain ⟨rfl, rfl⟩ := y
        exact ⟨Ex.refl _, _, rng_get hlt, .int _⟩
/-- range(m, e, -1) -/
theorem ei_rngD {S : List Addr} {ta : TA} {m n : Int} (h : EvDA K ta σ H [.int m, .int n, .int (-1)]) (hn : (-(2 ^ 61) ≤ m ∧ m < 2 ^ 61) ∧ -(2 ^ 61) ≤ n ∧ n < 2 ^ 61) (hr : RgC m n (-1) (m - n).toNat) :
    EvI K (iRng3 ta) σ H S ((List.range (m - n).toNat).map fun (i : Nat) => PyData.int (m - (i : Int))) := fun H1 e R r =>
  h H1 e _ fun vs H2 e2 hv => by
    cases hv with
    | cons a b =>
      cases b with
      | cons b c =>
        cases c with
        | cons c f =>
          cases f
          cases a
          cases b
          cases c
          refine ⟨m, n, -1, (m - n).toNat, rfl, hr, r _ H2 e2 ?_⟩
          rw [List.length_map, List.length_range]
          refine walk_rangeC.mono (fun _ _ => trivial) fun i Ha x Hb hlt hg y => ?_
          obtain ⟨rfl, rfl⟩ := y
          refine ⟨Ex.refl _, _, rng_get hlt, ?_⟩
          show Dp K Hb (.int (m + (i : Int) * (-1))) (.int (m - (i : Int)))
          rw [show m + (i : Int) * (-1) = m - (i : Int) by omega]
          exact .int _
/-! ### loops over it -/
variable {D : Ends} {tu tw tz : TS} {g : TG}
/-- a for: Pv of the heap at the start (all is evaluated), the turn, the slots, the heap -/
theorem d_for {wi : TI} {S : List Addr} (h : EvI K wi σ H S ds) (Pv : Hp → Nat → L2.St → Hp → Prop) (h0 : ∀ H2, Ex H H2 → Pv H2 0 σ H2) (hX : ∀ H2 i σ' Ha, i ≤ ds.length → Pv H2 i σ' Ha → Xp S H2 Ha)
    (hs : ∀ H2 i d x σ' Ha Hb, Ex H H2 → ds[i]? = some d → Pv H2 i σ' Ha → Ex Ha Hb → Dp K Hb x d → g x σ' Hb fun σ2 H3 => tu { D with nx := Pv H2 (i + 1), ct := Pv H2 (i + 1), bk := D.nx } σ2 H3)
    (hd : ∀ H2 σ' Ha, Ex H H2 → Pv H2 ds.length σ' Ha → D.nx σ' Ha) : tFor wi g tu D σ H := h H (Ex.refl H) _ fun J H2 e2 w =>
  for_it w (Pv H2) (h0 H2 e2) (fun i σ' Ha hi p => hX H2 i σ' Ha hi p) (fun i x σ' Ha Hb hlt p y => by
    obtain ⟨e, d, hd1, hd2⟩ := y
    exact hs H2 i d x σ' Ha Hb e2 hd1 p e hd2) fun σ' Ha p => hd H2 σ' Ha e2 p
theorem e_for {wi : TI} {S : List Addr} (h : EvI K wi σ H S ds) (Pv : Hp → Nat → L2.St → Hp → Prop) (h0 : ∀ H2, Ex H H2 → Pv H2 0 σ H2) (hX : ∀ H2 i σ' Ha, i ≤ ds.length → Pv H2 i σ' Ha → Xp S H2 Ha)
    (hs : ∀ H2 i d x σ' Ha Hb, Ex H H2 → ds[i]? = some d → Pv H2 i σ' Ha → Ex Ha Hb → Dp K Hb x d → g x σ' Hb fun σ2 H3 => tu { D with nx := Pv H2 (i + 1), ct := Pv H2 (i + 1), bk := tz D } σ2 H3)
    (hd : ∀ H2 σ' Ha, Ex H H2 → Pv H2 ds.length σ' Ha → tz D σ' Ha) : tSeq (tFor wi g tu) tz D σ H := d_for (D := { D with nx := tz D }) h Pv h0 hX hs hd
theorem gl_nil {Q : L2.St → Hp → Prop} : (fun (σ' : L2.St) H' => gNil [] σ' H' Q) = Q := by
  funext a b
  exact propext ⟨fun z => z.2, fun z => ⟨rfl, z⟩⟩
theorem gl_one {g2 : TG} {v : V} {Q : L2.St → Hp → Prop} : (fun (σ1 : L2.St) H1 => g2 v σ1 H1 Q) = fun σ1 H1 => gCons g2 gNil [v] σ1 H1 Q := by
  funext σ1 H1
  apply propext
  constructor
  · intro z
    refine ⟨v, [], rfl, ?_⟩
    rw [gl_nil]
    exact z
  · intro ⟨w, r, e, z⟩
    cases e
    rw [gl_nil] at z
    exact z
/-- targets: a name; a pair of targets; three -/
theorem g_two {g1 g2 : TG} {d1 d2 : PyData} {x : V} {Q : L2.St → Hp → Prop} (h : Dp K H x (.tuple [d1, d2])) (k : ∀ v1 v2, Dp K H v1 d1 → Dp K H v2 d2 → g1 v1 σ H fun σ1 H1 => g2 v2 σ1 H1 Q) :
    gTup K 2 (gCons g1 (gCons g2 gNil)) x σ H Q := by
  cases h with
  | tup hs ha =>
    cases ha with
    | cons a b =>
      cases b with
      | cons b c =>
        cases c
        refine ⟨_, _, rfl, hs, rfl, _, _, rfl, ?_⟩
        have q := k _ _ a b
        rw [gl_one] at q
        exact q
/-- a comprehension without a test -/
theorem en_lc {wi : TI} {vs : List Nat} (h : EvI K wi σ H [] ds) (hl : ds.length ≤ 50000) (f : Nat → PyData) (hi : ∀ i, i < ds.length → imm (f i) = true)
    (hs : ∀ H2 i d x Hb (Q : L2.St → Hp → Prop), Ex H H2 → ds[i]? = some d → Ex H2 Hb → Dp K Hb x d → (∀ σ2 H3, Ex Hb H3 → wipe σ2 vs = wipe σ vs → EvD K te σ2 H3 (f i) → Q σ2 H3) → g x (wipe σ vs) Hb Q) :
    EvN K (tLc wi g tYes te vs) σ H ((List.range ds.length).map f) := fun H1 e Q q => h H1 e _ fun J H2 e2 w => fun Dl hD => by
  have all : ∀ n, n ≤ ds.length → immAll ((List.range n).map f) = true := fun n => by
    induction n with
    | zero => intro _; simp [immAll]
    | succ n ih =>
      intro hn
      have app : ∀ (a b : List PyData), immAll a = true → immAll b = true → immAll (a ++ b) = true := fun a b ha hb => by
        induction a with
        | nil => exact hb
        | cons x a ih =>
          simp only [immAll, Bool.and_eq_true] at ha
          rw [List.cons_append, immAll, ha.1, ih ha.2]
          rfl
      rw [List.range_succ, List.map_append]
      exact app _ _ (ih (by omega)) (by simp [immAll, hi n (by omega)])
  refine lc_it w (fun n Ha => ∃ ws, Ex H2 Ha ∧ Ha Dl = some (.lst ws) ∧ DpAll K Ha ws ((List.range n).map f)) ⟨[], Ex.new hD, upd_same, by simp; exact .nil⟩ (fun n Ha _ p => by
    obtain ⟨ws, p1, _⟩ := p
    exact Xp.of_ex p1) (fun i x Ha Hb hlt p y => ?_) fun Ha p => ?_
  · obtain ⟨ws, p1, p2, p3⟩ := p
    obtain ⟨ey, d, hd1, hd2⟩ := y
    refine hs H2 i d x Hb _ (e.trans e2) hd1 (p1.trans ey) hd2 fun σ2 H3 e3 hw hv => ⟨hw, ?_⟩
    show te σ2 H3 _
    refine hv H3 (Ex.refl _) _ fun v H4 e4 hv4 => ⟨ws, e4 _ _ (e3 _ _ (ey _ _ p2)), ?_, ws ++ [v], ?_, upd_same, ?_⟩
    · have := dpa_len p3
      rw [List.length_map, List.length_range] at this
      exact sz_lt (by omega)
    · exact Ex.mut ((p1.trans ey).trans (e3.trans e4)) hD
    · have at4 : H4 Dl = some (.lst ws) := e4 _ _ (e3 _ _ (ey _ _ p2))
      rw [List.range_succ, List.map_append]
      refine dpa_app (dpa_tx (Tx.lst at4) _ _ (all i (by omega)) (dpa_ex ((ey.trans e3).trans e4) _ _ p3)) ?_
      exact .cons (dp_tx (Tx.lst at4) _ _ (hi i hlt) hv4) .nil
  · obtain ⟨ws, p1, p2, p3⟩ := p
    exact q Dl ws Ha (fresh_back e2 hD) (e2.trans p1) p2 p3
end
end DL
set_option Elab.async false
set_option linter.all false
set_option maxRecDepth 100000
set_option maxHeartbeats 2000000
namespace DL
open PySem PySem.Spec PyProof.Rows L2 Evl

/-! ### defs that are called by name -/
structure DF (P : Program) (w : World) (K : PySem.W.Frag) (mg : Str → Option Value) (base : Heap) (nm : Str) (k : Nat) (ps : List Str) (sp : Sp) : Prop where
  ex : ∃ (f : Addr) (fd : FuncData), FnOk P w K mg base CX0 k f fd ps sp ∧ mg nm = some (.ref f) ∧ PySem.W.keepIn K (.ref f) = true ∧ Binds K fd ps []
theorem pe_D {X : Cx} {nm : Str} {k : Nat} {ps : List Str} {sp : Sp} {e : Expr} {es : List Expr} {t : TA} {p pos : Pos} (F : DF X.prog X.w X.K X.mg X.base nm k ps sp) (hr : Room k X.A) (hg : Gl X nm) (ha : PA X (e :: es) t)
    (hdb : (nm == ("__debug__" : Str)) = false := by decide) (he : starEach (e :: es) X.env = (false, eval e X.env) :: starEach es X.env := by rfl) (hpl : (backTo pos (starEach es X.env)).any (·.1) = false := by rfl) :
    PE X (.Call (.Name nm p) (e :: es) [] pos) (tCall sp [] E0 t) := by
  obtain ⟨f, fd, h1, h2, h3, h4⟩ := F.ex
  exact pe_call h1 hr hg h2 h3 h4 .nil pass0 ha hdb he hpl

/-! ### a list's item, read to be changed -/
def rGetL (K : PySem.W.Frag) : V → V → Hp → VK → Prop := fun o i H Q => ∃ p xs v, ∃ j : Nat, o = .ref p ∧ i = .int (j : Int) ∧ SqL K H p xs ∧ xs[j]? = some v ∧ Q v H
theorem get_list {X : Cx} : PGet X (rGetL X.K) := fun pins s σ H o i ov iv Q I r1 r2 h => by
  obtain ⟨p, xs, v, j, rfl, rfl, hs, hv, q⟩ := h
  obtain ⟨its, rv, pl, hz⟩ := I.list hs
  cases r1
  obtain ⟨t, rfl⟩ := r2
  obtain ⟨u, hu, ru⟩ := rv.get hv
  have hj := (List.getElem?_eq_some_iff.mp hv).1
  have hn := line63
  refine wpAny_getItem_list pl.isList (by omega) (by omega) (x := u) (by simpa using hu) ⟨v, H, I, ru, q⟩

/-! ### max of a tuple of ints -/
section
variable {prog : Program} {w : World} {A : Around} {E : Value → Shared → Prop} {s : Shared} {l : Addr} {its : List Value} {ns : List Int} {Q : Value → Shared → Prop}
theorem max_rawT (hh : A.handled = none) (hl : s.heap.IsTuple l its.toArray) (hi : IntsAre its ns) (hne : 0 < ns.length)
    (h : ∀ h' tk M t', (∀ b o, s.heap.get? b = some o → h'.get? b = some o) → M ∈ ns → (∀ a, a ∈ ns → a ≤ M) → Q (.int M t') { s with heap := h', toks := tk }) :
    wpAny (model prog w) A (call (.builtin "max") [.ref l]) Q E s := by
  have len : its.length = ns.length := hi.length
  have at_ : ∀ (i : Nat) v, its.toArray[i]? = some v → ∃ t, v = .int (ns.getD i 0) t := fun i v hv => by
    have hv' : its[i]? = some v := by simpa using hv
    have go : ∀ {us : List Value} {ms : List Int}, IntsAre us ms → ∀ {i : Nat} {v : Value}, us[i]? = some v → ∃ t, v = .int (ms.getD i 0) t := by
      intro us ms hh
      induction hh with
      | nil => intro i v e; simp at e
      | cons n t _ ih =>
        intro i v e
        cases i with
        | zero => exact ⟨t, by simpa using e.symm⟩
        | succ i =>
          obtain ⟨t', q⟩ := ih (i := i) (v := v) (by simpa using e)
          exact ⟨t', by simpa using q⟩
    exact go hi hv'
  have hlt : l < s.heap.objs.size := by
    obtain ⟨o, ho, _⟩ := hl
    exact Heap.lt_size ho
  refine call_max_walk (wpAny_pyIter_tuple hl ?_)
  refine ⟨s.heap.objs.size, _, _, _, _, _, _, rfl, Walks.tuple (A := A.in1) hh _ l (Nat.ne_of_lt hlt) its.toArray, ⟨⟨_, Heap.get?_push_size _ rfl, rfl, rfl⟩, Heap.IsTuple.push hl _⟩, fun b hb => ?_, ?_, CmpOf.ints_gt (fun i => ns.getD i 0) at_, fun v h' tk hv hk => ?_⟩
  · show b < (s.heap.push _).objs.size
    rw [Heap.size_push]
    simp only [List.mem_cons, List.not_mem_nil, or_false] at hb
    rcases hb with e | e
    · rw [e]; exact Nat.lt_succ_self _
    · rw [e]; exact Nat.lt_succ_of_lt hlt
  · rw [List.size_toArray, len]
    exact hne
  · obtain ⟨t, rfl⟩ := at_ _ _ hv
    obtain ⟨h1, h2⟩ := argBest_gt (fun i => ns.getD i 0) (its.toArray.size - 1)
    have e1 : its.toArray.size = ns.length := by rw [List.size_toArray, len]
    refine h h' tk _ t (fun b o e => hk b o (fun hm => ?_) (Heap.get?_push_of_some _ e)) ?_ fun a ha => ?_
    · have := Heap.lt_size e
      simp only [List.mem_cons, List.not_mem_nil, or_false] at hm
      rw [hm] at this
      exact Nat.lt_irrefl _ this
    · exact PySem.getD_mem (by omega)
    · obtain ⟨j, hj, rfl⟩ := List.getElem_of_mem ha
      have q := h2 j (by omega)
      have ej : ns.getD j 0 = ns[j] := by rw [List.getD_eq_getElem?_getD, List.getElem?_eq_getElem hj]; rfl
      rw [ej] at q
      exact q
end
section
variable {X : Cx}
def rMaxT (K : PySem.W.Frag) : List V → Hp → VK → Prop := fun vs H Q => ∃ (a : Addr) (ns : List Int), vs = [V.ref a] ∧ SqT K H a (ns.map V.int) ∧ 0 < ns.length ∧ ∀ m, m ∈ ns → (∀ y, y ∈ ns → y ≤ m) → Q (.int m) H
theorem cr_maxT (hc : X.calm = true) : CallR X (.builtin "max") (rMaxT X.K) := by
  intro pins s σ H vs us Q I r h
  obtain ⟨a, ns, rfl, hs, hne, q⟩ := h
  obtain ⟨its, rv, hl, _⟩ := I.tuple hs
  rw [Vals.ref1 r]
  exact max_rawT (I.ok.hd hc) (show s.heap.IsTuple a its.toArray from hl) rv.ints hne fun h' tk m t' hk h1 h2 => ⟨.int _, H, I.kept hk, ⟨_, rfl⟩, q m h1 h2⟩
end
end DL
set_option Elab.async false
set_option linter.all false
set_option maxRecDepth 100000
set_option maxHeartbeats 2000000
namespace DL
open PySem PySem.Spec PyProof.Rows L2 Evl
section
variable {K : PySem.W.Frag} {σ : L2.St} {H H' : Hp} {ta tb te : TE} {t u : TT} {d : PyData} {ds es : List PyData} {v : V} {ns : List Int}
/-- a list that is tracked -/
def EvQ (K : PySem.W.Frag) (te : TE) (σ : L2.St) (H : Hp) (ds : List PyData) : Prop := ∀ H1, Ex H H1 → ∀ Q : VK, (∀ p vs H2, Ex H1 H2 → H2 p = some (.lst vs) → DpAll K H2 vs ds → Q (.ref p) H2) → te σ H1 Q
theorem EvN.toQ (h : EvN K te σ H ds) : EvQ K te σ H ds := fun H1 e Q q => h H1 e Q fun p vs H2 _ e2 h2 hd => q p vs H2 e2 h2 hd
theorem EvQ.toD (h : EvQ K te σ H ds) : EvD K te σ H (.list ds) := fun H1 e Q q => h H1 e Q fun p vs H2 e2 h2 hd => q _ H2 e2 (.lst (sq_of h2) hd)
theorem EvQ.ex (e : Ex H H') (h : EvQ K te σ H ds) : EvQ K te σ H' ds := fun H1 a Q q => h H1 (e.trans a) Q q
theorem eq_var {k : Nat} {p : Addr} {vs : List V} (h : σ[k]? = some (some (.ref p))) (hp : H p = some (.lst vs)) (hd : DpAll K H vs ds) : EvQ K (tVar k) σ H ds := fun H1 e Q q =>
  ⟨.ref p, h, q p vs H1 (Ex.refl _) (e _ _ hp) (dpa_ex e _ _ hd)⟩
theorem eq_is {ds' : List PyData} (h : EvQ K te σ H ds) (e : ds = ds') : EvQ K te σ H ds' := e ▸ h

/-! ### max, min, sum -/
theorem ev_maxL {m : Int} (h : EvD K te σ H (.list (dI ns))) (h0 : 0 < ns.length) (hm : m ∈ ns) (hb : ∀ y, y ∈ ns → y ≤ m) : Ev (tCB (rMax K) (tCons te tNil)) σ H (.int m) := fun H1 e Q q =>
  h H1 e _ fun w H2 e2 hw => by
    cases hw with
    | lst hs ha =>
      rw [dpa_ints ha] at hs
      refine ⟨_, ns, rfl, hs, h0, fun m' h1 h2 => ?_⟩
      rw [show m' = m from Int.le_antisymm (hb _ h1) (h2 _ hm)]
      exact q H2 e2
theorem ev_maxT {m : Int} (h : EvD K te σ H (tI ns)) (h0 : 0 < ns.length) (hm : m ∈ ns) (hb : ∀ y, y ∈ ns → y ≤ m) : Ev (tCB (rMaxT K) (tCons te tNil)) σ H (.int m) := fun H1 e Q q =>
  h H1 e _ fun w H2 e2 hw => by
    obtain ⟨a, rfl, hs⟩ := dp_tI hw
    refine ⟨a, ns, rfl, hs, h0, fun m' h1 h2 => ?_⟩
    rw [show m' = m from Int.le_antisymm (hb _ h1) (h2 _ hm)]
    exact q H2 e2
theorem ev_sumL (h : EvD K te σ H (.list (dI ns))) : Ev (tCB (rSum K) (tCons te tNil)) σ H (.int ns.sum) := fun H1 e Q q =>
  h H1 e _ fun w H2 e2 hw => by
    cases hw with
    | lst hs ha =>
      rw [dpa_ints ha] at hs
      exact ⟨_, ns, rfl, hs, q H2 e2⟩
theorem ev_min2 {i j : Int} (ha : Ev ta σ H (.int i)) (hb : Ev tb σ H (.int j)) : Ev (tCB (fun xs H Q => ∃ i j, xs = [.int i, .int j] ∧ Q (.int (if j < i then j else i)) H) (tCons ta (tCons tb tNil))) σ H (.int (min i j)) := fun H1 e Q q =>
  ha H1 e _ fun H2 e2 => hb H2 (e.trans e2) _ fun H3 e3 => ⟨i, j, rfl, by
    have : (if j < i then j else i) = min i j := by
      by_cases h : j < i
      · rw [if_pos h]; omega
      · rw [if_neg h]; omega
    rw [this]
    exact q H3 (e2.trans e3)⟩

/-! ### joining, repeating, cutting -/
theorem en_cat (ha : EvQ K ta σ H ds) (hb : EvQ K tb σ H es) (hl : ds.length + es.length ≤ 100000) : EvN K (tOp rCat ta tb) σ H (ds ++ es) := fun H1 e Q q =>
  ha H1 e _ fun p vs H2 e2 hp hd => hb H2 (e.trans e2) _ fun r ws H3 e3 hr he => ⟨p, r, vs, ws, rfl, rfl, e3 _ _ hp, hr, sz_of (by rw [dpa_len hd, dpa_len he]; exact hl), fun l hl =>
    q l _ _ (fresh_back (e2.trans e3) hl) ((e2.trans e3).trans (Ex.new hl)) upd_same (dpa_ex (Ex.new hl) _ _ (dpa_app (dpa_ex e3 _ _ hd) he))⟩
theorem en_rep {n : Int} (ha : EvQ K ta σ H [d]) (hb : Ev tb σ H (.int n)) (hn : n ≤ 100000) (hn0 : -100000 ≤ n) : EvN K (tOp rRep ta tb) σ H (List.replicate n.toNat d) := fun H1 e Q q =>
  ha H1 e _ fun p vs H2 e2 hp hd => hb H2 (e.trans e2) _ fun H3 e3 => by
    cases hd with
    | cons a b =>
      cases b
      rename_i v
      have hz : ([v] : List V).length * n.toNat ≤ 100000 := by simp; omega
      refine ⟨p, n, [v], rfl, rfl, e3 _ _ hp, by omega, by omega, sz_of hz, fun l hl => ?_⟩
      have ef : (List.replicate n.toNat [v]).flatten = List.replicate n.toNat v := by
        induction n.toNat with
        | zero => rfl
        | succ k ih => rw [List.replicate_succ, List.flatten_cons, ih, List.replicate_succ]; rfl
      rw [ef]
      exact q l _ _ (fresh_back (e2.trans e3) hl) ((e2.trans e3).trans (Ex.new hl)) upd_same (dpa_rep (dp_ex ((e3).trans (Ex.new hl)) _ _ a) _)
theorem ed_cat (ha : EvD K ta σ H (.tuple ds)) (hb : EvD K tb σ H (.tuple es)) (hl : ds.length + es.length ≤ 100000) : EvD K (tOp (rCatA K) ta tb) σ H (.tuple (ds ++ es)) := fun H1 e Q q =>
  ha H1 e _ fun x H2 e2 hx => hb H2 (e.trans e2) _ fun y H3 e3 hy => by
    cases hx with
    | tup h1 a1 =>
      cases hy with
      | tup h2 a2 =>
        have n1 := dpa_len a1
        have n2 := dpa_len a2
        refine ⟨_, _, _, _, rfl, rfl, ex_t e3 h1, h2, sz_of (by omega), fun e0 => ?_, fun _ e0 => ?_, fun _ _ l hl => ?_⟩
        · subst e0
          cases a1
          exact q _ H3 (e2.trans e3) (.tup h2 a2)
        · subst e0
          cases a2
          rw [List.append_nil] at q
          exact q _ H3 (e2.trans e3) (.tup (ex_t e3 h1) (dpa_ex e3 _ _ a1))
        · exact q _ _ ((e2.trans e3).trans (Ex.new hl)) (.tup (st_of upd_same) (dpa_ex (Ex.new hl) _ _ (dpa_app (dpa_ex e3 _ _ a1) a2)))
def cutD (ds : List PyData) (lo hi : Option Int) : List PyData := (ds.drop (HT.sIx ds.length 0 lo)).take (HT.sIx ds.length ds.length hi - HT.sIx ds.length 0 lo)
theorem dpa_cut {vs : List V} {lo hi : Option Int} (h : DpAll K H vs ds) : DpAll K H (cutV vs lo hi) (cutD ds lo hi) := by
  unfold cutV cutD
  rw [dpa_len h]
  exact dpa_take _ (dpa_drop _ h)
theorem ed_sl {tl th : TO} {lo hi : Option Int} (h : EvD K te σ H (.tuple ds)) (h1 : EvO tl σ H lo) (h2 : EvO th σ H hi) : EvD K (tSl (rSlA K) te tl th) σ H (.tuple (cutD ds lo hi)) := fun H1 e Q q =>
  h H1 e _ fun x H2 e2 hx => h1 H2 (e.trans e2) _ fun H3 e3 => h2 H3 ((e.trans e2).trans e3) _ fun H4 e4 => by
    cases hx with
    | tup hs ha =>
      have n1 := dpa_len ha
      refine ⟨_, _, rfl, ex_t (e3.trans e4) hs, fun hw => ?_, fun _ l hl => ?_⟩
      · have ec : cutD ds lo hi = ds := by
          unfold cutD
          rw [← n1, hw.1, hw.2, n1]
          simp
        rw [ec] at q
        exact q _ H4 ((e2.trans e3).trans e4) (.tup (ex_t (e3.trans e4) hs) (dpa_ex (e3.trans e4) _ _ ha))
      · exact q _ _ (((e2.trans e3).trans e4).trans (Ex.new hl)) (.tup (st_of upd_same) (dpa_ex ((e3.trans e4).trans (Ex.new hl)) _ _ (dpa_cut ha)))
theorem en_sl {tl th : TO} {lo hi : Option Int} (h : EvD K te σ H (.list ds)) (h1 : EvO tl σ H lo) (h2 : EvO th σ H hi) : EvN K (tSl (rSlL K) te tl th) σ H (cutD ds lo hi) := fun H1 e Q q =>
  h H1 e _ fun x H2 e2 hx => h1 H2 (e.trans e2) _ fun H3 e3 => h2 H3 ((e.trans e2).trans e3) _ fun H4 e4 => by
    cases hx with
    | lst hs ha =>
      refine ⟨_, _, rfl, ex_l (e3.trans e4) hs, fun l hl => ?_⟩
      exact q _ _ _ (fresh_back ((e2.trans e3).trans e4) hl) (((e2.trans e3).trans e4).trans (Ex.new hl)) upd_same (dpa_ex ((e3.trans e4).trans (Ex.new hl)) _ _ (dpa_cut ha))
theorem en_rev (h : EvD K te σ H (.list ds)) : EvN K (tRevL K te) σ H ds.reverse := fun H1 e Q q =>
  h H1 e _ fun x H2 e2 hx => by
    cases hx with
    | lst hs ha => exact ⟨_, _, rfl, hs, fun l hl => q _ _ _ (fresh_back e2 hl) (e2.trans (Ex.new hl)) upd_same (dpa_ex (Ex.new hl) _ _ (dpa_rev ha))⟩
/-- tuple(x), list(x) -/
theorem ed_tupleOf (h : EvD K te σ H (.list ds)) : EvD K (tCB (fun xs H Q => ∃ p ys, xs = [.ref p] ∧ ((SqL K H p ys ∧ ∀ l, H l = none → Q (.ref l) (upd H l (.tup ys))) ∨ (SqT K H p ys ∧ Q (.ref p) H))) (tCons te tNil)) σ H (.tuple ds) := fun H1 e Q q =>
  h H1 e _ fun x H2 e2 hx => by
    cases hx with
    | lst hs ha => exact ⟨_, _, rfl, .inl ⟨hs, fun l hl => q _ _ (e2.trans (Ex.new hl)) (.tup (st_of upd_same) (dpa_ex (Ex.new hl) _ _ ha))⟩⟩
theorem en_listOf (h : EvD K te σ H (.list ds)) : EvN K (tCB (fun xs H Q => ∃ p ys, xs = [.ref p] ∧ (SqL K H p ys ∨ SqT K H p ys) ∧ ∀ l, H l = none → Q (.ref l) (upd H l (.lst ys))) (tCons te tNil)) σ H ds := fun H1 e Q q =>
  h H1 e _ fun x H2 e2 hx => by
    cases hx with
    | lst hs ha => exact ⟨_, _, rfl, .inl hs, fun l hl => q _ _ _ (fresh_back e2 hl) (e2.trans (Ex.new hl)) upd_same (dpa_ex (Ex.new hl) _ _ ha)⟩
/-! ### tests -/
theorem ev_eqD {e1 e2 : PyData} (ha : EvD K ta σ H e1) (hb : EvD K tb σ H e2) (h1 : SeqAt.shaped e1 = true) (h2 : SeqAt.shaped e2 = true) : Ev (tOp (rEqD K) ta tb) σ H (.bl (PyData.eqv e1 e2)) := fun H1 e Q q =>
  ha H1 e _ fun x H2 e2' hx => hb H2 (e.trans e2') _ fun y H3 e3 hy => ⟨_, _, dp_ex e3 _ _ hx, hy, h1, h2, q H3 (e2'.trans e3)⟩
theorem eqvAll_ints : ∀ a b : List Int, PyData.eqvAll (dI a) (dI b) = decide (a = b)
  | [], [] => by simp [PyData.eqvAll]
  | [], _ :: _ => by simp [PyData.eqvAll]
  | _ :: _, [] => by simp [PyData.eqvAll]
  | x :: a, y :: b => by
    have ih := eqvAll_ints a b
    rw [dI, dI, List.map_cons, List.map_cons, PyData.eqvAll, ih, PyData.eqv]
    by_cases h : x = y
    · subst h; simp
    · simp [h]
theorem eqv_tI (a b : List Int) : PyData.eqv (tI a) (tI b) = decide (a = b) := by
  rw [PyData.eqv]
  exact eqvAll_ints a b
theorem canLay_ints : ∀ a : List Int, PyData.canLayAll0 (dI a) = true
  | [] => by simp [PyData.canLayAll0]
  | x :: a => by simp [PyData.canLayAll0, PyData.canLay0, canLay_ints a]
theorem depth_ints : ∀ a : List Int, PyData.depthAll (dI a) ≤ 1
  | [] => by simp [PyData.depthAll]
  | x :: a => by
    have h := depth_ints a
    rw [dI] at h
    rw [dI, List.map_cons, PyData.depthAll]
    simp only [PyData.depth]
    omega
theorem shaped_tI (a : List Int) : SeqAt.shaped (tI a) = true := by
  have h := depth_ints a
  show ((tI a).canLay0 && decide ((tI a).depth ≤ 64)) = true
  rw [Bool.and_eq_true]
  refine ⟨by rw [PyData.canLay0]; exact canLay_ints a, decide_eq_true ?_⟩
  rw [PyData.depth]
  omega
def isNoneD : PyData → Bool
  | .none => true
  | _ => false
theorem ev_isN {b : Bool} (ha : EvD K ta σ H d) (hb : b = isNoneD d) : Ev (tIsN ta) σ H (.bl b) := fun H1 e Q q =>
  ha H1 e _ fun x H2 e2 hx => by
    have : decide (x = V.non) = b := by
      rw [hb]
      cases hx <;> simp [isNoneD]
    rw [this]
    exact q H2 e2
theorem ev_notN {b : Bool} (ha : EvD K ta σ H d) (hb : b = !isNoneD d) : Ev (tNotN ta) σ H (.bl b) := fun H1 e Q q =>
  ha H1 e _ fun x H2 e2 hx => by
    have : (!decide (x = V.non)) = b := by
      rw [hb]
      cases hx <;> simp [isNoneD]
    rw [this]
    exact q H2 e2
/-- isinstance of an int, a bool, a tuple, a list -/
theorem ev_isi_int {nm : String} {b : Bool} {i : Int} (ha : Ev ta σ H (.int i)) (hb : kitB "int" nm = some b) : Ev (tCB (rIsi K) (tCons ta (tCons (tC (.ty nm)) tNil))) σ H (.bl b) := fun H1 e Q q =>
  ha H1 e _ fun H2 e2 => ⟨_, _, _, _, b, rfl, .ty nm, .base (.int i), kit_ty hb, q H2 e2⟩
theorem tyT {H : Hp} {a : Addr} {xs : List V} (h : SqT K H a xs) : TyX K H (.ref a) (.type "tuple") := by
  rcases h with (h | ⟨o, h⟩) | ⟨o, its, n, hk, hc, _⟩
  · exact .base (.tup h)
  · exact .fTuple h
  · exact .kTuple hk hc
theorem tyL {H : Hp} {a : Addr} {xs : List V} (h : SqL K H a xs) : TyX K H (.ref a) (.type "list") := by
  rcases h with (h | ⟨o, h⟩) | ⟨o, its, n, hk, hc, _⟩
  · exact .base (.lst h)
  · exact .base (.frz h)
  · exact .kList hk hc
theorem ev_isi_tup {nm : String} {b : Bool} (ha : EvD K ta σ H (.tuple ds)) (hb : kitB "tuple" nm = some b) : Ev (tCB (rIsi K) (tCons ta (tCons (tC (.ty nm)) tNil))) σ H (.bl b) := fun H1 e Q q =>
  ha H1 e _ fun x H2 e2 hx => by
    cases hx with
    | tup hs _ => exact ⟨_, _, _, _, b, rfl, .ty nm, tyT hs, kit_ty hb, q H2 e2⟩
/-- isinstance(x, (list, tuple)), x a list -/
theorem ev_isi_lst2 (ha : EvD K ta σ H (.list ds)) (h1 : kitB "list" "list" = some true) : Ev (tCB (rIsiT K) (tCons ta (tCons (tTup (tCons (tC (.ty "list")) (tCons (tC (.ty "tuple")) tNil))) tNil))) σ H (.bl true) := fun H1 e Q q =>
  ha H1 e _ fun x H2 e2 hx => by
    cases hx with
    | lst hs _ =>
      refine ⟨by show 2 ≤ sizeLine; decide, fun p hp => ?_⟩
      refine ⟨_, p, [.ty "list", .ty "tuple"], .type "list", [.type "list", .type "tuple"], true, rfl, upd_same, .cons (.ty _) (.cons (.ty _) .nil), tyL (ex_l (Ex.new hp) hs), ?_, q _ (e2.trans (Ex.new hp))⟩
      exact kitAny_cons (b := true) (kit_ty h1) (fun z => by cases z) fun _ => rfl
/-- a <= b <= c of ints -/
theorem ev_chain {f g : Int → Int → Bool} {tc : TE} {x y z : Int} (ha : Ev ta σ H (.int x)) (hb : Ev tb σ H (.int y)) (hc : Ev tc σ H (.int z)) :
    Ev (tChain (rI0 fun i j => .bl (f i j)) (rI0 fun i j => .bl (g i j)) ta tb tc) σ H (.bl (f x y && g y z)) := fun H1 e Q q =>
  ha H1 e _ fun H2 e2 => hb H2 (e.trans e2) _ fun H3 e3 => ⟨x, y, rfl, rfl, f x y, rfl, by
    cases h : f x y with
    | true =>
      show tc σ H3 _
      refine hc H3 ((e.trans e2).trans e3) _ fun H4 e4 => ⟨y, z, rfl, rfl, ?_⟩
      have := q H4 ((e2.trans e3).trans e4)
      rw [h, Bool.true_and] at this
      exact this
    | false =>
      show Q (.bl false) H3
      have := q H3 (e2.trans e3)
      rw [h, Bool.false_and] at this
      exact this⟩
/-- a list's truth -/
theorem et_lst (h : EvD K te σ H (.list ds)) : EvT (fun σ H Q => te σ H fun x H' => ∃ k, TruV K x H' k ∧ Q k H') σ H (!ds.isEmpty) := fun H1 e Q q =>
  h H1 e _ fun x H2 e2 hx => by
    cases hx with
    | lst hs ha =>
      refine ⟨_, .inl ⟨_, hs, rfl⟩, ?_⟩
      have : (!(List.isEmpty ‹List V›)) = !ds.isEmpty := by
        have n := dpa_len ha
        cases ds with
        | nil => rw [List.eq_nil_of_length_eq_zero n]; rfl
        | cons a b =>
          cases ‹List V› with
          | nil => simp at n
          | cons c d => rfl
      rw [this]
      exact q H2 e2
/-! ### arguments taken apart -/
theorem dpa_one {vs : List V} (h : DpAll K H vs [d]) : ∃ v, vs = [v] ∧ Dp K H v d := by
  cases h with
  | cons a b =>
    cases b
    exact ⟨_, rfl, a⟩
theorem dpa_two {vs : List V} {d2 : PyData} (h : DpAll K H vs [d, d2]) : ∃ v v2, vs = [v, v2] ∧ Dp K H v d ∧ Dp K H v2 d2 := by
  cases h with
  | cons a b =>
    obtain ⟨v, rfl, c⟩ := dpa_one b
    exact ⟨_, _, rfl, a, c⟩
theorem dpa_three {vs : List V} {d2 d3 : PyData} (h : DpAll K H vs [d, d2, d3]) : ∃ v v2 v3, vs = [v, v2, v3] ∧ Dp K H v d ∧ Dp K H v2 d2 ∧ Dp K H v3 d3 := by
  cases h with
  | cons a b =>
    obtain ⟨v, v2, rfl, c, c2⟩ := dpa_two b
    exact ⟨_, _, _, rfl, a, c, c2⟩
theorem dpa_four {vs : List V} {d2 d3 d4 : PyData} (h : DpAll K H vs [d, d2, d3, d4]) : ∃ v v2 v3 v4, vs = [v, v2, v3, v4] ∧ Dp K H v d ∧ Dp K H v2 d2 ∧ Dp K H v3 d3 ∧ Dp K H v4 d4 := by
  cases h with
  | cons a b =>
    obtain ⟨v, v2, v3, rfl, c, c2, c3⟩ := dpa_three b
    exact ⟨_, _, _, _, rfl, a, c, c2, c3⟩
/-- a tuple of ints, an int -/
theorem dpa_ti {vs : List V} {i : Int} (h : DpAll K H vs [d, .int i]) : ∃ v v1, vs = [v, v1] ∧ Dp K H v d ∧ v1 = .int i := by
  obtain ⟨v, v1, rfl, a, b⟩ := dpa_two h
  exact ⟨v, v1, rfl, a, dp_int b⟩
/-- an int, a tuple -/
theorem dpa_it {vs : List V} {i : Int} (h : DpAll K H vs [.int i, d]) : ∃ v, vs = [.int i, v] ∧ Dp K H v d := by
  obtain ⟨v, v1, rfl, a, b⟩ := dpa_two h
  cases dp_int a
  exact ⟨v1, rfl, b⟩
theorem dpa_iti {vs : List V} {i j : Int} (h : DpAll K H vs [.int i, d, .int j]) : ∃ v, vs = [.int i, v, .int j] ∧ Dp K H v d := by
  obtain ⟨v, v1, v2, rfl, a, b, c⟩ := dpa_three h
  cases dp_int a
  cases dp_int c
  exact ⟨v1, rfl, b⟩
theorem decide_vint (a b : Int) : decide (V.int a = V.int b) = decide (a = b) := by
  by_cases h : a = b
  · subst h; simp
  · simp [h]
/-- what is handed back is told by what holds of it -/
def spX (K : PySem.W.Frag) (n : Nat) (Pre : List PyData → Prop) (Post : List PyData → PyData → Prop) : Sp := fun vs H Q _ => ∃ ds, DpAll K H vs ds ∧ ds.length = n ∧ Pre ds ∧ ∀ r v H', Post ds r → Ex H H' → Dp K H' v r → Q v H'
theorem spX_len {n : Nat} {Pre : List PyData → Prop} {Post : List PyData → PyData → Prop} {vs : List V} {Q : VK} {E : XK} (h : spX K n Pre Post vs H Q E) : vs.length = n := by
  obtain ⟨ds, h1, h2, _⟩ := h
  rw [dpa_len h1, h2]
end
end DL
set_option Elab.async false
set_option linter.all false
set_option maxRecDepth 100000
set_option maxHeartbeats 2000000
namespace DL
open PySem PySem.Spec PyProof.Rows L2 Evl
theorem immAll_app : ∀ {a b : List PyData}, immAll a = true → immAll b = true → immAll (a ++ b) = true
  | [], _, _, h => h
  | x :: a, b, ha, hb => by
    simp only [immAll, Bool.and_eq_true] at ha
    rw [List.cons_append, immAll, ha.1, immAll_app ha.2 hb]
    rfl
theorem immAll_map {α : Type} {f : α → PyData} (h : ∀ a, imm (f a) = true) : ∀ l : List α, immAll (l.map f) = true
  | [] => by simp [immAll]
  | a :: l => by rw [List.map_cons, immAll, h a, immAll_map h l]; rfl
theorem immAll_flat {α : Type} {f : α → List PyData} (h : ∀ a, immAll (f a) = true) : ∀ l : List α, immAll (l.flatMap f) = true
  | [] => by simp [immAll]
  | a :: l => by rw [List.flatMap_cons]; exact immAll_app (h a) (immAll_flat h l)
section
variable {K : PySem.W.Frag} {σ : L2.St} {H H' : Hp} {ta tb te : TE} {t u : TT} {d : PyData} {ds es : List PyData} {v : V} {ns : List Int}
/-- two fors, their targets names, the items ints and tuples -/
theorem en_lc2 {wi wi1 : TI} {a b : Nat} {vs vs1 : List Nat} (h : EvI K wi σ H [] ds) (hi : immAll ds = true) (ds1 : Nat → List PyData) (hi1 : ∀ i, immAll (ds1 i) = true) (f : Nat → Nat → PyData) (hf : ∀ i j, imm (f i j) = true)
    (hl : ∀ i, (ds1 i).length ≤ 100) (hn : ds.length ≤ 100) (hw : ∀ x, wipe ((wipe σ vs).set a (some x)) vs = wipe σ vs)
    (hw1 : ∀ x y, wipe ((wipe ((wipe σ vs).set a (some x)) vs1).set b (some y)) vs1 = wipe ((wipe σ vs).set a (some x)) vs1)
    (hs : ∀ i d x H3, ds[i]? = some d → Dp K H3 x d → (∀ S, Ls H3 S → EvI K wi1 ((wipe σ vs).set a (some x)) H3 S (ds1 i)) ∧
      ∀ j d' y H5, (ds1 i)[j]? = some d' → Dp K H5 x d → Dp K H5 y d' → EvD K te ((wipe ((wipe σ vs).set a (some x)) vs1).set b (some y)) H5 (f i j)) :
    EvN K (tLc2 wi (gName a) tYes wi1 (gName b) tYes te vs vs1) σ H ((List.range ds.length).flatMap fun i => (List.range (ds1 i).length).map (f i)) := fun H1 e Q q => h H1 e _ fun J H2 e2 w => fun Dl hD => by
  have len : ∀ n, n ≤ ds.length → (((List.range n).flatMap fun i => (List.range (ds1 i).length).map (f i))).length ≤ 100 * n := fun n => by
    induction n with
    | zero => intro _; simp
    | succ n ih =>
      intro hn
      rw [List.range_succ, List.flatMap_append, List.length_append]
      have h1 := ih (by omega)
      have h2 := hl n
      rw [List.flatMap_cons, List.flatMap_nil, List.append_nil, List.length_map, List.length_range]
      omega
  have imf : ∀ n, immAll ((List.range n).flatMap fun i => (List.range (ds1 i).length).map (f i)) = true := fun n => immAll_flat (fun i => immAll_map (hf i) _) _
  let G : Nat → Hp → Prop := fun n Ha => ∃ ws, Ex H2 Ha ∧ Ha Dl = some (.lst ws) ∧ DpAll K Ha ws ((List.range n).flatMap fun i => (List.range (ds1 i).length).map (f i))
  have G0 : G 0 (upd H2 Dl (.lst [])) := ⟨[], Ex.new hD, upd_same, by simp; exact .nil⟩
  refine ⟨fun i m Ha => m = ds.length - i ∧ i ≤ ds.length ∧ G i Ha, ⟨_, rfl, Nat.zero_le _, G0⟩, ?_⟩
  rintro i m Ha ⟨rfl, hi', p⟩
  obtain ⟨ws, p1, p2, p3⟩ := p
  have gX : Xp [] H2 Ha := Xp.of_ex p1
  by_cases hlt : i < ds.length
  · refine .inr ⟨w.goes i Ha hlt gX, G (i + 1), fun H' p' => ⟨ds.length - (i + 1), by omega, rfl, hlt, p'⟩, fun x Hb y => ?_⟩
    obtain ⟨ey, d, hd1, hd2⟩ := w.yields i Ha x Hb hlt gX y
    refine ⟨hw x, ?_⟩
    show wi1 _ Hb _
    have di : imm d = true := by
      have all : ∀ {l : List PyData} {i : Nat} {d : PyData}, immAll l = true → l[i]? = some d → imm d = true := by
        intro l
        induction l with
        | nil => intro i d _ e; simp at e
        | cons x l ih =>
          intro i d hh e
          simp only [immAll, Bool.and_eq_true] at hh
          cases i with
          | zero => simp at e; subst e; exact hh.1
          | succ i => exact ih hh.2 (by simpa using e)
      exact all hi hd1
    obtain ⟨hq1, hq2⟩ := hs i d x Hb hd1 hd2
    have atB : Hb Dl = some (.lst ws) := ey _ _ p2
    refine hq1 [Dl] (Ls.one atB) Hb (Ex.refl _) _ fun J1 H4 e4 w1 => ?_
    let G1 : Nat → Hp → Prop := fun j Hc => ∃ wt, Xp [Dl] H4 Hc ∧ Ex H2 Hc ∧ Hc Dl = some (.lst wt) ∧ DpAll K Hc wt (((List.range i).flatMap fun i => (List.range (ds1 i).length).map (f i)) ++ (List.range j).map (f i))
    have e24 : Ex H2 H4 := (p1.trans ey).trans e4
    have G10 : G1 0 H4 := ⟨ws, Xp.refl _ _, e24, e4 _ _ atB, by simp; exact dpa_ex (ey.trans e4) _ _ p3⟩
    have tx4 : ∀ {Hc}, Xp [Dl] H4 Hc → Tx H4 Hc := fun z => z.tx ((Ls.one atB).ex e4)
    refine ⟨fun j k Hc => k = (ds1 i).length - j ∧ j ≤ (ds1 i).length ∧ G1 j Hc, ⟨_, rfl, Nat.zero_le _, G10⟩, ?_⟩
    rintro j k Hc ⟨rfl, hj, wt, r1, r2, r3, r4⟩
    by_cases hjt : j < (ds1 i).length
    · refine .inr ⟨w1.goes j Hc hjt r1, G1 (j + 1), fun H' p' => ⟨(ds1 i).length - (j + 1), by omega, rfl, hjt, p'⟩, fun y2 Hd yy => ?_⟩
      obtain ⟨ez, d', hd1', hd2'⟩ := w1.yields j Hc y2 Hd hjt r1 yy
      refine ⟨hw1 x y2, ?_⟩
      show te _ Hd _
      have tx : Tx Hb Hd := ((Tx.of_ex e4).trans (tx4 r1)).trans (Tx.of_ex ez)
      refine hq2 j d' y2 Hd hd1' (dp_tx tx _ _ di hd2) hd2' Hd (Ex.refl _) _ fun v7 H7 e7 hv => ⟨wt, e7 _ _ (ez _ _ r3), ?_, wt ++ [v7], ?_, ?_, upd_same, ?_⟩
      · have l1 := dpa_len r4
        have l2 := len i (by omega)
        have l3 := hl i
        rw [List.length_append, List.length_map, List.length_range] at l1
        exact sz_lt (by omega)
      · exact Xp.upd (Xp.then r1 (ez.trans e7)) (by simp)
      · exact Ex.mut ((r2.trans ez).trans e7) hD
      · have at7 : H7 Dl = some (.lst wt) := e7 _ _ (ez _ _ r3)
        rw [List.range_succ (n := j), List.map_append, ← List.append_assoc]
        refine dpa_app (dpa_tx (Tx.lst at7) _ _ (immAll_app (imf i) (immAll_map (hf i) _)) (dpa_ex (ez.trans e7) _ _ r4)) ?_
        exact .cons (dp_tx (Tx.lst at7) _ _ (hf i j) hv) .nil
    · have ej : j = (ds1 i).length := by omega
      subst ej
      refine .inl ⟨w1.stops Hc r1, wt, r2, r3, ?_⟩
      rw [List.range_succ, List.flatMap_append]
      simpa using r4
  · have ei : i = ds.length := by omega
    subst ei
    exact .inl ⟨w.stops Ha gX, q Dl ws Ha (fresh_back e2 hD) (e2.trans p1) p2 p3⟩
end
/-- a statement, then the rest -/
theorem q_asgD {t1 t2 : TS} {D : Ends} {σ : L2.St} {H : Hp} (h : t1 { D with nx := t2 D } σ H) : tSeq t1 t2 D σ H := h
section
variable {K : PySem.W.Frag} {σ : L2.St} {H H' : Hp} {ta tb te : TE} {d : PyData} {ds : List PyData} {D : Ends} {tz : TS}
theorem qd_asg {k : Nat} (h : EvD K te σ H d) (q : ∀ v H1, Ex H H1 → Dp K H1 v d → tz D (σ.set k (some v)) H1) : tSeq (tAsg te (gName k)) tz D σ H := h H (Ex.refl H) _ q
theorem qn_asg {k : Nat} (h : EvN K te σ H ds) (q : ∀ p vs H1, H p = none → Ex H H1 → H1 p = some (.lst vs) → DpAll K H1 vs ds → tz D (σ.set k (some (.ref p))) H1) : tSeq (tAsg te (gName k)) tz D σ H := h H (Ex.refl H) _ q
theorem qi_asg {k : Nat} {v : V} (h : Ev te σ H v) (q : ∀ H1, Ex H H1 → tz D (σ.set k (some v)) H1) : tSeq (tAsg te (gName k)) tz D σ H := h H (Ex.refl H) _ q
theorem qd_drop (h : EvD K te σ H d) (q : ∀ H1, Ex H H1 → tz D σ H1) : tSeq (tDrop te) tz D σ H := h H (Ex.refl H) _ fun _ H1 e _ => q H1 e
theorem qd_app {l : Addr} {xs : List V} (hl : H l = some (.lst xs)) (ha : Ev ta σ H (.ref l)) (h : EvD K te σ H d) (hz : xs.length < 100000) (q : ∀ v H1, Ex H H1 → Dp K H1 v d → tz D σ (upd H1 l (.lst (xs ++ [v])))) :
    tSeq (tDrop (tBM K "list" rAppend ta (tCons te tNil))) tz D σ H := d_app (D := { D with nx := tz D }) hl ha h hz q
end
/-! ### a tuple times 1 and more -/
theorem tuple_mul1 (l : Addr) (items : Array Value) (n : Nat) (dd : Option Addr) (sl : Array (Option Value)) (u : Tok) :
    Meets (Builtin.«tuple.__mul__» ⟨[.ref l, .int 1 u], []⟩) (fun _ R s => s.heap.get? l = some { cls := .type "tuple", dict := dd, data := .seq items n, slots := sl } ∧ R (.ok (.ret (Value.ref l))) s) :=
  .of_wp fun prog w A R s h => by
    obtain ⟨hp, g, d, tk, os⟩ := s
    obtain ⟨hl, h⟩ := h
    have f1 := AutoSeq1.idx_int
    have c0 : (decide ((1 : Int) < -(2 ^ 63)) || decide ((1 : Int) ≥ 2 ^ 63)) = false := by decide
    have c1 : (items.isEmpty || ((1 : Int) == 1)) = true := by simp
    wp_walk using AutoSeq1.wpAny_loadPart' hl
    repeat (first
      | (refine wpAny_ite_false (decide_eq_false (by rw [c0]; exact Bool.false_ne_true)) ?_; wp_walk using AutoSeq1.wpAny_loadPart' hl)
      | (refine wpAny_ite_true (decide_eq_true c1) ?_; wp_walk using AutoSeq1.wpAny_loadPart' hl))
    exact ⟨_, rfl, h⟩
def rMul1 (K : PySem.W.Frag) : R2 := fun x y H Q => ∃ l xs, x = .ref l ∧ y = .int 1 ∧ SqT K H l xs ∧ Q (.ref l) H
theorem op_mul1 {X : Cx} : OpR X (binaryOp .Mult) (rMul1 X.K) := by
  intro pins s σ H x y v u Q I rx ry h
  obtain ⟨l, xs, rfl, rfl, hT, q⟩ := h
  cases rx
  obtain ⟨t, rfl⟩ := ry
  obtain ⟨its, r, ⟨⟨cls, dd, data, sl⟩, ho, hc, n, hd⟩, hs⟩ := I.tuple hT
  simp only at hc hd
  subst hc hd
  exact wpAny_binaryOp_repeat_ref (T := "tuple") (U := "int") (by decide) ⟨_, ho, rfl⟩ (fun s' => typeIs_int s' 1 t) noFill_tuple_mul F.fills_int_mul F.slot_int_rmul repeat_tuple
    F.slot_int_index.lookup (call_meets F.slot_int_rmul (typeIs_int s 1 t) F.entry_int_rmul (F.args_int_rmul_2 _ _) (int_rmul_tuple 1 t l its.toArray n dd sl)
      ⟨ho, rfl, ⟨_, ho, rfl⟩, call_meets F.slot_tuple_mul ⟨_, ho, rfl⟩ F.entry_tuple_mul (F.args_tuple_mul_2 _ _) (tuple_mul1 l its.toArray n dd sl t) ⟨ho, ⟨.ref l, H, I, rfl, q⟩⟩⟩)
theorem op_repT1 {X : Cx} : OpR X (binaryOp .Mult) (fun x y H Q => rMul1 X.K x y H Q ∨ rRepT X.K x y H Q) := OpR.or op_mul1 op_repT
section
variable {K : PySem.W.Frag} {σ : L2.St} {H H' : Hp} {ta tb te : TE} {d : PyData}
theorem ed_rep1 {n : Int} (ha : EvD K ta σ H (.tuple [d])) (hb : Ev tb σ H (.int n)) (h1 : 1 ≤ n) (h2 : n ≤ 1000) : EvD K (tOp (fun x y H Q => rMul1 K x y H Q ∨ rRepT K x y H Q) ta tb) σ H (.tuple (List.replicate n.toNat d)) := fun H1 e Q q =>
  ha H1 e _ fun x H2 e2 hx => hb H2 (e.trans e2) _ fun H3 e3 => by
    cases hx with
    | tup hs hd =>
      cases hd with
      | cons a b =>
        cases b
        rename_i v
        by_cases hn : n = 1
        · subst hn
          exact .inl ⟨_, _, rfl, rfl, ex_t e3 hs, q _ H3 (e2.trans e3) (.tup (ex_t e3 hs) (.cons (dp_ex e3 _ _ a) .nil))⟩
        · refine .inr ⟨_, n, _, rfl, rfl, ex_t e3 hs, by simp, by omega, h2, by simp, fun l hl => ?_⟩
          have ef : (List.replicate n.toNat [v]).flatten = List.replicate n.toNat v := by
            induction n.toNat with
            | zero => rfl
            | succ k ih => rw [List.replicate_succ, List.flatten_cons, ih, List.replicate_succ]; rfl
          rw [ef]
          exact q _ _ ((e2.trans e3).trans (Ex.new hl)) (.tup (st_of upd_same) (dpa_rep (dp_ex (e3.trans (Ex.new hl)) _ _ a) _))
end
end DL
set_option Elab.async false
set_option linter.all false
set_option maxRecDepth 100000
set_option maxHeartbeats 2000000
namespace DL
open PySem PySem.Spec PyProof.Rows L2 Evl
section
variable {K : PySem.W.Frag} {σ : L2.St} {H H' : Hp} {ta tb te : TE} {d : PyData} {ds es : List PyData} {D : Ends} {tz : TS}
theorem g_three {g1 g2 g3 : TG} {d1 d2 d3 : PyData} {x : V} {Q : L2.St → Hp → Prop} (h : Dp K H x (.tuple [d1, d2, d3])) (k : ∀ v1 v2 v3, Dp K H v1 d1 → Dp K H v2 d2 → Dp K H v3 d3 → g1 v1 σ H fun σ1 H1 => g2 v2 σ1 H1 fun σ2 H2 => g3 v3 σ2 H2 Q) :
    gTup K 3 (gCons g1 (gCons g2 (gCons g3 gNil))) x σ H Q := by
  cases h with
  | tup hs ha =>
    cases ha with
    | cons a b =>
      cases b with
      | cons b c =>
        cases c with
        | cons c f =>
          cases f
          rename_i v1 v2 v3
          refine ⟨_, _, rfl, hs, rfl, v1, [v2, v3], rfl, ?_⟩
          have q := k v1 v2 v3 a b c
          have e : (fun σ1 H1 => g2 v2 σ1 H1 fun σ2 H2 => g3 v3 σ2 H2 Q) = fun σ1 H1 => gCons g2 (gCons g3 gNil) [v2, v3] σ1 H1 Q := by
            funext σ1 H1
            apply propext
            rw [gl_one]
            exact ⟨fun z => ⟨v2, [v3], rfl, z⟩, fun ⟨w, r, e, z⟩ => by cases e; exact z⟩
          rw [← e]
          exact q
/-- a, b = e; a, b, c = e -/
theorem qd_unp2 {a b : Nat} {d1 d2 : PyData} (h : EvD K te σ H (.tuple [d1, d2])) (k : ∀ v1 v2 H1, Ex H H1 → Dp K H1 v1 d1 → Dp K H1 v2 d2 → tz D ((σ.set a (some v1)).set b (some v2)) H1) :
    tSeq (tAsg te (gTup K 2 (gCons (gName a) (gCons (gName b) gNil)))) tz D σ H := h H (Ex.refl _) _ fun v H1 e hv => g_two hv fun v1 v2 h1 h2 => k v1 v2 H1 e h1 h2
theorem qd_unp3 {a b c : Nat} {d1 d2 d3 : PyData} (h : EvD K te σ H (.tuple [d1, d2, d3])) (k : ∀ v1 v2 v3 H1, Ex H H1 → Dp K H1 v1 d1 → Dp K H1 v2 d2 → Dp K H1 v3 d3 → tz D (((σ.set a (some v1)).set b (some v2)).set c (some v3)) H1) :
    tSeq (tAsg te (gTup K 3 (gCons (gName a) (gCons (gName b) (gCons (gName c) gNil))))) tz D σ H := h H (Ex.refl _) _ fun v H1 e hv => g_three hv fun v1 v2 v3 h1 h2 h3 => k v1 v2 v3 H1 e h1 h2 h3
/-- a list that is read and stays meanwhile -/
theorem ei_lstD (h : EvD K te σ H (.list ds)) (hi : immAll ds = true) : EvI K (iList K te) σ H [] ds := fun H1 e R r =>
  h H1 e _ fun w H2 e2 hw => by
    cases hw with
    | lst hs ha =>
      refine ⟨_, rfl, ⟨_, hs⟩, r _ H2 e2 ?_⟩
      rw [← dpa_len ha]
      refine walk_list.mono (fun Ha x => ex_l x.to_ex hs) fun i Ha x Hb hlt hg y => ?_
      obtain ⟨rfl, hx⟩ := y
      obtain ⟨d, hd1, hd2⟩ := dpa_getV (dpa_ex hg.to_ex _ _ ha) hx
      exact ⟨Ex.refl _, d, hd1, hd2⟩
theorem sqL_xp {p q : Addr} {vs : List V} {H1 Ha : Hp} (h : SqL K H q vs) (hp : H p = none) (e : Ex H H1) (x : Xp [p] H1 Ha) : SqL K Ha q vs := by
  have at_ : ∀ o, H q = some o → Ha q = some o := fun o ho => x q o (e q o ho) (fun hm => by
    have : q = p := by simpa using hm
    rw [this, hp] at ho
    cases ho)
  rcases h with (h | ⟨o, h⟩) | h
  · exact .inl (.inl (at_ _ h))
  · exact .inl (.inr ⟨o, at_ _ h⟩)
  · exact .inr h
/-- zip of two lists that are read -/
theorem ei_zipLL {es : List PyData} (ha : EvD K ta σ H (.list ds)) (hb : EvD K tb σ H (.list es)) (hi : immAll ds = true) (hj : immAll es = true) :
    EvI K (iZipM K false false (tCons ta (tCons tb tNil))) σ H [] (List.zipWith (fun x y => PyData.tuple [x, y]) ds es) := fun H1 e R r =>
  ha H1 e _ fun x H2 e2 hx => hb H2 (e.trans e2) _ fun y H3 e3 hy => by
    cases hx with
    | @lst a1 xs1 _ hs1 ha1 =>
      cases hy with
      | @lst a2 xs2 _ hs2 ha2 =>
        have hs1 := ex_l e3 hs1
        have ha1 := dpa_ex e3 _ _ ha1
        refine ⟨_, _, _, _, rfl, sqa_l hs1, sqa_l hs2, r _ H3 (e2.trans e3) ?_⟩
        rw [List.length_zipWith, ← dpa_len ha1, ← dpa_len ha2]
        have w := walk_zipM (K := K) (a := a1) (b := a2) (xs := xs1) (ys := xs2) (t := false) (u := false) (n := min xs1.length xs2.length) rfl
        refine (w.mono (fun Ha x => ⟨ex_l x.to_ex hs1, ex_l x.to_ex hs2⟩) fun i Ha v Hb hlt hg y => ?_)
        obtain ⟨T, v1, v2, rfl, hT, rfl, g1, g2⟩ := y
        obtain ⟨d1, q1, q2⟩ := dpa_getV (dpa_ex (hg.to_ex.trans (Ex.new hT)) _ _ ha1) g1
        obtain ⟨d2, q3, q4⟩ := dpa_getV (dpa_ex (hg.to_ex.trans (Ex.new hT)) _ _ ha2) g2
        refine ⟨Ex.new hT, .tuple [d1, d2], ?_, .tup (st_of upd_same) (.cons q2 (.cons q4 .nil))⟩
        rw [List.getElem?_zipWith, q1, q3]
theorem hu64 {A : Around} {k : Nat} (hr : Room k A) : A.units + 64 < cLine := by
  have := hr.un
  omega
theorem ix_tupK {X : Cx} (K : PySem.W.Frag) (h : X.K = K) : IxR X (rIxT K) := h ▸ ix_tup
theorem ix_listK {X : Cx} (K : PySem.W.Frag) (h : X.K = K) : IxR X (rIxL K) := h ▸ ix_list
theorem immAll_dI (l : List Int) : immAll (dI l) = true := immAll_ints l
theorem immAll_tI (l : List (List Int)) : immAll (l.map tI) = true := immAll_tIs l
end
end DL
set_option Elab.async false
set_option linter.all false
set_option maxRecDepth 100000
set_option maxHeartbeats 2000000
/-! an error that is caught, kept by a name and handed back -/
namespace DL
open PySem PySem.Spec PyProof.Rows L2
/-- an error of the class cls without attributes of its own -/
def ErO (cls : Value) (a : Addr) : HO := .ext fun h => ∃ oe : Obj, h.get? a = some oe ∧ Zc cls none oe ∧ ∃ vs, oe.data = .fields vs
theorem erO_ok {P : Program} {w : World} {H : Hp} {h : Heap} {a : Addr} {cls : Value} {oe : Obj} (e : h.get? a = some oe) (z : Zc cls none oe) (d : ∃ vs, oe.data = .fields vs) : ObjOk P w H h a (ErO cls a) :=
  ⟨⟨oe, e, z, d⟩, ⟨oe, e⟩, fun _ _ p k => by
    obtain ⟨u, hu, r⟩ := p
    exact ⟨u, k u hu, r⟩⟩
section
variable {X : Cx} {pins : List (Addr × Obj)} {σ : L2.St} {H : Hp} {s : Shared}
theorem inv_track {a : Addr} {cls : Value} {oe : Obj} (I : Inv X pins σ H s) (e : s.heap.get? a = some oe) (hn : H a = none) (h0 : X.s_0.heap.get? a = none) (nL : a ≠ X.env.locals) (np : ∀ p ∈ X.pn ++ pins, p.1 ≠ a)
    (z : Zc cls none oe) (d : ∃ vs, oe.data = .fields vs) : Inv X pins σ (upd H a (ErO cls a)) s := by
  have other : ∀ b u, H b = some u → upd H a (ErO cls a) b = some u := fun b u q => by
    rw [upd_ne (ne_of_none q hn)]
    exact q
  obtain ⟨fs, hd⟩ := d
  exact {
    ok := I.ok
    os := I.os
    bare := I.bare
    base := {
      keep := I.base.keep
      slot := I.base.slot
      free := fun b u q n hx => by
        have : b ≠ a := fun y => by rw [y, h0] at q; cases q
        rw [upd_ne this]
        exact I.base.free b u q n hx
      there := I.base.there
      tups := fun b xs q => other _ _ (I.base.tups b xs q)
      frzs := fun b u xs q => other _ _ (I.base.frzs b u xs q)
      tbls := fun b ps q => by
        obtain ⟨more, m⟩ := I.base.tbls b ps q
        exact ⟨more, other _ _ m⟩ }
    loc := I.loc
    cell := I.cell
    free := by rw [upd_ne (Ne.symm nL)]; exact I.free
    freeC := fun y c q => by
      have : c ≠ a := fun eq => by
        obtain ⟨v, o, ho, hv⟩ := I.cell y c q
        rw [eq, e] at ho
        cases ho
        rw [hd] at hv
        cases hv
      rw [upd_ne this]
      exact I.freeC y c q
    pin := fun p hp => by
      obtain ⟨p1, p2, p3⟩ := I.pin p hp
      exact ⟨p1, by rw [upd_ne (np p hp)]; exact p2, p3⟩
    hok := fun b u q => by
      by_cases hb : b = a
      · subst hb
        rw [upd_same] at q
        cases q
        exact erO_ok e z ⟨fs, hd⟩
      · rw [upd_ne hb] at q
        exact (I.hok b u q).stay (fun _ _ _ r => r) (fun _ r => other _ _ r) fun _ _ r => other _ _ r
    len := I.len }
/-- isinstance(e, C) of such an error -/
def rIsK (K : PySem.W.Frag) : List V → Hp → VK → Prop := fun xs H Q => ∃ (a D : Addr) (c : V) (cv : Value) (b : Bool), xs = [.ref a, c] ∧ H a = some (ErO (.ref D) a) ∧ ExcC K D ∧ (∀ u, RelV c u → u = cv) ∧ PySem.W.kitOne K (.ref D) cv = some b ∧ Q (.bl b) H
theorem call_isK : CallR X (.builtin "isinstance") (rIsK X.K) := by
  intro pins s σ H xs us Q I r h
  obtain ⟨a, D, c, cv, b, rfl, ha, C, hcv, e, q⟩ := h
  obtain ⟨u1, u2, rfl, ra, rc⟩ := vals2 r
  cases ra
  have ec := hcv _ rc
  subst ec
  obtain ⟨⟨oe, ho, hz, fs, hd⟩, _⟩ := I.hok a _ ha
  have J : PySem.W.InstAt s.heap a oe D none := by
    cases oe with
    | mk oc od oda osl =>
      obtain ⟨z1, z2⟩ := hz
      have z1 : oc = .ref D := z1
      have z2 : od = none := z2
      have hd : oda = .fields fs := hd
      subst z1 z2 hd
      exact ⟨ho, rfl, rfl, trivial⟩
  exact PySem.W.kia_one (PySem.W.handS_kitx_exc C.hg C.hk C.hs C.hd C.ha C.hn C.ht C.hm) I.kIn J e (fun z => nomatch z) fun tk => ⟨.bl b, H, I.kept (t' := tk) fun _ _ z => z, rfl, q⟩
end
end DL
set_option Elab.async false
set_option linter.all false
set_option maxRecDepth 100000
set_option maxHeartbeats 2000000
namespace DL
open PySem PySem.Spec PyProof.Rows L2
/-- what 'except x as n' wishes of an error that it takes for sure: behind the suite the error is known at its place -/
def wKeep (K : PySem.W.Frag) (c : Value) (i : Nat) (ts : Addr → Value → TS) (D : Ends) : WX := fun cls d σ H => PySem.W.exmOne K cls c = some true ∧ d = none ∧
  ∀ a, H a = none → ts a cls { nx := fun σ2 H2 => D.nx (σ2.set i none) (upd H2 a (ErO cls a)), rt := fun _ _ => False, bk := fun _ _ => False, ct := fun _ _ => False } (σ.set i (some (.ref a))) H
section
variable {X : Cx} {x n : Str} {c : Value} {i : Nat} {body suite : List Stmt} {b₀ : Stmt} {np pos pos' : Pos} {tb : WX → TS} {ts : Addr → Value → TS}
theorem frs_not {B h : Heap} {l : List Env} {a : Addr} {o : Obj} {fs : Array Value} (ff : h.FunFrames B l) (e : h.get? a = some o) (d : o.data = .fields fs) : a ∉ frs l := fun m => by
  obtain ⟨_, u, hu, no⟩ := ff.mem m
  rw [e] at hu
  cases hu
  exact no _ d
theorem ps_keep (hex : X.ex = []) (hst : X.stack = X.env :: X.outer) (hfr : X.env.frame = some X.env.locals) (nd : X.N.Nodup) (hi : X.N[i]? = some n) (loc : X.env.kindOf n = some .local) (cn : Names X x c)
    (hb : ∀ (W : WX) (pn : List (Addr × Obj)) (xe : Value → Shared → Prop), Takes (X.tr pn xe) W → PassesOwn (model X.prog X.w) X.A X.env xe → PSs (X.tr pn xe) body (tb W))
    (hsu : ∀ (a : Addr) (oe : Obj) (cls : Value) (pn : List (Addr × Obj)), Zc cls none oe → (∃ vs, oe.data = .fields vs) → PSs (X.suite a ((a, oe) :: pn)) (b₀ :: suite) (ts a cls)) :
    PS X (.Try body [.ExceptHandler (some (.Name x np)) (some n) (b₀ :: suite) pos'] [] [] pos) (fun D σ H => tb (wKeep X.K c i ts D) D σ H) := by
  constructor
  intro pins s σ H D I h
  have ok := I.ok
  have frames : X.A.frames = some (X.env :: X.outer) := ok.frames.trans (congrArg some hst)
  apply wpAny_Try_except
  have run := (hb (wKeep X.K c i ts D) (X.pn ++ pins)
    (fun e s1 => wpAny (model X.prog X.w) X.A (noteFrame e X.env)
      (fun _ s2 => wpAny (model X.prog X.w) X.A (setFlight e none)
        (fun _ s3 => wpAny (model X.prog X.w) X.A (handleBy e X.env [.ExceptHandler (some (.Name x np)) (some n) (b₀ :: suite) pos']) (SP X pins D) X.xe s3) X.xe s2) X.xe s1)
    (fun u t caught => ?_) PassesOwn.looking).run [] s σ H D (I.toTry _) h
  · refine wpAny_mono run (fun fl t sp => ?_) fun _ _ q => q
    cases fl with
    | ret u =>
      obtain ⟨v, σ1, H1, J, r, q⟩ := sp
      exact ⟨v, σ1, H1, J.ofTry ok, r, q⟩
    | next =>
      obtain ⟨σ1, H1, J, q⟩ := sp
      exact wpAny_execs_nil (show SP X pins D .next t from ⟨σ1, H1, J.ofTry ok, q⟩)
    | brk =>
      obtain ⟨σ1, H1, J, q⟩ := sp
      exact ⟨σ1, H1, J.ofTry ok, q⟩
    | cont =>
      obtain ⟨σ1, H1, J, q⟩ := sp
      exact ⟨σ1, H1, J.ofTry ok, q⟩
  · obtain ⟨a, B, sI, pinsT, σ1, H1, cls, d, rfl, JT, nb, up, sky, na, os, bare, hx, rfl, wish⟩ := caught
    have J : Inv X pins σ1 H1 sI := JT.ofTry ok
    rw [hst] at sky
    show wpAny (model X.prog X.w) X.A (noteFrame (.ref a) X.env) _ _ _
    refine Sky.land Zc.steady frames hfr sky fun hA flA upA => ?_
    have JA : Inv X pins σ1 H1 { t with heap := hA } := J.landed nb flA.1 (up.trans upA) os bare
    obtain ⟨oA, vA, eA, zA, dA⟩ := flA.there
    have nfr := frs_not flA.2.2.1 eA dA
    have nL : a ≠ X.env.locals := fun q => nfr (List.mem_filterMap.mpr ⟨X.env, List.mem_cons_self, hfr.trans (congrArg some q.symm)⟩)
    have nF : a ∉ X.fs := fun q => by
      obtain ⟨en, m, r⟩ := List.mem_filterMap.mp q
      exact nfr (List.mem_filterMap.mpr ⟨en, List.mem_cons_of_mem _ m, r⟩)
    have fresh : sI.heap.get? a = none := by
      cases q : sI.heap.get? a with
      | none => rfl
      | some o =>
        have z := nb a o q (by rw [hst]; exact nfr)
        rw [flA.2.1] at z
        cases z
    have fresh0 : X.s_0.heap.get? a = none := by
      cases q : X.s_0.heap.get? a with
      | none => rfl
      | some o =>
        obtain ⟨u, hu⟩ := J.base.there a o q (by rw [hex]; simp)
        rw [fresh] at hu
        cases hu
    have npin : ∀ p ∈ X.pn ++ pins, p.1 ≠ a := fun p hp q => by
      have z := (J.pin p hp).1
      rw [q, fresh] at z
      cases z
    have SA := JA.suite eA dA na nL nF
    apply wpAny_handleBy_cons
    · apply codeAny_handlers_test
      have LM := PySem.W.exm_one (M := model X.prog X.w) JA.kIn (e := a) (cls := cls) (fun A' Q' E' s' k q => wpAny_typeOf_ref (k _ _ eA) (by rw [zA.1]; exact q)) hx
      have named : ∀ {Q1 E1 : Value → Shared → Prop}, Q1 c { t with heap := hA } → wpAny (model X.prog X.w) (X.A.mark (some (.ref a))) (eval (.Name x np) X.env) Q1 E1 { t with heap := hA } := fun {Q1 E1} q => by
        obtain ⟨g, db, k | ⟨k, bt, nn⟩⟩ := cn
        · exact ld_glob (X := X.suite a ((a, oA) :: (X.pn ++ pins))) SA g k q db
        · exact ld_blt (X := X.suite a ((a, oA) :: (X.pn ++ pins))) SA g k bt q nn db
      apply named
      apply LM.here
      apply codeAny_handlers_suite_as
      refine HandSPX.lands_againZ flA fun hB flB upB => ?_
      have JB : Inv X pins σ1 H1 { t with heap := hB } := J.landed nb flB.1 ((up.trans upA).trans upB) os bare
      obtain ⟨oB, vB, eB, zB, dB⟩ := flB.there
      refine store_ok (X := X.suite a ((a, oB) :: (X.pn ++ pins))) (v := .ref a) (JB.suite eB dB na nL nF) nd hi (.inl loc) rfl (fun s5 S5 => ?_) (.inr loc)
      refine wpAny_mono ((hsu a oB cls (X.pn ++ pins) zB ⟨_, dB⟩).run [] s5 _ H1 _ S5 (wish a na)) (fun fl s6 sp => ?_) fun _ _ q => q.elim
      cases fl with
      | next =>
        obtain ⟨σ6, H6, S6, q6⟩ := sp
        have P6 : Inv X ((a, oB) :: pins) σ6 H6 s6 := {
          ok := ok
          os := S6.os
          bare := S6.bare
          base := S6.base
          loc := S6.loc
          cell := S6.cell
          free := S6.free
          freeC := S6.freeC
          pin := fun p hp => S6.pin p (by
            show p ∈ ((a, oB) :: (X.pn ++ pins)) ++ []
            rw [List.append_nil]
            rcases List.mem_append.mp hp with q | q
            · exact List.mem_cons_of_mem _ (List.mem_append_left _ q)
            · rcases List.mem_cons.mp q with q | q
              · rw [q]; exact List.mem_cons_self
              · exact List.mem_cons_of_mem _ (List.mem_append_right _ q))
          hok := S6.hok
          len := S6.len }
        refine gone_ok P6 nd hi loc fun s7 J7 => ?_
        obtain ⟨g7, n7, l7, _⟩ := J7.pin (a, oB) (List.mem_append_right _ List.mem_cons_self)
        have J8 : Inv X pins (σ6.set i none) H6 s7 := J7.pins_of fun p hp => J7.pin p (List.mem_append_right _ (List.mem_cons_of_mem _ hp))
        exact ⟨_, _, inv_track J8 g7 n7 fresh0 l7 npin zB ⟨_, dB⟩, q6⟩
      | brk => exact (sp.elim fun _ z => z.elim fun _ z => z.2.elim)
      | cont => exact (sp.elim fun _ z => z.elim fun _ z => z.2.elim)
      | ret u => exact (sp.elim fun _ z => z.elim fun _ z => z.elim fun _ z => z.2.2.elim)
    · intro q
      cases q
end
end DL
set_option Elab.async false
set_option linter.all false
set_option maxRecDepth 100000
set_option maxHeartbeats 4000000
/-! a lambda without parameters as a value: made, held by a name, called by a def that catches what it raises -/
namespace DL
open PySem PySem.Spec PyProof.Rows L2 LamX
/-- the lambda at f, its code object at c' -/
def LamO (f c' : Addr) (q : Str) (params : Arguments) (body : Expr) (scope : Scope) (cl : List (Str × Addr)) : HO := .ext fun h => ∃ pm ctv : Value, h.get? f = some (PySem.W.kla_obj "<lambda>" q params body scope cl pm c' ctv)
theorem lamO_ok {P : Program} {w : World} {H : Hp} {h : Heap} {f c' : Addr} {q : Str} {params : Arguments} {body : Expr} {scope : Scope} {cl : List (Str × Addr)} {pm ctv : Value} (e : h.get? f = some (PySem.W.kla_obj "<lambda>" q params body scope cl pm c' ctv)) :
    ObjOk P w H h f (LamO f c' q params body scope cl) := ⟨⟨pm, ctv, e⟩, ⟨_, e⟩, fun _ _ z k => by
  obtain ⟨u, v, r⟩ := z
  exact ⟨u, v, k _ r⟩⟩
def tLamV (T : List (Addr × Str)) (q : Str) (params : Arguments) (body : Expr) (scope : Scope) (cl : List (Str × Addr)) : TE := fun σ H Q => Tabs T H ∧ ∀ f c' H1, ExtN H H1 → Tabs T H1 → H f = none → H1 f = none → H1 c' = some (CodeO c' q) → Q (.ref f) (upd H1 f (LamO f c' q params body scope cl))
section
variable {X : Cx} {T : List (Addr × Str)} {c P : Addr} {params : Arguments} {body : Expr} {scope : Scope} {pos : Pos}
theorem pe_lamV (TB : TabB X.base X.mg c P) (code : X.env.code = .ref c) (hm : (P, X.env.qual ++ "<lambda>") ∈ T) (hu : ∀ p ∈ T, p.1 = P → p.2 = X.env.qual ++ "<lambda>") (L : LamS X.env.scope scope) (hdef : defaultsOf params X.env = ([], [])) :
    PE X (.Lambda params body scope pos) (tLamV T (X.env.qual ++ "<lambda>") params body scope (cloFrom X.env.cells scope.names [])) := by
  constructor
  intro pins s σ H Q I hh
  obtain ⟨tabs, k⟩ := hh
  obtain ⟨ps, atP, tri, among⟩ := tabs _ hm
  have free := L.has I.ok
  apply PySem.W.kla_eval hdef
  have bi : s.heap.BuiltinsAt X.mg P := TB.bm.keeps I.bk
  have heapP : s.heap.get? P = some { cls := .none, data := .fields ps } := I.hok P _ atP
  cases look : codeAmong pos ps.toList with
  | some cv =>
    obtain ⟨c', rfl, hc'⟩ := among pos cv look
    apply PySem.W.kla_makeFunctionHit (mg := X.mg) (c := c) (P := P) (ps := ps) (closure_ok free) I.ok.glob (I.mod.glob.keeps I.bk) code (TB.code.keeps I.bk) heapP tri look bi
    intro ctv h2 tk keep size
    have J : Inv X pins σ H { s with heap := h2, toks := tk } := I.kept keep
    have n2 : H h2.objs.size = none := I.hok.fresh size
    have J2 := J.laid (t' := tk) (h' := h2.push (PySem.W.kla_obj "<lambda>" (X.env.qual ++ "<lambda>") params body scope (cloFrom X.env.cells scope.names []) ((X.mg "__name__").getD .none) c' ctv)) (fun _ _ z => Heap.get?_push_of_some _ z) (Nat.le_refl _)
      (lamO_ok (f := h2.objs.size) (c' := c') (Heap.get?_push_size _ rfl))
    exact ⟨V.ref h2.objs.size, _, J2, rfl, k _ c' H (ExtN.refl H) tabs n2 n2 hc'⟩
  | none =>
    apply PySem.W.kla_makeFunction (mg := X.mg) (c := c) (P := P) (ps := ps) (closure_ok free) I.ok.glob (I.mod.glob.keeps I.bk) code (TB.code.keeps I.bk) heapP tri look TB.gP bi
    intro c' ctv h2 tk but ge lt rec0 tab
    obtain ⟨c2, oc, fs, t, e2, oc2, fd, fq⟩ := rec0
    cases e2
    have nC : H c' = none := I.hok.fresh ge
    have size : s.heap.objs.size ≤ h2.objs.size := Nat.le_trans ge (Nat.le_of_lt lt)
    have nF : H h2.objs.size = none := I.hok.fresh size
    have J := inv_table (t' := tk) (h' := h2) (c := c') (q := X.env.qual ++ "<lambda>") (more := #[rawInt pos.line, rawInt pos.col, .ref c']) I atP (fun b o nb z => but b o nb z) tab ge ⟨oc, fs, t, oc2, fd, fq⟩
    have ext : ExtN H (upd (upd H P (.tbl (ps ++ #[rawInt pos.line, rawInt pos.col, .ref c']))) c' (CodeO c' (X.env.qual ++ "<lambda>"))) := fun b o z n => by
      have b1 : b ≠ c' := ne_of_none z nC
      have b2 : b ≠ P := fun y => by
        rw [y, atP] at z
        exact n ps (Option.some.inj z).symm
      rw [upd_ne b1, upd_ne b2]
      exact z
    have toL : (ps ++ #[rawInt pos.line, rawInt pos.col, .ref c']).toList = ps.toList ++ [rawInt pos.line, rawInt pos.col, .ref c'] := by simp
    have tabs2 : Tabs T (upd (upd H P (.tbl (ps ++ #[rawInt pos.line, rawInt pos.col, .ref c']))) c' (CodeO c' (X.env.qual ++ "<lambda>"))) := fun p hp => by
      by_cases hb : p.1 = P
      · rw [hu p hp hb, hb]
        refine ⟨ps ++ #[rawInt pos.line, rawInt pos.col, .ref c'], ?_, ?_, fun p2 cv z => ?_⟩
        · rw [upd_ne (ne_of_none atP nC), upd_same]
        · rw [toL]
          exact PySem.TriplesOk_snoc _ _ _ _ tri
        · rw [toL] at z
          rcases among_app _ tri z with z | z
          · obtain ⟨c0, g1, g2⟩ := among p2 cv z
            exact ⟨c0, g1, ext _ _ g2 codeO_ne⟩
          · exact ⟨c', z, upd_same⟩
      · obtain ⟨ps2, g1, g2, g3⟩ := tabs p hp
        refine ⟨ps2, ?_, g2, fun p2 cv z => ?_⟩
        · rw [upd_ne (ne_of_none g1 nC), upd_ne hb]
          exact g1
        · obtain ⟨c0, r1, r2⟩ := g3 p2 cv z
          exact ⟨c0, r1, ext _ _ r2 codeO_ne⟩
    have fC : h2.objs.size ≠ c' := Nat.ne_of_gt lt
    have fP : h2.objs.size ≠ P := Nat.ne_of_gt (Nat.lt_of_lt_of_le (Heap.lt_size heapP) size)
    have none1 : upd (upd H P (.tbl (ps ++ #[rawInt pos.line, rawInt pos.col, .ref c']))) c' (CodeO c' (X.env.qual ++ "<lambda>")) h2.objs.size = none := by
      rw [upd_ne fC, upd_ne fP]
      exact nF
    have J2 := J.laid (t' := tk) (h' := h2.push (PySem.W.kla_obj "<lambda>" (X.env.qual ++ "<lambda>") params body scope (cloFrom X.env.cells scope.names []) ((X.mg "__name__").getD .none) c' ctv)) (fun _ _ z => Heap.get?_push_of_some _ z) (Nat.le_refl _)
      (lamO_ok (f := h2.objs.size) (c' := c') (Heap.get?_push_size _ rfl))
    exact ⟨V.ref h2.objs.size, _, J2, rfl, k _ c' _ ext tabs2 nF none1 upd_same⟩
end
end DL
set_option Elab.async false
set_option linter.all false
set_option maxRecDepth 100000
set_option maxHeartbeats 4000000
namespace DL
open PySem PySem.Spec PyProof.Rows L2 LamX
/-- a lambda's text, read in the def that made it: k levels of calls, tb what its expression does with what it raises -/
structure LamD (X : Cx) (k : Nat) (params : Arguments) (body : Expr) (scope : Scope) (tb : XK → TE) : Prop where
  L : LamS X.env.scope scope
  bind : ∀ (q : Str) (cl : List (Str × Addr)) (pm cv ctv : Value), bindArgs (PySem.W.kla_fn "<lambda>" q params body scope cl pm cv ctv) ⟨[], []⟩ = pure []
  run : ∀ (A : Around) (outer : List Env) (s : Shared) (H : Hp) (E : XK) (f c' : Addr), Room k (A.deeper (lamEnv X scope s.heap.objs.size f c')) → PE (lamCx X A outer s H E scope f c') body (tb E)
section
variable {X : Cx} {pins : List (Addr × Obj)} {σ : L2.St} {H : Hp} {s : Shared}
/-- work(), in a def that got the lambda -/
theorem pe_actT {CXg : CXT} {Eg : XK} {Ng : List Str} {qg : Str} {sg : Scope} {g : Addr} {cdg : Value} {params : Arguments} {body : Expr} {scope : Scope} {k i : Nat} {a : Str} {pn : List (Addr × Obj)} {xe : Value → Shared → Prop} {W : WX} {tb : XK → TE} {p1 p2 : Pos}
    (I : Inv X pins σ H s) (D : LamD X k params body scope tb) (tk : Takes ((cxOf CXg X.prog X.w X.K X.mg X.base Ng qg sg g cdg X.A X.stack s H Eg).tr pn xe) W) (hr : Room (k + 1) (X.A.deeper (envOfC qg sg s.heap.objs.size g cdg)))
    (hN : Ng[i]? = some a) (hv : Vis sg a) (hd : (a == ("__debug__" : Str)) = false := by decide) (hcd : (a == ("__classdict__" : Str)) = false := by decide) :
    PE ((cxOf CXg X.prog X.w X.K X.mg X.base Ng qg sg g cdg X.A X.stack s H Eg).tr pn xe) (.Call (.Name a p1) [] [] p2)
      (fun σZ HZ Q => ∃ f c', σZ[i]? = some (some (.ref f)) ∧ HZ f = some (LamO f c' (X.env.qual ++ "<lambda>") params body scope (cloFrom X.env.cells scope.names [])) ∧ HZ c' = some (CodeO c' (X.env.qual ++ "<lambda>")) ∧ tb (WE W σZ) σ HZ Q) := by
  constructor
  intro pinsZ sZ σZ HZ Q IZ hh
  obtain ⟨f, c', at_, hf, hc, go⟩ := hh
  have nm := (pe_var (pos := p1) (i := i) (X := (cxOf CXg X.prog X.w X.K X.mg X.base Ng qg sg g cdg X.A X.stack s H Eg).tr pn xe) hN hv hd hcd).run pinsZ sZ σZ HZ (fun v H1 => v = .ref f ∧ H1 = HZ) IZ ⟨.ref f, at_, rfl, rfl⟩
  apply wpAny_Call_Name_kw
  refine thn nm fun u s1 z => ?_
  obtain ⟨v, H1, I1, rv, rfl, rfl⟩ := z
  obtain rfl : u = Value.ref f := rv
  obtain ⟨⟨pm, ctv, of1⟩, _, _⟩ := I1.hok f _ hf
  obtain ⟨⟨oc, fs, t, oc1, fd, fq⟩, _, _⟩ := I1.hok c' _ hc
  refine PySem.W.callWith_F0 ⟨_, _, _, _, of1⟩ ?_
  have L := D.L
  have inner : codeAny (model X.prog X.w) (X.A.deeper (envOfC qg sg s.heap.objs.size g cdg)) (.call (.ref f) ⟨[], []⟩) (CR (L2.CX X.prog X.w) (envOfC qg sg s.heap.objs.size g cdg :: X.stack) X.prog X.w H1 s1 Q (WE W σZ)) s1 := by
    apply PySem.W.kla_callFunE hr.depth of1 rfl L.co L.gen rfl ⟨c', oc, fs, t, rfl, oc1, fd, fq⟩
    rw [D.bind]
    apply wpAny_pure
    refine wpAny_newFunctionEnv (fun y hy => (L.own y hy).2) (fun y hy => absurd hy (by simp)) (fun h1 ns sb => ?_) L.kind
    refine ⟨I1.nolimit.fresh _ sb, ?_⟩
    have keep : ∀ b o, s1.heap.get? b = some o → h1.get? b = some o := fun b o e => sb.extBut b o (Nat.ne_of_lt (Heap.lt_size e)) (Heap.get?_push_of_some _ e)
    have J := lam_start2 (A := X.A.deeper (envOfC qg sg s.heap.objs.size g cdg)) (outer := envOfC qg sg s.heap.objs.size g cdg :: X.stack) (E := WE W σZ) (f := f) (c' := c') (h₁ := h1) (tk := s1.toks + ([] : List (Str × Value)).length) I L I1.env0 hr.hd I1.base ns keep
    have ran := (D.run _ (envOfC qg sg s.heap.objs.size g cdg :: X.stack) s1 H1 (WE W σZ) f c' (hr.deeper _)).run [] _ _ H1 Q J go
    refine PySem.W.kla_codeExpr (wpAny_mono ran (fun v s2 z => ?_) fun _ _ z => z)
    obtain ⟨x, H2, J2, r2, q2⟩ := z
    exact ⟨x, H2, J2.os, J2.bare, J2.base, J2.hok, r2, q2⟩
  apply wpAny_call
  refine codeAny_mono inner fun r s2 z => ?_
  cases r with
  | ok fl =>
    cases fl with
    | ret u => exact I1.after z
    | next => exact z.elim
    | brk => exact z.elim
    | cont => exact z.elim
  | error e => exact passAt tk σZ pinsZ H1 s1 e s2 I1 z
end
end DL
set_option Elab.async false
set_option linter.all false
set_option maxRecDepth 100000
set_option maxHeartbeats 4000000
namespace DL
open PySem PySem.Spec PyProof.Rows L2 LamX
/-- caught = None / try: work() / except CallError as error: caught = error / return caught -/
abbrev caughtB (k0 : Nat) (p1 p2 p3 p4 p5 p6 p7 p8 p9 p10 p11 p12 p13 p14 : Pos) : List Stmt :=
  [.Assign [.Name "caught" p1] (.Constant .none k0 p2) p3,
   .Try [.Expr (.Call (.Name "work" p4) [] [] p5) p6] [.ExceptHandler (some (.Name "CallError" p7)) (some "error") [.Assign [.Name "caught" p8] (.Name "error" p9) p10] p11] [] [] p12,
   .Return (some (.Name "caught" p13)) p14]
/-- what calling it means: the error, kept, is handed back; None where there is none -/
def TTc (K : PySem.W.Frag) (CS : Addr) (tb : XK → TE) : TE := fun σ H Q => ∀ (E : XK) (Q2 : VK), (∀ cls H', PySem.W.exmOne K cls (.ref CS) = some true → (∀ a, H' a = none → Q (.ref a) (upd H' a (ErO cls a))) → E cls none H') → (∀ v H', Q .non H' → Q2 v H') → tb E σ H Q2
section
variable {X : Cx} {pins : List (Addr × Obj)} {σ : L2.St} {H : Hp} {s : Shared}
theorem caught_run {x : Str} {sg : Scope} {g CS : Addr} {cdg : Value} {params : Arguments} {body : Expr} {scope : Scope} {k k0 : Nat} {tb : XK → TE} {f c' : Addr} {Q : VK} {p1 p2 p3 p4 p5 p6 p7 p8 p9 p10 p11 p12 p13 p14 : Pos}
    (I : Inv X pins σ H s) (D : LamD X k params body scope tb) (hr : Room (k + 1) (X.A.deeper (envOfC x sg s.heap.objs.size g cdg))) (S : FnScope ["work", "caught", "error"] ["work"] sg)
    (ge : sg.names.lookup ("CallError" : Str) = some .globalImplicit) (me : X.mg "CallError" = some (.ref CS)) (le : sg.names.lookup ("error" : Str) = some .local) (lc : sg.names.lookup ("caught" : Str) = some .local) (lw : sg.names.lookup ("work" : Str) = some .local)
    (hf : H f = some (LamO f c' (X.env.qual ++ "<lambda>") params body scope (cloFrom X.env.cells scope.names []))) (hc : H c' = some (CodeO c' (X.env.qual ++ "<lambda>"))) (go : TTc X.K CS tb σ H Q) :
    ∃ t, PSs (cxOf CX0 X.prog X.w X.K X.mg X.base ["work", "caught", "error"] x sg g cdg X.A X.stack s H E0).nox (caughtB k0 p1 p2 p3 p4 p5 p6 p7 p8 p9 p10 p11 p12 p13 p14) t ∧
      t { nx := fun _ H' => Q .non H', rt := Q } (L2.start ["work", "caught", "error"] [.ref f]) H := by
  refine ⟨_, pss_cons (ps_set (i := 1) S.nd rfl (.inl lc) pe_non) (pss_cons
    (ps_keep (X := (cxOf CX0 X.prog X.w X.K X.mg X.base ["work", "caught", "error"] x sg g cdg X.A X.stack s H E0).nox) (i := 2) (c := .ref CS) (ts := fun _ _ => tAsg (tVar 2) (gName 1))
      (tb := fun W => tDrop (fun σZ HZ Q2 => ∃ f c', σZ[0]? = some (some (.ref f)) ∧ HZ f = some (LamO f c' (X.env.qual ++ "<lambda>") params body scope (cloFrom X.env.cells scope.names [])) ∧ HZ c' = some (CodeO c' (X.env.qual ++ "<lambda>")) ∧ tb (WE W σZ) σ HZ Q2))
      rfl rfl rfl S.nd rfl le ⟨ge, by decide, .inl me⟩
      (fun W pn xe tk _ => pss_one (ps_expr (pe_actT (CXg := CX0) (Eg := E0) (Ng := ["work", "caught", "error"]) I D tk hr rfl (.inl lw))))
      (fun a oe cls pn _ _ => pss_one (ps_set (i := 1) S.nd rfl (.inl lc) (pe_var (i := 2) rfl (.inl le))))) (pss_one (ps_ret (pe_var (i := 1) rfl (.inl lc))))), ?_⟩
  refine ⟨f, c', rfl, hf, hc, go _ _ (fun cls H' hx q => ?_) fun v H' q => ?_⟩
  · refine ⟨hx, rfl, fun a na => ?_⟩
    exact ⟨_, rfl, _, rfl, q a na⟩
  · exact ⟨_, rfl, q⟩
/-- x(y), y a lambda of this def -/
theorem pe_caught {x y : Str} {sg : Scope} {pg : Arguments} {g CS : Addr} {dV kV doc pm cdv ct oc : Value} {an od : Option Addr} {osl : Array (Option Value)} {k k0 j : Nat} {p py pos p1 p2 p3 p4 p5 p6 p7 p8 p9 p10 p11 p12 p13 p14 : Pos}
    (hg : Gl X x) (hm : X.mg x = some (.ref g)) (hk : PySem.W.keepIn X.K (.ref g) = true) (lk : X.K.lookup g = some ⟨oc, od, .func (PySem.W.fnOf x x pg (caughtB k0 p1 p2 p3 p4 p5 p6 p7 p8 p9 p10 p11 p12 p13 p14) sg dV kV doc pm an cdv ct), osl⟩)
    (hcg : PySem.W.codeIn X.K cdv x = true) (hb : L2.Binds X.K (PySem.W.fnOf x x pg (caughtB k0 p1 p2 p3 p4 p5 p6 p7 p8 p9 p10 p11 p12 p13 p14) sg dV kV doc pm an cdv ct) ["work"] []) (S : FnScope ["work", "caught", "error"] ["work"] sg)
    (ge : sg.names.lookup ("CallError" : Str) = some .globalImplicit) (me : X.mg "CallError" = some (.ref CS)) (le : sg.names.lookup ("error" : Str) = some .local) (lc : sg.names.lookup ("caught" : Str) = some .local) (lw : sg.names.lookup ("work" : Str) = some .local)
    (hr : Room (k + 2) X.A) (hN : X.N[j]? = some y) (hv : Vis X.env.scope y) (hdb : (x == ("__debug__" : Str)) = false := by decide) (hd : (y == ("__debug__" : Str)) = false := by decide) (hcd : (y == ("__classdict__" : Str)) = false := by decide) :
    PE X (.Call (.Name x p) [.Name y py] [] pos) (fun σ H Q => ∃ f c' params body scope tb, σ[j]? = some (some (.ref f)) ∧ H f = some (LamO f c' (X.env.qual ++ "<lambda>") params body scope (cloFrom X.env.cells scope.names [])) ∧ H c' = some (CodeO c' (X.env.qual ++ "<lambda>")) ∧ LamD X k params body scope tb ∧ TTc X.K CS tb σ H Q) := by
  constructor
  intro pins s σ H Q I hh
  obtain ⟨f, c', params, body, scope, tb, at_, hf, hc, D, go⟩ := hh
  apply wpAny_Call_Name_kw
  refine ld_glob I hg hm ?_ hdb
  have arg := (pa_cons (pe_var (pos := py) (i := j) (X := X) hN hv hd hcd) pa_nil).run pos pins s σ H (fun vs H1 => vs = [.ref f] ∧ H1 = H) I ⟨.ref f, at_, rfl, rfl⟩
  refine PySem.W.callWith_K (h₀ := X.base) I.ok.mod.kin hk (thn arg fun us s1 z => ?_) (by rfl) (by rfl)
  obtain ⟨vs, H1, I1, r, rfl, rfl⟩ := z
  refine ⟨I1.kIn, ?_⟩
  have lu : us.length = 1 := (Vals.length r).symm
  have inner : codeAny (model X.prog X.w) X.A (.call (.ref g) ⟨us, []⟩) (CR CX0 X.stack X.prog X.w H1 s1 Q E0) s1 := by
    refine run_ofS (N := ["work", "caught", "error"]) (ps := ["work"]) (us := us) (vs := [.ref f]) lk hcg S hr I1.env0 ?_ r rfl fun hr2 => ?_
    · have := hb s1 us I1.kIn (by simpa using lu)
      simpa using this
    · obtain ⟨t, ht, q⟩ := caught_run (x := x) (g := g) (cdg := cdv) (k0 := k0) (p1 := p1) (p2 := p2) (p3 := p3) (p4 := p4) (p5 := p5) (p6 := p6) (p7 := p7) (p8 := p8) (p9 := p9) (p10 := p10) (p11 := p11) (p12 := p12) (p13 := p13) (p14 := p14) I1 D hr2 S ge me le lc lw hf hc go
      exact ⟨t, ht.nox, q⟩
  apply wpAny_call
  refine codeAny_mono inner fun r2 s2 z => ?_
  cases r2 with
  | error e => exact (show False from z).elim
  | ok fl =>
    cases fl with
    | ret u => exact I1.after z
    | next => exact z.elim
    | brk => exact z.elim
    | cont => exact z.elim
end
end DL
set_option Elab.async false
set_option linter.all false
set_option maxRecDepth 100000
set_option maxHeartbeats 4000000
/-! defs that may raise an error of an own class; isinstance of data of any kind -/
namespace DL
open PySem PySem.Spec PyProof.Rows L2 Evl
/-- the type of data by its name -/
def tyD : PyData → String
  | .none => "NoneType"
  | .bool _ => "bool"
  | .int _ => "int"
  | .str _ => "str"
  | .list _ => "list"
  | .tuple _ => "tuple"
  | .dict _ => "dict"
section
variable {K : PySem.W.Frag} {σ : L2.St} {H H' : Hp} {ta tb te : TE} {d : PyData} {ds : List PyData} {v : V}
theorem tyD_dp (h : Dp K H v d) : TyX K H v (.type (tyD d)) := by
  cases h with
  | non => exact .base .non
  | bl b => exact .base (.bl b)
  | int i => exact .base (.int i)
  | str x => exact .base (.str x)
  | lst h _ => exact tyL h
  | tup h _ => exact tyT h
/-- isinstance(x, a built-in class) -/
theorem ev_isiD {nm : String} {b : Bool} (ha : EvD K ta σ H d) (hb : kitB (tyD d) nm = some b) : Ev (tCB (rIsi K) (tCons ta (tCons (tC (.ty nm)) tNil))) σ H (.bl b) := fun H1 e Q q =>
  ha H1 e _ fun x H2 e2 hx => ⟨_, _, _, _, b, rfl, .ty nm, tyD_dp hx, kit_ty hb, q H2 e2⟩
/-- data in, data out, or an error of the class at C -/
def spR (K : PySem.W.Frag) (n : Nat) (R : List PyData → PyData → Prop) (B : List PyData → Addr → Prop) : Sp := fun vs H Q E => ∃ ds, DpAll K H vs ds ∧ ds.length = n ∧
  ((∃ r, R ds r ∧ ∀ v H', Ex H H' → Dp K H' v r → Q v H') ∨ ∃ C, B ds C ∧ ∀ H', Ex H H' → E (.ref C) none H')
theorem spR_len {n : Nat} {R : List PyData → PyData → Prop} {B : List PyData → Addr → Prop} {vs : List V} {Q : VK} {E : XK} (h : spR K n R B vs H Q E) : vs.length = n := by
  obtain ⟨ds, h1, h2, _⟩ := h
  rw [dpa_len h1, h2]
theorem ed_callR {n : Nat} {R : List PyData → PyData → Prop} {B : List PyData → Addr → Prop} {E : XK} {tt : TA} (h : EvDA K tt σ H ds) (hl : ds.length = n) (hr : R ds d) : EvD K (tCall (spR K n R B) [] E tt) σ H d := fun H1 e Q q =>
  h H1 e _ fun vs H2 e2 hv => ⟨ds, by rw [List.append_nil]; exact hv, hl, .inl ⟨d, hr, fun v H3 e3 hd => q v H3 (e2.trans e3) hd⟩⟩
/-- an expression that raises -/
def EvB (E : XK) (te : TE) (σ : L2.St) (H : Hp) (C : Addr) : Prop := ∀ H1, Ex H H1 → ∀ Q : VK, (∀ H2, Ex H1 H2 → E (.ref C) none H2) → te σ H1 Q
theorem eb_callR {n : Nat} {R : List PyData → PyData → Prop} {B : List PyData → Addr → Prop} {E : XK} {tt : TA} {C : Addr} (h : EvDA K tt σ H ds) (hl : ds.length = n) (hb : B ds C) : EvB E (tCall (spR K n R B) [] E tt) σ H C := fun H1 e Q q =>
  h H1 e _ fun vs H2 e2 hv => ⟨ds, by rw [List.append_nil]; exact hv, hl, .inr ⟨C, hb, fun H3 e3 => q H3 (e2.trans e3)⟩⟩
/-- a statement e, e raising -/
theorem b_drop {E : XK} {D : Ends} {tz : TS} {C : Addr} (h : EvB E te σ H C) (q : ∀ H1, Ex H H1 → E (.ref C) none H1) : tSeq (tDrop te) tz D σ H := h H (Ex.refl _) _ q
end
/-- a def that may raise, called by its name -/
structure DFX (P : Program) (w : World) (K : PySem.W.Frag) (mg : Str → Option Value) (base : Heap) (nm : Str) (k : Nat) (ps : List Str) (sp : Sp) : Prop where
  ex : ∃ (f : Addr) (fd : FuncData), FnOk P w K mg base (L2.CX P w) k f fd ps sp ∧ mg nm = some (.ref f) ∧ PySem.W.keepIn K (.ref f) = true ∧ Binds K fd ps []
theorem pe_DX {X : Cx} {nm : Str} {k : Nat} {ps : List Str} {sp : Sp} {E : XK} {W : WX} {e : Expr} {es : List Expr} {t : TA} {p pos : Pos} (F : DFX X.prog X.w X.K X.mg X.base nm k ps sp) (tk : Takes X W) (hW : ∀ cls d σ H, E cls d H → W cls d σ H) (hr : Room k X.A) (hg : Gl X nm) (ha : PA X (e :: es) t)
    (hdb : (nm == ("__debug__" : Str)) = false := by decide) (he : starEach (e :: es) X.env = (false, eval e X.env) :: starEach es X.env := by rfl) (hpl : (backTo pos (starEach es X.env)).any (·.1) = false := by rfl) :
    PE X (.Call (.Name nm p) (e :: es) [] pos) (tCall sp [] E t) := by
  obtain ⟨f, fd, h1, h2, h3, h4⟩ := F.ex
  exact pe_call h1 hr hg h2 h3 h4 .nil (passes_call tk hW) ha hdb he hpl
/-- an own error class without own __init__ -/
structure ErC (K : PySem.W.Frag) (mg : Str → Option Value) (nm : Str) (C : Addr) : Prop where
  gC : mg nm = some (.ref C)
  q : ∃ (bmB : List Value), ExcBaseFacts "ValueError" "ValueError.__new__" "ValueError.__init__" bmB ∧ PySem.W.excIn K C bmB "ValueError.__new__" = true
  kC : PySem.W.keepIn K (.ref C) = true
  exC : PySem.W.subIn K (.ref C) (.type "BaseException") = some true
  tyC : PySem.W.typeIn K (.ref C) = some (.type "type")
/-- raise C(e) -/
theorem ps_raiseC {X : Cx} {W : WX} {C : Addr} {x : Str} {e : Expr} {ta : TE} {p pos pos2 : Pos} (hc : X.calm = true) (tk : Takes X W) (T : ErC X.K X.mg x C) (hg : Gl X x) (he : PE X e ta) (hs : starEach [e] X.env = (false, eval e X.env) :: starEach [] X.env := by rfl) (hdb : (x == ("__debug__" : Str)) = false := by decide) :
    PS X (.Raise (some (.Call (.Name x p) [e] [] pos)) none pos2) (fun _ σ H => ta σ H fun _ H1 => W (.ref C) none σ H1) := by
  obtain ⟨bm, F, q⟩ := T.q
  exact ps_raise hc tk (SkE.pmk_own1 F q T.gC T.kC (raises_own T.exC T.tyC) hg he hs hdb)
end DL
set_option Elab.async false
set_option linter.all false
set_option maxRecDepth 100000
set_option maxHeartbeats 4000000
/-! repr of lists and tuples of data; the guards stand empty -/
namespace DL
open PySem PySem.Spec PyProof.Rows L2 Evl
mutual
theorem noDict_dp {K : PySem.W.Frag} {H : Hp} : ∀ (d : PyData) (v : V), Dp K H v d → d.hasDict = false
  | .none, _, _ => by simp [PyData.hasDict]
  | .bool b, _, _ => by simp [PyData.hasDict]
  | .int i, _, _ => by simp [PyData.hasDict]
  | .str x, _, _ => by simp [PyData.hasDict]
  | .list ds, _, h => by
    cases h with
    | lst _ ha => simpa [PyData.hasDict] using noDict_dpa ds _ ha
  | .tuple ds, _, h => by
    cases h with
    | tup _ ha => simpa [PyData.hasDict] using noDict_dpa ds _ ha
  | .dict _, _, h => by cases h
theorem noDict_dpa {K : PySem.W.Frag} {H : Hp} : ∀ (ds : List PyData) (vs : List V), DpAll K H vs ds → PyData.hasDictAll ds = false
  | [], _, _ => by simp [PyData.hasDictAll]
  | d :: ds, _, h => by
    cases h with
    | cons a b =>
      rw [PyData.hasDictAll, noDict_dp d _ a, noDict_dpa ds _ b]
      rfl
end
/-- repr(x), x a list or a tuple of data -/
def rRepr (K : PySem.W.Frag) : List V → Hp → VK → Prop := fun xs H Q => ∃ (a : Addr) (d : PyData), xs = [.ref a] ∧ Dp K H (.ref a) d ∧ d.showable = true ∧ d.depth ≤ 90 ∧ d.shown.length ≤ sizeLine ∧ Q (.str d.shown) H
theorem call_repr {X : Cx} (hg : X.A.guards = some []) (hu : X.A.units + 100 < cLine) : CallR X (.builtin "repr") (rRepr X.K) := by
  intro pins s σ H xs us Q I r h
  obtain ⟨a, d, rfl, hd, hs, h64, hsz, q⟩ := h
  obtain rfl := Vals.ref1 r
  obtain ⟨as, rd⟩ := Dp.reads I d (.ref a) (.ref a) hd rfl
  exact repr_of_reads' rd hs (PyData.noDict_hsm (noDict_dp d _ hd)) hg (by omega) (fun _ _ e => e) (fun h' u tk k => ⟨.str d.shown, H, I.kept k, ⟨u, rfl⟩, q⟩) hsz
theorem guards_deeper (A : Around) (env : Env) : (A.deeper env).guards = A.guards := rfl
end DL
set_option Elab.async false
set_option linter.all false
set_option maxRecDepth 100000
set_option maxHeartbeats 4000000
/-! a law that asks repr: its def runs where no guard stands -/
namespace DL
open PySem PySem.Spec PyProof.Rows L2 Evl
structure FnG (P : Program) (w : World) (K : PySem.W.Frag) (mg : Str → Option Value) (base : Heap) (CX : CXT) (k : Nat) (f : Addr) (fd : FuncData) (ps : List Str) (sp : Sp) : Prop where
  len : ∀ vs H Q E, sp vs H Q E → vs.length = ps.length
  run : ∀ (A : Around) (outer : List Env) (s : Shared) (H : Hp) (args : Args) (us : List Value) (vs : List V) (Q : VK) (E : XK), A.guards = some [] → Room k A → Env0 P w K mg base A outer s H → BindsTo s fd args (ps.zip us) → Vals vs us → sp vs H Q E →
    codeAny (model P w) A (.call (.ref f) args) (CR CX outer P w H s Q E) s
theorem okG {P : Program} {w : World} {K : PySem.W.Frag} {mg : Str → Option Value} {base : Heap} {CX : CXT} {x qual : Str} {st : Stmt} {f : Addr} {fd : FuncData} {N ps : List Str} {k : Nat} {sp : Sp} (F : Fun K x qual st f fd) (S : FnScope N ps (defScope st)) (len : ∀ vs H Q E, sp vs H Q E → vs.length = ps.length)
    (body : ∀ (cdv : Value) (A : Around) (outer : List Env) (s : Shared) (H : Hp) (vs : List V) (Q : VK) (E : XK), A.guards = some [] → Room k (A.deeper (envOfC qual (defScope st) s.heap.objs.size f cdv)) → sp vs H Q E →
      ∃ t, PSs (cxOf CX P w K mg base N qual (defScope st) f cdv A outer s H E) (defBody st) t ∧ t { nx := fun _ H' => Q .non H', rt := Q } (L2.start N vs) H) : FnG P w K mg base CX (k + 1) f fd ps sp := by
  obtain ⟨⟨oc, od, kV, doc, pm, an, cdv, ct, osl, rfl, lk, hcd⟩, _⟩ := F
  exact ⟨len, fun A outer s H args us vs Q E hg hr e0 hb r h => LamX.run_ofS lk hcd S hr e0 hb r (len _ _ _ _ h) fun hr2 => body cdv A outer s H vs Q E hg hr2 h⟩
section
variable {P : Program} {w : World} {K : PySem.W.Frag} {mg mb : Str → Option Value} {CX : CXT} {k : Nat} {fa a : Addr} {fd : FuncData} {x : Str} {sp : Sp} {s1 : Shared} {vs : List Value} {ns : List Int}
theorem callG_at (KX : K.In s1.heap) (hns : s1.heap.Ns mainGlobals mg) (hb : s1.heap.Ns builtinsNs mb) (hbb : ∀ y : Str, y ≠ "__name__" → mb y = bootBuiltins y) (lim : s1.heap.NoLimit) (gens : s1.gens = #[])
    (obj : s1.heap.get? a = some { cls := .type "list", data := .seq vs.toArray }) (room : Room k callerA)
    (F : ∀ base : Heap, K.In base → base.Ns mainGlobals mg → FnG P w K mg base CX k fa fd [x] sp) (bind : ∀ (s : Shared) (u : Value), BindsTo s fd ⟨[u], []⟩ [(x, u)])
    (out : ∀ H e s', CX [] H s1 (fun _ _ _ => False) e s' → False) (H : Hp) (only : Only H) (ask : sp [.ref a] H (fun v _ => v = .bl true) fun _ _ _ => False)
    (held : HOk P w H s1.heap) (atA : ∀ b, H b ≠ none → b = a) (away : H a ≠ none → K.lookup a = none) :
    codeAny (model P w) callerA (.call (.ref fa) ⟨[.ref a], []⟩) (fun r s' => r = .ok (.ret (.bool true)) ∧ OldK s1.heap s'.heap ∧ s'.os = s1.os ∧ AllBare s'.gens) s1 := by
  have free : ∀ {b : Addr} {o : Obj}, s1.heap.get? b = some o → b ≠ a → (hidT s1.heap H).get? b = some o := fun {b o} e n => hidT_get e (by
    cases q : H b with
    | none => rfl
    | some u => exact absurd (atA b (by rw [q]; simp)) n)
  have names : ∀ {b : Addr} {m : Str → Option Value}, s1.heap.Ns b m → (hidT s1.heap H).Ns b m := fun {b m} z => by
    obtain ⟨o, es, ep, e, d, r⟩ := z
    refine ⟨o, es, ep, free e fun y => ?_, d, r⟩
    rw [y, obj] at e
    cases e
    exact nomatch (show Data.seq vs.toArray _ = Data.dict es ep from d)
  have written : K.In (hidT s1.heap H) := fun b o e => by
    by_cases y : b = a
    · refine hidT_get (KX b o e) ?_
      cases q : H b with
      | none => rfl
      | some u =>
        rw [y] at e q
        rw [away (by rw [q]; simp)] at e
        cases e
    · exact free (KX b o e) y
  obtain ⟨mc, l1, l2⟩ := lim
  have modu : Mod K mg (hidT s1.heap H) := ⟨written, names hns, ⟨mb, names hb, hbb⟩, ⟨mc, names l1, l2⟩⟩
  have env : Env0 P w K mg (hidT s1.heap H) callerA [] s1 H := ⟨rfl, modu, fun b o e => of_hidT e, Nat.le_of_eq (hidT_size _ _), trivial, fun b z => (List.not_mem_nil (show b ∈ ([] : List Addr) from z)).elim, held, .of_eq gens⟩
  refine codeAny_mono ((F _ written (names hns)).run callerA [] s1 H ⟨[.ref a], []⟩ [.ref a] [.ref a] _ _ rfl room env (bind s1 (.ref a)) (.cons rfl .nil) ask) fun r s2 z => ?_
  cases r with
  | error e => exact (out H e s2 z).elim
  | ok fl =>
    cases fl with
    | ret u =>
      obtain ⟨v, H2, os, bare, un, held2, rv, rfl⟩ := z
      obtain rfl : u = Value.bool true := rv
      refine ⟨rfl, OldK.of_keep fun b o e => ?_, os, bare⟩
      rcases only b with none_ | ⟨ob, xs, fz⟩
      · exact un.keep b o e none_ (by intro m; exact absurd (show b ∈ ([] : List Addr) from m) (by simp)) (by simp)
      · obtain ⟨o1, _⟩ := held b _ fz
        obtain ⟨o2, _⟩ := held2 b _ (un.frzs b ob _ fz)
        rw [e] at o1
        cases o1
        exact o2
    | next => exact z.elim
    | brk => exact z.elim
    | cont => exact z.elim
/-- the script is one of the module's own lists, or a list of its own -/
theorem callG (KX : K.In s1.heap) (hns : s1.heap.Ns mainGlobals mg) (hb : s1.heap.Ns builtinsNs mb) (hbb : ∀ y : Str, y ≠ "__name__" → mb y = bootBuiltins y) (lim : s1.heap.NoLimit) (gens : s1.gens = #[])
    (obj : s1.heap.get? a = some { cls := .type "list", data := .seq vs.toArray }) (isI : IntsAre vs ns) (few : ns.length ≤ sizeLine) (room : Room k callerA)
    (F : ∀ base : Heap, K.In base → base.Ns mainGlobals mg → FnG P w K mg base CX k fa fd [x] sp) (bind : ∀ (s : Shared) (u : Value), BindsTo s fd ⟨[u], []⟩ [(x, u)])
    (ask : ∀ H : Hp, Only H → SqL K H a (ns.map V.int) → sp [.ref a] H (fun v _ => v = .bl true) fun _ _ _ => False) (out : ∀ H e s', CX [] H s1 (fun _ _ _ => False) e s' → False) :
    codeAny (model P w) callerA (.call (.ref fa) ⟨[.ref a], []⟩) (fun r s' => r = .ok (.ret (.bool true)) ∧ OldK s1.heap s'.heap ∧ s'.os = s1.os ∧ AllBare s'.gens) s1 := by
  have vals := vals_ints isI
  have len := isI.length
  cases known : K.lookup a with
  | some o =>
    have e := KX a o known
    rw [obj] at e
    cases e
    have only : Only (fun _ : Addr => (none : Option HO)) := fun _ => .inl rfl
    have seq : SqL K (fun _ : Addr => (none : Option HO)) a (ns.map V.int) := .inr ⟨_, vs.toArray, _, known, rfl, rfl, rfl, by rw [List.size_toArray, len]; exact few, by simpa using vals⟩
    exact callG_at KX hns hb hbb lim gens obj room F bind out _ only (ask _ only seq) (fun b u z => nomatch (show (none : Option HO) = some u from z)) (fun b z => (z rfl).elim) fun z => (z rfl).elim
  | none =>
    let H : Hp := fun b => if b = a then some (.frz { cls := .type "list", data := .seq vs.toArray } (.lst (ns.map V.int))) else none
    have at_ : H a = some (.frz { cls := .type "list", data := .seq vs.toArray } (.lst (ns.map V.int))) := if_pos rfl
    have off : ∀ b, b ≠ a → H b = none := fun b n => if_neg n
    have only : Only H := fun b => by
      by_cases y : b = a
      · exact .inr ⟨_, _, y ▸ at_⟩
      · exact .inl (off b y)
    have seq : SqL K H a (ns.map V.int) := .inl (.inr ⟨_, at_⟩)
    refine callG_at KX hns hb hbb lim gens obj room F bind out H only (ask H only seq) (fun b u z => ?_) (fun b z => ?_) fun _ => known
    · by_cases y : b = a
      · subst y
        rw [at_] at z
        cases z
        exact ⟨obj, by rw [List.length_map]; exact few, vs, _, vals, obj⟩
      · rw [off b y] at z
        cases z
    · by_cases y : b = a
      · exact y
      · exact absurd (off b y) z
end
theorem walkG {l : PySem.W.OpenLaw} {n k : Nat} {q : Program} {loose : List Str} {XP : (Str → Option Value) → Heap → Prop} {YP : World → Heap → Prop} {d : DefRec} {K : Params → PySem.W.Frag} {CX : World → CXT} {sp : World → Sp} {x : Str}
    (most : l.most = some n) (line : n ≤ sizeLine) (plain : d.params.defaults = []) (room : Room k callerA) (keep : ∀ (w : World) (h : Heap), YP w h → (K w.params).In h)
    (F : ∀ (w : World) (mg : Str → Option Value) (fa : Addr) (h : Heap), (K w.params).In h → h.Ns mainGlobals mg → mg d.name = some (.ref fa) →
      ∃ fd : FuncData, (∀ (s : Shared) (u : Value), BindsTo s fd ⟨[u], []⟩ [(x, u)]) ∧ ∀ base : Heap, (K w.params).In base → base.Ns mainGlobals mg → FnG l.prog w (K w.params) mg base (CX w) k fa fd [x] (sp w))
    (ask : ∀ (w : World) (H : Hp) (a : Addr) (ns : List Int), ns.length ≤ n → Only H → SqL (K w.params) H a (ns.map V.int) → sp w [.ref a] H (fun v _ => v = .bl true) fun _ _ _ => False)
    (out : ∀ (w : World) (H : Hp) (s : Shared) (e : Value) (s' : Shared), CX w [] H s (fun _ _ _ => False) e s' → False) : PySem.W.WalkO q loose XP YP l.row.toRowW d [] (fun f vs => PySem.call f vs) := by
  apply Att.attach_call most plain
  intro w s0 s1 mg mb fa o pm cd doc a vs ns G Y ho hd hcd hmg hobj hints hlen hg
  obtain ⟨fd, hb, hF⟩ := F w mg fa _ (keep w _ Y) G.T.g hmg
  exact callG (keep w _ Y) G.T.g G.T.b G.T.builtins G.T.nolimit hg hobj hints (Nat.le_trans hlen line) room hF hb (fun H h1 h2 => ask w H a ns hlen h1 h2) fun H e s' => out w H s1 e s'
end DL
set_option Elab.async false
set_option linter.all false
set_option maxRecDepth 100000
set_option maxHeartbeats 4000000
/-! the same with the table of the law's own code objects (its lambdas) -/
namespace DL
open PySem PySem.Spec PyProof.Rows L2 Evl LamX
section
variable {P : Program} {w : World} {K : PySem.W.Frag} {mg mb : Str → Option Value} {CX : CXT} {k : Nat} {fa a c T : Addr} {fd : FuncData} {x : Str} {sp : Sp} {s1 : Shared} {vs : List Value} {ns : List Int}
theorem callT_at (KX : K.In s1.heap) (hns : s1.heap.Ns mainGlobals mg) (hb : s1.heap.Ns builtinsNs mb) (hbb : ∀ y : Str, y ≠ "__name__" → mb y = bootBuiltins y) (lim : s1.heap.NoLimit) (gens : s1.gens = #[])
    (tab : s1.heap.get? T = some { cls := .none, data := .fields #[] }) (free_ : K.lookup T = none) (code : PySem.W.CodeHd s1.heap c T)
    (bmod : ∃ (bm : Addr) (ob : Obj), mg "__builtins__" = some (.ref bm) ∧ bm ≠ builtinsNs ∧ s1.heap.get? bm = some ob ∧ ob.cls = .type "module" ∧ ob.dict = some builtinsNs ∧ ob.data = .plain)
    (obj : s1.heap.get? a = some { cls := .type "list", data := .seq vs.toArray }) (room : Room k callerA)
    (F : ∀ base : Heap, K.In base → base.Ns mainGlobals mg → TabB base mg c T → FnG P w K mg base CX k fa fd [x] sp) (bind : ∀ (s : Shared) (u : Value), BindsTo s fd ⟨[u], []⟩ [(x, u)])
    (out : ∀ H e s', CX [] H s1 (fun _ _ _ => False) e s' → False) (H : Hp) (atT : H T = some (.tbl #[])) (only : ∀ b, H b = none ∨ b = T ∨ ∃ o xs, H b = some (.frz o (.lst xs))) (ask : sp [.ref a] H (fun v _ => v = .bl true) fun _ _ _ => False)
    (held : HOk P w H s1.heap) (atA : ∀ b, H b ≠ none → b = a ∨ b = T) (away : H a ≠ none → K.lookup a = none) :
    codeAny (model P w) callerA (.call (.ref fa) ⟨[.ref a], []⟩) (fun r s' => r = .ok (.ret (.bool true)) ∧ OldK s1.heap s'.heap ∧ s'.os = s1.os ∧ AllBare s'.gens) s1 := by
  have none_of : ∀ {b : Addr}, b ≠ a → b ≠ T → H b = none := fun {b} n1 n2 => by
    cases q : H b with
    | none => rfl
    | some u =>
      rcases atA b (by rw [q]; simp) with y | y
      · exact absurd y n1
      · exact absurd y n2
  have free : ∀ {b : Addr} {o : Obj}, s1.heap.get? b = some o → b ≠ a → b ≠ T → (hidT s1.heap H).get? b = some o := fun {b o} e n1 n2 => hidT_get e (none_of n1 n2)
  -- an object that is neither a list nor a table
  have other : ∀ {b : Addr} {o : Obj}, s1.heap.get? b = some o → (∀ us n, o.data ≠ .seq us n) → o.data ≠ .fields #[] → b ≠ a ∧ b ≠ T := fun {b o} e n1 n2 => by
    refine ⟨fun y => ?_, fun y => ?_⟩
    · rw [y, obj] at e
      cases e
      exact n1 _ _ rfl
    · rw [y, tab] at e
      cases e
      exact n2 rfl
  have names : ∀ {b : Addr} {m : Str → Option Value}, s1.heap.Ns b m → (hidT s1.heap H).Ns b m := fun {b m} z => by
    obtain ⟨o, es, ep, e, d, r⟩ := z
    obtain ⟨n1, n2⟩ := other e (fun us n y => by rw [d] at y; cases y) (fun y => by rw [d] at y; cases y)
    exact ⟨o, es, ep, free e n1 n2, d, r⟩
  have written : K.In (hidT s1.heap H) := fun b o e => by
    refine hidT_get (KX b o e) ?_
    cases q : H b with
    | none => rfl
    | some u =>
      rcases atA b (by rw [q]; simp) with y | y
      · rw [y] at e q
        rw [away (by rw [q]; simp)] at e
        cases e
      · rw [y, free_] at e
        cases e
  obtain ⟨mc, l1, l2⟩ := lim
  have modu : L2.Mod K mg (hidT s1.heap H) := ⟨written, names hns, ⟨mb, names hb, hbb⟩, ⟨mc, names l1, l2⟩⟩
  have TB : TabB (hidT s1.heap H) mg c T := by
    refine ⟨?_, ?_, fun z => ?_⟩
    · obtain ⟨o, us, file, tf, flags, tg, inF, text, tt, e1, r1, r2, r3, r4⟩ := code
      obtain ⟨n1, n2⟩ := other e1 (fun us' n y => by rw [r2] at y; cases y) (fun y => by
        rw [r2] at y
        cases y
        simp at r3)
      exact ⟨o, us, file, tf, flags, tg, inF, text, tt, free e1 n1 n2, r1, r2, r3, r4⟩
    · obtain ⟨bm, ob, b1, b2, b3, b4, b5, b6⟩ := bmod
      obtain ⟨n1, n2⟩ := other b3 (fun us n y => by rw [b6] at y; cases y) (fun y => by rw [b6] at y; cases y)
      have nG : bm ≠ mainGlobals := fun y => by
        obtain ⟨o, es, ep, e, d, _⟩ := hns
        rw [y, e] at b3
        cases b3
        rw [d] at b6
        cases b6
      exact ⟨bm, ob, b1, b2, nG, n2, free b3 n1 n2, b4, b5, b6⟩
    · obtain ⟨o, es, ep, e, d, _⟩ := hns
      rw [z, tab] at e
      cases e
      cases d
  have env : Env0 P w K mg (hidT s1.heap H) callerA [] s1 H := ⟨rfl, modu, fun b o e => of_hidT e, Nat.le_of_eq (hidT_size _ _), trivial, fun b z => (List.not_mem_nil (show b ∈ ([] : List Addr) from z)).elim, held, .of_eq gens⟩
  refine codeAny_mono ((F _ written (names hns) TB).run callerA [] s1 H ⟨[.ref a], []⟩ [.ref a] [.ref a] _ _ rfl room env (bind s1 (.ref a)) (.cons rfl .nil) ask) fun r s2 z => ?_
  cases r with
  | error e => exact (out H e s2 z).elim
  | ok fl =>
    cases fl with
    | ret u =>
      obtain ⟨v, H2, os, bare, un, held2, rv, rfl⟩ := z
      obtain rfl : u = Value.bool true := rv
      have kept : ∀ b o, b ≠ T → s1.heap.get? b = some o → s2.heap.get? b = some o := fun b o nb e => by
        rcases only b with none_ | y | ⟨ob, xs, fz⟩
        · exact un.keep b o e none_ (by intro m; exact absurd (show b ∈ ([] : List Addr) from m) (by simp)) (by simp)
        · exact absurd y nb
        · obtain ⟨o1, _⟩ := held b _ fz
          obtain ⟨o2, _⟩ := held2 b _ (un.frzs b ob _ fz)
          rw [e] at o1
          cases o1
          exact o2
      obtain ⟨more, grown⟩ := un.tbls T #[] atT
      have now : s2.heap.get? T = some { cls := .none, data := .fields (#[] ++ more) } := held2 T _ grown
      refine ⟨rfl, ⟨fun b o e => ?_, fun b o e => ?_⟩, os, bare⟩
      · by_cases y : b = T
        · subst y
          rw [tab] at e
          cases e
          exact .inr (.inl ⟨(code.tab tab).isCodeTable, rfl, #[], more, rfl, now⟩)
        · exact .inl (kept b o y e)
      · by_cases y : b = T
        · exact ⟨_, y ▸ now⟩
        · exact ⟨o, kept b o y e⟩
    | next => exact z.elim
    | brk => exact z.elim
    | cont => exact z.elim
theorem callT (KX : K.In s1.heap) (hns : s1.heap.Ns mainGlobals mg) (hb : s1.heap.Ns builtinsNs mb) (hbb : ∀ y : Str, y ≠ "__name__" → mb y = bootBuiltins y) (lim : s1.heap.NoLimit) (gens : s1.gens = #[])
    (tab : s1.heap.get? T = some { cls := .none, data := .fields #[] }) (free_ : K.lookup T = none) (code : PySem.W.CodeHd s1.heap c T)
    (bmod : ∃ (bm : Addr) (ob : Obj), mg "__builtins__" = some (.ref bm) ∧ bm ≠ builtinsNs ∧ s1.heap.get? bm = some ob ∧ ob.cls = .type "module" ∧ ob.dict = some builtinsNs ∧ ob.data = .plain)
    (obj : s1.heap.get? a = some { cls := .type "list", data := .seq vs.toArray }) (isI : IntsAre vs ns) (few : ns.length ≤ sizeLine) (room : Room k callerA)
    (F : ∀ base : Heap, K.In base → base.Ns mainGlobals mg → TabB base mg c T → FnG P w K mg base CX k fa fd [x] sp) (bind : ∀ (s : Shared) (u : Value), BindsTo s fd ⟨[u], []⟩ [(x, u)])
    (ask : ∀ H : Hp, H T = some (.tbl #[]) → SqL K H a (ns.map V.int) → sp [.ref a] H (fun v _ => v = .bl true) fun _ _ _ => False) (out : ∀ H e s', CX [] H s1 (fun _ _ _ => False) e s' → False) :
    codeAny (model P w) callerA (.call (.ref fa) ⟨[.ref a], []⟩) (fun r s' => r = .ok (.ret (.bool true)) ∧ OldK s1.heap s'.heap ∧ s'.os = s1.os ∧ AllBare s'.gens) s1 := by
  have vals := vals_ints isI
  have len := isI.length
  have aT : a ≠ T := fun y => by
    rw [y, tab] at obj
    cases obj
  cases known : K.lookup a with
  | some o =>
    have e := KX a o known
    rw [obj] at e
    cases e
    let H : Hp := fun b => if b = T then some (.tbl #[]) else none
    have at_ : H T = some (.tbl #[]) := if_pos rfl
    have off : ∀ b, b ≠ T → H b = none := fun b n => if_neg n
    have seq : SqL K H a (ns.map V.int) := .inr ⟨_, vs.toArray, _, known, rfl, rfl, rfl, by rw [List.size_toArray, len]; exact few, by simpa using vals⟩
    refine callT_at KX hns hb hbb lim gens tab free_ code bmod obj room F bind out H at_ (fun b => ?_) (ask H at_ seq) (fun b u z => ?_) (fun b z => ?_) fun z => (z (off a aT)).elim
    · by_cases y : b = T
      · exact .inr (.inl y)
      · exact .inl (off b y)
    · by_cases y : b = T
      · subst y
        rw [at_] at z
        cases z
        exact tab
      · rw [off b y] at z
        cases z
    · by_cases y : b = T
      · exact .inr y
      · exact absurd (off b y) z
  | none =>
    let H : Hp := fun b => if b = a then some (.frz { cls := .type "list", data := .seq vs.toArray } (.lst (ns.map V.int))) else if b = T then some (.tbl #[]) else none
    have at_ : H a = some (.frz { cls := .type "list", data := .seq vs.toArray } (.lst (ns.map V.int))) := if_pos rfl
    have atT : H T = some (.tbl #[]) := (if_neg (Ne.symm aT)).trans (if_pos rfl)
    have off : ∀ b, b ≠ a → b ≠ T → H b = none := fun b n1 n2 => (if_neg n1).trans (if_neg n2)
    have seq : SqL K H a (ns.map V.int) := .inl (.inr ⟨_, at_⟩)
    refine callT_at KX hns hb hbb lim gens tab free_ code bmod obj room F bind out H atT (fun b => ?_) (ask H atT seq) (fun b u z => ?_) (fun b z => ?_) fun _ => known
    · by_cases y : b = a
      · exact .inr (.inr ⟨_, _, y ▸ at_⟩)
      · by_cases y2 : b = T
        · exact .inr (.inl y2)
        · exact .inl (off b y y2)
    · by_cases y : b = a
      · subst y
        rw [at_] at z
        cases z
        exact ⟨obj, by rw [List.length_map]; exact few, vs, _, vals, obj⟩
      · by_cases y2 : b = T
        · subst y2
          rw [atT] at z
          cases z
          exact tab
        · rw [off b y y2] at z
          cases z
    · by_cases y : b = a
      · exact .inl y
      · by_cases y2 : b = T
        · exact .inr y2
        · exact absurd (off b y y2) z
end
/-- the head of such a law -/
theorem walkT {l : PySem.W.OpenLaw} {n k : Nat} {q : Program} {loose : List Str} {XP : (Str → Option Value) → Heap → Prop} {YP : World → Heap → Prop} {d : DefRec} {K : Params → PySem.W.Frag} {CX : World → CXT} {x : Str}
    (most : l.most = some n) (line : n ≤ sizeLine) (plain : d.params.defaults = []) (room : Room k callerA) (keep : ∀ (w : World) (h : Heap), YP w h → (K w.params).In h)
    (F : ∀ (w : World) (mg : Str → Option Value) (fa : Addr) (h : Heap), YP w h → (K w.params).In h → h.Ns mainGlobals mg → mg d.name = some (.ref fa) →
      ∃ (fd : FuncData) (c T : Addr) (sp : Sp), h.get? T = some { cls := .none, data := .fields #[] } ∧ (K w.params).lookup T = none ∧ PySem.W.CodeHd h c T ∧ (∀ (s : Shared) (u : Value), BindsTo s fd ⟨[u], []⟩ [(x, u)]) ∧
        (∀ (H : Hp) (a : Addr) (ns : List Int), ns.length ≤ n → H T = some (.tbl #[]) → SqL (K w.params) H a (ns.map V.int) → sp [.ref a] H (fun v _ => v = .bl true) fun _ _ _ => False) ∧
        ∀ base : Heap, (K w.params).In base → base.Ns mainGlobals mg → TabB base mg c T → FnG l.prog w (K w.params) mg base (CX w) k fa fd [x] sp)
    (out : ∀ (w : World) (H : Hp) (s : Shared) (e : Value) (s' : Shared), CX w [] H s (fun _ _ _ => False) e s' → False) : PySem.W.WalkO q loose XP YP l.row.toRowW d [] (fun f vs => PySem.call f vs) := by
  apply Att.attach_call most plain
  intro w s0 s1 mg mb fa o pm cd doc a vs ns G Y ho hd hcd hmg hobj hints hlen hg
  obtain ⟨fd, c, T, sp, t1, t2, t3, bnd, ask, hF⟩ := F w mg fa _ Y (keep w _ Y) G.T.g hmg
  exact callT (keep w _ Y) G.T.g G.T.b G.T.builtins G.T.nolimit hg t1 t2 t3 G.T.bmain hobj hints (Nat.le_trans hlen line) room hF bnd (fun H h1 h2 => ask H a ns hlen h1 h2) fun H e s' => out w H s1 e s'
end DL
set_option Elab.async false
set_option linter.all false
set_option maxRecDepth 100000
set_option maxHeartbeats 4000000
/-! calls by names alone, the last parameter first -/
namespace DL
open PySem PySem.Spec PyProof.Rows L2 Evl
def gR (_ : List Value) (ws : List Value) : List Value := ws.reverse
def gRV (_ : List V) (zs : List V) : List V := zs.reverse
theorem vals_rev : ∀ {zs : List V} {ws : List Value}, Vals zs ws → Vals zs.reverse ws.reverse
  | _, _, .nil => .nil
  | _, _, .cons a t => by
    rw [List.reverse_cons, List.reverse_cons]
    exact Vals.append (vals_rev t) (.cons a .nil)
/-- the parameters bound by their names, in any order -/
def KwR (K : PySem.W.Frag) (fd : FuncData) (ps : List Str) : Prop := ∀ (s : Shared) (ws : List Value), K.In s.heap → ws.length = ps.length → BindsTo s fd ⟨[], ps.reverse.zip ws⟩ (ps.zip ws.reverse)
theorem kbn_rev {K : PySem.W.Frag} {fd : FuncData} {ps : List Str} (h : KwR K fd ps) : KBn K fd ps 0 ps.reverse gR gRV where
  to := fun s us ws k l1 l2 => by
    obtain rfl := List.eq_nil_of_length_eq_zero l1
    exact h s ws k (by rw [l2, List.length_reverse])
  rel := fun _ r => vals_rev r
/-- f(b = y, a = x) -/
def tCallR (n : Nat) (sp : Sp) (E : XK) (tk : TA) : TE := fun σ H Q => tk σ H fun zs H2 => zs.length = n ∧ sp zs.reverse H2 Q E
theorem pe_kw {X : Cx} {CX : CXT} {k : Nat} {f : Addr} {fd : FuncData} {ps : List Str} {sp : Sp} {E : XK} {x : Str} {p pos : Pos} {kws : List Keyword} {tk : TA} (F : FnOk X.prog X.w X.K X.mg X.base CX k f fd ps sp) (hr : Room k X.A) (hg : Gl X x) (hm : X.mg x = some (.ref f)) (hk : PySem.W.keepIn X.K (.ref f) = true)
    (hb : KwR X.K fd ps) (hx : Passes CX X E) (hkw : PK X kws tk) (hall : (backToKw pos (keywordEach kws X.env)).all (·.1.isSome) = true := by rfl) (hks : (backToKw pos (keywordEach kws X.env)).filterMap (·.1) = ps.reverse := by rfl) (hdb : (x == ("__debug__" : Str)) = false := by decide)
    (hpl : ((backTo pos (starEach [] X.env)).any (·.1) || (backToKw pos (keywordEach kws X.env)).any (·.1.isNone)) = false := by rfl) :
    PE X (.Call (.Name x p) [] kws pos) (tCallR ps.length sp E tk) := by
  constructor
  intro pins s σ H Q I h
  apply wpAny_Call_Name_kw
  refine ld_glob I hg hm ?_ hdb
  refine PySem.W.callWith_KW0 (h₀ := X.base) I.ok.mod.kin hk hall (thn (hkw.run pos pins s σ H _ I h) fun ws s2 z => ?_) hpl
  obtain ⟨zs, H2, I2, rz, l2, q2⟩ := z
  refine ⟨I2.kIn, ?_⟩
  rw [hks]
  exact run_fnN (us := []) (vs := []) F hr (kbn_rev hb) hx I2 .nil rz rfl (by rw [l2, List.length_reverse]) q2
/-- defs that are called by names -/
structure DFK (P : Program) (w : World) (K : PySem.W.Frag) (mg : Str → Option Value) (base : Heap) (CX : CXT) (nm : Str) (k : Nat) (ps : List Str) (sp : Sp) : Prop where
  ex : ∃ (f : Addr) (fd : FuncData), FnOk P w K mg base CX k f fd ps sp ∧ mg nm = some (.ref f) ∧ PySem.W.keepIn K (.ref f) = true ∧ KwR K fd ps
theorem pe_DK {X : Cx} {nm : Str} {k : Nat} {ps : List Str} {sp : Sp} {E : XK} {W : WX} {p pos : Pos} {kws : List Keyword} {tk : TA} (F : DFK X.prog X.w X.K X.mg X.base (L2.CX X.prog X.w) nm k ps sp) (tk_ : Takes X W) (hW : ∀ cls d σ H, E cls d H → W cls d σ H) (hr : Room k X.A) (hg : Gl X nm) (hkw : PK X kws tk)
    (hall : (backToKw pos (keywordEach kws X.env)).all (·.1.isSome) = true := by rfl) (hks : (backToKw pos (keywordEach kws X.env)).filterMap (·.1) = ps.reverse := by rfl) (hdb : (nm == ("__debug__" : Str)) = false := by decide)
    (hpl : ((backTo pos (starEach [] X.env)).any (·.1) || (backToKw pos (keywordEach kws X.env)).any (·.1.isNone)) = false := by rfl) :
    PE X (.Call (.Name nm p) [] kws pos) (tCallR ps.length sp E tk) := by
  obtain ⟨f, fd, h1, h2, h3, h4⟩ := F.ex
  exact pe_kw h1 hr hg h2 h3 h4 (passes_call tk_ hW) hkw hall hks hdb hpl
end DL
set_option Elab.async false
set_option linter.all false
set_option maxRecDepth 100000
set_option maxHeartbeats 4000000
/-! dicts with tuple keys: emptied, read as data, shown -/
namespace DL
open PySem PySem.Spec PyProof.Rows L2 Evl
section
variable {X : Cx} {pins : List (Addr × Obj)} {σ : L2.St} {H : Hp} {s : Shared}
def rClearT : V → List V → Hp → VK → Prop := fun x vs H Q => ∃ (a : Addr) (kvs : List (List Key × V)), x = .ref a ∧ vs = [] ∧ H a = some (.dT kvs) ∧ Q .non (upd H a (.dT []))
theorem mt_clearT : MtR X "dict.clear" rClearT := by
  intro pins s σ H x vs v us Q I rx rv h
  obtain ⟨a, kvs, rfl, rfl, e, q⟩ := h
  obtain rfl : v = Value.ref a := rx
  obtain rfl := rv.zero
  obtain ⟨z, hd, xs, rel, o, es, ep, ho, ex, hdat, hl, _, nd⟩ := dt_of I.hok e
  have sz : es.size ≤ sizeLine := by
    have l1 : es.toList.length = xs.length := by rw [hl, List.length_map]
    have l2 := Paired.length rel
    rw [Array.length_toList] at l1
    omega
  refine call_meetsIn PySem.F.slot_dict_clear (s := s) ⟨o, ho, ex.1⟩ PySem.F.entry_dict_clear (PySem.F.args_dict_clear_1 _) (meets_dict_clear_raw a) ⟨es, ep, ⟨o, ho, ex, hdat⟩, sz, fun h' raw same => ?_⟩
  obtain ⟨o2, ho2, ex2, hdat2⟩ := raw
  exact ⟨.non, upd H a (.dT []), d_write (ob := .dT []) I (by rw [e]; exact True.intro) same ⟨o2, ho2⟩ ⟨Nat.zero_le _, hd, [], .nil, o2, #[], ep + 1, ho2, ex2, hdat2, rfl, List.nodup_nil⟩, rfl, q⟩
/-- a dict with tuples of ints for keys and ints for values, as data -/
abbrev KI := List (List Int × Int)
def kvI (m : KI) : List (List Key × V) := m.map fun p => (p.1.map Sum.inl, .int p.2)
def dDict (m : KI) : PyData := .dict (m.map fun p => (tI p.1, PyData.int p.2))
theorem reads_ints {h : Heap} : ∀ {ns : List Int} {us : List Value}, Vals (ns.map V.int) us → ReadsAll h us (dI ns) []
  | [], _, .nil => .nil
  | n :: ns, _, .cons a t => by
    obtain ⟨t0, rfl⟩ := a
    exact ReadsAll.cons (as := []) (.int n t0) (reads_ints t)
theorem reads_tI (I : Inv X pins σ H s) {b : Addr} {ns : List Int} (e : H b = some (.tup (ns.map V.int))) : Reads s.heap (.ref b) (tI ns) [] := by
  obtain ⟨its, r, ⟨⟨cls, dd, data, sl⟩, ho, hc, n, hd⟩, _⟩ := I.tuple (st_of (K := X.K) e)
  simp only at hc hd
  subst hc hd
  exact Reads.tuple ho rfl rfl (by simpa using reads_ints r)
theorem reads_dT (I : Inv X pins σ H s) {a : Addr} {m : KI} (e : H a = some (.dT (kvI m))) : ∃ as, Reads s.heap (.ref a) (dDict m) as ∧ sysModules ∉ as := by
  obtain ⟨z, hd, xs, rel, o, es, ep, ho, ex, hdat, hl, _, nd⟩ := dt_of I.hok e
  have keys : ∀ {m : KI} {xs : List (List Key × Addr × Value)}, KT H (kvI m) xs → ReadsAll s.heap (xs.map fun x => Value.ref x.2.1) (m.map fun p => tI p.1) [] ∧ ReadsAll s.heap (xs.map fun x => x.2.2) (m.map fun p => PyData.int p.2) [] := by
    intro m
    induction m with
    | nil =>
      intro xs h
      cases h
      exact ⟨.nil, .nil⟩
    | cons p m ih =>
      intro xs h
      cases h with
      | @cons _ x _ xs a t =>
        obtain ⟨r1, r2⟩ := ih t
        obtain ⟨_, a2, a3⟩ := a
        have a2 : H x.2.1 = some (.tup (p.1.map V.int)) := by
          have e0 : ((p.1.map (Sum.inl : Int → Key)).map kV) = p.1.map V.int := by rw [List.map_map]; rfl
          rw [← e0]
          exact a2
        obtain ⟨t0, a3⟩ := (show ∃ t, x.2.2 = Value.int p.2 t from a3)
        refine ⟨ReadsAll.cons (as := []) (reads_tI I a2) r1, ?_⟩
        rw [List.map_cons, a3]
        exact ReadsAll.cons (as := []) (.int p.2 t0) r2
  obtain ⟨r1, r2⟩ := keys rel
  refine ⟨[a] ++ [], Reads.dict (as := []) (bs := []) ho ex.1 hdat ?_ ?_, ?_⟩
  · rw [hl, List.map_map, List.map_map]
    exact r1
  · rw [hl, List.map_map, List.map_map]
    exact r2
  · intro q
    have : sysModules = a := by simpa using q
    rw [← this] at hd
    simp at hd
end
end DL
set_option Elab.async false
set_option linter.all false
set_option maxRecDepth 100000
set_option maxHeartbeats 4000000
/-! a dict comprehension whose keys are tuples -/
namespace DL
open PySem PySem.Spec PyProof.Rows L2 Evl
section
variable {X : Cx} {pins : List (Addr × Obj)} {σ : L2.St} {H : Hp} {s : Shared}
/-- the new dict takes one more pair -/
theorem dT_put {E : Value → Shared → Prop} {D b : Addr} {kvs : List (List Key × V)} {k : List Key} {v : V} {r : Value} {Q : Unit → Shared → Prop} (hu : X.A.units + 1 < cLine) (I : Inv X pins σ H s) (hD : H D = some (.dT kvs)) (hb : H b = some (.tup (k.map kV)))
    (sz : kvs.length < sizeLine) (rv : RelV v r) (q : ∀ s', Inv X pins σ (upd H D (.dT (putK kvs k v))) s' → Q () s') : wpAny (model X.prog X.w) X.A (dictSet D (.ref b) r) Q E s := by
  obtain ⟨z, hd, xs, rel, dd⟩ := dt_of I.hok hD
  have lx : xs.length ≤ sizeLine := Paired.length rel ▸ z
  have room : (tupleKind (mixKind X.prog X.w)).room X.A := by
    show X.A.units < cLine
    omega
  refine wpAny_dictSet_heap (hsz := lx) room (key_of I.hok hb) dd fun h' now but => q _ ?_
  obtain ⟨o, es, ep, ho, ex, hdat, hl, _, nd⟩ := now
  refine d_write I (by rw [hD]; exact True.intro) but ⟨o, ho⟩ ⟨Nat.le_trans (length_putK kvs k v) sz, hd, _, (rel.put k hb rv).keeps fun c ys ec => ?_, o, es, ep, ho, ex, hdat, hl, nd⟩
  rw [upd_ne (ne_of ec hD fun y => nomatch y)]
  exact ec
/-- {k: v for ..}: every key a tuple that is known -/
def tDcT (wi : TI) (g : TG) (tt : TT) (tk tv : TE) (vs : List Nat) : TE := fun σ H Q => wi σ H fun J Ha => ∀ D, Ha D = none → ∃ (W : Nat → Hp → Prop) (n : Nat), W 0 (upd Ha D (.dT [])) ∧ ∀ i H, W i H →
  (J.stop i H ∧ Q (.ref D) H) ∨ (i < n ∧ J.go i H ∧ ∀ x Hx, J.yld i H x Hx → g x (wipe σ vs) Hx fun σ2 H2 => wipe σ2 vs = wipe σ vs ∧ tt σ2 H2 fun yes H3 =>
    if yes = true then tk σ2 H3 fun y H4 => tv σ2 H4 fun z H5 => ∃ (kvs : List (List Key × V)) (k : List Key) (b : Addr), y = .ref b ∧ H5 b = some (.tup (k.map kV)) ∧ H5 D = some (.dT kvs) ∧ kvs.length < sizeLine ∧ W (i + 1) (upd H5 D (.dT (putK kvs k z))) else W (i + 1) H3)
theorem pe_dcT {kx vx tg iter : Expr} {ifs : List Expr} {sc : Scope} {own : List (Str × Nat)} {pos : Pos} {wi : TI} {g : TG} {tt : TT} {tk tv : TE} (calm : X.calm = true) (nd : X.N.Nodup) (hu : X.A.units + 1 < cLine) (over : PI X tg iter wi) (blk : BlkOk X.N X.env.scope sc own)
    (pgG : ∀ (s : Shared) (H : Hp) (C : Addr) (cl : List (Str × Addr)) (fp : List Addr), PG (X.blk s H sc (compEnvC sc cl C X.env) fp) tg g)
    (ptG : ∀ (s : Shared) (H : Hp) (C : Addr) (cl : List (Str × Addr)) (fp : List Addr), PTs (X.blk s H sc (compEnvC sc cl C X.env) fp) ifs tt)
    (pkG : ∀ (s : Shared) (H : Hp) (C : Addr) (cl : List (Str × Addr)) (fp : List Addr), PE (X.blk s H sc (compEnvC sc cl C X.env) fp) kx tk)
    (pvG : ∀ (s : Shared) (H : Hp) (C : Addr) (cl : List (Str × Addr)) (fp : List Addr), PE (X.blk s H sc (compEnvC sc cl C X.env) fp) vx tv)
    (plain : ∀ x, foldedSetIterable iter X.env x = pure x := by intro _; rfl) : PE X (.DictComp kx vx [⟨tg, iter, ifs, 0⟩] sc pos) (tDcT wi g tt tk tv (own.map (·.2))) := by
  constructor
  intro pins s σ H Q I ask
  rw [arm_eval_DictComp]
  have fr : ∀ y ∈ sc.names, y.2 = .free → ∃ c, X.env.cells.lookup y.1 = some c := fun y m e => (blk.free y m e).elim (fun k => I.ok.has _ (.inl k)) fun k => I.ok.has _ (.inr k)
  refine wpAny_comprehension_free (use := none) rfl plain (closure_ok fr) blk.kind (fun y m e => by rw [blk.uniq y m, e]) ?_
  refine thn (over.run pins s σ H _ I ask) fun xv sA gotIter => thn gotIter fun itv sB gotIt => ?_
  obtain ⟨it, fp, tn, J, Ha, rfl, IB, T, stB, fB, next⟩ := gotIt
  refine wpAny_newObj_type (newEnv_comp ?_)
  obtain ⟨D, eD⟩ : ∃ D, D = sB.heap.objs.size := ⟨_, rfl⟩
  rw [← eD]
  have freshD : Ha D = none := IB.hok.fresh (Nat.le_of_eq eD.symm)
  obtain ⟨W, lim, w0, turn⟩ := next D freshD
  obtain ⟨sC, eC⟩ : ∃ sC : Shared, sC = { sB with heap := sB.heap.push { cls := .type "dict", data := .dict #[] } } := ⟨_, rfl⟩
  rw [← eC]
  have heapC : sC.heap = sB.heap.push { cls := .type "dict", data := .dict #[] } := by rw [eC]
  have IC : Inv X pins σ (upd Ha D (.dT [])) sC := by
    rw [eC, eD]
    exact IB.laid (t' := sB.toks) (fun b o e => Heap.get?_push_of_some _ e) (Nat.le_refl _) (dt_empty sB.heap IB.big)
  have small : ∀ b ∈ fp, b < sB.heap.objs.size := fun b m => by
    obtain ⟨o, e, _⟩ := T.obj _ _ stB b m
    exact Heap.lt_size e
  have fC : ∀ b ∈ fp, FpOk X pins (upd Ha D (.dT [])) b ∧ b < sC.heap.objs.size := fun b m => by
    have lt := small b m
    refine ⟨⟨?_, (fB b m).2⟩, ?_⟩
    · rw [upd_ne (eD ▸ Nat.ne_of_lt lt)]
      exact (fB b m).1
    · rw [heapC, Heap.size_push]
      exact Nat.lt_succ_of_lt lt
  have stC : tn 0 sC.heap := T.keep _ _ _ stB fun b _ o e => heapC ▸ Heap.get?_push_of_some _ e
  obtain ⟨Hc, eHc⟩ : ∃ Hc, Hc = upd Ha D (.dT []) := ⟨_, rfl⟩
  rw [← eHc] at IC fC w0
  obtain ⟨clo, eclo⟩ : ∃ clo, clo = cellsFrom (sC.heap.objs.size + 1) sc.names (cloFrom X.env.cells sc.names []) := ⟨_, rfl⟩
  obtain ⟨ce, ece⟩ : ∃ ce, ce = compEnvC sc clo sC.heap.objs.size X.env := ⟨_, rfl⟩
  have gP := pgG sC Hc sC.heap.objs.size clo fp
  have tP := ptG sC Hc sC.heap.objs.size clo fp
  have kP := pkG sC Hc sC.heap.objs.size clo fp
  have vP := pvG sC Hc sC.heap.objs.size clo fp
  have IE := block_start IC blk nd fC
  rw [← eclo, ← ece] at IE
  rw [← ece] at gP tP kP vP
  have locE : ce.locals = sC.heap.objs.size := by rw [ece]; rfl
  obtain ⟨sE, eE⟩ : ∃ sE : Shared, sE = { sC with heap := pushCells (sC.heap.push { cls := .type "dict", data := .dict #[] }) sc.names } := ⟨_, rfl⟩
  rw [← eE] at IE
  have stE : tn 0 sE.heap := T.keep _ _ _ stC fun b _ o e => eE ▸ pushCells_keeps _ _ _ _ (Heap.get?_push_of_some _ e)
  have here : ∀ {σ' : L2.St} {H' : Hp} {s' : Shared}, Inv (X.blk sC Hc sc ce fp) [] σ' H' s' → (∀ b ∈ fp, H' b = none) → ∀ b ∈ fp, FpOk (X.blk sC Hc sc ce fp) [] H' b := fun {_ _ _} I' free b m =>
    ⟨free b m, (I'.ok.exf b m).1, I'.ok.exfs b m, .inl m, fun x c e => (I'.ok.exf b m).2 x c e, fun p q => (List.not_mem_nil (show p ∈ ([] : List (Addr × Obj)) from q)).elim⟩
  let Wd : Nat → Shared → Prop := fun n s' => ∃ i H', n = lim - i ∧ Inv (X.blk sC Hc sc ce fp) [] (wipe σ (own.map (·.2))) H' s' ∧ tn i s'.heap ∧ (∀ b ∈ fp, H' b = none) ∧ W i H'
  subst ece eclo
  have loop : codeAny (model X.prog X.w) X.A (.compLoop (.DictComp kx vx [⟨tg, iter, ifs, 0⟩] sc pos) 0 (.ref it) (.ref D) (compEnvC sc (cellsFrom (sC.heap.objs.size + 1) sc.names (cloFrom X.env.cells sc.names [])) sC.heap.objs.size X.env)) (compPost (model X.prog X.w) X.A X.xe none (fun v s' => ∃ x H', Inv X pins σ H' s' ∧ RelV x v ∧ Q x H') (.ref D) sC.heap.objs.size) sE := by
    refine compLoop_anyD Wd ?_ (lim - 0) ⟨0, Hc, rfl, IE, stE, fun b m => (fC b m).1.1, w0⟩
    rintro n s5 ⟨i, H5, rfl, I5, st5, n5, w5⟩
    rcases turn i H5 w5 with ⟨stop, done⟩ | ⟨lt, go, step⟩
    · refine thnF (T.done (X.blk sC Hc sc _ fp) rfl rfl rfl calm i [] s5 _ H5 (fun _ _ => False) I5 (here I5 n5) st5 stop) fun r s6 z => ?_
      obtain ⟨rfl, I6⟩ := z
      have I7 : Inv X pins σ H5 s6 := IC.call' (ch := fp) I6.os I6.base I6.hok I6.bare fun b m => ⟨(fC b m).1.2.2.2.1, (fC b m).1.2.1, (fC b m).1.2.2.2.2.1, (fC b m).1.2.2.2.2.2⟩
      have noC : H5 sC.heap.objs.size = none := I6.free
      obtain ⟨m, ns, _⟩ := I6.loc
      obtain ⟨f0, f1, f2, f3, f4, f5⟩ := IC.fpOk (Nat.le_refl _) noC
      refine ⟨m, ns, fun h9 sb => ?_⟩
      exact ⟨.ref D, H5, I7.turned (t' := s6.toks) (fun b o hb e => (sb.2 b hb).trans e) noC f1 f3 f4 f5, rfl, done⟩
    · refine thnF (T.item (X.blk sC Hc sc _ fp) rfl rfl rfl calm i [] s5 _ H5 (fun _ _ => False) I5 (here I5 n5) st5 go) fun r s6 z => ?_
      obtain ⟨u, rfl, z6⟩ := z
      refine thnF z6 fun _ s7 z7 => ?_
      obtain ⟨x, H7, I7, r7, y7, st7, n7⟩ := z7
      refine thnF (gP.run _ s7 _ H7 x u _ (I7.pinned (here I7 n7) (T.obj _ _ st7)) r7 (step x H7 y7)) fun _ s8 z8 => ?_
      obtain ⟨σ8, H8, I8, w8, q8⟩ := z8
      refine thnF (tP.run _ s8 σ8 H8 _ I8 q8) fun yes s9 z9 => ?_
      obtain ⟨H9, I9, q9⟩ := z9
      have again : ∀ {s' : Shared} {H' : Hp}, Inv (X.blk sC Hc sc (compEnvC sc (cellsFrom (sC.heap.objs.size + 1) sc.names (cloFrom X.env.cells sc.names [])) sC.heap.objs.size X.env) fp) ([] ++ pinsAt fp s7.heap) σ8 H' s' → W (i + 1) H' → ∃ m, m < lim - i ∧ Wd m s' := fun {s' H'} I' nx => by
        have pinned : ∀ b ∈ fp, ∀ o, s7.heap.get? b = some o → s'.heap.get? b = some o ∧ H' b = none := fun b m o e => by
          obtain ⟨z1, z2, _⟩ := I'.pin (b, o) (List.mem_append_right _ (List.mem_append_right _ (mem_pinsAt m e)))
          exact ⟨z1, z2⟩
        have same : (wipe σ (own.map (·.2))).length = σ8.length := (congrArg List.length w8).symm.trans (wipe_length _ _)
        refine ⟨lim - (i + 1), by omega, i + 1, H', rfl, (I'.unpinned (pins := [])).weak same (fun j v e => (wipe_some (w8 ▸ e)).1), T.keep _ _ _ st7 fun b m o e => (pinned b m o e).1, fun b m => ?_, nx⟩
        obtain ⟨o, e, _⟩ := T.obj _ _ st7 b m
        exact (pinned b m o e).2
      cases yes with
      | false => exact again I9 q9
      | true =>
        refine thnF (kP.run _ s9 σ8 H9 _ I9 q9) fun kv s10 z10 => ?_
        obtain ⟨y, H10, I10, r10, q10⟩ := z10
        refine thnF (vP.run _ s10 σ8 H10 _ I10 q10) fun vv s11 z11 => ?_
        obtain ⟨v, H11, I11, r11, kvs, k, b, rfl, hb, hD, sz, nx⟩ := z11
        obtain rfl : kv = Value.ref b := r10
        exact dT_put (X := X.blk sC Hc sc _ fp) hu I11 hD hb sz r11 fun s12 I12 => again I12 nx
  rw [← eE]
  exact codeAny_compStart_dict loop (T.self X.A 0 _ _ _ stE loop)
end
end DL
set_option Elab.async false
set_option linter.all false
set_option maxRecDepth 100000
set_option maxHeartbeats 4000000
/-! list(d.values()) of a dict with tuple keys; repr of such dicts, alone and in lists -/
namespace DL
open PySem PySem.Spec PyProof.Rows L2 Evl
section
variable {X : Cx} {pins : List (Addr × Obj)} {σ : L2.St} {H : Hp} {s : Shared}
def rValsT : V → List V → Hp → VK → Prop := fun x vs H Q => ∃ (a : Addr) (kvs : List (List Key × V)), x = .ref a ∧ vs = [] ∧ H a = some (.dT kvs) ∧ ∀ p, H p = none → Q (.ref p) (upd H p (viewO "dict_values" p a))
theorem mt_valsT : MtR X "dict.values" rValsT := by
  intro pins s σ H x vs v us Q I rx rv h
  obtain ⟨a, kvs, rfl, rfl, e, q⟩ := h
  obtain rfl : v = Value.ref a := rx
  obtain rfl := rv.zero
  obtain ⟨z, hd, xs, rel, o, es, ep, ho, ex, hdat, hl, _, nd⟩ := dt_of I.hok e
  refine call_meetsIn PySem.F.slot_dict_values (s := s) ⟨o, ho, ex.1⟩ PySem.F.entry_dict_values (PySem.F.args_dict_values_1 _) (meets_dict_values_raw a hd) ⟨⟨es, ep, o, ho, ex, hdat⟩, ?_⟩
  exact ⟨.ref s.heap.objs.size, _, I.laid (t' := s.toks) (fun b o q => Heap.get?_push_of_some _ q) (Nat.le_refl _) (viewO_ok (Heap.get?_push_size _ rfl)), rfl, q _ (I.hok.fresh (Nat.le_refl _))⟩
/-- list(view), the values whole numbers -/
def rListVT : List V → Hp → VK → Prop := fun xs H Q => ∃ (p a : Addr) (kvs : List (List Key × V)), xs = [.ref p] ∧ H p = some (viewO "dict_values" p a) ∧ H a = some (.dT kvs) ∧ ∀ r, H r = none → Q (.ref r) (upd H r (.lst (kvs.map Prod.snd)))
theorem call_listVT (calm : X.calm = true) : CallR X (.type "list") rListVT := by
  intro pins s σ H xs us Q I r h
  obtain ⟨p, a, kvs, rfl, hp, ha, q⟩ := h
  obtain rfl := Vals.ref1 r
  have hv : s.heap.get? p = some (DSub.viewOb "dict_values" a) := (show ObjOk X.prog X.w H s.heap p (viewO "dict_values" p a) from I.hok p _ hp).1
  obtain ⟨z, hd, ks, rel, o, es, ep, ho, ex, hdat, hl, _, nd⟩ := dt_of I.hok ha
  have l1 : es.size = ks.length := size_of_entries hl
  have l2 : kvs.length = ks.length := Paired.length rel
  refine PySem.W.kdl_call PySem.KdlSrc.rawValues (I.ok.hd calm) ⟨⟨_, hv, rfl, rfl⟩, o, ho, ex, hdat⟩ (by omega) fun h' tk acc c' keep e it => ?_
  have same : acc.toList = ks.map fun x => x.2.2 := by
    have n1 : acc.toList.length = ks.length := by rw [Array.length_toList, it.1]; exact l1
    refine List.ext_getElem? fun j => ?_
    rw [List.getElem?_map]
    rcases Nat.lt_or_ge j ks.length with lt | ge
    · have lt2 : j < acc.toList.length := by omega
      obtain ⟨hi, eu⟩ := it.2 j acc.toList[j] (by rw [← Array.getElem?_toList]; exact List.getElem?_eq_getElem lt2)
      have at_ : es.toList[j]? = some es[j] := by rw [Array.getElem?_toList, Array.getElem?_eq_getElem hi]
      rw [hl, List.getElem?_map, List.getElem?_eq_getElem lt] at at_
      rw [List.getElem?_eq_getElem lt2, List.getElem?_eq_getElem lt, eu, ← Option.some.inj at_]
      rfl
    · rw [List.getElem?_eq_none ge, List.getElem?_eq_none (by omega)]
      rfl
  have both : ∀ {l : List (List Key × V)} {m : List (List Key × Addr × Value)}, KT H l m → Vals (l.map Prod.snd) (m.map fun x => x.2.2) := by
    intro l m r
    induction r with
    | nil => exact .nil
    | cons g t ih => exact .cons g.2.2 ih
  have vals : Vals (kvs.map Prod.snd) acc.toList := same ▸ both rel
  exact ⟨.ref s.heap.objs.size, _, I.laid (t' := tk) (o := .lst (kvs.map Prod.snd)) keep (Nat.le_refl _) ⟨by rw [List.length_map]; exact z, acc.toList, c', vals, by rw [Array.toArray_toList]; exact e⟩, rfl, q _ (I.hok.fresh (Nat.le_refl _))⟩
/-- repr(d) -/
def rReprT : List V → Hp → VK → Prop := fun xs H Q => ∃ (a : Addr) (m : KI), xs = [.ref a] ∧ H a = some (.dT (kvI m)) ∧ (dDict m).showable = true ∧ (dDict m).depth ≤ 80 ∧ (dDict m).shown.length ≤ sizeLine ∧ Q (.str (dDict m).shown) H
theorem call_reprT (hg : X.A.guards = some []) (hu : X.A.units + 100 < cLine) : CallR X (.builtin "repr") rReprT := by
  intro pins s σ H xs us Q I r h
  obtain ⟨a, m, rfl, ha, hs, hd, sz, q⟩ := h
  obtain rfl := Vals.ref1 r
  obtain ⟨as, rd, nm⟩ := reads_dT I ha
  exact repr_of_reads' rd hs (fun _ => nm) hg (by omega) (fun _ _ e => e) (fun h' u tk k => ⟨.str (dDict m).shown, H, I.kept k, ⟨u, rfl⟩, q⟩) sz
/-- dicts in a row -/
def DTs (H : Hp) : List V → List KI → Prop := Paired fun v m => ∃ a, v = .ref a ∧ H a = some (.dT (kvI m))
theorem reads_dTs (I : Inv X pins σ H s) : ∀ {vs : List V} {ms : List KI} {us : List Value}, DTs H vs ms → Vals vs us → ∃ as, ReadsAll s.heap us (ms.map dDict) as ∧ sysModules ∉ as
  | _, _, _, .nil, .nil => ⟨[], .nil, by simp⟩
  | _, _, _, .cons g t, .cons r rs => by
    obtain ⟨a, rfl, ha⟩ := g
    obtain rfl := r
    obtain ⟨a1, r1, n1⟩ := reads_dT I ha
    obtain ⟨a2, r2, n2⟩ := reads_dTs I t rs
    exact ⟨a1 ++ a2, .cons r1 r2, fun z => (List.mem_append.mp z).elim n1 n2⟩
def dRow (ms : List KI) : PyData := .list (ms.map dDict)
/-- repr([d, ..]) -/
def rReprLT : List V → Hp → VK → Prop := fun xs H Q => ∃ (p : Addr) (vs : List V) (ms : List KI), xs = [.ref p] ∧ H p = some (.lst vs) ∧ DTs H vs ms ∧ ms ≠ [] ∧ (dRow ms).showable = true ∧ (dRow ms).depth ≤ 80 ∧ (dRow ms).shown.length ≤ sizeLine ∧ Q (.str (dRow ms).shown) H
theorem call_reprLT (hg : X.A.guards = some []) (hu : X.A.units + 100 < cLine) : CallR X (.builtin "repr") rReprLT := by
  intro pins s σ H xs us Q I r h
  obtain ⟨p, vs, ms, rfl, hp, hv, ne, hs, hd, sz, q⟩ := h
  obtain rfl := Vals.ref1 r
  obtain ⟨_, us, n, rv, ho⟩ := (show ObjOk X.prog X.w H s.heap p (.lst vs) from I.hok p _ hp)
  obtain ⟨as, rd, nm⟩ := reads_dTs I hv rv
  have sz' : (listText (PyData.shownAll (ms.map dDict))).length ≤ sizeLine := by simpa only [dRow, PyData.shown] using sz
  obtain ⟨bs, below, shows⟩ := ReprAllK.of_readsAll (prog := X.prog) (w := X.w) rd (by simpa [dRow, PyData.showable] using hs) (fun _ => nm) fun t ht => Nat.le_trans (listText_mem_le ht) sz'
  have apart : p ∉ bs := not_mem_of_deeper (.list ho rfl rfl (by simpa using rd)) (by simp only [PyData.depth]; omega) below
  have typed : s.TypeIs (.ref p) "list" := ⟨_, ho, rfl⟩
  have deep : (dRow ms).depth = PyData.depthAll (ms.map dDict) + 1 := by simp only [dRow, PyData.depth]
  refine call_repr_slot (by omega) typed F.slot_list_repr.toG ?_
  cases us with
  | nil =>
    cases rv
    cases hv
    exact absurd rfl ne
  | cons u us =>
    refine call_list_reprK ho rfl rfl apart (by simpa using shows.length_eq) (fun i y e => shows.item i y (by simpa using e)) (show X.A.in1.guards = some [] from hg) (fun b _ => Clear.nil b) (by show X.A.units + 1 + (PyData.depthAll (ms.map dDict) + 1) < cLine; omega) (fun _ _ e => e) (fun h' u' tk k => ⟨listText (PyData.shownAll (ms.map dDict)), u', rfl, .str (dRow ms).shown, H, I.kept k, ⟨u', by simp only [dRow, PyData.shown]⟩, q⟩) sz'
end
end DL
set_option Elab.async false
set_option linter.all false
set_option maxRecDepth 100000
set_option maxHeartbeats 4000000
/-! what a law with lambdas wants besides -/
namespace DL
open PySem PySem.Spec PyProof.Rows L2 Evl LamX
theorem hu100 {A : Around} {k : Nat} (hr : Room k A) : A.units + 100 < cLine := by
  have := hr.un
  omega
/-- all parameters by their names, in any order that the text takes -/
theorem Fun.kwr {K : PySem.W.Frag} {x qual : Str} {st : Stmt} {f : Addr} {fd : FuncData} {ps : List Str} (F : Fun K x qual st f fd)
    (h : ∀ (kV doc pm : Value) (an : Option Addr) (cdv ct : Value) (ws : List Value), ws.length = ps.length → bindArgs (PySem.W.fnOf x qual (defArgs st) (defBody st) (defScope st) .none kV doc pm an cdv ct) ⟨[], ps.reverse.zip ws⟩ = pure (ps.zip ws.reverse)) : KwR K fd ps := by
  obtain ⟨⟨oc, od, kV, doc, pm, an, cdv, ct, osl, rfl, lk, hcd⟩, _⟩ := F
  exact fun s ws _ hl => BindsTo.of_eq (h kV doc pm an cdv ct ws hl)
/-- an own error's class as a value -/
theorem pe_cls {X : Cx} {x : Str} {C : Addr} {p : Pos} (T : ErC X.K X.mg x C) (hg : Gl X x) (hd : (x == ("__debug__" : Str)) = false := by decide) : PE X (.Name x p) (tC (.ref C)) := pe_glob hg T.gC rfl hd
/-- the def that catches what a lambda raises -/
structure CauF (K : PySem.W.Frag) (mg : Str → Option Value) (nm : Str) (CS : Addr) : Prop where
  ex : ∃ (g : Addr) (oc : Value) (od an : Option Addr) (osl : Array (Option Value)) (sg : Scope) (pg : Arguments) (dV kV doc pm cdv ct : Value) (k0 : Nat) (p1 p2 p3 p4 p5 p6 p7 p8 p9 p10 p11 p12 p13 p14 : Pos), mg nm = some (.ref g) ∧ PySem.W.keepIn K (.ref g) = true ∧
    K.lookup g = some ⟨oc, od, .func (PySem.W.fnOf nm nm pg (caughtB k0 p1 p2 p3 p4 p5 p6 p7 p8 p9 p10 p11 p12 p13 p14) sg dV kV doc pm an cdv ct), osl⟩ ∧ PySem.W.codeIn K cdv nm = true ∧
    L2.Binds K (PySem.W.fnOf nm nm pg (caughtB k0 p1 p2 p3 p4 p5 p6 p7 p8 p9 p10 p11 p12 p13 p14) sg dV kV doc pm an cdv ct) ["work"] [] ∧ FnScope ["work", "caught", "error"] ["work"] sg ∧
    sg.names.lookup ("CallError" : Str) = some .globalImplicit ∧ mg "CallError" = some (.ref CS) ∧ sg.names.lookup ("error" : Str) = some .local ∧ sg.names.lookup ("caught" : Str) = some .local ∧ sg.names.lookup ("work" : Str) = some .local
theorem pe_caughtD {X : Cx} {x y : Str} {CS : Addr} {k j : Nat} {p py pos : Pos} (F : CauF X.K X.mg x CS) (hg : Gl X x) (hr : Room (k + 2) X.A) (hN : X.N[j]? = some y) (hv : Vis X.env.scope y)
    (hdb : (x == ("__debug__" : Str)) = false := by decide) (hd : (y == ("__debug__" : Str)) = false := by decide) (hcd : (y == ("__classdict__" : Str)) = false := by decide) :
    PE X (.Call (.Name x p) [.Name y py] [] pos) (fun σ H Q => ∃ f c' params body scope tb, σ[j]? = some (some (.ref f)) ∧ H f = some (LamO f c' (X.env.qual ++ "<lambda>") params body scope (cloFrom X.env.cells scope.names [])) ∧ H c' = some (CodeO c' (X.env.qual ++ "<lambda>")) ∧ LamD X k params body scope tb ∧ TTc X.K CS tb σ H Q) := by
  obtain ⟨g, oc, od, an, osl, sg, pg, dV, kV, doc, pm, cdv, ct, k0, p1, p2, p3, p4, p5, p6, p7, p8, p9, p10, p11, p12, p13, p14, h1, h2, h3, h4, h5, h6, h7, h8, h9, h10, h11⟩ := F.ex
  exact pe_caught hg h1 h2 h3 h4 h5 h6 h7 h8 h9 h10 h11 hr hN hv hdb hd hcd
end DL
set_option Elab.async false
set_option linter.all false
set_option maxRecDepth 100000
set_option maxHeartbeats 4000000
/-! comprehensions with a test, over data -/
namespace DL
open PySem PySem.Spec PyProof.Rows L2 Evl
section
variable {K : PySem.W.Frag} {σ : L2.St} {H : Hp} {ta tb te : TE} {ds : List PyData}
theorem eqV_int (a b : Int) : eqV (.int a) (.int b) = decide (a = b) := by
  unfold eqV
  rfl
theorem inV_ints (n : Int) : ∀ l : List Int, inV (.int n) (l.map V.int) = decide (n ∈ l)
  | [] => by simp [inV]
  | x :: l => by
    have ih := inV_ints n l
    unfold inV at ih ⊢
    rw [List.map_cons, List.any_cons, ih, eqV_int]
    by_cases h : x = n
    · subst h; simp
    · simp [h, Ne.symm h]
theorem flat_ints : ∀ l : List Int, (l.map V.int).all flatV = true
  | [] => rfl
  | _ :: l => by
    rw [List.map_cons, List.all_cons, flat_ints l]
    rfl
/-- n in t -/
theorem ev_inT {n : Int} {l : List Int} (ha : Ev ta σ H (.int n)) (hb : EvD K tb σ H (tI l)) : Ev (tOp (rIn K false) ta tb) σ H (.bl (decide (n ∈ l))) := fun H1 e Q q =>
  ha H1 e _ fun H2 e2 => hb H2 (e.trans e2) _ fun v H3 e3 hv => by
    obtain ⟨p, rfl, hp⟩ := dp_tI hv
    refine ⟨p, _, rfl, .inr hp, rfl, flat_ints l, ?_⟩
    rw [inV_ints]
    exact q H3 (e2.trans e3)
/-- zip of a tuple of ints and a list that stands -/
theorem ei_zipTL {S : List Addr} {q : Addr} {vs : List V} {a : List Int} (hS : Ls H S) (ha : EvD K ta σ H (tI a)) (hb : Ev tb σ H (.ref q)) (hq : H q = some (.lst vs)) (hn : q ∉ S) (hd : DpAll K H vs ds) (hi : immAll ds = true) :
    EvI K (iZipM K true false (tCons ta (tCons tb tNil))) σ H S (List.zipWith (fun x y => PyData.tuple [.int x, y]) a ds) := fun H1 e R r =>
  ha H1 e _ fun x H2 e2 hx => hb H2 (e.trans e2) _ fun H3 e3 => by
    obtain ⟨p, rfl, h1⟩ := dp_tI hx
    have h1 := ex_t e3 h1
    have up := (e.trans e2).trans e3
    have h2 := up _ _ hq
    have d2 := dpa_ex up _ _ hd
    refine ⟨p, q, _, _, rfl, sqa_t h1, sqa_l (sq_of h2), r _ H3 (e2.trans e3) ?_⟩
    rw [List.length_zipWith, ← dpa_len hd]
    have w := walk_zipM (K := K) (a := p) (b := q) (t := true) (u := false) (xs := a.map V.int) (ys := vs) (n := min a.length vs.length) (by simp)
    refine w.mono (fun Ha x => ⟨sqT_tx (x.tx (hS.ex up)) h1, sq_of (x q _ h2 hn)⟩) fun i Ha v Hb hlt hg y => ?_
    obtain ⟨T, v1, v2, rfl, hT, rfl, g1, g2⟩ := y
    simp only [List.getElem?_map] at g1
    obtain ⟨n1, m1, rfl⟩ := Option.map_eq_some_iff.mp g1
    have tx : Tx H3 (upd Ha T (.tup [.int n1, v2])) := (hg.tx (hS.ex up)).trans (Tx.of_ex (Ex.new hT))
    obtain ⟨d, q1, q2⟩ := dpa_getV (dpa_tx tx _ _ hi d2) g2
    refine ⟨Ex.new hT, .tuple [.int n1, d], ?_, .tup (st_of upd_same) (.cons (.int _) (.cons q2 .nil))⟩
    rw [List.getElem?_zipWith, m1, q1]
/-- [f for .. if b], over data -/
theorem en_lcB {wi : TI} {g : TG} {tt : TT} {vs : List Nat} (h : EvI K wi σ H [] ds) (hl : ds.length ≤ 50000) (b : Nat → Bool) (f : Nat → Int)
    (hs : ∀ H2 i d x Hb (Q : L2.St → Hp → Prop), Ex H H2 → ds[i]? = some d → Ex H2 Hb → Dp K Hb x d → (∀ σ2 H3, Ex Hb H3 → wipe σ2 vs = wipe σ vs → EvT tt σ2 H3 (b i) → Ev te σ2 H3 (.int (f i)) → Q σ2 H3) → g x (wipe σ vs) Hb Q) :
    EvN K (tLc wi g tt te vs) σ H (dI (((List.range ds.length).filter b).map f)) := fun H1 e Q q => h H1 e _ fun J H2 e2 w => fun Dl hD => by
  refine lc_it w (fun n Ha => Ex H2 Ha ∧ Ha Dl = some (.lst ((((List.range n).filter b).map f).map V.int))) ⟨Ex.new hD, upd_same⟩ (fun n Ha _ p => Xp.of_ex p.1) (fun i x Ha Hb hlt p y => ?_) fun Ha p => ?_
  · obtain ⟨p1, p2⟩ := p
    obtain ⟨ey, d, hd1, hd2⟩ := y
    have few : ((((List.range i).filter b).map f).map V.int).length < sizeLine := by
      rw [List.length_map, List.length_map]
      have := List.length_filter_le b (List.range i)
      rw [List.length_range] at this
      exact sz_lt (by omega)
    refine hs H2 i d x Hb _ (e.trans e2) hd1 (p1.trans ey) hd2 fun σ2 H3 e3 hw ht hv => ⟨hw, ?_⟩
    refine ht H3 (Ex.refl _) _ fun H4 e4 => ?_
    have at4 : H4 Dl = some (.lst _) := e4 _ _ (e3 _ _ (ey _ _ p2))
    cases hb : b i with
    | false =>
      rw [if_neg (by simp)]
      refine ⟨((p1.trans ey).trans e3).trans e4, ?_⟩
      rw [List.range_succ, List.filter_append, List.filter_cons, hb]
      simpa using at4
    | true =>
      rw [if_pos rfl]
      refine hv H4 e4 _ fun H5 e5 => ⟨_, e5 _ _ at4, few, Ex.mut ((((p1.trans ey).trans e3).trans e4).trans e5) hD, ?_⟩
      rw [upd_same, List.range_succ, List.filter_append, List.filter_cons, hb]
      simp
  · obtain ⟨p1, p2⟩ := p
    exact q Dl _ Ha (fresh_back e2 hD) (e2.trans p1) p2 (ints_dpa _)
end
end DL
set_option Elab.async false
set_option linter.all false
set_option maxRecDepth 100000
set_option maxHeartbeats 4000000
/-! a law's def with its own code object told -/
namespace DL
open PySem PySem.Spec PyProof.Rows L2 Evl
structure FunC (K : PySem.W.Frag) (x qual : Str) (st : Stmt) (f : Addr) (fd : FuncData) (c : Addr) : Prop where
  ex : ∃ (oc : Value) (od : Option Addr) (kV doc pm : Value) (an : Option Addr) (ct : Value) (osl : Array (Option Value)),
    fd = PySem.W.fnOf x qual (defArgs st) (defBody st) (defScope st) .none kV doc pm an (.ref c) ct ∧ K.lookup f = some ⟨oc, od, .func fd, osl⟩ ∧ PySem.W.codeIn K (.ref c) qual = true
theorem okC {P : Program} {w : World} {K : PySem.W.Frag} {mg : Str → Option Value} {base : Heap} {CX : CXT} {x qual : Str} {st : Stmt} {f c : Addr} {fd : FuncData} {N ps : List Str} {k : Nat} {sp : Sp} (F : FunC K x qual st f fd c) (S : FnScope N ps (defScope st)) (len : ∀ vs H Q E, sp vs H Q E → vs.length = ps.length)
    (body : ∀ (A : Around) (outer : List Env) (s : Shared) (H : Hp) (vs : List V) (Q : VK) (E : XK), A.guards = some [] → Room k (A.deeper (envOfC qual (defScope st) s.heap.objs.size f (.ref c))) → sp vs H Q E →
      ∃ t, PSs (cxOf CX P w K mg base N qual (defScope st) f (.ref c) A outer s H E) (defBody st) t ∧ t { nx := fun _ H' => Q .non H', rt := Q } (L2.start N vs) H) : FnG P w K mg base CX (k + 1) f fd ps sp := by
  obtain ⟨oc, od, kV, doc, pm, an, ct, osl, rfl, lk, hcd⟩ := F.ex
  exact ⟨len, fun A outer s H args us vs Q E hg hr e0 hb r h => LamX.run_ofS lk hcd S hr e0 hb r (len _ _ _ _ h) fun hr2 => body A outer s H vs Q E hg hr2 h⟩
theorem op_inK {X : Cx} (K : PySem.W.Frag) (h : X.K = K) : OpR X (compareOp .In) (rIn K false) := h ▸ op_in_seq
end DL
set_option Elab.async false
set_option linter.all false
set_option maxRecDepth 100000
set_option maxHeartbeats 4000000
/-! texts of small data; repr, over data -/
namespace DL
open PySem PySem.Spec PyProof.Rows L2 Evl
/-- data of whole numbers that are not too great -/
structure Fine (d : PyData) (W k : Nat) : Prop where
  short : d.leavesShort 13 = true
  shows : d.showable = true
  deep : d.depth ≤ k
  few : d.weight ≤ W
def Sml (i : Int) : Prop := i.natAbs < 10 ^ 12
theorem sml_of {i : Int} (h1 : -1000000 ≤ i) (h2 : i ≤ 1000000) : Sml i := by
  show i.natAbs < 1000000000000
  omega
theorem w_int {i : Int} (h : Sml i) : (PyData.int i).weight ≤ 40 ∧ (PyData.int i).showable = true := by
  have h : i.natAbs < 10 ^ 12 := h
  have e : (10 : Nat) ^ 12 < 2 ^ 40 := by decide
  by_cases z : i = 0
  · subst z
    exact ⟨by simp [PyData.weight], by simp [PyData.showable]⟩
  · have nz : i.natAbs ≠ 0 := by omega
    have lt : i.natAbs.log2 < 40 := (Nat.log2_lt nz).mpr (by omega)
    refine ⟨?_, ?_⟩
    · simp only [PyData.weight]
      split <;> omega
    · simp only [PyData.showable, decide_eq_true_eq]
      omega
theorem fine_int {i : Int} (h : Sml i) : Fine (.int i) 40 1 where
  short := by
    simp only [PyData.leavesShort, decide_eq_true_eq]
    exact PyData.shown_int_le h
  shows := (w_int h).2
  deep := by simp [PyData.depth]
  few := (w_int h).1
theorem fine_all : ∀ {ns : List Int}, (∀ n ∈ ns, Sml n) → PyData.leavesShortAll 13 (dI ns) = true ∧ PyData.showableAll (dI ns) = true ∧ PyData.weightAll (dI ns) ≤ 41 * ns.length
  | [], _ => ⟨rfl, rfl, by simp [PyData.weightAll]⟩
  | n :: ns, h => by
    obtain ⟨h1, h2, h3⟩ := fine_all (ns := ns) fun m hm => h m (List.mem_cons_of_mem _ hm)
    have hn := fine_int (h n List.mem_cons_self)
    refine ⟨?_, ?_, ?_⟩
    · simp only [dI, List.map_cons, PyData.leavesShortAll, Bool.and_eq_true]
      exact ⟨hn.short, h1⟩
    · simp only [dI, List.map_cons, PyData.showableAll, Bool.and_eq_true]
      exact ⟨hn.shows, h2⟩
    · simp only [dI, List.map_cons, PyData.weightAll, List.length_cons]
      have := hn.few
      simp only [dI] at h3
      omega
theorem fine_tI {ns : List Int} (h : ∀ n ∈ ns, Sml n) : Fine (tI ns) (41 * ns.length) 2 := by
  obtain ⟨h1, h2, h3⟩ := fine_all h
  refine ⟨by simpa only [PyData.leavesShort] using h1, by simpa only [PyData.showable] using h2, ?_, by simpa only [PyData.weight] using h3⟩
  have := depth_ints ns
  simp only [PyData.depth]
  omega
theorem fine_two {d : PyData} {W k : Nat} (h : Fine d W k) : Fine (.list [d, d]) (2 * W + 2) (k + 1) where
  short := by simp [PyData.leavesShort, PyData.leavesShortAll, h.short]
  shows := by simp [PyData.showable, PyData.showableAll, h.shows]
  deep := by
    have := h.deep
    simp only [PyData.depth, PyData.depthAll]
    omega
  few := by
    have := h.few
    simp only [PyData.weight, PyData.weightAll]
    omega
theorem fine_kv : ∀ {m : KI}, (∀ p ∈ m, (∀ n ∈ p.1, Sml n) ∧ Sml p.2 ∧ p.1.length ≤ 3) →
    PyData.leavesShortKv 13 (m.map fun p => (tI p.1, PyData.int p.2)) = true ∧ PyData.showableKv (m.map fun p => (tI p.1, PyData.int p.2)) = true ∧ PyData.weightKv (m.map fun p => (tI p.1, PyData.int p.2)) ≤ 165 * m.length ∧ PyData.depthKv (m.map fun p => (tI p.1, PyData.int p.2)) ≤ 2
  | [], _ => ⟨rfl, rfl, by simp [PyData.weightKv], by simp [PyData.depthKv]⟩
  | p :: m, h => by
    obtain ⟨h1, h2, h3, h4⟩ := fine_kv (m := m) fun q hq => h q (List.mem_cons_of_mem _ hq)
    obtain ⟨a1, a2, a3⟩ := h p List.mem_cons_self
    have f1 := fine_tI a1
    have f2 := fine_int a2
    refine ⟨?_, ?_, ?_, ?_⟩
    · simp only [List.map_cons, PyData.leavesShortKv, Bool.and_eq_true]
      exact ⟨⟨f1.short, f2.short⟩, h1⟩
    · simp only [List.map_cons, PyData.showableKv, Bool.and_eq_true]
      exact ⟨⟨f1.shows, f2.shows⟩, h2⟩
    · simp only [List.map_cons, PyData.weightKv, List.length_cons]
      have := f1.few
      have := f2.few
      omega
    · simp only [List.map_cons, PyData.depthKv]
      have := f1.deep
      have := f2.deep
      omega
theorem fine_dict {m : KI} (h : ∀ p ∈ m, (∀ n ∈ p.1, Sml n) ∧ Sml p.2 ∧ p.1.length ≤ 3) : Fine (dDict m) (165 * m.length) 3 := by
  obtain ⟨h1, h2, h3, h4⟩ := fine_kv h
  refine ⟨by simpa only [dDict, PyData.leavesShort] using h1, by simpa only [dDict, PyData.showable] using h2, ?_, by simpa only [dDict, PyData.weight] using h3⟩
  simp only [dDict, PyData.depth]
  omega
theorem Fine.fits {d : PyData} {W k : Nat} (h : Fine d W k) (hw : W ≤ 2 ^ 20) : d.shown.length ≤ sizeLine := PyData.shown_fits (B := 13) (by decide) (by decide) h.short (Nat.le_trans h.few hw)
section
variable {K : PySem.W.Frag} {σ : L2.St} {H H' : Hp} {ta tb te : TE} {ds : List PyData} {d : PyData}
theorem ev_repr {W k : Nat} (h : EvD K te σ H (.list ds)) (f : Fine (.list ds) W k) (hw : W ≤ 2 ^ 20) (hk : k ≤ 80) : Ev (tCB (rRepr K) (tCons te tNil)) σ H (.str (PyData.list ds).shown) := fun H1 e Q q =>
  h H1 e _ fun v H2 e2 hv => by
    cases hv with
    | lst hs ha => exact ⟨_, _, rfl, .lst hs ha, f.shows, by have := f.deep; omega, f.fits hw, q H2 e2⟩
theorem ev_neS {x : Str} (ha : Ev ta σ H (.str x)) (hb : Ev tb σ H (.str x)) : Ev (tOp rNe ta tb) σ H (.bl false) := fun H1 e Q q =>
  ha H1 e _ fun H2 e2 => hb H2 (e.trans e2) _ fun H3 e3 => ⟨rfl, by
    have : decide (V.str x = V.str x) = true := decide_eq_true rfl
    rw [this]
    exact q H3 (e2.trans e3)⟩
/-- a def called by names -/
theorem ed_callKR {R : List PyData → PyData → Prop} {B : List PyData → Addr → Prop} {E : XK} {tt : TA} {d1 d2 : PyData} (h : EvDA K tt σ H [d2, d1]) (hr : R [d1, d2] d) : EvD K (tCallR 2 (spR K 2 R B) E tt) σ H d := fun H1 e Q q =>
  h H1 e _ fun vs H2 e2 hv => by
    obtain ⟨v2, v1, rfl, a, b⟩ := dpa_two hv
    exact ⟨rfl, [d1, d2], .cons b (.cons a .nil), rfl, .inl ⟨d, hr, fun v H3 e3 hd => q v H3 (e2.trans e3) hd⟩⟩
/-- a dict with tuple keys, a row of such -/
def EvK (te : TE) (σ : L2.St) (H : Hp) (m : KI) : Prop := ∀ H1, Ex H H1 → ∀ Q : VK, (∀ a H2, Ex H1 H2 → H2 a = some (.dT (kvI m)) → Q (.ref a) H2) → te σ H1 Q
def EvKA (ta : TA) (σ : L2.St) (H : Hp) (ms : List KI) : Prop := ∀ H1, Ex H H1 → ∀ Q : List V → Hp → Prop, (∀ vs H2, Ex H1 H2 → DTs H2 vs ms → Q vs H2) → ta σ H1 Q
theorem ek_var {k : Nat} {a : Addr} {m : KI} (h : σ[k]? = some (some (.ref a))) (ha : H a = some (.dT (kvI m))) : EvK (tVar k) σ H m := fun H1 e Q q => ⟨.ref a, h, q a H1 (Ex.refl _) (e _ _ ha)⟩
theorem eka_nil : EvKA tNil σ H [] := fun H1 _ _ q => q [] H1 (Ex.refl H1) .nil
theorem dts_ex {vs : List V} {ms : List KI} (e : Ex H H') (h : DTs H vs ms) : DTs H' vs ms := Paired.mapP h fun _ _ z => by
  obtain ⟨a, e1, e2⟩ := z
  exact ⟨a, e1, e _ _ e2⟩
theorem eka_cons {tr : TA} {m : KI} {ms : List KI} (h : EvK te σ H m) (hr : EvKA tr σ H ms) : EvKA (tCons te tr) σ H (m :: ms) := fun H1 e Q q =>
  h H1 e _ fun a H2 e2 ha => hr H2 (e.trans e2) _ fun vs H3 e3 hv => q _ H3 (e2.trans e3) (.cons ⟨a, rfl, e3 _ _ ha⟩ hv)
theorem ev_reprT {m : KI} {W k : Nat} (h : EvK te σ H m) (f : Fine (dDict m) W k) (hw : W ≤ 2 ^ 20) (hk : k ≤ 80) : Ev (tCB rReprT (tCons te tNil)) σ H (.str (dDict m).shown) := fun H1 e Q q =>
  h H1 e _ fun a H2 e2 ha => ⟨a, m, rfl, ha, f.shows, by have := f.deep; omega, f.fits hw, q H2 e2⟩
theorem ev_reprLT {tt : TA} {m : KI} {W k : Nat} (h : EvKA tt σ H [m, m]) (f : Fine (dDict m) W k) (hw : W ≤ 2 ^ 18) (hk : k ≤ 70) : Ev (tCB rReprLT (tCons (tLst tt) tNil)) σ H (.str (dRow [m, m]).shown) := fun H1 e Q q =>
  h H1 e _ fun vs H2 e2 hv => by
    have f2 : Fine (dRow [m, m]) (2 * W + 2) (k + 1) := fine_two f
    have e20 : (2 : Nat) ^ 20 = 4 * 2 ^ 18 := by decide
    have w2 : 2 * W + 2 ≤ 2 ^ 20 := by
      have e18 : (2 : Nat) ^ 18 = 262144 := by decide
      omega
    have deep2 := f2.deep
    have two : vs.length = 2 := Paired.length hv
    refine ⟨sz_of (by omega), fun p hp => ⟨p, vs, [m, m], rfl, upd_same, dts_ex (Ex.new hp) hv, by simp, f2.shows, by omega, f2.fits w2, q _ (e2.trans (Ex.new hp))⟩⟩
/-- list(d.values()) -/
theorem eq_vals {k : Nat} {a : Addr} {m : KI} (h : σ[k]? = some (some (.ref a))) (ha : H a = some (.dT (kvI m))) : EvQ K (tCB rListVT (tCons (tBM0 K "dict" rValsT (tVar k)) tNil)) σ H (dI (m.map Prod.snd)) := fun H1 e Q q => by
  have ha1 := e _ _ ha
  refine ⟨.ref a, h, .inr (.inr (.inl ⟨rfl, .inr ⟨_, ha1⟩⟩)), a, _, rfl, rfl, ha1, fun p hp => ?_⟩
  have npa : a ≠ p := fun z => by rw [z, hp] at ha1; cases ha1
  refine ⟨p, a, _, rfl, upd_same, by rw [upd_ne npa]; exact ha1, fun r hr => ?_⟩
  have e1 : Ex H1 (upd (upd H1 p (viewO "dict_values" p a)) r (.lst ((kvI m).map Prod.snd))) := (Ex.new hp).trans (Ex.new hr)
  refine q r _ _ e1 upd_same ?_
  have : (kvI m).map Prod.snd = (m.map Prod.snd).map V.int := by simp [kvI]
  rw [this]
  exact ints_dpa _
end
end DL
set_option Elab.async false
set_option linter.all false
set_option maxRecDepth 100000
set_option maxHeartbeats 4000000
/-! a loop over lambdas each of which is called, its error caught and asked for its class -/
namespace DL
open PySem PySem.Spec PyProof.Rows L2 Evl LamX
section
variable {K : PySem.W.Frag} {H H' : Hp}
theorem extn_of_ex (e : Ex H H') : ExtN H H' := fun b o h _ => e b o h
theorem rd_extn (e : ExtN H H') {a : Addr} {u : HO} (n : ∀ ps, u ≠ .tbl ps) (h : Rd H a u) : Rd H' a u := by
  rcases h with h | ⟨o, h⟩
  · exact .inl (e _ _ h n)
  · exact .inr ⟨o, e _ _ h fun _ z => nomatch z⟩
theorem sqL_extn (e : ExtN H H') {a : Addr} {xs : List V} (h : SqL K H a xs) : SqL K H' a xs := h.elim (fun r => .inl (rd_extn e (fun _ z => nomatch z) r)) .inr
theorem sqT_extn (e : ExtN H H') {a : Addr} {xs : List V} (h : SqT K H a xs) : SqT K H' a xs := h.elim (fun r => .inl (rd_extn e (fun _ z => nomatch z) r)) .inr
mutual
theorem dp_extn (e : ExtN H H') : ∀ (d : PyData) (v : V), Dp K H v d → Dp K H' v d
  | .none, _, h => by cases h; exact .non
  | .bool b, _, h => by cases h; exact .bl b
  | .int i, _, h => by cases h; exact .int i
  | .str x, _, h => by cases h; exact .str x
  | .list ds, _, h => by
    cases h with
    | lst s r => exact .lst (sqL_extn e s) (dpa_extn e ds _ r)
  | .tuple ds, _, h => by
    cases h with
    | tup s r => exact .tup (sqT_extn e s) (dpa_extn e ds _ r)
  | .dict _, _, h => by cases h
theorem dpa_extn (e : ExtN H H') : ∀ (ds : List PyData) (vs : List V), DpAll K H vs ds → DpAll K H' vs ds
  | [], _, h => by cases h; exact .nil
  | d :: ds, _, h => by
    cases h with
    | cons a r => exact .cons (dp_extn e d _ a) (dpa_extn e ds _ r)
end
theorem extn_new {a : Addr} {o : HO} (e : ExtN H H') (h : H a = none) : ExtN H (upd H' a o) := fun b u hb n => by
  rw [upd_ne (fun z => by rw [z, h] at hb; cases hb)]
  exact e b u hb n
theorem tabs_ex {T : List (Addr × Str)} (t : Tabs T H) (e : Ex H H') : Tabs T H' := fun p hp => TabS.ext (t p hp) e
abbrev noArgs : Arguments := { posonlyargs := [], args := [], vararg := none, kwonlyargs := [], kw_defaults := [], kwarg := none, defaults := [] }
/-- the lambda's value, and what calling it through the def comes to -/
abbrev tCaught (X : Cx) (CS : Addr) (k j : Nat) : TE := fun σ H Q => ∃ f c' params body scope tb, σ[j]? = some (some (.ref f)) ∧ H f = some (LamO f c' (X.env.qual ++ "<lambda>") params body scope (cloFrom X.env.cells scope.names [])) ∧
  H c' = some (CodeO c' (X.env.qual ++ "<lambda>")) ∧ LamD X k params body scope tb ∧ TTc X.K CS tb σ H Q
/-- raises an error of the class C, whatever comes -/
def Raises (C : Addr) (tb : XK → TE) (σ : L2.St) (H : Hp) : Prop := ∀ H1, ExtN H H1 → ∀ (E : XK) (Q : VK), (∀ H2, Ex H1 H2 → E (.ref C) none H2) → tb E σ H1 Q
theorem Raises.ex {C : Addr} {tb : XK → TE} {σ : L2.St} (h : Raises C tb σ H) (e : ExtN H H') : Raises C tb σ H' := fun H1 a => h H1 (e.trans a)
/-- one such lambda at hand -/
structure LamAt (X : Cx) (C : Addr) (k : Nat) (f : Addr) (σ : L2.St) (H : Hp) : Prop where
  ex : ∃ c' params body scope tb, H f = some (LamO f c' (X.env.qual ++ "<lambda>") params body scope (cloFrom X.env.cells scope.names [])) ∧ H c' = some (CodeO c' (X.env.qual ++ "<lambda>")) ∧ LamD X k params body scope tb ∧ Raises C tb σ H
theorem LamAt.extn {X : Cx} {C : Addr} {k : Nat} {f : Addr} {σ : L2.St} (h : LamAt X C k f σ H) (e : ExtN H H') : LamAt X C k f σ H' := by
  obtain ⟨c', params, body, scope, tb, h1, h2, h3, h4⟩ := h
  exact ⟨c', params, body, scope, tb, e _ _ h1 (fun _ z => nomatch z), e _ _ h2 (fun _ z => nomatch z), h3, h4.ex e⟩
/-- isinstance(caught(work), C), the error an own one of C -/
theorem ev_raised {X : Cx} {CS C f : Addr} {k j : Nat} {σ σ0 : L2.St} (hj : σ[j]? = some (some (.ref f))) (h : LamAt X C k f σ H) (kC : PySem.W.exmOne X.K (.ref C) (.ref CS) = some true) (iC : PySem.W.kitOne X.K (.ref C) (.ref C) = some true) (eC : ExcC X.K C) :
    Ev (tCB (rIsK X.K) (tCons (tCaught X CS k j) (tCons (tC (.ref C)) tNil))) σ H (.bl true) := fun H1 e Q q => by
  obtain ⟨c', params, body, scope, tb, h1, h2, h3, h4⟩ := h.extn (extn_of_ex e)
  refine ⟨f, c', params, body, scope, tb, hj, h1, h2, h3, fun E Q2 r1 r2 => ?_⟩
  refine h4 H1 (ExtN.refl _) E Q2 fun H2 e2 => r1 (.ref C) H2 kC fun a ha => ?_
  exact ⟨a, C, .ref C, .ref C, true, rfl, upd_same, eC, fun u z => z, iC, q _ (e2.trans (Ex.new ha))⟩
theorem d_lams {X : Cx} {T : List (Addr × Str)} {CS C : Addr} {k : Nat} {σ : L2.St} {D : Ends} {b1 b2 b3 : Expr} {s1 s2 s3 : Scope} {g1 g2 g3 : XK → TE} (tabs : Tabs T H)
    (kC : PySem.W.exmOne X.K (.ref C) (.ref CS) = some true) (iC : PySem.W.kitOne X.K (.ref C) (.ref C) = some true) (eC : ExcC X.K C) (len : 15 < σ.length)
    (L1 : LamD X k noArgs b1 s1 g1) (L2 : LamD X k noArgs b2 s2 g2) (L3 : LamD X k noArgs b3 s3 g3)
    (r1 : ∀ y, Raises C g1 (σ.set 15 y) H) (r2 : ∀ y, Raises C g2 (σ.set 15 y) H) (r3 : ∀ y, Raises C g3 (σ.set 15 y) H) (q : ∀ y H', ExtN H H' → Tabs T H' → D.nx (σ.set 15 y) H') :
    tFor (iList X.K (tLst (tCons (tLamV T (X.env.qual ++ "<lambda>") noArgs b1 s1 (cloFrom X.env.cells s1.names [])) (tCons (tLamV T (X.env.qual ++ "<lambda>") noArgs b2 s2 (cloFrom X.env.cells s2.names [])) (tCons (tLamV T (X.env.qual ++ "<lambda>") noArgs b3 s3 (cloFrom X.env.cells s3.names [])) tNil))))) (gName 15)
      (tIfS (tNot (tB (tCB (rIsK X.K) (tCons (tCaught X CS k 15) (tCons (tC (.ref C)) tNil))))) (tRet (tC (.bl false))) tNext) D σ H := by
  refine ⟨tabs, fun f1 c1 H1 x1 t1 n1 m1 k1 => ?_⟩
  have t1' := tabs_ex t1 (Ex.new (o := LamO f1 c1 (X.env.qual ++ "<lambda>") noArgs b1 s1 (cloFrom X.env.cells s1.names [])) m1)
  have x1' := extn_new (o := LamO f1 c1 (X.env.qual ++ "<lambda>") noArgs b1 s1 (cloFrom X.env.cells s1.names [])) x1 n1
  have a1 : upd H1 f1 (LamO f1 c1 (X.env.qual ++ "<lambda>") noArgs b1 s1 (cloFrom X.env.cells s1.names [])) f1 = some _ := upd_same
  have k1' := Ex.new (o := LamO f1 c1 (X.env.qual ++ "<lambda>") noArgs b1 s1 (cloFrom X.env.cells s1.names [])) m1 _ _ k1
  generalize upd H1 f1 (LamO f1 c1 (X.env.qual ++ "<lambda>") noArgs b1 s1 (cloFrom X.env.cells s1.names [])) = G1 at *
  refine ⟨t1', fun f2 c2 H2 x2 t2 n2 m2 k2 => ?_⟩
  have t2' := tabs_ex t2 (Ex.new (o := LamO f2 c2 (X.env.qual ++ "<lambda>") noArgs b2 s2 (cloFrom X.env.cells s2.names [])) m2)
  have x2' := extn_new (o := LamO f2 c2 (X.env.qual ++ "<lambda>") noArgs b2 s2 (cloFrom X.env.cells s2.names [])) x2 n2
  have a2 : upd H2 f2 (LamO f2 c2 (X.env.qual ++ "<lambda>") noArgs b2 s2 (cloFrom X.env.cells s2.names [])) f2 = some _ := upd_same
  have k2' := Ex.new (o := LamO f2 c2 (X.env.qual ++ "<lambda>") noArgs b2 s2 (cloFrom X.env.cells s2.names [])) m2 _ _ k2
  generalize upd H2 f2 (LamO f2 c2 (X.env.qual ++ "<lambda>") noArgs b2 s2 (cloFrom X.env.cells s2.names [])) = G2 at *
  refine ⟨t2', fun f3 c3 H3 x3 t3 n3 m3 k3 => ?_⟩
  have t3' := tabs_ex t3 (Ex.new (o := LamO f3 c3 (X.env.qual ++ "<lambda>") noArgs b3 s3 (cloFrom X.env.cells s3.names [])) m3)
  have x3' := extn_new (o := LamO f3 c3 (X.env.qual ++ "<lambda>") noArgs b3 s3 (cloFrom X.env.cells s3.names [])) x3 n3
  have a3 : upd H3 f3 (LamO f3 c3 (X.env.qual ++ "<lambda>") noArgs b3 s3 (cloFrom X.env.cells s3.names [])) f3 = some _ := upd_same
  have k3' := Ex.new (o := LamO f3 c3 (X.env.qual ++ "<lambda>") noArgs b3 s3 (cloFrom X.env.cells s3.names [])) m3 _ _ k3
  generalize upd H3 f3 (LamO f3 c3 (X.env.qual ++ "<lambda>") noArgs b3 s3 (cloFrom X.env.cells s3.names [])) = G3 at *
  have up23 := x2'.trans x3'
  refine ⟨by show 3 ≤ sizeLine; decide, fun p hp => ?_⟩
  refine ⟨p, rfl, ⟨_, sq_of upd_same⟩, ?_⟩
  have ex4 := Ex.new (o := .lst [.ref f1, .ref f2, .ref f3]) hp
  have at4 : upd G3 p (.lst [.ref f1, .ref f2, .ref f3]) p = some (.lst [.ref f1, .ref f2, .ref f3]) := upd_same
  have t4 := tabs_ex t3' ex4
  have x4 := (x1'.trans up23).trans (extn_of_ex ex4)
  have l1 : ∀ y, LamAt X C k f1 (σ.set 15 y) (upd G3 p (.lst [.ref f1, .ref f2, .ref f3])) := fun y => LamAt.extn (H := G1) ⟨c1, noArgs, b1, s1, g1, a1, k1', L1, (r1 y).ex x1'⟩ (up23.trans (extn_of_ex ex4))
  have l2 : ∀ y, LamAt X C k f2 (σ.set 15 y) (upd G3 p (.lst [.ref f1, .ref f2, .ref f3])) := fun y => LamAt.extn (H := G2) ⟨c2, noArgs, b2, s2, g2, a2, k2', L2, (r2 y).ex (x1'.trans x2')⟩ (x3'.trans (extn_of_ex ex4))
  have l3 : ∀ y, LamAt X C k f3 (σ.set 15 y) (upd G3 p (.lst [.ref f1, .ref f2, .ref f3])) := fun y => LamAt.extn (H := G3) ⟨c3, noArgs, b3, s3, g3, a3, k3', L3, (r3 y).ex (x1'.trans up23)⟩ (extn_of_ex ex4)
  generalize upd G3 p (.lst [.ref f1, .ref f2, .ref f3]) = G4 at *
  obtain ⟨y0, hy0⟩ : ∃ y0, σ[15]? = some y0 := ⟨σ[15], List.getElem?_eq_getElem len⟩
  have same : σ = σ.set 15 y0 := by
    refine List.ext_getElem? fun i => ?_
    by_cases e : i = 15
    · subst e
      rw [hy0, List.getElem?_set_self len]
    · rw [List.getElem?_set_ne (Ne.symm e)]
  refine for_it (walk_list (K := X.K) (xs := [.ref f1, .ref f2, .ref f3])) (fun _ σ' Ha => Ex G4 Ha ∧ ∃ y, σ' = σ.set 15 y) ⟨Ex.refl _, y0, same⟩ (fun i σ' Ha _ z => sq_of (z.1 _ _ at4)) ?_ ?_
  · rintro i x σ' Ha Hb hi ⟨xa, y, rfl⟩ ⟨rfl, hx⟩
    show tIfS _ _ _ _ ((σ.set 15 y).set 15 (some x)) Hb
    rw [List.set_set]
    have here : (σ.set 15 (some x))[15]? = some (some x) := List.getElem?_set_self len
    have lam : ∃ f, x = .ref f ∧ LamAt X C k f (σ.set 15 (some x)) Hb := by
      have hi' : i = 0 ∨ i = 1 ∨ i = 2 := by simp at hi; omega
      rcases hi' with rfl | rfl | rfl
      · cases hx
        exact ⟨f1, rfl, (l1 _).extn (extn_of_ex xa)⟩
      · cases hx
        exact ⟨f2, rfl, (l2 _).extn (extn_of_ex xa)⟩
      · cases hx
        exact ⟨f3, rfl, (l3 _).extn (extn_of_ex xa)⟩
    obtain ⟨f, rfl, la⟩ := lam
    refine s_when (b := false) (et_not (a := true) (et_B (ev_raised (σ0 := σ) here la kC iC eC))) (fun z => nomatch z) fun _ Hc ec => ?_
    exact ⟨xa.trans ec, _, rfl⟩
  · rintro σ' Ha ⟨xa, y, rfl⟩
    exact q y Ha (x4.trans (extn_of_ex xa)) (tabs_ex t4 xa)
end
end DL
set_option Elab.async false
set_option linter.all false
set_option maxRecDepth 100000
set_option maxHeartbeats 4000000
/-! the head of a law with lambdas, its table found by the law's name -/
namespace DL
open PySem PySem.Spec PyProof.Rows L2 Evl LamX
theorem walkT2 {l : PySem.W.OpenLaw} {n k : Nat} {q : Program} {loose : List Str} {XP : (Str → Option Value) → Heap → Prop} {YP : World → Heap → Prop} {d : DefRec} {K : Params → PySem.W.Frag} {CX : World → CXT} {x : Str}
    (most : l.most = some n) (line : n ≤ sizeLine) (plain : d.params.defaults = []) (room : Room k callerA) (keep : ∀ (w : World) (h : Heap), YP w h → (K w.params).In h) (here : (recsOf q).find? (fun e => e.name == d.name) = some d)
    (F : ∀ (w : World) (mg : Str → Option Value) (fa : Addr) (h : Heap), (K w.params).In h → h.Ns mainGlobals mg → mg d.name = some (.ref fa) →
      ∃ (fd : FuncData) (c T : Addr) (sp : Sp), PySem.W.tabIn (K w.params) d.name = some (c, T) ∧ (K w.params).lookup T = none ∧ (∀ (s : Shared) (u : Value), BindsTo s fd ⟨[u], []⟩ [(x, u)]) ∧
        (∀ (H : Hp) (a : Addr) (ns : List Int), ns.length ≤ n → H T = some (.tbl #[]) → SqL (K w.params) H a (ns.map V.int) → sp [.ref a] H (fun v _ => v = .bl true) fun _ _ _ => False) ∧
        ∀ base : Heap, (K w.params).In base → base.Ns mainGlobals mg → TabB base mg c T → FnG l.prog w (K w.params) mg base (CX w) k fa fd [x] sp)
    (out : ∀ (w : World) (H : Hp) (s : Shared) (e : Value) (s' : Shared), CX w [] H s (fun _ _ _ => False) e s' → False) : PySem.W.WalkO q loose XP YP l.row.toRowW d [] (fun f vs => PySem.call f vs) := by
  apply Att.attach_call most plain
  intro w s0 s1 mg mb fa o pm cd doc a vs ns G Y ho hd hcd hmg hobj hints hlen hg
  obtain ⟨fd, c, T, sp, t1, t2, bnd, ask, hF⟩ := F w mg fa _ (keep w _ Y) G.T.g hmg
  obtain ⟨hC, hT⟩ := PySem.W.tab_of G.T (keep w _ Y) here t1
  exact callT (keep w _ Y) G.T.g G.T.b G.T.builtins G.T.nolimit hg hT t2 hC G.T.bmain hobj hints (Nat.le_trans hlen line) room hF bnd (fun H h1 h2 => ask H a ns hlen h1 h2) fun H e s' => out w H s1 e s'
end DL
set_option Elab.async false
set_option linter.all false
set_option maxRecDepth 100000
set_option maxHeartbeats 4000000
/-! the head of a law: one run of the top, looked at in parts; the written part is found by names -/
namespace DL
open PySem PySem.Spec PyProof.Rows L2 Evl LamX He
/-- what the names reach, and the interpreter's statics -/
def fragY (look : Addr → Option Obj) (n : Nat) : PySem.W.Frag := frT look (asD look n ++ [cStatics])
/-- what is known of the written part: facts, defs, one more look, the empty tables of some defs -/
structure KnownY (fa : List Fa) (fn : List DefD) (tf : List Defn) (ex : PySem.W.Frag → Bool) (hp : Heap) (K : PySem.W.Frag) : Prop where
  says : SaysD fa fn K
  extra : ex K = true
  tabs : ∀ one ∈ tf, PySem.W.codeHdIn K (cT K one).1 (cT K one).2 = true ∧ K.lookup (cT K one).2 = none ∧ hp.get? (cT K one).2 = some { cls := .none, data := .fields #[] }
abbrev SeenY : Type := (AlD × Bool) × Bool
def lookY (n : Nat) (fa : List Fa) (fn : List DefD) (tf : List Defn) (ex : PySem.W.Frag → Bool) (look : Addr → Option Obj) : SeenY :=
  ((obsD fa fn (fragY look n), ex (fragY look n)), tabsB look tf (fragY look n))
def dueY (fn : List DefD) : SeenY := ((valD fn, true), true)
theorem tabs_known {look : Addr → Option Obj} {as : List Addr} : ∀ {tf : List Defn}, tabsB look tf (frT look as) = true →
    ∀ one ∈ tf, PySem.W.codeHdIn (frT look as) (cT (frT look as) one).1 (cT (frT look as) one).2 = true ∧ (frT look as).lookup (cT (frT look as) one).2 = none ∧ look (cT (frT look as) one).2 = some { cls := .none, data := .fields #[] } := by
  intro tf told one mem
  have here := List.all_eq_true.mp told one mem
  rw [Bool.and_eq_true] at here
  cases at_ : look (cT (frT look as) one).2 with
  | none => rw [at_] at here; exact absurd here.2 Bool.false_ne_true
  | some ob =>
    rw [at_] at here
    exact ⟨here.1, frT_none at_ here.2, by rw [emptyTab_eq here.2]⟩
theorem known_of {n : Nat} {fa : List Fa} {fn : List DefD} {tf : List Defn} {ex : PySem.W.Frag → Bool} {hp : Heap} (told : lookY n fa fn tf ex hp.get? = dueY fn) : KnownY fa fn tf ex hp (fragY hp.get? n) := by
  obtain ⟨p1, p3⟩ := Prod.mk.inj told
  obtain ⟨p1, p2⟩ := Prod.mk.inj p1
  exact ⟨p1, p2, tabs_known p3⟩
def hookY (n : Nat) (fa : List Fa) (fn : List DefD) (tf : List Defn) (ex : PySem.W.Frag → Bool) : PySem.W.Hook where
  α := SeenY
  obs := fun sh => lookY n fa fn tf ex sh.heap.get?
  val := fun _ => dueY fn
  says := fun _ hp => ∃ K : PySem.W.Frag, K.In hp ∧ KnownY fa fn tf ex hp K
  of := fun _ _ told => ⟨_, frT_in, known_of told⟩
  keeps := fun _ _ _ ⟨K, inn, kn⟩ stay => ⟨K, PySem.W.Frag.In.keeps inn stay, ⟨kn.says, kn.extra, fun one mem => ⟨(kn.tabs one mem).1, (kn.tabs one mem).2.1, stay _ _ (kn.tabs one mem).2.2⟩⟩⟩
def seeY (n : Nat) (fa : List Fa) (fn : List DefD) (tf : List Defn) (ex : PySem.W.Frag → Bool) (st : PySem.W.SharedT) : SeenY := lookY n fa fn tf ex (HandSHeadRun.getT st)
theorem seeY_eq {n : Nat} {fa : List Fa} {fn : List DefD} {tf : List Defn} {ex : PySem.W.Frag → Bool} (st : PySem.W.SharedT) : seeY n fa fn tf ex st = (hookY n fa fn tf ex).obs st.abs := by
  have same : HandSHeadRun.getT st = st.abs.heap.get? := funext (HandSHeadRun.getT_eq st)
  show lookY n fa fn tf ex (HandSHeadRun.getT st) = lookY n fa fn tf ex st.abs.heap.get?
  rw [same]
/-- the state behind the top -/
noncomputable abbrev lastY (r : PySem.W.OpenRow) (M : Nat) (w : World) (os : OsState) : Option PySem.W.SharedT := HandSHeadRun.endF (HandSHeadRun.stepQ (HandSHeadRun.denQ HandSHeadRun.tabQ) r.prog w) M r.prog w os
theorem some_parts {α β γ δ : Type} {x : Option α} {f : α → β} {g : α → γ} {k : α → δ} {a : β} {b : γ} {c : δ} (h1 : x.map f = some a) (h2 : x.map g = some b) (h3 : x.map k = some c) : x.map (fun s => (f s, g s, k s)) = some (a, b, c) := by
  cases x with
  | none => cases h1
  | some y =>
    cases h1
    cases h2
    cases h3
    rfl
theorem some_pair {α β γ : Type} {x : Option α} {f : α → β} {g : α → γ} {a : β} {b : γ} (h1 : x.map f = some a) (h2 : x.map g = some b) : x.map (fun s => (f s, g s)) = some (a, b) := by
  cases x with
  | none => cases h1
  | some y =>
    cases h1
    cases h2
    rfl
theorem some_and {α : Type} {x : Option α} {f g : α → Bool} (h1 : x.map f = some true) (h2 : x.map g = some true) : x.map (fun s => f s && g s) = some true := by
  cases x with
  | none => cases h1
  | some y =>
    have e1 := Option.some.inj h1
    have e2 := Option.some.inj h2
    show some (f y && g y) = some true
    rw [e1, e2] <;> rfl
/-- the run's equation from looks of their own -/
theorem run_of {r : PySem.W.OpenRow} {q : Program} {n M : Nat} {fa : List Fa} {fn : List DefD} {tf : List Defn} {ex : PySem.W.Frag → Bool} {loose : List Str} {w : World}
    (h1 : ∀ os : OsState, (lastY r M w os).map (fun s => (HandSHeadRun.looksF r.prog (PySem.W.boot_heap w.params) s.abs, HandSHeadRun.seenQ q loose (importedModules r.prog.main.body) (fun s => PySem.W.xlAt q [] s && PySem.W.recOk r.toRowW.records s) s.abs)) = some (true, PySem.W.openGood q loose))
    (h2 : ∀ os : OsState, (lastY r M w os).map (fun s => obsD fa fn (fragY (HandSHeadRun.getT s) n)) = some (valD fn))
    (h3 : ∀ os : OsState, (lastY r M w os).map (fun s => ex (fragY (HandSHeadRun.getT s) n)) = some true)
    (h4 : ∀ os : OsState, (lastY r M w os).map (fun s => tabsB (HandSHeadRun.getT s) tf (fragY (HandSHeadRun.getT s) n)) = some true) :
    HandSHeadRun.RunEq r q (hookY n fa fn tf ex) (seeY n fa fn tf ex) M loose w := fun os => by
  have all := some_pair (some_pair (h2 os) (h3 os)) (h4 os)
  have two := h1 os
  cases e : lastY r M w os with
  | none => rw [e] at all; cases all
  | some st =>
    rw [e] at all two
    have all2 : seeY n fa fn tf ex st = dueY fn := Option.some.inj all
    obtain ⟨t1, t2⟩ := Prod.mk.inj (Option.some.inj two)
    show (lastY r M w os).map _ = _
    rw [e]
    exact congrArg some (Prod.ext t1 (Prod.ext t2 all2))
/-- the head of a law whose written part is found by a look -/
theorem walkGE {l : PySem.W.OpenLaw} {n k : Nat} {q : Program} {loose : List Str} {XP : (Str → Option Value) → Heap → Prop} {YP : World → Heap → Prop} {d : DefRec} {CX : World → CXT} {x : Str}
    (most : l.most = some n) (line : n ≤ sizeLine) (plain : d.params.defaults = []) (room : Room k callerA)
    (F : ∀ (w : World) (mg : Str → Option Value) (fa : Addr) (h : Heap), YP w h → h.Ns mainGlobals mg → mg d.name = some (.ref fa) →
      ∃ (K : PySem.W.Frag) (fd : FuncData) (sp : Sp), K.In h ∧ (∀ (s : Shared) (u : Value), BindsTo s fd ⟨[u], []⟩ [(x, u)]) ∧
        (∀ (H : Hp) (a : Addr) (ns : List Int), ns.length ≤ n → Only H → SqL K H a (ns.map V.int) → sp [.ref a] H (fun v _ => v = .bl true) fun _ _ _ => False) ∧
        ∀ base : Heap, K.In base → base.Ns mainGlobals mg → FnG l.prog w K mg base (CX w) k fa fd [x] sp)
    (out : ∀ (w : World) (H : Hp) (s : Shared) (e : Value) (s' : Shared), CX w [] H s (fun _ _ _ => False) e s' → False) : PySem.W.WalkO q loose XP YP l.row.toRowW d [] (fun f vs => PySem.call f vs) := by
  apply Att.attach_call most plain
  intro w s0 s1 mg mb fa o pm cd doc a vs ns G Y ho hd hcd hmg hobj hints hlen hg
  obtain ⟨K, fd, sp, KX, hb, ask, hF⟩ := F w mg fa _ Y G.T.g hmg
  exact callG KX G.T.g G.T.b G.T.builtins G.T.nolimit hg hobj hints (Nat.le_trans hlen line) room hF hb (fun H h1 h2 => ask H a ns hlen h1 h2) fun H e s' => out w H s1 e s'
/-- .. of a law with lambdas of its own: c its code object, T its table -/
theorem walkTE {l : PySem.W.OpenLaw} {n k : Nat} {q : Program} {loose : List Str} {XP : (Str → Option Value) → Heap → Prop} {YP : World → Heap → Prop} {d : DefRec} {CX : World → CXT} {x : Str}
    (most : l.most = some n) (line : n ≤ sizeLine) (plain : d.params.defaults = []) (room : Room k callerA)
    (F : ∀ (w : World) (mg : Str → Option Value) (fa : Addr) (h : Heap), YP w h → h.Ns mainGlobals mg → mg d.name = some (.ref fa) →
      ∃ (K : PySem.W.Frag) (fd : FuncData) (c T : Addr) (sp : Sp), K.In h ∧ h.get? T = some { cls := .none, data := .fields #[] } ∧ K.lookup T = none ∧ PySem.W.CodeHd h c T ∧ (∀ (s : Shared) (u : Value), BindsTo s fd ⟨[u], []⟩ [(x, u)]) ∧
        (∀ (H : Hp) (a : Addr) (ns : List Int), ns.length ≤ n → H T = some (.tbl #[]) → SqL K H a (ns.map V.int) → sp [.ref a] H (fun v _ => v = .bl true) fun _ _ _ => False) ∧
        ∀ base : Heap, K.In base → base.Ns mainGlobals mg → TabB base mg c T → FnG l.prog w K mg base (CX w) k fa fd [x] sp)
    (out : ∀ (w : World) (H : Hp) (s : Shared) (e : Value) (s' : Shared), CX w [] H s (fun _ _ _ => False) e s' → False) : PySem.W.WalkO q loose XP YP l.row.toRowW d [] (fun f vs => PySem.call f vs) := by
  apply Att.attach_call most plain
  intro w s0 s1 mg mb fa o pm cd doc a vs ns G Y ho hd hcd hmg hobj hints hlen hg
  obtain ⟨K, fd, c, T, sp, KX, t1, t2, t3, bnd, ask, hF⟩ := F w mg fa _ Y G.T.g hmg
  exact callT KX G.T.g G.T.b G.T.builtins G.T.nolimit hg t1 t2 t3 G.T.bmain hobj hints (Nat.le_trans hlen line) room hF bnd (fun H h1 h2 => ask H a ns hlen h1 h2) fun H e s' => out w H s1 e s'
/-- a def without defaults, as a look finds it -/
theorem fn_look {K : PySem.W.Frag} {x qual : Str} {st : Stmt} {f : Addr} (F : ∃ fd, FunD K x qual (defArgs st) (defBody st) (defScope st) [] [] f fd) :
    ∃ (oc kV dc pm cd ct : Value) (od an : Option Addr) (sl : Array (Option Value)), K.lookup f = some ⟨oc, od, .func (PySem.W.fnOf x qual (defArgs st) (defBody st) (defScope st) .none kV dc pm an cd ct), sl⟩ ∧ PySem.W.codeIn K cd qual = true ∧ PySem.W.keepIn K (.ref f) = true := by
  obtain ⟨fd, F⟩ := F
  obtain ⟨oc, od, dV, kV, dc, pm, an, cd, ct, sl, e1, e2, e3, e4, _⟩ := F.ex
  rcases e4 with ⟨_, e5⟩ | ⟨e5, _⟩
  · subst e5
    subst e1
    exact ⟨oc, kV, dc, pm, cd, ct, od, an, sl, e2, e3, F.kp⟩
  · exact absurd rfl e5
end DL
set_option Elab.async false
set_option linter.all false
set_option maxRecDepth 100000
set_option maxHeartbeats 4000000
/-! an own exception class with its own __init__, called by keywords: from type.__call__ on -/
namespace PySem
namespace KwE
open Builtin Builtin.ObjectAttr HandSPX
section
variable {M : Model} {A : Around} {E : Value → Shared → Prop} {h : Heap} {g : Array GenState} {d : Drawn} {t : Nat} {os : OsState}
variable {nm q : Str} {C N : Addr} {bs bm bmB : List Value} {hdct : Bool} {sn : List Str} {sub : List Value} {ab : Bool} {col : Option Bool} {dd : Option Addr} {k0 k1 k2 k3 k5 : Option Value} {B newId initId : String} {kw : List (Str × Value)}
theorem check_new (F : ExcBaseFacts B newId initId bmB) (hT : ∀ X : String, bm.contains (.type X) = bmB.contains (.type X)) {rest : List Value} {Q : Unit → Shared → Prop}
    (hC : h.get? C = some (excClassObj nm q C N bs bm hdct sn sub ab col dd k0 k1 k2 k3 k5 newId)) (hq : Q () ⟨h, g, d, t, os⟩) : wpAny M A (checkBuiltinCall newId ⟨.ref C :: rest, kw⟩) Q E ⟨h, g, d, t, os⟩ := by
  have hcont : (Value.ref C :: bm).contains (.type B) = true := by rw [List.contains_cons, hT, F.hasB, Bool.or_true]
  have hstar := F.noStar
  simp only [checkBuiltinCall, F.newKind, F.newSplit, F.newRow]
  repeat (first | refine wpAny_loadPart_at hC ?_ | (refine wpAny_isSubtype_exc hC ?_; rw [hcont]) | refine wpAny_staticBase_exc hC ?_ | refine wpAny_madeBy_exc hC ?_ | simp only [bne_self_eq_false, Bool.false_eq_true, if_false] | wp_step)
  exact hq
end
section
variable {prog : Program} {w : World} {A : Around} {E : Value → Shared → Prop} {R : Result → Shared → Prop} {h : Heap} {g : Array GenState} {d : Drawn} {t : Nat} {os : OsState}
variable {nm q : Str} {C N : Addr} {bs bm bmB : List Value} {hdct : Bool} {sn : List Str} {sub : List Value} {ab : Bool} {col : Option Bool} {dd : Option Addr} {k0 k1 k2 k3 k5 : Option Value} {B newId initId : String} {kw : List (Str × Value)}
theorem new_kw (F : ExcBaseFacts B newId initId bmB) (hT : ∀ X : String, bm.contains (.type X) = bmB.contains (.type X)) {rest : List Value}
    (hC : h.get? C = some (excClassObj nm q C N bs bm hdct sn sub ab col dd k0 k1 k2 k3 k5 newId))
    (hq : R (.ok (.ret (.ref (h.objs.size + 1)))) ⟨(h.push { cls := .type "tuple", data := .seq rest.toArray }).push
      { cls := .ref C, data := .fields #[.ref h.objs.size, .none, .none, .none, .bool false, .none] }, g, d, t, os⟩) (hrest : rest.length ≤ sizeLine) :
    codeAny (model prog w) A (.builtin newId ⟨.ref C :: rest, kw⟩) R ⟨h, g, d, t, os⟩ := by
  have hends := F.ends
  have hcB : (Value.ref C :: bm).contains (.type B) = true := by rw [List.contains_cons, hT, F.hasB, Bool.or_true]
  have hcA : (Value.ref C :: bm).contains (.type "AttributeError") = false := by rw [List.contains_cons, hT, F.noAttr]; rfl
  have hcN : (Value.ref C :: bm).contains (.type "NameError") = false := by rw [List.contains_cons, hT, F.noName]; rfl
  refine codeAny_builtinAt F.entry ?_
  unfold Builtin.«BaseException.__new__»
  refine wpAt_bind ?_
  show wpAt _ _ _ (stack >>= _) _ _ _
  refine wpAt_bind (wpAt_stack fun p below => wpAt_of_wpAny ?_)
  wp_walk
  refine wpAt_of_wpAny ?_
  rw [F.owner]
  repeat (first | with_reducible refine wpAny_madeHere_exc F.canon hC ?_ | with_reducible refine wpAny_loadPart_at hC ?_ | (with_reducible refine wpAny_isSubtype_exc hC ?_; first | rw [hcB] | rw [hcA] | rw [hcN]) | wp_step)
  show R _ _
  rw [Heap.size_push]
  exact hq

theorem type_call_kw (F : ExcBaseFacts B newId initId bmB) (hT : ∀ X : String, bm.contains (.type X) = bmB.contains (.type X)) {rest : List Value} {fI : Addr} {Q : Fin → Shared → Prop}
    (hC : h.get? C = some (excClassObj nm q C N bs bm hdct sn sub ab col dd k0 k1 k2 k3 k5 newId))
    (hi : W.Looks (model prog w) h (typeLookup (.ref C) "__init__") (some (.ref fI))) (hb : ∀ self, W.Looks (model prog w) h (bindSpecial (.ref fI) self) (.ref fI, [self])) (hrest : rest.length ≤ sizeLine)
    (hq : codeAny (model prog w) A (.call (.ref fI) ⟨.ref (h.objs.size + 1) :: rest, kw⟩)
      (fun r s' => match r with | .ok (.ret v) => v = .none ∧ Q (.done (.ret (.ref (h.objs.size + 1)))) s' | .ok _ => False | .error e => E e s')
      ⟨(h.push (W.kdv_tup rest)).push (excO C h.objs.size), g, d, t, os⟩) :
    wpAny (model prog w) A (Builtin.«type.__call__» ⟨.ref C :: rest, kw⟩) Q E ⟨h, g, d, t, os⟩ := by
  repeat (first | with_reducible refine wpAny_loadPart_at hC ?_ | with_reducible refine wpAny_madeBy_exc hC ?_ | wp_step)
  refine codeAny_call_builtin_code (Code.quiet_builtin _ F.quiet) (check_new F hT hC ?_)
  refine new_kw F hT hC ?_ hrest
  show wpAny _ _ _ _ _ _
  have k : ∀ b o, h.get? b = some o → ((h.push (W.kdv_tup rest)).push (excO C h.objs.size)).get? b = some o := fun b o e => Heap.get?_push_of_some _ (Heap.get?_push_of_some _ e)
  have hC₁ := k _ _ hC
  have hget : ((h.push (W.kdv_tup rest)).push (excO C h.objs.size)).get? (h.objs.size + 1) = some (excO C h.objs.size) := by heap_get
  have hcC : (Value.ref C :: bm).contains (.ref C) = true := by simp
  have i1 := hi.keeps k
  have b1 := (hb (.ref (h.objs.size + 1))).keeps k
  unfold isInstance
  repeat (first | with_reducible refine wpAny_loadPart_at hget ?_ | (with_reducible refine wpAny_isSubtype_exc hC₁ ?_; rw [hcC]) | wp_step)
  show wpAny _ _ (typeLookup (.ref C) _) _ _ _
  refine i1.at ?_
  refine wpAny_holding (wpAny_bind (b1.at ?_))
  refine wpAny_bind (wpAny_call (codeAny_mono hq fun r s' z => ?_))
  rcases r with e | (v | _ | _ | _) <;> first | exact z | exact z.elim | skip
  obtain ⟨rfl, z⟩ := z
  first
    | exact wpAny_pure (wpAny_pure z)
    | (wp_walk; exact z)
theorem check_type_call {M : Model} {rest : List Value} {Q : Unit → Shared → Prop} (hC : h.get? C = some (excClassObj nm q C N bs bm hdct sn sub ab col dd k0 k1 k2 k3 k5 newId))
    (hq : Q () ⟨h, g, d, t, os⟩) : wpAny M A (checkBuiltinCall "type.__call__" ⟨.ref C :: rest, kw⟩) Q E ⟨h, g, d, t, os⟩ := by
  have f3 := tc_sub
  have hT : (⟨h, g, d, t, os⟩ : Shared).TypeIs (.ref C) "type" := ⟨_, hC, rfl⟩
  simp only [checkBuiltinCall, tc_kind, tc_split]
  repeat (any_goals (first | assumption | with_reducible refine wpAny_loadPart_at hC ?_ | with_reducible refine wpAny_onRaise ?_ | with_reducible refine wpAny_map ?_ | wp_step))
theorem call_kw (F : ExcBaseFacts B newId initId bmB) (hT : ∀ X : String, bm.contains (.type X) = bmB.contains (.type X)) {rest : List Value} {fI : Addr}
    (hC : h.get? C = some (excClassObj nm q C N bs bm hdct sn sub ab col dd k0 k1 k2 k3 k5 newId))
    (hi : W.Looks (model prog w) h (typeLookup (.ref C) "__init__") (some (.ref fI))) (hb : ∀ self, W.Looks (model prog w) h (bindSpecial (.ref fI) self) (.ref fI, [self])) (hrest : rest.length ≤ sizeLine)
    (hq : codeAny (model prog w) (A.under (.builtin "type.__call__" ⟨.ref C :: rest, kw⟩)) (.call (.ref fI) ⟨.ref (h.objs.size + 1) :: rest, kw⟩) (W.InitBack (h.objs.size + 1) R)
      ⟨(h.push (W.kdv_tup rest)).push (excO C h.objs.size), g, d, t, os⟩) :
    codeAny (model prog w) A (.call (.ref C) ⟨rest, kw⟩) R ⟨h, g, d, t, os⟩ := by
  have f1 := tc_lookup
  have f2 := tc_bind (.ref C)
  have hTy : (⟨h, g, d, t, os⟩ : Shared).TypeIs (.ref C) "type" := ⟨_, hC, rfl⟩
  refine codeAny_of_tree ?_
  show wpAny _ _ (callAny (.ref C) _) _ _ _
  repeat (any_goals (first | assumption | with_reducible refine wpAny_loadPart_at hC ?_ | wp_step))
  refine ⟨rfl, ?_⟩
  refine codeAny_call_builtin_at (Code.quiet_builtin _ (by decide +kernel)) entry_typeCall (check_type_call hC (type_call_kw F hT hC hi hb hrest ?_))
  refine codeAny_mono hq fun r s' z => ?_
  rcases r with e | (v | _ | _ | _) <;> exact z
end
end KwE
end PySem
set_option Elab.async false
set_option linter.all false
set_option maxRecDepth 100000
set_option maxHeartbeats 4000000
/-! own exceptions as values: isinstance, fields, making them, their base's __init__ -/
namespace DL
open PySem PySem.Spec PyProof.Rows L2 Evl
variable {X : Cx} {pins : List (Addr × Obj)} {σ : L2.St} {H : Hp} {s : Shared}
/-- at a: an exception of the class at C, without or with own fields -/
def XcAt (H : Hp) (a C : Addr) : Prop := H a = some (ExO (.ref C) a) ∨ ∃ (d : Addr) (fs : List (Str × V)), H a = some (exo a C (some d)) ∧ H d = some (exd d fs)
theorem xc_inst {a C : Addr} (I : Inv X pins σ H s) (h : XcAt H a C) : ∃ oe od, PySem.W.InstAt s.heap a oe C od := by
  rcases h with h | ⟨d, fs, h, hd⟩
  · obtain ⟨⟨oe, vs, ho, hz, hd, h1, _⟩, _, _⟩ := I.hok a _ h
    refine ⟨oe, none, ?_⟩
    cases oe with
    | mk oc od oda osl =>
      obtain ⟨z1, z2⟩ := hz
      have z1 : oc = .ref C := z1
      have z2 : od = none := z2
      have hd : oda = .fields vs := hd
      subst z1 z2 hd
      exact ⟨ho, rfl, rfl, trivial⟩
  · obtain ⟨t1, ho⟩ := exo_at I.hok h
    obtain ⟨mA, hns, rel⟩ := exd_at I.hok hd
    obtain ⟨od, ho2, hl⟩ := lookIn_ns hns
    exact ⟨_, some od, ho, rfl, rfl, ho2⟩
theorem xc_ex {H' : Hp} {a C : Addr} (e : Ex H H') (h : XcAt H a C) : XcAt H' a C := by
  rcases h with h | ⟨d, fs, h, hd⟩
  · exact .inl (e _ _ h)
  · exact .inr ⟨d, fs, e _ _ h, e _ _ hd⟩
/-- isinstance(e, C) -/
def rIsX (K : PySem.W.Frag) : List V → Hp → VK → Prop := fun xs H Q => ∃ (a D : Addr) (c : V) (cv : Value) (b : Bool), xs = [.ref a, c] ∧ XcAt H a D ∧ ExcC K D ∧ (∀ u, RelV c u → u = cv) ∧ PySem.W.kitOne K (.ref D) cv = some b ∧ Q (.bl b) H
theorem call_isX : CallR X (.builtin "isinstance") (rIsX X.K) := by
  intro pins s σ H xs us Q I r h
  obtain ⟨a, D, c, cv, b, rfl, ha, C, hcv, e, q⟩ := h
  obtain ⟨u1, u2, rfl, ra, rc⟩ := vals2 r
  cases ra
  have ec := hcv _ rc
  subst ec
  obtain ⟨oe, od, J⟩ := xc_inst I ha
  have hcl : (PySem.W.clsIn X.K D).isSome = true := by
    obtain ⟨cd, hc, _⟩ := PySem.W.any_some C.hd
    rw [hc]
    rfl
  exact PySem.W.kia_one (PySem.W.kitx_exc hcl C.hg C.hk C.hs C.ha C.hn C.ht C.hm) I.kIn J e (fun z => nomatch z) fun tk => ⟨.bl b, H, I.kept (t' := tk) fun _ _ z => z, rfl, q⟩
/-- e.f -/
def tXget (K : PySem.W.Frag) (f : Str) (te : TE) : TE := fun σ H Q => te σ H fun x H1 => ∃ (a C d : Addr) (fs : List (Str × V)) (v : V), x = .ref a ∧ H1 a = some (exo a C (some d)) ∧ H1 d = some (exd d fs) ∧ XfC K C ∧ PySem.W.findIn K (.ref C) f = some none ∧ fs.lookup f = some v ∧ Q v H1
theorem pe_xget {e : Expr} {te : TE} {pos : Pos} {n : Str} (he : PE X e te) (hb : attributeBase e n X.env (eval e X.env) = eval e X.env := by rfl) : PE X (.Attribute e n pos) (tXget X.K n te) := by
  refine ⟨fun pins s σ H Q I h => ?_⟩
  refine attr_of hb (thn (he.run pins s σ H _ I h) fun u s1 hh => ?_)
  obtain ⟨x, H1, I1, rx, a, C, d, fs, v, rfl, ha, hd, T, hno, l, q⟩ := hh
  obtain rfl : u = Value.ref a := rx
  obtain ⟨t1, ho⟩ := exo_at I1.hok ha
  obtain ⟨mA, hns, rel⟩ := exd_at I1.hok hd
  obtain ⟨od, ho2, hl⟩ := lookIn_ns hns
  obtain ⟨u, hu, ru⟩ := RelO.some_of (v := v) (o := mA n) (by rw [← l]; exact rel n)
  have J : PySem.W.InstAt s1.heap a _ C (some od) := ⟨ho, rfl, rfl, ho2⟩
  exact PySem.HandSPX.exc_get I1.kIn J T.ga T.gg T.exC (PySem.W.findObj_own T.hdC hno rfl (by rw [hl, hu])) (handed_of ru) ⟨v, H1, I1.tok _, ru, q⟩
/-- B.__init__(self, ..), B an own class that has ValueError's -/
structure BiC (K : PySem.W.Frag) (mg : Str → Option Value) (nm : Str) (B : Addr) : Prop where
  gC : mg nm = some (.ref B)
  rd : PySem.W.readsIn K B (.type "type") = true
  ga : PySem.W.specialIn K (.ref B) "__getattribute__" = some (some (.builtin "type.__getattribute__"))
  fi : PySem.W.findCls K (.ref B) (.type "type") "__init__" = some (.val (.builtin "ValueError.__init__"))
theorem pe_binit {x : Str} {B : Addr} {ta : TA} {e : Expr} {es : List Expr} {p1 p2 pos : Pos} {pl : Sem Bool} (T : BiC X.K X.mg x B) (hg : Gl X x) (ha : PA X (e :: es) ta)
    (hc : eval (.Call (.Attribute (.Name x p1) "__init__" p2) (e :: es) [] pos) X.env = (do
      let ov ← eval (.Name x p1) X.env
      standAt p2.atName
      let (f, first) ← holding [ov] (getMethod ov "__init__" pl)
      callWith pos f first (backTo pos (starEach (e :: es) X.env)) (backToKw pos (keywordEach [] X.env))) := by rfl)
    (he : starEach (e :: es) X.env = (false, eval e X.env) :: starEach es X.env := by rfl) (hpl : (backTo pos (starEach es X.env)).any (·.1) = false := by rfl) (hdb : (x == ("__debug__" : Str)) = false := by decide) :
    PE X (.Call (.Attribute (.Name x p1) "__init__" p2) (e :: es) [] pos) (tVeI X.K ta) := by
  refine ⟨fun pins s σ H Q I h => ?_⟩
  refine PySem.W.methodCall_KW (ld_glob I hg T.gC ?_ hdb) hc
  refine PySem.W.method_cls I.kIn T.ga (PySem.W.cls_value I.kIn T.rd T.fi (by decide +kernel) ?_)
  show wpAny _ _ (callWith pos (Value.builtin "ValueError.__init__") [] (backTo pos (starEach (e :: es) X.env)) []) _ _ _
  refine PyProof.Rows.callWith_method1 (thn (ha.run pos pins _ σ H _ (I.tok _) h) fun us s1 ⟨vs, H1, I1, r1, a, C, ws, ev, hl, T, ea, q⟩ => ?_) he hpl
  subst ev
  cases r1 with
  | @cons _ u0 _ ur ra rw' =>
    obtain rfl : u0 = Value.ref a := ra
    have hlen : ur.length ≤ sizeLine := by
      rw [← Paired.length rw', sizeLine_eq]
      omega
    exact oinit_ok T I1 ea hlen fun s' J => ⟨.non, H1, J, rfl, q⟩
/-- C(e, ..) as a value, C's own __init__ keeping sp -/
def tOexV (C : Addr) (sp : Sp) (ta : TA) : TE := fun σ H Q => ta σ H fun vs H1 => vs.length ≤ 1000 ∧ ∀ a, H1 a = none → sp (.ref a :: vs) (upd H1 a (exo a C none)) (fun v H2 => v = .non ∧ Q (.ref a) H2) (fun _ _ _ => False)
section
variable {CX : CXT} {x : Str} {C fI : Addr} {k : Nat} {fd : FuncData} {ps : List Str} {sp : Sp} {ta : TA} {e : Expr} {es : List Expr} {p pos : Pos}
theorem pe_oex (gu : X.A.guards = some []) (T : OexC X.K C) (iC : PySem.W.findIn X.K (.ref C) "__init__" = some (some (.ref fI))) (tI : PySem.W.typeIn X.K (.ref fI) = some (.type "function"))
    (F1 : FnG X.prog X.w X.K X.mg X.base CX k fI fd ps sp) (hr : Room (k + 1) X.A) (hb : L2.Binds X.K fd ps []) (hx : Passes CX X (fun _ _ _ => False)) (hg : Gl X x) (hm : X.mg x = some (.ref C)) (ha : PA X (e :: es) ta)
    (hdb : (x == ("__debug__" : Str)) = false := by decide) (he : starEach (e :: es) X.env = (false, eval e X.env) :: starEach es X.env := by rfl) (hpl : (backTo pos (starEach es X.env)).any (·.1) = false := by rfl) :
    PE X (.Call (.Name x p) (e :: es) [] pos) (tOexV C sp ta) := by
  refine ⟨fun pins s σ H Q I h => ?_⟩
  obtain ⟨nm, q, N, bs, bm, sn, sub, ab, col, dd, k0, k1, k2, k3, k5, hC, hbm⟩ := T.cls
  refine wpAny_Call_Name_kw (ld_glob I hg hm ?_ hdb)
  refine PySem.W.callWith_K (h₀ := X.base) I.ok.mod.kin T.kC (thn (ha.run pos pins s σ H _ I h) fun us s1 ⟨vs, H1, I1, r1, hz, q1⟩ => ⟨I1.kIn, ?_⟩) he hpl
  show wpAny _ _ (call (.ref C) us) _ _ _
  obtain ⟨hp, g, dr, tk, os⟩ := s1
  have hsz : hp.objs.size ≤ hp.objs.size + 1 := Nat.le_succ _
  have hn : H1 (hp.objs.size + 1) = none := I1.hok.fresh hsz
  have hq := q1 (hp.objs.size + 1) hn
  have kk : ∀ b o, hp.get? b = some o → ((hp.push (PySem.W.kdv_tup us)).push (PySem.HandSPX.excO C hp.objs.size)).get? b = some o := fun b o e => Heap.get?_push_of_some _ (Heap.get?_push_of_some _ e)
  have hget : ((hp.push (PySem.W.kdv_tup us)).push (PySem.HandSPX.excO C hp.objs.size)).get? (hp.objs.size + 1) = some (PySem.HandSPX.excO C hp.objs.size) := by heap_get
  have I2 : Inv X pins σ (upd H1 (hp.objs.size + 1) (exo (hp.objs.size + 1) C none)) ⟨(hp.push (PySem.W.kdv_tup us)).push (PySem.HandSPX.excO C hp.objs.size), g, dr, tk, os⟩ :=
    I1.laid (t' := tk) (a := hp.objs.size + 1) (o := exo (hp.objs.size + 1) C none) (h' := (hp.push (PySem.W.kdv_tup us)).push (PySem.HandSPX.excO C hp.objs.size)) kk hsz (exo_ok hget)
  have r2 : Vals (V.ref (hp.objs.size + 1) :: vs) (Value.ref (hp.objs.size + 1) :: us) := .cons rfl r1
  have hl : (Value.ref (hp.objs.size + 1) :: us ++ []).length = ps.length := by
    have e := r2.length
    rw [F1.len _ _ _ _ hq] at e
    rw [List.append_nil]
    exact e.symm
  have hus : us.length ≤ sizeLine := by
    rw [← Paired.length r1, sizeLine_eq]
    omega
  refine wpAny_call (PySem.HandSPX.call_own F.excBase_ValueError (fun Y => PySem.HandSPX.refsVE_contains Y bm hbm) (I1.kIn _ _ hC) (PySem.W.looks_findIn I1.kIn iC) (fun self => PySem.W.bind_fn I1.kIn self tI) hus
    (codeAny_mono (F1.run _ X.stack _ _ ⟨Value.ref (hp.objs.size + 1) :: us, []⟩ (Value.ref (hp.objs.size + 1) :: us) _ _ (fun _ _ _ => False) gu (hr.make C us []) (I2.env0.make C us []) (by have b := hb _ (Value.ref (hp.objs.size + 1) :: us) I2.kIn hl; rwa [List.append_nil] at b) r2 hq) fun r s' hq' => ?_))
  cases r with
  | error er => exact hx pins σ _ _ er s' I2 hq'
  | ok fl =>
    cases fl with
    | ret u =>
      obtain ⟨v, H2, os2, bare2, un2, hok2, rv, ev, q2⟩ := hq'
      subst ev
      exact ⟨rv, .ref (hp.objs.size + 1), H2, I2.call' (ch := []) os2 un2 hok2 bare2 (fun b z => absurd z (by simp)), rfl, q2⟩
    | next => exact False.elim hq'
    | brk => exact False.elim hq'
    | cont => exact False.elim hq'
/-- C(f = e) -/
theorem pe_oexK {f : Str} {kws : List Keyword} {tk : TA} (gu : X.A.guards = some []) (T : OexC X.K C) (iC : PySem.W.findIn X.K (.ref C) "__init__" = some (some (.ref fI))) (tI : PySem.W.typeIn X.K (.ref fI) = some (.type "function"))
    (F1 : FnG X.prog X.w X.K X.mg X.base CX k fI fd ["self", f] sp) (hr : Room (k + 1) X.A) (hb : ∀ (s : Shared) (u v : Value), X.K.In s.heap → BindsTo s fd ⟨[u], [(f, v)]⟩ [("self", u), (f, v)]) (hx : Passes CX X (fun _ _ _ => False)) (hg : Gl X x) (hm : X.mg x = some (.ref C)) (hkw : PK X kws tk)
    (hall : (backToKw pos (keywordEach kws X.env)).all (·.1.isSome) = true := by rfl) (hks : (backToKw pos (keywordEach kws X.env)).filterMap (·.1) = [f] := by rfl) (hdb : (x == ("__debug__" : Str)) = false := by decide)
    (hpl : ((backTo pos (starEach [] X.env)).any (·.1) || (backToKw pos (keywordEach kws X.env)).any (·.1.isNone)) = false := by rfl) :
    PE X (.Call (.Name x p) [] kws pos) (tOexV C sp tk) := by
  refine ⟨fun pins s σ H Q I h => ?_⟩
  obtain ⟨nm, q, N, bs, bm, sn, sub, ab, col, dd, k0, k1, k2, k3, k5, hC, hbm⟩ := T.cls
  refine wpAny_Call_Name_kw (ld_glob I hg hm ?_ hdb)
  refine PySem.W.callWith_KW0 (h₀ := X.base) I.ok.mod.kin T.kC hall (thn (hkw.run pos pins s σ H _ I h) fun ws s1 z => ?_) hpl
  obtain ⟨vs, H1, I1, r1, hz, q1⟩ := z
  refine ⟨I1.kIn, ?_⟩
  rw [hks]
  show wpAny _ _ (call (.ref C) [] ([f].zip ws)) _ _ _
  obtain ⟨hp, g, dr, tk, os⟩ := s1
  have hsz : hp.objs.size ≤ hp.objs.size + 1 := Nat.le_succ _
  have hn : H1 (hp.objs.size + 1) = none := I1.hok.fresh hsz
  have hq := q1 (hp.objs.size + 1) hn
  have hl := F1.len _ _ _ _ hq
  obtain ⟨v1, w1, rfl, rfl, rv1⟩ : ∃ v1 w1, vs = [v1] ∧ ws = [w1] ∧ RelV v1 w1 := by
    cases r1 with
    | nil => exact absurd hl (by simp)
    | cons a b =>
      cases b with
      | nil => exact ⟨_, _, rfl, rfl, a⟩
      | cons _ _ => exact absurd hl (by simp)
  have kk : ∀ b o, hp.get? b = some o → ((hp.push (PySem.W.kdv_tup [])).push (PySem.HandSPX.excO C hp.objs.size)).get? b = some o := fun b o e => Heap.get?_push_of_some _ (Heap.get?_push_of_some _ e)
  have hget : ((hp.push (PySem.W.kdv_tup [])).push (PySem.HandSPX.excO C hp.objs.size)).get? (hp.objs.size + 1) = some (PySem.HandSPX.excO C hp.objs.size) := by heap_get
  have I2 : Inv X pins σ (upd H1 (hp.objs.size + 1) (exo (hp.objs.size + 1) C none)) ⟨(hp.push (PySem.W.kdv_tup [])).push (PySem.HandSPX.excO C hp.objs.size), g, dr, tk, os⟩ :=
    I1.laid (t' := tk) (a := hp.objs.size + 1) (o := exo (hp.objs.size + 1) C none) (h' := (hp.push (PySem.W.kdv_tup [])).push (PySem.HandSPX.excO C hp.objs.size)) kk hsz (exo_ok hget)
  have r2 : Vals (V.ref (hp.objs.size + 1) :: [v1]) (Value.ref (hp.objs.size + 1) :: [w1]) := .cons rfl (.cons rv1 .nil)
  refine wpAny_call (PySem.KwE.call_kw (kw := [(f, w1)]) F.excBase_ValueError (fun Y => PySem.HandSPX.refsVE_contains Y bm hbm) (I1.kIn _ _ hC) (PySem.W.looks_findIn I1.kIn iC) (fun self => PySem.W.bind_fn I1.kIn self tI) (Nat.zero_le _)
    (codeAny_mono (F1.run _ X.stack _ _ ⟨[Value.ref (hp.objs.size + 1)], [(f, w1)]⟩ [Value.ref (hp.objs.size + 1), w1] _ _ (fun _ _ _ => False) gu (hr.make C [] [(f, w1)]) (I2.env0.make C [] [(f, w1)]) (hb _ _ _ I2.kIn) r2 hq) fun r s' hq' => ?_))
  cases r with
  | error er => exact hx pins σ _ _ er s' I2 hq'
  | ok fl =>
    cases fl with
    | ret u =>
      obtain ⟨v, H2, os2, bare2, un2, hok2, rv, ev, q2⟩ := hq'
      subst ev
      exact ⟨rv, .ref (hp.objs.size + 1), H2, I2.call' (ch := []) os2 un2 hok2 bare2 (fun b z => absurd z (by simp)), rfl, q2⟩
    | next => exact False.elim hq'
    | brk => exact False.elim hq'
    | cont => exact False.elim hq'
end
end DL
namespace DL
open PySem PySem.Spec PyProof.Rows L2 Evl
section
variable {X : Cx} {CX : CXT} {k : Nat} {f : Addr} {fd : FuncData} {ps : List Str} {sp : Sp} {E : XK} {x : Str} {e : Expr} {es : List Expr} {t : TA} {p pos : Pos}
theorem pe_callG (gu : X.A.guards = some []) (F : FnG X.prog X.w X.K X.mg X.base CX k f fd ps sp) (hr : Room k X.A) (hg : Gl X x) (hm : X.mg x = some (.ref f)) (hk : PySem.W.keepIn X.K (.ref f) = true) (hb : L2.Binds X.K fd ps []) (hx : Passes CX X E)
    (ha : PA X (e :: es) t) (hdb : (x == ("__debug__" : Str)) = false := by decide) (he : starEach (e :: es) X.env = (false, eval e X.env) :: starEach es X.env := by rfl) (hpl : (backTo pos (starEach es X.env)).any (·.1) = false := by rfl) :
    PE X (.Call (.Name x p) (e :: es) [] pos) (tCall sp [] E t) := by
  refine ⟨fun pins s σ H Q I h => ?_⟩
  refine wpAny_Call_Name_kw (ld_glob I hg hm ?_ hdb)
  refine PySem.W.callWith_K (h₀ := X.base) I.ok.mod.kin hk (thn (ha.run pos pins s σ H _ I h) fun us s1 ⟨vs, H1, I1, r, q⟩ => ⟨I1.kIn, ?_⟩) he hpl
  have q : sp (vs ++ []) H1 Q E := q
  have r2 : Vals (vs ++ []) (us ++ []) := r.append .nil
  have hl : (us ++ []).length = ps.length := by rw [← r2.length]; exact F.len _ _ _ _ q
  refine wpAny_call (codeAny_mono (F.run X.A X.stack s1 H1 ⟨us, []⟩ (us ++ []) (vs ++ []) Q E gu hr I1.env0 (hb s1 us I1.kIn hl) r2 q) fun r s' hq => ?_)
  cases r with
  | error e => exact hx pins σ H1 s1 e s' I1 hq
  | ok fl =>
    cases fl with
    | ret u => exact I1.after hq
    | next => exact False.elim hq
    | brk => exact False.elim hq
    | cont => exact False.elim hq
end
/-- a def that wants that no guard stands, called by its name -/
structure DFG (P : Program) (w : World) (K : PySem.W.Frag) (mg : Str → Option Value) (base : Heap) (nm : Str) (k : Nat) (ps : List Str) (sp : Sp) : Prop where
  ex : ∃ (f : Addr) (fd : FuncData), FnG P w K mg base (L2.CX P w) k f fd ps sp ∧ mg nm = some (.ref f) ∧ PySem.W.keepIn K (.ref f) = true ∧ L2.Binds K fd ps []
theorem pe_DG {X : Cx} {nm : Str} {k : Nat} {ps : List Str} {sp : Sp} {W : WX} {e : Expr} {es : List Expr} {t : TA} {p pos : Pos} (gu : X.A.guards = some []) (F : DFG X.prog X.w X.K X.mg X.base nm k ps sp) (tk : Takes X W) (hr : Room k X.A) (hg : Gl X nm) (ha : PA X (e :: es) t)
    (hdb : (nm == ("__debug__" : Str)) = false := by decide) (he : starEach (e :: es) X.env = (false, eval e X.env) :: starEach es X.env := by rfl) (hpl : (backTo pos (starEach es X.env)).any (·.1) = false := by rfl) :
    PE X (.Call (.Name nm p) (e :: es) [] pos) (tCall sp [] (fun _ _ _ => False) t) := by
  obtain ⟨f, fd, h1, h2, h3, h4⟩ := F.ex
  exact pe_callG gu h1 hr hg h2 h3 h4 (passes_call tk (fun _ _ _ _ h => h.elim)) ha hdb he hpl
end DL
set_option Elab.async false
set_option linter.all false
set_option maxRecDepth 100000
set_option maxHeartbeats 4000000
/-! texts of any small data, dicts among them: repr and f-strings -/
namespace DL
open PySem PySem.Spec PyProof.Rows L2 Evl
variable {X : Cx} {pins : List (Addr × Obj)} {σ : L2.St} {H H' : Hp} {s : Shared} {K : PySem.W.Frag}
/-- v tells d; {} and {0: 0} among them -/
inductive Itm (K : PySem.W.Frag) (H : Hp) : V → PyData → Prop
  | dp {v : V} {d : PyData} (h : Dp K H v d) : Itm K H v d
  | d0 {a : Addr} (h : H a = some (.dK [])) : Itm K H (.ref a) (.dict [])
  | d1 {a : Addr} (h : H a = some (.dK [(.inl 0, .int 0)])) : Itm K H (.ref a) (.dict [(.int 0, .int 0)])
theorem itm_ex {v : V} {d : PyData} (e : Ex H H') (h : Itm K H v d) : Itm K H' v d := by
  cases h with
  | dp h => exact .dp (dp_ex e _ _ h)
  | d0 h => exact .d0 (e _ _ h)
  | d1 h => exact .d1 (e _ _ h)
theorem itm_reads {a : Addr} {d : PyData} (I : Inv X pins σ H s) (h : Itm X.K H (.ref a) d) : ∃ as, Reads s.heap (.ref a) d as ∧ (d.hasDict = true → sysModules ∉ as) := by
  generalize hv : V.ref a = v at h
  cases h with
  | dp h =>
    subst hv
    obtain ⟨as, rd⟩ := Dp.reads I d (.ref a) (.ref a) h rfl
    exact ⟨as, rd, PyData.noDict_hsm (noDict_dp d _ h)⟩
  | d0 h =>
    cases hv
    obtain ⟨_, hs, vs, kv, o, es, ep, ho, ex, hdat, _, pr, _⟩ := I.hok a _ h
    cases kv
    have e0 : es.toList = [] := by
      cases hes : es.toList with
      | nil => rfl
      | cons _ _ =>
        rw [hes] at pr
        cases pr
    refine ⟨a :: [] ++ [], Reads.dict (as := []) (bs := []) ho ex.1 hdat (by rw [e0]; exact .nil) (by rw [e0]; exact .nil), fun _ q => ?_⟩
    have : sysModules = a := by simpa using q
    rw [← this] at hs
    simp at hs
  | d1 h =>
    cases hv
    obtain ⟨_, hs, vs, kv, o, es, ep, ho, ex, hdat, _, pr, _⟩ := I.hok a _ h
    obtain ⟨k1, v1, rfl, ek, ev⟩ : ∃ k1 v1, vs = [(k1, v1)] ∧ k1 = (Sum.inl 0 : Key) ∧ RelV (.int 0) v1 := by
      cases kv with
      | cons a b =>
        cases b
        exact ⟨_, _, rfl, a.1.symm, a.2⟩
    subst ek
    obtain ⟨e1, hes, ke, ve⟩ : ∃ e1, es.toList = [e1] ∧ keyIs (.inl 0) e1.key = true ∧ e1.val = v1 := by
      generalize es.toList = l at pr
      cases pr with
      | cons a b c =>
        cases c
        exact ⟨_, rfl, a, b⟩
    obtain ⟨t0, ev⟩ := (show ∃ t, v1 = Value.int 0 t from ev)
    obtain ⟨t1, ke⟩ := Value.isInt_shape (k := 0) (v := e1.key) ke
    refine ⟨a :: [] ++ [], Reads.dict (as := []) (bs := []) ho ex.1 hdat (by rw [hes]; exact ReadsAll.cons (as := []) (by show Reads _ e1.key (.int 0) []; rw [ke]; exact .int 0 t1) .nil) (by rw [hes]; exact ReadsAll.cons (as := []) (by show Reads _ e1.val (.int 0) []; rw [ve, ev]; exact .int 0 t0) .nil), fun _ q => ?_⟩
    have : sysModules = a := by simpa using q
    rw [← this] at hs
    simp at hs
/-- data with a short text -/
structure Txd (d : PyData) : Prop where
  shows : d.showable = true
  deep : d.depth ≤ 60
  len : d.shown.length ≤ 1000
  s1 : ∀ x, d = .str x → x.length ≤ 1000 ∧ (reprText x).length ≤ 1000
  i1 : ∀ i, d = .int i → i.natAbs.log2 < 1900 ∧ (Str.ofString (toString i)).length ≤ 1000
def tellR : PyData → Str
  | .none => "None"
  | .bool b => if b then "True" else "False"
  | .int i => toString i
  | .str x => reprText x
  | d => d.shown
/-- repr(x), x any small data -/
def rReprD (K : PySem.W.Frag) : List V → Hp → VK → Prop := fun xs H Q => ∃ (v : V) (d : PyData), xs = [v] ∧ Itm K H v d ∧ Txd d ∧ Q (.str (tellR d)) H
theorem line1000 : 1000 ≤ sizeLine := by decide
theorem call_reprD (hg : X.A.guards = some []) (hu : X.A.units + 100 < cLine) : CallR X (.builtin "repr") (rReprD X.K) := by
  intro pins s σ H xs us Q I r h
  obtain ⟨v, d, rfl, hd, T, q⟩ := h
  obtain ⟨u, rfl, ru⟩ := vals1 r
  cases v with
  | ref a =>
    cases ru
    obtain ⟨as, rd, sm⟩ := itm_reads I hd
    have e : tellR d = d.shown := by
      cases rd <;> rfl
    rw [e] at q
    exact repr_of_reads' rd T.shows sm hg (by have := T.deep; omega) (fun _ _ e => e) (fun h' u tk k => ⟨.str d.shown, H, I.kept k, ⟨u, rfl⟩, q⟩) (Nat.le_trans T.len line1000)
  | _ => 
    cases hd with
    | dp hd =>
      cases hd <;> first
        | (obtain rfl := ru; exact PySem.P.repr_of_none ⟨.str _, H, I.tok _, ⟨_, rfl⟩, q⟩)
        | (obtain rfl := ru; exact PySem.P.repr_of_bool ⟨.str _, H, I.tok _, ⟨_, rfl⟩, q⟩)
        | (obtain ⟨t, rfl⟩ := ru; exact PySem.P.repr_of_int (by have := (T.i1 _ rfl).1; omega) ⟨.str _, H, I.tok _, ⟨_, rfl⟩, q⟩)
        | (obtain ⟨t, rfl⟩ := ru; exact PySem.P.repr_of_str ⟨.str _, H, I.tok _, ⟨_, rfl⟩, q⟩ (Nat.le_trans (T.s1 _ rfl).2 line1000))
/-- {x}, x any small data: some short text -/
def tFmtD (K : PySem.W.Frag) (te : TE) : TE := fun σ H Q => te σ H fun x H1 => ∃ d, Itm K H1 x d ∧ Txd d ∧ ∀ m : Str, m.length ≤ 1000 → Q (.str m) H1
theorem pe_fmtD {e : Expr} {te : TE} {pos : Pos} (hg : X.A.guards = some []) (hu : X.A.units + 100 < cLine) (he : PE X e te) : PE X (.FormattedValue e (-1) none pos) (tFmtD X.K te) := by
  refine ⟨fun pins s σ H Q I h => ?_⟩
  refine wpAny_FormattedValue_plain (thn (he.run pins s σ H _ I h) fun v s1 hv => ?_)
  obtain ⟨x, H1, I1, ru, d, hd, T, q⟩ := hv
  cases x with
  | ref a =>
    cases ru
    obtain ⟨as, rd, sm⟩ := itm_reads I1 hd
    exact formatField_of_reads rd T.shows sm hg (by have := T.deep; omega) (fun _ _ e => e) (fun h' u tk k => ⟨.str d.shown, H1, I1.kept k, ⟨u, rfl⟩, q _ T.len⟩) (Nat.le_trans T.len line1000)
  | _ => 
    cases hd with
    | dp hd =>
      cases hd <;> first
        | (obtain rfl := ru; exact wpAny_formatField_none ⟨.str "None", H1, I1.tok _, ⟨_, rfl⟩, q _ (by decide)⟩)
        | (obtain rfl := ru; exact wpAny_formatField_bool ⟨.str _, H1, I1.tok _, ⟨_, rfl⟩, q _ (by split <;> decide)⟩)
        | (obtain ⟨t, rfl⟩ := ru; exact wpAny_formatField_int (by have := (T.i1 _ rfl).1; omega) ⟨.str _, H1, I1.tok _, ⟨_, rfl⟩, q _ (T.i1 _ rfl).2⟩)
        | (obtain ⟨t, rfl⟩ := ru; exact wpAny_formatField_str ⟨.str _, H1, I1, ⟨t, rfl⟩, q _ (T.s1 _ rfl).1⟩ ⟨.str _, H1, I1.tok _, ⟨_, rfl⟩, q _ (T.s1 _ rfl).1⟩ (Nat.le_trans (T.s1 _ rfl).1 line1000))
end DL
set_option Elab.async false
set_option linter.all false
set_option maxRecDepth 100000
set_option maxHeartbeats 4000000
namespace K16
open PySem PySem.Spec PyProof.Rows L2 Evl DL

def topS (i : Nat) : Stmt := PySem.Challenge.pw_allcalls_k15_sums_at_sides_and_triangles.main.body.getD i (.Pass ⟨0, 0, 0, 0⟩)
/-- what the module's names hold -/
structure Txt (mg : Str → Option Value) : Prop where
  b_isinstance : mg "isinstance" = none
  b_int : mg "int" = none
  b_bool : mg "bool" = none
  b_tuple : mg "tuple" = none
  b_list : mg "list" = none
  b_len : mg "len" = none
  b_range : mg "range" = none
  b_zip : mg "zip" = none
  b_max : mg "max" = none
  b_min : mg "min" = none
  b_sum : mg "sum" = none
  b_abs : mg "abs" = none
  b_repr : mg "repr" = none
  b_enumerate : mg "enumerate" = none
  c_MOST_NUMBER : ∃ t, mg "MOST_NUMBER" = some (.int 99 t)
  c_MOST_PLAIN_SIDES : ∃ t, mg "MOST_PLAIN_SIDES" = some (.int 4 t)
theorem pe_const {X : Cx} {x : Str} {n : Int} {pos : Pos} (h : ∃ t, X.mg x = some (.int n t)) (hg : Gl X x) (hd : (x == ("__debug__" : Str)) = false := by decide) : PE X (.Name x pos) (tC (.int n)) := by
  obtain ⟨t, h⟩ := h
  exact pe_glob hg h ⟨t, rfl⟩ hd
def isNum : PyData → Bool
  | .int _ => true
  | _ => false
def isIn (d : PyData) (a b : Int) : Bool := match d with
  | .int i => decide (a ≤ i) && decide (i ≤ b)
  | _ => false
def isBool : PyData → Bool
  | .bool _ => true
  | _ => false
theorem kit_int (d : PyData) : kitB (tyD d) "int" = some (isNum d || isBool d) := by
  cases d
  · show kitB "NoneType" "int" = some false; decide +kernel
  · show kitB "bool" "int" = some true; decide +kernel
  · show kitB "int" "int" = some true; decide +kernel
  · show kitB "str" "int" = some false; decide +kernel
  · show kitB "list" "int" = some false; decide +kernel
  · show kitB "tuple" "int" = some false; decide +kernel
  · show kitB "dict" "int" = some false; decide +kernel
theorem kit_bool (d : PyData) : kitB (tyD d) "bool" = some (isBool d) := by
  cases d
  · show kitB "NoneType" "bool" = some false; decide +kernel
  · show kitB "bool" "bool" = some true; decide +kernel
  · show kitB "int" "bool" = some false; decide +kernel
  · show kitB "str" "bool" = some false; decide +kernel
  · show kitB "list" "bool" = some false; decide +kernel
  · show kitB "tuple" "bool" = some false; decide +kernel
  · show kitB "dict" "bool" = some false; decide +kernel
def isTup : PyData → Option (List PyData)
  | .tuple ds => some ds
  | _ => none
theorem kit_tuple (d : PyData) : kitB (tyD d) "tuple" = some (isTup d).isSome := by
  cases d
  · show kitB "NoneType" "tuple" = some false; decide +kernel
  · show kitB "bool" "tuple" = some false; decide +kernel
  · show kitB "int" "tuple" = some false; decide +kernel
  · show kitB "str" "tuple" = some false; decide +kernel
  · show kitB "list" "tuple" = some false; decide +kernel
  · show kitB "tuple" "tuple" = some true; decide +kernel
  · show kitB "dict" "tuple" = some false; decide +kernel
local macro_rules | `(tactic| walk_at "dl") => `(tactic| first
  | exact ev_c | exact ev_var rfl | exact eda_nil
  | exact ed_var rfl (by assumption)
  | exact ed_int ev_c | exact ed_int (ev_var rfl)
  | (refine eda_cons ?_ ?_ <;> walk_at "dl")
  | (refine ed_int ?_; walk_at "dl")
  | (refine ev_op ?_ ?_ rv_I0 <;> walk_at "dl"))

section
variable {P : Program} {w : World} {K : PySem.W.Frag} {mg : Str → Option Value} {base : Heap}
def R_is_number (ds : List PyData) (r : PyData) : Prop := ∃ d, ds = [d] ∧ r = .bool (isNum d)
abbrev s_is_number : Stmt := topS 5
abbrev N_is_number : List Str := ["thing"]
theorem sc_is_number : FnScope N_is_number ["thing"] (defScope s_is_number) := ⟨rfl, rfl, rfl, by decide +kernel, rfl, by decide +kernel, by decide +kernel⟩
theorem ok_is_number {f : Addr} {fd : FuncData} (F : Fun K "is_number" "is_number" s_is_number f fd) (T : Txt mg)
      :
    FnOk P w K mg base CX0 1 f fd ["thing"] (spD K 1 R_is_number) := by
  refine F.ok sc_is_number (fun vs H Q E h => spD_len h) (fun cdv A outer s H vs Q E hr h => ?_)
  obtain ⟨ds, r, hd, _, ⟨d, rfl, rfl⟩, k⟩ := h
  obtain ⟨v0, rfl, d0⟩ := dpa_one hd
  refine ⟨_, (pss_one (ps_ret (pe_and (pe_callB call_isi (by rfl) T.b_isinstance (by decide +kernel) (pa_cons (pv 0) (pa_cons (pe_bltn (v := .ty "int") (u := .type "int") (by rfl) T.b_int (by decide +kernel) rfl) pa_nil))) (pe_one (pe_not (pe_callB call_isi (by rfl) T.b_isinstance (by decide +kernel) (pa_cons (pv 0) (pa_cons (pe_bltn (v := .ty "bool") (u := .type "bool") (by rfl) T.b_bool (by decide +kernel) rfl) pa_nil)))))))), ?_⟩
  refine d_ret (K := K) (ed_bool (ev_is (ev_andV (ev_isiD (ed_var rfl d0) (kit_int d)) fun _ => ev_notV (ev_isiD (ed_var rfl d0) (kit_bool d))) ?_)) k
  cases d <;> rfl

def R_is_within (ds : List PyData) (r : PyData) : Prop := ∃ (d : PyData) (a b : Int), ds = [d, .int a, .int b] ∧ r = .bool (isIn d a b)
abbrev s_is_within : Stmt := topS 6
abbrev N_is_within : List Str := ["thing", "low", "high"]
theorem sc_is_within : FnScope N_is_within ["thing", "low", "high"] (defScope s_is_within) := ⟨rfl, rfl, rfl, by decide +kernel, rfl, by decide +kernel, by decide +kernel⟩
theorem ok_is_within {f : Addr} {fd : FuncData} (F : Fun K "is_within" "is_within" s_is_within f fd) (T : Txt mg)
    (D_is_number : DF P w K mg base "is_number" 1 ["thing"] (spD K 1 R_is_number))  :
    FnOk P w K mg base CX0 2 f fd ["thing", "low", "high"] (spD K 3 R_is_within) := by
  refine F.ok sc_is_within (fun vs H Q E h => spD_len h) (fun cdv A outer s H vs Q E hr h => ?_)
  obtain ⟨ds, r, hd, _, ⟨d, a, b, rfl, rfl⟩, k⟩ := h
  obtain ⟨v0, v1, v2, rfl, d0, d1, d2⟩ := dpa_three hd
  cases dp_int d1
  cases dp_int d2
  refine ⟨_, (pss_one (ps_ret (pe_and (pe_D D_is_number (hr.mono (by decide)) (by rfl) (pa_cons (pv 0) pa_nil)) (pe_one (pe_chain op_le op_le (pv 1) (pv 0) (pv 2)))))), ?_⟩
  cases d with
  | int i =>
    cases dp_int d0
    exact d_ret (K := K) (ed_bool (ev_andV (a := true) (EvD.bool (ed_call (R := R_is_number) (ds := [.int i]) (by walk_at "dl") rfl ⟨_, rfl, rfl⟩)) fun _ => ev_chain (by walk_at "dl") (by walk_at "dl") (by walk_at "dl"))) k
  | _ => exact d_ret (K := K) (ed_bool (ev_andV (a := false) (b := false) (EvD.bool (ed_call (R := R_is_number) (eda_cons (ed_var rfl d0) eda_nil) rfl ⟨_, rfl, rfl⟩)) fun z => nomatch z)) k

def isTupOf (d : PyData) (m : Int) : Bool := match d with
  | .tuple ds => decide ((ds.length : Int) = m)
  | _ => false
def R_is_tuple_of (ds : List PyData) (r : PyData) : Prop := ∃ (d : PyData) (m : Int), ds = [d, .int m] ∧ r = .bool (isTupOf d m)
abbrev s_is_tuple_of : Stmt := topS 7
abbrev N_is_tuple_of : List Str := ["thing", "many"]
theorem sc_is_tuple_of : FnScope N_is_tuple_of ["thing", "many"] (defScope s_is_tuple_of) := ⟨rfl, rfl, rfl, by decide +kernel, rfl, by decide +kernel, by decide +kernel⟩
theorem ok_is_tuple_of {f : Addr} {fd : FuncData} (F : Fun K "is_tuple_of" "is_tuple_of" s_is_tuple_of f fd) (T : Txt mg)
      :
    FnOk P w K mg base CX0 1 f fd ["thing", "many"] (spD K 2 R_is_tuple_of) := by
  refine F.ok sc_is_tuple_of (fun vs H Q E h => spD_len h) (fun cdv A outer s H vs Q E hr h => ?_)
  obtain ⟨ds, r, hd, _, ⟨d, m, rfl, rfl⟩, k⟩ := h
  obtain ⟨v0, v1, rfl, d0, d1⟩ := dpa_two hd
  cases dp_int d1
  refine ⟨_, (pss_one (ps_ret (pe_and (pe_callB call_isi (by rfl) T.b_isinstance (by decide +kernel) (pa_cons (pv 0) (pa_cons (pe_bltn (v := .ty "tuple") (u := .type "tuple") (by rfl) T.b_tuple (by decide +kernel) rfl) pa_nil))) (pe_one (pe_cmpR op_eq (pe_callB call_len_seq (by rfl) T.b_len PySem.boot_len (pa_cons (pv 0) pa_nil)) (pv 1) (nomark _)))))), ?_⟩
  cases d with
  | tuple es => exact d_ret (K := K) (ed_bool (ev_andV (a := true) (ev_isiD (ed_var rfl d0) (kit_tuple _)) fun _ => ev_is (ev_op (ev_lenT (ed_var rfl d0)) (ev_var rfl) (rv_eq rfl)) (by rw [decide_vint]))) k
  | _ => exact d_ret (K := K) (ed_bool (ev_andV (a := false) (b := false) (ev_isiD (ed_var rfl d0) (kit_tuple _)) fun z => nomatch z)) k

/-- an item of any kind in, data out -/
def spI (K : PySem.W.Frag) (R : PyData → PyData → Prop) : Sp := fun vs H Q _ => ∃ v d r, vs = [v] ∧ Itm K H v d ∧ R d r ∧ ∀ v H', Ex H H' → Dp K H' v r → Q v H'
def isRow : PyData → Bool
  | .list _ => true
  | .tuple _ => true
  | _ => false
def R_is_row (d r : PyData) : Prop := r = .bool (isRow d)
theorem itm_ty {v : V} {d : PyData} {H : Hp} (h : Itm K H v d) : TyX K H v (.type (tyD d)) := by
  cases h with
  | dp h => exact tyD_dp h
  | d0 h => exact .base (.dK h)
  | d1 h => exact .base (.dK h)
theorem kit_row (d : PyData) : PySem.W.kitAny K (.type (tyD d)) [.type "list", .type "tuple"] = some (isRow d) := by
  cases d
  · exact kitAny_cons (b := false) (kit_ty (show kitB "NoneType" "list" = some false by decide +kernel)) (fun _ => kitAny_cons (b := false) (kit_ty (show kitB "NoneType" "tuple" = some false by decide +kernel)) (fun _ => rfl) fun z => nomatch z) fun z => nomatch z
  · exact kitAny_cons (b := false) (kit_ty (show kitB "bool" "list" = some false by decide +kernel)) (fun _ => kitAny_cons (b := false) (kit_ty (show kitB "bool" "tuple" = some false by decide +kernel)) (fun _ => rfl) fun z => nomatch z) fun z => nomatch z
  · exact kitAny_cons (b := false) (kit_ty (show kitB "int" "list" = some false by decide +kernel)) (fun _ => kitAny_cons (b := false) (kit_ty (show kitB "int" "tuple" = some false by decide +kernel)) (fun _ => rfl) fun z => nomatch z) fun z => nomatch z
  · exact kitAny_cons (b := false) (kit_ty (show kitB "str" "list" = some false by decide +kernel)) (fun _ => kitAny_cons (b := false) (kit_ty (show kitB "str" "tuple" = some false by decide +kernel)) (fun _ => rfl) fun z => nomatch z) fun z => nomatch z
  · exact kitAny_cons (b := true) (kit_ty (show kitB "list" "list" = some true by decide +kernel)) (fun z => nomatch z) fun _ => rfl
  · exact kitAny_cons (b := false) (kit_ty (show kitB "tuple" "list" = some false by decide +kernel)) (fun _ => kitAny_cons (b := true) (kit_ty (show kitB "tuple" "tuple" = some true by decide +kernel)) (fun z => nomatch z) fun _ => rfl) fun z => nomatch z
  · exact kitAny_cons (b := false) (kit_ty (show kitB "dict" "list" = some false by decide +kernel)) (fun _ => kitAny_cons (b := false) (kit_ty (show kitB "dict" "tuple" = some false by decide +kernel)) (fun _ => rfl) fun z => nomatch z) fun z => nomatch z
/-- isinstance(x, (list, tuple)), x an item at a name -/
theorem ev_row {σ : L2.St} {H : Hp} {i : Nat} {v : V} {d : PyData} (hi : σ[i]? = some (some v)) (h : Itm K H v d) : Ev (tCB (rIsiT K) (tCons (tVar i) (tCons (tTup (tCons (tC (.ty "list")) (tCons (tC (.ty "tuple")) tNil))) tNil))) σ H (.bl (isRow d)) := fun H1 e Q q => by
  refine ⟨v, hi, ?_⟩
  refine ⟨by show 2 ≤ sizeLine; decide, fun p hp => ?_⟩
  exact ⟨_, p, [.ty "list", .ty "tuple"], _, [.type "list", .type "tuple"], _, rfl, upd_same, .cons (.ty _) (.cons (.ty _) .nil), itm_ty (itm_ex (e.trans (Ex.new hp)) h), kit_row d, q _ (Ex.new hp)⟩
def R_check_sides (ds : List PyData) (r : PyData) : Prop := ∃ d, ds = [d, .int 4] ∧ isIn d 2 4 = true ∧ r = .none
def B_check_sides (CB : Addr) (ds : List PyData) (C : Addr) : Prop := ∃ d, ds = [d, .int 4] ∧ isIn d 2 4 = false ∧ C = CB
variable {CB CL CR : Addr}
abbrev s_check_sides : Stmt := topS 9
abbrev N_check_sides : List Str := ["sides", "most"]
theorem sc_check_sides : FnScope N_check_sides ["sides", "most"] (defScope s_check_sides) := ⟨rfl, rfl, rfl, by decide +kernel, rfl, by decide +kernel, by decide +kernel⟩
theorem ok_check_sides {f : Addr} {fd : FuncData} (F : Fun K "check_sides" "check_sides" s_check_sides f fd) (T : Txt mg)
    (D_is_within : DF P w K mg base "is_within" 2 ["thing", "low", "high"] (spD K 3 R_is_within)) (TB : ErC K mg "BadSides" CB)  :
    FnOk P w K mg base (L2.CX P w) 3 f fd ["sides", "most"] (spR K 2 R_check_sides (B_check_sides CB)) := by
  refine F.okX sc_check_sides (fun vs H Q E h => spR_len h) (fun cdv A outer s H vs Q E hr h => ?_)
  obtain ⟨ds, hd, _, h⟩ := h
  obtain ⟨d, rfl⟩ : ∃ d, ds = [d, .int 4] := by
    rcases h with ⟨r, ⟨d, e, _⟩, _⟩ | ⟨C, ⟨d, e, _⟩, _⟩
    · exact ⟨d, e⟩
    · exact ⟨d, e⟩
  obtain ⟨v0, v1, rfl, d0, d1⟩ := dpa_two hd
  cases dp_int d1
  refine ⟨_, (pss_one (ps_if (pt_not (pt_val (pe_D D_is_within (hr.mono (by decide)) (by rfl) (pa_cons (pv 0) (pa_cons pe_int (pa_cons (pv 1) pa_nil)))))) (pss_one (ps_raiseC rfl (takes_of rfl rfl rfl rfl) TB (by rfl) (pe_joined (.cons pe_str (.cons (pe_fmt (pv 1)) .nil))))) pss_nil)), ?_⟩
  refine s_when (b := !isIn d 2 4) (et_not (et_B (EvD.bool (ed_call (R := R_is_within) (ds := [d, .int 2, .int 4]) (eda_cons (ed_var rfl d0) (eda_cons (ed_int ev_c) (eda_cons (ed_int (ev_var rfl)) eda_nil))) rfl ⟨_, _, _, rfl, rfl⟩)))) (fun hb H1 e1 => ?_) fun hb H1 e1 => ?_
  · have hb : isIn d 2 4 = false := by simpa using hb
    rcases h with ⟨r, ⟨d', e, g, _⟩, _⟩ | ⟨C, ⟨d', e, g, rfl⟩, k⟩
    · cases e
      rw [g] at hb
      cases hb
    · refine ⟨_, rfl, by decide +kernel, .int 4, rfl, .inr ⟨4, rfl, by decide, ?_⟩⟩
      refine ⟨_, rfl, by decide +kernel, ?_⟩
      exact k H1 e1
  · have hb : isIn d 2 4 = true := by simpa using hb
    rcases h with ⟨r, ⟨d', e, g, rfl⟩, k⟩ | ⟨C, ⟨d', e, g, rfl⟩, k⟩
    · exact k .non H1 e1 .non
    · cases e
      rw [g] at hb
      cases hb

def R_check_room (ds : List PyData) (r : PyData) : Prop := ∃ d, ds = [d] ∧ isIn d 0 99 = true ∧ r = .none
def B_check_room (CR : Addr) (ds : List PyData) (C : Addr) : Prop := ∃ d, ds = [d] ∧ isIn d 0 99 = false ∧ C = CR
end
end K16
set_option Elab.async false
set_option linter.all false
set_option maxRecDepth 100000
set_option maxHeartbeats 4000000
namespace K16
open PySem PySem.Spec PyProof.Rows L2 Evl DL
local macro_rules | `(tactic| walk_at "dl") => `(tactic| first
  | exact ev_c | exact ev_var rfl | exact eda_nil
  | exact ed_var rfl (by assumption)
  | exact ed_int ev_c | exact ed_int (ev_var rfl)
  | (refine eda_cons ?_ ?_ <;> walk_at "dl")
  | (refine ed_int ?_; walk_at "dl")
  | (refine ev_op ?_ ?_ rv_I0 <;> walk_at "dl"))

section
variable {P : Program} {w : World} {K : PySem.W.Frag} {mg : Str → Option Value} {base : Heap}
variable {CB CL CR : Addr}
def plc (s a b : Int) : Int := a * (2 * s - a - 1) / 2 + b - a - 1
def R_pair_place (ds : List PyData) (r : PyData) : Prop := ∃ s a b : Int, ds = [.int s, .int a, .int b] ∧ (0 ≤ a ∧ a ≤ 1000) ∧ r = .int (plc s a b)
abbrev s_pair_place : Stmt := topS 14
abbrev N_pair_place : List Str := ["sides", "side", "far"]
theorem sc_pair_place : FnScope N_pair_place ["sides", "side", "far"] (defScope s_pair_place) := ⟨rfl, rfl, rfl, by decide +kernel, rfl, by decide +kernel, by decide +kernel⟩
theorem ok_pair_place {f : Addr} {fd : FuncData} (F : Fun K "pair_place" "pair_place" s_pair_place f fd) (T : Txt mg)
      :
    FnOk P w K mg base CX0 1 f fd ["sides", "side", "far"] (spD K 3 R_pair_place) := by
  refine F.ok sc_pair_place (fun vs H Q E h => spD_len h) (fun cdv A outer s H vs Q E hr h => ?_)
  obtain ⟨ds, r, hd, _, ⟨x, a, b, rfl, ⟨h1, h2⟩, rfl⟩, k⟩ := h
  obtain rfl := dpa_ints (l := [x, a, b]) hd
  refine ⟨_, (pss_one (ps_ret (pe_op op_sub (pe_op op_sub (pe_op op_add (pe_op op_fdiv (pe_op op_mul (pv 1) (pe_op op_sub (pe_op op_sub (pe_op op_mul pe_int (pv 0)) (pv 1)) pe_int)) pe_int) (pv 2)) (pv 1)) pe_int))), ?_⟩
  refine d_ret (d := .int (plc x a b)) (ed_int ?_) k
  have i1 : Ev (tOp (rI CMul fun i j => .int (i * j)) (tC (.int 2)) (tVar 0)) (L2.start N_pair_place (List.map V.int [x, a, b])) H (.int (2 * x)) := ev_op ev_c (ev_var rfl) (rv_I (.inl (by omega)))
  have i2 := ev_op (r := rI0 fun i j => .int (i - j)) (ev_op (r := rI0 fun i j => .int (i - j)) i1 (ev_var (i := 1) (v := .int a) rfl) rv_I0) (ev_c (v := .int 1)) rv_I0
  have i3 := ev_op (r := rI CMul fun i j => .int (i * j)) (ev_var (i := 1) (v := .int a) rfl) i2 (rv_I (.inl (by omega)))
  have i4 := ev_op (r := rI CDiv fun i j => .int (i / j)) i3 (ev_c (v := .int 2)) (rv_I (by unfold CDiv; omega))
  exact ev_op (ev_op (ev_op i4 (ev_var (v := .int b) rfl) rv_I0) (ev_var (v := .int a) rfl) rv_I0) ev_c rv_I0

def pD (p : Int × Int) : PyData := tI [p.1, p.2]
def prs (s : Int) : List (Int × Int) := (List.range s.toNat).flatMap fun (i : Nat) => (List.range (s - ((i : Int) + 1)).toNat).map fun (j : Nat) => ((i : Int), (i : Int) + 1 + (j : Int))
def np (s : Int) : Nat := (prs s).length
def R_side_pairs (ds : List PyData) (r : List PyData) : Prop := ∃ s : Int, ds = [.int s] ∧ 0 ≤ s ∧ s ≤ 5 ∧ r = (prs s).map pD
abbrev s_side_pairs : Stmt := topS 12
abbrev N_side_pairs : List Str := ["sides", "side", "far"]
theorem sc_side_pairs : FnScope N_side_pairs ["sides"] (defScope s_side_pairs) := ⟨rfl, rfl, rfl, by decide +kernel, rfl, by decide +kernel, by decide +kernel⟩
theorem ok_side_pairs {f : Addr} {fd : FuncData} (F : Fun K "side_pairs" "side_pairs" s_side_pairs f fd) (T : Txt mg)
      :
    FnOk P w K mg base CX0 1 f fd ["sides"] (spN K 1 R_side_pairs) := by
  refine F.ok sc_side_pairs (fun vs H Q E h => spN_len h) (fun cdv A outer s H vs Q E hr h => ?_)
  obtain ⟨ds, r, hd, _, ⟨x, rfl, h1, h2, rfl⟩, k⟩ := h
  obtain rfl := dpa_ints (l := [x]) hd
  refine ⟨_, (pss_one (ps_ret (pe_lc2 (own := [("side", 1), ("far", 2)]) (vs1 := [2]) (g := (gName 1)) (tt := tYes) (g1 := (gName 2)) (tt1 := tYes) rfl sc_side_pairs.nd (pi_range1 (by rfl) T.b_range (pa_cons (pv 0) pa_nil)) (blkOk_by (N := N_side_pairs) (sc := defScope s_side_pairs) (by decide +kernel)) (by decide) (fun _ _ _ _ _ => (pg_name (i := 1) sc_side_pairs.nd rfl (Or.inl rfl))) (fun _ _ _ _ _ => pts_nil) (fun _ _ _ _ _ => (pi_range2 (by rfl) T.b_range (pa_cons (pe_op op_add (pv 1) pe_int) (pa_cons (pv 0) pa_nil)))) (fun _ _ _ _ _ => (pg_name (i := 2) sc_side_pairs.nd rfl (Or.inl rfl))) (fun _ _ _ _ _ => pts_nil) (fun _ _ _ _ _ => (pe_tup (pa_cons (pv 1) (pa_cons (pv 2) pa_nil))))))), ?_⟩
  refine n_ret (en_is (en_lc2 (ei_rng1 (n := x) (by walk_at "dl") (by omega)) (immAll_map (fun _ => by simp [imm]) _) (fun i => (List.range (x - ((i : Int) + 1)).toNat).map fun (j : Nat) => PyData.int ((i : Int) + 1 + (j : Int)))
    (fun i => immAll_map (fun _ => by simp [imm]) _) (fun i j => tI [(i : Int), (i : Int) + 1 + (j : Int)]) (fun i j => imm_tI _) (fun i => by rw [List.length_map, List.length_range]; omega) (by rw [List.length_map, List.length_range]; omega)
    (fun _ => rfl) (fun _ _ => rfl) fun i d y H3 hd1 hd2 => ?_) ?_) k
  · have hlt : i < x.toNat := by
      have := (List.getElem?_eq_some_iff.mp hd1).1
      simpa using this
    rw [rng_get hlt] at hd1
    cases hd1
    cases hd2
    refine ⟨fun S hS => ei_rng2 (m := (i : Int) + 1) (n := x) (eda_cons (ed_int (ev_op (ev_var rfl) ev_c rv_I0)) (eda_cons (ed_int (ev_var rfl)) eda_nil)) (by omega), fun j d' y H5 hj hx hy => ?_⟩
    have hlt2 : j < (x - ((i : Int) + 1)).toNat := by
      have := (List.getElem?_eq_some_iff.mp hj).1
      simpa using this
    rw [rng_get hlt2] at hj
    cases hj
    cases hy
    exact ed_tup (eda_cons (ed_int (ev_var rfl)) (eda_cons (ed_int (ev_var rfl)) eda_nil)) (by simp)
  · unfold prs
    rw [List.map_flatMap, List.length_map, List.length_range]
    congr 1
    funext i
    rw [List.map_map, List.length_map, List.length_range]
    rfl

theorem np_all : np 2 = 1 ∧ np 3 = 3 ∧ np 4 = 6 ∧ np 5 = 10 := by decide
def R_many_pairs (ds : List PyData) (r : PyData) : Prop := ∃ s : Int, ds = [.int s] ∧ 2 ≤ s ∧ s ≤ 5 ∧ r = .int ((np s : Nat) : Int)
abbrev s_many_pairs : Stmt := topS 13
abbrev N_many_pairs : List Str := ["sides"]
theorem sc_many_pairs : FnScope N_many_pairs ["sides"] (defScope s_many_pairs) := ⟨rfl, rfl, rfl, by decide +kernel, rfl, by decide +kernel, by decide +kernel⟩
theorem ok_many_pairs {f : Addr} {fd : FuncData} (F : Fun K "many_pairs" "many_pairs" s_many_pairs f fd) (T : Txt mg)
      :
    FnOk P w K mg base CX0 1 f fd ["sides"] (spD K 1 R_many_pairs) := by
  refine F.ok sc_many_pairs (fun vs H Q E h => spD_len h) (fun cdv A outer s H vs Q E hr h => ?_)
  obtain ⟨ds, r, hd, _, ⟨x, rfl, h1, h2, rfl⟩, k⟩ := h
  obtain rfl := dpa_ints (l := [x]) hd
  refine ⟨_, (pss_one (ps_ret (pe_op op_fdiv (pe_op op_mul (pv 0) (pe_op op_sub (pv 0) pe_int)) pe_int))), ?_⟩
  refine d_ret (d := .int ((np x : Nat) : Int)) (ed_int ?_) k
  have i1 : Ev (tOp (rI0 fun i j => .int (i - j)) (tVar 0) (tC (.int 1))) (L2.start N_many_pairs (List.map V.int [x])) H (.int (x - 1)) := ev_op (ev_var rfl) ev_c rv_I0
  have i2 := ev_op (r := rI CMul fun i j => .int (i * j)) (ev_var (i := 0) (v := .int x) rfl) i1 (rv_I (.inl (by omega)))
  have i3 := ev_op (r := rI CDiv fun i j => .int (i / j)) i2 (ev_c (v := .int 2)) (rv_I (by unfold CDiv; omega))
  refine ev_is i3 ?_
  have hs' : x = 2 ∨ x = 3 ∨ x = 4 ∨ x = 5 := by omega
  rcases hs' with rfl | rfl | rfl | rfl
  · rw [np_all.1] <;> rfl
  · rw [np_all.2.1] <;> rfl
  · rw [np_all.2.2.1] <;> rfl
  · rw [np_all.2.2.2] <;> rfl

def R_no_wires (ds : List PyData) (r : PyData) : Prop := ∃ s : Int, ds = [.int s] ∧ 2 ≤ s ∧ s ≤ 5 ∧ r = tI (List.replicate (np s) 0)
theorem np_le {s : Int} (h1 : 2 ≤ s) (h2 : s ≤ 5) : 1 ≤ np s ∧ np s ≤ 10 := by
  have : s = 2 ∨ s = 3 ∨ s = 4 ∨ s = 5 := by omega
  rcases this with rfl | rfl | rfl | rfl <;> decide
theorem et_is {t : TT} {σ : L2.St} {H : Hp} {a b : Bool} (h : EvT t σ H a) (e : a = b) : EvT t σ H b := e ▸ h
/-- not isinstance(x, int) or isinstance(x, bool) or x < 0 or x > 99 -/
theorem within_test {σ : L2.St} {H : Hp} {te tm : TE} {e : PyData} (h : EvD K te σ H e) (hm : Ev tm σ H (.int 99)) :
    EvT (tOr (tNot (tB (tCB (rIsi K) (tCons te (tCons (tC (.ty "int")) tNil))))) (tOr (tB (tCB (rIsi K) (tCons te (tCons (tC (.ty "bool")) tNil)))) (tOr (tTest (tOp (rI0 fun i j => V.bl (decide (i < j))) te (tC (.int 0)))) (tTest (tOp (rI0 fun i j => V.bl (decide (j < i))) te tm))))) σ H (!isIn e 0 99) := by
  have one : EvT (tNot (tB (tCB (rIsi K) (tCons te (tCons (tC (.ty "int")) tNil))))) σ H (!(isNum e || isBool e)) := et_not (et_B (ev_isiD h (kit_int e)))
  have two : EvT (tB (tCB (rIsi K) (tCons te (tCons (tC (.ty "bool")) tNil)))) σ H (isBool e) := et_B (ev_isiD h (kit_bool e))
  cases e with
  | int i =>
    refine et_is (et_or (b := (false || (decide (i < 0) || decide (99 < i)))) one fun _ => et_or (b := decide (i < 0) || decide (99 < i)) two fun _ => et_or (et_test (ev_op (EvD.int h) ev_c rv_I0)) fun _ => et_test (ev_op (EvD.int h) hm rv_I0)) ?_
    show (false || (false || (decide (i < 0) || decide (99 < i)))) = !(decide (0 ≤ i) && decide (i ≤ 99))
    by_cases h1 : i < 0
    · simp [h1, Int.not_le.mpr h1]
    · by_cases h2 : 99 < i
      · simp [h1, h2, Int.not_le.mpr h2]
      · simp [h1, h2, Int.not_lt.mp h1, Int.not_lt.mp h2]
  | bool b => exact et_is (et_or (b := true) one fun _ => et_is (et_or (b := true) two fun z => nomatch z) rfl) rfl
  | none => exact et_is (et_or (b := true) one fun z => nomatch z) rfl
  | str x => exact et_is (et_or (b := true) one fun z => nomatch z) rfl
  | list xs => exact et_is (et_or (b := true) one fun z => nomatch z) rfl
  | tuple xs => exact et_is (et_or (b := true) one fun z => nomatch z) rfl
  | dict xs => exact et_is (et_or (b := true) one fun z => nomatch z) rfl
/-- a load of so many sides -/
def Ld (s : Int) (l : List Int) : Prop := l.length = np s ∧ ∀ x ∈ l, 0 ≤ x ∧ x ≤ 99
def ldOk (s : Int) (d : PyData) : Bool := match d with
  | .tuple es => decide (es.length = np s) && es.all (fun e => isIn e 0 99)
  | _ => false
def R_is_load_of (ds : List PyData) (r : PyData) : Prop := ∃ (s : Int) (d : PyData), ds = [.int s, d] ∧ 2 ≤ s ∧ s ≤ 5 ∧ r = .bool (ldOk s d)
theorem ldOk_tI {s : Int} {l : List Int} (h : Ld s l) : ldOk s (tI l) = true := by
  show (decide ((dI l).length = np s) && (dI l).all (fun e => isIn e 0 99)) = true
  rw [decide_eq_true (by rw [dI, List.length_map]; exact h.1), Bool.true_and, List.all_eq_true]
  intro e he
  obtain ⟨x, hx, rfl⟩ := List.mem_map.mp he
  have := h.2 x hx
  simp [isIn, this.1, this.2]
/-- what is a load is a tuple of such numbers -/
theorem ldOk_of {s : Int} {d : PyData} (h : ldOk s d = true) : ∃ l, d = tI l ∧ Ld s l := by
  cases d with
  | tuple es =>
    have h : (decide (es.length = np s) && es.all (fun e => isIn e 0 99)) = true := h
    rw [Bool.and_eq_true, decide_eq_true_eq, List.all_eq_true] at h
    obtain ⟨h1, h2⟩ := h
    have all : ∀ es : List PyData, (∀ e ∈ es, isIn e 0 99 = true) → ∃ l : List Int, es = dI l ∧ ∀ x ∈ l, 0 ≤ x ∧ x ≤ 99 := fun es => by
      induction es with
      | nil => exact fun _ => ⟨[], rfl, fun x hx => by simp at hx⟩
      | cons e es ih =>
        intro h
        obtain ⟨l, e1, e2⟩ := ih fun e he => h e (List.mem_cons_of_mem _ he)
        have := h e List.mem_cons_self
        cases e with
        | int i =>
          have b : (decide ((0 : Int) ≤ i) && decide (i ≤ 99)) = true := this
          rw [Bool.and_eq_true, decide_eq_true_eq, decide_eq_true_eq] at b
          refine ⟨i :: l, by rw [e1]; rfl, fun x hx => ?_⟩
          rcases List.mem_cons.mp hx with rfl | hx
          · exact b
          · exact e2 x hx
        | _ => cases this
    obtain ⟨l, rfl, e2⟩ := all es h2
    exact ⟨l, rfl, by simpa [dI] using h1, e2⟩
  | _ => cases h
/-- a tuple that is read, whatever its items -/
theorem ei_tupD {σ : L2.St} {H : Hp} {te : TE} {ds : List PyData} (h : EvD K te σ H (.tuple ds)) : EvI K (iTup K te) σ H [] ds := fun H1 e R r =>
  h H1 e _ fun w H2 e2 hw => by
    cases hw with
    | tup hs ha =>
      refine ⟨_, rfl, ⟨_, hs⟩, r _ H2 e2 ?_⟩
      rw [← dpa_len ha]
      refine walk_tup.mono (fun Ha x => ex_t x.to_ex hs) fun i Ha x Hb hlt hg y => ?_
      obtain ⟨rfl, hx⟩ := y
      obtain ⟨d, hd1, hd2⟩ := dpa_getV (dpa_ex hg.to_ex _ _ ha) hx
      exact ⟨Ex.refl _, d, hd1, hd2⟩
abbrev s_is_load_of : Stmt := topS 15
abbrev N_is_load_of : List Str := ["sides", "thing", "number"]
theorem sc_is_load_of : FnScope N_is_load_of ["sides", "thing"] (defScope s_is_load_of) := ⟨rfl, rfl, rfl, by decide +kernel, rfl, by decide +kernel, by decide +kernel⟩
theorem ok_is_load_of {f : Addr} {fd : FuncData} (F : Fun K "is_load_of" "is_load_of" s_is_load_of f fd) (T : Txt mg)
    (D_is_tuple_of : DF P w K mg base "is_tuple_of" 1 ["thing", "many"] (spD K 2 R_is_tuple_of)) (D_many_pairs : DF P w K mg base "many_pairs" 1 ["sides"] (spD K 1 R_many_pairs))  :
    FnOk P w K mg base CX0 2 f fd ["sides", "thing"] (spD K 2 R_is_load_of) := by
  refine F.ok sc_is_load_of (fun vs H Q E h => spD_len h) (fun cdv A outer s H vs Q E hr h => ?_)
  obtain ⟨ds, r, hd, _, ⟨x, d, rfl, h1, h2, rfl⟩, k⟩ := h
  obtain ⟨v0, v1, rfl, d0, d1⟩ := dpa_two hd
  cases dp_int d0
  refine ⟨_, (pss_cons (ps_if (pt_not (pt_val (pe_D D_is_tuple_of (hr.mono (by decide)) (by rfl) (pa_cons (pv 1) (pa_cons (pe_D D_many_pairs (hr.mono (by decide)) (by rfl) (pa_cons (pv 0) pa_nil)) pa_nil))))) (pss_one (ps_ret pe_bl)) pss_nil)
      (pss_cons (ps_for PassesOwn.never rfl (pi_tup (pv 1)) (pg_name (i := 2) sc_is_load_of.nd rfl (Or.inl rfl)) (pss_one (ps_if (PW.pt (pw_or (pt_not (pt_val (pe_callB call_isi (by rfl) T.b_isinstance (by decide +kernel) (pa_cons (pv 2) (pa_cons (pe_bltn (v := .ty "int") (u := .type "int") (by rfl) T.b_int (by decide +kernel) rfl) pa_nil))))) (pw_or (pt_val (pe_callB call_isi (by rfl) T.b_isinstance (by decide +kernel) (pa_cons (pv 2) (pa_cons (pe_bltn (v := .ty "bool") (u := .type "bool") (by rfl) T.b_bool (by decide +kernel) rfl) pa_nil)))) (pw_or (pt_cmpR op_lt (pv 2) pe_int (nomark _)) (pw_or1 (pt_cmpR op_gt (pv 2) (pe_const T.c_MOST_NUMBER (by rfl)) (nomark _))))))) (pss_one (ps_ret pe_bl)) pss_nil)))
      (pss_one (ps_ret pe_bl)))), ?_⟩
  refine q_when (b := !isTupOf d ((np x : Nat) : Int)) (et_not (et_B (EvD.bool (ed_call (K := K) (R := R_is_tuple_of) (ds := [d, .int ((np x : Nat) : Int)]) (eda_cons (ed_var (v := v1) rfl d1) (eda_cons (ed_call (R := R_many_pairs) (ds := [.int x]) (by walk_at "dl") rfl ⟨x, rfl, h1, h2, rfl⟩) eda_nil)) rfl ⟨d, _, rfl, rfl⟩)))) (fun hb H1 e1 => ?_) fun hb H1 e1 => ?_
  · have hb : isTupOf d ((np x : Nat) : Int) = false := by simpa using hb
    have lo : ldOk x d = false := by
      cases d with
      | tuple es =>
        have : ¬ ((es.length : Int) = ((np x : Nat) : Int)) := of_decide_eq_false hb
        show (decide (es.length = np x) && _) = false
        rw [decide_eq_false (fun z => this (by rw [z]))]
        rfl
      | _ => rfl
    rw [lo] at k
    exact d_ret (K := K) (ed_bool ev_c) fun v H2 e2 hv => k v H2 (e1.trans e2) hv
  · have hb : isTupOf d ((np x : Nat) : Int) = true := by simpa using hb
    cases d with
    | tuple es =>
      have len : es.length = np x := by
        have := of_decide_eq_true hb
        omega
      have lo : ldOk x (.tuple es) = es.all (fun e => isIn e 0 99) := by
        show (decide (es.length = np x) && _) = _
        rw [decide_eq_true len]
        rfl
      rw [lo] at k
      refine e_for (ei_tupD (K := K) (ed_var (v := v1) rfl (dp_ex e1 _ _ d1))) (fun H2 i σ' Ha => Ex H2 Ha ∧ (∀ j, j < i → ∀ e, es[j]? = some e → isIn e 0 99 = true) ∧ ∃ y, σ' = [some (.int x), some v1, y]) (fun H2 e2 => ⟨Ex.refl _, fun j hj => absurd hj (by omega), none, rfl⟩) (fun H2 i σ' Ha _ p => Xp.of_ex p.1) ?_ ?_
      · rintro H2 i e y σ' Ha Hb e2 he ⟨p1, pn, z, rfl⟩ e3 hy
        refine s_when (b := !isIn e 0 99) (within_test (ed_var (v := y) rfl hy) ev_c) (fun hn H4 e4 => ?_) fun hn H4 e4 => ?_
        · have hn : isIn e 0 99 = false := by simpa using hn
          have al : es.all (fun e => isIn e 0 99) = false := by
            rw [List.all_eq_false]
            exact ⟨e, List.mem_of_getElem? he, by simp [hn]⟩
          rw [al] at k
          exact d_ret (K := K) (ed_bool ev_c) fun v H5 e5 hv => k v H5 (((((e1.trans e2).trans p1).trans e3).trans e4).trans e5) hv
        · refine ⟨(p1.trans e3).trans e4, fun j hj e' he' => ?_, _, rfl⟩
          by_cases hji : j = i
          · subst hji
            rw [he] at he'
            cases he'
            simpa using hn
          · exact pn j (by omega) e' he'
      · rintro H2 σ' Ha e2 ⟨p1, pn, z, rfl⟩
        have al : es.all (fun e => isIn e 0 99) = true := by
          rw [List.all_eq_true]
          intro e he
          obtain ⟨j, hj, rfl⟩ := List.getElem_of_mem he
          exact pn j hj _ (List.getElem?_eq_getElem hj)
        rw [al] at k
        exact d_ret (K := K) (ed_bool ev_c) fun v H3 e3 hv => k v H3 (((e1.trans e2).trans p1).trans e3) hv
    | _ => cases hb

def R_check_load (ds : List PyData) (r : PyData) : Prop := ∃ (s : Int) (l : List Int), ds = [.int s, tI l] ∧ 2 ≤ s ∧ s ≤ 5 ∧ Ld s l ∧ r = .none
def B_check_load (CL : Addr) (ds : List PyData) (C : Addr) : Prop := ∃ (s : Int) (d : PyData), ds = [.int s, d] ∧ 2 ≤ s ∧ s ≤ 5 ∧ ldOk s d = false ∧ C = CL
abbrev s_check_load : Stmt := topS 16
abbrev N_check_load : List Str := ["sides", "load"]
theorem sc_check_load : FnScope N_check_load ["sides", "load"] (defScope s_check_load) := ⟨rfl, rfl, rfl, by decide +kernel, rfl, by decide +kernel, by decide +kernel⟩
theorem ok_check_load {f : Addr} {fd : FuncData} (F : Fun K "check_load" "check_load" s_check_load f fd) (T : Txt mg)
    (D_is_load_of : DF P w K mg base "is_load_of" 2 ["sides", "thing"] (spD K 2 R_is_load_of)) (TL : ErC K mg "BadLoad" CL)  :
    FnOk P w K mg base (L2.CX P w) 3 f fd ["sides", "load"] (spR K 2 R_check_load (B_check_load CL)) := by
  refine F.okX sc_check_load (fun vs H Q E h => spR_len h) (fun cdv A outer s H vs Q E hr h => ?_)
  obtain ⟨ds, hd, _, h⟩ := h
  obtain ⟨x, d, rfl, h1, h2⟩ : ∃ (x : Int) (d : PyData), ds = [.int x, d] ∧ 2 ≤ x ∧ x ≤ 5 := by
    rcases h with ⟨r, ⟨s, l, e, g1, g2, _⟩, _⟩ | ⟨C, ⟨s, d, e, g1, g2, _⟩, _⟩
    · exact ⟨s, tI l, e, g1, g2⟩
    · exact ⟨s, d, e, g1, g2⟩
  obtain ⟨v0, v1, rfl, d0, d1⟩ := dpa_two hd
  cases dp_int d0
  refine ⟨_, (pss_one (ps_if (pt_not (pt_val (pe_D D_is_load_of (hr.mono (by decide)) (by rfl) (pa_cons (pv 0) (pa_cons (pv 1) pa_nil))))) (pss_one (ps_raiseC rfl (takes_of rfl rfl rfl rfl) TL (by rfl) pe_str)) pss_nil)), ?_⟩
  refine s_when (b := !ldOk x d) (et_not (et_B (EvD.bool (ed_call (R := R_is_load_of) (ds := [.int x, d]) (by walk_at "dl") rfl ⟨x, d, rfl, h1, h2, rfl⟩)))) (fun hb H1 e1 => ?_) fun hb H1 e1 => ?_
  · have hb : ldOk x d = false := by simpa using hb
    rcases h with ⟨r, ⟨s, l, e, g1, g2, g3, _⟩, _⟩ | ⟨C, ⟨s, d', e, _, _, _, rfl⟩, k⟩
    · cases e
      rw [ldOk_tI g3] at hb
      cases hb
    · exact k H1 e1
  · have hb : ldOk x d = true := by simpa using hb
    rcases h with ⟨r, ⟨s, l, e, g1, g2, g3, rfl⟩, k⟩ | ⟨C, ⟨s, d', e, _, _, g, rfl⟩, k⟩
    · exact k .non H1 e1 .non
    · cases e
      rw [g] at hb
      cases hb

def R_check_pl (ds : List PyData) (r : PyData) : Prop := ∃ (s : Int) (l : List Int), ds = [.int s, tI l] ∧ 2 ≤ s ∧ s ≤ 4 ∧ Ld s l ∧ r = .none
def B_plain (CB CL : Addr) (ds : List PyData) (C : Addr) : Prop := (∃ d e : PyData, ds = [d, e] ∧ isIn d 2 4 = false ∧ C = CB) ∨ ∃ (s : Int) (d : PyData), ds = [.int s, d] ∧ 2 ≤ s ∧ s ≤ 4 ∧ ldOk s d = false ∧ C = CL
theorem isIn_int {i a b : Int} (h1 : a ≤ i) (h2 : i ≤ b) : isIn (.int i) a b = true := by simp [isIn, h1, h2]
abbrev s_check_plain_load : Stmt := topS 20
abbrev N_check_plain_load : List Str := ["sides", "load"]
theorem sc_check_plain_load : FnScope N_check_plain_load ["sides", "load"] (defScope s_check_plain_load) := ⟨rfl, rfl, rfl, by decide +kernel, rfl, by decide +kernel, by decide +kernel⟩
theorem ok_check_plain_load {f : Addr} {fd : FuncData} (F : Fun K "check_plain_load" "check_plain_load" s_check_plain_load f fd) (T : Txt mg)
    (D_check_sides : DFX P w K mg base "check_sides" 3 ["sides", "most"] (spR K 2 R_check_sides (B_check_sides CB))) (D_check_load : DFX P w K mg base "check_load" 3 ["sides", "load"] (spR K 2 R_check_load (B_check_load CL)))  :
    FnOk P w K mg base (L2.CX P w) 4 f fd ["sides", "load"] (spR K 2 R_check_pl (B_plain CB CL)) := by
  refine F.okX sc_check_plain_load (fun vs H Q E h => spR_len h) (fun cdv A outer s H vs Q E hr h => ?_)
  obtain ⟨ds, hd, _, h⟩ := h
  refine ⟨_, (pss_cons (ps_expr (pe_DX D_check_sides (takes_of rfl rfl rfl rfl) (fun _ _ _ _ h => h) (hr.mono (by decide)) (by rfl) (pa_cons (pv 0) (pa_cons (pe_const T.c_MOST_PLAIN_SIDES (by rfl)) pa_nil)))) (pss_one (ps_expr (pe_DX D_check_load (takes_of rfl rfl rfl rfl) (fun _ _ _ _ h => h) (hr.mono (by decide)) (by rfl) (pa_cons (pv 0) (pa_cons (pv 1) pa_nil)))))), ?_⟩
  rcases h with ⟨r, ⟨x, l, rfl, h1, h2, hl, rfl⟩, k⟩ | ⟨C, ⟨d, e, rfl, hb, rfl⟩ | ⟨x, d, rfl, h1, h2, hb, rfl⟩, k⟩
  · obtain ⟨v0, v1, rfl, d0, d1⟩ := dpa_two hd
    cases dp_int d0
    refine qd_drop (K := K) (d := .none) (ed_callR (R := R_check_sides) (B := B_check_sides CB) (ds := [.int x, .int 4]) (by walk_at "dl") rfl ⟨_, rfl, isIn_int h1 h2, rfl⟩) fun H1 e1 => ?_
    have d1 := dp_ex e1 _ _ d1
    exact d_drop (K := K) (d := .none) (ed_callR (R := R_check_load) (B := B_check_load CL) (ds := [.int x, tI l]) (by walk_at "dl") rfl ⟨x, l, rfl, h1, by omega, hl, rfl⟩) fun H2 e2 => k .non H2 (e1.trans e2) .non
  · obtain ⟨v0, v1, rfl, d0, d1⟩ := dpa_two hd
    exact b_drop (eb_callR (K := K) (R := R_check_sides) (B := B_check_sides C) (ds := [d, .int 4]) (by walk_at "dl") rfl ⟨d, rfl, hb, rfl⟩) fun H1 e1 => k H1 e1
  · obtain ⟨v0, v1, rfl, d0, d1⟩ := dpa_two hd
    cases dp_int d0
    refine qd_drop (K := K) (d := .none) (ed_callR (R := R_check_sides) (B := B_check_sides CB) (ds := [.int x, .int 4]) (by walk_at "dl") rfl ⟨_, rfl, isIn_int h1 h2, rfl⟩) fun H1 e1 => ?_
    have d1 := dp_ex e1 _ _ d1
    exact eb_callR (K := K) (R := R_check_load) (B := B_check_load C) (ds := [.int x, d]) (by walk_at "dl") rfl ⟨x, d, rfl, h1, by omega, hb, rfl⟩ H1 (Ex.refl _) _ fun H2 e2 => k H2 (e1.trans e2)

end
end K16
set_option Elab.async false
set_option linter.all false
set_option maxRecDepth 100000
set_option maxHeartbeats 4000000
namespace K16
open PySem PySem.Spec PyProof.Rows L2 Evl DL
local macro_rules | `(tactic| walk_at "dl") => `(tactic| first
  | exact ev_c | exact ev_var rfl | exact eda_nil
  | exact ed_var rfl (by assumption)
  | exact ed_int ev_c | exact ed_int (ev_var rfl)
  | (refine eda_cons ?_ ?_ <;> walk_at "dl")
  | (refine ed_int ?_; walk_at "dl")
  | (refine ev_op ?_ ?_ rv_I0 <;> walk_at "dl"))

/-- two lists of ints, item by item -/
def zw (f : Int → Int → Int) (a b : List Int) : List Int := List.zipWith f a b
theorem pairs_get {a b : List Int} {i : Nat} {d : PyData} (h : (List.zipWith (fun x y => PyData.tuple [.int x, .int y]) a b)[i]? = some d) : ∃ x y, a[i]? = some x ∧ b[i]? = some y ∧ d = .tuple [.int x, .int y] := by
  rw [List.getElem?_zipWith] at h
  cases h1 : a[i]? with
  | none => rw [h1] at h; simp at h
  | some x =>
    cases h2 : b[i]? with
    | none => rw [h1, h2] at h; simp at h
    | some y => rw [h1, h2] at h; exact ⟨x, y, rfl, rfl, by simpa using h.symm⟩
theorem range_zip (f : Int → Int → Int) : ∀ (a b : List Int), (List.range (min a.length b.length)).map (fun i => f (a.getD i 0) (b.getD i 0)) = zw f a b := fun a b => by
  apply List.ext_getElem?
  intro i
  rw [List.getElem?_map, zw, List.getElem?_zipWith]
  by_cases h : i < min a.length b.length
  · have h1 : i < a.length := by omega
    have h2 : i < b.length := by omega
    rw [List.getElem?_range h, List.getElem?_eq_getElem h1, List.getElem?_eq_getElem h2]
    simp [List.getD_eq_getElem?_getD, h1, h2]
  · have h3 : ¬ (i < a.length ∧ i < b.length) := by omega
    rw [List.getElem?_eq_none (by simpa using h)]
    by_cases h1 : i < a.length
    · have h2 : b[i]? = none := List.getElem?_eq_none (by omega)
      rw [h2]
      cases a[i]? <;> rfl
    · rw [List.getElem?_eq_none (by omega : a.length ≤ i)]
      rfl
section
variable {K : PySem.W.Frag} {σ : L2.St} {H : Hp} {ta tb te : TE} {a b : List Int}
/-- zip of two tuples of ints -/
theorem ei_zipTT {S : List Addr} (hS : Ls H S) (ha : EvD K ta σ H (tI a)) (hb : EvD K tb σ H (tI b)) : EvI K (iZipM K true true (tCons ta (tCons tb tNil))) σ H S (List.zipWith (fun x y => PyData.tuple [.int x, .int y]) a b) := fun H1 e R r =>
  ha H1 e _ fun x H2 e2 hx => hb H2 (e.trans e2) _ fun y H3 e3 hy => by
    obtain ⟨p, rfl, h1⟩ := dp_tI hx
    obtain ⟨q, rfl, h2⟩ := dp_tI hy
    have h1 := ex_t e3 h1
    refine ⟨p, q, _, _, rfl, sqa_t h1, sqa_t h2, r _ H3 (e2.trans e3) ?_⟩
    rw [List.length_zipWith]
    have w := walk_zipM (K := K) (a := p) (b := q) (t := true) (u := true) (xs := a.map V.int) (ys := b.map V.int) (n := min a.length b.length) (by simp)
    refine w.mono (fun Ha x => ⟨sqT_tx (x.tx (hS.ex ((e.trans e2).trans e3))) h1, sqT_tx (x.tx (hS.ex ((e.trans e2).trans e3))) h2⟩) fun i Ha v Hb hlt hg y => ?_
    obtain ⟨T, v1, v2, rfl, hT, rfl, g1, g2⟩ := y
    simp only [List.getElem?_map] at g1 g2
    obtain ⟨n1, m1, rfl⟩ := Option.map_eq_some_iff.mp g1
    obtain ⟨n2, m2, rfl⟩ := Option.map_eq_some_iff.mp g2
    refine ⟨Ex.new hT, .tuple [.int n1, .int n2], ?_, .tup (st_of upd_same) (.cons (.int _) (.cons (.int _) .nil))⟩
    rw [List.getElem?_zipWith, m1, m2]
end
section
variable {P : Program} {w : World} {K : PySem.W.Frag} {mg : Str → Option Value} {base : Heap}
def R_summed (ds : List PyData) (r : PyData) : Prop := ∃ a b : List Int, ds = [tI a, tI b] ∧ a.length ≤ 100 ∧ r = tI (zw (· + ·) a b)
theorem cut_lo (ds : List PyData) (p : Nat) (h : p ≤ ds.length) : DL.cutD ds none (some (p : Int)) = ds.take p := by
  unfold DL.cutD
  rw [HT.sIx_none, HT.sIx_nat, Nat.min_eq_left h]
  rfl
theorem cut_hi (ds : List PyData) (p : Nat) (h : p ≤ ds.length) : DL.cutD ds (some (p : Int)) none = ds.drop p := by
  unfold DL.cutD
  rw [HT.sIx_none, HT.sIx_nat, Nat.min_eq_left h]
  exact List.take_of_length_le (by simp)
def R_raised (ds : List PyData) (r : PyData) : Prop := ∃ (l : List Int) (p : Nat) (y : Int), ds = [tI l, .int (p : Int), .int y] ∧ p < l.length ∧ l.length ≤ 100 ∧ r = tI (l.set p (l.getD p 0 + y))
end

/-- the greatest -/
def mxl : List Int → Int
  | [] => 0
  | x :: r => r.foldl max x
theorem foldl_max_ge : ∀ (r : List Int) (x : Int), x ≤ r.foldl max x ∧ (∀ y ∈ r, y ≤ r.foldl max x) ∧ (r.foldl max x = x ∨ r.foldl max x ∈ r)
  | [], x => ⟨Int.le_refl _, fun y hy => by simp at hy, .inl rfl⟩
  | y :: r, x => by
    obtain ⟨h1, h2, h3⟩ := foldl_max_ge r (max x y)
    rw [List.foldl_cons]
    refine ⟨by omega, fun z hz => ?_, ?_⟩
    · rcases List.mem_cons.mp hz with rfl | hz
      · omega
      · exact h2 z hz
    · rcases h3 with h3 | h3
      · rw [h3]
        by_cases h : y ≤ x
        · exact .inl (by omega)
        · exact .inr (List.mem_cons.mpr (.inl (by omega)))
      · exact .inr (List.mem_cons_of_mem _ h3)
theorem mxl_mem {l : List Int} (h : 0 < l.length) : mxl l ∈ l := by
  cases l with
  | nil => simp at h
  | cons x r =>
    rcases (foldl_max_ge r x).2.2 with e | e
    · exact List.mem_cons.mpr (.inl e)
    · exact List.mem_cons_of_mem _ e
theorem mxl_ge {l : List Int} {y : Int} (h : y ∈ l) : y ≤ mxl l := by
  cases l with
  | nil => simp at h
  | cons x r =>
    rcases List.mem_cons.mp h with rfl | h
    · exact (foldl_max_ge r y).1
    · exact (foldl_max_ge r x).2.1 y h
section
variable {K : PySem.W.Frag} {σ : L2.St} {H H2 Ha : Hp} {ta tb te : TE}
theorem xp_fresh {p : Addr} (e : Ex H H2) (x : Xp [p] H2 Ha) (h : H p = none) : Ex H Ha := fun a o ho => x a o (e a o ho) (fun hm => by
  have : a = p := by simpa using hm
  rw [this, h] at ho
  cases ho)
/-- xs[i] op= e, a list of ints -/
theorem d_augL {D : Ends} {f : Int → Int → Int} {l : Addr} {ns : List Int} {a b j : Nat} {y : Int} (hl : H l = some (.lst (ns.map V.int))) (ho : σ[a]? = some (some (.ref l))) (hi : σ[b]? = some (some (.int (j : Int)))) (hj : j < ns.length) (he : Ev te σ H (.int y))
    (k : ∀ H1, Ex H H1 → D.nx σ (upd H1 l (.lst ((ns.set j (f (ns.getD j 0) y)).map V.int)))) : tAugS (tVar a) (tVar b) te (rGetL K) (ipI f) rSetL D σ H := by
  have g : (ns.map V.int)[j]? = some (.int (ns.getD j 0)) := by
    rw [List.getElem?_map, List.getElem?_eq_getElem hj, List.getD_eq_getElem?_getD, List.getElem?_eq_getElem hj]
    rfl
  refine ⟨_, ho, _, hi, l, _, _, j, rfl, rfl, sq_of hl, g, ?_⟩
  refine he H (Ex.refl _) _ fun H1 e1 => ⟨_, _, rfl, rfl, l, ns.map V.int, (j : Int), j, rfl, rfl, e1 _ _ hl, ixN_nat (by rw [List.length_map]; exact hj), ?_⟩
  have q := k H1 e1
  rw [List.map_set] at q
  exact q
theorem q_augL {D : Ends} {tz : TS} {f : Int → Int → Int} {l : Addr} {ns : List Int} {a b j : Nat} {y : Int} (hl : H l = some (.lst (ns.map V.int))) (ho : σ[a]? = some (some (.ref l))) (hi : σ[b]? = some (some (.int (j : Int)))) (hj : j < ns.length) (he : Ev te σ H (.int y))
    (k : ∀ H1, Ex H H1 → tz D σ (upd H1 l (.lst ((ns.set j (f (ns.getD j 0) y)).map V.int)))) : tSeq (tAugS (tVar a) (tVar b) te (rGetL K) (ipI f) rSetL) tz D σ H := d_augL (D := { D with nx := tz D }) hl ho hi hj he k
/-- zip of a new list of pairs and a tuple of ints -/
theorem ei_zipNT {S : List Addr} {ps : List (Int × Int)} {b : List Int} (hS : Ls H S) (ha : EvN K ta σ H (ps.map pD)) (hb : EvD K tb σ H (tI b)) :
    EvI K (iZipM K false true (tCons ta (tCons tb tNil))) σ H S (List.zipWith (fun p y => PyData.tuple [pD p, .int y]) ps b) := fun H1 e R r =>
  ha H1 e _ fun p vs H2 hp e2 h2 hd => hb H2 (e.trans e2) _ fun y H3 e3 hy => by
    obtain ⟨q, rfl, h4⟩ := dp_tI hy
    have h3 := e3 _ _ h2
    have hd3 := dpa_ex e3 _ _ hd
    have hn : p ∉ S := fresh_notin (hS.ex e) hp
    have lv : vs.length = ps.length := by rw [dpa_len hd, List.length_map]
    refine ⟨p, q, _, _, rfl, sqa_l (sq_of h3), sqa_t h4, r _ H3 (e2.trans e3) ?_⟩
    rw [List.length_zipWith]
    have w := walk_zipM (K := K) (a := p) (b := q) (t := false) (u := true) (xs := vs) (ys := b.map V.int) (n := min ps.length b.length) (by rw [lv, List.length_map])
    have ls3 := hS.ex ((e.trans e2).trans e3)
    refine w.mono (fun Ha x => ⟨sq_of (x p _ h3 hn), sqT_tx (x.tx ls3) h4⟩) fun i Ha v Hb hlt hg y => ?_
    obtain ⟨T, v1, v2, rfl, hT, rfl, g1, g2⟩ := y
    simp only [List.getElem?_map] at g2
    obtain ⟨n2, m2, rfl⟩ := Option.map_eq_some_iff.mp g2
    have tx : Tx H3 (upd Ha T (.tup [v1, .int n2])) := (hg.tx ls3).trans (Tx.of_ex (Ex.new hT))
    obtain ⟨d1, q1, q2⟩ := dpa_getV (dpa_tx tx _ _ (immAll_map (fun _ => imm_tI _) _) hd3) g1
    rw [List.getElem?_map] at q1
    obtain ⟨pp, m1, rfl⟩ := Option.map_eq_some_iff.mp q1
    refine ⟨Ex.new hT, .tuple [pD pp, .int n2], ?_, .tup (st_of upd_same) (.cons q2 (.cons (.int _) .nil))⟩
    rw [List.getElem?_zipWith, m1, m2]
end
section
variable {P : Program} {w : World} {K : PySem.W.Frag} {mg : Str → Option Value} {base : Heap}
def stp (acc : List Int) (q : (Int × Int) × Int) : List Int :=
  (acc.set q.1.1.toNat (acc.getD q.1.1.toNat 0 + q.2)).set q.1.2.toNat ((acc.set q.1.1.toNat (acc.getD q.1.1.toNat 0 + q.2)).getD q.1.2.toNat 0 + q.2)
def sms (s : Int) (l : List Int) : List Int := ((prs s).zip l).foldl stp (List.replicate s.toNat 0)
theorem stp_len (acc : List Int) (q : (Int × Int) × Int) : (stp acc q).length = acc.length := by simp [stp]
theorem stps_len : ∀ (qs : List ((Int × Int) × Int)) (acc : List Int), (qs.foldl stp acc).length = acc.length
  | [], _ => rfl
  | q :: qs, acc => by rw [List.foldl_cons, stps_len qs, stp_len]
theorem sms_len (s : Int) (l : List Int) : (sms s l).length = s.toNat := by rw [sms, stps_len, List.length_replicate]
theorem prs_in {s : Int} (h1 : 0 ≤ s) (h2 : s ≤ 5) {p : Int × Int} (h : p ∈ prs s) : 0 ≤ p.1 ∧ p.1 < p.2 ∧ p.2 < s := by
  unfold prs at h
  rw [List.mem_flatMap] at h
  obtain ⟨i, hi, h⟩ := h
  obtain ⟨j, hj, rfl⟩ := List.mem_map.mp h
  have := List.mem_range.mp hi
  have := List.mem_range.mp hj
  show 0 ≤ (i : Int) ∧ (i : Int) < (i : Int) + 1 + (j : Int) ∧ (i : Int) + 1 + (j : Int) < s
  omega
def R_sums_at_sides (ds : List PyData) (r : List PyData) : Prop := ∃ (s : Int) (l : List Int), ds = [.int s, tI l] ∧ 2 ≤ s ∧ s ≤ 5 ∧ r = dI (sms s l)
abbrev s_sums_at_sides : Stmt := topS 17
abbrev N_sums_at_sides : List Str := ["sides", "load", "sums", "side", "far", "number"]
theorem sc_sums_at_sides : FnScope N_sums_at_sides ["sides", "load"] (defScope s_sums_at_sides) := ⟨rfl, rfl, rfl, by decide +kernel, rfl, by decide +kernel, by decide +kernel⟩
theorem ok_sums_at_sides {f : Addr} {fd : FuncData} (F : Fun K "sums_at_sides" "sums_at_sides" s_sums_at_sides f fd) (T : Txt mg)
    (D_side_pairs : DF P w K mg base "side_pairs" 1 ["sides"] (spN K 1 R_side_pairs))  :
    FnOk P w K mg base CX0 2 f fd ["sides", "load"] (spN K 2 R_sums_at_sides) := by
  refine F.ok sc_sums_at_sides (fun vs H Q E h => spN_len h) (fun cdv A outer s H vs Q E hr h => ?_)
  obtain ⟨ds, r, hd, _, ⟨x, l, rfl, h1, h2, rfl⟩, k⟩ := h
  obtain ⟨v0, rfl, d0⟩ := dpa_it hd
  refine ⟨_, (pss_cons (ps_set (i := 2) sc_sums_at_sides.nd rfl (.inl rfl) (pe_op op_rep (pe_lst (pa_cons pe_int pa_nil)) (pv 0)))
      (pss_cons (ps_for PassesOwn.never rfl (pi_zipM false true (by rfl) T.b_zip (pa_cons (pe_D D_side_pairs (hr.mono (by decide)) (by rfl) (pa_cons (pv 0) pa_nil)) (pa_cons (pv 1) pa_nil))) (pg_tup rfl (pgs_cons (pg_tup rfl (pgs_cons (pg_name (i := 3) sc_sums_at_sides.nd rfl (Or.inl rfl)) (pgs_cons (pg_name (i := 4) sc_sums_at_sides.nd rfl (Or.inl rfl)) pgs_nil))) (pgs_cons (pg_name (i := 5) sc_sums_at_sides.nd rfl (Or.inl rfl)) pgs_nil))) (pss_cons (ps_augS (pv 2) (pv 3) get_list (pv 5) ip_add set_list)
      (pss_one (ps_augS (pv 2) (pv 4) get_list (pv 5) ip_add set_list))))
      (pss_one (ps_ret (pv 2))))), ?_⟩
  refine qn_asg (K := K) (en_rep (d := .int 0) (EvN.toQ (en_lst (eda_cons (ed_int ev_c) eda_nil) (by simp))) (ev_var rfl) (by omega) (by omega)) fun p vs H1 hp e1 h1' hd1 => ?_
  have hz : vs = (List.replicate x.toNat (0 : Int)).map V.int := by
    have := dpa_ints (l := List.replicate x.toNat 0) (by rw [dI, List.map_replicate]; exact hd1)
    exact this
  subst hz
  have d1 := dp_ex e1 _ _ d0
  refine e_for (S := [p]) (ei_zipNT (ps := prs x) (b := l) (Ls.one h1') (en_call (R := R_side_pairs) (ds := [.int x]) (by walk_at "dl") rfl ⟨x, rfl, by omega, h2, rfl⟩) (ed_var (v := v0) rfl d1))
    (fun H2 i σ' Ha => Xp [p] H2 Ha ∧ Ha p = some (.lst (((((prs x).zip l).take i).foldl stp (List.replicate x.toNat 0)).map V.int)) ∧ ∃ a b c, σ' = [some (.int x), some v0, some (.ref p), a, b, c])
    (fun H2 e2 => ⟨Xp.refl _ _, e2 _ _ h1', none, none, none, rfl⟩) (fun H2 i σ' Ha _ q => q.1) ?_ ?_
  · rintro H2 i d y σ' Ha Hb e2 hg ⟨p1, p2, a, b, c, rfl⟩ e3 hd2
    rw [List.getElem?_zipWith] at hg
    cases g1 : (prs x)[i]? with
    | none => rw [g1] at hg; simp at hg
    | some pp =>
      cases g2 : l[i]? with
      | none => rw [g1, g2] at hg; simp at hg
      | some n =>
        rw [g1, g2] at hg
        have hg : PyData.tuple [pD pp, .int n] = d := by simpa using hg
        subst hg
        obtain ⟨q1, q2, q3⟩ := prs_in (by omega) h2 (List.mem_of_getElem? g1)
        refine g_two hd2 fun w1 w2 u1 u2 => g_two u1 fun w3 w4 u3 u4 => ?_
        cases u2
        cases u3
        cases u4
        have at_ := e3 _ _ p2
        have len : ((((prs x).zip l).take i).foldl stp (List.replicate x.toNat 0)).length = x.toNat := by rw [stps_len, List.length_replicate]
        refine q_augL (j := pp.1.toNat) at_ rfl (by rw [Int.toNat_of_nonneg q1]; rfl) (by omega) (ev_var rfl) fun H3 e4 => ?_
        refine d_augL (j := pp.2.toNat) upd_same rfl (by rw [Int.toNat_of_nonneg (by omega)]; rfl) (by rw [List.length_set]; omega) (ev_var rfl) fun H4 e5 => ?_
        refine ⟨Xp.upd (Xp.then (Xp.upd ((p1.then e3).then e4) (by simp)) e5) (by simp), ?_, _, _, _, rfl⟩
        rw [upd_same, List.take_add_one, show ((prs x).zip l)[i]? = some (pp, n) by rw [List.getElem?_zip_eq_some]; exact ⟨g1, g2⟩]
        simp only [Option.toList_some, List.foldl_append, List.foldl_cons, List.foldl_nil]
        rfl
  · rintro H2 σ' Ha e2 ⟨p1, p2, a, b, c, rfl⟩
    have e0 : Ex H Ha := xp_fresh (e1.trans e2) p1 hp
    rw [List.length_zipWith, List.take_of_length_le (by rw [List.length_zip]; omega)] at p2
    exact ⟨.ref p, rfl, k p _ Ha hp e0 p2 (ints_dpa _)⟩

def R_is_let (ds : List PyData) (r : PyData) : Prop := ∃ (s : Int) (l : List Int) (m : Int), ds = [.int s, tI l, .int m] ∧ 2 ≤ s ∧ s ≤ 5 ∧ r = .bool (decide (mxl (sms s l) ≤ m))
end
end K16
set_option Elab.async false
set_option linter.all false
set_option maxRecDepth 100000
set_option maxHeartbeats 4000000
namespace K16
open PySem PySem.Spec PyProof.Rows L2 Evl DL
local macro_rules | `(tactic| walk_at "dl") => `(tactic| first
  | exact ev_c | exact ev_var rfl | exact eda_nil
  | exact ed_var rfl (by assumption)
  | exact ed_int ev_c | exact ed_int (ev_var rfl)
  | (refine eda_cons ?_ ?_ <;> walk_at "dl")
  | (refine ed_int ?_; walk_at "dl")
  | (refine ev_op ?_ ?_ rv_I0 <;> walk_at "dl"))

theorem plc_ok {s a b : Int} (h1 : 2 ≤ s) (h2 : s ≤ 5) (ha : 0 ≤ a) (hb : a < b) (hs : b < s) : 0 ≤ plc s a b ∧ (plc s a b).toNat < np s := by
  have n2 : np 2 = 1 := by decide
  have n3 : np 3 = 3 := by decide
  have n4 : np 4 = 6 := by decide
  have n5 : np 5 = 10 := by decide
  have hs' : s = 2 ∨ s = 3 ∨ s = 4 ∨ s = 5 := by omega
  have ha' : a = 0 ∨ a = 1 ∨ a = 2 ∨ a = 3 := by omega
  unfold plc
  rcases hs' with rfl | rfl | rfl | rfl <;> rcases ha' with rfl | rfl | rfl | rfl <;> simp only [n2, n3, n4, n5] <;> omega
section
variable {P : Program} {w : World} {K : PySem.W.Frag} {mg : Str → Option Value} {base : Heap}
def tr3 (s : Int) (i j : Nat) : List (List Int) := (List.range (s - ((i : Int) + 1 + (j : Int) + 1)).toNat).map fun (k : Nat) => [(i : Int), (i : Int) + 1 + (j : Int), (i : Int) + 1 + (j : Int) + 1 + (k : Int)]
def tr2 (s : Int) (i : Nat) : List (List Int) := (List.range (s - ((i : Int) + 1)).toNat).flatMap fun (j : Nat) => tr3 s i j
def tri (s : Int) : List (List Int) := (List.range s.toNat).flatMap fun (i : Nat) => tr2 s i
def R_triangles (ds : List PyData) (r : List PyData) : Prop := ∃ s : Int, ds = [.int s] ∧ 2 ≤ s ∧ s ≤ 4 ∧ r = (tri s).map tI
/-- the list at p holds such tuples, the slots of the loops behind it -/
def TrW (K : PySem.W.Frag) (x : Int) (p : Addr) (H0 : Hp) (l : List (List Int)) (σ : L2.St) (Ha : Hp) : Prop :=
  Xp [p] H0 Ha ∧ (∃ ws, Ha p = some (.lst ws) ∧ DpAll K Ha ws (l.map tI)) ∧ l.length ≤ 1000 ∧ ∃ a b c, σ = [some (.int x), some (.ref p), a, b, c]
theorem flat_succ {α : Type} (f : Nat → List α) (n : Nat) : (List.range (n + 1)).flatMap f = (List.range n).flatMap f ++ f n := by
  rw [List.range_succ, List.flatMap_append, List.flatMap_cons, List.flatMap_nil, List.append_nil]
theorem tri_small {x : Int} (h1 : 2 ≤ x) (h2 : x ≤ 4) : True := trivial
abbrev s_triangles : Stmt := topS 21
abbrev N_triangles : List Str := ["sides", "found", "side", "far", "last"]
theorem sc_triangles : FnScope N_triangles ["sides"] (defScope s_triangles) := ⟨rfl, rfl, rfl, by decide +kernel, rfl, by decide +kernel, by decide +kernel⟩
theorem ok_triangles {f : Addr} {fd : FuncData} (F : Fun K "triangles" "triangles" s_triangles f fd) (T : Txt mg)
      :
    FnOk P w K mg base CX0 1 f fd ["sides"] (spN K 1 R_triangles) := by
  refine F.ok sc_triangles (fun vs H Q E h => spN_len h) (fun cdv A outer s H vs Q E hr h => ?_)
  obtain ⟨ds, r, hd, _, ⟨x, rfl, h1, h2, rfl⟩, k⟩ := h
  obtain rfl := dpa_ints (l := [x]) hd
  refine ⟨_, (pss_cons (ps_set (i := 1) sc_triangles.nd rfl (.inl rfl) (pe_lst pa_nil))
      (pss_cons (ps_for PassesOwn.never rfl (pi_range1 (by rfl) T.b_range (pa_cons (pv 0) pa_nil)) (pg_name (i := 2) sc_triangles.nd rfl (Or.inl rfl)) (pss_one (ps_for PassesOwn.never rfl (pi_range2 (by rfl) T.b_range (pa_cons (pe_op op_add (pv 2) pe_int) (pa_cons (pv 0) pa_nil))) (pg_name (i := 3) sc_triangles.nd rfl (Or.inl rfl)) (pss_one (ps_for PassesOwn.never rfl (pi_range2 (by rfl) T.b_range (pa_cons (pe_op op_add (pv 3) pe_int) (pa_cons (pv 0) pa_nil))) (pg_name (i := 4) sc_triangles.nd rfl (Or.inl rfl)) (pss_one (ps_expr (pe_bm PySem.F.plainAttrs_list PySem.F.slot_list_append PySem.F.type_list_append mt_append (pv 1) (pa_cons (pe_tup (pa_cons (pv 2) (pa_cons (pv 3) (pa_cons (pv 4) pa_nil)))) pa_nil)))))))))
      (pss_one (ps_ret (pv 1))))), ?_⟩
  refine qn_asg (K := K) (en_lst eda_nil (by simp)) fun p vs H1 hp e1 h1' hd1 => ?_
  cases hd1
  have sm3 : ∀ i j : Nat, (tr3 x i j).length ≤ 4 := fun i j => by rw [tr3, List.length_map, List.length_range]; omega
  have sm2 : ∀ (i n : Nat), ((List.range n).flatMap fun j => tr3 x i j).length ≤ 4 * n := fun i n => by
    induction n with
    | zero => simp
    | succ n ih => rw [flat_succ, List.length_append]; have := sm3 i n; omega
  have sm1 : ∀ n : Nat, ((List.range n).flatMap fun i => tr2 x i).length ≤ 16 * n := fun n => by
    induction n with
    | zero => simp
    | succ n ih =>
      rw [flat_succ, List.length_append]
      have := sm2 n (x - ((n : Int) + 1)).toNat
      unfold tr2
      unfold tr2 at ih
      omega
  refine e_for (K := K) (S := [p]) (ei_rng1 (n := x) (by walk_at "dl") (by omega)) (fun H2 i σ' Ha => TrW K x p H2 ((List.range i).flatMap fun i => tr2 x i) σ' Ha)
    (fun H2 e2 => ⟨Xp.refl _ _, ⟨[], e2 _ _ h1', by simp; exact .nil⟩, by simp, none, none, none, rfl⟩) (fun H2 i σ' Ha _ q => q.1) ?_ ?_
  · rintro H2 i d y σ' Ha Hb e2 hg ⟨p1, ⟨ws, p2, p3⟩, p4, a, b, c, rfl⟩ e3 hd2
    have hlt : i < x.toNat := by have := (List.getElem?_eq_some_iff.mp hg).1; simpa using this
    rw [rng_get hlt] at hg
    cases hg
    cases hd2
    have at1 := e3 _ _ p2
    refine d_for (K := K) (S := [p]) (ei_rng2 (m := (i : Int) + 1) (n := x) (eda_cons (ed_int (ev_op (ev_var rfl) ev_c rv_I0)) (eda_cons (ed_int (ev_var rfl)) eda_nil)) (by omega))
      (fun H3 j σ' Ha => Xp [p] H2 H3 ∧ TrW K x p H3 (((List.range i).flatMap fun i => tr2 x i) ++ (List.range j).flatMap fun j => tr3 x i j) σ' Ha ∧ σ'[2]? = some (some (.int (i : Int))))
      (fun H3 e4 => ⟨(p1.then e3).then e4, ⟨Xp.refl _ _, ⟨ws, e4 _ _ at1, by simp; exact dpa_ex (e3.trans e4) _ _ p3⟩, by simpa using p4, _, _, _, rfl⟩, rfl⟩) (fun H3 j σ' Ha _ q => q.2.1.1) ?_ ?_
    · rintro H3 j d y σ' Ha Hb e4 hg ⟨q0, ⟨q1, ⟨wt, q2, q3⟩, q4, a, b, c, rfl⟩, q5⟩ e5 hd3
      have hlt2 : j < (x - ((i : Int) + 1)).toNat := by have := (List.getElem?_eq_some_iff.mp hg).1; simpa using this
      rw [rng_get hlt2] at hg
      cases hg
      cases hd3
      have ea : a = some (.int (i : Int)) := by simpa using q5
      subst ea
      have at2 := e5 _ _ q2
      refine d_for (K := K) (S := [p]) (ei_rng2 (m := (i : Int) + 1 + (j : Int) + 1) (n := x) (eda_cons (ed_int (ev_op (ev_var rfl) ev_c rv_I0)) (eda_cons (ed_int (ev_var rfl)) eda_nil)) (by omega))
        (fun H4 k σ' Ha => Xp [p] H3 H4 ∧ TrW K x p H4 ((((List.range i).flatMap fun i => tr2 x i) ++ (List.range j).flatMap fun j => tr3 x i j) ++ (List.range k).map fun (k : Nat) => [(i : Int), (i : Int) + 1 + (j : Int), (i : Int) + 1 + (j : Int) + 1 + (k : Int)]) σ' Ha ∧ σ'[2]? = some (some (.int (i : Int))) ∧ σ'[3]? = some (some (.int ((i : Int) + 1 + (j : Int)))))
        (fun H4 e6 => ⟨(q1.then e5).then e6, ⟨Xp.refl _ _, ⟨wt, e6 _ _ at2, by simp; exact dpa_ex (e5.trans e6) _ _ (by simpa using q3)⟩, by simpa using q4, _, _, _, rfl⟩, rfl, rfl⟩) (fun H4 k σ' Ha _ q => q.2.1.1) ?_ ?_
      · rintro H4 k d y σ' Ha Hb e6 hg ⟨r0, ⟨r1, ⟨wu, r2, r3⟩, r4, a, b, c, rfl⟩, r5, r6⟩ e7 hd4
        have hlt3 : k < (x - ((i : Int) + 1 + (j : Int) + 1)).toNat := by have := (List.getElem?_eq_some_iff.mp hg).1; simpa using this
        rw [rng_get hlt3] at hg
        cases hg
        cases hd4
        have ea : a = some (.int (i : Int)) := by simpa using r5
        have eb : b = some (.int ((i : Int) + 1 + (j : Int))) := by simpa using r6
        subst ea eb
        have at3 := e7 _ _ r2
        have l3 := dpa_len r3
        rw [List.length_map] at l3
        refine d_app (K := K) (d := tI [(i : Int), (i : Int) + 1 + (j : Int), (i : Int) + 1 + (j : Int) + 1 + (k : Int)]) at3 (ev_var rfl) (ed_tup (eda_cons (ed_int (ev_var rfl)) (eda_cons (ed_int (ev_var rfl)) (eda_cons (ed_int (ev_var rfl)) eda_nil))) (by simp)) (by omega) fun v H5 e8 hv => ?_
        have at4 := e8 _ _ at3
        refine ⟨r0, ⟨Xp.upd ((r1.then e7).then e8) (by simp), ⟨_, upd_same, ?_⟩, ?_, _, _, _, rfl⟩, rfl, rfl⟩
        · have es : ∀ (A : List (List Int)) (g : Nat → List Int), (A ++ (List.range (k + 1)).map g).map tI = (A ++ (List.range k).map g).map tI ++ [tI (g k)] := fun A g => by
            rw [List.range_succ]
            simp
          rw [es]
          exact dpa_app (dpa_tx (Tx.lst at4) _ _ (immAll_tI _) (dpa_ex (e7.trans e8) _ _ r3)) (.cons (dp_tx (Tx.lst at4) _ _ (imm_tI _) hv) .nil)
        · have b1 := sm1 i
          have b2 := sm2 i j
          rw [List.length_append, List.length_append, List.length_map, List.length_range]
          omega
      · rintro H4 σ' Ha e6 ⟨r0, ⟨r1, ⟨wu, r2, r3⟩, r4, r5⟩, r6, r7⟩
        rw [List.length_map, List.length_range] at r3 r4
        refine ⟨q0, ⟨q1.then e5 |>.then e6 |>.trans r1, ⟨wu, r2, ?_⟩, ?_, r5⟩, r6⟩
        · rw [flat_succ, ← List.append_assoc]
          exact r3
        · rw [flat_succ, ← List.append_assoc]
          exact r4
    · rintro H3 σ' Ha e4 ⟨q0, ⟨q1, ⟨wt, q2, q3⟩, q4, q5⟩, q6⟩
      rw [List.length_map, List.length_range] at q3 q4
      refine ⟨q0.trans q1, ⟨wt, q2, ?_⟩, ?_, q5⟩
      · rw [flat_succ]
        exact q3
      · rw [flat_succ]
        exact q4
  · rintro H2 σ' Ha e2 ⟨p1, ⟨ws, p2, p3⟩, p4, a, b, c, rfl⟩
    rw [List.length_map, List.length_range] at p3
    exact ⟨.ref p, rfl, k p ws Ha hp (xp_fresh (e1.trans e2) p1 hp) p2 p3⟩

end
end K16
set_option Elab.async false
set_option linter.all false
set_option maxRecDepth 100000
set_option maxHeartbeats 4000000
namespace K16
open PySem PySem.Spec PyProof.Rows L2 Evl DL
local macro_rules | `(tactic| walk_at "dl") => `(tactic| first
  | exact ev_c | exact ev_var rfl | exact eda_nil
  | exact ed_var rfl (by assumption)
  | exact ed_int ev_c | exact ed_int (ev_var rfl)
  | (refine eda_cons ?_ ?_ <;> walk_at "dl")
  | (refine ed_int ?_; walk_at "dl")
  | (refine ev_op ?_ ?_ rv_I0 <;> walk_at "dl"))

section
variable {P : Program} {w : World} {K : PySem.W.Frag} {mg : Str → Option Value} {base : Heap}
/-- the number at the pair's place -/
def at2 (s : Int) (l : List Int) (a b : Int) : Int := l.getD (plc s a b).toNat 0
def tsum (s : Int) (l : List Int) (t : List Int) : Int := at2 s l (t.getD 0 0) (t.getD 1 0) + at2 s l (t.getD 0 0) (t.getD 2 0) + at2 s l (t.getD 1 0) (t.getD 2 0)
def R_sum_in_triangle (ds : List PyData) (r : PyData) : Prop := ∃ (s : Int) (l : List Int) (a b c : Int), ds = [.int s, tI l, tI [a, b, c]] ∧ 2 ≤ s ∧ s ≤ 5 ∧ l.length = np s ∧ 0 ≤ a ∧ a < b ∧ b < c ∧ c < s ∧ r = .int (tsum s l [a, b, c])
theorem ed_at2 {σ : L2.St} {H : Hp} {te tb : TE} {s a b : Int} {l : List Int} (h : EvD K te σ H (tI l)) (hp : Ev tb σ H (.int (plc s a b))) (h1 : 2 ≤ s) (h2 : s ≤ 5) (hl : l.length = np s) (ha : 0 ≤ a) (hb : a < b) (hs : b < s) : Ev (tOp (rIxT K) te tb) σ H (.int (at2 s l a b)) := by
  obtain ⟨q1, q2⟩ := plc_ok h1 h2 ha hb hs
  refine EvD.int (ed_ixT (ds := dI l) (k := (plc s a b).toNat) h (by rw [Int.toNat_of_nonneg q1]; exact hp) ?_)
  rw [← hl] at q2
  rw [at2, List.getElem?_map, List.getElem?_eq_getElem q2, List.getD_eq_getElem?_getD, List.getElem?_eq_getElem q2]
  rfl
abbrev s_sum_in_triangle : Stmt := topS 22
abbrev N_sum_in_triangle : List Str := ["sides", "load", "three", "side", "far", "last", "total"]
theorem sc_sum_in_triangle : FnScope N_sum_in_triangle ["sides", "load", "three"] (defScope s_sum_in_triangle) := ⟨rfl, rfl, rfl, by decide +kernel, rfl, by decide +kernel, by decide +kernel⟩
theorem ok_sum_in_triangle {f : Addr} {fd : FuncData} (F : Fun K "sum_in_triangle" "sum_in_triangle" s_sum_in_triangle f fd) (T : Txt mg)
    (D_pair_place : DF P w K mg base "pair_place" 1 ["sides", "side", "far"] (spD K 3 R_pair_place))  :
    FnOk P w K mg base CX0 2 f fd ["sides", "load", "three"] (spD K 3 R_sum_in_triangle) := by
  refine F.ok sc_sum_in_triangle (fun vs H Q E h => spD_len h) (fun cdv A outer s H vs Q E hr h => ?_)
  obtain ⟨ds, r, hd, _, ⟨x, l, a, b, c, rfl, h1, h2, hl, ha, hb, hc, hs, rfl⟩, k⟩ := h
  obtain ⟨v0, v1, v2, rfl, d0, d1, d2⟩ := dpa_three hd
  cases dp_int d0
  refine ⟨_, (pss_cons (ps_asg (pv 2) (pg_tup rfl (pgs_cons (pg_name (i := 3) sc_sum_in_triangle.nd rfl (Or.inl rfl)) (pgs_cons (pg_name (i := 4) sc_sum_in_triangle.nd rfl (Or.inl rfl)) (pgs_cons (pg_name (i := 5) sc_sum_in_triangle.nd rfl (Or.inl rfl)) pgs_nil)))))
      (pss_cons (ps_set (i := 6) sc_sum_in_triangle.nd rfl (.inl rfl) (pe_op op_add (pe_ix ix_tup (pv 1) (pe_D D_pair_place (hr.mono (by decide)) (by rfl) (pa_cons (pv 0) (pa_cons (pv 3) (pa_cons (pv 4) pa_nil)))) (fun _ _ => rfl)) (pe_ix ix_tup (pv 1) (pe_D D_pair_place (hr.mono (by decide)) (by rfl) (pa_cons (pv 0) (pa_cons (pv 3) (pa_cons (pv 5) pa_nil)))) (fun _ _ => rfl))))
      (pss_one (ps_ret (pe_op op_add (pv 6) (pe_ix ix_tup (pv 1) (pe_D D_pair_place (hr.mono (by decide)) (by rfl) (pa_cons (pv 0) (pa_cons (pv 4) (pa_cons (pv 5) pa_nil)))) (fun _ _ => rfl))))))), ?_⟩
  refine qd_unp3 (K := K) (d1 := .int a) (d2 := .int b) (d3 := .int c) (ed_var rfl d2) fun w1 w2 w3 H1 e1 u1 u2 u3 => ?_
  cases dp_int u1
  cases dp_int u2
  cases dp_int u3
  have d1' := dp_ex e1 _ _ d1
  have pp : ∀ {σ : L2.St} {H' : Hp} (i j : Nat) (y z : Int), σ[0]? = some (some (.int x)) → σ[i]? = some (some (.int y)) → σ[j]? = some (some (.int z)) → 0 ≤ y → y ≤ 1000 →
      Ev (tCall (spD K 3 R_pair_place) [] E0 (tCons (tVar 0) (tCons (tVar i) (tCons (tVar j) tNil)))) σ H' (.int (plc x y z)) := fun i j y z g0 g1 g2 g3 g4 =>
    EvD.int (ed_call (ds := [.int x, .int y, .int z]) (eda_cons (ed_int (ev_var g0)) (eda_cons (ed_int (ev_var g1)) (eda_cons (ed_int (ev_var g2)) eda_nil))) rfl ⟨x, y, z, rfl, ⟨g3, g4⟩, rfl⟩)
  refine qi_asg (v := .int (at2 x l a b + at2 x l a c)) (ev_op (ed_at2 (ed_var rfl d1') (pp 3 4 a b rfl rfl rfl ha (by omega)) h1 h2 hl ha hb (by omega)) (ed_at2 (ed_var rfl d1') (pp 3 5 a c rfl rfl rfl ha (by omega)) h1 h2 hl ha (by omega) hs) rv_I0) fun H2 e2 => ?_
  have d2' := dp_ex e2 _ _ d1'
  exact d_ret (ed_int (ev_op (ev_var rfl) (ed_at2 (ed_var rfl d2') (pp 4 5 b c rfl rfl rfl (by omega) (by omega)) h1 h2 hl (by omega) hc hs) rv_I0)) fun v H3 e3 hv => k v H3 ((e1.trans e2).trans e3) hv

def need (s : Int) (l : List Int) : Int := mxl (sms s l ++ (tri s).map (tsum s l))
theorem tri_in {s : Int} (h1 : 2 ≤ s) (h2 : s ≤ 4) {t : List Int} (h : t ∈ tri s) : ∃ a b c, t = [a, b, c] ∧ 0 ≤ a ∧ a < b ∧ b < c ∧ c < s := by
  unfold tri tr2 tr3 at h
  simp only [List.mem_flatMap, List.mem_map, List.mem_range] at h
  obtain ⟨i, hi, j, hj, k, hk, rfl⟩ := h
  exact ⟨_, _, _, rfl, by omega, by omega, by omega, by omega⟩
theorem tri_len {s : Int} (h1 : 2 ≤ s) (h2 : s ≤ 4) : (tri s).length ≤ 4 := by
  have hs' : s = 2 ∨ s = 3 ∨ s = 4 := by omega
  rcases hs' with rfl | rfl | rfl <;> decide
def R_need_of (ds : List PyData) (r : PyData) : Prop := ∃ (s : Int) (l : List Int), ds = [.int s, tI l] ∧ 2 ≤ s ∧ s ≤ 4 ∧ l.length = np s ∧ r = .int (need s l)
abbrev s_need_of : Stmt := topS 23
abbrev N_need_of : List Str := ["sides", "load", "sums", "three"]
theorem sc_need_of : FnScope N_need_of ["sides", "load"] (defScope s_need_of) := ⟨rfl, rfl, rfl, by decide +kernel, rfl, by decide +kernel, by decide +kernel⟩
theorem ok_need_of {f : Addr} {fd : FuncData} (F : Fun K "need_of" "need_of" s_need_of f fd) (T : Txt mg)
    (D_sum_in_triangle : DF P w K mg base "sum_in_triangle" 2 ["sides", "load", "three"] (spD K 3 R_sum_in_triangle)) (D_sums_at_sides : DF P w K mg base "sums_at_sides" 2 ["sides", "load"] (spN K 2 R_sums_at_sides)) (D_triangles : DF P w K mg base "triangles" 1 ["sides"] (spN K 1 R_triangles))  :
    FnOk P w K mg base CX0 3 f fd ["sides", "load"] (spD K 2 R_need_of) := by
  refine F.ok sc_need_of (fun vs H Q E h => spD_len h) (fun cdv A outer s H vs Q E hr h => ?_)
  obtain ⟨ds, r, hd, _, ⟨x, l, rfl, h1, h2, hl, rfl⟩, k⟩ := h
  obtain ⟨v0, rfl, d0⟩ := dpa_it hd
  refine ⟨_, (pss_cons (ps_set (i := 2) sc_need_of.nd rfl (.inl rfl) (pe_op op_cat (pe_D D_sums_at_sides (hr.mono (by decide)) (by rfl) (pa_cons (pv 0) (pa_cons (pv 1) pa_nil))) (pe_lc (own := [("three", 3)]) (g := (gName 3)) (tt := tYes) rfl sc_need_of.nd (pi_list (pe_D D_triangles (hr.mono (by decide)) (by rfl) (pa_cons (pv 0) pa_nil))) (blkOk_by (N := N_need_of) (sc := defScope s_need_of) (by decide +kernel)) (fun _ _ _ _ _ => (pg_name (i := 3) sc_need_of.nd rfl (Or.inl rfl))) (fun _ _ _ _ _ => pts_nil) (fun _ _ _ _ _ => (pe_D D_sum_in_triangle (hr.mono (by decide)) (by rfl) (pa_cons (pv 0) (pa_cons (pv 1) (pa_cons (pv 3) pa_nil))))))))
      (pss_one (ps_ret (pe_callB (cr_max rfl) (by rfl) T.b_max (by decide +kernel) (pa_cons (pv 2) pa_nil))))), ?_⟩
  have tl := tri_len h1 h2
  have sl := sms_len x l
  refine qn_asg (K := K) (ds := dI (sms x l ++ (tri x).map (tsum x l))) (en_is (en_cat (EvN.toQ (en_call (R := R_sums_at_sides) (r := dI (sms x l)) (ds := [.int x, tI l]) (by walk_at "dl") rfl ⟨x, l, rfl, h1, by omega, rfl⟩))
    (EvN.toQ (en_lc (ei_new (ds := (tri x).map tI) (Ls.nil _) (en_call (R := R_triangles) (ds := [.int x]) (by walk_at "dl") rfl ⟨x, rfl, h1, h2, rfl⟩) (immAll_tI _)) (by rw [List.length_map]; omega) (fun i => .int (tsum x l ((tri x).getD i []))) (fun _ _ => by simp [imm]) fun H2 i d y Hb Q' e2 hg e3 hd2 k2 => ?_)) ?_) ?_) fun p vs H1 hp e1 h1' hd1 => ?_
  · rw [List.getElem?_map] at hg
    obtain ⟨t, ht, rfl⟩ := Option.map_eq_some_iff.mp hg
    obtain ⟨a, b, c, rfl, q1, q2, q3, q4⟩ := tri_in h1 h2 (List.mem_of_getElem? ht)
    have d0' := dp_ex (e2.trans e3) _ _ d0
    refine k2 _ Hb (Ex.refl _) rfl (ed_is (ed_call (R := R_sum_in_triangle) (ds := [.int x, tI l, tI [a, b, c]]) (by walk_at "dl") rfl ⟨x, l, a, b, c, rfl, h1, by omega, hl, q1, q2, q3, q4, rfl⟩) ?_)
    rw [List.getD_eq_getElem?_getD, ht]
    rfl
  · rw [List.length_map, List.length_map, List.length_map, List.length_range, sl]
    omega
  · show (sms x l).map PyData.int ++ (List.range ((tri x).map tI).length).map _ = (sms x l ++ (tri x).map (tsum x l)).map PyData.int
    rw [List.map_append, List.map_map, List.length_map]
    congr 1
    apply List.ext_getElem?
    intro i
    rw [List.getElem?_map, List.getElem?_map]
    by_cases hi : i < (tri x).length
    · rw [List.getElem?_range hi, List.getElem?_eq_getElem hi]
      simp [List.getD_eq_getElem?_getD, hi]
    · rw [List.getElem?_eq_none (by simpa using hi), List.getElem?_eq_none (by omega)]
      rfl
  · obtain rfl := dpa_ints hd1
    have h0 : 0 < (sms x l ++ (tri x).map (tsum x l)).length := by rw [List.length_append, sl]; omega
    exact d_ret (ed_int (ev_maxL (EvQ.toD (eq_var rfl h1' (ints_dpa _))) h0 (mxl_mem h0) fun y hy => mxl_ge hy)) fun v H2 e2 hv => k v H2 (e1.trans e2) hv

end
end K16
set_option Elab.async false
set_option linter.all false
set_option maxRecDepth 100000
set_option maxHeartbeats 4000000
namespace K16
open PySem PySem.Spec PyProof.Rows L2 Evl DL
local macro_rules | `(tactic| walk_at "dl") => `(tactic| first
  | exact ev_c | exact ev_var rfl | exact eda_nil
  | exact ed_var rfl (by assumption)
  | exact ed_int ev_c | exact ed_int (ev_var rfl)
  | (refine eda_cons ?_ ?_ <;> walk_at "dl")
  | (refine ed_int ?_; walk_at "dl")
  | (refine ev_op ?_ ?_ rv_I0 <;> walk_at "dl"))

section
variable {P : Program} {w : World} {K : PySem.W.Frag} {mg : Str → Option Value} {base : Heap}
variable {CB CL CR : Addr}
def R_plain_need (ds : List PyData) (r : PyData) : Prop := ∃ (s : Int) (l : List Int), ds = [.int s, tI l] ∧ 2 ≤ s ∧ s ≤ 4 ∧ Ld s l ∧ r = .int (need s l)
theorem b_plain_two {ds : List PyData} {C : Addr} (h : B_plain CB CL ds C) : ∃ d e, ds = [d, e] := by
  rcases h with ⟨d, e, q, _⟩ | ⟨s, d, q, _⟩
  · exact ⟨d, e, q⟩
  · exact ⟨_, d, q⟩
abbrev s_plain_need : Stmt := topS 26
abbrev N_plain_need : List Str := ["sides", "load"]
theorem sc_plain_need : FnScope N_plain_need ["sides", "load"] (defScope s_plain_need) := ⟨rfl, rfl, rfl, by decide +kernel, rfl, by decide +kernel, by decide +kernel⟩
theorem ok_plain_need {f : Addr} {fd : FuncData} (F : Fun K "plain_need" "plain_need" s_plain_need f fd) (T : Txt mg)
    (D_check_plain_load : DFX P w K mg base "check_plain_load" 4 ["sides", "load"] (spR K 2 R_check_pl (B_plain CB CL))) (D_need_of : DF P w K mg base "need_of" 3 ["sides", "load"] (spD K 2 R_need_of))  :
    FnOk P w K mg base (L2.CX P w) 5 f fd ["sides", "load"] (spR K 2 R_plain_need (B_plain CB CL)) := by
  refine F.okX sc_plain_need (fun vs H Q E h => spR_len h) (fun cdv A outer s H vs Q E hr h => ?_)
  obtain ⟨ds, hd, _, h⟩ := h
  refine ⟨_, (pss_cons (ps_expr (pe_DX D_check_plain_load (takes_of rfl rfl rfl rfl) (fun _ _ _ _ h => h) (hr.mono (by decide)) (by rfl) (pa_cons (pv 0) (pa_cons (pv 1) pa_nil)))) (pss_one (ps_ret (pe_D D_need_of (hr.mono (by decide)) (by rfl) (pa_cons (pv 0) (pa_cons (pv 1) pa_nil)))))), ?_⟩
  rcases h with ⟨r, ⟨x, l, rfl, h1, h2, hl, rfl⟩, k⟩ | ⟨C, hb, k⟩
  · obtain ⟨v0, v1, rfl, d0, d1⟩ := dpa_two hd
    cases dp_int d0
    refine qd_drop (K := K) (d := .none) (ed_callR (R := R_check_pl) (B := B_plain CB CL) (ds := [.int x, tI l]) (by walk_at "dl") rfl ⟨x, l, rfl, h1, h2, hl, rfl⟩) fun H1 e1 => ?_
    have d1 := dp_ex e1 _ _ d1
    exact d_ret (K := K) (ed_call (R := R_need_of) (ds := [.int x, tI l]) (by walk_at "dl") rfl ⟨x, l, rfl, h1, h2, hl.1, rfl⟩) fun v H2 e2 hv => k v H2 (e1.trans e2) hv
  · obtain ⟨d, e, rfl⟩ := b_plain_two hb
    obtain ⟨v0, v1, rfl, d0, d1⟩ := dpa_two hd
    exact b_drop (eb_callR (K := K) (R := R_check_pl) (B := B_plain CB CL) (ds := [d, e]) (by walk_at "dl") rfl hb) fun H1 e1 => k H1 e1

def R_side_sm (ds : List PyData) (r : PyData) : Prop := ∃ (s : Int) (l : List Int), ds = [.int s, tI l] ∧ 2 ≤ s ∧ s ≤ 4 ∧ Ld s l ∧ r = tI (sms s l)
abbrev s_side_sums : Stmt := topS 24
abbrev N_side_sums : List Str := ["sides", "load"]
theorem sc_side_sums : FnScope N_side_sums ["sides", "load"] (defScope s_side_sums) := ⟨rfl, rfl, rfl, by decide +kernel, rfl, by decide +kernel, by decide +kernel⟩
theorem ok_side_sums {f : Addr} {fd : FuncData} (F : Fun K "side_sums" "side_sums" s_side_sums f fd) (T : Txt mg)
    (D_check_plain_load : DFX P w K mg base "check_plain_load" 4 ["sides", "load"] (spR K 2 R_check_pl (B_plain CB CL))) (D_sums_at_sides : DF P w K mg base "sums_at_sides" 2 ["sides", "load"] (spN K 2 R_sums_at_sides))  :
    FnOk P w K mg base (L2.CX P w) 5 f fd ["sides", "load"] (spR K 2 R_side_sm (B_plain CB CL)) := by
  refine F.okX sc_side_sums (fun vs H Q E h => spR_len h) (fun cdv A outer s H vs Q E hr h => ?_)
  obtain ⟨ds, hd, _, h⟩ := h
  refine ⟨_, (pss_cons (ps_expr (pe_DX D_check_plain_load (takes_of rfl rfl rfl rfl) (fun _ _ _ _ h => h) (hr.mono (by decide)) (by rfl) (pa_cons (pv 0) (pa_cons (pv 1) pa_nil)))) (pss_one (ps_ret (pe_callTy call_tuple_of (by rfl) T.b_tuple (by decide +kernel) (pa_cons (pe_D D_sums_at_sides (hr.mono (by decide)) (by rfl) (pa_cons (pv 0) (pa_cons (pv 1) pa_nil))) pa_nil))))), ?_⟩
  rcases h with ⟨r, ⟨x, l, rfl, h1, h2, hl, rfl⟩, k⟩ | ⟨C, hb, k⟩
  · obtain ⟨v0, v1, rfl, d0, d1⟩ := dpa_two hd
    cases dp_int d0
    refine qd_drop (K := K) (d := .none) (ed_callR (R := R_check_pl) (B := B_plain CB CL) (ds := [.int x, tI l]) (by walk_at "dl") rfl ⟨x, l, rfl, h1, h2, hl, rfl⟩) fun H1 e1 => ?_
    have d1 := dp_ex e1 _ _ d1
    exact d_ret (K := K) (ed_tupleOf (EvN.toD (en_call (R := R_sums_at_sides) (ds := [.int x, tI l]) (by walk_at "dl") rfl ⟨x, l, rfl, h1, by omega, rfl⟩))) fun v H2 e2 hv => k v H2 (e1.trans e2) hv
  · obtain ⟨d, e, rfl⟩ := b_plain_two hb
    obtain ⟨v0, v1, rfl, d0, d1⟩ := dpa_two hd
    exact b_drop (eb_callR (K := K) (R := R_check_pl) (B := B_plain CB CL) (ds := [d, e]) (by walk_at "dl") rfl hb) fun H1 e1 => k H1 e1

end
end K16
set_option Elab.async false
set_option linter.all false
set_option maxRecDepth 100000
set_option maxHeartbeats 4000000
namespace K16
open PySem PySem.Spec PyProof.Rows L2 Evl DL
local macro_rules | `(tactic| walk_at "dl") => `(tactic| first
  | exact ev_c | exact ev_var rfl | exact eda_nil
  | exact ed_var rfl (by assumption)
  | exact ed_int ev_c | exact ed_int (ev_var rfl)
  | (refine eda_cons ?_ ?_ <;> walk_at "dl")
  | (refine ed_int ?_; walk_at "dl")
  | (refine ev_op ?_ ?_ rv_I0 <;> walk_at "dl"))

section
variable {K : PySem.W.Frag} {σ : L2.St} {H H' : Hp} {ta tb te : TE} {D : Ends} {tz : TS} {st lg cl : Addr}
/-! ### the drawing state -/
def kL : Key := .inr "large"
def kC : Key := .inr "cells"
def kF : Key := .inr "left"
def kT : Key := .inr "turn"
theorem k_ne : kL ≠ kC ∧ kL ≠ kF ∧ kL ≠ kT ∧ kC ≠ kF ∧ kC ≠ kT ∧ kF ≠ kT := by decide +kernel
def dk (lg cl : Addr) (l t : Int) : List (Key × V) := [(kL, .ref lg), (kC, .ref cl), (kF, .int l), (kT, .int t)]
theorem dk_L {l t : Int} : valV (dk lg cl l t) kL = some (.ref lg) := valV_pos rfl
theorem dk_C {l t : Int} : valV (dk lg cl l t) kC = some (.ref cl) := by
  obtain ⟨a, b, c, d, e, f⟩ := k_ne
  rw [dk, valV_neg a, valV_pos rfl]
theorem dk_F {l t : Int} : valV (dk lg cl l t) kF = some (.int l) := by
  obtain ⟨a, b, c, d, e, f⟩ := k_ne
  rw [dk, valV_neg b, valV_neg d, valV_pos rfl]
theorem dk_T {l t : Int} : valV (dk lg cl l t) kT = some (.int t) := by
  obtain ⟨a, b, c, d, e, f⟩ := k_ne
  rw [dk, valV_neg c, valV_neg e, valV_neg f, valV_pos rfl]
theorem put_F {l t l' : Int} : putK (dk lg cl l t) kF (.int l') = dk lg cl l' t := by
  obtain ⟨a, b, c, d, e, f⟩ := k_ne
  simp [putK, dk, a, b, c, d, e, f, Ne.symm f]
theorem put_T {l t t' : Int} : putK (dk lg cl l t) kT (.int t') = dk lg cl l t' := by
  obtain ⟨a, b, c, d, e, f⟩ := k_ne
  simp [putK, dk, a, b, c, d, e, f]
def StK (st lg cl : Addr) (n : Nat) (H : Hp) : Prop := ∃ (l t : Int) (xs cs : List Int), H st = some (.dK (dk lg cl l t)) ∧ H lg = some (.lst (xs.map V.int)) ∧ H cl = some (.lst (cs.map V.int)) ∧ cl ≠ lg ∧ 0 ≤ t ∧ t ≤ (n : Int)
theorem stk_ex {n : Nat} (e : Ex H H') (h : StK st lg cl n H) : StK st lg cl n H' := by
  obtain ⟨l, t, xs, cs, h1, h2, h3, h4⟩ := h
  exact ⟨l, t, xs, cs, e _ _ h1, e _ _ h2, e _ _ h3, h4⟩
theorem stk_mono {n m : Nat} (hnm : n ≤ m) (h : StK st lg cl n H) : StK st lg cl m H := by
  obtain ⟨l, t, xs, cs, h1, h2, h3, h4, h5, h6⟩ := h
  exact ⟨l, t, xs, cs, h1, h2, h3, h4, h5, by omega⟩
/-- tuples stay while the state changes -/
theorem stk_tx {n : Nat} (h : StK st lg cl n H) (x : Xp [st, lg] H H') : Tx H H' := by
  obtain ⟨l, t, xs, cs, h1, h2, h3, h4⟩ := h
  intro a ys r
  have nin : ∀ o, H a = some o → (∀ l, o ≠ .lst l) → (∀ l, o ≠ .dK l) → a ∉ [st, lg] := fun o ho n1 n2 hm => by
    rcases (by simpa using hm : a = st ∨ a = lg) with rfl | rfl
    · rw [h1] at ho
      exact n2 _ (Option.some.inj ho).symm
    · rw [h2] at ho
      exact n1 _ (Option.some.inj ho).symm
  rcases r with r | ⟨ob, r⟩
  · exact .inl (x _ _ r (nin _ r (fun _ z => nomatch z) fun _ z => nomatch z))
  · exact .inr ⟨ob, x _ _ r (nin _ r (fun _ z => nomatch z) fun _ z => nomatch z)⟩
theorem ev_dget {i : Nat} {k : Key} {kvs : List (Key × V)} {v : V} (hs : σ[i]? = some (some (.ref st))) (h : H st = some (.dK kvs)) (hv : valV kvs k = some v) : Ev (tDGet (tVar i) (tC (kV k))) σ H v := fun H1 e Q q =>
  ⟨.ref st, hs, st, v, rfl, hv ▸ DGet.k (e _ _ h), q H1 (Ex.refl _)⟩
theorem s_dput {i : Nat} {k : Key} {kvs : List (Key × V)} {v : V} (hs : σ[i]? = some (some (.ref st))) (h : H st = some (.dK kvs)) (hl : kvs.length ≤ 1000) (hv : Ev te σ H v) (q : ∀ H1, Ex H H1 → D.nx σ (upd H1 st (.dK (putK kvs k v)))) :
    sDPut (tVar i) (tC (kV k)) te D σ H := hv H (Ex.refl _) _ fun H1 e => ⟨.ref st, hs, st, _, rfl, DPut.k (e _ _ h) (sz_lt (by omega)), q H1 e⟩
theorem q_dput {i : Nat} {k : Key} {kvs : List (Key × V)} {v : V} (hs : σ[i]? = some (some (.ref st))) (h : H st = some (.dK kvs)) (hl : kvs.length ≤ 1000) (hv : Ev te σ H v) (q : ∀ H1, Ex H H1 → tz D σ (upd H1 st (.dK (putK kvs k v)))) :
    tSeq (sDPut (tVar i) (tC (kV k)) te) tz D σ H := s_dput (D := { D with nx := tz D }) hs h hl hv q
theorem ev_int1 {i : Int} (h : Ev ta σ H (.int i)) : Ev (tCB (fun xs H Q => (∃ i, xs = [.int i] ∧ Q (.int i) H) ∨ ∃ k, xs = [.bl k] ∧ Q (.int (if k then 1 else 0)) H) (tCons ta tNil)) σ H (.int i) := fun H1 e Q q =>
  h H1 e _ fun H2 e2 => .inl ⟨i, rfl, q H2 e2⟩
theorem shaped_dI (a : List Int) : SeqAt.shaped (.list (dI a)) = true := by
  have h := depth_ints a
  show ((PyData.list (dI a)).canLay0 && decide ((PyData.list (dI a)).depth ≤ 64)) = true
  rw [Bool.and_eq_true]
  refine ⟨by rw [PyData.canLay0]; exact canLay_ints a, decide_eq_true ?_⟩
  rw [PyData.depth]
  omega
theorem eqv_nil (a : List Int) : PyData.eqv (.list (dI a)) (.list []) = a.isEmpty := by
  rw [PyData.eqv]
  cases a with
  | nil => simp [PyData.eqvAll]
  | cons x a => simp [PyData.eqvAll]
/-- x != [] -/
theorem ev_neNil {a : List Int} (ha : EvD K ta σ H (.list (dI a))) : Ev (tOp (rNeD K) ta (tLst tNil)) σ H (.bl (!a.isEmpty)) := fun H1 e Q q =>
  ha H1 e _ fun x H2 e2 hx => EvN.toD (en_lst eda_nil (by simp)) H2 (e.trans e2) _ fun y H3 e3 hy => ⟨_, _, dp_ex e3 _ _ hx, hy, shaped_dI a, shaped_dI [], by
    rw [eqv_nil]
    exact q H3 (e2.trans e3)⟩
end
section
variable {P : Program} {w : World} {K : PySem.W.Frag} {mg : Str → Option Value} {base : Heap}

def spDraw (K : PySem.W.Frag) : Sp := fun vs H Q _ => ∃ (st lg cl : Addr) (n : Nat) (size : Int), vs = [.ref st, .int size] ∧ 1 ≤ size ∧ size ≤ 1000 ∧ n ≤ 10000 ∧ StK st lg cl n H ∧
  ∀ r H', 0 ≤ r → r < size → Xp [st, lg] H H' → StK st lg cl (n + 1) H' → Q (.int r) H'
abbrev s__law_draw : Stmt := topS 29
abbrev N__law_draw : List Str := ["state", "size_here", "found", "turn", "cell", "mixed"]
theorem sc__law_draw : FnScope N__law_draw ["state", "size_here"] (defScope s__law_draw) := ⟨rfl, rfl, rfl, by decide +kernel, rfl, by decide +kernel, by decide +kernel⟩
theorem ok__law_draw {f : Addr} {fd : FuncData} (F : Fun K "_law_draw" "_law_draw" s__law_draw f fd) (T : Txt mg)
      :
    FnOk P w K mg base CX0 1 f fd ["state", "size_here"] (spDraw K) := by
  refine F.ok sc__law_draw (fun vs H Q E h => by obtain ⟨_, _, _, _, _, rfl, _⟩ := h; rfl) (fun cdv A outer s H vs Q E hr h => ?_)
  obtain ⟨st, lg, cl, n, size, rfl, h1, h2, h3, hst, k⟩ := h
  refine ⟨_, (pss_cons (ps_while PassesOwn.never (PW.pt (pw_and (pt_cmpR op_eq (pe_dget (hu_of hr) (pv 0) pe_str (fun _ _ => rfl)) pe_int (nomark _)) (pw_and1 (pt_cmpR (op_neD (hu64 hr)) (pe_dget (hu_of hr) (pv 0) pe_str (fun _ _ => rfl)) (pe_lst pa_nil) (nomark _))))) (pss_one (ps_dput (hu_of hr) (pv 0) pe_str (pe_bm PySem.F.plainAttrs_list PySem.F.slot_list_pop PySem.F.type_list_pop mt_popAt (pe_dget (hu_of hr) (pv 0) pe_str (fun _ _ => rfl)) (pa_cons pe_int pa_nil)) rfl)))
      (pss_cons (ps_if (pt_cmpR op_gt (pe_dget (hu_of hr) (pv 0) pe_str (fun _ _ => rfl)) pe_int (nomark _)) (pss_cons (ps_set (i := 2) sc__law_draw.nd rfl (.inl rfl) (pe_op op_mod (pe_callTy call_int1 (by rfl) T.b_int (by decide +kernel) (pa_cons (pe_dget (hu_of hr) (pv 0) pe_str (fun _ _ => rfl)) pa_nil)) (pv 1)))
      (pss_cons (ps_dput (hu_of hr) (pv 0) pe_str (pe_op op_fdiv (pe_dget (hu_of hr) (pv 0) pe_str (fun _ _ => rfl)) (pv 1)) rfl)
      (pss_one (ps_ret (pv 2))))) pss_nil)
      (pss_cons (ps_set (i := 3) sc__law_draw.nd rfl (.inl rfl) (pe_op op_add (pe_dget (hu_of hr) (pv 0) pe_str (fun _ _ => rfl)) pe_int))
      (pss_cons (ps_dput (hu_of hr) (pv 0) pe_str (pv 3) rfl)
      (pss_cons (ps_set (i := 4) sc__law_draw.nd rfl (.inl rfl) (pe_ifExp (pt_cmpR (op_neD (hu64 hr)) (pe_dget (hu_of hr) (pv 0) pe_str (fun _ _ => rfl)) (pe_lst pa_nil) (nomark _)) (pe_ix ix_list (pe_dget (hu_of hr) (pv 0) pe_str (fun _ _ => rfl)) (pe_op op_mod (pe_callTy call_int1 (by rfl) T.b_int (by decide +kernel) (pa_cons (pv 3) pa_nil)) (pe_callB call_len_seq (by rfl) T.b_len PySem.boot_len (pa_cons (pe_dget (hu_of hr) (pv 0) pe_str (fun _ _ => rfl)) pa_nil))) (fun _ _ => rfl)) pe_int))
      (pss_cons (ps_set (i := 5) sc__law_draw.nd rfl (.inl rfl) (pe_op op_mod (pe_callTy call_int1 (by rfl) T.b_int (by decide +kernel) (pa_cons (pe_op op_pow (pe_op op_add (pe_op op_add (pe_op op_mod (pe_callTy call_int1 (by rfl) T.b_int (by decide +kernel) (pa_cons (pv 4) pa_nil)) pe_int) (pe_op op_mul pe_int (pv 3))) pe_int) pe_int) pa_nil)) pe_int))
      (pss_one (ps_ret (pe_op op_mod (pe_callTy call_int1 (by rfl) T.b_int (by decide +kernel) (pa_cons (pe_op op_fdiv (pe_op op_mod (pe_callTy call_int1 (by rfl) T.b_int (by decide +kernel) (pa_cons (pe_op op_pow (pe_op op_add (pv 5) (pe_op op_mul pe_int (pv 3))) pe_int) pa_nil)) pe_int) pe_int) pa_nil)) (pv 1)))))))))), ?_⟩
  obtain ⟨l0, t0, xs0, cs, a1, a2, a3, a4, a5, a6⟩ := hst
  have cst : cl ≠ st := fun z => by rw [z, a1] at a3; cases a3
  have lst : lg ≠ st := fun z => by rw [z, a1] at a2; cases a2
  have kF' : V.str "left" = kV kF := rfl
  refine ⟨fun m σ' Ha => ∃ (l : Int) (xs : List Int), m = xs.length ∧ Xp [st, lg] H Ha ∧ Ha st = some (.dK (dk lg cl l t0)) ∧ Ha lg = some (.lst (xs.map V.int)) ∧ σ' = [some (.ref st), some (.int size), none, none, none, none], ⟨_, l0, xs0, rfl, Xp.refl _ _, a1, a2, rfl⟩, ?_⟩
  rintro m σ' Ha ⟨l, xs, rfl, xp, b1, b2, rfl⟩
  have b3 : Ha cl = some (.lst (cs.map V.int)) := xp _ _ a3 (by simp [cst, a4])
  refine et_and (a := decide (V.int l = V.int 0)) (b := !xs.isEmpty) (et_test (ev_op (ev_dget (k := kF) rfl b1 dk_F) ev_c (rv_eq rfl))) (fun _ => et_test (ev_neNil (K := K) (ed_is (d := .list (dI xs)) (ev_d (ev_dget (k := kL) rfl b1 dk_L) (.lst (sq_of b2) (ints_dpa xs))) rfl))) Ha (Ex.refl _) _ fun Hb eb => ?_
  have b1 := eb _ _ b1
  have b2 := eb _ _ b2
  have b3 := eb _ _ b3
  have xp := xp.then eb
  by_cases hx : (decide (V.int l = V.int 0) && !xs.isEmpty) = true
  · rw [if_pos hx]
    cases xs with
    | nil => simp at hx
    | cons x xs =>
      refine ⟨fun σ2 H2 => ∃ (l : Int), Xp [st, lg] H H2 ∧ H2 st = some (.dK (dk lg cl l t0)) ∧ H2 lg = some (.lst (xs.map V.int)) ∧ σ2 = [some (.ref st), some (.int size), none, none, none, none], fun σ2 H2 ⟨l, z⟩ => ⟨xs.length, by simp, l, xs, rfl, z⟩, ?_⟩
      refine ⟨.ref st, rfl, st, .ref lg, rfl, (dk_L (lg := lg) (cl := cl) (l := l) (t := t0)) ▸ DGet.k (k := kL) b1, Or.inl ⟨rfl, _, sq_of b2⟩, lg, _, 0, 0, .int x, rfl, rfl, b2, by decide, by decide, by simp [seqIndex?], rfl, .ref st, rfl, st, _, rfl, DPut.k (k := kF) (by rw [upd_ne (Ne.symm lst)]; exact b1) (by show 4 < sizeLine; decide), ?_⟩
      rw [put_F]
      exact ⟨x, Xp.upd (Xp.upd xp (by simp)) (by simp), upd_same, by rw [upd_ne lst, upd_same]; simp, rfl⟩
  rw [if_neg hx]
  show tSeq _ _ _ [some (.ref st), some (.int size), none, none, none, none] Hb
  refine q_when (b := decide ((0 : Int) < l)) (et_test (ev_op (ev_dget (k := kF) rfl b1 dk_F) ev_c rv_I0)) (fun hb Hc ec => ?_) fun hb Hc ec => ?_
  · have b1 := ec _ _ b1
    refine qi_asg (ev_op (ev_int1 (ev_dget (k := kF) rfl b1 dk_F)) (ev_var rfl) (rv_I (by omega))) fun Hd ed => ?_
    have b1 := ed _ _ b1
    refine q_dput (k := kF) rfl b1 (by simp [dk]) (ev_op (ev_dget (k := kF) rfl b1 dk_F) (ev_var rfl) (rv_I ⟨by omega, by omega⟩)) fun He ee => ?_
    rw [put_F]
    refine ⟨_, rfl, k (l % size) _ (Int.emod_nonneg _ (by omega)) (Int.emod_lt_of_pos _ (by omega)) (Xp.upd (xp.then ((ec.trans ed).trans ee)) (by simp)) ⟨l / size, t0, xs, cs, upd_same, ?_, ?_, a4, a5, by omega⟩⟩
    · rw [upd_ne lst]
      exact ee _ _ (ed _ _ (ec _ _ b2))
    · rw [upd_ne cst]
      exact ee _ _ (ed _ _ (ec _ _ b3))
  have b1 := ec _ _ b1
  refine qi_asg (ev_op (ev_dget (k := kT) rfl b1 dk_T) ev_c rv_I0) fun Hd ed => ?_
  have b1 := ed _ _ b1
  refine q_dput (k := kT) rfl b1 (by simp [dk]) (ev_var rfl) fun He ee => ?_
  rw [put_T]
  have c1 : upd He st (.dK (dk lg cl l (t0 + 1))) st = some (.dK (dk lg cl l (t0 + 1))) := upd_same
  have c2 : upd He st (.dK (dk lg cl l (t0 + 1))) lg = some (.lst (xs.map V.int)) := by
    rw [upd_ne lst]
    exact ee _ _ (ed _ _ (ec _ _ b2))
  have c3 : upd He st (.dK (dk lg cl l (t0 + 1))) cl = some (.lst (cs.map V.int)) := by
    rw [upd_ne cst]
    exact ee _ _ (ed _ _ (ec _ _ b3))
  have xp2 : Xp [st, lg] H (upd He st (.dK (dk lg cl l (t0 + 1)))) := Xp.upd (xp.then ((ec.trans ed).trans ee)) (by simp)
  generalize upd He st (.dK (dk lg cl l (t0 + 1))) = Hf at *
  obtain ⟨c, hc⟩ : ∃ c : Int, Ev (tIf (tTest (tOp (rNeD K) (tDGet (tVar 0) (tC (.str "cells"))) (tLst tNil)))
      (tOp (rIxL K) (tDGet (tVar 0) (tC (.str "cells"))) (tOp (rI (fun _ j => 0 < j) fun i j => .int (i % j)) (tCB (fun xs H Q => (∃ i, xs = [.int i] ∧ Q (.int i) H) ∨ ∃ k, xs = [.bl k] ∧ Q (.int (if k then 1 else 0)) H) (tCons (tVar 3) tNil)) (tCB (fun xs H Q => ∃ p ys, xs = [.ref p] ∧ (SqL K H p ys ∨ SqT K H p ys) ∧ Q (.int ys.length) H) (tCons (tDGet (tVar 0) (tC (.str "cells"))) tNil))))
      (tC (.int 0))) [some (.ref st), some (.int size), none, some (.int (t0 + 1)), none, none] Hf (.int c) := by
    have dc : EvD K (tDGet (tVar 0) (tC (.str "cells"))) [some (.ref st), some (.int size), none, some (.int (t0 + 1)), none, none] Hf (.list (dI cs)) := ev_d (ev_dget (k := kC) rfl c1 dk_C) (.lst (sq_of c3) (ints_dpa cs))
    refine ⟨if (!cs.isEmpty) = true then cs.getD ((t0 + 1) % (cs.length : Int)).toNat 0 else 0, ev_if (b := !cs.isEmpty) (et_test (ev_neNil dc)) (fun h => ?_) fun h => ?_⟩
    · rw [if_pos h]
      have hl : 0 < cs.length := by cases cs with | nil => simp at h | cons _ _ => simp
      have m1 := Int.emod_nonneg (t0 + 1) (show ((cs.length : Int)) ≠ 0 by omega)
      have m2 := Int.emod_lt_of_pos (t0 + 1) (show (0 : Int) < (cs.length : Int) by omega)
      refine ev_op (ev_dget (k := kC) rfl c1 dk_C) (ev_op (ev_int1 (ev_var rfl)) (ev_is (ev_lenL dc) (by rw [dI, List.length_map])) (rv_I (by omega))) (rv_ixL (K := K) (sq_of c3) ?_)
      obtain ⟨j, hj⟩ := Int.eq_ofNat_of_zero_le m1
      rw [hj] at m2 ⊢
      refine atI_nat ?_
      rw [Int.toNat_natCast, List.getElem?_map, List.getElem?_eq_getElem (by omega), List.getD_eq_getElem?_getD, List.getElem?_eq_getElem (by omega)]
      rfl
    · rw [h]
      exact ev_c
  refine qi_asg hc fun Hg eg => ?_
  have u1 := Int.emod_nonneg c (show (2147483563 : Int) ≠ 0 by decide)
  have u2 := Int.emod_lt_of_pos c (show (0 : Int) < 2147483563 by decide)
  refine qi_asg (v := .int (((c % 2147483563 + 40692 * (t0 + 1) + 24681) ^ (3 : Int).toNat) % 2147483629)) (ev_op (ev_int1 (ev_op (ev_op (ev_op (ev_op (ev_int1 (ev_var rfl)) ev_c (rv_I (by decide))) (ev_op ev_c (ev_var rfl) (rv_I (.inl ⟨by decide, by decide⟩))) rv_I0) ev_c rv_I0) ev_c (rv_I ⟨by decide, by decide, by omega⟩))) ev_c (rv_I (by decide))) fun Hh eh => ?_
  have w1 := Int.emod_nonneg ((c % 2147483563 + 40692 * (t0 + 1) + 24681) ^ (3 : Int).toNat) (show (2147483629 : Int) ≠ 0 by decide)
  have w2 := Int.emod_lt_of_pos ((c % 2147483563 + 40692 * (t0 + 1) + 24681) ^ (3 : Int).toNat) (show (0 : Int) < 2147483629 by decide)
  generalize ((c % 2147483563 + 40692 * (t0 + 1) + 24681) ^ (3 : Int).toNat) % 2147483629 = M at *
  refine s_ret (ev_op (ev_int1 (ev_op (ev_op (ev_int1 (ev_op (ev_op (ev_var rfl) (ev_op ev_c (ev_var rfl) (rv_I (.inl ⟨by decide, by decide⟩))) rv_I0) ev_c (rv_I ⟨by decide, by decide, by omega⟩))) ev_c (rv_I (by decide))) ev_c (rv_I ⟨by decide, by decide⟩))) (ev_var rfl) (rv_I (by omega))) fun Hi ei => ?_
  exact k _ _ (Int.emod_nonneg _ (by omega)) (Int.emod_lt_of_pos _ (by omega)) (xp2.then ((eg.trans eh).trans ei)) (stk_ex ((eg.trans eh).trans ei) ⟨l, t0 + 1, xs, cs, c1, c2, c3, a4, by omega, by omega⟩)

end
end K16
set_option Elab.async false
set_option linter.all false
set_option maxRecDepth 100000
set_option maxHeartbeats 4000000
namespace K16
open PySem PySem.Spec PyProof.Rows L2 Evl DL
local macro_rules | `(tactic| walk_at "dl") => `(tactic| first
  | exact ev_c | exact ev_var rfl | exact eda_nil
  | exact ed_var rfl (by assumption)
  | exact ed_int ev_c | exact ed_int (ev_var rfl)
  | (refine eda_cons ?_ ?_ <;> walk_at "dl")
  | (refine ed_int ?_; walk_at "dl")
  | (refine ev_op ?_ ?_ rv_I0 <;> walk_at "dl"))

section
variable {P : Program} {w : World} {K : PySem.W.Frag} {mg : Str → Option Value} {base : Heap}

/-- one of any values -/
def spPick (K : PySem.W.Frag) : Sp := fun vs H Q _ => ∃ (st lg cl : Addr) (n : Nat) (a : Addr) (xs : List V), vs = [.ref st, .ref a] ∧ H a = some (.lst xs) ∧ a ≠ lg ∧ 1 ≤ xs.length ∧ xs.length ≤ 1000 ∧ n ≤ 10000 ∧ StK st lg cl n H ∧
  ∀ r H', r ∈ xs → Xp [st, lg] H H' → StK st lg cl (n + 1) H' → Q r H'
def lpr (s : Int) : List PyData := (List.range s.toNat).flatMap fun (i : Nat) => (List.range (s - ((i : Int) + 1)).toNat).map fun (j : Nat) => PyData.tuple [.int (i : Int), .int ((i : Int) + 1 + (j : Int))]
def R_law_pairs (ds : List PyData) (r : List PyData) : Prop := ∃ s : Int, ds = [.int s] ∧ 2 ≤ s ∧ s ≤ 4 ∧ r = lpr s
theorem lpr_imm (s : Int) : immAll (lpr s) = true := immAll_flat (fun i => immAll_map (fun j => by simp [imm, immAll]) _) _
theorem lpr_len {s : Int} (h1 : 2 ≤ s) (h2 : s ≤ 4) : (lpr s).length = np s ∧ np s ≤ 6 := by
  have hs' : s = 2 ∨ s = 3 ∨ s = 4 := by omega
  rcases hs' with rfl | rfl | rfl <;> decide
abbrev s__law_pick : Stmt := topS 30
abbrev N__law_pick : List Str := ["state", "several"]
theorem sc__law_pick : FnScope N__law_pick ["state", "several"] (defScope s__law_pick) := ⟨rfl, rfl, rfl, by decide +kernel, rfl, by decide +kernel, by decide +kernel⟩
theorem ok__law_pick {f : Addr} {fd : FuncData} (F : Fun K "_law_pick" "_law_pick" s__law_pick f fd) (T : Txt mg)
    (D__law_draw : DF P w K mg base "_law_draw" 1 ["state", "size_here"] (spDraw K))  :
    FnOk P w K mg base CX0 2 f fd ["state", "several"] (spPick K) := by
  refine F.ok sc__law_pick (fun vs H Q E h => by obtain ⟨_, _, _, _, _, _, rfl, _⟩ := h; rfl) (fun cdv A outer s H vs Q E hr h => ?_)
  obtain ⟨st, lg, cl, n, a, xs, rfl, ha, hal, h1, h2, h3, hst, k⟩ := h
  refine ⟨_, (pss_one (ps_ret (pe_ix ix_list (pv 1) (pe_D D__law_draw (hr.mono (by decide)) (by rfl) (pa_cons (pv 0) (pa_cons (pe_callB call_len_seq (by rfl) T.b_len PySem.boot_len (pa_cons (pv 1) pa_nil)) pa_nil))) (fun _ _ => rfl)))), ?_⟩
  have hast : a ≠ st := fun z => by
    obtain ⟨_, _, _, _, q, _⟩ := hst
    rw [← z, ha] at q
    cases q
  refine ⟨.ref a, rfl, .ref st, rfl, .ref a, rfl, a, xs, rfl, .inl (sq_of ha), st, lg, cl, n, (xs.length : Int), rfl, by omega, by omega, h3, hst, fun r H' r0 r1 x s => ?_⟩
  obtain ⟨j, rfl⟩ := Int.eq_ofNat_of_zero_le r0
  have hj : j < xs.length := by omega
  refine ⟨a, xs, (j : Int), xs[j], rfl, rfl, sq_of (x _ _ ha (by simp [hast, hal])), atI_nat (List.getElem?_eq_getElem hj), k _ H' (List.getElem_mem hj) x s⟩

abbrev s__law_pairs : Stmt := topS 32
abbrev N__law_pairs : List Str := ["sides_here", "found", "one", "other"]
theorem sc__law_pairs : FnScope N__law_pairs ["sides_here"] (defScope s__law_pairs) := ⟨rfl, rfl, rfl, by decide +kernel, rfl, by decide +kernel, by decide +kernel⟩
theorem ok__law_pairs {f : Addr} {fd : FuncData} (F : Fun K "_law_pairs" "_law_pairs" s__law_pairs f fd) (T : Txt mg)
      :
    FnOk P w K mg base CX0 1 f fd ["sides_here"] (spN K 1 R_law_pairs) := by
  refine F.ok sc__law_pairs (fun vs H Q E h => spN_len h) (fun cdv A outer s H vs Q E hr h => ?_)
  obtain ⟨ds, r, hd, _, ⟨x, rfl, h1, h2, rfl⟩, k⟩ := h
  obtain ⟨v0, rfl, d0⟩ := dpa_one hd
  cases dp_int d0
  refine ⟨_, (pss_cons (ps_set (i := 1) sc__law_pairs.nd rfl (.inl rfl) (pe_lst pa_nil))
      (pss_cons (ps_for PassesOwn.never rfl (pi_range1 (by rfl) T.b_range (pa_cons (pv 0) pa_nil)) (pg_name (i := 2) sc__law_pairs.nd rfl (Or.inr rfl)) (pss_one (ps_set (i := 1) sc__law_pairs.nd rfl (.inl rfl) (pe_op op_cat (pv 1) (pe_lc (own := [("other", 3)]) (g := (gName 3)) (tt := tYes) rfl sc__law_pairs.nd (pi_range2 (by rfl) T.b_range (pa_cons (pe_op op_add (pv 2) pe_int) (pa_cons (pv 0) pa_nil))) (blkOk_by (N := N__law_pairs) (sc := defScope s__law_pairs) (by decide +kernel)) (fun _ _ _ _ _ => (pg_name (i := 3) sc__law_pairs.nd rfl (Or.inl rfl))) (fun _ _ _ _ _ => pts_nil) (fun _ _ _ _ _ => (pe_tup (pa_cons (pv 2) (pa_cons (pv 3) pa_nil)))))))))
      (pss_one (ps_ret (pv 1))))), ?_⟩
  refine qn_asg (K := K) (en_lst eda_nil (by simp)) fun p vs H1 hp e1 h1' hd1 => ?_
  cases hd1
  refine e_for (S := []) (ei_rng1 (K := K) (n := x) (eda_cons (ed_int (ev_var rfl)) eda_nil) ⟨by omega, by omega⟩) (fun H2 i σ' Ha => Ex H2 Ha ∧ ∃ p ws a b, H p = none ∧ Ha p = some (.lst ws) ∧ DpAll K Ha ws ((List.range i).flatMap fun (i : Nat) => (List.range (x - ((i : Int) + 1)).toNat).map fun (j : Nat) => PyData.tuple [.int (i : Int), .int ((i : Int) + 1 + (j : Int))]) ∧ σ' = [some (.int x), some (.ref p), a, b])
    (fun H2 e2 => ⟨Ex.refl _, p, [], none, none, hp, e2 _ _ h1', .nil, rfl⟩) (fun H2 i σ' Ha _ z => Xp.of_ex z.1) ?_ ?_
  · rintro H2 i d y σ' Ha Hb e2 hdi ⟨p1, p, ws, a, b, hp, hpa, dws, rfl⟩ eb hy
    have hi : i < x.toNat := by simpa using (List.getElem?_eq_some_iff.mp hdi).1
    rw [rng_get hi] at hdi
    cases hdi
    cases dp_int hy
    have hpb := eb _ _ hpa
    have dwb := dpa_ex eb _ _ dws
    have small : ∀ i : Nat, ((List.range i).flatMap fun (i : Nat) => (List.range (x - ((i : Int) + 1)).toNat).map fun (j : Nat) => PyData.tuple [.int (i : Int), .int ((i : Int) + 1 + (j : Int))]).length ≤ 4 * i := fun i => by
      induction i with
      | zero => simp
      | succ i ih =>
        rw [List.range_succ, List.flatMap_append, List.length_append, List.flatMap_cons, List.flatMap_nil, List.append_nil, List.length_map, List.length_range]
        omega
    have sm := small i
    show tAsg _ (gName 1) _ [some (.int x), some (.ref p), some (.int (i : Int)), b] Hb
    refine n_asg (K := K) (en_cat (eq_var rfl hpb dwb) (EvN.toQ (en_lc (K := K) (ei_rng2 (S := []) (K := K) (m := (i : Int) + 1) (n := x) (eda_cons (ed_int (ev_op (ev_var rfl) ev_c rv_I0)) (eda_cons (ed_int (ev_var rfl)) eda_nil)) ⟨⟨by omega, by omega⟩, by omega, by omega⟩) (by rw [List.length_map, List.length_range]; omega)
      (fun j => PyData.tuple [.int (i : Int), .int ((i : Int) + 1 + (j : Int))]) (fun j _ => by simp [imm, immAll]) ?_)) ?_) fun p2 ws2 Hc hp2 ec h2' hd2 => ?_
    · intro H3 j d y Hd Q e3 hdj ed hy kk
      have hj : j < (x - ((i : Int) + 1)).toNat := by simpa using (List.getElem?_eq_some_iff.mp hdj).1
      rw [rng_get hj] at hdj
      cases hdj
      cases dp_int hy
      exact kk _ Hd (Ex.refl _) rfl (ed_tup (eda_cons (ed_int (ev_var rfl)) (eda_cons (ed_int (ev_var rfl)) eda_nil)) (by simp))
    · simp only [List.length_map, List.length_range]
      omega
    · refine ⟨(p1.trans eb).trans ec, p2, ws2, _, _, fresh_back (((e1.trans e2).trans p1).trans eb) hp2, h2', ?_, rfl⟩
      rw [List.range_succ, List.flatMap_append, List.flatMap_cons, List.flatMap_nil, List.append_nil]
      simpa using hd2
  · rintro H2 σ' Ha e2 ⟨p1, p, ws, a, b, hp, hpa, dws, rfl⟩
    refine ⟨.ref p, rfl, k p ws Ha hp ((e1.trans e2).trans p1) hpa ?_⟩
    rw [List.length_map, List.length_range] at dws
    exact dws

end
end K16
set_option Elab.async false
set_option linter.all false
set_option maxRecDepth 100000
set_option maxHeartbeats 4000000
namespace K16
open PySem PySem.Spec PyProof.Rows L2 Evl DL
local macro_rules | `(tactic| walk_at "dl") => `(tactic| first
  | exact ev_c | exact ev_var rfl | exact eda_nil
  | exact ed_var rfl (by assumption)
  | exact ed_int ev_c | exact ed_int (ev_var rfl)
  | (refine eda_cons ?_ ?_ <;> walk_at "dl")
  | (refine ed_int ?_; walk_at "dl")
  | (refine ev_op ?_ ?_ rv_I0 <;> walk_at "dl"))

section
variable {P : Program} {w : World} {K : PySem.W.Frag} {mg : Str → Option Value} {base : Heap}

def spDrawn (K : PySem.W.Frag) : Sp := fun vs H Q _ => ∃ (st lg cl : Addr) (n : Nat) (s : Int), vs = [.ref st, .int s] ∧ 2 ≤ s ∧ s ≤ 4 ∧ n ≤ 9000 ∧ StK st lg cl n H ∧
  ∀ l v H', Ld s l → Xp [st, lg] H H' → StK st lg cl (n + 13) H' → Dp K H' v (tI l) → Q v H'
def spBegun (K : PySem.W.Frag) : Sp := fun vs H Q _ => ∃ (a : Addr) (ns : List Int), vs = [.ref a] ∧ SqL K H a (ns.map V.int) ∧ ns.length ≤ 63 ∧
  ∀ st lg cl H', H st = none → H lg = none → Ex H H' → StK st lg cl 0 H' → Q (.ref st) H'
theorem stk_ne {st lg cl D : Addr} {n : Nat} {H : Hp} (h : StK st lg cl n H) (hD : H D = none) : D ≠ st ∧ D ≠ lg ∧ D ≠ cl := by
  obtain ⟨l, t, xs, cs, h1, h2, h3, _⟩ := h
  refine ⟨fun z => ?_, fun z => ?_, fun z => ?_⟩
  · rw [z, h1] at hD; cases hD
  · rw [z, h2] at hD; cases hD
  · rw [z, h3] at hD; cases hD
theorem stk_upd {st lg cl D : Addr} {n : Nat} {H : Hp} {u : HO} (h : StK st lg cl n H) (hD : D ≠ st ∧ D ≠ lg ∧ D ≠ cl) : StK st lg cl n (L2.upd H D u) := by
  obtain ⟨l, t, xs, cs, h1, h2, h3, h4⟩ := h
  exact ⟨l, t, xs, cs, by rw [upd_ne (Ne.symm hD.1)]; exact h1, by rw [upd_ne (Ne.symm hD.2.1)]; exact h2, by rw [upd_ne (Ne.symm hD.2.2)]; exact h3, h4⟩

theorem merge_dk {lg cl : Addr} : mergeK [] (dk lg cl 0 0) = dk lg cl 0 0 := by
  obtain ⟨a, b, c, d, e, f⟩ := k_ne
  simp [mergeK, putK, dk, a, b, c, d, e, f]
theorem ev_absI {K : PySem.W.Frag} {σ : L2.St} {H : Hp} {ta : TE} {i : Int} (h : Ev ta σ H (.int i)) : Ev (tCB (fun xs H Q => ∃ i, xs = [.int i] ∧ Q (.int (if i < 0 then -i else i)) H) (tCons ta tNil)) σ H (.int (if i < 0 then -i else i)) := fun H1 e Q q =>
  h H1 e _ fun H2 e2 => ⟨i, rfl, q H2 e2⟩
theorem given_ints (n : Nat) (f : Nat → Bool) (g : Nat → Int) : given n f (fun i => V.int (g i)) = (((List.range n).filter f).map g).map V.int := by
  rw [given, List.map_map]
  rfl
abbrev s__law_begun : Stmt := topS 28
abbrev N__law_begun : List Str := ["script", "cells_here", "large", "cell"]
theorem sc__law_begun : FnScope N__law_begun ["script"] (defScope s__law_begun) := ⟨rfl, rfl, rfl, by decide +kernel, rfl, by decide +kernel, by decide +kernel⟩
theorem ok__law_begun {f : Addr} {fd : FuncData} (F : Fun K "_law_begun" "_law_begun" s__law_begun f fd) (T : Txt mg)
      :
    FnOk P w K mg base CX0 1 f fd ["script"] (spBegun K) := by
  refine F.ok sc__law_begun (fun vs H Q E h => by obtain ⟨_, _, rfl, _⟩ := h; rfl) (fun cdv A outer s H vs Q E hr h => ?_)
  obtain ⟨a, ns, rfl, hs, hl, k⟩ := h
  refine ⟨_, (pss_cons (ps_setLc (i := 1) (own := [("cell", 3)]) (g := (gName 3)) (tt := tYes) rfl sc__law_begun.nd rfl rfl (sw_true rfl rfl rfl (by decide +kernel)) (pi_list (pv 0)) (blkOk_by (N := N__law_begun) (sc := defScope s__law_begun) (by decide +kernel)) (fun _ _ _ _ _ => (pg_name (i := 3) sc__law_begun.nd rfl (Or.inl rfl))) (fun _ _ _ _ _ => pts_nil) (fun _ _ _ _ _ => (pe_callB call_abs (by rfl) T.b_abs (by decide +kernel) (pa_cons (pv 3) pa_nil))))
      (pss_cons (ps_setLc (i := 2) (own := [("cell", 3)]) (g := (gName 3)) (tt := _) rfl sc__law_begun.nd rfl rfl (sw_true rfl rfl rfl (by decide +kernel)) (pi_list (pv 1)) (blkOk_by (N := N__law_begun) (sc := defScope s__law_begun) (by decide +kernel)) (fun _ _ _ _ _ => (pg_name (i := 3) sc__law_begun.nd rfl (Or.inl rfl))) (fun _ _ _ _ _ => (pts_one (pt_cmpR op_ge (pv 3) (pe_op op_pow pe_int pe_int) (nomark _)))) (fun _ _ _ _ _ => (pe_op op_sub (pv 3) (pe_op op_pow pe_int pe_int))))
      (pss_one (ps_ret (pe_disp (pps_cons pe_str (pv 2) (pps_cons pe_str (pv 1) (pps_cons pe_str pe_int (pps_cons pe_str pe_int pps_nil)))) (by rfl) (by rfl) (fun z => by cases z) (by decide)))))), ?_⟩
  have c2 : ∀ (i : Nat) (x : V), (ns.map V.int)[i]? = some x → x = .int (ns.getD i 0) := fun i x h => by
    rw [List.getElem?_map] at h
    cases g : ns[i]? with
    | none => rw [g] at h; simp at h
    | some z => rw [g] at h; simp at h; rw [← h, List.getD_eq_getElem?_getD, g]; rfl
  refine q_asgL (xs := given (ns.map V.int).length (fun _ => true) fun i => V.int (if ns.getD i 0 < 0 then -(ns.getD i 0) else ns.getD i 0)) (el_lcL (K := K) (a := a) (xs := ns.map V.int) _ _ (ev_var rfl) hs (by rw [List.length_map]; omega) (fun x => rfl) (fun i x H1 e1 hx H2 e2 Q q => q H2 (Ex.refl _)) fun i x H1 e1 hx _ => ?_) fun cl H1 hcl e1 h1 => ?_
  · rw [c2 i x hx]
    exact ev_absI (K := K) (ev_var rfl)
  rw [given_ints] at h1
  generalize hcs : ((List.range (ns.map V.int).length).filter fun _ => true).map (fun i => if ns.getD i 0 < 0 then -(ns.getD i 0) else ns.getD i 0) = cs at h1
  have lcs : cs.length ≤ 63 := by
    rw [← hcs, List.length_map]
    refine Nat.le_trans (List.length_filter_le _ _) ?_
    rw [List.length_range, List.length_map]
    exact hl
  have c3 : ∀ (i : Nat) (x : V), (cs.map V.int)[i]? = some x → x = .int (cs.getD i 0) := fun i x h => by
    rw [List.getElem?_map] at h
    cases g : cs[i]? with
    | none => rw [g] at h; simp at h
    | some z => rw [g] at h; simp at h; rw [← h, List.getD_eq_getElem?_getD, g]; rfl
  refine q_asgL (xs := given (cs.map V.int).length (fun i => decide ((10 : Int) ^ (18 : Int).toNat ≤ cs.getD i 0)) fun i => V.int (cs.getD i 0 - (10 : Int) ^ (18 : Int).toNat)) (el_lcL (K := K) (a := cl) (xs := cs.map V.int) _ _ (ev_var rfl) (sq_of h1) (by rw [List.length_map]; omega) (fun x => rfl) (fun i x H2 e2 hx => ?_) fun i x H2 e2 hx _ => ?_) fun lg H2 hlg e2 h2 => ?_
  · rw [c3 i x hx]
    exact et_test (ev_op (ev_var rfl) (ev_op ev_c ev_c (rv_I ⟨by decide, by decide, by decide⟩)) rv_I0)
  · rw [c3 i x hx]
    exact ev_op (ev_var rfl) (ev_op ev_c ev_c (rv_I ⟨by decide, by decide, by decide⟩)) rv_I0
  rw [given_ints] at h2
  generalize hxs : ((List.range (cs.map V.int).length).filter fun i => decide ((10 : Int) ^ (18 : Int).toNat ≤ cs.getD i 0)).map (fun i => cs.getD i 0 - (10 : Int) ^ (18 : Int).toNat) = xs at h2
  show tRet (tDisp _) _ [some (.ref a), some (.ref cl), some (.ref lg), none] H2
  refine fun st hst => ⟨.ref lg, rfl, .ref cl, rfl, upd_same, dk lg cl 0 0, rfl, by show 4 ≤ 15; decide, ?_⟩
  rw [merge_dk]
  have e2' := Ex.new (o := .dK []) hst
  have ncl : cl ≠ lg := fun z => by rw [z] at h1; rw [hlg] at h1; cases h1
  have nst1 : lg ≠ st := fun z => by rw [← z] at hst; rw [hst] at h2; cases h2
  have nst2 : cl ≠ st := fun z => by
    have := e2 _ _ h1
    rw [z, hst] at this
    cases this
  refine k st lg cl _ (fresh_back (e1.trans e2) hst) (fresh_back e1 hlg) (Ex.mut ((e1.trans e2).trans e2') (fresh_back (e1.trans e2) hst)) ⟨0, 0, xs, cs, upd_same, ?_, ?_, ncl, by decide, by decide⟩
  · rw [upd_ne nst1, upd_ne nst1]
    exact h2
  · rw [upd_ne nst2, upd_ne nst2]
    exact e2 _ _ h1

end
end K16
set_option Elab.async false
set_option linter.all false
set_option maxRecDepth 100000
set_option maxHeartbeats 4000000
namespace K16
open PySem PySem.Spec PyProof.Rows L2 Evl DL
local macro_rules | `(tactic| walk_at "dl") => `(tactic| first
  | exact ev_c | exact ev_var rfl | exact eda_nil
  | exact ed_var rfl (by assumption)
  | exact ed_int ev_c | exact ed_int (ev_var rfl)
  | (refine eda_cons ?_ ?_ <;> walk_at "dl")
  | (refine ed_int ?_; walk_at "dl")
  | (refine ev_op ?_ ?_ rv_I0 <;> walk_at "dl"))


section
variable {P : Program} {w : World} {K : PySem.W.Frag} {mg : Str → Option Value} {base : Heap}
/-- tuples of whole numbers that are known at their places -/
def TpA (H : Hp) : List V → List (List Int) → Prop := Paired fun v l => ∃ b, v = .ref b ∧ H b = some (.tup (l.map V.int))
theorem tpa_ex {H H' : Hp} (e : Ex H H') {vs : List V} {ls : List (List Int)} (h : TpA H vs ls) : TpA H' vs ls := Paired.mapP h fun _ _ z => by
  obtain ⟨b, hb, hl⟩ := z
  exact ⟨b, hb, e _ _ hl⟩
theorem tup_lst {H : Hp} {p : Addr} {xs : List V} {u : HO} {v : V} {l : List Int} (h : H p = some (.lst xs)) (hv : ∃ b, v = .ref b ∧ H b = some (.tup (l.map V.int))) : ∃ b, v = .ref b ∧ L2.upd H p u b = some (.tup (l.map V.int)) := by
  obtain ⟨b, rfl, hb⟩ := hv
  refine ⟨b, rfl, ?_⟩
  rw [upd_ne (fun z => by rw [z, h] at hb; cases hb)]
  exact hb
theorem tpa_lst {H : Hp} {p : Addr} {xs : List V} {u : HO} (h : H p = some (.lst xs)) {vs : List V} {ls : List (List Int)} (hv : TpA H vs ls) : TpA (L2.upd H p u) vs ls := Paired.mapP hv fun _ _ z => tup_lst h z
theorem tpa_snoc {H : Hp} {vs : List V} {ls : List (List Int)} {v : V} {l : List Int} (h : TpA H vs ls) (hv : ∃ b, v = .ref b ∧ H b = some (.tup (l.map V.int))) : TpA H (vs ++ [v]) (ls ++ [l]) := Paired.snoc h hv
theorem tpa_dpa {H : Hp} {vs : List V} {ls : List (List Int)} (h : TpA H vs ls) : DpAll K H vs (ls.map tI) := by
  unfold TpA at h
  induction h with
  | nil => exact .nil
  | cons a t ih =>
    obtain ⟨b, rfl, hb⟩ := a
    exact .cons (tI_dp (st_of hb)) ih
theorem t_app {σ : L2.St} {H : Hp} {D : Ends} {ta : TE} {tt : TA} {l : Addr} {xs : List V} {t : List Int} (hl : H l = some (.lst xs)) (ha : Ev ta σ H (.ref l)) (h : EvDA K tt σ H (dI t)) (ht : t.length ≤ 100000) (hz : xs.length < 100000)
    (q : ∀ v H1, Ex H H1 → (∃ b, v = .ref b ∧ H1 b = some (.tup (t.map V.int))) → D.nx σ (L2.upd H1 l (.lst (xs ++ [v])))) : tDrop (tBM K "list" rAppend ta (tCons (tTup tt) tNil)) D σ H := ha H (Ex.refl H) _ fun H1 e1 =>
  ⟨Or.inl ⟨rfl, xs, sq_of (e1 l _ hl)⟩, h H1 e1 _ fun vs H2 e2 hd => by
    obtain rfl := dpa_ints hd
    refine ⟨sz_of (by rw [List.length_map]; exact ht), fun p hp => ⟨l, xs, .ref p, rfl, rfl, (e2.trans (Ex.new hp)) l _ (e1 l _ hl), sz_lt hz, q _ _ ((e1.trans e2).trans (Ex.new hp)) ⟨p, rfl, upd_same⟩⟩⟩⟩
def spTri (K : PySem.W.Frag) : Sp := fun vs H Q _ => ∃ x : Int, vs = [.int x] ∧ 2 ≤ x ∧ x ≤ 4 ∧ ∀ p ws H', H p = none → Ex H H' → H' p = some (.lst ws) → TpA H' ws (tri x) → Q (.ref p) H'
def TrT (x : Int) (p : Addr) (H0 : Hp) (l : List (List Int)) (σ : L2.St) (Ha : Hp) : Prop :=
  Xp [p] H0 Ha ∧ (∃ ws, Ha p = some (.lst ws) ∧ TpA Ha ws l) ∧ l.length ≤ 1000 ∧ ∃ a b c, σ = [some (.int x), some (.ref p), a, b, c]
theorem ok_trianglesT {f : Addr} {fd : FuncData} (F : Fun K "triangles" "triangles" s_triangles f fd) (T : Txt mg)
     :
    FnOk P w K mg base CX0 1 f fd ["sides"] (spTri K) := by
  refine F.ok sc_triangles (fun vs H Q E h => by obtain ⟨_, rfl, _⟩ := h; rfl) (fun cdv A outer s H vs Q E hr h => ?_)
  obtain ⟨x, rfl, h1, h2, k⟩ := h
  refine ⟨_, (pss_cons (ps_set (i := 1) sc_triangles.nd rfl (.inl rfl) (pe_lst pa_nil))
      (pss_cons (ps_for PassesOwn.never rfl (pi_range1 (by rfl) T.b_range (pa_cons (pv 0) pa_nil)) (pg_name (i := 2) sc_triangles.nd rfl (Or.inl rfl)) (pss_one (ps_for PassesOwn.never rfl (pi_range2 (by rfl) T.b_range (pa_cons (pe_op op_add (pv 2) pe_int) (pa_cons (pv 0) pa_nil))) (pg_name (i := 3) sc_triangles.nd rfl (Or.inl rfl)) (pss_one (ps_for PassesOwn.never rfl (pi_range2 (by rfl) T.b_range (pa_cons (pe_op op_add (pv 3) pe_int) (pa_cons (pv 0) pa_nil))) (pg_name (i := 4) sc_triangles.nd rfl (Or.inl rfl)) (pss_one (ps_expr (pe_bm PySem.F.plainAttrs_list PySem.F.slot_list_append PySem.F.type_list_append mt_append (pv 1) (pa_cons (pe_tup (pa_cons (pv 2) (pa_cons (pv 3) (pa_cons (pv 4) pa_nil)))) pa_nil)))))))))
      (pss_one (ps_ret (pv 1))))), ?_⟩
  refine qn_asg (K := K) (en_lst eda_nil (by simp)) fun p vs H1 hp e1 h1' hd1 => ?_
  cases hd1
  have sm3 : ∀ i j : Nat, (tr3 x i j).length ≤ 4 := fun i j => by rw [tr3, List.length_map, List.length_range]; omega
  have sm2 : ∀ (i n : Nat), ((List.range n).flatMap fun j => tr3 x i j).length ≤ 4 * n := fun i n => by
    induction n with
    | zero => simp
    | succ n ih => rw [flat_succ, List.length_append]; have := sm3 i n; omega
  have sm1 : ∀ n : Nat, ((List.range n).flatMap fun i => tr2 x i).length ≤ 16 * n := fun n => by
    induction n with
    | zero => simp
    | succ n ih =>
      rw [flat_succ, List.length_append]
      have := sm2 n (x - ((n : Int) + 1)).toNat
      unfold tr2
      unfold tr2 at ih
      omega
  refine e_for (K := K) (S := [p]) (ei_rng1 (n := x) (by walk_at "dl") (by omega)) (fun H2 i σ' Ha => TrT x p H2 ((List.range i).flatMap fun i => tr2 x i) σ' Ha)
    (fun H2 e2 => ⟨Xp.refl _ _, ⟨[], e2 _ _ h1', .nil⟩, by simp, none, none, none, rfl⟩) (fun H2 i σ' Ha _ q => q.1) ?_ ?_
  · rintro H2 i d y σ' Ha Hb e2 hg ⟨p1, ⟨ws, p2, p3⟩, p4, a, b, c, rfl⟩ e3 hd2
    have hlt : i < x.toNat := by have := (List.getElem?_eq_some_iff.mp hg).1; simpa using this
    rw [rng_get hlt] at hg
    cases hg
    cases hd2
    have at1 := e3 _ _ p2
    refine d_for (K := K) (S := [p]) (ei_rng2 (m := (i : Int) + 1) (n := x) (eda_cons (ed_int (ev_op (ev_var rfl) ev_c rv_I0)) (eda_cons (ed_int (ev_var rfl)) eda_nil)) (by omega))
      (fun H3 j σ' Ha => Xp [p] H2 H3 ∧ TrT x p H3 (((List.range i).flatMap fun i => tr2 x i) ++ (List.range j).flatMap fun j => tr3 x i j) σ' Ha ∧ σ'[2]? = some (some (.int (i : Int))))
      (fun H3 e4 => ⟨(p1.then e3).then e4, ⟨Xp.refl _ _, ⟨ws, e4 _ _ at1, by simpa using tpa_ex (e3.trans e4) p3⟩, by simpa using p4, _, _, _, rfl⟩, rfl⟩) (fun H3 j σ' Ha _ q => q.2.1.1) ?_ ?_
    · rintro H3 j d y σ' Ha Hb e4 hg ⟨q0, ⟨q1, ⟨wt, q2, q3⟩, q4, a, b, c, rfl⟩, q5⟩ e5 hd3
      have hlt2 : j < (x - ((i : Int) + 1)).toNat := by have := (List.getElem?_eq_some_iff.mp hg).1; simpa using this
      rw [rng_get hlt2] at hg
      cases hg
      cases hd3
      have ea : a = some (.int (i : Int)) := by simpa using q5
      subst ea
      have at2 := e5 _ _ q2
      refine d_for (K := K) (S := [p]) (ei_rng2 (m := (i : Int) + 1 + (j : Int) + 1) (n := x) (eda_cons (ed_int (ev_op (ev_var rfl) ev_c rv_I0)) (eda_cons (ed_int (ev_var rfl)) eda_nil)) (by omega))
        (fun H4 k σ' Ha => Xp [p] H3 H4 ∧ TrT x p H4 ((((List.range i).flatMap fun i => tr2 x i) ++ (List.range j).flatMap fun j => tr3 x i j) ++ (List.range k).map fun (k : Nat) => [(i : Int), (i : Int) + 1 + (j : Int), (i : Int) + 1 + (j : Int) + 1 + (k : Int)]) σ' Ha ∧ σ'[2]? = some (some (.int (i : Int))) ∧ σ'[3]? = some (some (.int ((i : Int) + 1 + (j : Int)))))
        (fun H4 e6 => ⟨(q1.then e5).then e6, ⟨Xp.refl _ _, ⟨wt, e6 _ _ at2, by simpa using tpa_ex (e5.trans e6) q3⟩, by simpa using q4, _, _, _, rfl⟩, rfl, rfl⟩) (fun H4 k σ' Ha _ q => q.2.1.1) ?_ ?_
      · rintro H4 k d y σ' Ha Hb e6 hg ⟨r0, ⟨r1, ⟨wu, r2, r3⟩, r4, a, b, c, rfl⟩, r5, r6⟩ e7 hd4
        have hlt3 : k < (x - ((i : Int) + 1 + (j : Int) + 1)).toNat := by have := (List.getElem?_eq_some_iff.mp hg).1; simpa using this
        rw [rng_get hlt3] at hg
        cases hg
        cases hd4
        have ea : a = some (.int (i : Int)) := by simpa using r5
        have eb : b = some (.int ((i : Int) + 1 + (j : Int))) := by simpa using r6
        subst ea eb
        have at3 := e7 _ _ r2
        have l3 := Paired.length r3
        refine t_app (K := K) (l := p) (t := [(i : Int), (i : Int) + 1 + (j : Int), (i : Int) + 1 + (j : Int) + 1 + (k : Int)]) at3 (ev_var rfl) (eda_cons (ed_int (ev_var rfl)) (eda_cons (ed_int (ev_var rfl)) (eda_cons (ed_int (ev_var rfl)) eda_nil))) (by simp) (by omega) fun v H5 e8 hv => ?_
        have at4 := e8 _ _ at3
        refine ⟨r0, ⟨Xp.upd ((r1.then e7).then e8) (by simp), ⟨_, upd_same, ?_⟩, ?_, _, _, _, rfl⟩, rfl, rfl⟩
        · rw [List.range_succ, List.map_append, ← List.append_assoc]
          exact tpa_snoc (tpa_lst at4 (tpa_ex (e7.trans e8) r3)) (tup_lst at4 hv)
        · have b1 := sm1 i
          have b2 := sm2 i j
          rw [List.length_append, List.length_append, List.length_map, List.length_range]
          omega
      · rintro H4 σ' Ha e6 ⟨r0, ⟨r1, ⟨wu, r2, r3⟩, r4, r5⟩, r6, r7⟩
        rw [List.length_map, List.length_range] at r3 r4
        refine ⟨q0, ⟨q1.then e5 |>.then e6 |>.trans r1, ⟨wu, r2, ?_⟩, ?_, r5⟩, r6⟩
        · rw [flat_succ, ← List.append_assoc]
          exact r3
        · rw [flat_succ, ← List.append_assoc]
          exact r4
    · rintro H3 σ' Ha e4 ⟨q0, ⟨q1, ⟨wt, q2, q3⟩, q4, q5⟩, q6⟩
      rw [List.length_map, List.length_range] at q3 q4
      refine ⟨q0.trans q1, ⟨wt, q2, ?_⟩, ?_, q5⟩
      · rw [flat_succ]
        exact q3
      · rw [flat_succ]
        exact q4
  · rintro H2 σ' Ha e2 ⟨p1, ⟨ws, p2, p3⟩, p4, a, b, c, rfl⟩
    rw [List.length_map, List.length_range] at p3
    exact ⟨.ref p, rfl, k p ws Ha hp (xp_fresh (e1.trans e2) p1 hp) p2 p3⟩

end
end K16
set_option Elab.async false
set_option linter.all false
set_option maxRecDepth 100000
set_option maxHeartbeats 4000000
namespace K16
open PySem PySem.Spec PyProof.Rows L2 Evl DL
local macro_rules | `(tactic| walk_at "dl") => `(tactic| first
  | exact ev_c | exact ev_var rfl | exact eda_nil
  | exact ed_var rfl (by assumption)
  | exact ed_int ev_c | exact ed_int (ev_var rfl)
  | (refine eda_cons ?_ ?_ <;> walk_at "dl")
  | (refine ed_int ?_; walk_at "dl")
  | (refine ev_op ?_ ?_ rv_I0 <;> walk_at "dl"))
section
variable {P : Program} {w : World} {K : PySem.W.Frag} {mg : Str → Option Value} {base : Heap} {CB CL : Addr}
theorem Paired.getP {α β : Type} {F : α → β → Prop} : ∀ {l₁ : List α} {l₂ : List β} {i : Nat} {a : α}, Paired F l₁ l₂ → l₁[i]? = some a → ∃ b, l₂[i]? = some b ∧ F a b
  | _, _, 0, _, .cons h _, e => by
    cases e
    exact ⟨_, rfl, h⟩
  | _, _, i + 1, _, .cons _ t, e => Paired.getP (i := i) t (by simpa using e)
  | _, _, _, _, .nil, e => by simp at e
/-- the sums of the triangles, by triangle -/
def tsd (s : Int) (l : List Int) : KI := (tri s).map fun t => (t, tsum s l t)
theorem tri_nodup {s : Int} (h1 : 2 ≤ s) (h2 : s ≤ 4) : (tri s).Nodup := by
  have hs : s = 2 ∨ s = 3 ∨ s = 4 := by omega
  rcases hs with rfl | rfl | rfl <;> decide
theorem inl_inj : ∀ {a b : List Int}, a.map (Sum.inl : Int → Key) = b.map Sum.inl → a = b
  | [], [], _ => rfl
  | [], _ :: _, h => by simp at h
  | _ :: _, [], h => by simp at h
  | x :: a, y :: b, h => by
    simp only [List.map_cons, List.cons.injEq, Sum.inl.injEq] at h
    rw [h.1, inl_inj h.2]
theorem valV_absent {m : KI} {t : List Int} (h : ∀ p ∈ m, p.1 ≠ t) : valV (kvI m) (t.map Sum.inl) = none := by
  induction m with
  | nil => rfl
  | cons p m ih =>
    show valV ((p.1.map Sum.inl, V.int p.2) :: kvI m) _ = none
    rw [valV_neg (fun z => h p List.mem_cons_self (inl_inj z))]
    exact ih fun q hq => h q (List.mem_cons_of_mem _ hq)
theorem kvI_snoc (m : KI) (t : List Int) (n : Int) (h : ∀ p ∈ m, p.1 ≠ t) : putK (kvI m) (t.map Sum.inl) (.int n) = kvI (m ++ [(t, n)]) := by
  rw [putK_new _ (valV_absent h)]
  simp [kvI]
theorem kvI_len (m : KI) : (kvI m).length = m.length := List.length_map _
def spTS (K : PySem.W.Frag) (CB CL : Addr) : Sp := fun vs H Q E => ∃ ds, DpAll K H vs ds ∧ ds.length = 2 ∧
  ((∃ (x : Int) (l : List Int), ds = [.int x, tI l] ∧ 2 ≤ x ∧ x ≤ 4 ∧ Ld x l ∧ ∀ a H', H a = none → Ex H H' → H' a = some (.dT (kvI (tsd x l))) → Q (.ref a) H') ∨ ∃ C, B_plain CB CL ds C ∧ ∀ H', Ex H H' → E (.ref C) none H')
abbrev s_triangle_sums : Stmt := topS 25
abbrev N_triangle_sums : List Str := ["sides", "load", "three"]
theorem sc_triangle_sums : FnScope N_triangle_sums ["sides", "load"] (defScope s_triangle_sums) := ⟨rfl, rfl, rfl, by decide +kernel, rfl, by decide +kernel, by decide +kernel⟩
theorem ok_triangle_sums {f : Addr} {fd : FuncData} (F : Fun K "triangle_sums" "triangle_sums" s_triangle_sums f fd) (T : Txt mg)
    (D_check_plain_load : DFX P w K mg base "check_plain_load" 4 ["sides", "load"] (spR K 2 R_check_pl (B_plain CB CL))) (D_sum_in_triangle : DF P w K mg base "sum_in_triangle" 2 ["sides", "load", "three"] (spD K 3 R_sum_in_triangle)) (D_triangles : DF P w K mg base "triangles" 1 ["sides"] (spTri K)) :
    FnOk P w K mg base (L2.CX P w) 5 f fd ["sides", "load"] (spTS K CB CL) := by
  refine F.okX sc_triangle_sums (fun vs H Q E h => by obtain ⟨ds, h1, h2, _⟩ := h; rw [dpa_len h1, h2]; rfl) (fun cdv A outer s H vs Q E hr h => ?_)
  obtain ⟨ds, hd, _, h⟩ := h
  refine ⟨_, (pss_cons (ps_expr (pe_DX D_check_plain_load (takes_of rfl rfl rfl rfl) (fun _ _ _ _ h => h) (hr.mono (by decide)) (by rfl) (pa_cons (pv 0) (pa_cons (pv 1) pa_nil))))
    (pss_one (ps_ret (pe_dcT (own := [("three", 2)]) (g := (gName 2)) (tt := tYes) rfl sc_triangle_sums.nd (hu_of hr) (pi_list (pe_D D_triangles (hr.mono (by decide)) (by rfl) (pa_cons (pv 0) pa_nil))) (blkOk_by (N := N_triangle_sums) (sc := defScope s_triangle_sums) (by decide +kernel)) (fun _ _ _ _ _ => (pg_name (i := 2) sc_triangle_sums.nd rfl (Or.inl rfl))) (fun _ _ _ _ _ => pts_nil)
      (fun _ _ _ _ _ => (pv 2)) (fun _ _ _ _ _ => (pe_D D_sum_in_triangle (hr.mono (by decide)) (by rfl) (pa_cons (pv 0) (pa_cons (pv 1) (pa_cons (pv 2) pa_nil))))))))), ?_⟩
  rcases h with ⟨x, l, rfl, h1, h2, hl, k⟩ | ⟨C, hb, k⟩
  · obtain ⟨v0, v1, rfl, d0, d1⟩ := dpa_two hd
    cases dp_int d0
    refine qd_drop (K := K) (d := .none) (ed_callR (R := R_check_pl) (B := B_plain CB CL) (ds := [.int x, tI l]) (by walk_at "dl") rfl ⟨x, l, rfl, h1, h2, hl, rfl⟩) fun H1 e1 => ?_
    have d1 := dp_ex e1 _ _ d1
    show tRet (tDcT _ _ _ _ _ _) _ [some (.int x), some v1, none] H1
    refine ⟨.int x, rfl, ⟨x, rfl, h1, h2, fun p ws H2 hp e2 hw ht => ?_⟩⟩
    refine ⟨p, rfl, ⟨ws, sq_of hw⟩, fun D hD => ?_⟩
    have npD : p ≠ D := fun z => by rw [z, hD] at hw; cases hw
    have lw := Paired.length ht
    have lt4 := tri_len h1 h2
    have d1 := dp_ex e2 _ _ d1
    refine ⟨fun i Ha => i ≤ (tri x).length ∧ Xp [D] H2 Ha ∧ Ha D = some (.dT (kvI ((tsd x l).take i))), (tri x).length, ⟨Nat.zero_le _, Xp.upd (Xp.refl _ _) (by simp), by rw [upd_same]; rfl⟩, ?_⟩
    rintro i Ha ⟨hi, xp, hd⟩
    have hwa := xp _ _ hw (by simp [npD])
    by_cases hlt : i < (tri x).length
    · obtain ⟨y, hy⟩ : ∃ y, ws[i]? = some y := ⟨ws[i]'(by omega), List.getElem?_eq_getElem (by omega)⟩
      refine .inr ⟨hlt, ⟨ws, y, sq_of hwa, hy⟩, ?_⟩
      rintro z Hx ⟨rfl, hz⟩
      have ez := hz ws (sq_of hwa)
      rw [hy] at ez
      cases ez
      obtain ⟨t, htri, b, rfl, hb⟩ := Paired.getP ht hy
      obtain ⟨t1, t2, t3, rfl, q1, q2, q3, q4⟩ := tri_in h1 h2 (List.mem_of_getElem? htri)
      have nbD : b ≠ D := fun z => by rw [z, hD] at hb; cases hb
      have hba := xp _ _ hb (by simp [nbD])
      have d1a : Dp K Hx v1 (tI l) := dp_tx (fun a ys r => by
        rcases r with r | ⟨ob, r⟩
        · exact .inl (xp _ _ r (by intro z; simp at z; rw [z, hD] at r; cases r))
        · exact .inr ⟨ob, xp _ _ r (by intro z; simp at z; rw [z, hD] at r; cases r)⟩) _ _ (imm_tI _) d1
      refine ⟨rfl, ?_⟩
      dsimp only [tYes]
      rw [if_pos rfl]
      refine ⟨.ref b, rfl, ?_⟩
      refine (ed_call (K := K) (R := R_sum_in_triangle) (ds := [.int x, tI l, tI [t1, t2, t3]]) (d := .int (tsum x l [t1, t2, t3])) (eda_cons (ed_int (ev_var rfl)) (eda_cons (ed_var rfl d1a) (eda_cons (ed_var (v := .ref b) rfl (tI_dp (st_of hba))) eda_nil))) rfl ⟨x, l, t1, t2, t3, rfl, h1, by omega, hl.1, q1, q2, q3, q4, rfl⟩) Hx (Ex.refl _) _ fun v Hy ey dv => ?_
      cases dp_int dv
      have at_ : (tsd x l)[i]? = some ([t1, t2, t3], tsum x l [t1, t2, t3]) := by
        rw [tsd, List.getElem?_map, htri]
        rfl
      have lt : (tsd x l).length = (tri x).length := List.length_map _
      refine ⟨kvI ((tsd x l).take i), [t1, t2, t3].map Sum.inl, b, rfl, ?_, ey _ _ hd, ?_, hlt, Xp.upd (xp.then ey) (by simp), ?_⟩
      · rw [List.map_map]
        exact ey _ _ hba
      · rw [kvI_len, List.length_take]
        exact sz_lt (by omega)
      · rw [upd_same, kvI_snoc, List.take_succ, at_]
        · rfl
        · intro pr hpr e
          obtain ⟨j, hj, rfl⟩ := List.getElem_of_mem hpr
          rw [List.length_take] at hj
          have hji : j < i := by omega
          rw [List.getElem_take] at e
          have nd := List.pairwise_iff_getElem.mp (tri_nodup h1 h2) j i (by omega) hlt hji
          apply nd
          have e1 : (tri x)[i] = [t1, t2, t3] := by
            have := List.getElem?_eq_getElem hlt
            rw [htri] at this
            exact (Option.some.inj this).symm
          rw [e1, ← e]
          simp [tsd]
    · have ei : i = (tri x).length := by omega
      subst ei
      refine .inl ⟨⟨ws, sq_of hwa, by omega⟩, ?_⟩
      have : (tsd x l).take (tri x).length = tsd x l := List.take_of_length_le (by rw [tsd, List.length_map]; exact Nat.le_refl _)
      rw [this] at hd
      exact k D Ha (fresh_back (e1.trans e2) hD) (xp_fresh (e1.trans e2) xp (fresh_back (e1.trans e2) hD)) hd
  · obtain ⟨d, e, rfl⟩ : ∃ d e, ds = [d, e] := by
      rcases hb with ⟨d, e, q, _⟩ | ⟨s, d, q, _⟩
      · exact ⟨d, e, q⟩
      · exact ⟨_, d, q⟩
    obtain ⟨v0, v1, rfl, d0, d1⟩ := dpa_two hd
    exact b_drop (eb_callR (K := K) (R := R_check_pl) (B := B_plain CB CL) (ds := [d, e]) (by walk_at "dl") rfl hb) fun H1 e1 => k H1 e1
end
end K16
set_option Elab.async false
set_option linter.all false
set_option maxRecDepth 100000
set_option maxHeartbeats 4000000
namespace K16
open PySem PySem.Spec PyProof.Rows L2 Evl DL
theorem needl2 (a : Int) : need 2 [a] = mxl [0 + a, 0 + a] := rfl
theorem need2 (a : Int) : (0 + a ≤ need 2 [a] ∧ 0 + a ≤ need 2 [a]) ∧ (need 2 [a] = 0 + a ∨ need 2 [a] = 0 + a) := by
  rw [needl2]
  refine ⟨⟨mxl_ge (by simp), mxl_ge (by simp)⟩, ?_⟩
  have h := mxl_mem (l := [0 + a, 0 + a]) (by simp)
  simp only [List.mem_cons, List.not_mem_nil, or_false] at h
  exact h
theorem smsm2 (a : Int) : (0 + a ≤ mxl (sms 2 [a]) ∧ 0 + a ≤ mxl (sms 2 [a])) ∧ (mxl (sms 2 [a]) = 0 + a ∨ mxl (sms 2 [a]) = 0 + a) := by
  have eqn : sms 2 [a] = [0 + a, 0 + a] := rfl
  rw [eqn]
  refine ⟨⟨mxl_ge (by simp), mxl_ge (by simp)⟩, ?_⟩
  have h := mxl_mem (l := [0 + a, 0 + a]) (by simp)
  simp only [List.mem_cons, List.not_mem_nil, or_false] at h
  exact h
theorem fa2 (a : Int) (hn : 0 ≤ a) : mxl (sms 2 [a]) ≤ need 2 [a] ∧ 0 ≤ mxl (sms 2 [a]) ∧ 2 * need 2 [a] ≤ 3 * mxl (sms 2 [a]) := by
  have h1 := need2 a
  have h2 := smsm2 a
  generalize need 2 [a] = A at *
  generalize mxl (sms 2 [a]) = B at *
  refine ⟨?_, ?_, ?_⟩
  · obtain ⟨h1, _⟩ := h1
    obtain ⟨_, h2⟩ := h2
    rcases h2 with h2 | h2 <;> omega
  · omega
  · obtain ⟨_, h1⟩ := h1
    obtain ⟨h2, _⟩ := h2
    rcases h1 with h1 | h1 <;> omega
theorem needl3 (a b c : Int) : need 3 [a, b, c] = mxl [0 + a + b, 0 + a + c, 0 + b + c, a + b + c] := rfl
theorem need3 (a b c : Int) : (0 + a + b ≤ need 3 [a, b, c] ∧ 0 + a + c ≤ need 3 [a, b, c] ∧ 0 + b + c ≤ need 3 [a, b, c] ∧ a + b + c ≤ need 3 [a, b, c]) ∧ (need 3 [a, b, c] = 0 + a + b ∨ need 3 [a, b, c] = 0 + a + c ∨ need 3 [a, b, c] = 0 + b + c ∨ need 3 [a, b, c] = a + b + c) := by
  rw [needl3]
  refine ⟨⟨mxl_ge (by simp), mxl_ge (by simp), mxl_ge (by simp), mxl_ge (by simp)⟩, ?_⟩
  have h := mxl_mem (l := [0 + a + b, 0 + a + c, 0 + b + c, a + b + c]) (by simp)
  simp only [List.mem_cons, List.not_mem_nil, or_false] at h
  exact h
theorem smsm3 (a b c : Int) : (0 + a + b ≤ mxl (sms 3 [a, b, c]) ∧ 0 + a + c ≤ mxl (sms 3 [a, b, c]) ∧ 0 + b + c ≤ mxl (sms 3 [a, b, c])) ∧ (mxl (sms 3 [a, b, c]) = 0 + a + b ∨ mxl (sms 3 [a, b, c]) = 0 + a + c ∨ mxl (sms 3 [a, b, c]) = 0 + b + c) := by
  have eqn : sms 3 [a, b, c] = [0 + a + b, 0 + a + c, 0 + b + c] := rfl
  rw [eqn]
  refine ⟨⟨mxl_ge (by simp), mxl_ge (by simp), mxl_ge (by simp)⟩, ?_⟩
  have h := mxl_mem (l := [0 + a + b, 0 + a + c, 0 + b + c]) (by simp)
  simp only [List.mem_cons, List.not_mem_nil, or_false] at h
  exact h
theorem fa3 (a b c : Int) (hn : 0 ≤ a ∧ 0 ≤ b ∧ 0 ≤ c) : mxl (sms 3 [a, b, c]) ≤ need 3 [a, b, c] ∧ 0 ≤ mxl (sms 3 [a, b, c]) ∧ 2 * need 3 [a, b, c] ≤ 3 * mxl (sms 3 [a, b, c]) := by
  have h1 := need3 a b c
  have h2 := smsm3 a b c
  generalize need 3 [a, b, c] = A at *
  generalize mxl (sms 3 [a, b, c]) = B at *
  refine ⟨?_, ?_, ?_⟩
  · obtain ⟨h1, _⟩ := h1
    obtain ⟨_, h2⟩ := h2
    rcases h2 with h2 | h2 | h2 <;> omega
  · omega
  · obtain ⟨_, h1⟩ := h1
    obtain ⟨h2, _⟩ := h2
    rcases h1 with h1 | h1 | h1 | h1 <;> omega
theorem needl4 (a b c d e f : Int) : need 4 [a, b, c, d, e, f] = mxl [0 + a + b + c, 0 + a + d + e, 0 + b + d + f, 0 + c + e + f, a + b + d, a + c + e, b + c + f, d + e + f] := rfl
theorem need4 (a b c d e f : Int) : (0 + a + b + c ≤ need 4 [a, b, c, d, e, f] ∧ 0 + a + d + e ≤ need 4 [a, b, c, d, e, f] ∧ 0 + b + d + f ≤ need 4 [a, b, c, d, e, f] ∧ 0 + c + e + f ≤ need 4 [a, b, c, d, e, f] ∧ a + b + d ≤ need 4 [a, b, c, d, e, f] ∧ a + c + e ≤ need 4 [a, b, c, d, e, f] ∧ b + c + f ≤ need 4 [a, b, c, d, e, f] ∧ d + e + f ≤ need 4 [a, b, c, d, e, f]) ∧ (need 4 [a, b, c, d, e, f] = 0 + a + b + c ∨ need 4 [a, b, c, d, e, f] = 0 + a + d + e ∨ need 4 [a, b, c, d, e, f] = 0 + b + d + f ∨ need 4 [a, b, c, d, e, f] = 0 + c + e + f ∨ need 4 [a, b, c, d, e, f] = a + b + d ∨ need 4 [a, b, c, d, e, f] = a + c + e ∨ need 4 [a, b, c, d, e, f] = b + c + f ∨ need 4 [a, b, c, d, e, f] = d + e + f) := by
  rw [needl4]
  refine ⟨⟨mxl_ge (by simp), mxl_ge (by simp), mxl_ge (by simp), mxl_ge (by simp), mxl_ge (by simp), mxl_ge (by simp), mxl_ge (by simp), mxl_ge (by simp)⟩, ?_⟩
  have h := mxl_mem (l := [0 + a + b + c, 0 + a + d + e, 0 + b + d + f, 0 + c + e + f, a + b + d, a + c + e, b + c + f, d + e + f]) (by simp)
  simp only [List.mem_cons, List.not_mem_nil, or_false] at h
  exact h
theorem smsm4 (a b c d e f : Int) : (0 + a + b + c ≤ mxl (sms 4 [a, b, c, d, e, f]) ∧ 0 + a + d + e ≤ mxl (sms 4 [a, b, c, d, e, f]) ∧ 0 + b + d + f ≤ mxl (sms 4 [a, b, c, d, e, f]) ∧ 0 + c + e + f ≤ mxl (sms 4 [a, b, c, d, e, f])) ∧ (mxl (sms 4 [a, b, c, d, e, f]) = 0 + a + b + c ∨ mxl (sms 4 [a, b, c, d, e, f]) = 0 + a + d + e ∨ mxl (sms 4 [a, b, c, d, e, f]) = 0 + b + d + f ∨ mxl (sms 4 [a, b, c, d, e, f]) = 0 + c + e + f) := by
  have eqn : sms 4 [a, b, c, d, e, f] = [0 + a + b + c, 0 + a + d + e, 0 + b + d + f, 0 + c + e + f] := rfl
  rw [eqn]
  refine ⟨⟨mxl_ge (by simp), mxl_ge (by simp), mxl_ge (by simp), mxl_ge (by simp)⟩, ?_⟩
  have h := mxl_mem (l := [0 + a + b + c, 0 + a + d + e, 0 + b + d + f, 0 + c + e + f]) (by simp)
  simp only [List.mem_cons, List.not_mem_nil, or_false] at h
  exact h
theorem fa4 (a b c d e f : Int) (hn : 0 ≤ a ∧ 0 ≤ b ∧ 0 ≤ c ∧ 0 ≤ d ∧ 0 ≤ e ∧ 0 ≤ f) : mxl (sms 4 [a, b, c, d, e, f]) ≤ need 4 [a, b, c, d, e, f] ∧ 0 ≤ mxl (sms 4 [a, b, c, d, e, f]) ∧ 2 * need 4 [a, b, c, d, e, f] ≤ 3 * mxl (sms 4 [a, b, c, d, e, f]) := by
  have h1 := need4 a b c d e f
  have h2 := smsm4 a b c d e f
  generalize need 4 [a, b, c, d, e, f] = A at *
  generalize mxl (sms 4 [a, b, c, d, e, f]) = B at *
  refine ⟨?_, ?_, ?_⟩
  · obtain ⟨h1, _⟩ := h1
    obtain ⟨_, h2⟩ := h2
    rcases h2 with h2 | h2 | h2 | h2 <;> omega
  · omega
  · obtain ⟨_, h1⟩ := h1
    obtain ⟨h2, _⟩ := h2
    rcases h1 with h1 | h1 | h1 | h1 | h1 | h1 | h1 | h1 <;> omega
theorem need_half {s : Int} {l : List Int} (h1 : 2 ≤ s) (h2 : s ≤ 4) (hl : Ld s l) : 2 * need s l ≤ 3 * mxl (sms s l) := by
  have hs' : s = 2 ∨ s = 3 ∨ s = 4 := by omega
  rcases hs' with rfl | rfl | rfl
  · obtain ⟨hlen, hb⟩ := hl
    match l, hlen with
    | [a], _ => exact (fa2 a (hb a (by simp)).1).2.2
  · obtain ⟨hlen, hb⟩ := hl
    match l, hlen with
    | [a, b, c], _ => exact (fa3 a b c ⟨(hb a (by simp)).1, (hb b (by simp)).1, (hb c (by simp)).1⟩).2.2
  · obtain ⟨hlen, hb⟩ := hl
    match l, hlen with
    | [a, b, c, d, e, f], _ => exact (fa4 a b c d e f ⟨(hb a (by simp)).1, (hb b (by simp)).1, (hb c (by simp)).1, (hb d (by simp)).1, (hb e (by simp)).1, (hb f (by simp)).1⟩).2.2
theorem lpr_prs (s : Int) : lpr s = (prs s).map pD := by
  unfold lpr prs
  rw [List.map_flatMap]
  simp only [List.map_map]
  rfl
/-- the numbers of the pairs that P lets, summed -/
def fsum (s : Int) (l : List Int) (p : Int × Int → Bool) : Int := (((List.range (np s)).filter fun j => p ((prs s).getD j (0, 0))).map fun j => l.getD j 0).sum
theorem prs2 : prs 2 = [(0, 1)] := by decide
theorem prs3 : prs 3 = [(0, 1), (0, 2), (1, 2)] := by decide
theorem prs4 : prs 4 = [(0, 1), (0, 2), (0, 3), (1, 2), (1, 3), (2, 3)] := by decide
theorem rng1 : List.range 1 = [0] := rfl
theorem rng3 : List.range 3 = [0, 1, 2] := rfl
theorem rng6 : List.range 6 = [0, 1, 2, 3, 4, 5] := rfl
theorem npn : np 2 = 1 ∧ np 3 = 3 ∧ np 4 = 6 := by decide
theorem fsum_side {s : Int} {l : List Int} {i : Nat} (h1 : 2 ≤ s) (h2 : s ≤ 4) (hl : l.length = np s) (hi : i < s.toNat) : fsum s l (fun q => decide ((i : Int) ∈ [q.1, q.2])) = (sms s l).getD i 0 := by
  have hs' : s = 2 ∨ s = 3 ∨ s = 4 := by omega
  rcases hs' with rfl | rfl | rfl
  · match l, hl with
    | [a], _ =>
      have hi' : i = 0 ∨ i = 1 := by simp at hi; omega
      rcases hi' with rfl | rfl <;> (unfold fsum; rw [npn.1, prs2, rng1]; simp [sms, prs2, stp])
  · match l, hl with
    | [a, b, c], _ =>
      have hi' : i = 0 ∨ i = 1 ∨ i = 2 := by simp at hi; omega
      rcases hi' with rfl | rfl | rfl <;> (unfold fsum; rw [npn.2.1, prs3, rng3]; simp [sms, prs3, stp])
  · match l, hl with
    | [a, b, c, d, e, f], _ =>
      have hi' : i = 0 ∨ i = 1 ∨ i = 2 ∨ i = 3 := by simp at hi; omega
      rcases hi' with rfl | rfl | rfl | rfl <;> (unfold fsum; rw [npn.2.2, prs4, rng6]; simp [sms, prs4, stp]; try omega)
theorem fsum_tri {s : Int} {l : List Int} {t : List Int} (h1 : 2 ≤ s) (h2 : s ≤ 4) (hl : l.length = np s) (ht : t ∈ tri s) : fsum s l (fun q => decide (q.1 ∈ t) && decide (q.2 ∈ t)) = tsum s l t := by
  have hs' : s = 2 ∨ s = 3 ∨ s = 4 := by omega
  have t2 : tri 2 = [] := by decide
  have t3 : tri 3 = [[0, 1, 2]] := by decide
  have t4 : tri 4 = [[0, 1, 2], [0, 1, 3], [0, 2, 3], [1, 2, 3]] := by decide
  rcases hs' with rfl | rfl | rfl
  · rw [t2] at ht
    simp at ht
  · match l, hl with
    | [a, b, c], _ =>
      rw [t3] at ht
      have ht : t = [0, 1, 2] := by simpa using ht
      subst ht
      unfold fsum
      rw [npn.2.1, prs3, rng3]
      simp [tsum, at2, plc]
      try omega
  · match l, hl with
    | [a, b, c, d, e, f], _ =>
      rw [t4] at ht
      have ht : t = [0, 1, 2] ∨ t = [0, 1, 3] ∨ t = [0, 2, 3] ∨ t = [1, 2, 3] := by simpa using ht
      rcases ht with rfl | rfl | rfl | rfl <;> (unfold fsum; rw [npn.2.2, prs4, rng6]; simp [tsum, at2, plc]; try omega)
end K16
set_option Elab.async false
set_option linter.all false
set_option maxRecDepth 100000
set_option maxHeartbeats 4000000
namespace K16
open PySem PySem.Spec PyProof.Rows L2 Evl DL
open LamX
local macro_rules | `(tactic| walk_at "dl") => `(tactic| first
  | exact ev_c | exact ev_var rfl | exact eda_nil
  | exact ed_var rfl (by assumption)
  | exact ed_int ev_c | exact ed_int (ev_var rfl)
  | (refine eda_cons ?_ ?_ <;> walk_at "dl")
  | (refine ed_int ?_; walk_at "dl")
  | (refine ev_op ?_ ?_ rv_I0 <;> walk_at "dl"))
section
variable {K : PySem.W.Frag} {H : Hp} {tz : TS} {D : Ends} {c0 c1 c2 c3 c4 c5 c6 c7 c8 c9 c10 c11 c12 c13 c14 c15 c16 c17 c18 c19 c20 : Option V} {st lg cl : Addr}
theorem r_for {σ : L2.St} {ta : TA} {g : TG} {tu : TS} {n : Int} (h : EvDA K ta σ H [.int n]) (hn : -(2 ^ 62) ≤ n ∧ n < 2 ^ 62) (Pv : Nat → L2.St → Hp → Prop) (h0 : ∀ H2, Ex H H2 → Pv 0 σ H2)
    (hs : ∀ (i : Nat) σ' Ha, (i : Int) < n → Pv i σ' Ha → g (.int (i : Int)) σ' Ha fun σ2 H3 => tu { D with nx := Pv (i + 1), ct := Pv (i + 1), bk := tz D } σ2 H3) (hd : ∀ σ' Ha, Pv n.toNat σ' Ha → tz D σ' Ha) : tSeq (tFor (iRng1 ta) g tu) tz D σ H :=
  h H (Ex.refl _) _ fun vs H2 e2 hv => by
    cases hv with
    | cons a b =>
      cases b
      cases a
      refine ⟨n, rfl, hn.1, hn.2, ?_⟩
      refine for_it (D := { D with nx := tz D }) walk_range Pv (h0 H2 e2) (fun _ _ _ _ _ => trivial) (fun i x σ' Ha Hb hi p y => ?_) fun σ' Ha p => hd σ' Ha p
      obtain ⟨rfl, rfl⟩ := y
      have e0 : (V.int (0 + (i : Int))) = .int (i : Int) := by rw [Int.zero_add]
      dsimp only
      rw [e0]
      exact hs i σ' Hb (by omega) p
theorem tx_of {S : List Addr} {H H' : Hp} (x : Xp S H H') (h : ∀ p ∈ S, (∃ l, H p = some (.lst l)) ∨ (∃ l, H p = some (.dK l)) ∨ (∃ l, H p = some (.dT l)) ∨ H p = none) : Tx H H' := by
  intro a ys r
  have nin : ∀ o, H a = some o → (∀ l, o ≠ .lst l) → (∀ l, o ≠ .dK l) → (∀ l, o ≠ .dT l) → a ∉ S := fun o ho n1 n2 n3 hm => by
    rcases h a hm with ⟨l, q⟩ | ⟨l, q⟩ | ⟨l, q⟩ | q
    · rw [q] at ho; exact n1 _ (Option.some.inj ho).symm
    · rw [q] at ho; exact n2 _ (Option.some.inj ho).symm
    · rw [q] at ho; exact n3 _ (Option.some.inj ho).symm
    · rw [q] at ho; cases ho
  rcases r with r | ⟨ob, r⟩
  · exact .inl (x _ _ r (nin _ r (fun _ z => nomatch z) (fun _ z => nomatch z) fun _ z => nomatch z))
  · exact .inr ⟨ob, x _ _ r (nin _ r (fun _ z => nomatch z) (fun _ z => nomatch z) fun _ z => nomatch z)⟩
theorem tabs_xp {T : List (Addr × Str)} {S : List Addr} {H H' : Hp} (t : Tabs T H) (x : Xp S H H') (h : ∀ p ∈ S, (∃ l, H p = some (.lst l)) ∨ (∃ l, H p = some (.dK l)) ∨ (∃ l, H p = some (.dT l)) ∨ H p = none) : Tabs T H' := fun p hp => by
  obtain ⟨ps, h1, h2, h3⟩ := t p hp
  have nin : ∀ a o, H a = some o → (∀ l, o ≠ .lst l) → (∀ l, o ≠ .dK l) → (∀ l, o ≠ .dT l) → a ∉ S := fun a o ho n1 n2 n3 hm => by
    rcases h a hm with ⟨l, q⟩ | ⟨l, q⟩ | ⟨l, q⟩ | q
    · rw [q] at ho; exact n1 _ (Option.some.inj ho).symm
    · rw [q] at ho; exact n2 _ (Option.some.inj ho).symm
    · rw [q] at ho; exact n3 _ (Option.some.inj ho).symm
    · rw [q] at ho; cases ho
  refine ⟨ps, x _ _ h1 (nin _ _ h1 (fun _ z => nomatch z) (fun _ z => nomatch z) fun _ z => nomatch z), h2, fun pos cv hc => ?_⟩
  obtain ⟨c, e1, e2⟩ := h3 pos cv hc
  exact ⟨c, e1, x _ _ e2 (nin _ _ e2 (fun _ z => nomatch z) (fun _ z => nomatch z) fun _ z => nomatch z)⟩
theorem stk_in {n : Nat} (h : StK st lg cl n H) : ∀ p ∈ [st, lg], (∃ l, H p = some (.lst l)) ∨ (∃ l, H p = some (.dK l)) ∨ (∃ l, H p = some (.dT l)) ∨ H p = none := by
  obtain ⟨l, t, xs, cs, h1, h2, _⟩ := h
  intro p hp
  rcases (by simpa using hp : p = st ∨ p = lg) with rfl | rfl
  · exact .inr (.inl ⟨_, h1⟩)
  · exact .inl ⟨_, h2⟩
theorem q_load {n : Nat} {s : Int} {p : Addr} {vs : List V} (hp : H p = some (.lst vs)) (hv : vs.length = np s) (h6 : np s ≤ 6) (hn : n ≤ 9000) (hst : StK st lg cl n H) (npl : p ≠ lg)
    (q : ∀ l v H', Ld s l → Xp [st, lg] H H' → StK st lg cl (n + 18) H' → Dp K H' v (tI l) → tz D [c0, some (.ref st), c2, some (.ref p), some v, c5, c6, c7, c8, c9, c10, c11, c12, c13, c14, c15, c16, c17, c18, c19, c20] H') :
    tSeq (tAsg (tCB (fun xs H Q => ∃ p ys, xs = [.ref p] ∧ ((SqL K H p ys ∧ ∀ l, H l = none → Q (.ref l) (L2.upd H l (.tup ys))) ∨ (SqT K H p ys ∧ Q (.ref p) H))) (tCons (tLc (iList K (tVar 3)) (gName 19) tYes (tCall (spPick K) [] E0 (tCons (tVar 1) (tCons (tLst (tCons (tC (.int 0)) (tCons (tC (.int 1)) (tCons (tC (.int 99)) (tCons (tCall (spDraw K) [] E0 (tCons (tVar 1) (tCons (tC (.int 100)) tNil))) (tCons (tCall (spDraw K) [] E0 (tCons (tVar 1) (tCons (tC (.int 6)) tNil))) tNil)))))) tNil))) [19]) tNil)) (gName 4)) tz D [c0, some (.ref st), c2, some (.ref p), c4, c5, c6, c7, c8, c9, c10, c11, c12, c13, c14, c15, c16, c17, c18, c19, c20] H := by
  have nps : p ≠ st := fun z => by
    obtain ⟨_, _, _, _, k1, _⟩ := hst
    rw [z, k1] at hp
    cases hp
  refine ⟨.ref p, rfl, p, rfl, ⟨vs, sq_of hp⟩, fun Dl hD => ?_⟩
  have neD := stk_ne hst hD
  have npD : p ≠ Dl := fun z => by rw [z, hD] at hp; cases hp
  refine lc_it (walk_list (K := K) (xs := vs)) (fun i Ha => Xp [st, lg, Dl] H Ha ∧ ∃ ns : List Int, Ha Dl = some (.lst (ns.map V.int)) ∧ ns.length = i ∧ (∀ z ∈ ns, 0 ≤ z ∧ z ≤ 99) ∧ StK st lg cl (n + 3 * i) Ha) ?_ ?_ ?_ ?_
  · exact ⟨Xp.upd (Xp.refl _ _) (by simp), [], upd_same, rfl, fun z hz => by simp at hz, stk_upd hst neD⟩
  · rintro i Ha _ ⟨x3, _⟩
    exact sq_of (x3 _ _ hp (by simp [nps, npl, npD]))
  · rintro i y Ha Hb hi ⟨x3, ns, hds, hln, hns, s3⟩ ⟨rfl, hy⟩
    refine ⟨rfl, ?_⟩
    dsimp only [tYes]
    rw [if_pos rfl]
    show (tCall (spPick K) [] E0 (tCons (tVar 1) (tCons (tLst (tCons (tC (.int 0)) (tCons (tC (.int 1)) (tCons (tC (.int 99)) (tCons (tCall (spDraw K) [] E0 (tCons (tVar 1) (tCons (tC (.int 100)) tNil))) (tCons (tCall (spDraw K) [] E0 (tCons (tVar 1) (tCons (tC (.int 6)) tNil))) tNil)))))) tNil))) [c0, some (.ref st), c2, some (.ref p), c4, c5, c6, c7, c8, c9, c10, c11, c12, c13, c14, c15, c16, c17, c18, some y, c20] Hb _
    refine ⟨.ref st, rfl, ?_⟩
    refine ⟨.ref st, rfl, st, lg, cl, _, 100, rfl, by decide, by decide, by omega, s3, fun r1 H4 a0 a1 x4 s4 => ?_⟩
    refine ⟨.ref st, rfl, st, lg, cl, _, 6, rfl, by decide, by decide, by omega, s4, fun r2 H5 b0 b1 x5 s5 => ?_⟩
    refine ⟨by show 5 ≤ sizeLine; decide, fun a ha => ?_⟩
    have ne5 := stk_ne s5 ha
    refine ⟨st, lg, cl, _, a, _, rfl, upd_same, ne5.2.1, by simp, by simp, by omega, stk_ex (Ex.new ha) s5, fun w H6 hw x6 s6 => ?_⟩
    have x7 : Xp [st, lg] Hb H6 := (x4.trans x5).trans ((Xp.of_ex (Ex.new ha)).trans x6)
    obtain ⟨k, rfl, k0, k1⟩ : ∃ k : Int, w = .int k ∧ 0 ≤ k ∧ k ≤ 99 := by
      simp only [List.mem_cons, List.not_mem_nil, or_false] at hw
      rcases hw with rfl | rfl | rfl | rfl | rfl
      · exact ⟨0, rfl, by decide, by decide⟩
      · exact ⟨1, rfl, by decide, by decide⟩
      · exact ⟨99, rfl, by decide, by decide⟩
      · exact ⟨r1, rfl, a0, by omega⟩
      · exact ⟨r2, rfl, b0, by omega⟩
    refine ⟨ns.map V.int, x7 _ _ hds (by simp [neD.1, neD.2.1]), sz_lt (by rw [List.length_map]; omega), Xp.upd (x3.trans fun a o ho hn => x7 a o ho fun hm => hn (by simp at hm ⊢; rcases hm with h | h <;> simp [h])) (by simp), ns ++ [k], by rw [upd_same, List.map_append]; rfl, by simp [hln], fun z hz => ?_, stk_upd (stk_mono (by omega) s6) neD⟩
    rcases List.mem_append.mp hz with hz | hz
    · exact hns z hz
    · have : z = k := by simpa using hz
      omega
  · rintro Ha ⟨x3, ns, hds, hln, hns, s3⟩
    have x3' : Xp [st, lg] H Ha := fun a o ho hn => x3 a o ho fun hm => by
      rcases (by simpa using hm : a = st ∨ a = lg ∨ a = Dl) with h | h | h
      · exact hn (by simp [h])
      · exact hn (by simp [h])
      · rw [h, hD] at ho
        cases ho
    refine ⟨Dl, ns.map V.int, rfl, .inl ⟨sq_of hds, fun b hb => ?_⟩⟩
    exact q ns _ _ ⟨by rw [hln]; exact hv, hns⟩ (x3'.then (Ex.new hb)) (stk_ex (Ex.new hb) (stk_mono (by omega) s3)) (tI_dp (st_of upd_same))
theorem q_sums {s : Int} {p r : Addr} {vs : List V} {v4 : V} {l : List Int} (h1 : 2 ≤ s) (h2 : s ≤ 4) (hl : Ld s l) (hp : H p = some (.lst vs)) (dv : DpAll K H vs (lpr s)) (hr : H r = some (.lst [])) (npr : p ≠ r) (d4 : Dp K H v4 (tI l))
    (q : ∀ c7' H', Xp [r] H H' → H' r = some (.lst ((sms s l).map V.int)) → tz D [c0, c1, c2, some (.ref p), some v4, some (.ref r), c6, c7', c8, c9, c10, c11, c12, c13, c14, c15, c16, some (.int s), c18, c19, c20] H') :
    tSeq (tFor (iRng1 (tCons (tVar 17) tNil)) (gName 7) (tDrop (tBM K "list" rAppend (tVar 5) (tCons (tCB (rSum K) (tCons (tLc (iZipM K true false (tCons (tVar 4) (tCons (tVar 3) tNil))) (gTup K 2 (gCons (gName 20) (gCons (gName 19) gNil))) (tTest (tOp (rIn K false) (tVar 7) (tVar 19))) (tVar 20) [20, 19]) tNil)) tNil)))) tz D [c0, c1, c2, some (.ref p), some v4, some (.ref r), c6, c7, c8, c9, c10, c11, c12, c13, c14, c15, c16, some (.int s), c18, c19, c20] H := by
  have len := sms_len s l
  have npl : np s ≤ 6 := by
    have := lpr_len h1 h2
    exact this.2
  have lv : vs.length = np s := (dpa_len dv).trans (lpr_len h1 h2).1
  refine r_for (K := K) (n := s) (by walk_at "dl") (by omega) (fun i σ' Ha => Xp [r] H Ha ∧ Ha r = some (.lst (((sms s l).take i).map V.int)) ∧ ∃ c7', σ' = [c0, c1, c2, some (.ref p), some v4, some (.ref r), c6, c7', c8, c9, c10, c11, c12, c13, c14, c15, c16, some (.int s), c18, c19, c20]) (fun H2 e2 => ⟨Xp.of_ex e2, by simpa using e2 _ _ hr, c7, rfl⟩) ?_ ?_
  · rintro i σ' Ha hi ⟨xp, at_, c7', rfl⟩
    show tDrop _ _ [c0, c1, c2, some (.ref p), some v4, some (.ref r), c6, some (.int (i : Int)), c8, c9, c10, c11, c12, c13, c14, c15, c16, some (.int s), c18, c19, c20] Ha
    have hpa := xp _ _ hp (by simp [npr])
    have tx := tx_of xp (fun b hb => .inl ⟨[], by rw [List.mem_singleton.mp hb]; exact hr⟩)
    have d4a := dp_tx tx _ _ (imm_tI _) d4
    have dva := dpa_tx tx _ _ (lpr_imm s) dv
    have hlt : i < s.toNat := by omega
    have zl : (List.zipWith (fun x y => PyData.tuple [.int x, y]) l (lpr s)).length = np s := by rw [List.length_zipWith, hl.1, (lpr_len h1 h2).1, Nat.min_self]
    have key : EvN K (tLc (iZipM K true false (tCons (tVar 4) (tCons (tVar 3) tNil))) (gTup K 2 (gCons (gName 20) (gCons (gName 19) gNil))) (tTest (tOp (rIn K false) (tVar 7) (tVar 19))) (tVar 20) [20, 19]) [c0, c1, c2, some (.ref p), some v4, some (.ref r), c6, some (.int (i : Int)), c8, c9, c10, c11, c12, c13, c14, c15, c16, some (.int s), c18, c19, c20] Ha (dI (((List.range (np s)).filter fun j => decide ((i : Int) ∈ [((prs s).getD j (0, 0)).1, ((prs s).getD j (0, 0)).2])).map fun j => l.getD j 0)) := by
      rw [← zl]
      refine en_lcB (ei_zipTL (q := p) (vs := vs) (ds := lpr s) (Ls.nil _) (ed_var (v := v4) rfl d4a) (ev_var rfl) hpa (by simp) dva (lpr_imm s)) (by omega) (fun j => decide ((i : Int) ∈ [((prs s).getD j (0, 0)).1, ((prs s).getD j (0, 0)).2])) (fun j => l.getD j 0) fun H2 j d x Hb Q' e2 hg e3 hx k => ?_
      have hj : j < np s := by have := (List.getElem?_eq_some_iff.mp hg).1; omega
      rw [lpr_prs, List.getElem?_zipWith, List.getElem?_map, List.getElem?_eq_getElem (show j < l.length by rw [hl.1]; exact hj), List.getElem?_eq_getElem (show j < (prs s).length from hj)] at hg
      cases hg
      refine g_two hx fun w1 w2 u1 u2 => ?_
      cases dp_int u1
      have gl : l.getD j 0 = l[j]'(by rw [hl.1]; exact hj) := by rw [List.getD_eq_getElem?_getD, List.getElem?_eq_getElem (show j < l.length by rw [hl.1]; exact hj)]; rfl
      have gp : (prs s).getD j (0, 0) = (prs s)[j]'hj := by rw [List.getD_eq_getElem?_getD, List.getElem?_eq_getElem (show j < (prs s).length from hj)]; rfl
      refine k _ Hb (Ex.refl _) rfl ?_ ?_
      · rw [gp]
        exact et_test (ev_inT (ev_var rfl) (ed_var (v := w2) rfl u2))
      · rw [gl]
        exact ev_var rfl
    refine d_app (K := K) (d := .int ((sms s l).getD i 0)) at_ (ev_var rfl) (ed_int ?_) (by rw [List.length_map, List.length_take]; omega) fun v H1 e1 hv => ?_
    · rw [← fsum_side h1 h2 hl.1 hlt]
      exact ev_sumL (EvN.toD key)
    · cases dp_int hv
      have g : (sms s l)[i]? = some ((sms s l).getD i 0) := by rw [List.getD_eq_getElem?_getD, List.getElem?_eq_getElem (by omega)]; rfl
      refine ⟨Xp.upd (xp.then e1) (by simp), ?_, _, rfl⟩
      rw [upd_same, List.take_succ, g]
      simp
  · rintro σ' Ha ⟨xp, at_, c7', rfl⟩
    rw [List.take_of_length_le (by omega)] at at_
    exact q c7' Ha xp at_
end
end K16
set_option Elab.async false
set_option linter.all false
set_option maxRecDepth 100000
set_option maxHeartbeats 4000000
namespace K16
open PySem PySem.Spec PyProof.Rows L2 Evl DL
open LamX
local macro_rules | `(tactic| walk_at "dl") => `(tactic| first
  | exact ev_c | exact ev_var rfl | exact eda_nil
  | exact ed_var rfl (by assumption)
  | exact ed_int ev_c | exact ed_int (ev_var rfl)
  | (refine eda_cons ?_ ?_ <;> walk_at "dl")
  | (refine ed_int ?_; walk_at "dl")
  | (refine ev_op ?_ ?_ rv_I0 <;> walk_at "dl"))
section
variable {K : PySem.W.Frag} {H : Hp} {tz : TS} {D : Ends} {c0 c1 c2 c3 c4 c5 c6 c7 c8 c9 c10 c11 c12 c13 c14 c15 c16 c17 c18 c19 c20 : Option V} {st lg cl : Addr}
/-- the triangles over the first i pairs, then over the pair itself up to the k-th -/
def tlp (s : Int) (i : Nat) : List (List Int) := ((prs s).take i).flatMap fun q => (List.range (s - (q.2 + 1)).toNat).map fun (k : Nat) => [q.1, q.2, q.2 + 1 + (k : Int)]
def tlk (s : Int) (i k : Nat) : List (List Int) := tlp s i ++ (List.range k).map fun (k : Nat) => [((prs s).getD i (0, 0)).1, ((prs s).getD i (0, 0)).2, ((prs s).getD i (0, 0)).2 + 1 + (k : Int)]
theorem tlp_all {s : Int} (h1 : 2 ≤ s) (h2 : s ≤ 4) : tlp s (np s) = tri s := by
  have hs' : s = 2 ∨ s = 3 ∨ s = 4 := by omega
  rcases hs' with rfl | rfl | rfl <;> decide
theorem tlk_0 (s : Int) (i : Nat) : tlk s i 0 = tlp s i := by simp [tlk]
theorem tlk_up (s : Int) (i k : Nat) : tlk s i (k + 1) = tlk s i k ++ [[((prs s).getD i (0, 0)).1, ((prs s).getD i (0, 0)).2, ((prs s).getD i (0, 0)).2 + 1 + (k : Int)]] := by
  rw [tlk, List.range_succ, List.map_append, ← List.append_assoc]
  rfl
theorem tlk_full {s : Int} {i : Nat} (hi : i < np s) : tlk s i (s - (((prs s).getD i (0, 0)).2 + 1)).toNat = tlp s (i + 1) := by
  have g : (prs s)[i]? = some ((prs s).getD i (0, 0)) := by rw [List.getD_eq_getElem?_getD, List.getElem?_eq_getElem (show i < (prs s).length from hi)]; rfl
  rw [tlk, tlp, tlp, List.take_succ, g]
  simp
/-- each triangle stands once, and is one -/
theorem tlk_new {s : Int} (h1 : 2 ≤ s) (h2 : s ≤ 4) : ∀ i, i < np s → ∀ k, k < (s - (((prs s).getD i (0, 0)).2 + 1)).toNat →
    (∀ t ∈ tlk s i k, t ≠ [((prs s).getD i (0, 0)).1, ((prs s).getD i (0, 0)).2, ((prs s).getD i (0, 0)).2 + 1 + (k : Int)]) ∧ [((prs s).getD i (0, 0)).1, ((prs s).getD i (0, 0)).2, ((prs s).getD i (0, 0)).2 + 1 + (k : Int)] ∈ tri s ∧ (tlk s i k).length ≤ 10 := by
  have hs' : s = 2 ∨ s = 3 ∨ s = 4 := by omega
  rcases hs' with rfl | rfl | rfl <;> decide
def tsp (s : Int) (l : List Int) (ts : List (List Int)) : KI := ts.map fun t => (t, tsum s l t)
theorem q_tris {s : Int} {p r : Addr} {vs : List V} {v4 : V} {l : List Int} (h1 : 2 ≤ s) (h2 : s ≤ 4) (hl : Ld s l) (hp : H p = some (.lst vs)) (dv : DpAll K H vs (lpr s)) (hr : H r = some (.dT [])) (d4 : Dp K H v4 (tI l))
    (q : ∀ c8' c9' c10' c11' c12' H', Xp [r] H H' → H' r = some (.dT (kvI (tsd s l))) → tz D [c0, c1, c2, some (.ref p), some v4, c5, some (.ref r), c7, c8', c9', c10', c11', c12', c13, c14, c15, c16, some (.int s), c18, c19, c20] H') :
    tSeq (tFor (iList K (tVar 3)) (gTup K 2 (gCons (gName 8) (gCons (gName 9) gNil))) (tFor (iRng2 (tCons (tOp (rI0 fun i j => V.int (i + j)) (tVar 9) (tC (.int 1))) (tCons (tVar 17) tNil))) (gName 10) (tSeq (tAsg (tTup (tCons (tVar 8) (tCons (tVar 9) (tCons (tVar 10) tNil)))) (gName 11)) (tSeq (tAsg (tLc (iZipM K true false (tCons (tVar 4) (tCons (tVar 3) tNil))) (gTup K 2 (gCons (gName 20) (gCons (gName 19) gNil))) (tAnd (tTest (tOp (rIn K false) (tOp (rIxT K) (tVar 19) (tC (.int 0))) (tVar 11))) (tTest (tOp (rIn K false) (tOp (rIxT K) (tVar 19) (tC (.int 1))) (tVar 11)))) (tVar 20) [20, 19]) (gName 12)) (sDPut (tVar 6) (tVar 11) (tCB (rSum K) (tCons (tVar 12) tNil))))))) tz D [c0, c1, c2, some (.ref p), some v4, c5, some (.ref r), c7, c8, c9, c10, c11, c12, c13, c14, c15, c16, some (.int s), c18, c19, c20] H := by
  have npr : p ≠ r := fun z => by rw [z, hr] at hp; cases hp
  have npl : np s ≤ 6 := (lpr_len h1 h2).2
  have lv : vs.length = np s := (dpa_len dv).trans (lpr_len h1 h2).1
  refine ⟨.ref p, rfl, p, rfl, ⟨vs, sq_of hp⟩, ?_⟩
  refine for_it (D := { D with nx := tz D }) (walk_list (K := K) (xs := vs)) (fun i σ' Ha => Xp [r] H Ha ∧ Ha r = some (.dT (kvI (tsp s l (tlp s i)))) ∧ ∃ c8' c9' c10' c11' c12', σ' = [c0, c1, c2, some (.ref p), some v4, c5, some (.ref r), c7, c8', c9', c10', c11', c12', c13, c14, c15, c16, some (.int s), c18, c19, c20]) ⟨Xp.refl _ _, by simpa [tlp, tsp, kvI] using hr, c8, c9, c10, c11, c12, rfl⟩ ?_ ?_ ?_
  · rintro i σ' Ha _ ⟨xp, _⟩
    exact sq_of (xp _ _ hp (by simp [npr]))
  · rintro i x σ' Ha Hb hi ⟨xp, at_, e8, e9, e10, e11, e12, rfl⟩ ⟨rfl, hx⟩
    have hi : i < np s := by omega
    have tx := tx_of xp (fun b hb => .inr (.inr (.inl ⟨[], by rw [List.mem_singleton.mp hb]; exact hr⟩)))
    have d4a := dp_tx tx _ _ (imm_tI _) d4
    have dva := dpa_tx tx _ _ (lpr_imm s) dv
    have hpb := xp _ _ hp (by simp [npr])
    obtain ⟨d, q1, q2⟩ := dpa_getV dva hx
    have gp : (prs s)[i]? = some ((prs s).getD i (0, 0)) := by rw [List.getD_eq_getElem?_getD, List.getElem?_eq_getElem (show i < (prs s).length from hi)]; rfl
    rw [lpr_prs, List.getElem?_map, gp] at q1
    cases q1
    have pin := prs_in (s := s) (by omega) (by omega) (List.mem_of_getElem? gp)
    generalize hpp : (prs s).getD i (0, 0) = pp at *
    obtain ⟨a, b⟩ := pp
    refine g_two q2 fun w1 w2 u1 u2 => ?_
    cases dp_int u1
    cases dp_int u2
    show tFor _ _ _ _ [c0, c1, c2, some (.ref p), some v4, c5, some (.ref r), c7, some (.int a), some (.int b), e10, e11, e12, c13, c14, c15, c16, some (.int s), c18, c19, c20] Hb
    refine d_for (K := K) (S := [r]) (ei_rng2 (S := [r]) (K := K) (m := b + 1) (n := s) (eda_cons (ed_int (ev_op (ev_var rfl) ev_c rv_I0)) (eda_cons (ed_int (ev_var rfl)) eda_nil)) (by have := pin.1; have := pin.2.1; have := pin.2.2; simp only at *; omega))
      (fun H2 k σ' Hc => Xp [r] Hb H2 ∧ Xp [r] H2 Hc ∧ Hc r = some (.dT (kvI (tsp s l (tlk s i k)))) ∧ ∃ c10' c11' c12', σ' = [c0, c1, c2, some (.ref p), some v4, c5, some (.ref r), c7, some (.int a), some (.int b), c10', c11', c12', c13, c14, c15, c16, some (.int s), c18, c19, c20])
      (fun H2 e2 => ⟨Xp.of_ex e2, Xp.refl _ _, by rw [tlk_0]; exact e2 _ _ at_, e10, e11, e12, rfl⟩) (fun H2 k σ' Hc _ z => z.2.1) ?_ ?_
    · rintro H2 k d y σ' Hc Hd e2 hg ⟨y0, y1, y2, f10, f11, f12, rfl⟩ e3 hy
      have hk : k < (s - (b + 1)).toNat := by have := (List.getElem?_eq_some_iff.mp hg).1; simpa using this
      rw [rng_get hk] at hg
      cases hg
      cases dp_int hy
      have new := tlk_new h1 h2 i hi k (by rw [hpp]; exact hk)
      rw [hpp] at new
      obtain ⟨n1, n2, n3⟩ := new
      show tSeq _ _ _ [c0, c1, c2, some (.ref p), some v4, c5, some (.ref r), c7, some (.int a), some (.int b), some (.int (b + 1 + (k : Int))), f11, f12, c13, c14, c15, c16, some (.int s), c18, c19, c20] Hd
      have at3 := e3 _ _ y2
      have xpd : Xp [r] H Hd := ((xp.trans y0).trans y1).then e3
      have tx2 := tx_of xpd (fun b hb => .inr (.inr (.inl ⟨[], by rw [List.mem_singleton.mp hb]; exact hr⟩)))
      refine ⟨.int a, rfl, .int b, rfl, .int (b + 1 + (k : Int)), rfl, by show 3 ≤ sizeLine; decide, fun t3 ht3 => ?_⟩
      show tSeq _ _ _ [c0, c1, c2, some (.ref p), some v4, c5, some (.ref r), c7, some (.int a), some (.int b), some (.int (b + 1 + (k : Int))), some (.ref t3), f12, c13, c14, c15, c16, some (.int s), c18, c19, c20] _
      have hpd : Hd p = some (.lst vs) := xpd _ _ hp (by simp [npr])
      have nt : t3 ≠ p := fun z => by rw [z, hpd] at ht3; cases ht3
      have ntr : t3 ≠ r := fun z => by rw [z, at3] at ht3; cases ht3
      have ext3 := Ex.new (o := .tup [.int a, .int b, .int (b + 1 + (k : Int))]) ht3
      obtain ⟨He, hHe⟩ : ∃ He, He = L2.upd Hd t3 (.tup [.int a, .int b, .int (b + 1 + (k : Int))]) := ⟨_, rfl⟩
      rw [← hHe] at ext3 ⊢
      have t3e : He t3 = some (.tup [.int a, .int b, .int (b + 1 + (k : Int))]) := by rw [hHe]; exact upd_same
      have d4e := dp_ex ext3 _ _ (dp_tx tx2 _ _ (imm_tI _) d4)
      have dve := dpa_ex ext3 _ _ (dpa_tx tx2 _ _ (lpr_imm s) dv)
      have dt3 : Dp K He (.ref t3) (tI [a, b, b + 1 + (k : Int)]) := tI_dp (st_of t3e)
      have zl : (List.zipWith (fun x y => PyData.tuple [.int x, y]) l (lpr s)).length = np s := by rw [List.length_zipWith, hl.1, (lpr_len h1 h2).1, Nat.min_self]
      have key : EvN K (tLc (iZipM K true false (tCons (tVar 4) (tCons (tVar 3) tNil))) (gTup K 2 (gCons (gName 20) (gCons (gName 19) gNil))) (tAnd (tTest (tOp (rIn K false) (tOp (rIxT K) (tVar 19) (tC (.int 0))) (tVar 11))) (tTest (tOp (rIn K false) (tOp (rIxT K) (tVar 19) (tC (.int 1))) (tVar 11)))) (tVar 20) [20, 19]) [c0, c1, c2, some (.ref p), some v4, c5, some (.ref r), c7, some (.int a), some (.int b), some (.int (b + 1 + (k : Int))), some (.ref t3), f12, c13, c14, c15, c16, some (.int s), c18, c19, c20] He (dI (((List.range (np s)).filter fun j => decide (((prs s).getD j (0, 0)).1 ∈ [a, b, b + 1 + (k : Int)]) && decide (((prs s).getD j (0, 0)).2 ∈ [a, b, b + 1 + (k : Int)])).map fun j => l.getD j 0)) := by
        rw [← zl]
        refine en_lcB (ei_zipTL (q := p) (vs := vs) (ds := lpr s) (Ls.nil _) (ed_var (v := v4) rfl d4e) (ev_var rfl) (ext3 _ _ hpd) (by simp) dve (lpr_imm s)) (by omega) (fun j => decide (((prs s).getD j (0, 0)).1 ∈ [a, b, b + 1 + (k : Int)]) && decide (((prs s).getD j (0, 0)).2 ∈ [a, b, b + 1 + (k : Int)])) (fun j => l.getD j 0) fun H3 j d x Hf Q' e4 hg e5 hx k2 => ?_
        have hj : j < np s := by have := (List.getElem?_eq_some_iff.mp hg).1; omega
        rw [lpr_prs, List.getElem?_zipWith, List.getElem?_map, List.getElem?_eq_getElem (show j < l.length by rw [hl.1]; exact hj), List.getElem?_eq_getElem (show j < (prs s).length from hj)] at hg
        cases hg
        refine g_two hx fun w1 w2 u1 u2 => ?_
        cases dp_int u1
        have gl : l.getD j 0 = l[j]'(by rw [hl.1]; exact hj) := by rw [List.getD_eq_getElem?_getD, List.getElem?_eq_getElem (show j < l.length by rw [hl.1]; exact hj)]; rfl
        have gq : (prs s).getD j (0, 0) = (prs s)[j]'hj := by rw [List.getD_eq_getElem?_getD, List.getElem?_eq_getElem (show j < (prs s).length from hj)]; rfl
        have dtf := dp_ex (e4.trans e5) _ _ dt3
        refine k2 _ Hf (Ex.refl _) rfl ?_ ?_
        · rw [gq]
          refine et_and (et_test (ev_inT (EvD.int (ed_ixT (k := 0) (ed_var (v := w2) rfl u2) ev_c rfl)) (ed_var (v := .ref t3) rfl dtf))) fun _ => et_test (ev_inT (EvD.int (ed_ixT (k := 1) (ed_var (v := w2) rfl u2) ev_c rfl)) (ed_var (v := .ref t3) rfl dtf))
        · rw [gl]
          exact ev_var rfl
      refine qn_asg (K := K) key fun z zs Hg hz eg hzs dz => ?_
      show sDPut _ _ _ _ [c0, c1, c2, some (.ref p), some v4, c5, some (.ref r), c7, some (.int a), some (.int b), some (.int (b + 1 + (k : Int))), some (.ref t3), some (.ref z), c13, c14, c15, c16, some (.int s), c18, c19, c20] Hg
      obtain rfl := dpa_ints dz
      have val := fsum_tri h1 h2 hl.1 n2
      unfold fsum at val
      refine (ev_sumL (K := K) (EvQ.toD (eq_var rfl hzs (ints_dpa _)))) Hg (Ex.refl _) _ fun Hh eh => ?_
      rw [val]
      refine ⟨.ref r, rfl, .ref t3, rfl, r, _, rfl, DPut.t (k := [a, b, b + 1 + (k : Int)].map Sum.inl) (eh _ _ (eg _ _ (ext3 _ _ at3))) (by rw [List.map_map]; exact eh _ _ (eg _ _ t3e)) ?_, ?_⟩
      · rw [kvI_len, tsp, List.length_map]
        exact sz_lt (by omega)
      · refine ⟨y0, Xp.upd ((((y1.then e3).then ext3).then eg).then eh) (by simp), ?_, _, _, _, rfl⟩
        rw [upd_same, kvI_snoc, tlk_up, hpp, tsp, tsp, List.map_append]
        · rfl
        · intro pr hpr e
          obtain ⟨t, ht, rfl⟩ := List.mem_map.mp hpr
          exact n1 t ht e
    · rintro H2 σ' Hc e2 ⟨y0, y1, y2, f10, f11, f12, rfl⟩
      refine ⟨(xp.trans y0).trans y1, ?_, _, _, _, _, _, rfl⟩
      rw [List.length_map, List.length_range] at y2
      have := tlk_full (s := s) hi
      rw [hpp] at this
      rw [← this]
      exact y2
  · rintro σ' Ha ⟨xp, at_, e8, e9, e10, e11, e12, rfl⟩
    rw [lv, tlp_all h1 h2] at at_
    exact q e8 e9 e10 e11 e12 Ha xp at_
end
end K16
set_option Elab.async false
set_option linter.all false
set_option maxRecDepth 100000
set_option maxHeartbeats 4000000
namespace K16
open PySem PySem.Spec PyProof.Rows L2 Evl DL
open LamX
local macro_rules | `(tactic| walk_at "dl") => `(tactic| first
  | exact ev_c | exact ev_var rfl | exact eda_nil
  | exact ed_var rfl (by assumption)
  | exact ed_int ev_c | exact ed_int (ev_var rfl)
  | (refine eda_cons ?_ ?_ <;> walk_at "dl")
  | (refine ed_int ?_; walk_at "dl")
  | (refine ev_op ?_ ?_ rv_I0 <;> walk_at "dl"))
section
variable {K : PySem.W.Frag} {H : Hp} {tz : TS} {D : Ends} {c0 c1 c2 c3 c4 c5 c6 c7 c8 c9 c10 c11 c12 c13 c14 c15 c16 c17 c18 c19 c20 : Option V} {CB CL : Addr}
theorem sms_bound {s : Int} {l : List Int} (h1 : 2 ≤ s) (h2 : s ≤ 4) (hl : Ld s l) : (∀ n ∈ sms s l, 0 ≤ n ∧ n ≤ 1000) ∧ (∀ t ∈ tri s, 0 ≤ tsum s l t ∧ tsum s l t ≤ 1000) := by
  have hs' : s = 2 ∨ s = 3 ∨ s = 4 := by omega
  obtain ⟨hlen, hb⟩ := hl
  have at3 : ∀ i, 0 ≤ l.getD i 0 ∧ l.getD i 0 ≤ 99 := fun i => by
    rw [List.getD_eq_getElem?_getD]
    rcases Nat.lt_or_ge i l.length with lt | ge
    · rw [List.getElem?_eq_getElem lt]
      exact hb _ (List.getElem_mem lt)
    · rw [List.getElem?_eq_none ge]
      exact ⟨by decide, by decide⟩
  refine ⟨?_, fun t ht => ?_⟩
  · rcases hs' with rfl | rfl | rfl
    · match l, hlen with
      | [a], _ =>
        have na := hb a (by simp)
        intro n hn
        simp [sms, prs2, stp] at hn
        omega
    · match l, hlen with
      | [a, b, c], _ =>
        have na := hb a (by simp)
        have nb := hb b (by simp)
        have nc := hb c (by simp)
        intro n hn
        simp [sms, prs3, stp] at hn
        omega
    · match l, hlen with
      | [a, b, c, d, e, f], _ =>
        have na := hb a (by simp)
        have nb := hb b (by simp)
        have nc := hb c (by simp)
        have nd := hb d (by simp)
        have ne := hb e (by simp)
        have nf := hb f (by simp)
        intro n hn
        simp [sms, prs4, stp] at hn
        omega
  · have a1 := at3 (plc s (t.getD 0 0) (t.getD 1 0)).toNat
    have a2 := at3 (plc s (t.getD 0 0) (t.getD 2 0)).toNat
    have a3 := at3 (plc s (t.getD 1 0) (t.getD 2 0)).toNat
    unfold tsum at2
    omega
theorem need_bound {s : Int} {l : List Int} (h1 : 2 ≤ s) (h2 : s ≤ 4) (hl : Ld s l) : 0 ≤ need s l ∧ need s l ≤ 1000 := by
  obtain ⟨b1, b2⟩ := sms_bound h1 h2 hl
  have h0 : 0 < (sms s l ++ (tri s).map (tsum s l)).length := by rw [List.length_append, sms_len]; omega
  have m := mxl_mem h0
  unfold need
  rcases List.mem_append.mp m with m | m
  · exact b1 _ m
  · obtain ⟨t, ht, e⟩ := List.mem_map.mp m
    rw [← e]
    exact b2 t ht
theorem fine_tsd {s : Int} {l : List Int} (h1 : 2 ≤ s) (h2 : s ≤ 4) (hl : Ld s l) : Fine (dDict (tsd s l)) 660 3 := by
  obtain ⟨b1, b2⟩ := sms_bound h1 h2 hl
  have f := fine_dict (m := tsd s l) (fun p hp => by
    obtain ⟨t, ht, rfl⟩ := List.mem_map.mp hp
    obtain ⟨a, b, c, rfl, q1, q2, q3, q4⟩ := tri_in h1 h2 ht
    have := b2 _ ht
    refine ⟨fun n hn => ?_, sml_of (by omega) (by omega), by simp⟩
    have hn : n = a ∨ n = b ∨ n = c := by simpa using hn
    exact sml_of (by omega) (by omega))
  have len : (tsd s l).length ≤ 4 := by rw [tsd, List.length_map]; exact tri_len h1 h2
  exact ⟨f.short, f.shows, f.deep, Nat.le_trans f.few (by omega)⟩
theorem ek_call {σ : L2.St} {s : Int} {l : List Int} {E : XK} {tt : TA} (h1 : 2 ≤ s) (h2 : s ≤ 4) (hl : Ld s l) (h : EvDA K tt σ H [.int s, tI l]) : EvK (tCall (spTS K CB CL) [] E tt) σ H (tsd s l) := fun H1 e Q q =>
  h H1 e _ fun vs H2 e2 hv => ⟨_, by rw [List.append_nil]; exact hv, rfl, .inl ⟨s, l, rfl, h1, h2, hl, fun a H3 _ e3 ha => q a H3 (e2.trans e3) ha⟩⟩
theorem ek_callR {σ : L2.St} {s : Int} {l : List Int} {E : XK} {tt : TA} (h1 : 2 ≤ s) (h2 : s ≤ 4) (hl : Ld s l) (h : EvDA K tt σ H [tI l, .int s]) : EvK (tCallR 2 (spTS K CB CL) E tt) σ H (tsd s l) := fun H1 e Q q =>
  h H1 e _ fun vs H2 e2 hv => by
    obtain ⟨v2, v1, rfl, a, b⟩ := dpa_two hv
    exact ⟨rfl, [.int s, tI l], .cons b (.cons a .nil), rfl, .inl ⟨s, l, rfl, h1, h2, hl, fun a H3 _ e3 ha => q a H3 (e2.trans e3) ha⟩⟩
theorem q_checks {s : Int} {r5 r6 : Addr} {v4 : V} {l : List Int} (h1 : 2 ≤ s) (h2 : s ≤ 4) (hl : Ld s l) (d40 : Dp K H v4 (tI l)) (h50 : H r5 = some (.lst ((sms s l).map V.int))) (h60 : H r6 = some (.dT (kvI (tsd s l))))
    (q : ∀ c13' c14' H', Ex H H' → tz D [c0, c1, c2, c3, some v4, some (.ref r5), some (.ref r6), c7, c8, c9, c10, c11, c12, c13', c14', c15, c16, some (.int s), c18, c19, c20] H') :
    tSeq (tIfS (tTest (tOp rNe (tCB (rRepr K) (tCons (tLst (tCons (tCall (spR K 2 R_side_sm (B_plain CB CL)) [] (fun _ _ _ => False) (tCons (tVar 17) (tCons (tVar 4) tNil))) (tCons (tCallR 2 (spR K 2 R_side_sm (B_plain CB CL)) (fun _ _ _ => False) (tCons (tVar 4) (tCons (tVar 17) tNil))) tNil))) tNil)) (tCB (rRepr K) (tCons (tOp rRep (tLst (tCons (tCB (fun xs H Q => ∃ p ys, xs = [.ref p] ∧ ((SqL K H p ys ∧ ∀ l, H l = none → Q (.ref l) (L2.upd H l (.tup ys))) ∨ (SqT K H p ys ∧ Q (.ref p) H))) (tCons (tVar 5) tNil)) tNil)) (tC (.int 2))) tNil)))) (tRet (tC (.bl false))) tNext) (tSeq (tAsg (tCall (spTS K CB CL) [] (fun _ _ _ => False) (tCons (tVar 17) (tCons (tVar 4) tNil))) (gName 13)) (tSeq (tIfS (tTest (tOp rNe (tCB rReprLT (tCons (tLst (tCons (tVar 13) (tCons (tCallR 2 (spTS K CB CL) (fun _ _ _ => False) (tCons (tVar 4) (tCons (tVar 17) tNil))) tNil))) tNil)) (tCB rReprLT (tCons (tLst (tCons (tVar 6) (tCons (tVar 6) tNil))) tNil)))) (tRet (tC (.bl false))) tNext) (tSeq (tDrop (tBM0 K "dict" rClearT (tVar 13))) (tSeq (tAsg (tCB (rMax K) (tCons (tOp rCat (tVar 5) (tCB rListVT (tCons (tBM0 K "dict" rValsT (tVar 6)) tNil))) tNil)) (gName 14)) (tSeq (tIfS (tTest (tOp rNe (tCB (rRepr K) (tCons (tLst (tCons (tCall (spR K 2 R_plain_need (B_plain CB CL)) [] (fun _ _ _ => False) (tCons (tVar 17) (tCons (tVar 4) tNil))) (tCons (tCallR 2 (spR K 2 R_plain_need (B_plain CB CL)) (fun _ _ _ => False) (tCons (tVar 4) (tCons (tVar 17) tNil))) tNil))) tNil)) (tCB (rRepr K) (tCons (tLst (tCons (tVar 14) (tCons (tVar 14) tNil))) tNil)))) (tRet (tC (.bl false))) tNext) (tSeq (tIfS (tOr (tTest (tOp (rI0 fun i j => V.bl (decide (j < i))) (tOp (rI CMul fun i j => V.int (i * j)) (tC (.int 2)) (tVar 14)) (tOp (rI CMul fun i j => V.int (i * j)) (tC (.int 3)) (tCB (rMax K) (tCons (tVar 5) tNil))))) (tTest (tOp rNe (tCB rReprT (tCons (tCall (spTS K CB CL) [] (fun _ _ _ => False) (tCons (tVar 17) (tCons (tVar 4) tNil))) tNil)) (tCB rReprT (tCons (tVar 6) tNil))))) (tRet (tC (.bl false))) tNext) tz)))))) D [c0, c1, c2, c3, some v4, some (.ref r5), some (.ref r6), c7, c8, c9, c10, c11, c12, c13, c14, c15, c16, some (.int s), c18, c19, c20] H := by
  obtain ⟨b1, b2⟩ := sms_bound h1 h2 hl
  have sl := sms_len s l
  have nb := need_bound h1 h2 hl
  have fs := fine_tsd h1 h2 hl
  have args : ∀ {σ : L2.St} {H' : Hp}, σ[17]? = some (some (.int s)) → σ[4]? = some (some v4) → Dp K H' v4 (tI l) → EvDA K (tCons (tVar 17) (tCons (tVar 4) tNil)) σ H' [.int s, tI l] := fun g1 g2 d => eda_cons (ed_int (ev_var g1)) (eda_cons (ed_var g2 d) eda_nil)
  have argR : ∀ {σ : L2.St} {H' : Hp}, σ[17]? = some (some (.int s)) → σ[4]? = some (some v4) → Dp K H' v4 (tI l) → EvDA K (tCons (tVar 4) (tCons (tVar 17) tNil)) σ H' [tI l, .int s] := fun g1 g2 d => eda_cons (ed_var g2 d) (eda_cons (ed_int (ev_var g1)) eda_nil)
  have ft : Fine (tI (sms s l)) 164 2 := by
    have f := fine_tI (ns := sms s l) fun n hn => sml_of (by have := b1 n hn; omega) (by have := b1 n hn; omega)
    exact ⟨f.short, f.shows, f.deep, Nat.le_trans f.few (by omega)⟩
  have f2 := fine_two ft
  -- the sums
  refine q_when (b := false) (et_test (ev_neS (x := (PyData.list [tI (sms s l), tI (sms s l)]).shown)
    (ev_repr (EvN.toD (en_lst (eda_cons (ed_callR (R := R_side_sm) (B := B_plain CB CL) (args rfl rfl d40) rfl ⟨s, l, rfl, h1, h2, hl, rfl⟩) (eda_cons (ed_callKR (R := R_side_sm) (B := B_plain CB CL) (argR rfl rfl d40) ⟨s, l, rfl, h1, h2, hl, rfl⟩) eda_nil)) (by simp))) f2 (by decide) (by decide))
    (ev_repr (EvN.toD (en_is (en_rep (d := tI (sms s l)) (n := 2) (EvN.toQ (en_lst (eda_cons (ed_tupleOf (EvQ.toD (eq_var rfl h50 (ints_dpa _)))) eda_nil) (by simp))) ev_c (by decide) (by decide)) rfl)) f2 (by decide) (by decide)))) (fun z => nomatch z) fun _ H1 e1 => ?_
  have d4 := dp_ex e1 _ _ d40
  have h6 := e1 _ _ h60
  -- the triangles
  refine ⟨.int s, rfl, v4, rfl, [.int s, tI l], .cons (.int s) (.cons d4 .nil), rfl, .inl ⟨s, l, rfl, h1, h2, hl, fun a H2 ha e2 hd => ?_⟩⟩
  show tSeq _ _ _ [c0, c1, c2, c3, some v4, some (.ref r5), some (.ref r6), c7, c8, c9, c10, c11, c12, some (.ref a), c14, c15, c16, some (.int s), c18, c19, c20] H2
  have d4 := dp_ex e2 _ _ d4
  have h6 := e2 _ _ h6
  refine q_when (b := false) (et_test (ev_neS (ev_reprLT (eka_cons (ek_var rfl hd) (eka_cons (ek_callR h1 h2 hl (argR rfl rfl d4)) eka_nil)) fs (by decide) (by decide)) (ev_reprLT (eka_cons (ek_var rfl h6) (eka_cons (ek_var rfl h6) eka_nil)) fs (by decide) (by decide)))) (fun z => nomatch z) fun _ H3 e3 => ?_
  have hd := e3 _ _ hd
  refine ⟨.ref a, rfl, .inr (.inr (.inl ⟨rfl, .inr ⟨_, hd⟩⟩)), a, _, rfl, rfl, hd, ?_⟩
  have e4 : Ex H (L2.upd H3 a (.dT [])) := Ex.mut ((e1.trans e2).trans e3) (fresh_back e1 ha)
  clear d4 h6 hd
  generalize L2.upd H3 a (.dT []) = H4 at *
  have d4 := dp_ex e4 _ _ d40
  have h5 := e4 _ _ h50
  have h6 := e4 _ _ h60
  show tSeq _ _ _ [c0, c1, c2, c3, some v4, some (.ref r5), some (.ref r6), c7, c8, c9, c10, c11, c12, some (.ref a), c14, c15, c16, some (.int s), c18, c19, c20] H4
  have h0 : 0 < (sms s l ++ (tri s).map (tsum s l)).length := by rw [List.length_append, sl]; omega
  have tl := tri_len h1 h2
  refine qi_asg (v := .int (need s l)) (ev_maxL (K := K) (ns := sms s l ++ (tri s).map (tsum s l)) (EvN.toD (en_is (en_cat (eq_var rfl h5 (ints_dpa _)) (eq_vals rfl h6) ?_) ?_)) h0 (mxl_mem h0) fun y hy => mxl_ge hy) fun H5 e5 => ?_
  · rw [List.length_map, List.length_map, List.length_map, tsd, List.length_map]
    omega
  · rw [dI, dI, dI, ← List.map_append, tsd, List.map_map]
    rfl
  show tSeq _ _ _ [c0, c1, c2, c3, some v4, some (.ref r5), some (.ref r6), c7, c8, c9, c10, c11, c12, some (.ref a), some (.int (need s l)), c15, c16, some (.int s), c18, c19, c20] H5
  have d4 := dp_ex e5 _ _ d4
  have h5 := e5 _ _ h5
  have h6 := e5 _ _ h6
  have f3 := fine_two (fine_int (i := need s l) (sml_of (by omega) (by omega)))
  refine q_when (b := false) (et_test (ev_neS (x := (PyData.list [.int (need s l), .int (need s l)]).shown)
    (ev_repr (EvN.toD (en_lst (eda_cons (ed_callR (R := R_plain_need) (B := B_plain CB CL) (args rfl rfl d4) rfl ⟨s, l, rfl, h1, h2, hl, rfl⟩) (eda_cons (ed_callKR (R := R_plain_need) (B := B_plain CB CL) (argR rfl rfl d4) ⟨s, l, rfl, h1, h2, hl, rfl⟩) eda_nil)) (by simp))) f3 (by decide) (by decide))
    (ev_repr (EvN.toD (en_lst (eda_cons (ed_int (ev_var rfl)) (eda_cons (ed_int (ev_var rfl)) eda_nil)) (by simp))) f3 (by decide) (by decide)))) (fun z => nomatch z) fun _ H6 e6 => ?_
  have d4 := dp_ex e6 _ _ d4
  have h5 := e6 _ _ h5
  have h6 := e6 _ _ h6
  have hs0 : 0 < (sms s l).length := by omega
  have half := need_half h1 h2 hl
  refine q_when (b := decide (3 * mxl (sms s l) < 2 * need s l) || false) (et_or (et_test (ev_op (ev_op ev_c (ev_var rfl) (rv_I (.inl ⟨by decide, by decide⟩))) (ev_op ev_c (ev_maxL (K := K) (EvQ.toD (eq_var rfl h5 (ints_dpa _))) hs0 (mxl_mem hs0) fun y hy => mxl_ge hy) (rv_I (.inl ⟨by decide, by decide⟩))) rv_I0)) fun _ =>
    et_test (ev_neS (ev_reprT (ek_call h1 h2 hl (args rfl rfl d4)) fs (by decide) (by decide)) (ev_reprT (ek_var rfl h6) fs (by decide) (by decide)))) (fun z => ?_) fun _ H7 e7 => ?_
  · rw [Bool.or_false, decide_eq_true_eq] at z
    omega
  · exact q _ _ H7 (((e4.trans e5).trans e6).trans e7)
end
end K16
set_option Elab.async false
set_option linter.all false
set_option maxRecDepth 100000
set_option maxHeartbeats 4000000
namespace K16
open PySem PySem.Spec PyProof.Rows L2 Evl DL
open LamX
local macro_rules | `(tactic| walk_at "dl") => `(tactic| first
  | exact ev_c | exact ev_var rfl | exact eda_nil
  | exact ed_var rfl (by assumption)
  | exact ed_int ev_c | exact ed_int (ev_var rfl)
  | (refine eda_cons ?_ ?_ <;> walk_at "dl")
  | (refine ed_int ?_; walk_at "dl")
  | (refine ev_op ?_ ?_ rv_I0 <;> walk_at "dl"))
section
variable {K : PySem.W.Frag} {H : Hp} {tz : TS} {D : Ends} {c0 c1 c2 c3 c4 c5 c6 c7 c8 c9 c10 c11 c12 c13 c14 c15 c16 c17 c18 c19 c20 : Option V} {st lg cl : Addr}
/-- a value that is data wherever it stands -/
def Lone (v : V) (d : PyData) : Prop := ∀ (K : PySem.W.Frag) (H : Hp), Dp K H v d
theorem tcons_lst {σ : L2.St} {t : TA} {Q : List V → Hp → Prop} (h : t σ H fun xs H1 => xs.length ≤ sizeLine ∧ ∀ p, H1 p = none → Q [.ref p] (L2.upd H1 p (.lst xs))) : tCons (tLst t) tNil σ H Q := h
theorem tcons_c {σ : L2.St} {v : V} {t : TA} {Q : List V → Hp → Prop} (h : t σ H fun xs H2 => Q (v :: xs) H2) : tCons (tC v) t σ H Q := h
theorem tcons_e {σ : L2.St} {te : TE} {t : TA} {Q : List V → Hp → Prop} (h : te σ H fun x H1 => t σ H1 fun xs H2 => Q (x :: xs) H2) : tCons te t σ H Q := h
theorem q_odd {n : Nat} (hn : n ≤ 9000) (hst : StK st lg cl n H) (q : ∀ v d H', Lone v d → isIn d 2 4 = false → Xp [st, lg] H H' → StK st lg cl (n + 1) H' → tz D [c0, some (.ref st), c2, c3, some v4, c5, c6, c7, c8, c9, c10, c11, c12, c13, c14, c15, some v, c17, c18, c19, c20] H') :
    tSeq (tAsg (tCall (spPick K) [] E0 (tCons (tVar 1) (tCons (tLst (tCons (tC (.int 1)) (tCons (tC (.int 5)) (tCons (tC (.bl true)) (tCons (tC .non) (tCons (tC (.str (Str.ofString "3"))) tNil)))))) tNil))) (gName 16)) tz D [c0, some (.ref st), c2, c3, some v4, c5, c6, c7, c8, c9, c10, c11, c12, c13, c14, c15, c16, c17, c18, c19, c20] H := by
  refine ⟨.ref st, rfl, by show 5 ≤ sizeLine; decide, fun p hp => ?_⟩
  have np := stk_ne hst hp
  refine ⟨st, lg, cl, n, p, _, rfl, upd_same, np.2.1, by simp, by simp, by omega, stk_ex (Ex.new hp) hst, fun r H1 hr x1 s1 => ?_⟩
  have x : Xp [st, lg] H H1 := (Xp.of_ex (Ex.new hp)).trans x1
  simp only [List.mem_cons, List.not_mem_nil, or_false] at hr
  rcases hr with rfl | rfl | rfl | rfl | rfl
  · exact q _ (.int 1) H1 (fun _ _ => .int 1) rfl x s1
  · exact q _ (.int 5) H1 (fun _ _ => .int 5) rfl x s1
  · exact q _ (.bool true) H1 (fun _ _ => .bl true) rfl x s1
  · exact q _ .none H1 (fun _ _ => .non) rfl x s1
  · exact q _ (.str (Str.ofString "3")) H1 (fun _ _ => .str _) rfl x s1
theorem cut1 (ds : List PyData) (h : ds ≠ []) : DL.cutD ds (some 1) none = ds.drop 1 := by
  cases ds with
  | nil => exact absurd rfl h
  | cons d ds =>
    unfold DL.cutD HT.sIx
    simp
theorem ldOk_len {s : Int} {ds : List PyData} (h : ds.length ≠ np s) : ldOk s (.tuple ds) = false := by
  show (decide (ds.length = np s) && _) = false
  rw [decide_eq_false h]
  rfl
theorem ldOk_hd {s : Int} {d : PyData} {ds : List PyData} (h : isIn d 0 99 = false) : ldOk s (.tuple (d :: ds)) = false := by
  show (decide _ && ((d :: ds).all fun e => isIn e 0 99)) = false
  rw [List.all_cons, h, Bool.false_and, Bool.and_false]
theorem imm_cons {d : PyData} {l : List Int} (h : imm d = true) : immAll (d :: dI l) = true := by
  rw [immAll, h, immAll_ints]
  rfl
theorem ev_neg1 {σ : L2.St} : Ev (tUn (rU fun i => V.int (-i)) (tC (.int 1))) σ H (.int (-1)) := fun H1 e Q q => ⟨1, rfl, q H1 (Ex.refl _)⟩
/-- list(t), t a tuple -/
theorem en_listOf' {σ : L2.St} {ta : TE} {ds : List PyData} (h : EvD K ta σ H (.tuple ds)) : EvN K (tCB (fun xs H Q => ∃ p ys, xs = [.ref p] ∧ (SqL K H p ys ∨ SqT K H p ys) ∧ ∀ l, H l = none → Q (.ref l) (L2.upd H l (.lst ys))) (tCons ta tNil)) σ H ds := fun H1 e Q q =>
  h H1 e _ fun v H2 e2 hv => by
    cases hv with
    | tup hs ha => exact ⟨_, _, rfl, .inr hs, fun p hp => q p _ _ (fresh_back e2 hp) (e2.trans (Ex.new hp)) upd_same (dpa_ex (Ex.new hp) _ _ ha)⟩
theorem q_wrong {n : Nat} {s : Int} {v4 : V} {l : List Int} (h1 : 2 ≤ s) (h2 : s ≤ 4) (hl : Ld s l) (d4 : Dp K H v4 (tI l)) (hn : n ≤ 9000) (hst : StK st lg cl n H)
    (q : ∀ v d H', Dp K H' v d → ldOk s d = false → Xp [st, lg] H H' → StK st lg cl (n + 1) H' → tz D [c0, some (.ref st), c2, c3, some v4, c5, c6, c7, c8, c9, c10, c11, c12, c13, c14, c15, c16, c17, some v, c19, c20] H') :
    tSeq (tAsg (tCall (spPick K) [] E0 (tCons (tVar 1) (tCons (tLst (tCons (tC .non) (tCons (tCB (fun xs H Q => ∃ p ys, xs = [.ref p] ∧ (SqL K H p ys ∨ SqT K H p ys) ∧ ∀ l, H l = none → Q (.ref l) (L2.upd H l (.lst ys))) (tCons (tVar 4) tNil)) (tCons (tOp (rCatA K) (tVar 4) (tTup (tCons (tC (.int 0)) tNil))) (tCons (tSl (rSlA K) (tVar 4) (tPart (tC (.int 1))) tNoPart) (tCons (tOp (rCatA K) (tTup (tCons (tC (.int 100)) tNil)) (tSl (rSlA K) (tVar 4) (tPart (tC (.int 1))) tNoPart)) (tCons (tOp (rCatA K) (tTup (tCons (tUn (rU fun i => V.int (-i)) (tC (.int 1))) tNil)) (tSl (rSlA K) (tVar 4) (tPart (tC (.int 1))) tNoPart)) (tCons (tOp (rCatA K) (tTup (tCons (tC (.bl true)) tNil)) (tSl (rSlA K) (tVar 4) (tPart (tC (.int 1))) tNoPart)) tNil)))))))) tNil))) (gName 18)) tz D [c0, some (.ref st), c2, c3, some v4, c5, c6, c7, c8, c9, c10, c11, c12, c13, c14, c15, c16, c17, c18, c19, c20] H := by
  have npos : 0 < l.length := by
    rw [hl.1]
    have hs' : s = 2 ∨ s = 3 ∨ s = 4 := by omega
    rcases hs' with rfl | rfl | rfl <;> decide
  have n6 : l.length ≤ 6 := by rw [hl.1]; exact (lpr_len h1 h2).2
  have ne : dI l ≠ [] := fun z => by
    have := congrArg List.length z
    rw [dI, List.length_map, List.length_nil] at this
    omega
  refine ⟨.ref st, rfl, ?_⟩
  show tCons _ _ [c0, some (.ref st), c2, c3, some v4, c5, c6, c7, c8, c9, c10, c11, c12, c13, c14, c15, c16, c17, c18, c19, c20] H _
  refine tcons_lst ?_
  refine tcons_c ?_
  refine tcons_e ?_
  refine en_listOf' (K := K) (ta := tVar 4) (ed_var rfl d4) H (Ex.refl _) _ fun pl vl H1 hpl e1 hvl dvl => ?_
  have s1 := stk_ex e1 hst
  have d41 := dp_ex e1 _ _ d4
  have npl := stk_ne hst hpl
  have cut : EvD K (tSl (rSlA K) (tVar 4) (tPart (tC (.int 1))) tNoPart) [c0, some (.ref st), c2, c3, some v4, c5, c6, c7, c8, c9, c10, c11, c12, c13, c14, c15, c16, c17, c18, c19, c20] H1 (.tuple ((dI l).drop 1)) := ed_is (ed_sl (ed_var rfl d41) (eo_some ev_c) eo_none) (by rw [cut1 _ ne])
  have rest : EvDA K (tCons (tOp (rCatA K) (tVar 4) (tTup (tCons (tC (.int 0)) tNil))) (tCons (tSl (rSlA K) (tVar 4) (tPart (tC (.int 1))) tNoPart) (tCons (tOp (rCatA K) (tTup (tCons (tC (.int 100)) tNil)) (tSl (rSlA K) (tVar 4) (tPart (tC (.int 1))) tNoPart)) (tCons (tOp (rCatA K) (tTup (tCons (tUn (rU fun i => V.int (-i)) (tC (.int 1))) tNil)) (tSl (rSlA K) (tVar 4) (tPart (tC (.int 1))) tNoPart)) (tCons (tOp (rCatA K) (tTup (tCons (tC (.bl true)) tNil)) (tSl (rSlA K) (tVar 4) (tPart (tC (.int 1))) tNoPart)) tNil))))) [c0, some (.ref st), c2, c3, some v4, c5, c6, c7, c8, c9, c10, c11, c12, c13, c14, c15, c16, c17, c18, c19, c20] H1 [.tuple (dI l ++ [.int 0]), .tuple ((dI l).drop 1), .tuple (.int 100 :: (dI l).drop 1), .tuple (.int (-1) :: (dI l).drop 1), .tuple (.bool true :: (dI l).drop 1)] :=
    eda_cons (ed_cat (ed_var rfl d41) (ed_tup (eda_cons (ed_int ev_c) eda_nil) (by simp)) (by simp; omega)) (eda_cons cut (eda_cons (ed_cat (ds := [.int 100]) (ed_tup (eda_cons (ed_int ev_c) eda_nil) (by simp)) cut (by simp; omega)) (eda_cons (ed_cat (ds := [.int (-1)]) (ed_tup (eda_cons (ed_int ev_neg1) eda_nil) (by simp)) cut (by simp; omega)) (eda_cons (ed_cat (ds := [.bool true]) (ed_tup (eda_cons (ed_bool ev_c) eda_nil) (by simp)) cut (by simp; omega)) eda_nil))))
  refine rest H1 (Ex.refl _) _ fun ws H2 e2 dws => ?_
  have lw := dpa_len dws
  refine ⟨by rw [List.length_cons, List.length_cons, lw]; show 7 ≤ sizeLine; decide, fun p hp => ?_⟩
  have s2 := stk_ex e2 s1
  have np := stk_ne s2 hp
  refine ⟨st, lg, cl, n, p, _, rfl, upd_same, np.2.1, by simp, by rw [List.length_cons, List.length_cons, lw]; simp, by omega, stk_ex (Ex.new hp) s2, fun r H3 hr x3 s3 => ?_⟩
  have ep := Ex.new (o := .lst (.non :: .ref pl :: ws)) hp
  have x : Xp [st, lg] H H3 := (Xp.of_ex ((e1.trans e2).trans ep)).trans x3
  have tx : Tx H2 H3 := (Tx.of_ex ep).trans (tx_of x3 (stk_in (stk_ex ep s2)))
  rcases List.mem_cons.mp hr with rfl | hr
  · exact q _ .none H3 .non rfl x s3
  rcases List.mem_cons.mp hr with rfl | hr
  · refine q _ (.list (dI l)) H3 ?_ rfl x s3
    obtain rfl := dpa_ints dvl
    exact .lst (sq_of (x3 _ _ (ep _ _ (e2 _ _ hvl)) (by simp [npl.1, npl.2.1]))) (ints_dpa l)
  obtain ⟨i, hi, rfl⟩ := List.getElem_of_mem hr
  obtain ⟨d, g1, g2⟩ := dpa_getV dws (List.getElem?_eq_getElem hi)
  have dl : (dI l).length = l.length := by rw [dI, List.length_map]
  have drp : (dI l).drop 1 = dI (l.drop 1) := by rw [dI, dI, List.map_drop]
  have ok : imm d = true ∧ ldOk s d = false := by
    have mem := List.mem_of_getElem? g1
    simp only [List.mem_cons, List.not_mem_nil, or_false] at mem
    rcases mem with rfl | rfl | rfl | rfl | rfl
    · have : dI l ++ [PyData.int 0] = dI (l ++ [0]) := by simp
      rw [this]
      exact ⟨imm_tI _, ldOk_len (by rw [dI, List.length_map, List.length_append, ← hl.1]; simp)⟩
    · rw [drp]
      exact ⟨imm_tI _, ldOk_len (by rw [dI, List.length_map, List.length_drop, ← hl.1]; omega)⟩
    · rw [drp]
      exact ⟨by rw [imm]; exact imm_cons (by simp [imm]), ldOk_hd (by decide)⟩
    · rw [drp]
      exact ⟨by rw [imm]; exact imm_cons (by simp [imm]), ldOk_hd (by decide)⟩
    · rw [drp]
      exact ⟨by rw [imm]; exact imm_cons (by simp [imm]), ldOk_hd (by decide)⟩
  exact q _ d H3 (dp_tx tx _ _ ok.1 g2) ok.2 x s3
end
end K16
set_option Elab.async false
set_option linter.all false
set_option maxRecDepth 100000
set_option maxHeartbeats 4000000
namespace K16
open PySem PySem.Spec PyProof.Rows L2 Evl DL
open LamX
local macro_rules | `(tactic| walk_at "dl") => `(tactic| first
  | exact ev_c | exact ev_var rfl | exact eda_nil
  | exact ed_var rfl (by assumption)
  | exact ed_int ev_c | exact ed_int (ev_var rfl)
  | (refine eda_cons ?_ ?_ <;> walk_at "dl")
  | (refine ed_int ?_; walk_at "dl")
  | (refine ev_op ?_ ?_ rv_I0 <;> walk_at "dl"))
abbrev s_law : Stmt := topS 33
abbrev N_law : List Str := ["script", "state", "turn", "pairs_here", "load", "sums_here", "threes_here", "side", "one", "other", "last", "three", "some", "told", "due", "work", "odd", "sides_here", "wrong", "pair", "number"]
theorem sc_law : FnScope N_law ["script"] (defScope s_law) := ⟨rfl, rfl, rfl, by decide +kernel, rfl, by decide +kernel, by decide +kernel⟩
/-- the name that the law's lambdas bear -/
def lamQ : Str := (envOfC "law" (defScope s_law) 0 0 .none).qual ++ "<lambda>"
def lamT (tb : Addr) : List (Addr × Str) := [(tb, lamQ)]
def spLaw (K : PySem.W.Frag) (tb : Addr) : Sp := fun vs H Q _ => ∃ (a : Addr) (ns : List Int), vs = [.ref a] ∧ SqL K H a (ns.map V.int) ∧ ns.length ≤ 63 ∧ H tb = some (.tbl #[]) ∧ ∀ H', Q (.bl true) H'
section
variable {P : Program} {w : World} {K : PySem.W.Frag} {mg : Str → Option Value} {base : Heap}

theorem stk_extn {st lg cl : Addr} {n : Nat} {H H' : Hp} (e : ExtN H H') (h : StK st lg cl n H) : StK st lg cl n H' := by
  obtain ⟨l, t, xs, cs, h1, h2, h3, h4⟩ := h
  exact ⟨l, t, xs, cs, e _ _ h1 (fun _ z => nomatch z), e _ _ h2 (fun _ z => nomatch z), e _ _ h3 (fun _ z => nomatch z), h4⟩
theorem stk_xp {st lg cl : Addr} {n : Nat} {S : List Addr} {H H' : Hp} (x : Xp S H H') (n1 : st ∉ S) (n2 : lg ∉ S) (n3 : cl ∉ S) (h : StK st lg cl n H) : StK st lg cl n H' := by
  obtain ⟨l, t, xs, cs, h1, h2, h3, h4⟩ := h
  exact ⟨l, t, xs, cs, x _ _ h1 n1, x _ _ h2 n2, x _ _ h3 n3, h4⟩
theorem gN {i : Nat} {x : V} {σ : L2.St} {H : Hp} {Q : L2.St → Hp → Prop} (h : Q (σ.set i (some x)) H) : gName i x σ H Q := h
theorem ok_law {f : Addr} {fd : FuncData} {cc : Addr} (F : FunC K "law" "law" s_law f fd cc) (T : Txt mg) {tb CS CB CL : Addr} {hq : Str} (TB : TabB base mg cc tb) (CA : CauF K mg "_law_caught" CS) (GB : ErC K mg "BadSides" CB) (GL : ErC K mg "BadLoad" CL)
    (kCB : PySem.W.exmOne K (.ref CB) (.ref CS) = some true) (kCL : PySem.W.exmOne K (.ref CL) (.ref CS) = some true) (iBB : PySem.W.kitOne K (.ref CB) (.ref CB) = some true) (iLL : PySem.W.kitOne K (.ref CL) (.ref CL) = some true) (eB : ExcC K CB) (eL : ExcC K CL)
    (D__law_begun : DF P w K mg base "_law_begun" 1 ["script"] (spBegun K)) (D__law_draw : DF P w K mg base "_law_draw" 1 ["state", "size_here"] (spDraw K)) (D__law_pick : DF P w K mg base "_law_pick" 2 ["state", "several"] (spPick K)) (D__law_pairs : DF P w K mg base "_law_pairs" 1 ["sides_here"] (spN K 1 R_law_pairs))
    (D_side_sums : DFX P w K mg base "side_sums" 5 ["sides", "load"] (spR K 2 R_side_sm (B_plain CB CL))) (D_triangle_sums : DFX P w K mg base "triangle_sums" 5 ["sides", "load"] (spTS K CB CL)) (D_plain_need : DFX P w K mg base "plain_need" 5 ["sides", "load"] (spR K 2 R_plain_need (B_plain CB CL)))
    (DK_side_sums : DFK P w K mg base (L2.CX P w) "side_sums" 5 ["sides", "load"] (spR K 2 R_side_sm (B_plain CB CL))) (DK_triangle_sums : DFK P w K mg base (L2.CX P w) "triangle_sums" 5 ["sides", "load"] (spTS K CB CL)) (DK_plain_need : DFK P w K mg base (L2.CX P w) "plain_need" 5 ["sides", "load"] (spR K 2 R_plain_need (B_plain CB CL))) :
    FnG P w K mg base (L2.CX P w) 10 f fd ["script"] (spLaw K tb) := by
  refine okC F sc_law (fun vs H Q E h => by obtain ⟨_, _, rfl, _⟩ := h; rfl) (fun A outer s0 H vs Q E hg hr h => ?_)
  obtain ⟨a, ns, rfl, hs, hl, htb, k⟩ := h
  have hmT : (tb, lamQ) ∈ lamT tb := List.mem_singleton.mpr rfl
  have huT : ∀ p ∈ lamT tb, p.1 = tb → p.2 = lamQ := fun p hp _ => by rw [List.mem_singleton.mp hp]
  refine ⟨_, (pss_cons (ps_set (i := 1) sc_law.nd rfl (.inr rfl) (pe_D D__law_begun (hr.mono (by decide)) (by rfl) (pa_cons (pv 0) pa_nil)))
      (pss_cons (ps_for (passes_of rfl) rfl (pi_range1 (by rfl) T.b_range (pa_cons (pe_op op_add pe_int (pe_callB (call_min2 rfl) (by rfl) T.b_min (by decide +kernel) (pa_cons (pe_callB call_len_seq (by rfl) T.b_len PySem.boot_len (pa_cons (pv 0) pa_nil)) (pa_cons pe_int pa_nil)))) pa_nil)) (pg_name (i := 2) sc_law.nd rfl (Or.inl rfl)) (pss_cons (ps_set (i := 17) sc_law.nd rfl (.inr rfl) (pe_op op_add pe_int (pe_D D__law_draw (hr.mono (by decide)) (by rfl) (pa_cons (pv 1) (pa_cons pe_int pa_nil)))))
      (pss_cons (ps_set (i := 3) sc_law.nd rfl (.inl rfl) (pe_D D__law_pairs (hr.mono (by decide)) (by rfl) (pa_cons (pv 17) pa_nil)))
      (pss_cons (ps_set (i := 4) sc_law.nd rfl (.inl rfl) (pe_callTy call_tuple_of (by rfl) T.b_tuple (by decide +kernel) (pa_cons (pe_lc (own := [("pair", 19)]) (g := (gName 19)) (tt := tYes) rfl sc_law.nd (pi_list (pv 3)) (blkOk_by (N := N_law) (sc := defScope s_law) (by decide +kernel)) (fun _ _ _ _ _ => (pg_name (i := 19) sc_law.nd rfl (Or.inl rfl))) (fun _ _ _ _ _ => pts_nil) (fun _ _ _ _ _ => (pe_D D__law_pick (hr.mono (by decide)) (by rfl) (pa_cons (pv 1) (pa_cons (pe_lst (pa_cons pe_int (pa_cons pe_int (pa_cons pe_int (pa_cons (pe_D D__law_draw (hr.mono (by decide)) (by rfl) (pa_cons (pv 1) (pa_cons pe_int pa_nil))) (pa_cons (pe_D D__law_draw (hr.mono (by decide)) (by rfl) (pa_cons (pv 1) (pa_cons pe_int pa_nil))) pa_nil)))))) pa_nil))))) pa_nil)))
      (pss_cons (ps_par (i := 5) (j := 6) (by rfl) sc_law.nd rfl rfl (by decide) rfl rfl (pa_cons (pe_lst pa_nil) (pa_cons pe_dnewT pa_nil)) (by rfl))
      (pss_cons (ps_for (passes_of rfl) rfl (pi_range1 (by rfl) T.b_range (pa_cons (pv 17) pa_nil)) (pg_name (i := 7) sc_law.nd rfl (Or.inr rfl)) (pss_one (ps_expr (pe_bm PySem.F.plainAttrs_list PySem.F.slot_list_append PySem.F.type_list_append mt_append (pv 5) (pa_cons (pe_callB (cr_sum rfl) (by rfl) T.b_sum (by decide +kernel) (pa_cons (pe_lc (own := [("number", 20), ("pair", 19)]) (g := (gTup K 2 (gCons (gName 20) (gCons (gName 19) gNil)))) (tt := _) rfl sc_law.nd (pi_zipM true false (by rfl) T.b_zip (pa_cons (pv 4) (pa_cons (pv 3) pa_nil))) (blkOk_by (N := N_law) (sc := defScope s_law) (by decide +kernel)) (fun _ _ _ _ _ => (pg_tup rfl (pgs_cons (pg_name (i := 20) sc_law.nd rfl (Or.inl rfl)) (pgs_cons (pg_name (i := 19) sc_law.nd rfl (Or.inl rfl)) pgs_nil)))) (fun _ _ _ _ _ => (pts_one (pt_cmpR (op_inK K rfl) (pv 7) (pv 19) (by rfl)))) (fun _ _ _ _ _ => (pv 20))) pa_nil)) pa_nil)))))
      (pss_cons (ps_for (passes_of rfl) rfl (pi_list (pv 3)) (pg_tup rfl (pgs_cons (pg_name (i := 8) sc_law.nd rfl (Or.inl rfl)) (pgs_cons (pg_name (i := 9) sc_law.nd rfl (Or.inl rfl)) pgs_nil))) (pss_one (ps_for (passes_of rfl) rfl (pi_range2 (by rfl) T.b_range (pa_cons (pe_op op_add (pv 9) pe_int) (pa_cons (pv 17) pa_nil))) (pg_name (i := 10) sc_law.nd rfl (Or.inl rfl)) (pss_cons (ps_set (i := 11) sc_law.nd rfl (.inr rfl) (pe_tup (pa_cons (pv 8) (pa_cons (pv 9) (pa_cons (pv 10) pa_nil)))))
      (pss_cons (ps_setLc (i := 12) (own := [("number", 20), ("pair", 19)]) (g := (gTup K 2 (gCons (gName 20) (gCons (gName 19) gNil)))) (tt := _) rfl sc_law.nd rfl rfl (sw_true rfl rfl rfl (by decide +kernel)) (pi_zipM true false (by rfl) T.b_zip (pa_cons (pv 4) (pa_cons (pv 3) pa_nil))) (blkOk_by (N := N_law) (sc := defScope s_law) (by decide +kernel)) (fun _ _ _ _ _ => (pg_tup rfl (pgs_cons (pg_name (i := 20) sc_law.nd rfl (Or.inl rfl)) (pgs_cons (pg_name (i := 19) sc_law.nd rfl (Or.inl rfl)) pgs_nil)))) (fun _ _ _ _ _ => (pts_one (PW.pt (pw_and (pt_cmpR (op_inK K rfl) (pe_ix (ix_tupK K rfl) (pv 19) pe_int (fun _ _ => rfl)) (pv 11) (by rfl)) (pw_and1 (pt_cmpR (op_inK K rfl) (pe_ix (ix_tupK K rfl) (pv 19) pe_int (fun _ _ => rfl)) (pv 11) (by rfl))))))) (fun _ _ _ _ _ => (pv 20)))
      (pss_one (ps_dput (hu_of hr) (pv 6) (pv 11) (pe_callB (cr_sum rfl) (by rfl) T.b_sum (by decide +kernel) (pa_cons (pv 12) pa_nil)) rfl)))))))
      (pss_cons (ps_if (pt_cmpR op_ne (pe_callB (call_repr hg (hu100 hr)) (by rfl) T.b_repr (by decide +kernel) (pa_cons (pe_lst (pa_cons (pe_DX D_side_sums (E := fun _ _ _ => False) (takes_of rfl rfl rfl rfl) (fun _ _ _ _ h => h.elim) (hr.mono (by decide)) (by rfl) (pa_cons (pv 17) (pa_cons (pv 4) pa_nil))) (pa_cons (pe_DK DK_side_sums (takes_of rfl rfl rfl rfl) (fun _ _ _ _ h => h.elim) (E := fun _ _ _ => False) (hr.mono (by decide)) (by rfl) (pk_cons (pv 4) (pk_cons (pv 17) pk_nil))) pa_nil))) pa_nil)) (pe_callB (call_repr hg (hu100 hr)) (by rfl) T.b_repr (by decide +kernel) (pa_cons (pe_op op_rep (pe_lst (pa_cons (pe_callTy call_tuple_of (by rfl) T.b_tuple (by decide +kernel) (pa_cons (pv 5) pa_nil)) pa_nil)) pe_int) pa_nil)) (nomark _)) (pss_one (ps_ret pe_bl)) pss_nil)
      (pss_cons (ps_set (i := 13) sc_law.nd rfl (.inl rfl) (pe_DX D_triangle_sums (E := fun _ _ _ => False) (takes_of rfl rfl rfl rfl) (fun _ _ _ _ h => h.elim) (hr.mono (by decide)) (by rfl) (pa_cons (pv 17) (pa_cons (pv 4) pa_nil))))
      (pss_cons (ps_if (pt_cmpR op_ne (pe_callB (call_reprLT hg (hu100 hr)) (by rfl) T.b_repr (by decide +kernel) (pa_cons (pe_lst (pa_cons (pv 13) (pa_cons (pe_DK DK_triangle_sums (takes_of rfl rfl rfl rfl) (fun _ _ _ _ h => h.elim) (E := fun _ _ _ => False) (hr.mono (by decide)) (by rfl) (pk_cons (pv 4) (pk_cons (pv 17) pk_nil))) pa_nil))) pa_nil)) (pe_callB (call_reprLT hg (hu100 hr)) (by rfl) T.b_repr (by decide +kernel) (pa_cons (pe_lst (pa_cons (pv 6) (pa_cons (pv 6) pa_nil))) pa_nil)) (nomark _)) (pss_one (ps_ret pe_bl)) pss_nil)
      (pss_cons (ps_expr (pe_bm0 PySem.F.plainAttrs_dict PySem.F.slot_dict_clear PySem.F.type_dict_clear mt_clearT (pv 13)))
      (pss_cons (ps_set (i := 14) sc_law.nd rfl (.inl rfl) (pe_callB (cr_max rfl) (by rfl) T.b_max (by decide +kernel) (pa_cons (pe_op op_cat (pv 5) (pe_callTy (call_listVT rfl) (by rfl) T.b_list (by decide +kernel) (pa_cons (pe_bm0 PySem.F.plainAttrs_dict PySem.F.slot_dict_values PySem.F.type_dict_values mt_valsT (pv 6)) pa_nil))) pa_nil)))
      (pss_cons (ps_if (pt_cmpR op_ne (pe_callB (call_repr hg (hu100 hr)) (by rfl) T.b_repr (by decide +kernel) (pa_cons (pe_lst (pa_cons (pe_DX D_plain_need (E := fun _ _ _ => False) (takes_of rfl rfl rfl rfl) (fun _ _ _ _ h => h.elim) (hr.mono (by decide)) (by rfl) (pa_cons (pv 17) (pa_cons (pv 4) pa_nil))) (pa_cons (pe_DK DK_plain_need (takes_of rfl rfl rfl rfl) (fun _ _ _ _ h => h.elim) (E := fun _ _ _ => False) (hr.mono (by decide)) (by rfl) (pk_cons (pv 4) (pk_cons (pv 17) pk_nil))) pa_nil))) pa_nil)) (pe_callB (call_repr hg (hu100 hr)) (by rfl) T.b_repr (by decide +kernel) (pa_cons (pe_lst (pa_cons (pv 14) (pa_cons (pv 14) pa_nil))) pa_nil)) (nomark _)) (pss_one (ps_ret pe_bl)) pss_nil)
      (pss_cons (ps_if (PW.pt (pw_or (pt_cmpR op_gt (pe_op op_mul pe_int (pv 14)) (pe_op op_mul pe_int (pe_callB (cr_max rfl) (by rfl) T.b_max (by decide +kernel) (pa_cons (pv 5) pa_nil))) (nomark _)) (pw_or1 (pt_cmpR op_ne (pe_callB (call_reprT hg (hu100 hr)) (by rfl) T.b_repr (by decide +kernel) (pa_cons (pe_DX D_triangle_sums (E := fun _ _ _ => False) (takes_of rfl rfl rfl rfl) (fun _ _ _ _ h => h.elim) (hr.mono (by decide)) (by rfl) (pa_cons (pv 17) (pa_cons (pv 4) pa_nil))) pa_nil)) (pe_callB (call_reprT hg (hu100 hr)) (by rfl) T.b_repr (by decide +kernel) (pa_cons (pv 6) pa_nil)) (nomark _))))) (pss_one (ps_ret pe_bl)) pss_nil)
      (pss_cons (ps_set (i := 16) sc_law.nd rfl (.inr rfl) (pe_D D__law_pick (hr.mono (by decide)) (by rfl) (pa_cons (pv 1) (pa_cons (pe_lst (pa_cons pe_int (pa_cons pe_int (pa_cons pe_bl (pa_cons pe_non (pa_cons pe_str pa_nil)))))) pa_nil))))
      (pss_cons (ps_set (i := 18) sc_law.nd rfl (.inr rfl) (pe_D D__law_pick (hr.mono (by decide)) (by rfl) (pa_cons (pv 1) (pa_cons (pe_lst (pa_cons pe_non (pa_cons (pe_callTy call_list_of (by rfl) T.b_list (by decide +kernel) (pa_cons (pv 4) pa_nil)) (pa_cons (pe_op op_catA (pv 4) (pe_tup (pa_cons pe_int pa_nil))) (pa_cons (pe_slice sl_tupA (pv 4) (po_some pe_int) po_none) (pa_cons (pe_op op_catA (pe_tup (pa_cons pe_int pa_nil)) (pe_slice sl_tupA (pv 4) (po_some pe_int) po_none)) (pa_cons (pe_op op_catA (pe_tup (pa_cons (pe_un un_neg pe_int) pa_nil)) (pe_slice sl_tupA (pv 4) (po_some pe_int) po_none)) (pa_cons (pe_op op_catA (pe_tup (pa_cons pe_bl pa_nil)) (pe_slice sl_tupA (pv 4) (po_some pe_int) po_none)) pa_nil)))))))) pa_nil))))
      (pss_cons (ps_for (passes_of rfl) rfl (pi_list (pe_lst (pa_cons (pe_lamV TB rfl hmT huT (lamS_by (by show lamSB (defScope s_law) _ = true; decide +kernel)) rfl) (pa_cons (pe_lamV TB rfl hmT huT (lamS_by (by show lamSB (defScope s_law) _ = true; decide +kernel)) rfl) (pa_cons (pe_lamV TB rfl hmT huT (lamS_by (by show lamSB (defScope s_law) _ = true; decide +kernel)) rfl) pa_nil))))) (pg_name (i := 15) sc_law.nd rfl (Or.inl rfl)) (pss_one (ps_if (pt_not (pt_val (pe_callB call_isK (by rfl) T.b_isinstance (by decide +kernel) (pa_cons (pe_caughtD (k := 7) (j := 15) CA rfl hr rfl (.inl rfl)) (pa_cons (pe_cls GB (by rfl)) pa_nil))))) (pss_one (ps_ret pe_bl)) pss_nil)))
      (pss_one (ps_for (passes_of rfl) rfl (pi_list (pe_lst (pa_cons (pe_lamV TB rfl hmT huT (lamS_by (by show lamSB (defScope s_law) _ = true; decide +kernel)) rfl) (pa_cons (pe_lamV TB rfl hmT huT (lamS_by (by show lamSB (defScope s_law) _ = true; decide +kernel)) rfl) (pa_cons (pe_lamV TB rfl hmT huT (lamS_by (by show lamSB (defScope s_law) _ = true; decide +kernel)) rfl) pa_nil))))) (pg_name (i := 15) sc_law.nd rfl (Or.inl rfl)) (pss_one (ps_if (pt_not (pt_val (pe_callB call_isK (by rfl) T.b_isinstance (by decide +kernel) (pa_cons (pe_caughtD (k := 7) (j := 15) CA rfl hr rfl (.inl rfl)) (pa_cons (pe_cls GL (by rfl)) pa_nil))))) (pss_one (ps_ret pe_bl)) pss_nil)))))))))))))))))))))
      (pss_one (ps_ret pe_bl)))), ?_⟩
  have tabs0 : Tabs (lamT tb) H := fun p hp => by
    rw [List.mem_singleton.mp hp]
    exact ⟨#[], htb, by simp [TriplesOk], fun pos cv z => by simp [codeAmong] at z⟩
  refine ⟨.ref a, rfl, a, ns, rfl, hs, hl, fun st lg cl H1 hst hlg e1 s1 => ?_⟩
  have sA : SqL K H1 a (ns.map V.int) := ex_l e1 hs
  have tabs1 := tabs_ex tabs0 e1
  refine r_for (K := K) (n := 4 + min (ns.length : Int) 8) (eda_cons (ed_int (ev_op ev_c (ev_min2 (ev_is (ev_len (K := K) (ev_var rfl) sA) (by rw [List.length_map])) ev_c) rv_I0)) eda_nil) ⟨by omega, by omega⟩
    (fun i σ' Ha => StK st lg cl (30 * i) Ha ∧ Tabs (lamT tb) Ha ∧ ∃ c2 c3 c4 c5 c6 c7 c8 c9 c10 c11 c12 c13 c14 c15 c16 c17 c18 c19 c20, σ' = [some (.ref a), some (.ref st), c2, c3, c4, c5, c6, c7, c8, c9, c10, c11, c12, c13, c14, c15, c16, c17, c18, c19, c20]) (fun H2 e2 => ⟨stk_ex e2 s1, tabs_ex tabs1 e2, none, none, none, none, none, none, none, none, none, none, none, none, none, none, none, none, none, none, none, rfl⟩) ?_ ?_
  · rintro i σ' Ha hi ⟨s2, t2, c2, c3, c4, c5, c6, c7, c8, c9, c10, c11, c12, c13, c14, c15, c16, c17, c18, c19, c20, rfl⟩
    refine ⟨.ref st, rfl, st, lg, cl, _, 3, rfl, by decide, by decide, by omega, s2, fun r3 H3 r0 r1 x3 s3 => ⟨2, r3, rfl, rfl, ?_⟩⟩
    have t3 := tabs_xp t2 x3 (stk_in s2)
    obtain ⟨s, hs2⟩ : ∃ s, s = 2 + r3 := ⟨_, rfl⟩
    have h1 : 2 ≤ s := by omega
    have h2 : s ≤ 4 := by omega
    refine gN (i := 17) ?_
    dsimp only [List.set_cons_succ, List.set_cons_zero]
    rw [← hs2]
    show tSeq _ _ _ [some (.ref a), some (.ref st), some (.int (i : Int)), c3, c4, c5, c6, c7, c8, c9, c10, c11, c12, c13, c14, c15, c16, some (.int s), c18, c19, c20] H3
    refine qn_asg (K := K) (en_call (R := R_law_pairs) (ds := [.int s]) (by walk_at "dl") rfl ⟨s, rfl, h1, h2, rfl⟩) fun p vs H4 hp e4 hv dv => ?_
    show tSeq _ _ _ [some (.ref a), some (.ref st), some (.int (i : Int)), some (.ref p), c4, c5, c6, c7, c8, c9, c10, c11, c12, c13, c14, c15, c16, some (.int s), c18, c19, c20] H4
    have s4 := stk_ex e4 s3
    have t4 := tabs_ex t3 e4
    have np := stk_ne s3 hp
    have lp := lpr_len h1 h2
    have lv : vs.length = K16.np s := (dpa_len dv).trans lp.1
    refine q_load (K := K) hv lv lp.2 (by omega) s4 np.2.1 fun l v4 H5 hld x5 s5 d4 => ?_
    have t5 := tabs_xp t4 x5 (stk_in s4)
    have hv := x5 _ _ hv (by simp [np.1, np.2.1])
    have dv := dpa_tx (stk_tx s4 x5) _ _ (lpr_imm s) dv
    refine ⟨Nat.zero_le _, fun r5 hr5 r6 hr6 => ⟨.ref r5, .ref r6, rfl, ?_⟩⟩
    show tSeq _ _ _ [some (.ref a), some (.ref st), some (.int (i : Int)), some (.ref p), some v4, some (.ref r5), some (.ref r6), c7, c8, c9, c10, c11, c12, c13, c14, c15, c16, some (.int s), c18, c19, c20] _
    have ex6 := (Ex.new (o := .lst []) hr5).trans (Ex.new (o := .dT []) hr6)
    have n65 : r5 ≠ r6 := fun z => by rw [← z, upd_same] at hr6; cases hr6
    have a5 : L2.upd (L2.upd H5 r5 (.lst [])) r6 (.dT []) r5 = some (.lst []) := by rw [upd_ne n65, upd_same]
    have a6 : L2.upd (L2.upd H5 r5 (.lst [])) r6 (.dT []) r6 = some (.dT []) := upd_same
    generalize L2.upd (L2.upd H5 r5 (.lst [])) r6 (.dT []) = H6 at *
    have s6 := stk_ex ex6 s5
    have t6 := tabs_ex t5 ex6
    have d4 := dp_ex ex6 _ _ d4
    have hv5 := hv
    have hv := ex6 _ _ hv
    have dv := dpa_ex ex6 _ _ dv
    have np5 : p ≠ r5 := fun z => by rw [z, hr5] at hv5; cases hv5
    have ne5 := stk_ne s5 hr5
    refine q_sums (K := K) (p := p) (r := r5) h1 h2 hld hv dv a5 np5 d4 fun c7' H7 x7 h57 => ?_
    have in5 : ∀ b ∈ [r5], (∃ l, H6 b = some (.lst l)) ∨ (∃ l, H6 b = some (.dK l)) ∨ (∃ l, H6 b = some (.dT l)) ∨ H6 b = none := fun b hb => .inl ⟨[], by rw [List.mem_singleton.mp hb]; exact a5⟩
    have tx7 := tx_of x7 in5
    have t7 := tabs_xp t6 x7 in5
    have s7 := stk_xp x7 (by simp [Ne.symm ne5.1]) (by simp [Ne.symm ne5.2.1]) (by simp [Ne.symm ne5.2.2]) s6
    have d4 := dp_tx tx7 _ _ (imm_tI _) d4
    have dv := dpa_tx tx7 _ _ (lpr_imm s) dv
    have hv := x7 _ _ hv (by simp [np5])
    have a6 := x7 _ _ a6 (by simp [Ne.symm n65])
    refine q_tris (K := K) (p := p) (r := r6) h1 h2 hld hv dv a6 d4 fun c8' c9' c10' c11' c12' H8 x8 h68 => ?_
    have in6 : ∀ b ∈ [r6], (∃ l, H7 b = some (.lst l)) ∨ (∃ l, H7 b = some (.dK l)) ∨ (∃ l, H7 b = some (.dT l)) ∨ H7 b = none := fun b hb => .inr (.inr (.inl ⟨[], by rw [List.mem_singleton.mp hb]; exact a6⟩))
    have tx8 := tx_of x8 in6
    have t8 := tabs_xp t7 x8 in6
    have ne6 : r6 ≠ st ∧ r6 ≠ lg ∧ r6 ≠ cl := by
      obtain ⟨_, _, _, _, k1, k2, k3, _⟩ := s5
      have m5 : ∀ b u, H5 b = some u → b ≠ r6 := fun b u hb z => by
        rw [z] at hb
        by_cases e : r6 = r5
        · exact n65 e.symm
        · rw [upd_ne e, hb] at hr6
          cases hr6
      exact ⟨fun z => m5 _ _ k1 z.symm, fun z => m5 _ _ k2 z.symm, fun z => m5 _ _ k3 z.symm⟩
    have s8 := stk_xp x8 (by simp [Ne.symm ne6.1]) (by simp [Ne.symm ne6.2.1]) (by simp [Ne.symm ne6.2.2]) s7
    have d4 := dp_tx tx8 _ _ (imm_tI _) d4
    have h58 := x8 _ _ h57 (by simp [n65])
    refine q_checks (K := K) (CB := CB) (CL := CL) h1 h2 hld d4 h58 h68 fun c13' c14' H9 e9 => ?_
    have s9 := stk_ex e9 s8
    have t9 := tabs_ex t8 e9
    have d4 := dp_ex e9 _ _ d4
    refine q_odd (K := K) (by omega) s9 fun w16 d16 H10 lone hin x10 s10 => ?_
    have t10 := tabs_xp t9 x10 (stk_in s9)
    have d4 := dp_tx (stk_tx s9 x10) _ _ (imm_tI _) d4
    refine q_wrong (K := K) h1 h2 hld d4 (by omega) s10 fun w18 d18 H11 dw ok x11 s11 => ?_
    have t11 := tabs_xp t10 x11 (stk_in s10)
    refine q_asgD ?_
    refine d_lams (X := (cxOf (L2.CX P w) P w K mg base N_law "law" (defScope s_law) f (.ref cc) A outer s0 H E)) (T := lamT tb) (C := CB) (CS := CS) (k := 7) (g1 := (fun E => tCall (spR K 2 R_side_sm (B_plain CB CL)) [] E (tCons (tVar 16) (tCons (tVar 18) tNil)))) (g2 := (fun E => tCall (spTS K CB CL) [] E (tCons (tVar 16) (tCons (tVar 18) tNil)))) (g3 := (fun E => tCall (spR K 2 R_plain_need (B_plain CB CL)) [] E (tCons (tVar 16) (tCons (tVar 18) tNil)))) t11 kCB iBB eB (by simp)
      ⟨lamS_by (by show lamSB (defScope s_law) _ = true; decide +kernel), fun _ _ _ _ _ => rfl, fun A2 outer2 s2 H2 E2 f2 c2' hr2 => pe_DX D_side_sums (takes_of rfl rfl rfl rfl) (fun _ _ _ _ h => h) (hr2.mono (by decide)) (by rfl) (pa_cons (pv 16) (pa_cons (pv 18) pa_nil))⟩
      ⟨lamS_by (by show lamSB (defScope s_law) _ = true; decide +kernel), fun _ _ _ _ _ => rfl, fun A2 outer2 s2 H2 E2 f2 c2' hr2 => pe_DX D_triangle_sums (takes_of rfl rfl rfl rfl) (fun _ _ _ _ h => h) (hr2.mono (by decide)) (by rfl) (pa_cons (pv 16) (pa_cons (pv 18) pa_nil))⟩
      ⟨lamS_by (by show lamSB (defScope s_law) _ = true; decide +kernel), fun _ _ _ _ _ => rfl, fun A2 outer2 s2 H2 E2 f2 c2' hr2 => pe_DX D_plain_need (takes_of rfl rfl rfl rfl) (fun _ _ _ _ h => h) (hr2.mono (by decide)) (by rfl) (pa_cons (pv 16) (pa_cons (pv 18) pa_nil))⟩ (fun y H1 e E2 Q2 k2 => ⟨w16, rfl, w18, rfl, [d16, d18], .cons (lone K H1) (.cons (dp_extn e _ _ dw) .nil), rfl, .inr ⟨CB, .inl ⟨d16, d18, rfl, hin, rfl⟩, fun H2 e2 => k2 H2 e2⟩⟩) (fun y H1 e E2 Q2 k2 => ⟨w16, rfl, w18, rfl, [d16, d18], .cons (lone K H1) (.cons (dp_extn e _ _ dw) .nil), rfl, .inr ⟨CB, .inl ⟨d16, d18, rfl, hin, rfl⟩, fun H2 e2 => k2 H2 e2⟩⟩) (fun y H1 e E2 Q2 k2 => ⟨w16, rfl, w18, rfl, [d16, d18], .cons (lone K H1) (.cons (dp_extn e _ _ dw) .nil), rfl, .inr ⟨CB, .inl ⟨d16, d18, rfl, hin, rfl⟩, fun H2 e2 => k2 H2 e2⟩⟩) fun y H12 e12 t12 => ?_
    have s12 := stk_extn e12 s11
    have dw2 := dp_extn e12 _ _ dw
    refine d_lams (X := (cxOf (L2.CX P w) P w K mg base N_law "law" (defScope s_law) f (.ref cc) A outer s0 H E)) (T := lamT tb) (C := CL) (CS := CS) (k := 7) (g1 := (fun E => tCall (spR K 2 R_side_sm (B_plain CB CL)) [] E (tCons (tVar 17) (tCons (tVar 18) tNil)))) (g2 := (fun E => tCall (spTS K CB CL) [] E (tCons (tVar 17) (tCons (tVar 18) tNil)))) (g3 := (fun E => tCall (spR K 2 R_plain_need (B_plain CB CL)) [] E (tCons (tVar 17) (tCons (tVar 18) tNil)))) t12 kCL iLL eL (by simp)
      ⟨lamS_by (by show lamSB (defScope s_law) _ = true; decide +kernel), fun _ _ _ _ _ => rfl, fun A2 outer2 s2 H2 E2 f2 c2' hr2 => pe_DX D_side_sums (takes_of rfl rfl rfl rfl) (fun _ _ _ _ h => h) (hr2.mono (by decide)) (by rfl) (pa_cons (pv 17) (pa_cons (pv 18) pa_nil))⟩
      ⟨lamS_by (by show lamSB (defScope s_law) _ = true; decide +kernel), fun _ _ _ _ _ => rfl, fun A2 outer2 s2 H2 E2 f2 c2' hr2 => pe_DX D_triangle_sums (takes_of rfl rfl rfl rfl) (fun _ _ _ _ h => h) (hr2.mono (by decide)) (by rfl) (pa_cons (pv 17) (pa_cons (pv 18) pa_nil))⟩
      ⟨lamS_by (by show lamSB (defScope s_law) _ = true; decide +kernel), fun _ _ _ _ _ => rfl, fun A2 outer2 s2 H2 E2 f2 c2' hr2 => pe_DX D_plain_need (takes_of rfl rfl rfl rfl) (fun _ _ _ _ h => h) (hr2.mono (by decide)) (by rfl) (pa_cons (pv 17) (pa_cons (pv 18) pa_nil))⟩ (fun y2 H1 e E2 Q2 k2 => ⟨.int s, rfl, w18, rfl, [.int s, d18], .cons (.int s) (.cons (dp_extn e _ _ dw2) .nil), rfl, .inr ⟨CL, .inr ⟨s, d18, rfl, h1, h2, ok, rfl⟩, fun H2 e2 => k2 H2 e2⟩⟩) (fun y2 H1 e E2 Q2 k2 => ⟨.int s, rfl, w18, rfl, [.int s, d18], .cons (.int s) (.cons (dp_extn e _ _ dw2) .nil), rfl, .inr ⟨CL, .inr ⟨s, d18, rfl, h1, h2, ok, rfl⟩, fun H2 e2 => k2 H2 e2⟩⟩) (fun y2 H1 e E2 Q2 k2 => ⟨.int s, rfl, w18, rfl, [.int s, d18], .cons (.int s) (.cons (dp_extn e _ _ dw2) .nil), rfl, .inr ⟨CL, .inr ⟨s, d18, rfl, h1, h2, ok, rfl⟩, fun H2 e2 => k2 H2 e2⟩⟩) fun y2 H13 e13 t13 => ?_
    exact ⟨stk_mono (by omega) (stk_extn e13 s12), t13, _, _, _, _, _, _, _, _, _, _, _, _, _, _, _, _, _, _, _, rfl⟩
  · rintro σ' Ha ⟨s2, t2, c2, c3, c4, c5, c6, c7, c8, c9, c10, c11, c12, c13, c14, c15, c16, c17, c18, c19, c20, rfl⟩
    exact k Ha
end
end K16
set_option Elab.async false
set_option linter.all false
set_option maxRecDepth 100000
set_option maxHeartbeats 0
namespace K16
open PySem PySem.Spec PyProof.Rows L2 Evl DL He LamX
abbrev s__law_caught : Stmt := topS 31
def clsB (K : PySem.W.Frag) (C : Addr) : Bool :=
  eqO (PySem.W.findIn K (.ref C) "__getattribute__") (some (some (.builtin "BaseException.__getattribute__"))) && (eqO (PySem.W.findIn K (.ref C) "__getattr__") (some none) && (PySem.W.hasDictIn K C && (eqO (PySem.W.findIn K (.ref C) "__class__") (some (some (.builtin "object.__class__"))) &&
  (decide (PySem.W.mroIn K C (.type "object") = some true) && decide (PySem.W.kitOne K (.ref C) (.ref C) = some true)))))
theorem clsB_ok {K : PySem.W.Frag} {C : Addr} (h : clsB K C = true) (e : PySem.W.subIn K (.ref C) (.type "BaseException") = some true) (n : PySem.W.specialIn K (.builtin "object.__class__") "__get__" = some (some (.builtin "getset_descriptor.__get__"))) (t : PySem.W.takesIn K (.builtin "object.__class__") = some true) :
    ExcC K C ∧ PySem.W.kitOne K (.ref C) (.ref C) = some true := by
  obtain ⟨h1, h⟩ := ba h
  obtain ⟨h2, h⟩ := ba h
  obtain ⟨h3, h⟩ := ba h
  obtain ⟨h4, h⟩ := ba h
  obtain ⟨h5, h6⟩ := ba h
  exact ⟨⟨eqO_ok h1, eqO_ok h2, e, h3, eqO_ok h4, n, t, of_decide_eq_true h5⟩, of_decide_eq_true h6⟩
theorem exc_ok {K : PySem.W.Frag} {x : Str} {mg : Str → Option Value} (g : mg x = some (.ref (ga K x))) (c : (Fa.exc x).ok K = true) : ErC K mg x (ga K x) ∧ PySem.W.subIn K (.ref (ga K x)) (.type "BaseException") = some true := by
  obtain ⟨h1, h⟩ := ba c
  obtain ⟨h2, h⟩ := ba h
  obtain ⟨h3, h4⟩ := ba h
  exact ⟨⟨g, ⟨_, PySem.F.excBase_ValueError, h1⟩, h2, of_decide_eq_true h3, of_decide_eq_true h4⟩, of_decide_eq_true h3⟩
def exA (K : PySem.W.Frag) : Bool := clsB K (ga K "BadSides") && (clsB K (ga K "BadLoad") && ((decide (PySem.W.specialIn K (.builtin "object.__class__") "__get__" = some (some (.builtin "getset_descriptor.__get__"))) && decide (PySem.W.takesIn K (.builtin "object.__class__") = some true))))
def d_0 : DefD := ⟨("_law_begun", none), "_law_begun", "_law_begun", defArgs s__law_begun, defBody s__law_begun, defScope s__law_begun, [], []⟩
def d_1 : DefD := ⟨("_law_draw", none), "_law_draw", "_law_draw", defArgs s__law_draw, defBody s__law_draw, defScope s__law_draw, [], []⟩
def d_2 : DefD := ⟨("_law_pick", none), "_law_pick", "_law_pick", defArgs s__law_pick, defBody s__law_pick, defScope s__law_pick, [], []⟩
def d_3 : DefD := ⟨("_law_pairs", none), "_law_pairs", "_law_pairs", defArgs s__law_pairs, defBody s__law_pairs, defScope s__law_pairs, [], []⟩
def d_4 : DefD := ⟨("is_number", none), "is_number", "is_number", defArgs s_is_number, defBody s_is_number, defScope s_is_number, [], []⟩
def d_5 : DefD := ⟨("is_within", none), "is_within", "is_within", defArgs s_is_within, defBody s_is_within, defScope s_is_within, [], []⟩
def d_6 : DefD := ⟨("check_sides", none), "check_sides", "check_sides", defArgs s_check_sides, defBody s_check_sides, defScope s_check_sides, [], []⟩
def d_7 : DefD := ⟨("is_tuple_of", none), "is_tuple_of", "is_tuple_of", defArgs s_is_tuple_of, defBody s_is_tuple_of, defScope s_is_tuple_of, [], []⟩
def d_8 : DefD := ⟨("many_pairs", none), "many_pairs", "many_pairs", defArgs s_many_pairs, defBody s_many_pairs, defScope s_many_pairs, [], []⟩
def d_9 : DefD := ⟨("is_load_of", none), "is_load_of", "is_load_of", defArgs s_is_load_of, defBody s_is_load_of, defScope s_is_load_of, [], []⟩
def d_10 : DefD := ⟨("check_load", none), "check_load", "check_load", defArgs s_check_load, defBody s_check_load, defScope s_check_load, [], []⟩
def d_11 : DefD := ⟨("check_plain_load", none), "check_plain_load", "check_plain_load", defArgs s_check_plain_load, defBody s_check_plain_load, defScope s_check_plain_load, [], []⟩
def d_12 : DefD := ⟨("side_pairs", none), "side_pairs", "side_pairs", defArgs s_side_pairs, defBody s_side_pairs, defScope s_side_pairs, [], []⟩
def d_13 : DefD := ⟨("sums_at_sides", none), "sums_at_sides", "sums_at_sides", defArgs s_sums_at_sides, defBody s_sums_at_sides, defScope s_sums_at_sides, [], []⟩
def d_14 : DefD := ⟨("side_sums", none), "side_sums", "side_sums", defArgs s_side_sums, defBody s_side_sums, defScope s_side_sums, [], []⟩
def d_15 : DefD := ⟨("pair_place", none), "pair_place", "pair_place", defArgs s_pair_place, defBody s_pair_place, defScope s_pair_place, [], []⟩
def d_16 : DefD := ⟨("sum_in_triangle", none), "sum_in_triangle", "sum_in_triangle", defArgs s_sum_in_triangle, defBody s_sum_in_triangle, defScope s_sum_in_triangle, [], []⟩
def d_17 : DefD := ⟨("triangles", none), "triangles", "triangles", defArgs s_triangles, defBody s_triangles, defScope s_triangles, [], []⟩
def d_18 : DefD := ⟨("triangle_sums", none), "triangle_sums", "triangle_sums", defArgs s_triangle_sums, defBody s_triangle_sums, defScope s_triangle_sums, [], []⟩
def d_19 : DefD := ⟨("need_of", none), "need_of", "need_of", defArgs s_need_of, defBody s_need_of, defScope s_need_of, [], []⟩
def d_20 : DefD := ⟨("plain_need", none), "plain_need", "plain_need", defArgs s_plain_need, defBody s_plain_need, defScope s_plain_need, [], []⟩
def d_21 : DefD := ⟨("_law_caught", none), "_law_caught", "_law_caught", defArgs s__law_caught, defBody s__law_caught, defScope s__law_caught, [], []⟩
def d_22 : DefD := ⟨("law", none), "law", "law", defArgs s_law, defBody s_law, defScope s_law, [], []⟩
def fnL : List DefD := [d_0, d_1, d_2, d_3, d_4, d_5, d_6, d_7, d_8, d_9, d_10, d_11, d_12, d_13, d_14, d_15, d_16, d_17, d_18, d_19, d_20, d_21, d_22]
def faL : List Fa := [.glo "_law_begun", .glo "_law_draw", .glo "_law_pick", .glo "_law_pairs", .glo "is_number", .glo "is_within", .glo "check_sides", .glo "is_tuple_of", .glo "many_pairs", .glo "is_load_of", .glo "check_load", .glo "check_plain_load", .glo "side_pairs", .glo "sums_at_sides", .glo "side_sums", .glo "pair_place", .glo "sum_in_triangle", .glo "triangles", .glo "triangle_sums", .glo "need_of", .glo "plain_need", .glo "_law_caught", .glo "law", .free "isinstance", .free "int", .free "bool", .free "tuple", .free "list", .free "len", .free "range", .free "zip", .free "max", .free "min", .free "sum", .free "abs", .free "repr", .free "enumerate", .int "MOST_NUMBER" 99, .int "MOST_PLAIN_SIDES" 4, .glo "BadSides", .glo "BadLoad", .glo "CallError", .exc "BadSides", .exc "BadLoad", .exm "BadSides" "CallError" true, .exm "BadLoad" "CallError" true]
def tfL : List Defn := [("law", none)]
theorem facts_law {l : PySem.W.OpenLaw} {w : World} {K : PySem.W.Frag} {h : Heap} {mg : Str → Option Value} {fa : Addr} (X : K.In h) (G : h.Ns mainGlobals mg) (hfa : mg "law" = some (.ref fa)) (c : KnownY faL fnL tfL exA h K) :
    ∃ (fd : FuncData) (cc tb : Addr), h.get? tb = some { cls := .none, data := .fields #[] } ∧ K.lookup tb = none ∧ PySem.W.CodeHd h cc tb ∧ (∀ (s : Shared) (u : Value), BindsTo s fd ⟨[u], []⟩ [("script", u)]) ∧
      ∀ base : Heap, K.In base → base.Ns mainGlobals mg → TabB base mg cc tb → FnG l.prog w K mg base (L2.CX l.prog w) 10 fa fd ["script"] (spLaw K tb) := by
  have d := c.says
  obtain ⟨xB, m⟩ := ba c.extra
  obtain ⟨xL, m⟩ := ba m
  obtain ⟨nn, tt⟩ := ba m
  have nn := of_decide_eq_true nn
  have tt := of_decide_eq_true tt
  obtain ⟨GB, uB⟩ := exc_ok (glo_ok X G (d.fact 39 (f := .glo "BadSides") rfl)) (d.fact 42 (f := .exc "BadSides") rfl)
  obtain ⟨EB, iB⟩ := clsB_ok xB uB nn tt
  have yB : PySem.W.exmOne K (.ref (ga K "BadSides")) (.ref (ga K "CallError")) = some true := of_decide_eq_true (d.fact 44 (f := .exm "BadSides" "CallError" true) rfl)
  obtain ⟨GL, uL⟩ := exc_ok (glo_ok X G (d.fact 40 (f := .glo "BadLoad") rfl)) (d.fact 43 (f := .exc "BadLoad") rfl)
  obtain ⟨EL, iL⟩ := clsB_ok xL uL nn tt
  have yL : PySem.W.exmOne K (.ref (ga K "BadLoad")) (.ref (ga K "CallError")) = some true := of_decide_eq_true (d.fact 45 (f := .exm "BadLoad" "CallError" true) rfl)
  obtain ⟨oc0, kV0, dc0, pm0, cd0, ct0, od0, an0, sl0, l0, c0, k0⟩ := fn_look (st := s__law_begun) (d.def_ 0 (d := d_0) rfl)
  have a0 := glo_ok X G (d.fact 0 (f := .glo "_law_begun") rfl)
  obtain ⟨oc1, kV1, dc1, pm1, cd1, ct1, od1, an1, sl1, l1, c1, k1⟩ := fn_look (st := s__law_draw) (d.def_ 1 (d := d_1) rfl)
  have a1 := glo_ok X G (d.fact 1 (f := .glo "_law_draw") rfl)
  obtain ⟨oc2, kV2, dc2, pm2, cd2, ct2, od2, an2, sl2, l2, c2, k2⟩ := fn_look (st := s__law_pick) (d.def_ 2 (d := d_2) rfl)
  have a2 := glo_ok X G (d.fact 2 (f := .glo "_law_pick") rfl)
  obtain ⟨oc3, kV3, dc3, pm3, cd3, ct3, od3, an3, sl3, l3, c3, k3⟩ := fn_look (st := s__law_pairs) (d.def_ 3 (d := d_3) rfl)
  have a3 := glo_ok X G (d.fact 3 (f := .glo "_law_pairs") rfl)
  obtain ⟨oc4, kV4, dc4, pm4, cd4, ct4, od4, an4, sl4, l4, c4, k4⟩ := fn_look (st := s_is_number) (d.def_ 4 (d := d_4) rfl)
  have a4 := glo_ok X G (d.fact 4 (f := .glo "is_number") rfl)
  obtain ⟨oc5, kV5, dc5, pm5, cd5, ct5, od5, an5, sl5, l5, c5, k5⟩ := fn_look (st := s_is_within) (d.def_ 5 (d := d_5) rfl)
  have a5 := glo_ok X G (d.fact 5 (f := .glo "is_within") rfl)
  obtain ⟨oc6, kV6, dc6, pm6, cd6, ct6, od6, an6, sl6, l6, c6, k6⟩ := fn_look (st := s_check_sides) (d.def_ 6 (d := d_6) rfl)
  have a6 := glo_ok X G (d.fact 6 (f := .glo "check_sides") rfl)
  obtain ⟨oc7, kV7, dc7, pm7, cd7, ct7, od7, an7, sl7, l7, c7, k7⟩ := fn_look (st := s_is_tuple_of) (d.def_ 7 (d := d_7) rfl)
  have a7 := glo_ok X G (d.fact 7 (f := .glo "is_tuple_of") rfl)
  obtain ⟨oc8, kV8, dc8, pm8, cd8, ct8, od8, an8, sl8, l8, c8, k8⟩ := fn_look (st := s_many_pairs) (d.def_ 8 (d := d_8) rfl)
  have a8 := glo_ok X G (d.fact 8 (f := .glo "many_pairs") rfl)
  obtain ⟨oc9, kV9, dc9, pm9, cd9, ct9, od9, an9, sl9, l9, c9, k9⟩ := fn_look (st := s_is_load_of) (d.def_ 9 (d := d_9) rfl)
  have a9 := glo_ok X G (d.fact 9 (f := .glo "is_load_of") rfl)
  obtain ⟨oc10, kV10, dc10, pm10, cd10, ct10, od10, an10, sl10, l10, c10, k10⟩ := fn_look (st := s_check_load) (d.def_ 10 (d := d_10) rfl)
  have a10 := glo_ok X G (d.fact 10 (f := .glo "check_load") rfl)
  obtain ⟨oc11, kV11, dc11, pm11, cd11, ct11, od11, an11, sl11, l11, c11, k11⟩ := fn_look (st := s_check_plain_load) (d.def_ 11 (d := d_11) rfl)
  have a11 := glo_ok X G (d.fact 11 (f := .glo "check_plain_load") rfl)
  obtain ⟨oc12, kV12, dc12, pm12, cd12, ct12, od12, an12, sl12, l12, c12, k12⟩ := fn_look (st := s_side_pairs) (d.def_ 12 (d := d_12) rfl)
  have a12 := glo_ok X G (d.fact 12 (f := .glo "side_pairs") rfl)
  obtain ⟨oc13, kV13, dc13, pm13, cd13, ct13, od13, an13, sl13, l13, c13, k13⟩ := fn_look (st := s_sums_at_sides) (d.def_ 13 (d := d_13) rfl)
  have a13 := glo_ok X G (d.fact 13 (f := .glo "sums_at_sides") rfl)
  obtain ⟨oc14, kV14, dc14, pm14, cd14, ct14, od14, an14, sl14, l14, c14, k14⟩ := fn_look (st := s_side_sums) (d.def_ 14 (d := d_14) rfl)
  have a14 := glo_ok X G (d.fact 14 (f := .glo "side_sums") rfl)
  obtain ⟨oc15, kV15, dc15, pm15, cd15, ct15, od15, an15, sl15, l15, c15, k15⟩ := fn_look (st := s_pair_place) (d.def_ 15 (d := d_15) rfl)
  have a15 := glo_ok X G (d.fact 15 (f := .glo "pair_place") rfl)
  obtain ⟨oc16, kV16, dc16, pm16, cd16, ct16, od16, an16, sl16, l16, c16, k16⟩ := fn_look (st := s_sum_in_triangle) (d.def_ 16 (d := d_16) rfl)
  have a16 := glo_ok X G (d.fact 16 (f := .glo "sum_in_triangle") rfl)
  obtain ⟨oc17, kV17, dc17, pm17, cd17, ct17, od17, an17, sl17, l17, c17, k17⟩ := fn_look (st := s_triangles) (d.def_ 17 (d := d_17) rfl)
  have a17 := glo_ok X G (d.fact 17 (f := .glo "triangles") rfl)
  obtain ⟨oc18, kV18, dc18, pm18, cd18, ct18, od18, an18, sl18, l18, c18, k18⟩ := fn_look (st := s_triangle_sums) (d.def_ 18 (d := d_18) rfl)
  have a18 := glo_ok X G (d.fact 18 (f := .glo "triangle_sums") rfl)
  obtain ⟨oc19, kV19, dc19, pm19, cd19, ct19, od19, an19, sl19, l19, c19, k19⟩ := fn_look (st := s_need_of) (d.def_ 19 (d := d_19) rfl)
  have a19 := glo_ok X G (d.fact 19 (f := .glo "need_of") rfl)
  obtain ⟨oc20, kV20, dc20, pm20, cd20, ct20, od20, an20, sl20, l20, c20, k20⟩ := fn_look (st := s_plain_need) (d.def_ 20 (d := d_20) rfl)
  have a20 := glo_ok X G (d.fact 20 (f := .glo "plain_need") rfl)
  obtain ⟨oc21, kV21, dc21, pm21, cd21, ct21, od21, an21, sl21, l21, c21, k21⟩ := fn_look (st := s__law_caught) (d.def_ 21 (d := d_21) rfl)
  have a21 := glo_ok X G (d.fact 21 (f := .glo "_law_caught") rfl)
  obtain ⟨oc22, kV22, dc22, pm22, cd22, ct22, od22, an22, sl22, l22, c22, k22⟩ := fn_look (st := s_law) (d.def_ 22 (d := d_22) rfl)
  have a22 := glo_ok X G (d.fact 22 (f := .glo "law") rfl)
  have e : fa = ga K "law" := Value.ref.inj (Option.some.inj (hfa.symm.trans a22))
  subst e
  obtain ⟨cc, ecc⟩ := codeIn_ref c22
  subst ecc
  obtain ⟨t1, t2, t3⟩ := c.tabs ("law", none) (List.mem_singleton.mpr rfl)
  have ec : (cT K ("law", none)).1 = cc := codeOf_eq l22 rfl
  rw [ec] at t1
  generalize (cT K ("law", none)).2 = tb at *
  have T : Txt mg := ⟨free_ok X G (d.fact 23 (f := .free "isinstance") rfl), free_ok X G (d.fact 24 (f := .free "int") rfl), free_ok X G (d.fact 25 (f := .free "bool") rfl), free_ok X G (d.fact 26 (f := .free "tuple") rfl), free_ok X G (d.fact 27 (f := .free "list") rfl), free_ok X G (d.fact 28 (f := .free "len") rfl), free_ok X G (d.fact 29 (f := .free "range") rfl), free_ok X G (d.fact 30 (f := .free "zip") rfl), free_ok X G (d.fact 31 (f := .free "max") rfl), free_ok X G (d.fact 32 (f := .free "min") rfl), free_ok X G (d.fact 33 (f := .free "sum") rfl), free_ok X G (d.fact 34 (f := .free "abs") rfl), free_ok X G (d.fact 35 (f := .free "repr") rfl), free_ok X G (d.fact 36 (f := .free "enumerate") rfl), int_ok X G (d.fact 37 (f := .int "MOST_NUMBER" 99) rfl), int_ok X G (d.fact 38 (f := .int "MOST_PLAIN_SIDES" 4) rfl)⟩
  have F0 := fun_mk (st := s__law_begun) l0 c0 k0
  have F1 := fun_mk (st := s__law_draw) l1 c1 k1
  have F2 := fun_mk (st := s__law_pick) l2 c2 k2
  have F3 := fun_mk (st := s__law_pairs) l3 c3 k3
  have F4 := fun_mk (st := s_is_number) l4 c4 k4
  have F5 := fun_mk (st := s_is_within) l5 c5 k5
  have F6 := fun_mk (st := s_check_sides) l6 c6 k6
  have F7 := fun_mk (st := s_is_tuple_of) l7 c7 k7
  have F8 := fun_mk (st := s_many_pairs) l8 c8 k8
  have F9 := fun_mk (st := s_is_load_of) l9 c9 k9
  have F10 := fun_mk (st := s_check_load) l10 c10 k10
  have F11 := fun_mk (st := s_check_plain_load) l11 c11 k11
  have F12 := fun_mk (st := s_side_pairs) l12 c12 k12
  have F13 := fun_mk (st := s_sums_at_sides) l13 c13 k13
  have F14 := fun_mk (st := s_side_sums) l14 c14 k14
  have F15 := fun_mk (st := s_pair_place) l15 c15 k15
  have F16 := fun_mk (st := s_sum_in_triangle) l16 c16 k16
  have F17 := fun_mk (st := s_triangles) l17 c17 k17
  have F18 := fun_mk (st := s_triangle_sums) l18 c18 k18
  have F19 := fun_mk (st := s_need_of) l19 c19 k19
  have F20 := fun_mk (st := s_plain_need) l20 c20 k20
  have CAF : CauF K mg "_law_caught" (ga K "CallError") := by
    have bb : L2.Binds K (PySem.W.fnOf "_law_caught" "_law_caught" (defArgs s__law_caught) (defBody s__law_caught) (defScope s__law_caught) .none kV21 dc21 pm21 an21 cd21 ct21) ["work"] [] := .all fun us hl => match us, hl with | [_], _ => rfl
    exact ⟨_, oc21, od21, an21, sl21, defScope s__law_caught, defArgs s__law_caught, .none, kV21, dc21, pm21, cd21, ct21, _, _, _, _, _, _, _, _, _, _, _, _, _, _, _, a21, k21, l21, c21, bb,
      ⟨rfl, rfl, rfl, by decide +kernel, rfl, by decide +kernel, by decide +kernel⟩, by decide +kernel, glo_ok X G (d.fact 41 (f := .glo "CallError") rfl), by decide +kernel, by decide +kernel, by decide +kernel⟩
  have FC : FunC K "law" "law" s_law _ _ cc := ⟨_, _, _, _, _, _, _, _, rfl, l22, c22⟩
  refine ⟨PySem.W.fnOf "law" "law" (defArgs s_law) (defBody s_law) (defScope s_law) .none kV22 dc22 pm22 an22 (.ref cc) ct22, cc, tb, t3, t2, PySem.W.codeHd_of_K X t1, fun s v => .of_eq rfl, fun base _ _ TB => ?_⟩
  have D0 : DF l.prog w K mg base "_law_begun" 1 ["script"] (spBegun K) := ⟨⟨_, _, ok__law_begun F0 T , a0, k0, F0.binds (ps := ["script"]) fun _ _ _ _ _ _ us hl => match us, hl with | [_], _ => rfl⟩⟩
  have D1 : DF l.prog w K mg base "_law_draw" 1 ["state", "size_here"] (spDraw K) := ⟨⟨_, _, ok__law_draw F1 T , a1, k1, F1.binds (ps := ["state", "size_here"]) fun _ _ _ _ _ _ us hl => match us, hl with | [_, _], _ => rfl⟩⟩
  have D2 : DF l.prog w K mg base "_law_pick" 2 ["state", "several"] (spPick K) := ⟨⟨_, _, ok__law_pick F2 T D1, a2, k2, F2.binds (ps := ["state", "several"]) fun _ _ _ _ _ _ us hl => match us, hl with | [_, _], _ => rfl⟩⟩
  have D3 : DF l.prog w K mg base "_law_pairs" 1 ["sides_here"] (spN K 1 R_law_pairs) := ⟨⟨_, _, ok__law_pairs F3 T , a3, k3, F3.binds (ps := ["sides_here"]) fun _ _ _ _ _ _ us hl => match us, hl with | [_], _ => rfl⟩⟩
  have D4 : DF l.prog w K mg base "is_number" 1 ["thing"] (spD K 1 R_is_number) := ⟨⟨_, _, ok_is_number F4 T , a4, k4, F4.binds (ps := ["thing"]) fun _ _ _ _ _ _ us hl => match us, hl with | [_], _ => rfl⟩⟩
  have D5 : DF l.prog w K mg base "is_within" 2 ["thing", "low", "high"] (spD K 3 R_is_within) := ⟨⟨_, _, ok_is_within F5 T D4, a5, k5, F5.binds (ps := ["thing", "low", "high"]) fun _ _ _ _ _ _ us hl => match us, hl with | [_, _, _], _ => rfl⟩⟩
  have D6 : DFX l.prog w K mg base "check_sides" 3 ["sides", "most"] (spR K 2 R_check_sides (B_check_sides (ga K "BadSides"))) := ⟨⟨_, _, ok_check_sides F6 T D5 GB, a6, k6, F6.binds (ps := ["sides", "most"]) fun _ _ _ _ _ _ us hl => match us, hl with | [_, _], _ => rfl⟩⟩
  have D7 : DF l.prog w K mg base "is_tuple_of" 1 ["thing", "many"] (spD K 2 R_is_tuple_of) := ⟨⟨_, _, ok_is_tuple_of F7 T , a7, k7, F7.binds (ps := ["thing", "many"]) fun _ _ _ _ _ _ us hl => match us, hl with | [_, _], _ => rfl⟩⟩
  have D8 : DF l.prog w K mg base "many_pairs" 1 ["sides"] (spD K 1 R_many_pairs) := ⟨⟨_, _, ok_many_pairs F8 T , a8, k8, F8.binds (ps := ["sides"]) fun _ _ _ _ _ _ us hl => match us, hl with | [_], _ => rfl⟩⟩
  have D9 : DF l.prog w K mg base "is_load_of" 2 ["sides", "thing"] (spD K 2 R_is_load_of) := ⟨⟨_, _, ok_is_load_of F9 T D7 D8, a9, k9, F9.binds (ps := ["sides", "thing"]) fun _ _ _ _ _ _ us hl => match us, hl with | [_, _], _ => rfl⟩⟩
  have D10 : DFX l.prog w K mg base "check_load" 3 ["sides", "load"] (spR K 2 R_check_load (B_check_load (ga K "BadLoad"))) := ⟨⟨_, _, ok_check_load F10 T D9 GL, a10, k10, F10.binds (ps := ["sides", "load"]) fun _ _ _ _ _ _ us hl => match us, hl with | [_, _], _ => rfl⟩⟩
  have D11 : DFX l.prog w K mg base "check_plain_load" 4 ["sides", "load"] (spR K 2 R_check_pl (B_plain (ga K "BadSides") (ga K "BadLoad"))) := ⟨⟨_, _, ok_check_plain_load F11 T D6 D10, a11, k11, F11.binds (ps := ["sides", "load"]) fun _ _ _ _ _ _ us hl => match us, hl with | [_, _], _ => rfl⟩⟩
  have D12 : DF l.prog w K mg base "side_pairs" 1 ["sides"] (spN K 1 R_side_pairs) := ⟨⟨_, _, ok_side_pairs F12 T , a12, k12, F12.binds (ps := ["sides"]) fun _ _ _ _ _ _ us hl => match us, hl with | [_], _ => rfl⟩⟩
  have D13 : DF l.prog w K mg base "sums_at_sides" 2 ["sides", "load"] (spN K 2 R_sums_at_sides) := ⟨⟨_, _, ok_sums_at_sides F13 T D12, a13, k13, F13.binds (ps := ["sides", "load"]) fun _ _ _ _ _ _ us hl => match us, hl with | [_, _], _ => rfl⟩⟩
  have D14 : DFX l.prog w K mg base "side_sums" 5 ["sides", "load"] (spR K 2 R_side_sm (B_plain (ga K "BadSides") (ga K "BadLoad"))) := ⟨⟨_, _, ok_side_sums F14 T D11 D13, a14, k14, F14.binds (ps := ["sides", "load"]) fun _ _ _ _ _ _ us hl => match us, hl with | [_, _], _ => rfl⟩⟩
  have K14 : DFK l.prog w K mg base (L2.CX l.prog w) "side_sums" 5 ["sides", "load"] (spR K 2 R_side_sm (B_plain (ga K "BadSides") (ga K "BadLoad"))) := ⟨⟨_, _, ok_side_sums F14 T D11 D13, a14, k14, DL.Fun.kwr F14 (ps := ["sides", "load"]) fun _ _ _ _ _ _ ws hl => match ws, hl with | [_, _], _ => rfl⟩⟩
  have D15 : DF l.prog w K mg base "pair_place" 1 ["sides", "side", "far"] (spD K 3 R_pair_place) := ⟨⟨_, _, ok_pair_place F15 T , a15, k15, F15.binds (ps := ["sides", "side", "far"]) fun _ _ _ _ _ _ us hl => match us, hl with | [_, _, _], _ => rfl⟩⟩
  have D16 : DF l.prog w K mg base "sum_in_triangle" 2 ["sides", "load", "three"] (spD K 3 R_sum_in_triangle) := ⟨⟨_, _, ok_sum_in_triangle F16 T D15, a16, k16, F16.binds (ps := ["sides", "load", "three"]) fun _ _ _ _ _ _ us hl => match us, hl with | [_, _, _], _ => rfl⟩⟩
  have D17 : DF l.prog w K mg base "triangles" 1 ["sides"] (spN K 1 R_triangles) := ⟨⟨_, _, ok_triangles F17 T , a17, k17, F17.binds (ps := ["sides"]) fun _ _ _ _ _ _ us hl => match us, hl with | [_], _ => rfl⟩⟩
  have DT : DF l.prog w K mg base "triangles" 1 ["sides"] (spTri K) := ⟨⟨_, _, ok_trianglesT F17 T, a17, k17, F17.binds (ps := ["sides"]) fun _ _ _ _ _ _ us hl => match us, hl with | [_], _ => rfl⟩⟩
  have D18 : DFX l.prog w K mg base "triangle_sums" 5 ["sides", "load"] (spTS K (ga K "BadSides") (ga K "BadLoad")) := ⟨⟨_, _, ok_triangle_sums F18 T D11 D16 DT, a18, k18, F18.binds (ps := ["sides", "load"]) fun _ _ _ _ _ _ us hl => match us, hl with | [_, _], _ => rfl⟩⟩
  have K18 : DFK l.prog w K mg base (L2.CX l.prog w) "triangle_sums" 5 ["sides", "load"] (spTS K (ga K "BadSides") (ga K "BadLoad")) := ⟨⟨_, _, ok_triangle_sums F18 T D11 D16 DT, a18, k18, DL.Fun.kwr F18 (ps := ["sides", "load"]) fun _ _ _ _ _ _ ws hl => match ws, hl with | [_, _], _ => rfl⟩⟩
  have D19 : DF l.prog w K mg base "need_of" 3 ["sides", "load"] (spD K 2 R_need_of) := ⟨⟨_, _, ok_need_of F19 T D16 D13 D17, a19, k19, F19.binds (ps := ["sides", "load"]) fun _ _ _ _ _ _ us hl => match us, hl with | [_, _], _ => rfl⟩⟩
  have D20 : DFX l.prog w K mg base "plain_need" 5 ["sides", "load"] (spR K 2 R_plain_need (B_plain (ga K "BadSides") (ga K "BadLoad"))) := ⟨⟨_, _, ok_plain_need F20 T D11 D19, a20, k20, F20.binds (ps := ["sides", "load"]) fun _ _ _ _ _ _ us hl => match us, hl with | [_, _], _ => rfl⟩⟩
  have K20 : DFK l.prog w K mg base (L2.CX l.prog w) "plain_need" 5 ["sides", "load"] (spR K 2 R_plain_need (B_plain (ga K "BadSides") (ga K "BadLoad"))) := ⟨⟨_, _, ok_plain_need F20 T D11 D19, a20, k20, DL.Fun.kwr F20 (ps := ["sides", "load"]) fun _ _ _ _ _ _ ws hl => match ws, hl with | [_, _], _ => rfl⟩⟩
  exact ok_law (hq := "") FC T TB CAF GB GL yB yL iB iL EB EL D0 D1 D2 D3 D14 D18 D20 K14 K18 K20
theorem cx_out {P : Program} {w : World} {H : Hp} {s s' : Shared} {e : Value} (h : L2.CX P w [] H s (fun _ _ _ => False) e s') : False := by
  obtain ⟨_, _, _, _, _, _, _, _, _, _, _, _, z⟩ := h
  exact z
abbrev RR : PySem.W.OpenRow := PySem.W.OpenLaw.row PySem.Challenge.rw_allcalls_k15_sums_at_sides_and_triangles
abbrev vq : Program := PySem.W.view RR.prog [33]
def names0 : List Str := [Str.ofString "CallError", Str.ofString "BadLoad", Str.ofString "BadSides", Str.ofString "is_number", Str.ofString "is_within", Str.ofString "is_tuple_of", Str.ofString "check_sides", Str.ofString "MOST_NUMBER", Str.ofString "side_pairs", Str.ofString "many_pairs", Str.ofString "pair_place", Str.ofString "is_load_of"]
def names1 : List Str := [Str.ofString "check_load", Str.ofString "sums_at_sides", Str.ofString "MOST_PLAIN_SIDES", Str.ofString "check_plain_load", Str.ofString "triangles", Str.ofString "sum_in_triangle", Str.ofString "need_of", Str.ofString "side_sums", Str.ofString "triangle_sums", Str.ofString "plain_need", Str.ofString "_law_begun", Str.ofString "_law_draw"]
def names2 : List Str := [Str.ofString "_law_pick", Str.ofString "_law_caught", Str.ofString "_law_pairs"]
def nameL : List Str := names0 ++ names1 ++ names2
end K16
set_option Elab.async false
set_option linter.all false
set_option maxRecDepth 100000
set_option maxHeartbeats 0
namespace K16
open PySem PySem.Spec PyProof.Rows L2 Evl DL He LamX
theorem run1 (w : World) (os : OsState) : (lastY RR 24000 w os).map (fun s => (HandSHeadRun.looksF RR.prog (PySem.W.boot_heap w.params) s.abs, HandSHeadRun.seenQ vq nameL (importedModules RR.prog.main.body) (fun s => PySem.W.xlAt vq [] s && PySem.W.recOk RR.toRowW.records s) s.abs)) = some (true, PySem.W.openGood vq nameL) := by
  kernel_rfl
theorem run2 (w : World) (os : OsState) : (lastY RR 24000 w os).map (fun s => obsD faL fnL (fragY (HandSHeadRun.getT s) 5)) = some (valD fnL) := by
  kernel_rfl
theorem run3 (w : World) (os : OsState) : (lastY RR 24000 w os).map (fun s => exA (fragY (HandSHeadRun.getT s) 5)) = some true := by
  kernel_rfl
theorem run4 (w : World) (os : OsState) : (lastY RR 24000 w os).map (fun s => tabsB (HandSHeadRun.getT s) tfL (fragY (HandSHeadRun.getT s) 5)) = some true := by
  kernel_rfl
theorem run (w : World) : HandSHeadRun.RunEq RR vq (hookY 5 faL fnL tfL exA) (seeY 5 faL fnL tfL exA) 24000 nameL w := run_of (run1 w) (run2 w) (run3 w) (run4 w)
end K16
set_option Elab.async false
set_option maxRecDepth 100000
open PySem PySem.W PyProof.Rows in
set_option maxRecDepth 100000 in
set_option maxHeartbeats 0 in
theorem PySem.Challenge.cw_allcalls_k15_sums_at_sides_and_triangles_holds : PySem.Challenge.rw_allcalls_k15_sums_at_sides_and_triangles.Holds := by
  w_on; o_law
  refine HandSHeadRun.head_any (r := OpenLaw.row PySem.Challenge.rw_allcalls_k15_sums_at_sides_and_triangles) (q := K16.vq) (H := DL.hookY 5 K16.faL K16.fnL K16.tfL K16.exA) (ob := DL.seeY 5 K16.faL K16.fnL K16.tfL K16.exA) (M := 24000) (loose := K16.nameL) (d := HandSHeadRun.topDef (OpenLaw.row PySem.Challenge.rw_allcalls_k15_sums_at_sides_and_triangles).prog 33) (kwd := []) DL.seeY_eq
    (by kernel_rfl) (fun s => by kernel_rfl) K16.run (by kernel_rfl) (by kernel_rfl) (by kernel_rfl) (by rfl) (by first | assumption | decide +kernel) (by decide +kernel) ⟨rfl, rfl, rfl, rfl, rfl, by decide +kernel⟩ ?hw ?hc
  case hw => w_witness2
  case hc =>
    refine DL.walkTE (l := PySem.Challenge.rw_allcalls_k15_sums_at_sides_and_triangles) (n := 63) (k := 10) (x := "script") (CX := fun w => L2.CX PySem.Challenge.rw_allcalls_k15_sums_at_sides_and_triangles.prog w) rfl (by decide) (by kernel_rfl) ⟨rfl, by decide, by decide⟩ ?F (fun _ _ _ _ _ z => K16.cx_out z)
    intro w mg fa h Y G hmg0
    obtain ⟨K, KX, c⟩ := Y
    have hmg : mg ("law" : PySem.Str) = some (.ref fa) := by
      have e : (HandSHeadRun.topDef (OpenLaw.row PySem.Challenge.rw_allcalls_k15_sums_at_sides_and_triangles).prog 33).name = ("law" : PySem.Str) := by kernel_rfl
      rw [← e]
      exact hmg0
    obtain ⟨fd, cc, tb, t1, t2, t3, hb, hF⟩ := K16.facts_law (l := PySem.Challenge.rw_allcalls_k15_sums_at_sides_and_triangles) KX G hmg c
    exact ⟨K, fd, cc, tb, K16.spLaw K tb, KX, t1, t2, t3, hb, fun H a ns hl hT hS => ⟨a, ns, rfl, hS, hl, hT, fun _ => rfl⟩, hF⟩
