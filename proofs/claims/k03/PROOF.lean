import PyProof.Rows.All
import Wide.All
import OpenK.AllK
import Wide.FinOn
import HandS.Evl
import HandS.Iter
import HandS.Conv
import KE.GoesMore
import HandS.Zip
import HandS.Walk
import HandS.TupAny
import HandS.TupMul
import HandS.IsInst
import HandS.Dict
import HandS.Wide
import HandS.Style
import HandS.Words
import HandS.Exc
import HandS.ExcIs
import HandS.ExcOwn
import HandS.TryOnly
import HandS.WordsExc
import HandS.Lambda
import HandS.FStr
import HandS.RaiseMore
import PyProof.ReprRoads
import HandS.Ends
import HandS.EndTab
import HandS.Defaults
import HandS.Finally
import KE.KDictCopyH
import HandS.DictComp
import HandS.DictSubView
import HandS.DeepEq
import PyProof.ReprLen
import HandS.ExcInit
import HandS.ExcValue
import HandS.ExcField
import KE.KExcIs
import HandS.Head2
import HandS.HeadEnd
import HandS.HeadHook4
import PyProof.ExcBaseAll.ValueError
import KE.KeyNested
import KE.SortData
import KE.DataCmp
import HandS.WideBits
import HandS.More
import HandS.SortKw
import PyProof.SumWalkG
import HandS.SetKeys
import HandS.WordsDict
import HandS.TupSets
import PyProof.TupleOfSeq
import HandS.Nested
import KE.SortKeyHeap
import HandS.Keys
import PySem.Challenge.RW_allcalls_k03_loads_and_frames_judged
set_option Elab.async false
set_option linter.all false
set_option maxRecDepth 100000
set_option maxHeartbeats 2000000
/-! data behind values: what an expression evaluates to, told as data -/
namespace DL
open PySem PySem.Spec PyProof.Rows L2 Evl

section
variable {K : PySem.W.Frag} {H H' : Hp}
mutual
theorem dp_ex (e : Ex H H') : ∀ (d : PyData) (v : V), Dp K H v d → Dp K H' v d
  | .none, _, h => by cases h; exact .non
  | .bool b, _, h => by cases h; exact .bl b
  | .int i, _, h => by cases h; exact .int i
  | .str x, _, h => by cases h; exact .str x
  | .list ds, _, h => by
    cases h with
    | lst hs ha => exact .lst (ex_l e hs) (dpa_ex e ds _ ha)
  | .tuple ds, _, h => by
    cases h with
    | tup hs ha => exact .tup (ex_t e hs) (dpa_ex e ds _ ha)
  | .dict _, _, h => by cases h
theorem dpa_ex (e : Ex H H') : ∀ (ds : List PyData) (vs : List V), DpAll K H vs ds → DpAll K H' vs ds
  | [], _, h => by cases h; exact .nil
  | d :: ds, _, h => by
    cases h with
    | cons h1 h2 => exact .cons (dp_ex e d _ h1) (dpa_ex e ds _ h2)
end
theorem dpa_len : ∀ {vs : List V} {ds : List PyData}, DpAll K H vs ds → vs.length = ds.length
  | _, _, .nil => rfl
  | _, _, .cons _ t => congrArg (· + 1) (dpa_len t)
theorem dpa_get : ∀ {vs : List V} {ds : List PyData} {i : Nat} {d : PyData}, DpAll K H vs ds → ds[i]? = some d → ∃ v, vs[i]? = some v ∧ Dp K H v d
  | _, _, _, _, .nil, e => by simp at e
  | _, _, 0, _, .cons h _, e => ⟨_, rfl, by simp at e; subst e; exact h⟩
  | _, _, i + 1, _, .cons _ t, e => by
    obtain ⟨v, h1, h2⟩ := dpa_get (i := i) t (by simpa using e)
    exact ⟨v, by simpa using h1, h2⟩
theorem dpa_getV : ∀ {vs : List V} {ds : List PyData} {i : Nat} {v : V}, DpAll K H vs ds → vs[i]? = some v → ∃ d, ds[i]? = some d ∧ Dp K H v d
  | _, _, _, _, .nil, e => by simp at e
  | _, _, 0, _, .cons h _, e => ⟨_, rfl, by simp at e; subst e; exact h⟩
  | _, _, i + 1, _, .cons _ t, e => by
    obtain ⟨v, h1, h2⟩ := dpa_getV (i := i) t (by simpa using e)
    exact ⟨v, by simpa using h1, h2⟩
theorem dpa_app : ∀ {vs ws : List V} {ds es : List PyData}, DpAll K H vs ds → DpAll K H ws es → DpAll K H (vs ++ ws) (ds ++ es)
  | _, _, _, _, .nil, h => h
  | _, _, _, _, .cons a t, h => .cons a (dpa_app t h)
theorem dpa_drop : ∀ {vs : List V} {ds : List PyData} (n : Nat), DpAll K H vs ds → DpAll K H (vs.drop n) (ds.drop n)
  | _, _, 0, h => h
  | _, _, _ + 1, .nil => .nil
  | _, _, n + 1, .cons _ t => dpa_drop n t
theorem dpa_take : ∀ {vs : List V} {ds : List PyData} (n : Nat), DpAll K H vs ds → DpAll K H (vs.take n) (ds.take n)
  | _, _, 0, _ => .nil
  | _, _, _ + 1, .nil => .nil
  | _, _, n + 1, .cons a t => .cons a (dpa_take n t)
theorem dpa_set : ∀ {vs : List V} {ds : List PyData} {v : V} {d : PyData} (n : Nat), DpAll K H vs ds → Dp K H v d → DpAll K H (vs.set n v) (ds.set n d)
  | _, _, _, _, _, .nil, _ => .nil
  | _, _, _, _, 0, .cons _ t, h => .cons h t
  | _, _, _, _, n + 1, .cons a t, h => .cons a (dpa_set n t h)
theorem dpa_rep {v : V} {d : PyData} (h : Dp K H v d) : ∀ n, DpAll K H (List.replicate n v) (List.replicate n d)
  | 0 => .nil
  | n + 1 => .cons h (dpa_rep h n)
theorem dpa_rev : ∀ {vs : List V} {ds : List PyData}, DpAll K H vs ds → DpAll K H vs.reverse ds.reverse
  | _, _, .nil => .nil
  | _, _, .cons a t => by
    rw [List.reverse_cons, List.reverse_cons]
    exact dpa_app (dpa_rev t) (.cons a .nil)
/-- ints as data -/
abbrev dI (l : List Int) : List PyData := l.map PyData.int
abbrev tI (l : List Int) : PyData := .tuple (dI l)
theorem dpa_ints : ∀ {l : List Int} {vs : List V}, DpAll K H vs (dI l) → vs = l.map V.int
  | [], _, .nil => rfl
  | i :: l, _, .cons h t => by
    cases h
    rw [dpa_ints t]
    rfl
theorem ints_dpa : ∀ (l : List Int), DpAll K H (l.map V.int) (dI l)
  | [] => .nil
  | i :: l => .cons (.int i) (ints_dpa l)
theorem dp_tI {v : V} {l : List Int} (h : Dp K H v (tI l)) : ∃ a, v = .ref a ∧ SqT K H a (l.map V.int) := by
  cases h with
  | tup hs ha =>
    rw [dpa_ints ha] at hs
    exact ⟨_, rfl, hs⟩
theorem tI_dp {a : Addr} {l : List Int} (h : SqT K H a (l.map V.int)) : Dp K H (.ref a) (tI l) := .tup h (ints_dpa l)
theorem dp_int {v : V} {i : Int} (h : Dp K H v (.int i)) : v = .int i := by
  cases h; rfl
theorem dp_bool {v : V} {i : Bool} (h : Dp K H v (.bool i)) : v = .bl i := by
  cases h; rfl
theorem dp_none {v : V} (h : Dp K H v .none) : v = .non := by
  cases h; rfl
theorem dp_str {v : V} {s : Str} (h : Dp K H v (.str s)) : v = .str s := by
  cases h; rfl

/-! ### evaluation to data -/
def EvD (K : PySem.W.Frag) (te : TE) (σ : L2.St) (H : Hp) (d : PyData) : Prop := ∀ H1, Ex H H1 → ∀ Q : VK, (∀ v H2, Ex H1 H2 → Dp K H2 v d → Q v H2) → te σ H1 Q
/-- a new list -/
def EvN (K : PySem.W.Frag) (te : TE) (σ : L2.St) (H : Hp) (ds : List PyData) : Prop := ∀ H1, Ex H H1 → ∀ Q : VK, (∀ p vs H2, H1 p = none → Ex H1 H2 → H2 p = some (.lst vs) → DpAll K H2 vs ds → Q (.ref p) H2) → te σ H1 Q
def EvDA (K : PySem.W.Frag) (ta : TA) (σ : L2.St) (H : Hp) (ds : List PyData) : Prop := ∀ H1, Ex H H1 → ∀ Q : List V → Hp → Prop, (∀ vs H2, Ex H1 H2 → DpAll K H2 vs ds → Q vs H2) → ta σ H1 Q
variable {σ : L2.St} {ta tb te : TE} {t u : TT} {d : PyData} {ds : List PyData} {v : V} {i j : Int}
theorem EvD.ex (e : Ex H H') (h : EvD K te σ H d) : EvD K te σ H' d := fun H1 a Q q => h H1 (e.trans a) Q q
theorem EvN.ex (e : Ex H H') (h : EvN K te σ H ds) : EvN K te σ H' ds := fun H1 a Q q => h H1 (e.trans a) Q q
theorem EvDA.ex {ta : TA} (e : Ex H H') (h : EvDA K ta σ H ds) : EvDA K ta σ H' ds := fun H1 a Q q => h H1 (e.trans a) Q q
theorem EvN.toD (h : EvN K te σ H ds) : EvD K te σ H (.list ds) := fun H1 a Q q => h H1 a Q fun p vs H2 _ e2 hp hd => q _ H2 e2 (.lst (sq_of hp) hd)
theorem EvD.int (h : EvD K te σ H (.int i)) : Ev te σ H (.int i) := fun H1 a Q q => h H1 a Q fun v H2 e2 hd => by
  rw [dp_int hd]
  exact q H2 e2
theorem EvD.bool {b : Bool} (h : EvD K te σ H (.bool b)) : Ev te σ H (.bl b) := fun H1 a Q q => h H1 a Q fun v H2 e2 hd => by
  rw [dp_bool hd]
  exact q H2 e2
theorem EvD.non (h : EvD K te σ H .none) : Ev te σ H .non := fun H1 a Q q => h H1 a Q fun v H2 e2 hd => by
  rw [dp_none hd]
  exact q H2 e2
theorem ev_d (h : Ev te σ H v) (hd : Dp K H v d) : EvD K te σ H d := fun H1 a Q q => h H1 a Q fun H2 e2 => q v H2 e2 (dp_ex (a.trans e2) d v hd)
theorem ed_int (h : Ev te σ H (.int i)) : EvD K te σ H (.int i) := ev_d h (.int i)
theorem ed_bool {b : Bool} (h : Ev te σ H (.bl b)) : EvD K te σ H (.bool b) := ev_d h (.bl b)
theorem ed_str {b : Str} (h : Ev te σ H (.str b)) : EvD K te σ H (.str b) := ev_d h (.str b)
theorem ed_var {k : Nat} (h : σ[k]? = some (some v)) (hd : Dp K H v d) : EvD K (tVar k) σ H d := ev_d (ev_var h) hd
theorem ed_is {d' : PyData} (h : EvD K te σ H d) (e : d = d') : EvD K te σ H d' := e ▸ h
theorem en_is {ds' : List PyData} (h : EvN K te σ H ds) (e : ds = ds') : EvN K te σ H ds' := e ▸ h
theorem eda_nil : EvDA K tNil σ H [] := fun H1 _ _ q => q [] H1 (Ex.refl H1) .nil
theorem eda_cons {tr : TA} (h : EvD K te σ H d) (hr : EvDA K tr σ H ds) : EvDA K (tCons te tr) σ H (d :: ds) := fun H1 e _ q =>
  h H1 e _ fun v H2 e2 hd => hr H2 (e.trans e2) _ fun vs H3 e3 hv => q (v :: vs) H3 (e2.trans e3) (.cons (dp_ex e3 _ _ hd) hv)
theorem ed_tup {ta : TA} (h : EvDA K ta σ H ds) (hl : ds.length ≤ 100000) : EvD K (tTup ta) σ H (.tuple ds) := fun H1 e _ q =>
  h H1 e _ fun vs H2 e2 hv => ⟨sz_of (by rw [dpa_len hv]; exact hl), fun p hp => q (.ref p) _ (e2.trans (Ex.new hp)) (.tup (st_of upd_same) (dpa_ex (Ex.new hp) _ _ hv))⟩
theorem en_lst {ta : TA} (h : EvDA K ta σ H ds) (hl : ds.length ≤ 100000) : EvN K (tLst ta) σ H ds := fun H1 e _ q =>
  h H1 e _ fun vs H2 e2 hv => ⟨sz_of (by rw [dpa_len hv]; exact hl), fun p hp => q p vs _ (fresh_back e2 hp) (e2.trans (Ex.new hp)) upd_same (dpa_ex (Ex.new hp) _ _ hv)⟩
/-- t[i] -/
theorem ed_ixT {k : Nat} (h : EvD K ta σ H (.tuple ds)) (hi : Ev tb σ H (.int (k : Int))) (hk : ds[k]? = some d) : EvD K (tOp (rIxT K) ta tb) σ H d := fun H1 e Q q =>
  h H1 e _ fun w H2 e2 hw => hi H2 (e.trans e2) _ fun H3 e3 => by
    cases hw with
    | tup hs ha =>
      obtain ⟨y, hy, dy⟩ := dpa_get ha hk
      exact ⟨_, _, (k : Int), y, rfl, rfl, ex_t e3 hs, atI_nat hy, q y H3 (e2.trans e3) (dp_ex e3 _ _ dy)⟩
theorem ed_ixL {k : Nat} (h : EvD K ta σ H (.list ds)) (hi : Ev tb σ H (.int (k : Int))) (hk : ds[k]? = some d) : EvD K (tOp (rIxL K) ta tb) σ H d := fun H1 e Q q =>
  h H1 e _ fun w H2 e2 hw => hi H2 (e.trans e2) _ fun H3 e3 => by
    cases hw with
    | lst hs ha =>
      obtain ⟨y, hy, dy⟩ := dpa_get ha hk
      exact ⟨_, _, (k : Int), y, rfl, rfl, ex_l e3 hs, atI_nat hy, q y H3 (e2.trans e3) (dp_ex e3 _ _ dy)⟩
/-- len -/
theorem ev_lenT (h : EvD K te σ H (.tuple ds)) : Ev (tCB (fun xs H Q => ∃ p ys, xs = [.ref p] ∧ (SqL K H p ys ∨ SqT K H p ys) ∧ Q (.int ys.length) H) (tCons te tNil)) σ H (.int (ds.length : Int)) := fun H1 e Q q =>
  h H1 e _ fun w H2 e2 hw => by
    cases hw with
    | tup hs ha =>
      refine ⟨_, _, rfl, .inr hs, ?_⟩
      rw [dpa_len ha]
      exact q H2 e2
theorem ev_lenL (h : EvD K te σ H (.list ds)) : Ev (tCB (fun xs H Q => ∃ p ys, xs = [.ref p] ∧ (SqL K H p ys ∨ SqT K H p ys) ∧ Q (.int ys.length) H) (tCons te tNil)) σ H (.int (ds.length : Int)) := fun H1 e Q q =>
  h H1 e _ fun w H2 e2 hw => by
    cases hw with
    | lst hs ha =>
      refine ⟨_, _, rfl, .inl hs, ?_⟩
      rw [dpa_len ha]
      exact q H2 e2
/-- the promises: data in, data out; data in, a new list out -/
def spD (K : PySem.W.Frag) (n : Nat) (R : List PyData → PyData → Prop) : Sp := fun vs H Q _ => ∃ ds r, DpAll K H vs ds ∧ ds.length = n ∧ R ds r ∧ ∀ v H', Ex H H' → Dp K H' v r → Q v H'
def spN (K : PySem.W.Frag) (n : Nat) (R : List PyData → List PyData → Prop) : Sp := fun vs H Q _ => ∃ ds r, DpAll K H vs ds ∧ ds.length = n ∧ R ds r ∧ ∀ p ws H', H p = none → Ex H H' → H' p = some (.lst ws) → DpAll K H' ws r → Q (.ref p) H'
theorem spD_len {n : Nat} {R : List PyData → PyData → Prop} {vs : List V} {Q : VK} {E : XK} (h : spD K n R vs H Q E) : vs.length = n := by
  obtain ⟨ds, r, h1, h2, _⟩ := h
  rw [dpa_len h1, h2]
theorem spN_len {n : Nat} {R : List PyData → List PyData → Prop} {vs : List V} {Q : VK} {E : XK} (h : spN K n R vs H Q E) : vs.length = n := by
  obtain ⟨ds, r, h1, h2, _⟩ := h
  rw [dpa_len h1, h2]
theorem ed_call {n : Nat} {R : List PyData → PyData → Prop} {E : XK} {ta : TA} (h : EvDA K ta σ H ds) (hl : ds.length = n) (hr : R ds d) : EvD K (tCall (spD K n R) [] E ta) σ H d := fun H1 e Q q =>
  h H1 e _ fun vs H2 e2 hv => ⟨ds, d, by rw [List.append_nil]; exact hv, hl, hr, fun v H3 e3 hd => q v H3 (e2.trans e3) hd⟩
theorem en_call {n : Nat} {R : List PyData → List PyData → Prop} {r : List PyData} {E : XK} {ta : TA} (h : EvDA K ta σ H ds) (hl : ds.length = n) (hr : R ds r) : EvN K (tCall (spN K n R) [] E ta) σ H r := fun H1 e Q q =>
  h H1 e _ fun vs H2 e2 hv => ⟨ds, r, by rw [List.append_nil]; exact hv, hl, hr, fun p ws H3 hp e3 h3 hd => q p ws H3 (fresh_back e2 hp) (e2.trans e3) h3 hd⟩
/-! ### statements -/
variable {D : Ends} {tu tw tz : TS} {g : TG}
theorem d_asg {k : Nat} (h : EvD K te σ H d) (q : ∀ v H1, Ex H H1 → Dp K H1 v d → D.nx (σ.set k (some v)) H1) : tAsg te (gName k) D σ H := h H (Ex.refl H) _ q
theorem n_asg {k : Nat} (h : EvN K te σ H ds) (q : ∀ p vs H1, H p = none → Ex H H1 → H1 p = some (.lst vs) → DpAll K H1 vs ds → D.nx (σ.set k (some (.ref p))) H1) : tAsg te (gName k) D σ H := h H (Ex.refl H) _ q
theorem d_ret (h : EvD K te σ H d) (q : ∀ v H1, Ex H H1 → Dp K H1 v d → D.rt v H1) : tRet te D σ H := h H (Ex.refl H) _ q
theorem n_ret (h : EvN K te σ H ds) (q : ∀ p vs H1, H p = none → Ex H H1 → H1 p = some (.lst vs) → DpAll K H1 vs ds → D.rt (.ref p) H1) : tRet te D σ H := h H (Ex.refl H) _ q
theorem d_drop (h : EvD K te σ H d) (q : ∀ H1, Ex H H1 → D.nx σ H1) : tDrop te D σ H := h H (Ex.refl H) _ fun _ H1 e _ => q H1 e
/-- xs.append(e), e data that stays when the list at l changes (l is not known at H0) -/
theorem d_app {l : Addr} {xs : List V} (hl : H l = some (.lst xs)) (ha : Ev ta σ H (.ref l)) (h : EvD K te σ H d) (hz : xs.length < 100000) (q : ∀ v H1, Ex H H1 → Dp K H1 v d → D.nx σ (upd H1 l (.lst (xs ++ [v])))) :
    tDrop (tBM K "list" rAppend ta (tCons te tNil)) D σ H := ha H (Ex.refl H) _ fun H1 e1 =>
  ⟨Or.inl ⟨rfl, xs, sq_of (e1 l _ hl)⟩, h H1 e1 _ fun v H2 e2 hd => ⟨l, xs, v, rfl, rfl, e2 l _ (e1 l _ hl), sz_lt hz, q v H2 (e1.trans e2) hd⟩⟩
end
/-! ### data of tuples alone: no change of a list or a dict touches it -/
/-- tuples stay -/
def Tx (H H' : Hp) : Prop := ∀ a xs, Rd H a (.tup xs) → Rd H' a (.tup xs)
theorem Tx.of_ex {H H' : Hp} (e : Ex H H') : Tx H H' := fun _ _ h => ex_rd e h
theorem Tx.trans {H H1 H2 : Hp} (a : Tx H H1) (b : Tx H1 H2) : Tx H H2 := fun x o h => b x o (a x o h)
theorem Tx.refl (H : Hp) : Tx H H := fun _ _ h => h
theorem Tx.upd {H : Hp} {p : Addr} {o u : HO} (h : H p = some o) (n : ∀ xs, o ≠ .tup xs) (n2 : ∀ ob xs, o ≠ .frz ob (.tup xs)) : Tx H (upd H p u) := fun a xs r => by
  rcases r with r | ⟨ob, r⟩
  · have ne : a ≠ p := fun z => by
      rw [z, h] at r
      exact n xs (Option.some.inj r)
    exact Or.inl (by rw [upd_ne ne]; exact r)
  · have ne : a ≠ p := fun z => by
      rw [z, h] at r
      exact n2 ob xs (Option.some.inj r)
    exact Or.inr ⟨ob, by rw [upd_ne ne]; exact r⟩
theorem Tx.lst {H : Hp} {p : Addr} {xs : List V} {u : HO} (h : H p = some (.lst xs)) : Tx H (L2.upd H p u) := Tx.upd h (fun _ z => nomatch z) fun _ _ z => nomatch z
theorem Tx.dct {H : Hp} {p : Addr} {xs : List (Key × V)} {u : HO} (h : H p = some (.dK xs)) : Tx H (L2.upd H p u) := Tx.upd h (fun _ z => nomatch z) fun _ _ z => nomatch z
mutual
def imm : PyData → Bool
  | .none => true
  | .bool _ => true
  | .int _ => true
  | .str _ => true
  | .tuple ds => immAll ds
  | _ => false
def immAll : List PyData → Bool
  | [] => true
  | d :: ds => imm d && immAll ds
end
section
variable {K : PySem.W.Frag} {H H' : Hp}
theorem sqT_tx {a : Addr} {xs : List V} (e : Tx H H') (h : SqT K H a xs) : SqT K H' a xs := by
  rcases h with h | h
  · exact Or.inl (e _ _ h)
  · exact Or.inr h
mutual
theorem dp_tx (e : Tx H H') : ∀ (d : PyData) (v : V), imm d = true → Dp K H v d → Dp K H' v d
  | .none, _, _, h => by cases h; exact .non
  | .bool b, _, _, h => by cases h; exact .bl b
  | .int i, _, _, h => by cases h; exact .int i
  | .str x, _, _, h => by cases h; exact .str x
  | .list ds, _, i, h => by simp [imm] at i
  | .tuple ds, _, i, h => by
    cases h with
    | tup hs ha => exact .tup (sqT_tx e hs) (dpa_tx e ds _ (by simpa [imm] using i) ha)
  | .dict _, _, _, h => by cases h
theorem dpa_tx (e : Tx H H') : ∀ (ds : List PyData) (vs : List V), immAll ds = true → DpAll K H vs ds → DpAll K H' vs ds
  | [], _, _, h => by cases h; exact .nil
  | d :: ds, _, i, h => by
    simp only [immAll, Bool.and_eq_true] at i
    cases h with
    | cons h1 h2 => exact .cons (dp_tx e d _ i.1 h1) (dpa_tx e ds _ i.2 h2)
end
theorem immAll_ints : ∀ l : List Int, immAll (dI l) = true
  | [] => by simp [immAll]
  | i :: l => by
    rw [dI, List.map_cons, immAll, immAll_ints l]
    simp [imm]
theorem imm_tI (l : List Int) : imm (tI l) = true := by
  rw [imm]
  exact immAll_ints l
theorem immAll_tIs : ∀ l : List (List Int), immAll (l.map tI) = true
  | [] => by simp [immAll]
  | i :: l => by rw [List.map_cons, immAll, imm_tI, immAll_tIs l]; rfl
end
end DL
set_option Elab.async false
set_option linter.all false
set_option maxRecDepth 100000
set_option maxHeartbeats 2000000
/-! zip of a list or a tuple and a list or a tuple, in any mix: the pairs are new tuples -/
namespace DL
open PySem PySem.Spec PyProof.Rows L2 Evl

/-- a list or a tuple -/
def SqA (K : PySem.W.Frag) (t : Bool) (H : Hp) (a : Addr) (xs : List V) : Prop := if t then SqT K H a xs else SqL K H a xs
theorem sqa_l {K : PySem.W.Frag} {H : Hp} {a : Addr} {xs : List V} (h : SqL K H a xs) : SqA K false H a xs := h
theorem sqa_t {K : PySem.W.Frag} {H : Hp} {a : Addr} {xs : List V} (h : SqT K H a xs) : SqA K true H a xs := h
/-- the iterator over it, at the i-th turn -/
def ItA (t : Bool) (h : Heap) (it a : Addr) (vs : Array Value) (i : Nat) : Prop :=
  if t then h.IsTupleIter it a i ∧ h.IsTuple a vs else h.IsListIter it a i ∧ h.IsList a vs
theorem drawsA {prog : Program} {w : World} {A : Around} (hh : A.handled = none) (t : Bool) (it a : Addr) (hne : a ≠ it) (vs : Array Value) :
    Draws prog w A it [it, a] vs.size (fun i v => vs[i]? = some v) (fun i h => ItA t h it a vs i) := by
  cases t with
  | true => exact Draws.tuple hh it a hne vs
  | false => exact Draws.list hh it a hne vs
def objA (t : Bool) (a : Addr) : Obj := if t then { cls := .type "tuple_iterator", data := .fields #[.ref a, .int 0 0] } else { cls := .type "list_iterator", data := .fields #[.ref a, .int 0 0] }
def heldA (t : Bool) (a : Addr) (vs : Array Value) (h : Heap) : Prop := if t then h.IsTuple a vs else h.IsList a vs
theorem beginsA (t : Bool) (a : Addr) (vs : Array Value) : Begins (.ref a) (objA t a) (heldA t a vs) := by
  cases t with
  | true => exact begins_tuple a vs
  | false => exact begins_list a vs
theorem itA_new {t : Bool} {h : Heap} {it a : Addr} {vs : Array Value} (ho : h.get? it = some (objA t a)) (hv : heldA t a vs h) : ItA t h it a vs 0 := by
  cases t with
  | true => exact ⟨⟨_, ho, rfl, rfl⟩, hv⟩
  | false => exact ⟨⟨_, ho, rfl, rfl⟩, hv⟩
theorem heldA_kept {t : Bool} {h h' : Heap} {a : Addr} {vs : Array Value} (hv : heldA t a vs h) (k : ∀ o, h.get? a = some o → h'.get? a = some o) : heldA t a vs h' := by
  cases t with
  | true => exact Heap.IsTuple.at (show h.IsTuple a vs from hv) k
  | false => exact Heap.IsList.at (show h.IsList a vs from hv) k
theorem heldA_lt {t : Bool} {h : Heap} {a : Addr} {vs : Array Value} (hv : heldA t a vs h) : a < h.objs.size := by
  cases t with
  | true =>
    obtain ⟨o, ho, _⟩ := (show h.IsTuple a vs from hv)
    exact Heap.lt_size ho
  | false =>
    obtain ⟨o, ho, _⟩ := (show h.IsList a vs from hv)
    exact Heap.lt_size ho

/-- the walk of zip: what stands at a and b, their items in new pairs -/
def ItzM (K : PySem.W.Frag) (t u : Bool) (a b : Addr) : It :=
  ⟨fun i H => ∃ (xs ys : List V) (x y : V), SqA K t H a xs ∧ SqA K u H b ys ∧ xs[i]? = some x ∧ ys[i]? = some y,
    fun i H v H' => ∃ T x y, v = .ref T ∧ H T = none ∧ H' = upd H T (.tup [x, y]) ∧ (∀ xs, SqA K t H a xs → xs[i]? = some x) ∧ ∀ ys, SqA K u H b ys → ys[i]? = some y,
    fun i H => ∃ xs ys : List V, SqA K t H a xs ∧ SqA K u H b ys ∧ (xs.length = i ∧ i ≤ ys.length ∨ ys.length = i ∧ i ≤ xs.length)⟩
section
variable {X : Cx} {pins : List (Addr × Obj)} {σ : L2.St} {H : Hp} {s : Shared} {a b : Addr} {xs ys : List V} {t u : Bool}
theorem held_of (I : Inv X pins σ H s) (h : SqA X.K t H a xs) : ∃ its : List Value, Vals xs its ∧ heldA t a its.toArray s.heap := by
  cases t with
  | true =>
    obtain ⟨its, r, p, _⟩ := I.tuple (show SqT X.K H a xs from h)
    exact ⟨its, r, show s.heap.IsTuple a its.toArray from p⟩
  | false =>
    obtain ⟨its, r, p, _⟩ := I.list (show SqL X.K H a xs from h)
    exact ⟨its, r, p.isList⟩
theorem sqA_inj (I : Inv X pins σ H s) (h : SqA X.K t H a xs) (h' : SqA X.K t H a ys) : xs = ys := by
  cases t with
  | true => exact I.tuple_inj h h'
  | false => exact I.list_inj h h'
theorem held_inj {h : Heap} {vs ws : Array Value} (p : heldA t a vs h) (q : heldA t a ws h) : vs = ws := by
  cases t with
  | true =>
    obtain ⟨o, e, _, n, d⟩ := (show h.IsTuple a vs from p)
    obtain ⟨o', e', _, n', d'⟩ := (show h.IsTuple a ws from q)
    rw [e] at e'; cases e'
    rw [d] at d'
    injection d' with d1 _
  | false =>
    obtain ⟨o, e, _, n, d⟩ := (show h.IsList a vs from p)
    obtain ⟨o', e', _, n', d'⟩ := (show h.IsList a ws from q)
    rw [e] at e'; cases e'
    rw [d] at d'
    injection d' with d1 _
theorem itA_held {h : Heap} {it : Addr} {vs : Array Value} {i : Nat} (x : ItA t h it a vs i) : heldA t a vs h := by
  cases t with
  | true => exact x.2
  | false => exact x.2
theorem itA_obj {h : Heap} {it : Addr} {vs : Array Value} {i : Nat} (x : ItA t h it a vs i) : ∃ o fs, h.get? it = some o ∧ o.data = .fields fs := by
  cases t with
  | true => obtain ⟨⟨o, e, _, d⟩, _⟩ := x; exact ⟨o, _, e, d⟩
  | false => obtain ⟨⟨o, e, _, d⟩, _⟩ := x; exact ⟨o, _, e, d⟩
theorem itA_at {h h' : Heap} {it : Addr} {vs : Array Value} {i : Nat} (x : ItA t h it a vs i) (k : ∀ o, h.get? it = some o → h'.get? it = some o) (k2 : ∀ o, h.get? a = some o → h'.get? a = some o) : ItA t h' it a vs i := by
  cases t with
  | true => exact ⟨x.1.at k, Heap.IsTuple.at x.2 k2⟩
  | false => exact ⟨x.1.at k, Heap.IsList.at x.2 k2⟩
/-- the iterator's own place alone -/
def ItB (t : Bool) (h : Heap) (it a : Addr) (i : Nat) : Prop := if t then h.IsTupleIter it a i else h.IsListIter it a i
theorem itB_of {h : Heap} {it : Addr} {vs : Array Value} {i : Nat} (x : ItA t h it a vs i) : ItB t h it a i := by
  cases t with
  | true => exact x.1
  | false => exact x.1
theorem itA_of {h : Heap} {it : Addr} {vs : Array Value} {i : Nat} (x : ItB t h it a i) (y : heldA t a vs h) : ItA t h it a vs i := by
  cases t with
  | true => exact ⟨x, y⟩
  | false => exact ⟨x, y⟩
theorem itB_obj {h : Heap} {it : Addr} {i : Nat} (x : ItB t h it a i) : ∃ o fs, h.get? it = some o ∧ o.data = .fields fs := by
  cases t with
  | true => obtain ⟨o, e, _, d⟩ := x; exact ⟨o, _, e, d⟩
  | false => obtain ⟨o, e, _, d⟩ := x; exact ⟨o, _, e, d⟩
theorem itB_at {h h' : Heap} {it : Addr} {i : Nat} (x : ItB t h it a i) (k : ∀ o, h.get? it = some o → h'.get? it = some o) : ItB t h' it a i := by
  cases t with
  | true => exact Heap.IsTupleIter.at (show h.IsTupleIter it a i from x) k
  | false => exact Heap.IsListIter.at (show h.IsListIter it a i from x) k
end
/-- the cells of a zip and what it walks lie apart -/
theorem sep_of {z TI TO i1 i2 a b : Addr} (D : ZipApart z TI TO i1 i2 a b) : ZipSep2 z TI TO i1 i2 [i1, a] [i2, b] where
  TIz := D.TIz
  TOz := D.TOz
  TITO := D.TITO
  TIi1 := D.TIi1
  mem1 := by simp
  zf1 := by simp [D.i1z.symm, D.l1z.symm]
  Tf1 := by simp [D.TOi1, D.l1TO.symm]
  TIi2 := D.TIi2
  mem2 := by simp
  zf2 := by simp [D.i2z.symm, D.l2z.symm]
  Tf2 := by simp [D.TOi2, D.l2TO.symm]
  sep1_2 := by simp [D.i12, D.l2i1.symm]
  sep2_1 := by simp [D.i12.symm, D.l1i2.symm]
theorem five {z TI TO i1 i2 : Addr} {P : Addr → Prop} (h1 : P z) (h2 : P TI) (h3 : P TO) (h4 : P i1) (h5 : P i2) : ∀ c, c ∈ [z, TI, TO, i1, i2] → P c := fun c hc => by
  simp only [List.mem_cons, List.not_mem_nil, or_false] at hc
  rcases hc with rfl | rfl | rfl | rfl | rfl
  · exact h1
  · exact h2
  · exact h3
  · exact h4
  · exact h5
theorem turn_zipM {P : Program} {w : World} {K : PySem.W.Frag} {elts : List Expr} {kk : Nat} {tpos : Pos} {t u : Bool} {a b z TI TO i1 i2 : Addr} (D : ZipApart z TI TO i1 i2 a b) :
    Turn P w K (.Tuple elts kk tpos) (ItzM K t u a b) [z, TI, TO, i1, i2] z
      (fun i h => IsZip h z TI TO .none ∧ IsPair h TI (.ref i1) (.ref i2) ∧ (∃ x y, IsPair h TO x y) ∧ ItB t h i1 a i ∧ ItB u h i2 b i) where
  mem := by simp
  obj := fun i h st => by
    obtain ⟨hz, hTI, ⟨x, y, hTO⟩, h1, h2⟩ := st
    refine five ⟨_, hz, fun v q => nomatch q⟩ ⟨_, hTI, fun v q => nomatch q⟩ ⟨_, hTO, fun v q => nomatch q⟩ ?_ ?_
    · obtain ⟨o, fs, e, d⟩ := itB_obj h1
      exact ⟨o, e, fun v q => by rw [d] at q; cases q⟩
    · obtain ⟨o, fs, e, d⟩ := itB_obj h2
      exact ⟨o, e, fun v q => by rw [d] at q; cases q⟩
  keep := fun i h h' st k => by
    obtain ⟨hz, hTI, ⟨x, y, hTO⟩, h1, h2⟩ := st
    exact ⟨k z (by simp) _ hz, k TI (by simp) _ hTI, ⟨x, y, k TO (by simp) _ hTO⟩, itB_at h1 fun o q => k i1 (by simp) o q, itB_at h2 fun o q => k i2 (by simp) o q⟩
  item := by
    intro X hP hw hK hc i pins s σ H E I hf st hg
    subst hP hw hK
    obtain ⟨hz, hTI, ⟨x0, y0, hTO⟩, h1, h2⟩ := st
    obtain ⟨xs, ys, x, y, hqx, hqy, hx, hy⟩ := hg
    obtain ⟨its, rv, p⟩ := held_of I hqx
    obtain ⟨its2, rv2, p2⟩ := held_of I hqy
    obtain ⟨w1, hw1, rw1⟩ := rv.get hx
    obtain ⟨w2, hw2, rw2⟩ := rv2.get hy
    have l1 : i < its.toArray.size := by
      have := (List.getElem?_eq_some_iff.mp hw1).1
      simpa using this
    have l2 : i < its2.toArray.size := by
      have := (List.getElem?_eq_some_iff.mp hw2).1
      simpa using this
    have hh : X.A.in1.handled = none := I.ok.hd hc
    have hzl : z < s.heap.objs.size := Heap.lt_size hz
    refine wpAny_pyNext_zipD2_item (sep_of D) (drawsA hh t i1 a D.l1i1 its.toArray) (drawsA hh u i2 b D.l2i2 its2.toArray) hz hTI hTO (itA_of h1 p) (itA_of h2 p2) l1 l2 fun x1 x2 h' tk e1 e2 z' TO' s1 s2 hT hsz hk => ?_
    have ex1 : x1 = w1 := by
      have q := hw1
      rw [show its[i]? = some x1 by simpa using e1] at q
      exact Option.some.inj q
    have ex2 : x2 = w2 := by
      have q := hw2
      rw [show its2[i]? = some x2 by simpa using e2] at q
      exact Option.some.inj q
    subst ex1 ex2
    refine ⟨_, rfl, wpAny_letOwnedTupleGo_zip (s := { s with heap := h', toks := tk }) z' fun h'' z'' sb => ?_⟩
    have up : ∀ c o, c ≠ z → h'.get? c = some o → h''.get? c = some o := fun c o n q => (sb.2 c n).trans q
    have hT2 := up _ _ (Nat.ne_of_gt hzl) hT
    have new : ObjOk X.prog X.w (upd H s.heap.objs.size (.tup [x, y])) h'' s.heap.objs.size (.tup [x, y]) :=
      ⟨by show 2 ≤ sizeLine; decide, [x1, x2], .cons rw1 (.cons rw2 .nil), ⟨_, hT2, rfl, _, rfl⟩⟩
    have kk : ∀ c o, c ∉ [z, TI, TO, i1, i2] → s.heap.get? c = some o → h''.get? c = some o := fun c o nc q => by
      simp only [List.mem_cons, List.not_mem_nil, or_false, not_or] at nc
      exact up c o nc.1 (hk c o nc.1 nc.2.2.1 nc.2.2.2.1 nc.2.2.2.2 q)
    have I1 : Inv X pins σ (upd H s.heap.objs.size (.tup [x, y])) { s with heap := h'', toks := tk } := I.turnedNew (t' := tk) (ch := [z, TI, TO, i1, i2]) kk hf (Nat.le_refl _) new
    have hTI' : IsPair h'' TI (.ref i1) (.ref i2) := up _ _ D.TIz (hk _ _ D.TIz D.TITO D.TIi1 D.TIi2 hTI)
    refine ⟨.ref s.heap.objs.size, _, I1, rfl, ⟨_, x, y, rfl, I.hok.fresh (Nat.le_refl _), rfl, fun l hl => ?_, fun l hl => ?_⟩, ⟨z'', hTI', ⟨x1, x2, up _ _ D.TOz TO'⟩, ?_, ?_⟩, ?_⟩
    · rw [sqA_inj I hl hqx]
      exact hx
    · rw [sqA_inj I hl hqy]
      exact hy
    · exact itB_at (itB_of s1) fun o q => up _ o D.i1z q
    · exact itB_at (itB_of s2) fun o q => up _ o D.i2z q
    · have lt1 : i1 < s.heap.objs.size := by
        obtain ⟨o, _, e, _⟩ := itB_obj h1
        exact Heap.lt_size e
      have lt2 : i2 < s.heap.objs.size := by
        obtain ⟨o, _, e, _⟩ := itB_obj h2
        exact Heap.lt_size e
      have go : ∀ c, c < s.heap.objs.size → c ∈ [z, TI, TO, i1, i2] → upd H s.heap.objs.size (.tup [x, y]) c = none := fun c l m => by
        rw [upd_ne (Nat.ne_of_lt l)]
        exact (hf c m).1
      exact five (go _ hzl (by simp)) (go _ (Heap.lt_size hTI) (by simp)) (go _ (Heap.lt_size hTO) (by simp)) (go _ lt1 (by simp)) (go _ lt2 (by simp))
  done := by
    intro X hP hw hK hc i pins s σ H E I hf st hg
    subst hP hw hK
    obtain ⟨hz, hTI, ⟨x0, y0, hTO⟩, h1, h2⟩ := st
    obtain ⟨xs, ys, hqx, hqy, hend⟩ := hg
    obtain ⟨its, rv, p⟩ := held_of I hqx
    obtain ⟨its2, rv2, p2⟩ := held_of I hqy
    have n1 : its.toArray.size = xs.length := by rw [List.size_toArray, rv.length]
    have n2 : its2.toArray.size = ys.length := by rw [List.size_toArray, rv2.length]
    have hh : X.A.in1.handled = none := I.ok.hd hc
    refine wpAny_pyNext_zipD2_end (sep_of D) (drawsA hh t i1 a D.l1i1 its.toArray) (drawsA hh u i2 b D.l2i2 its2.toArray) hz hTI hTO (i := i) (itA_of h1 p) (itA_of h2 p2) (by omega) (by omega) (by omega) fun h' tk hk => ⟨rfl, ?_⟩
    refine I.turnedL (t' := tk) (ch := [z, TI, TO, i1, i2]) (fun c o nc q => ?_) hf
    simp only [List.mem_cons, List.not_mem_nil, or_false, not_or] at nc
    exact hk c o nc.1 nc.2.2.1 nc.2.2.2.1 nc.2.2.2.2 q
  self := fun A i s Q E st h => wpAny_pyIter_zip st.1 h

def iZipM (K : PySem.W.Frag) (t u : Bool) (ta : TA) : TI := fun σ H R => ta σ H fun vs H1 => ∃ a b xs ys, vs = [.ref a, .ref b] ∧ SqA K t H1 a xs ∧ SqA K u H1 b ys ∧ R (ItzM K t u a b) H1
theorem pi_zipM {X : Cx} {e e2 : Expr} {ta : TA} {p pos tpos : Pos} {elts : List Expr} {kk : Nat} (t u : Bool) (hg : Gl X "zip") (hm : X.mg "zip" = none) (ha : PA X [e, e2] ta)
    (hs : starEach [e, e2] X.env = (false, eval e X.env) :: starEach [e2] X.env := by rfl)
    (hpl : (backTo pos (starEach [e2] X.env)).any (·.1) = false := by rfl) :
    PI X (.Tuple elts kk tpos) (.Call (.Name "zip" p) [e, e2] [] pos) (iZipM X.K t u ta) := by
  refine ⟨fun pins s σ H R I h => ?_⟩
  refine Call_ (ld_blt I hg hm PyProof.Rows.boot_zip (PyProof.Rows.callWith_type1 (thn (ha.run pos pins s σ H _ I h) fun us s1 q0 => ?_) hs hpl))
  obtain ⟨vs, H1, I1, r1, a, b, xs, ys, rfl, hqx, hqy, q⟩ := q0
  obtain ⟨v1, v2, rfl, ra, rb⟩ := vals2 r1
  cases ra
  cases rb
  obtain ⟨its, rv, p1⟩ := held_of I1 hqx
  obtain ⟨its2, rv2, p2⟩ := held_of I1 hqy
  have fr : ∀ k, FpOk X pins H1 (s1.heap.objs.size + k) := fun k => I1.fpOk (Nat.le_add_right _ _) (I1.hok.fresh (Nat.le_add_right _ _))
  refine zip_begins2 (beginsA t a its.toArray) (beginsA u b its2.toArray) p1 p2 fun h' hz hTI hTO h1 h2 hsz hk => wpAny_pyIter_zip hz ?_
  have I2 : Inv X pins σ H1 { s1 with heap := h' } := I1.kept (t' := s1.toks) hk
  have b1 : ItB t h' s1.heap.objs.size a 0 := itB_of (itA_new (vs := its.toArray) h1 (heldA_kept p1 fun o e => hk a o e))
  have b2 : ItB u h' (s1.heap.objs.size + 1) b 0 := itB_of (itA_new (vs := its2.toArray) h2 (heldA_kept p2 fun o e => hk b o e))
  exact ⟨s1.heap.objs.size + 4, [s1.heap.objs.size + 4, s1.heap.objs.size + 2, s1.heap.objs.size + 3, s1.heap.objs.size, s1.heap.objs.size + 1], _, _, H1, rfl, I2,
    turn_zipM (PySem.W.ktu_apart s1.heap.objs.size a b (heldA_lt p1) (heldA_lt p2)), ⟨hz, hTI, ⟨_, _, hTO⟩, b1, b2⟩, five (fr 4) (fr 2) (fr 3) (fr 0) (fr 1), q⟩
theorem walk_zipM {K : PySem.W.Frag} {a b : Addr} {t u : Bool} {xs ys : List V} {n : Nat} (hn : n = min xs.length ys.length) :
    Walk (ItzM K t u a b) n (fun H => SqA K t H a xs ∧ SqA K u H b ys) (YPair (fun i => xs[i]?) (fun i => ys[i]?)) := by
  subst hn
  refine ⟨fun i _ hi q => ?_, fun _ q => ⟨xs, ys, q.1, q.2, by omega⟩, fun i H v H' _ q y => ?_⟩
  · have h1 : i < xs.length := by omega
    have h2 : i < ys.length := by omega
    exact ⟨xs, ys, xs[i], ys[i], q.1, q.2, List.getElem?_eq_getElem h1, List.getElem?_eq_getElem h2⟩
  · obtain ⟨T, x, z, h1, h2, h3, h4, h5⟩ := y
    exact ⟨T, x, z, h1, h2, h3, h4 xs q.1, h5 ys q.2⟩
end DL
set_option Elab.async false
set_option linter.all false
set_option maxRecDepth 100000
set_option maxHeartbeats 2000000
namespace DL
open PySem PySem.Spec PyProof.Rows L2 Evl

/-! ### what stays but for some lists -/
def Xp (S : List Addr) (H H' : Hp) : Prop := ∀ a o, H a = some o → a ∉ S → H' a = some o
theorem Xp.refl (S : List Addr) (H : Hp) : Xp S H H := fun _ _ h _ => h
theorem Xp.of_ex {S : List Addr} {H H' : Hp} (e : Ex H H') : Xp S H H' := fun a o h _ => e a o h
theorem Xp.to_ex {H H' : Hp} (e : Xp [] H H') : Ex H H' := fun a o h => e a o h (by simp)
theorem Xp.trans {S : List Addr} {H H1 H2 : Hp} (a : Xp S H H1) (b : Xp S H1 H2) : Xp S H H2 := fun x o h n => b x o (a x o h n) n
theorem Xp.then {S : List Addr} {H H1 H2 : Hp} (a : Xp S H H1) (b : Ex H1 H2) : Xp S H H2 := fun x o h n => b x o (a x o h n)
theorem Xp.upd {S : List Addr} {H H1 : Hp} {p : Addr} {o : HO} (a : Xp S H H1) (hp : p ∈ S) : Xp S H (L2.upd H1 p o) := fun x u h n => by
  rw [upd_ne (fun z : x = p => n (by rw [z]; exact hp))]
  exact a x u h n
/-- S holds lists alone -/
def Ls (H : Hp) (S : List Addr) : Prop := ∀ p ∈ S, ∃ l, H p = some (.lst l)
theorem Ls.nil (H : Hp) : Ls H [] := fun p hp => absurd hp (by simp)
theorem Ls.one {H : Hp} {p : Addr} {l : List V} (h : H p = some (.lst l)) : Ls H [p] := fun q hq => by
  have e : q = p := by simpa using hq
  exact ⟨l, e ▸ h⟩
theorem Ls.cons {H : Hp} {p : Addr} {S : List Addr} {l : List V} (h : H p = some (.lst l)) (r : Ls H S) : Ls H (p :: S) := fun q hq => by
  rcases List.mem_cons.mp hq with e | e
  · exact ⟨l, e ▸ h⟩
  · exact r q e
theorem Ls.ex {H H' : Hp} {S : List Addr} (h : Ls H S) (e : Ex H H') : Ls H' S := fun p hp => by
  obtain ⟨l, q⟩ := h p hp
  exact ⟨l, e p _ q⟩
theorem Xp.tx {S : List Addr} {H H' : Hp} (e : Xp S H H') (h : Ls H S) : Tx H H' := fun a xs r => by
  have n : ∀ o, H a = some o → (∀ l, o ≠ .lst l) → a ∉ S := fun o ho hn hs => by
    obtain ⟨l, q⟩ := h a hs
    rw [ho] at q
    exact hn l (Option.some.inj q)
  rcases r with r | ⟨ob, r⟩
  · exact Or.inl (e _ _ r (n _ r fun l z => nomatch z))
  · exact Or.inr ⟨ob, e _ _ r (n _ r fun l z => nomatch z)⟩

section
variable {K : PySem.W.Frag} {σ : L2.St} {H H' : Hp} {ta tb te : TE} {t u : TT} {d : PyData} {ds : List PyData} {v : V}
/-! ### what is walked, told as data -/
/-- n items ds; S: lists that may change meanwhile -/
def EvI (K : PySem.W.Frag) (wi : TI) (σ : L2.St) (H : Hp) (S : List Addr) (ds : List PyData) : Prop :=
  ∀ H1, Ex H H1 → ∀ R : It → Hp → Prop, (∀ J H2, Ex H1 H2 → Walk J ds.length (fun Ha => Xp S H2 Ha) (fun i Ha x Hb => Ex Ha Hb ∧ ∃ d, ds[i]? = some d ∧ Dp K Hb x d) → R J H2) → wi σ H1 R
theorem ei_ex {wi : TI} {S : List Addr} (e : Ex H H') (h : EvI K wi σ H S ds) : EvI K wi σ H' S ds := fun H1 a R q => h H1 (e.trans a) R q
theorem fresh_notin {S : List Addr} {p : Addr} (hS : Ls H S) (hp : H p = none) : p ∉ S := fun hs => by
  obtain ⟨l, q⟩ := hS p hs
  rw [hp] at q
  cases q
/-- a new list -/
theorem ei_new {S : List Addr} (hS : Ls H S) (h : EvN K te σ H ds) (hi : immAll ds = true) : EvI K (iList K te) σ H S ds := fun H1 e R q =>
  h H1 e _ fun p vs H2 hp e2 h2 hd => by
    refine ⟨p, rfl, ⟨vs, sq_of h2⟩, q _ H2 e2 ?_⟩
    have hn : p ∉ S := fresh_notin (hS.ex e) hp
    have hl := dpa_len hd
    rw [← hl]
    refine walk_list.mono (fun Ha x => sq_of (x p _ h2 hn)) fun i Ha x Hb hlt hg y => ?_
    obtain ⟨rfl, hx⟩ := y
    obtain ⟨d, hd1, hd2⟩ := dpa_getV (dpa_tx (hg.tx (hS.ex (e.trans e2))) _ _ hi hd) hx
    exact ⟨Ex.refl _, d, hd1, hd2⟩
/-- a list that stands -/
theorem ei_lst {S : List Addr} {q : Addr} {vs : List V} (hS : Ls H S) (h : Ev te σ H (.ref q)) (hq : H q = some (.lst vs)) (hn : q ∉ S) (hd : DpAll K H vs ds) (hi : immAll ds = true) : EvI K (iList K te) σ H S ds := fun H1 e R r =>
  h H1 e _ fun H2 e2 => by
    have h2 := e2 _ _ (e _ _ hq)
    refine ⟨q, rfl, ⟨vs, sq_of h2⟩, r _ H2 e2 ?_⟩
    rw [← dpa_len hd]
    refine walk_list.mono (fun Ha x => sq_of (x q _ h2 hn)) fun i Ha x Hb hlt hg y => ?_
    obtain ⟨rfl, hx⟩ := y
    obtain ⟨d, hd1, hd2⟩ := dpa_getV (dpa_tx (hg.tx (hS.ex (e.trans e2))) _ _ hi (dpa_ex (e.trans e2) _ _ hd)) hx
    exact ⟨Ex.refl _, d, hd1, hd2⟩
/-- a tuple -/
theorem ei_tup {S : List Addr} (hS : Ls H S) (h : EvD K te σ H (.tuple ds)) (hi : immAll ds = true) : EvI K (iTup K te) σ H S ds := fun H1 e R r =>
  h H1 e _ fun w H2 e2 hw => by
    cases hw with
    | tup hs ha =>
      refine ⟨_, rfl, ⟨_, hs⟩, r _ H2 e2 ?_⟩
      rw [← dpa_len ha]
      refine walk_tup.mono (fun Ha x => sqT_tx (x.tx (hS.ex (e.trans e2))) hs) fun i Ha x Hb hlt hg y => ?_
      obtain ⟨rfl, hx⟩ := y
      obtain ⟨d, hd1, hd2⟩ := dpa_getV (dpa_tx (hg.tx (hS.ex (e.trans e2))) _ _ hi ha) hx
      exact ⟨Ex.refl _, d, hd1, hd2⟩
/-- range -/
theorem rng_get {n : Nat} {f : Nat → PyData} {i : Nat} (h : i < n) : ((List.range n).map f)[i]? = some (f i) := by
  rw [List.getElem?_map, List.getElem?_range h]
  rfl
theorem ei_rng1 {S : List Addr} {ta : TA} {n : Int} (h : EvDA K ta σ H [.int n]) (hn : -(2 ^ 62) ≤ n ∧ n < 2 ^ 62) : EvI K (iRng1 ta) σ H S ((List.range n.toNat).map fun (i : Nat) => PyData.int (i : Int)) := fun H1 e R r =>
  h H1 e _ fun vs H2 e2 hv => by
    cases hv with
    | cons a b =>
      cases b
      cases a
      refine ⟨n, rfl, hn.1, hn.2, r _ H2 e2 ?_⟩
      rw [List.length_map, List.length_range]
      refine walk_range.mono (fun _ _ => trivial) fun i Ha x Hb hlt hg y => ?_
      obtain ⟨rfl, rfl⟩ := y
      refine ⟨Ex.refl _, _, rng_get hlt, ?_⟩
      show Dp K Hb (.int (0 + (i : Int))) (.int (i : Int))
      rw [Int.zero_add]
      exact .int _
theorem ei_rng2 {S : List Addr} {ta : TA} {m n : Int} (h : EvDA K ta σ H [.int m, .int n]) (hn : (-(2 ^ 62) ≤ m ∧ m < 2 ^ 62) ∧ -(2 ^ 62) ≤ n ∧ n < 2 ^ 62) : EvI K (iRng2 ta) σ H S ((List.range (n - m).toNat).map fun (i : Nat) => PyData.int (m + (i : Int))) := fun H1 e R r =>
  h H1 e _ fun vs H2 e2 hv => by
    cases hv with
    | cons a b =>
      cases b with
      | cons b c =>
        cases c
        cases a
        cases b
        refine ⟨m, n, rfl, ⟨hn.1.1, hn.1.2, hn.2.1, hn.2.2⟩, r _ H2 e2 ?_⟩
        rw [List.length_map, List.length_range]
        refine walk_range.mono (fun _ _ => trivial) fun i Ha x Hb hlt hg y => ?_
        obtain ⟨rfl, rfl⟩ := y
        exact ⟨Ex.refl _, _, rng_get hlt, .int _⟩
/-- range(m, e, -1) -/
theorem ei_rngD {S : List Addr} {ta : TA} {m n : Int} (h : EvDA K ta σ H [.int m, .int n, .int (-1)]) (hn : (-(2 ^ 61) ≤ m ∧ m < 2 ^ 61) ∧ -(2 ^ 61) ≤ n ∧ n < 2 ^ 61) (hr : RgC m n (-1) (m - n).toNat) :
    EvI K (iRng3 ta) σ H S ((List.range (m - n).toNat).map fun (i : Nat) => PyData.int (m - (i : Int))) := fun H1 e R r =>
  h H1 e _ fun vs H2 e2 hv => by
    cases hv with
    | cons a b =>
      cases b with
      | cons b c =>
        cases c with
        | cons c f =>
          cases f
          cases a
          cases b
          cases c
          refine ⟨m, n, -1, (m - n).toNat, rfl, hr, r _ H2 e2 ?_⟩
          rw [List.length_map, List.length_range]
          refine walk_rangeC.mono (fun _ _ => trivial) fun i Ha x Hb hlt hg y => ?_
          obtain ⟨rfl, rfl⟩ := y
          refine ⟨Ex.refl _, _, rng_get hlt, ?_⟩
          show Dp K Hb (.int (m + (i : Int) * (-1))) (.int (m - (i : Int)))
          rw [show m + (i : Int) * (-1) = m - (i : Int) by omega]
          exact .int _
/-! ### loops over it -/
variable {D : Ends} {tu tw tz : TS} {g : TG}
/-- a for: Pv of the heap at the start (all is evaluated), the turn, the slots, the heap -/
theorem d_for {wi : TI} {S : List Addr} (h : EvI K wi σ H S ds) (Pv : Hp → Nat → L2.St → Hp → Prop) (h0 : ∀ H2, Ex H H2 → Pv H2 0 σ H2) (hX : ∀ H2 i σ' Ha, i ≤ ds.length → Pv H2 i σ' Ha → Xp S H2 Ha)
    (hs : ∀ H2 i d x σ' Ha Hb, Ex H H2 → ds[i]? = some d → Pv H2 i σ' Ha → Ex Ha Hb → Dp K Hb x d → g x σ' Hb fun σ2 H3 => tu { D with nx := Pv H2 (i + 1), ct := Pv H2 (i + 1), bk := D.nx } σ2 H3)
    (hd : ∀ H2 σ' Ha, Ex H H2 → Pv H2 ds.length σ' Ha → D.nx σ' Ha) : tFor wi g tu D σ H := h H (Ex.refl H) _ fun J H2 e2 w =>
  for_it w (Pv H2) (h0 H2 e2) (fun i σ' Ha hi p => hX H2 i σ' Ha hi p) (fun i x σ' Ha Hb hlt p y => by
    obtain ⟨e, d, hd1, hd2⟩ := y
    exact hs H2 i d x σ' Ha Hb e2 hd1 p e hd2) fun σ' Ha p => hd H2 σ' Ha e2 p
theorem e_for {wi : TI} {S : List Addr} (h : EvI K wi σ H S ds) (Pv : Hp → Nat → L2.St → Hp → Prop) (h0 : ∀ H2, Ex H H2 → Pv H2 0 σ H2) (hX : ∀ H2 i σ' Ha, i ≤ ds.length → Pv H2 i σ' Ha → Xp S H2 Ha)
    (hs : ∀ H2 i d x σ' Ha Hb, Ex H H2 → ds[i]? = some d → Pv H2 i σ' Ha → Ex Ha Hb → Dp K Hb x d → g x σ' Hb fun σ2 H3 => tu { D with nx := Pv H2 (i + 1), ct := Pv H2 (i + 1), bk := tz D } σ2 H3)
    (hd : ∀ H2 σ' Ha, Ex H H2 → Pv H2 ds.length σ' Ha → tz D σ' Ha) : tSeq (tFor wi g tu) tz D σ H := d_for (D := { D with nx := tz D }) h Pv h0 hX hs hd
theorem gl_nil {Q : L2.St → Hp → Prop} : (fun (σ' : L2.St) H' => gNil [] σ' H' Q) = Q := by
  funext a b
  exact propext ⟨fun z => z.2, fun z => ⟨rfl, z⟩⟩
theorem gl_one {g2 : TG} {v : V} {Q : L2.St → Hp → Prop} : (fun (σ1 : L2.St) H1 => g2 v σ1 H1 Q) = fun σ1 H1 => gCons g2 gNil [v] σ1 H1 Q := by
  funext σ1 H1
  apply propext
  constructor
  · intro z
    refine ⟨v, [], rfl, ?_⟩
    rw [gl_nil]
    exact z
  · intro ⟨w, r, e, z⟩
    cases e
    rw [gl_nil] at z
    exact z
/-- targets: a name; a pair of targets; three -/
theorem g_two {g1 g2 : TG} {d1 d2 : PyData} {x : V} {Q : L2.St → Hp → Prop} (h : Dp K H x (.tuple [d1, d2])) (k : ∀ v1 v2, Dp K H v1 d1 → Dp K H v2 d2 → g1 v1 σ H fun σ1 H1 => g2 v2 σ1 H1 Q) :
    gTup K 2 (gCons g1 (gCons g2 gNil)) x σ H Q := by
  cases h with
  | tup hs ha =>
    cases ha with
    | cons a b =>
      cases b with
      | cons b c =>
        cases c
        refine ⟨_, _, rfl, hs, rfl, _, _, rfl, ?_⟩
        have q := k _ _ a b
        rw [gl_one] at q
        exact q
/-- a comprehension without a test -/
theorem en_lc {wi : TI} {vs : List Nat} (h : EvI K wi σ H [] ds) (hl : ds.length ≤ 50000) (f : Nat → PyData) (hi : ∀ i, i < ds.length → imm (f i) = true)
    (hs : ∀ H2 i d x Hb (Q : L2.St → Hp → Prop), Ex H H2 → ds[i]? = some d → Ex H2 Hb → Dp K Hb x d → (∀ σ2 H3, Ex Hb H3 → wipe σ2 vs = wipe σ vs → EvD K te σ2 H3 (f i) → Q σ2 H3) → g x (wipe σ vs) Hb Q) :
    EvN K (tLc wi g tYes te vs) σ H ((List.range ds.length).map f) := fun H1 e Q q => h H1 e _ fun J H2 e2 w => fun Dl hD => by
  have all : ∀ n, n ≤ ds.length → immAll ((List.range n).map f) = true := fun n => by
    induction n with
    | zero => intro _; simp [immAll]
    | succ n ih =>
      intro hn
      have app : ∀ (a b : List PyData), immAll a = true → immAll b = true → immAll (a ++ b) = true := fun a b ha hb => by
        induction a with
        | nil => exact hb
        | cons x a ih =>
          simp only [immAll, Bool.and_eq_true] at ha
          rw [List.cons_append, immAll, ha.1, ih ha.2]
          rfl
      rw [List.range_succ, List.map_append]
      exact app _ _ (ih (by omega)) (by simp [immAll, hi n (by omega)])
  refine lc_it w (fun n Ha => ∃ ws, Ex H2 Ha ∧ Ha Dl = some (.lst ws) ∧ DpAll K Ha ws ((List.range n).map f)) ⟨[], Ex.new hD, upd_same, by simp; exact .nil⟩ (fun n Ha _ p => by
    obtain ⟨ws, p1, _⟩ := p
    exact Xp.of_ex p1) (fun i x Ha Hb hlt p y => ?_) fun Ha p => ?_
  · obtain ⟨ws, p1, p2, p3⟩ := p
    obtain ⟨ey, d, hd1, hd2⟩ := y
    refine hs H2 i d x Hb _ (e.trans e2) hd1 (p1.trans ey) hd2 fun σ2 H3 e3 hw hv => ⟨hw, ?_⟩
    show te σ2 H3 _
    refine hv H3 (Ex.refl _) _ fun v H4 e4 hv4 => ⟨ws, e4 _ _ (e3 _ _ (ey _ _ p2)), ?_, ws ++ [v], ?_, upd_same, ?_⟩
    · have := dpa_len p3
      rw [List.length_map, List.length_range] at this
      exact sz_lt (by omega)
    · exact Ex.mut ((p1.trans ey).trans (e3.trans e4)) hD
    · have at4 : H4 Dl = some (.lst ws) := e4 _ _ (e3 _ _ (ey _ _ p2))
      rw [List.range_succ, List.map_append]
      refine dpa_app (dpa_tx (Tx.lst at4) _ _ (all i (by omega)) (dpa_ex ((ey.trans e3).trans e4) _ _ p3)) ?_
      exact .cons (dp_tx (Tx.lst at4) _ _ (hi i hlt) hv4) .nil
  · obtain ⟨ws, p1, p2, p3⟩ := p
    exact q Dl ws Ha (fresh_back e2 hD) (e2.trans p1) p2 p3
end
end DL
set_option Elab.async false
set_option linter.all false
set_option maxRecDepth 100000
set_option maxHeartbeats 2000000
namespace DL
open PySem PySem.Spec PyProof.Rows L2 Evl

/-! ### defs that are called by name -/
structure DF (P : Program) (w : World) (K : PySem.W.Frag) (mg : Str → Option Value) (base : Heap) (nm : Str) (k : Nat) (ps : List Str) (sp : Sp) : Prop where
  ex : ∃ (f : Addr) (fd : FuncData), FnOk P w K mg base CX0 k f fd ps sp ∧ mg nm = some (.ref f) ∧ PySem.W.keepIn K (.ref f) = true ∧ Binds K fd ps []
theorem pe_D {X : Cx} {nm : Str} {k : Nat} {ps : List Str} {sp : Sp} {e : Expr} {es : List Expr} {t : TA} {p pos : Pos} (F : DF X.prog X.w X.K X.mg X.base nm k ps sp) (hr : Room k X.A) (hg : Gl X nm) (ha : PA X (e :: es) t)
    (hdb : (nm == ("__debug__" : Str)) = false := by decide) (he : starEach (e :: es) X.env = (false, eval e X.env) :: starEach es X.env := by rfl) (hpl : (backTo pos (starEach es X.env)).any (·.1) = false := by rfl) :
    PE X (.Call (.Name nm p) (e :: es) [] pos) (tCall sp [] E0 t) := by
  obtain ⟨f, fd, h1, h2, h3, h4⟩ := F.ex
  exact pe_call h1 hr hg h2 h3 h4 .nil pass0 ha hdb he hpl

/-! ### a list's item, read to be changed -/
def rGetL (K : PySem.W.Frag) : V → V → Hp → VK → Prop := fun o i H Q => ∃ p xs v, ∃ j : Nat, o = .ref p ∧ i = .int (j : Int) ∧ SqL K H p xs ∧ xs[j]? = some v ∧ Q v H
theorem get_list {X : Cx} : PGet X (rGetL X.K) := fun pins s σ H o i ov iv Q I r1 r2 h => by
  obtain ⟨p, xs, v, j, rfl, rfl, hs, hv, q⟩ := h
  obtain ⟨its, rv, pl, hz⟩ := I.list hs
  cases r1
  obtain ⟨t, rfl⟩ := r2
  obtain ⟨u, hu, ru⟩ := rv.get hv
  have hj := (List.getElem?_eq_some_iff.mp hv).1
  have hn := line63
  refine wpAny_getItem_list pl.isList (by omega) (by omega) (x := u) (by simpa using hu) ⟨v, H, I, ru, q⟩

/-! ### max of a tuple of ints -/
section
variable {prog : Program} {w : World} {A : Around} {E : Value → Shared → Prop} {s : Shared} {l : Addr} {its : List Value} {ns : List Int} {Q : Value → Shared → Prop}
theorem max_rawT (hh : A.handled = none) (hl : s.heap.IsTuple l its.toArray) (hi : IntsAre its ns) (hne : 0 < ns.length)
    (h : ∀ h' tk M t', (∀ b o, s.heap.get? b = some o → h'.get? b = some o) → M ∈ ns → (∀ a, a ∈ ns → a ≤ M) → Q (.int M t') { s with heap := h', toks := tk }) :
    wpAny (model prog w) A (call (.builtin "max") [.ref l]) Q E s := by
  have len : its.length = ns.length := hi.length
  have at_ : ∀ (i : Nat) v, its.toArray[i]? = some v → ∃ t, v = .int (ns.getD i 0) t := fun i v hv => by
    have hv' : its[i]? = some v := by simpa using hv
    have go : ∀ {us : List Value} {ms : List Int}, IntsAre us ms → ∀ {i : Nat} {v : Value}, us[i]? = some v → ∃ t, v = .int (ms.getD i 0) t := by
      intro us ms hh
      induction hh with
      | nil => intro i v e; simp at e
      | cons n t _ ih =>
        intro i v e
        cases i with
        | zero => exact ⟨t, by simpa using e.symm⟩
        | succ i =>
          obtain ⟨t', q⟩ := ih (i := i) (v := v) (by simpa using e)
          exact ⟨t', by simpa using q⟩
    exact go hi hv'
  have hlt : l < s.heap.objs.size := by
    obtain ⟨o, ho, _⟩ := hl
    exact Heap.lt_size ho
  refine call_max_walk (wpAny_pyIter_tuple hl ?_)
  refine ⟨s.heap.objs.size, _, _, _, _, _, _, rfl, Walks.tuple (A := A.in1) hh _ l (Nat.ne_of_lt hlt) its.toArray, ⟨⟨_, Heap.get?_push_size _ rfl, rfl, rfl⟩, Heap.IsTuple.push hl _⟩, fun b hb => ?_, ?_, CmpOf.ints_gt (fun i => ns.getD i 0) at_, fun v h' tk hv hk => ?_⟩
  · show b < (s.heap.push _).objs.size
    rw [Heap.size_push]
    simp only [List.mem_cons, List.not_mem_nil, or_false] at hb
    rcases hb with e | e
    · rw [e]; exact Nat.lt_succ_self _
    · rw [e]; exact Nat.lt_succ_of_lt hlt
  · rw [List.size_toArray, len]
    exact hne
  · obtain ⟨t, rfl⟩ := at_ _ _ hv
    obtain ⟨h1, h2⟩ := argBest_gt (fun i => ns.getD i 0) (its.toArray.size - 1)
    have e1 : its.toArray.size = ns.length := by rw [List.size_toArray, len]
    refine h h' tk _ t (fun b o e => hk b o (fun hm => ?_) (Heap.get?_push_of_some _ e)) ?_ fun a ha => ?_
    · have := Heap.lt_size e
      simp only [List.mem_cons, List.not_mem_nil, or_false] at hm
      rw [hm] at this
      exact Nat.lt_irrefl _ this
    · exact PySem.getD_mem (by omega)
    · obtain ⟨j, hj, rfl⟩ := List.getElem_of_mem ha
      have q := h2 j (by omega)
      have ej : ns.getD j 0 = ns[j] := by rw [List.getD_eq_getElem?_getD, List.getElem?_eq_getElem hj]; rfl
      rw [ej] at q
      exact q
end
section
variable {X : Cx}
def rMaxT (K : PySem.W.Frag) : List V → Hp → VK → Prop := fun vs H Q => ∃ (a : Addr) (ns : List Int), vs = [V.ref a] ∧ SqT K H a (ns.map V.int) ∧ 0 < ns.length ∧ ∀ m, m ∈ ns → (∀ y, y ∈ ns → y ≤ m) → Q (.int m) H
theorem cr_maxT (hc : X.calm = true) : CallR X (.builtin "max") (rMaxT X.K) := by
  intro pins s σ H vs us Q I r h
  obtain ⟨a, ns, rfl, hs, hne, q⟩ := h
  obtain ⟨its, rv, hl, _⟩ := I.tuple hs
  rw [Vals.ref1 r]
  exact max_rawT (I.ok.hd hc) (show s.heap.IsTuple a its.toArray from hl) rv.ints hne fun h' tk m t' hk h1 h2 => ⟨.int _, H, I.kept hk, ⟨_, rfl⟩, q m h1 h2⟩
end
end DL
set_option Elab.async false
set_option linter.all false
set_option maxRecDepth 100000
set_option maxHeartbeats 2000000
namespace DL
open PySem PySem.Spec PyProof.Rows L2 Evl
section
variable {K : PySem.W.Frag} {σ : L2.St} {H H' : Hp} {ta tb te : TE} {t u : TT} {d : PyData} {ds es : List PyData} {v : V} {ns : List Int}
/-- a list that is tracked -/
def EvQ (K : PySem.W.Frag) (te : TE) (σ : L2.St) (H : Hp) (ds : List PyData) : Prop := ∀ H1, Ex H H1 → ∀ Q : VK, (∀ p vs H2, Ex H1 H2 → H2 p = some (.lst vs) → DpAll K H2 vs ds → Q (.ref p) H2) → te σ H1 Q
theorem EvN.toQ (h : EvN K te σ H ds) : EvQ K te σ H ds := fun H1 e Q q => h H1 e Q fun p vs H2 _ e2 h2 hd => q p vs H2 e2 h2 hd
theorem EvQ.toD (h : EvQ K te σ H ds) : EvD K te σ H (.list ds) := fun H1 e Q q => h H1 e Q fun p vs H2 e2 h2 hd => q _ H2 e2 (.lst (sq_of h2) hd)
theorem EvQ.ex (e : Ex H H') (h : EvQ K te σ H ds) : EvQ K te σ H' ds := fun H1 a Q q => h H1 (e.trans a) Q q
theorem eq_var {k : Nat} {p : Addr} {vs : List V} (h : σ[k]? = some (some (.ref p))) (hp : H p = some (.lst vs)) (hd : DpAll K H vs ds) : EvQ K (tVar k) σ H ds := fun H1 e Q q =>
  ⟨.ref p, h, q p vs H1 (Ex.refl _) (e _ _ hp) (dpa_ex e _ _ hd)⟩
theorem eq_is {ds' : List PyData} (h : EvQ K te σ H ds) (e : ds = ds') : EvQ K te σ H ds' := e ▸ h

/-! ### max, min, sum -/
theorem ev_maxL {m : Int} (h : EvD K te σ H (.list (dI ns))) (h0 : 0 < ns.length) (hm : m ∈ ns) (hb : ∀ y, y ∈ ns → y ≤ m) : Ev (tCB (rMax K) (tCons te tNil)) σ H (.int m) := fun H1 e Q q =>
  h H1 e _ fun w H2 e2 hw => by
    cases hw with
    | lst hs ha =>
      rw [dpa_ints ha] at hs
      refine ⟨_, ns, rfl, hs, h0, fun m' h1 h2 => ?_⟩
      rw [show m' = m from Int.le_antisymm (hb _ h1) (h2 _ hm)]
      exact q H2 e2
theorem ev_maxT {m : Int} (h : EvD K te σ H (tI ns)) (h0 : 0 < ns.length) (hm : m ∈ ns) (hb : ∀ y, y ∈ ns → y ≤ m) : Ev (tCB (rMaxT K) (tCons te tNil)) σ H (.int m) := fun H1 e Q q =>
  h H1 e _ fun w H2 e2 hw => by
    obtain ⟨a, rfl, hs⟩ := dp_tI hw
    refine ⟨a, ns, rfl, hs, h0, fun m' h1 h2 => ?_⟩
    rw [show m' = m from Int.le_antisymm (hb _ h1) (h2 _ hm)]
    exact q H2 e2
theorem ev_sumL (h : EvD K te σ H (.list (dI ns))) : Ev (tCB (rSum K) (tCons te tNil)) σ H (.int ns.sum) := fun H1 e Q q =>
  h H1 e _ fun w H2 e2 hw => by
    cases hw with
    | lst hs ha =>
      rw [dpa_ints ha] at hs
      exact ⟨_, ns, rfl, hs, q H2 e2⟩
theorem ev_min2 {i j : Int} (ha : Ev ta σ H (.int i)) (hb : Ev tb σ H (.int j)) : Ev (tCB (fun xs H Q => ∃ i j, xs = [.int i, .int j] ∧ Q (.int (if j < i then j else i)) H) (tCons ta (tCons tb tNil))) σ H (.int (min i j)) := fun H1 e Q q =>
  ha H1 e _ fun H2 e2 => hb H2 (e.trans e2) _ fun H3 e3 => ⟨i, j, rfl, by
    have : (if j < i then j else i) = min i j := by
      by_cases h : j < i
      · rw [if_pos h]; omega
      · rw [if_neg h]; omega
    rw [this]
    exact q H3 (e2.trans e3)⟩

/-! ### joining, repeating, cutting -/
theorem en_cat (ha : EvQ K ta σ H ds) (hb : EvQ K tb σ H es) (hl : ds.length + es.length ≤ 100000) : EvN K (tOp rCat ta tb) σ H (ds ++ es) := fun H1 e Q q =>
  ha H1 e _ fun p vs H2 e2 hp hd => hb H2 (e.trans e2) _ fun r ws H3 e3 hr he => ⟨p, r, vs, ws, rfl, rfl, e3 _ _ hp, hr, sz_of (by rw [dpa_len hd, dpa_len he]; exact hl), fun l hl =>
    q l _ _ (fresh_back (e2.trans e3) hl) ((e2.trans e3).trans (Ex.new hl)) upd_same (dpa_ex (Ex.new hl) _ _ (dpa_app (dpa_ex e3 _ _ hd) he))⟩
theorem en_rep {n : Int} (ha : EvQ K ta σ H [d]) (hb : Ev tb σ H (.int n)) (hn : n ≤ 100000) (hn0 : -100000 ≤ n) : EvN K (tOp rRep ta tb) σ H (List.replicate n.toNat d) := fun H1 e Q q =>
  ha H1 e _ fun p vs H2 e2 hp hd => hb H2 (e.trans e2) _ fun H3 e3 => by
    cases hd with
    | cons a b =>
      cases b
      rename_i v
      have hz : ([v] : List V).length * n.toNat ≤ 100000 := by simp; omega
      refine ⟨p, n, [v], rfl, rfl, e3 _ _ hp, by omega, by omega, sz_of hz, fun l hl => ?_⟩
      have ef : (List.replicate n.toNat [v]).flatten = List.replicate n.toNat v := by
        induction n.toNat with
        | zero => rfl
        | succ k ih => rw [List.replicate_succ, List.flatten_cons, ih, List.replicate_succ]; rfl
      rw [ef]
      exact q l _ _ (fresh_back (e2.trans e3) hl) ((e2.trans e3).trans (Ex.new hl)) upd_same (dpa_rep (dp_ex ((e3).trans (Ex.new hl)) _ _ a) _)
theorem ed_cat (ha : EvD K ta σ H (.tuple ds)) (hb : EvD K tb σ H (.tuple es)) (hl : ds.length + es.length ≤ 100000) : EvD K (tOp (rCatA K) ta tb) σ H (.tuple (ds ++ es)) := fun H1 e Q q =>
  ha H1 e _ fun x H2 e2 hx => hb H2 (e.trans e2) _ fun y H3 e3 hy => by
    cases hx with
    | tup h1 a1 =>
      cases hy with
      | tup h2 a2 =>
        have n1 := dpa_len a1
        have n2 := dpa_len a2
        refine ⟨_, _, _, _, rfl, rfl, ex_t e3 h1, h2, sz_of (by omega), fun e0 => ?_, fun _ e0 => ?_, fun _ _ l hl => ?_⟩
        · subst e0
          cases a1
          exact q _ H3 (e2.trans e3) (.tup h2 a2)
        · subst e0
          cases a2
          rw [List.append_nil] at q
          exact q _ H3 (e2.trans e3) (.tup (ex_t e3 h1) (dpa_ex e3 _ _ a1))
        · exact q _ _ ((e2.trans e3).trans (Ex.new hl)) (.tup (st_of upd_same) (dpa_ex (Ex.new hl) _ _ (dpa_app (dpa_ex e3 _ _ a1) a2)))
def cutD (ds : List PyData) (lo hi : Option Int) : List PyData := (ds.drop (HT.sIx ds.length 0 lo)).take (HT.sIx ds.length ds.length hi - HT.sIx ds.length 0 lo)
theorem dpa_cut {vs : List V} {lo hi : Option Int} (h : DpAll K H vs ds) : DpAll K H (cutV vs lo hi) (cutD ds lo hi) := by
  unfold cutV cutD
  rw [dpa_len h]
  exact dpa_take _ (dpa_drop _ h)
theorem ed_sl {tl th : TO} {lo hi : Option Int} (h : EvD K te σ H (.tuple ds)) (h1 : EvO tl σ H lo) (h2 : EvO th σ H hi) : EvD K (tSl (rSlA K) te tl th) σ H (.tuple (cutD ds lo hi)) := fun H1 e Q q =>
  h H1 e _ fun x H2 e2 hx => h1 H2 (e.trans e2) _ fun H3 e3 => h2 H3 ((e.trans e2).trans e3) _ fun H4 e4 => by
    cases hx with
    | tup hs ha =>
      have n1 := dpa_len ha
      refine ⟨_, _, rfl, ex_t (e3.trans e4) hs, fun hw => ?_, fun _ l hl => ?_⟩
      · have ec : cutD ds lo hi = ds := by
          unfold cutD
          rw [← n1, hw.1, hw.2, n1]
          simp
        rw [ec] at q
        exact q _ H4 ((e2.trans e3).trans e4) (.tup (ex_t (e3.trans e4) hs) (dpa_ex (e3.trans e4) _ _ ha))
      · exact q _ _ (((e2.trans e3).trans e4).trans (Ex.new hl)) (.tup (st_of upd_same) (dpa_ex ((e3.trans e4).trans (Ex.new hl)) _ _ (dpa_cut ha)))
theorem en_sl {tl th : TO} {lo hi : Option Int} (h : EvD K te σ H (.list ds)) (h1 : EvO tl σ H lo) (h2 : EvO th σ H hi) : EvN K (tSl (rSlL K) te tl th) σ H (cutD ds lo hi) := fun H1 e Q q =>
  h H1 e _ fun x H2 e2 hx => h1 H2 (e.trans e2) _ fun H3 e3 => h2 H3 ((e.trans e2).trans e3) _ fun H4 e4 => by
    cases hx with
    | lst hs ha =>
      refine ⟨_, _, rfl, ex_l (e3.trans e4) hs, fun l hl => ?_⟩
      exact q _ _ _ (fresh_back ((e2.trans e3).trans e4) hl) (((e2.trans e3).trans e4).trans (Ex.new hl)) upd_same (dpa_ex ((e3.trans e4).trans (Ex.new hl)) _ _ (dpa_cut ha))
theorem en_rev (h : EvD K te σ H (.list ds)) : EvN K (tRevL K te) σ H ds.reverse := fun H1 e Q q =>
  h H1 e _ fun x H2 e2 hx => by
    cases hx with
    | lst hs ha => exact ⟨_, _, rfl, hs, fun l hl => q _ _ _ (fresh_back e2 hl) (e2.trans (Ex.new hl)) upd_same (dpa_ex (Ex.new hl) _ _ (dpa_rev ha))⟩
/-- tuple(x), list(x) -/
theorem ed_tupleOf (h : EvD K te σ H (.list ds)) : EvD K (tCB (fun xs H Q => ∃ p ys, xs = [.ref p] ∧ ((SqL K H p ys ∧ ∀ l, H l = none → Q (.ref l) (upd H l (.tup ys))) ∨ (SqT K H p ys ∧ Q (.ref p) H))) (tCons te tNil)) σ H (.tuple ds) := fun H1 e Q q =>
  h H1 e _ fun x H2 e2 hx => by
    cases hx with
    | lst hs ha => exact ⟨_, _, rfl, .inl ⟨hs, fun l hl => q _ _ (e2.trans (Ex.new hl)) (.tup (st_of upd_same) (dpa_ex (Ex.new hl) _ _ ha))⟩⟩
theorem en_listOf (h : EvD K te σ H (.list ds)) : EvN K (tCB (fun xs H Q => ∃ p ys, xs = [.ref p] ∧ (SqL K H p ys ∨ SqT K H p ys) ∧ ∀ l, H l = none → Q (.ref l) (upd H l (.lst ys))) (tCons te tNil)) σ H ds := fun H1 e Q q =>
  h H1 e _ fun x H2 e2 hx => by
    cases hx with
    | lst hs ha => exact ⟨_, _, rfl, .inl hs, fun l hl => q _ _ _ (fresh_back e2 hl) (e2.trans (Ex.new hl)) upd_same (dpa_ex (Ex.new hl) _ _ ha)⟩
/-! ### tests -/
theorem ev_eqD {e1 e2 : PyData} (ha : EvD K ta σ H e1) (hb : EvD K tb σ H e2) (h1 : SeqAt.shaped e1 = true) (h2 : SeqAt.shaped e2 = true) : Ev (tOp (rEqD K) ta tb) σ H (.bl (PyData.eqv e1 e2)) := fun H1 e Q q =>
  ha H1 e _ fun x H2 e2' hx => hb H2 (e.trans e2') _ fun y H3 e3 hy => ⟨_, _, dp_ex e3 _ _ hx, hy, h1, h2, q H3 (e2'.trans e3)⟩
theorem eqvAll_ints : ∀ a b : List Int, PyData.eqvAll (dI a) (dI b) = decide (a = b)
  | [], [] => by simp [PyData.eqvAll]
  | [], _ :: _ => by simp [PyData.eqvAll]
  | _ :: _, [] => by simp [PyData.eqvAll]
  | x :: a, y :: b => by
    have ih := eqvAll_ints a b
    rw [dI, dI, List.map_cons, List.map_cons, PyData.eqvAll, ih, PyData.eqv]
    by_cases h : x = y
    · subst h; simp
    · simp [h]
theorem eqv_tI (a b : List Int) : PyData.eqv (tI a) (tI b) = decide (a = b) := by
  rw [PyData.eqv]
  exact eqvAll_ints a b
theorem canLay_ints : ∀ a : List Int, PyData.canLayAll0 (dI a) = true
  | [] => by simp [PyData.canLayAll0]
  | x :: a => by simp [PyData.canLayAll0, PyData.canLay0, canLay_ints a]
theorem depth_ints : ∀ a : List Int, PyData.depthAll (dI a) ≤ 1
  | [] => by simp [PyData.depthAll]
  | x :: a => by
    have h := depth_ints a
    rw [dI] at h
    rw [dI, List.map_cons, PyData.depthAll]
    simp only [PyData.depth]
    omega
theorem shaped_tI (a : List Int) : SeqAt.shaped (tI a) = true := by
  have h := depth_ints a
  show ((tI a).canLay0 && decide ((tI a).depth ≤ 64)) = true
  rw [Bool.and_eq_true]
  refine ⟨by rw [PyData.canLay0]; exact canLay_ints a, decide_eq_true ?_⟩
  rw [PyData.depth]
  omega
def isNoneD : PyData → Bool
  | .none => true
  | _ => false
theorem ev_isN {b : Bool} (ha : EvD K ta σ H d) (hb : b = isNoneD d) : Ev (tIsN ta) σ H (.bl b) := fun H1 e Q q =>
  ha H1 e _ fun x H2 e2 hx => by
    have : decide (x = V.non) = b := by
      rw [hb]
      cases hx <;> simp [isNoneD]
    rw [this]
    exact q H2 e2
theorem ev_notN {b : Bool} (ha : EvD K ta σ H d) (hb : b = !isNoneD d) : Ev (tNotN ta) σ H (.bl b) := fun H1 e Q q =>
  ha H1 e _ fun x H2 e2 hx => by
    have : (!decide (x = V.non)) = b := by
      rw [hb]
      cases hx <;> simp [isNoneD]
    rw [this]
    exact q H2 e2
/-- isinstance of an int, a bool, a tuple, a list -/
theorem ev_isi_int {nm : String} {b : Bool} {i : Int} (ha : Ev ta σ H (.int i)) (hb : kitB "int" nm = some b) : Ev (tCB (rIsi K) (tCons ta (tCons (tC (.ty nm)) tNil))) σ H (.bl b) := fun H1 e Q q =>
  ha H1 e _ fun H2 e2 => ⟨_, _, _, _, b, rfl, .ty nm, .base (.int i), kit_ty hb, q H2 e2⟩
theorem tyT {H : Hp} {a : Addr} {xs : List V} (h : SqT K H a xs) : TyX K H (.ref a) (.type "tuple") := by
  rcases h with (h | ⟨o, h⟩) | ⟨o, its, n, hk, hc, _⟩
  · exact .base (.tup h)
  · exact .fTuple h
  · exact .kTuple hk hc
theorem tyL {H : Hp} {a : Addr} {xs : List V} (h : SqL K H a xs) : TyX K H (.ref a) (.type "list") := by
  rcases h with (h | ⟨o, h⟩) | ⟨o, its, n, hk, hc, _⟩
  · exact .base (.lst h)
  · exact .base (.frz h)
  · exact .kList hk hc
theorem ev_isi_tup {nm : String} {b : Bool} (ha : EvD K ta σ H (.tuple ds)) (hb : kitB "tuple" nm = some b) : Ev (tCB (rIsi K) (tCons ta (tCons (tC (.ty nm)) tNil))) σ H (.bl b) := fun H1 e Q q =>
  ha H1 e _ fun x H2 e2 hx => by
    cases hx with
    | tup hs _ => exact ⟨_, _, _, _, b, rfl, .ty nm, tyT hs, kit_ty hb, q H2 e2⟩
/-- isinstance(x, (list, tuple)), x a list -/
theorem ev_isi_lst2 (ha : EvD K ta σ H (.list ds)) (h1 : kitB "list" "list" = some true) : Ev (tCB (rIsiT K) (tCons ta (tCons (tTup (tCons (tC (.ty "list")) (tCons (tC (.ty "tuple")) tNil))) tNil))) σ H (.bl true) := fun H1 e Q q =>
  ha H1 e _ fun x H2 e2 hx => by
    cases hx with
    | lst hs _ =>
      refine ⟨by show 2 ≤ sizeLine; decide, fun p hp => ?_⟩
      refine ⟨_, p, [.ty "list", .ty "tuple"], .type "list", [.type "list", .type "tuple"], true, rfl, upd_same, .cons (.ty _) (.cons (.ty _) .nil), tyL (ex_l (Ex.new hp) hs), ?_, q _ (e2.trans (Ex.new hp))⟩
      exact kitAny_cons (b := true) (kit_ty h1) (fun z => by cases z) fun _ => rfl
/-- a <= b <= c of ints -/
theorem ev_chain {f g : Int → Int → Bool} {tc : TE} {x y z : Int} (ha : Ev ta σ H (.int x)) (hb : Ev tb σ H (.int y)) (hc : Ev tc σ H (.int z)) :
    Ev (tChain (rI0 fun i j => .bl (f i j)) (rI0 fun i j => .bl (g i j)) ta tb tc) σ H (.bl (f x y && g y z)) := fun H1 e Q q =>
  ha H1 e _ fun H2 e2 => hb H2 (e.trans e2) _ fun H3 e3 => ⟨x, y, rfl, rfl, f x y, rfl, by
    cases h : f x y with
    | true =>
      show tc σ H3 _
      refine hc H3 ((e.trans e2).trans e3) _ fun H4 e4 => ⟨y, z, rfl, rfl, ?_⟩
      have := q H4 ((e2.trans e3).trans e4)
      rw [h, Bool.true_and] at this
      exact this
    | false =>
      show Q (.bl false) H3
      have := q H3 (e2.trans e3)
      rw [h, Bool.false_and] at this
      exact this⟩
/-- a list's truth -/
theorem et_lst (h : EvD K te σ H (.list ds)) : EvT (fun σ H Q => te σ H fun x H' => ∃ k, TruV K x H' k ∧ Q k H') σ H (!ds.isEmpty) := fun H1 e Q q =>
  h H1 e _ fun x H2 e2 hx => by
    cases hx with
    | lst hs ha =>
      refine ⟨_, .inl ⟨_, hs, rfl⟩, ?_⟩
      have : (!(List.isEmpty ‹List V›)) = !ds.isEmpty := by
        have n := dpa_len ha
        cases ds with
        | nil => rw [List.eq_nil_of_length_eq_zero n]; rfl
        | cons a b =>
          cases ‹List V› with
          | nil => simp at n
          | cons c d => rfl
      rw [this]
      exact q H2 e2
/-! ### arguments taken apart -/
theorem dpa_one {vs : List V} (h : DpAll K H vs [d]) : ∃ v, vs = [v] ∧ Dp K H v d := by
  cases h with
  | cons a b =>
    cases b
    exact ⟨_, rfl, a⟩
theorem dpa_two {vs : List V} {d2 : PyData} (h : DpAll K H vs [d, d2]) : ∃ v v2, vs = [v, v2] ∧ Dp K H v d ∧ Dp K H v2 d2 := by
  cases h with
  | cons a b =>
    obtain ⟨v, rfl, c⟩ := dpa_one b
    exact ⟨_, _, rfl, a, c⟩
theorem dpa_three {vs : List V} {d2 d3 : PyData} (h : DpAll K H vs [d, d2, d3]) : ∃ v v2 v3, vs = [v, v2, v3] ∧ Dp K H v d ∧ Dp K H v2 d2 ∧ Dp K H v3 d3 := by
  cases h with
  | cons a b =>
    obtain ⟨v, v2, rfl, c, c2⟩ := dpa_two b
    exact ⟨_, _, _, rfl, a, c, c2⟩
theorem dpa_four {vs : List V} {d2 d3 d4 : PyData} (h : DpAll K H vs [d, d2, d3, d4]) : ∃ v v2 v3 v4, vs = [v, v2, v3, v4] ∧ Dp K H v d ∧ Dp K H v2 d2 ∧ Dp K H v3 d3 ∧ Dp K H v4 d4 := by
  cases h with
  | cons a b =>
    obtain ⟨v, v2, v3, rfl, c, c2, c3⟩ := dpa_three b
    exact ⟨_, _, _, _, rfl, a, c, c2, c3⟩
/-- a tuple of ints, an int -/
theorem dpa_ti {vs : List V} {i : Int} (h : DpAll K H vs [d, .int i]) : ∃ v v1, vs = [v, v1] ∧ Dp K H v d ∧ v1 = .int i := by
  obtain ⟨v, v1, rfl, a, b⟩ := dpa_two h
  exact ⟨v, v1, rfl, a, dp_int b⟩
/-- an int, a tuple -/
theorem dpa_it {vs : List V} {i : Int} (h : DpAll K H vs [.int i, d]) : ∃ v, vs = [.int i, v] ∧ Dp K H v d := by
  obtain ⟨v, v1, rfl, a, b⟩ := dpa_two h
  cases dp_int a
  exact ⟨v1, rfl, b⟩
theorem dpa_iti {vs : List V} {i j : Int} (h : DpAll K H vs [.int i, d, .int j]) : ∃ v, vs = [.int i, v, .int j] ∧ Dp K H v d := by
  obtain ⟨v, v1, v2, rfl, a, b, c⟩ := dpa_three h
  cases dp_int a
  cases dp_int c
  exact ⟨v1, rfl, b⟩
theorem decide_vint (a b : Int) : decide (V.int a = V.int b) = decide (a = b) := by
  by_cases h : a = b
  · subst h; simp
  · simp [h]
/-- what is handed back is told by what holds of it -/
def spX (K : PySem.W.Frag) (n : Nat) (Pre : List PyData → Prop) (Post : List PyData → PyData → Prop) : Sp := fun vs H Q _ => ∃ ds, DpAll K H vs ds ∧ ds.length = n ∧ Pre ds ∧ ∀ r v H', Post ds r → Ex H H' → Dp K H' v r → Q v H'
theorem spX_len {n : Nat} {Pre : List PyData → Prop} {Post : List PyData → PyData → Prop} {vs : List V} {Q : VK} {E : XK} (h : spX K n Pre Post vs H Q E) : vs.length = n := by
  obtain ⟨ds, h1, h2, _⟩ := h
  rw [dpa_len h1, h2]
end
end DL
set_option Elab.async false
set_option linter.all false
set_option maxRecDepth 100000
set_option maxHeartbeats 2000000
namespace DL
open PySem PySem.Spec PyProof.Rows L2 Evl
theorem immAll_app : ∀ {a b : List PyData}, immAll a = true → immAll b = true → immAll (a ++ b) = true
  | [], _, _, h => h
  | x :: a, b, ha, hb => by
    simp only [immAll, Bool.and_eq_true] at ha
    rw [List.cons_append, immAll, ha.1, immAll_app ha.2 hb]
    rfl
theorem immAll_map {α : Type} {f : α → PyData} (h : ∀ a, imm (f a) = true) : ∀ l : List α, immAll (l.map f) = true
  | [] => by simp [immAll]
  | a :: l => by rw [List.map_cons, immAll, h a, immAll_map h l]; rfl
theorem immAll_flat {α : Type} {f : α → List PyData} (h : ∀ a, immAll (f a) = true) : ∀ l : List α, immAll (l.flatMap f) = true
  | [] => by simp [immAll]
  | a :: l => by rw [List.flatMap_cons]; exact immAll_app (h a) (immAll_flat h l)
section
variable {K : PySem.W.Frag} {σ : L2.St} {H H' : Hp} {ta tb te : TE} {t u : TT} {d : PyData} {ds es : List PyData} {v : V} {ns : List Int}
/-- two fors, their targets names, the items ints and tuples -/
theorem en_lc2 {wi wi1 : TI} {a b : Nat} {vs vs1 : List Nat} (h : EvI K wi σ H [] ds) (hi : immAll ds = true) (ds1 : Nat → List PyData) (hi1 : ∀ i, immAll (ds1 i) = true) (f : Nat → Nat → PyData) (hf : ∀ i j, imm (f i j) = true)
    (hl : ∀ i, (ds1 i).length ≤ 100) (hn : ds.length ≤ 100) (hw : ∀ x, wipe ((wipe σ vs).set a (some x)) vs = wipe σ vs)
    (hw1 : ∀ x y, wipe ((wipe ((wipe σ vs).set a (some x)) vs1).set b (some y)) vs1 = wipe ((wipe σ vs).set a (some x)) vs1)
    (hs : ∀ i d x H3, ds[i]? = some d → Dp K H3 x d → (∀ S, Ls H3 S → EvI K wi1 ((wipe σ vs).set a (some x)) H3 S (ds1 i)) ∧
      ∀ j d' y H5, (ds1 i)[j]? = some d' → Dp K H5 x d → Dp K H5 y d' → EvD K te ((wipe ((wipe σ vs).set a (some x)) vs1).set b (some y)) H5 (f i j)) :
    EvN K (tLc2 wi (gName a) tYes wi1 (gName b) tYes te vs vs1) σ H ((List.range ds.length).flatMap fun i => (List.range (ds1 i).length).map (f i)) := fun H1 e Q q => h H1 e _ fun J H2 e2 w => fun Dl hD => by
  have len : ∀ n, n ≤ ds.length → (((List.range n).flatMap fun i => (List.range (ds1 i).length).map (f i))).length ≤ 100 * n := fun n => by
    induction n with
    | zero => intro _; simp
    | succ n ih =>
      intro hn
      rw [List.range_succ, List.flatMap_append, List.length_append]
      have h1 := ih (by omega)
      have h2 := hl n
      rw [List.flatMap_cons, List.flatMap_nil, List.append_nil, List.length_map, List.length_range]
      omega
  have imf : ∀ n, immAll ((List.range n).flatMap fun i => (List.range (ds1 i).length).map (f i)) = true := fun n => immAll_flat (fun i => immAll_map (hf i) _) _
  let G : Nat → Hp → Prop := fun n Ha => ∃ ws, Ex H2 Ha ∧ Ha Dl = some (.lst ws) ∧ DpAll K Ha ws ((List.range n).flatMap fun i => (List.range (ds1 i).length).map (f i))
  have G0 : G 0 (upd H2 Dl (.lst [])) := ⟨[], Ex.new hD, upd_same, by simp; exact .nil⟩
  refine ⟨fun i m Ha => m = ds.length - i ∧ i ≤ ds.length ∧ G i Ha, ⟨_, rfl, Nat.zero_le _, G0⟩, ?_⟩
  rintro i m Ha ⟨rfl, hi', p⟩
  obtain ⟨ws, p1, p2, p3⟩ := p
  have gX : Xp [] H2 Ha := Xp.of_ex p1
  by_cases hlt : i < ds.length
  · refine .inr ⟨w.goes i Ha hlt gX, G (i + 1), fun H' p' => ⟨ds.length - (i + 1), by omega, rfl, hlt, p'⟩, fun x Hb y => ?_⟩
    obtain ⟨ey, d, hd1, hd2⟩ := w.yields i Ha x Hb hlt gX y
    refine ⟨hw x, ?_⟩
    show wi1 _ Hb _
    have di : imm d = true := by
      have all : ∀ {l : List PyData} {i : Nat} {d : PyData}, immAll l = true → l[i]? = some d → imm d = true := by
        intro l
        induction l with
        | nil => intro i d _ e; simp at e
        | cons x l ih =>
          intro i d hh e
          simp only [immAll, Bool.and_eq_true] at hh
          cases i with
          | zero => simp at e; subst e; exact hh.1
          | succ i => exact ih hh.2 (by simpa using e)
      exact all hi hd1
    obtain ⟨hq1, hq2⟩ := hs i d x Hb hd1 hd2
    have atB : Hb Dl = some (.lst ws) := ey _ _ p2
    refine hq1 [Dl] (Ls.one atB) Hb (Ex.refl _) _ fun J1 H4 e4 w1 => ?_
    let G1 : Nat → Hp → Prop := fun j Hc => ∃ wt, Xp [Dl] H4 Hc ∧ Ex H2 Hc ∧ Hc Dl = some (.lst wt) ∧ DpAll K Hc wt (((List.range i).flatMap fun i => (List.range (ds1 i).length).map (f i)) ++ (List.range j).map (f i))
    have e24 : Ex H2 H4 := (p1.trans ey).trans e4
    have G10 : G1 0 H4 := ⟨ws, Xp.refl _ _, e24, e4 _ _ atB, by simp; exact dpa_ex (ey.trans e4) _ _ p3⟩
    have tx4 : ∀ {Hc}, Xp [Dl] H4 Hc → Tx H4 Hc := fun z => z.tx ((Ls.one atB).ex e4)
    refine ⟨fun j k Hc => k = (ds1 i).length - j ∧ j ≤ (ds1 i).length ∧ G1 j Hc, ⟨_, rfl, Nat.zero_le _, G10⟩, ?_⟩
    rintro j k Hc ⟨rfl, hj, wt, r1, r2, r3, r4⟩
    by_cases hjt : j < (ds1 i).length
    · refine .inr ⟨w1.goes j Hc hjt r1, G1 (j + 1), fun H' p' => ⟨(ds1 i).length - (j + 1), by omega, rfl, hjt, p'⟩, fun y2 Hd yy => ?_⟩
      obtain ⟨ez, d', hd1', hd2'⟩ := w1.yields j Hc y2 Hd hjt r1 yy
      refine ⟨hw1 x y2, ?_⟩
      show te _ Hd _
      have tx : Tx Hb Hd := ((Tx.of_ex e4).trans (tx4 r1)).trans (Tx.of_ex ez)
      refine hq2 j d' y2 Hd hd1' (dp_tx tx _ _ di hd2) hd2' Hd (Ex.refl _) _ fun v7 H7 e7 hv => ⟨wt, e7 _ _ (ez _ _ r3), ?_, wt ++ [v7], ?_, ?_, upd_same, ?_⟩
      · have l1 := dpa_len r4
        have l2 := len i (by omega)
        have l3 := hl i
        rw [List.length_append, List.length_map, List.length_range] at l1
        exact sz_lt (by omega)
      · exact Xp.upd (Xp.then r1 (ez.trans e7)) (by simp)
      · exact Ex.mut ((r2.trans ez).trans e7) hD
      · have at7 : H7 Dl = some (.lst wt) := e7 _ _ (ez _ _ r3)
        rw [List.range_succ (n := j), List.map_append, ← List.append_assoc]
        refine dpa_app (dpa_tx (Tx.lst at7) _ _ (immAll_app (imf i) (immAll_map (hf i) _)) (dpa_ex (ez.trans e7) _ _ r4)) ?_
        exact .cons (dp_tx (Tx.lst at7) _ _ (hf i j) hv) .nil
    · have ej : j = (ds1 i).length := by omega
      subst ej
      refine .inl ⟨w1.stops Hc r1, wt, r2, r3, ?_⟩
      rw [List.range_succ, List.flatMap_append]
      simpa using r4
  · have ei : i = ds.length := by omega
    subst ei
    exact .inl ⟨w.stops Ha gX, q Dl ws Ha (fresh_back e2 hD) (e2.trans p1) p2 p3⟩
end
/-- a statement, then the rest -/
theorem q_asgD {t1 t2 : TS} {D : Ends} {σ : L2.St} {H : Hp} (h : t1 { D with nx := t2 D } σ H) : tSeq t1 t2 D σ H := h
section
variable {K : PySem.W.Frag} {σ : L2.St} {H H' : Hp} {ta tb te : TE} {d : PyData} {ds : List PyData} {D : Ends} {tz : TS}
theorem qd_asg {k : Nat} (h : EvD K te σ H d) (q : ∀ v H1, Ex H H1 → Dp K H1 v d → tz D (σ.set k (some v)) H1) : tSeq (tAsg te (gName k)) tz D σ H := h H (Ex.refl H) _ q
theorem qn_asg {k : Nat} (h : EvN K te σ H ds) (q : ∀ p vs H1, H p = none → Ex H H1 → H1 p = some (.lst vs) → DpAll K H1 vs ds → tz D (σ.set k (some (.ref p))) H1) : tSeq (tAsg te (gName k)) tz D σ H := h H (Ex.refl H) _ q
theorem qi_asg {k : Nat} {v : V} (h : Ev te σ H v) (q : ∀ H1, Ex H H1 → tz D (σ.set k (some v)) H1) : tSeq (tAsg te (gName k)) tz D σ H := h H (Ex.refl H) _ q
theorem qd_drop (h : EvD K te σ H d) (q : ∀ H1, Ex H H1 → tz D σ H1) : tSeq (tDrop te) tz D σ H := h H (Ex.refl H) _ fun _ H1 e _ => q H1 e
theorem qd_app {l : Addr} {xs : List V} (hl : H l = some (.lst xs)) (ha : Ev ta σ H (.ref l)) (h : EvD K te σ H d) (hz : xs.length < 100000) (q : ∀ v H1, Ex H H1 → Dp K H1 v d → tz D σ (upd H1 l (.lst (xs ++ [v])))) :
    tSeq (tDrop (tBM K "list" rAppend ta (tCons te tNil))) tz D σ H := d_app (D := { D with nx := tz D }) hl ha h hz q
end
/-! ### a tuple times 1 and more -/
theorem tuple_mul1 (l : Addr) (items : Array Value) (n : Nat) (dd : Option Addr) (sl : Array (Option Value)) (u : Tok) :
    Meets (Builtin.«tuple.__mul__» ⟨[.ref l, .int 1 u], []⟩) (fun _ R s => s.heap.get? l = some { cls := .type "tuple", dict := dd, data := .seq items n, slots := sl } ∧ R (.ok (.ret (Value.ref l))) s) :=
  .of_wp fun prog w A R s h => by
    obtain ⟨hp, g, d, tk, os⟩ := s
    obtain ⟨hl, h⟩ := h
    have f1 := AutoSeq1.idx_int
    have c0 : (decide ((1 : Int) < -(2 ^ 63)) || decide ((1 : Int) ≥ 2 ^ 63)) = false := by decide
    have c1 : (items.isEmpty || ((1 : Int) == 1)) = true := by simp
    wp_walk using AutoSeq1.wpAny_loadPart' hl
    repeat (first
      | (refine wpAny_ite_false (decide_eq_false (by rw [c0]; exact Bool.false_ne_true)) ?_; wp_walk using AutoSeq1.wpAny_loadPart' hl)
      | (refine wpAny_ite_true (decide_eq_true c1) ?_; wp_walk using AutoSeq1.wpAny_loadPart' hl))
    exact ⟨_, rfl, h⟩
def rMul1 (K : PySem.W.Frag) : R2 := fun x y H Q => ∃ l xs, x = .ref l ∧ y = .int 1 ∧ SqT K H l xs ∧ Q (.ref l) H
theorem op_mul1 {X : Cx} : OpR X (binaryOp .Mult) (rMul1 X.K) := by
  intro pins s σ H x y v u Q I rx ry h
  obtain ⟨l, xs, rfl, rfl, hT, q⟩ := h
  cases rx
  obtain ⟨t, rfl⟩ := ry
  obtain ⟨its, r, ⟨⟨cls, dd, data, sl⟩, ho, hc, n, hd⟩, hs⟩ := I.tuple hT
  simp only at hc hd
  subst hc hd
  exact wpAny_binaryOp_repeat_ref (T := "tuple") (U := "int") (by decide) ⟨_, ho, rfl⟩ (fun s' => typeIs_int s' 1 t) noFill_tuple_mul F.fills_int_mul F.slot_int_rmul repeat_tuple
    F.slot_int_index.lookup (call_meets F.slot_int_rmul (typeIs_int s 1 t) F.entry_int_rmul (F.args_int_rmul_2 _ _) (int_rmul_tuple 1 t l its.toArray n dd sl)
      ⟨ho, rfl, ⟨_, ho, rfl⟩, call_meets F.slot_tuple_mul ⟨_, ho, rfl⟩ F.entry_tuple_mul (F.args_tuple_mul_2 _ _) (tuple_mul1 l its.toArray n dd sl t) ⟨ho, ⟨.ref l, H, I, rfl, q⟩⟩⟩)
theorem op_repT1 {X : Cx} : OpR X (binaryOp .Mult) (fun x y H Q => rMul1 X.K x y H Q ∨ rRepT X.K x y H Q) := OpR.or op_mul1 op_repT
section
variable {K : PySem.W.Frag} {σ : L2.St} {H H' : Hp} {ta tb te : TE} {d : PyData}
theorem ed_rep1 {n : Int} (ha : EvD K ta σ H (.tuple [d])) (hb : Ev tb σ H (.int n)) (h1 : 1 ≤ n) (h2 : n ≤ 1000) : EvD K (tOp (fun x y H Q => rMul1 K x y H Q ∨ rRepT K x y H Q) ta tb) σ H (.tuple (List.replicate n.toNat d)) := fun H1 e Q q =>
  ha H1 e _ fun x H2 e2 hx => hb H2 (e.trans e2) _ fun H3 e3 => by
    cases hx with
    | tup hs hd =>
      cases hd with
      | cons a b =>
        cases b
        rename_i v
        by_cases hn : n = 1
        · subst hn
          exact .inl ⟨_, _, rfl, rfl, ex_t e3 hs, q _ H3 (e2.trans e3) (.tup (ex_t e3 hs) (.cons (dp_ex e3 _ _ a) .nil))⟩
        · refine .inr ⟨_, n, _, rfl, rfl, ex_t e3 hs, by simp, by omega, h2, by simp, fun l hl => ?_⟩
          have ef : (List.replicate n.toNat [v]).flatten = List.replicate n.toNat v := by
            induction n.toNat with
            | zero => rfl
            | succ k ih => rw [List.replicate_succ, List.flatten_cons, ih, List.replicate_succ]; rfl
          rw [ef]
          exact q _ _ ((e2.trans e3).trans (Ex.new hl)) (.tup (st_of upd_same) (dpa_rep (dp_ex (e3.trans (Ex.new hl)) _ _ a) _))
end
end DL
set_option Elab.async false
set_option linter.all false
set_option maxRecDepth 100000
set_option maxHeartbeats 2000000
namespace DL
open PySem PySem.Spec PyProof.Rows L2 Evl
section
variable {K : PySem.W.Frag} {σ : L2.St} {H H' : Hp} {ta tb te : TE} {d : PyData} {ds es : List PyData} {D : Ends} {tz : TS}
theorem g_three {g1 g2 g3 : TG} {d1 d2 d3 : PyData} {x : V} {Q : L2.St → Hp → Prop} (h : Dp K H x (.tuple [d1, d2, d3])) (k : ∀ v1 v2 v3, Dp K H v1 d1 → Dp K H v2 d2 → Dp K H v3 d3 → g1 v1 σ H fun σ1 H1 => g2 v2 σ1 H1 fun σ2 H2 => g3 v3 σ2 H2 Q) :
    gTup K 3 (gCons g1 (gCons g2 (gCons g3 gNil))) x σ H Q := by
  cases h with
  | tup hs ha =>
    cases ha with
    | cons a b =>
      cases b with
      | cons b c =>
        cases c with
        | cons c f =>
          cases f
          rename_i v1 v2 v3
          refine ⟨_, _, rfl, hs, rfl, v1, [v2, v3], rfl, ?_⟩
          have q := k v1 v2 v3 a b c
          have e : (fun σ1 H1 => g2 v2 σ1 H1 fun σ2 H2 => g3 v3 σ2 H2 Q) = fun σ1 H1 => gCons g2 (gCons g3 gNil) [v2, v3] σ1 H1 Q := by
            funext σ1 H1
            apply propext
            rw [gl_one]
            exact ⟨fun z => ⟨v2, [v3], rfl, z⟩, fun ⟨w, r, e, z⟩ => by cases e; exact z⟩
          rw [← e]
          exact q
/-- a, b = e; a, b, c = e -/
theorem qd_unp2 {a b : Nat} {d1 d2 : PyData} (h : EvD K te σ H (.tuple [d1, d2])) (k : ∀ v1 v2 H1, Ex H H1 → Dp K H1 v1 d1 → Dp K H1 v2 d2 → tz D ((σ.set a (some v1)).set b (some v2)) H1) :
    tSeq (tAsg te (gTup K 2 (gCons (gName a) (gCons (gName b) gNil)))) tz D σ H := h H (Ex.refl _) _ fun v H1 e hv => g_two hv fun v1 v2 h1 h2 => k v1 v2 H1 e h1 h2
theorem qd_unp3 {a b c : Nat} {d1 d2 d3 : PyData} (h : EvD K te σ H (.tuple [d1, d2, d3])) (k : ∀ v1 v2 v3 H1, Ex H H1 → Dp K H1 v1 d1 → Dp K H1 v2 d2 → Dp K H1 v3 d3 → tz D (((σ.set a (some v1)).set b (some v2)).set c (some v3)) H1) :
    tSeq (tAsg te (gTup K 3 (gCons (gName a) (gCons (gName b) (gCons (gName c) gNil))))) tz D σ H := h H (Ex.refl _) _ fun v H1 e hv => g_three hv fun v1 v2 v3 h1 h2 h3 => k v1 v2 v3 H1 e h1 h2 h3
/-- a list that is read and stays meanwhile -/
theorem ei_lstD (h : EvD K te σ H (.list ds)) (hi : immAll ds = true) : EvI K (iList K te) σ H [] ds := fun H1 e R r =>
  h H1 e _ fun w H2 e2 hw => by
    cases hw with
    | lst hs ha =>
      refine ⟨_, rfl, ⟨_, hs⟩, r _ H2 e2 ?_⟩
      rw [← dpa_len ha]
      refine walk_list.mono (fun Ha x => ex_l x.to_ex hs) fun i Ha x Hb hlt hg y => ?_
      obtain ⟨rfl, hx⟩ := y
      obtain ⟨d, hd1, hd2⟩ := dpa_getV (dpa_ex hg.to_ex _ _ ha) hx
      exact ⟨Ex.refl _, d, hd1, hd2⟩
theorem sqL_xp {p q : Addr} {vs : List V} {H1 Ha : Hp} (h : SqL K H q vs) (hp : H p = none) (e : Ex H H1) (x : Xp [p] H1 Ha) : SqL K Ha q vs := by
  have at_ : ∀ o, H q = some o → Ha q = some o := fun o ho => x q o (e q o ho) (fun hm => by
    have : q = p := by simpa using hm
    rw [this, hp] at ho
    cases ho)
  rcases h with (h | ⟨o, h⟩) | h
  · exact .inl (.inl (at_ _ h))
  · exact .inl (.inr ⟨o, at_ _ h⟩)
  · exact .inr h
/-- zip of two lists that are read -/
theorem ei_zipLL {es : List PyData} (ha : EvD K ta σ H (.list ds)) (hb : EvD K tb σ H (.list es)) (hi : immAll ds = true) (hj : immAll es = true) :
    EvI K (iZipM K false false (tCons ta (tCons tb tNil))) σ H [] (List.zipWith (fun x y => PyData.tuple [x, y]) ds es) := fun H1 e R r =>
  ha H1 e _ fun x H2 e2 hx => hb H2 (e.trans e2) _ fun y H3 e3 hy => by
    cases hx with
    | @lst a1 xs1 _ hs1 ha1 =>
      cases hy with
      | @lst a2 xs2 _ hs2 ha2 =>
        have hs1 := ex_l e3 hs1
        have ha1 := dpa_ex e3 _ _ ha1
        refine ⟨_, _, _, _, rfl, sqa_l hs1, sqa_l hs2, r _ H3 (e2.trans e3) ?_⟩
        rw [List.length_zipWith, ← dpa_len ha1, ← dpa_len ha2]
        have w := walk_zipM (K := K) (a := a1) (b := a2) (xs := xs1) (ys := xs2) (t := false) (u := false) (n := min xs1.length xs2.length) rfl
        refine (w.mono (fun Ha x => ⟨ex_l x.to_ex hs1, ex_l x.to_ex hs2⟩) fun i Ha v Hb hlt hg y => ?_)
        obtain ⟨T, v1, v2, rfl, hT, rfl, g1, g2⟩ := y
        obtain ⟨d1, q1, q2⟩ := dpa_getV (dpa_ex (hg.to_ex.trans (Ex.new hT)) _ _ ha1) g1
        obtain ⟨d2, q3, q4⟩ := dpa_getV (dpa_ex (hg.to_ex.trans (Ex.new hT)) _ _ ha2) g2
        refine ⟨Ex.new hT, .tuple [d1, d2], ?_, .tup (st_of upd_same) (.cons q2 (.cons q4 .nil))⟩
        rw [List.getElem?_zipWith, q1, q3]
theorem hu64 {A : Around} {k : Nat} (hr : Room k A) : A.units + 64 < cLine := by
  have := hr.un
  omega
theorem ix_tupK {X : Cx} (K : PySem.W.Frag) (h : X.K = K) : IxR X (rIxT K) := h ▸ ix_tup
theorem ix_listK {X : Cx} (K : PySem.W.Frag) (h : X.K = K) : IxR X (rIxL K) := h ▸ ix_list
theorem immAll_dI (l : List Int) : immAll (dI l) = true := immAll_ints l
theorem immAll_tI (l : List (List Int)) : immAll (l.map tI) = true := immAll_tIs l
end
end DL
set_option Elab.async false
set_option linter.all false
set_option maxRecDepth 100000
set_option maxHeartbeats 2000000
/-! an error that is caught, kept by a name and handed back -/
namespace DL
open PySem PySem.Spec PyProof.Rows L2
/-- an error of the class cls without attributes of its own -/
def ErO (cls : Value) (a : Addr) : HO := .ext fun h => ∃ oe : Obj, h.get? a = some oe ∧ Zc cls none oe ∧ ∃ vs, oe.data = .fields vs
theorem erO_ok {P : Program} {w : World} {H : Hp} {h : Heap} {a : Addr} {cls : Value} {oe : Obj} (e : h.get? a = some oe) (z : Zc cls none oe) (d : ∃ vs, oe.data = .fields vs) : ObjOk P w H h a (ErO cls a) :=
  ⟨⟨oe, e, z, d⟩, ⟨oe, e⟩, fun _ _ p k => by
    obtain ⟨u, hu, r⟩ := p
    exact ⟨u, k u hu, r⟩⟩
section
variable {X : Cx} {pins : List (Addr × Obj)} {σ : L2.St} {H : Hp} {s : Shared}
theorem inv_track {a : Addr} {cls : Value} {oe : Obj} (I : Inv X pins σ H s) (e : s.heap.get? a = some oe) (hn : H a = none) (h0 : X.s_0.heap.get? a = none) (nL : a ≠ X.env.locals) (np : ∀ p ∈ X.pn ++ pins, p.1 ≠ a)
    (z : Zc cls none oe) (d : ∃ vs, oe.data = .fields vs) : Inv X pins σ (upd H a (ErO cls a)) s := by
  have other : ∀ b u, H b = some u → upd H a (ErO cls a) b = some u := fun b u q => by
    rw [upd_ne (ne_of_none q hn)]
    exact q
  obtain ⟨fs, hd⟩ := d
  exact {
    ok := I.ok
    os := I.os
    bare := I.bare
    base := {
      keep := I.base.keep
      slot := I.base.slot
      free := fun b u q n hx => by
        have : b ≠ a := fun y => by rw [y, h0] at q; cases q
        rw [upd_ne this]
        exact I.base.free b u q n hx
      there := I.base.there
      tups := fun b xs q => other _ _ (I.base.tups b xs q)
      frzs := fun b u xs q => other _ _ (I.base.frzs b u xs q)
      tbls := fun b ps q => by
        obtain ⟨more, m⟩ := I.base.tbls b ps q
        exact ⟨more, other _ _ m⟩ }
    loc := I.loc
    cell := I.cell
    free := by rw [upd_ne (Ne.symm nL)]; exact I.free
    freeC := fun y c q => by
      have : c ≠ a := fun eq => by
        obtain ⟨v, o, ho, hv⟩ := I.cell y c q
        rw [eq, e] at ho
        cases ho
        rw [hd] at hv
        cases hv
      rw [upd_ne this]
      exact I.freeC y c q
    pin := fun p hp => by
      obtain ⟨p1, p2, p3⟩ := I.pin p hp
      exact ⟨p1, by rw [upd_ne (np p hp)]; exact p2, p3⟩
    hok := fun b u q => by
      by_cases hb : b = a
      · subst hb
        rw [upd_same] at q
        cases q
        exact erO_ok e z ⟨fs, hd⟩
      · rw [upd_ne hb] at q
        exact (I.hok b u q).stay (fun _ _ _ r => r) (fun _ r => other _ _ r) fun _ _ r => other _ _ r
    len := I.len }
/-- isinstance(e, C) of such an error -/
def rIsK (K : PySem.W.Frag) : List V → Hp → VK → Prop := fun xs H Q => ∃ (a D : Addr) (c : V) (cv : Value) (b : Bool), xs = [.ref a, c] ∧ H a = some (ErO (.ref D) a) ∧ ExcC K D ∧ (∀ u, RelV c u → u = cv) ∧ PySem.W.kitOne K (.ref D) cv = some b ∧ Q (.bl b) H
theorem call_isK : CallR X (.builtin "isinstance") (rIsK X.K) := by
  intro pins s σ H xs us Q I r h
  obtain ⟨a, D, c, cv, b, rfl, ha, C, hcv, e, q⟩ := h
  obtain ⟨u1, u2, rfl, ra, rc⟩ := vals2 r
  cases ra
  have ec := hcv _ rc
  subst ec
  obtain ⟨⟨oe, ho, hz, fs, hd⟩, _⟩ := I.hok a _ ha
  have J : PySem.W.InstAt s.heap a oe D none := by
    cases oe with
    | mk oc od oda osl =>
      obtain ⟨z1, z2⟩ := hz
      have z1 : oc = .ref D := z1
      have z2 : od = none := z2
      have hd : oda = .fields fs := hd
      subst z1 z2 hd
      exact ⟨ho, rfl, rfl, trivial⟩
  exact PySem.W.kia_one (PySem.W.handS_kitx_exc C.hg C.hk C.hs C.hd C.ha C.hn C.ht C.hm) I.kIn J e (fun z => nomatch z) fun tk => ⟨.bl b, H, I.kept (t' := tk) fun _ _ z => z, rfl, q⟩
end
end DL
set_option Elab.async false
set_option linter.all false
set_option maxRecDepth 100000
set_option maxHeartbeats 2000000
namespace DL
open PySem PySem.Spec PyProof.Rows L2
/-- what 'except x as n' wishes of an error that it takes for sure: behind the suite the error is known at its place -/
def wKeep (K : PySem.W.Frag) (c : Value) (i : Nat) (ts : Addr → Value → TS) (D : Ends) : WX := fun cls d σ H => PySem.W.exmOne K cls c = some true ∧ d = none ∧
  ∀ a, H a = none → ts a cls { nx := fun σ2 H2 => D.nx (σ2.set i none) (upd H2 a (ErO cls a)), rt := fun _ _ => False, bk := fun _ _ => False, ct := fun _ _ => False } (σ.set i (some (.ref a))) H
section
variable {X : Cx} {x n : Str} {c : Value} {i : Nat} {body suite : List Stmt} {b₀ : Stmt} {np pos pos' : Pos} {tb : WX → TS} {ts : Addr → Value → TS}
theorem frs_not {B h : Heap} {l : List Env} {a : Addr} {o : Obj} {fs : Array Value} (ff : h.FunFrames B l) (e : h.get? a = some o) (d : o.data = .fields fs) : a ∉ frs l := fun m => by
  obtain ⟨_, u, hu, no⟩ := ff.mem m
  rw [e] at hu
  cases hu
  exact no _ d
theorem ps_keep (hex : X.ex = []) (hst : X.stack = X.env :: X.outer) (hfr : X.env.frame = some X.env.locals) (nd : X.N.Nodup) (hi : X.N[i]? = some n) (loc : X.env.kindOf n = some .local) (cn : Names X x c)
    (hb : ∀ (W : WX) (pn : List (Addr × Obj)) (xe : Value → Shared → Prop), Takes (X.tr pn xe) W → PassesOwn (model X.prog X.w) X.A X.env xe → PSs (X.tr pn xe) body (tb W))
    (hsu : ∀ (a : Addr) (oe : Obj) (cls : Value) (pn : List (Addr × Obj)), Zc cls none oe → (∃ vs, oe.data = .fields vs) → PSs (X.suite a ((a, oe) :: pn)) (b₀ :: suite) (ts a cls)) :
    PS X (.Try body [.ExceptHandler (some (.Name x np)) (some n) (b₀ :: suite) pos'] [] [] pos) (fun D σ H => tb (wKeep X.K c i ts D) D σ H) := by
  constructor
  intro pins s σ H D I h
  have ok := I.ok
  have frames : X.A.frames = some (X.env :: X.outer) := ok.frames.trans (congrArg some hst)
  apply wpAny_Try_except
  have run := (hb (wKeep X.K c i ts D) (X.pn ++ pins)
    (fun e s1 => wpAny (model X.prog X.w) X.A (noteFrame e X.env)
      (fun _ s2 => wpAny (model X.prog X.w) X.A (setFlight e none)
        (fun _ s3 => wpAny (model X.prog X.w) X.A (handleBy e X.env [.ExceptHandler (some (.Name x np)) (some n) (b₀ :: suite) pos']) (SP X pins D) X.xe s3) X.xe s2) X.xe s1)
    (fun u t caught => ?_) PassesOwn.looking).run [] s σ H D (I.toTry _) h
  · refine wpAny_mono run (fun fl t sp => ?_) fun _ _ q => q
    cases fl with
    | ret u =>
      obtain ⟨v, σ1, H1, J, r, q⟩ := sp
      exact ⟨v, σ1, H1, J.ofTry ok, r, q⟩
    | next =>
      obtain ⟨σ1, H1, J, q⟩ := sp
      exact wpAny_execs_nil (show SP X pins D .next t from ⟨σ1, H1, J.ofTry ok, q⟩)
    | brk =>
      obtain ⟨σ1, H1, J, q⟩ := sp
      exact ⟨σ1, H1, J.ofTry ok, q⟩
    | cont =>
      obtain ⟨σ1, H1, J, q⟩ := sp
      exact ⟨σ1, H1, J.ofTry ok, q⟩
  · obtain ⟨a, B, sI, pinsT, σ1, H1, cls, d, rfl, JT, nb, up, sky, na, os, bare, hx, rfl, wish⟩ := caught
    have J : Inv X pins σ1 H1 sI := JT.ofTry ok
    rw [hst] at sky
    show wpAny (model X.prog X.w) X.A (noteFrame (.ref a) X.env) _ _ _
    refine Sky.land Zc.steady frames hfr sky fun hA flA upA => ?_
    have JA : Inv X pins σ1 H1 { t with heap := hA } := J.landed nb flA.1 (up.trans upA) os bare
    obtain ⟨oA, vA, eA, zA, dA⟩ := flA.there
    have nfr := frs_not flA.2.2.1 eA dA
    have nL : a ≠ X.env.locals := fun q => nfr (List.mem_filterMap.mpr ⟨X.env, List.mem_cons_self, hfr.trans (congrArg some q.symm)⟩)
    have nF : a ∉ X.fs := fun q => by
      obtain ⟨en, m, r⟩ := List.mem_filterMap.mp q
      exact nfr (List.mem_filterMap.mpr ⟨en, List.mem_cons_of_mem _ m, r⟩)
    have fresh : sI.heap.get? a = none := by
      cases q : sI.heap.get? a with
      | none => rfl
      | some o =>
        have z := nb a o q (by rw [hst]; exact nfr)
        rw [flA.2.1] at z
        cases z
    have fresh0 : X.s_0.heap.get? a = none := by
      cases q : X.s_0.heap.get? a with
      | none => rfl
      | some o =>
        obtain ⟨u, hu⟩ := J.base.there a o q (by rw [hex]; simp)
        rw [fresh] at hu
        cases hu
    have npin : ∀ p ∈ X.pn ++ pins, p.1 ≠ a := fun p hp q => by
      have z := (J.pin p hp).1
      rw [q, fresh] at z
      cases z
    have SA := JA.suite eA dA na nL nF
    apply wpAny_handleBy_cons
    · apply codeAny_handlers_test
      have LM := PySem.W.exm_one (M := model X.prog X.w) JA.kIn (e := a) (cls := cls) (fun A' Q' E' s' k q => wpAny_typeOf_ref (k _ _ eA) (by rw [zA.1]; exact q)) hx
      have named : ∀ {Q1 E1 : Value → Shared → Prop}, Q1 c { t with heap := hA } → wpAny (model X.prog X.w) (X.A.mark (some (.ref a))) (eval (.Name x np) X.env) Q1 E1 { t with heap := hA } := fun {Q1 E1} q => by
        obtain ⟨g, db, k | ⟨k, bt, nn⟩⟩ := cn
        · exact ld_glob (X := X.suite a ((a, oA) :: (X.pn ++ pins))) SA g k q db
        · exact ld_blt (X := X.suite a ((a, oA) :: (X.pn ++ pins))) SA g k bt q nn db
      apply named
      apply LM.here
      apply codeAny_handlers_suite_as
      refine HandSPX.lands_againZ flA fun hB flB upB => ?_
      have JB : Inv X pins σ1 H1 { t with heap := hB } := J.landed nb flB.1 ((up.trans upA).trans upB) os bare
      obtain ⟨oB, vB, eB, zB, dB⟩ := flB.there
      refine store_ok (X := X.suite a ((a, oB) :: (X.pn ++ pins))) (v := .ref a) (JB.suite eB dB na nL nF) nd hi (.inl loc) rfl (fun s5 S5 => ?_) (.inr loc)
      refine wpAny_mono ((hsu a oB cls (X.pn ++ pins) zB ⟨_, dB⟩).run [] s5 _ H1 _ S5 (wish a na)) (fun fl s6 sp => ?_) fun _ _ q => q.elim
      cases fl with
      | next =>
        obtain ⟨σ6, H6, S6, q6⟩ := sp
        have P6 : Inv X ((a, oB) :: pins) σ6 H6 s6 := {
          ok := ok
          os := S6.os
          bare := S6.bare
          base := S6.base
          loc := S6.loc
          cell := S6.cell
          free := S6.free
          freeC := S6.freeC
          pin := fun p hp => S6.pin p (by
            show p ∈ ((a, oB) :: (X.pn ++ pins)) ++ []
            rw [List.append_nil]
            rcases List.mem_append.mp hp with q | q
            · exact List.mem_cons_of_mem _ (List.mem_append_left _ q)
            · rcases List.mem_cons.mp q with q | q
              · rw [q]; exact List.mem_cons_self
              · exact List.mem_cons_of_mem _ (List.mem_append_right _ q))
          hok := S6.hok
          len := S6.len }
        refine gone_ok P6 nd hi loc fun s7 J7 => ?_
        obtain ⟨g7, n7, l7, _⟩ := J7.pin (a, oB) (List.mem_append_right _ List.mem_cons_self)
        have J8 : Inv X pins (σ6.set i none) H6 s7 := J7.pins_of fun p hp => J7.pin p (List.mem_append_right _ (List.mem_cons_of_mem _ hp))
        exact ⟨_, _, inv_track J8 g7 n7 fresh0 l7 npin zB ⟨_, dB⟩, q6⟩
      | brk => exact (sp.elim fun _ z => z.elim fun _ z => z.2.elim)
      | cont => exact (sp.elim fun _ z => z.elim fun _ z => z.2.elim)
      | ret u => exact (sp.elim fun _ z => z.elim fun _ z => z.elim fun _ z => z.2.2.elim)
    · intro q
      cases q
end
end DL
set_option Elab.async false
set_option linter.all false
set_option maxRecDepth 100000
set_option maxHeartbeats 4000000
/-! a lambda without parameters as a value: made, held by a name, called by a def that catches what it raises -/
namespace DL
open PySem PySem.Spec PyProof.Rows L2 LamX
/-- the lambda at f, its code object at c' -/
def LamO (f c' : Addr) (q : Str) (params : Arguments) (body : Expr) (scope : Scope) (cl : List (Str × Addr)) : HO := .ext fun h => ∃ pm ctv : Value, h.get? f = some (PySem.W.kla_obj "<lambda>" q params body scope cl pm c' ctv)
theorem lamO_ok {P : Program} {w : World} {H : Hp} {h : Heap} {f c' : Addr} {q : Str} {params : Arguments} {body : Expr} {scope : Scope} {cl : List (Str × Addr)} {pm ctv : Value} (e : h.get? f = some (PySem.W.kla_obj "<lambda>" q params body scope cl pm c' ctv)) :
    ObjOk P w H h f (LamO f c' q params body scope cl) := ⟨⟨pm, ctv, e⟩, ⟨_, e⟩, fun _ _ z k => by
  obtain ⟨u, v, r⟩ := z
  exact ⟨u, v, k _ r⟩⟩
def tLamV (T : List (Addr × Str)) (q : Str) (params : Arguments) (body : Expr) (scope : Scope) (cl : List (Str × Addr)) : TE := fun σ H Q => Tabs T H ∧ ∀ f c' H1, ExtN H H1 → Tabs T H1 → H f = none → H1 f = none → H1 c' = some (CodeO c' q) → Q (.ref f) (upd H1 f (LamO f c' q params body scope cl))
section
variable {X : Cx} {T : List (Addr × Str)} {c P : Addr} {params : Arguments} {body : Expr} {scope : Scope} {pos : Pos}
theorem pe_lamV (TB : TabB X.base X.mg c P) (code : X.env.code = .ref c) (hm : (P, X.env.qual ++ "<lambda>") ∈ T) (hu : ∀ p ∈ T, p.1 = P → p.2 = X.env.qual ++ "<lambda>") (L : LamS X.env.scope scope) (hdef : defaultsOf params X.env = ([], [])) :
    PE X (.Lambda params body scope pos) (tLamV T (X.env.qual ++ "<lambda>") params body scope (cloFrom X.env.cells scope.names [])) := by
  constructor
  intro pins s σ H Q I hh
  obtain ⟨tabs, k⟩ := hh
  obtain ⟨ps, atP, tri, among⟩ := tabs _ hm
  have free := L.has I.ok
  apply PySem.W.kla_eval hdef
  have bi : s.heap.BuiltinsAt X.mg P := TB.bm.keeps I.bk
  have heapP : s.heap.get? P = some { cls := .none, data := .fields ps } := I.hok P _ atP
  cases look : codeAmong pos ps.toList with
  | some cv =>
    obtain ⟨c', rfl, hc'⟩ := among pos cv look
    apply PySem.W.kla_makeFunctionHit (mg := X.mg) (c := c) (P := P) (ps := ps) (closure_ok free) I.ok.glob (I.mod.glob.keeps I.bk) code (TB.code.keeps I.bk) heapP tri look bi
    intro ctv h2 tk keep size
    have J : Inv X pins σ H { s with heap := h2, toks := tk } := I.kept keep
    have n2 : H h2.objs.size = none := I.hok.fresh size
    have J2 := J.laid (t' := tk) (h' := h2.push (PySem.W.kla_obj "<lambda>" (X.env.qual ++ "<lambda>") params body scope (cloFrom X.env.cells scope.names []) ((X.mg "__name__").getD .none) c' ctv)) (fun _ _ z => Heap.get?_push_of_some _ z) (Nat.le_refl _)
      (lamO_ok (f := h2.objs.size) (c' := c') (Heap.get?_push_size _ rfl))
    exact ⟨V.ref h2.objs.size, _, J2, rfl, k _ c' H (ExtN.refl H) tabs n2 n2 hc'⟩
  | none =>
    apply PySem.W.kla_makeFunction (mg := X.mg) (c := c) (P := P) (ps := ps) (closure_ok free) I.ok.glob (I.mod.glob.keeps I.bk) code (TB.code.keeps I.bk) heapP tri look TB.gP bi
    intro c' ctv h2 tk but ge lt rec0 tab
    obtain ⟨c2, oc, fs, t, e2, oc2, fd, fq⟩ := rec0
    cases e2
    have nC : H c' = none := I.hok.fresh ge
    have size : s.heap.objs.size ≤ h2.objs.size := Nat.le_trans ge (Nat.le_of_lt lt)
    have nF : H h2.objs.size = none := I.hok.fresh size
    have J := inv_table (t' := tk) (h' := h2) (c := c') (q := X.env.qual ++ "<lambda>") (more := #[rawInt pos.line, rawInt pos.col, .ref c']) I atP (fun b o nb z => but b o nb z) tab ge ⟨oc, fs, t, oc2, fd, fq⟩
    have ext : ExtN H (upd (upd H P (.tbl (ps ++ #[rawInt pos.line, rawInt pos.col, .ref c']))) c' (CodeO c' (X.env.qual ++ "<lambda>"))) := fun b o z n => by
      have b1 : b ≠ c' := ne_of_none z nC
      have b2 : b ≠ P := fun y => by
        rw [y, atP] at z
        exact n ps (Option.some.inj z).symm
      rw [upd_ne b1, upd_ne b2]
      exact z
    have toL : (ps ++ #[rawInt pos.line, rawInt pos.col, .ref c']).toList = ps.toList ++ [rawInt pos.line, rawInt pos.col, .ref c'] := by simp
    have tabs2 : Tabs T (upd (upd H P (.tbl (ps ++ #[rawInt pos.line, rawInt pos.col, .ref c']))) c' (CodeO c' (X.env.qual ++ "<lambda>"))) := fun p hp => by
      by_cases hb : p.1 = P
      · rw [hu p hp hb, hb]
        refine ⟨ps ++ #[rawInt pos.line, rawInt pos.col, .ref c'], ?_, ?_, fun p2 cv z => ?_⟩
        · rw [upd_ne (ne_of_none atP nC), upd_same]
        · rw [toL]
          exact PySem.TriplesOk_snoc _ _ _ _ tri
        · rw [toL] at z
          rcases among_app _ tri z with z | z
          · obtain ⟨c0, g1, g2⟩ := among p2 cv z
            exact ⟨c0, g1, ext _ _ g2 codeO_ne⟩
          · exact ⟨c', z, upd_same⟩
      · obtain ⟨ps2, g1, g2, g3⟩ := tabs p hp
        refine ⟨ps2, ?_, g2, fun p2 cv z => ?_⟩
        · rw [upd_ne (ne_of_none g1 nC), upd_ne hb]
          exact g1
        · obtain ⟨c0, r1, r2⟩ := g3 p2 cv z
          exact ⟨c0, r1, ext _ _ r2 codeO_ne⟩
    have fC : h2.objs.size ≠ c' := Nat.ne_of_gt lt
    have fP : h2.objs.size ≠ P := Nat.ne_of_gt (Nat.lt_of_lt_of_le (Heap.lt_size heapP) size)
    have none1 : upd (upd H P (.tbl (ps ++ #[rawInt pos.line, rawInt pos.col, .ref c']))) c' (CodeO c' (X.env.qual ++ "<lambda>")) h2.objs.size = none := by
      rw [upd_ne fC, upd_ne fP]
      exact nF
    have J2 := J.laid (t' := tk) (h' := h2.push (PySem.W.kla_obj "<lambda>" (X.env.qual ++ "<lambda>") params body scope (cloFrom X.env.cells scope.names []) ((X.mg "__name__").getD .none) c' ctv)) (fun _ _ z => Heap.get?_push_of_some _ z) (Nat.le_refl _)
      (lamO_ok (f := h2.objs.size) (c' := c') (Heap.get?_push_size _ rfl))
    exact ⟨V.ref h2.objs.size, _, J2, rfl, k _ c' _ ext tabs2 nF none1 upd_same⟩
end
end DL
set_option Elab.async false
set_option linter.all false
set_option maxRecDepth 100000
set_option maxHeartbeats 4000000
namespace DL
open PySem PySem.Spec PyProof.Rows L2 LamX
/-- a lambda's text, read in the def that made it: k levels of calls, tb what its expression does with what it raises -/
structure LamD (X : Cx) (k : Nat) (params : Arguments) (body : Expr) (scope : Scope) (tb : XK → TE) : Prop where
  L : LamS X.env.scope scope
  bind : ∀ (q : Str) (cl : List (Str × Addr)) (pm cv ctv : Value), bindArgs (PySem.W.kla_fn "<lambda>" q params body scope cl pm cv ctv) ⟨[], []⟩ = pure []
  run : ∀ (A : Around) (outer : List Env) (s : Shared) (H : Hp) (E : XK) (f c' : Addr), Room k (A.deeper (lamEnv X scope s.heap.objs.size f c')) → PE (lamCx X A outer s H E scope f c') body (tb E)
section
variable {X : Cx} {pins : List (Addr × Obj)} {σ : L2.St} {H : Hp} {s : Shared}
/-- work(), in a def that got the lambda -/
theorem pe_actT {CXg : CXT} {Eg : XK} {Ng : List Str} {qg : Str} {sg : Scope} {g : Addr} {cdg : Value} {params : Arguments} {body : Expr} {scope : Scope} {k i : Nat} {a : Str} {pn : List (Addr × Obj)} {xe : Value → Shared → Prop} {W : WX} {tb : XK → TE} {p1 p2 : Pos}
    (I : Inv X pins σ H s) (D : LamD X k params body scope tb) (tk : Takes ((cxOf CXg X.prog X.w X.K X.mg X.base Ng qg sg g cdg X.A X.stack s H Eg).tr pn xe) W) (hr : Room (k + 1) (X.A.deeper (envOfC qg sg s.heap.objs.size g cdg)))
    (hN : Ng[i]? = some a) (hv : Vis sg a) (hd : (a == ("__debug__" : Str)) = false := by decide) (hcd : (a == ("__classdict__" : Str)) = false := by decide) :
    PE ((cxOf CXg X.prog X.w X.K X.mg X.base Ng qg sg g cdg X.A X.stack s H Eg).tr pn xe) (.Call (.Name a p1) [] [] p2)
      (fun σZ HZ Q => ∃ f c', σZ[i]? = some (some (.ref f)) ∧ HZ f = some (LamO f c' (X.env.qual ++ "<lambda>") params body scope (cloFrom X.env.cells scope.names [])) ∧ HZ c' = some (CodeO c' (X.env.qual ++ "<lambda>")) ∧ tb (WE W σZ) σ HZ Q) := by
  constructor
  intro pinsZ sZ σZ HZ Q IZ hh
  obtain ⟨f, c', at_, hf, hc, go⟩ := hh
  have nm := (pe_var (pos := p1) (i := i) (X := (cxOf CXg X.prog X.w X.K X.mg X.base Ng qg sg g cdg X.A X.stack s H Eg).tr pn xe) hN hv hd hcd).run pinsZ sZ σZ HZ (fun v H1 => v = .ref f ∧ H1 = HZ) IZ ⟨.ref f, at_, rfl, rfl⟩
  apply wpAny_Call_Name_kw
  refine thn nm fun u s1 z => ?_
  obtain ⟨v, H1, I1, rv, rfl, rfl⟩ := z
  obtain rfl : u = Value.ref f := rv
  obtain ⟨⟨pm, ctv, of1⟩, _, _⟩ := I1.hok f _ hf
  obtain ⟨⟨oc, fs, t, oc1, fd, fq⟩, _, _⟩ := I1.hok c' _ hc
  refine PySem.W.callWith_F0 ⟨_, _, _, _, of1⟩ ?_
  have L := D.L
  have inner : codeAny (model X.prog X.w) (X.A.deeper (envOfC qg sg s.heap.objs.size g cdg)) (.call (.ref f) ⟨[], []⟩) (CR (L2.CX X.prog X.w) (envOfC qg sg s.heap.objs.size g cdg :: X.stack) X.prog X.w H1 s1 Q (WE W σZ)) s1 := by
    apply PySem.W.kla_callFunE hr.depth of1 rfl L.co L.gen rfl ⟨c', oc, fs, t, rfl, oc1, fd, fq⟩
    rw [D.bind]
    apply wpAny_pure
    refine wpAny_newFunctionEnv (fun y hy => (L.own y hy).2) (fun y hy => absurd hy (by simp)) (fun h1 ns sb => ?_) L.kind
    refine ⟨I1.nolimit.fresh _ sb, ?_⟩
    have keep : ∀ b o, s1.heap.get? b = some o → h1.get? b = some o := fun b o e => sb.extBut b o (Nat.ne_of_lt (Heap.lt_size e)) (Heap.get?_push_of_some _ e)
    have J := lam_start2 (A := X.A.deeper (envOfC qg sg s.heap.objs.size g cdg)) (outer := envOfC qg sg s.heap.objs.size g cdg :: X.stack) (E := WE W σZ) (f := f) (c' := c') (h₁ := h1) (tk := s1.toks + ([] : List (Str × Value)).length) I L I1.env0 hr.hd I1.base ns keep
    have ran := (D.run _ (envOfC qg sg s.heap.objs.size g cdg :: X.stack) s1 H1 (WE W σZ) f c' (hr.deeper _)).run [] _ _ H1 Q J go
    refine PySem.W.kla_codeExpr (wpAny_mono ran (fun v s2 z => ?_) fun _ _ z => z)
    obtain ⟨x, H2, J2, r2, q2⟩ := z
    exact ⟨x, H2, J2.os, J2.bare, J2.base, J2.hok, r2, q2⟩
  apply wpAny_call
  refine codeAny_mono inner fun r s2 z => ?_
  cases r with
  | ok fl =>
    cases fl with
    | ret u => exact I1.after z
    | next => exact z.elim
    | brk => exact z.elim
    | cont => exact z.elim
  | error e => exact passAt tk σZ pinsZ H1 s1 e s2 I1 z
end
end DL
set_option Elab.async false
set_option linter.all false
set_option maxRecDepth 100000
set_option maxHeartbeats 4000000
namespace DL
open PySem PySem.Spec PyProof.Rows L2 LamX
/-- caught = None / try: work() / except CallError as error: caught = error / return caught -/
abbrev caughtB (k0 : Nat) (p1 p2 p3 p4 p5 p6 p7 p8 p9 p10 p11 p12 p13 p14 : Pos) : List Stmt :=
  [.Assign [.Name "caught" p1] (.Constant .none k0 p2) p3,
   .Try [.Expr (.Call (.Name "work" p4) [] [] p5) p6] [.ExceptHandler (some (.Name "CallError" p7)) (some "error") [.Assign [.Name "caught" p8] (.Name "error" p9) p10] p11] [] [] p12,
   .Return (some (.Name "caught" p13)) p14]
/-- what calling it means: the error, kept, is handed back; None where there is none -/
def TTc (K : PySem.W.Frag) (CS : Addr) (tb : XK → TE) : TE := fun σ H Q => ∀ (E : XK) (Q2 : VK), (∀ cls H', PySem.W.exmOne K cls (.ref CS) = some true → (∀ a, H' a = none → Q (.ref a) (upd H' a (ErO cls a))) → E cls none H') → (∀ v H', Q .non H' → Q2 v H') → tb E σ H Q2
section
variable {X : Cx} {pins : List (Addr × Obj)} {σ : L2.St} {H : Hp} {s : Shared}
theorem caught_run {x : Str} {sg : Scope} {g CS : Addr} {cdg : Value} {params : Arguments} {body : Expr} {scope : Scope} {k k0 : Nat} {tb : XK → TE} {f c' : Addr} {Q : VK} {p1 p2 p3 p4 p5 p6 p7 p8 p9 p10 p11 p12 p13 p14 : Pos}
    (I : Inv X pins σ H s) (D : LamD X k params body scope tb) (hr : Room (k + 1) (X.A.deeper (envOfC x sg s.heap.objs.size g cdg))) (S : FnScope ["work", "caught", "error"] ["work"] sg)
    (ge : sg.names.lookup ("CallError" : Str) = some .globalImplicit) (me : X.mg "CallError" = some (.ref CS)) (le : sg.names.lookup ("error" : Str) = some .local) (lc : sg.names.lookup ("caught" : Str) = some .local) (lw : sg.names.lookup ("work" : Str) = some .local)
    (hf : H f = some (LamO f c' (X.env.qual ++ "<lambda>") params body scope (cloFrom X.env.cells scope.names []))) (hc : H c' = some (CodeO c' (X.env.qual ++ "<lambda>"))) (go : TTc X.K CS tb σ H Q) :
    ∃ t, PSs (cxOf CX0 X.prog X.w X.K X.mg X.base ["work", "caught", "error"] x sg g cdg X.A X.stack s H E0).nox (caughtB k0 p1 p2 p3 p4 p5 p6 p7 p8 p9 p10 p11 p12 p13 p14) t ∧
      t { nx := fun _ H' => Q .non H', rt := Q } (L2.start ["work", "caught", "error"] [.ref f]) H := by
  refine ⟨_, pss_cons (ps_set (i := 1) S.nd rfl (.inl lc) pe_non) (pss_cons
    (ps_keep (X := (cxOf CX0 X.prog X.w X.K X.mg X.base ["work", "caught", "error"] x sg g cdg X.A X.stack s H E0).nox) (i := 2) (c := .ref CS) (ts := fun _ _ => tAsg (tVar 2) (gName 1))
      (tb := fun W => tDrop (fun σZ HZ Q2 => ∃ f c', σZ[0]? = some (some (.ref f)) ∧ HZ f = some (LamO f c' (X.env.qual ++ "<lambda>") params body scope (cloFrom X.env.cells scope.names [])) ∧ HZ c' = some (CodeO c' (X.env.qual ++ "<lambda>")) ∧ tb (WE W σZ) σ HZ Q2))
      rfl rfl rfl S.nd rfl le ⟨ge, by decide, .inl me⟩
      (fun W pn xe tk _ => pss_one (ps_expr (pe_actT (CXg := CX0) (Eg := E0) (Ng := ["work", "caught", "error"]) I D tk hr rfl (.inl lw))))
      (fun a oe cls pn _ _ => pss_one (ps_set (i := 1) S.nd rfl (.inl lc) (pe_var (i := 2) rfl (.inl le))))) (pss_one (ps_ret (pe_var (i := 1) rfl (.inl lc))))), ?_⟩
  refine ⟨f, c', rfl, hf, hc, go _ _ (fun cls H' hx q => ?_) fun v H' q => ?_⟩
  · refine ⟨hx, rfl, fun a na => ?_⟩
    exact ⟨_, rfl, _, rfl, q a na⟩
  · exact ⟨_, rfl, q⟩
/-- x(y), y a lambda of this def -/
theorem pe_caught {x y : Str} {sg : Scope} {pg : Arguments} {g CS : Addr} {dV kV doc pm cdv ct oc : Value} {an od : Option Addr} {osl : Array (Option Value)} {k k0 j : Nat} {p py pos p1 p2 p3 p4 p5 p6 p7 p8 p9 p10 p11 p12 p13 p14 : Pos}
    (hg : Gl X x) (hm : X.mg x = some (.ref g)) (hk : PySem.W.keepIn X.K (.ref g) = true) (lk : X.K.lookup g = some ⟨oc, od, .func (PySem.W.fnOf x x pg (caughtB k0 p1 p2 p3 p4 p5 p6 p7 p8 p9 p10 p11 p12 p13 p14) sg dV kV doc pm an cdv ct), osl⟩)
    (hcg : PySem.W.codeIn X.K cdv x = true) (hb : L2.Binds X.K (PySem.W.fnOf x x pg (caughtB k0 p1 p2 p3 p4 p5 p6 p7 p8 p9 p10 p11 p12 p13 p14) sg dV kV doc pm an cdv ct) ["work"] []) (S : FnScope ["work", "caught", "error"] ["work"] sg)
    (ge : sg.names.lookup ("CallError" : Str) = some .globalImplicit) (me : X.mg "CallError" = some (.ref CS)) (le : sg.names.lookup ("error" : Str) = some .local) (lc : sg.names.lookup ("caught" : Str) = some .local) (lw : sg.names.lookup ("work" : Str) = some .local)
    (hr : Room (k + 2) X.A) (hN : X.N[j]? = some y) (hv : Vis X.env.scope y) (hdb : (x == ("__debug__" : Str)) = false := by decide) (hd : (y == ("__debug__" : Str)) = false := by decide) (hcd : (y == ("__classdict__" : Str)) = false := by decide) :
    PE X (.Call (.Name x p) [.Name y py] [] pos) (fun σ H Q => ∃ f c' params body scope tb, σ[j]? = some (some (.ref f)) ∧ H f = some (LamO f c' (X.env.qual ++ "<lambda>") params body scope (cloFrom X.env.cells scope.names [])) ∧ H c' = some (CodeO c' (X.env.qual ++ "<lambda>")) ∧ LamD X k params body scope tb ∧ TTc X.K CS tb σ H Q) := by
  constructor
  intro pins s σ H Q I hh
  obtain ⟨f, c', params, body, scope, tb, at_, hf, hc, D, go⟩ := hh
  apply wpAny_Call_Name_kw
  refine ld_glob I hg hm ?_ hdb
  have arg := (pa_cons (pe_var (pos := py) (i := j) (X := X) hN hv hd hcd) pa_nil).run pos pins s σ H (fun vs H1 => vs = [.ref f] ∧ H1 = H) I ⟨.ref f, at_, rfl, rfl⟩
  refine PySem.W.callWith_K (h₀ := X.base) I.ok.mod.kin hk (thn arg fun us s1 z => ?_) (by rfl) (by rfl)
  obtain ⟨vs, H1, I1, r, rfl, rfl⟩ := z
  refine ⟨I1.kIn, ?_⟩
  have lu : us.length = 1 := (Vals.length r).symm
  have inner : codeAny (model X.prog X.w) X.A (.call (.ref g) ⟨us, []⟩) (CR CX0 X.stack X.prog X.w H1 s1 Q E0) s1 := by
    refine run_ofS (N := ["work", "caught", "error"]) (ps := ["work"]) (us := us) (vs := [.ref f]) lk hcg S hr I1.env0 ?_ r rfl fun hr2 => ?_
    · have := hb s1 us I1.kIn (by simpa using lu)
      simpa using this
    · obtain ⟨t, ht, q⟩ := caught_run (x := x) (g := g) (cdg := cdv) (k0 := k0) (p1 := p1) (p2 := p2) (p3 := p3) (p4 := p4) (p5 := p5) (p6 := p6) (p7 := p7) (p8 := p8) (p9 := p9) (p10 := p10) (p11 := p11) (p12 := p12) (p13 := p13) (p14 := p14) I1 D hr2 S ge me le lc lw hf hc go
      exact ⟨t, ht.nox, q⟩
  apply wpAny_call
  refine codeAny_mono inner fun r2 s2 z => ?_
  cases r2 with
  | error e => exact (show False from z).elim
  | ok fl =>
    cases fl with
    | ret u => exact I1.after z
    | next => exact z.elim
    | brk => exact z.elim
    | cont => exact z.elim
end
end DL
set_option Elab.async false
set_option linter.all false
set_option maxRecDepth 100000
set_option maxHeartbeats 4000000
/-! defs that may raise an error of an own class; isinstance of data of any kind -/
namespace DL
open PySem PySem.Spec PyProof.Rows L2 Evl
/-- the type of data by its name -/
def tyD : PyData → String
  | .none => "NoneType"
  | .bool _ => "bool"
  | .int _ => "int"
  | .str _ => "str"
  | .list _ => "list"
  | .tuple _ => "tuple"
  | .dict _ => "dict"
section
variable {K : PySem.W.Frag} {σ : L2.St} {H H' : Hp} {ta tb te : TE} {d : PyData} {ds : List PyData} {v : V}
theorem tyD_dp (h : Dp K H v d) : TyX K H v (.type (tyD d)) := by
  cases h with
  | non => exact .base .non
  | bl b => exact .base (.bl b)
  | int i => exact .base (.int i)
  | str x => exact .base (.str x)
  | lst h _ => exact tyL h
  | tup h _ => exact tyT h
/-- isinstance(x, a built-in class) -/
theorem ev_isiD {nm : String} {b : Bool} (ha : EvD K ta σ H d) (hb : kitB (tyD d) nm = some b) : Ev (tCB (rIsi K) (tCons ta (tCons (tC (.ty nm)) tNil))) σ H (.bl b) := fun H1 e Q q =>
  ha H1 e _ fun x H2 e2 hx => ⟨_, _, _, _, b, rfl, .ty nm, tyD_dp hx, kit_ty hb, q H2 e2⟩
/-- data in, data out, or an error of the class at C -/
def spR (K : PySem.W.Frag) (n : Nat) (R : List PyData → PyData → Prop) (B : List PyData → Addr → Prop) : Sp := fun vs H Q E => ∃ ds, DpAll K H vs ds ∧ ds.length = n ∧
  ((∃ r, R ds r ∧ ∀ v H', Ex H H' → Dp K H' v r → Q v H') ∨ ∃ C, B ds C ∧ ∀ H', Ex H H' → E (.ref C) none H')
theorem spR_len {n : Nat} {R : List PyData → PyData → Prop} {B : List PyData → Addr → Prop} {vs : List V} {Q : VK} {E : XK} (h : spR K n R B vs H Q E) : vs.length = n := by
  obtain ⟨ds, h1, h2, _⟩ := h
  rw [dpa_len h1, h2]
theorem ed_callR {n : Nat} {R : List PyData → PyData → Prop} {B : List PyData → Addr → Prop} {E : XK} {tt : TA} (h : EvDA K tt σ H ds) (hl : ds.length = n) (hr : R ds d) : EvD K (tCall (spR K n R B) [] E tt) σ H d := fun H1 e Q q =>
  h H1 e _ fun vs H2 e2 hv => ⟨ds, by rw [List.append_nil]; exact hv, hl, .inl ⟨d, hr, fun v H3 e3 hd => q v H3 (e2.trans e3) hd⟩⟩
/-- an expression that raises -/
def EvB (E : XK) (te : TE) (σ : L2.St) (H : Hp) (C : Addr) : Prop := ∀ H1, Ex H H1 → ∀ Q : VK, (∀ H2, Ex H1 H2 → E (.ref C) none H2) → te σ H1 Q
theorem eb_callR {n : Nat} {R : List PyData → PyData → Prop} {B : List PyData → Addr → Prop} {E : XK} {tt : TA} {C : Addr} (h : EvDA K tt σ H ds) (hl : ds.length = n) (hb : B ds C) : EvB E (tCall (spR K n R B) [] E tt) σ H C := fun H1 e Q q =>
  h H1 e _ fun vs H2 e2 hv => ⟨ds, by rw [List.append_nil]; exact hv, hl, .inr ⟨C, hb, fun H3 e3 => q H3 (e2.trans e3)⟩⟩
/-- a statement e, e raising -/
theorem b_drop {E : XK} {D : Ends} {tz : TS} {C : Addr} (h : EvB E te σ H C) (q : ∀ H1, Ex H H1 → E (.ref C) none H1) : tSeq (tDrop te) tz D σ H := h H (Ex.refl _) _ q
end
/-- a def that may raise, called by its name -/
structure DFX (P : Program) (w : World) (K : PySem.W.Frag) (mg : Str → Option Value) (base : Heap) (nm : Str) (k : Nat) (ps : List Str) (sp : Sp) : Prop where
  ex : ∃ (f : Addr) (fd : FuncData), FnOk P w K mg base (L2.CX P w) k f fd ps sp ∧ mg nm = some (.ref f) ∧ PySem.W.keepIn K (.ref f) = true ∧ Binds K fd ps []
theorem pe_DX {X : Cx} {nm : Str} {k : Nat} {ps : List Str} {sp : Sp} {E : XK} {W : WX} {e : Expr} {es : List Expr} {t : TA} {p pos : Pos} (F : DFX X.prog X.w X.K X.mg X.base nm k ps sp) (tk : Takes X W) (hW : ∀ cls d σ H, E cls d H → W cls d σ H) (hr : Room k X.A) (hg : Gl X nm) (ha : PA X (e :: es) t)
    (hdb : (nm == ("__debug__" : Str)) = false := by decide) (he : starEach (e :: es) X.env = (false, eval e X.env) :: starEach es X.env := by rfl) (hpl : (backTo pos (starEach es X.env)).any (·.1) = false := by rfl) :
    PE X (.Call (.Name nm p) (e :: es) [] pos) (tCall sp [] E t) := by
  obtain ⟨f, fd, h1, h2, h3, h4⟩ := F.ex
  exact pe_call h1 hr hg h2 h3 h4 .nil (passes_call tk hW) ha hdb he hpl
/-- an own error class without own __init__ -/
structure ErC (K : PySem.W.Frag) (mg : Str → Option Value) (nm : Str) (C : Addr) : Prop where
  gC : mg nm = some (.ref C)
  q : ∃ (bmB : List Value), ExcBaseFacts "ValueError" "ValueError.__new__" "ValueError.__init__" bmB ∧ PySem.W.excIn K C bmB "ValueError.__new__" = true
  kC : PySem.W.keepIn K (.ref C) = true
  exC : PySem.W.subIn K (.ref C) (.type "BaseException") = some true
  tyC : PySem.W.typeIn K (.ref C) = some (.type "type")
/-- raise C(e) -/
theorem ps_raiseC {X : Cx} {W : WX} {C : Addr} {x : Str} {e : Expr} {ta : TE} {p pos pos2 : Pos} (hc : X.calm = true) (tk : Takes X W) (T : ErC X.K X.mg x C) (hg : Gl X x) (he : PE X e ta) (hs : starEach [e] X.env = (false, eval e X.env) :: starEach [] X.env := by rfl) (hdb : (x == ("__debug__" : Str)) = false := by decide) :
    PS X (.Raise (some (.Call (.Name x p) [e] [] pos)) none pos2) (fun _ σ H => ta σ H fun _ H1 => W (.ref C) none σ H1) := by
  obtain ⟨bm, F, q⟩ := T.q
  exact ps_raise hc tk (SkE.pmk_own1 F q T.gC T.kC (raises_own T.exC T.tyC) hg he hs hdb)
end DL
set_option Elab.async false
set_option linter.all false
set_option maxRecDepth 100000
set_option maxHeartbeats 4000000
/-! repr of lists and tuples of data; the guards stand empty -/
namespace DL
open PySem PySem.Spec PyProof.Rows L2 Evl
mutual
theorem noDict_dp {K : PySem.W.Frag} {H : Hp} : ∀ (d : PyData) (v : V), Dp K H v d → d.hasDict = false
  | .none, _, _ => by simp [PyData.hasDict]
  | .bool b, _, _ => by simp [PyData.hasDict]
  | .int i, _, _ => by simp [PyData.hasDict]
  | .str x, _, _ => by simp [PyData.hasDict]
  | .list ds, _, h => by
    cases h with
    | lst _ ha => simpa [PyData.hasDict] using noDict_dpa ds _ ha
  | .tuple ds, _, h => by
    cases h with
    | tup _ ha => simpa [PyData.hasDict] using noDict_dpa ds _ ha
  | .dict _, _, h => by cases h
theorem noDict_dpa {K : PySem.W.Frag} {H : Hp} : ∀ (ds : List PyData) (vs : List V), DpAll K H vs ds → PyData.hasDictAll ds = false
  | [], _, _ => by simp [PyData.hasDictAll]
  | d :: ds, _, h => by
    cases h with
    | cons a b =>
      rw [PyData.hasDictAll, noDict_dp d _ a, noDict_dpa ds _ b]
      rfl
end
/-- repr(x), x a list or a tuple of data -/
def rRepr (K : PySem.W.Frag) : List V → Hp → VK → Prop := fun xs H Q => ∃ (a : Addr) (d : PyData), xs = [.ref a] ∧ Dp K H (.ref a) d ∧ d.showable = true ∧ d.depth ≤ 90 ∧ d.shown.length ≤ sizeLine ∧ Q (.str d.shown) H
theorem call_repr {X : Cx} (hg : X.A.guards = some []) (hu : X.A.units + 100 < cLine) : CallR X (.builtin "repr") (rRepr X.K) := by
  intro pins s σ H xs us Q I r h
  obtain ⟨a, d, rfl, hd, hs, h64, hsz, q⟩ := h
  obtain rfl := Vals.ref1 r
  obtain ⟨as, rd⟩ := Dp.reads I d (.ref a) (.ref a) hd rfl
  exact repr_of_reads' rd hs (PyData.noDict_hsm (noDict_dp d _ hd)) hg (by omega) (fun _ _ e => e) (fun h' u tk k => ⟨.str d.shown, H, I.kept k, ⟨u, rfl⟩, q⟩) hsz
theorem guards_deeper (A : Around) (env : Env) : (A.deeper env).guards = A.guards := rfl
end DL
set_option Elab.async false
set_option linter.all false
set_option maxRecDepth 100000
set_option maxHeartbeats 4000000
/-! a law that asks repr: its def runs where no guard stands -/
namespace DL
open PySem PySem.Spec PyProof.Rows L2 Evl
structure FnG (P : Program) (w : World) (K : PySem.W.Frag) (mg : Str → Option Value) (base : Heap) (CX : CXT) (k : Nat) (f : Addr) (fd : FuncData) (ps : List Str) (sp : Sp) : Prop where
  len : ∀ vs H Q E, sp vs H Q E → vs.length = ps.length
  run : ∀ (A : Around) (outer : List Env) (s : Shared) (H : Hp) (args : Args) (us : List Value) (vs : List V) (Q : VK) (E : XK), A.guards = some [] → Room k A → Env0 P w K mg base A outer s H → BindsTo s fd args (ps.zip us) → Vals vs us → sp vs H Q E →
    codeAny (model P w) A (.call (.ref f) args) (CR CX outer P w H s Q E) s
theorem okG {P : Program} {w : World} {K : PySem.W.Frag} {mg : Str → Option Value} {base : Heap} {CX : CXT} {x qual : Str} {st : Stmt} {f : Addr} {fd : FuncData} {N ps : List Str} {k : Nat} {sp : Sp} (F : Fun K x qual st f fd) (S : FnScope N ps (defScope st)) (len : ∀ vs H Q E, sp vs H Q E → vs.length = ps.length)
    (body : ∀ (cdv : Value) (A : Around) (outer : List Env) (s : Shared) (H : Hp) (vs : List V) (Q : VK) (E : XK), A.guards = some [] → Room k (A.deeper (envOfC qual (defScope st) s.heap.objs.size f cdv)) → sp vs H Q E →
      ∃ t, PSs (cxOf CX P w K mg base N qual (defScope st) f cdv A outer s H E) (defBody st) t ∧ t { nx := fun _ H' => Q .non H', rt := Q } (L2.start N vs) H) : FnG P w K mg base CX (k + 1) f fd ps sp := by
  obtain ⟨⟨oc, od, kV, doc, pm, an, cdv, ct, osl, rfl, lk, hcd⟩, _⟩ := F
  exact ⟨len, fun A outer s H args us vs Q E hg hr e0 hb r h => LamX.run_ofS lk hcd S hr e0 hb r (len _ _ _ _ h) fun hr2 => body cdv A outer s H vs Q E hg hr2 h⟩
section
variable {P : Program} {w : World} {K : PySem.W.Frag} {mg mb : Str → Option Value} {CX : CXT} {k : Nat} {fa a : Addr} {fd : FuncData} {x : Str} {sp : Sp} {s1 : Shared} {vs : List Value} {ns : List Int}
theorem callG_at (KX : K.In s1.heap) (hns : s1.heap.Ns mainGlobals mg) (hb : s1.heap.Ns builtinsNs mb) (hbb : ∀ y : Str, y ≠ "__name__" → mb y = bootBuiltins y) (lim : s1.heap.NoLimit) (gens : s1.gens = #[])
    (obj : s1.heap.get? a = some { cls := .type "list", data := .seq vs.toArray }) (room : Room k callerA)
    (F : ∀ base : Heap, K.In base → base.Ns mainGlobals mg → FnG P w K mg base CX k fa fd [x] sp) (bind : ∀ (s : Shared) (u : Value), BindsTo s fd ⟨[u], []⟩ [(x, u)])
    (out : ∀ H e s', CX [] H s1 (fun _ _ _ => False) e s' → False) (H : Hp) (only : Only H) (ask : sp [.ref a] H (fun v _ => v = .bl true) fun _ _ _ => False)
    (held : HOk P w H s1.heap) (atA : ∀ b, H b ≠ none → b = a) (away : H a ≠ none → K.lookup a = none) :
    codeAny (model P w) callerA (.call (.ref fa) ⟨[.ref a], []⟩) (fun r s' => r = .ok (.ret (.bool true)) ∧ OldK s1.heap s'.heap ∧ s'.os = s1.os ∧ AllBare s'.gens) s1 := by
  have free : ∀ {b : Addr} {o : Obj}, s1.heap.get? b = some o → b ≠ a → (hidT s1.heap H).get? b = some o := fun {b o} e n => hidT_get e (by
    cases q : H b with
    | none => rfl
    | some u => exact absurd (atA b (by rw [q]; simp)) n)
  have names : ∀ {b : Addr} {m : Str → Option Value}, s1.heap.Ns b m → (hidT s1.heap H).Ns b m := fun {b m} z => by
    obtain ⟨o, es, ep, e, d, r⟩ := z
    refine ⟨o, es, ep, free e fun y => ?_, d, r⟩
    rw [y, obj] at e
    cases e
    exact nomatch (show Data.seq vs.toArray _ = Data.dict es ep from d)
  have written : K.In (hidT s1.heap H) := fun b o e => by
    by_cases y : b = a
    · refine hidT_get (KX b o e) ?_
      cases q : H b with
      | none => rfl
      | some u =>
        rw [y] at e q
        rw [away (by rw [q]; simp)] at e
        cases e
    · exact free (KX b o e) y
  obtain ⟨mc, l1, l2⟩ := lim
  have modu : Mod K mg (hidT s1.heap H) := ⟨written, names hns, ⟨mb, names hb, hbb⟩, ⟨mc, names l1, l2⟩⟩
  have env : Env0 P w K mg (hidT s1.heap H) callerA [] s1 H := ⟨rfl, modu, fun b o e => of_hidT e, Nat.le_of_eq (hidT_size _ _), trivial, fun b z => (List.not_mem_nil (show b ∈ ([] : List Addr) from z)).elim, held, .of_eq gens⟩
  refine codeAny_mono ((F _ written (names hns)).run callerA [] s1 H ⟨[.ref a], []⟩ [.ref a] [.ref a] _ _ rfl room env (bind s1 (.ref a)) (.cons rfl .nil) ask) fun r s2 z => ?_
  cases r with
  | error e => exact (out H e s2 z).elim
  | ok fl =>
    cases fl with
    | ret u =>
      obtain ⟨v, H2, os, bare, un, held2, rv, rfl⟩ := z
      obtain rfl : u = Value.bool true := rv
      refine ⟨rfl, OldK.of_keep fun b o e => ?_, os, bare⟩
      rcases only b with none_ | ⟨ob, xs, fz⟩
      · exact un.keep b o e none_ (by intro m; exact absurd (show b ∈ ([] : List Addr) from m) (by simp)) (by simp)
      · obtain ⟨o1, _⟩ := held b _ fz
        obtain ⟨o2, _⟩ := held2 b _ (un.frzs b ob _ fz)
        rw [e] at o1
        cases o1
        exact o2
    | next => exact z.elim
    | brk => exact z.elim
    | cont => exact z.elim
/-- the script is one of the module's own lists, or a list of its own -/
theorem callG (KX : K.In s1.heap) (hns : s1.heap.Ns mainGlobals mg) (hb : s1.heap.Ns builtinsNs mb) (hbb : ∀ y : Str, y ≠ "__name__" → mb y = bootBuiltins y) (lim : s1.heap.NoLimit) (gens : s1.gens = #[])
    (obj : s1.heap.get? a = some { cls := .type "list", data := .seq vs.toArray }) (isI : IntsAre vs ns) (few : ns.length ≤ sizeLine) (room : Room k callerA)
    (F : ∀ base : Heap, K.In base → base.Ns mainGlobals mg → FnG P w K mg base CX k fa fd [x] sp) (bind : ∀ (s : Shared) (u : Value), BindsTo s fd ⟨[u], []⟩ [(x, u)])
    (ask : ∀ H : Hp, Only H → SqL K H a (ns.map V.int) → sp [.ref a] H (fun v _ => v = .bl true) fun _ _ _ => False) (out : ∀ H e s', CX [] H s1 (fun _ _ _ => False) e s' → False) :
    codeAny (model P w) callerA (.call (.ref fa) ⟨[.ref a], []⟩) (fun r s' => r = .ok (.ret (.bool true)) ∧ OldK s1.heap s'.heap ∧ s'.os = s1.os ∧ AllBare s'.gens) s1 := by
  have vals := vals_ints isI
  have len := isI.length
  cases known : K.lookup a with
  | some o =>
    have e := KX a o known
    rw [obj] at e
    cases e
    have only : Only (fun _ : Addr => (none : Option HO)) := fun _ => .inl rfl
    have seq : SqL K (fun _ : Addr => (none : Option HO)) a (ns.map V.int) := .inr ⟨_, vs.toArray, _, known, rfl, rfl, rfl, by rw [List.size_toArray, len]; exact few, by simpa using vals⟩
    exact callG_at KX hns hb hbb lim gens obj room F bind out _ only (ask _ only seq) (fun b u z => nomatch (show (none : Option HO) = some u from z)) (fun b z => (z rfl).elim) fun z => (z rfl).elim
  | none =>
    let H : Hp := fun b => if b = a then some (.frz { cls := .type "list", data := .seq vs.toArray } (.lst (ns.map V.int))) else none
    have at_ : H a = some (.frz { cls := .type "list", data := .seq vs.toArray } (.lst (ns.map V.int))) := if_pos rfl
    have off : ∀ b, b ≠ a → H b = none := fun b n => if_neg n
    have only : Only H := fun b => by
      by_cases y : b = a
      · exact .inr ⟨_, _, y ▸ at_⟩
      · exact .inl (off b y)
    have seq : SqL K H a (ns.map V.int) := .inl (.inr ⟨_, at_⟩)
    refine callG_at KX hns hb hbb lim gens obj room F bind out H only (ask H only seq) (fun b u z => ?_) (fun b z => ?_) fun _ => known
    · by_cases y : b = a
      · subst y
        rw [at_] at z
        cases z
        exact ⟨obj, by rw [List.length_map]; exact few, vs, _, vals, obj⟩
      · rw [off b y] at z
        cases z
    · by_cases y : b = a
      · exact y
      · exact absurd (off b y) z
end
theorem walkG {l : PySem.W.OpenLaw} {n k : Nat} {q : Program} {loose : List Str} {XP : (Str → Option Value) → Heap → Prop} {YP : World → Heap → Prop} {d : DefRec} {K : Params → PySem.W.Frag} {CX : World → CXT} {sp : World → Sp} {x : Str}
    (most : l.most = some n) (line : n ≤ sizeLine) (plain : d.params.defaults = []) (room : Room k callerA) (keep : ∀ (w : World) (h : Heap), YP w h → (K w.params).In h)
    (F : ∀ (w : World) (mg : Str → Option Value) (fa : Addr) (h : Heap), (K w.params).In h → h.Ns mainGlobals mg → mg d.name = some (.ref fa) →
      ∃ fd : FuncData, (∀ (s : Shared) (u : Value), BindsTo s fd ⟨[u], []⟩ [(x, u)]) ∧ ∀ base : Heap, (K w.params).In base → base.Ns mainGlobals mg → FnG l.prog w (K w.params) mg base (CX w) k fa fd [x] (sp w))
    (ask : ∀ (w : World) (H : Hp) (a : Addr) (ns : List Int), ns.length ≤ n → Only H → SqL (K w.params) H a (ns.map V.int) → sp w [.ref a] H (fun v _ => v = .bl true) fun _ _ _ => False)
    (out : ∀ (w : World) (H : Hp) (s : Shared) (e : Value) (s' : Shared), CX w [] H s (fun _ _ _ => False) e s' → False) : PySem.W.WalkO q loose XP YP l.row.toRowW d [] (fun f vs => PySem.call f vs) := by
  apply Att.attach_call most plain
  intro w s0 s1 mg mb fa o pm cd doc a vs ns G Y ho hd hcd hmg hobj hints hlen hg
  obtain ⟨fd, hb, hF⟩ := F w mg fa _ (keep w _ Y) G.T.g hmg
  exact callG (keep w _ Y) G.T.g G.T.b G.T.builtins G.T.nolimit hg hobj hints (Nat.le_trans hlen line) room hF hb (fun H h1 h2 => ask w H a ns hlen h1 h2) fun H e s' => out w H s1 e s'
end DL
set_option Elab.async false
set_option linter.all false
set_option maxRecDepth 100000
set_option maxHeartbeats 4000000
/-! the same with the table of the law's own code objects (its lambdas) -/
namespace DL
open PySem PySem.Spec PyProof.Rows L2 Evl LamX
section
variable {P : Program} {w : World} {K : PySem.W.Frag} {mg mb : Str → Option Value} {CX : CXT} {k : Nat} {fa a c T : Addr} {fd : FuncData} {x : Str} {sp : Sp} {s1 : Shared} {vs : List Value} {ns : List Int}
theorem callT_at (KX : K.In s1.heap) (hns : s1.heap.Ns mainGlobals mg) (hb : s1.heap.Ns builtinsNs mb) (hbb : ∀ y : Str, y ≠ "__name__" → mb y = bootBuiltins y) (lim : s1.heap.NoLimit) (gens : s1.gens = #[])
    (tab : s1.heap.get? T = some { cls := .none, data := .fields #[] }) (free_ : K.lookup T = none) (code : PySem.W.CodeHd s1.heap c T)
    (bmod : ∃ (bm : Addr) (ob : Obj), mg "__builtins__" = some (.ref bm) ∧ bm ≠ builtinsNs ∧ s1.heap.get? bm = some ob ∧ ob.cls = .type "module" ∧ ob.dict = some builtinsNs ∧ ob.data = .plain)
    (obj : s1.heap.get? a = some { cls := .type "list", data := .seq vs.toArray }) (room : Room k callerA)
    (F : ∀ base : Heap, K.In base → base.Ns mainGlobals mg → TabB base mg c T → FnG P w K mg base CX k fa fd [x] sp) (bind : ∀ (s : Shared) (u : Value), BindsTo s fd ⟨[u], []⟩ [(x, u)])
    (out : ∀ H e s', CX [] H s1 (fun _ _ _ => False) e s' → False) (H : Hp) (atT : H T = some (.tbl #[])) (only : ∀ b, H b = none ∨ b = T ∨ ∃ o xs, H b = some (.frz o (.lst xs))) (ask : sp [.ref a] H (fun v _ => v = .bl true) fun _ _ _ => False)
    (held : HOk P w H s1.heap) (atA : ∀ b, H b ≠ none → b = a ∨ b = T) (away : H a ≠ none → K.lookup a = none) :
    codeAny (model P w) callerA (.call (.ref fa) ⟨[.ref a], []⟩) (fun r s' => r = .ok (.ret (.bool true)) ∧ OldK s1.heap s'.heap ∧ s'.os = s1.os ∧ AllBare s'.gens) s1 := by
  have none_of : ∀ {b : Addr}, b ≠ a → b ≠ T → H b = none := fun {b} n1 n2 => by
    cases q : H b with
    | none => rfl
    | some u =>
      rcases atA b (by rw [q]; simp) with y | y
      · exact absurd y n1
      · exact absurd y n2
  have free : ∀ {b : Addr} {o : Obj}, s1.heap.get? b = some o → b ≠ a → b ≠ T → (hidT s1.heap H).get? b = some o := fun {b o} e n1 n2 => hidT_get e (none_of n1 n2)
  -- an object that is neither a list nor a table
  have other : ∀ {b : Addr} {o : Obj}, s1.heap.get? b = some o → (∀ us n, o.data ≠ .seq us n) → o.data ≠ .fields #[] → b ≠ a ∧ b ≠ T := fun {b o} e n1 n2 => by
    refine ⟨fun y => ?_, fun y => ?_⟩
    · rw [y, obj] at e
      cases e
      exact n1 _ _ rfl
    · rw [y, tab] at e
      cases e
      exact n2 rfl
  have names : ∀ {b : Addr} {m : Str → Option Value}, s1.heap.Ns b m → (hidT s1.heap H).Ns b m := fun {b m} z => by
    obtain ⟨o, es, ep, e, d, r⟩ := z
    obtain ⟨n1, n2⟩ := other e (fun us n y => by rw [d] at y; cases y) (fun y => by rw [d] at y; cases y)
    exact ⟨o, es, ep, free e n1 n2, d, r⟩
  have written : K.In (hidT s1.heap H) := fun b o e => by
    refine hidT_get (KX b o e) ?_
    cases q : H b with
    | none => rfl
    | some u =>
      rcases atA b (by rw [q]; simp) with y | y
      · rw [y] at e q
        rw [away (by rw [q]; simp)] at e
        cases e
      · rw [y, free_] at e
        cases e
  obtain ⟨mc, l1, l2⟩ := lim
  have modu : L2.Mod K mg (hidT s1.heap H) := ⟨written, names hns, ⟨mb, names hb, hbb⟩, ⟨mc, names l1, l2⟩⟩
  have TB : TabB (hidT s1.heap H) mg c T := by
    refine ⟨?_, ?_, fun z => ?_⟩
    · obtain ⟨o, us, file, tf, flags, tg, inF, text, tt, e1, r1, r2, r3, r4⟩ := code
      obtain ⟨n1, n2⟩ := other e1 (fun us' n y => by rw [r2] at y; cases y) (fun y => by
        rw [r2] at y
        cases y
        simp at r3)
      exact ⟨o, us, file, tf, flags, tg, inF, text, tt, free e1 n1 n2, r1, r2, r3, r4⟩
    · obtain ⟨bm, ob, b1, b2, b3, b4, b5, b6⟩ := bmod
      obtain ⟨n1, n2⟩ := other b3 (fun us n y => by rw [b6] at y; cases y) (fun y => by rw [b6] at y; cases y)
      have nG : bm ≠ mainGlobals := fun y => by
        obtain ⟨o, es, ep, e, d, _⟩ := hns
        rw [y, e] at b3
        cases b3
        rw [d] at b6
        cases b6
      exact ⟨bm, ob, b1, b2, nG, n2, free b3 n1 n2, b4, b5, b6⟩
    · obtain ⟨o, es, ep, e, d, _⟩ := hns
      rw [z, tab] at e
      cases e
      cases d
  have env : Env0 P w K mg (hidT s1.heap H) callerA [] s1 H := ⟨rfl, modu, fun b o e => of_hidT e, Nat.le_of_eq (hidT_size _ _), trivial, fun b z => (List.not_mem_nil (show b ∈ ([] : List Addr) from z)).elim, held, .of_eq gens⟩
  refine codeAny_mono ((F _ written (names hns) TB).run callerA [] s1 H ⟨[.ref a], []⟩ [.ref a] [.ref a] _ _ rfl room env (bind s1 (.ref a)) (.cons rfl .nil) ask) fun r s2 z => ?_
  cases r with
  | error e => exact (out H e s2 z).elim
  | ok fl =>
    cases fl with
    | ret u =>
      obtain ⟨v, H2, os, bare, un, held2, rv, rfl⟩ := z
      obtain rfl : u = Value.bool true := rv
      have kept : ∀ b o, b ≠ T → s1.heap.get? b = some o → s2.heap.get? b = some o := fun b o nb e => by
        rcases only b with none_ | y | ⟨ob, xs, fz⟩
        · exact un.keep b o e none_ (by intro m; exact absurd (show b ∈ ([] : List Addr) from m) (by simp)) (by simp)
        · exact absurd y nb
        · obtain ⟨o1, _⟩ := held b _ fz
          obtain ⟨o2, _⟩ := held2 b _ (un.frzs b ob _ fz)
          rw [e] at o1
          cases o1
          exact o2
      obtain ⟨more, grown⟩ := un.tbls T #[] atT
      have now : s2.heap.get? T = some { cls := .none, data := .fields (#[] ++ more) } := held2 T _ grown
      refine ⟨rfl, ⟨fun b o e => ?_, fun b o e => ?_⟩, os, bare⟩
      · by_cases y : b = T
        · subst y
          rw [tab] at e
          cases e
          exact .inr (.inl ⟨(code.tab tab).isCodeTable, rfl, #[], more, rfl, now⟩)
        · exact .inl (kept b o y e)
      · by_cases y : b = T
        · exact ⟨_, y ▸ now⟩
        · exact ⟨o, kept b o y e⟩
    | next => exact z.elim
    | brk => exact z.elim
    | cont => exact z.elim
theorem callT (KX : K.In s1.heap) (hns : s1.heap.Ns mainGlobals mg) (hb : s1.heap.Ns builtinsNs mb) (hbb : ∀ y : Str, y ≠ "__name__" → mb y = bootBuiltins y) (lim : s1.heap.NoLimit) (gens : s1.gens = #[])
    (tab : s1.heap.get? T = some { cls := .none, data := .fields #[] }) (free_ : K.lookup T = none) (code : PySem.W.CodeHd s1.heap c T)
    (bmod : ∃ (bm : Addr) (ob : Obj), mg "__builtins__" = some (.ref bm) ∧ bm ≠ builtinsNs ∧ s1.heap.get? bm = some ob ∧ ob.cls = .type "module" ∧ ob.dict = some builtinsNs ∧ ob.data = .plain)
    (obj : s1.heap.get? a = some { cls := .type "list", data := .seq vs.toArray }) (isI : IntsAre vs ns) (few : ns.length ≤ sizeLine) (room : Room k callerA)
    (F : ∀ base : Heap, K.In base → base.Ns mainGlobals mg → TabB base mg c T → FnG P w K mg base CX k fa fd [x] sp) (bind : ∀ (s : Shared) (u : Value), BindsTo s fd ⟨[u], []⟩ [(x, u)])
    (ask : ∀ H : Hp, H T = some (.tbl #[]) → SqL K H a (ns.map V.int) → sp [.ref a] H (fun v _ => v = .bl true) fun _ _ _ => False) (out : ∀ H e s', CX [] H s1 (fun _ _ _ => False) e s' → False) :
    codeAny (model P w) callerA (.call (.ref fa) ⟨[.ref a], []⟩) (fun r s' => r = .ok (.ret (.bool true)) ∧ OldK s1.heap s'.heap ∧ s'.os = s1.os ∧ AllBare s'.gens) s1 := by
  have vals := vals_ints isI
  have len := isI.length
  have aT : a ≠ T := fun y => by
    rw [y, tab] at obj
    cases obj
  cases known : K.lookup a with
  | some o =>
    have e := KX a o known
    rw [obj] at e
    cases e
    let H : Hp := fun b => if b = T then some (.tbl #[]) else none
    have at_ : H T = some (.tbl #[]) := if_pos rfl
    have off : ∀ b, b ≠ T → H b = none := fun b n => if_neg n
    have seq : SqL K H a (ns.map V.int) := .inr ⟨_, vs.toArray, _, known, rfl, rfl, rfl, by rw [List.size_toArray, len]; exact few, by simpa using vals⟩
    refine callT_at KX hns hb hbb lim gens tab free_ code bmod obj room F bind out H at_ (fun b => ?_) (ask H at_ seq) (fun b u z => ?_) (fun b z => ?_) fun z => (z (off a aT)).elim
    · by_cases y : b = T
      · exact .inr (.inl y)
      · exact .inl (off b y)
    · by_cases y : b = T
      · subst y
        rw [at_] at z
        cases z
        exact tab
      · rw [off b y] at z
        cases z
    · by_cases y : b = T
      · exact .inr y
      · exact absurd (off b y) z
  | none =>
    let H : Hp := fun b => if b = a then some (.frz { cls := .type "list", data := .seq vs.toArray } (.lst (ns.map V.int))) else if b = T then some (.tbl #[]) else none
    have at_ : H a = some (.frz { cls := .type "list", data := .seq vs.toArray } (.lst (ns.map V.int))) := if_pos rfl
    have atT : H T = some (.tbl #[]) := (if_neg (Ne.symm aT)).trans (if_pos rfl)
    have off : ∀ b, b ≠ a → b ≠ T → H b = none := fun b n1 n2 => (if_neg n1).trans (if_neg n2)
    have seq : SqL K H a (ns.map V.int) := .inl (.inr ⟨_, at_⟩)
    refine callT_at KX hns hb hbb lim gens tab free_ code bmod obj room F bind out H atT (fun b => ?_) (ask H atT seq) (fun b u z => ?_) (fun b z => ?_) fun _ => known
    · by_cases y : b = a
      · exact .inr (.inr ⟨_, _, y ▸ at_⟩)
      · by_cases y2 : b = T
        · exact .inr (.inl y2)
        · exact .inl (off b y y2)
    · by_cases y : b = a
      · subst y
        rw [at_] at z
        cases z
        exact ⟨obj, by rw [List.length_map]; exact few, vs, _, vals, obj⟩
      · by_cases y2 : b = T
        · subst y2
          rw [atT] at z
          cases z
          exact tab
        · rw [off b y y2] at z
          cases z
    · by_cases y : b = a
      · exact .inl y
      · by_cases y2 : b = T
        · exact .inr y2
        · exact absurd (off b y y2) z
end
/-- the head of such a law -/
theorem walkT {l : PySem.W.OpenLaw} {n k : Nat} {q : Program} {loose : List Str} {XP : (Str → Option Value) → Heap → Prop} {YP : World → Heap → Prop} {d : DefRec} {K : Params → PySem.W.Frag} {CX : World → CXT} {x : Str}
    (most : l.most = some n) (line : n ≤ sizeLine) (plain : d.params.defaults = []) (room : Room k callerA) (keep : ∀ (w : World) (h : Heap), YP w h → (K w.params).In h)
    (F : ∀ (w : World) (mg : Str → Option Value) (fa : Addr) (h : Heap), YP w h → (K w.params).In h → h.Ns mainGlobals mg → mg d.name = some (.ref fa) →
      ∃ (fd : FuncData) (c T : Addr) (sp : Sp), h.get? T = some { cls := .none, data := .fields #[] } ∧ (K w.params).lookup T = none ∧ PySem.W.CodeHd h c T ∧ (∀ (s : Shared) (u : Value), BindsTo s fd ⟨[u], []⟩ [(x, u)]) ∧
        (∀ (H : Hp) (a : Addr) (ns : List Int), ns.length ≤ n → H T = some (.tbl #[]) → SqL (K w.params) H a (ns.map V.int) → sp [.ref a] H (fun v _ => v = .bl true) fun _ _ _ => False) ∧
        ∀ base : Heap, (K w.params).In base → base.Ns mainGlobals mg → TabB base mg c T → FnG l.prog w (K w.params) mg base (CX w) k fa fd [x] sp)
    (out : ∀ (w : World) (H : Hp) (s : Shared) (e : Value) (s' : Shared), CX w [] H s (fun _ _ _ => False) e s' → False) : PySem.W.WalkO q loose XP YP l.row.toRowW d [] (fun f vs => PySem.call f vs) := by
  apply Att.attach_call most plain
  intro w s0 s1 mg mb fa o pm cd doc a vs ns G Y ho hd hcd hmg hobj hints hlen hg
  obtain ⟨fd, c, T, sp, t1, t2, t3, bnd, ask, hF⟩ := F w mg fa _ Y (keep w _ Y) G.T.g hmg
  exact callT (keep w _ Y) G.T.g G.T.b G.T.builtins G.T.nolimit hg t1 t2 t3 G.T.bmain hobj hints (Nat.le_trans hlen line) room hF bnd (fun H h1 h2 => ask H a ns hlen h1 h2) fun H e s' => out w H s1 e s'
end DL
set_option Elab.async false
set_option linter.all false
set_option maxRecDepth 100000
set_option maxHeartbeats 4000000
/-! calls by names alone, the last parameter first -/
namespace DL
open PySem PySem.Spec PyProof.Rows L2 Evl
def gR (_ : List Value) (ws : List Value) : List Value := ws.reverse
def gRV (_ : List V) (zs : List V) : List V := zs.reverse
theorem vals_rev : ∀ {zs : List V} {ws : List Value}, Vals zs ws → Vals zs.reverse ws.reverse
  | _, _, .nil => .nil
  | _, _, .cons a t => by
    rw [List.reverse_cons, List.reverse_cons]
    exact Vals.append (vals_rev t) (.cons a .nil)
/-- the parameters bound by their names, in any order -/
def KwR (K : PySem.W.Frag) (fd : FuncData) (ps : List Str) : Prop := ∀ (s : Shared) (ws : List Value), K.In s.heap → ws.length = ps.length → BindsTo s fd ⟨[], ps.reverse.zip ws⟩ (ps.zip ws.reverse)
theorem kbn_rev {K : PySem.W.Frag} {fd : FuncData} {ps : List Str} (h : KwR K fd ps) : KBn K fd ps 0 ps.reverse gR gRV where
  to := fun s us ws k l1 l2 => by
    obtain rfl := List.eq_nil_of_length_eq_zero l1
    exact h s ws k (by rw [l2, List.length_reverse])
  rel := fun _ r => vals_rev r
/-- f(b = y, a = x) -/
def tCallR (n : Nat) (sp : Sp) (E : XK) (tk : TA) : TE := fun σ H Q => tk σ H fun zs H2 => zs.length = n ∧ sp zs.reverse H2 Q E
theorem pe_kw {X : Cx} {CX : CXT} {k : Nat} {f : Addr} {fd : FuncData} {ps : List Str} {sp : Sp} {E : XK} {x : Str} {p pos : Pos} {kws : List Keyword} {tk : TA} (F : FnOk X.prog X.w X.K X.mg X.base CX k f fd ps sp) (hr : Room k X.A) (hg : Gl X x) (hm : X.mg x = some (.ref f)) (hk : PySem.W.keepIn X.K (.ref f) = true)
    (hb : KwR X.K fd ps) (hx : Passes CX X E) (hkw : PK X kws tk) (hall : (backToKw pos (keywordEach kws X.env)).all (·.1.isSome) = true := by rfl) (hks : (backToKw pos (keywordEach kws X.env)).filterMap (·.1) = ps.reverse := by rfl) (hdb : (x == ("__debug__" : Str)) = false := by decide)
    (hpl : ((backTo pos (starEach [] X.env)).any (·.1) || (backToKw pos (keywordEach kws X.env)).any (·.1.isNone)) = false := by rfl) :
    PE X (.Call (.Name x p) [] kws pos) (tCallR ps.length sp E tk) := by
  constructor
  intro pins s σ H Q I h
  apply wpAny_Call_Name_kw
  refine ld_glob I hg hm ?_ hdb
  refine PySem.W.callWith_KW0 (h₀ := X.base) I.ok.mod.kin hk hall (thn (hkw.run pos pins s σ H _ I h) fun ws s2 z => ?_) hpl
  obtain ⟨zs, H2, I2, rz, l2, q2⟩ := z
  refine ⟨I2.kIn, ?_⟩
  rw [hks]
  exact run_fnN (us := []) (vs := []) F hr (kbn_rev hb) hx I2 .nil rz rfl (by rw [l2, List.length_reverse]) q2
/-- defs that are called by names -/
structure DFK (P : Program) (w : World) (K : PySem.W.Frag) (mg : Str → Option Value) (base : Heap) (CX : CXT) (nm : Str) (k : Nat) (ps : List Str) (sp : Sp) : Prop where
  ex : ∃ (f : Addr) (fd : FuncData), FnOk P w K mg base CX k f fd ps sp ∧ mg nm = some (.ref f) ∧ PySem.W.keepIn K (.ref f) = true ∧ KwR K fd ps
theorem pe_DK {X : Cx} {nm : Str} {k : Nat} {ps : List Str} {sp : Sp} {E : XK} {W : WX} {p pos : Pos} {kws : List Keyword} {tk : TA} (F : DFK X.prog X.w X.K X.mg X.base (L2.CX X.prog X.w) nm k ps sp) (tk_ : Takes X W) (hW : ∀ cls d σ H, E cls d H → W cls d σ H) (hr : Room k X.A) (hg : Gl X nm) (hkw : PK X kws tk)
    (hall : (backToKw pos (keywordEach kws X.env)).all (·.1.isSome) = true := by rfl) (hks : (backToKw pos (keywordEach kws X.env)).filterMap (·.1) = ps.reverse := by rfl) (hdb : (nm == ("__debug__" : Str)) = false := by decide)
    (hpl : ((backTo pos (starEach [] X.env)).any (·.1) || (backToKw pos (keywordEach kws X.env)).any (·.1.isNone)) = false := by rfl) :
    PE X (.Call (.Name nm p) [] kws pos) (tCallR ps.length sp E tk) := by
  obtain ⟨f, fd, h1, h2, h3, h4⟩ := F.ex
  exact pe_kw h1 hr hg h2 h3 h4 (passes_call tk_ hW) hkw hall hks hdb hpl
end DL
set_option Elab.async false
set_option linter.all false
set_option maxRecDepth 100000
set_option maxHeartbeats 4000000
/-! dicts with tuple keys: emptied, read as data, shown -/
namespace DL
open PySem PySem.Spec PyProof.Rows L2 Evl
section
variable {X : Cx} {pins : List (Addr × Obj)} {σ : L2.St} {H : Hp} {s : Shared}
def rClearT : V → List V → Hp → VK → Prop := fun x vs H Q => ∃ (a : Addr) (kvs : List (List Key × V)), x = .ref a ∧ vs = [] ∧ H a = some (.dT kvs) ∧ Q .non (upd H a (.dT []))
theorem mt_clearT : MtR X "dict.clear" rClearT := by
  intro pins s σ H x vs v us Q I rx rv h
  obtain ⟨a, kvs, rfl, rfl, e, q⟩ := h
  obtain rfl : v = Value.ref a := rx
  obtain rfl := rv.zero
  obtain ⟨z, hd, xs, rel, o, es, ep, ho, ex, hdat, hl, _, nd⟩ := dt_of I.hok e
  have sz : es.size ≤ sizeLine := by
    have l1 : es.toList.length = xs.length := by rw [hl, List.length_map]
    have l2 := Paired.length rel
    rw [Array.length_toList] at l1
    omega
  refine call_meetsIn PySem.F.slot_dict_clear (s := s) ⟨o, ho, ex.1⟩ PySem.F.entry_dict_clear (PySem.F.args_dict_clear_1 _) (meets_dict_clear_raw a) ⟨es, ep, ⟨o, ho, ex, hdat⟩, sz, fun h' raw same => ?_⟩
  obtain ⟨o2, ho2, ex2, hdat2⟩ := raw
  exact ⟨.non, upd H a (.dT []), d_write (ob := .dT []) I (by rw [e]; exact True.intro) same ⟨o2, ho2⟩ ⟨Nat.zero_le _, hd, [], .nil, o2, #[], ep + 1, ho2, ex2, hdat2, rfl, List.nodup_nil⟩, rfl, q⟩
/-- a dict with tuples of ints for keys and ints for values, as data -/
abbrev KI := List (List Int × Int)
def kvI (m : KI) : List (List Key × V) := m.map fun p => (p.1.map Sum.inl, .int p.2)
def dDict (m : KI) : PyData := .dict (m.map fun p => (tI p.1, PyData.int p.2))
theorem reads_ints {h : Heap} : ∀ {ns : List Int} {us : List Value}, Vals (ns.map V.int) us → ReadsAll h us (dI ns) []
  | [], _, .nil => .nil
  | n :: ns, _, .cons a t => by
    obtain ⟨t0, rfl⟩ := a
    exact ReadsAll.cons (as := []) (.int n t0) (reads_ints t)
theorem reads_tI (I : Inv X pins σ H s) {b : Addr} {ns : List Int} (e : H b = some (.tup (ns.map V.int))) : Reads s.heap (.ref b) (tI ns) [] := by
  obtain ⟨its, r, ⟨⟨cls, dd, data, sl⟩, ho, hc, n, hd⟩, _⟩ := I.tuple (st_of (K := X.K) e)
  simp only at hc hd
  subst hc hd
  exact Reads.tuple ho rfl rfl (by simpa using reads_ints r)
theorem reads_dT (I : Inv X pins σ H s) {a : Addr} {m : KI} (e : H a = some (.dT (kvI m))) : ∃ as, Reads s.heap (.ref a) (dDict m) as ∧ sysModules ∉ as := by
  obtain ⟨z, hd, xs, rel, o, es, ep, ho, ex, hdat, hl, _, nd⟩ := dt_of I.hok e
  have keys : ∀ {m : KI} {xs : List (List Key × Addr × Value)}, KT H (kvI m) xs → ReadsAll s.heap (xs.map fun x => Value.ref x.2.1) (m.map fun p => tI p.1) [] ∧ ReadsAll s.heap (xs.map fun x => x.2.2) (m.map fun p => PyData.int p.2) [] := by
    intro m
    induction m with
    | nil =>
      intro xs h
      cases h
      exact ⟨.nil, .nil⟩
    | cons p m ih =>
      intro xs h
      cases h with
      | @cons _ x _ xs a t =>
        obtain ⟨r1, r2⟩ := ih t
        obtain ⟨_, a2, a3⟩ := a
        have a2 : H x.2.1 = some (.tup (p.1.map V.int)) := by
          have e0 : ((p.1.map (Sum.inl : Int → Key)).map kV) = p.1.map V.int := by rw [List.map_map]; rfl
          rw [← e0]
          exact a2
        obtain ⟨t0, a3⟩ := (show ∃ t, x.2.2 = Value.int p.2 t from a3)
        refine ⟨ReadsAll.cons (as := []) (reads_tI I a2) r1, ?_⟩
        rw [List.map_cons, a3]
        exact ReadsAll.cons (as := []) (.int p.2 t0) r2
  obtain ⟨r1, r2⟩ := keys rel
  refine ⟨[a] ++ [], Reads.dict (as := []) (bs := []) ho ex.1 hdat ?_ ?_, ?_⟩
  · rw [hl, List.map_map, List.map_map]
    exact r1
  · rw [hl, List.map_map, List.map_map]
    exact r2
  · intro q
    have : sysModules = a := by simpa using q
    rw [← this] at hd
    simp at hd
end
end DL
set_option Elab.async false
set_option linter.all false
set_option maxRecDepth 100000
set_option maxHeartbeats 4000000
/-! a dict comprehension whose keys are tuples -/
namespace DL
open PySem PySem.Spec PyProof.Rows L2 Evl
section
variable {X : Cx} {pins : List (Addr × Obj)} {σ : L2.St} {H : Hp} {s : Shared}
/-- the new dict takes one more pair -/
theorem dT_put {E : Value → Shared → Prop} {D b : Addr} {kvs : List (List Key × V)} {k : List Key} {v : V} {r : Value} {Q : Unit → Shared → Prop} (hu : X.A.units + 1 < cLine) (I : Inv X pins σ H s) (hD : H D = some (.dT kvs)) (hb : H b = some (.tup (k.map kV)))
    (sz : kvs.length < sizeLine) (rv : RelV v r) (q : ∀ s', Inv X pins σ (upd H D (.dT (putK kvs k v))) s' → Q () s') : wpAny (model X.prog X.w) X.A (dictSet D (.ref b) r) Q E s := by
  obtain ⟨z, hd, xs, rel, dd⟩ := dt_of I.hok hD
  have lx : xs.length ≤ sizeLine := Paired.length rel ▸ z
  have room : (tupleKind (mixKind X.prog X.w)).room X.A := by
    show X.A.units < cLine
    omega
  refine wpAny_dictSet_heap (hsz := lx) room (key_of I.hok hb) dd fun h' now but => q _ ?_
  obtain ⟨o, es, ep, ho, ex, hdat, hl, _, nd⟩ := now
  refine d_write I (by rw [hD]; exact True.intro) but ⟨o, ho⟩ ⟨Nat.le_trans (length_putK kvs k v) sz, hd, _, (rel.put k hb rv).keeps fun c ys ec => ?_, o, es, ep, ho, ex, hdat, hl, nd⟩
  rw [upd_ne (ne_of ec hD fun y => nomatch y)]
  exact ec
/-- {k: v for ..}: every key a tuple that is known -/
def tDcT (wi : TI) (g : TG) (tt : TT) (tk tv : TE) (vs : List Nat) : TE := fun σ H Q => wi σ H fun J Ha => ∀ D, Ha D = none → ∃ (W : Nat → Hp → Prop) (n : Nat), W 0 (upd Ha D (.dT [])) ∧ ∀ i H, W i H →
  (J.stop i H ∧ Q (.ref D) H) ∨ (i < n ∧ J.go i H ∧ ∀ x Hx, J.yld i H x Hx → g x (wipe σ vs) Hx fun σ2 H2 => wipe σ2 vs = wipe σ vs ∧ tt σ2 H2 fun yes H3 =>
    if yes = true then tk σ2 H3 fun y H4 => tv σ2 H4 fun z H5 => ∃ (kvs : List (List Key × V)) (k : List Key) (b : Addr), y = .ref b ∧ H5 b = some (.tup (k.map kV)) ∧ H5 D = some (.dT kvs) ∧ kvs.length < sizeLine ∧ W (i + 1) (upd H5 D (.dT (putK kvs k z))) else W (i + 1) H3)
theorem pe_dcT {kx vx tg iter : Expr} {ifs : List Expr} {sc : Scope} {own : List (Str × Nat)} {pos : Pos} {wi : TI} {g : TG} {tt : TT} {tk tv : TE} (calm : X.calm = true) (nd : X.N.Nodup) (hu : X.A.units + 1 < cLine) (over : PI X tg iter wi) (blk : BlkOk X.N X.env.scope sc own)
    (pgG : ∀ (s : Shared) (H : Hp) (C : Addr) (cl : List (Str × Addr)) (fp : List Addr), PG (X.blk s H sc (compEnvC sc cl C X.env) fp) tg g)
    (ptG : ∀ (s : Shared) (H : Hp) (C : Addr) (cl : List (Str × Addr)) (fp : List Addr), PTs (X.blk s H sc (compEnvC sc cl C X.env) fp) ifs tt)
    (pkG : ∀ (s : Shared) (H : Hp) (C : Addr) (cl : List (Str × Addr)) (fp : List Addr), PE (X.blk s H sc (compEnvC sc cl C X.env) fp) kx tk)
    (pvG : ∀ (s : Shared) (H : Hp) (C : Addr) (cl : List (Str × Addr)) (fp : List Addr), PE (X.blk s H sc (compEnvC sc cl C X.env) fp) vx tv)
    (plain : ∀ x, foldedSetIterable iter X.env x = pure x := by intro _; rfl) : PE X (.DictComp kx vx [⟨tg, iter, ifs, 0⟩] sc pos) (tDcT wi g tt tk tv (own.map (·.2))) := by
  constructor
  intro pins s σ H Q I ask
  rw [arm_eval_DictComp]
  have fr : ∀ y ∈ sc.names, y.2 = .free → ∃ c, X.env.cells.lookup y.1 = some c := fun y m e => (blk.free y m e).elim (fun k => I.ok.has _ (.inl k)) fun k => I.ok.has _ (.inr k)
  refine wpAny_comprehension_free (use := none) rfl plain (closure_ok fr) blk.kind (fun y m e => by rw [blk.uniq y m, e]) ?_
  refine thn (over.run pins s σ H _ I ask) fun xv sA gotIter => thn gotIter fun itv sB gotIt => ?_
  obtain ⟨it, fp, tn, J, Ha, rfl, IB, T, stB, fB, next⟩ := gotIt
  refine wpAny_newObj_type (newEnv_comp ?_)
  obtain ⟨D, eD⟩ : ∃ D, D = sB.heap.objs.size := ⟨_, rfl⟩
  rw [← eD]
  have freshD : Ha D = none := IB.hok.fresh (Nat.le_of_eq eD.symm)
  obtain ⟨W, lim, w0, turn⟩ := next D freshD
  obtain ⟨sC, eC⟩ : ∃ sC : Shared, sC = { sB with heap := sB.heap.push { cls := .type "dict", data := .dict #[] } } := ⟨_, rfl⟩
  rw [← eC]
  have heapC : sC.heap = sB.heap.push { cls := .type "dict", data := .dict #[] } := by rw [eC]
  have IC : Inv X pins σ (upd Ha D (.dT [])) sC := by
    rw [eC, eD]
    exact IB.laid (t' := sB.toks) (fun b o e => Heap.get?_push_of_some _ e) (Nat.le_refl _) (dt_empty sB.heap IB.big)
  have small : ∀ b ∈ fp, b < sB.heap.objs.size := fun b m => by
    obtain ⟨o, e, _⟩ := T.obj _ _ stB b m
    exact Heap.lt_size e
  have fC : ∀ b ∈ fp, FpOk X pins (upd Ha D (.dT [])) b ∧ b < sC.heap.objs.size := fun b m => by
    have lt := small b m
    refine ⟨⟨?_, (fB b m).2⟩, ?_⟩
    · rw [upd_ne (eD ▸ Nat.ne_of_lt lt)]
      exact (fB b m).1
    · rw [heapC, Heap.size_push]
      exact Nat.lt_succ_of_lt lt
  have stC : tn 0 sC.heap := T.keep _ _ _ stB fun b _ o e => heapC ▸ Heap.get?_push_of_some _ e
  obtain ⟨Hc, eHc⟩ : ∃ Hc, Hc = upd Ha D (.dT []) := ⟨_, rfl⟩
  rw [← eHc] at IC fC w0
  obtain ⟨clo, eclo⟩ : ∃ clo, clo = cellsFrom (sC.heap.objs.size + 1) sc.names (cloFrom X.env.cells sc.names []) := ⟨_, rfl⟩
  obtain ⟨ce, ece⟩ : ∃ ce, ce = compEnvC sc clo sC.heap.objs.size X.env := ⟨_, rfl⟩
  have gP := pgG sC Hc sC.heap.objs.size clo fp
  have tP := ptG sC Hc sC.heap.objs.size clo fp
  have kP := pkG sC Hc sC.heap.objs.size clo fp
  have vP := pvG sC Hc sC.heap.objs.size clo fp
  have IE := block_start IC blk nd fC
  rw [← eclo, ← ece] at IE
  rw [← ece] at gP tP kP vP
  have locE : ce.locals = sC.heap.objs.size := by rw [ece]; rfl
  obtain ⟨sE, eE⟩ : ∃ sE : Shared, sE = { sC with heap := pushCells (sC.heap.push { cls := .type "dict", data := .dict #[] }) sc.names } := ⟨_, rfl⟩
  rw [← eE] at IE
  have stE : tn 0 sE.heap := T.keep _ _ _ stC fun b _ o e => eE ▸ pushCells_keeps _ _ _ _ (Heap.get?_push_of_some _ e)
  have here : ∀ {σ' : L2.St} {H' : Hp} {s' : Shared}, Inv (X.blk sC Hc sc ce fp) [] σ' H' s' → (∀ b ∈ fp, H' b = none) → ∀ b ∈ fp, FpOk (X.blk sC Hc sc ce fp) [] H' b := fun {_ _ _} I' free b m =>
    ⟨free b m, (I'.ok.exf b m).1, I'.ok.exfs b m, .inl m, fun x c e => (I'.ok.exf b m).2 x c e, fun p q => (List.not_mem_nil (show p ∈ ([] : List (Addr × Obj)) from q)).elim⟩
  let Wd : Nat → Shared → Prop := fun n s' => ∃ i H', n = lim - i ∧ Inv (X.blk sC Hc sc ce fp) [] (wipe σ (own.map (·.2))) H' s' ∧ tn i s'.heap ∧ (∀ b ∈ fp, H' b = none) ∧ W i H'
  subst ece eclo
  have loop : codeAny (model X.prog X.w) X.A (.compLoop (.DictComp kx vx [⟨tg, iter, ifs, 0⟩] sc pos) 0 (.ref it) (.ref D) (compEnvC sc (cellsFrom (sC.heap.objs.size + 1) sc.names (cloFrom X.env.cells sc.names [])) sC.heap.objs.size X.env)) (compPost (model X.prog X.w) X.A X.xe none (fun v s' => ∃ x H', Inv X pins σ H' s' ∧ RelV x v ∧ Q x H') (.ref D) sC.heap.objs.size) sE := by
    refine compLoop_anyD Wd ?_ (lim - 0) ⟨0, Hc, rfl, IE, stE, fun b m => (fC b m).1.1, w0⟩
    rintro n s5 ⟨i, H5, rfl, I5, st5, n5, w5⟩
    rcases turn i H5 w5 with ⟨stop, done⟩ | ⟨lt, go, step⟩
    · refine thnF (T.done (X.blk sC Hc sc _ fp) rfl rfl rfl calm i [] s5 _ H5 (fun _ _ => False) I5 (here I5 n5) st5 stop) fun r s6 z => ?_
      obtain ⟨rfl, I6⟩ := z
      have I7 : Inv X pins σ H5 s6 := IC.call' (ch := fp) I6.os I6.base I6.hok I6.bare fun b m => ⟨(fC b m).1.2.2.2.1, (fC b m).1.2.1, (fC b m).1.2.2.2.2.1, (fC b m).1.2.2.2.2.2⟩
      have noC : H5 sC.heap.objs.size = none := I6.free
      obtain ⟨m, ns, _⟩ := I6.loc
      obtain ⟨f0, f1, f2, f3, f4, f5⟩ := IC.fpOk (Nat.le_refl _) noC
      refine ⟨m, ns, fun h9 sb => ?_⟩
      exact ⟨.ref D, H5, I7.turned (t' := s6.toks) (fun b o hb e => (sb.2 b hb).trans e) noC f1 f3 f4 f5, rfl, done⟩
    · refine thnF (T.item (X.blk sC Hc sc _ fp) rfl rfl rfl calm i [] s5 _ H5 (fun _ _ => False) I5 (here I5 n5) st5 go) fun r s6 z => ?_
      obtain ⟨u, rfl, z6⟩ := z
      refine thnF z6 fun _ s7 z7 => ?_
      obtain ⟨x, H7, I7, r7, y7, st7, n7⟩ := z7
      refine thnF (gP.run _ s7 _ H7 x u _ (I7.pinned (here I7 n7) (T.obj _ _ st7)) r7 (step x H7 y7)) fun _ s8 z8 => ?_
      obtain ⟨σ8, H8, I8, w8, q8⟩ := z8
      refine thnF (tP.run _ s8 σ8 H8 _ I8 q8) fun yes s9 z9 => ?_
      obtain ⟨H9, I9, q9⟩ := z9
      have again : ∀ {s' : Shared} {H' : Hp}, Inv (X.blk sC Hc sc (compEnvC sc (cellsFrom (sC.heap.objs.size + 1) sc.names (cloFrom X.env.cells sc.names [])) sC.heap.objs.size X.env) fp) ([] ++ pinsAt fp s7.heap) σ8 H' s' → W (i + 1) H' → ∃ m, m < lim - i ∧ Wd m s' := fun {s' H'} I' nx => by
        have pinned : ∀ b ∈ fp, ∀ o, s7.heap.get? b = some o → s'.heap.get? b = some o ∧ H' b = none := fun b m o e => by
          obtain ⟨z1, z2, _⟩ := I'.pin (b, o) (List.mem_append_right _ (List.mem_append_right _ (mem_pinsAt m e)))
          exact ⟨z1, z2⟩
        have same : (wipe σ (own.map (·.2))).length = σ8.length := (congrArg List.length w8).symm.trans (wipe_length _ _)
        refine ⟨lim - (i + 1), by omega, i + 1, H', rfl, (I'.unpinned (pins := [])).weak same (fun j v e => (wipe_some (w8 ▸ e)).1), T.keep _ _ _ st7 fun b m o e => (pinned b m o e).1, fun b m => ?_, nx⟩
        obtain ⟨o, e, _⟩ := T.obj _ _ st7 b m
        exact (pinned b m o e).2
      cases yes with
      | false => exact again I9 q9
      | true =>
        refine thnF (kP.run _ s9 σ8 H9 _ I9 q9) fun kv s10 z10 => ?_
        obtain ⟨y, H10, I10, r10, q10⟩ := z10
        refine thnF (vP.run _ s10 σ8 H10 _ I10 q10) fun vv s11 z11 => ?_
        obtain ⟨v, H11, I11, r11, kvs, k, b, rfl, hb, hD, sz, nx⟩ := z11
        obtain rfl : kv = Value.ref b := r10
        exact dT_put (X := X.blk sC Hc sc _ fp) hu I11 hD hb sz r11 fun s12 I12 => again I12 nx
  rw [← eE]
  exact codeAny_compStart_dict loop (T.self X.A 0 _ _ _ stE loop)
end
end DL
set_option Elab.async false
set_option linter.all false
set_option maxRecDepth 100000
set_option maxHeartbeats 4000000
/-! list(d.values()) of a dict with tuple keys; repr of such dicts, alone and in lists -/
namespace DL
open PySem PySem.Spec PyProof.Rows L2 Evl
section
variable {X : Cx} {pins : List (Addr × Obj)} {σ : L2.St} {H : Hp} {s : Shared}
def rValsT : V → List V → Hp → VK → Prop := fun x vs H Q => ∃ (a : Addr) (kvs : List (List Key × V)), x = .ref a ∧ vs = [] ∧ H a = some (.dT kvs) ∧ ∀ p, H p = none → Q (.ref p) (upd H p (viewO "dict_values" p a))
theorem mt_valsT : MtR X "dict.values" rValsT := by
  intro pins s σ H x vs v us Q I rx rv h
  obtain ⟨a, kvs, rfl, rfl, e, q⟩ := h
  obtain rfl : v = Value.ref a := rx
  obtain rfl := rv.zero
  obtain ⟨z, hd, xs, rel, o, es, ep, ho, ex, hdat, hl, _, nd⟩ := dt_of I.hok e
  refine call_meetsIn PySem.F.slot_dict_values (s := s) ⟨o, ho, ex.1⟩ PySem.F.entry_dict_values (PySem.F.args_dict_values_1 _) (meets_dict_values_raw a hd) ⟨⟨es, ep, o, ho, ex, hdat⟩, ?_⟩
  exact ⟨.ref s.heap.objs.size, _, I.laid (t' := s.toks) (fun b o q => Heap.get?_push_of_some _ q) (Nat.le_refl _) (viewO_ok (Heap.get?_push_size _ rfl)), rfl, q _ (I.hok.fresh (Nat.le_refl _))⟩
/-- list(view), the values whole numbers -/
def rListVT : List V → Hp → VK → Prop := fun xs H Q => ∃ (p a : Addr) (kvs : List (List Key × V)), xs = [.ref p] ∧ H p = some (viewO "dict_values" p a) ∧ H a = some (.dT kvs) ∧ ∀ r, H r = none → Q (.ref r) (upd H r (.lst (kvs.map Prod.snd)))
theorem call_listVT (calm : X.calm = true) : CallR X (.type "list") rListVT := by
  intro pins s σ H xs us Q I r h
  obtain ⟨p, a, kvs, rfl, hp, ha, q⟩ := h
  obtain rfl := Vals.ref1 r
  have hv : s.heap.get? p = some (DSub.viewOb "dict_values" a) := (show ObjOk X.prog X.w H s.heap p (viewO "dict_values" p a) from I.hok p _ hp).1
  obtain ⟨z, hd, ks, rel, o, es, ep, ho, ex, hdat, hl, _, nd⟩ := dt_of I.hok ha
  have l1 : es.size = ks.length := size_of_entries hl
  have l2 : kvs.length = ks.length := Paired.length rel
  refine PySem.W.kdl_call PySem.KdlSrc.rawValues (I.ok.hd calm) ⟨⟨_, hv, rfl, rfl⟩, o, ho, ex, hdat⟩ (by omega) fun h' tk acc c' keep e it => ?_
  have same : acc.toList = ks.map fun x => x.2.2 := by
    have n1 : acc.toList.length = ks.length := by rw [Array.length_toList, it.1]; exact l1
    refine List.ext_getElem? fun j => ?_
    rw [List.getElem?_map]
    rcases Nat.lt_or_ge j ks.length with lt | ge
    · have lt2 : j < acc.toList.length := by omega
      obtain ⟨hi, eu⟩ := it.2 j acc.toList[j] (by rw [← Array.getElem?_toList]; exact List.getElem?_eq_getElem lt2)
      have at_ : es.toList[j]? = some es[j] := by rw [Array.getElem?_toList, Array.getElem?_eq_getElem hi]
      rw [hl, List.getElem?_map, List.getElem?_eq_getElem lt] at at_
      rw [List.getElem?_eq_getElem lt2, List.getElem?_eq_getElem lt, eu, ← Option.some.inj at_]
      rfl
    · rw [List.getElem?_eq_none ge, List.getElem?_eq_none (by omega)]
      rfl
  have both : ∀ {l : List (List Key × V)} {m : List (List Key × Addr × Value)}, KT H l m → Vals (l.map Prod.snd) (m.map fun x => x.2.2) := by
    intro l m r
    induction r with
    | nil => exact .nil
    | cons g t ih => exact .cons g.2.2 ih
  have vals : Vals (kvs.map Prod.snd) acc.toList := same ▸ both rel
  exact ⟨.ref s.heap.objs.size, _, I.laid (t' := tk) (o := .lst (kvs.map Prod.snd)) keep (Nat.le_refl _) ⟨by rw [List.length_map]; exact z, acc.toList, c', vals, by rw [Array.toArray_toList]; exact e⟩, rfl, q _ (I.hok.fresh (Nat.le_refl _))⟩
/-- repr(d) -/
def rReprT : List V → Hp → VK → Prop := fun xs H Q => ∃ (a : Addr) (m : KI), xs = [.ref a] ∧ H a = some (.dT (kvI m)) ∧ (dDict m).showable = true ∧ (dDict m).depth ≤ 80 ∧ (dDict m).shown.length ≤ sizeLine ∧ Q (.str (dDict m).shown) H
theorem call_reprT (hg : X.A.guards = some []) (hu : X.A.units + 100 < cLine) : CallR X (.builtin "repr") rReprT := by
  intro pins s σ H xs us Q I r h
  obtain ⟨a, m, rfl, ha, hs, hd, sz, q⟩ := h
  obtain rfl := Vals.ref1 r
  obtain ⟨as, rd, nm⟩ := reads_dT I ha
  exact repr_of_reads' rd hs (fun _ => nm) hg (by omega) (fun _ _ e => e) (fun h' u tk k => ⟨.str (dDict m).shown, H, I.kept k, ⟨u, rfl⟩, q⟩) sz
/-- dicts in a row -/
def DTs (H : Hp) : List V → List KI → Prop := Paired fun v m => ∃ a, v = .ref a ∧ H a = some (.dT (kvI m))
theorem reads_dTs (I : Inv X pins σ H s) : ∀ {vs : List V} {ms : List KI} {us : List Value}, DTs H vs ms → Vals vs us → ∃ as, ReadsAll s.heap us (ms.map dDict) as ∧ sysModules ∉ as
  | _, _, _, .nil, .nil => ⟨[], .nil, by simp⟩
  | _, _, _, .cons g t, .cons r rs => by
    obtain ⟨a, rfl, ha⟩ := g
    obtain rfl := r
    obtain ⟨a1, r1, n1⟩ := reads_dT I ha
    obtain ⟨a2, r2, n2⟩ := reads_dTs I t rs
    exact ⟨a1 ++ a2, .cons r1 r2, fun z => (List.mem_append.mp z).elim n1 n2⟩
def dRow (ms : List KI) : PyData := .list (ms.map dDict)
/-- repr([d, ..]) -/
def rReprLT : List V → Hp → VK → Prop := fun xs H Q => ∃ (p : Addr) (vs : List V) (ms : List KI), xs = [.ref p] ∧ H p = some (.lst vs) ∧ DTs H vs ms ∧ ms ≠ [] ∧ (dRow ms).showable = true ∧ (dRow ms).depth ≤ 80 ∧ (dRow ms).shown.length ≤ sizeLine ∧ Q (.str (dRow ms).shown) H
theorem call_reprLT (hg : X.A.guards = some []) (hu : X.A.units + 100 < cLine) : CallR X (.builtin "repr") rReprLT := by
  intro pins s σ H xs us Q I r h
  obtain ⟨p, vs, ms, rfl, hp, hv, ne, hs, hd, sz, q⟩ := h
  obtain rfl := Vals.ref1 r
  obtain ⟨_, us, n, rv, ho⟩ := (show ObjOk X.prog X.w H s.heap p (.lst vs) from I.hok p _ hp)
  obtain ⟨as, rd, nm⟩ := reads_dTs I hv rv
  have sz' : (listText (PyData.shownAll (ms.map dDict))).length ≤ sizeLine := by simpa only [dRow, PyData.shown] using sz
  obtain ⟨bs, below, shows⟩ := ReprAllK.of_readsAll (prog := X.prog) (w := X.w) rd (by simpa [dRow, PyData.showable] using hs) (fun _ => nm) fun t ht => Nat.le_trans (listText_mem_le ht) sz'
  have apart : p ∉ bs := not_mem_of_deeper (.list ho rfl rfl (by simpa using rd)) (by simp only [PyData.depth]; omega) below
  have typed : s.TypeIs (.ref p) "list" := ⟨_, ho, rfl⟩
  have deep : (dRow ms).depth = PyData.depthAll (ms.map dDict) + 1 := by simp only [dRow, PyData.depth]
  refine call_repr_slot (by omega) typed F.slot_list_repr.toG ?_
  cases us with
  | nil =>
    cases rv
    cases hv
    exact absurd rfl ne
  | cons u us =>
    refine call_list_reprK ho rfl rfl apart (by simpa using shows.length_eq) (fun i y e => shows.item i y (by simpa using e)) (show X.A.in1.guards = some [] from hg) (fun b _ => Clear.nil b) (by show X.A.units + 1 + (PyData.depthAll (ms.map dDict) + 1) < cLine; omega) (fun _ _ e => e) (fun h' u' tk k => ⟨listText (PyData.shownAll (ms.map dDict)), u', rfl, .str (dRow ms).shown, H, I.kept k, ⟨u', by simp only [dRow, PyData.shown]⟩, q⟩) sz'
end
end DL
set_option Elab.async false
set_option linter.all false
set_option maxRecDepth 100000
set_option maxHeartbeats 4000000
/-! what a law with lambdas wants besides -/
namespace DL
open PySem PySem.Spec PyProof.Rows L2 Evl LamX
theorem hu100 {A : Around} {k : Nat} (hr : Room k A) : A.units + 100 < cLine := by
  have := hr.un
  omega
/-- all parameters by their names, in any order that the text takes -/
theorem Fun.kwr {K : PySem.W.Frag} {x qual : Str} {st : Stmt} {f : Addr} {fd : FuncData} {ps : List Str} (F : Fun K x qual st f fd)
    (h : ∀ (kV doc pm : Value) (an : Option Addr) (cdv ct : Value) (ws : List Value), ws.length = ps.length → bindArgs (PySem.W.fnOf x qual (defArgs st) (defBody st) (defScope st) .none kV doc pm an cdv ct) ⟨[], ps.reverse.zip ws⟩ = pure (ps.zip ws.reverse)) : KwR K fd ps := by
  obtain ⟨⟨oc, od, kV, doc, pm, an, cdv, ct, osl, rfl, lk, hcd⟩, _⟩ := F
  exact fun s ws _ hl => BindsTo.of_eq (h kV doc pm an cdv ct ws hl)
/-- an own error's class as a value -/
theorem pe_cls {X : Cx} {x : Str} {C : Addr} {p : Pos} (T : ErC X.K X.mg x C) (hg : Gl X x) (hd : (x == ("__debug__" : Str)) = false := by decide) : PE X (.Name x p) (tC (.ref C)) := pe_glob hg T.gC rfl hd
/-- the def that catches what a lambda raises -/
structure CauF (K : PySem.W.Frag) (mg : Str → Option Value) (nm : Str) (CS : Addr) : Prop where
  ex : ∃ (g : Addr) (oc : Value) (od an : Option Addr) (osl : Array (Option Value)) (sg : Scope) (pg : Arguments) (dV kV doc pm cdv ct : Value) (k0 : Nat) (p1 p2 p3 p4 p5 p6 p7 p8 p9 p10 p11 p12 p13 p14 : Pos), mg nm = some (.ref g) ∧ PySem.W.keepIn K (.ref g) = true ∧
    K.lookup g = some ⟨oc, od, .func (PySem.W.fnOf nm nm pg (caughtB k0 p1 p2 p3 p4 p5 p6 p7 p8 p9 p10 p11 p12 p13 p14) sg dV kV doc pm an cdv ct), osl⟩ ∧ PySem.W.codeIn K cdv nm = true ∧
    L2.Binds K (PySem.W.fnOf nm nm pg (caughtB k0 p1 p2 p3 p4 p5 p6 p7 p8 p9 p10 p11 p12 p13 p14) sg dV kV doc pm an cdv ct) ["work"] [] ∧ FnScope ["work", "caught", "error"] ["work"] sg ∧
    sg.names.lookup ("CallError" : Str) = some .globalImplicit ∧ mg "CallError" = some (.ref CS) ∧ sg.names.lookup ("error" : Str) = some .local ∧ sg.names.lookup ("caught" : Str) = some .local ∧ sg.names.lookup ("work" : Str) = some .local
theorem pe_caughtD {X : Cx} {x y : Str} {CS : Addr} {k j : Nat} {p py pos : Pos} (F : CauF X.K X.mg x CS) (hg : Gl X x) (hr : Room (k + 2) X.A) (hN : X.N[j]? = some y) (hv : Vis X.env.scope y)
    (hdb : (x == ("__debug__" : Str)) = false := by decide) (hd : (y == ("__debug__" : Str)) = false := by decide) (hcd : (y == ("__classdict__" : Str)) = false := by decide) :
    PE X (.Call (.Name x p) [.Name y py] [] pos) (fun σ H Q => ∃ f c' params body scope tb, σ[j]? = some (some (.ref f)) ∧ H f = some (LamO f c' (X.env.qual ++ "<lambda>") params body scope (cloFrom X.env.cells scope.names [])) ∧ H c' = some (CodeO c' (X.env.qual ++ "<lambda>")) ∧ LamD X k params body scope tb ∧ TTc X.K CS tb σ H Q) := by
  obtain ⟨g, oc, od, an, osl, sg, pg, dV, kV, doc, pm, cdv, ct, k0, p1, p2, p3, p4, p5, p6, p7, p8, p9, p10, p11, p12, p13, p14, h1, h2, h3, h4, h5, h6, h7, h8, h9, h10, h11⟩ := F.ex
  exact pe_caught hg h1 h2 h3 h4 h5 h6 h7 h8 h9 h10 h11 hr hN hv hdb hd hcd
end DL
set_option Elab.async false
set_option linter.all false
set_option maxRecDepth 100000
set_option maxHeartbeats 4000000
/-! comprehensions with a test, over data -/
namespace DL
open PySem PySem.Spec PyProof.Rows L2 Evl
section
variable {K : PySem.W.Frag} {σ : L2.St} {H : Hp} {ta tb te : TE} {ds : List PyData}
theorem eqV_int (a b : Int) : eqV (.int a) (.int b) = decide (a = b) := by
  unfold eqV
  rfl
theorem inV_ints (n : Int) : ∀ l : List Int, inV (.int n) (l.map V.int) = decide (n ∈ l)
  | [] => by simp [inV]
  | x :: l => by
    have ih := inV_ints n l
    unfold inV at ih ⊢
    rw [List.map_cons, List.any_cons, ih, eqV_int]
    by_cases h : x = n
    · subst h; simp
    · simp [h, Ne.symm h]
theorem flat_ints : ∀ l : List Int, (l.map V.int).all flatV = true
  | [] => rfl
  | _ :: l => by
    rw [List.map_cons, List.all_cons, flat_ints l]
    rfl
/-- n in t -/
theorem ev_inT {n : Int} {l : List Int} (ha : Ev ta σ H (.int n)) (hb : EvD K tb σ H (tI l)) : Ev (tOp (rIn K false) ta tb) σ H (.bl (decide (n ∈ l))) := fun H1 e Q q =>
  ha H1 e _ fun H2 e2 => hb H2 (e.trans e2) _ fun v H3 e3 hv => by
    obtain ⟨p, rfl, hp⟩ := dp_tI hv
    refine ⟨p, _, rfl, .inr hp, rfl, flat_ints l, ?_⟩
    rw [inV_ints]
    exact q H3 (e2.trans e3)
/-- zip of a tuple of ints and a list that stands -/
theorem ei_zipTL {S : List Addr} {q : Addr} {vs : List V} {a : List Int} (hS : Ls H S) (ha : EvD K ta σ H (tI a)) (hb : Ev tb σ H (.ref q)) (hq : H q = some (.lst vs)) (hn : q ∉ S) (hd : DpAll K H vs ds) (hi : immAll ds = true) :
    EvI K (iZipM K true false (tCons ta (tCons tb tNil))) σ H S (List.zipWith (fun x y => PyData.tuple [.int x, y]) a ds) := fun H1 e R r =>
  ha H1 e _ fun x H2 e2 hx => hb H2 (e.trans e2) _ fun H3 e3 => by
    obtain ⟨p, rfl, h1⟩ := dp_tI hx
    have h1 := ex_t e3 h1
    have up := (e.trans e2).trans e3
    have h2 := up _ _ hq
    have d2 := dpa_ex up _ _ hd
    refine ⟨p, q, _, _, rfl, sqa_t h1, sqa_l (sq_of h2), r _ H3 (e2.trans e3) ?_⟩
    rw [List.length_zipWith, ← dpa_len hd]
    have w := walk_zipM (K := K) (a := p) (b := q) (t := true) (u := false) (xs := a.map V.int) (ys := vs) (n := min a.length vs.length) (by simp)
    refine w.mono (fun Ha x => ⟨sqT_tx (x.tx (hS.ex up)) h1, sq_of (x q _ h2 hn)⟩) fun i Ha v Hb hlt hg y => ?_
    obtain ⟨T, v1, v2, rfl, hT, rfl, g1, g2⟩ := y
    simp only [List.getElem?_map] at g1
    obtain ⟨n1, m1, rfl⟩ := Option.map_eq_some_iff.mp g1
    have tx : Tx H3 (upd Ha T (.tup [.int n1, v2])) := (hg.tx (hS.ex up)).trans (Tx.of_ex (Ex.new hT))
    obtain ⟨d, q1, q2⟩ := dpa_getV (dpa_tx tx _ _ hi d2) g2
    refine ⟨Ex.new hT, .tuple [.int n1, d], ?_, .tup (st_of upd_same) (.cons (.int _) (.cons q2 .nil))⟩
    rw [List.getElem?_zipWith, m1, q1]
/-- [f for .. if b], over data -/
theorem en_lcB {wi : TI} {g : TG} {tt : TT} {vs : List Nat} (h : EvI K wi σ H [] ds) (hl : ds.length ≤ 50000) (b : Nat → Bool) (f : Nat → Int)
    (hs : ∀ H2 i d x Hb (Q : L2.St → Hp → Prop), Ex H H2 → ds[i]? = some d → Ex H2 Hb → Dp K Hb x d → (∀ σ2 H3, Ex Hb H3 → wipe σ2 vs = wipe σ vs → EvT tt σ2 H3 (b i) → Ev te σ2 H3 (.int (f i)) → Q σ2 H3) → g x (wipe σ vs) Hb Q) :
    EvN K (tLc wi g tt te vs) σ H (dI (((List.range ds.length).filter b).map f)) := fun H1 e Q q => h H1 e _ fun J H2 e2 w => fun Dl hD => by
  refine lc_it w (fun n Ha => Ex H2 Ha ∧ Ha Dl = some (.lst ((((List.range n).filter b).map f).map V.int))) ⟨Ex.new hD, upd_same⟩ (fun n Ha _ p => Xp.of_ex p.1) (fun i x Ha Hb hlt p y => ?_) fun Ha p => ?_
  · obtain ⟨p1, p2⟩ := p
    obtain ⟨ey, d, hd1, hd2⟩ := y
    have few : ((((List.range i).filter b).map f).map V.int).length < sizeLine := by
      rw [List.length_map, List.length_map]
      have := List.length_filter_le b (List.range i)
      rw [List.length_range] at this
      exact sz_lt (by omega)
    refine hs H2 i d x Hb _ (e.trans e2) hd1 (p1.trans ey) hd2 fun σ2 H3 e3 hw ht hv => ⟨hw, ?_⟩
    refine ht H3 (Ex.refl _) _ fun H4 e4 => ?_
    have at4 : H4 Dl = some (.lst _) := e4 _ _ (e3 _ _ (ey _ _ p2))
    cases hb : b i with
    | false =>
      rw [if_neg (by simp)]
      refine ⟨((p1.trans ey).trans e3).trans e4, ?_⟩
      rw [List.range_succ, List.filter_append, List.filter_cons, hb]
      simpa using at4
    | true =>
      rw [if_pos rfl]
      refine hv H4 e4 _ fun H5 e5 => ⟨_, e5 _ _ at4, few, Ex.mut ((((p1.trans ey).trans e3).trans e4).trans e5) hD, ?_⟩
      rw [upd_same, List.range_succ, List.filter_append, List.filter_cons, hb]
      simp
  · obtain ⟨p1, p2⟩ := p
    exact q Dl _ Ha (fresh_back e2 hD) (e2.trans p1) p2 (ints_dpa _)
end
end DL
set_option Elab.async false
set_option linter.all false
set_option maxRecDepth 100000
set_option maxHeartbeats 4000000
/-! a law's def with its own code object told -/
namespace DL
open PySem PySem.Spec PyProof.Rows L2 Evl
structure FunC (K : PySem.W.Frag) (x qual : Str) (st : Stmt) (f : Addr) (fd : FuncData) (c : Addr) : Prop where
  ex : ∃ (oc : Value) (od : Option Addr) (kV doc pm : Value) (an : Option Addr) (ct : Value) (osl : Array (Option Value)),
    fd = PySem.W.fnOf x qual (defArgs st) (defBody st) (defScope st) .none kV doc pm an (.ref c) ct ∧ K.lookup f = some ⟨oc, od, .func fd, osl⟩ ∧ PySem.W.codeIn K (.ref c) qual = true
theorem okC {P : Program} {w : World} {K : PySem.W.Frag} {mg : Str → Option Value} {base : Heap} {CX : CXT} {x qual : Str} {st : Stmt} {f c : Addr} {fd : FuncData} {N ps : List Str} {k : Nat} {sp : Sp} (F : FunC K x qual st f fd c) (S : FnScope N ps (defScope st)) (len : ∀ vs H Q E, sp vs H Q E → vs.length = ps.length)
    (body : ∀ (A : Around) (outer : List Env) (s : Shared) (H : Hp) (vs : List V) (Q : VK) (E : XK), A.guards = some [] → Room k (A.deeper (envOfC qual (defScope st) s.heap.objs.size f (.ref c))) → sp vs H Q E →
      ∃ t, PSs (cxOf CX P w K mg base N qual (defScope st) f (.ref c) A outer s H E) (defBody st) t ∧ t { nx := fun _ H' => Q .non H', rt := Q } (L2.start N vs) H) : FnG P w K mg base CX (k + 1) f fd ps sp := by
  obtain ⟨oc, od, kV, doc, pm, an, ct, osl, rfl, lk, hcd⟩ := F.ex
  exact ⟨len, fun A outer s H args us vs Q E hg hr e0 hb r h => LamX.run_ofS lk hcd S hr e0 hb r (len _ _ _ _ h) fun hr2 => body A outer s H vs Q E hg hr2 h⟩
theorem op_inK {X : Cx} (K : PySem.W.Frag) (h : X.K = K) : OpR X (compareOp .In) (rIn K false) := h ▸ op_in_seq
end DL
set_option Elab.async false
set_option linter.all false
set_option maxRecDepth 100000
set_option maxHeartbeats 4000000
/-! texts of small data; repr, over data -/
namespace DL
open PySem PySem.Spec PyProof.Rows L2 Evl
/-- data of whole numbers that are not too great -/
structure Fine (d : PyData) (W k : Nat) : Prop where
  short : d.leavesShort 13 = true
  shows : d.showable = true
  deep : d.depth ≤ k
  few : d.weight ≤ W
def Sml (i : Int) : Prop := i.natAbs < 10 ^ 12
theorem sml_of {i : Int} (h1 : -1000000 ≤ i) (h2 : i ≤ 1000000) : Sml i := by
  show i.natAbs < 1000000000000
  omega
theorem w_int {i : Int} (h : Sml i) : (PyData.int i).weight ≤ 40 ∧ (PyData.int i).showable = true := by
  have h : i.natAbs < 10 ^ 12 := h
  have e : (10 : Nat) ^ 12 < 2 ^ 40 := by decide
  by_cases z : i = 0
  · subst z
    exact ⟨by simp [PyData.weight], by simp [PyData.showable]⟩
  · have nz : i.natAbs ≠ 0 := by omega
    have lt : i.natAbs.log2 < 40 := (Nat.log2_lt nz).mpr (by omega)
    refine ⟨?_, ?_⟩
    · simp only [PyData.weight]
      split <;> omega
    · simp only [PyData.showable, decide_eq_true_eq]
      omega
theorem fine_int {i : Int} (h : Sml i) : Fine (.int i) 40 1 where
  short := by
    simp only [PyData.leavesShort, decide_eq_true_eq]
    exact PyData.shown_int_le h
  shows := (w_int h).2
  deep := by simp [PyData.depth]
  few := (w_int h).1
theorem fine_all : ∀ {ns : List Int}, (∀ n ∈ ns, Sml n) → PyData.leavesShortAll 13 (dI ns) = true ∧ PyData.showableAll (dI ns) = true ∧ PyData.weightAll (dI ns) ≤ 41 * ns.length
  | [], _ => ⟨rfl, rfl, by simp [PyData.weightAll]⟩
  | n :: ns, h => by
    obtain ⟨h1, h2, h3⟩ := fine_all (ns := ns) fun m hm => h m (List.mem_cons_of_mem _ hm)
    have hn := fine_int (h n List.mem_cons_self)
    refine ⟨?_, ?_, ?_⟩
    · simp only [dI, List.map_cons, PyData.leavesShortAll, Bool.and_eq_true]
      exact ⟨hn.short, h1⟩
    · simp only [dI, List.map_cons, PyData.showableAll, Bool.and_eq_true]
      exact ⟨hn.shows, h2⟩
    · simp only [dI, List.map_cons, PyData.weightAll, List.length_cons]
      have := hn.few
      simp only [dI] at h3
      omega
theorem fine_tI {ns : List Int} (h : ∀ n ∈ ns, Sml n) : Fine (tI ns) (41 * ns.length) 2 := by
  obtain ⟨h1, h2, h3⟩ := fine_all h
  refine ⟨by simpa only [PyData.leavesShort] using h1, by simpa only [PyData.showable] using h2, ?_, by simpa only [PyData.weight] using h3⟩
  have := depth_ints ns
  simp only [PyData.depth]
  omega
theorem fine_two {d : PyData} {W k : Nat} (h : Fine d W k) : Fine (.list [d, d]) (2 * W + 2) (k + 1) where
  short := by simp [PyData.leavesShort, PyData.leavesShortAll, h.short]
  shows := by simp [PyData.showable, PyData.showableAll, h.shows]
  deep := by
    have := h.deep
    simp only [PyData.depth, PyData.depthAll]
    omega
  few := by
    have := h.few
    simp only [PyData.weight, PyData.weightAll]
    omega
theorem fine_kv : ∀ {m : KI}, (∀ p ∈ m, (∀ n ∈ p.1, Sml n) ∧ Sml p.2 ∧ p.1.length ≤ 3) →
    PyData.leavesShortKv 13 (m.map fun p => (tI p.1, PyData.int p.2)) = true ∧ PyData.showableKv (m.map fun p => (tI p.1, PyData.int p.2)) = true ∧ PyData.weightKv (m.map fun p => (tI p.1, PyData.int p.2)) ≤ 165 * m.length ∧ PyData.depthKv (m.map fun p => (tI p.1, PyData.int p.2)) ≤ 2
  | [], _ => ⟨rfl, rfl, by simp [PyData.weightKv], by simp [PyData.depthKv]⟩
  | p :: m, h => by
    obtain ⟨h1, h2, h3, h4⟩ := fine_kv (m := m) fun q hq => h q (List.mem_cons_of_mem _ hq)
    obtain ⟨a1, a2, a3⟩ := h p List.mem_cons_self
    have f1 := fine_tI a1
    have f2 := fine_int a2
    refine ⟨?_, ?_, ?_, ?_⟩
    · simp only [List.map_cons, PyData.leavesShortKv, Bool.and_eq_true]
      exact ⟨⟨f1.short, f2.short⟩, h1⟩
    · simp only [List.map_cons, PyData.showableKv, Bool.and_eq_true]
      exact ⟨⟨f1.shows, f2.shows⟩, h2⟩
    · simp only [List.map_cons, PyData.weightKv, List.length_cons]
      have := f1.few
      have := f2.few
      omega
    · simp only [List.map_cons, PyData.depthKv]
      have := f1.deep
      have := f2.deep
      omega
theorem fine_dict {m : KI} (h : ∀ p ∈ m, (∀ n ∈ p.1, Sml n) ∧ Sml p.2 ∧ p.1.length ≤ 3) : Fine (dDict m) (165 * m.length) 3 := by
  obtain ⟨h1, h2, h3, h4⟩ := fine_kv h
  refine ⟨by simpa only [dDict, PyData.leavesShort] using h1, by simpa only [dDict, PyData.showable] using h2, ?_, by simpa only [dDict, PyData.weight] using h3⟩
  simp only [dDict, PyData.depth]
  omega
theorem Fine.fits {d : PyData} {W k : Nat} (h : Fine d W k) (hw : W ≤ 2 ^ 20) : d.shown.length ≤ sizeLine := PyData.shown_fits (B := 13) (by decide) (by decide) h.short (Nat.le_trans h.few hw)
section
variable {K : PySem.W.Frag} {σ : L2.St} {H H' : Hp} {ta tb te : TE} {ds : List PyData} {d : PyData}
theorem ev_repr {W k : Nat} (h : EvD K te σ H (.list ds)) (f : Fine (.list ds) W k) (hw : W ≤ 2 ^ 20) (hk : k ≤ 80) : Ev (tCB (rRepr K) (tCons te tNil)) σ H (.str (PyData.list ds).shown) := fun H1 e Q q =>
  h H1 e _ fun v H2 e2 hv => by
    cases hv with
    | lst hs ha => exact ⟨_, _, rfl, .lst hs ha, f.shows, by have := f.deep; omega, f.fits hw, q H2 e2⟩
theorem ev_neS {x : Str} (ha : Ev ta σ H (.str x)) (hb : Ev tb σ H (.str x)) : Ev (tOp rNe ta tb) σ H (.bl false) := fun H1 e Q q =>
  ha H1 e _ fun H2 e2 => hb H2 (e.trans e2) _ fun H3 e3 => ⟨rfl, by
    have : decide (V.str x = V.str x) = true := decide_eq_true rfl
    rw [this]
    exact q H3 (e2.trans e3)⟩
/-- a def called by names -/
theorem ed_callKR {R : List PyData → PyData → Prop} {B : List PyData → Addr → Prop} {E : XK} {tt : TA} {d1 d2 : PyData} (h : EvDA K tt σ H [d2, d1]) (hr : R [d1, d2] d) : EvD K (tCallR 2 (spR K 2 R B) E tt) σ H d := fun H1 e Q q =>
  h H1 e _ fun vs H2 e2 hv => by
    obtain ⟨v2, v1, rfl, a, b⟩ := dpa_two hv
    exact ⟨rfl, [d1, d2], .cons b (.cons a .nil), rfl, .inl ⟨d, hr, fun v H3 e3 hd => q v H3 (e2.trans e3) hd⟩⟩
/-- a dict with tuple keys, a row of such -/
def EvK (te : TE) (σ : L2.St) (H : Hp) (m : KI) : Prop := ∀ H1, Ex H H1 → ∀ Q : VK, (∀ a H2, Ex H1 H2 → H2 a = some (.dT (kvI m)) → Q (.ref a) H2) → te σ H1 Q
def EvKA (ta : TA) (σ : L2.St) (H : Hp) (ms : List KI) : Prop := ∀ H1, Ex H H1 → ∀ Q : List V → Hp → Prop, (∀ vs H2, Ex H1 H2 → DTs H2 vs ms → Q vs H2) → ta σ H1 Q
theorem ek_var {k : Nat} {a : Addr} {m : KI} (h : σ[k]? = some (some (.ref a))) (ha : H a = some (.dT (kvI m))) : EvK (tVar k) σ H m := fun H1 e Q q => ⟨.ref a, h, q a H1 (Ex.refl _) (e _ _ ha)⟩
theorem eka_nil : EvKA tNil σ H [] := fun H1 _ _ q => q [] H1 (Ex.refl H1) .nil
theorem dts_ex {vs : List V} {ms : List KI} (e : Ex H H') (h : DTs H vs ms) : DTs H' vs ms := Paired.mapP h fun _ _ z => by
  obtain ⟨a, e1, e2⟩ := z
  exact ⟨a, e1, e _ _ e2⟩
theorem eka_cons {tr : TA} {m : KI} {ms : List KI} (h : EvK te σ H m) (hr : EvKA tr σ H ms) : EvKA (tCons te tr) σ H (m :: ms) := fun H1 e Q q =>
  h H1 e _ fun a H2 e2 ha => hr H2 (e.trans e2) _ fun vs H3 e3 hv => q _ H3 (e2.trans e3) (.cons ⟨a, rfl, e3 _ _ ha⟩ hv)
theorem ev_reprT {m : KI} {W k : Nat} (h : EvK te σ H m) (f : Fine (dDict m) W k) (hw : W ≤ 2 ^ 20) (hk : k ≤ 80) : Ev (tCB rReprT (tCons te tNil)) σ H (.str (dDict m).shown) := fun H1 e Q q =>
  h H1 e _ fun a H2 e2 ha => ⟨a, m, rfl, ha, f.shows, by have := f.deep; omega, f.fits hw, q H2 e2⟩
theorem ev_reprLT {tt : TA} {m : KI} {W k : Nat} (h : EvKA tt σ H [m, m]) (f : Fine (dDict m) W k) (hw : W ≤ 2 ^ 18) (hk : k ≤ 70) : Ev (tCB rReprLT (tCons (tLst tt) tNil)) σ H (.str (dRow [m, m]).shown) := fun H1 e Q q =>
  h H1 e _ fun vs H2 e2 hv => by
    have f2 : Fine (dRow [m, m]) (2 * W + 2) (k + 1) := fine_two f
    have e20 : (2 : Nat) ^ 20 = 4 * 2 ^ 18 := by decide
    have w2 : 2 * W + 2 ≤ 2 ^ 20 := by
      have e18 : (2 : Nat) ^ 18 = 262144 := by decide
      omega
    have deep2 := f2.deep
    have two : vs.length = 2 := Paired.length hv
    refine ⟨sz_of (by omega), fun p hp => ⟨p, vs, [m, m], rfl, upd_same, dts_ex (Ex.new hp) hv, by simp, f2.shows, by omega, f2.fits w2, q _ (e2.trans (Ex.new hp))⟩⟩
/-- list(d.values()) -/
theorem eq_vals {k : Nat} {a : Addr} {m : KI} (h : σ[k]? = some (some (.ref a))) (ha : H a = some (.dT (kvI m))) : EvQ K (tCB rListVT (tCons (tBM0 K "dict" rValsT (tVar k)) tNil)) σ H (dI (m.map Prod.snd)) := fun H1 e Q q => by
  have ha1 := e _ _ ha
  refine ⟨.ref a, h, .inr (.inr (.inl ⟨rfl, .inr ⟨_, ha1⟩⟩)), a, _, rfl, rfl, ha1, fun p hp => ?_⟩
  have npa : a ≠ p := fun z => by rw [z, hp] at ha1; cases ha1
  refine ⟨p, a, _, rfl, upd_same, by rw [upd_ne npa]; exact ha1, fun r hr => ?_⟩
  have e1 : Ex H1 (upd (upd H1 p (viewO "dict_values" p a)) r (.lst ((kvI m).map Prod.snd))) := (Ex.new hp).trans (Ex.new hr)
  refine q r _ _ e1 upd_same ?_
  have : (kvI m).map Prod.snd = (m.map Prod.snd).map V.int := by simp [kvI]
  rw [this]
  exact ints_dpa _
end
end DL
set_option Elab.async false
set_option linter.all false
set_option maxRecDepth 100000
set_option maxHeartbeats 4000000
/-! a loop over lambdas each of which is called, its error caught and asked for its class -/
namespace DL
open PySem PySem.Spec PyProof.Rows L2 Evl LamX
section
variable {K : PySem.W.Frag} {H H' : Hp}
theorem extn_of_ex (e : Ex H H') : ExtN H H' := fun b o h _ => e b o h
theorem rd_extn (e : ExtN H H') {a : Addr} {u : HO} (n : ∀ ps, u ≠ .tbl ps) (h : Rd H a u) : Rd H' a u := by
  rcases h with h | ⟨o, h⟩
  · exact .inl (e _ _ h n)
  · exact .inr ⟨o, e _ _ h fun _ z => nomatch z⟩
theorem sqL_extn (e : ExtN H H') {a : Addr} {xs : List V} (h : SqL K H a xs) : SqL K H' a xs := h.elim (fun r => .inl (rd_extn e (fun _ z => nomatch z) r)) .inr
theorem sqT_extn (e : ExtN H H') {a : Addr} {xs : List V} (h : SqT K H a xs) : SqT K H' a xs := h.elim (fun r => .inl (rd_extn e (fun _ z => nomatch z) r)) .inr
mutual
theorem dp_extn (e : ExtN H H') : ∀ (d : PyData) (v : V), Dp K H v d → Dp K H' v d
  | .none, _, h => by cases h; exact .non
  | .bool b, _, h => by cases h; exact .bl b
  | .int i, _, h => by cases h; exact .int i
  | .str x, _, h => by cases h; exact .str x
  | .list ds, _, h => by
    cases h with
    | lst s r => exact .lst (sqL_extn e s) (dpa_extn e ds _ r)
  | .tuple ds, _, h => by
    cases h with
    | tup s r => exact .tup (sqT_extn e s) (dpa_extn e ds _ r)
  | .dict _, _, h => by cases h
theorem dpa_extn (e : ExtN H H') : ∀ (ds : List PyData) (vs : List V), DpAll K H vs ds → DpAll K H' vs ds
  | [], _, h => by cases h; exact .nil
  | d :: ds, _, h => by
    cases h with
    | cons a r => exact .cons (dp_extn e d _ a) (dpa_extn e ds _ r)
end
theorem extn_new {a : Addr} {o : HO} (e : ExtN H H') (h : H a = none) : ExtN H (upd H' a o) := fun b u hb n => by
  rw [upd_ne (fun z => by rw [z, h] at hb; cases hb)]
  exact e b u hb n
theorem tabs_ex {T : List (Addr × Str)} (t : Tabs T H) (e : Ex H H') : Tabs T H' := fun p hp => TabS.ext (t p hp) e
abbrev noArgs : Arguments := { posonlyargs := [], args := [], vararg := none, kwonlyargs := [], kw_defaults := [], kwarg := none, defaults := [] }
/-- the lambda's value, and what calling it through the def comes to -/
abbrev tCaught (X : Cx) (CS : Addr) (k j : Nat) : TE := fun σ H Q => ∃ f c' params body scope tb, σ[j]? = some (some (.ref f)) ∧ H f = some (LamO f c' (X.env.qual ++ "<lambda>") params body scope (cloFrom X.env.cells scope.names [])) ∧
  H c' = some (CodeO c' (X.env.qual ++ "<lambda>")) ∧ LamD X k params body scope tb ∧ TTc X.K CS tb σ H Q
/-- raises an error of the class C, whatever comes -/
def Raises (C : Addr) (tb : XK → TE) (σ : L2.St) (H : Hp) : Prop := ∀ H1, ExtN H H1 → ∀ (E : XK) (Q : VK), (∀ H2, Ex H1 H2 → E (.ref C) none H2) → tb E σ H1 Q
theorem Raises.ex {C : Addr} {tb : XK → TE} {σ : L2.St} (h : Raises C tb σ H) (e : ExtN H H') : Raises C tb σ H' := fun H1 a => h H1 (e.trans a)
/-- one such lambda at hand -/
structure LamAt (X : Cx) (C : Addr) (k : Nat) (f : Addr) (σ : L2.St) (H : Hp) : Prop where
  ex : ∃ c' params body scope tb, H f = some (LamO f c' (X.env.qual ++ "<lambda>") params body scope (cloFrom X.env.cells scope.names [])) ∧ H c' = some (CodeO c' (X.env.qual ++ "<lambda>")) ∧ LamD X k params body scope tb ∧ Raises C tb σ H
theorem LamAt.extn {X : Cx} {C : Addr} {k : Nat} {f : Addr} {σ : L2.St} (h : LamAt X C k f σ H) (e : ExtN H H') : LamAt X C k f σ H' := by
  obtain ⟨c', params, body, scope, tb, h1, h2, h3, h4⟩ := h
  exact ⟨c', params, body, scope, tb, e _ _ h1 (fun _ z => nomatch z), e _ _ h2 (fun _ z => nomatch z), h3, h4.ex e⟩
/-- isinstance(caught(work), C), the error an own one of C -/
theorem ev_raised {X : Cx} {CS C f : Addr} {k j : Nat} {σ σ0 : L2.St} (hj : σ[j]? = some (some (.ref f))) (h : LamAt X C k f σ H) (kC : PySem.W.exmOne X.K (.ref C) (.ref CS) = some true) (iC : PySem.W.kitOne X.K (.ref C) (.ref C) = some true) (eC : ExcC X.K C) :
    Ev (tCB (rIsK X.K) (tCons (tCaught X CS k j) (tCons (tC (.ref C)) tNil))) σ H (.bl true) := fun H1 e Q q => by
  obtain ⟨c', params, body, scope, tb, h1, h2, h3, h4⟩ := h.extn (extn_of_ex e)
  refine ⟨f, c', params, body, scope, tb, hj, h1, h2, h3, fun E Q2 r1 r2 => ?_⟩
  refine h4 H1 (ExtN.refl _) E Q2 fun H2 e2 => r1 (.ref C) H2 kC fun a ha => ?_
  exact ⟨a, C, .ref C, .ref C, true, rfl, upd_same, eC, fun u z => z, iC, q _ (e2.trans (Ex.new ha))⟩
theorem d_lams {X : Cx} {T : List (Addr × Str)} {CS C : Addr} {k : Nat} {σ : L2.St} {D : Ends} {b1 b2 b3 : Expr} {s1 s2 s3 : Scope} {g1 g2 g3 : XK → TE} (tabs : Tabs T H)
    (kC : PySem.W.exmOne X.K (.ref C) (.ref CS) = some true) (iC : PySem.W.kitOne X.K (.ref C) (.ref C) = some true) (eC : ExcC X.K C) (len : 15 < σ.length)
    (L1 : LamD X k noArgs b1 s1 g1) (L2 : LamD X k noArgs b2 s2 g2) (L3 : LamD X k noArgs b3 s3 g3)
    (r1 : ∀ y, Raises C g1 (σ.set 15 y) H) (r2 : ∀ y, Raises C g2 (σ.set 15 y) H) (r3 : ∀ y, Raises C g3 (σ.set 15 y) H) (q : ∀ y H', ExtN H H' → Tabs T H' → D.nx (σ.set 15 y) H') :
    tFor (iList X.K (tLst (tCons (tLamV T (X.env.qual ++ "<lambda>") noArgs b1 s1 (cloFrom X.env.cells s1.names [])) (tCons (tLamV T (X.env.qual ++ "<lambda>") noArgs b2 s2 (cloFrom X.env.cells s2.names [])) (tCons (tLamV T (X.env.qual ++ "<lambda>") noArgs b3 s3 (cloFrom X.env.cells s3.names [])) tNil))))) (gName 15)
      (tIfS (tNot (tB (tCB (rIsK X.K) (tCons (tCaught X CS k 15) (tCons (tC (.ref C)) tNil))))) (tRet (tC (.bl false))) tNext) D σ H := by
  refine ⟨tabs, fun f1 c1 H1 x1 t1 n1 m1 k1 => ?_⟩
  have t1' := tabs_ex t1 (Ex.new (o := LamO f1 c1 (X.env.qual ++ "<lambda>") noArgs b1 s1 (cloFrom X.env.cells s1.names [])) m1)
  have x1' := extn_new (o := LamO f1 c1 (X.env.qual ++ "<lambda>") noArgs b1 s1 (cloFrom X.env.cells s1.names [])) x1 n1
  have a1 : upd H1 f1 (LamO f1 c1 (X.env.qual ++ "<lambda>") noArgs b1 s1 (cloFrom X.env.cells s1.names [])) f1 = some _ := upd_same
  have k1' := Ex.new (o := LamO f1 c1 (X.env.qual ++ "<lambda>") noArgs b1 s1 (cloFrom X.env.cells s1.names [])) m1 _ _ k1
  generalize upd H1 f1 (LamO f1 c1 (X.env.qual ++ "<lambda>") noArgs b1 s1 (cloFrom X.env.cells s1.names [])) = G1 at *
  refine ⟨t1', fun f2 c2 H2 x2 t2 n2 m2 k2 => ?_⟩
  have t2' := tabs_ex t2 (Ex.new (o := LamO f2 c2 (X.env.qual ++ "<lambda>") noArgs b2 s2 (cloFrom X.env.cells s2.names [])) m2)
  have x2' := extn_new (o := LamO f2 c2 (X.env.qual ++ "<lambda>") noArgs b2 s2 (cloFrom X.env.cells s2.names [])) x2 n2
  have a2 : upd H2 f2 (LamO f2 c2 (X.env.qual ++ "<lambda>") noArgs b2 s2 (cloFrom X.env.cells s2.names [])) f2 = some _ := upd_same
  have k2' := Ex.new (o := LamO f2 c2 (X.env.qual ++ "<lambda>") noArgs b2 s2 (cloFrom X.env.cells s2.names [])) m2 _ _ k2
  generalize upd H2 f2 (LamO f2 c2 (X.env.qual ++ "<lambda>") noArgs b2 s2 (cloFrom X.env.cells s2.names [])) = G2 at *
  refine ⟨t2', fun f3 c3 H3 x3 t3 n3 m3 k3 => ?_⟩
  have t3' := tabs_ex t3 (Ex.new (o := LamO f3 c3 (X.env.qual ++ "<lambda>") noArgs b3 s3 (cloFrom X.env.cells s3.names [])) m3)
  have x3' := extn_new (o := LamO f3 c3 (X.env.qual ++ "<lambda>") noArgs b3 s3 (cloFrom X.env.cells s3.names [])) x3 n3
  have a3 : upd H3 f3 (LamO f3 c3 (X.env.qual ++ "<lambda>") noArgs b3 s3 (cloFrom X.env.cells s3.names [])) f3 = some _ := upd_same
  have k3' := Ex.new (o := LamO f3 c3 (X.env.qual ++ "<lambda>") noArgs b3 s3 (cloFrom X.env.cells s3.names [])) m3 _ _ k3
  generalize upd H3 f3 (LamO f3 c3 (X.env.qual ++ "<lambda>") noArgs b3 s3 (cloFrom X.env.cells s3.names [])) = G3 at *
  have up23 := x2'.trans x3'
  refine ⟨by show 3 ≤ sizeLine; decide, fun p hp => ?_⟩
  refine ⟨p, rfl, ⟨_, sq_of upd_same⟩, ?_⟩
  have ex4 := Ex.new (o := .lst [.ref f1, .ref f2, .ref f3]) hp
  have at4 : upd G3 p (.lst [.ref f1, .ref f2, .ref f3]) p = some (.lst [.ref f1, .ref f2, .ref f3]) := upd_same
  have t4 := tabs_ex t3' ex4
  have x4 := (x1'.trans up23).trans (extn_of_ex ex4)
  have l1 : ∀ y, LamAt X C k f1 (σ.set 15 y) (upd G3 p (.lst [.ref f1, .ref f2, .ref f3])) := fun y => LamAt.extn (H := G1) ⟨c1, noArgs, b1, s1, g1, a1, k1', L1, (r1 y).ex x1'⟩ (up23.trans (extn_of_ex ex4))
  have l2 : ∀ y, LamAt X C k f2 (σ.set 15 y) (upd G3 p (.lst [.ref f1, .ref f2, .ref f3])) := fun y => LamAt.extn (H := G2) ⟨c2, noArgs, b2, s2, g2, a2, k2', L2, (r2 y).ex (x1'.trans x2')⟩ (x3'.trans (extn_of_ex ex4))
  have l3 : ∀ y, LamAt X C k f3 (σ.set 15 y) (upd G3 p (.lst [.ref f1, .ref f2, .ref f3])) := fun y => LamAt.extn (H := G3) ⟨c3, noArgs, b3, s3, g3, a3, k3', L3, (r3 y).ex (x1'.trans up23)⟩ (extn_of_ex ex4)
  generalize upd G3 p (.lst [.ref f1, .ref f2, .ref f3]) = G4 at *
  obtain ⟨y0, hy0⟩ : ∃ y0, σ[15]? = some y0 := ⟨σ[15], List.getElem?_eq_getElem len⟩
  have same : σ = σ.set 15 y0 := by
    refine List.ext_getElem? fun i => ?_
    by_cases e : i = 15
    · subst e
      rw [hy0, List.getElem?_set_self len]
    · rw [List.getElem?_set_ne (Ne.symm e)]
  refine for_it (walk_list (K := X.K) (xs := [.ref f1, .ref f2, .ref f3])) (fun _ σ' Ha => Ex G4 Ha ∧ ∃ y, σ' = σ.set 15 y) ⟨Ex.refl _, y0, same⟩ (fun i σ' Ha _ z => sq_of (z.1 _ _ at4)) ?_ ?_
  · rintro i x σ' Ha Hb hi ⟨xa, y, rfl⟩ ⟨rfl, hx⟩
    show tIfS _ _ _ _ ((σ.set 15 y).set 15 (some x)) Hb
    rw [List.set_set]
    have here : (σ.set 15 (some x))[15]? = some (some x) := List.getElem?_set_self len
    have lam : ∃ f, x = .ref f ∧ LamAt X C k f (σ.set 15 (some x)) Hb := by
      have hi' : i = 0 ∨ i = 1 ∨ i = 2 := by simp at hi; omega
      rcases hi' with rfl | rfl | rfl
      · cases hx
        exact ⟨f1, rfl, (l1 _).extn (extn_of_ex xa)⟩
      · cases hx
        exact ⟨f2, rfl, (l2 _).extn (extn_of_ex xa)⟩
      · cases hx
        exact ⟨f3, rfl, (l3 _).extn (extn_of_ex xa)⟩
    obtain ⟨f, rfl, la⟩ := lam
    refine s_when (b := false) (et_not (a := true) (et_B (ev_raised (σ0 := σ) here la kC iC eC))) (fun z => nomatch z) fun _ Hc ec => ?_
    exact ⟨xa.trans ec, _, rfl⟩
  · rintro σ' Ha ⟨xa, y, rfl⟩
    exact q y Ha (x4.trans (extn_of_ex xa)) (tabs_ex t4 xa)
end
end DL
set_option Elab.async false
set_option linter.all false
set_option maxRecDepth 100000
set_option maxHeartbeats 4000000
/-! the head of a law with lambdas, its table found by the law's name -/
namespace DL
open PySem PySem.Spec PyProof.Rows L2 Evl LamX
theorem walkT2 {l : PySem.W.OpenLaw} {n k : Nat} {q : Program} {loose : List Str} {XP : (Str → Option Value) → Heap → Prop} {YP : World → Heap → Prop} {d : DefRec} {K : Params → PySem.W.Frag} {CX : World → CXT} {x : Str}
    (most : l.most = some n) (line : n ≤ sizeLine) (plain : d.params.defaults = []) (room : Room k callerA) (keep : ∀ (w : World) (h : Heap), YP w h → (K w.params).In h) (here : (recsOf q).find? (fun e => e.name == d.name) = some d)
    (F : ∀ (w : World) (mg : Str → Option Value) (fa : Addr) (h : Heap), (K w.params).In h → h.Ns mainGlobals mg → mg d.name = some (.ref fa) →
      ∃ (fd : FuncData) (c T : Addr) (sp : Sp), PySem.W.tabIn (K w.params) d.name = some (c, T) ∧ (K w.params).lookup T = none ∧ (∀ (s : Shared) (u : Value), BindsTo s fd ⟨[u], []⟩ [(x, u)]) ∧
        (∀ (H : Hp) (a : Addr) (ns : List Int), ns.length ≤ n → H T = some (.tbl #[]) → SqL (K w.params) H a (ns.map V.int) → sp [.ref a] H (fun v _ => v = .bl true) fun _ _ _ => False) ∧
        ∀ base : Heap, (K w.params).In base → base.Ns mainGlobals mg → TabB base mg c T → FnG l.prog w (K w.params) mg base (CX w) k fa fd [x] sp)
    (out : ∀ (w : World) (H : Hp) (s : Shared) (e : Value) (s' : Shared), CX w [] H s (fun _ _ _ => False) e s' → False) : PySem.W.WalkO q loose XP YP l.row.toRowW d [] (fun f vs => PySem.call f vs) := by
  apply Att.attach_call most plain
  intro w s0 s1 mg mb fa o pm cd doc a vs ns G Y ho hd hcd hmg hobj hints hlen hg
  obtain ⟨fd, c, T, sp, t1, t2, bnd, ask, hF⟩ := F w mg fa _ (keep w _ Y) G.T.g hmg
  obtain ⟨hC, hT⟩ := PySem.W.tab_of G.T (keep w _ Y) here t1
  exact callT (keep w _ Y) G.T.g G.T.b G.T.builtins G.T.nolimit hg hT t2 hC G.T.bmain hobj hints (Nat.le_trans hlen line) room hF bnd (fun H h1 h2 => ask H a ns hlen h1 h2) fun H e s' => out w H s1 e s'
end DL
set_option Elab.async false
set_option linter.all false
set_option maxRecDepth 100000
set_option maxHeartbeats 4000000
/-! an own exception class with its own __init__, called by keywords: from type.__call__ on -/
namespace PySem
namespace KwE
open Builtin Builtin.ObjectAttr HandSPX
section
variable {M : Model} {A : Around} {E : Value → Shared → Prop} {h : Heap} {g : Array GenState} {d : Drawn} {t : Nat} {os : OsState}
variable {nm q : Str} {C N : Addr} {bs bm bmB : List Value} {hdct : Bool} {sn : List Str} {sub : List Value} {ab : Bool} {col : Option Bool} {dd : Option Addr} {k0 k1 k2 k3 k5 : Option Value} {B newId initId : String} {kw : List (Str × Value)}
theorem check_new (F : ExcBaseFacts B newId initId bmB) (hT : ∀ X : String, bm.contains (.type X) = bmB.contains (.type X)) {rest : List Value} {Q : Unit → Shared → Prop}
    (hC : h.get? C = some (excClassObj nm q C N bs bm hdct sn sub ab col dd k0 k1 k2 k3 k5 newId)) (hq : Q () ⟨h, g, d, t, os⟩) : wpAny M A (checkBuiltinCall newId ⟨.ref C :: rest, kw⟩) Q E ⟨h, g, d, t, os⟩ := by
  have hcont : (Value.ref C :: bm).contains (.type B) = true := by rw [List.contains_cons, hT, F.hasB, Bool.or_true]
  have hstar := F.noStar
  simp only [checkBuiltinCall, F.newKind, F.newSplit, F.newRow]
  repeat (first | refine wpAny_loadPart_at hC ?_ | (refine wpAny_isSubtype_exc hC ?_; rw [hcont]) | refine wpAny_staticBase_exc hC ?_ | refine wpAny_madeBy_exc hC ?_ | simp only [bne_self_eq_false, Bool.false_eq_true, if_false] | wp_step)
  exact hq
end
section
variable {prog : Program} {w : World} {A : Around} {E : Value → Shared → Prop} {R : Result → Shared → Prop} {h : Heap} {g : Array GenState} {d : Drawn} {t : Nat} {os : OsState}
variable {nm q : Str} {C N : Addr} {bs bm bmB : List Value} {hdct : Bool} {sn : List Str} {sub : List Value} {ab : Bool} {col : Option Bool} {dd : Option Addr} {k0 k1 k2 k3 k5 : Option Value} {B newId initId : String} {kw : List (Str × Value)}
theorem new_kw (F : ExcBaseFacts B newId initId bmB) (hT : ∀ X : String, bm.contains (.type X) = bmB.contains (.type X)) {rest : List Value}
    (hC : h.get? C = some (excClassObj nm q C N bs bm hdct sn sub ab col dd k0 k1 k2 k3 k5 newId))
    (hq : R (.ok (.ret (.ref (h.objs.size + 1)))) ⟨(h.push { cls := .type "tuple", data := .seq rest.toArray }).push
      { cls := .ref C, data := .fields #[.ref h.objs.size, .none, .none, .none, .bool false, .none] }, g, d, t, os⟩) (hrest : rest.length ≤ sizeLine) :
    codeAny (model prog w) A (.builtin newId ⟨.ref C :: rest, kw⟩) R ⟨h, g, d, t, os⟩ := by
  have hends := F.ends
  have hcB : (Value.ref C :: bm).contains (.type B) = true := by rw [List.contains_cons, hT, F.hasB, Bool.or_true]
  have hcA : (Value.ref C :: bm).contains (.type "AttributeError") = false := by rw [List.contains_cons, hT, F.noAttr]; rfl
  have hcN : (Value.ref C :: bm).contains (.type "NameError") = false := by rw [List.contains_cons, hT, F.noName]; rfl
  refine codeAny_builtinAt F.entry ?_
  unfold Builtin.«BaseException.__new__»
  refine wpAt_bind ?_
  show wpAt _ _ _ (stack >>= _) _ _ _
  refine wpAt_bind (wpAt_stack fun p below => wpAt_of_wpAny ?_)
  wp_walk
  refine wpAt_of_wpAny ?_
  rw [F.owner]
  repeat (first | with_reducible refine wpAny_madeHere_exc F.canon hC ?_ | with_reducible refine wpAny_loadPart_at hC ?_ | (with_reducible refine wpAny_isSubtype_exc hC ?_; first | rw [hcB] | rw [hcA] | rw [hcN]) | wp_step)
  show R _ _
  rw [Heap.size_push]
  exact hq

theorem type_call_kw (F : ExcBaseFacts B newId initId bmB) (hT : ∀ X : String, bm.contains (.type X) = bmB.contains (.type X)) {rest : List Value} {fI : Addr} {Q : Fin → Shared → Prop}
    (hC : h.get? C = some (excClassObj nm q C N bs bm hdct sn sub ab col dd k0 k1 k2 k3 k5 newId))
    (hi : W.Looks (model prog w) h (typeLookup (.ref C) "__init__") (some (.ref fI))) (hb : ∀ self, W.Looks (model prog w) h (bindSpecial (.ref fI) self) (.ref fI, [self])) (hrest : rest.length ≤ sizeLine)
    (hq : codeAny (model prog w) A (.call (.ref fI) ⟨.ref (h.objs.size + 1) :: rest, kw⟩)
      (fun r s' => match r with | .ok (.ret v) => v = .none ∧ Q (.done (.ret (.ref (h.objs.size + 1)))) s' | .ok _ => False | .error e => E e s')
      ⟨(h.push (W.kdv_tup rest)).push (excO C h.objs.size), g, d, t, os⟩) :
    wpAny (model prog w) A (Builtin.«type.__call__» ⟨.ref C :: rest, kw⟩) Q E ⟨h, g, d, t, os⟩ := by
  repeat (first | with_reducible refine wpAny_loadPart_at hC ?_ | with_reducible refine wpAny_madeBy_exc hC ?_ | wp_step)
  refine codeAny_call_builtin_code (Code.quiet_builtin _ F.quiet) (check_new F hT hC ?_)
  refine new_kw F hT hC ?_ hrest
  show wpAny _ _ _ _ _ _
  have k : ∀ b o, h.get? b = some o → ((h.push (W.kdv_tup rest)).push (excO C h.objs.size)).get? b = some o := fun b o e => Heap.get?_push_of_some _ (Heap.get?_push_of_some _ e)
  have hC₁ := k _ _ hC
  have hget : ((h.push (W.kdv_tup rest)).push (excO C h.objs.size)).get? (h.objs.size + 1) = some (excO C h.objs.size) := by heap_get
  have hcC : (Value.ref C :: bm).contains (.ref C) = true := by simp
  have i1 := hi.keeps k
  have b1 := (hb (.ref (h.objs.size + 1))).keeps k
  unfold isInstance
  repeat (first | with_reducible refine wpAny_loadPart_at hget ?_ | (with_reducible refine wpAny_isSubtype_exc hC₁ ?_; rw [hcC]) | wp_step)
  show wpAny _ _ (typeLookup (.ref C) _) _ _ _
  refine i1.at ?_
  refine wpAny_holding (wpAny_bind (b1.at ?_))
  refine wpAny_bind (wpAny_call (codeAny_mono hq fun r s' z => ?_))
  rcases r with e | (v | _ | _ | _) <;> first | exact z | exact z.elim | skip
  obtain ⟨rfl, z⟩ := z
  first
    | exact wpAny_pure (wpAny_pure z)
    | (wp_walk; exact z)
theorem check_type_call {M : Model} {rest : List Value} {Q : Unit → Shared → Prop} (hC : h.get? C = some (excClassObj nm q C N bs bm hdct sn sub ab col dd k0 k1 k2 k3 k5 newId))
    (hq : Q () ⟨h, g, d, t, os⟩) : wpAny M A (checkBuiltinCall "type.__call__" ⟨.ref C :: rest, kw⟩) Q E ⟨h, g, d, t, os⟩ := by
  have f3 := tc_sub
  have hT : (⟨h, g, d, t, os⟩ : Shared).TypeIs (.ref C) "type" := ⟨_, hC, rfl⟩
  simp only [checkBuiltinCall, tc_kind, tc_split]
  repeat (any_goals (first | assumption | with_reducible refine wpAny_loadPart_at hC ?_ | with_reducible refine wpAny_onRaise ?_ | with_reducible refine wpAny_map ?_ | wp_step))
theorem call_kw (F : ExcBaseFacts B newId initId bmB) (hT : ∀ X : String, bm.contains (.type X) = bmB.contains (.type X)) {rest : List Value} {fI : Addr}
    (hC : h.get? C = some (excClassObj nm q C N bs bm hdct sn sub ab col dd k0 k1 k2 k3 k5 newId))
    (hi : W.Looks (model prog w) h (typeLookup (.ref C) "__init__") (some (.ref fI))) (hb : ∀ self, W.Looks (model prog w) h (bindSpecial (.ref fI) self) (.ref fI, [self])) (hrest : rest.length ≤ sizeLine)
    (hq : codeAny (model prog w) (A.under (.builtin "type.__call__" ⟨.ref C :: rest, kw⟩)) (.call (.ref fI) ⟨.ref (h.objs.size + 1) :: rest, kw⟩) (W.InitBack (h.objs.size + 1) R)
      ⟨(h.push (W.kdv_tup rest)).push (excO C h.objs.size), g, d, t, os⟩) :
    codeAny (model prog w) A (.call (.ref C) ⟨rest, kw⟩) R ⟨h, g, d, t, os⟩ := by
  have f1 := tc_lookup
  have f2 := tc_bind (.ref C)
  have hTy : (⟨h, g, d, t, os⟩ : Shared).TypeIs (.ref C) "type" := ⟨_, hC, rfl⟩
  refine codeAny_of_tree ?_
  show wpAny _ _ (callAny (.ref C) _) _ _ _
  repeat (any_goals (first | assumption | with_reducible refine wpAny_loadPart_at hC ?_ | wp_step))
  refine ⟨rfl, ?_⟩
  refine codeAny_call_builtin_at (Code.quiet_builtin _ (by decide +kernel)) entry_typeCall (check_type_call hC (type_call_kw F hT hC hi hb hrest ?_))
  refine codeAny_mono hq fun r s' z => ?_
  rcases r with e | (v | _ | _ | _) <;> exact z
end
end KwE
end PySem
set_option Elab.async false
set_option linter.all false
set_option maxRecDepth 100000
set_option maxHeartbeats 4000000
/-! own exceptions as values: isinstance, fields, making them, their base's __init__ -/
namespace DL
open PySem PySem.Spec PyProof.Rows L2 Evl
variable {X : Cx} {pins : List (Addr × Obj)} {σ : L2.St} {H : Hp} {s : Shared}
/-- at a: an exception of the class at C, without or with own fields -/
def XcAt (H : Hp) (a C : Addr) : Prop := H a = some (ExO (.ref C) a) ∨ ∃ (d : Addr) (fs : List (Str × V)), H a = some (exo a C (some d)) ∧ H d = some (exd d fs)
theorem xc_inst {a C : Addr} (I : Inv X pins σ H s) (h : XcAt H a C) : ∃ oe od, PySem.W.InstAt s.heap a oe C od := by
  rcases h with h | ⟨d, fs, h, hd⟩
  · obtain ⟨⟨oe, vs, ho, hz, hd, h1, _⟩, _, _⟩ := I.hok a _ h
    refine ⟨oe, none, ?_⟩
    cases oe with
    | mk oc od oda osl =>
      obtain ⟨z1, z2⟩ := hz
      have z1 : oc = .ref C := z1
      have z2 : od = none := z2
      have hd : oda = .fields vs := hd
      subst z1 z2 hd
      exact ⟨ho, rfl, rfl, trivial⟩
  · obtain ⟨t1, ho⟩ := exo_at I.hok h
    obtain ⟨mA, hns, rel⟩ := exd_at I.hok hd
    obtain ⟨od, ho2, hl⟩ := lookIn_ns hns
    exact ⟨_, some od, ho, rfl, rfl, ho2⟩
theorem xc_ex {H' : Hp} {a C : Addr} (e : Ex H H') (h : XcAt H a C) : XcAt H' a C := by
  rcases h with h | ⟨d, fs, h, hd⟩
  · exact .inl (e _ _ h)
  · exact .inr ⟨d, fs, e _ _ h, e _ _ hd⟩
/-- isinstance(e, C) -/
def rIsX (K : PySem.W.Frag) : List V → Hp → VK → Prop := fun xs H Q => ∃ (a D : Addr) (c : V) (cv : Value) (b : Bool), xs = [.ref a, c] ∧ XcAt H a D ∧ ExcC K D ∧ (∀ u, RelV c u → u = cv) ∧ PySem.W.kitOne K (.ref D) cv = some b ∧ Q (.bl b) H
theorem call_isX : CallR X (.builtin "isinstance") (rIsX X.K) := by
  intro pins s σ H xs us Q I r h
  obtain ⟨a, D, c, cv, b, rfl, ha, C, hcv, e, q⟩ := h
  obtain ⟨u1, u2, rfl, ra, rc⟩ := vals2 r
  cases ra
  have ec := hcv _ rc
  subst ec
  obtain ⟨oe, od, J⟩ := xc_inst I ha
  have hcl : (PySem.W.clsIn X.K D).isSome = true := by
    obtain ⟨cd, hc, _⟩ := PySem.W.any_some C.hd
    rw [hc]
    rfl
  exact PySem.W.kia_one (PySem.W.kitx_exc hcl C.hg C.hk C.hs C.ha C.hn C.ht C.hm) I.kIn J e (fun z => nomatch z) fun tk => ⟨.bl b, H, I.kept (t' := tk) fun _ _ z => z, rfl, q⟩
/-- e.f -/
def tXget (K : PySem.W.Frag) (f : Str) (te : TE) : TE := fun σ H Q => te σ H fun x H1 => ∃ (a C d : Addr) (fs : List (Str × V)) (v : V), x = .ref a ∧ H1 a = some (exo a C (some d)) ∧ H1 d = some (exd d fs) ∧ XfC K C ∧ PySem.W.findIn K (.ref C) f = some none ∧ fs.lookup f = some v ∧ Q v H1
theorem pe_xget {e : Expr} {te : TE} {pos : Pos} {n : Str} (he : PE X e te) (hb : attributeBase e n X.env (eval e X.env) = eval e X.env := by rfl) : PE X (.Attribute e n pos) (tXget X.K n te) := by
  refine ⟨fun pins s σ H Q I h => ?_⟩
  refine attr_of hb (thn (he.run pins s σ H _ I h) fun u s1 hh => ?_)
  obtain ⟨x, H1, I1, rx, a, C, d, fs, v, rfl, ha, hd, T, hno, l, q⟩ := hh
  obtain rfl : u = Value.ref a := rx
  obtain ⟨t1, ho⟩ := exo_at I1.hok ha
  obtain ⟨mA, hns, rel⟩ := exd_at I1.hok hd
  obtain ⟨od, ho2, hl⟩ := lookIn_ns hns
  obtain ⟨u, hu, ru⟩ := RelO.some_of (v := v) (o := mA n) (by rw [← l]; exact rel n)
  have J : PySem.W.InstAt s1.heap a _ C (some od) := ⟨ho, rfl, rfl, ho2⟩
  exact PySem.HandSPX.exc_get I1.kIn J T.ga T.gg T.exC (PySem.W.findObj_own T.hdC hno rfl (by rw [hl, hu])) (handed_of ru) ⟨v, H1, I1.tok _, ru, q⟩
/-- B.__init__(self, ..), B an own class that has ValueError's -/
structure BiC (K : PySem.W.Frag) (mg : Str → Option Value) (nm : Str) (B : Addr) : Prop where
  gC : mg nm = some (.ref B)
  rd : PySem.W.readsIn K B (.type "type") = true
  ga : PySem.W.specialIn K (.ref B) "__getattribute__" = some (some (.builtin "type.__getattribute__"))
  fi : PySem.W.findCls K (.ref B) (.type "type") "__init__" = some (.val (.builtin "ValueError.__init__"))
theorem pe_binit {x : Str} {B : Addr} {ta : TA} {e : Expr} {es : List Expr} {p1 p2 pos : Pos} {pl : Sem Bool} (T : BiC X.K X.mg x B) (hg : Gl X x) (ha : PA X (e :: es) ta)
    (hc : eval (.Call (.Attribute (.Name x p1) "__init__" p2) (e :: es) [] pos) X.env = (do
      let ov ← eval (.Name x p1) X.env
      standAt p2.atName
      let (f, first) ← holding [ov] (getMethod ov "__init__" pl)
      callWith pos f first (backTo pos (starEach (e :: es) X.env)) (backToKw pos (keywordEach [] X.env))) := by rfl)
    (he : starEach (e :: es) X.env = (false, eval e X.env) :: starEach es X.env := by rfl) (hpl : (backTo pos (starEach es X.env)).any (·.1) = false := by rfl) (hdb : (x == ("__debug__" : Str)) = false := by decide) :
    PE X (.Call (.Attribute (.Name x p1) "__init__" p2) (e :: es) [] pos) (tVeI X.K ta) := by
  refine ⟨fun pins s σ H Q I h => ?_⟩
  refine PySem.W.methodCall_KW (ld_glob I hg T.gC ?_ hdb) hc
  refine PySem.W.method_cls I.kIn T.ga (PySem.W.cls_value I.kIn T.rd T.fi (by decide +kernel) ?_)
  show wpAny _ _ (callWith pos (Value.builtin "ValueError.__init__") [] (backTo pos (starEach (e :: es) X.env)) []) _ _ _
  refine PyProof.Rows.callWith_method1 (thn (ha.run pos pins _ σ H _ (I.tok _) h) fun us s1 ⟨vs, H1, I1, r1, a, C, ws, ev, hl, T, ea, q⟩ => ?_) he hpl
  subst ev
  cases r1 with
  | @cons _ u0 _ ur ra rw' =>
    obtain rfl : u0 = Value.ref a := ra
    have hlen : ur.length ≤ sizeLine := by
      rw [← Paired.length rw', sizeLine_eq]
      omega
    exact oinit_ok T I1 ea hlen fun s' J => ⟨.non, H1, J, rfl, q⟩
/-- C(e, ..) as a value, C's own __init__ keeping sp -/
def tOexV (C : Addr) (sp : Sp) (ta : TA) : TE := fun σ H Q => ta σ H fun vs H1 => vs.length ≤ 1000 ∧ ∀ a, H1 a = none → sp (.ref a :: vs) (upd H1 a (exo a C none)) (fun v H2 => v = .non ∧ Q (.ref a) H2) (fun _ _ _ => False)
section
variable {CX : CXT} {x : Str} {C fI : Addr} {k : Nat} {fd : FuncData} {ps : List Str} {sp : Sp} {ta : TA} {e : Expr} {es : List Expr} {p pos : Pos}
theorem pe_oex (gu : X.A.guards = some []) (T : OexC X.K C) (iC : PySem.W.findIn X.K (.ref C) "__init__" = some (some (.ref fI))) (tI : PySem.W.typeIn X.K (.ref fI) = some (.type "function"))
    (F1 : FnG X.prog X.w X.K X.mg X.base CX k fI fd ps sp) (hr : Room (k + 1) X.A) (hb : L2.Binds X.K fd ps []) (hx : Passes CX X (fun _ _ _ => False)) (hg : Gl X x) (hm : X.mg x = some (.ref C)) (ha : PA X (e :: es) ta)
    (hdb : (x == ("__debug__" : Str)) = false := by decide) (he : starEach (e :: es) X.env = (false, eval e X.env) :: starEach es X.env := by rfl) (hpl : (backTo pos (starEach es X.env)).any (·.1) = false := by rfl) :
    PE X (.Call (.Name x p) (e :: es) [] pos) (tOexV C sp ta) := by
  refine ⟨fun pins s σ H Q I h => ?_⟩
  obtain ⟨nm, q, N, bs, bm, sn, sub, ab, col, dd, k0, k1, k2, k3, k5, hC, hbm⟩ := T.cls
  refine wpAny_Call_Name_kw (ld_glob I hg hm ?_ hdb)
  refine PySem.W.callWith_K (h₀ := X.base) I.ok.mod.kin T.kC (thn (ha.run pos pins s σ H _ I h) fun us s1 ⟨vs, H1, I1, r1, hz, q1⟩ => ⟨I1.kIn, ?_⟩) he hpl
  show wpAny _ _ (call (.ref C) us) _ _ _
  obtain ⟨hp, g, dr, tk, os⟩ := s1
  have hsz : hp.objs.size ≤ hp.objs.size + 1 := Nat.le_succ _
  have hn : H1 (hp.objs.size + 1) = none := I1.hok.fresh hsz
  have hq := q1 (hp.objs.size + 1) hn
  have kk : ∀ b o, hp.get? b = some o → ((hp.push (PySem.W.kdv_tup us)).push (PySem.HandSPX.excO C hp.objs.size)).get? b = some o := fun b o e => Heap.get?_push_of_some _ (Heap.get?_push_of_some _ e)
  have hget : ((hp.push (PySem.W.kdv_tup us)).push (PySem.HandSPX.excO C hp.objs.size)).get? (hp.objs.size + 1) = some (PySem.HandSPX.excO C hp.objs.size) := by heap_get
  have I2 : Inv X pins σ (upd H1 (hp.objs.size + 1) (exo (hp.objs.size + 1) C none)) ⟨(hp.push (PySem.W.kdv_tup us)).push (PySem.HandSPX.excO C hp.objs.size), g, dr, tk, os⟩ :=
    I1.laid (t' := tk) (a := hp.objs.size + 1) (o := exo (hp.objs.size + 1) C none) (h' := (hp.push (PySem.W.kdv_tup us)).push (PySem.HandSPX.excO C hp.objs.size)) kk hsz (exo_ok hget)
  have r2 : Vals (V.ref (hp.objs.size + 1) :: vs) (Value.ref (hp.objs.size + 1) :: us) := .cons rfl r1
  have hl : (Value.ref (hp.objs.size + 1) :: us ++ []).length = ps.length := by
    have e := r2.length
    rw [F1.len _ _ _ _ hq] at e
    rw [List.append_nil]
    exact e.symm
  have hus : us.length ≤ sizeLine := by
    rw [← Paired.length r1, sizeLine_eq]
    omega
  refine wpAny_call (PySem.HandSPX.call_own F.excBase_ValueError (fun Y => PySem.HandSPX.refsVE_contains Y bm hbm) (I1.kIn _ _ hC) (PySem.W.looks_findIn I1.kIn iC) (fun self => PySem.W.bind_fn I1.kIn self tI) hus
    (codeAny_mono (F1.run _ X.stack _ _ ⟨Value.ref (hp.objs.size + 1) :: us, []⟩ (Value.ref (hp.objs.size + 1) :: us) _ _ (fun _ _ _ => False) gu (hr.make C us []) (I2.env0.make C us []) (by have b := hb _ (Value.ref (hp.objs.size + 1) :: us) I2.kIn hl; rwa [List.append_nil] at b) r2 hq) fun r s' hq' => ?_))
  cases r with
  | error er => exact hx pins σ _ _ er s' I2 hq'
  | ok fl =>
    cases fl with
    | ret u =>
      obtain ⟨v, H2, os2, bare2, un2, hok2, rv, ev, q2⟩ := hq'
      subst ev
      exact ⟨rv, .ref (hp.objs.size + 1), H2, I2.call' (ch := []) os2 un2 hok2 bare2 (fun b z => absurd z (by simp)), rfl, q2⟩
    | next => exact False.elim hq'
    | brk => exact False.elim hq'
    | cont => exact False.elim hq'
/-- C(f = e) -/
theorem pe_oexK {f : Str} {kws : List Keyword} {tk : TA} (gu : X.A.guards = some []) (T : OexC X.K C) (iC : PySem.W.findIn X.K (.ref C) "__init__" = some (some (.ref fI))) (tI : PySem.W.typeIn X.K (.ref fI) = some (.type "function"))
    (F1 : FnG X.prog X.w X.K X.mg X.base CX k fI fd ["self", f] sp) (hr : Room (k + 1) X.A) (hb : ∀ (s : Shared) (u v : Value), X.K.In s.heap → BindsTo s fd ⟨[u], [(f, v)]⟩ [("self", u), (f, v)]) (hx : Passes CX X (fun _ _ _ => False)) (hg : Gl X x) (hm : X.mg x = some (.ref C)) (hkw : PK X kws tk)
    (hall : (backToKw pos (keywordEach kws X.env)).all (·.1.isSome) = true := by rfl) (hks : (backToKw pos (keywordEach kws X.env)).filterMap (·.1) = [f] := by rfl) (hdb : (x == ("__debug__" : Str)) = false := by decide)
    (hpl : ((backTo pos (starEach [] X.env)).any (·.1) || (backToKw pos (keywordEach kws X.env)).any (·.1.isNone)) = false := by rfl) :
    PE X (.Call (.Name x p) [] kws pos) (tOexV C sp tk) := by
  refine ⟨fun pins s σ H Q I h => ?_⟩
  obtain ⟨nm, q, N, bs, bm, sn, sub, ab, col, dd, k0, k1, k2, k3, k5, hC, hbm⟩ := T.cls
  refine wpAny_Call_Name_kw (ld_glob I hg hm ?_ hdb)
  refine PySem.W.callWith_KW0 (h₀ := X.base) I.ok.mod.kin T.kC hall (thn (hkw.run pos pins s σ H _ I h) fun ws s1 z => ?_) hpl
  obtain ⟨vs, H1, I1, r1, hz, q1⟩ := z
  refine ⟨I1.kIn, ?_⟩
  rw [hks]
  show wpAny _ _ (call (.ref C) [] ([f].zip ws)) _ _ _
  obtain ⟨hp, g, dr, tk, os⟩ := s1
  have hsz : hp.objs.size ≤ hp.objs.size + 1 := Nat.le_succ _
  have hn : H1 (hp.objs.size + 1) = none := I1.hok.fresh hsz
  have hq := q1 (hp.objs.size + 1) hn
  have hl := F1.len _ _ _ _ hq
  obtain ⟨v1, w1, rfl, rfl, rv1⟩ : ∃ v1 w1, vs = [v1] ∧ ws = [w1] ∧ RelV v1 w1 := by
    cases r1 with
    | nil => exact absurd hl (by simp)
    | cons a b =>
      cases b with
      | nil => exact ⟨_, _, rfl, rfl, a⟩
      | cons _ _ => exact absurd hl (by simp)
  have kk : ∀ b o, hp.get? b = some o → ((hp.push (PySem.W.kdv_tup [])).push (PySem.HandSPX.excO C hp.objs.size)).get? b = some o := fun b o e => Heap.get?_push_of_some _ (Heap.get?_push_of_some _ e)
  have hget : ((hp.push (PySem.W.kdv_tup [])).push (PySem.HandSPX.excO C hp.objs.size)).get? (hp.objs.size + 1) = some (PySem.HandSPX.excO C hp.objs.size) := by heap_get
  have I2 : Inv X pins σ (upd H1 (hp.objs.size + 1) (exo (hp.objs.size + 1) C none)) ⟨(hp.push (PySem.W.kdv_tup [])).push (PySem.HandSPX.excO C hp.objs.size), g, dr, tk, os⟩ :=
    I1.laid (t' := tk) (a := hp.objs.size + 1) (o := exo (hp.objs.size + 1) C none) (h' := (hp.push (PySem.W.kdv_tup [])).push (PySem.HandSPX.excO C hp.objs.size)) kk hsz (exo_ok hget)
  have r2 : Vals (V.ref (hp.objs.size + 1) :: [v1]) (Value.ref (hp.objs.size + 1) :: [w1]) := .cons rfl (.cons rv1 .nil)
  refine wpAny_call (PySem.KwE.call_kw (kw := [(f, w1)]) F.excBase_ValueError (fun Y => PySem.HandSPX.refsVE_contains Y bm hbm) (I1.kIn _ _ hC) (PySem.W.looks_findIn I1.kIn iC) (fun self => PySem.W.bind_fn I1.kIn self tI) (Nat.zero_le _)
    (codeAny_mono (F1.run _ X.stack _ _ ⟨[Value.ref (hp.objs.size + 1)], [(f, w1)]⟩ [Value.ref (hp.objs.size + 1), w1] _ _ (fun _ _ _ => False) gu (hr.make C [] [(f, w1)]) (I2.env0.make C [] [(f, w1)]) (hb _ _ _ I2.kIn) r2 hq) fun r s' hq' => ?_))
  cases r with
  | error er => exact hx pins σ _ _ er s' I2 hq'
  | ok fl =>
    cases fl with
    | ret u =>
      obtain ⟨v, H2, os2, bare2, un2, hok2, rv, ev, q2⟩ := hq'
      subst ev
      exact ⟨rv, .ref (hp.objs.size + 1), H2, I2.call' (ch := []) os2 un2 hok2 bare2 (fun b z => absurd z (by simp)), rfl, q2⟩
    | next => exact False.elim hq'
    | brk => exact False.elim hq'
    | cont => exact False.elim hq'
end
end DL
namespace DL
open PySem PySem.Spec PyProof.Rows L2 Evl
section
variable {X : Cx} {CX : CXT} {k : Nat} {f : Addr} {fd : FuncData} {ps : List Str} {sp : Sp} {E : XK} {x : Str} {e : Expr} {es : List Expr} {t : TA} {p pos : Pos}
theorem pe_callG (gu : X.A.guards = some []) (F : FnG X.prog X.w X.K X.mg X.base CX k f fd ps sp) (hr : Room k X.A) (hg : Gl X x) (hm : X.mg x = some (.ref f)) (hk : PySem.W.keepIn X.K (.ref f) = true) (hb : L2.Binds X.K fd ps []) (hx : Passes CX X E)
    (ha : PA X (e :: es) t) (hdb : (x == ("__debug__" : Str)) = false := by decide) (he : starEach (e :: es) X.env = (false, eval e X.env) :: starEach es X.env := by rfl) (hpl : (backTo pos (starEach es X.env)).any (·.1) = false := by rfl) :
    PE X (.Call (.Name x p) (e :: es) [] pos) (tCall sp [] E t) := by
  refine ⟨fun pins s σ H Q I h => ?_⟩
  refine wpAny_Call_Name_kw (ld_glob I hg hm ?_ hdb)
  refine PySem.W.callWith_K (h₀ := X.base) I.ok.mod.kin hk (thn (ha.run pos pins s σ H _ I h) fun us s1 ⟨vs, H1, I1, r, q⟩ => ⟨I1.kIn, ?_⟩) he hpl
  have q : sp (vs ++ []) H1 Q E := q
  have r2 : Vals (vs ++ []) (us ++ []) := r.append .nil
  have hl : (us ++ []).length = ps.length := by rw [← r2.length]; exact F.len _ _ _ _ q
  refine wpAny_call (codeAny_mono (F.run X.A X.stack s1 H1 ⟨us, []⟩ (us ++ []) (vs ++ []) Q E gu hr I1.env0 (hb s1 us I1.kIn hl) r2 q) fun r s' hq => ?_)
  cases r with
  | error e => exact hx pins σ H1 s1 e s' I1 hq
  | ok fl =>
    cases fl with
    | ret u => exact I1.after hq
    | next => exact False.elim hq
    | brk => exact False.elim hq
    | cont => exact False.elim hq
end
/-- a def that wants that no guard stands, called by its name -/
structure DFG (P : Program) (w : World) (K : PySem.W.Frag) (mg : Str → Option Value) (base : Heap) (nm : Str) (k : Nat) (ps : List Str) (sp : Sp) : Prop where
  ex : ∃ (f : Addr) (fd : FuncData), FnG P w K mg base (L2.CX P w) k f fd ps sp ∧ mg nm = some (.ref f) ∧ PySem.W.keepIn K (.ref f) = true ∧ L2.Binds K fd ps []
theorem pe_DG {X : Cx} {nm : Str} {k : Nat} {ps : List Str} {sp : Sp} {W : WX} {e : Expr} {es : List Expr} {t : TA} {p pos : Pos} (gu : X.A.guards = some []) (F : DFG X.prog X.w X.K X.mg X.base nm k ps sp) (tk : Takes X W) (hr : Room k X.A) (hg : Gl X nm) (ha : PA X (e :: es) t)
    (hdb : (nm == ("__debug__" : Str)) = false := by decide) (he : starEach (e :: es) X.env = (false, eval e X.env) :: starEach es X.env := by rfl) (hpl : (backTo pos (starEach es X.env)).any (·.1) = false := by rfl) :
    PE X (.Call (.Name nm p) (e :: es) [] pos) (tCall sp [] (fun _ _ _ => False) t) := by
  obtain ⟨f, fd, h1, h2, h3, h4⟩ := F.ex
  exact pe_callG gu h1 hr hg h2 h3 h4 (passes_call tk (fun _ _ _ _ h => h.elim)) ha hdb he hpl
end DL
set_option Elab.async false
set_option linter.all false
set_option maxRecDepth 100000
set_option maxHeartbeats 4000000
/-! texts of any small data, dicts among them: repr and f-strings -/
namespace DL
open PySem PySem.Spec PyProof.Rows L2 Evl
variable {X : Cx} {pins : List (Addr × Obj)} {σ : L2.St} {H H' : Hp} {s : Shared} {K : PySem.W.Frag}
/-- v tells d; {} and {0: 0} among them -/
inductive Itm (K : PySem.W.Frag) (H : Hp) : V → PyData → Prop
  | dp {v : V} {d : PyData} (h : Dp K H v d) : Itm K H v d
  | d0 {a : Addr} (h : H a = some (.dK [])) : Itm K H (.ref a) (.dict [])
  | d1 {a : Addr} (h : H a = some (.dK [(.inl 0, .int 0)])) : Itm K H (.ref a) (.dict [(.int 0, .int 0)])
theorem itm_ex {v : V} {d : PyData} (e : Ex H H') (h : Itm K H v d) : Itm K H' v d := by
  cases h with
  | dp h => exact .dp (dp_ex e _ _ h)
  | d0 h => exact .d0 (e _ _ h)
  | d1 h => exact .d1 (e _ _ h)
theorem itm_reads {a : Addr} {d : PyData} (I : Inv X pins σ H s) (h : Itm X.K H (.ref a) d) : ∃ as, Reads s.heap (.ref a) d as ∧ (d.hasDict = true → sysModules ∉ as) := by
  generalize hv : V.ref a = v at h
  cases h with
  | dp h =>
    subst hv
    obtain ⟨as, rd⟩ := Dp.reads I d (.ref a) (.ref a) h rfl
    exact ⟨as, rd, PyData.noDict_hsm (noDict_dp d _ h)⟩
  | d0 h =>
    cases hv
    obtain ⟨_, hs, vs, kv, o, es, ep, ho, ex, hdat, _, pr, _⟩ := I.hok a _ h
    cases kv
    have e0 : es.toList = [] := by
      cases hes : es.toList with
      | nil => rfl
      | cons _ _ =>
        rw [hes] at pr
        cases pr
    refine ⟨a :: [] ++ [], Reads.dict (as := []) (bs := []) ho ex.1 hdat (by rw [e0]; exact .nil) (by rw [e0]; exact .nil), fun _ q => ?_⟩
    have : sysModules = a := by simpa using q
    rw [← this] at hs
    simp at hs
  | d1 h =>
    cases hv
    obtain ⟨_, hs, vs, kv, o, es, ep, ho, ex, hdat, _, pr, _⟩ := I.hok a _ h
    obtain ⟨k1, v1, rfl, ek, ev⟩ : ∃ k1 v1, vs = [(k1, v1)] ∧ k1 = (Sum.inl 0 : Key) ∧ RelV (.int 0) v1 := by
      cases kv with
      | cons a b =>
        cases b
        exact ⟨_, _, rfl, a.1.symm, a.2⟩
    subst ek
    obtain ⟨e1, hes, ke, ve⟩ : ∃ e1, es.toList = [e1] ∧ keyIs (.inl 0) e1.key = true ∧ e1.val = v1 := by
      generalize es.toList = l at pr
      cases pr with
      | cons a b c =>
        cases c
        exact ⟨_, rfl, a, b⟩
    obtain ⟨t0, ev⟩ := (show ∃ t, v1 = Value.int 0 t from ev)
    obtain ⟨t1, ke⟩ := Value.isInt_shape (k := 0) (v := e1.key) ke
    refine ⟨a :: [] ++ [], Reads.dict (as := []) (bs := []) ho ex.1 hdat (by rw [hes]; exact ReadsAll.cons (as := []) (by show Reads _ e1.key (.int 0) []; rw [ke]; exact .int 0 t1) .nil) (by rw [hes]; exact ReadsAll.cons (as := []) (by show Reads _ e1.val (.int 0) []; rw [ve, ev]; exact .int 0 t0) .nil), fun _ q => ?_⟩
    have : sysModules = a := by simpa using q
    rw [← this] at hs
    simp at hs
/-- data with a short text -/
structure Txd (d : PyData) : Prop where
  shows : d.showable = true
  deep : d.depth ≤ 60
  len : d.shown.length ≤ 1000
  s1 : ∀ x, d = .str x → x.length ≤ 1000 ∧ (reprText x).length ≤ 1000
  i1 : ∀ i, d = .int i → i.natAbs.log2 < 1900 ∧ (Str.ofString (toString i)).length ≤ 1000
def tellR : PyData → Str
  | .none => "None"
  | .bool b => if b then "True" else "False"
  | .int i => toString i
  | .str x => reprText x
  | d => d.shown
/-- repr(x), x any small data -/
def rReprD (K : PySem.W.Frag) : List V → Hp → VK → Prop := fun xs H Q => ∃ (v : V) (d : PyData), xs = [v] ∧ Itm K H v d ∧ Txd d ∧ Q (.str (tellR d)) H
theorem line1000 : 1000 ≤ sizeLine := by decide
theorem call_reprD (hg : X.A.guards = some []) (hu : X.A.units + 100 < cLine) : CallR X (.builtin "repr") (rReprD X.K) := by
  intro pins s σ H xs us Q I r h
  obtain ⟨v, d, rfl, hd, T, q⟩ := h
  obtain ⟨u, rfl, ru⟩ := vals1 r
  cases v with
  | ref a =>
    cases ru
    obtain ⟨as, rd, sm⟩ := itm_reads I hd
    have e : tellR d = d.shown := by
      cases rd <;> rfl
    rw [e] at q
    exact repr_of_reads' rd T.shows sm hg (by have := T.deep; omega) (fun _ _ e => e) (fun h' u tk k => ⟨.str d.shown, H, I.kept k, ⟨u, rfl⟩, q⟩) (Nat.le_trans T.len line1000)
  | _ => 
    cases hd with
    | dp hd =>
      cases hd <;> first
        | (obtain rfl := ru; exact PySem.P.repr_of_none ⟨.str _, H, I.tok _, ⟨_, rfl⟩, q⟩)
        | (obtain rfl := ru; exact PySem.P.repr_of_bool ⟨.str _, H, I.tok _, ⟨_, rfl⟩, q⟩)
        | (obtain ⟨t, rfl⟩ := ru; exact PySem.P.repr_of_int (by have := (T.i1 _ rfl).1; omega) ⟨.str _, H, I.tok _, ⟨_, rfl⟩, q⟩)
        | (obtain ⟨t, rfl⟩ := ru; exact PySem.P.repr_of_str ⟨.str _, H, I.tok _, ⟨_, rfl⟩, q⟩ (Nat.le_trans (T.s1 _ rfl).2 line1000))
/-- {x}, x any small data: some short text -/
def tFmtD (K : PySem.W.Frag) (te : TE) : TE := fun σ H Q => te σ H fun x H1 => ∃ d, Itm K H1 x d ∧ Txd d ∧ ∀ m : Str, m.length ≤ 1000 → Q (.str m) H1
theorem pe_fmtD {e : Expr} {te : TE} {pos : Pos} (hg : X.A.guards = some []) (hu : X.A.units + 100 < cLine) (he : PE X e te) : PE X (.FormattedValue e (-1) none pos) (tFmtD X.K te) := by
  refine ⟨fun pins s σ H Q I h => ?_⟩
  refine wpAny_FormattedValue_plain (thn (he.run pins s σ H _ I h) fun v s1 hv => ?_)
  obtain ⟨x, H1, I1, ru, d, hd, T, q⟩ := hv
  cases x with
  | ref a =>
    cases ru
    obtain ⟨as, rd, sm⟩ := itm_reads I1 hd
    exact formatField_of_reads rd T.shows sm hg (by have := T.deep; omega) (fun _ _ e => e) (fun h' u tk k => ⟨.str d.shown, H1, I1.kept k, ⟨u, rfl⟩, q _ T.len⟩) (Nat.le_trans T.len line1000)
  | _ => 
    cases hd with
    | dp hd =>
      cases hd <;> first
        | (obtain rfl := ru; exact wpAny_formatField_none ⟨.str "None", H1, I1.tok _, ⟨_, rfl⟩, q _ (by decide)⟩)
        | (obtain rfl := ru; exact wpAny_formatField_bool ⟨.str _, H1, I1.tok _, ⟨_, rfl⟩, q _ (by split <;> decide)⟩)
        | (obtain ⟨t, rfl⟩ := ru; exact wpAny_formatField_int (by have := (T.i1 _ rfl).1; omega) ⟨.str _, H1, I1.tok _, ⟨_, rfl⟩, q _ (T.i1 _ rfl).2⟩)
        | (obtain ⟨t, rfl⟩ := ru; exact wpAny_formatField_str ⟨.str _, H1, I1, ⟨t, rfl⟩, q _ (T.s1 _ rfl).1⟩ ⟨.str _, H1, I1.tok _, ⟨_, rfl⟩, q _ (T.s1 _ rfl).1⟩ (Nat.le_trans (T.s1 _ rfl).1 line1000))
end DL
set_option Elab.async false
set_option linter.all false
set_option maxRecDepth 100000
set_option maxHeartbeats 4000000
namespace K16
open PySem PySem.Spec PyProof.Rows L2 Evl DL

def topS (i : Nat) : Stmt := PySem.Challenge.pw_allcalls_k03_loads_and_frames_judged.main.body.getD i (.Pass ⟨0, 0, 0, 0⟩)
/-- what the module's names hold -/
structure Txt (mg : Str → Option Value) : Prop where
  b_isinstance : mg "isinstance" = none
  b_int : mg "int" = none
  b_bool : mg "bool" = none
  b_tuple : mg "tuple" = none
  b_list : mg "list" = none
  b_len : mg "len" = none
  b_range : mg "range" = none
  b_zip : mg "zip" = none
  b_max : mg "max" = none
  b_min : mg "min" = none
  b_sum : mg "sum" = none
  b_abs : mg "abs" = none
  b_repr : mg "repr" = none
  b_enumerate : mg "enumerate" = none
  b_sorted : mg "sorted" = none
  b_set : mg "set" = none
  c_MOST_NUMBER : ∃ t, mg "MOST_NUMBER" = some (.int 99 t)
  c_MOST_SIDES : ∃ t, mg "MOST_SIDES" = some (.int 5 t)
  c_MOST_TRACKS : ∃ t, mg "MOST_TRACKS" = some (.int 6 t)
  c_MOST_LET : ∃ t, mg "MOST_LET" = some (.int 20000 t)
  c_MOST_FOR_FIVE : ∃ t, mg "MOST_FOR_FIVE" = some (.int 4 t)
  c_WIDTH : ∃ t, mg "WIDTH" = some (.int 8 t)
  c_GUARD : ∃ t, mg "GUARD" = some (.int 128 t)
theorem pe_const {X : Cx} {x : Str} {n : Int} {pos : Pos} (h : ∃ t, X.mg x = some (.int n t)) (hg : Gl X x) (hd : (x == ("__debug__" : Str)) = false := by decide) : PE X (.Name x pos) (tC (.int n)) := by
  obtain ⟨t, h⟩ := h
  exact pe_glob hg h ⟨t, rfl⟩ hd
def isNum : PyData → Bool
  | .int _ => true
  | _ => false
def isIn (d : PyData) (a b : Int) : Bool := match d with
  | .int i => decide (a ≤ i) && decide (i ≤ b)
  | _ => false
def isBool : PyData → Bool
  | .bool _ => true
  | _ => false
theorem kit_int (d : PyData) : kitB (tyD d) "int" = some (isNum d || isBool d) := by
  cases d
  · show kitB "NoneType" "int" = some false; decide +kernel
  · show kitB "bool" "int" = some true; decide +kernel
  · show kitB "int" "int" = some true; decide +kernel
  · show kitB "str" "int" = some false; decide +kernel
  · show kitB "list" "int" = some false; decide +kernel
  · show kitB "tuple" "int" = some false; decide +kernel
  · show kitB "dict" "int" = some false; decide +kernel
theorem kit_bool (d : PyData) : kitB (tyD d) "bool" = some (isBool d) := by
  cases d
  · show kitB "NoneType" "bool" = some false; decide +kernel
  · show kitB "bool" "bool" = some true; decide +kernel
  · show kitB "int" "bool" = some false; decide +kernel
  · show kitB "str" "bool" = some false; decide +kernel
  · show kitB "list" "bool" = some false; decide +kernel
  · show kitB "tuple" "bool" = some false; decide +kernel
  · show kitB "dict" "bool" = some false; decide +kernel
def isTup : PyData → Option (List PyData)
  | .tuple ds => some ds
  | _ => none
theorem kit_tuple (d : PyData) : kitB (tyD d) "tuple" = some (isTup d).isSome := by
  cases d
  · show kitB "NoneType" "tuple" = some false; decide +kernel
  · show kitB "bool" "tuple" = some false; decide +kernel
  · show kitB "int" "tuple" = some false; decide +kernel
  · show kitB "str" "tuple" = some false; decide +kernel
  · show kitB "list" "tuple" = some false; decide +kernel
  · show kitB "tuple" "tuple" = some true; decide +kernel
  · show kitB "dict" "tuple" = some false; decide +kernel
local macro_rules | `(tactic| walk_at "dl") => `(tactic| first
  | exact ev_c | exact ev_var rfl | exact eda_nil
  | exact ed_var rfl (by assumption)
  | exact ed_int ev_c | exact ed_int (ev_var rfl)
  | (refine eda_cons ?_ ?_ <;> walk_at "dl")
  | (refine ed_int ?_; walk_at "dl")
  | (refine ev_op ?_ ?_ rv_I0 <;> walk_at "dl"))

section
variable {P : Program} {w : World} {K : PySem.W.Frag} {mg : Str → Option Value} {base : Heap}
def R_is_number (ds : List PyData) (r : PyData) : Prop := ∃ d, ds = [d] ∧ r = .bool (isNum d)
abbrev s_is_number : Stmt := topS 6
abbrev N_is_number : List Str := ["thing"]
theorem sc_is_number : FnScope N_is_number ["thing"] (defScope s_is_number) := ⟨rfl, rfl, rfl, by decide +kernel, rfl, by decide +kernel, by decide +kernel⟩
theorem ok_is_number {f : Addr} {fd : FuncData} (F : Fun K "is_number" "is_number" s_is_number f fd) (T : Txt mg)
      :
    FnOk P w K mg base CX0 1 f fd ["thing"] (spD K 1 R_is_number) := by
  refine F.ok sc_is_number (fun vs H Q E h => spD_len h) (fun cdv A outer s H vs Q E hr h => ?_)
  obtain ⟨ds, r, hd, _, ⟨d, rfl, rfl⟩, k⟩ := h
  obtain ⟨v0, rfl, d0⟩ := dpa_one hd
  refine ⟨_, (pss_one (ps_ret (pe_and (pe_callB call_isi (by rfl) T.b_isinstance (by decide +kernel) (pa_cons (pv 0) (pa_cons (pe_bltn (v := .ty "int") (u := .type "int") (by rfl) T.b_int (by decide +kernel) rfl) pa_nil))) (pe_one (pe_not (pe_callB call_isi (by rfl) T.b_isinstance (by decide +kernel) (pa_cons (pv 0) (pa_cons (pe_bltn (v := .ty "bool") (u := .type "bool") (by rfl) T.b_bool (by decide +kernel) rfl) pa_nil)))))))), ?_⟩
  refine d_ret (K := K) (ed_bool (ev_is (ev_andV (ev_isiD (ed_var rfl d0) (kit_int d)) fun _ => ev_notV (ev_isiD (ed_var rfl d0) (kit_bool d))) ?_)) k
  cases d <;> rfl

def R_is_within (ds : List PyData) (r : PyData) : Prop := ∃ (d : PyData) (a b : Int), ds = [d, .int a, .int b] ∧ r = .bool (isIn d a b)
abbrev s_is_within : Stmt := topS 7
abbrev N_is_within : List Str := ["thing", "low", "high"]
theorem sc_is_within : FnScope N_is_within ["thing", "low", "high"] (defScope s_is_within) := ⟨rfl, rfl, rfl, by decide +kernel, rfl, by decide +kernel, by decide +kernel⟩
theorem ok_is_within {f : Addr} {fd : FuncData} (F : Fun K "is_within" "is_within" s_is_within f fd) (T : Txt mg)
    (D_is_number : DF P w K mg base "is_number" 1 ["thing"] (spD K 1 R_is_number))  :
    FnOk P w K mg base CX0 2 f fd ["thing", "low", "high"] (spD K 3 R_is_within) := by
  refine F.ok sc_is_within (fun vs H Q E h => spD_len h) (fun cdv A outer s H vs Q E hr h => ?_)
  obtain ⟨ds, r, hd, _, ⟨d, a, b, rfl, rfl⟩, k⟩ := h
  obtain ⟨v0, v1, v2, rfl, d0, d1, d2⟩ := dpa_three hd
  cases dp_int d1
  cases dp_int d2
  refine ⟨_, (pss_one (ps_ret (pe_and (pe_D D_is_number (hr.mono (by decide)) (by rfl) (pa_cons (pv 0) pa_nil)) (pe_one (pe_chain op_le op_le (pv 1) (pv 0) (pv 2)))))), ?_⟩
  cases d with
  | int i =>
    cases dp_int d0
    exact d_ret (K := K) (ed_bool (ev_andV (a := true) (EvD.bool (ed_call (R := R_is_number) (ds := [.int i]) (by walk_at "dl") rfl ⟨_, rfl, rfl⟩)) fun _ => ev_chain (by walk_at "dl") (by walk_at "dl") (by walk_at "dl"))) k
  | _ => exact d_ret (K := K) (ed_bool (ev_andV (a := false) (b := false) (EvD.bool (ed_call (R := R_is_number) (eda_cons (ed_var rfl d0) eda_nil) rfl ⟨_, rfl, rfl⟩)) fun z => nomatch z)) k

def isTupOf (d : PyData) (m : Int) : Bool := match d with
  | .tuple ds => decide ((ds.length : Int) = m)
  | _ => false
def R_is_tuple_of (ds : List PyData) (r : PyData) : Prop := ∃ (d : PyData) (m : Int), ds = [d, .int m] ∧ r = .bool (isTupOf d m)
abbrev s_is_tuple_of : Stmt := topS 8
abbrev N_is_tuple_of : List Str := ["thing", "many"]
theorem sc_is_tuple_of : FnScope N_is_tuple_of ["thing", "many"] (defScope s_is_tuple_of) := ⟨rfl, rfl, rfl, by decide +kernel, rfl, by decide +kernel, by decide +kernel⟩
theorem ok_is_tuple_of {f : Addr} {fd : FuncData} (F : Fun K "is_tuple_of" "is_tuple_of" s_is_tuple_of f fd) (T : Txt mg)
      :
    FnOk P w K mg base CX0 1 f fd ["thing", "many"] (spD K 2 R_is_tuple_of) := by
  refine F.ok sc_is_tuple_of (fun vs H Q E h => spD_len h) (fun cdv A outer s H vs Q E hr h => ?_)
  obtain ⟨ds, r, hd, _, ⟨d, m, rfl, rfl⟩, k⟩ := h
  obtain ⟨v0, v1, rfl, d0, d1⟩ := dpa_two hd
  cases dp_int d1
  refine ⟨_, (pss_one (ps_ret (pe_and (pe_callB call_isi (by rfl) T.b_isinstance (by decide +kernel) (pa_cons (pv 0) (pa_cons (pe_bltn (v := .ty "tuple") (u := .type "tuple") (by rfl) T.b_tuple (by decide +kernel) rfl) pa_nil))) (pe_one (pe_cmpR op_eq (pe_callB call_len_seq (by rfl) T.b_len PySem.boot_len (pa_cons (pv 0) pa_nil)) (pv 1) (nomark _)))))), ?_⟩
  cases d with
  | tuple es => exact d_ret (K := K) (ed_bool (ev_andV (a := true) (ev_isiD (ed_var rfl d0) (kit_tuple _)) fun _ => ev_is (ev_op (ev_lenT (ed_var rfl d0)) (ev_var rfl) (rv_eq rfl)) (by rw [decide_vint]))) k
  | _ => exact d_ret (K := K) (ed_bool (ev_andV (a := false) (b := false) (ev_isiD (ed_var rfl d0) (kit_tuple _)) fun z => nomatch z)) k

/-- an item of any kind in, data out -/
def spI (K : PySem.W.Frag) (R : PyData → PyData → Prop) : Sp := fun vs H Q _ => ∃ v d r, vs = [v] ∧ Itm K H v d ∧ R d r ∧ ∀ v H', Ex H H' → Dp K H' v r → Q v H'
def isRow : PyData → Bool
  | .list _ => true
  | .tuple _ => true
  | _ => false
def R_is_row (d r : PyData) : Prop := r = .bool (isRow d)
theorem itm_ty {v : V} {d : PyData} {H : Hp} (h : Itm K H v d) : TyX K H v (.type (tyD d)) := by
  cases h with
  | dp h => exact tyD_dp h
  | d0 h => exact .base (.dK h)
  | d1 h => exact .base (.dK h)
theorem kit_row (d : PyData) : PySem.W.kitAny K (.type (tyD d)) [.type "list", .type "tuple"] = some (isRow d) := by
  cases d
  · exact kitAny_cons (b := false) (kit_ty (show kitB "NoneType" "list" = some false by decide +kernel)) (fun _ => kitAny_cons (b := false) (kit_ty (show kitB "NoneType" "tuple" = some false by decide +kernel)) (fun _ => rfl) fun z => nomatch z) fun z => nomatch z
  · exact kitAny_cons (b := false) (kit_ty (show kitB "bool" "list" = some false by decide +kernel)) (fun _ => kitAny_cons (b := false) (kit_ty (show kitB "bool" "tuple" = some false by decide +kernel)) (fun _ => rfl) fun z => nomatch z) fun z => nomatch z
  · exact kitAny_cons (b := false) (kit_ty (show kitB "int" "list" = some false by decide +kernel)) (fun _ => kitAny_cons (b := false) (kit_ty (show kitB "int" "tuple" = some false by decide +kernel)) (fun _ => rfl) fun z => nomatch z) fun z => nomatch z
  · exact kitAny_cons (b := false) (kit_ty (show kitB "str" "list" = some false by decide +kernel)) (fun _ => kitAny_cons (b := false) (kit_ty (show kitB "str" "tuple" = some false by decide +kernel)) (fun _ => rfl) fun z => nomatch z) fun z => nomatch z
  · exact kitAny_cons (b := true) (kit_ty (show kitB "list" "list" = some true by decide +kernel)) (fun z => nomatch z) fun _ => rfl
  · exact kitAny_cons (b := false) (kit_ty (show kitB "tuple" "list" = some false by decide +kernel)) (fun _ => kitAny_cons (b := true) (kit_ty (show kitB "tuple" "tuple" = some true by decide +kernel)) (fun z => nomatch z) fun _ => rfl) fun z => nomatch z
  · exact kitAny_cons (b := false) (kit_ty (show kitB "dict" "list" = some false by decide +kernel)) (fun _ => kitAny_cons (b := false) (kit_ty (show kitB "dict" "tuple" = some false by decide +kernel)) (fun _ => rfl) fun z => nomatch z) fun z => nomatch z
/-- isinstance(x, (list, tuple)), x an item at a name -/
theorem ev_row {σ : L2.St} {H : Hp} {i : Nat} {v : V} {d : PyData} (hi : σ[i]? = some (some v)) (h : Itm K H v d) : Ev (tCB (rIsiT K) (tCons (tVar i) (tCons (tTup (tCons (tC (.ty "list")) (tCons (tC (.ty "tuple")) tNil))) tNil))) σ H (.bl (isRow d)) := fun H1 e Q q => by
  refine ⟨v, hi, ?_⟩
  refine ⟨by show 2 ≤ sizeLine; decide, fun p hp => ?_⟩
  exact ⟨_, p, [.ty "list", .ty "tuple"], _, [.type "list", .type "tuple"], _, rfl, upd_same, .cons (.ty _) (.cons (.ty _) .nil), itm_ty (itm_ex (e.trans (Ex.new hp)) h), kit_row d, q _ (Ex.new hp)⟩
def R_check_sides (ds : List PyData) (r : PyData) : Prop := ∃ d, ds = [d, .int 5] ∧ isIn d 2 5 = true ∧ r = .none
def B_check_sides (CB : Addr) (ds : List PyData) (C : Addr) : Prop := ∃ d, ds = [d, .int 5] ∧ isIn d 2 5 = false ∧ C = CB
variable {CB CL CR : Addr}
abbrev s_check_sides : Stmt := topS 13
abbrev N_check_sides : List Str := ["sides", "most"]
theorem sc_check_sides : FnScope N_check_sides ["sides", "most"] (defScope s_check_sides) := ⟨rfl, rfl, rfl, by decide +kernel, rfl, by decide +kernel, by decide +kernel⟩
theorem ok_check_sides {f : Addr} {fd : FuncData} (F : Fun K "check_sides" "check_sides" s_check_sides f fd) (T : Txt mg)
    (D_is_within : DF P w K mg base "is_within" 2 ["thing", "low", "high"] (spD K 3 R_is_within)) (TB : ErC K mg "BadSides" CB)  :
    FnOk P w K mg base (L2.CX P w) 3 f fd ["sides", "most"] (spR K 2 R_check_sides (B_check_sides CB)) := by
  refine F.okX sc_check_sides (fun vs H Q E h => spR_len h) (fun cdv A outer s H vs Q E hr h => ?_)
  obtain ⟨ds, hd, _, h⟩ := h
  obtain ⟨d, rfl⟩ : ∃ d, ds = [d, .int 5] := by
    rcases h with ⟨r, ⟨d, e, _⟩, _⟩ | ⟨C, ⟨d, e, _⟩, _⟩
    · exact ⟨d, e⟩
    · exact ⟨d, e⟩
  obtain ⟨v0, v1, rfl, d0, d1⟩ := dpa_two hd
  cases dp_int d1
  refine ⟨_, (pss_one (ps_if (pt_not (pt_val (pe_D D_is_within (hr.mono (by decide)) (by rfl) (pa_cons (pv 0) (pa_cons pe_int (pa_cons (pv 1) pa_nil)))))) (pss_one (ps_raiseC rfl (takes_of rfl rfl rfl rfl) TB (by rfl) (pe_joined (.cons pe_str (.cons (pe_fmt (pv 1)) .nil))))) pss_nil)), ?_⟩
  refine s_when (b := !isIn d 2 5) (et_not (et_B (EvD.bool (ed_call (R := R_is_within) (ds := [d, .int 2, .int 5]) (eda_cons (ed_var rfl d0) (eda_cons (ed_int ev_c) (eda_cons (ed_int (ev_var rfl)) eda_nil))) rfl ⟨_, _, _, rfl, rfl⟩)))) (fun hb H1 e1 => ?_) fun hb H1 e1 => ?_
  · have hb : isIn d 2 5 = false := by simpa using hb
    rcases h with ⟨r, ⟨d', e, g, _⟩, _⟩ | ⟨C, ⟨d', e, g, rfl⟩, k⟩
    · cases e
      rw [g] at hb
      cases hb
    · refine ⟨_, rfl, by decide +kernel, .int 5, rfl, .inr ⟨5, rfl, by decide, ?_⟩⟩
      refine ⟨_, rfl, by decide +kernel, ?_⟩
      exact k H1 e1
  · have hb : isIn d 2 5 = true := by simpa using hb
    rcases h with ⟨r, ⟨d', e, g, rfl⟩, k⟩ | ⟨C, ⟨d', e, g, rfl⟩, k⟩
    · exact k .non H1 e1 .non
    · cases e
      rw [g] at hb
      cases hb

def R_check_room (ds : List PyData) (r : PyData) : Prop := ∃ d, ds = [d] ∧ isIn d 0 99 = true ∧ r = .none
def B_check_room (CR : Addr) (ds : List PyData) (C : Addr) : Prop := ∃ d, ds = [d] ∧ isIn d 0 99 = false ∧ C = CR
end
end K16
set_option Elab.async false
set_option linter.all false
set_option maxRecDepth 100000
set_option maxHeartbeats 4000000
/-! the head of a law: one run of the top, looked at in parts; the written part is found by names -/
namespace DL
open PySem PySem.Spec PyProof.Rows L2 Evl LamX He
/-- what the names reach, and the interpreter's statics -/
def fragY (look : Addr → Option Obj) (n : Nat) : PySem.W.Frag := frT look (asD look n ++ [cStatics])
/-- what is known of the written part: facts, defs, one more look, the empty tables of some defs -/
structure KnownY (fa : List Fa) (fn : List DefD) (tf : List Defn) (ex : PySem.W.Frag → Bool) (hp : Heap) (K : PySem.W.Frag) : Prop where
  says : SaysD fa fn K
  extra : ex K = true
  tabs : ∀ one ∈ tf, PySem.W.codeHdIn K (cT K one).1 (cT K one).2 = true ∧ K.lookup (cT K one).2 = none ∧ hp.get? (cT K one).2 = some { cls := .none, data := .fields #[] }
abbrev SeenY : Type := (AlD × Bool) × Bool
def lookY (n : Nat) (fa : List Fa) (fn : List DefD) (tf : List Defn) (ex : PySem.W.Frag → Bool) (look : Addr → Option Obj) : SeenY :=
  ((obsD fa fn (fragY look n), ex (fragY look n)), tabsB look tf (fragY look n))
def dueY (fn : List DefD) : SeenY := ((valD fn, true), true)
theorem tabs_known {look : Addr → Option Obj} {as : List Addr} : ∀ {tf : List Defn}, tabsB look tf (frT look as) = true →
    ∀ one ∈ tf, PySem.W.codeHdIn (frT look as) (cT (frT look as) one).1 (cT (frT look as) one).2 = true ∧ (frT look as).lookup (cT (frT look as) one).2 = none ∧ look (cT (frT look as) one).2 = some { cls := .none, data := .fields #[] } := by
  intro tf told one mem
  have here := List.all_eq_true.mp told one mem
  rw [Bool.and_eq_true] at here
  cases at_ : look (cT (frT look as) one).2 with
  | none => rw [at_] at here; exact absurd here.2 Bool.false_ne_true
  | some ob =>
    rw [at_] at here
    exact ⟨here.1, frT_none at_ here.2, by rw [emptyTab_eq here.2]⟩
theorem known_of {n : Nat} {fa : List Fa} {fn : List DefD} {tf : List Defn} {ex : PySem.W.Frag → Bool} {hp : Heap} (told : lookY n fa fn tf ex hp.get? = dueY fn) : KnownY fa fn tf ex hp (fragY hp.get? n) := by
  obtain ⟨p1, p3⟩ := Prod.mk.inj told
  obtain ⟨p1, p2⟩ := Prod.mk.inj p1
  exact ⟨p1, p2, tabs_known p3⟩
def hookY (n : Nat) (fa : List Fa) (fn : List DefD) (tf : List Defn) (ex : PySem.W.Frag → Bool) : PySem.W.Hook where
  α := SeenY
  obs := fun sh => lookY n fa fn tf ex sh.heap.get?
  val := fun _ => dueY fn
  says := fun _ hp => ∃ K : PySem.W.Frag, K.In hp ∧ KnownY fa fn tf ex hp K
  of := fun _ _ told => ⟨_, frT_in, known_of told⟩
  keeps := fun _ _ _ ⟨K, inn, kn⟩ stay => ⟨K, PySem.W.Frag.In.keeps inn stay, ⟨kn.says, kn.extra, fun one mem => ⟨(kn.tabs one mem).1, (kn.tabs one mem).2.1, stay _ _ (kn.tabs one mem).2.2⟩⟩⟩
def seeY (n : Nat) (fa : List Fa) (fn : List DefD) (tf : List Defn) (ex : PySem.W.Frag → Bool) (st : PySem.W.SharedT) : SeenY := lookY n fa fn tf ex (HandSHeadRun.getT st)
theorem seeY_eq {n : Nat} {fa : List Fa} {fn : List DefD} {tf : List Defn} {ex : PySem.W.Frag → Bool} (st : PySem.W.SharedT) : seeY n fa fn tf ex st = (hookY n fa fn tf ex).obs st.abs := by
  have same : HandSHeadRun.getT st = st.abs.heap.get? := funext (HandSHeadRun.getT_eq st)
  show lookY n fa fn tf ex (HandSHeadRun.getT st) = lookY n fa fn tf ex st.abs.heap.get?
  rw [same]
/-- the state behind the top -/
noncomputable abbrev lastY (r : PySem.W.OpenRow) (M : Nat) (w : World) (os : OsState) : Option PySem.W.SharedT := HandSHeadRun.endF (HandSHeadRun.stepQ (HandSHeadRun.denQ HandSHeadRun.tabQ) r.prog w) M r.prog w os
theorem some_parts {α β γ δ : Type} {x : Option α} {f : α → β} {g : α → γ} {k : α → δ} {a : β} {b : γ} {c : δ} (h1 : x.map f = some a) (h2 : x.map g = some b) (h3 : x.map k = some c) : x.map (fun s => (f s, g s, k s)) = some (a, b, c) := by
  cases x with
  | none => cases h1
  | some y =>
    cases h1
    cases h2
    cases h3
    rfl
theorem some_pair {α β γ : Type} {x : Option α} {f : α → β} {g : α → γ} {a : β} {b : γ} (h1 : x.map f = some a) (h2 : x.map g = some b) : x.map (fun s => (f s, g s)) = some (a, b) := by
  cases x with
  | none => cases h1
  | some y =>
    cases h1
    cases h2
    rfl
theorem some_and {α : Type} {x : Option α} {f g : α → Bool} (h1 : x.map f = some true) (h2 : x.map g = some true) : x.map (fun s => f s && g s) = some true := by
  cases x with
  | none => cases h1
  | some y =>
    have e1 := Option.some.inj h1
    have e2 := Option.some.inj h2
    show some (f y && g y) = some true
    rw [e1, e2] <;> rfl
/-- the run's equation from looks of their own -/
theorem run_of {r : PySem.W.OpenRow} {q : Program} {n M : Nat} {fa : List Fa} {fn : List DefD} {tf : List Defn} {ex : PySem.W.Frag → Bool} {loose : List Str} {w : World}
    (h1 : ∀ os : OsState, (lastY r M w os).map (fun s => (HandSHeadRun.looksF r.prog (PySem.W.boot_heap w.params) s.abs, HandSHeadRun.seenQ q loose (importedModules r.prog.main.body) (fun s => PySem.W.xlAt q [] s && PySem.W.recOk r.toRowW.records s) s.abs)) = some (true, PySem.W.openGood q loose))
    (h2 : ∀ os : OsState, (lastY r M w os).map (fun s => obsD fa fn (fragY (HandSHeadRun.getT s) n)) = some (valD fn))
    (h3 : ∀ os : OsState, (lastY r M w os).map (fun s => ex (fragY (HandSHeadRun.getT s) n)) = some true)
    (h4 : ∀ os : OsState, (lastY r M w os).map (fun s => tabsB (HandSHeadRun.getT s) tf (fragY (HandSHeadRun.getT s) n)) = some true) :
    HandSHeadRun.RunEq r q (hookY n fa fn tf ex) (seeY n fa fn tf ex) M loose w := fun os => by
  have all := some_pair (some_pair (h2 os) (h3 os)) (h4 os)
  have two := h1 os
  cases e : lastY r M w os with
  | none => rw [e] at all; cases all
  | some st =>
    rw [e] at all two
    have all2 : seeY n fa fn tf ex st = dueY fn := Option.some.inj all
    obtain ⟨t1, t2⟩ := Prod.mk.inj (Option.some.inj two)
    show (lastY r M w os).map _ = _
    rw [e]
    exact congrArg some (Prod.ext t1 (Prod.ext t2 all2))
/-- the head of a law whose written part is found by a look -/
theorem walkGE {l : PySem.W.OpenLaw} {n k : Nat} {q : Program} {loose : List Str} {XP : (Str → Option Value) → Heap → Prop} {YP : World → Heap → Prop} {d : DefRec} {CX : World → CXT} {x : Str}
    (most : l.most = some n) (line : n ≤ sizeLine) (plain : d.params.defaults = []) (room : Room k callerA)
    (F : ∀ (w : World) (mg : Str → Option Value) (fa : Addr) (h : Heap), YP w h → h.Ns mainGlobals mg → mg d.name = some (.ref fa) →
      ∃ (K : PySem.W.Frag) (fd : FuncData) (sp : Sp), K.In h ∧ (∀ (s : Shared) (u : Value), BindsTo s fd ⟨[u], []⟩ [(x, u)]) ∧
        (∀ (H : Hp) (a : Addr) (ns : List Int), ns.length ≤ n → Only H → SqL K H a (ns.map V.int) → sp [.ref a] H (fun v _ => v = .bl true) fun _ _ _ => False) ∧
        ∀ base : Heap, K.In base → base.Ns mainGlobals mg → FnG l.prog w K mg base (CX w) k fa fd [x] sp)
    (out : ∀ (w : World) (H : Hp) (s : Shared) (e : Value) (s' : Shared), CX w [] H s (fun _ _ _ => False) e s' → False) : PySem.W.WalkO q loose XP YP l.row.toRowW d [] (fun f vs => PySem.call f vs) := by
  apply Att.attach_call most plain
  intro w s0 s1 mg mb fa o pm cd doc a vs ns G Y ho hd hcd hmg hobj hints hlen hg
  obtain ⟨K, fd, sp, KX, hb, ask, hF⟩ := F w mg fa _ Y G.T.g hmg
  exact callG KX G.T.g G.T.b G.T.builtins G.T.nolimit hg hobj hints (Nat.le_trans hlen line) room hF hb (fun H h1 h2 => ask H a ns hlen h1 h2) fun H e s' => out w H s1 e s'
/-- .. of a law with lambdas of its own: c its code object, T its table -/
theorem walkTE {l : PySem.W.OpenLaw} {n k : Nat} {q : Program} {loose : List Str} {XP : (Str → Option Value) → Heap → Prop} {YP : World → Heap → Prop} {d : DefRec} {CX : World → CXT} {x : Str}
    (most : l.most = some n) (line : n ≤ sizeLine) (plain : d.params.defaults = []) (room : Room k callerA)
    (F : ∀ (w : World) (mg : Str → Option Value) (fa : Addr) (h : Heap), YP w h → h.Ns mainGlobals mg → mg d.name = some (.ref fa) →
      ∃ (K : PySem.W.Frag) (fd : FuncData) (c T : Addr) (sp : Sp), K.In h ∧ h.get? T = some { cls := .none, data := .fields #[] } ∧ K.lookup T = none ∧ PySem.W.CodeHd h c T ∧ (∀ (s : Shared) (u : Value), BindsTo s fd ⟨[u], []⟩ [(x, u)]) ∧
        (∀ (H : Hp) (a : Addr) (ns : List Int), ns.length ≤ n → H T = some (.tbl #[]) → SqL K H a (ns.map V.int) → sp [.ref a] H (fun v _ => v = .bl true) fun _ _ _ => False) ∧
        ∀ base : Heap, K.In base → base.Ns mainGlobals mg → TabB base mg c T → FnG l.prog w K mg base (CX w) k fa fd [x] sp)
    (out : ∀ (w : World) (H : Hp) (s : Shared) (e : Value) (s' : Shared), CX w [] H s (fun _ _ _ => False) e s' → False) : PySem.W.WalkO q loose XP YP l.row.toRowW d [] (fun f vs => PySem.call f vs) := by
  apply Att.attach_call most plain
  intro w s0 s1 mg mb fa o pm cd doc a vs ns G Y ho hd hcd hmg hobj hints hlen hg
  obtain ⟨K, fd, c, T, sp, KX, t1, t2, t3, bnd, ask, hF⟩ := F w mg fa _ Y G.T.g hmg
  exact callT KX G.T.g G.T.b G.T.builtins G.T.nolimit hg t1 t2 t3 G.T.bmain hobj hints (Nat.le_trans hlen line) room hF bnd (fun H h1 h2 => ask H a ns hlen h1 h2) fun H e s' => out w H s1 e s'
/-- a def without defaults, as a look finds it -/
theorem fn_look {K : PySem.W.Frag} {x qual : Str} {st : Stmt} {f : Addr} (F : ∃ fd, FunD K x qual (defArgs st) (defBody st) (defScope st) [] [] f fd) :
    ∃ (oc kV dc pm cd ct : Value) (od an : Option Addr) (sl : Array (Option Value)), K.lookup f = some ⟨oc, od, .func (PySem.W.fnOf x qual (defArgs st) (defBody st) (defScope st) .none kV dc pm an cd ct), sl⟩ ∧ PySem.W.codeIn K cd qual = true ∧ PySem.W.keepIn K (.ref f) = true := by
  obtain ⟨fd, F⟩ := F
  obtain ⟨oc, od, dV, kV, dc, pm, an, cd, ct, sl, e1, e2, e3, e4, _⟩ := F.ex
  rcases e4 with ⟨_, e5⟩ | ⟨e5, _⟩
  · subst e5
    subst e1
    exact ⟨oc, kV, dc, pm, cd, ct, od, an, sl, e2, e3, F.kp⟩
  · exact absurd rfl e5
end DL
set_option Elab.async false
set_option linter.all false
set_option maxRecDepth 100000
set_option maxHeartbeats 4000000
/-! the head of a law where more defs than one have lambdas: Ts, their code objects and tables -/
namespace DL
open PySem PySem.Spec PyProof.Rows L2 Evl LamX He
section
variable {P : Program} {w : World} {K : PySem.W.Frag} {mg mb : Str → Option Value} {CX : CXT} {k : Nat} {fa a : Addr} {Ts : List (Addr × Addr)} {fd : FuncData} {x : Str} {sp : Sp} {s1 : Shared} {vs : List Value} {ns : List Int}
theorem callTs_at (KX : K.In s1.heap) (hns : s1.heap.Ns mainGlobals mg) (hb : s1.heap.Ns builtinsNs mb) (hbb : ∀ y : Str, y ≠ "__name__" → mb y = bootBuiltins y) (lim : s1.heap.NoLimit) (gens : s1.gens = #[])
    (tab : ∀ p ∈ Ts, s1.heap.get? p.2 = some { cls := .none, data := .fields #[] }) (free_ : ∀ p ∈ Ts, K.lookup p.2 = none) (code : ∀ p ∈ Ts, PySem.W.CodeHd s1.heap p.1 p.2)
    (bmod : ∃ (bm : Addr) (ob : Obj), mg "__builtins__" = some (.ref bm) ∧ bm ≠ builtinsNs ∧ s1.heap.get? bm = some ob ∧ ob.cls = .type "module" ∧ ob.dict = some builtinsNs ∧ ob.data = .plain)
    (obj : s1.heap.get? a = some { cls := .type "list", data := .seq vs.toArray }) (room : Room k callerA)
    (F : ∀ base : Heap, K.In base → base.Ns mainGlobals mg → (∀ p ∈ Ts, TabB base mg p.1 p.2) → FnG P w K mg base CX k fa fd [x] sp) (bind : ∀ (s : Shared) (u : Value), BindsTo s fd ⟨[u], []⟩ [(x, u)])
    (out : ∀ H e s', CX [] H s1 (fun _ _ _ => False) e s' → False) (H : Hp) (atT : ∀ p ∈ Ts, H p.2 = some (.tbl #[])) (only : ∀ b, H b = none ∨ (∃ p ∈ Ts, b = p.2) ∨ ∃ o xs, H b = some (.frz o (.lst xs))) (ask : sp [.ref a] H (fun v _ => v = .bl true) fun _ _ _ => False)
    (held : HOk P w H s1.heap) (atA : ∀ b, H b ≠ none → b = a ∨ ∃ p ∈ Ts, b = p.2) (away : H a ≠ none → K.lookup a = none) :
    codeAny (model P w) callerA (.call (.ref fa) ⟨[.ref a], []⟩) (fun r s' => r = .ok (.ret (.bool true)) ∧ OldK s1.heap s'.heap ∧ s'.os = s1.os ∧ AllBare s'.gens) s1 := by
  have none_of : ∀ {b : Addr}, b ≠ a → (∀ p ∈ Ts, b ≠ p.2) → H b = none := fun {b} n1 n2 => by
    cases q : H b with
    | none => rfl
    | some u =>
      rcases atA b (by rw [q]; simp) with y | y
      · exact absurd y n1
      · obtain ⟨p, hp, y⟩ := y
        exact absurd y (n2 p hp)
  have free : ∀ {b : Addr} {o : Obj}, s1.heap.get? b = some o → b ≠ a → (∀ p ∈ Ts, b ≠ p.2) → (hidT s1.heap H).get? b = some o := fun {b o} e n1 n2 => hidT_get e (none_of n1 n2)
  -- an object that is neither a list nor a table
  have other : ∀ {b : Addr} {o : Obj}, s1.heap.get? b = some o → (∀ us n, o.data ≠ .seq us n) → o.data ≠ .fields #[] → b ≠ a ∧ ∀ p ∈ Ts, b ≠ p.2 := fun {b o} e n1 n2 => by
    refine ⟨fun y => ?_, fun p hp y => ?_⟩
    · rw [y, obj] at e
      cases e
      exact n1 _ _ rfl
    · rw [y, tab p hp] at e
      cases e
      exact n2 rfl
  have names : ∀ {b : Addr} {m : Str → Option Value}, s1.heap.Ns b m → (hidT s1.heap H).Ns b m := fun {b m} z => by
    obtain ⟨o, es, ep, e, d, r⟩ := z
    obtain ⟨n1, n2⟩ := other e (fun us n y => by rw [d] at y; cases y) (fun y => by rw [d] at y; cases y)
    exact ⟨o, es, ep, free e n1 n2, d, r⟩
  have written : K.In (hidT s1.heap H) := fun b o e => by
    refine hidT_get (KX b o e) ?_
    cases q : H b with
    | none => rfl
    | some u =>
      rcases atA b (by rw [q]; simp) with y | y
      · rw [y] at e q
        rw [away (by rw [q]; simp)] at e
        cases e
      · obtain ⟨p, hp, y⟩ := y
        rw [y, free_ p hp] at e
        cases e
  obtain ⟨mc, l1, l2⟩ := lim
  have modu : L2.Mod K mg (hidT s1.heap H) := ⟨written, names hns, ⟨mb, names hb, hbb⟩, ⟨mc, names l1, l2⟩⟩
  have TB : ∀ p ∈ Ts, TabB (hidT s1.heap H) mg p.1 p.2 := fun p hp => by
    refine ⟨?_, ?_, fun z => ?_⟩
    · obtain ⟨o, us, file, tf, flags, tg, inF, text, tt, e1, r1, r2, r3, r4⟩ := code p hp
      obtain ⟨n1, n2⟩ := other e1 (fun us' n y => by rw [r2] at y; cases y) (fun y => by
        rw [r2] at y
        cases y
        simp at r3)
      exact ⟨o, us, file, tf, flags, tg, inF, text, tt, free e1 n1 n2, r1, r2, r3, r4⟩
    · obtain ⟨bm, ob, b1, b2, b3, b4, b5, b6⟩ := bmod
      obtain ⟨n1, n2⟩ := other b3 (fun us n y => by rw [b6] at y; cases y) (fun y => by rw [b6] at y; cases y)
      have nG : bm ≠ mainGlobals := fun y => by
        obtain ⟨o, es, ep, e, d, _⟩ := hns
        rw [y, e] at b3
        cases b3
        rw [d] at b6
        cases b6
      exact ⟨bm, ob, b1, b2, nG, n2 p hp, free b3 n1 n2, b4, b5, b6⟩
    · obtain ⟨o, es, ep, e, d, _⟩ := hns
      rw [z, tab p hp] at e
      cases e
      cases d
  have env : Env0 P w K mg (hidT s1.heap H) callerA [] s1 H := ⟨rfl, modu, fun b o e => of_hidT e, Nat.le_of_eq (hidT_size _ _), trivial, fun b z => (List.not_mem_nil (show b ∈ ([] : List Addr) from z)).elim, held, .of_eq gens⟩
  refine codeAny_mono ((F _ written (names hns) TB).run callerA [] s1 H ⟨[.ref a], []⟩ [.ref a] [.ref a] _ _ rfl room env (bind s1 (.ref a)) (.cons rfl .nil) ask) fun r s2 z => ?_
  cases r with
  | error e => exact (out H e s2 z).elim
  | ok fl =>
    cases fl with
    | ret u =>
      obtain ⟨v, H2, os, bare, un, held2, rv, rfl⟩ := z
      obtain rfl : u = Value.bool true := rv
      have kept : ∀ b o, (∀ p ∈ Ts, b ≠ p.2) → s1.heap.get? b = some o → s2.heap.get? b = some o := fun b o nb e => by
        rcases only b with none_ | y | ⟨ob, xs, fz⟩
        · exact un.keep b o e none_ (by intro m; exact absurd (show b ∈ ([] : List Addr) from m) (by simp)) (by simp)
        · obtain ⟨p, hp, y⟩ := y
          exact absurd y (nb p hp)
        · obtain ⟨o1, _⟩ := held b _ fz
          obtain ⟨o2, _⟩ := held2 b _ (un.frzs b ob _ fz)
          rw [e] at o1
          cases o1
          exact o2
      have now : ∀ p ∈ Ts, ∃ more, s2.heap.get? p.2 = some { cls := .none, data := .fields (#[] ++ more) } := fun p hp => by
        obtain ⟨more, grown⟩ := un.tbls p.2 #[] (atT p hp)
        exact ⟨more, held2 p.2 _ grown⟩
      have which : ∀ b : Addr, (∃ p ∈ Ts, b = p.2) ∨ ∀ p ∈ Ts, b ≠ p.2 := fun b => by
        by_cases y : ∃ p ∈ Ts, b = p.2
        · exact .inl y
        · exact .inr fun p hp e => y ⟨p, hp, e⟩
      refine ⟨rfl, ⟨fun b o e => ?_, fun b o e => ?_⟩, os, bare⟩
      · rcases which b with ⟨p, hp, y⟩ | y
        · subst y
          rw [tab p hp] at e
          cases e
          obtain ⟨more, at_⟩ := now p hp
          exact .inr (.inl ⟨((code p hp).tab (tab p hp)).isCodeTable, rfl, #[], more, rfl, at_⟩)
        · exact .inl (kept b o y e)
      · rcases which b with ⟨p, hp, y⟩ | y
        · obtain ⟨more, at_⟩ := now p hp
          exact ⟨_, y ▸ at_⟩
        · exact ⟨o, kept b o y e⟩
    | next => exact z.elim
    | brk => exact z.elim
    | cont => exact z.elim
theorem callTs (KX : K.In s1.heap) (hns : s1.heap.Ns mainGlobals mg) (hb : s1.heap.Ns builtinsNs mb) (hbb : ∀ y : Str, y ≠ "__name__" → mb y = bootBuiltins y) (lim : s1.heap.NoLimit) (gens : s1.gens = #[])
    (tab : ∀ p ∈ Ts, s1.heap.get? p.2 = some { cls := .none, data := .fields #[] }) (free_ : ∀ p ∈ Ts, K.lookup p.2 = none) (code : ∀ p ∈ Ts, PySem.W.CodeHd s1.heap p.1 p.2)
    (bmod : ∃ (bm : Addr) (ob : Obj), mg "__builtins__" = some (.ref bm) ∧ bm ≠ builtinsNs ∧ s1.heap.get? bm = some ob ∧ ob.cls = .type "module" ∧ ob.dict = some builtinsNs ∧ ob.data = .plain)
    (obj : s1.heap.get? a = some { cls := .type "list", data := .seq vs.toArray }) (isI : IntsAre vs ns) (few : ns.length ≤ sizeLine) (room : Room k callerA)
    (F : ∀ base : Heap, K.In base → base.Ns mainGlobals mg → (∀ p ∈ Ts, TabB base mg p.1 p.2) → FnG P w K mg base CX k fa fd [x] sp) (bind : ∀ (s : Shared) (u : Value), BindsTo s fd ⟨[u], []⟩ [(x, u)])
    (ask : ∀ H : Hp, (∀ p ∈ Ts, H p.2 = some (.tbl #[])) → SqL K H a (ns.map V.int) → sp [.ref a] H (fun v _ => v = .bl true) fun _ _ _ => False) (out : ∀ H e s', CX [] H s1 (fun _ _ _ => False) e s' → False) :
    codeAny (model P w) callerA (.call (.ref fa) ⟨[.ref a], []⟩) (fun r s' => r = .ok (.ret (.bool true)) ∧ OldK s1.heap s'.heap ∧ s'.os = s1.os ∧ AllBare s'.gens) s1 := by
  have vals := vals_ints isI
  have len := isI.length
  have aT : ∀ p ∈ Ts, a ≠ p.2 := fun p hp y => by
    rw [y, tab p hp] at obj
    cases obj
  have which : ∀ b : Addr, (∃ p ∈ Ts, b = p.2) ∨ ∀ p ∈ Ts, b ≠ p.2 := fun b => by
    by_cases y : ∃ p ∈ Ts, b = p.2
    · exact .inl y
    · exact .inr fun p hp e => y ⟨p, hp, e⟩
  cases known : K.lookup a with
  | some o =>
    have e := KX a o known
    rw [obj] at e
    cases e
    let H : Hp := fun b => if (∃ p ∈ Ts, b = p.2) then some (.tbl #[]) else none
    have at_ : ∀ p ∈ Ts, H p.2 = some (.tbl #[]) := fun p hp => if_pos ⟨p, hp, rfl⟩
    have off : ∀ b, (∀ p ∈ Ts, b ≠ p.2) → H b = none := fun b n => if_neg fun ⟨p, hp, e⟩ => n p hp e
    have seq : SqL K H a (ns.map V.int) := .inr ⟨_, vs.toArray, _, known, rfl, rfl, rfl, by rw [List.size_toArray, len]; exact few, by simpa using vals⟩
    refine callTs_at KX hns hb hbb lim gens tab free_ code bmod obj room F bind out H at_ (fun b => ?_) (ask H at_ seq) (fun b u z => ?_) (fun b z => ?_) fun z => (z (off a aT)).elim
    · rcases which b with y | y
      · exact .inr (.inl y)
      · exact .inl (off b y)
    · rcases which b with ⟨p, hp, y⟩ | y
      · subst y
        rw [at_ p hp] at z
        cases z
        exact tab p hp
      · rw [off b y] at z
        cases z
    · rcases which b with y | y
      · exact .inr y
      · exact absurd (off b y) z
  | none =>
    let H : Hp := fun b => if b = a then some (.frz { cls := .type "list", data := .seq vs.toArray } (.lst (ns.map V.int))) else if (∃ p ∈ Ts, b = p.2) then some (.tbl #[]) else none
    have at_ : H a = some (.frz { cls := .type "list", data := .seq vs.toArray } (.lst (ns.map V.int))) := if_pos rfl
    have atT : ∀ p ∈ Ts, H p.2 = some (.tbl #[]) := fun p hp => (if_neg (Ne.symm (aT p hp))).trans (if_pos ⟨p, hp, rfl⟩)
    have off : ∀ b, b ≠ a → (∀ p ∈ Ts, b ≠ p.2) → H b = none := fun b n1 n2 => (if_neg n1).trans (if_neg fun ⟨p, hp, e⟩ => n2 p hp e)
    have seq : SqL K H a (ns.map V.int) := .inl (.inr ⟨_, at_⟩)
    refine callTs_at KX hns hb hbb lim gens tab free_ code bmod obj room F bind out H atT (fun b => ?_) (ask H atT seq) (fun b u z => ?_) (fun b z => ?_) fun _ => known
    · by_cases y : b = a
      · exact .inr (.inr ⟨_, _, y ▸ at_⟩)
      · rcases which b with y2 | y2
        · exact .inr (.inl y2)
        · exact .inl (off b y y2)
    · by_cases y : b = a
      · subst y
        rw [at_] at z
        cases z
        exact ⟨obj, by rw [List.length_map]; exact few, vs, _, vals, obj⟩
      · rcases which b with ⟨p, hp, y2⟩ | y2
        · subst y2
          rw [atT p hp] at z
          cases z
          exact tab p hp
        · rw [off b y y2] at z
          cases z
    · by_cases y : b = a
      · exact .inl y
      · rcases which b with y2 | y2
        · exact .inr y2
        · exact absurd (off b y y2) z
end
theorem walkTsE {l : PySem.W.OpenLaw} {n k : Nat} {q : Program} {loose : List Str} {XP : (Str → Option Value) → Heap → Prop} {YP : World → Heap → Prop} {d : DefRec} {CX : World → CXT} {x : Str}
    (most : l.most = some n) (line : n ≤ sizeLine) (plain : d.params.defaults = []) (room : Room k callerA)
    (F : ∀ (w : World) (mg : Str → Option Value) (fa : Addr) (h : Heap), YP w h → h.Ns mainGlobals mg → mg d.name = some (.ref fa) →
      ∃ (K : PySem.W.Frag) (fd : FuncData) (Ts : List (Addr × Addr)) (sp : Sp), K.In h ∧ (∀ p ∈ Ts, h.get? p.2 = some { cls := .none, data := .fields #[] }) ∧ (∀ p ∈ Ts, K.lookup p.2 = none) ∧ (∀ p ∈ Ts, PySem.W.CodeHd h p.1 p.2) ∧ (∀ (s : Shared) (u : Value), BindsTo s fd ⟨[u], []⟩ [(x, u)]) ∧
        (∀ (H : Hp) (a : Addr) (ns : List Int), ns.length ≤ n → (∀ p ∈ Ts, H p.2 = some (.tbl #[])) → SqL K H a (ns.map V.int) → sp [.ref a] H (fun v _ => v = .bl true) fun _ _ _ => False) ∧
        ∀ base : Heap, K.In base → base.Ns mainGlobals mg → (∀ p ∈ Ts, TabB base mg p.1 p.2) → FnG l.prog w K mg base (CX w) k fa fd [x] sp)
    (out : ∀ (w : World) (H : Hp) (s : Shared) (e : Value) (s' : Shared), CX w [] H s (fun _ _ _ => False) e s' → False) : PySem.W.WalkO q loose XP YP l.row.toRowW d [] (fun f vs => PySem.call f vs) := by
  apply Att.attach_call most plain
  intro w s0 s1 mg mb fa o pm cd doc a vs ns G Y ho hd hcd hmg hobj hints hlen hg
  obtain ⟨K, fd, Ts, sp, KX, t1, t2, t3, bnd, ask, hF⟩ := F w mg fa _ Y G.T.g hmg
  exact callTs KX G.T.g G.T.b G.T.builtins G.T.nolimit hg t1 t2 t3 G.T.bmain hobj hints (Nat.le_trans hlen line) room hF bnd (fun H h1 h2 => ask H a ns hlen h1 h2) fun H e s' => out w H s1 e s'
end DL
set_option Elab.async false
set_option linter.all false
set_option maxRecDepth 100000
set_option maxHeartbeats 0
namespace K16
open PySem PySem.Spec PyProof.Rows L2 Evl DL He LamX
def bodyR (s : Stmt) : List Stmt := match s with
  | .ClassDef _ _ _ b _ _ _ _ _ _ _ => b
  | _ => []
abbrev r_init : Stmt := (bodyR (topS 4)).getD 0 (.Pass ⟨0, 0, 0, 0⟩)
abbrev r__law_begun : Stmt := topS 37
abbrev r__law_draw : Stmt := topS 38
abbrev r__law_pick : Stmt := topS 39
abbrev r__law_bent_frame : Stmt := topS 51
abbrev r__law_bent_load : Stmt := topS 50
abbrev r__law_is_whole : Stmt := topS 41
abbrev r__law_is_load : Stmt := topS 46
abbrev r__law_under : Stmt := topS 44
abbrev r__law_tops : Stmt := topS 45
abbrev r__law_is_frame : Stmt := topS 47
abbrev r__law_pairs : Stmt := topS 43
abbrev r__law_sums : Stmt := topS 48
abbrev r__law_let : Stmt := topS 49
abbrev r__law_odd : Stmt := topS 42
abbrev r_is_number : Stmt := topS 6
abbrev r_is_within : Stmt := topS 7
abbrev r_check_sides : Stmt := topS 13
abbrev r_is_tuple_of : Stmt := topS 8
abbrev r_many_pairs : Stmt := topS 25
abbrev r_is_load_of : Stmt := topS 26
abbrev r_is_load : Stmt := topS 33
abbrev r_rises : Stmt := topS 9
abbrev r_packed : Stmt := topS 18
abbrev r_first_over : Stmt := topS 21
abbrev r_lanes : Stmt := topS 19
abbrev r_guards : Stmt := topS 20
abbrev r_are_apart : Stmt := topS 27
abbrev r_is_frame_of : Stmt := topS 28
abbrev r_is_frame : Stmt := topS 34
abbrev r_check_tracks : Stmt := topS 14
abbrev r_side_pairs : Stmt := topS 24
abbrev r_top_loads : Stmt := topS 29
abbrev r_greatest_loads : Stmt := topS 35
abbrev r__law_caught : Stmt := topS 40
abbrev r_law : Stmt := topS 52
def clsB (K : PySem.W.Frag) (C : Addr) : Bool :=
  eqO (PySem.W.findIn K (.ref C) "__getattribute__") (some (some (.builtin "BaseException.__getattribute__"))) && (eqO (PySem.W.findIn K (.ref C) "__getattr__") (some none) && (PySem.W.hasDictIn K C && (eqO (PySem.W.findIn K (.ref C) "__class__") (some (some (.builtin "object.__class__"))) &&
  (decide (PySem.W.mroIn K C (.type "object") = some true) && decide (PySem.W.kitOne K (.ref C) (.ref C) = some true)))))
theorem clsB_ok {K : PySem.W.Frag} {C : Addr} (h : clsB K C = true) (e : PySem.W.subIn K (.ref C) (.type "BaseException") = some true) (n : PySem.W.specialIn K (.builtin "object.__class__") "__get__" = some (some (.builtin "getset_descriptor.__get__"))) (t : PySem.W.takesIn K (.builtin "object.__class__") = some true) :
    ExcC K C ∧ PySem.W.kitOne K (.ref C) (.ref C) = some true := by
  obtain ⟨h1, h⟩ := ba h
  obtain ⟨h2, h⟩ := ba h
  obtain ⟨h3, h⟩ := ba h
  obtain ⟨h4, h⟩ := ba h
  obtain ⟨h5, h6⟩ := ba h
  exact ⟨⟨eqO_ok h1, eqO_ok h2, e, h3, eqO_ok h4, n, t, of_decide_eq_true h5⟩, of_decide_eq_true h6⟩
theorem exc_ok {K : PySem.W.Frag} {x : Str} {mg : Str → Option Value} (g : mg x = some (.ref (ga K x))) (c : (Fa.exc x).ok K = true) : ErC K mg x (ga K x) ∧ PySem.W.subIn K (.ref (ga K x)) (.type "BaseException") = some true := by
  obtain ⟨h1, h⟩ := ba c
  obtain ⟨h2, h⟩ := ba h
  obtain ⟨h3, h4⟩ := ba h
  exact ⟨⟨g, ⟨_, PySem.F.excBase_ValueError, h1⟩, h2, of_decide_eq_true h3, of_decide_eq_true h4⟩, of_decide_eq_true h3⟩
def oexB (K : PySem.W.Frag) (C : Addr) : Bool := match K.lookup C with
  | some ⟨.type "type", _, .cls cd, sl⟩ => (match cd.mro, sl.toList with
    | .ref C' :: bm, [_, _, _, _, some (.builtin n), _] => C' == C && n == "ValueError.__new__" && !cd.hasDel && cd.hasDict && PySem.HandSPX.refsVE bm
    | _, _ => false)
  | _ => false
theorem oex_of {K : PySem.W.Frag} {C : Addr} (e : oexB K C = true) : ∃ n q N bs bm sn sub ab col dd k0 k1 k2 k3 k5, K.lookup C = some (excClassObj n q C N bs bm true sn sub ab col dd k0 k1 k2 k3 k5 "ValueError.__new__") ∧ PySem.HandSPX.refsVE bm = true := by
  unfold oexB at e
  split at e
  · rename_i dd cd sl ho
    split at e
    · rename_i C' bm k0 k1 k2 k3 n k5 hm hs
      simp only [Bool.and_eq_true, beq_iff_eq, Bool.not_eq_true'] at e
      obtain ⟨⟨⟨⟨rfl, rfl⟩, hdel⟩, hd⟩, ht⟩ := e
      obtain ⟨nm, bs, mro, ns, qn, hd', sn, sub, ab, col, del⟩ := cd
      dsimp only at hm hdel hd
      subst hm hdel hd
      have hsl : sl = #[k0, k1, k2, k3, some (.builtin "ValueError.__new__"), k5] := by
        obtain ⟨l⟩ := sl
        simp only at hs
        rw [hs]
      subst hsl
      exact ⟨nm, qn, ns, bs, bm, sn, sub, ab, col, dd, k0, k1, k2, k3, k5, ho, ht⟩
    · cases e
  · cases e
def ownB (K : PySem.W.Frag) (C : Addr) (f : Str) : Bool :=
  eqO (PySem.W.findIn K (.ref C) "__init__") (some (some (.ref (ma K C "__init__")))) && (decide (PySem.W.typeIn K (.ref (ma K C "__init__")) = some (.type "function")) && (eqO (PySem.W.findIn K (.ref C) f) (some none) &&
  (eqO (PySem.W.findIn K (.ref C) "__setattr__") (some (some (.builtin "object.__setattr__"))) && (decide (PySem.W.typeIn K (.ref C) = some (.type "type")) && oexB K C))))
theorem ownB_ok {K : PySem.W.Frag} {C : Addr} {f : Str} (h : ownB K C f = true) : PySem.W.findIn K (.ref C) "__init__" = some (some (.ref (ma K C "__init__"))) ∧ PySem.W.typeIn K (.ref (ma K C "__init__")) = some (.type "function") ∧
    PySem.W.findIn K (.ref C) f = some none ∧ PySem.W.findIn K (.ref C) "__setattr__" = some (some (.builtin "object.__setattr__")) ∧ PySem.W.typeIn K (.ref C) = some (.type "type") ∧ oexB K C = true := by
  obtain ⟨h1, h⟩ := ba h
  obtain ⟨h2, h⟩ := ba h
  obtain ⟨h3, h⟩ := ba h
  obtain ⟨h4, h⟩ := ba h
  obtain ⟨h5, h6⟩ := ba h
  exact ⟨eqO_ok h1, of_decide_eq_true h2, eqO_ok h3, eqO_ok h4, of_decide_eq_true h5, h6⟩
def ceB (K : PySem.W.Frag) : Bool :=
  decide (PySem.W.specialIn K (.builtin "object.__class__") "__get__" = some (some (.builtin "getset_descriptor.__get__"))) && (decide (PySem.W.takesIn K (.builtin "object.__class__") = some true) &&
  (PySem.W.readsIn K (ga K "CallError") (.type "type") && (decide (PySem.W.specialIn K (.ref (ga K "CallError")) "__getattribute__" = some (some (.builtin "type.__getattribute__"))) && 
  (match PySem.W.findCls K (.ref (ga K "CallError")) (.type "type") "__init__" with
    | some (.val (.builtin b)) => b == "ValueError.__init__"
    | _ => false))))
theorem ceB_ok {K : PySem.W.Frag} (h : ceB K = true) : PySem.W.specialIn K (.builtin "object.__class__") "__get__" = some (some (.builtin "getset_descriptor.__get__")) ∧ PySem.W.takesIn K (.builtin "object.__class__") = some true ∧
    PySem.W.readsIn K (ga K "CallError") (.type "type") = true ∧ PySem.W.specialIn K (.ref (ga K "CallError")) "__getattribute__" = some (some (.builtin "type.__getattribute__")) ∧ PySem.W.findCls K (.ref (ga K "CallError")) (.type "type") "__init__" = some (.val (.builtin "ValueError.__init__")) := by
  obtain ⟨h1, h⟩ := ba h
  obtain ⟨h2, h⟩ := ba h
  obtain ⟨h3, h⟩ := ba h
  obtain ⟨h4, h⟩ := ba h
  refine ⟨of_decide_eq_true h1, of_decide_eq_true h2, h3, of_decide_eq_true h4, ?_⟩
  split at h
  · rename_i b e
    rw [e, beq_iff_eq.mp h]
  · cases h
def exA (K : PySem.W.Frag) : Bool := clsB K (ga K "BadSides") && (clsB K (ga K "BadTracks") && (clsB K (ga K "TooMany") && (ceB K && (PySem.W.keepIn K (.ref (ga K "TooMany")) && (decide (PySem.W.subIn K (.ref (ga K "TooMany")) (.type "BaseException") = some true) && ownB K (ga K "TooMany") "most")))))
def d_0 : DefD := ⟨("TooMany", some "__init__"), "__init__", "TooMany.__init__", defArgs r_init, defBody r_init, defScope r_init, [], []⟩
def d_1 : DefD := ⟨("_law_begun", none), "_law_begun", "_law_begun", defArgs r__law_begun, defBody r__law_begun, defScope r__law_begun, [], []⟩
def d_2 : DefD := ⟨("_law_draw", none), "_law_draw", "_law_draw", defArgs r__law_draw, defBody r__law_draw, defScope r__law_draw, [], []⟩
def d_3 : DefD := ⟨("_law_pick", none), "_law_pick", "_law_pick", defArgs r__law_pick, defBody r__law_pick, defScope r__law_pick, [], []⟩
def d_4 : DefD := ⟨("_law_bent_frame", none), "_law_bent_frame", "_law_bent_frame", defArgs r__law_bent_frame, defBody r__law_bent_frame, defScope r__law_bent_frame, [], []⟩
def d_5 : DefD := ⟨("_law_bent_load", none), "_law_bent_load", "_law_bent_load", defArgs r__law_bent_load, defBody r__law_bent_load, defScope r__law_bent_load, [], []⟩
def d_6 : DefD := ⟨("_law_is_whole", none), "_law_is_whole", "_law_is_whole", defArgs r__law_is_whole, defBody r__law_is_whole, defScope r__law_is_whole, [], []⟩
def d_7 : DefD := ⟨("_law_is_load", none), "_law_is_load", "_law_is_load", defArgs r__law_is_load, defBody r__law_is_load, defScope r__law_is_load, [], []⟩
def d_8 : DefD := ⟨("_law_under", none), "_law_under", "_law_under", defArgs r__law_under, defBody r__law_under, defScope r__law_under, [], []⟩
def d_9 : DefD := ⟨("_law_tops", none), "_law_tops", "_law_tops", defArgs r__law_tops, defBody r__law_tops, defScope r__law_tops, [], []⟩
def d_10 : DefD := ⟨("_law_is_frame", none), "_law_is_frame", "_law_is_frame", defArgs r__law_is_frame, defBody r__law_is_frame, defScope r__law_is_frame, [], []⟩
def d_11 : DefD := ⟨("_law_pairs", none), "_law_pairs", "_law_pairs", defArgs r__law_pairs, defBody r__law_pairs, defScope r__law_pairs, [], []⟩
def d_12 : DefD := ⟨("_law_sums", none), "_law_sums", "_law_sums", defArgs r__law_sums, defBody r__law_sums, defScope r__law_sums, [], []⟩
def d_13 : DefD := ⟨("_law_let", none), "_law_let", "_law_let", defArgs r__law_let, defBody r__law_let, defScope r__law_let, [], []⟩
def d_14 : DefD := ⟨("_law_odd", none), "_law_odd", "_law_odd", defArgs r__law_odd, defBody r__law_odd, defScope r__law_odd, [], []⟩
def d_15 : DefD := ⟨("is_number", none), "is_number", "is_number", defArgs r_is_number, defBody r_is_number, defScope r_is_number, [], []⟩
def d_16 : DefD := ⟨("is_within", none), "is_within", "is_within", defArgs r_is_within, defBody r_is_within, defScope r_is_within, [], []⟩
def d_17 : DefD := ⟨("check_sides", none), "check_sides", "check_sides", defArgs r_check_sides, defBody r_check_sides, defScope r_check_sides, [], []⟩
def d_18 : DefD := ⟨("is_tuple_of", none), "is_tuple_of", "is_tuple_of", defArgs r_is_tuple_of, defBody r_is_tuple_of, defScope r_is_tuple_of, [], []⟩
def d_19 : DefD := ⟨("many_pairs", none), "many_pairs", "many_pairs", defArgs r_many_pairs, defBody r_many_pairs, defScope r_many_pairs, [], []⟩
def d_20 : DefD := ⟨("is_load_of", none), "is_load_of", "is_load_of", defArgs r_is_load_of, defBody r_is_load_of, defScope r_is_load_of, [], []⟩
def d_21 : DefD := ⟨("is_load", none), "is_load", "is_load", defArgs r_is_load, defBody r_is_load, defScope r_is_load, [], []⟩
def d_22 : DefD := ⟨("rises", none), "rises", "rises", defArgs r_rises, defBody r_rises, defScope r_rises, [], []⟩
def d_23 : DefD := ⟨("packed", none), "packed", "packed", defArgs r_packed, defBody r_packed, defScope r_packed, [], []⟩
def d_24 : DefD := ⟨("first_over", none), "first_over", "first_over", defArgs r_first_over, defBody r_first_over, defScope r_first_over, [], []⟩
def d_25 : DefD := ⟨("lanes", none), "lanes", "lanes", defArgs r_lanes, defBody r_lanes, defScope r_lanes, [], []⟩
def d_26 : DefD := ⟨("guards", none), "guards", "guards", defArgs r_guards, defBody r_guards, defScope r_guards, [], []⟩
def d_27 : DefD := ⟨("are_apart", none), "are_apart", "are_apart", defArgs r_are_apart, defBody r_are_apart, defScope r_are_apart, [], []⟩
def d_28 : DefD := ⟨("is_frame_of", none), "is_frame_of", "is_frame_of", defArgs r_is_frame_of, defBody r_is_frame_of, defScope r_is_frame_of, [], []⟩
def d_29 : DefD := ⟨("is_frame", none), "is_frame", "is_frame", defArgs r_is_frame, defBody r_is_frame, defScope r_is_frame, [], []⟩
def d_30 : DefD := ⟨("check_tracks", none), "check_tracks", "check_tracks", defArgs r_check_tracks, defBody r_check_tracks, defScope r_check_tracks, [], []⟩
def d_31 : DefD := ⟨("side_pairs", none), "side_pairs", "side_pairs", defArgs r_side_pairs, defBody r_side_pairs, defScope r_side_pairs, [], []⟩
def d_32 : DefD := ⟨("top_loads", none), "top_loads", "top_loads", defArgs r_top_loads, defBody r_top_loads, defScope r_top_loads, [], []⟩
def d_33 : DefD := ⟨("greatest_loads", none), "greatest_loads", "greatest_loads", defArgs r_greatest_loads, defBody r_greatest_loads, defScope r_greatest_loads, [], []⟩
def d_34 : DefD := ⟨("_law_caught", none), "_law_caught", "_law_caught", defArgs r__law_caught, defBody r__law_caught, defScope r__law_caught, [], []⟩
def d_35 : DefD := ⟨("law", none), "law", "law", defArgs r_law, defBody r_law, defScope r_law, [], []⟩
def fnL : List DefD := [d_0, d_1, d_2, d_3, d_4, d_5, d_6, d_7, d_8, d_9, d_10, d_11, d_12, d_13, d_14, d_15, d_16, d_17, d_18, d_19, d_20, d_21, d_22, d_23, d_24, d_25, d_26, d_27, d_28, d_29, d_30, d_31, d_32, d_33, d_34, d_35]
def faL : List Fa := [.glo "_law_begun", .glo "_law_draw", .glo "_law_pick", .glo "_law_bent_frame", .glo "_law_bent_load", .glo "_law_is_whole", .glo "_law_is_load", .glo "_law_under", .glo "_law_tops", .glo "_law_is_frame", .glo "_law_pairs", .glo "_law_sums", .glo "_law_let", .glo "_law_odd", .glo "is_number", .glo "is_within", .glo "check_sides", .glo "is_tuple_of", .glo "many_pairs", .glo "is_load_of", .glo "is_load", .glo "rises", .glo "packed", .glo "first_over", .glo "lanes", .glo "guards", .glo "are_apart", .glo "is_frame_of", .glo "is_frame", .glo "check_tracks", .glo "side_pairs", .glo "top_loads", .glo "greatest_loads", .glo "_law_caught", .glo "law", .free "isinstance", .free "int", .free "bool", .free "tuple", .free "list", .free "len", .free "range", .free "zip", .free "max", .free "min", .free "sum", .free "abs", .free "repr", .free "enumerate", .free "sorted", .free "set", .int "MOST_NUMBER" 99, .int "MOST_SIDES" 5, .int "MOST_TRACKS" 6, .int "MOST_LET" 20000, .int "MOST_FOR_FIVE" 4, .int "WIDTH" 8, .int "GUARD" 128, .glo "BadSides", .glo "BadTracks", .glo "CallError", .glo "TooMany", .exc "BadSides", .exc "BadTracks", .exm "BadSides" "CallError" true, .exm "BadTracks" "CallError" true, .exm "TooMany" "CallError" true]
def tfL : List Defn := [("law", none)]
abbrev RR : PySem.W.OpenRow := PySem.W.OpenLaw.row PySem.Challenge.rw_allcalls_k03_loads_and_frames_judged
abbrev vq : Program := PySem.W.view RR.prog [52]
def names0 : List Str := [Str.ofString "CallError", Str.ofString "BadSides", Str.ofString "BadTracks", Str.ofString "TooMany", Str.ofString "is_number", Str.ofString "is_within", Str.ofString "is_tuple_of", Str.ofString "rises", Str.ofString "MOST_SIDES", Str.ofString "MOST_TRACKS", Str.ofString "check_sides", Str.ofString "check_tracks"]
def names1 : List Str := [Str.ofString "WIDTH", Str.ofString "GUARD", Str.ofString "packed", Str.ofString "lanes", Str.ofString "guards", Str.ofString "first_over", Str.ofString "MOST_NUMBER", Str.ofString "side_pairs", Str.ofString "many_pairs", Str.ofString "is_load_of", Str.ofString "are_apart", Str.ofString "is_frame_of"]
def names2 : List Str := [Str.ofString "top_loads", Str.ofString "MOST_LET", Str.ofString "MOST_FOR_FIVE", Str.ofString "is_load", Str.ofString "is_frame", Str.ofString "greatest_loads", Str.ofString "_law_begun", Str.ofString "_law_draw", Str.ofString "_law_pick", Str.ofString "_law_caught", Str.ofString "_law_is_whole", Str.ofString "_law_odd"]
def names3 : List Str := [Str.ofString "_law_pairs", Str.ofString "_law_under", Str.ofString "_law_tops", Str.ofString "_law_is_load", Str.ofString "_law_is_frame", Str.ofString "_law_sums", Str.ofString "_law_let", Str.ofString "_law_bent_load", Str.ofString "_law_bent_frame"]
def nameL : List Str := names0 ++ names1 ++ names2 ++ names3
theorem run1 (w : World) (os : OsState) : (lastY RR 24000 w os).map (fun s => (HandSHeadRun.looksF RR.prog (PySem.W.boot_heap w.params) s.abs, HandSHeadRun.seenQ vq nameL (importedModules RR.prog.main.body) (fun s => PySem.W.xlAt vq [] s && PySem.W.recOk RR.toRowW.records s) s.abs)) = some (true, PySem.W.openGood vq nameL) := by
  kernel_rfl
theorem run2 (w : World) (os : OsState) : (lastY RR 24000 w os).map (fun s => obsD faL fnL (fragY (HandSHeadRun.getT s) 5)) = some (valD fnL) := by
  kernel_rfl
theorem run3 (w : World) (os : OsState) : (lastY RR 24000 w os).map (fun s => exA (fragY (HandSHeadRun.getT s) 5)) = some true := by
  kernel_rfl
theorem run4 (w : World) (os : OsState) : (lastY RR 24000 w os).map (fun s => tabsB (HandSHeadRun.getT s) tfL (fragY (HandSHeadRun.getT s) 5)) = some true := by
  kernel_rfl
theorem run (w : World) : HandSHeadRun.RunEq RR vq (hookY 5 faL fnL tfL exA) (seeY 5 faL fnL tfL exA) 24000 nameL w := run_of (run1 w) (run2 w) (run3 w) (run4 w)
end K16
set_option Elab.async false
set_option linter.all false
set_option maxRecDepth 100000
set_option maxHeartbeats 4000000
namespace K16
open PySem PySem.Spec PyProof.Rows L2 Evl DL
local macro_rules | `(tactic| walk_at "dl") => `(tactic| first
  | exact ev_c | exact ev_var rfl | exact eda_nil
  | exact ed_var rfl (by assumption)
  | exact ed_int ev_c | exact ed_int (ev_var rfl)
  | (refine eda_cons ?_ ?_ <;> walk_at "dl")
  | (refine ed_int ?_; walk_at "dl")
  | (refine ev_op ?_ ?_ rv_I0 <;> walk_at "dl"))

section
variable {P : Program} {w : World} {K : PySem.W.Frag} {mg : Str → Option Value} {base : Heap}
variable {CB CL CR : Addr}
def plc (s a b : Int) : Int := a * (2 * s - a - 1) / 2 + b - a - 1
def R_pair_place (ds : List PyData) (r : PyData) : Prop := ∃ s a b : Int, ds = [.int s, .int a, .int b] ∧ (0 ≤ a ∧ a ≤ 1000) ∧ r = .int (plc s a b)
def pD (p : Int × Int) : PyData := tI [p.1, p.2]
def prs (s : Int) : List (Int × Int) := (List.range s.toNat).flatMap fun (i : Nat) => (List.range (s - ((i : Int) + 1)).toNat).map fun (j : Nat) => ((i : Int), (i : Int) + 1 + (j : Int))
def np (s : Int) : Nat := (prs s).length
def R_side_pairs (ds : List PyData) (r : List PyData) : Prop := ∃ s : Int, ds = [.int s] ∧ 0 ≤ s ∧ s ≤ 5 ∧ r = (prs s).map pD
abbrev s_side_pairs : Stmt := topS 24
abbrev N_side_pairs : List Str := ["sides", "side", "far"]
theorem sc_side_pairs : FnScope N_side_pairs ["sides"] (defScope s_side_pairs) := ⟨rfl, rfl, rfl, by decide +kernel, rfl, by decide +kernel, by decide +kernel⟩
theorem ok_side_pairs {f : Addr} {fd : FuncData} (F : Fun K "side_pairs" "side_pairs" s_side_pairs f fd) (T : Txt mg)
      :
    FnOk P w K mg base CX0 1 f fd ["sides"] (spN K 1 R_side_pairs) := by
  refine F.ok sc_side_pairs (fun vs H Q E h => spN_len h) (fun cdv A outer s H vs Q E hr h => ?_)
  obtain ⟨ds, r, hd, _, ⟨x, rfl, h1, h2, rfl⟩, k⟩ := h
  obtain rfl := dpa_ints (l := [x]) hd
  refine ⟨_, (pss_one (ps_ret (pe_lc2 (own := [("side", 1), ("far", 2)]) (vs1 := [2]) (g := (gName 1)) (tt := tYes) (g1 := (gName 2)) (tt1 := tYes) rfl sc_side_pairs.nd (pi_range1 (by rfl) T.b_range (pa_cons (pv 0) pa_nil)) (blkOk_by (N := N_side_pairs) (sc := defScope s_side_pairs) (by decide +kernel)) (by decide) (fun _ _ _ _ _ => (pg_name (i := 1) sc_side_pairs.nd rfl (Or.inl rfl))) (fun _ _ _ _ _ => pts_nil) (fun _ _ _ _ _ => (pi_range2 (by rfl) T.b_range (pa_cons (pe_op op_add (pv 1) pe_int) (pa_cons (pv 0) pa_nil)))) (fun _ _ _ _ _ => (pg_name (i := 2) sc_side_pairs.nd rfl (Or.inl rfl))) (fun _ _ _ _ _ => pts_nil) (fun _ _ _ _ _ => (pe_tup (pa_cons (pv 1) (pa_cons (pv 2) pa_nil))))))), ?_⟩
  refine n_ret (en_is (en_lc2 (ei_rng1 (n := x) (by walk_at "dl") (by omega)) (immAll_map (fun _ => by simp [imm]) _) (fun i => (List.range (x - ((i : Int) + 1)).toNat).map fun (j : Nat) => PyData.int ((i : Int) + 1 + (j : Int)))
    (fun i => immAll_map (fun _ => by simp [imm]) _) (fun i j => tI [(i : Int), (i : Int) + 1 + (j : Int)]) (fun i j => imm_tI _) (fun i => by rw [List.length_map, List.length_range]; omega) (by rw [List.length_map, List.length_range]; omega)
    (fun _ => rfl) (fun _ _ => rfl) fun i d y H3 hd1 hd2 => ?_) ?_) k
  · have hlt : i < x.toNat := by
      have := (List.getElem?_eq_some_iff.mp hd1).1
      simpa using this
    rw [rng_get hlt] at hd1
    cases hd1
    cases hd2
    refine ⟨fun S hS => ei_rng2 (m := (i : Int) + 1) (n := x) (eda_cons (ed_int (ev_op (ev_var rfl) ev_c rv_I0)) (eda_cons (ed_int (ev_var rfl)) eda_nil)) (by omega), fun j d' y H5 hj hx hy => ?_⟩
    have hlt2 : j < (x - ((i : Int) + 1)).toNat := by
      have := (List.getElem?_eq_some_iff.mp hj).1
      simpa using this
    rw [rng_get hlt2] at hj
    cases hj
    cases hy
    exact ed_tup (eda_cons (ed_int (ev_var rfl)) (eda_cons (ed_int (ev_var rfl)) eda_nil)) (by simp)
  · unfold prs
    rw [List.map_flatMap, List.length_map, List.length_range]
    congr 1
    funext i
    rw [List.map_map, List.length_map, List.length_range]
    rfl

theorem np_all : np 2 = 1 ∧ np 3 = 3 ∧ np 4 = 6 ∧ np 5 = 10 := by decide
def R_many_pairs (ds : List PyData) (r : PyData) : Prop := ∃ s : Int, ds = [.int s] ∧ 2 ≤ s ∧ s ≤ 5 ∧ r = .int ((np s : Nat) : Int)
abbrev s_many_pairs : Stmt := topS 25
abbrev N_many_pairs : List Str := ["sides"]
theorem sc_many_pairs : FnScope N_many_pairs ["sides"] (defScope s_many_pairs) := ⟨rfl, rfl, rfl, by decide +kernel, rfl, by decide +kernel, by decide +kernel⟩
theorem ok_many_pairs {f : Addr} {fd : FuncData} (F : Fun K "many_pairs" "many_pairs" s_many_pairs f fd) (T : Txt mg)
      :
    FnOk P w K mg base CX0 1 f fd ["sides"] (spD K 1 R_many_pairs) := by
  refine F.ok sc_many_pairs (fun vs H Q E h => spD_len h) (fun cdv A outer s H vs Q E hr h => ?_)
  obtain ⟨ds, r, hd, _, ⟨x, rfl, h1, h2, rfl⟩, k⟩ := h
  obtain rfl := dpa_ints (l := [x]) hd
  refine ⟨_, (pss_one (ps_ret (pe_op op_fdiv (pe_op op_mul (pv 0) (pe_op op_sub (pv 0) pe_int)) pe_int))), ?_⟩
  refine d_ret (d := .int ((np x : Nat) : Int)) (ed_int ?_) k
  have i1 : Ev (tOp (rI0 fun i j => .int (i - j)) (tVar 0) (tC (.int 1))) (L2.start N_many_pairs (List.map V.int [x])) H (.int (x - 1)) := ev_op (ev_var rfl) ev_c rv_I0
  have i2 := ev_op (r := rI CMul fun i j => .int (i * j)) (ev_var (i := 0) (v := .int x) rfl) i1 (rv_I (.inl (by omega)))
  have i3 := ev_op (r := rI CDiv fun i j => .int (i / j)) i2 (ev_c (v := .int 2)) (rv_I (by unfold CDiv; omega))
  refine ev_is i3 ?_
  have hs' : x = 2 ∨ x = 3 ∨ x = 4 ∨ x = 5 := by omega
  rcases hs' with rfl | rfl | rfl | rfl
  · rw [np_all.1] <;> rfl
  · rw [np_all.2.1] <;> rfl
  · rw [np_all.2.2.1] <;> rfl
  · rw [np_all.2.2.2] <;> rfl

def R_no_wires (ds : List PyData) (r : PyData) : Prop := ∃ s : Int, ds = [.int s] ∧ 2 ≤ s ∧ s ≤ 5 ∧ r = tI (List.replicate (np s) 0)
theorem np_le {s : Int} (h1 : 2 ≤ s) (h2 : s ≤ 5) : 1 ≤ np s ∧ np s ≤ 10 := by
  have : s = 2 ∨ s = 3 ∨ s = 4 ∨ s = 5 := by omega
  rcases this with rfl | rfl | rfl | rfl <;> decide
theorem et_is {t : TT} {σ : L2.St} {H : Hp} {a b : Bool} (h : EvT t σ H a) (e : a = b) : EvT t σ H b := e ▸ h
/-- not isinstance(x, int) or isinstance(x, bool) or x < 0 or x > 99 -/
theorem within_test {σ : L2.St} {H : Hp} {te tm : TE} {e : PyData} (h : EvD K te σ H e) (hm : Ev tm σ H (.int 99)) :
    EvT (tOr (tNot (tB (tCB (rIsi K) (tCons te (tCons (tC (.ty "int")) tNil))))) (tOr (tB (tCB (rIsi K) (tCons te (tCons (tC (.ty "bool")) tNil)))) (tOr (tTest (tOp (rI0 fun i j => V.bl (decide (i < j))) te (tC (.int 0)))) (tTest (tOp (rI0 fun i j => V.bl (decide (j < i))) te tm))))) σ H (!isIn e 0 99) := by
  have one : EvT (tNot (tB (tCB (rIsi K) (tCons te (tCons (tC (.ty "int")) tNil))))) σ H (!(isNum e || isBool e)) := et_not (et_B (ev_isiD h (kit_int e)))
  have two : EvT (tB (tCB (rIsi K) (tCons te (tCons (tC (.ty "bool")) tNil)))) σ H (isBool e) := et_B (ev_isiD h (kit_bool e))
  cases e with
  | int i =>
    refine et_is (et_or (b := (false || (decide (i < 0) || decide (99 < i)))) one fun _ => et_or (b := decide (i < 0) || decide (99 < i)) two fun _ => et_or (et_test (ev_op (EvD.int h) ev_c rv_I0)) fun _ => et_test (ev_op (EvD.int h) hm rv_I0)) ?_
    show (false || (false || (decide (i < 0) || decide (99 < i)))) = !(decide (0 ≤ i) && decide (i ≤ 99))
    by_cases h1 : i < 0
    · simp [h1, Int.not_le.mpr h1]
    · by_cases h2 : 99 < i
      · simp [h1, h2, Int.not_le.mpr h2]
      · simp [h1, h2, Int.not_lt.mp h1, Int.not_lt.mp h2]
  | bool b => exact et_is (et_or (b := true) one fun _ => et_is (et_or (b := true) two fun z => nomatch z) rfl) rfl
  | none => exact et_is (et_or (b := true) one fun z => nomatch z) rfl
  | str x => exact et_is (et_or (b := true) one fun z => nomatch z) rfl
  | list xs => exact et_is (et_or (b := true) one fun z => nomatch z) rfl
  | tuple xs => exact et_is (et_or (b := true) one fun z => nomatch z) rfl
  | dict xs => exact et_is (et_or (b := true) one fun z => nomatch z) rfl
/-- a load of so many sides -/
def Ld (s : Int) (l : List Int) : Prop := l.length = np s ∧ ∀ x ∈ l, 0 ≤ x ∧ x ≤ 99
def ldOk (s : Int) (d : PyData) : Bool := match d with
  | .tuple es => decide (es.length = np s) && es.all (fun e => isIn e 0 99)
  | _ => false
def R_is_load_of (ds : List PyData) (r : PyData) : Prop := ∃ (s : Int) (d : PyData), ds = [.int s, d] ∧ 2 ≤ s ∧ s ≤ 5 ∧ r = .bool (ldOk s d)
theorem ldOk_tI {s : Int} {l : List Int} (h : Ld s l) : ldOk s (tI l) = true := by
  show (decide ((dI l).length = np s) && (dI l).all (fun e => isIn e 0 99)) = true
  rw [decide_eq_true (by rw [dI, List.length_map]; exact h.1), Bool.true_and, List.all_eq_true]
  intro e he
  obtain ⟨x, hx, rfl⟩ := List.mem_map.mp he
  have := h.2 x hx
  simp [isIn, this.1, this.2]
/-- what is a load is a tuple of such numbers -/
theorem ldOk_of {s : Int} {d : PyData} (h : ldOk s d = true) : ∃ l, d = tI l ∧ Ld s l := by
  cases d with
  | tuple es =>
    have h : (decide (es.length = np s) && es.all (fun e => isIn e 0 99)) = true := h
    rw [Bool.and_eq_true, decide_eq_true_eq, List.all_eq_true] at h
    obtain ⟨h1, h2⟩ := h
    have all : ∀ es : List PyData, (∀ e ∈ es, isIn e 0 99 = true) → ∃ l : List Int, es = dI l ∧ ∀ x ∈ l, 0 ≤ x ∧ x ≤ 99 := fun es => by
      induction es with
      | nil => exact fun _ => ⟨[], rfl, fun x hx => by simp at hx⟩
      | cons e es ih =>
        intro h
        obtain ⟨l, e1, e2⟩ := ih fun e he => h e (List.mem_cons_of_mem _ he)
        have := h e List.mem_cons_self
        cases e with
        | int i =>
          have b : (decide ((0 : Int) ≤ i) && decide (i ≤ 99)) = true := this
          rw [Bool.and_eq_true, decide_eq_true_eq, decide_eq_true_eq] at b
          refine ⟨i :: l, by rw [e1]; rfl, fun x hx => ?_⟩
          rcases List.mem_cons.mp hx with rfl | hx
          · exact b
          · exact e2 x hx
        | _ => cases this
    obtain ⟨l, rfl, e2⟩ := all es h2
    exact ⟨l, rfl, by simpa [dI] using h1, e2⟩
  | _ => cases h
/-- a tuple that is read, whatever its items -/
theorem ei_tupD {σ : L2.St} {H : Hp} {te : TE} {ds : List PyData} (h : EvD K te σ H (.tuple ds)) : EvI K (iTup K te) σ H [] ds := fun H1 e R r =>
  h H1 e _ fun w H2 e2 hw => by
    cases hw with
    | tup hs ha =>
      refine ⟨_, rfl, ⟨_, hs⟩, r _ H2 e2 ?_⟩
      rw [← dpa_len ha]
      refine walk_tup.mono (fun Ha x => ex_t x.to_ex hs) fun i Ha x Hb hlt hg y => ?_
      obtain ⟨rfl, hx⟩ := y
      obtain ⟨d, hd1, hd2⟩ := dpa_getV (dpa_ex hg.to_ex _ _ ha) hx
      exact ⟨Ex.refl _, d, hd1, hd2⟩
abbrev s_is_load_of : Stmt := topS 26
abbrev N_is_load_of : List Str := ["sides", "thing", "number"]
theorem sc_is_load_of : FnScope N_is_load_of ["sides", "thing"] (defScope s_is_load_of) := ⟨rfl, rfl, rfl, by decide +kernel, rfl, by decide +kernel, by decide +kernel⟩
theorem ok_is_load_of {f : Addr} {fd : FuncData} (F : Fun K "is_load_of" "is_load_of" s_is_load_of f fd) (T : Txt mg)
    (D_is_tuple_of : DF P w K mg base "is_tuple_of" 1 ["thing", "many"] (spD K 2 R_is_tuple_of)) (D_many_pairs : DF P w K mg base "many_pairs" 1 ["sides"] (spD K 1 R_many_pairs))  :
    FnOk P w K mg base CX0 2 f fd ["sides", "thing"] (spD K 2 R_is_load_of) := by
  refine F.ok sc_is_load_of (fun vs H Q E h => spD_len h) (fun cdv A outer s H vs Q E hr h => ?_)
  obtain ⟨ds, r, hd, _, ⟨x, d, rfl, h1, h2, rfl⟩, k⟩ := h
  obtain ⟨v0, v1, rfl, d0, d1⟩ := dpa_two hd
  cases dp_int d0
  refine ⟨_, (pss_cons (ps_if (pt_not (pt_val (pe_D D_is_tuple_of (hr.mono (by decide)) (by rfl) (pa_cons (pv 1) (pa_cons (pe_D D_many_pairs (hr.mono (by decide)) (by rfl) (pa_cons (pv 0) pa_nil)) pa_nil))))) (pss_one (ps_ret pe_bl)) pss_nil)
      (pss_cons (ps_for PassesOwn.never rfl (pi_tup (pv 1)) (pg_name (i := 2) sc_is_load_of.nd rfl (Or.inl rfl)) (pss_one (ps_if (PW.pt (pw_or (pt_not (pt_val (pe_callB call_isi (by rfl) T.b_isinstance (by decide +kernel) (pa_cons (pv 2) (pa_cons (pe_bltn (v := .ty "int") (u := .type "int") (by rfl) T.b_int (by decide +kernel) rfl) pa_nil))))) (pw_or (pt_val (pe_callB call_isi (by rfl) T.b_isinstance (by decide +kernel) (pa_cons (pv 2) (pa_cons (pe_bltn (v := .ty "bool") (u := .type "bool") (by rfl) T.b_bool (by decide +kernel) rfl) pa_nil)))) (pw_or (pt_cmpR op_lt (pv 2) pe_int (nomark _)) (pw_or1 (pt_cmpR op_gt (pv 2) (pe_const T.c_MOST_NUMBER (by rfl)) (nomark _))))))) (pss_one (ps_ret pe_bl)) pss_nil)))
      (pss_one (ps_ret pe_bl)))), ?_⟩
  refine q_when (b := !isTupOf d ((np x : Nat) : Int)) (et_not (et_B (EvD.bool (ed_call (K := K) (R := R_is_tuple_of) (ds := [d, .int ((np x : Nat) : Int)]) (eda_cons (ed_var (v := v1) rfl d1) (eda_cons (ed_call (R := R_many_pairs) (ds := [.int x]) (by walk_at "dl") rfl ⟨x, rfl, h1, h2, rfl⟩) eda_nil)) rfl ⟨d, _, rfl, rfl⟩)))) (fun hb H1 e1 => ?_) fun hb H1 e1 => ?_
  · have hb : isTupOf d ((np x : Nat) : Int) = false := by simpa using hb
    have lo : ldOk x d = false := by
      cases d with
      | tuple es =>
        have : ¬ ((es.length : Int) = ((np x : Nat) : Int)) := of_decide_eq_false hb
        show (decide (es.length = np x) && _) = false
        rw [decide_eq_false (fun z => this (by rw [z]))]
        rfl
      | _ => rfl
    rw [lo] at k
    exact d_ret (K := K) (ed_bool ev_c) fun v H2 e2 hv => k v H2 (e1.trans e2) hv
  · have hb : isTupOf d ((np x : Nat) : Int) = true := by simpa using hb
    cases d with
    | tuple es =>
      have len : es.length = np x := by
        have := of_decide_eq_true hb
        omega
      have lo : ldOk x (.tuple es) = es.all (fun e => isIn e 0 99) := by
        show (decide (es.length = np x) && _) = _
        rw [decide_eq_true len]
        rfl
      rw [lo] at k
      refine e_for (ei_tupD (K := K) (ed_var (v := v1) rfl (dp_ex e1 _ _ d1))) (fun H2 i σ' Ha => Ex H2 Ha ∧ (∀ j, j < i → ∀ e, es[j]? = some e → isIn e 0 99 = true) ∧ ∃ y, σ' = [some (.int x), some v1, y]) (fun H2 e2 => ⟨Ex.refl _, fun j hj => absurd hj (by omega), none, rfl⟩) (fun H2 i σ' Ha _ p => Xp.of_ex p.1) ?_ ?_
      · rintro H2 i e y σ' Ha Hb e2 he ⟨p1, pn, z, rfl⟩ e3 hy
        refine s_when (b := !isIn e 0 99) (within_test (ed_var (v := y) rfl hy) ev_c) (fun hn H4 e4 => ?_) fun hn H4 e4 => ?_
        · have hn : isIn e 0 99 = false := by simpa using hn
          have al : es.all (fun e => isIn e 0 99) = false := by
            rw [List.all_eq_false]
            exact ⟨e, List.mem_of_getElem? he, by simp [hn]⟩
          rw [al] at k
          exact d_ret (K := K) (ed_bool ev_c) fun v H5 e5 hv => k v H5 (((((e1.trans e2).trans p1).trans e3).trans e4).trans e5) hv
        · refine ⟨(p1.trans e3).trans e4, fun j hj e' he' => ?_, _, rfl⟩
          by_cases hji : j = i
          · subst hji
            rw [he] at he'
            cases he'
            simpa using hn
          · exact pn j (by omega) e' he'
      · rintro H2 σ' Ha e2 ⟨p1, pn, z, rfl⟩
        have al : es.all (fun e => isIn e 0 99) = true := by
          rw [List.all_eq_true]
          intro e he
          obtain ⟨j, hj, rfl⟩ := List.getElem_of_mem he
          exact pn j hj _ (List.getElem?_eq_getElem hj)
        rw [al] at k
        exact d_ret (K := K) (ed_bool ev_c) fun v H3 e3 hv => k v H3 (((e1.trans e2).trans p1).trans e3) hv
    | _ => cases hb

def R_check_load (ds : List PyData) (r : PyData) : Prop := ∃ (s : Int) (l : List Int), ds = [.int s, tI l] ∧ 2 ≤ s ∧ s ≤ 5 ∧ Ld s l ∧ r = .none
def B_check_load (CL : Addr) (ds : List PyData) (C : Addr) : Prop := ∃ (s : Int) (d : PyData), ds = [.int s, d] ∧ 2 ≤ s ∧ s ≤ 5 ∧ ldOk s d = false ∧ C = CL
end
end K16
set_option Elab.async false
set_option linter.all false
set_option maxRecDepth 100000
set_option maxHeartbeats 4000000
namespace K16
open PySem PySem.Spec PyProof.Rows L2 Evl DL
local macro_rules | `(tactic| walk_at "dl") => `(tactic| first
  | exact ev_c | exact ev_var rfl | exact eda_nil
  | exact ed_var rfl (by assumption)
  | exact ed_int ev_c | exact ed_int (ev_var rfl)
  | (refine eda_cons ?_ ?_ <;> walk_at "dl")
  | (refine ed_int ?_; walk_at "dl")
  | (refine ev_op ?_ ?_ rv_I0 <;> walk_at "dl"))

/-- two lists of ints, item by item -/
def zw (f : Int → Int → Int) (a b : List Int) : List Int := List.zipWith f a b
theorem pairs_get {a b : List Int} {i : Nat} {d : PyData} (h : (List.zipWith (fun x y => PyData.tuple [.int x, .int y]) a b)[i]? = some d) : ∃ x y, a[i]? = some x ∧ b[i]? = some y ∧ d = .tuple [.int x, .int y] := by
  rw [List.getElem?_zipWith] at h
  cases h1 : a[i]? with
  | none => rw [h1] at h; simp at h
  | some x =>
    cases h2 : b[i]? with
    | none => rw [h1, h2] at h; simp at h
    | some y => rw [h1, h2] at h; exact ⟨x, y, rfl, rfl, by simpa using h.symm⟩
theorem range_zip (f : Int → Int → Int) : ∀ (a b : List Int), (List.range (min a.length b.length)).map (fun i => f (a.getD i 0) (b.getD i 0)) = zw f a b := fun a b => by
  apply List.ext_getElem?
  intro i
  rw [List.getElem?_map, zw, List.getElem?_zipWith]
  by_cases h : i < min a.length b.length
  · have h1 : i < a.length := by omega
    have h2 : i < b.length := by omega
    rw [List.getElem?_range h, List.getElem?_eq_getElem h1, List.getElem?_eq_getElem h2]
    simp [List.getD_eq_getElem?_getD, h1, h2]
  · have h3 : ¬ (i < a.length ∧ i < b.length) := by omega
    rw [List.getElem?_eq_none (by simpa using h)]
    by_cases h1 : i < a.length
    · have h2 : b[i]? = none := List.getElem?_eq_none (by omega)
      rw [h2]
      cases a[i]? <;> rfl
    · rw [List.getElem?_eq_none (by omega : a.length ≤ i)]
      rfl
section
variable {K : PySem.W.Frag} {σ : L2.St} {H : Hp} {ta tb te : TE} {a b : List Int}
/-- zip of two tuples of ints -/
theorem ei_zipTT {S : List Addr} (hS : Ls H S) (ha : EvD K ta σ H (tI a)) (hb : EvD K tb σ H (tI b)) : EvI K (iZipM K true true (tCons ta (tCons tb tNil))) σ H S (List.zipWith (fun x y => PyData.tuple [.int x, .int y]) a b) := fun H1 e R r =>
  ha H1 e _ fun x H2 e2 hx => hb H2 (e.trans e2) _ fun y H3 e3 hy => by
    obtain ⟨p, rfl, h1⟩ := dp_tI hx
    obtain ⟨q, rfl, h2⟩ := dp_tI hy
    have h1 := ex_t e3 h1
    refine ⟨p, q, _, _, rfl, sqa_t h1, sqa_t h2, r _ H3 (e2.trans e3) ?_⟩
    rw [List.length_zipWith]
    have w := walk_zipM (K := K) (a := p) (b := q) (t := true) (u := true) (xs := a.map V.int) (ys := b.map V.int) (n := min a.length b.length) (by simp)
    refine w.mono (fun Ha x => ⟨sqT_tx (x.tx (hS.ex ((e.trans e2).trans e3))) h1, sqT_tx (x.tx (hS.ex ((e.trans e2).trans e3))) h2⟩) fun i Ha v Hb hlt hg y => ?_
    obtain ⟨T, v1, v2, rfl, hT, rfl, g1, g2⟩ := y
    simp only [List.getElem?_map] at g1 g2
    obtain ⟨n1, m1, rfl⟩ := Option.map_eq_some_iff.mp g1
    obtain ⟨n2, m2, rfl⟩ := Option.map_eq_some_iff.mp g2
    refine ⟨Ex.new hT, .tuple [.int n1, .int n2], ?_, .tup (st_of upd_same) (.cons (.int _) (.cons (.int _) .nil))⟩
    rw [List.getElem?_zipWith, m1, m2]
end
section
variable {P : Program} {w : World} {K : PySem.W.Frag} {mg : Str → Option Value} {base : Heap}
def R_summed (ds : List PyData) (r : PyData) : Prop := ∃ a b : List Int, ds = [tI a, tI b] ∧ a.length ≤ 100 ∧ r = tI (zw (· + ·) a b)
theorem cut_lo (ds : List PyData) (p : Nat) (h : p ≤ ds.length) : DL.cutD ds none (some (p : Int)) = ds.take p := by
  unfold DL.cutD
  rw [HT.sIx_none, HT.sIx_nat, Nat.min_eq_left h]
  rfl
theorem cut_hi (ds : List PyData) (p : Nat) (h : p ≤ ds.length) : DL.cutD ds (some (p : Int)) none = ds.drop p := by
  unfold DL.cutD
  rw [HT.sIx_none, HT.sIx_nat, Nat.min_eq_left h]
  exact List.take_of_length_le (by simp)
def R_raised (ds : List PyData) (r : PyData) : Prop := ∃ (l : List Int) (p : Nat) (y : Int), ds = [tI l, .int (p : Int), .int y] ∧ p < l.length ∧ l.length ≤ 100 ∧ r = tI (l.set p (l.getD p 0 + y))
end

/-- the greatest -/
def mxl : List Int → Int
  | [] => 0
  | x :: r => r.foldl max x
theorem foldl_max_ge : ∀ (r : List Int) (x : Int), x ≤ r.foldl max x ∧ (∀ y ∈ r, y ≤ r.foldl max x) ∧ (r.foldl max x = x ∨ r.foldl max x ∈ r)
  | [], x => ⟨Int.le_refl _, fun y hy => by simp at hy, .inl rfl⟩
  | y :: r, x => by
    obtain ⟨h1, h2, h3⟩ := foldl_max_ge r (max x y)
    rw [List.foldl_cons]
    refine ⟨by omega, fun z hz => ?_, ?_⟩
    · rcases List.mem_cons.mp hz with rfl | hz
      · omega
      · exact h2 z hz
    · rcases h3 with h3 | h3
      · rw [h3]
        by_cases h : y ≤ x
        · exact .inl (by omega)
        · exact .inr (List.mem_cons.mpr (.inl (by omega)))
      · exact .inr (List.mem_cons_of_mem _ h3)
theorem mxl_mem {l : List Int} (h : 0 < l.length) : mxl l ∈ l := by
  cases l with
  | nil => simp at h
  | cons x r =>
    rcases (foldl_max_ge r x).2.2 with e | e
    · exact List.mem_cons.mpr (.inl e)
    · exact List.mem_cons_of_mem _ e
theorem mxl_ge {l : List Int} {y : Int} (h : y ∈ l) : y ≤ mxl l := by
  cases l with
  | nil => simp at h
  | cons x r =>
    rcases List.mem_cons.mp h with rfl | h
    · exact (foldl_max_ge r y).1
    · exact (foldl_max_ge r x).2.1 y h
section
variable {K : PySem.W.Frag} {σ : L2.St} {H H2 Ha : Hp} {ta tb te : TE}
theorem xp_fresh {p : Addr} (e : Ex H H2) (x : Xp [p] H2 Ha) (h : H p = none) : Ex H Ha := fun a o ho => x a o (e a o ho) (fun hm => by
  have : a = p := by simpa using hm
  rw [this, h] at ho
  cases ho)
/-- xs[i] op= e, a list of ints -/
theorem d_augL {D : Ends} {f : Int → Int → Int} {l : Addr} {ns : List Int} {a b j : Nat} {y : Int} (hl : H l = some (.lst (ns.map V.int))) (ho : σ[a]? = some (some (.ref l))) (hi : σ[b]? = some (some (.int (j : Int)))) (hj : j < ns.length) (he : Ev te σ H (.int y))
    (k : ∀ H1, Ex H H1 → D.nx σ (upd H1 l (.lst ((ns.set j (f (ns.getD j 0) y)).map V.int)))) : tAugS (tVar a) (tVar b) te (rGetL K) (ipI f) rSetL D σ H := by
  have g : (ns.map V.int)[j]? = some (.int (ns.getD j 0)) := by
    rw [List.getElem?_map, List.getElem?_eq_getElem hj, List.getD_eq_getElem?_getD, List.getElem?_eq_getElem hj]
    rfl
  refine ⟨_, ho, _, hi, l, _, _, j, rfl, rfl, sq_of hl, g, ?_⟩
  refine he H (Ex.refl _) _ fun H1 e1 => ⟨_, _, rfl, rfl, l, ns.map V.int, (j : Int), j, rfl, rfl, e1 _ _ hl, ixN_nat (by rw [List.length_map]; exact hj), ?_⟩
  have q := k H1 e1
  rw [List.map_set] at q
  exact q
theorem q_augL {D : Ends} {tz : TS} {f : Int → Int → Int} {l : Addr} {ns : List Int} {a b j : Nat} {y : Int} (hl : H l = some (.lst (ns.map V.int))) (ho : σ[a]? = some (some (.ref l))) (hi : σ[b]? = some (some (.int (j : Int)))) (hj : j < ns.length) (he : Ev te σ H (.int y))
    (k : ∀ H1, Ex H H1 → tz D σ (upd H1 l (.lst ((ns.set j (f (ns.getD j 0) y)).map V.int)))) : tSeq (tAugS (tVar a) (tVar b) te (rGetL K) (ipI f) rSetL) tz D σ H := d_augL (D := { D with nx := tz D }) hl ho hi hj he k
/-- zip of a new list of pairs and a tuple of ints -/
theorem ei_zipNT {S : List Addr} {ps : List (Int × Int)} {b : List Int} (hS : Ls H S) (ha : EvN K ta σ H (ps.map pD)) (hb : EvD K tb σ H (tI b)) :
    EvI K (iZipM K false true (tCons ta (tCons tb tNil))) σ H S (List.zipWith (fun p y => PyData.tuple [pD p, .int y]) ps b) := fun H1 e R r =>
  ha H1 e _ fun p vs H2 hp e2 h2 hd => hb H2 (e.trans e2) _ fun y H3 e3 hy => by
    obtain ⟨q, rfl, h4⟩ := dp_tI hy
    have h3 := e3 _ _ h2
    have hd3 := dpa_ex e3 _ _ hd
    have hn : p ∉ S := fresh_notin (hS.ex e) hp
    have lv : vs.length = ps.length := by rw [dpa_len hd, List.length_map]
    refine ⟨p, q, _, _, rfl, sqa_l (sq_of h3), sqa_t h4, r _ H3 (e2.trans e3) ?_⟩
    rw [List.length_zipWith]
    have w := walk_zipM (K := K) (a := p) (b := q) (t := false) (u := true) (xs := vs) (ys := b.map V.int) (n := min ps.length b.length) (by rw [lv, List.length_map])
    have ls3 := hS.ex ((e.trans e2).trans e3)
    refine w.mono (fun Ha x => ⟨sq_of (x p _ h3 hn), sqT_tx (x.tx ls3) h4⟩) fun i Ha v Hb hlt hg y => ?_
    obtain ⟨T, v1, v2, rfl, hT, rfl, g1, g2⟩ := y
    simp only [List.getElem?_map] at g2
    obtain ⟨n2, m2, rfl⟩ := Option.map_eq_some_iff.mp g2
    have tx : Tx H3 (upd Ha T (.tup [v1, .int n2])) := (hg.tx ls3).trans (Tx.of_ex (Ex.new hT))
    obtain ⟨d1, q1, q2⟩ := dpa_getV (dpa_tx tx _ _ (immAll_map (fun _ => imm_tI _) _) hd3) g1
    rw [List.getElem?_map] at q1
    obtain ⟨pp, m1, rfl⟩ := Option.map_eq_some_iff.mp q1
    refine ⟨Ex.new hT, .tuple [pD pp, .int n2], ?_, .tup (st_of upd_same) (.cons q2 (.cons (.int _) .nil))⟩
    rw [List.getElem?_zipWith, m1, m2]
end
section
variable {P : Program} {w : World} {K : PySem.W.Frag} {mg : Str → Option Value} {base : Heap}
def stp (acc : List Int) (q : (Int × Int) × Int) : List Int :=
  (acc.set q.1.1.toNat (acc.getD q.1.1.toNat 0 + q.2)).set q.1.2.toNat ((acc.set q.1.1.toNat (acc.getD q.1.1.toNat 0 + q.2)).getD q.1.2.toNat 0 + q.2)
def sms (s : Int) (l : List Int) : List Int := ((prs s).zip l).foldl stp (List.replicate s.toNat 0)
theorem stp_len (acc : List Int) (q : (Int × Int) × Int) : (stp acc q).length = acc.length := by simp [stp]
theorem stps_len : ∀ (qs : List ((Int × Int) × Int)) (acc : List Int), (qs.foldl stp acc).length = acc.length
  | [], _ => rfl
  | q :: qs, acc => by rw [List.foldl_cons, stps_len qs, stp_len]
theorem sms_len (s : Int) (l : List Int) : (sms s l).length = s.toNat := by rw [sms, stps_len, List.length_replicate]
theorem prs_in {s : Int} (h1 : 0 ≤ s) (h2 : s ≤ 5) {p : Int × Int} (h : p ∈ prs s) : 0 ≤ p.1 ∧ p.1 < p.2 ∧ p.2 < s := by
  unfold prs at h
  rw [List.mem_flatMap] at h
  obtain ⟨i, hi, h⟩ := h
  obtain ⟨j, hj, rfl⟩ := List.mem_map.mp h
  have := List.mem_range.mp hi
  have := List.mem_range.mp hj
  show 0 ≤ (i : Int) ∧ (i : Int) < (i : Int) + 1 + (j : Int) ∧ (i : Int) + 1 + (j : Int) < s
  omega
def R_sums_at_sides (ds : List PyData) (r : List PyData) : Prop := ∃ (s : Int) (l : List Int), ds = [.int s, tI l] ∧ 2 ≤ s ∧ s ≤ 5 ∧ r = dI (sms s l)
def R_is_let (ds : List PyData) (r : PyData) : Prop := ∃ (s : Int) (l : List Int) (m : Int), ds = [.int s, tI l, .int m] ∧ 2 ≤ s ∧ s ≤ 5 ∧ r = .bool (decide (mxl (sms s l) ≤ m))
end
end K16
set_option Elab.async false
set_option linter.all false
set_option maxRecDepth 100000
set_option maxHeartbeats 4000000
namespace K16
open PySem PySem.Spec PyProof.Rows L2 Evl DL
local macro_rules | `(tactic| walk_at "dl") => `(tactic| first
  | exact ev_c | exact ev_var rfl | exact eda_nil
  | exact ed_var rfl (by assumption)
  | exact ed_int ev_c | exact ed_int (ev_var rfl)
  | (refine eda_cons ?_ ?_ <;> walk_at "dl")
  | (refine ed_int ?_; walk_at "dl")
  | (refine ev_op ?_ ?_ rv_I0 <;> walk_at "dl"))

section
variable {K : PySem.W.Frag} {σ : L2.St} {H H' : Hp} {ta tb te : TE} {D : Ends} {tz : TS} {st lg cl : Addr}
/-! ### the drawing state -/
def kL : Key := .inr "large"
def kC : Key := .inr "cells"
def kF : Key := .inr "left"
def kT : Key := .inr "turn"
theorem k_ne : kL ≠ kC ∧ kL ≠ kF ∧ kL ≠ kT ∧ kC ≠ kF ∧ kC ≠ kT ∧ kF ≠ kT := by decide +kernel
def dk (lg cl : Addr) (l t : Int) : List (Key × V) := [(kL, .ref lg), (kC, .ref cl), (kF, .int l), (kT, .int t)]
theorem dk_L {l t : Int} : valV (dk lg cl l t) kL = some (.ref lg) := valV_pos rfl
theorem dk_C {l t : Int} : valV (dk lg cl l t) kC = some (.ref cl) := by
  obtain ⟨a, b, c, d, e, f⟩ := k_ne
  rw [dk, valV_neg a, valV_pos rfl]
theorem dk_F {l t : Int} : valV (dk lg cl l t) kF = some (.int l) := by
  obtain ⟨a, b, c, d, e, f⟩ := k_ne
  rw [dk, valV_neg b, valV_neg d, valV_pos rfl]
theorem dk_T {l t : Int} : valV (dk lg cl l t) kT = some (.int t) := by
  obtain ⟨a, b, c, d, e, f⟩ := k_ne
  rw [dk, valV_neg c, valV_neg e, valV_neg f, valV_pos rfl]
theorem put_F {l t l' : Int} : putK (dk lg cl l t) kF (.int l') = dk lg cl l' t := by
  obtain ⟨a, b, c, d, e, f⟩ := k_ne
  simp [putK, dk, a, b, c, d, e, f, Ne.symm f]
theorem put_T {l t t' : Int} : putK (dk lg cl l t) kT (.int t') = dk lg cl l t' := by
  obtain ⟨a, b, c, d, e, f⟩ := k_ne
  simp [putK, dk, a, b, c, d, e, f]
def StK (st lg cl : Addr) (n : Nat) (H : Hp) : Prop := ∃ (l t : Int) (xs cs : List Int), H st = some (.dK (dk lg cl l t)) ∧ H lg = some (.lst (xs.map V.int)) ∧ H cl = some (.lst (cs.map V.int)) ∧ cl ≠ lg ∧ 0 ≤ t ∧ t ≤ (n : Int)
theorem stk_ex {n : Nat} (e : Ex H H') (h : StK st lg cl n H) : StK st lg cl n H' := by
  obtain ⟨l, t, xs, cs, h1, h2, h3, h4⟩ := h
  exact ⟨l, t, xs, cs, e _ _ h1, e _ _ h2, e _ _ h3, h4⟩
theorem stk_mono {n m : Nat} (hnm : n ≤ m) (h : StK st lg cl n H) : StK st lg cl m H := by
  obtain ⟨l, t, xs, cs, h1, h2, h3, h4, h5, h6⟩ := h
  exact ⟨l, t, xs, cs, h1, h2, h3, h4, h5, by omega⟩
/-- tuples stay while the state changes -/
theorem stk_tx {n : Nat} (h : StK st lg cl n H) (x : Xp [st, lg] H H') : Tx H H' := by
  obtain ⟨l, t, xs, cs, h1, h2, h3, h4⟩ := h
  intro a ys r
  have nin : ∀ o, H a = some o → (∀ l, o ≠ .lst l) → (∀ l, o ≠ .dK l) → a ∉ [st, lg] := fun o ho n1 n2 hm => by
    rcases (by simpa using hm : a = st ∨ a = lg) with rfl | rfl
    · rw [h1] at ho
      exact n2 _ (Option.some.inj ho).symm
    · rw [h2] at ho
      exact n1 _ (Option.some.inj ho).symm
  rcases r with r | ⟨ob, r⟩
  · exact .inl (x _ _ r (nin _ r (fun _ z => nomatch z) fun _ z => nomatch z))
  · exact .inr ⟨ob, x _ _ r (nin _ r (fun _ z => nomatch z) fun _ z => nomatch z)⟩
theorem ev_dget {i : Nat} {k : Key} {kvs : List (Key × V)} {v : V} (hs : σ[i]? = some (some (.ref st))) (h : H st = some (.dK kvs)) (hv : valV kvs k = some v) : Ev (tDGet (tVar i) (tC (kV k))) σ H v := fun H1 e Q q =>
  ⟨.ref st, hs, st, v, rfl, hv ▸ DGet.k (e _ _ h), q H1 (Ex.refl _)⟩
theorem s_dput {i : Nat} {k : Key} {kvs : List (Key × V)} {v : V} (hs : σ[i]? = some (some (.ref st))) (h : H st = some (.dK kvs)) (hl : kvs.length ≤ 1000) (hv : Ev te σ H v) (q : ∀ H1, Ex H H1 → D.nx σ (upd H1 st (.dK (putK kvs k v)))) :
    sDPut (tVar i) (tC (kV k)) te D σ H := hv H (Ex.refl _) _ fun H1 e => ⟨.ref st, hs, st, _, rfl, DPut.k (e _ _ h) (sz_lt (by omega)), q H1 e⟩
theorem q_dput {i : Nat} {k : Key} {kvs : List (Key × V)} {v : V} (hs : σ[i]? = some (some (.ref st))) (h : H st = some (.dK kvs)) (hl : kvs.length ≤ 1000) (hv : Ev te σ H v) (q : ∀ H1, Ex H H1 → tz D σ (upd H1 st (.dK (putK kvs k v)))) :
    tSeq (sDPut (tVar i) (tC (kV k)) te) tz D σ H := s_dput (D := { D with nx := tz D }) hs h hl hv q
theorem ev_int1 {i : Int} (h : Ev ta σ H (.int i)) : Ev (tCB (fun xs H Q => (∃ i, xs = [.int i] ∧ Q (.int i) H) ∨ ∃ k, xs = [.bl k] ∧ Q (.int (if k then 1 else 0)) H) (tCons ta tNil)) σ H (.int i) := fun H1 e Q q =>
  h H1 e _ fun H2 e2 => .inl ⟨i, rfl, q H2 e2⟩
theorem shaped_dI (a : List Int) : SeqAt.shaped (.list (dI a)) = true := by
  have h := depth_ints a
  show ((PyData.list (dI a)).canLay0 && decide ((PyData.list (dI a)).depth ≤ 64)) = true
  rw [Bool.and_eq_true]
  refine ⟨by rw [PyData.canLay0]; exact canLay_ints a, decide_eq_true ?_⟩
  rw [PyData.depth]
  omega
theorem eqv_nil (a : List Int) : PyData.eqv (.list (dI a)) (.list []) = a.isEmpty := by
  rw [PyData.eqv]
  cases a with
  | nil => simp [PyData.eqvAll]
  | cons x a => simp [PyData.eqvAll]
/-- x != [] -/
theorem ev_neNil {a : List Int} (ha : EvD K ta σ H (.list (dI a))) : Ev (tOp (rNeD K) ta (tLst tNil)) σ H (.bl (!a.isEmpty)) := fun H1 e Q q =>
  ha H1 e _ fun x H2 e2 hx => EvN.toD (en_lst eda_nil (by simp)) H2 (e.trans e2) _ fun y H3 e3 hy => ⟨_, _, dp_ex e3 _ _ hx, hy, shaped_dI a, shaped_dI [], by
    rw [eqv_nil]
    exact q H3 (e2.trans e3)⟩
end
section
variable {P : Program} {w : World} {K : PySem.W.Frag} {mg : Str → Option Value} {base : Heap}

def spDraw (K : PySem.W.Frag) : Sp := fun vs H Q _ => ∃ (st lg cl : Addr) (n : Nat) (size : Int), vs = [.ref st, .int size] ∧ 1 ≤ size ∧ size ≤ 1000 ∧ n ≤ 10000 ∧ StK st lg cl n H ∧
  ∀ r H', 0 ≤ r → r < size → Xp [st, lg] H H' → StK st lg cl (n + 1) H' → Q (.int r) H'
abbrev s__law_draw : Stmt := topS 38
abbrev N__law_draw : List Str := ["state", "size_here", "found", "turn", "cell", "mixed"]
theorem sc__law_draw : FnScope N__law_draw ["state", "size_here"] (defScope s__law_draw) := ⟨rfl, rfl, rfl, by decide +kernel, rfl, by decide +kernel, by decide +kernel⟩
theorem ok__law_draw {f : Addr} {fd : FuncData} (F : Fun K "_law_draw" "_law_draw" s__law_draw f fd) (T : Txt mg)
      :
    FnOk P w K mg base CX0 1 f fd ["state", "size_here"] (spDraw K) := by
  refine F.ok sc__law_draw (fun vs H Q E h => by obtain ⟨_, _, _, _, _, rfl, _⟩ := h; rfl) (fun cdv A outer s H vs Q E hr h => ?_)
  obtain ⟨st, lg, cl, n, size, rfl, h1, h2, h3, hst, k⟩ := h
  refine ⟨_, (pss_cons (ps_while PassesOwn.never (PW.pt (pw_and (pt_cmpR op_eq (pe_dget (hu_of hr) (pv 0) pe_str (fun _ _ => rfl)) pe_int (nomark _)) (pw_and1 (pt_cmpR (op_neD (hu64 hr)) (pe_dget (hu_of hr) (pv 0) pe_str (fun _ _ => rfl)) (pe_lst pa_nil) (nomark _))))) (pss_one (ps_dput (hu_of hr) (pv 0) pe_str (pe_bm PySem.F.plainAttrs_list PySem.F.slot_list_pop PySem.F.type_list_pop mt_popAt (pe_dget (hu_of hr) (pv 0) pe_str (fun _ _ => rfl)) (pa_cons pe_int pa_nil)) rfl)))
      (pss_cons (ps_if (pt_cmpR op_gt (pe_dget (hu_of hr) (pv 0) pe_str (fun _ _ => rfl)) pe_int (nomark _)) (pss_cons (ps_set (i := 2) sc__law_draw.nd rfl (.inl rfl) (pe_op op_mod (pe_callTy call_int1 (by rfl) T.b_int (by decide +kernel) (pa_cons (pe_dget (hu_of hr) (pv 0) pe_str (fun _ _ => rfl)) pa_nil)) (pv 1)))
      (pss_cons (ps_dput (hu_of hr) (pv 0) pe_str (pe_op op_fdiv (pe_dget (hu_of hr) (pv 0) pe_str (fun _ _ => rfl)) (pv 1)) rfl)
      (pss_one (ps_ret (pv 2))))) pss_nil)
      (pss_cons (ps_set (i := 3) sc__law_draw.nd rfl (.inl rfl) (pe_op op_add (pe_dget (hu_of hr) (pv 0) pe_str (fun _ _ => rfl)) pe_int))
      (pss_cons (ps_dput (hu_of hr) (pv 0) pe_str (pv 3) rfl)
      (pss_cons (ps_set (i := 4) sc__law_draw.nd rfl (.inl rfl) (pe_ifExp (pt_cmpR (op_neD (hu64 hr)) (pe_dget (hu_of hr) (pv 0) pe_str (fun _ _ => rfl)) (pe_lst pa_nil) (nomark _)) (pe_ix ix_list (pe_dget (hu_of hr) (pv 0) pe_str (fun _ _ => rfl)) (pe_op op_mod (pe_callTy call_int1 (by rfl) T.b_int (by decide +kernel) (pa_cons (pv 3) pa_nil)) (pe_callB call_len_seq (by rfl) T.b_len PySem.boot_len (pa_cons (pe_dget (hu_of hr) (pv 0) pe_str (fun _ _ => rfl)) pa_nil))) (fun _ _ => rfl)) pe_int))
      (pss_cons (ps_set (i := 5) sc__law_draw.nd rfl (.inl rfl) (pe_op op_mod (pe_callTy call_int1 (by rfl) T.b_int (by decide +kernel) (pa_cons (pe_op op_pow (pe_op op_add (pe_op op_add (pe_op op_mod (pe_callTy call_int1 (by rfl) T.b_int (by decide +kernel) (pa_cons (pv 4) pa_nil)) pe_int) (pe_op op_mul pe_int (pv 3))) pe_int) pe_int) pa_nil)) pe_int))
      (pss_one (ps_ret (pe_op op_mod (pe_callTy call_int1 (by rfl) T.b_int (by decide +kernel) (pa_cons (pe_op op_fdiv (pe_op op_mod (pe_callTy call_int1 (by rfl) T.b_int (by decide +kernel) (pa_cons (pe_op op_pow (pe_op op_add (pv 5) (pe_op op_mul pe_int (pv 3))) pe_int) pa_nil)) pe_int) pe_int) pa_nil)) (pv 1)))))))))), ?_⟩
  obtain ⟨l0, t0, xs0, cs, a1, a2, a3, a4, a5, a6⟩ := hst
  have cst : cl ≠ st := fun z => by rw [z, a1] at a3; cases a3
  have lst : lg ≠ st := fun z => by rw [z, a1] at a2; cases a2
  have kF' : V.str "left" = kV kF := rfl
  refine ⟨fun m σ' Ha => ∃ (l : Int) (xs : List Int), m = xs.length ∧ Xp [st, lg] H Ha ∧ Ha st = some (.dK (dk lg cl l t0)) ∧ Ha lg = some (.lst (xs.map V.int)) ∧ σ' = [some (.ref st), some (.int size), none, none, none, none], ⟨_, l0, xs0, rfl, Xp.refl _ _, a1, a2, rfl⟩, ?_⟩
  rintro m σ' Ha ⟨l, xs, rfl, xp, b1, b2, rfl⟩
  have b3 : Ha cl = some (.lst (cs.map V.int)) := xp _ _ a3 (by simp [cst, a4])
  refine et_and (a := decide (V.int l = V.int 0)) (b := !xs.isEmpty) (et_test (ev_op (ev_dget (k := kF) rfl b1 dk_F) ev_c (rv_eq rfl))) (fun _ => et_test (ev_neNil (K := K) (ed_is (d := .list (dI xs)) (ev_d (ev_dget (k := kL) rfl b1 dk_L) (.lst (sq_of b2) (ints_dpa xs))) rfl))) Ha (Ex.refl _) _ fun Hb eb => ?_
  have b1 := eb _ _ b1
  have b2 := eb _ _ b2
  have b3 := eb _ _ b3
  have xp := xp.then eb
  by_cases hx : (decide (V.int l = V.int 0) && !xs.isEmpty) = true
  · rw [if_pos hx]
    cases xs with
    | nil => simp at hx
    | cons x xs =>
      refine ⟨fun σ2 H2 => ∃ (l : Int), Xp [st, lg] H H2 ∧ H2 st = some (.dK (dk lg cl l t0)) ∧ H2 lg = some (.lst (xs.map V.int)) ∧ σ2 = [some (.ref st), some (.int size), none, none, none, none], fun σ2 H2 ⟨l, z⟩ => ⟨xs.length, by simp, l, xs, rfl, z⟩, ?_⟩
      refine ⟨.ref st, rfl, st, .ref lg, rfl, (dk_L (lg := lg) (cl := cl) (l := l) (t := t0)) ▸ DGet.k (k := kL) b1, Or.inl ⟨rfl, _, sq_of b2⟩, lg, _, 0, 0, .int x, rfl, rfl, b2, by decide, by decide, by simp [seqIndex?], rfl, .ref st, rfl, st, _, rfl, DPut.k (k := kF) (by rw [upd_ne (Ne.symm lst)]; exact b1) (by show 4 < sizeLine; decide), ?_⟩
      rw [put_F]
      exact ⟨x, Xp.upd (Xp.upd xp (by simp)) (by simp), upd_same, by rw [upd_ne lst, upd_same]; simp, rfl⟩
  rw [if_neg hx]
  show tSeq _ _ _ [some (.ref st), some (.int size), none, none, none, none] Hb
  refine q_when (b := decide ((0 : Int) < l)) (et_test (ev_op (ev_dget (k := kF) rfl b1 dk_F) ev_c rv_I0)) (fun hb Hc ec => ?_) fun hb Hc ec => ?_
  · have b1 := ec _ _ b1
    refine qi_asg (ev_op (ev_int1 (ev_dget (k := kF) rfl b1 dk_F)) (ev_var rfl) (rv_I (by omega))) fun Hd ed => ?_
    have b1 := ed _ _ b1
    refine q_dput (k := kF) rfl b1 (by simp [dk]) (ev_op (ev_dget (k := kF) rfl b1 dk_F) (ev_var rfl) (rv_I ⟨by omega, by omega⟩)) fun He ee => ?_
    rw [put_F]
    refine ⟨_, rfl, k (l % size) _ (Int.emod_nonneg _ (by omega)) (Int.emod_lt_of_pos _ (by omega)) (Xp.upd (xp.then ((ec.trans ed).trans ee)) (by simp)) ⟨l / size, t0, xs, cs, upd_same, ?_, ?_, a4, a5, by omega⟩⟩
    · rw [upd_ne lst]
      exact ee _ _ (ed _ _ (ec _ _ b2))
    · rw [upd_ne cst]
      exact ee _ _ (ed _ _ (ec _ _ b3))
  have b1 := ec _ _ b1
  refine qi_asg (ev_op (ev_dget (k := kT) rfl b1 dk_T) ev_c rv_I0) fun Hd ed => ?_
  have b1 := ed _ _ b1
  refine q_dput (k := kT) rfl b1 (by simp [dk]) (ev_var rfl) fun He ee => ?_
  rw [put_T]
  have c1 : upd He st (.dK (dk lg cl l (t0 + 1))) st = some (.dK (dk lg cl l (t0 + 1))) := upd_same
  have c2 : upd He st (.dK (dk lg cl l (t0 + 1))) lg = some (.lst (xs.map V.int)) := by
    rw [upd_ne lst]
    exact ee _ _ (ed _ _ (ec _ _ b2))
  have c3 : upd He st (.dK (dk lg cl l (t0 + 1))) cl = some (.lst (cs.map V.int)) := by
    rw [upd_ne cst]
    exact ee _ _ (ed _ _ (ec _ _ b3))
  have xp2 : Xp [st, lg] H (upd He st (.dK (dk lg cl l (t0 + 1)))) := Xp.upd (xp.then ((ec.trans ed).trans ee)) (by simp)
  generalize upd He st (.dK (dk lg cl l (t0 + 1))) = Hf at *
  obtain ⟨c, hc⟩ : ∃ c : Int, Ev (tIf (tTest (tOp (rNeD K) (tDGet (tVar 0) (tC (.str "cells"))) (tLst tNil)))
      (tOp (rIxL K) (tDGet (tVar 0) (tC (.str "cells"))) (tOp (rI (fun _ j => 0 < j) fun i j => .int (i % j)) (tCB (fun xs H Q => (∃ i, xs = [.int i] ∧ Q (.int i) H) ∨ ∃ k, xs = [.bl k] ∧ Q (.int (if k then 1 else 0)) H) (tCons (tVar 3) tNil)) (tCB (fun xs H Q => ∃ p ys, xs = [.ref p] ∧ (SqL K H p ys ∨ SqT K H p ys) ∧ Q (.int ys.length) H) (tCons (tDGet (tVar 0) (tC (.str "cells"))) tNil))))
      (tC (.int 0))) [some (.ref st), some (.int size), none, some (.int (t0 + 1)), none, none] Hf (.int c) := by
    have dc : EvD K (tDGet (tVar 0) (tC (.str "cells"))) [some (.ref st), some (.int size), none, some (.int (t0 + 1)), none, none] Hf (.list (dI cs)) := ev_d (ev_dget (k := kC) rfl c1 dk_C) (.lst (sq_of c3) (ints_dpa cs))
    refine ⟨if (!cs.isEmpty) = true then cs.getD ((t0 + 1) % (cs.length : Int)).toNat 0 else 0, ev_if (b := !cs.isEmpty) (et_test (ev_neNil dc)) (fun h => ?_) fun h => ?_⟩
    · rw [if_pos h]
      have hl : 0 < cs.length := by cases cs with | nil => simp at h | cons _ _ => simp
      have m1 := Int.emod_nonneg (t0 + 1) (show ((cs.length : Int)) ≠ 0 by omega)
      have m2 := Int.emod_lt_of_pos (t0 + 1) (show (0 : Int) < (cs.length : Int) by omega)
      refine ev_op (ev_dget (k := kC) rfl c1 dk_C) (ev_op (ev_int1 (ev_var rfl)) (ev_is (ev_lenL dc) (by rw [dI, List.length_map])) (rv_I (by omega))) (rv_ixL (K := K) (sq_of c3) ?_)
      obtain ⟨j, hj⟩ := Int.eq_ofNat_of_zero_le m1
      rw [hj] at m2 ⊢
      refine atI_nat ?_
      rw [Int.toNat_natCast, List.getElem?_map, List.getElem?_eq_getElem (by omega), List.getD_eq_getElem?_getD, List.getElem?_eq_getElem (by omega)]
      rfl
    · rw [h]
      exact ev_c
  refine qi_asg hc fun Hg eg => ?_
  have u1 := Int.emod_nonneg c (show (2147483563 : Int) ≠ 0 by decide)
  have u2 := Int.emod_lt_of_pos c (show (0 : Int) < 2147483563 by decide)
  refine qi_asg (v := .int (((c % 2147483563 + 40692 * (t0 + 1) + 24681) ^ (3 : Int).toNat) % 2147483629)) (ev_op (ev_int1 (ev_op (ev_op (ev_op (ev_op (ev_int1 (ev_var rfl)) ev_c (rv_I (by decide))) (ev_op ev_c (ev_var rfl) (rv_I (.inl ⟨by decide, by decide⟩))) rv_I0) ev_c rv_I0) ev_c (rv_I ⟨by decide, by decide, by omega⟩))) ev_c (rv_I (by decide))) fun Hh eh => ?_
  have w1 := Int.emod_nonneg ((c % 2147483563 + 40692 * (t0 + 1) + 24681) ^ (3 : Int).toNat) (show (2147483629 : Int) ≠ 0 by decide)
  have w2 := Int.emod_lt_of_pos ((c % 2147483563 + 40692 * (t0 + 1) + 24681) ^ (3 : Int).toNat) (show (0 : Int) < 2147483629 by decide)
  generalize ((c % 2147483563 + 40692 * (t0 + 1) + 24681) ^ (3 : Int).toNat) % 2147483629 = M at *
  refine s_ret (ev_op (ev_int1 (ev_op (ev_op (ev_int1 (ev_op (ev_op (ev_var rfl) (ev_op ev_c (ev_var rfl) (rv_I (.inl ⟨by decide, by decide⟩))) rv_I0) ev_c (rv_I ⟨by decide, by decide, by omega⟩))) ev_c (rv_I (by decide))) ev_c (rv_I ⟨by decide, by decide⟩))) (ev_var rfl) (rv_I (by omega))) fun Hi ei => ?_
  exact k _ _ (Int.emod_nonneg _ (by omega)) (Int.emod_lt_of_pos _ (by omega)) (xp2.then ((eg.trans eh).trans ei)) (stk_ex ((eg.trans eh).trans ei) ⟨l, t0 + 1, xs, cs, c1, c2, c3, a4, by omega, by omega⟩)

end
end K16
set_option Elab.async false
set_option linter.all false
set_option maxRecDepth 100000
set_option maxHeartbeats 4000000
namespace K16
open PySem PySem.Spec PyProof.Rows L2 Evl DL
local macro_rules | `(tactic| walk_at "dl") => `(tactic| first
  | exact ev_c | exact ev_var rfl | exact eda_nil
  | exact ed_var rfl (by assumption)
  | exact ed_int ev_c | exact ed_int (ev_var rfl)
  | (refine eda_cons ?_ ?_ <;> walk_at "dl")
  | (refine ed_int ?_; walk_at "dl")
  | (refine ev_op ?_ ?_ rv_I0 <;> walk_at "dl"))

section
variable {P : Program} {w : World} {K : PySem.W.Frag} {mg : Str → Option Value} {base : Heap}

/-- one of any values -/
def spPick (K : PySem.W.Frag) : Sp := fun vs H Q _ => ∃ (st lg cl : Addr) (n : Nat) (a : Addr) (xs : List V), vs = [.ref st, .ref a] ∧ H a = some (.lst xs) ∧ a ≠ lg ∧ 1 ≤ xs.length ∧ xs.length ≤ 1000 ∧ n ≤ 10000 ∧ StK st lg cl n H ∧
  ∀ r H', r ∈ xs → Xp [st, lg] H H' → StK st lg cl (n + 1) H' → Q r H'
def lpr (s : Int) : List PyData := (List.range s.toNat).flatMap fun (i : Nat) => (List.range (s - ((i : Int) + 1)).toNat).map fun (j : Nat) => PyData.tuple [.int (i : Int), .int ((i : Int) + 1 + (j : Int))]
def R_law_pairs (ds : List PyData) (r : List PyData) : Prop := ∃ s : Int, ds = [.int s] ∧ 2 ≤ s ∧ s ≤ 5 ∧ r = lpr s
theorem lpr_imm (s : Int) : immAll (lpr s) = true := immAll_flat (fun i => immAll_map (fun j => by simp [imm, immAll]) _) _
theorem lpr_len {s : Int} (h1 : 2 ≤ s) (h2 : s ≤ 5) : (lpr s).length = np s ∧ np s ≤ 10 := by
  have hs' : s = 2 ∨ s = 3 ∨ s = 4 ∨ s = 5 := by omega
  rcases hs' with rfl | rfl | rfl | rfl <;> decide
abbrev s__law_pick : Stmt := topS 39
abbrev N__law_pick : List Str := ["state", "several"]
theorem sc__law_pick : FnScope N__law_pick ["state", "several"] (defScope s__law_pick) := ⟨rfl, rfl, rfl, by decide +kernel, rfl, by decide +kernel, by decide +kernel⟩
theorem ok__law_pick {f : Addr} {fd : FuncData} (F : Fun K "_law_pick" "_law_pick" s__law_pick f fd) (T : Txt mg)
    (D__law_draw : DF P w K mg base "_law_draw" 1 ["state", "size_here"] (spDraw K))  :
    FnOk P w K mg base CX0 2 f fd ["state", "several"] (spPick K) := by
  refine F.ok sc__law_pick (fun vs H Q E h => by obtain ⟨_, _, _, _, _, _, rfl, _⟩ := h; rfl) (fun cdv A outer s H vs Q E hr h => ?_)
  obtain ⟨st, lg, cl, n, a, xs, rfl, ha, hal, h1, h2, h3, hst, k⟩ := h
  refine ⟨_, (pss_one (ps_ret (pe_ix ix_list (pv 1) (pe_D D__law_draw (hr.mono (by decide)) (by rfl) (pa_cons (pv 0) (pa_cons (pe_callB call_len_seq (by rfl) T.b_len PySem.boot_len (pa_cons (pv 1) pa_nil)) pa_nil))) (fun _ _ => rfl)))), ?_⟩
  have hast : a ≠ st := fun z => by
    obtain ⟨_, _, _, _, q, _⟩ := hst
    rw [← z, ha] at q
    cases q
  refine ⟨.ref a, rfl, .ref st, rfl, .ref a, rfl, a, xs, rfl, .inl (sq_of ha), st, lg, cl, n, (xs.length : Int), rfl, by omega, by omega, h3, hst, fun r H' r0 r1 x s => ?_⟩
  obtain ⟨j, rfl⟩ := Int.eq_ofNat_of_zero_le r0
  have hj : j < xs.length := by omega
  refine ⟨a, xs, (j : Int), xs[j], rfl, rfl, sq_of (x _ _ ha (by simp [hast, hal])), atI_nat (List.getElem?_eq_getElem hj), k _ H' (List.getElem_mem hj) x s⟩

abbrev s__law_pairs : Stmt := topS 43
abbrev N__law_pairs : List Str := ["sides_here", "found", "one", "other"]
theorem sc__law_pairs : FnScope N__law_pairs ["sides_here"] (defScope s__law_pairs) := ⟨rfl, rfl, rfl, by decide +kernel, rfl, by decide +kernel, by decide +kernel⟩
theorem ok__law_pairs {f : Addr} {fd : FuncData} (F : Fun K "_law_pairs" "_law_pairs" s__law_pairs f fd) (T : Txt mg)
      :
    FnOk P w K mg base CX0 1 f fd ["sides_here"] (spN K 1 R_law_pairs) := by
  refine F.ok sc__law_pairs (fun vs H Q E h => spN_len h) (fun cdv A outer s H vs Q E hr h => ?_)
  obtain ⟨ds, r, hd, _, ⟨x, rfl, h1, h2, rfl⟩, k⟩ := h
  obtain ⟨v0, rfl, d0⟩ := dpa_one hd
  cases dp_int d0
  refine ⟨_, (pss_cons (ps_set (i := 1) sc__law_pairs.nd rfl (.inl rfl) (pe_lst pa_nil))
      (pss_cons (ps_for PassesOwn.never rfl (pi_range1 (by rfl) T.b_range (pa_cons (pv 0) pa_nil)) (pg_name (i := 2) sc__law_pairs.nd rfl (Or.inr rfl)) (pss_one (ps_set (i := 1) sc__law_pairs.nd rfl (.inl rfl) (pe_op op_cat (pv 1) (pe_lc (own := [("other", 3)]) (g := (gName 3)) (tt := tYes) rfl sc__law_pairs.nd (pi_range2 (by rfl) T.b_range (pa_cons (pe_op op_add (pv 2) pe_int) (pa_cons (pv 0) pa_nil))) (blkOk_by (N := N__law_pairs) (sc := defScope s__law_pairs) (by decide +kernel)) (fun _ _ _ _ _ => (pg_name (i := 3) sc__law_pairs.nd rfl (Or.inl rfl))) (fun _ _ _ _ _ => pts_nil) (fun _ _ _ _ _ => (pe_tup (pa_cons (pv 2) (pa_cons (pv 3) pa_nil)))))))))
      (pss_one (ps_ret (pv 1))))), ?_⟩
  refine qn_asg (K := K) (en_lst eda_nil (by simp)) fun p vs H1 hp e1 h1' hd1 => ?_
  cases hd1
  refine e_for (S := []) (ei_rng1 (K := K) (n := x) (eda_cons (ed_int (ev_var rfl)) eda_nil) ⟨by omega, by omega⟩) (fun H2 i σ' Ha => Ex H2 Ha ∧ ∃ p ws a b, H p = none ∧ Ha p = some (.lst ws) ∧ DpAll K Ha ws ((List.range i).flatMap fun (i : Nat) => (List.range (x - ((i : Int) + 1)).toNat).map fun (j : Nat) => PyData.tuple [.int (i : Int), .int ((i : Int) + 1 + (j : Int))]) ∧ σ' = [some (.int x), some (.ref p), a, b])
    (fun H2 e2 => ⟨Ex.refl _, p, [], none, none, hp, e2 _ _ h1', .nil, rfl⟩) (fun H2 i σ' Ha _ z => Xp.of_ex z.1) ?_ ?_
  · rintro H2 i d y σ' Ha Hb e2 hdi ⟨p1, p, ws, a, b, hp, hpa, dws, rfl⟩ eb hy
    have hi : i < x.toNat := by simpa using (List.getElem?_eq_some_iff.mp hdi).1
    rw [rng_get hi] at hdi
    cases hdi
    cases dp_int hy
    have hpb := eb _ _ hpa
    have dwb := dpa_ex eb _ _ dws
    have small : ∀ i : Nat, ((List.range i).flatMap fun (i : Nat) => (List.range (x - ((i : Int) + 1)).toNat).map fun (j : Nat) => PyData.tuple [.int (i : Int), .int ((i : Int) + 1 + (j : Int))]).length ≤ 4 * i := fun i => by
      induction i with
      | zero => simp
      | succ i ih =>
        rw [List.range_succ, List.flatMap_append, List.length_append, List.flatMap_cons, List.flatMap_nil, List.append_nil, List.length_map, List.length_range]
        omega
    have sm := small i
    show tAsg _ (gName 1) _ [some (.int x), some (.ref p), some (.int (i : Int)), b] Hb
    refine n_asg (K := K) (en_cat (eq_var rfl hpb dwb) (EvN.toQ (en_lc (K := K) (ei_rng2 (S := []) (K := K) (m := (i : Int) + 1) (n := x) (eda_cons (ed_int (ev_op (ev_var rfl) ev_c rv_I0)) (eda_cons (ed_int (ev_var rfl)) eda_nil)) ⟨⟨by omega, by omega⟩, by omega, by omega⟩) (by rw [List.length_map, List.length_range]; omega)
      (fun j => PyData.tuple [.int (i : Int), .int ((i : Int) + 1 + (j : Int))]) (fun j _ => by simp [imm, immAll]) ?_)) ?_) fun p2 ws2 Hc hp2 ec h2' hd2 => ?_
    · intro H3 j d y Hd Q e3 hdj ed hy kk
      have hj : j < (x - ((i : Int) + 1)).toNat := by simpa using (List.getElem?_eq_some_iff.mp hdj).1
      rw [rng_get hj] at hdj
      cases hdj
      cases dp_int hy
      exact kk _ Hd (Ex.refl _) rfl (ed_tup (eda_cons (ed_int (ev_var rfl)) (eda_cons (ed_int (ev_var rfl)) eda_nil)) (by simp))
    · simp only [List.length_map, List.length_range]
      omega
    · refine ⟨(p1.trans eb).trans ec, p2, ws2, _, _, fresh_back (((e1.trans e2).trans p1).trans eb) hp2, h2', ?_, rfl⟩
      rw [List.range_succ, List.flatMap_append, List.flatMap_cons, List.flatMap_nil, List.append_nil]
      simpa using hd2
  · rintro H2 σ' Ha e2 ⟨p1, p, ws, a, b, hp, hpa, dws, rfl⟩
    refine ⟨.ref p, rfl, k p ws Ha hp ((e1.trans e2).trans p1) hpa ?_⟩
    rw [List.length_map, List.length_range] at dws
    exact dws

end
end K16
set_option Elab.async false
set_option linter.all false
set_option maxRecDepth 100000
set_option maxHeartbeats 4000000
namespace K16
open PySem PySem.Spec PyProof.Rows L2 Evl DL
local macro_rules | `(tactic| walk_at "dl") => `(tactic| first
  | exact ev_c | exact ev_var rfl | exact eda_nil
  | exact ed_var rfl (by assumption)
  | exact ed_int ev_c | exact ed_int (ev_var rfl)
  | (refine eda_cons ?_ ?_ <;> walk_at "dl")
  | (refine ed_int ?_; walk_at "dl")
  | (refine ev_op ?_ ?_ rv_I0 <;> walk_at "dl"))

section
variable {P : Program} {w : World} {K : PySem.W.Frag} {mg : Str → Option Value} {base : Heap}

def spDrawn (K : PySem.W.Frag) : Sp := fun vs H Q _ => ∃ (st lg cl : Addr) (n : Nat) (s : Int), vs = [.ref st, .int s] ∧ 2 ≤ s ∧ s ≤ 5 ∧ n ≤ 9000 ∧ StK st lg cl n H ∧
  ∀ l v H', Ld s l → Xp [st, lg] H H' → StK st lg cl (n + 21) H' → Dp K H' v (tI l) → Q v H'
def spBegun (K : PySem.W.Frag) : Sp := fun vs H Q _ => ∃ (a : Addr) (ns : List Int), vs = [.ref a] ∧ SqL K H a (ns.map V.int) ∧ ns.length ≤ 63 ∧
  ∀ st lg cl H', H st = none → H lg = none → Ex H H' → StK st lg cl 0 H' → Q (.ref st) H'
theorem stk_ne {st lg cl D : Addr} {n : Nat} {H : Hp} (h : StK st lg cl n H) (hD : H D = none) : D ≠ st ∧ D ≠ lg ∧ D ≠ cl := by
  obtain ⟨l, t, xs, cs, h1, h2, h3, _⟩ := h
  refine ⟨fun z => ?_, fun z => ?_, fun z => ?_⟩
  · rw [z, h1] at hD; cases hD
  · rw [z, h2] at hD; cases hD
  · rw [z, h3] at hD; cases hD
theorem stk_upd {st lg cl D : Addr} {n : Nat} {H : Hp} {u : HO} (h : StK st lg cl n H) (hD : D ≠ st ∧ D ≠ lg ∧ D ≠ cl) : StK st lg cl n (L2.upd H D u) := by
  obtain ⟨l, t, xs, cs, h1, h2, h3, h4⟩ := h
  exact ⟨l, t, xs, cs, by rw [upd_ne (Ne.symm hD.1)]; exact h1, by rw [upd_ne (Ne.symm hD.2.1)]; exact h2, by rw [upd_ne (Ne.symm hD.2.2)]; exact h3, h4⟩
theorem merge_dk {lg cl : Addr} : mergeK [] (dk lg cl 0 0) = dk lg cl 0 0 := by
  obtain ⟨a, b, c, d, e, f⟩ := k_ne
  simp [mergeK, putK, dk, a, b, c, d, e, f]
theorem ev_absI {K : PySem.W.Frag} {σ : L2.St} {H : Hp} {ta : TE} {i : Int} (h : Ev ta σ H (.int i)) : Ev (tCB (fun xs H Q => ∃ i, xs = [.int i] ∧ Q (.int (if i < 0 then -i else i)) H) (tCons ta tNil)) σ H (.int (if i < 0 then -i else i)) := fun H1 e Q q =>
  h H1 e _ fun H2 e2 => ⟨i, rfl, q H2 e2⟩
theorem given_ints (n : Nat) (f : Nat → Bool) (g : Nat → Int) : given n f (fun i => V.int (g i)) = (((List.range n).filter f).map g).map V.int := by
  rw [given, List.map_map]
  rfl
abbrev s__law_begun : Stmt := topS 37
abbrev N__law_begun : List Str := ["script", "cells_here", "large", "cell"]
theorem sc__law_begun : FnScope N__law_begun ["script"] (defScope s__law_begun) := ⟨rfl, rfl, rfl, by decide +kernel, rfl, by decide +kernel, by decide +kernel⟩
theorem ok__law_begun {f : Addr} {fd : FuncData} (F : Fun K "_law_begun" "_law_begun" s__law_begun f fd) (T : Txt mg)
      :
    FnOk P w K mg base CX0 1 f fd ["script"] (spBegun K) := by
  refine F.ok sc__law_begun (fun vs H Q E h => by obtain ⟨_, _, rfl, _⟩ := h; rfl) (fun cdv A outer s H vs Q E hr h => ?_)
  obtain ⟨a, ns, rfl, hs, hl, k⟩ := h
  refine ⟨_, (pss_cons (ps_setLc (i := 1) (own := [("cell", 3)]) (g := (gName 3)) (tt := tYes) rfl sc__law_begun.nd rfl rfl (sw_true rfl rfl rfl (by decide +kernel)) (pi_list (pv 0)) (blkOk_by (N := N__law_begun) (sc := defScope s__law_begun) (by decide +kernel)) (fun _ _ _ _ _ => (pg_name (i := 3) sc__law_begun.nd rfl (Or.inl rfl))) (fun _ _ _ _ _ => pts_nil) (fun _ _ _ _ _ => (pe_callB call_abs (by rfl) T.b_abs (by decide +kernel) (pa_cons (pv 3) pa_nil))))
      (pss_cons (ps_setLc (i := 2) (own := [("cell", 3)]) (g := (gName 3)) (tt := _) rfl sc__law_begun.nd rfl rfl (sw_true rfl rfl rfl (by decide +kernel)) (pi_list (pv 1)) (blkOk_by (N := N__law_begun) (sc := defScope s__law_begun) (by decide +kernel)) (fun _ _ _ _ _ => (pg_name (i := 3) sc__law_begun.nd rfl (Or.inl rfl))) (fun _ _ _ _ _ => (pts_one (pt_cmpR op_ge (pv 3) (pe_op op_pow pe_int pe_int) (nomark _)))) (fun _ _ _ _ _ => (pe_op op_sub (pv 3) (pe_op op_pow pe_int pe_int))))
      (pss_one (ps_ret (pe_disp (pps_cons pe_str (pv 2) (pps_cons pe_str (pv 1) (pps_cons pe_str pe_int (pps_cons pe_str pe_int pps_nil)))) (by rfl) (by rfl) (fun z => by cases z) (by decide)))))), ?_⟩
  have c2 : ∀ (i : Nat) (x : V), (ns.map V.int)[i]? = some x → x = .int (ns.getD i 0) := fun i x h => by
    rw [List.getElem?_map] at h
    cases g : ns[i]? with
    | none => rw [g] at h; simp at h
    | some z => rw [g] at h; simp at h; rw [← h, List.getD_eq_getElem?_getD, g]; rfl
  refine q_asgL (xs := given (ns.map V.int).length (fun _ => true) fun i => V.int (if ns.getD i 0 < 0 then -(ns.getD i 0) else ns.getD i 0)) (el_lcL (K := K) (a := a) (xs := ns.map V.int) _ _ (ev_var rfl) hs (by rw [List.length_map]; omega) (fun x => rfl) (fun i x H1 e1 hx H2 e2 Q q => q H2 (Ex.refl _)) fun i x H1 e1 hx _ => ?_) fun cl H1 hcl e1 h1 => ?_
  · rw [c2 i x hx]
    exact ev_absI (K := K) (ev_var rfl)
  rw [given_ints] at h1
  generalize hcs : ((List.range (ns.map V.int).length).filter fun _ => true).map (fun i => if ns.getD i 0 < 0 then -(ns.getD i 0) else ns.getD i 0) = cs at h1
  have lcs : cs.length ≤ 63 := by
    rw [← hcs, List.length_map]
    refine Nat.le_trans (List.length_filter_le _ _) ?_
    rw [List.length_range, List.length_map]
    exact hl
  have c3 : ∀ (i : Nat) (x : V), (cs.map V.int)[i]? = some x → x = .int (cs.getD i 0) := fun i x h => by
    rw [List.getElem?_map] at h
    cases g : cs[i]? with
    | none => rw [g] at h; simp at h
    | some z => rw [g] at h; simp at h; rw [← h, List.getD_eq_getElem?_getD, g]; rfl
  refine q_asgL (xs := given (cs.map V.int).length (fun i => decide ((10 : Int) ^ (18 : Int).toNat ≤ cs.getD i 0)) fun i => V.int (cs.getD i 0 - (10 : Int) ^ (18 : Int).toNat)) (el_lcL (K := K) (a := cl) (xs := cs.map V.int) _ _ (ev_var rfl) (sq_of h1) (by rw [List.length_map]; omega) (fun x => rfl) (fun i x H2 e2 hx => ?_) fun i x H2 e2 hx _ => ?_) fun lg H2 hlg e2 h2 => ?_
  · rw [c3 i x hx]
    exact et_test (ev_op (ev_var rfl) (ev_op ev_c ev_c (rv_I ⟨by decide, by decide, by decide⟩)) rv_I0)
  · rw [c3 i x hx]
    exact ev_op (ev_var rfl) (ev_op ev_c ev_c (rv_I ⟨by decide, by decide, by decide⟩)) rv_I0
  rw [given_ints] at h2
  generalize hxs : ((List.range (cs.map V.int).length).filter fun i => decide ((10 : Int) ^ (18 : Int).toNat ≤ cs.getD i 0)).map (fun i => cs.getD i 0 - (10 : Int) ^ (18 : Int).toNat) = xs at h2
  show tRet (tDisp _) _ [some (.ref a), some (.ref cl), some (.ref lg), none] H2
  refine fun st hst => ⟨.ref lg, rfl, .ref cl, rfl, upd_same, dk lg cl 0 0, rfl, by show 4 ≤ 15; decide, ?_⟩
  rw [merge_dk]
  have e2' := Ex.new (o := .dK []) hst
  have ncl : cl ≠ lg := fun z => by rw [z] at h1; rw [hlg] at h1; cases h1
  have nst1 : lg ≠ st := fun z => by rw [← z] at hst; rw [hst] at h2; cases h2
  have nst2 : cl ≠ st := fun z => by
    have := e2 _ _ h1
    rw [z, hst] at this
    cases this
  refine k st lg cl _ (fresh_back (e1.trans e2) hst) (fresh_back e1 hlg) (Ex.mut ((e1.trans e2).trans e2') (fresh_back (e1.trans e2) hst)) ⟨0, 0, xs, cs, upd_same, ?_, ?_, ncl, by decide, by decide⟩
  · rw [upd_ne nst1, upd_ne nst1]
    exact h2
  · rw [upd_ne nst2, upd_ne nst2]
    exact e2 _ _ h1

end
end K16
set_option Elab.async false
set_option linter.all false
set_option maxRecDepth 100000
set_option maxHeartbeats 4000000
/-! keys of any depth: data as keys, dicts that have them -/
namespace DL
open PySem PySem.Spec PyProof.Rows L2 Evl

mutual
/-- data as a key: numbers, texts, None and tuples of such -/
def keyD : PyData → Option NestedKey
  | .none => some .none
  | .bool b => some (.num (if b = true then 1 else 0))
  | .int i => some (.num i)
  | .str x => some (.text x)
  | .tuple ds => (keyDs ds).map .tup
  | _ => none
def keyDs : List PyData → Option (List NestedKey)
  | [] => some []
  | d :: ds => match keyD d, keyDs ds with
    | some k, some ks => some (k :: ks)
    | _, _ => none
end
theorem keyDs_cons {d : PyData} {ds : List PyData} {ks : List NestedKey} (h : keyDs (d :: ds) = some ks) : ∃ k ks', ks = k :: ks' ∧ keyD d = some k ∧ keyDs ds = some ks' := by
  rw [keyDs] at h
  cases h1 : keyD d with
  | none => rw [h1] at h; cases h
  | some k =>
    cases h2 : keyDs ds with
    | none => rw [h1, h2] at h; cases h
    | some ks' =>
      rw [h1, h2] at h
      exact ⟨k, ks', (Option.some.inj h).symm, rfl, rfl⟩
section
variable {X : Cx} {pins : List (Addr × Obj)} {σ : L2.St} {H : Hp} {s : Shared}
mutual
theorem nested_of (I : Inv X pins σ H s) : ∀ (d : PyData) (k : NestedKey) (v : V) (u : Value), keyD d = some k → Dp X.K H v d → RelV v u → NestedIs s.heap k u
  | .none, k, v, u, hk, hd, r => by
    rw [keyD] at hk
    cases hk
    cases hd
    cases r
    exact .none
  | .bool b, k, v, u, hk, hd, r => by
    rw [keyD] at hk
    cases hk
    cases hd
    cases r
    exact .bool rfl
  | .int i, k, v, u, hk, hd, r => by
    rw [keyD] at hk
    cases hk
    cases hd
    obtain ⟨t, rfl⟩ := r
    exact .int i t
  | .str x, k, v, u, hk, hd, r => by
    rw [keyD] at hk
    cases hk
    cases hd
    obtain ⟨t, rfl⟩ := r
    exact .text x t
  | .list _, _, _, _, hk, _, _ => by rw [keyD] at hk <;> cases hk
  | .dict _, _, _, _, hk, _, _ => by rw [keyD] at hk <;> cases hk
  | .tuple ds, k, v, u, hk, hd, r => by
    rw [keyD] at hk
    obtain ⟨ks, hks, rfl⟩ := Option.map_eq_some_iff.mp hk
    cases hd with
    | tup hs ha =>
      cases r
      obtain ⟨its, rv, p, _⟩ := I.tuple hs
      obtain ⟨o, ho, hc, n, hd⟩ := p
      exact .tup ho hc hd (by simpa using nested_all I ds ks _ _ hks ha rv)
theorem nested_all (I : Inv X pins σ H s) : ∀ (ds : List PyData) (ks : List NestedKey) (vs : List V) (us : List Value), keyDs ds = some ks → DpAll X.K H vs ds → Vals vs us → NestedAll s.heap ks us
  | [], ks, vs, us, hk, hd, r => by
    rw [keyDs] at hk
    cases hk
    cases hd
    cases r
    exact .nil
  | d :: ds, ks, vs, us, hk, hd, r => by
    obtain ⟨k, ks', rfl, h1, h2⟩ := keyDs_cons hk
    cases hd with
    | cons a b =>
      cases r with
      | cons r1 r2 => exact .cons (nested_of I d k _ _ h1 a r1) (nested_all I ds ks' _ _ h2 b r2)
end
end

/-! ### the dict -/
/-- a dict of keys of any depth: each key, the object that is it, the value -/
def NdO (P : Program) (w : World) (d : Addr) (kvs : List (NestedKey × Addr × V)) : HO := .ext fun h => kvs.length ≤ sizeLine ∧ (d == sysModules) = false ∧
  ∃ xs : List (NestedKey × Addr × Value), Paired (fun p q => p.1 = q.1 ∧ p.2.1 = q.2.1 ∧ RelV p.2.2 q.2.2) kvs xs ∧
    ∃ o es ep, h.get? d = some o ∧ o.ExactDict ∧ o.data = .dict es ep ∧ es.toList = xs.map (entryOfKey (nestedKind P w)) ∧ (xs.map (·.1)).Nodup
/-- it stands at d, and its keys are what they are -/
structure Nd (P : Program) (w : World) (K : PySem.W.Frag) (H : Hp) (d : Addr) (kvs : List (NestedKey × Addr × V)) : Prop where
  at_ : H d = some (NdO P w d kvs)
  keys : ∀ x ∈ kvs, ∃ dd, Dp K H (.ref x.2.1) dd ∧ imm dd = true ∧ keyD dd = some x.1 ∧ x.1.depth ≤ 8
theorem ndO_ok {P : Program} {w : World} {H : Hp} {h : Heap} {d : Addr} {kvs : List (NestedKey × Addr × V)} (hl : kvs.length ≤ sizeLine) (hs : (d == sysModules) = false) {xs : List (NestedKey × Addr × Value)} (pr : Paired (fun p q => p.1 = q.1 ∧ p.2.1 = q.2.1 ∧ RelV p.2.2 q.2.2) kvs xs)
    {o : Obj} {es : Array DictEntry} {ep : Nat} (h1 : h.get? d = some o) (h2 : o.ExactDict) (h3 : o.data = .dict es ep) (h4 : es.toList = xs.map (entryOfKey (nestedKind P w))) (h5 : (xs.map (·.1)).Nodup) : ObjOk P w H h d (NdO P w d kvs) :=
  ⟨⟨hl, hs, xs, pr, o, es, ep, h1, h2, h3, h4, h5⟩, ⟨o, h1⟩, fun _ _ z k => by
    obtain ⟨a, b, xs, pr, o, es, ep, e1, e2⟩ := z
    exact ⟨a, b, xs, pr, o, es, ep, k _ e1, e2⟩⟩
theorem Nd.tx {P : Program} {w : World} {K : PySem.W.Frag} {H H' : Hp} {d : Addr} {kvs : List (NestedKey × Addr × V)} (N : Nd P w K H d kvs) (t : Tx H H') (h : H' d = some (NdO P w d kvs)) : Nd P w K H' d kvs :=
  ⟨h, fun x hx => by
    obtain ⟨dd, a, b, c⟩ := N.keys x hx
    exact ⟨dd, dp_tx t _ _ b a, b, c⟩⟩
theorem Nd.ex {P : Program} {w : World} {K : PySem.W.Frag} {H H' : Hp} {d : Addr} {kvs : List (NestedKey × Addr × V)} (N : Nd P w K H d kvs) (e : Ex H H') : Nd P w K H' d kvs := N.tx (Tx.of_ex e) (e _ _ N.at_)
theorem paired_mem {α β : Type} {F : α → β → Prop} : ∀ {xs : List α} {ys : List β}, Paired F xs ys → ∀ y ∈ ys, ∃ x ∈ xs, F x y
  | _, _, .nil, y, hy => absurd hy (by simp)
  | _, _, .cons h t, y, hy => by
    rcases List.mem_cons.mp hy with rfl | hy
    · exact ⟨_, List.mem_cons_self, h⟩
    · obtain ⟨x, hx, hf⟩ := paired_mem t y hy
      exact ⟨x, List.mem_cons_of_mem _ hx, hf⟩
/-- whether it has a key -/
def hasN (kvs : List (NestedKey × Addr × V)) (k : NestedKey) : Bool := kvs.any fun x => decide (x.1 = k)
theorem has_pair {kvs : List (NestedKey × Addr × V)} {xs : List (NestedKey × Addr × Value)} (pr : Paired (fun p q => p.1 = q.1 ∧ p.2.1 = q.2.1 ∧ RelV p.2.2 q.2.2) kvs xs) (k : NestedKey) : (atKey xs k).isSome = hasN kvs k := by
  unfold atKey hasN
  rw [Option.isSome_map]
  induction pr with
  | nil => rfl
  | @cons p q ps qs h t ih =>
    rw [List.find?_cons, List.any_cons, ← h.1]
    cases e : decide (p.1 = k) with
    | true => rfl
    | false => simpa using ih
theorem val_pair {kvs : List (NestedKey × Addr × V)} {xs : List (NestedKey × Addr × Value)} (pr : Paired (fun p q => p.1 = q.1 ∧ p.2.1 = q.2.1 ∧ RelV p.2.2 q.2.2) kvs xs) {k : NestedKey} {v : V} (h : (kvs.find? fun x => decide (x.1 = k)).map (·.2.2) = some v) : ∃ p, atKey xs k = some p ∧ RelV v p.2 := by
  unfold atKey
  induction pr with
  | nil => cases h
  | @cons p q ps qs hh t ih =>
    rw [List.find?_cons] at h ⊢
    rw [← hh.1]
    cases e : decide (p.1 = k) with
    | true =>
      rw [e] at h
      cases h
      exact ⟨q.2, rfl, hh.2.2⟩
    | false =>
      rw [e] at h
      exact ih h
section
variable {X : Cx} {pins : List (Addr × Obj)} {σ : L2.St} {H : Hp} {s : Shared}
theorem nd_open (I : Inv X pins σ H s) {d : Addr} {kvs : List (NestedKey × Addr × V)} (N : Nd X.prog X.w X.K H d kvs) : kvs.length ≤ sizeLine ∧ (d == sysModules) = false ∧
    ∃ xs : List (NestedKey × Addr × Value), Paired (fun p q => p.1 = q.1 ∧ p.2.1 = q.2.1 ∧ RelV p.2.2 q.2.2) kvs xs ∧ s.heap.DictOfH (nestedKind X.prog X.w) d xs := by
  obtain ⟨⟨hl, hs, xs, pr, o, es, ep, h1, h2, h3, h4, h5⟩, _, _⟩ := (show ObjOk X.prog X.w H s.heap d (NdO X.prog X.w d kvs) from I.hok d _ N.at_)
  refine ⟨hl, hs, xs, pr, o, es, ep, h1, h2, h3, h4, fun x hx => ?_, h5⟩
  obtain ⟨p, hp, e1, e2, _⟩ := paired_mem pr x hx
  obtain ⟨dd, a, _, c, dep⟩ := N.keys p hp
  rw [← e1, ← e2]
  exact ⟨nested_of I dd _ _ _ c a rfl, dep⟩
/-- k in d, d such a dict -/
def rInN (P : Program) (w : World) (K : PySem.W.Frag) (neg : Bool) : R2 := fun x y H Q => ∃ d kvs a dd k, x = .ref a ∧ y = .ref d ∧ Nd P w K H d kvs ∧ Dp K H (.ref a) dd ∧ keyD dd = some k ∧ k.depth ≤ 8 ∧ Q (.bl (if neg then !hasN kvs k else hasN kvs k)) H
theorem op_inN (hu : X.A.units + 64 < cLine) : OpR X (compareOp .In) (rInN X.prog X.w X.K false) := by
  intro pins s σ H x y v u Q I rx ry h
  obtain ⟨d, kvs, a, dd, k, rfl, rfl, N, hd, hk, dep, q⟩ := h
  cases rx
  cases ry
  obtain ⟨_, hs, xs, pr, D⟩ := nd_open I N
  refine wpAny_in_heap (knd := nestedKind X.prog X.w) (show X.A.in1.units + 8 < cLine from ?_) ⟨nested_of I dd k _ _ hk hd rfl, dep⟩ hs D ?_
  · have : X.A.in1.units ≤ X.A.units + 1 := by
      show X.A.in1.units ≤ _
      exact Nat.le_of_eq rfl
    omega
  · rw [has_pair pr]
    exact ⟨.bl _, H, I.tok _, rfl, q⟩
theorem op_notInN (hu : X.A.units + 64 < cLine) : OpR X (compareOp .NotIn) (rInN X.prog X.w X.K true) := by
  intro pins s σ H x y v u Q I rx ry h
  obtain ⟨d, kvs, a, dd, k, rfl, rfl, N, hd, hk, dep, q⟩ := h
  cases rx
  cases ry
  obtain ⟨_, hs, xs, pr, D⟩ := nd_open I N
  refine wpAny_notIn_heap (knd := nestedKind X.prog X.w) (show X.A.in1.units + 8 < cLine from ?_) ⟨nested_of I dd k _ _ hk hd rfl, dep⟩ hs D ?_
  · have : X.A.in1.units ≤ X.A.units + 1 := by
      show X.A.in1.units ≤ _
      exact Nat.le_of_eq rfl
    omega
  · rw [has_pair pr]
    exact ⟨.bl _, H, I.tok _, rfl, q⟩
end
end DL
set_option Elab.async false
set_option linter.all false
set_option maxRecDepth 100000
set_option maxHeartbeats 4000000
/-! data compared and sorted -/
namespace DL
open PySem PySem.Spec PyProof.Rows L2 Evl
open PySem.W (alike alikeAll dataLt AllAlike Sortable dataLe EachIs)

def rLtD (K : PySem.W.Frag) : R2 := fun x y H Q => ∃ d e, Dp K H x d ∧ Dp K H y e ∧ alike d e = true ∧ d ≠ .none ∧ d.depth ≤ 50 ∧ Q (.bl (dataLt d e)) H
/-- a rises to b -/
def leD (a b : PyData) : Bool := !dataLt b a
def rSortedD (K : PySem.W.Frag) : List V → Hp → VK → Prop := fun vs H Q => ∃ (a : Addr) (xs : List V) (ds : List PyData), vs = [.ref a] ∧ SqL K H a xs ∧ DpAll K H xs ds ∧ AllAlike ds ∧ Sortable ds ∧ (∀ d ∈ ds, d.depth ≤ 50) ∧
  ∀ p ys, H p = none → DpAll K H ys (ds.mergeSort leD) → Q (.ref p) (upd H p (.lst ys))
theorem each_zip {K : PySem.W.Frag} {H : Hp} : ∀ {xs : List V} {its : List Value} {ds : List PyData}, Vals xs its → DpAll K H xs ds → EachIs (fun (v : Value) (b : V × PyData) => RelV b.1 v ∧ Dp K H b.1 b.2) its (xs.zip ds)
  | _, _, _, .nil, .nil => .nil
  | _, _, _, .cons r rs, .cons d ds => .cons ⟨r, d⟩ (each_zip rs ds)
theorem zip_snd {K : PySem.W.Frag} {H : Hp} : ∀ {xs : List V} {ds : List PyData}, DpAll K H xs ds → (xs.zip ds).map Prod.snd = ds
  | _, _, .nil => rfl
  | _, _, .cons _ t => congrArg (List.cons _) (zip_snd t)
theorem each_vals {K : PySem.W.Frag} {H : Hp} : ∀ {its : List Value} {bs : List (V × PyData)}, EachIs (fun (v : Value) (b : V × PyData) => RelV b.1 v ∧ Dp K H b.1 b.2) its bs → Vals (bs.map Prod.fst) its ∧ DpAll K H (bs.map Prod.fst) (bs.map Prod.snd)
  | _, _, .nil => ⟨.nil, .nil⟩
  | _, _, .cons h t => ⟨.cons h.1 (each_vals t).1, .cons h.2 (each_vals t).2⟩
section
variable {X : Cx}
theorem op_ltD (hu : X.A.units + 64 < cLine) : OpR X (compareOp .Lt) (rLtD X.K) := by
  intro pins s σ H x y v u Q I rx ry h
  obtain ⟨d, e, hd, he, al, nn, dep, q⟩ := h
  obtain ⟨as, r1⟩ := Dp.reads I d x v hd rx
  obtain ⟨bs, r2⟩ := Dp.reads I e y u he ry
  exact PySem.W.lt_data r1 r2 al nn (by omega) ⟨.bl _, H, I, rfl, q⟩
theorem cr_sortedD (hu : X.A.units + 64 < cLine) : CallR X (.builtin "sorted") (rSortedD X.K) := by
  intro pins s σ H vs us Q I r h
  obtain ⟨a, xs, ds, rfl, hs, hd, al, so, dep, q⟩ := h
  obtain rfl := Vals.ref1 r
  obtain ⟨its, rv, pl, hz⟩ := I.list hs
  have ez := each_zip rv hd
  have en := zip_snd hd
  have len : (xs.zip ds).length = xs.length := by rw [List.length_zip, dpa_len hd, Nat.min_self]
  refine PySem.W.sorted_data (β := V × PyData) (enc := Prod.snd) (R := fun v b => RelV b.1 v ∧ Dp X.K H b.1 b.2) (bs := xs.zip ds) pl.isList ez (ez.mono fun v b z => Dp.reads I b.2 b.1 v z.2 z.1) (by rw [en]; exact al) (by rw [en]; exact so) (by rw [len]; exact hz) (fun b hb => ?_) fun out lo eo => ?_
  · have := dep b.2 (by rw [← en]; exact List.mem_map_of_mem hb)
    omega
  · obtain ⟨vo, dpo⟩ := each_vals eo
    obtain ⟨c, hc⟩ := sortedAll_at s.heap its out.toArray
    have nw : H (s.heap.objs.size + 1) = none := I.hok.fresh (Nat.le_succ _)
    have srt : ((xs.zip ds).mergeSort (dataLe false Prod.snd)).map Prod.snd = ds.mergeSort leD := by
      rw [List.map_mergeSort (r := dataLe false Prod.snd) (s := leD) (f := Prod.snd) (fun _ _ _ _ => rfl), en]
    rw [srt] at dpo
    refine ⟨.ref (s.heap.objs.size + 1), _, I.laid (t' := s.toks) (o := .lst (((xs.zip ds).mergeSort (dataLe false Prod.snd)).map Prod.fst)) (fun _ _ z => sortedAll_old z) (Nat.le_succ _) ?_, rfl, q _ _ nw dpo⟩
    exact ⟨by rw [List.length_map, List.length_mergeSort, len]; exact hz, out, c, vo, hc⟩
end
section
variable {K : PySem.W.Frag} {σ : L2.St} {H : Hp} {ta tb te : TE} {d e : PyData} {ds : List PyData}
theorem ev_ltD (ha : EvD K ta σ H d) (hb : EvD K tb σ H e) (al : alike d e = true) (nn : d ≠ .none) (dep : d.depth ≤ 50) : Ev (tOp (rLtD K) ta tb) σ H (.bl (dataLt d e)) := fun H1 x Q q =>
  ha H1 x _ fun v H2 e2 hv => hb H2 (x.trans e2) _ fun u H3 e3 hu => ⟨d, e, dp_ex e3 _ _ hv, hu, al, nn, dep, q H3 (e2.trans e3)⟩
theorem en_sortedD (h : EvD K te σ H (.list ds)) (al : AllAlike ds) (so : Sortable ds) (dep : ∀ d ∈ ds, d.depth ≤ 50) : EvN K (tCB (rSortedD K) (tCons te tNil)) σ H (ds.mergeSort leD) := fun H1 e Q q =>
  h H1 e _ fun v H2 e2 hv => by
    cases hv with
    | lst hs ha => exact ⟨_, _, ds, rfl, hs, ha, al, so, dep, fun p ys hp hy => q p ys _ (fresh_back e2 hp) (e2.trans (Ex.new hp)) upd_same (dpa_ex (Ex.new hp) _ _ hy)⟩
end
end DL
set_option Elab.async false
set_option linter.all false
set_option maxRecDepth 100000
set_option maxHeartbeats 4000000
namespace K16
open PySem PySem.Spec PyProof.Rows L2 Evl DL
local macro_rules | `(tactic| walk_at "dl") => `(tactic| first
  | exact ev_c | exact ev_var rfl | exact eda_nil
  | exact ed_var rfl (by assumption)
  | exact ed_int ev_c | exact ed_int (ev_var rfl)
  | (refine eda_cons ?_ ?_ <;> walk_at "dl")
  | (refine ed_int ?_; walk_at "dl")
  | (refine ev_op ?_ ?_ rv_I0 <;> walk_at "dl"))

section
variable {X : Cx} {a b c d : Expr} {ta tb tc td : TE}
/-- a op b op c op d -/
def tChain3 (r1 r2 r3 : R2) (ta tb tc td : TE) : TE := fun σ H Q => ta σ H fun x H1 => tb σ H1 fun y H2 => r1 x y H2 fun z H3 => ∃ k, z = .bl k ∧
  (if k = true then tc σ H3 fun u H4 => r2 y u H4 fun z2 H5 => ∃ k2, z2 = .bl k2 ∧ (if k2 = true then td σ H5 fun v H6 => r3 u v H6 Q else Q (.bl false) H5) else Q (.bl false) H3)
theorem pe_chain3 {o1 o2 o3 : CmpOp} {r1 r2 r3 : R2} {pos : Pos} (h1 : OpR X (compareOp o1) r1) (h2 : OpR X (compareOp o2) r2) (h3 : OpR X (compareOp o3) r3) (ha : PE X a ta) (hb : PE X b tb) (hc : PE X c tc) (hd : PE X d td)
    (hm : lastMarks [o1, o2, o3] [b, c, d] = false := by with_unfolding_all rfl) : PE X (.Compare a [o1, o2, o3] [b, c, d] pos) (tChain3 r1 r2 r3 ta tb tc td) := by
  constructor
  intro pins s σ H Q I h
  apply Compare_chain _ hm
  refine thn (ha.run pins s σ H _ I h) fun va sa za => ?_
  obtain ⟨x, Ha, Ia, ra, qa⟩ := za
  apply chain_link
  refine thn (hb.run pins sa σ Ha _ Ia qa) fun vb sb zb => ?_
  obtain ⟨y, Hb, Ib, rb, qb⟩ := zb
  refine thn (h1 pins sb σ Hb x y va vb _ Ib ra rb qb) fun ve se ze => ?_
  obtain ⟨e, He, Ie, re, k, rfl, qe⟩ := ze
  cases re
  apply wpAny_truthy_bool
  cases k with
  | false => exact ite_ff ⟨.bl false, He, Ie, rfl, qe⟩
  | true =>
    refine ite_tt ?_
    apply chain_link
    refine thn (hc.run pins se σ He _ Ie qe) fun vc sc zc => ?_
    obtain ⟨u, Hc, Ic, rc, qc⟩ := zc
    refine thn (h2 pins sc σ Hc y u vb vc _ Ic rb rc qc) fun vf sf zf => ?_
    obtain ⟨f, Hf, If, rf, k2, rfl, qf⟩ := zf
    cases rf
    apply wpAny_truthy_bool
    cases k2 with
    | false => exact ite_ff ⟨.bl false, Hf, If, rfl, qf⟩
    | true =>
      refine ite_tt (chain_last ?_)
      refine thn (hd.run pins sf σ Hf _ If qf) fun vd sd zd => ?_
      obtain ⟨v, Hd, Id, rd, qd⟩ := zd
      exact h3 pins sd σ Hd u v vc vd Q Id rc rd qd
end
section
variable {σ : L2.St} {H : Hp} {ta tb tc td : TE}
/-- where all three hold -/
theorem ev_chain3 {f g h : Int → Int → Bool} {x y z u : Int} (ha : Ev ta σ H (.int x)) (hb : Ev tb σ H (.int y)) (hc : Ev tc σ H (.int z)) (hd : Ev td σ H (.int u)) (e1 : f x y = true) (e2 : g y z = true) (e3 : h z u = true) :
    Ev (tChain3 (rI0 fun i j => .bl (f i j)) (rI0 fun i j => .bl (g i j)) (rI0 fun i j => .bl (h i j)) ta tb tc td) σ H (.bl true) := fun H1 e Q q =>
  ha H1 e _ fun H2 e2' => hb H2 (e.trans e2') _ fun H3 e3' => ⟨x, y, rfl, rfl, f x y, rfl, by
    rw [e1]
    show tc σ H3 _
    refine hc H3 ((e.trans e2').trans e3') _ fun H4 e4 => ⟨y, z, rfl, rfl, g y z, rfl, ?_⟩
    rw [e2]
    show td σ H4 _
    refine hd H4 (((e.trans e2').trans e3').trans e4) _ fun H5 e5 => ⟨z, u, rfl, rfl, ?_⟩
    show Q (.bl (h z u)) H5
    rw [e3]
    exact q H5 (((e2'.trans e3').trans e4).trans e5)⟩
end
/-! ### rows that rise -/
def risesD (xs : List PyData) : Bool := (List.zipWith PySem.W.dataLt xs xs.tail).all id
section
variable {P : Program} {w : World} {K : PySem.W.Frag} {mg : Str → Option Value} {base : Heap}

theorem rises_no {xs : List PyData} {i : Nat} {a b : PyData} (h1 : xs[i]? = some a) (h2 : xs[i + 1]? = some b) (h : PySem.W.dataLt a b = false) : risesD xs = false := by
  unfold risesD
  rw [List.all_eq_false]
  refine ⟨false, List.mem_of_getElem? (i := i) ?_, by simp⟩
  rw [List.getElem?_zipWith, h1, List.getElem?_tail, h2]
  simp [h]
theorem rises_yes {xs : List PyData} (h : ∀ (i : Nat) a b, xs[i]? = some a → xs[i + 1]? = some b → PySem.W.dataLt a b = true) : risesD xs = true := by
  unfold risesD
  rw [List.all_eq_true]
  intro z hz
  obtain ⟨i, hi⟩ := List.mem_iff_getElem?.mp hz
  rw [List.getElem?_zipWith, List.getElem?_tail] at hi
  cases h1 : xs[i]? with
  | none => rw [h1] at hi; simp at hi
  | some x =>
    cases h2 : xs[i + 1]? with
    | none => rw [h1, h2] at hi; simp at hi
    | some y =>
      rw [h1, h2] at hi
      have := h i x y h1 h2
      simpa [this] using hi.symm
/-- data of one kind, small -/
def Row (xs : List PyData) : Prop := PySem.W.AllAlike xs ∧ (∀ x ∈ xs, x ≠ .none ∧ x.depth ≤ 50) ∧ xs.length ≤ 1000
def R_rises (ds : List PyData) (r : PyData) : Prop := ∃ xs, ds = [.tuple xs] ∧ Row xs ∧ r = .bool (risesD xs)
abbrev s_rises : Stmt := topS 9
abbrev N_rises : List Str := ["row", "k"]
theorem sc_rises : FnScope N_rises ["row"] (defScope s_rises) := ⟨rfl, rfl, rfl, by decide +kernel, rfl, by decide +kernel, by decide +kernel⟩
theorem ok_rises {f : Addr} {fd : FuncData} (F : Fun K "rises" "rises" s_rises f fd) (T : Txt mg)
      :
    FnOk P w K mg base CX0 1 f fd ["row"] (spD K 1 R_rises) := by
  refine F.ok sc_rises (fun vs H Q E h => spD_len h) (fun cdv A outer s H vs Q E hr h => ?_)
  obtain ⟨ds, r, hd, _, ⟨xs, rfl, ⟨al, ok, hl⟩, rfl⟩, k⟩ := h
  obtain ⟨v0, rfl, d0⟩ := dpa_one hd
  refine ⟨_, (pss_cons (ps_for PassesOwn.never rfl (pi_range2 (by rfl) T.b_range (pa_cons pe_int (pa_cons (pe_callB call_len_seq (by rfl) T.b_len PySem.boot_len (pa_cons (pv 0) pa_nil)) pa_nil))) (pg_name (i := 1) sc_rises.nd rfl (Or.inl rfl)) (pss_one (ps_if (pt_not (pt_cmpR (op_ltD (hu64 hr)) (pe_ix ix_tup (pv 0) (pe_op op_sub (pv 1) pe_int) (fun _ _ => rfl)) (pe_ix ix_tup (pv 0) (pv 1) (fun _ _ => rfl)) (nomark _))) (pss_one (ps_ret pe_bl)) pss_nil)))
      (pss_one (ps_ret pe_bl))), ?_⟩
  refine e_for (ei_rng2 (K := K) (S := []) (m := 1) (n := (xs.length : Int)) (eda_cons (ed_int ev_c) (eda_cons (ed_int (ev_lenT (ed_var (v := v0) rfl d0))) eda_nil)) (by omega)) (fun H2 i σ' Ha => Ex H2 Ha ∧ (∀ j, j < i → ∀ a b, xs[j]? = some a → xs[j + 1]? = some b → PySem.W.dataLt a b = true) ∧ ∃ y, σ' = [some v0, y]) (fun H2 e2 => ⟨Ex.refl _, fun j hj => absurd hj (by omega), none, rfl⟩) (fun H2 i σ' Ha _ p => Xp.of_ex p.1) ?_ ?_
  · rintro H2 i d y σ' Ha Hb e2 hd1 ⟨p1, pn, z, rfl⟩ e3 hy
    have hlt : i < ((xs.length : Int) - 1).toNat := by
      have := (List.getElem?_eq_some_iff.mp hd1).1
      simpa using this
    rw [rng_get hlt] at hd1
    cases hd1
    cases hy
    have g1 : xs[i]? = some (xs[i]'(by omega)) := List.getElem?_eq_getElem (by omega)
    have g2 : xs[i + 1]? = some (xs[i + 1]'(by omega)) := List.getElem?_eq_getElem (by omega)
    have m1 := List.mem_of_getElem? g1
    have m2 := List.mem_of_getElem? g2
    have dv := dp_ex ((e2.trans p1).trans e3) _ _ d0
    refine s_when (b := !PySem.W.dataLt (xs[i]'(by omega)) (xs[i + 1]'(by omega))) (et_not (et_test (ev_ltD (K := K) (ed_ixT (k := i) (ed_var rfl dv) (ev_is (ev_op (ev_var rfl) ev_c rv_I0) (congrArg V.int (by omega))) g1) (ed_ixT (k := i + 1) (ed_var rfl dv) (ev_is (ev_var rfl) (congrArg V.int (by omega))) g2) (al _ m1 _ m2) (ok _ m1).1 (ok _ m1).2))) (fun hb H3 e4 => ?_) fun hb H3 e4 => ⟨(p1.trans e3).trans e4, fun j hj a b q1 q2 => ?_, _, rfl⟩
    · have no := rises_no g1 g2 (by simpa using hb)
      rw [no] at k
      exact d_ret (ed_bool ev_c) fun v H4 e5 hv => k v H4 (((e2.trans (p1.trans e3)).trans e4).trans e5) hv
    · by_cases ej : j = i
      · subst ej
        rw [g1] at q1
        rw [g2] at q2
        cases q1
        cases q2
        simpa using hb
      · exact pn j (by omega) a b q1 q2
  · rintro H2 σ' Ha e2 ⟨p1, pn, z, rfl⟩
    have yes : risesD xs = true := rises_yes fun i a b q1 q2 => pn i (by
      have := (List.getElem?_eq_some_iff.mp q2).1
      rw [List.length_map, List.length_range]
      omega) a b q1 q2
    rw [yes] at k
    exact d_ret (ed_bool ev_c) fun v H4 e5 hv => k v H4 ((e2.trans p1).trans e5) hv

/-- tracks, where they are well -/
def R_check_tracks (ds : List PyData) (r : PyData) : Prop := ∃ x l : Int, ds = [.int x, .int l] ∧ l ≤ x ∧ x ≤ 6 ∧ r = .none
theorem int_of_get {l : List Int} {i : Nat} {x : PyData} (h : (dI l)[i]? = some x) : ∃ n, x = .int n := by
  obtain ⟨n, _, e⟩ := List.mem_map.mp (List.mem_of_getElem? h)
  exact ⟨n, e.symm⟩
/-! ### switches -/
abbrev Sw := (Int × Int) × (Int × Int)
def swD (w : Sw) : PyData := .tuple [pD w.1, pD w.2]
def SwOk (s t : Int) (w : Sw) : Prop := 0 ≤ w.1.1 ∧ w.1.1 < w.2.1 ∧ w.2.1 < s ∧ 0 ≤ w.1.2 ∧ w.1.2 < t ∧ 0 ≤ w.2.2 ∧ w.2.2 < t
def R_is_switch (ds : List PyData) (r : PyData) : Prop := ∃ (s t : Int) (w : Sw), ds = [.int s, .int t, swD w] ∧ SwOk s t w ∧ r = .bool true
theorem alike_sw (a b : Sw) : PySem.W.alike (swD a) (swD b) = true := rfl
theorem row_sw {ws : List Sw} (hl : ws.length ≤ 1000) : Row (ws.map swD) := by
  refine ⟨fun d hd e he => ?_, fun d hd => ?_, by rw [List.length_map]; exact hl⟩
  · obtain ⟨a, _, rfl⟩ := List.mem_map.mp hd
    obtain ⟨b, _, rfl⟩ := List.mem_map.mp he
    rfl
  · obtain ⟨a, _, rfl⟩ := List.mem_map.mp hd
    exact ⟨(fun z => nomatch z), by show (swD a).depth ≤ 50; simp [swD, pD, PyData.depth, PyData.depthAll]⟩
def R_is_switch_tuple (ds : List PyData) (r : PyData) : Prop := ∃ (s t : Int) (ws : List Sw), ds = [.int s, .int t, .tuple (ws.map swD)] ∧ (∀ w ∈ ws, SwOk s t w) ∧ ws.length ≤ 1000 ∧ r = .bool (risesD (ws.map swD))
end
end K16
set_option Elab.async false
set_option linter.all false
set_option maxRecDepth 100000
set_option maxHeartbeats 4000000
/-! lanes of eight bits: what the program's guards tell of two packed loads -/
namespace P3
open PySem PySem.Spec PyProof.Rows L2
def pkN : List Nat → Nat
  | [] => 0
  | x :: l => x * 256 ^ l.length + pkN l
def gdN : Nat → Nat
  | 0 => 0
  | n + 1 => 128 * 256 ^ n + gdN n
theorem pk_lt : ∀ (l : List Nat), (∀ x ∈ l, x < 256) → pkN l < 256 ^ l.length
  | [], _ => by simp [pkN]
  | x :: l, h => by
    have ih := pk_lt l fun y hy => h y (List.mem_cons_of_mem _ hy)
    have hx := h x List.mem_cons_self
    have : x * 256 ^ l.length + pkN l < (x + 1) * 256 ^ l.length := by rw [Nat.add_mul, Nat.one_mul]; omega
    have : (x + 1) * 256 ^ l.length ≤ 256 * 256 ^ l.length := Nat.mul_le_mul_right _ (by omega)
    rw [pkN, List.length_cons, Nat.pow_succ, Nat.mul_comm (256 ^ l.length) 256]
    omega
theorem gd_pk : ∀ n, gdN n = pkN (List.replicate n 128)
  | 0 => rfl
  | n + 1 => by rw [gdN, List.replicate_succ, pkN, List.length_replicate, gd_pk n]
theorem p256 (n : Nat) : (256 : Nat) ^ n = 2 ^ (8 * n) := by rw [Nat.pow_mul]
/-- bit by bit, a lane ahead -/
theorem or_lane {a b r s k : Nat} (hr : r < 2 ^ k) (hs : s < 2 ^ k) : (a * 2 ^ k + r) ||| (b * 2 ^ k + s) = (a ||| b) * 2 ^ k + (r ||| s) := by
  have h := Nat.or_lt_two_pow hr hs
  have e1 : (a * 2 ^ k + r) / 2 ^ k = a := by rw [Nat.mul_comm, Nat.mul_add_div (Nat.two_pow_pos k), Nat.div_eq_of_lt hr, Nat.add_zero]
  have e2 : (b * 2 ^ k + s) / 2 ^ k = b := by rw [Nat.mul_comm, Nat.mul_add_div (Nat.two_pow_pos k), Nat.div_eq_of_lt hs, Nat.add_zero]
  have m1 : (a * 2 ^ k + r) % 2 ^ k = r := by rw [Nat.mul_comm, Nat.mul_add_mod, Nat.mod_eq_of_lt hr]
  have m2 : (b * 2 ^ k + s) % 2 ^ k = s := by rw [Nat.mul_comm, Nat.mul_add_mod, Nat.mod_eq_of_lt hs]
  have d := Nat.div_add_mod ((a * 2 ^ k + r) ||| (b * 2 ^ k + s)) (2 ^ k)
  rw [Nat.or_div_two_pow, Nat.or_mod_two_pow, e1, e2, m1, m2] at d
  rw [← d, Nat.mul_comm]
theorem and_lane {a b r s k : Nat} (hr : r < 2 ^ k) (hs : s < 2 ^ k) : (a * 2 ^ k + r) &&& (b * 2 ^ k + s) = (a &&& b) * 2 ^ k + (r &&& s) := by
  have e1 : (a * 2 ^ k + r) / 2 ^ k = a := by rw [Nat.mul_comm, Nat.mul_add_div (Nat.two_pow_pos k), Nat.div_eq_of_lt hr, Nat.add_zero]
  have e2 : (b * 2 ^ k + s) / 2 ^ k = b := by rw [Nat.mul_comm, Nat.mul_add_div (Nat.two_pow_pos k), Nat.div_eq_of_lt hs, Nat.add_zero]
  have m1 : (a * 2 ^ k + r) % 2 ^ k = r := by rw [Nat.mul_comm, Nat.mul_add_mod, Nat.mod_eq_of_lt hr]
  have m2 : (b * 2 ^ k + s) % 2 ^ k = s := by rw [Nat.mul_comm, Nat.mul_add_mod, Nat.mod_eq_of_lt hs]
  have d := Nat.div_add_mod ((a * 2 ^ k + r) &&& (b * 2 ^ k + s)) (2 ^ k)
  rw [Nat.and_div_two_pow, Nat.and_mod_two_pow, e1, e2, m1, m2] at d
  rw [← d, Nat.mul_comm]
theorem byte_or : ∀ x, x < 128 → x ||| 128 = x + 128 := by decide +kernel
theorem byte_and : ∀ y, y < 256 → (y &&& 128 = 128 ↔ 128 ≤ y) := by decide +kernel
theorem and_le_right' (a b : Nat) : a &&& b ≤ b := Nat.and_le_right
theorem or_guard : ∀ (l : List Nat), (∀ x ∈ l, x < 128) → pkN l ||| gdN l.length = pkN (l.map (· + 128))
  | [], _ => rfl
  | x :: l, h => by
    have ih := or_guard l fun y hy => h y (List.mem_cons_of_mem _ hy)
    have hx := h x List.mem_cons_self
    have b1 := pk_lt l fun y hy => by have := h y (List.mem_cons_of_mem _ hy); omega
    have b2 : gdN l.length < 256 ^ l.length := by
      have := pk_lt (List.replicate l.length 128) fun y hy => by rw [List.eq_of_mem_replicate hy]; omega
      rw [List.length_replicate, ← gd_pk] at this
      exact this
    rw [pkN, List.length_cons, gdN, List.map_cons, pkN, List.length_map]
    rw [p256] at b1 b2 ⊢
    rw [or_lane b1 b2, byte_or x hx, ih]
theorem sub_lane : ∀ (t p : List Nat), t.length = p.length → (∀ x ∈ t, x < 128) → (∀ x ∈ p, x < 128) → pkN (t.map (· + 128)) - pkN p = pkN (List.zipWith (fun x y => x + 128 - y) t p) ∧ pkN p ≤ pkN (t.map (· + 128))
  | [], [], _, _, _ => ⟨rfl, Nat.le_refl _⟩
  | x :: t, y :: p, h, ht, hp => by
    have hl : t.length = p.length := by simpa using h
    obtain ⟨i1, i2⟩ := sub_lane t p hl (fun z hz => ht z (List.mem_cons_of_mem _ hz)) fun z hz => hp z (List.mem_cons_of_mem _ hz)
    have hx := ht x List.mem_cons_self
    have hy := hp y List.mem_cons_self
    rw [List.map_cons, pkN, pkN, List.zipWith_cons_cons, pkN, List.length_map, List.length_zipWith, ← hl, Nat.min_self, ← i1]
    have e : (x + 128) * 256 ^ t.length = (x + 128 - y) * 256 ^ t.length + y * 256 ^ t.length := by rw [← Nat.add_mul, Nat.sub_add_cancel (by omega)]
    rw [e]
    omega
theorem and_guard : ∀ (l : List Nat), (∀ x ∈ l, x < 256) → (pkN l &&& gdN l.length = gdN l.length ↔ ∀ x ∈ l, 128 ≤ x)
  | [], _ => by simp [pkN, gdN]
  | x :: l, h => by
    have ih := and_guard l fun y hy => h y (List.mem_cons_of_mem _ hy)
    have hx := h x List.mem_cons_self
    have b1 := pk_lt l fun y hy => h y (List.mem_cons_of_mem _ hy)
    have b2 : gdN l.length < 256 ^ l.length := by
      have := pk_lt (List.replicate l.length 128) fun y hy => by rw [List.eq_of_mem_replicate hy]; omega
      rw [List.length_replicate, ← gd_pk] at this
      exact this
    rw [pkN, List.length_cons, gdN]
    rw [p256] at b1 b2 ⊢
    have b3 : pkN l &&& gdN l.length < 2 ^ (8 * l.length) := Nat.lt_of_le_of_lt Nat.and_le_right b2
    rw [and_lane b1 b2]
    have pos := Nat.two_pow_pos (8 * l.length)
    have split : (x &&& 128) * 2 ^ (8 * l.length) + (pkN l &&& gdN l.length) = 128 * 2 ^ (8 * l.length) + gdN l.length ↔ x &&& 128 = 128 ∧ pkN l &&& gdN l.length = gdN l.length := by
      constructor
      · intro e
        have d := congrArg (· / 2 ^ (8 * l.length)) e
        have m := congrArg (· % 2 ^ (8 * l.length)) e
        simp only [Nat.mul_comm _ (2 ^ (8 * l.length)), Nat.mul_add_div pos, Nat.mul_add_mod, Nat.div_eq_of_lt b3, Nat.div_eq_of_lt b2, Nat.mod_eq_of_lt b3, Nat.mod_eq_of_lt b2, Nat.add_zero] at d m
        exact ⟨d, m⟩
      · rintro ⟨e1, e2⟩
        rw [e1, e2]
    rw [split, byte_and x hx, ih]
    simp
theorem zw_zip (f : Nat → Nat → Nat) : ∀ (t p : List Nat), List.zipWith f t p = (t.zip p).map fun q => f q.1 q.2
  | [], _ => by simp
  | _ :: _, [] => by simp
  | x :: t, y :: p => by rw [List.zipWith_cons_cons, List.zip_cons_cons, List.map_cons, zw_zip f t p]
/-- the guards stand where the upper one has no lane below the lower one's -/
theorem over_iff {t p : List Nat} (hl : t.length = p.length) (ht : ∀ x ∈ t, x < 128) (hp : ∀ x ∈ p, x < 128) : ((pkN t ||| gdN t.length) - pkN p) &&& gdN t.length = gdN t.length ↔ ∀ q ∈ t.zip p, q.2 ≤ q.1 := by
  rw [or_guard t ht, (sub_lane t p hl ht hp).1]
  have len : (List.zipWith (fun x y => x + 128 - y) t p).length = t.length := by rw [List.length_zipWith, hl, Nat.min_self]
  rw [← len, and_guard]
  · constructor
    · intro h q hq
      have := h (q.1 + 128 - q.2) (by
        rw [zw_zip]
        exact List.mem_map.mpr ⟨q, hq, rfl⟩)
      omega
    · intro h y hy
      rw [zw_zip] at hy
      obtain ⟨q, hq, rfl⟩ := List.mem_map.mp hy
      have := h q hq
      show 128 ≤ q.1 + 128 - q.2
      omega
  · intro y hy
    rw [zw_zip] at hy
    obtain ⟨q, hq, rfl⟩ := List.mem_map.mp hy
    have h1 := ht q.1 (List.of_mem_zip hq).1
    show q.1 + 128 - q.2 < 256
    omega
end P3
set_option Elab.async false
set_option linter.all false
set_option maxRecDepth 100000
set_option maxHeartbeats 4000000
namespace K16
open PySem PySem.Spec PyProof.Rows L2 Evl DL
local macro_rules | `(tactic| walk_at "dl") => `(tactic| first
  | exact ev_c | exact ev_var rfl | exact eda_nil
  | exact ed_var rfl (by assumption)
  | exact ed_int ev_c | exact ed_int (ev_var rfl)
  | (refine eda_cons ?_ ?_ <;> walk_at "dl")
  | (refine ed_int ?_; walk_at "dl")
  | (refine ev_op ?_ ?_ rv_I0 <;> walk_at "dl"))
/-! packed loads -/
open P3
def pk (l : List Int) : Int := ((pkN (l.map Int.toNat) : Nat) : Int)
def gd (n : Nat) : Int := (gdN n : Int)
theorem pk_nn (l : List Int) : 0 ≤ pk l := Int.natCast_nonneg _
theorem pkN_snoc : ∀ (l : List Nat) (x : Nat), pkN (l ++ [x]) = pkN l * 256 + x
  | [], x => by simp [pkN]
  | y :: l, x => by
    rw [List.cons_append, pkN, pkN_snoc l x, pkN, List.length_append, List.length_singleton, Nat.pow_succ, Nat.add_mul, Nat.mul_assoc]
    omega
theorem pk_snoc {l : List Int} {i : Nat} {x : Int} (h : 0 ≤ x) (hx : l[i]? = some x) : pk (l.take i) * 2 ^ 8 + x = pk (l.take (i + 1)) := by
  unfold pk
  rw [List.take_add_one, hx, Option.toList_some, List.map_append, List.map_singleton, pkN_snoc]
  rw [Int.natCast_add, Int.natCast_mul, Int.toNat_of_nonneg h]
  rfl
theorem pk_small (l : List Int) (h : ∀ x ∈ l, 0 ≤ x ∧ x ≤ 99) (hl : l.length ≤ 100) : (pk l).natAbs < 2 ^ 800 := by
  have b := pk_lt (l.map Int.toNat) fun x hx => by
    obtain ⟨y, hy, rfl⟩ := List.mem_map.mp hx
    have := h y hy
    omega
  rw [List.length_map, p256] at b
  have : (2 : Nat) ^ (8 * l.length) ≤ 2 ^ 800 := Nat.pow_le_pow_right (by decide) (by omega)
  unfold pk
  rw [Int.natAbs_natCast]
  omega
theorem lanes_all : ∀ n : Nat, n ≤ 10 → ((1 * 2 ^ ((8 : Int) * (n : Int)).toNat - 1) / (1 * 2 ^ (8 : Int).toNat - 1) * 128 : Int) = gd n := by decide +kernel
theorem lanes_eq {n : Nat} (h : n ≤ 10) : ((1 * 2 ^ ((8 : Int) * (n : Int)).toNat - 1) / (1 * 2 ^ (8 : Int).toNat - 1) * 128 : Int) = gd n := lanes_all n h
def ov (p g t : Int) : Bool := decide (Builtin.bitAnd (Builtin.bitOr t g - p) g = g)
theorem rv_orL {H : Hp} {a r : Int} {k : Nat} (h1 : 0 ≤ a) (h2 : 0 ≤ r) (h3 : r < 2 ^ k) : RV (fun x y H Q => ∃ (a r : Int) (k : Nat), x = .int (a * 2 ^ k) ∧ y = .int r ∧ (0 ≤ a ∧ 0 ≤ r ∧ r < 2 ^ k) ∧ Q (.int (a * 2 ^ k + r)) H) (.int (a * 2 ^ k)) (.int r) H (.int (a * 2 ^ k + r)) :=
  fun H1 _ _ q => ⟨a, r, k, rfl, rfl, ⟨h1, h2, h3⟩, q H1 (Ex.refl _)⟩
theorem ed_none {K : PySem.W.Frag} {te : TE} {σ : L2.St} {H : Hp} (h : Ev te σ H .non) : EvD K te σ H .none := ev_d h .non
theorem find_at {α : Type} {f : α → Bool} : ∀ {l : List α} {i : Nat} {x : α}, l[i]? = some x → f x = true → (∀ j, j < i → ∀ y, l[j]? = some y → f y = false) → l.find? f = some x
  | [], i, x, h, _, _ => by simp at h
  | a :: l, 0, x, h, hx, _ => by
    simp at h
    subst h
    rw [List.find?_cons, hx]
  | a :: l, i + 1, x, h, hx, no => by
    rw [List.find?_cons, no 0 (by omega) a rfl]
    exact find_at (by simpa using h) hx fun j hj y hy => no (j + 1) (by omega) y (by simpa using hy)
/-- a list that stands, of ints -/
theorem ei_sqL {K : PySem.W.Frag} {σ : L2.St} {H : Hp} {te : TE} {a : Addr} {ds : List PyData} {vs : List V} (h : Ev te σ H (.ref a)) (hs : SqL K H a vs) (hd : DpAll K H vs ds) : EvI K (iList K te) σ H [] ds := fun H1 e R r =>
  h H1 e _ fun H2 e2 => by
    have h2 := ex_l (e.trans e2) hs
    refine ⟨a, rfl, ⟨vs, h2⟩, r _ H2 e2 ?_⟩
    rw [← dpa_len hd]
    refine (walk_list (K := K) (a := a) (xs := vs)).mono (fun Ha x => ex_l x.to_ex h2) fun i Ha v Hb hlt hg y => ?_
    obtain ⟨rfl, hv⟩ := y
    obtain ⟨d, q1, q2⟩ := dpa_getV (dpa_ex ((e.trans e2).trans hg.to_ex) _ _ hd) hv
    exact ⟨Ex.refl _, d, q1, q2⟩
def R_packed (ds : List PyData) (r : PyData) : Prop := ∃ l : List Int, ds = [tI l] ∧ (∀ x ∈ l, 0 ≤ x ∧ x ≤ 99) ∧ l.length ≤ 100 ∧ r = .int (pk l)
def R_lanes (ds : List PyData) (r : PyData) : Prop := ∃ n : Nat, ds = [.int (n : Int), .int 8, .int 128] ∧ n ≤ 10 ∧ r = .int (gd n)
def R_guards (ds : List PyData) (r : PyData) : Prop := ∃ n : Nat, ds = [.int (n : Int)] ∧ n ≤ 10 ∧ r = .int (gd n)
def R_first_over (ds : List PyData) (r : PyData) : Prop := ∃ (ts : List Int) (p g : Int), ds = [.list (dI ts), .int p, .int g] ∧ r = match ts.find? (ov p g) with
  | some t => .int t
  | none => .none
section
variable {P : Program} {w : World} {K : PySem.W.Frag} {mg : Str → Option Value} {base : Heap}
abbrev s_packed : Stmt := topS 18
abbrev N_packed : List Str := ["load", "found", "number"]
theorem sc_packed : FnScope N_packed ["load"] (defScope s_packed) := ⟨rfl, rfl, rfl, by decide +kernel, rfl, by decide +kernel, by decide +kernel⟩
theorem ok_packed {f : Addr} {fd : FuncData} (F : Fun K "packed" "packed" s_packed f fd) (T : Txt mg)
      :
    FnOk P w K mg base CX0 1 f fd ["load"] (spD K 1 R_packed) := by
  refine F.ok sc_packed (fun vs H Q E h => spD_len h) (fun cdv A outer s H vs Q E hr h => ?_)
  obtain ⟨ds, r, hd, _, ⟨l, rfl, hb, hl, rfl⟩, k⟩ := h
  obtain ⟨v0, rfl, d0⟩ := dpa_one hd
  refine ⟨_, (pss_cons (ps_set (i := 1) sc_packed.nd rfl (.inl rfl) pe_int)
      (pss_cons (ps_for PassesOwn.never rfl (pi_tup (pv 0)) (pg_name (i := 2) sc_packed.nd rfl (Or.inl rfl)) (pss_one (ps_set (i := 1) sc_packed.nd rfl (.inl rfl) (pe_op op_orL (pe_op op_shlW (pv 1) (pe_const T.c_WIDTH (by rfl))) (pv 2)))))
      (pss_one (ps_ret (pv 1))))), ?_⟩
  refine qi_asg (v := .int 0) ev_c fun H1 e1 => ?_
  refine e_for (ei_tupD (K := K) (ed_var (v := v0) rfl (dp_ex e1 _ _ d0))) (fun H2 i σ' Ha => Ex H2 Ha ∧ ∃ y, σ' = [some v0, some (.int (pk (l.take i))), y]) (fun H2 e2 => ⟨Ex.refl _, none, rfl⟩) (fun H2 i σ' Ha _ q => Xp.of_ex q.1) ?_ ?_
  · rintro H2 i d y σ' Ha Hb e2 hg ⟨x1, z, rfl⟩ e3 hy
    rw [List.getElem?_map] at hg
    obtain ⟨x, hx, rfl⟩ := Option.map_eq_some_iff.mp hg
    cases dp_int hy
    have bx := hb x (List.mem_of_getElem? hx)
    refine d_asg (K := K) (d := .int (pk (l.take (i + 1)))) (ed_int (ev_is (ev_op (ev_op (ev_var rfl) ev_c (rv_I (shl_ok (j := 8) (pk_small (l.take i) (fun z hz => hb z (List.mem_of_mem_take hz)) (by rw [List.length_take]; omega)) (by decide)))) (ev_var rfl) (rv_orL (a := pk (l.take i)) (k := 8) (pk_nn _) bx.1 (by have := bx.2; omega))) (by rw [pk_snoc bx.1 hx]))) fun v5 H5 e5 hv5 => ?_
    cases dp_int hv5
    exact ⟨(x1.trans e3).trans e5, _, rfl⟩
  · rintro H2 σ' Ha e2 ⟨x1, z, rfl⟩
    rw [List.length_map, List.take_length]
    exact d_ret (K := K) (ed_int (ev_var rfl)) fun v H5 e5 hv => k v H5 (((e1.trans e2).trans x1).trans e5) hv

abbrev s_lanes : Stmt := topS 19
abbrev N_lanes : List Str := ["many", "width", "number"]
theorem sc_lanes : FnScope N_lanes ["many", "width", "number"] (defScope s_lanes) := ⟨rfl, rfl, rfl, by decide +kernel, rfl, by decide +kernel, by decide +kernel⟩
theorem ok_lanes {f : Addr} {fd : FuncData} (F : Fun K "lanes" "lanes" s_lanes f fd) (T : Txt mg)
      :
    FnOk P w K mg base CX0 1 f fd ["many", "width", "number"] (spD K 3 R_lanes) := by
  refine F.ok sc_lanes (fun vs H Q E h => spD_len h) (fun cdv A outer s H vs Q E hr h => ?_)
  obtain ⟨ds, r, hd, _, ⟨n, rfl, hn, rfl⟩, k⟩ := h
  obtain ⟨v0, v1, v2, rfl, d0, d1, d2⟩ := dpa_three hd
  cases dp_int d0
  cases dp_int d1
  cases dp_int d2
  refine ⟨_, (pss_one (ps_ret (pe_op op_mul (pe_op op_fdiv (pe_op op_sub (pe_op op_shl pe_int (pe_op op_mul (pv 1) (pv 0))) pe_int) (pe_op op_sub (pe_op op_shl pe_int (pv 1)) pe_int)) (pv 2)))), ?_⟩
  refine d_ret (K := K) (d := .int (gd n)) (ed_int (ev_is (ev_op (ev_op (ev_op (ev_op ev_c (ev_op (ev_var rfl) (ev_var rfl) (rv_I (.inl (by omega)))) (rv_I ⟨by omega, by omega, by decide⟩)) ev_c rv_I0) (ev_op (ev_op ev_c (ev_var rfl) (rv_I ⟨by decide, by decide, by decide⟩)) ev_c rv_I0) (rv_I ⟨by decide, by decide⟩)) (ev_var rfl) (rv_I (.inr ⟨by decide, by decide⟩))) (congrArg V.int (lanes_eq hn)))) k

abbrev s_guards : Stmt := topS 20
abbrev N_guards : List Str := ["many"]
theorem sc_guards : FnScope N_guards ["many"] (defScope s_guards) := ⟨rfl, rfl, rfl, by decide +kernel, rfl, by decide +kernel, by decide +kernel⟩
theorem ok_guards {f : Addr} {fd : FuncData} (F : Fun K "guards" "guards" s_guards f fd) (T : Txt mg)
    (D_lanes : DF P w K mg base "lanes" 1 ["many", "width", "number"] (spD K 3 R_lanes))  :
    FnOk P w K mg base CX0 2 f fd ["many"] (spD K 1 R_guards) := by
  refine F.ok sc_guards (fun vs H Q E h => spD_len h) (fun cdv A outer s H vs Q E hr h => ?_)
  obtain ⟨ds, r, hd, _, ⟨n, rfl, hn, rfl⟩, k⟩ := h
  obtain ⟨v0, rfl, d0⟩ := dpa_one hd
  cases dp_int d0
  refine ⟨_, (pss_one (ps_ret (pe_D D_lanes (hr.mono (by decide)) (by rfl) (pa_cons (pv 0) (pa_cons (pe_const T.c_WIDTH (by rfl)) (pa_cons (pe_const T.c_GUARD (by rfl)) pa_nil)))))), ?_⟩
  refine d_ret (K := K) (ed_call (R := R_lanes) (ds := [.int (n : Int), .int 8, .int 128]) (eda_cons (ed_int (ev_var rfl)) (eda_cons (ed_int ev_c) (eda_cons (ed_int ev_c) eda_nil))) rfl ⟨n, rfl, hn, rfl⟩) k

abbrev s_first_over : Stmt := topS 21
abbrev N_first_over : List Str := ["tops", "pack", "guard", "top"]
theorem sc_first_over : FnScope N_first_over ["tops", "pack", "guard"] (defScope s_first_over) := ⟨rfl, rfl, rfl, by decide +kernel, rfl, by decide +kernel, by decide +kernel⟩
theorem ok_first_over {f : Addr} {fd : FuncData} (F : Fun K "first_over" "first_over" s_first_over f fd) (T : Txt mg)
      :
    FnOk P w K mg base CX0 1 f fd ["tops", "pack", "guard"] (spD K 3 R_first_over) := by
  refine F.ok sc_first_over (fun vs H Q E h => spD_len h) (fun cdv A outer s H vs Q E hr h => ?_)
  obtain ⟨ds, r, hd, _, ⟨ts, p, g, rfl, rfl⟩, k⟩ := h
  obtain ⟨v0, v1, v2, rfl, d0, d1, d2⟩ := dpa_three hd
  cases dp_int d1
  cases dp_int d2
  refine ⟨_, (pss_cons (ps_for PassesOwn.never rfl (pi_list (pv 0)) (pg_name (i := 3) sc_first_over.nd rfl (Or.inl rfl)) (pss_one (ps_if (pt_cmpR op_eq (pe_op op_and (pe_op op_sub (pe_op op_or (pv 3) (pv 2)) (pv 1)) (pv 2)) (pv 2) (nomark _)) (pss_one (ps_ret (pv 3))) pss_nil)))
      (pss_one (ps_ret pe_non))), ?_⟩
  obtain ⟨a, vs, rfl, hs, da⟩ : ∃ a xs, v0 = V.ref a ∧ SqL K H a xs ∧ DpAll K H xs (dI ts) := by
    cases d0 with
    | lst hs ha => exact ⟨_, _, rfl, hs, ha⟩
  obtain rfl := dpa_ints da
  refine e_for (K := K) (S := []) (ei_sqL (ev_var rfl) hs da) (fun H2 i σ' Ha => Ex H2 Ha ∧ (∀ t ∈ ts.take i, ov p g t = false) ∧ ∃ y, σ' = [some (.ref a), some (.int p), some (.int g), y]) (fun H2 e2 => ⟨Ex.refl _, by simp, none, rfl⟩) (fun H2 i σ' Ha _ q => Xp.of_ex q.1) ?_ ?_
  · rintro H2 i d y σ' Ha Hb e2 hg ⟨x1, no, z, rfl⟩ e3 hy
    rw [List.getElem?_map] at hg
    obtain ⟨t, ht, rfl⟩ := Option.map_eq_some_iff.mp hg
    cases dp_int hy
    refine s_when (b := ov p g t) (et_test (ev_is (ev_op (ev_op (ev_op (ev_op (ev_var rfl) (ev_var rfl) rv_I0) (ev_var rfl) rv_I0) (ev_var rfl) rv_I0) (ev_var rfl) (rv_eq rfl)) (by rw [ov]; simp))) (fun hb H5 e5 => ?_) (fun hb H5 e5 => ?_)
    · refine d_ret (K := K) (d := .int t) (ed_int (ev_var rfl)) fun v H6 e6 hv => k v H6 ((((e2.trans x1).trans e3).trans e5).trans e6) ?_
      rw [find_at ht hb (fun j hj y hy => no y (List.mem_iff_getElem?.mpr ⟨j, by rw [List.getElem?_take_of_lt hj]; exact hy⟩))]
      exact hv
    · refine ⟨(x1.trans e3).trans e5, fun u hu => ?_, _, rfl⟩
      rw [List.take_add_one, ht, Option.toList_some] at hu
      rcases List.mem_append.mp hu with hu | hu
      · exact no u hu
      · rw [List.mem_singleton.mp hu]
        exact hb
  · rintro H2 σ' Ha e2 ⟨x1, no, z, rfl⟩
    rw [List.length_map, List.take_length] at no
    refine d_ret (K := K) (d := .none) (ed_none ev_c) fun v H6 e6 hv => k v H6 ((e2.trans x1).trans e6) ?_
    rw [List.find?_eq_none.mpr fun u hu => by rw [no u hu]; simp]
    exact hv

end
end K16
set_option Elab.async false
set_option linter.all false
set_option maxRecDepth 100000
set_option maxHeartbeats 4000000
/-! sum of a tuple; sorted(d, reverse=b) of a dict whose keys are ints -/
namespace DL
open PySem PySem.Spec PyProof.Rows L2 Evl Calls
theorem ints_at : ∀ {us : List Value} {ms : List Int}, IntsAre us ms → ∀ {i : Nat} {v : Value}, us[i]? = some v → ∃ t, v = .int (ms.getD i 0) t := by
  intro us ms hh
  induction hh with
  | nil => intro i v e; simp at e
  | cons n t _ ih =>
    intro i v e
    cases i with
    | zero => exact ⟨t, by simpa using e.symm⟩
    | succ i =>
      obtain ⟨t', q⟩ := ih (i := i) (v := v) (by simpa using e)
      exact ⟨t', by simpa using q⟩
theorem pre_sum (ns : List Int) : ∀ j, j ≤ ns.length → preSum (fun i => ns.getD i 0) j = (ns.take j).sum
  | 0, _ => by simp [preSum]
  | j + 1, h => by
    rw [preSum, pre_sum ns j (by omega), List.take_add_one, List.getD_eq_getElem?_getD, List.getElem?_eq_getElem (show j < ns.length by omega), List.sum_append]
    simp
section
variable {prog : Program} {w : World} {A : Around} {E : Value → Shared → Prop} {s : Shared} {l : Addr} {its : List Value} {ns : List Int} {Q : Value → Shared → Prop}
theorem sum_rawT (hh : A.handled = none) (hl : s.heap.IsTuple l its.toArray) (hi : IntsAre its ns)
    (h : ∀ h' tk t', (∀ b o, s.heap.get? b = some o → h'.get? b = some o) → Q (.int ns.sum t') { s with heap := h', toks := tk }) : wpAny (model prog w) A (call (.builtin "sum") [.ref l]) Q E s := by
  have len : its.length = ns.length := hi.length
  have there : l < s.heap.objs.size := by
    obtain ⟨o, ho, _⟩ := hl
    exact Heap.lt_size ho
  refine call_sum_walkG (wpAny_pyIter_tuple hl ?_)
  refine ⟨s.heap.objs.size, _, _, _, _, _, fun i => ns.getD i 0, rfl, Walks.tuple (A := A.in1) hh _ l (Nat.ne_of_lt there) its.toArray, ⟨⟨_, Heap.get?_push_size _ rfl, rfl, rfl⟩, Heap.IsTuple.push hl _⟩, fun b hb => ?_, fun i v hv => ints_at hi (by simpa using hv), fun h' tk t' hk => ?_⟩
  · show b < (s.heap.push _).objs.size
    rw [Heap.size_push]
    simp only [List.mem_cons, List.not_mem_nil, or_false] at hb
    rcases hb with z | z
    · rw [z]; exact Nat.lt_succ_self _
    · rw [z]; exact Nat.lt_succ_of_lt there
  · have q := h h' tk t' fun b o e => hk b o (fun hm => by
      have := Heap.lt_size e
      simp only [List.mem_cons, List.not_mem_nil, or_false] at hm
      rw [hm] at this
      exact Nat.lt_irrefl _ this) (Heap.get?_push_of_some _ e)
    rw [pre_sum ns _ (by rw [List.size_toArray, len]; exact Nat.le_refl _), List.take_of_length_le (by rw [List.size_toArray, len]; exact Nat.le_refl _)]
    exact q
end
section
variable {X : Cx}
def rSumT (K : PySem.W.Frag) : List V → Hp → VK → Prop := fun vs H Q => ∃ (a : Addr) (ns : List Int), vs = [V.ref a] ∧ SqT K H a (ns.map V.int) ∧ Q (.int ns.sum) H
theorem cr_sumT (hc : X.calm = true) : CallR X (.builtin "sum") (rSumT X.K) := by
  intro pins s σ H vs us Q I r h
  obtain ⟨a, ns, rfl, hs, q⟩ := h
  obtain ⟨its, rv, hl, _⟩ := I.tuple hs
  rw [Vals.ref1 r]
  exact sum_rawT (I.ok.hd hc) (show s.heap.IsTuple a its.toArray from hl) rv.ints fun h' tk t' hk => ⟨.int _, H, I.kept hk, ⟨_, rfl⟩, q⟩
/-- sorted(d, reverse=b): d's keys are ints -/
def rSortDR (b : Bool) : List V → List V → Hp → VK → Prop := fun vs zs H Q => ∃ (a : Addr) (kvs : List (Key × V)) (ks : List Int), vs = [V.ref a] ∧ zs = [.bl b] ∧ Rd H a (.dK kvs) ∧ kvs.map (·.1) = ks.map Sum.inl ∧ ks.length < 1000 ∧
  ∀ (ys : List Int) (p : Addr), ys.Perm ks → OrdB b ys → H p = none → Q (.ref p) (upd H p (.lst (ys.map V.int)))
theorem cr_sortDR {b : Bool} (hc : X.calm = true) : CallRK X (.builtin "sorted") [Str.ofString "reverse"] (rSortDR b) := by
  intro pins s σ H vs zs us ws Q I r rz h
  obtain ⟨a, kvs, ks, rfl, rfl, hd, hks, few, q⟩ := h
  obtain rfl := Vals.ref1 r
  obtain ⟨w1, rfl, e1⟩ := vals1 rz
  obtain rfl : w1 = Value.bool b := e1
  obtain ⟨z, lo, es, rel, dd⟩ := dk_rd I.hok hd
  obtain ⟨ep, hat⟩ := dd.dictAt
  have keys : es.map (·.1) = ks.map Sum.inl := rel.keys.symm.trans hks
  have len : es.length = ks.length := by
    have e := congrArg List.length keys
    rwa [List.length_map, List.length_map] at e
  have line := sizeLine_eq
  refine call_function_entry_kw PyProof.Rows.kind_sorted PyProof.Rows.plain_sorted PyProof.Rows.entry_sorted (PyProof.Rows.args_sorted_rev _ _) ?_
  unfold Builtin.«sorted»
  refine wpAny_bind (m := checkCount "sorted" 1 1 _) (wpAny_pure ?_)
  refine wpAny_bind (PySem.W.kdu_collect (A := X.A.in1) (PySem.W.kdl_dict (knd := mixKind X.prog X.w) (kvs := es) (ep := ep) lo) (I.ok.hd hc) hat (by omega) fun g tk acc keep got => ?_)
  have la : acc.toList.length = ks.length := by rw [Array.length_toList, got.1, len]
  have allI : IntsAre acc.toList ks := ints_each la fun j v e => by
    obtain ⟨k, x, f1, f2⟩ := got.2 j v (by rw [← Array.getElem?_toList]; exact e)
    have f3 : (es.map (·.1))[j]? = some k := by rw [List.getElem?_map, f1]; rfl
    rw [keys, List.getElem?_map] at f3
    cases f4 : ks[j]? with
    | none => rw [f4] at f3; cases f3
    | some y =>
      rw [f4] at f3
      have f5 : Sum.inl y = k := Option.some.inj f3
      subst f5
      rcases keyIs_shape (show keyIs (Sum.inl y) v = true from f2) with ⟨i, t, ek, ev⟩ | ⟨z, t, ek, ev⟩
      · cases ek
        exact ⟨y, t, rfl, ev⟩
      · cases ek
  have J : Inv X pins σ H { s with heap := g, toks := tk } := I.kept keep
  refine wpAny_bind (wpAny_newList ?_ (by rw [la]; omega))
  have oL : (g.push (seqObj "list" acc.toList.toArray 0)).get? g.objs.size = some (seqObj "list" acc.toList.toArray 0) := Heap.get?_push_size _ rfl
  show wpAny _ _ _ _ _ { s with heap := g.push (seqObj "list" acc.toList.toArray 0), toks := tk }
  refine wpAny_bind (wpAny_holding (wpAny_call_entry_kw PyProof.Rows.slot_list_sort ⟨_, oL, rfl⟩ PyProof.Rows.entry_list_sort ?_ (PyProof.Rows.args_list_sort_rev _ _)))
  refine SrtR.list_sort_ordR (s := { s with heap := g.push (seqObj "list" acc.toList.toArray 0), toks := tk }) SrtO.swo_int oL (by rw [la]; omega) (fun two => SrtO.ints_sortable allI two) fun out o1 o2 => ⟨_, rfl, ?_⟩
  obtain ⟨ys, y1, y2, y3⟩ := SrtR.ints_outR allI o1 o2
  obtain ⟨e', he'⟩ := PyProof.Rows.sortedHeap_at (vs := acc.toList) (out := if b = true then out.toArray.reverse else out.toArray) oL
  have fit : (ys.map V.int).length ≤ sizeLine := by
    rw [List.length_map, y2.length_eq]
    omega
  have back : ((if b = true then out.toArray.reverse else out.toArray).toList).toArray = (if b = true then out.toArray.reverse else out.toArray) := by rw [Array.toArray_toList]
  refine wpAny_pure ⟨_, rfl, .ref g.objs.size, upd H g.objs.size (.lst (ys.map V.int)), J.laid (t' := tk) (fun c u e => ?_) (Nat.le_refl _) ⟨fit, _, e', vals_of_ints y1, by rw [back]; exact he'⟩, rfl, q ys _ y2 y3 (J.hok.fresh (Nat.le_refl _))⟩
  have old : c < g.objs.size := Heap.lt_size e
  rw [PyProof.Rows.sortedHeap_old (Nat.ne_of_lt old) (by rw [size_push']; exact Nat.lt_succ_of_lt old)]
  exact Heap.get?_push_of_some _ e
end
end DL
set_option Elab.async false
set_option linter.all false
set_option maxRecDepth 100000
set_option maxHeartbeats 4000000
/-! such a dict is changed; a dict comprehension whose keys are of any depth -/
namespace DL
open PySem PySem.Spec PyProof.Rows L2 Evl
section
variable {X : Cx} {pins : List (Addr × Obj)} {σ : L2.St} {H : Hp} {s : Shared}
/-- a pair more, or another value -/
def putN (kvs : List (NestedKey × Addr × V)) (k : NestedKey) (b : Addr) (v : V) : List (NestedKey × Addr × V) := if hasN kvs k then kvs.map (fun x => if x.1 = k then (x.1, x.2.1, v) else x) else kvs ++ [(k, b, v)]
theorem putN_len (kvs : List (NestedKey × Addr × V)) (k : NestedKey) (b : Addr) (v : V) : (putN kvs k b v).length ≤ kvs.length + 1 := by
  unfold putN
  split
  · rw [List.length_map]
    omega
  · simp
theorem pair_map {α β : Type} {F : α → β → Prop} {f : α → α} {g : β → β} (h : ∀ a b, F a b → F (f a) (g b)) : ∀ {xs : List α} {ys : List β}, Paired F xs ys → Paired F (xs.map f) (ys.map g)
  | _, _, .nil => .nil
  | _, _, .cons a t => .cons (h _ _ a) (pair_map h t)
theorem pair_app {α β : Type} {F : α → β → Prop} {a : α} {b : β} (h : F a b) : ∀ {xs : List α} {ys : List β}, Paired F xs ys → Paired F (xs ++ [a]) (ys ++ [b])
  | _, _, .nil => .cons h .nil
  | _, _, .cons a t => .cons a (pair_app h t)
theorem put_pair {kvs : List (NestedKey × Addr × V)} {xs : List (NestedKey × Addr × Value)} (pr : Paired (fun p q => p.1 = q.1 ∧ p.2.1 = q.2.1 ∧ RelV p.2.2 q.2.2) kvs xs) (k : NestedKey) (b : Addr) {v : V} {r : Value} (rv : RelV v r) :
    Paired (fun p q => p.1 = q.1 ∧ p.2.1 = q.2.1 ∧ RelV p.2.2 q.2.2) (putN kvs k b v) (storedH xs k b r) := by
  unfold putN storedH
  rw [has_pair pr]
  split
  · refine pair_map (fun p q h => ?_) pr
    unfold putAt
    obtain ⟨h1, h2, h3⟩ := h
    by_cases e : p.1 = k
    · rw [if_pos e, if_pos (h1 ▸ e)]
      exact ⟨h1, h2, rv⟩
    · rw [if_neg e, if_neg (h1 ▸ e)]
      exact ⟨h1, h2, h3⟩
  · exact pair_app ⟨rfl, rfl, rv⟩ pr
theorem putN_mem {kvs : List (NestedKey × Addr × V)} {k : NestedKey} {b : Addr} {v : V} {x : NestedKey × Addr × V} (h : x ∈ putN kvs k b v) : (∃ y ∈ kvs, y.1 = x.1 ∧ y.2.1 = x.2.1) ∨ x = (k, b, v) := by
  unfold putN at h
  split at h
  · obtain ⟨y, hy, rfl⟩ := List.mem_map.mp h
    refine .inl ⟨y, hy, ?_⟩
    split <;> exact ⟨rfl, rfl⟩
  · rcases List.mem_append.mp h with h | h
    · exact .inl ⟨x, h, rfl, rfl⟩
    · exact .inr (List.mem_singleton.mp h)
theorem tx_nd {P : Program} {w : World} {H : Hp} {D d : Addr} {kvs : List (NestedKey × Addr × V)} {u : HO} (h : H D = some (NdO P w d kvs)) : Tx H (L2.upd H D u) := Tx.upd h (fun _ z => nomatch z) fun _ _ z => nomatch z
theorem Nd.put {P : Program} {w : World} {K : PySem.W.Frag} {H : Hp} {D b : Addr} {kvs : List (NestedKey × Addr × V)} {k : NestedKey} {v : V} {dd : PyData} (N : Nd P w K H D kvs) (hb : Dp K H (.ref b) dd) (hi : imm dd = true) (hk : keyD dd = some k) (dep : k.depth ≤ 8) : Nd P w K (L2.upd H D (NdO P w D (putN kvs k b v))) D (putN kvs k b v) :=
  ⟨upd_same, fun x hx => by
    have t := tx_nd (u := NdO P w D (putN kvs k b v)) N.at_
    rcases putN_mem hx with ⟨y, hy, e1, e2⟩ | rfl
    · obtain ⟨d2, a, i, c, dp⟩ := N.keys y hy
      exact ⟨d2, e2 ▸ dp_tx t _ _ i a, i, e1 ▸ c, e1 ▸ dp⟩
    · exact ⟨dd, dp_tx t _ _ hi hb, hi, hk, dep⟩⟩
/-- the dict takes one more pair -/
theorem nd_put {E : Value → Shared → Prop} {D b : Addr} {kvs : List (NestedKey × Addr × V)} {k : NestedKey} {v : V} {r : Value} {dd : PyData} {Q : Unit → Shared → Prop} (hu : X.A.units + 64 < cLine) (I : Inv X pins σ H s) (N : Nd X.prog X.w X.K H D kvs) (hb : Dp X.K H (.ref b) dd) (hk : keyD dd = some k) (dep : k.depth ≤ 8)
    (sz : kvs.length < sizeLine) (rv : RelV v r) (q : ∀ s', Inv X pins σ (upd H D (NdO X.prog X.w D (putN kvs k b v))) s' → Q () s') : wpAny (model X.prog X.w) X.A (dictSet D (.ref b) r) Q E s := by
  obtain ⟨z, hd, xs, rel, dd'⟩ := nd_open I N
  have lx : xs.length ≤ sizeLine := Paired.length rel ▸ z
  have room : (nestedKind X.prog X.w).room X.A := by
    show X.A.units + 8 < cLine
    omega
  refine wpAny_dictSet_heap (hsz := lx) room ⟨nested_of I dd k _ _ hk hb rfl, dep⟩ dd' fun h' now but => q _ ?_
  obtain ⟨o, es, ep, ho, ex, hdat, hl, _, nd⟩ := now
  have pl := putN_len kvs k b v
  exact d_write I (by rw [N.at_]; exact True.intro) but ⟨o, ho⟩ (ndO_ok (by omega) hd (put_pair rel k b rv) ho ex hdat hl nd)
theorem nd_empty {P : Program} {w : World} {H : Hp} (h : Heap) (hb : sysModules < h.objs.size) : ObjOk P w H (h.push { cls := .type "dict", data := .dict #[] }) h.objs.size (NdO P w h.objs.size []) :=
  ndO_ok (Nat.zero_le _) (by
    have : h.objs.size ≠ sysModules := Nat.ne_of_gt hb
    simpa using this) (xs := []) .nil (Heap.get?_push_size _ rfl) ⟨rfl, rfl, rfl⟩ rfl rfl List.nodup_nil
/-- {k: v for ..} -/
def tDcN (P : Program) (w : World) (K : PySem.W.Frag) (wi : TI) (g : TG) (tt : TT) (tk tv : TE) (vs : List Nat) : TE := fun σ H Q => wi σ H fun J Ha => ∀ D, Ha D = none → ∃ (W : Nat → Hp → Prop) (n : Nat), W 0 (upd Ha D (NdO P w D [])) ∧ ∀ i H, W i H →
  (J.stop i H ∧ Q (.ref D) H) ∨ (i < n ∧ J.go i H ∧ ∀ x Hx, J.yld i H x Hx → g x (wipe σ vs) Hx fun σ2 H2 => wipe σ2 vs = wipe σ vs ∧ tt σ2 H2 fun yes H3 =>
    if yes = true then tk σ2 H3 fun y H4 => tv σ2 H4 fun z H5 => ∃ (kvs : List (NestedKey × Addr × V)) (k : NestedKey) (b : Addr) (dd : PyData), y = .ref b ∧ Dp K H5 (.ref b) dd ∧ keyD dd = some k ∧ k.depth ≤ 8 ∧ Nd P w K H5 D kvs ∧ kvs.length < sizeLine ∧ W (i + 1) (upd H5 D (NdO P w D (putN kvs k b z))) else W (i + 1) H3)
theorem pe_dcN {kx vx tg iter : Expr} {ifs : List Expr} {sc : Scope} {own : List (Str × Nat)} {pos : Pos} {wi : TI} {g : TG} {tt : TT} {tk tv : TE} (calm : X.calm = true) (nd : X.N.Nodup) (hu : X.A.units + 64 < cLine) (over : PI X tg iter wi) (blk : BlkOk X.N X.env.scope sc own)
    (pgG : ∀ (s : Shared) (H : Hp) (C : Addr) (cl : List (Str × Addr)) (fp : List Addr), PG (X.blk s H sc (compEnvC sc cl C X.env) fp) tg g)
    (ptG : ∀ (s : Shared) (H : Hp) (C : Addr) (cl : List (Str × Addr)) (fp : List Addr), PTs (X.blk s H sc (compEnvC sc cl C X.env) fp) ifs tt)
    (pkG : ∀ (s : Shared) (H : Hp) (C : Addr) (cl : List (Str × Addr)) (fp : List Addr), PE (X.blk s H sc (compEnvC sc cl C X.env) fp) kx tk)
    (pvG : ∀ (s : Shared) (H : Hp) (C : Addr) (cl : List (Str × Addr)) (fp : List Addr), PE (X.blk s H sc (compEnvC sc cl C X.env) fp) vx tv)
    (plain : ∀ x, foldedSetIterable iter X.env x = pure x := by intro _; rfl) : PE X (.DictComp kx vx [⟨tg, iter, ifs, 0⟩] sc pos) (tDcN X.prog X.w X.K wi g tt tk tv (own.map (·.2))) := by
  constructor
  intro pins s σ H Q I ask
  rw [arm_eval_DictComp]
  have fr : ∀ y ∈ sc.names, y.2 = .free → ∃ c, X.env.cells.lookup y.1 = some c := fun y m e => (blk.free y m e).elim (fun k => I.ok.has _ (.inl k)) fun k => I.ok.has _ (.inr k)
  refine wpAny_comprehension_free (use := none) rfl plain (closure_ok fr) blk.kind (fun y m e => by rw [blk.uniq y m, e]) ?_
  refine thn (over.run pins s σ H _ I ask) fun xv sA gotIter => thn gotIter fun itv sB gotIt => ?_
  obtain ⟨it, fp, tn, J, Ha, rfl, IB, T, stB, fB, next⟩ := gotIt
  refine wpAny_newObj_type (newEnv_comp ?_)
  obtain ⟨D, eD⟩ : ∃ D, D = sB.heap.objs.size := ⟨_, rfl⟩
  rw [← eD]
  have freshD : Ha D = none := IB.hok.fresh (Nat.le_of_eq eD.symm)
  obtain ⟨W, lim, w0, turn⟩ := next D freshD
  obtain ⟨sC, eC⟩ : ∃ sC : Shared, sC = { sB with heap := sB.heap.push { cls := .type "dict", data := .dict #[] } } := ⟨_, rfl⟩
  rw [← eC]
  have heapC : sC.heap = sB.heap.push { cls := .type "dict", data := .dict #[] } := by rw [eC]
  have IC : Inv X pins σ (upd Ha D (NdO X.prog X.w D [])) sC := by
    rw [eC, eD]
    exact IB.laid (t' := sB.toks) (fun b o e => Heap.get?_push_of_some _ e) (Nat.le_refl _) (nd_empty sB.heap IB.big)
  have small : ∀ b ∈ fp, b < sB.heap.objs.size := fun b m => by
    obtain ⟨o, e, _⟩ := T.obj _ _ stB b m
    exact Heap.lt_size e
  have fC : ∀ b ∈ fp, FpOk X pins (upd Ha D (NdO X.prog X.w D [])) b ∧ b < sC.heap.objs.size := fun b m => by
    have lt := small b m
    refine ⟨⟨?_, (fB b m).2⟩, ?_⟩
    · rw [upd_ne (eD ▸ Nat.ne_of_lt lt)]
      exact (fB b m).1
    · rw [heapC, Heap.size_push]
      exact Nat.lt_succ_of_lt lt
  have stC : tn 0 sC.heap := T.keep _ _ _ stB fun b _ o e => heapC ▸ Heap.get?_push_of_some _ e
  obtain ⟨Hc, eHc⟩ : ∃ Hc, Hc = upd Ha D (NdO X.prog X.w D []) := ⟨_, rfl⟩
  rw [← eHc] at IC fC w0
  obtain ⟨clo, eclo⟩ : ∃ clo, clo = cellsFrom (sC.heap.objs.size + 1) sc.names (cloFrom X.env.cells sc.names []) := ⟨_, rfl⟩
  obtain ⟨ce, ece⟩ : ∃ ce, ce = compEnvC sc clo sC.heap.objs.size X.env := ⟨_, rfl⟩
  have gP := pgG sC Hc sC.heap.objs.size clo fp
  have tP := ptG sC Hc sC.heap.objs.size clo fp
  have kP := pkG sC Hc sC.heap.objs.size clo fp
  have vP := pvG sC Hc sC.heap.objs.size clo fp
  have IE := block_start IC blk nd fC
  rw [← eclo, ← ece] at IE
  rw [← ece] at gP tP kP vP
  have locE : ce.locals = sC.heap.objs.size := by rw [ece]; rfl
  obtain ⟨sE, eE⟩ : ∃ sE : Shared, sE = { sC with heap := pushCells (sC.heap.push { cls := .type "dict", data := .dict #[] }) sc.names } := ⟨_, rfl⟩
  rw [← eE] at IE
  have stE : tn 0 sE.heap := T.keep _ _ _ stC fun b _ o e => eE ▸ pushCells_keeps _ _ _ _ (Heap.get?_push_of_some _ e)
  have here : ∀ {σ' : L2.St} {H' : Hp} {s' : Shared}, Inv (X.blk sC Hc sc ce fp) [] σ' H' s' → (∀ b ∈ fp, H' b = none) → ∀ b ∈ fp, FpOk (X.blk sC Hc sc ce fp) [] H' b := fun {_ _ _} I' free b m =>
    ⟨free b m, (I'.ok.exf b m).1, I'.ok.exfs b m, .inl m, fun x c e => (I'.ok.exf b m).2 x c e, fun p q => (List.not_mem_nil (show p ∈ ([] : List (Addr × Obj)) from q)).elim⟩
  let Wd : Nat → Shared → Prop := fun n s' => ∃ i H', n = lim - i ∧ Inv (X.blk sC Hc sc ce fp) [] (wipe σ (own.map (·.2))) H' s' ∧ tn i s'.heap ∧ (∀ b ∈ fp, H' b = none) ∧ W i H'
  subst ece eclo
  have loop : codeAny (model X.prog X.w) X.A (.compLoop (.DictComp kx vx [⟨tg, iter, ifs, 0⟩] sc pos) 0 (.ref it) (.ref D) (compEnvC sc (cellsFrom (sC.heap.objs.size + 1) sc.names (cloFrom X.env.cells sc.names [])) sC.heap.objs.size X.env)) (compPost (model X.prog X.w) X.A X.xe none (fun v s' => ∃ x H', Inv X pins σ H' s' ∧ RelV x v ∧ Q x H') (.ref D) sC.heap.objs.size) sE := by
    refine compLoop_anyD Wd ?_ (lim - 0) ⟨0, Hc, rfl, IE, stE, fun b m => (fC b m).1.1, w0⟩
    rintro n s5 ⟨i, H5, rfl, I5, st5, n5, w5⟩
    rcases turn i H5 w5 with ⟨stop, done⟩ | ⟨lt, go, step⟩
    · refine thnF (T.done (X.blk sC Hc sc _ fp) rfl rfl rfl calm i [] s5 _ H5 (fun _ _ => False) I5 (here I5 n5) st5 stop) fun r s6 z => ?_
      obtain ⟨rfl, I6⟩ := z
      have I7 : Inv X pins σ H5 s6 := IC.call' (ch := fp) I6.os I6.base I6.hok I6.bare fun b m => ⟨(fC b m).1.2.2.2.1, (fC b m).1.2.1, (fC b m).1.2.2.2.2.1, (fC b m).1.2.2.2.2.2⟩
      have noC : H5 sC.heap.objs.size = none := I6.free
      obtain ⟨m, ns, _⟩ := I6.loc
      obtain ⟨f0, f1, f2, f3, f4, f5⟩ := IC.fpOk (Nat.le_refl _) noC
      refine ⟨m, ns, fun h9 sb => ?_⟩
      exact ⟨.ref D, H5, I7.turned (t' := s6.toks) (fun b o hb e => (sb.2 b hb).trans e) noC f1 f3 f4 f5, rfl, done⟩
    · refine thnF (T.item (X.blk sC Hc sc _ fp) rfl rfl rfl calm i [] s5 _ H5 (fun _ _ => False) I5 (here I5 n5) st5 go) fun r s6 z => ?_
      obtain ⟨u, rfl, z6⟩ := z
      refine thnF z6 fun _ s7 z7 => ?_
      obtain ⟨x, H7, I7, r7, y7, st7, n7⟩ := z7
      refine thnF (gP.run _ s7 _ H7 x u _ (I7.pinned (here I7 n7) (T.obj _ _ st7)) r7 (step x H7 y7)) fun _ s8 z8 => ?_
      obtain ⟨σ8, H8, I8, w8, q8⟩ := z8
      refine thnF (tP.run _ s8 σ8 H8 _ I8 q8) fun yes s9 z9 => ?_
      obtain ⟨H9, I9, q9⟩ := z9
      have again : ∀ {s' : Shared} {H' : Hp}, Inv (X.blk sC Hc sc (compEnvC sc (cellsFrom (sC.heap.objs.size + 1) sc.names (cloFrom X.env.cells sc.names [])) sC.heap.objs.size X.env) fp) ([] ++ pinsAt fp s7.heap) σ8 H' s' → W (i + 1) H' → ∃ m, m < lim - i ∧ Wd m s' := fun {s' H'} I' nx => by
        have pinned : ∀ b ∈ fp, ∀ o, s7.heap.get? b = some o → s'.heap.get? b = some o ∧ H' b = none := fun b m o e => by
          obtain ⟨z1, z2, _⟩ := I'.pin (b, o) (List.mem_append_right _ (List.mem_append_right _ (mem_pinsAt m e)))
          exact ⟨z1, z2⟩
        have same : (wipe σ (own.map (·.2))).length = σ8.length := (congrArg List.length w8).symm.trans (wipe_length _ _)
        refine ⟨lim - (i + 1), by omega, i + 1, H', rfl, (I'.unpinned (pins := [])).weak same (fun j v e => (wipe_some (w8 ▸ e)).1), T.keep _ _ _ st7 fun b m o e => (pinned b m o e).1, fun b m => ?_, nx⟩
        obtain ⟨o, e, _⟩ := T.obj _ _ st7 b m
        exact (pinned b m o e).2
      cases yes with
      | false => exact again I9 q9
      | true =>
        refine thnF (kP.run _ s9 σ8 H9 _ I9 q9) fun kv s10 z10 => ?_
        obtain ⟨y, H10, I10, r10, q10⟩ := z10
        refine thnF (vP.run _ s10 σ8 H10 _ I10 q10) fun vv s11 z11 => ?_
        obtain ⟨v, H11, I11, r11, kvs, k, b, dd, rfl, hb, hk, dep, hD, sz, nx⟩ := z11
        obtain rfl : kv = Value.ref b := r10
        exact nd_put (X := X.blk sC Hc sc _ fp) hu I11 hD hb hk dep sz r11 fun s12 I12 => again I12 nx
  rw [← eE]
  exact codeAny_compStart_dict loop (T.self X.A 0 _ _ _ stE loop)
end
end DL
set_option Elab.async false
set_option linter.all false
set_option maxRecDepth 100000
set_option maxHeartbeats 4000000
namespace DL
open PySem PySem.Spec PyProof.Rows L2 Evl
/-- a datum that is a tuple and a key -/
def KeyT (d : PyData) : Prop := (∃ ds, d = .tuple ds) ∧ ∃ k, keyD d = some k ∧ k.depth ≤ 8
theorem hasN_put {kvs : List (NestedKey × Addr × V)} {k k' : NestedKey} {b : Addr} {v : V} : hasN (putN kvs k b v) k' = (hasN kvs k' || decide (k = k')) := by
  unfold putN
  by_cases h : hasN kvs k = true
  · rw [if_pos h]
    unfold hasN at h ⊢
    rw [List.any_map]
    have e : ((fun x : NestedKey × Addr × V => decide (x.1 = k')) ∘ fun x => if x.1 = k then (x.1, x.2.1, v) else x) = fun x => decide (x.1 = k') := by
      funext x
      show decide ((if x.1 = k then (x.1, x.2.1, v) else x).1 = k') = _
      by_cases e : x.1 = k
      · rw [if_pos e]
      · rw [if_neg e]
    rw [e]
    by_cases e2 : k = k'
    · subst e2
      rw [h] <;> rfl
    · rw [decide_eq_false e2, Bool.or_false]
  · rw [if_neg h]
    unfold hasN
    rw [List.any_append]
    simp
section
variable {P : Program} {w : World} {K : PySem.W.Frag} {σ : L2.St} {H : Hp} {te : TE} {ds : List PyData}
/-- {x: True for x in t} -/
theorem ev_dcN {i : Nat} {vs : List Nat} {Q : VK} (h : EvD K te σ H (.tuple ds)) (hi : immAll ds = true) (hk : ∀ d ∈ ds, KeyT d) (hl : ds.length ≤ 50000) (hw : ∀ x, wipe ((wipe σ vs).set i (some x)) vs = wipe σ vs) (hg : ∀ x, ((wipe σ vs).set i (some x))[i]? = some (some x))
    (q : ∀ D kvs H', H D = none → Ex H H' → Nd P w K H' D kvs → (∀ k, hasN kvs k = ds.any fun d => decide (keyD d = some k)) → Q (.ref D) H') : tDcN P w K (iTup K te) (gName i) tYes (tVar i) (tC (.bl true)) vs σ H Q := by
  refine ei_tup (K := K) (S := []) (Ls.nil _) h hi H (Ex.refl _) _ fun J H2 e2 wk => ?_
  intro D hD
  refine ⟨fun j Ha => j ≤ ds.length ∧ Ex H2 Ha ∧ ∃ kvs, Nd P w K Ha D kvs ∧ kvs.length ≤ j ∧ ∀ k, hasN kvs k = (ds.take j).any fun d => decide (keyD d = some k), ds.length, ⟨Nat.zero_le _, Ex.new hD, [], ⟨upd_same, fun x hx => by simp at hx⟩, by simp, fun k => by simp [hasN]⟩, ?_⟩
  rintro j Ha ⟨hj, xa, kvs, N, lk, hh⟩
  have gX : Xp [] H2 Ha := Xp.of_ex xa
  by_cases hlt : j < ds.length
  · refine .inr ⟨hlt, wk.goes j Ha hlt gX, fun x Hx y => ?_⟩
    obtain ⟨ey, d, g1, g2⟩ := wk.yields j Ha x Hx hlt gX y
    show _ ∧ _
    refine ⟨hw x, ?_⟩
    dsimp only [tYes]
    rw [if_pos rfl]
    obtain ⟨⟨dt, rfl⟩, k, hk1, hk2⟩ := hk d (List.mem_of_getElem? g1)
    obtain ⟨b, rfl⟩ : ∃ b, x = .ref b := by
      cases g2 with
      | tup _ _ => exact ⟨_, rfl⟩
    have iT : imm (.tuple dt) = true := by
      have all : ∀ {l : List PyData} {i : Nat} {d : PyData}, immAll l = true → l[i]? = some d → imm d = true := by
        intro l
        induction l with
        | nil => intro i d _ e; simp at e
        | cons x l ih =>
          intro i d hh e
          simp only [immAll, Bool.and_eq_true] at hh
          cases i with
          | zero => simp at e; subst e; exact hh.1
          | succ i => exact ih hh.2 (by simpa using e)
      exact all hi g1
    refine ⟨.ref b, hg _, kvs, k, b, _, rfl, g2, hk1, hk2, N.ex ey, sz_lt (by omega), hlt, ?_, putN kvs k b (.bl true), (N.ex ey).put g2 iT hk1 hk2, Nat.le_trans (putN_len _ _ _ _) (by omega), fun k' => ?_⟩
    · exact Ex.mut (xa.trans ey) hD
    · rw [hasN_put, hh, List.take_add_one, g1, Option.toList_some, List.any_append]
      have : ([PyData.tuple dt].any fun d => decide (keyD d = some k')) = decide (k = k') := by
        rw [List.any_cons, List.any_nil, Bool.or_false, hk1]
        simp
      rw [this]
  · have ej : j = ds.length := by omega
    subst ej
    rw [List.take_length] at hh
    exact .inl ⟨wk.stops Ha gX, q D kvs Ha (fresh_back e2 hD) (e2.trans xa) N hh⟩
end
end DL
set_option Elab.async false
set_option linter.all false
set_option maxRecDepth 100000
set_option maxHeartbeats 4000000
/-! {} and d[k] = v where keys are of any depth; walks while things that are no tuples change -/
namespace DL
open PySem PySem.Spec PyProof.Rows L2 Evl
/-- {} -/
def tDNewN (P : Program) (w : World) : TE := fun _ H Q => ∀ p, H p = none → Q (.ref p) (upd H p (NdO P w p []))
/-- d[k] = v -/
def sDPutN (P : Program) (w : World) (K : PySem.W.Frag) (td ty tv : TE) : TS := fun D σ H => tv σ H fun z H1 => td σ H1 fun x H2 => ty σ H2 fun y H3 => ∃ (d : Addr) (kvs : List (NestedKey × Addr × V)) (k : NestedKey) (b : Addr) (dd : PyData),
  x = .ref d ∧ y = .ref b ∧ Dp K H3 (.ref b) dd ∧ keyD dd = some k ∧ k.depth ≤ 8 ∧ Nd P w K H3 d kvs ∧ kvs.length < sizeLine ∧ D.nx σ (upd H3 d (NdO P w d (putN kvs k b z)))
section
variable {X : Cx} {o i value : Expr} {pos pos' : Pos} {td ty tv : TE}
theorem pe_dnewN : PE X (.Dict [] [] pos) (tDNewN X.prog X.w) := by
  constructor
  intro pins s σ H Q I h
  apply wpAny_Dict_empty
  have J := I.laid (a := s.heap.objs.size) (o := NdO X.prog X.w s.heap.objs.size []) (t' := s.toks) (fun _ _ q => Heap.get?_push_of_some _ q) (Nat.le_refl _) (nd_empty s.heap I.big)
  exact ⟨.ref s.heap.objs.size, _, J, rfl, h _ (I.hok.fresh (Nat.le_refl _))⟩
theorem ps_dputN (hu : X.A.units + 64 < cLine) (ho : PE X o td) (hi : PE X i ty) (hv : PE X value tv) (hs : swapsWith value (some (.Subscript o i pos')) pos.line X.env = pure false) :
    PS X (.Assign [.Subscript o i pos'] value pos) (sDPutN X.prog X.w X.K td ty tv) := by
  constructor
  intro pins s σ H D I h
  apply wpAny_Assign_Subscript _ hs
  refine thn (hv.run pins s σ H _ I h) fun r s1 z1 => ?_
  obtain ⟨v, H1, I1, rv, q1⟩ := z1
  refine thn (ho.run pins s1 σ H1 _ I1 q1) fun u s2 z2 => ?_
  obtain ⟨x, H2, I2, rx, q2⟩ := z2
  refine thn (hi.run pins s2 σ H2 _ I2 q2) fun iv s3 z3 => ?_
  obtain ⟨y, H3, I3, ry, d, kvs, k, b, dd, rfl, rfl, hb, hk, dep, N, sz, q3⟩ := z3
  obtain rfl : u = Value.ref d := rx
  obtain rfl : iv = Value.ref b := ry
  obtain ⟨z, hd, xs, rel, dd'⟩ := nd_open I3 N
  have lx : xs.length ≤ sizeLine := Paired.length rel ▸ z
  have room : (nestedKind X.prog X.w).room X.A.in1 := by
    show X.A.in1.units + 8 < cLine
    have : X.A.in1.units ≤ X.A.units + 1 := Nat.le_of_eq rfl
    omega
  refine wpAny_setItem_heap (hsz := lx) room ⟨nested_of I3 dd k _ _ hk hb rfl, dep⟩ dd' fun h' now but => ?_
  obtain ⟨ob, es, ep, ho, ex, hdat, hl, _, nd⟩ := now
  have pl := putN_len kvs k b v
  exact ⟨σ, _, d_write I3 (by rw [N.at_]; exact True.intro) but ⟨ob, ho⟩ (ndO_ok (by omega) hd (put_pair rel k b rv) ho ex hdat hl nd), q3⟩
end
/-- no tuples stand at S -/
def NT (H : Hp) (S : List Addr) : Prop := ∀ p ∈ S, ∃ o, H p = some o ∧ (∀ xs, o ≠ .tup xs) ∧ ∀ ob xs, o ≠ .frz ob (.tup xs)
theorem NT.nd {P : Program} {w : World} {H : Hp} {d : Addr} {kvs : List (NestedKey × Addr × V)} (h : H d = some (NdO P w d kvs)) : NT H [d] := fun p hp => by
  obtain rfl : p = d := by simpa using hp
  exact ⟨_, h, (fun _ z => nomatch z), fun _ _ z => nomatch z⟩
theorem NT.ex {H H' : Hp} {S : List Addr} (h : NT H S) (e : Ex H H') : NT H' S := fun p hp => by
  obtain ⟨o, a, b⟩ := h p hp
  exact ⟨o, e _ _ a, b⟩
theorem Xp.txN {S : List Addr} {H H' : Hp} (e : Xp S H H') (h : NT H S) : Tx H H' := fun a xs r => by
  have out : ∀ o, H a = some o → ((∃ ys, o = .tup ys) ∨ ∃ ob ys, o = .frz ob (.tup ys)) → a ∉ S := fun o ho c hs => by
    obtain ⟨u, hu, n1, n2⟩ := h a hs
    obtain rfl : u = o := Option.some.inj (hu.symm.trans ho)
    rcases c with ⟨ys, rfl⟩ | ⟨ob, ys, rfl⟩
    · exact n1 ys rfl
    · exact n2 ob ys rfl
  rcases r with r | ⟨ob, r⟩
  · exact Or.inl (e _ _ r (out _ r (.inl ⟨_, rfl⟩)))
  · exact Or.inr ⟨ob, e _ _ r (out _ r (.inr ⟨_, _, rfl⟩))⟩
/-- a tuple is walked -/
theorem ei_tupN {K : PySem.W.Frag} {σ : L2.St} {H : Hp} {te : TE} {ds : List PyData} {S : List Addr} (hS : NT H S) (h : EvD K te σ H (.tuple ds)) (hi : immAll ds = true) : EvI K (iTup K te) σ H S ds := fun H1 e R r =>
  h H1 e _ fun w H2 e2 hw => by
    cases hw with
    | tup hs ha =>
      refine ⟨_, rfl, ⟨_, hs⟩, r _ H2 e2 ?_⟩
      have N2 := hS.ex (e.trans e2)
      rw [← dpa_len ha]
      refine walk_tup.mono (fun Ha x => sqT_tx (x.txN N2) hs) fun i Ha x Hb hlt hg y => ?_
      obtain ⟨rfl, hx⟩ := y
      obtain ⟨d, g1, g2⟩ := dpa_getV (dpa_tx (hg.txN N2) _ _ hi ha) hx
      exact ⟨Ex.refl _, d, g1, g2⟩
section
variable {P : Program} {w : World} {K : PySem.W.Frag} {σ : L2.St} {H : Hp} {ta : TE}
/-- k in d -/
theorem ev_inN {i j : Nat} {d b : Addr} {kvs : List (NestedKey × Addr × V)} {k : NestedKey} {dd : PyData} (h1 : σ[i]? = some (some (.ref b))) (h2 : σ[j]? = some (some (.ref d))) (N : Nd P w K H d kvs) (hb : Dp K H (.ref b) dd) (hk : keyD dd = some k) (dep : k.depth ≤ 8) :
    Ev (tOp (rInN P w K false) (tVar i) (tVar j)) σ H (.bl (hasN kvs k)) := fun H1 e Q q => ⟨_, h1, _, h2, d, kvs, b, dd, k, rfl, rfl, N.ex e, dp_ex e _ _ hb, hk, dep, q H1 (Ex.refl _)⟩
/-- d[k] = True -/
theorem q_dputN {i j : Nat} {d b : Addr} {kvs : List (NestedKey × Addr × V)} {k : NestedKey} {dd : PyData} {v : V} {tz : TS} {D : Ends} (h1 : σ[i]? = some (some (.ref d))) (h2 : σ[j]? = some (some (.ref b))) (N : Nd P w K H d kvs) (hb : Dp K H (.ref b) dd) (hk : keyD dd = some k) (dep : k.depth ≤ 8) (sz : kvs.length < 100000)
    (q : tz D σ (upd H d (NdO P w d (putN kvs k b v)))) : tSeq (sDPutN P w K (tVar i) (tVar j) (tC v)) tz D σ H := ⟨_, h1, _, h2, d, kvs, k, b, dd, rfl, rfl, hb, hk, dep, N, sz_lt sz, q⟩
theorem s_dputN {i j : Nat} {d b : Addr} {kvs : List (NestedKey × Addr × V)} {k : NestedKey} {dd : PyData} {v : V} {D : Ends} (h1 : σ[i]? = some (some (.ref d))) (h2 : σ[j]? = some (some (.ref b))) (N : Nd P w K H d kvs) (hb : Dp K H (.ref b) dd) (hk : keyD dd = some k) (dep : k.depth ≤ 8) (sz : kvs.length < 100000)
    (q : D.nx σ (upd H d (NdO P w d (putN kvs k b v)))) : sDPutN P w K (tVar i) (tVar j) (tC v) D σ H := ⟨_, h1, _, h2, d, kvs, k, b, dd, rfl, rfl, hb, hk, dep, N, sz_lt sz, q⟩
end
end DL
set_option Elab.async false
set_option linter.all false
set_option maxRecDepth 100000
set_option maxHeartbeats 4000000
namespace K16
open PySem PySem.Spec PyProof.Rows L2 Evl DL
local macro_rules | `(tactic| walk_at "dl") => `(tactic| first
  | exact ev_c | exact ev_var rfl | exact eda_nil
  | exact ed_var rfl (by assumption)
  | exact ed_int ev_c | exact ed_int (ev_var rfl)
  | (refine eda_cons ?_ ?_ <;> walk_at "dl")
  | (refine ed_int ?_; walk_at "dl")
  | (refine ev_op ?_ ?_ rv_I0 <;> walk_at "dl"))
/-! no load of a row is below another one -/
open P3
def Lds (n : Nat) (l : List Int) : Prop := l.length = n ∧ ∀ x ∈ l, 0 ≤ x ∧ x ≤ 99
def blw (a b : List Int) : Bool := (a.zip b).all fun q => decide (q.1 ≤ q.2)
def apart (ls : List (List Int)) : Bool := decide (∀ a ∈ ls, ∀ b ∈ ls, a.sum < b.sum → blw a b = false)
theorem bitAnd_nn {x y : Int} (hx : 0 ≤ x) (hy : 0 ≤ y) : Builtin.bitAnd x y = ((x.toNat &&& y.toNat : Nat) : Int) := by
  unfold Builtin.bitAnd
  rw [decide_eq_true hx, decide_eq_true hy]
theorem zip_sw (f : Int → Nat) : ∀ (a b : List Int), (b.map f).zip (a.map f) = (a.zip b).map fun q => (f q.2, f q.1)
  | [], b => by simp
  | _ :: _, [] => by simp
  | x :: a, y :: b => by
    rw [List.map_cons, List.map_cons, List.zip_cons_cons, List.zip_cons_cons, List.map_cons, zip_sw f a b]
theorem ov_iff {n : Nat} {a b : List Int} (ha : Lds n a) (hb : Lds n b) : ov (pk a) (gd n) (pk b) = blw a b := by
  have la : (a.map Int.toNat).length = n := by rw [List.length_map, ha.1]
  have lb : (b.map Int.toNat).length = n := by rw [List.length_map, hb.1]
  have ba : ∀ x ∈ a.map Int.toNat, x < 128 := fun x hx => by
    obtain ⟨y, hy, rfl⟩ := List.mem_map.mp hx
    have := ha.2 y hy
    omega
  have bb : ∀ x ∈ b.map Int.toNat, x < 128 := fun x hx => by
    obtain ⟨y, hy, rfl⟩ := List.mem_map.mp hx
    have := hb.2 y hy
    omega
  have o := over_iff (t := b.map Int.toNat) (p := a.map Int.toNat) (lb.trans la.symm) bb ba
  have sb := (sub_lane (b.map Int.toNat) (a.map Int.toNat) (lb.trans la.symm) bb ba).2
  rw [← or_guard _ bb, lb] at sb
  rw [lb] at o
  have e1 : Builtin.bitOr (pk b) (gd n) = ((pkN (b.map Int.toNat) ||| gdN n : Nat) : Int) := by
    rw [bitOr_nn (pk_nn b) (show 0 ≤ gd n from Int.natCast_nonneg _)]
    rfl
  have e2 : Builtin.bitOr (pk b) (gd n) - pk a = (((pkN (b.map Int.toNat) ||| gdN n) - pkN (a.map Int.toNat) : Nat) : Int) := by
    rw [e1, Int.natCast_sub sb]
    rfl
  have e3 : Builtin.bitAnd (Builtin.bitOr (pk b) (gd n) - pk a) (gd n) = ((((pkN (b.map Int.toNat) ||| gdN n) - pkN (a.map Int.toNat)) &&& gdN n : Nat) : Int) := by
    rw [e2, bitAnd_nn (Int.natCast_nonneg _) (show 0 ≤ gd n from Int.natCast_nonneg _)]
    rfl
  unfold ov
  rw [e3, Bool.eq_iff_iff, decide_eq_true_eq, blw, List.all_eq_true]
  constructor
  · intro h q hq
    have h : ((pkN (b.map Int.toNat) ||| gdN n) - pkN (a.map Int.toNat)) &&& gdN n = gdN n := Int.ofNat_inj.mp h
    have hq2 : (q.2.toNat, q.1.toNat) ∈ (b.map Int.toNat).zip (a.map Int.toNat) := by
      rw [zip_sw]
      exact List.mem_map.mpr ⟨q, hq, rfl⟩
    have := o.mp h _ hq2
    have m := List.of_mem_zip hq
    have := ha.2 q.1 m.1
    have := hb.2 q.2 m.2
    exact decide_eq_true (by omega)
  · intro h
    refine congrArg Int.ofNat (o.mpr fun q hq => ?_)
    rw [zip_sw] at hq
    obtain ⟨r, hr, rfl⟩ := List.mem_map.mp hq
    have := of_decide_eq_true (h r hr)
    show r.1.toNat ≤ r.2.toNat
    omega
/-- one entry of the dict: the sum, the list's address, the loads of that sum -/
abbrev En := Int × Addr × List (List Int)
def enV (e : En) : Key × V := (.inl e.1, .ref e.2.1)
def Grp (K : PySem.W.Frag) (H : Hp) (d : Addr) (E : List En) : Prop := H d = some (.dK (E.map enV)) ∧ (E.map (·.2.1)).Nodup ∧ ∀ e ∈ E, e.2.1 ≠ d ∧ ∃ vs, H e.2.1 = some (.lst vs) ∧ DpAll K H vs (e.2.2.map tI)
theorem Grp.ex {K : PySem.W.Frag} {H H' : Hp} {d : Addr} {E : List En} (g : Grp K H d E) (x : Ex H H') : Grp K H' d E :=
  ⟨x _ _ g.1, g.2.1, fun e he => by
    obtain ⟨n, vs, h1, h2⟩ := g.2.2 e he
    exact ⟨n, vs, x _ _ h1, dpa_ex x _ _ h2⟩⟩
theorem val_en (t : Int) : ∀ E : List En, valV (E.map enV) (.inl t) = (E.find? fun e => decide (e.1 = t)).map fun e => V.ref e.2.1
  | [] => rfl
  | e :: E => by
    by_cases h : e.1 = t
    · rw [List.map_cons, valV_pos (show (enV e).1 = Sum.inl t by rw [enV, h]), List.find?_cons, decide_eq_true h]
      rfl
    · rw [List.map_cons, valV_neg (show ¬ (enV e).1 = Sum.inl t from fun z => h (Sum.inl.inj z)), List.find?_cons, decide_eq_false h, val_en t E]
/-- what the entries hold of the row -/
structure Cov (E : List En) (ls : List (List Int)) : Prop where
  nd : (E.map (·.1)).Nodup
  all : ∀ l ∈ ls, ∃ e ∈ E, e.1 = l.sum ∧ l ∈ e.2.2
  only : ∀ e ∈ E, ∀ l ∈ e.2.2, l ∈ ls ∧ l.sum = e.1
def addE (a : Addr) (l : List Int) (E : List En) : List En := E.map fun e => if e.2.1 = a then (e.1, e.2.1, e.2.2 ++ [l]) else e
theorem addE_keys (a : Addr) (l : List Int) (E : List En) : (addE a l E).map (·.1) = E.map (·.1) ∧ (addE a l E).map (·.2.1) = E.map (·.2.1) ∧ (addE a l E).map enV = E.map enV := by
  refine ⟨?_, ?_, ?_⟩ <;> unfold addE <;> rw [List.map_map] <;> refine List.map_congr_left fun e _ => ?_ <;> simp only [Function.comp_apply] <;> split <;> rfl
theorem Cov.add {E : List En} {ls : List (List Int)} {l : List Int} {e : En} (c : Cov E ls) (na : (E.map (·.2.1)).Nodup) (he : e ∈ E) (hs : e.1 = l.sum) : Cov (addE e.2.1 l E) (ls ++ [l]) where
  nd := (addE_keys e.2.1 l E).1 ▸ c.nd
  all := fun k hk => by
    have up : ∀ f ∈ E, (if f.2.1 = e.2.1 then (f.1, f.2.1, f.2.2 ++ [l]) else f) ∈ addE e.2.1 l E := fun f hf => List.mem_map.mpr ⟨f, hf, rfl⟩
    rcases List.mem_append.mp hk with hk | hk
    · obtain ⟨f, hf, h1, h2⟩ := c.all k hk
      refine ⟨_, up f hf, ?_, ?_⟩
      · split <;> exact h1
      · split
        · exact List.mem_append_left _ h2
        · exact h2
    · rw [List.mem_singleton.mp hk]
      have u := up e he
      rw [if_pos rfl] at u
      exact ⟨_, u, hs, List.mem_append_right _ (List.mem_singleton.mpr rfl)⟩
  only := fun f hf k hk => by
    obtain ⟨g, hg, rfl⟩ := List.mem_map.mp hf
    by_cases ea : g.2.1 = e.2.1
    · rw [if_pos ea] at hk ⊢
      have same : g = e := by
        obtain ⟨i, hi, rfl⟩ := List.getElem_of_mem hg
        obtain ⟨j, hj, rfl⟩ := List.getElem_of_mem he
        have := (List.getElem_inj (xs := E.map (·.2.1)) (i := i) (j := j) (h₀ := by rw [List.length_map]; exact hi) (h₁ := by rw [List.length_map]; exact hj) na).mp (by rw [List.getElem_map, List.getElem_map]; exact ea)
        subst this
        rfl
      rcases List.mem_append.mp hk with hk | hk
      · obtain ⟨q1, q2⟩ := c.only g hg k hk
        exact ⟨List.mem_append_left _ q1, q2⟩
      · rw [List.mem_singleton.mp hk]
        exact ⟨List.mem_append_right _ (List.mem_singleton.mpr rfl), by rw [same]; exact hs.symm⟩
    · rw [if_neg ea] at hk ⊢
      obtain ⟨q1, q2⟩ := c.only g hg k hk
      exact ⟨List.mem_append_left _ q1, q2⟩
theorem Cov.new {E : List En} {ls : List (List Int)} {l : List Int} {p : Addr} (c : Cov E ls) (no : ∀ e ∈ E, e.1 ≠ l.sum) : Cov (E ++ [(l.sum, p, [l])]) (ls ++ [l]) where
  nd := by
    rw [List.map_append, List.nodup_append]
    refine ⟨c.nd, by simp, fun x hx y hy z => ?_⟩
    obtain ⟨e, he, rfl⟩ := List.mem_map.mp hx
    have : y = l.sum := by simpa using hy
    exact no e he (z.trans this)
  all := fun k hk => by
    rcases List.mem_append.mp hk with hk | hk
    · obtain ⟨f, hf, h1, h2⟩ := c.all k hk
      exact ⟨f, List.mem_append_left _ hf, h1, h2⟩
    · rw [List.mem_singleton.mp hk]
      exact ⟨_, List.mem_append_right _ (List.mem_singleton.mpr rfl), rfl, List.mem_singleton.mpr rfl⟩
  only := fun f hf k hk => by
    rcases List.mem_append.mp hf with hf | hf
    · obtain ⟨q1, q2⟩ := c.only f hf k hk
      exact ⟨List.mem_append_left _ q1, q2⟩
    · rw [List.mem_singleton.mp hf] at hk ⊢
      rw [List.mem_singleton.mp hk]
      exact ⟨List.mem_append_right _ (List.mem_singleton.mpr rfl), rfl⟩
def R_are_apart (ds : List PyData) (r : PyData) : Prop := ∃ (n : Nat) (ls : List (List Int)), ds = [.tuple (ls.map tI)] ∧ ls ≠ [] ∧ n ≤ 10 ∧ (∀ l ∈ ls, Lds n l) ∧ ls.length ≤ 500 ∧ r = .bool (apart ls)
theorem qk_new {σ : L2.St} {H : Hp} {tz : TS} {D : Ends} {k : Nat} (h : ∀ d, H d = none → tz D (σ.set k (some (.ref d))) (upd H d (.dK []))) : tSeq (tAsg (tDNewK) (gName k)) tz D σ H := h
theorem Xp.updN {S : List Addr} {H Ha : Hp} {p : Addr} {u : HO} (x : Xp S H Ha) (h : H p = none) : Xp S H (L2.upd Ha p u) := fun a o ho n => by
  rw [upd_ne (fun z => by rw [z, h] at ho; cases ho)]
  exact x a o ho n
theorem nt_dk {H : Hp} {d : Addr} {kvs : List (Key × V)} (h : H d = some (.dK kvs)) : NT H [d] := fun p hp => by
  obtain rfl : p = d := by simpa using hp
  exact ⟨_, h, (fun _ z => nomatch z), fun _ _ z => nomatch z⟩
theorem gN {σ : L2.St} {H : Hp} {i : Nat} {x : V} {Q : L2.St → Hp → Prop} (h : Q (σ.set i (some x)) H) : gName i x σ H Q := h
def ofE (E : List En) (t : Int) : List (List Int) := ((E.find? fun e => decide (e.1 = t)).map (·.2.2)).getD []
theorem key_inj {E : List En} (nd : (E.map (·.1)).Nodup) {e f : En} (he : e ∈ E) (hf : f ∈ E) (h : e.1 = f.1) : e = f := by
  obtain ⟨i, hi, rfl⟩ := List.getElem_of_mem he
  obtain ⟨j, hj, rfl⟩ := List.getElem_of_mem hf
  have := (List.getElem_inj (xs := E.map (·.1)) (i := i) (j := j) (h₀ := by rw [List.length_map]; exact hi) (h₁ := by rw [List.length_map]; exact hj) nd).mp (by rw [List.getElem_map, List.getElem_map]; exact h)
  subst this
  rfl
theorem find_en {E : List En} (nd : (E.map (·.1)).Nodup) {e : En} (he : e ∈ E) : (E.find? fun f => decide (f.1 = e.1)) = some e := by
  cases h : E.find? fun f => decide (f.1 = e.1) with
  | none => exact absurd (decide_eq_true rfl) (List.find?_eq_none.mp h e he)
  | some f =>
    have hf := List.mem_of_find?_eq_some h
    have k : f.1 = e.1 := by simpa using List.find?_some h
    rw [key_inj nd hf he k]
theorem of_en {E : List En} (nd : (E.map (·.1)).Nodup) {e : En} (he : e ∈ E) : ofE E e.1 = e.2.2 := by
  unfold ofE
  rw [find_en nd he]
  rfl
theorem Cov.mem {E : List En} {ls : List (List Int)} (c : Cov E ls) {a : List Int} (h : a ∈ ls) : a ∈ ofE E a.sum ∧ a.sum ∈ E.map (·.1) := by
  obtain ⟨e, he, h1, h2⟩ := c.all a h
  rw [← h1, of_en c.nd he]
  exact ⟨h2, List.mem_map.mpr ⟨e, he, rfl⟩⟩
theorem Cov.of {E : List En} {ls : List (List Int)} (c : Cov E ls) {a : List Int} {t : Int} (h : a ∈ ofE E t) : a ∈ ls ∧ a.sum = t := by
  unfold ofE at h
  cases hf : E.find? fun e => decide (e.1 = t) with
  | none => rw [hf] at h; simp at h
  | some e =>
    rw [hf] at h
    have he := List.mem_of_find?_eq_some hf
    have k : e.1 = t := by simpa using List.find?_some hf
    obtain ⟨q1, q2⟩ := c.only e he a h
    exact ⟨q1, q2.trans k⟩
theorem ev_lenDk {σ : L2.St} {H : Hp} {i : Nat} {d : Addr} {kvs : List (Key × V)} (hi : σ[i]? = some (some (.ref d))) (h : H d = some (.dK kvs)) : Ev (tCB (fun xs H Q => ∃ a kvs, xs = [V.ref a] ∧ H a = some (.dK kvs) ∧ Q (.int kvs.length) H) (tCons (tVar i) tNil)) σ H (.int kvs.length) :=
  fun H1 e Q q => ⟨.ref d, hi, d, kvs, rfl, e _ _ h, q H1 (Ex.refl _)⟩
theorem ev_dgetV {σ : L2.St} {H : Hp} {i j : Nat} {d : Addr} {kvs : List (Key × V)} {t : Int} {v : V} (hi : σ[i]? = some (some (.ref d))) (hj : σ[j]? = some (some (.int t))) (h : H d = some (.dK kvs)) (hv : valV kvs (.inl t) = some v) : Ev (tDGet (tVar i) (tVar j)) σ H v :=
  fun H1 e Q q => ⟨.ref d, hi, .int t, hj, d, v, rfl, hv ▸ DGet.k (k := .inl t) (e _ _ h), q H1 (Ex.refl _)⟩
theorem en_ifN {K : PySem.W.Frag} {σ : L2.St} {H : Hp} {t : TT} {ta tb : TE} {ds : List PyData} {b : Bool} (h : EvT t σ H b) (h1 : b = true → EvN K ta σ H ds) (h2 : b = false → EvN K tb σ H ds) : EvN K (tIf t ta tb) σ H ds := fun H1 e Q q => h H1 e _ fun H2 e2 => by
  cases b with
  | true => exact h1 rfl H2 (e.trans e2) Q fun p vs H3 hp e3 h3 hd => q p vs H3 (fresh_back e2 hp) (e2.trans e3) h3 hd
  | false => exact h2 rfl H2 (e.trans e2) Q fun p vs H3 hp e3 h3 hd => q p vs H3 (fresh_back e2 hp) (e2.trans e3) h3 hd
/-- the loads of the sums ahead -/
def prv (E : List En) (ys : List Int) (i : Nat) : List (List Int) := (ys.take i).flatMap (ofE E)
theorem prv_succ {E : List En} {ys : List Int} {i : Nat} {t : Int} (h : ys[i]? = some t) : prv E ys (i + 1) = prv E ys i ++ ofE E t := by
  unfold prv
  rw [List.take_add_one, h, Option.toList_some, List.flatMap_append]
  simp
theorem prv_mem {E : List En} {ls : List (List Int)} (c : Cov E ls) {ys : List Int} (o : ys.Pairwise (· ≥ ·)) {i : Nat} {t : Int} (h : ys[i]? = some t) {b : List Int} (hb : b ∈ prv E ys i) : b ∈ ls ∧ t ≤ b.sum := by
  unfold prv at hb
  obtain ⟨u, hu, hb⟩ := List.mem_flatMap.mp hb
  obtain ⟨q1, q2⟩ := c.of hb
  obtain ⟨j, hj, e⟩ := List.mem_take_iff_getElem.mp hu
  obtain ⟨li, ei⟩ := List.getElem?_eq_some_iff.mp h
  have := List.pairwise_iff_getElem.mp o j i (by omega) li (by omega)
  rw [e, ei] at this
  exact ⟨q1, by omega⟩
theorem prv_len {E : List En} {M : Nat} (h : ∀ e ∈ E, e.2.2.length ≤ M) : ∀ (ys : List Int) (i : Nat), (prv E ys i).length ≤ ys.length * M := fun ys i => by
  have one : ∀ t, (ofE E t).length ≤ M := fun t => by
    unfold ofE
    cases hf : E.find? fun e => decide (e.1 = t) with
    | none => simp
    | some e => exact h e (List.mem_of_find?_eq_some hf)
  have all : ∀ zs : List Int, (zs.flatMap (ofE E)).length ≤ zs.length * M := fun zs => by
    induction zs with
    | nil => simp
    | cons z zs ih =>
      have := one z
      rw [List.flatMap_cons, List.length_append, List.length_cons, Nat.succ_mul]
      omega
  have := all (ys.take i)
  have l : (ys.take i).length ≤ ys.length := by rw [List.length_take]; omega
  exact Nat.le_trans this (Nat.mul_le_mul_right _ l)
section
variable {P : Program} {w : World} {K : PySem.W.Frag} {mg : Str → Option Value} {base : Heap}
abbrev s_are_apart : Stmt := topS 27
abbrev N_are_apart : List Str := ["loads", "groups", "load", "found", "guard", "total", "packs", "pack"]
theorem sc_are_apart : FnScope N_are_apart ["loads"] (defScope s_are_apart) := ⟨rfl, rfl, rfl, by decide +kernel, rfl, by decide +kernel, by decide +kernel⟩
theorem ok_are_apart {f : Addr} {fd : FuncData} (F : Fun K "are_apart" "are_apart" s_are_apart f fd) (T : Txt mg)
    (D_packed : DF P w K mg base "packed" 1 ["load"] (spD K 1 R_packed)) (D_first_over : DF P w K mg base "first_over" 1 ["tops", "pack", "guard"] (spD K 3 R_first_over)) (D_guards : DF P w K mg base "guards" 2 ["many"] (spD K 1 R_guards))  :
    FnOk P w K mg base CX0 3 f fd ["loads"] (spD K 1 R_are_apart) := by
  refine F.ok sc_are_apart (fun vs H Q E h => spD_len h) (fun cdv A outer s H vs Q E hr h => ?_)
  obtain ⟨ds, r, hd, _, ⟨n, ls, rfl, ne, hn, hL, hl, rfl⟩, k⟩ := h
  obtain ⟨v0, rfl, d0⟩ := dpa_one hd
  refine ⟨_, (pss_cons (ps_set (i := 1) sc_are_apart.nd rfl (.inl rfl) pe_dnewK)
      (pss_cons (ps_for PassesOwn.never rfl (pi_tup (pv 0)) (pg_name (i := 2) sc_are_apart.nd rfl (Or.inl rfl)) (pss_one (ps_expr (pe_bm PySem.F.plainAttrs_list PySem.F.slot_list_append PySem.F.type_list_append mt_append (pe_dsetd (pv 1) (pe_callB (cr_sumT rfl) (by rfl) T.b_sum (by decide +kernel) (pa_cons (pv 2) pa_nil)) (pe_lst pa_nil) ⟨rfl, rfl, rfl, rfl⟩) (pa_cons (pv 2) pa_nil)))))
      (pss_cons (ps_set (i := 3) sc_are_apart.nd rfl (.inl rfl) (pe_lst pa_nil))
      (pss_cons (ps_set (i := 4) sc_are_apart.nd rfl (.inl rfl) (pe_D D_guards (hr.mono (by decide)) (by rfl) (pa_cons (pe_callB call_len_seq (by rfl) T.b_len PySem.boot_len (pa_cons (pe_ix ix_tup (pv 0) pe_int (fun _ _ => rfl)) pa_nil)) pa_nil)))
      (pss_cons (ps_for PassesOwn.never rfl (pi_list (pe_callBK (cr_sortDR (b := true) rfl) (by rfl) T.b_sorted (by decide +kernel) (pa_cons (pv 1) pa_nil) (pk_cons pe_bl pk_nil))) (pg_name (i := 5) sc_are_apart.nd rfl (Or.inl rfl)) (pss_cons (ps_set (i := 6) sc_are_apart.nd rfl (.inl rfl) (pe_ifExp (pt_cmpR op_gt (pe_callB call_lenD (by rfl) T.b_len PySem.boot_len (pa_cons (pv 1) pa_nil)) pe_int (nomark _)) (pe_lc (own := [("load", 2)]) (g := (gName 2)) (tt := tYes) rfl sc_are_apart.nd (pi_list (pe_dget (hu_of hr) (pv 1) (pv 5) (fun _ _ => rfl))) (blkOk_by (N := N_are_apart) (sc := defScope s_are_apart) (by decide +kernel)) (fun _ _ _ _ _ => (pg_name (i := 2) sc_are_apart.nd rfl (Or.inl rfl))) (fun _ _ _ _ _ => pts_nil) (fun _ _ _ _ _ => (pe_D D_packed (hr.mono (by decide)) (by rfl) (pa_cons (pv 2) pa_nil)))) (pe_lst pa_nil)))
      (pss_cons (ps_for PassesOwn.never rfl (pi_list (pv 6)) (pg_name (i := 7) sc_are_apart.nd rfl (Or.inl rfl)) (pss_one (ps_if (pt_cmp (pc_notN (pe_D D_first_over (hr.mono (by decide)) (by rfl) (pa_cons (pv 3) (pa_cons (pv 7) (pa_cons (pv 4) pa_nil)))))) (pss_one (ps_ret pe_bl)) pss_nil)))
      (pss_one (ps_expr (pe_bm PySem.F.plainAttrs_list PySem.F.slot_list_extend PySem.F.type_list_extend mt_extend (pv 3) (pa_cons (pv 6) pa_nil)))))))
      (pss_one (ps_ret pe_bl))))))), ?_⟩
  have l0 : 0 < ls.length := List.length_pos_iff.mpr ne
  have immL : ∀ ks : List (List Int), immAll (ks.map tI) = true := immAll_tIs
  refine qk_new fun d hd0 => ?_
  have e1 : Ex H (upd H d (.dK [])) := Ex.new hd0
  have at1 : upd H d (.dK []) d = some (.dK []) := upd_same
  have d1 := dp_ex e1 _ _ d0
  generalize upd H d (.dK []) = H1 at *
  refine e_for (K := K) (S := [d]) (ei_tupN (K := K) (nt_dk at1) (ed_var (v := v0) rfl d1) (immL ls)) (fun H2 i σ' Ha => Xp [d] H2 Ha ∧ ∃ E, Grp K Ha d E ∧ Cov E (ls.take i) ∧ E.length ≤ i ∧ (∀ e ∈ E, H2 e.2.1 = none ∧ e.2.2.length ≤ i) ∧ ∃ y2, σ' = [some v0, some (.ref d), y2, none, none, none, none, none])
    (fun H2 e2 => ⟨Xp.refl _ _, [], ⟨e2 _ _ at1, by simp, by simp⟩, ⟨by simp, by simp, by simp⟩, by simp, by simp, none, rfl⟩) (fun _ _ _ _ _ q => q.1) ?_ ?_
  · rintro H2 i dd x σ' Ha Hb e2 hg ⟨xa, E, gr, cv, le, fr, y2, rfl⟩ e3 hx
    rw [List.getElem?_map] at hg
    obtain ⟨l, hl1, rfl⟩ := Option.map_eq_some_iff.mp hg
    have hi := (List.getElem?_eq_some_iff.mp hl1).1
    have gb := gr.ex e3
    have tk : ls.take (i + 1) = ls.take i ++ [l] := by rw [List.take_add_one, hl1]; rfl
    obtain ⟨ta, rfl, hta⟩ := dp_tI hx
    refine ⟨.ref d, rfl, d, rfl, .inl ⟨_, Or.inl gb.1⟩, .ref ta, rfl, ta, l, rfl, hta, by show 0 ≤ sizeLine; decide, fun p hp => ?_⟩
    have e4 := Ex.new (o := .lst []) hp
    have g4 := gb.ex e4
    have x4 := dp_ex e4 _ _ hx
    have at4 : upd Hb p (.lst []) p = some (.lst []) := upd_same
    have np : H2 p = none := by
      cases z : H2 p with
      | none => rfl
      | some o =>
        by_cases zd : p = d
        · rw [zd, gb.1] at hp
          cases hp
        · have := e3 _ _ (xa _ _ z (by simpa using zd))
          rw [hp] at this
          cases this
    generalize upd Hb p (.lst []) = H4 at *
    have x24 := (xa.then e3).then e4
    refine ⟨E.map enV, .inl l.sum, g4.1, rfl, small1000 (by rw [List.length_map]; omega), fun v hv => ?_, fun hv => ?_⟩
    · rw [val_en] at hv
      obtain ⟨e, he, rfl⟩ := Option.map_eq_some_iff.mp hv
      have hm := List.mem_of_find?_eq_some he
      have hs : e.1 = l.sum := by simpa using List.find?_some he
      obtain ⟨nd, vs, h1, h2⟩ := g4.2.2 e hm
      have lv := dpa_len h2
      rw [List.length_map] at lv
      refine ⟨.inl ⟨rfl, vs, sq_of h1⟩, _, rfl, e.2.1, vs, _, rfl, rfl, h1, sz_lt (by have := (fr e hm).2; omega), ?_⟩
      obtain ⟨k1, k2, k3⟩ := addE_keys e.2.1 l E
      have tx : Tx H4 (upd H4 e.2.1 (.lst (vs ++ [.ref ta]))) := Tx.lst h1
      refine ⟨Xp.updN x24 (fr e hm).1, addE e.2.1 l E, ⟨?_, k2 ▸ g4.2.1, fun f hf => ?_⟩, tk ▸ cv.add g4.2.1 hm hs, by rw [addE, List.length_map]; omega, fun f hf => ?_, _, rfl⟩
      · rw [upd_ne (Ne.symm nd), k3]
        exact g4.1
      · obtain ⟨g, hg2, rfl⟩ := List.mem_map.mp hf
        obtain ⟨nd2, vs2, h3, h4⟩ := g4.2.2 g hg2
        by_cases ea : g.2.1 = e.2.1
        · rw [if_pos ea]
          refine ⟨nd2, vs2 ++ [.ref ta], ?_, ?_⟩
          · show upd H4 e.2.1 _ g.2.1 = _
            rw [ea] at h3 ⊢
            rw [h1] at h3
            cases h3
            exact upd_same
          · show DpAll K _ _ ((g.2.2 ++ [l]).map tI)
            rw [List.map_append]
            exact dpa_app (dpa_tx tx _ _ (immL _) h4) (.cons (dp_tx tx _ _ (imm_tI l) x4) .nil)
        · rw [if_neg ea]
          exact ⟨nd2, vs2, by rw [upd_ne ea]; exact h3, dpa_tx tx _ _ (immL _) h4⟩
      · obtain ⟨g, hg2, rfl⟩ := List.mem_map.mp hf
        obtain ⟨f1, f2⟩ := fr g hg2
        split
        · refine ⟨f1, ?_⟩
          show (g.2.2 ++ [l]).length ≤ i + 1
          rw [List.length_append, List.length_singleton]
          omega
        · exact ⟨f1, by omega⟩
    · have no : ∀ e ∈ E, e.1 ≠ l.sum := fun e he z => by
        rw [val_en] at hv
        have := List.find?_eq_none.mp (Option.map_eq_none_iff.mp hv) e he
        exact this (decide_eq_true z)
      rw [putK_new _ hv]
      have npd : p ≠ d := fun z => by rw [z, g4.1] at at4; cases at4
      have at5 : upd H4 d (.dK (E.map enV ++ [(.inl l.sum, .ref p)])) p = some (.lst []) := by rw [upd_ne npd]; exact at4
      refine ⟨.inl ⟨rfl, [], sq_of at5⟩, _, rfl, p, [], _, rfl, rfl, at5, sz_lt (by simp), ?_⟩
      have npE : ∀ e ∈ E, e.2.1 ≠ p := fun e he z => by
        obtain ⟨_, vs, h1, _⟩ := gb.2.2 e he
        rw [z, hp] at h1
        cases h1
      have t1 : Tx H4 (upd H4 d (.dK (E.map enV ++ [(.inl l.sum, .ref p)]))) := Tx.dct g4.1
      have t2 : Tx H4 (upd (upd H4 d (.dK (E.map enV ++ [(.inl l.sum, .ref p)]))) p (.lst ([] ++ [.ref ta]))) := t1.trans (Tx.lst at5)
      refine ⟨Xp.updN (Xp.upd x24 (by simp)) np, E ++ [(l.sum, p, [l])], ⟨?_, ?_, fun f hf => ?_⟩, tk ▸ cv.new no, by rw [List.length_append, List.length_singleton]; omega, fun f hf => ?_, _, rfl⟩
      · rw [upd_ne (Ne.symm npd), upd_same, List.map_append]
        rfl
      · rw [List.map_append, List.nodup_append]
        refine ⟨g4.2.1, by simp, fun a ha b hb z => ?_⟩
        obtain ⟨e, he, rfl⟩ := List.mem_map.mp ha
        have : b = p := by simpa using hb
        exact npE e he (z.trans this)
      · rcases List.mem_append.mp hf with hf | hf
        · obtain ⟨nd2, vs2, h3, h4⟩ := g4.2.2 f hf
          exact ⟨nd2, vs2, by rw [upd_ne (npE f hf), upd_ne nd2]; exact h3, dpa_tx t2 _ _ (immL _) h4⟩
        · rw [List.mem_singleton.mp hf]
          exact ⟨npd, [] ++ [.ref ta], upd_same, .cons (dp_tx t2 _ _ (imm_tI l) x4) .nil⟩
      · rcases List.mem_append.mp hf with hf | hf
        · obtain ⟨f1, f2⟩ := fr f hf
          exact ⟨f1, by omega⟩
        · rw [List.mem_singleton.mp hf]
          refine ⟨np, ?_⟩
          show ([l] : List (List Int)).length ≤ i + 1
          simp
  · rintro H2 σ' Ha e2 ⟨xa, E, gr, cv, le, fr, y2, rfl⟩
    rw [List.length_map, List.take_length] at cv
    have xE : Ex H Ha := xp_fresh (e1.trans e2) xa hd0
    have few : E.length ≤ 500 := by rw [List.length_map] at le; omega
    refine qn_asg (K := K) (en_lst eda_nil (by simp)) fun F vs0 H5 hF e5 hF5 hd5 => ?_
    cases hd5
    have d5 := dp_ex (xE.trans e5) _ _ d0
    obtain ⟨la, rest, els⟩ : ∃ la rest, ls = la :: rest := by
      cases ls with
      | nil => exact absurd rfl ne
      | cons x y => exact ⟨x, y, rfl⟩
    have L1 := hL la (by rw [els]; exact List.mem_cons_self)
    refine qi_asg (v := .int (gd n)) (EvD.int (ed_call (K := K) (R := R_guards) (ds := [.int (n : Int)]) (eda_cons (ed_int (ev_is (ev_lenT (K := K) (ds := dI la) (ed_ixT (k := 0) (ds := ls.map tI) (ed_var rfl d5) ev_c (by rw [els]; rfl))) (by rw [List.length_map, L1.1]))) eda_nil) rfl ⟨n, rfl, hn, rfl⟩)) fun H6 e6 => ?_
    have g6 := (gr.ex e5).ex e6
    refine ⟨.ref d, rfl, d, E.map enV, E.map (·.1), rfl, rfl, .inl g6.1, by rw [List.map_map, List.map_map]; rfl, by rw [List.length_map]; omega, fun ys p perm ord hp => ?_⟩
    have e7 := Ex.new (o := .lst (ys.map V.int)) hp
    have atp : upd H6 p (.lst (ys.map V.int)) p = some (.lst (ys.map V.int)) := upd_same
    have g7 := g6.ex e7
    have F7 := e7 _ _ (e6 _ _ hF5)
    have X7 : Ex H (upd H6 p (.lst (ys.map V.int))) := ((xE.trans e5).trans e6).trans e7
    generalize upd H6 p (.lst (ys.map V.int)) = H7 at *
    have ord : ys.Pairwise (· ≥ ·) := ord
    have npF : p ∉ [F] := fun z => by rw [List.mem_singleton.mp z, e6 _ _ hF5] at hp; cases hp
    have fresh : ∀ {Hx : Hp}, Xp [F] H7 Hx → Ex H Hx := fun {Hx} x => fun b o hb => x b o (X7 _ _ hb) fun z => by
      have hb2 := (xE : Ex H Ha) _ _ hb
      rw [List.mem_singleton.mp z, hF] at hb2
      cases hb2
    have ldOf : ∀ {t : Int} {a : List Int}, a ∈ ofE E t → Lds n a := fun h => hL _ (cv.of h).1
    have grx : ∀ {Hx : Hp}, Xp [F] H7 Hx → Grp K Hx d E := fun {Hx} x => ⟨x _ _ g7.1 (fun z => by rw [← List.mem_singleton.mp z, g7.1] at F7; cases F7), g7.2.1, fun e he => by
      obtain ⟨q1, vs, q2, q3⟩ := g7.2.2 e he
      have ne2 : e.2.1 ∉ [F] := fun z => by
        obtain ⟨_, vs', r2, _⟩ := gr.2.2 e he
        rw [List.mem_singleton.mp z, hF] at r2
        cases r2
      exact ⟨q1, vs, x _ _ q2 ne2, dpa_tx (x.tx (Ls.one F7)) _ _ (immL _) q3⟩⟩
    refine ⟨p, rfl, ⟨_, sq_of atp⟩, for_list (xs := ys.map V.int) (fun i σ' Hx => Xp [F] H7 Hx ∧ ∃ fs, Hx F = some (.lst (fs.map V.int)) ∧ fs = (if 1 < E.length then (prv E ys i).map pk else []) ∧ (1 < E.length → ∀ (j : Nat) (t : Int), j < i → ys[j]? = some t → ∀ a ∈ ofE E t, ∀ b ∈ prv E ys j, blw a b = false) ∧ ∃ z2 z5 z6 z7, σ' = [some v0, some (.ref d), z2, some (.ref F), some (.int (gd n)), z5, z6, z7])
      ⟨Xp.refl _ _, [], F7, by simp [prv], fun _ j t hj => by omega, _, _, _, _, rfl⟩ (fun i σ' Hx _ q => sq_of (q.1 _ _ atp npF)) ?_ ?_⟩
    · rintro i x σ' Hx hx ⟨xx, fs, hfs, efs, clean, z2, z5, z6, z7, rfl⟩
      rw [List.getElem?_map] at hx
      obtain ⟨t, ht, rfl⟩ := Option.map_eq_some_iff.mp hx
      have tm : t ∈ E.map (·.1) := perm.mem_iff.mp (List.mem_of_getElem? ht)
      obtain ⟨e, he, rfl⟩ := List.mem_map.mp tm
      have gx := grx xx
      obtain ⟨nd, vs, hvs, dvs⟩ := gx.2.2 e he
      have oe := of_en cv.nd he
      have elen : e.2.2.length ≤ 500 := by have := (fr e he).2; rw [List.length_map] at this; omega
      have lvs := dpa_len dvs
      refine gN (i := 5) ?_
      dsimp only [List.set_cons_succ, List.set_cons_zero]
      refine qn_asg (K := K) (ds := dI (if 1 < E.length then e.2.2.map pk else [])) (en_ifN (b := decide (1 < E.length)) (et_test (ev_is (ev_op (ev_lenDk (i := 1) rfl gx.1) ev_c rv_I0) (by rw [List.length_map]; simp; omega))) (fun hb => ?_) (fun hb => ?_)) fun p6 vs6 H8 hp6 e8 h8 d8 => ?_
      · rw [if_pos (of_decide_eq_true hb)]
        refine en_is (en_lc (ei_lst (S := []) (Ls.nil _) (ev_dgetV (i := 1) (j := 5) rfl rfl gx.1 (by rw [val_en, find_en cv.nd he]; rfl)) hvs (by simp) dvs (immL _)) (by rw [List.length_map]; omega) (fun k => .int (pk (e.2.2.getD k []))) (fun _ _ => by simp [imm]) fun H9 k dd y Hb Q' e9 hg e10 hy kk => ?_) ?_
        · rw [List.getElem?_map] at hg
          obtain ⟨a, ha, rfl⟩ := Option.map_eq_some_iff.mp hg
          have La : Lds n a := ldOf (t := e.1) (by rw [oe]; exact List.mem_of_getElem? ha)
          refine kk _ Hb (Ex.refl _) rfl (ed_is (ed_call (R := R_packed) (ds := [tI a]) (eda_cons (ed_var (v := y) rfl hy) eda_nil) rfl ⟨a, rfl, La.2, by rw [La.1]; omega, rfl⟩) ?_)
          rw [List.getD_eq_getElem?_getD, ha]
          rfl
        · rw [List.length_map, dI, List.map_map]
          refine List.ext_getElem? fun k => ?_
          rw [List.getElem?_map, List.getElem?_map]
          by_cases hk : k < e.2.2.length
          · rw [List.getElem?_range hk, List.getElem?_eq_getElem hk]
            simp [List.getD_eq_getElem?_getD, List.getElem?_eq_getElem hk]
          · rw [List.getElem?_eq_none (by simpa using Nat.le_of_not_lt hk), List.getElem?_eq_none (Nat.le_of_not_lt hk)]
            rfl
      · rw [if_neg (of_decide_eq_false hb)]
        exact en_lst eda_nil (by simp)
      obtain rfl := dpa_ints d8
      have hfs8 := e8 _ _ hfs
      refine e_for (K := K) (S := []) (ei_lst (S := []) (Ls.nil _) (ev_var rfl) h8 (by simp) (ints_dpa _) (immAll_ints _)) (fun H9 j σ2 Hc => Ex H9 Hc ∧ (∀ (j' : Nat), j' < j → ∀ a, e.2.2[j']? = some a → 1 < E.length → ∀ b ∈ prv E ys i, blw a b = false) ∧ ∃ w7, σ2 = [some v0, some (.ref d), z2, some (.ref F), some (.int (gd n)), some (.int e.1), some (.ref p6), w7])
        (fun H9 e9 => ⟨Ex.refl _, fun j' hj => by omega, _, rfl⟩) (fun _ _ _ _ _ q => Xp.of_ex q.1) ?_ ?_
      · rintro H9 j dd y σ2 Hc Hd e9 hg ⟨xc, no, w7, rfl⟩ e10 hy
        have big : 1 < E.length := by
          by_cases c : 1 < E.length
          · exact c
          · rw [if_neg c] at hg
            simp at hg
        rw [if_pos big, dI, List.map_map, List.getElem?_map] at hg
        obtain ⟨a, ha, rfl⟩ := Option.map_eq_some_iff.mp hg
        cases dp_int hy
        rw [if_pos big] at efs
        have am : a ∈ ofE E e.1 := by rw [oe]; exact List.mem_of_getElem? ha
        have La := ldOf am
        have hF10 := e10 _ _ (xc _ _ (e9 _ _ hfs8))
        refine s_when (b := (fs.find? (ov (pk a) (gd n))).isSome) (et_B (ev_notN (K := K) (ed_call (R := R_first_over) (ds := [.list (dI fs), .int (pk a), .int (gd n)]) (eda_cons (EvQ.toD (eq_var (k := 3) rfl hF10 (ints_dpa fs))) (eda_cons (ed_int (ev_var rfl)) (eda_cons (ed_int (ev_var rfl)) eda_nil))) rfl ⟨fs, pk a, gd n, rfl, rfl⟩) (by cases fs.find? (ov (pk a) (gd n)) <;> rfl))) (fun hb H11 e11 => ?_) (fun hb H11 e11 => ?_)
        · refine d_ret (K := K) (d := .bool false) (ed_bool ev_c) fun v H12 e12 hv => k v H12 ((((((fresh xx).trans e8).trans e9).trans xc).trans e10).trans (e11.trans e12)) ?_
          obtain ⟨u, hu⟩ := Option.isSome_iff_exists.mp hb
          have um := List.mem_of_find?_eq_some hu
          have uo := List.find?_some hu
          rw [efs] at um
          obtain ⟨b, hb2, rfl⟩ := List.mem_map.mp um
          obtain ⟨bl, bs⟩ := prv_mem cv ord ht hb2
          have bE := (cv.mem bl).1
          rw [ov_iff La (hL b bl)] at uo
          have lt : a.sum < b.sum := by
            have as_ := (cv.of am).2
            have strict : e.1 ≠ b.sum := fun z => by
              obtain ⟨u, hu3, hb4⟩ := List.mem_flatMap.mp hb2
              have ub := (cv.of hb4).2
              have ndy : ys.Nodup := perm.nodup_iff.mpr cv.nd
              obtain ⟨j3, hj3, e3⟩ := List.mem_take_iff_getElem.mp hu3
              obtain ⟨li, ei⟩ := List.getElem?_eq_some_iff.mp ht
              have := (List.getElem_inj ndy).mp (e3.trans (ub.symm.trans (z.symm.trans ei.symm)))
              omega
            omega
          have : apart ls = false := decide_eq_false fun h => by
            have := h a (cv.of am).1 b bl lt
            rw [uo] at this
            cases this
          rw [this]
          exact hv
        · refine ⟨(xc.trans e10).trans e11, fun j' hj' c hc _ b hbp => ?_, _, rfl⟩
          by_cases ej : j' = j
          · rw [ej, ha] at hc
            cases hc
            have hn2 : fs.find? (ov (pk a) (gd n)) = none := by
              cases q : fs.find? (ov (pk a) (gd n)) with
              | none => rfl
              | some u => rw [q] at hb; cases hb
            have := List.find?_eq_none.mp hn2 (pk b) (by rw [efs]; exact List.mem_map.mpr ⟨b, hbp, rfl⟩)
            rw [ov_iff La (hL b (prv_mem cv ord ht hbp).1)] at this
            simpa using this
          · exact no j' (by omega) c hc big b hbp
      · rintro H9 σ2 Hc e9 ⟨xc, no, w7, rfl⟩
        have hFc := xc _ _ (e9 _ _ hfs8)
        have h6c := xc _ _ (e9 _ _ h8)
        refine ⟨.ref F, rfl, .inl ⟨rfl, _, sq_of hFc⟩, .ref p6, rfl, F, p6, _, _, rfl, rfl, hFc, h6c, ?_, ?_⟩
        · have pl := prv_len (fun e he => by have := (fr e he).2; rw [List.length_map] at this; exact Nat.le_trans this hl) ys i
          have yl : ys.length ≤ 500 := by rw [perm.length_eq, List.length_map]; omega
          have : ys.length * 500 ≤ 500 * 500 := Nat.mul_le_mul_right _ yl
          have fl : fs.length ≤ 250000 := by
            rw [efs]
            split
            · rw [List.length_map]; omega
            · simp
          have kl : (if 1 < E.length then e.2.2.map pk else []).length ≤ 500 := by
            split
            · rw [List.length_map]; exact elen
            · simp
          rw [List.length_map, List.length_map, sizeLine_eq]
          omega
        · refine ⟨Xp.upd (((xx.then e8).then e9).then xc) (by simp), fs ++ (if 1 < E.length then e.2.2.map pk else []), by rw [upd_same, List.map_append], ?_, fun big j t2 hj ht2 a ha b hb => ?_, _, _, _, _, rfl⟩
          · rw [efs]
            split
            · rw [prv_succ ht, List.map_append, oe]
            · rfl
          · by_cases ej : j = i
            · rw [ej] at ht2 hb
              rw [ht] at ht2
              cases ht2
              rw [oe] at ha
              obtain ⟨j', hj', ea⟩ := List.getElem_of_mem ha
              refine no j' ?_ a (by rw [List.getElem?_eq_getElem hj', ea]) big b hb
              rw [if_pos big, List.length_map, List.length_map]
              exact hj'
            · exact clean big j t2 (by omega) ht2 a ha b hb
    · rintro σ' Hx ⟨xx, fs, hfs, efs, clean, z2, z5, z6, z7, rfl⟩
      rw [List.length_map] at clean
      dsimp only
      refine d_ret (K := K) (d := .bool true) (ed_bool ev_c) fun v H12 e12 hv => k v H12 ((fresh xx).trans e12) ?_
      have : apart ls = true := decide_eq_true fun a ha b hb lt => by
        have a1 := cv.mem ha
        have b1 := cv.mem hb
        have big : 1 < E.length := by
          obtain ⟨ea, hea, e1⟩ := List.mem_map.mp a1.2
          obtain ⟨eb, heb, e2⟩ := List.mem_map.mp b1.2
          rcases E with _ | ⟨x, _ | ⟨y, r⟩⟩
          · simp at hea
          · have q1 : ea = x := by simpa using hea
            have q2 : eb = x := by simpa using heb
            rw [q1] at e1
            rw [q2] at e2
            omega
          · simp
        obtain ⟨i, hi, ei⟩ := List.getElem_of_mem (perm.mem_iff.mpr a1.2)
        obtain ⟨j, hj, ej⟩ := List.getElem_of_mem (perm.mem_iff.mpr b1.2)
        have ji : j < i := by
          rcases Nat.lt_trichotomy j i with q | q | q
          · exact q
          · subst q
            omega
          · have := List.pairwise_iff_getElem.mp ord i j hi hj q
            omega
        refine clean big i a.sum hi (by rw [List.getElem?_eq_getElem hi, ei]) a a1.1 b ?_
        exact List.mem_flatMap.mpr ⟨b.sum, List.mem_take_iff_getElem.mpr ⟨j, by omega, ej⟩, b1.1⟩
      rw [this]
      exact hv

end
end K16
set_option Elab.async false
set_option linter.all false
set_option maxRecDepth 100000
set_option maxHeartbeats 4000000
namespace K16
open PySem PySem.Spec PyProof.Rows L2 Evl DL
local macro_rules | `(tactic| walk_at "dl") => `(tactic| first
  | exact ev_c | exact ev_var rfl | exact eda_nil
  | exact ed_var rfl (by assumption)
  | exact ed_int ev_c | exact ed_int (ev_var rfl)
  | (refine eda_cons ?_ ?_ <;> walk_at "dl")
  | (refine ed_int ?_; walk_at "dl")
  | (refine ev_op ?_ ?_ rv_I0 <;> walk_at "dl"))
def intOf : PyData → Int
  | .int i => i
  | _ => 0
def intsOf : PyData → List Int
  | .tuple es => es.map intOf
  | _ => []
theorem intsOf_tI (l : List Int) : intsOf (tI l) = l := by
  show (l.map PyData.int).map intOf = l
  rw [List.map_map]
  exact List.map_id'' (fun _ => rfl) l
theorem intsOf_map (ls : List (List Int)) : (ls.map tI).map intsOf = ls := by
  rw [List.map_map]
  exact List.map_id'' (fun l => intsOf_tI l) ls
/-- a load of s sides, as data -/
theorem ld_of {s : Int} {d : PyData} (h : ldOk s d = true) : ∃ l, d = tI l ∧ Ld s l := by
  cases d with
  | tuple es =>
    have h : (decide (es.length = np s) && es.all fun e => isIn e 0 99) = true := h
    rw [Bool.and_eq_true, decide_eq_true_eq, List.all_eq_true] at h
    have hi : ∀ e ∈ es, ∃ i : Int, e = .int i ∧ 0 ≤ i ∧ i ≤ 99 := fun e he => by
      have := h.2 e he
      cases e with
      | int i =>
        simp only [isIn, Bool.and_eq_true, decide_eq_true_eq] at this
        exact ⟨i, rfl, this⟩
      | _ => simp [isIn] at this
    refine ⟨es.map intOf, ?_, by rw [List.length_map]; exact h.1, fun x hx => ?_⟩
    · show PyData.tuple es = PyData.tuple ((es.map intOf).map PyData.int)
      congr 1
      rw [List.map_map]
      have z : es.map (PyData.int ∘ intOf) = es.map id := List.map_congr_left fun e he => by
        obtain ⟨i, rfl, _⟩ := hi e he
        rfl
      rw [z, List.map_id]
    · obtain ⟨e, he, rfl⟩ := List.mem_map.mp hx
      obtain ⟨i, rfl, b⟩ := hi e he
      exact b
  | _ => cases h
theorem lds_of {s : Int} : ∀ {ds : List PyData}, ds.all (ldOk s) = true → ∃ ls : List (List Int), ds = ls.map tI ∧ ∀ l ∈ ls, Ld s l
  | [], _ => ⟨[], rfl, fun _ h => by simp at h⟩
  | d :: ds, h => by
    rw [List.all_cons, Bool.and_eq_true] at h
    obtain ⟨l, rfl, hl⟩ := ld_of h.1
    obtain ⟨ls, rfl, hls⟩ := lds_of h.2
    refine ⟨l :: ls, rfl, fun k hk => ?_⟩
    rcases List.mem_cons.mp hk with rfl | hk
    · exact hl
    · exact hls k hk
/-! values of any kind, a dict among them -/
def IsDk (H : Hp) (v : V) : Prop := ∃ a kvs, v = .ref a ∧ H a = some (.dK kvs)
theorem IsDk.ex {H H' : Hp} {v : V} (h : IsDk H v) (e : Ex H H') : IsDk H' v := by
  obtain ⟨a, kvs, rfl, h⟩ := h
  exact ⟨a, kvs, rfl, e _ _ h⟩
def isDict : PyData → Bool
  | .dict _ => true
  | _ => false
theorem dp_nodict {K : PySem.W.Frag} {H : Hp} {v : V} {d : PyData} (h : Dp K H v d) : isDict d = false := by cases h <;> rfl
theorem itm_cases {K : PySem.W.Frag} {H : Hp} {v : V} {d : PyData} (h : Itm K H v d) : (Dp K H v d ∧ isDict d = false) ∨ (IsDk H v ∧ isDict d = true) := by
  cases h with
  | dp h => exact .inl ⟨h, dp_nodict h⟩
  | d0 h => exact .inr ⟨⟨_, _, rfl, h⟩, rfl⟩
  | d1 h => exact .inr ⟨⟨_, _, rfl, h⟩, rfl⟩
/-- not a tuple -/
theorem ev_isTd {K : PySem.W.Frag} {σ : L2.St} {H : Hp} {i : Nat} {v : V} (hi : σ[i]? = some (some v)) (h : IsDk H v) : Ev (tCB (rIsi K) (tCons (tVar i) (tCons (tC (.ty "tuple")) tNil))) σ H (.bl false) := fun H1 e Q q => by
  obtain ⟨a, kvs, rfl, ha⟩ := h.ex e
  exact ⟨.ref a, hi, _, _, _, _, false, rfl, .ty "tuple", .base (.dK ha), kit_ty (show kitB "dict" "tuple" = some false by decide +kernel), q H1 (Ex.refl _)⟩
/-- a number of sides, a value of any kind; a bool comes back -/
def spJ (K : PySem.W.Frag) (S : PyData → Prop) (f : Int → PyData → Bool) : Sp := fun vs H Q _ => ∃ (s : Int) (v : V) (d : PyData), vs = [.int s, v] ∧ 2 ≤ s ∧ s ≤ 5 ∧ Itm K H v d ∧ S d ∧ ∀ H', Ex H H' → Q (.bl (f s d)) H'
def spJd (f : Int → PyData → Bool) : Sp := fun vs H Q _ => ∃ (s : Int) (v : V), vs = [.int s, v] ∧ 2 ≤ s ∧ s ≤ 5 ∧ IsDk H v ∧ ∀ H', Ex H H' → Q (.bl false) H'
def spJp (K : PySem.W.Frag) (S : PyData → Prop) (f : Int → PyData → Bool) : Sp := fun vs H Q _ => ∃ (s : Int) (v : V) (d : PyData), vs = [.int s, v] ∧ 2 ≤ s ∧ s ≤ 5 ∧ Dp K H v d ∧ S d ∧ ∀ H', Ex H H' → Q (.bl (f s d)) H'
def spTd : Sp := fun vs H Q _ => ∃ (v : V) (m : Int), vs = [v, .int m] ∧ IsDk H v ∧ ∀ H', Ex H H' → Q (.bl false) H'
def apD (ds : List PyData) : Bool := apart (ds.map intsOf)
section
variable {P : Program} {w : World} {K : PySem.W.Frag} {mg : Str → Option Value} {base : Heap}
theorem fn_mono {CX : CXT} {f : Addr} {fd : FuncData} {k : Nat} {ps : List Str} {sp sp' : Sp} (F : FnOk P w K mg base CX k f fd ps sp) (h : ∀ vs H Q E, sp' vs H Q E → sp vs H Q E) : FnOk P w K mg base CX k f fd ps sp' :=
  ⟨fun vs H Q E q => F.len _ _ _ _ (h _ _ _ _ q), fun A outer s H args us vs Q E hr e0 hb r q => F.run A outer s H args us vs Q E hr e0 hb r (h _ _ _ _ q)⟩
theorem fn_or {CX : CXT} {f : Addr} {fd : FuncData} {k : Nat} {ps : List Str} {sp sp' : Sp} (F : FnOk P w K mg base CX k f fd ps sp) (F' : FnOk P w K mg base CX k f fd ps sp') : FnOk P w K mg base CX k f fd ps (fun vs H Q E => sp vs H Q E ∨ sp' vs H Q E) :=
  ⟨fun vs H Q E q => q.elim (F.len _ _ _ _) (F'.len _ _ _ _), fun A outer s H args us vs Q E hr e0 hb r q => q.elim (F.run A outer s H args us vs Q E hr e0 hb r) (F'.run A outer s H args us vs Q E hr e0 hb r)⟩
theorem fn_J {f : Addr} {fd : FuncData} {k : Nat} {ps : List Str} {S : PyData → Prop} {g : Int → PyData → Bool} (F : FnOk P w K mg base CX0 k f fd ps (spJp K S g)) (F' : FnOk P w K mg base CX0 k f fd ps (spJd g)) (hg : ∀ s d, isDict d = true → g s d = false) : FnOk P w K mg base CX0 k f fd ps (spJ K S g) :=
  fn_mono (fn_or F F') fun vs H Q E ⟨s, v, d, e, h1, h2, hi, sm, q⟩ => (itm_cases hi).elim (fun z => .inl ⟨s, v, d, e, h1, h2, z.1, sm, q⟩) fun z => .inr ⟨s, v, e, h1, h2, z.1, by rw [hg s d z.2] at q; exact q⟩
theorem df_mono {nm : Str} {k : Nat} {ps : List Str} {sp sp' : Sp} (F : DF P w K mg base nm k ps sp) (h : ∀ vs H Q E, sp' vs H Q E → sp vs H Q E) : DF P w K mg base nm k ps sp' := by
  obtain ⟨f, fd, h1, h2⟩ := F.ex
  exact ⟨f, fd, fn_mono h1 h, h2⟩
theorem dfJ_p {nm : Str} {k : Nat} {ps : List Str} {S : PyData → Prop} {g : Int → PyData → Bool} (F : DF P w K mg base nm k ps (spJ K S g)) : DF P w K mg base nm k ps (spJp K S g) :=
  df_mono F fun _ _ _ _ ⟨s, v, d, e, h1, h2, hd, sm, q⟩ => ⟨s, v, d, e, h1, h2, .dp hd, sm, q⟩
theorem ldOk_dict (s : Int) (d : PyData) (h : isDict d = true) : ldOk s d = false := by cases d <;> first | rfl | cases h
theorem ev_J {S : PyData → Prop} {g : Int → PyData → Bool} {σ : L2.St} {H : Hp} {te tv : TE} {s : Int} {d : PyData} (hs : Ev te σ H (.int s)) (hv : EvD K tv σ H d) (h1 : 2 ≤ s) (h2 : s ≤ 5) (sm : S d) : Ev (tCall (spJ K S g) [] E0 (tCons te (tCons tv tNil))) σ H (.bl (g s d)) := fun H1 e Q q =>
  hs H1 e _ fun H2 e2 => hv H2 (e.trans e2) _ fun v H3 e3 hd => ⟨s, v, d, rfl, h1, h2, .dp hd, sm, fun H4 e4 => q H4 ((e2.trans e3).trans e4)⟩
/-- .. its argument any value at a name -/
theorem ev_Ji {S : PyData → Prop} {g : Int → PyData → Bool} {σ : L2.St} {H : Hp} {te : TE} {i : Nat} {s : Int} {v : V} {d : PyData} (hs : Ev te σ H (.int s)) (hi : σ[i]? = some (some v)) (hv : Itm K H v d) (h1 : 2 ≤ s) (h2 : s ≤ 5) (sm : S d) : Ev (tCall (spJ K S g) [] E0 (tCons te (tCons (tVar i) tNil))) σ H (.bl (g s d)) := fun H1 e Q q =>
  hs H1 e _ fun H2 e2 => ⟨v, hi, s, v, d, rfl, h1, h2, itm_ex (e.trans e2) hv, sm, fun H4 e4 => q H4 (e2.trans e4)⟩
abbrev Any : PyData → Prop := fun _ => True
def small : PyData → Prop
  | .tuple ds => ds.length ≤ 500
  | _ => True
end

/-- what is_frame_of tells -/
def frB (s : Int) (d : PyData) : Bool := match d with
  | .tuple ds => !ds.isEmpty && (ds.all (ldOk s) && (risesD ds && apD ds))
  | _ => false
theorem frB_dict (s : Int) (d : PyData) (h : isDict d = true) : frB s d = false := by cases d <;> first | rfl | cases h
section
variable {P : Program} {w : World} {K : PySem.W.Frag} {mg : Str → Option Value} {base : Heap}
theorem ok_is_tuple_ofX {f : Addr} {fd : FuncData} (F : Fun K "is_tuple_of" "is_tuple_of" s_is_tuple_of f fd) (T : Txt mg)
     :
    FnOk P w K mg base CX0 1 f fd ["thing", "many"] (spTd) := by
  refine F.ok sc_is_tuple_of (fun vs H Q E h => by obtain ⟨_, _, rfl, _⟩ := h; rfl) (fun cdv A outer s H vs Q E hr h => ?_)
  obtain ⟨v, m, rfl, hd, k⟩ := h
  refine ⟨_, (pss_one (ps_ret (pe_and (pe_callB call_isi (by rfl) T.b_isinstance (by decide +kernel) (pa_cons (pv 0) (pa_cons (pe_bltn (v := .ty "tuple") (u := .type "tuple") (by rfl) T.b_tuple (by decide +kernel) rfl) pa_nil))) (pe_one (pe_cmpR op_eq (pe_callB call_len_seq (by rfl) T.b_len PySem.boot_len (pa_cons (pv 0) pa_nil)) (pv 1) (nomark _)))))), ?_⟩
  exact s_ret (v := .bl false) (ev_andV (a := false) (b := false) (ev_isTd rfl hd) fun z => nomatch z) fun H1 e1 => k H1 e1

theorem ok_is_load_ofX {f : Addr} {fd : FuncData} (F : Fun K "is_load_of" "is_load_of" s_is_load_of f fd) (T : Txt mg)
    (D_is_tuple_of : DF P w K mg base "is_tuple_of" 1 ["thing", "many"] spTd) (D_many_pairs : DF P w K mg base "many_pairs" 1 ["sides"] (spD K 1 R_many_pairs)) :
    FnOk P w K mg base CX0 2 f fd ["sides", "thing"] (spJd ldOk) := by
  refine F.ok sc_is_load_of (fun vs H Q E h => by obtain ⟨_, _, rfl, _⟩ := h; rfl) (fun cdv A outer s H vs Q E hr h => ?_)
  obtain ⟨x, v1, rfl, h1, h2, hd, k⟩ := h
  refine ⟨_, (pss_cons (ps_if (pt_not (pt_val (pe_D D_is_tuple_of (hr.mono (by decide)) (by rfl) (pa_cons (pv 1) (pa_cons (pe_D D_many_pairs (hr.mono (by decide)) (by rfl) (pa_cons (pv 0) pa_nil)) pa_nil))))) (pss_one (ps_ret pe_bl)) pss_nil)
      (pss_cons (ps_for PassesOwn.never rfl (pi_tup (pv 1)) (pg_name (i := 2) sc_is_load_of.nd rfl (Or.inl rfl)) (pss_one (ps_if (PW.pt (pw_or (pt_not (pt_val (pe_callB call_isi (by rfl) T.b_isinstance (by decide +kernel) (pa_cons (pv 2) (pa_cons (pe_bltn (v := .ty "int") (u := .type "int") (by rfl) T.b_int (by decide +kernel) rfl) pa_nil))))) (pw_or (pt_val (pe_callB call_isi (by rfl) T.b_isinstance (by decide +kernel) (pa_cons (pv 2) (pa_cons (pe_bltn (v := .ty "bool") (u := .type "bool") (by rfl) T.b_bool (by decide +kernel) rfl) pa_nil)))) (pw_or (pt_cmpR op_lt (pv 2) pe_int (nomark _)) (pw_or1 (pt_cmpR op_gt (pv 2) (pe_const T.c_MOST_NUMBER (by rfl)) (nomark _))))))) (pss_one (ps_ret pe_bl)) pss_nil)))
      (pss_one (ps_ret pe_bl)))), ?_⟩
  refine q_when (b := true) (et_not (a := false) (et_B fun H1 e1 Q1 q1 => ⟨v1, rfl, ed_call (K := K) (R := R_many_pairs) (ds := [.int x]) (eda_cons (ed_int (ev_var rfl)) eda_nil) rfl ⟨x, rfl, h1, h2, rfl⟩ H1 (Ex.refl _) _ fun v2 H2 e2 hv2 => ?_⟩)) (fun _ H1 e1 => ?_) fun z => nomatch z
  · cases dp_int hv2
    exact ⟨v1, _, rfl, (hd.ex e1).ex e2, fun H3 e3 => q1 H3 (e2.trans e3)⟩
  · exact s_ret ev_c fun H2 e2 => k H2 (e1.trans e2)

theorem ok_is_load_ofJ {f : Addr} {fd : FuncData} (F : Fun K "is_load_of" "is_load_of" s_is_load_of f fd) (T : Txt mg) (D1 : DF P w K mg base "is_tuple_of" 1 ["thing", "many"] (spD K 2 R_is_tuple_of)) (D2 : DF P w K mg base "is_tuple_of" 1 ["thing", "many"] spTd) (D3 : DF P w K mg base "many_pairs" 1 ["sides"] (spD K 1 R_many_pairs)) :
    FnOk P w K mg base CX0 2 f fd ["sides", "thing"] (spJ K Any ldOk) :=
  fn_J (fn_mono (ok_is_load_of F T D1 D3) fun vs H Q E ⟨s, v, d, e, h1, h2, hd, _, q⟩ => ⟨[.int s, d], .bool (ldOk s d), e ▸ .cons (.int s) (.cons hd .nil), rfl, ⟨s, d, rfl, h1, h2, rfl⟩, fun v' H' x hv => by cases hv; exact q H' x⟩) (ok_is_load_ofX F T D2 D3) ldOk_dict
end
end K16
set_option Elab.async false
set_option linter.all false
set_option maxRecDepth 100000
set_option maxHeartbeats 4000000
namespace K16
open PySem PySem.Spec PyProof.Rows L2 Evl DL
local macro_rules | `(tactic| walk_at "dl") => `(tactic| first
  | exact ev_c | exact ev_var rfl | exact eda_nil
  | exact ed_var rfl (by assumption)
  | exact ed_int ev_c | exact ed_int (ev_var rfl)
  | (refine eda_cons ?_ ?_ <;> walk_at "dl")
  | (refine ed_int ?_; walk_at "dl")
  | (refine ev_op ?_ ?_ rv_I0 <;> walk_at "dl"))
theorem prs5 : prs 5 = [(0, 1), (0, 2), (0, 3), (0, 4), (1, 2), (1, 3), (1, 4), (2, 3), (2, 4), (3, 4)] := by decide
theorem st01 (a b c d e x : Int) : stp [a, b, c, d, e] ((0, 1), x) = [a + x, b + x, c, d, e] := rfl
theorem st02 (a b c d e x : Int) : stp [a, b, c, d, e] ((0, 2), x) = [a + x, b, c + x, d, e] := rfl
theorem st03 (a b c d e x : Int) : stp [a, b, c, d, e] ((0, 3), x) = [a + x, b, c, d + x, e] := rfl
theorem st04 (a b c d e x : Int) : stp [a, b, c, d, e] ((0, 4), x) = [a + x, b, c, d, e + x] := rfl
theorem st12 (a b c d e x : Int) : stp [a, b, c, d, e] ((1, 2), x) = [a, b + x, c + x, d, e] := rfl
theorem st13 (a b c d e x : Int) : stp [a, b, c, d, e] ((1, 3), x) = [a, b + x, c, d + x, e] := rfl
theorem st14 (a b c d e x : Int) : stp [a, b, c, d, e] ((1, 4), x) = [a, b + x, c, d, e + x] := rfl
theorem st23 (a b c d e x : Int) : stp [a, b, c, d, e] ((2, 3), x) = [a, b, c + x, d + x, e] := rfl
theorem st24 (a b c d e x : Int) : stp [a, b, c, d, e] ((2, 4), x) = [a, b, c + x, d, e + x] := rfl
theorem st34 (a b c d e x : Int) : stp [a, b, c, d, e] ((3, 4), x) = [a, b, c, d + x, e + x] := rfl
theorem sms5 (x0 x1 x2 x3 x4 x5 x6 x7 x8 x9 : Int) : sms 5 [x0, x1, x2, x3, x4, x5, x6, x7, x8, x9] = [0 + x0 + x1 + x2 + x3, 0 + x0 + x4 + x5 + x6, 0 + x1 + x4 + x7 + x8, 0 + x2 + x5 + x7 + x9, 0 + x3 + x6 + x8 + x9] := by
  unfold sms
  rw [prs5]
  show List.foldl stp [0, 0, 0, 0, 0] [((0, 1), x0), ((0, 2), x1), ((0, 3), x2), ((0, 4), x3), ((1, 2), x4), ((1, 3), x5), ((1, 4), x6), ((2, 3), x7), ((2, 4), x8), ((3, 4), x9)] = _
  rw [List.foldl_cons, st01]
  rw [List.foldl_cons, st02]
  rw [List.foldl_cons, st03]
  rw [List.foldl_cons, st04]
  rw [List.foldl_cons, st12]
  rw [List.foldl_cons, st13]
  rw [List.foldl_cons, st14]
  rw [List.foldl_cons, st23]
  rw [List.foldl_cons, st24]
  rw [List.foldl_cons, st34]
  rfl
theorem len_succ {l : List Int} {n : Nat} (h : l.length = n + 1) : ∃ a m, l = a :: m ∧ m.length = n := by
  cases l with
  | nil => cases h
  | cons a m => exact ⟨a, m, rfl, by simpa using h⟩
theorem lpr_prs (s : Int) : lpr s = (prs s).map pD := by
  unfold lpr prs
  rw [List.map_flatMap]
  simp only [List.map_map]
  rfl
/-- the numbers of the pairs that P lets, summed -/
def fsum (s : Int) (l : List Int) (p : Int × Int → Bool) : Int := (((List.range (np s)).filter fun j => p ((prs s).getD j (0, 0))).map fun j => l.getD j 0).sum
theorem prs2 : prs 2 = [(0, 1)] := by decide
theorem prs3 : prs 3 = [(0, 1), (0, 2), (1, 2)] := by decide
theorem prs4 : prs 4 = [(0, 1), (0, 2), (0, 3), (1, 2), (1, 3), (2, 3)] := by decide
theorem rng1 : List.range 1 = [0] := rfl
theorem rng3 : List.range 3 = [0, 1, 2] := rfl
theorem rng6 : List.range 6 = [0, 1, 2, 3, 4, 5] := rfl
theorem npn : np 2 = 1 ∧ np 3 = 3 ∧ np 4 = 6 := by decide
theorem np5 : np 5 = 10 := by decide
theorem rng10 : List.range 10 = [0, 1, 2, 3, 4, 5, 6, 7, 8, 9] := rfl
theorem fsum_side {s : Int} {l : List Int} {i : Nat} (h1 : 2 ≤ s) (h2 : s ≤ 5) (hl : l.length = np s) (hi : i < s.toNat) : fsum s l (fun q => decide ((i : Int) ∈ [q.1, q.2])) = (sms s l).getD i 0 := by
  have hs' : s = 2 ∨ s = 3 ∨ s = 4 ∨ s = 5 := by omega
  rcases hs' with rfl | rfl | rfl | rfl
  · match l, hl with
    | [a], _ =>
      have hi' : i = 0 ∨ i = 1 := by simp at hi; omega
      rcases hi' with rfl | rfl <;> (unfold fsum; rw [npn.1, prs2, rng1]; simp [sms, prs2, stp])
  · match l, hl with
    | [a, b, c], _ =>
      have hi' : i = 0 ∨ i = 1 ∨ i = 2 := by simp at hi; omega
      rcases hi' with rfl | rfl | rfl <;> (unfold fsum; rw [npn.2.1, prs3, rng3]; simp [sms, prs3, stp])
  · match l, hl with
    | [a, b, c, d, e, f], _ =>
      have hi' : i = 0 ∨ i = 1 ∨ i = 2 ∨ i = 3 := by simp at hi; omega
      rcases hi' with rfl | rfl | rfl | rfl <;> (unfold fsum; rw [npn.2.2, prs4, rng6]; simp [sms, prs4, stp]; try omega)
  · have h10 : l.length = 10 := hl.trans (by decide)
    obtain ⟨l0, m0, e0, h0⟩ := len_succ h10
    subst e0
    obtain ⟨l1, m1, e1, h1⟩ := len_succ h0
    subst e1
    obtain ⟨l2, m2, e2, h2⟩ := len_succ h1
    subst e2
    obtain ⟨l3, m3, e3, h3⟩ := len_succ h2
    subst e3
    obtain ⟨l4, m4, e4, h4⟩ := len_succ h3
    subst e4
    obtain ⟨l5, m5, e5, h5⟩ := len_succ h4
    subst e5
    obtain ⟨l6, m6, e6, h6⟩ := len_succ h5
    subst e6
    obtain ⟨l7, m7, e7, h7⟩ := len_succ h6
    subst e7
    obtain ⟨l8, m8, e8, h8⟩ := len_succ h7
    subst e8
    obtain ⟨l9, m9, e9, h9⟩ := len_succ h8
    subst e9
    have e9 := List.eq_nil_of_length_eq_zero h9
    subst e9
    have hi' : i = 0 ∨ i = 1 ∨ i = 2 ∨ i = 3 ∨ i = 4 := by simp at hi; omega
    rcases hi' with rfl | rfl | rfl | rfl | rfl <;> (unfold fsum; rw [np5, prs5, rng10, sms5]; simp; try omega)
def seqD (t : Bool) (ds : List PyData) : PyData := match t with
  | true => .tuple ds
  | false => .list ds
section
variable {K : PySem.W.Frag} {σ : L2.St} {H H' : Hp} {ta tb te : TE} {d : PyData} {ds es : List PyData} {v : V} {t u : Bool}
theorem seq_sqa (h : Dp K H v (seqD t ds)) : ∃ a xs, v = .ref a ∧ SqA K t H a xs ∧ DpAll K H xs ds := by
  cases t with
  | true =>
    cases h with
    | tup hs ha => exact ⟨_, _, rfl, sqa_t hs, ha⟩
  | false =>
    cases h with
    | lst hs ha => exact ⟨_, _, rfl, sqa_l hs, ha⟩
theorem sqa_ex {a : Addr} {xs : List V} (e : Ex H H') (h : SqA K t H a xs) : SqA K t H' a xs := by
  cases t with
  | true => exact sqa_t (ex_t e h)
  | false => exact sqa_l (ex_l e h)
/-- zip of two lists or tuples that are read, whatever their items -/
theorem ei_zipG (ha : EvD K ta σ H (seqD t ds)) (hb : EvD K tb σ H (seqD u es)) : EvI K (iZipM K t u (tCons ta (tCons tb tNil))) σ H [] (List.zipWith (fun x y => PyData.tuple [x, y]) ds es) := by
  intro H1 e R r
  refine ha H1 e _ fun x H2 e2 hx => hb H2 (e.trans e2) _ fun y H3 e3 hy => ?_
  obtain ⟨a1, xs1, rfl, hs1, ha1⟩ := seq_sqa hx
  obtain ⟨a2, xs2, rfl, hs2, ha2⟩ := seq_sqa hy
  have hs1 := sqa_ex e3 hs1
  have ha1 := dpa_ex e3 _ _ ha1
  refine ⟨_, _, _, _, rfl, hs1, hs2, r _ H3 (e2.trans e3) ?_⟩
  rw [List.length_zipWith, ← dpa_len ha1, ← dpa_len ha2]
  have w := walk_zipM (K := K) (a := a1) (b := a2) (xs := xs1) (ys := xs2) (t := t) (u := u) (n := min xs1.length xs2.length) rfl
  refine (w.mono (fun Ha x => ⟨sqa_ex x.to_ex hs1, sqa_ex x.to_ex hs2⟩) fun i Ha v Hb hlt hg y => ?_)
  obtain ⟨T, v1, v2, rfl, hT, rfl, g1, g2⟩ := y
  obtain ⟨d1, q1, q2⟩ := dpa_getV (dpa_ex (hg.to_ex.trans (Ex.new hT)) _ _ ha1) g1
  obtain ⟨d2, q3, q4⟩ := dpa_getV (dpa_ex (hg.to_ex.trans (Ex.new hT)) _ _ ha2) g2
  refine ⟨Ex.new hT, .tuple [d1, d2], ?_, .tup (st_of upd_same) (.cons q2 (.cons q4 .nil))⟩
  rw [List.getElem?_zipWith, q1, q3]
/-- enumerate of a list -/
theorem ei_enum (ha : EvD K ta σ H (.list ds)) : EvI K (iEnum K (tCons ta tNil)) σ H [] ((List.range ds.length).map fun (i : Nat) => PyData.tuple [.int (i : Int), ds.getD i .none]) := by
  intro H1 e R r
  refine ha H1 e _ fun x H2 e2 hx => ?_
  cases hx with
  | @lst a1 xs1 _ hs1 ha1 =>
    refine ⟨_, _, rfl, hs1, r _ H2 e2 ?_⟩
    rw [List.length_map, List.length_range, ← dpa_len ha1]
    refine (walk_enum (K := K) (a := a1) (xs := xs1)).mono (fun Ha x => ex_l x.to_ex hs1) fun i Ha v Hb hlt hg y => ?_
    obtain ⟨T, v1, v2, rfl, hT, rfl, g1, g2⟩ := y
    obtain ⟨d2, q3, q4⟩ := dpa_getV (dpa_ex (hg.to_ex.trans (Ex.new hT)) _ _ ha1) g2
    cases g1
    have hi : i < ds.length := (List.getElem?_eq_some_iff.mp q3).1
    refine ⟨Ex.new hT, .tuple [.int (i : Int), d2], ?_, .tup (st_of upd_same) (.cons (.int _) (.cons q4 .nil))⟩
    rw [List.getElem?_map, List.getElem?_range hlt]
    simp [List.getD_eq_getElem?_getD, q3]
end
section
variable {P : Program} {w : World} {K : PySem.W.Frag} {mg : Str → Option Value} {base : Heap}
def R_law_is_whole (ds : List PyData) (r : PyData) : Prop := ∃ d, ds = [d] ∧ r = .bool (isNum d)
abbrev s__law_is_whole : Stmt := topS 41
abbrev N__law_is_whole : List Str := ["item"]
theorem sc__law_is_whole : FnScope N__law_is_whole ["item"] (defScope s__law_is_whole) := ⟨rfl, rfl, rfl, by decide +kernel, rfl, by decide +kernel, by decide +kernel⟩
theorem ok__law_is_whole {f : Addr} {fd : FuncData} (F : Fun K "_law_is_whole" "_law_is_whole" s__law_is_whole f fd) (T : Txt mg)
      :
    FnOk P w K mg base CX0 1 f fd ["item"] (spD K 1 R_law_is_whole) := by
  refine F.ok sc__law_is_whole (fun vs H Q E h => spD_len h) (fun cdv A outer s H vs Q E hr h => ?_)
  obtain ⟨ds, r, hd, _, ⟨d, rfl, rfl⟩, k⟩ := h
  obtain ⟨v0, rfl, d0⟩ := dpa_one hd
  refine ⟨_, (pss_one (ps_ret (pe_and (pe_callB call_isi (by rfl) T.b_isinstance (by decide +kernel) (pa_cons (pv 0) (pa_cons (pe_bltn (v := .ty "int") (u := .type "int") (by rfl) T.b_int (by decide +kernel) rfl) pa_nil))) (pe_one (pe_not (pe_callB call_isi (by rfl) T.b_isinstance (by decide +kernel) (pa_cons (pv 0) (pa_cons (pe_bltn (v := .ty "bool") (u := .type "bool") (by rfl) T.b_bool (by decide +kernel) rfl) pa_nil)))))))), ?_⟩
  refine d_ret (K := K) (ed_bool (ev_is (ev_andV (ev_isiD (ed_var rfl d0) (kit_int d)) fun _ => ev_notV (ev_isiD (ed_var rfl d0) (kit_bool d))) ?_)) k
  cases d <;> rfl

def R_law_is_load (ds : List PyData) (r : PyData) : Prop := ∃ (s : Int) (d : PyData), ds = [.int s, d] ∧ 2 ≤ s ∧ s ≤ 5 ∧ r = .bool (ldOk s d)
theorem filt_nil (es : List PyData) : ((((List.range es.length).filter fun i => !isIn (es.getD i .none) 0 99).map fun _ => (1 : Int))).isEmpty = es.all (fun e => isIn e 0 99) := by
  rw [Bool.eq_iff_iff, List.isEmpty_iff, List.map_eq_nil_iff, List.filter_eq_nil_iff, List.all_eq_true]
  constructor
  · intro h e he
    obtain ⟨i, hi, rfl⟩ := List.getElem_of_mem he
    have := h i (by simpa using hi)
    simpa [List.getD_eq_getElem?_getD, hi] using this
  · intro h i hi
    have hi : i < es.length := by simpa using hi
    have := h es[i] (List.getElem_mem hi)
    simpa [List.getD_eq_getElem?_getD, hi] using this
theorem ev_pairs {σ : L2.St} {H : Hp} {k : Nat} {x : Int} (hv : σ[k]? = some (some (.int x))) (h1 : 2 ≤ x) (h2 : x ≤ 5) : Ev (tOp (rI CDiv fun i j => V.int (i / j)) (tOp (rI CMul fun i j => V.int (i * j)) (tVar k) (tOp (rI0 fun i j => V.int (i - j)) (tVar k) (tC (.int 1)))) (tC (.int 2))) σ H (.int ((np x : Nat) : Int)) := by
  have i1 : Ev (tOp (rI0 fun i j => .int (i - j)) (tVar k) (tC (.int 1))) σ H (.int (x - 1)) := ev_op (ev_var hv) ev_c rv_I0
  have i2 := ev_op (r := rI CMul fun i j => .int (i * j)) (ev_var hv) i1 (rv_I (.inl (by omega)))
  have i3 := ev_op (r := rI CDiv fun i j => .int (i / j)) i2 (ev_c (v := .int 2)) (rv_I (by unfold CDiv; omega))
  refine ev_is i3 ?_
  have hs' : x = 2 ∨ x = 3 ∨ x = 4 ∨ x = 5 := by omega
  rcases hs' with rfl | rfl | rfl | rfl
  · rw [np_all.1] <;> rfl
  · rw [np_all.2.1] <;> rfl
  · rw [np_all.2.2.1] <;> rfl
  · rw [np_all.2.2.2] <;> rfl
abbrev s__law_is_load : Stmt := topS 46
abbrev N__law_is_load : List Str := ["sides_here", "item", "number"]
theorem sc__law_is_load : FnScope N__law_is_load ["sides_here", "item"] (defScope s__law_is_load) := ⟨rfl, rfl, rfl, by decide +kernel, rfl, by decide +kernel, by decide +kernel⟩
theorem ok__law_is_load {f : Addr} {fd : FuncData} (F : Fun K "_law_is_load" "_law_is_load" s__law_is_load f fd) (T : Txt mg)
    (D__law_is_whole : DF P w K mg base "_law_is_whole" 1 ["item"] (spD K 1 R_law_is_whole))  :
    FnOk P w K mg base CX0 2 f fd ["sides_here", "item"] (spD K 2 R_law_is_load) := by
  refine F.ok sc__law_is_load (fun vs H Q E h => spD_len h) (fun cdv A outer s H vs Q E hr h => ?_)
  obtain ⟨ds, r, hd, _, ⟨x, d, rfl, h1, h2, rfl⟩, k⟩ := h
  obtain ⟨v0, v1, rfl, d0, d1⟩ := dpa_two hd
  cases dp_int d0
  refine ⟨_, (pss_cons (ps_if (PW.pt (pw_or (pt_not (pt_val (pe_callB call_isi (by rfl) T.b_isinstance (by decide +kernel) (pa_cons (pv 1) (pa_cons (pe_bltn (v := .ty "tuple") (u := .type "tuple") (by rfl) T.b_tuple (by decide +kernel) rfl) pa_nil))))) (pw_or1 (pt_cmpR op_ne (pe_callB call_len_seq (by rfl) T.b_len PySem.boot_len (pa_cons (pv 1) pa_nil)) (pe_op op_fdiv (pe_op op_mul (pv 0) (pe_op op_sub (pv 0) pe_int)) pe_int) (nomark _))))) (pss_one (ps_ret pe_bl)) pss_nil)
      (pss_one (ps_ret (pe_cmpR (op_eqD (hu64 hr)) (pe_lc (own := [("number", 2)]) (g := (gName 2)) (tt := _) rfl sc__law_is_load.nd (pi_tup (pv 1)) (blkOk_by (N := N__law_is_load) (sc := defScope s__law_is_load) (by decide +kernel)) (fun _ _ _ _ _ => (pg_name (i := 2) sc__law_is_load.nd rfl (Or.inl rfl))) (fun _ _ _ _ _ => (pts_one (PW.pt (pw_or (pt_not (pt_val (pe_D D__law_is_whole (hr.mono (by decide)) (by rfl) (pa_cons (pv 2) pa_nil)))) (pw_or1 (pt_not (pt_chain op_le op_le pe_int (pv 2) pe_int))))))) (fun _ _ _ _ _ => pe_int)) (pe_lst pa_nil) (nomark _))))), ?_⟩
  have lp := lpr_len h1 h2
  have isT : EvT (tNot (tB (tCB (rIsi K) (tCons (tVar 1) (tCons (tC (.ty "tuple")) tNil))))) (L2.start N__law_is_load [.int x, v1]) H (!(isTup d).isSome) := et_not (et_B (ev_isiD (ed_var (v := v1) rfl d1) (kit_tuple d)))
  cases d with
  | tuple es =>
    refine q_when (b := !((isTup (.tuple es)).isSome) || !decide ((es.length : Int) = ((np x : Nat) : Int))) (et_or isT fun _ => et_test (ev_is (ev_op (ev_lenT (ed_var (v := v1) rfl d1)) (ev_pairs rfl h1 h2) (rv_ne rfl)) (by rw [decide_vint]))) (fun hb H1 e1 => ?_) fun hb H1 e1 => ?_
    · have n : ¬ es.length = np x := fun z => by
        have hb : (false || !decide ((es.length : Int) = ((np x : Nat) : Int))) = true := hb
        rw [z] at hb
        simp at hb
      have lo : ldOk x (.tuple es) = false := by
        show (decide (es.length = np x) && _) = false
        rw [decide_eq_false n]
        rfl
      rw [lo] at k
      exact d_ret (K := K) (ed_bool ev_c) fun v H2 e2 hv => k v H2 (e1.trans e2) hv
    · have len : es.length = np x := by
        have hb : (false || !decide ((es.length : Int) = ((np x : Nat) : Int))) = false := hb
        simp at hb
        omega
      have lo : ldOk x (.tuple es) = es.all (fun e => isIn e 0 99) := by
        show (decide (es.length = np x) && _) = _
        rw [decide_eq_true len]
        rfl
      rw [lo] at k
      have d1 := dp_ex e1 _ _ d1
      refine d_ret (K := K) (ed_bool (ev_is (ev_eqD (EvN.toD (en_lcB (K := K) (ei_tupD (ed_var (v := v1) rfl d1)) (by omega) (fun i => !isIn (es.getD i .none) 0 99) (fun _ => 1) fun H2 i d y Hb Q' e2 hg e3 hy kk => ?_)) (EvN.toD (en_lst (ds := []) eda_nil (by simp))) (shaped_dI _) (shaped_dI [])) (by rw [eqv_nil, filt_nil]))) fun v H2 e2 hv => k v H2 (e1.trans e2) hv
      have gd : es.getD i .none = d := by rw [List.getD_eq_getElem?_getD, hg]; rfl
      refine kk _ Hb (Ex.refl _) rfl ?_ ev_c
      rw [gd]
      cases d with
      | int n =>
        cases dp_int hy
        refine et_is (et_or (b := !(decide (0 ≤ n) && decide (n ≤ 99))) (et_not (et_B (EvD.bool (ed_call (R := R_law_is_whole) (ds := [.int n]) (by walk_at "dl") rfl ⟨_, rfl, rfl⟩)))) fun _ => et_not (et_test (ev_chain ev_c (ev_var rfl) ev_c))) rfl
      | _ => exact et_is (et_or (b := true) (et_not (et_B (EvD.bool (ed_call (R := R_law_is_whole) (eda_cons (ed_var rfl hy) eda_nil) rfl ⟨_, rfl, rfl⟩)))) fun z => nomatch z) rfl
  | _ => exact q_when (b := true) (et_is (et_or (b := true) isT fun z => nomatch z) rfl) (fun _ H1 e1 => d_ret (K := K) (ed_bool ev_c) fun v H2 e2 hv => k v H2 (e1.trans e2) hv) fun z => nomatch z

def R_law_sums (ds : List PyData) (r : List PyData) : Prop := ∃ (s : Int) (l : List Int), ds = [.int s, tI l] ∧ 2 ≤ s ∧ s ≤ 5 ∧ l.length = np s ∧ r = dI (sms s l)
abbrev s__law_sums : Stmt := topS 48
abbrev N__law_sums : List Str := ["sides_here", "load", "found", "side", "number", "pair"]
theorem sc__law_sums : FnScope N__law_sums ["sides_here", "load"] (defScope s__law_sums) := ⟨rfl, rfl, rfl, by decide +kernel, rfl, by decide +kernel, by decide +kernel⟩
theorem ok__law_sums {f : Addr} {fd : FuncData} (F : Fun K "_law_sums" "_law_sums" s__law_sums f fd) (T : Txt mg)
    (D__law_pairs : DF P w K mg base "_law_pairs" 1 ["sides_here"] (spN K 1 R_law_pairs))  :
    FnOk P w K mg base CX0 2 f fd ["sides_here", "load"] (spN K 2 R_law_sums) := by
  refine F.ok sc__law_sums (fun vs H Q E h => spN_len h) (fun cdv A outer s H vs Q E hr h => ?_)
  obtain ⟨ds, r, hd, _, ⟨s, l, rfl, h1, h2, hl, rfl⟩, k⟩ := h
  obtain ⟨v0, v1, rfl, d0, d1⟩ := dpa_two hd
  cases dp_int d0
  refine ⟨_, (pss_cons (ps_set (i := 2) sc__law_sums.nd rfl (.inl rfl) (pe_lst pa_nil))
      (pss_cons (ps_for PassesOwn.never rfl (pi_range1 (by rfl) T.b_range (pa_cons (pv 0) pa_nil)) (pg_name (i := 3) sc__law_sums.nd rfl (Or.inr rfl)) (pss_one (ps_expr (pe_bm PySem.F.plainAttrs_list PySem.F.slot_list_append PySem.F.type_list_append mt_append (pv 2) (pa_cons (pe_callB (cr_sum rfl) (by rfl) T.b_sum (by decide +kernel) (pa_cons (pe_lc (own := [("number", 4), ("pair", 5)]) (g := (gTup K 2 (gCons (gName 4) (gCons (gName 5) gNil)))) (tt := _) rfl sc__law_sums.nd (pi_zipM true false (by rfl) T.b_zip (pa_cons (pv 1) (pa_cons (pe_D D__law_pairs (hr.mono (by decide)) (by rfl) (pa_cons (pv 0) pa_nil)) pa_nil))) (blkOk_by (N := N__law_sums) (sc := defScope s__law_sums) (by decide +kernel)) (fun _ _ _ _ _ => (pg_tup rfl (pgs_cons (pg_name (i := 4) sc__law_sums.nd rfl (Or.inl rfl)) (pgs_cons (pg_name (i := 5) sc__law_sums.nd rfl (Or.inl rfl)) pgs_nil)))) (fun _ _ _ _ _ => (pts_one (pt_cmpR (op_inK K rfl) (pv 3) (pv 5) (by rfl)))) (fun _ _ _ _ _ => (pv 4))) pa_nil)) pa_nil)))))
      (pss_one (ps_ret (pv 2))))), ?_⟩
  have len := sms_len s l
  have lp := lpr_len h1 h2
  refine qn_asg (K := K) (en_lst eda_nil (by simp)) fun p vs H1 hp e1 h1' hd1 => ?_
  cases hd1
  have d1 := dp_ex e1 _ _ d1
  refine e_for (K := K) (S := [p]) (ei_rng1 (n := s) (by walk_at "dl") (by omega)) (fun H2 i σ' Ha => Xp [p] H2 Ha ∧ Ha p = some (.lst (((sms s l).take i).map V.int)) ∧ ∃ a b c, σ' = [some (.int s), some v1, some (.ref p), a, b, c])
    (fun H2 e2 => ⟨Xp.refl _ _, by simpa using e2 _ _ h1', none, none, none, rfl⟩) (fun H2 i σ' Ha _ q => q.1) ?_ ?_
  · rintro H2 i d y σ' Ha Hb e2 hg ⟨p1, p2, a, b, c, rfl⟩ e3 hy
    have hlt : i < s.toNat := by have := (List.getElem?_eq_some_iff.mp hg).1; simpa using this
    rw [rng_get hlt] at hg
    cases hg
    cases hy
    have at1 := e3 _ _ p2
    have tx : Tx H1 Hb := ((Tx.of_ex e2).trans (p1.tx (Ls.one (e2 _ _ h1')))).trans (Tx.of_ex e3)
    have d1 := dp_tx tx _ _ (imm_tI _) d1
    show tDrop _ _ [some (.int s), some v1, some (.ref p), some (.int (i : Int)), b, c] Hb
    have zl : (List.zipWith (fun x y => PyData.tuple [x, y]) (dI l) (lpr s)).length = np s := by rw [List.length_zipWith, List.length_map, hl, lp.1, Nat.min_self]
    have key : EvN K (tLc (iZipM K true false (tCons (tVar 1) (tCons (tCall (spN K 1 R_law_pairs) [] E0 (tCons (tVar 0) tNil)) tNil))) (gTup K 2 (gCons (gName 4) (gCons (gName 5) gNil))) (tTest (tOp (rIn K false) (tVar 3) (tVar 5))) (tVar 4) [4, 5]) [some (.int s), some v1, some (.ref p), some (.int (i : Int)), b, c] Hb (dI (((List.range (np s)).filter fun j => decide ((i : Int) ∈ [((prs s).getD j (0, 0)).1, ((prs s).getD j (0, 0)).2])).map fun j => l.getD j 0)) := by
      rw [← zl]
      refine en_lcB (ei_zipG (t := true) (u := false) (ds := dI l) (es := lpr s) (ed_var (v := v1) rfl d1) (EvN.toD (en_call (R := R_law_pairs) (ds := [.int s]) (by walk_at "dl") rfl ⟨s, rfl, h1, h2, rfl⟩))) (by have := lp.2; omega) (fun j => decide ((i : Int) ∈ [((prs s).getD j (0, 0)).1, ((prs s).getD j (0, 0)).2])) (fun j => l.getD j 0) fun H2 j d x Hb Q' e2 hg e3 hx kk => ?_
      have hj : j < np s := by have := (List.getElem?_eq_some_iff.mp hg).1; omega
      rw [lpr_prs, List.getElem?_zipWith, List.getElem?_map, List.getElem?_map, List.getElem?_eq_getElem (show j < l.length by rw [hl]; exact hj), List.getElem?_eq_getElem (show j < (prs s).length from hj)] at hg
      cases hg
      refine g_two hx fun w1 w2 u1 u2 => ?_
      cases dp_int u1
      have gl : l.getD j 0 = l[j]'(by rw [hl]; exact hj) := by rw [List.getD_eq_getElem?_getD, List.getElem?_eq_getElem (show j < l.length by rw [hl]; exact hj)]; rfl
      have gp : (prs s).getD j (0, 0) = (prs s)[j]'hj := by rw [List.getD_eq_getElem?_getD, List.getElem?_eq_getElem (show j < (prs s).length from hj)]; rfl
      refine kk _ Hb (Ex.refl _) rfl ?_ ?_
      · rw [gp]
        exact et_test (ev_inT (ev_var rfl) (ed_var (v := w2) rfl u2))
      · rw [gl]
        exact ev_var rfl
    refine d_app (K := K) (d := .int ((sms s l).getD i 0)) at1 (ev_var rfl) (ed_int ?_) (by rw [List.length_map, List.length_take]; omega) fun v H3 e4 hv => ?_
    · rw [← fsum_side h1 h2 hl hlt]
      exact ev_sumL (EvN.toD key)
    · cases dp_int hv
      have g : (sms s l)[i]? = some ((sms s l).getD i 0) := by rw [List.getD_eq_getElem?_getD, List.getElem?_eq_getElem (by omega)]; rfl
      refine ⟨Xp.upd ((p1.then e3).then e4) (by simp), ?_, _, _, _, rfl⟩
      rw [upd_same, List.take_succ, g]
      simp
  · rintro H2 σ' Ha e2 ⟨p1, p2, a, b, c, rfl⟩
    have e0 : Ex H Ha := xp_fresh (e1.trans e2) p1 hp
    rw [List.length_map, List.length_range, List.take_of_length_le (by omega)] at p2
    exact ⟨.ref p, rfl, k p _ Ha hp e0 p2 (ints_dpa _)⟩

end
end K16
set_option Elab.async false
set_option linter.all false
set_option maxRecDepth 100000
set_option maxHeartbeats 4000000
namespace K16
open PySem PySem.Spec PyProof.Rows L2 Evl DL
local macro_rules | `(tactic| walk_at "dl") => `(tactic| first
  | exact ev_c | exact ev_var rfl | exact eda_nil
  | exact ed_var rfl (by assumption)
  | exact ed_int ev_c | exact ed_int (ev_var rfl)
  | (refine eda_cons ?_ ?_ <;> walk_at "dl")
  | (refine ed_int ?_; walk_at "dl")
  | (refine ev_op ?_ ?_ rv_I0 <;> walk_at "dl"))

theorem alike_dI : ∀ a b : List Int, PySem.W.alikeAll (dI a) (dI b) = true
  | [], _ => by simp [PySem.W.alikeAll]
  | _ :: _, [] => by simp [PySem.W.alikeAll]
  | x :: a, y :: b => by
    have h := alike_dI a b
    rw [dI] at h
    simp only [dI, List.map_cons, PySem.W.alikeAll, PySem.W.alike, Bool.true_and]
    exact h
theorem row_tI {ls : List (List Int)} (hl : ls.length ≤ 1000) : Row (ls.map tI) := by
  refine ⟨PySem.W.AllAlike.of fun a b => ?_, fun x hx => ?_, by rw [List.length_map]; exact hl⟩
  · show PySem.W.alike (.tuple (dI a)) (.tuple (dI b)) = true
    rw [PySem.W.alike]
    exact alike_dI a b
  · obtain ⟨l, _, rfl⟩ := List.mem_map.mp hx
    refine ⟨fun z => (nomatch z), ?_⟩
    have := depth_ints l
    show (PyData.tuple (dI l)).depth ≤ 50
    rw [PyData.depth]
    omega
section
variable {P : Program} {w : World} {K : PySem.W.Frag} {mg : Str → Option Value} {base : Heap}
abbrev s_is_frame_of : Stmt := topS 28
abbrev N_is_frame_of : List Str := ["sides", "thing", "load"]
theorem sc_is_frame_of : FnScope N_is_frame_of ["sides", "thing"] (defScope s_is_frame_of) := ⟨rfl, rfl, rfl, by decide +kernel, rfl, by decide +kernel, by decide +kernel⟩
theorem ok_is_frame_of {f : Addr} {fd : FuncData} (F : Fun K "is_frame_of" "is_frame_of" s_is_frame_of f fd) (T : Txt mg)
    (D_is_load_of : DF P w K mg base "is_load_of" 2 ["sides", "thing"] (spJ K Any ldOk)) (D_rises : DF P w K mg base "rises" 1 ["row"] (spD K 1 R_rises)) (D_are_apart : DF P w K mg base "are_apart" 3 ["loads"] (spD K 1 R_are_apart))  :
    FnOk P w K mg base CX0 4 f fd ["sides", "thing"] (spJp K small frB) := by
  refine F.ok sc_is_frame_of (fun vs H Q E h => by obtain ⟨_, _, _, rfl, _⟩ := h; rfl) (fun cdv A outer s H vs Q E hr h => ?_)
  obtain ⟨x, v1, d, rfl, h1, h2, hd, sm, k⟩ := h
  refine ⟨_, (pss_cons (ps_if (PW.pt (pw_or (pt_not (pt_val (pe_callB call_isi (by rfl) T.b_isinstance (by decide +kernel) (pa_cons (pv 1) (pa_cons (pe_bltn (v := .ty "tuple") (u := .type "tuple") (by rfl) T.b_tuple (by decide +kernel) rfl) pa_nil))))) (pw_or1 (pt_cmpR op_eq (pe_callB call_len_seq (by rfl) T.b_len PySem.boot_len (pa_cons (pv 1) pa_nil)) pe_int (nomark _))))) (pss_one (ps_ret pe_bl)) pss_nil)
      (pss_cons (ps_for PassesOwn.never rfl (pi_tup (pv 1)) (pg_name (i := 2) sc_is_frame_of.nd rfl (Or.inl rfl)) (pss_one (ps_if (pt_not (pt_val (pe_D D_is_load_of (hr.mono (by decide)) (by rfl) (pa_cons (pv 0) (pa_cons (pv 2) pa_nil))))) (pss_one (ps_ret pe_bl)) pss_nil)))
      (pss_one (ps_ret (pe_and (pe_D D_rises (hr.mono (by decide)) (by rfl) (pa_cons (pv 1) pa_nil)) (pe_one (pe_D D_are_apart (hr.mono (by decide)) (by rfl) (pa_cons (pv 1) pa_nil)))))))), ?_⟩
  cases d with
  | tuple ds =>
    have sm : ds.length ≤ 500 := sm
    refine q_when (b := decide (ds.length = 0)) (et_is (et_or (a := false) (b := decide (ds.length = 0)) (et_not (a := true) (et_B (ev_isiD (K := K) (ed_var rfl hd) (kit_tuple _)))) fun _ => et_test (ev_is (ev_op (ev_lenT (K := K) (ed_var (v := v1) rfl hd)) ev_c (rv_eq rfl)) (by rw [decide_vint]; simp))) (by simp)) (fun hb H1 e1 => ?_) (fun hb H1 e1 => ?_)
    · have : ds = [] := List.eq_nil_of_length_eq_zero (of_decide_eq_true hb)
      subst this
      exact s_ret ev_c fun H2 e2 => k H2 (e1.trans e2)
    · have ne : ds ≠ [] := fun z => of_decide_eq_false hb (by rw [z]; rfl)
      have em : (!ds.isEmpty) = true := by cases ds <;> first | exact absurd rfl ne | rfl
      have fr : frB x (.tuple ds) = (ds.all (ldOk x) && (risesD ds && apD ds)) := by
        show (!ds.isEmpty && _) = _
        rw [em, Bool.true_and]
      rw [fr] at k
      refine e_for (ei_tupD (K := K) (ed_var (v := v1) rfl (dp_ex e1 _ _ hd))) (fun H2 i σ' Ha => Ex H2 Ha ∧ (∀ j, j < i → ∀ e, ds[j]? = some e → ldOk x e = true) ∧ ∃ y, σ' = [some (.int x), some v1, y]) (fun H2 e2 => ⟨Ex.refl _, fun j hj => absurd hj (by omega), none, rfl⟩) (fun H2 i σ' Ha _ p => Xp.of_ex p.1) ?_ ?_
      · rintro H2 i e y σ' Ha Hb e2 he ⟨p1, pn, z, rfl⟩ e3 hy
        refine s_when (b := !ldOk x e) (et_not (et_B (ev_J (S := Any) (ev_var rfl) (ed_var (v := y) rfl hy) h1 h2 trivial))) (fun hn H4 e4 => ?_) fun hn H4 e4 => ?_
        · have hn : ldOk x e = false := by simpa using hn
          have al : ds.all (ldOk x) = false := List.all_eq_false.mpr ⟨e, List.mem_of_getElem? he, by rw [hn]; simp⟩
          rw [al, Bool.false_and] at k
          exact s_ret ev_c fun H5 e5 => k H5 ((((e1.trans e2).trans p1).trans e3).trans (e4.trans e5))
        · refine ⟨(p1.trans e3).trans e4, fun j hj e' he' => ?_, _, rfl⟩
          by_cases ej : j = i
          · subst ej
            rw [he] at he'
            cases he'
            simpa using hn
          · exact pn j (by omega) e' he'
      · rintro H2 σ' Ha e2 ⟨p1, pn, z, rfl⟩
        have al : ds.all (ldOk x) = true := List.all_eq_true.mpr fun e he => by
          obtain ⟨j, hj, rfl⟩ := List.getElem_of_mem he
          exact pn j hj _ (List.getElem?_eq_getElem hj)
        rw [al, Bool.true_and] at k
        obtain ⟨ls, rfl, hls⟩ := lds_of al
        have ap : apD (ls.map tI) = apart ls := by unfold apD; rw [intsOf_map]
        rw [ap] at k
        rw [List.length_map] at sm
        have hv := dp_ex ((e1.trans e2).trans p1) _ _ hd
        refine s_ret (v := .bl (risesD (ls.map tI) && apart ls)) (ev_andV (EvD.bool (ed_call (K := K) (R := R_rises) (ds := [.tuple (ls.map tI)]) (eda_cons (ed_var (v := v1) rfl hv) eda_nil) rfl ⟨_, rfl, row_tI (by omega), rfl⟩)) fun _ => EvD.bool (ed_call (K := K) (R := R_are_apart) (ds := [.tuple (ls.map tI)]) (eda_cons (ed_var (v := v1) rfl hv) eda_nil) rfl ⟨np x, ls, rfl, fun z => ne (by rw [z]; rfl), (np_le h1 h2).2, fun l hl => ⟨(hls l hl).1, (hls l hl).2⟩, sm, rfl⟩)) fun H3 e3 => k H3 (((e1.trans e2).trans p1).trans e3)
  | _ =>
    refine q_when (b := true) (et_or (a := true) (b := false) (et_not (a := false) (et_B (ev_isiD (K := K) (ed_var rfl hd) (kit_tuple _)))) fun z => nomatch z) (fun _ H1 e1 => ?_) fun z => nomatch z
    exact s_ret ev_c fun H2 e2 => k H2 (e1.trans e2)

theorem ok_is_frame_ofX {f : Addr} {fd : FuncData} (F : Fun K "is_frame_of" "is_frame_of" s_is_frame_of f fd) (T : Txt mg)
    (D_is_load_of : DF P w K mg base "is_load_of" 2 ["sides", "thing"] (spJ K Any ldOk)) (D_rises : DF P w K mg base "rises" 1 ["row"] (spD K 1 R_rises)) (D_are_apart : DF P w K mg base "are_apart" 3 ["loads"] (spD K 1 R_are_apart)) :
    FnOk P w K mg base CX0 4 f fd ["sides", "thing"] (spJd frB) := by
  refine F.ok sc_is_frame_of (fun vs H Q E h => by obtain ⟨_, _, rfl, _⟩ := h; rfl) (fun cdv A outer s H vs Q E hr h => ?_)
  obtain ⟨x, v1, rfl, h1, h2, hd, k⟩ := h
  refine ⟨_, (pss_cons (ps_if (PW.pt (pw_or (pt_not (pt_val (pe_callB call_isi (by rfl) T.b_isinstance (by decide +kernel) (pa_cons (pv 1) (pa_cons (pe_bltn (v := .ty "tuple") (u := .type "tuple") (by rfl) T.b_tuple (by decide +kernel) rfl) pa_nil))))) (pw_or1 (pt_cmpR op_eq (pe_callB call_len_seq (by rfl) T.b_len PySem.boot_len (pa_cons (pv 1) pa_nil)) pe_int (nomark _))))) (pss_one (ps_ret pe_bl)) pss_nil)
      (pss_cons (ps_for PassesOwn.never rfl (pi_tup (pv 1)) (pg_name (i := 2) sc_is_frame_of.nd rfl (Or.inl rfl)) (pss_one (ps_if (pt_not (pt_val (pe_D D_is_load_of (hr.mono (by decide)) (by rfl) (pa_cons (pv 0) (pa_cons (pv 2) pa_nil))))) (pss_one (ps_ret pe_bl)) pss_nil)))
      (pss_one (ps_ret (pe_and (pe_D D_rises (hr.mono (by decide)) (by rfl) (pa_cons (pv 1) pa_nil)) (pe_one (pe_D D_are_apart (hr.mono (by decide)) (by rfl) (pa_cons (pv 1) pa_nil)))))))), ?_⟩
  refine q_when (b := true) (et_or (a := true) (b := false) (et_not (a := false) (et_B (ev_isTd rfl hd))) fun z => nomatch z) (fun _ H1 e1 => ?_) fun z => nomatch z
  exact s_ret ev_c fun H2 e2 => k H2 (e1.trans e2)

theorem ok_is_frame_ofJ {f : Addr} {fd : FuncData} (F : Fun K "is_frame_of" "is_frame_of" s_is_frame_of f fd) (T : Txt mg) (D_is_load_of : DF P w K mg base "is_load_of" 2 ["sides", "thing"] (spJ K Any ldOk)) (D_rises : DF P w K mg base "rises" 1 ["row"] (spD K 1 R_rises)) (D_are_apart : DF P w K mg base "are_apart" 3 ["loads"] (spD K 1 R_are_apart)) :
    FnOk P w K mg base CX0 4 f fd ["sides", "thing"] (spJ K small frB) := fn_J (ok_is_frame_of F T D_is_load_of D_rises D_are_apart) (ok_is_frame_ofX F T D_is_load_of D_rises D_are_apart) frB_dict
end
end K16
set_option Elab.async false
set_option linter.all false
set_option maxRecDepth 100000
set_option maxHeartbeats 4000000
/-! the greatest of some loads: their order, in Lean -/
namespace K16
open PySem PySem.Spec PyProof.Rows L2 Evl DL
/-- a load's place in the order -/
abbrev cdL (l : List Int) : Int := TS.code 100 l
theorem lds_bd {n : Nat} {l : List Int} (h : Lds n l) : TS.Bd 100 l := fun m hm => by
  have := h.2 m hm
  omega
theorem lds_tl {n : Nat} {x : Int} {l : List Int} (h : Lds (n + 1) (x :: l)) : Lds n l := ⟨by have := h.1; simpa using this, fun m hm => h.2 m (List.mem_cons_of_mem _ hm)⟩
theorem code_eqD {a b : List Int} {d : Int} (hl : a.length = b.length) : TS.code 100 (d :: a) = TS.code 100 (d :: b) ↔ TS.code 100 a = TS.code 100 b := by
  show d * 100 ^ a.length + TS.code 100 a = d * 100 ^ b.length + TS.code 100 b ↔ _
  rw [hl]
  omega
theorem cd_inj : ∀ {n : Nat} {a b : List Int}, Lds n a → Lds n b → cdL a = cdL b → a = b
  | 0, a, b, ha, hb, _ => by
    rw [List.eq_nil_of_length_eq_zero ha.1, List.eq_nil_of_length_eq_zero hb.1]
  | n + 1, [], _, ha, _, _ => by have := ha.1; cases this
  | n + 1, _ :: _, [], _, hb, _ => by have := hb.1; cases this
  | n + 1, x :: a, y :: b, ha, hb, h => by
    have la := lds_tl ha
    have lb := lds_tl hb
    have len : a.length = b.length := la.1.trans lb.1.symm
    have h : TS.code 100 (x :: a) = TS.code 100 (y :: b) := h
    rcases Int.lt_trichotomy x y with q | q | q
    · have := TS.code_lt len (lds_bd la) (lds_bd lb) q
      omega
    · subst q
      rw [cd_inj la lb ((code_eqD len).mp h)]
    · have := TS.code_lt len.symm (lds_bd lb) (lds_bd la) q
      omega
theorem cd_lt : ∀ {n : Nat} {a b : List Int}, Lds n a → Lds n b → (a < b ↔ cdL a < cdL b)
  | 0, a, b, ha, hb => by
    rw [List.eq_nil_of_length_eq_zero ha.1, List.eq_nil_of_length_eq_zero hb.1]
    exact ⟨fun h => absurd h (List.lt_irrefl _), fun h => absurd h (Int.lt_irrefl _)⟩
  | n + 1, [], _, ha, _ => by have := ha.1; cases this
  | n + 1, _ :: _, [], _, hb => by have := hb.1; cases this
  | n + 1, x :: a, y :: b, ha, hb => by
    have la := lds_tl ha
    have lb := lds_tl hb
    have len : a.length = b.length := la.1.trans lb.1.symm
    rw [List.cons_lt_cons_iff, cd_lt la lb]
    show _ ↔ TS.code 100 (x :: a) < TS.code 100 (y :: b)
    rcases Int.lt_trichotomy x y with q | q | q
    · exact ⟨fun _ => TS.code_lt len (lds_bd la) (lds_bd lb) q, fun _ => .inl q⟩
    · subst q
      rw [TS.code_same len]
      exact ⟨fun h => h.elim (fun z => absurd z (Int.lt_irrefl _)) (·.2), fun h => .inr ⟨rfl, h⟩⟩
    · have := TS.code_lt len.symm (lds_bd lb) (lds_bd la) q
      exact ⟨fun h => by rcases h with h | h <;> omega, fun h => by omega⟩
theorem lt_tI {n : Nat} {a b : List Int} (ha : Lds n a) (hb : Lds n b) : PySem.W.dataLt (tI a) (tI b) = decide (cdL a < cdL b) := by
  have e : PySem.W.dataLt (tI a) (tI b) = decide (a < b) := (PySem.W.dataLt_tuple _ _).trans (PySem.W.dataLt_ints a b)
  rw [e]
  exact decide_eq_decide.mpr (cd_lt ha hb)
/-- two lists that rise and hold the same are the same -/
theorem strict_eq {α : Type} {f : α → Int} : ∀ {a b : List α}, a.Pairwise (fun x y => f x < f y) → b.Pairwise (fun x y => f x < f y) → (∀ x, x ∈ a ↔ x ∈ b) → a = b
  | [], [], _, _, _ => rfl
  | [], y :: b, _, _, h => absurd ((h y).mpr List.mem_cons_self) (by simp)
  | x :: a, [], _, _, h => absurd ((h x).mp List.mem_cons_self) (by simp)
  | x :: a, y :: b, ha, hb, h => by
    obtain ⟨ax, ha'⟩ := List.pairwise_cons.mp ha
    obtain ⟨ay, hb'⟩ := List.pairwise_cons.mp hb
    have e : x = y := by
      rcases List.mem_cons.mp ((h x).mp List.mem_cons_self) with e | hx
      · exact e
      · rcases List.mem_cons.mp ((h y).mpr List.mem_cons_self) with e | hy
        · exact e.symm
        · have := ax y hy
          have := ay x hx
          omega
    subst e
    refine congrArg (x :: ·) (strict_eq ha' hb' fun z => ?_)
    constructor
    · intro hz
      rcases List.mem_cons.mp ((h z).mp (List.mem_cons_of_mem _ hz)) with e | q
      · subst e
        have := ax z hz
        omega
      · exact q
    · intro hz
      rcases List.mem_cons.mp ((h z).mpr (List.mem_cons_of_mem _ hz)) with e | q
      · subst e
        have := ay z hz
        omega
      · exact q
abbrev Rise (ls : List (List Int)) : Prop := ls.Pairwise fun a b => cdL a < cdL b
theorem adj_pair {f : List Int → Int} : ∀ {ls : List (List Int)}, (∀ i a b, ls[i]? = some a → ls[i + 1]? = some b → f a < f b) → ls.Pairwise fun a b => f a < f b
  | [], _ => .nil
  | [_], _ => List.pairwise_singleton _ _
  | x :: y :: l, h => by
    have t := adj_pair (ls := y :: l) fun i a b ha hb => h (i + 1) a b ha hb
    have xy := h 0 x y rfl rfl
    refine List.pairwise_cons.mpr ⟨fun z hz => ?_, t⟩
    rcases List.mem_cons.mp hz with e | hz
    · rw [e]; exact xy
    · have := (List.pairwise_cons.mp t).1 z hz
      omega
theorem rises_iff {n : Nat} {ls : List (List Int)} (h : ∀ l ∈ ls, Lds n l) : risesD (ls.map tI) = true ↔ Rise ls := by
  constructor
  · intro hr
    refine adj_pair fun i a b ha hb => ?_
    have la := h a (List.mem_of_getElem? ha)
    have lb := h b (List.mem_of_getElem? hb)
    have := lt_tI la lb
    by_cases q : cdL a < cdL b
    · exact q
    · rw [decide_eq_false q] at this
      rw [rises_no (i := i) (a := tI a) (b := tI b) (by rw [List.getElem?_map, ha]; rfl) (by rw [List.getElem?_map, hb]; rfl) this] at hr
      cases hr
  · intro hr
    refine rises_yes fun i a b ha hb => ?_
    rw [List.getElem?_map] at ha hb
    cases ea : ls[i]? with
    | none => rw [ea] at ha; cases ha
    | some x =>
      cases eb : ls[i + 1]? with
      | none => rw [eb] at hb; cases hb
      | some y =>
        rw [ea] at ha
        rw [eb] at hb
        cases ha
        cases hb
        rw [lt_tI (h x (List.mem_of_getElem? ea)) (h y (List.mem_of_getElem? eb))]
        obtain ⟨hi, e1⟩ := List.getElem?_eq_some_iff.mp ea
        obtain ⟨hj, e2⟩ := List.getElem?_eq_some_iff.mp eb
        subst e1 e2
        exact decide_eq_true (List.pairwise_iff_getElem.mp hr i (i + 1) hi hj (by omega))
/-- without doubles -/
def ddp : List (List Int) → List (List Int)
  | [] => []
  | x :: l => if x ∈ ddp l then ddp l else x :: ddp l
theorem ddp_mem {x : List Int} : ∀ {l : List (List Int)}, x ∈ ddp l ↔ x ∈ l
  | [] => Iff.rfl
  | y :: l => by
    unfold ddp
    split
    · rename_i h
      rw [ddp_mem, List.mem_cons]
      exact ⟨.inr, fun q => q.elim (fun e => by rw [e]; exact ddp_mem.mp h) id⟩
    · rw [List.mem_cons, List.mem_cons, ddp_mem]
theorem ddp_nodup : ∀ (l : List (List Int)), (ddp l).Nodup
  | [] => .nil
  | y :: l => by
    unfold ddp
    split
    · exact ddp_nodup l
    · rename_i h
      exact List.nodup_cons.mpr ⟨h, ddp_nodup l⟩
theorem ddp_len : ∀ (l : List (List Int)), (ddp l).length ≤ l.length
  | [] => Nat.le_refl _
  | y :: l => by
    have := ddp_len l
    unfold ddp
    split
    · rw [List.length_cons]; omega
    · rw [List.length_cons, List.length_cons]; omega
/-- sorted(set(ls)) -/
def sdd (ls : List (List Int)) : List (List Int) := (ddp ls).mergeSort fun a b => decide (cdL a ≤ cdL b)
theorem sdd_mem {ls : List (List Int)} {x : List Int} : x ∈ sdd ls ↔ x ∈ ls := by
  unfold sdd
  rw [List.mem_mergeSort, ddp_mem]
theorem strict_of {n : Nat} {ms : List (List Int)} (h : ∀ l ∈ ms, Lds n l) (nd : ms.Nodup) (pw : ms.Pairwise fun a b => cdL a ≤ cdL b) : Rise ms := by
  have nd : ms.Pairwise (· ≠ ·) := nd
  have both := List.Pairwise.and nd pw
  refine List.Pairwise.imp_of_mem (fun {a b} ha hb q => ?_) both
  have : cdL a ≠ cdL b := fun e => q.1 (cd_inj (h a ha) (h b hb) e)
  have := q.2
  omega
theorem sdd_rise {n : Nat} {ls : List (List Int)} (h : ∀ l ∈ ls, Lds n l) : Rise (sdd ls) := by
  refine strict_of (n := n) (fun l hl => h l (sdd_mem.mp hl)) ?_ ?_
  · unfold sdd
    exact (List.mergeSort_perm _ _).nodup_iff.mpr (ddp_nodup ls)
  · have s := List.pairwise_mergeSort (le := fun a b : List Int => decide (cdL a ≤ cdL b)) (fun a b c x y => by simp only [decide_eq_true_eq] at *; omega) (fun a b => by simp only [Bool.or_eq_true, decide_eq_true_eq]; omega) (ddp ls)
    exact s.imp fun h => of_decide_eq_true h
theorem sdd_uniq {n : Nat} {ls ms : List (List Int)} (h : ∀ l ∈ ls, Lds n l) (nd : ms.Nodup) (pw : ms.Pairwise fun a b => cdL a ≤ cdL b) (hm : ∀ x, x ∈ ms ↔ x ∈ ls) : ms = sdd ls :=
  strict_eq (strict_of (n := n) (fun l hl => h l ((hm l).mp hl)) nd pw) (sdd_rise h) fun x => (hm x).trans sdd_mem.symm
/-- the greatest ones -/
def topF (ls : List (List Int)) : List (List Int) := (sdd ls).filter fun a => !((sdd ls).any fun b => decide (b ≠ a) && blw a b)
theorem topF_sub {ls : List (List Int)} {x : List Int} (h : x ∈ topF ls) : x ∈ ls := sdd_mem.mp (List.mem_filter.mp h).1
theorem blw_sum : ∀ {a b : List Int}, a.length = b.length → blw a b = true → a.sum ≤ b.sum ∧ (a ≠ b → a.sum < b.sum)
  | [], [], _, _ => ⟨Int.le_refl _, fun h => absurd rfl h⟩
  | [], _ :: _, h, _ => by cases h
  | _ :: _, [], h, _ => by cases h
  | x :: a, y :: b, hl, h => by
    have h : (decide (x ≤ y) && blw a b) = true := h
    rw [Bool.and_eq_true, decide_eq_true_eq] at h
    obtain ⟨p, q⟩ := blw_sum (a := a) (b := b) (by simpa using hl) h.2
    rw [List.sum_cons, List.sum_cons]
    refine ⟨by omega, fun ne => ?_⟩
    by_cases e : x = y
    · subst e
      have := q fun z => ne (by rw [z])
      omega
    · omega
theorem top_frame {n : Nat} {ls : List (List Int)} (h : ∀ l ∈ ls, Lds n l) : decide (topF ls = ls) = (risesD (ls.map tI) && apart ls) := by
  rw [Bool.eq_iff_iff, decide_eq_true_eq, Bool.and_eq_true, rises_iff h]
  have keep : Rise ls → sdd ls = ls := fun r => strict_eq (sdd_rise h) r fun x => sdd_mem
  constructor
  · intro e
    have r : Rise ls := by
      rw [← e]
      exact (sdd_rise h).sublist List.filter_sublist
    refine ⟨r, decide_eq_true fun a ha b hb hs => ?_⟩
    rw [← e] at ha
    have q := (List.mem_filter.mp ha).2
    rw [keep r] at q
    rw [Bool.not_eq_true', List.any_eq_false] at q
    have := q b hb
    have ne : b ≠ a := fun z => by rw [z] at hs; omega
    rw [decide_eq_true ne, Bool.true_and] at this
    simpa using this
  · rintro ⟨r, ap⟩
    have ap := of_decide_eq_true ap
    unfold topF
    rw [keep r, List.filter_eq_self]
    intro a ha
    rw [Bool.not_eq_true', List.any_eq_false]
    intro b hb q
    rw [Bool.and_eq_true, decide_eq_true_eq] at q
    have s := (blw_sum ((h a ha).1.trans (h b hb).1.symm) q.2).2 q.1.symm
    rw [ap a ha b hb s] at q
    cases q.2
/-- of some loads one is greatest -/
theorem max_in : ∀ {ls : List (List Int)}, ls ≠ [] → ∃ m ∈ ls, ∀ x ∈ ls, x.sum ≤ m.sum
  | [], h => absurd rfl h
  | [a], _ => ⟨a, List.mem_singleton_self _, fun x hx => by rw [List.mem_singleton.mp hx]; exact Int.le_refl _⟩
  | a :: b :: l, _ => by
    obtain ⟨m, hm, q⟩ := max_in (ls := b :: l) (by simp)
    by_cases c : m.sum ≤ a.sum
    · refine ⟨a, List.mem_cons_self, fun x hx => ?_⟩
      rcases List.mem_cons.mp hx with e | hx
      · rw [e]; exact Int.le_refl _
      · exact Int.le_trans (q x hx) c
    · refine ⟨m, List.mem_cons_of_mem _ hm, fun x hx => ?_⟩
      rcases List.mem_cons.mp hx with e | hx
      · rw [e]; omega
      · exact q x hx
theorem topF_ne {n : Nat} {ls : List (List Int)} (h : ∀ l ∈ ls, Lds n l) (ne : ls ≠ []) : topF ls ≠ [] := by
  obtain ⟨m, hm, q⟩ := max_in ne
  refine List.ne_nil_of_mem (a := m) (List.mem_filter.mpr ⟨sdd_mem.mpr hm, ?_⟩)
  rw [Bool.not_eq_true', List.any_eq_false]
  intro b hb z
  rw [Bool.and_eq_true, decide_eq_true_eq] at z
  have hb := sdd_mem.mp hb
  have := (blw_sum ((h m hm).1.trans (h b hb).1.symm) z.2).2 z.1.symm
  have := q b hb
  omega
theorem sdd_len {ls : List (List Int)} : (sdd ls).length ≤ ls.length := by
  unfold sdd
  rw [List.length_mergeSort]
  exact ddp_len ls
end K16
set_option Elab.async false
set_option linter.all false
set_option maxRecDepth 100000
set_option maxHeartbeats 4000000
/-! set(t), t a tuple of tuples of ints -/
namespace DL
open PySem PySem.Spec PyProof.Rows L2 Evl
section
variable {P : Program} {w : World} {A : Around} {s : Shared} {E : Value → Shared → Prop}
/-- the set as type.__new__ leaves it -/
abbrev set0 (w : World) : Obj := { cls := .type "set", dict := none, data := .set #[] 0 (.fresh 0 0 (!w.params.followText "set-order")) }
/-- the walk over the tuple, from set.update's loop on -/
theorem loop_tupT {l : Addr} {items : Array Value} (ks : List (Addr × List Int)) {R : Result → Shared → Prop} (hh : A.in1.handled = none) (hl : s.heap.IsTuple l items) (hit : items.toList = ks.map fun p => Value.ref p.1)
    (hk : ∀ p ∈ ks, IsT P w s.heap p.2 p.1) (hfew : ks.length < 64) (hu : A.in1.units < cLine)
    (h : ∀ s' L es ep t, s'.gens = s.gens → s'.drawn = s.drawn → s'.os = s.os → SetTR P w s'.heap s.heap.objs.size L es ep t → Got ks ks.length L → (∀ b o, s.heap.get? b = some o → s'.heap.get? b = some o) → R (.ok (.ret .none)) s') :
    codeAny (model P w) A (.builtin "set.update.loop" ⟨[.ref s.heap.objs.size, .ref (s.heap.push (set0 w)).objs.size], []⟩) R { s with heap := (s.heap.push (set0 w)).push { cls := .type "tuple_iterator", data := .fields #[.ref l, .int 0 0] } } := by
  have n : items.size = ks.length := by simpa using congrArg List.length hit
  obtain ⟨ol, hol, _⟩ := id hl
  have lS : l < s.heap.objs.size := Heap.lt_size hol
  have sz : (s.heap.push (set0 w)).objs.size = s.heap.objs.size + 1 := Heap.size_push ..
  have none_of : ∀ b, s.heap.objs.size ≤ b → s.heap.get? b = none := fun b hb => by
    cases q : s.heap.get? b with
    | none => rfl
    | some o => exact absurd (Nat.lt_of_lt_of_le (Heap.lt_size q) hb) (Nat.lt_irrefl _)
  have lI : l ≠ (s.heap.push (set0 w)).objs.size := by rw [sz]; exact Nat.ne_of_lt (Nat.lt_succ_of_lt lS)
  have at0 : ((s.heap.push (set0 w)).push { cls := .type "tuple_iterator", data := .fields #[.ref l, .int 0 0] }).get? s.heap.objs.size = some (set0 w) := Heap.get?_push_of_some _ (Heap.get?_push_size _ rfl)
  refine set_update_tups (n := items.size) ((Walks.tuple hh _ l lI items).toS) s.heap.objs.size ?_ ks n hfew (fun i v hv => ?_) s.heap hk (none_of _ (Nat.le_refl _)) (fun b hb => none_of b (by rw [List.mem_singleton.mp hb]; omega)) hu (items.size - 0) 0 _ (by omega) (Nat.zero_le _)
    ⟨⟨_, Heap.get?_push_size _ rfl, rfl, rfl⟩, (hl.push _).push _⟩ (fun b o e => Heap.get?_push_of_some _ (Heap.get?_push_of_some _ e)) ⟨[], #[], 0, _, setTR_fresh at0, Got.zero ks⟩ fun s' L es ep t hm hS g k => ?_
  · simp only [List.mem_cons, List.not_mem_nil, or_false, not_or]
    rw [sz]
    exact ⟨Nat.ne_of_lt (Nat.lt_succ_self _), Nat.ne_of_gt lS⟩
  · have q : items.toList[i]? = some v := by rw [Array.getElem?_toList]; exact hv
    rw [hit, List.getElem?_map] at q
    cases hq : ks[i]? with
    | none => rw [hq] at q; cases q
    | some p =>
      rw [hq] at q
      exact ⟨p, rfl, (Option.some.inj q).symm⟩
  · rw [n] at g
    exact h s' L es ep t hm.gens hm.drawn hm.os hS g k
theorem set_tupT {l : Addr} {items : Array Value} (ks : List (Addr × List Int)) {Q : Value → Shared → Prop} (hh : A.handled = none) (hl : s.heap.IsTuple l items) (hit : items.toList = ks.map fun p => Value.ref p.1)
    (hk : ∀ p ∈ ks, IsT P w s.heap p.2 p.1) (hfew : ks.length < 64) (hu : A.units + 3 < cLine)
    (h : ∀ (h' : Heap) (tk : Nat) L es ep t, SetTR P w h' s.heap.objs.size L es ep t → Got ks ks.length L → (∀ b o, s.heap.get? b = some o → h'.get? b = some o) → Q (.ref s.heap.objs.size) { s with heap := h', toks := tk }) :
    wpAny (model P w) A (call (.type "set") [.ref l]) Q E s := by
  obtain ⟨c, tl, hmro⟩ := F.called_set.mro
  have hmade := F.called_set.made
  have hsub := F.called_set.sub
  refine wpAny_call (codeAny_of_tree ?_)
  show wpAny _ _ (callAny (.type "set") _) _ _ _
  refine wpAny_pure ⟨Code.quiet_builtin _ (by decide +kernel), codeAny_builtin F.entry_type_call ?_⟩
  rw [Around.under_plain (weight_type_call_type "set" [.ref l] []) rfl]
  have h1 := F.called_set.notType
  have h2 := F.called_set.canCreate
  have hct := F.typeCall_set_1 (.ref l)
  repeat (any_goals (first | assumption | wp_step))
  refine codeAny_mono (code_set_led1 (.ref l) (E := E) (Q₁ := fun obj s₁ => obj = .ref s.heap.objs.size ∧ s₁ = { s with heap := s.heap.push (set0 w) }) ⟨rfl, rfl⟩) fun r s₁ hr => ?_
  cases r with
  | error e => exact hr
  | ok fl =>
    cases fl with
    | ret obj =>
      obtain ⟨rfl, rfl⟩ := hr
      have hT : Shared.TypeIs { s with heap := s.heap.push (set0 w) } (.ref s.heap.objs.size) "set" := ⟨_, Heap.get?_push_size _ rfl, rfl⟩
      have hli := F.called_set.init.lookup
      have hbi := F.called_set.init.bind (.ref s.heap.objs.size)
      repeat (any_goals (first | assumption | wp_step))
      refine codeAny_mono (codeAny_call_builtin (R := wants (fun r s₂ => r = .none ∧ ∃ h' tk L es ep t, s₂ = { s with heap := h', toks := tk } ∧ SetTR P w h' s.heap.objs.size L es ep t ∧ Got ks ks.length L ∧
          (∀ b o, s.heap.get? b = some o → h'.get? b = some o)) E) F.called_set.init.plain F.entry_set_init (check_set_init_1 hT ?_)) fun r₂ s₂ hr₂ => ?_
      · have hl0 := hl
        obtain ⟨ol, hol, hcl, nl, hdl⟩ := hl0
        obtain ⟨ocls, odict, odata, oslots⟩ := ol
        simp only at hcl hdl
        subst hcl; subst hdl
        have hol' : (s.heap.push (set0 w)).get? l = some { cls := .type "tuple", dict := odict, data := .seq items nl, slots := oslots } := Heap.get?_push_of_some _ hol
        have hsls := F.sub_tuple_set
        have hslf := F.sub_tuple_frozenset
        have hne : (Value.type "tuple" == Value.type "dict") = false := by decide
        have hl1 : (s.heap.push (set0 w)).IsTuple l items := ⟨_, hol', rfl, nl, rfl⟩
        unfold Builtin.«set.__init__» noKeywords Builtin.Frozenset.updateFrom
        generalize hPI : pyIter = PI
        wp_walk
        subst hPI
        refine wpAny_pyIter_tuple hl1 ?_
        refine wpAny_bind (wpAny_runValue ?_)
        refine loop_tupT (A := A.in1.in1) ks (by simp [hh]) hl hit hk hfew (show A.units + 3 < cLine from hu) fun s' L es ep t eg ed eo hS g k => ?_
        obtain ⟨h', g2, d', tk', os'⟩ := s'
        have eg : g2 = s.gens := eg
        have ed : d' = s.drawn := ed
        have eo : os' = s.os := eo
        subst eg; subst ed; subst eo
        show wpAny _ _ _ _ _ _
        refine wpAny_pure ?_
        show wpAny _ _ (ret Value.none) _ _ _
        exact wpAny_pure ⟨rfl, h', tk', L, es, ep, t, rfl, hS, g, k⟩
      · cases r₂ with
        | error e => exact hr₂
        | ok fl₂ =>
          cases fl₂ with
          | ret r =>
            obtain ⟨rfl, h', tk, L, es, ep, t, rfl, hS', g', hk'⟩ := hr₂
            repeat (any_goals (first | assumption | wp_step))
            exact h _ _ _ _ _ _ hS' g' hk'
          | _ => exact hr₂.elim
    | _ => exact hr.elim
end
section
variable {X : Cx}
/-- set(xs), xs a list or a tuple of tuples of ints -/
def rSetOfS (K : PySem.W.Frag) (P : Program) (w : World) : List V → Hp → VK → Prop := fun xs H Q => ∃ (l : Addr) (ks : List (Addr × List Int)), xs = [V.ref l] ∧ (SqL K H l (ks.map fun p => V.ref p.1) ∨ SqT K H l (ks.map fun p => V.ref p.1)) ∧ (∀ p ∈ ks, SqT K H p.1 (p.2.map V.int)) ∧ ks.length < 64 ∧
  ∀ a L, H a = none → (∀ p ∈ L, p ∈ ks) → (∀ p ∈ ks, p.2 ∈ L.map (·.2)) → Q (.ref a) (upd H a (SetTO P w a L))
theorem cr_setOfS (hc : X.calm = true) (hu : X.A.units + 64 < cLine) : CallR X (.type "set") (rSetOfS X.K X.prog X.w) := by
  intro pins s σ H xs us Q I r h
  obtain ⟨l, ks, rfl, hl | hl, hk, hf, q⟩ := h
  · exact cr_setOfT hc hu pins s σ H _ us Q I r ⟨l, ks, rfl, hl, hk, hf, q⟩
  · rw [Vals.ref1 r]
    obtain ⟨its, rv, pl, hz⟩ := I.tuple hl
    have hn : H s.heap.objs.size = none := I.hok.fresh (Nat.le_refl _)
    refine set_tupT (P := X.prog) (w := X.w) ks (I.ok.hd hc) pl (by simpa using refs_of_vals rv) (fun p hp => I.isT (hk p hp)) hf (by omega) fun h' tk L es ep t R g k => ?_
    refine ⟨.ref s.heap.objs.size, upd H s.heap.objs.size (SetTO X.prog X.w s.heap.objs.size L), I.laid (t' := tk) k (Nat.le_refl _) (setTO_new R.t0), rfl, q _ L hn (fun p hp => ?_) fun p hp => ?_⟩
    · exact List.mem_of_mem_take (g.sub p hp)
    · exact g.all p (by rw [List.take_length]; exact hp)
end
end DL
set_option Elab.async false
set_option linter.all false
set_option maxRecDepth 100000
set_option maxHeartbeats 4000000
namespace K16
open PySem PySem.Spec PyProof.Rows L2 Evl DL
local macro_rules | `(tactic| walk_at "dl") => `(tactic| first
  | exact ev_c | exact ev_var rfl | exact eda_nil
  | exact ed_var rfl (by assumption)
  | exact ed_int ev_c | exact ed_int (ev_var rfl)
  | (refine eda_cons ?_ ?_ <;> walk_at "dl")
  | (refine ed_int ?_; walk_at "dl")
  | (refine ev_op ?_ ?_ rv_I0 <;> walk_at "dl"))
section
variable {K : PySem.W.Frag} {σ : L2.St} {H H' : Hp} {ta tb te : TE} {d : PyData} {ds es : List PyData} {v : V}
theorem keys_of : ∀ {ls : List (List Int)} {xs : List V}, DpAll K H xs (ls.map tI) → ∃ ks : List (Addr × List Int), xs = ks.map (fun p => V.ref p.1) ∧ ls = ks.map (·.2) ∧ ∀ p ∈ ks, SqT K H p.1 (p.2.map V.int)
  | [], _, .nil => ⟨[], rfl, rfl, fun _ h => by simp at h⟩
  | l :: ls, _, .cons h t => by
    obtain ⟨a, rfl, ha⟩ := dp_tI h
    obtain ⟨ks, rfl, rfl, hk⟩ := keys_of t
    refine ⟨(a, l) :: ks, rfl, rfl, fun p hp => ?_⟩
    rcases List.mem_cons.mp hp with rfl | hp
    · exact ha
    · exact hk p hp
theorem keys_dp : ∀ {ks : List (Addr × List Int)}, (∀ p ∈ ks, SqT K H p.1 (p.2.map V.int)) → DpAll K H (ks.map fun p => V.ref p.1) ((ks.map (·.2)).map tI)
  | [], _ => .nil
  | p :: ks, h => .cons (.tup (h p List.mem_cons_self) (ints_dpa _)) (keys_dp fun q hq => h q (List.mem_cons_of_mem _ hq))
theorem dp_sqx {t : Bool} (h : Dp K H v (seqD t ds)) : ∃ a xs, v = .ref a ∧ (SqL K H a xs ∨ SqT K H a xs) ∧ DpAll K H xs ds := by
  cases t with
  | true =>
    cases h with
    | tup hs ha => exact ⟨_, _, rfl, .inr hs, ha⟩
  | false =>
    cases h with
    | lst hs ha => exact ⟨_, _, rfl, .inl hs, ha⟩
/-- sorted(set(xs)), xs loads -/
theorem en_sdd {P : Program} {w : World} {t : Bool} {n : Nat} {ls : List (List Int)} (h : EvD K te σ H (seqD t (ls.map tI))) (hn : 1 ≤ n) (hL : ∀ l ∈ ls, Lds n l) (hl : ls.length < 64) :
    EvN K (tCB (rSortedT K P w) (tCons (tCB (rSetOfS K P w) (tCons te tNil)) tNil)) σ H ((sdd ls).map tI) := fun H1 e Q q =>
  h H1 e _ fun x H2 e2 hx => by
    obtain ⟨a, xs, rfl, hs, hd⟩ := dp_sqx hx
    obtain ⟨ks, rfl, rfl, hk⟩ := keys_of hd
    refine ⟨a, ks, rfl, hs, hk, by simpa using hl, fun b L hb sub all => ?_⟩
    have e3 := Ex.new (o := SetTO P w b L) hb
    refine ⟨b, L, n, 100, rfl, upd_same, fun p hp => ex_t e3 (hk p (sub p hp)), hn, fun p hp => ?_, fun L' p pm nd few pw hp => ?_⟩
    · have := hL p.2 (List.mem_map_of_mem (sub p hp))
      exact ⟨this.1, lds_bd this⟩
    · have e4 := Ex.new (o := .lst (L'.map fun q => V.ref q.1)) hp
      refine q p _ _ (fresh_back (e2.trans e3) hp) ((e2.trans e3).trans e4) upd_same ?_
      have un : L'.map (·.2) = sdd (ks.map (·.2)) := sdd_uniq (n := n) hL nd (List.pairwise_map.mpr pw) fun x => by
        constructor
        · intro hx
          obtain ⟨p, hp, rfl⟩ := List.mem_map.mp hx
          exact List.mem_map_of_mem (sub p (pm.mem_iff.mp hp))
        · intro hx
          obtain ⟨p, hp, rfl⟩ := List.mem_map.mp hx
          exact (pm.map (·.2)).mem_iff.mpr (all p hp)
      rw [← un]
      exact keys_dp fun p hp => ex_t (e3.trans e4) (hk p (sub p (pm.mem_iff.mp hp)))
/-- x != y -/
theorem ev_neD {e1 e2 : PyData} (ha : EvD K ta σ H e1) (hb : EvD K tb σ H e2) (h1 : SeqAt.shaped e1 = true) (h2 : SeqAt.shaped e2 = true) : Ev (tOp (rNeD K) ta tb) σ H (.bl (!PyData.eqv e1 e2)) := fun H1 e Q q =>
  ha H1 e _ fun x H2 e2' hx => hb H2 (e.trans e2') _ fun y H3 e3 hy => ⟨_, _, dp_ex e3 _ _ hx, hy, h1, h2, q H3 (e2'.trans e3)⟩
theorem op_neDK {X : Cx} (K : PySem.W.Frag) (hK : X.K = K) (hu : X.A.units + 64 < cLine) : OpR X (compareOp .NotEq) (rNeD K) := hK ▸ op_neD hu
theorem op_eqDK {X : Cx} (K : PySem.W.Frag) (hK : X.K = K) (hu : X.A.units + 64 < cLine) : OpR X (compareOp .Eq) (rEqD K) := hK ▸ op_eqD hu
theorem en_listOfT (h : EvD K te σ H (.tuple ds)) : EvN K (tCB (fun xs H Q => ∃ p ys, xs = [.ref p] ∧ (SqL K H p ys ∨ SqT K H p ys) ∧ ∀ l, H l = none → Q (.ref l) (upd H l (.lst ys))) (tCons te tNil)) σ H ds := fun H1 e Q q =>
  h H1 e _ fun x H2 e2 hx => by
    cases hx with
    | tup hs ha => exact ⟨_, _, rfl, .inr hs, fun l hl => q _ _ _ (fresh_back e2 hl) (e2.trans (Ex.new hl)) upd_same (dpa_ex (Ex.new hl) _ _ ha)⟩
end
theorem eqvAll_tIs : ∀ a b : List (List Int), PyData.eqvAll (a.map tI) (b.map tI) = decide (a = b)
  | [], [] => by simp [PyData.eqvAll]
  | [], _ :: _ => by simp [PyData.eqvAll]
  | _ :: _, [] => by simp [PyData.eqvAll]
  | x :: a, y :: b => by
    have ih := eqvAll_tIs a b
    rw [List.map_cons, List.map_cons, PyData.eqvAll, ih, eqv_tI]
    by_cases h : x = y
    · subst h; simp
    · simp [h]
theorem canLay_tIs : ∀ a : List (List Int), PyData.canLayAll0 (a.map tI) = true
  | [] => by simp [PyData.canLayAll0]
  | x :: a => by
    have h : (tI x).canLay0 = true := by rw [PyData.canLay0]; exact canLay_ints x
    rw [List.map_cons, PyData.canLayAll0, h, canLay_tIs a]
    rfl
theorem depth_tIs : ∀ a : List (List Int), PyData.depthAll (a.map tI) ≤ 2
  | [] => by simp [PyData.depthAll]
  | x :: a => by
    have h := depth_tIs a
    have h2 := depth_ints x
    have e : (tI x).depth = PyData.depthAll (dI x) + 1 := by rw [PyData.depth]
    rw [List.map_cons, PyData.depthAll]
    omega
theorem shaped_tIs (t : Bool) (a : List (List Int)) : SeqAt.shaped (seqD t (a.map tI)) = true := by
  have h := depth_tIs a
  cases t with
  | true =>
    show ((PyData.tuple (a.map tI)).canLay0 && decide ((PyData.tuple (a.map tI)).depth ≤ 64)) = true
    rw [Bool.and_eq_true]
    refine ⟨by rw [PyData.canLay0]; exact canLay_tIs a, decide_eq_true ?_⟩
    rw [PyData.depth]
    omega
  | false =>
    show ((PyData.list (a.map tI)).canLay0 && decide ((PyData.list (a.map tI)).depth ≤ 64)) = true
    rw [Bool.and_eq_true]
    refine ⟨by rw [PyData.canLay0]; exact canLay_tIs a, decide_eq_true ?_⟩
    rw [PyData.depth]
    omega
/-- no one of them is so -/
theorem none_so {n : Nat} (f : Nat → Bool) : (((List.range n).filter f).map fun _ => (1 : Int)).isEmpty = !((List.range n).any f) := by
  rw [Bool.eq_iff_iff, List.isEmpty_iff, List.map_eq_nil_iff, List.filter_eq_nil_iff, Bool.not_eq_true', List.any_eq_false]
theorem any_range {α : Type} (d : α) (f : α → Bool) (ms : List α) : (List.range ms.length).any (fun i => f (ms.getD i d)) = ms.any f := by
  rw [Bool.eq_iff_iff, List.any_eq_true, List.any_eq_true]
  constructor
  · rintro ⟨i, hi, h⟩
    have hi := List.mem_range.mp hi
    rw [List.getD_eq_getElem?_getD, List.getElem?_eq_getElem hi] at h
    exact ⟨ms[i], List.getElem_mem hi, h⟩
  · rintro ⟨x, hx, h⟩
    obtain ⟨i, hi, rfl⟩ := List.getElem_of_mem hx
    refine ⟨i, List.mem_range.mpr hi, ?_⟩
    rw [List.getD_eq_getElem?_getD, List.getElem?_eq_getElem hi]
    exact h
theorem blw_any : ∀ (a b : List Int), blw a b = !((List.range (List.zipWith (fun x y => PyData.tuple [x, y]) (dI a) (dI b)).length).any fun i => decide (b.getD i 0 < a.getD i 0)) := by
  intro a b
  have e : (List.zipWith (fun x y => PyData.tuple [x, y]) (dI a) (dI b)).length = min a.length b.length := by
    rw [List.length_zipWith, dI, dI, List.length_map, List.length_map]
  rw [e, Bool.eq_iff_iff, Bool.not_eq_true', List.any_eq_false]
  unfold blw
  rw [List.all_eq_true]
  constructor
  · intro h i hi
    have hi := List.mem_range.mp hi
    have h1 : i < a.length := by omega
    have h2 : i < b.length := by omega
    have := h (a[i], b[i]) (by
      rw [List.mem_iff_getElem?]
      exact ⟨i, by rw [List.getElem?_zip_eq_some]; exact ⟨List.getElem?_eq_getElem h1, List.getElem?_eq_getElem h2⟩⟩)
    have := of_decide_eq_true this
    rw [List.getD_eq_getElem?_getD, List.getD_eq_getElem?_getD, List.getElem?_eq_getElem h1, List.getElem?_eq_getElem h2]
    simp only [Option.getD_some]
    rw [decide_eq_true_eq]
    have this : a[i] ≤ b[i] := this
    omega
  · intro h q hq
    obtain ⟨i, hi⟩ := List.mem_iff_getElem?.mp hq
    rw [List.getElem?_zip_eq_some] at hi
    obtain ⟨h1, e1⟩ := List.getElem?_eq_some_iff.mp hi.1
    obtain ⟨h2, e2⟩ := List.getElem?_eq_some_iff.mp hi.2
    have := h i (List.mem_range.mpr (by omega))
    rw [List.getD_eq_getElem?_getD, List.getD_eq_getElem?_getD, List.getElem?_eq_getElem h1, List.getElem?_eq_getElem h2] at this
    simp only [Option.getD_some, decide_eq_true_eq] at this
    rw [← e1, ← e2]
    exact decide_eq_true (by omega)
def R_law_under (ds : List PyData) (r : PyData) : Prop := ∃ a b : List Int, ds = [tI a, tI b] ∧ a.length ≤ 100 ∧ r = .bool (blw a b)
def R_law_tops (ds : List PyData) (r : List PyData) : Prop := ∃ (t : Bool) (n : Nat) (ls : List (List Int)), ds = [seqD t (ls.map tI)] ∧ 1 ≤ n ∧ n ≤ 10 ∧ (∀ l ∈ ls, Lds n l) ∧ ls.length ≤ 63 ∧ r = (topF ls).map tI
section
variable {P : Program} {w : World} {K : PySem.W.Frag} {mg : Str → Option Value} {base : Heap}
abbrev s__law_under : Stmt := topS 44
abbrev N__law_under : List Str := ["load", "other", "item", "more"]
theorem sc__law_under : FnScope N__law_under ["load", "other"] (defScope s__law_under) := ⟨rfl, rfl, rfl, by decide +kernel, rfl, by decide +kernel, by decide +kernel⟩
theorem ok__law_under {f : Addr} {fd : FuncData} (F : Fun K "_law_under" "_law_under" s__law_under f fd) (T : Txt mg)
      :
    FnOk P w K mg base CX0 1 f fd ["load", "other"] (spD K 2 R_law_under) := by
  refine F.ok sc__law_under (fun vs H Q E h => spD_len h) (fun cdv A outer s H vs Q E hr h => ?_)
  obtain ⟨ds, r, hd, _, ⟨a, b, rfl, la, rfl⟩, k⟩ := h
  obtain ⟨v0, v1, rfl, d0, d1⟩ := dpa_two hd
  refine ⟨_, (pss_one (ps_ret (pe_cmpR (op_eqD (hu64 hr)) (pe_lc (own := [("item", 2), ("more", 3)]) (g := (gTup K 2 (gCons (gName 2) (gCons (gName 3) gNil)))) (tt := _) rfl sc__law_under.nd (pi_zipM true true (by rfl) T.b_zip (pa_cons (pv 0) (pa_cons (pv 1) pa_nil))) (blkOk_by (N := N__law_under) (sc := defScope s__law_under) (by decide +kernel)) (fun _ _ _ _ _ => (pg_tup rfl (pgs_cons (pg_name (i := 2) sc__law_under.nd rfl (Or.inl rfl)) (pgs_cons (pg_name (i := 3) sc__law_under.nd rfl (Or.inl rfl)) pgs_nil)))) (fun _ _ _ _ _ => (pts_one (pt_cmpR op_gt (pv 2) (pv 3) (nomark _)))) (fun _ _ _ _ _ => pe_int)) (pe_lst pa_nil) (nomark _)))), ?_⟩
  refine d_ret (K := K) (ed_bool (ev_is (ev_eqD (EvN.toD (en_lcB (K := K) (ei_zipG (t := true) (u := true) (ds := dI a) (es := dI b) (ed_var (v := v0) rfl d0) (ed_var (v := v1) rfl d1)) (by rw [List.length_zipWith, dI, List.length_map]; omega) (fun i => decide (b.getD i 0 < a.getD i 0)) (fun _ => 1) fun H2 i d y Hb Q' e2 hg e3 hy kk => ?_)) (EvN.toD (en_lst (ds := []) eda_nil (by simp))) (shaped_dI _) (shaped_dI [])) (by rw [eqv_nil, none_so, ← blw_any]))) k
  rw [List.getElem?_zipWith, dI, dI, List.getElem?_map, List.getElem?_map] at hg
  cases ha : a[i]? with
  | none => rw [ha] at hg; cases hg
  | some x =>
    cases hb : b[i]? with
    | none => rw [ha, hb] at hg; cases hg
    | some z =>
      rw [ha, hb] at hg
      cases hg
      refine g_two hy fun w1 w2 u1 u2 => ?_
      cases dp_int u1
      cases dp_int u2
      refine kk _ Hb (Ex.refl _) rfl ?_ ev_c
      rw [List.getD_eq_getElem?_getD, List.getD_eq_getElem?_getD, ha, hb]
      exact et_test (ev_op (ev_var rfl) (ev_var rfl) rv_I0)

abbrev s__law_tops : Stmt := topS 45
abbrev N__law_tops : List Str := ["loads_here", "some", "found", "load", "other"]
theorem sc__law_tops : FnScope N__law_tops ["loads_here"] (defScope s__law_tops) := ⟨rfl, rfl, rfl, by decide +kernel, rfl, by decide +kernel, by decide +kernel⟩
theorem ok__law_tops {f : Addr} {fd : FuncData} (F : Fun K "_law_tops" "_law_tops" s__law_tops f fd) (T : Txt mg)
    (D__law_under : DF P w K mg base "_law_under" 1 ["load", "other"] (spD K 2 R_law_under))  :
    FnOk P w K mg base CX0 2 f fd ["loads_here"] (spN K 1 R_law_tops) := by
  refine F.ok sc__law_tops (fun vs H Q E h => spN_len h) (fun cdv A outer s H vs Q E hr h => ?_)
  obtain ⟨ds, r, hd, _, ⟨t, n, ls, rfl, n1, n2, hL, ll, rfl⟩, k⟩ := h
  obtain ⟨v0, rfl, d0⟩ := dpa_one hd
  refine ⟨_, (pss_cons (ps_set (i := 1) sc__law_tops.nd rfl (.inl rfl) (pe_callB (cr_sortedT rfl) (by rfl) T.b_sorted (by decide +kernel) (pa_cons (pe_callTy (cr_setOfS rfl (hu64 hr)) (by rfl) T.b_set (by decide +kernel) (pa_cons (pv 0) pa_nil)) pa_nil)))
      (pss_cons (ps_set (i := 2) sc__law_tops.nd rfl (.inl rfl) (pe_lst pa_nil))
      (pss_cons (ps_for PassesOwn.never rfl (pi_list (pv 1)) (pg_name (i := 3) sc__law_tops.nd rfl (Or.inr rfl)) (pss_one (ps_if (pt_cmpR (op_eqD (hu64 hr)) (pe_lc (own := [("other", 4)]) (g := (gName 4)) (tt := _) rfl sc__law_tops.nd (pi_list (pv 1)) (blkOk_by (N := N__law_tops) (sc := defScope s__law_tops) (by decide +kernel)) (fun _ _ _ _ _ => (pg_name (i := 4) sc__law_tops.nd rfl (Or.inl rfl))) (fun _ _ _ _ _ => (pts_one (PW.pt (pw_and (pt_cmpR (op_neDK K rfl (hu64 hr)) (pv 4) (pv 3) (nomark _)) (pw_and1 (pt_val (pe_D D__law_under (hr.mono (by decide)) (by rfl) (pa_cons (pv 3) (pa_cons (pv 4) pa_nil))))))))) (fun _ _ _ _ _ => pe_int)) (pe_lst pa_nil) (nomark _)) (pss_one (ps_expr (pe_bm PySem.F.plainAttrs_list PySem.F.slot_list_append PySem.F.type_list_append mt_append (pv 2) (pa_cons (pv 3) pa_nil)))) pss_nil)))
      (pss_one (ps_ret (pv 2)))))), ?_⟩
  refine qn_asg (K := K) (en_sdd (P := P) (w := w) (t := t) (n := n) (ls := ls) (ed_var rfl d0) n1 hL (by omega)) fun q wq H1 hq e1 h1 hd1 => ?_
  refine qn_asg (K := K) (en_lst eda_nil (by simp)) fun p vs H2 hp e2 h2 hd2 => ?_
  cases hd2
  have npq : q ≠ p := fun z => by rw [z, hp] at h1; cases h1
  have h1' := e2 _ _ h1
  have hd1' := dpa_ex e2 _ _ hd1
  have sl := sdd_len (ls := ls)
  refine e_for (K := K) (S := [p]) (ei_lst (Ls.one h2) (ev_var rfl) h1' (by simpa using npq) hd1' (immAll_tI _)) (fun H3 i σ' Ha => Xp [p] H3 Ha ∧ (∃ ws, Ha p = some (.lst ws) ∧ DpAll K Ha ws ((((sdd ls).take i).filter fun a => !((sdd ls).any fun b => decide (b ≠ a) && blw a b)).map tI)) ∧ ∃ a b, σ' = [some v0, some (.ref q), some (.ref p), a, b])
    (fun H3 e3 => ⟨Xp.refl _ _, ⟨_, e3 _ _ h2, by simpa using .nil⟩, none, none, rfl⟩) (fun H3 i σ' Ha _ z => z.1) ?_ ?_
  · rintro H3 i d y σ' Ha Hb e3 hg ⟨p1, ⟨ws, p2, p3⟩, a, b, rfl⟩ e4 hy
    rw [List.getElem?_map] at hg
    cases hi : (sdd ls)[i]? with
    | none => rw [hi] at hg; cases hg
    | some l =>
      rw [hi] at hg
      cases hg
      have lm : l ∈ sdd ls := List.mem_of_getElem? hi
      have Ll := hL l (sdd_mem.mp lm)
      have tk : (sdd ls).take (i + 1) = (sdd ls).take i ++ [l] := by rw [List.take_succ, hi]; rfl
      have hqb : Hb q = some (.lst wq) := e4 _ _ (p1 _ _ (e3 _ _ h1') (by simpa using npq))
      have tx : Tx H2 Hb := ((Tx.of_ex e3).trans (p1.tx (Ls.one (e3 _ _ h2)))).trans (Tx.of_ex e4)
      have hdb := dpa_tx tx _ _ (immAll_tI _) hd1'
      have p3 := dpa_ex e4 _ _ p3
      have p2 := e4 _ _ p2
      show tIfS _ _ _ _ [some v0, some (.ref q), some (.ref p), some y, b] Hb
      refine s_when (b := !((sdd ls).any fun b => decide (b ≠ l) && blw l b)) (et_test (ev_is (ev_eqD (EvN.toD (en_lcB (K := K) (ei_lstD (ds := (sdd ls).map tI) (ed_var rfl (.lst (sq_of hqb) hdb)) (immAll_tI _)) (by rw [List.length_map]; omega) (fun j => decide ((sdd ls).getD j [] ≠ l) && blw l ((sdd ls).getD j [])) (fun _ => 1) fun H4 j d x Hc Q' e5 hg' e6 hx kk => ?_)) (EvN.toD (en_lst (ds := []) eda_nil (by simp))) (shaped_dI _) (shaped_dI [])) ?_)) (fun hc Hc ec => ?_) fun hc Hc ec => ?_
      · rw [List.getElem?_map] at hg'
        cases hj : (sdd ls)[j]? with
        | none => rw [hj] at hg'; cases hg'
        | some m =>
          rw [hj] at hg'
          cases hg'
          have gm : (sdd ls).getD j [] = m := by rw [List.getD_eq_getElem?_getD, hj]; rfl
          have Lm := hL m (sdd_mem.mp (List.mem_of_getElem? hj))
          refine kk _ Hc (Ex.refl _) rfl ?_ ev_c
          rw [gm]
          have hy' := dp_ex (e5.trans e6) _ _ hy
          refine et_and (et_test (ev_is (ev_neD (e1 := tI m) (e2 := tI l) (ed_var rfl hx) (ed_var (v := y) rfl hy') (shaped_tI _) (shaped_tI _)) ?_)) fun _ => et_B (EvD.bool (ed_call (R := R_law_under) (ds := [tI l, tI m]) (eda_cons (ed_var (v := y) rfl hy') (eda_cons (ed_var (v := x) rfl hx) eda_nil)) rfl ⟨l, m, rfl, by rw [Ll.1]; omega, rfl⟩))
          rw [eqv_tI]
          congr 1
          by_cases z : m = l <;> simp [z]
      · rw [eqv_nil, none_so, List.length_map, any_range [] (fun m => decide (m ≠ l) && blw l m) (sdd ls)]
      · have lw := dpa_len p3
        have fl : ((((sdd ls).take i).filter fun a => !((sdd ls).any fun b => decide (b ≠ a) && blw a b)).map tI).length ≤ 63 := by
          rw [List.length_map]
          refine Nat.le_trans (List.length_filter_le _ _) ?_
          rw [List.length_take]
          omega
        refine d_app (K := K) (d := tI l) (ec _ _ p2) (ev_var rfl) (ed_var (v := y) rfl (dp_ex ec _ _ hy)) (by omega) fun v H5 e7 hv => ?_
        have hp5 := e7 _ _ (ec _ _ p2)
        refine ⟨Xp.upd ((p1.then e4).then (ec.trans e7)) (by simp), ⟨_, upd_same, ?_⟩, _, _, rfl⟩
        rw [tk, List.filter_append, List.map_append]
        refine dpa_app (dpa_tx (Tx.lst hp5) _ _ (immAll_tI _) (dpa_ex (ec.trans e7) _ _ p3)) ?_
        have f1 : [l].filter (fun a => !((sdd ls).any fun b => decide (b ≠ a) && blw a b)) = [l] := List.filter_eq_self.mpr fun z hz => by rw [List.mem_singleton.mp hz]; exact hc
        rw [f1]
        exact .cons (dp_tx (Tx.lst hp5) _ _ (imm_tI _) hv) .nil
      · refine ⟨(p1.then e4).then ec, ⟨ws, ec _ _ p2, ?_⟩, _, _, rfl⟩
        rw [tk, List.filter_append]
        have f1 : [l].filter (fun a => !((sdd ls).any fun b => decide (b ≠ a) && blw a b)) = [] := List.filter_eq_nil_iff.mpr fun z hz => by rw [List.mem_singleton.mp hz, hc]; exact Bool.noConfusion
        rw [f1, List.append_nil]
        exact dpa_ex ec _ _ p3
  · rintro H3 σ' Ha e3 ⟨p1, ⟨ws, p2, p3⟩, a, b, rfl⟩
    rw [List.length_map, List.take_of_length_le (Nat.le_refl _)] at p3
    have e0 : Ex H1 Ha := xp_fresh (e2.trans e3) p1 hp
    exact ⟨.ref p, rfl, k p ws Ha (fresh_back e1 hp) (e1.trans e0) p2 p3⟩

end
end K16
set_option Elab.async false
set_option linter.all false
set_option maxRecDepth 100000
set_option maxHeartbeats 4000000
namespace K16
open PySem PySem.Spec PyProof.Rows L2 Evl DL
local macro_rules | `(tactic| walk_at "dl") => `(tactic| first
  | exact ev_c | exact ev_var rfl | exact eda_nil
  | exact ed_var rfl (by assumption)
  | exact ed_int ev_c | exact ed_int (ev_var rfl)
  | (refine eda_cons ?_ ?_ <;> walk_at "dl")
  | (refine ed_int ?_; walk_at "dl")
  | (refine ev_op ?_ ?_ rv_I0 <;> walk_at "dl"))

/-- small enough for the law's own word on frames -/
def frS : PyData → Prop
  | .tuple ds => ds.length ≤ 63 ∧ SeqAt.shaped (.tuple ds) = true
  | _ => True
theorem eqv_emp (ds : List PyData) : PyData.eqv (.tuple ds) (.tuple []) = ds.isEmpty := by
  rw [PyData.eqv]
  cases ds with
  | nil => simp [PyData.eqvAll]
  | cons x a => simp [PyData.eqvAll]
theorem shaped_emp : SeqAt.shaped (.tuple []) = true := shaped_tI []
section
variable {P : Program} {w : World} {K : PySem.W.Frag} {mg : Str → Option Value} {base : Heap}
theorem ok__law_is_loadX {f : Addr} {fd : FuncData} (F : Fun K "_law_is_load" "_law_is_load" s__law_is_load f fd) (T : Txt mg)
    (D__law_is_whole : DF P w K mg base "_law_is_whole" 1 ["item"] (spD K 1 R_law_is_whole)) :
    FnOk P w K mg base CX0 2 f fd ["sides_here", "item"] (spJd ldOk) := by
  refine F.ok sc__law_is_load (fun vs H Q E h => by obtain ⟨_, _, rfl, _⟩ := h; rfl) (fun cdv A outer s H vs Q E hr h => ?_)
  obtain ⟨x, v1, rfl, h1, h2, hd, k⟩ := h
  refine ⟨_, (pss_cons (ps_if (PW.pt (pw_or (pt_not (pt_val (pe_callB call_isi (by rfl) T.b_isinstance (by decide +kernel) (pa_cons (pv 1) (pa_cons (pe_bltn (v := .ty "tuple") (u := .type "tuple") (by rfl) T.b_tuple (by decide +kernel) rfl) pa_nil))))) (pw_or1 (pt_cmpR op_ne (pe_callB call_len_seq (by rfl) T.b_len PySem.boot_len (pa_cons (pv 1) pa_nil)) (pe_op op_fdiv (pe_op op_mul (pv 0) (pe_op op_sub (pv 0) pe_int)) pe_int) (nomark _))))) (pss_one (ps_ret pe_bl)) pss_nil)
      (pss_one (ps_ret (pe_cmpR (op_eqD (hu64 hr)) (pe_lc (own := [("number", 2)]) (g := (gName 2)) (tt := _) rfl sc__law_is_load.nd (pi_tup (pv 1)) (blkOk_by (N := N__law_is_load) (sc := defScope s__law_is_load) (by decide +kernel)) (fun _ _ _ _ _ => (pg_name (i := 2) sc__law_is_load.nd rfl (Or.inl rfl))) (fun _ _ _ _ _ => (pts_one (PW.pt (pw_or (pt_not (pt_val (pe_D D__law_is_whole (hr.mono (by decide)) (by rfl) (pa_cons (pv 2) pa_nil)))) (pw_or1 (pt_not (pt_chain op_le op_le pe_int (pv 2) pe_int))))))) (fun _ _ _ _ _ => pe_int)) (pe_lst pa_nil) (nomark _))))), ?_⟩
  refine q_when (b := true) (et_or (a := true) (b := false) (et_not (a := false) (et_B (ev_isTd rfl hd))) fun z => nomatch z) (fun _ H1 e1 => ?_) fun z => nomatch z
  exact s_ret ev_c fun H2 e2 => k H2 (e1.trans e2)

theorem ok__law_is_loadJ {f : Addr} {fd : FuncData} (F : Fun K "_law_is_load" "_law_is_load" s__law_is_load f fd) (T : Txt mg) (D__law_is_whole : DF P w K mg base "_law_is_whole" 1 ["item"] (spD K 1 R_law_is_whole)) :
    FnOk P w K mg base CX0 2 f fd ["sides_here", "item"] (spJ K Any ldOk) :=
  fn_J (fn_mono (ok__law_is_load F T D__law_is_whole) fun vs H Q E ⟨s, v, d, e, h1, h2, hd, _, q⟩ => ⟨[.int s, d], .bool (ldOk s d), e ▸ .cons (.int s) (.cons hd .nil), rfl, ⟨s, d, rfl, h1, h2, rfl⟩, fun v' H' x hv => by cases hv; exact q H' x⟩) (ok__law_is_loadX F T D__law_is_whole) ldOk_dict
abbrev s__law_is_frame : Stmt := topS 47
abbrev N__law_is_frame : List Str := ["sides_here", "item", "load"]
theorem sc__law_is_frame : FnScope N__law_is_frame ["sides_here", "item"] (defScope s__law_is_frame) := ⟨rfl, rfl, rfl, by decide +kernel, rfl, by decide +kernel, by decide +kernel⟩
theorem ok__law_is_frame {f : Addr} {fd : FuncData} (F : Fun K "_law_is_frame" "_law_is_frame" s__law_is_frame f fd) (T : Txt mg)
    (D__law_is_load : DF P w K mg base "_law_is_load" 2 ["sides_here", "item"] (spJ K Any ldOk)) (D__law_tops : DF P w K mg base "_law_tops" 2 ["loads_here"] (spN K 1 R_law_tops))  :
    FnOk P w K mg base CX0 3 f fd ["sides_here", "item"] (spJp K frS frB) := by
  refine F.ok sc__law_is_frame (fun vs H Q E h => by obtain ⟨_, _, _, rfl, _⟩ := h; rfl) (fun cdv A outer s H vs Q E hr h => ?_)
  obtain ⟨x, v1, d, rfl, h1, h2, hd, sm, k⟩ := h
  refine ⟨_, (pss_cons (ps_if (PW.pt (pw_or (pt_not (pt_val (pe_callB call_isi (by rfl) T.b_isinstance (by decide +kernel) (pa_cons (pv 1) (pa_cons (pe_bltn (v := .ty "tuple") (u := .type "tuple") (by rfl) T.b_tuple (by decide +kernel) rfl) pa_nil))))) (pw_or (pt_cmpR (op_eqD (hu64 hr)) (pv 1) (pe_tup pa_nil) (nomark _)) (pw_or1 (pt_cmpR (op_neD (hu64 hr)) (pe_lc (own := [("load", 2)]) (g := (gName 2)) (tt := _) rfl sc__law_is_frame.nd (pi_tup (pv 1)) (blkOk_by (N := N__law_is_frame) (sc := defScope s__law_is_frame) (by decide +kernel)) (fun _ _ _ _ _ => (pg_name (i := 2) sc__law_is_frame.nd rfl (Or.inl rfl))) (fun _ _ _ _ _ => (pts_one (pt_not (pt_val (pe_D D__law_is_load (hr.mono (by decide)) (by rfl) (pa_cons (pv 0) (pa_cons (pv 2) pa_nil))))))) (fun _ _ _ _ _ => pe_int)) (pe_lst pa_nil) (nomark _)))))) (pss_one (ps_ret pe_bl)) pss_nil)
      (pss_one (ps_ret (pe_cmpR (op_eqD (hu64 hr)) (pe_D D__law_tops (hr.mono (by decide)) (by rfl) (pa_cons (pv 1) pa_nil)) (pe_callTy call_list_of (by rfl) T.b_list (by decide +kernel) (pa_cons (pv 1) pa_nil)) (nomark _))))), ?_⟩
  have isT : EvT (tNot (tB (tCB (rIsi K) (tCons (tVar 1) (tCons (tC (.ty "tuple")) tNil))))) (L2.start N__law_is_frame [.int x, v1]) H (!(isTup d).isSome) := et_not (et_B (ev_isiD (ed_var (v := v1) rfl hd) (kit_tuple d)))
  cases d with
  | tuple ds =>
    have sm : ds.length ≤ 63 ∧ SeqAt.shaped (.tuple ds) = true := sm
    refine q_when (b := ds.isEmpty || !ds.all (ldOk x)) (et_is (et_or (a := false) (b := ds.isEmpty || !ds.all (ldOk x)) isT fun _ => et_or (et_test (ev_is (ev_eqD (e1 := .tuple ds) (e2 := .tuple []) (ed_var (v := v1) rfl hd) (ed_tup eda_nil (by decide)) sm.2 shaped_emp) (by rw [eqv_emp]))) fun _ => et_test (ev_is (ev_neD (e2 := .list []) (EvN.toD (en_lcB (K := K) (ei_tupD (ed_var (v := v1) rfl hd)) (by have := sm.1; omega) (fun i => !ldOk x (ds.getD i .none)) (fun _ => 1) fun H2 i d y Hb Q' e2 hg e3 hy kk => ?_)) (EvN.toD (en_lst (ds := []) eda_nil (by simp))) (shaped_dI _) (shaped_dI [])) (by rw [eqv_nil, none_so, any_range .none (fun e => !ldOk x e) ds, Bool.not_not]; congr 1; rw [List.all_eq_not_any_not, Bool.not_not]))) (Bool.false_or _)) (fun hb H1 e1 => ?_) fun hb H1 e1 => ?_
    · have gd : ds.getD i .none = d := by rw [List.getD_eq_getElem?_getD, hg]; rfl
      refine kk _ Hb (Ex.refl _) rfl ?_ ev_c
      rw [gd]
      exact et_not (et_B (ev_J (S := Any) (ev_var rfl) (ed_var (v := y) rfl hy) h1 h2 trivial))
    · have fr : frB x (.tuple ds) = false := by
        show (!ds.isEmpty && (ds.all (ldOk x) && _)) = false
        cases h1 : ds.isEmpty with
        | true => rfl
        | false =>
          rw [h1] at hb
          have hb : ds.all (ldOk x) = false := by simpa using hb
          rw [hb]
          rfl
      rw [fr] at k
      exact s_ret ev_c fun H2 e2 => k H2 (e1.trans e2)
    · obtain ⟨b1, b2⟩ : ds.isEmpty = false ∧ ds.all (ldOk x) = true := by
        cases h1 : ds.isEmpty <;> cases h2 : ds.all (ldOk x) <;> simp [h1, h2] at hb ⊢
      obtain ⟨ls, rfl, hL⟩ := lds_of b2
      have np_ := np_le h1 h2
      have hL : ∀ l ∈ ls, Lds (np x) l := hL
      have ll : ls.length ≤ 63 := by have := sm.1; rwa [List.length_map] at this
      have fr : frB x (.tuple (ls.map tI)) = decide (topF ls = ls) := by
        show (!(ls.map tI).isEmpty && ((ls.map tI).all (ldOk x) && (risesD (ls.map tI) && apD (ls.map tI)))) = _
        have ap : apD (ls.map tI) = apart ls := by unfold apD; rw [intsOf_map]
        rw [b1, b2, ap, top_frame hL]
        rfl
      rw [fr] at k
      have hd1 := dp_ex e1 _ _ hd
      refine s_ret (ev_is (ev_eqD (e1 := seqD false ((topF ls).map tI)) (e2 := seqD false (ls.map tI)) (EvN.toD (en_call (R := R_law_tops) (ds := [seqD true (ls.map tI)]) (eda_cons (ed_var (v := v1) rfl hd1) eda_nil) rfl ⟨true, np x, ls, rfl, np_.1, np_.2, hL, ll, rfl⟩)) (EvN.toD (en_listOfT (ed_var (v := v1) rfl hd1))) (shaped_tIs false _) (shaped_tIs false _)) ?_) fun H2 e2 => k H2 (e1.trans e2)
      congr 1
      show PyData.eqv (.list _) (.list _) = _
      rw [PyData.eqv]
      exact eqvAll_tIs _ _
  | _ => exact q_when (b := true) (et_is (et_or (b := true) isT fun z => nomatch z) rfl) (fun _ H1 e1 => s_ret ev_c fun H2 e2 => k H2 (e1.trans e2)) fun z => nomatch z

theorem ok__law_is_frameX {f : Addr} {fd : FuncData} (F : Fun K "_law_is_frame" "_law_is_frame" s__law_is_frame f fd) (T : Txt mg)
    (D__law_is_load : DF P w K mg base "_law_is_load" 2 ["sides_here", "item"] (spJ K Any ldOk)) (D__law_tops : DF P w K mg base "_law_tops" 2 ["loads_here"] (spN K 1 R_law_tops)) :
    FnOk P w K mg base CX0 3 f fd ["sides_here", "item"] (spJd frB) := by
  refine F.ok sc__law_is_frame (fun vs H Q E h => by obtain ⟨_, _, rfl, _⟩ := h; rfl) (fun cdv A outer s H vs Q E hr h => ?_)
  obtain ⟨x, v1, rfl, h1, h2, hd, k⟩ := h
  refine ⟨_, (pss_cons (ps_if (PW.pt (pw_or (pt_not (pt_val (pe_callB call_isi (by rfl) T.b_isinstance (by decide +kernel) (pa_cons (pv 1) (pa_cons (pe_bltn (v := .ty "tuple") (u := .type "tuple") (by rfl) T.b_tuple (by decide +kernel) rfl) pa_nil))))) (pw_or (pt_cmpR (op_eqD (hu64 hr)) (pv 1) (pe_tup pa_nil) (nomark _)) (pw_or1 (pt_cmpR (op_neD (hu64 hr)) (pe_lc (own := [("load", 2)]) (g := (gName 2)) (tt := _) rfl sc__law_is_frame.nd (pi_tup (pv 1)) (blkOk_by (N := N__law_is_frame) (sc := defScope s__law_is_frame) (by decide +kernel)) (fun _ _ _ _ _ => (pg_name (i := 2) sc__law_is_frame.nd rfl (Or.inl rfl))) (fun _ _ _ _ _ => (pts_one (pt_not (pt_val (pe_D D__law_is_load (hr.mono (by decide)) (by rfl) (pa_cons (pv 0) (pa_cons (pv 2) pa_nil))))))) (fun _ _ _ _ _ => pe_int)) (pe_lst pa_nil) (nomark _)))))) (pss_one (ps_ret pe_bl)) pss_nil)
      (pss_one (ps_ret (pe_cmpR (op_eqD (hu64 hr)) (pe_D D__law_tops (hr.mono (by decide)) (by rfl) (pa_cons (pv 1) pa_nil)) (pe_callTy call_list_of (by rfl) T.b_list (by decide +kernel) (pa_cons (pv 1) pa_nil)) (nomark _))))), ?_⟩
  refine q_when (b := true) (et_or (a := true) (b := false) (et_not (a := false) (et_B (ev_isTd rfl hd))) fun z => nomatch z) (fun _ H1 e1 => ?_) fun z => nomatch z
  exact s_ret ev_c fun H2 e2 => k H2 (e1.trans e2)

theorem ok__law_is_frameJ {f : Addr} {fd : FuncData} (F : Fun K "_law_is_frame" "_law_is_frame" s__law_is_frame f fd) (T : Txt mg) (D__law_is_load : DF P w K mg base "_law_is_load" 2 ["sides_here", "item"] (spJ K Any ldOk)) (D__law_tops : DF P w K mg base "_law_tops" 2 ["loads_here"] (spN K 1 R_law_tops)) :
    FnOk P w K mg base CX0 3 f fd ["sides_here", "item"] (spJ K frS frB) := fn_J (ok__law_is_frame F T D__law_is_load D__law_tops) (ok__law_is_frameX F T D__law_is_load D__law_tops) frB_dict
end
end K16
set_option Elab.async false
set_option linter.all false
set_option maxRecDepth 100000
set_option maxHeartbeats 4000000
namespace K16
open PySem PySem.Spec PyProof.Rows L2 Evl DL
local macro_rules | `(tactic| walk_at "dl") => `(tactic| first
  | exact ev_c | exact ev_var rfl | exact eda_nil
  | exact ed_var rfl (by assumption)
  | exact ed_int ev_c | exact ed_int (ev_var rfl)
  | (refine eda_cons ?_ ?_ <;> walk_at "dl")
  | (refine ed_int ?_; walk_at "dl")
  | (refine ev_op ?_ ?_ rv_I0 <;> walk_at "dl"))

/-- v tells d, whatever the drawing state becomes -/
def StI (K : PySem.W.Frag) (st lg : Addr) (H : Hp) (v : V) (d : PyData) : Prop := ∀ H', Xp [st, lg] H H' → DL.Itm K H' v d
def StD (K : PySem.W.Frag) (st lg : Addr) (H : Hp) (v : V) (d : PyData) : Prop := ∀ H', Xp [st, lg] H H' → Dp K H' v d
def StA (K : PySem.W.Frag) (st lg : Addr) (H : Hp) (vs : List V) (ds : List PyData) : Prop := ∀ H', Xp [st, lg] H H' → DpAll K H' vs ds
section
variable {K : PySem.W.Frag} {st lg cl : Addr} {n : Nat} {H H' : Hp} {v : V} {d : PyData} {vs : List V} {ds : List PyData}
theorem stI_xp (h : StI K st lg H v d) (x : Xp [st, lg] H H') : StI K st lg H' v d := fun H2 x2 => h H2 (x.trans x2)
theorem stD_xp (h : StD K st lg H v d) (x : Xp [st, lg] H H') : StD K st lg H' v d := fun H2 x2 => h H2 (x.trans x2)
theorem stD_I (h : StD K st lg H v d) : StI K st lg H v d := fun H2 x2 => .dp (h H2 x2)
theorem stD_imm (s : StK st lg cl n H) (hd : Dp K H v d) (hi : imm d = true) : StD K st lg H v d := fun H2 x2 => dp_tx (stk_tx s x2) _ _ hi hd
theorem stA_imm (s : StK st lg cl n H) (hd : DpAll K H vs ds) (hi : immAll ds = true) : StA K st lg H vs ds := fun H2 x2 => dpa_tx (stk_tx s x2) _ _ hi hd
theorem stA_D {p : Addr} (hp : H p = some (.lst vs)) (n1 : p ≠ st) (n2 : p ≠ lg) (ha : StA K st lg H vs ds) : StD K st lg H (.ref p) (.list ds) := fun H2 x2 => .lst (sq_of (x2 _ _ hp (by simp [n1, n2]))) (ha H2 x2)
end
section
variable {P : Program} {w : World} {K : PySem.W.Frag} {mg : Str → Option Value} {base : Heap}
def spOdd (K : PySem.W.Frag) : Sp := fun vs H Q _ => ∃ (st lg cl : Addr) (n : Nat), vs = [.ref st] ∧ n ≤ 9000 ∧ StK st lg cl n H ∧ ∀ v d H', StI K st lg H' v d → frS d → Xp [st, lg] H H' → StK st lg cl (n + 1) H' → Q v H'
abbrev s__law_odd : Stmt := topS 42
abbrev N__law_odd : List Str := ["state"]
theorem sc__law_odd : FnScope N__law_odd ["state"] (defScope s__law_odd) := ⟨rfl, rfl, rfl, by decide +kernel, rfl, by decide +kernel, by decide +kernel⟩
theorem ok__law_odd {f : Addr} {fd : FuncData} (F : Fun K "_law_odd" "_law_odd" s__law_odd f fd) (T : Txt mg)
    (D__law_pick : DF P w K mg base "_law_pick" 2 ["state", "several"] (spPick K))  :
    FnOk P w K mg base CX0 3 f fd ["state"] (spOdd K) := by
  refine F.ok sc__law_odd (fun vs H Q E h => by obtain ⟨_, _, _, _, rfl, _⟩ := h; rfl) (fun cdv A outer s H vs Q E hr h => ?_)
  obtain ⟨st, lg, cl, n, rfl, hn, hst, k⟩ := h
  refine ⟨_, (pss_one (ps_ret (pe_D D__law_pick (hr.mono (by decide)) (by rfl) (pa_cons (pv 0) (pa_cons (pe_lst (pa_cons pe_non (pa_cons pe_bl (pa_cons pe_bl (pa_cons pe_str (pa_cons pe_str (pa_cons (pe_lst pa_nil) (pa_cons pe_dnewK (pa_cons (pe_tup (pa_cons pe_non pa_nil)) (pa_cons (pe_tup (pa_cons pe_str (pa_cons pe_int pa_nil))) (pa_cons (pe_lst (pa_cons (pe_lst (pa_cons pe_int pa_nil)) pa_nil)) (pa_cons (pe_disp (pps_cons pe_int pe_int pps_nil) (by rfl) (by rfl) (fun z => by cases z) (by decide)) (pa_cons (pe_tup (pa_cons pe_bl pa_nil)) pa_nil))))))))))))) pa_nil))))), ?_⟩
  refine ⟨.ref st, rfl, by show 0 ≤ sizeLine; decide, fun p1 q1 p2 q2 => ⟨by show 1 ≤ sizeLine; decide, fun p3 q3 => ⟨by show 2 ≤ sizeLine; decide, fun p4 q4 => ⟨by show 1 ≤ sizeLine; decide, fun p5 q5 => ⟨by show 1 ≤ sizeLine; decide, fun p6 q6 => fun p7 q7 => ⟨upd_same, [(.inl 0, .int 0)], rfl, by show 1 ≤ 15; decide, by show 1 ≤ sizeLine; decide, fun p8 q8 => ⟨by show 12 ≤ sizeLine; decide, fun p9 q9 => ?_⟩⟩⟩⟩⟩⟩⟩
  have m1 : mergeK [] [((Sum.inl 0 : Key), V.int 0)] = [(Sum.inl 0, .int 0)] := by decide
  rw [m1] at q8 q9 ⊢
  have f1 : upd H p1 (.lst []) p1 = some (.lst []) := upd_same
  have e1 : Ex H (upd H p1 (.lst [])) := Ex.new q1
  generalize upd H p1 (.lst []) = H1 at *
  have f2 : upd H1 p2 (.dK []) p2 = some (.dK []) := upd_same
  have e2 : Ex H1 (upd H1 p2 (.dK [])) := Ex.new q2
  generalize upd H1 p2 (.dK []) = H2 at *
  have f3 : upd H2 p3 (.tup [V.non]) p3 = some (.tup [V.non]) := upd_same
  have e3 : Ex H2 (upd H2 p3 (.tup [V.non])) := Ex.new q3
  generalize upd H2 p3 (.tup [V.non]) = H3 at *
  have f4 : upd H3 p4 (.tup [V.str (Str.ofString "a"), V.int 1]) p4 = some (.tup [V.str (Str.ofString "a"), V.int 1]) := upd_same
  have e4 : Ex H3 (upd H3 p4 (.tup [V.str (Str.ofString "a"), V.int 1])) := Ex.new q4
  generalize upd H3 p4 (.tup [V.str (Str.ofString "a"), V.int 1]) = H4 at *
  have f5 : upd H4 p5 (.lst [V.int 0]) p5 = some (.lst [V.int 0]) := upd_same
  have e5 : Ex H4 (upd H4 p5 (.lst [V.int 0])) := Ex.new q5
  generalize upd H4 p5 (.lst [V.int 0]) = H5 at *
  have f6 : upd H5 p6 (.lst [V.ref p5]) p6 = some (.lst [V.ref p5]) := upd_same
  have e6 : Ex H5 (upd H5 p6 (.lst [V.ref p5])) := Ex.new q6
  generalize upd H5 p6 (.lst [V.ref p5]) = H6 at *
  have f7 : upd (upd H6 p7 (.dK [])) p7 (.dK [(Sum.inl 0, .int 0)]) p7 = some (.dK [(Sum.inl 0, .int 0)]) := upd_same
  have e7 : Ex H6 (upd (upd H6 p7 (.dK [])) p7 (.dK [(Sum.inl 0, .int 0)])) := Ex.mut (Ex.new q7) q7
  generalize upd (upd H6 p7 (.dK [])) p7 (.dK [(Sum.inl 0, .int 0)]) = H7 at *
  have f8 : upd H7 p8 (.tup [V.bl true]) p8 = some (.tup [V.bl true]) := upd_same
  have e8 : Ex H7 (upd H7 p8 (.tup [V.bl true])) := Ex.new q8
  generalize upd H7 p8 (.tup [V.bl true]) = H8 at *
  have e9 := Ex.new (o := .lst [V.non, V.bl true, V.bl false, V.str (Str.ofString "0"), V.str (Str.ofString ""), V.ref p1, V.ref p2, V.ref p3, V.ref p4, V.ref p6, V.ref p7, V.ref p8]) q9
  have s8 : StK st lg cl n H8 := stk_ex ((((((((e1.trans e2).trans e3).trans e4).trans e5).trans e6).trans e7).trans e8)) hst
  have np := stk_ne s8 q9
  refine ⟨st, lg, cl, n, p9, _, rfl, upd_same, np.2.1, by simp, by simp, by omega, stk_ex e9 s8, fun r H' hr x1 s1 => ?_⟩
  have n1 := stk_ne hst q1
  have n2 := stk_ne (stk_ex e1 hst) q2
  have n3 := stk_ne (stk_ex (e1.trans e2) hst) q3
  have n4 := stk_ne (stk_ex ((e1.trans e2).trans e3) hst) q4
  have n5 := stk_ne (stk_ex (((e1.trans e2).trans e3).trans e4) hst) q5
  have n6 := stk_ne (stk_ex ((((e1.trans e2).trans e3).trans e4).trans e5) hst) q6
  have n7 := stk_ne (stk_ex (((((e1.trans e2).trans e3).trans e4).trans e5).trans e6) hst) q7
  have n8 := stk_ne (stk_ex ((((((e1.trans e2).trans e3).trans e4).trans e5).trans e6).trans e7) hst) q8
  have x0 : Xp [st, lg] H H' := (Xp.of_ex ((((((((e1.trans e2).trans e3).trans e4).trans e5).trans e6).trans e7).trans e8).trans e9)).trans x1
  have g1 := e9 _ _ (e8 _ _ (e7 _ _ (e6 _ _ (e5 _ _ (e4 _ _ (e3 _ _ (e2 _ _ f1)))))))
  have g2 := e9 _ _ (e8 _ _ (e7 _ _ (e6 _ _ (e5 _ _ (e4 _ _ (e3 _ _ f2))))))
  have g3 := e9 _ _ (e8 _ _ (e7 _ _ (e6 _ _ (e5 _ _ (e4 _ _ f3)))))
  have g4 := e9 _ _ (e8 _ _ (e7 _ _ (e6 _ _ (e5 _ _ f4))))
  have g5 := e9 _ _ (e8 _ _ (e7 _ _ (e6 _ _ f5)))
  have g6 := e9 _ _ (e8 _ _ (e7 _ _ f6))
  have g7 := e9 _ _ (e8 _ _ f7)
  have g8 := e9 _ _ f8
  simp only [List.mem_cons, List.not_mem_nil, or_false] at hr
  rcases hr with rfl | rfl | rfl | rfl | rfl | rfl | rfl | rfl | rfl | rfl | rfl | rfl
  · exact k _ .none H' (fun _ _ => .dp .non) (show frS _ from trivial) x0 s1
  · exact k _ (.bool true) H' (fun _ _ => .dp (.bl _)) (show frS _ from trivial) x0 s1
  · exact k _ (.bool false) H' (fun _ _ => .dp (.bl _)) (show frS _ from trivial) x0 s1
  · exact k _ (.str (Str.ofString "0")) H' (fun _ _ => .dp (.str _)) (show frS _ from trivial) x0 s1
  · exact k _ (.str (Str.ofString "")) H' (fun _ _ => .dp (.str _)) (show frS _ from trivial) x0 s1
  · exact k _ (.list []) H' (fun _ x => .dp (.lst (sq_of (x _ _ (x1 _ _ g1 (by simp [n1.1, n1.2.1])) (by simp [n1.1, n1.2.1]))) .nil)) (show frS _ from trivial) x0 s1
  · exact k _ (.dict []) H' (fun _ x => .d0 (x _ _ (x1 _ _ g2 (by simp [n2.1, n2.2.1])) (by simp [n2.1, n2.2.1]))) (show frS _ from trivial) x0 s1
  · exact k _ (.tuple [.none]) H' (fun _ x => .dp (.tup (st_of (x _ _ (x1 _ _ g3 (by simp [n3.1, n3.2.1])) (by simp [n3.1, n3.2.1]))) (.cons .non .nil))) (show frS _ from ⟨by decide, by decide +kernel⟩) x0 s1
  · exact k _ (.tuple [.str (Str.ofString "a"), .int 1]) H' (fun _ x => .dp (.tup (st_of (x _ _ (x1 _ _ g4 (by simp [n4.1, n4.2.1])) (by simp [n4.1, n4.2.1]))) (.cons (.str _) (.cons (.int _) .nil)))) (show frS _ from ⟨by decide, by decide +kernel⟩) x0 s1
  · exact k _ (.list [.list [.int 0]]) H' (fun _ x => .dp (.lst (sq_of (x _ _ (x1 _ _ g6 (by simp [n6.1, n6.2.1])) (by simp [n6.1, n6.2.1]))) (.cons (.lst (sq_of (x _ _ (x1 _ _ g5 (by simp [n5.1, n5.2.1])) (by simp [n5.1, n5.2.1]))) (.cons (.int _) .nil)) .nil))) (show frS _ from trivial) x0 s1
  · exact k _ (.dict [(.int 0, .int 0)]) H' (fun _ x => .d1 (x _ _ (x1 _ _ g7 (by simp [n7.1, n7.2.1])) (by simp [n7.1, n7.2.1]))) (show frS _ from trivial) x0 s1
  · exact k _ (.tuple [.bool true]) H' (fun _ x => .dp (.tup (st_of (x _ _ (x1 _ _ g8 (by simp [n8.1, n8.2.1])) (by simp [n8.1, n8.2.1]))) (.cons (.bl _) .nil))) (show frS _ from ⟨by decide, by decide +kernel⟩) x0 s1

end
end K16
set_option Elab.async false
set_option linter.all false
set_option maxRecDepth 100000
set_option maxHeartbeats 4000000
/-! a tuple times 0 and more -/
namespace DL
open PySem PySem.Spec PyProof.Rows L2 Evl
theorem tuple_mul0 (l : Addr) (items : Array Value) (n : Nat) (dd : Option Addr) (sl : Array (Option Value)) (u : Tok) (ne : items.isEmpty = false) :
    Meets (Builtin.«tuple.__mul__» ⟨[.ref l, .int 0 u], []⟩) (fun _ R s => s.heap.get? l = some { cls := .type "tuple", dict := dd, data := .seq items n, slots := sl } ∧
      R (.ok (.ret (Value.ref s.heap.objs.size))) { s with heap := s.heap.push { cls := Value.type "tuple", data := Data.seq #[] }, toks := s.toks }) :=
  .of_wp fun prog w A R s h => by
    obtain ⟨hp, g, d, tk, os⟩ := s
    obtain ⟨hl, h⟩ := h
    have f1 := AutoSeq1.idx_int
    have c0 : (decide ((0 : Int) < -(2 ^ 63)) || decide ((0 : Int) ≥ 2 ^ 63)) = false := by decide
    have c1 : (items.isEmpty || ((0 : Int) == 1)) = false := by rw [ne]; decide
    have c2 : (decide ((0 : Int) ≤ 0) || items.isEmpty) = true := by rw [ne]; decide
    wp_walk using AutoSeq1.wpAny_loadPart' hl
    repeat (first
      | (refine wpAny_ite_false (decide_eq_false (by rw [c0]; exact Bool.false_ne_true)) ?_; wp_walk using AutoSeq1.wpAny_loadPart' hl)
      | (refine wpAny_ite_false (decide_eq_false (by rw [c1]; exact Bool.false_ne_true)) ?_; wp_walk using AutoSeq1.wpAny_loadPart' hl)
      | (refine wpAny_ite_true (decide_eq_true c2) ?_; wp_walk using AutoSeq1.wpAny_loadPart' hl)
      | (refine wpAny_ite_false (decide_eq_false (Nat.not_lt.mpr (by decide))) ?_; wp_walk using AutoSeq1.wpAny_loadPart' hl))
    exact ⟨_, rfl, h⟩
def rMul0 (K : PySem.W.Frag) : R2 := fun x y H Q => ∃ l xs, x = .ref l ∧ y = .int 0 ∧ SqT K H l xs ∧ xs ≠ [] ∧ ∀ p, H p = none → Q (.ref p) (upd H p (.tup []))
theorem op_mul0 {X : Cx} : OpR X (binaryOp .Mult) (rMul0 X.K) := by
  intro pins s σ H x y v u Q I rx ry h
  obtain ⟨l, xs, rfl, rfl, hT, hne, q⟩ := h
  cases rx
  obtain ⟨t, rfl⟩ := ry
  obtain ⟨its, r, ⟨⟨cls, dd, data, sl⟩, ho, hc, n, hd⟩, hs⟩ := I.tuple hT
  simp only at hc hd
  subst hc hd
  have hi : its.toArray.isEmpty = false := by
    have le : xs.length = its.length := r.length
    cases its with
    | nil => exact absurd (List.eq_nil_of_length_eq_zero le) hne
    | cons a b => rfl
  refine wpAny_binaryOp_repeat_ref (T := "tuple") (U := "int") (by decide) ⟨_, ho, rfl⟩ (fun s' => typeIs_int s' 0 t) noFill_tuple_mul F.fills_int_mul F.slot_int_rmul repeat_tuple
    F.slot_int_index.lookup (call_meets F.slot_int_rmul (typeIs_int s 0 t) F.entry_int_rmul (F.args_int_rmul_2 _ _) (int_rmul_tuple 0 t l its.toArray n dd sl)
      ⟨ho, rfl, ⟨_, ho, rfl⟩, call_meets F.slot_tuple_mul ⟨_, ho, rfl⟩ F.entry_tuple_mul (F.args_tuple_mul_2 _ _) (tuple_mul0 l its.toArray n dd sl t hi) ⟨ho, ?_⟩⟩)
  refine ⟨.ref s.heap.objs.size, _, I.laid (t' := s.toks) (o := .tup []) (fun b ob q => Heap.get?_push_of_some _ q) (Nat.le_refl _) ?_, rfl, q _ (I.hok.fresh (Nat.le_refl _))⟩
  exact ⟨by show 0 ≤ sizeLine; decide, [], .nil, IsTup.new _ _⟩
theorem op_rep0 {X : Cx} : OpR X (binaryOp .Mult) (fun x y H Q => rMul0 X.K x y H Q ∨ (rMul1 X.K x y H Q ∨ rRepT X.K x y H Q)) := OpR.or op_mul0 op_repT1
theorem ed_rep0 {K : PySem.W.Frag} {σ : L2.St} {H : Hp} {ta tb : TE} {d : PyData} {n : Int} (ha : EvD K ta σ H (.tuple [d])) (hb : Ev tb σ H (.int n)) (h1 : 0 ≤ n) (h2 : n ≤ 1000) : EvD K (tOp (fun x y H Q => rMul0 K x y H Q ∨ (rMul1 K x y H Q ∨ rRepT K x y H Q)) ta tb) σ H (.tuple (List.replicate n.toNat d)) := fun H1 e Q q => by
  by_cases hn : n = 0
  · subst hn
    exact ha H1 e _ fun x H2 e2 hx => hb H2 (e.trans e2) _ fun H3 e3 => by
      cases hx with
      | tup hs hd =>
        refine .inl ⟨_, _, rfl, rfl, ex_t e3 hs, fun z => ?_, fun p hp => q _ _ ((e2.trans e3).trans (Ex.new hp)) (.tup (st_of upd_same) .nil)⟩
        rw [z] at hd
        cases hd
  · have := ed_rep1 ha hb (by omega) h2 H1 e Q q
    exact ha H1 e _ fun x H2 e2 hx => hb H2 (e.trans e2) _ fun H3 e3 => by
      cases hx with
      | tup hs hd =>
        cases hd with
        | cons a b =>
          cases b
          rename_i v
          by_cases hn1 : n = 1
          · subst hn1
            exact .inr (.inl ⟨_, _, rfl, rfl, ex_t e3 hs, q _ H3 (e2.trans e3) (.tup (ex_t e3 hs) (.cons (dp_ex e3 _ _ a) .nil))⟩)
          · refine .inr (.inr ⟨_, n, _, rfl, rfl, ex_t e3 hs, by simp, by omega, h2, by simp, fun l hl => ?_⟩)
            have ef : (List.replicate n.toNat [v]).flatten = List.replicate n.toNat v := by
              induction n.toNat with
              | zero => rfl
              | succ k ih => rw [List.replicate_succ, List.flatten_cons, ih, List.replicate_succ]; rfl
            rw [ef]
            exact q _ _ ((e2.trans e3).trans (Ex.new hl)) (.tup (st_of upd_same) (dpa_rep (dp_ex (e3.trans (Ex.new hl)) _ _ a) _))
end DL
set_option Elab.async false
set_option linter.all false
set_option maxRecDepth 100000
set_option maxHeartbeats 4000000
namespace K16
open PySem PySem.Spec PyProof.Rows L2 Evl DL
local macro_rules | `(tactic| walk_at "dl") => `(tactic| first
  | exact ev_c | exact ev_var rfl | exact eda_nil
  | exact ed_var rfl (by assumption)
  | exact ed_int ev_c | exact ed_int (ev_var rfl)
  | (refine eda_cons ?_ ?_ <;> walk_at "dl")
  | (refine ed_int ?_; walk_at "dl")
  | (refine ev_op ?_ ?_ rv_I0 <;> walk_at "dl"))
def pad (s : Int) (l : List Int) : List Int := l ++ List.replicate (np s - l.length) 0
def lets (s m : Int) (l : List Int) : Bool := decide (mxl (sms s (pad s l)) ≤ m)
/-- a load's beginnings, one longer -/
def lexts (s m : Int) (j : Nat) (l : List Int) : List (List Int) := ((List.range j).map fun (i : Nat) => l ++ [(i : Int)]).filter (lets s m)
def lext (s m : Int) (ls : List (List Int)) : List (List Int) := ls.flatMap (lexts s m (m + 1).toNat)
def litF (s m : Int) : Nat → List (List Int)
  | 0 => [[]]
  | k + 1 => lext s m (litF s m k)
theorem lexts_mem {s m : Int} {j : Nat} {l x : List Int} (h : x ∈ lexts s m j l) : x.length = l.length + 1 := by
  obtain ⟨i, _, rfl⟩ := List.mem_map.mp (List.mem_filter.mp h).1
  rw [List.length_append, List.length_singleton]
theorem litF_len {s m : Int} : ∀ {k : Nat} {l : List Int}, l ∈ litF s m k → l.length = k
  | 0, l, h => by rw [List.mem_singleton.mp h]; rfl
  | k + 1, l, h => by
    obtain ⟨a, ha, hl⟩ := List.mem_flatMap.mp h
    rw [lexts_mem hl, litF_len ha]
theorem lexts_le {s m : Int} {j : Nat} {l : List Int} : (lexts s m j l).length ≤ j := by
  unfold lexts
  refine Nat.le_trans (List.length_filter_le _ _) ?_
  rw [List.length_map, List.length_range]
  exact Nat.le_refl _
theorem lext_le {s m : Int} : ∀ (ls : List (List Int)), (lext s m ls).length ≤ ls.length * (m + 1).toNat
  | [] => by simp [lext]
  | l :: ls => by
    have h := lext_le (s := s) (m := m) ls
    have h2 := lexts_le (s := s) (m := m) (j := (m + 1).toNat) (l := l)
    unfold lext at h ⊢
    rw [List.flatMap_cons, List.length_append, List.length_cons, Nat.add_mul]
    omega
def R_law_let (ds : List PyData) (r : List PyData) : Prop := ∃ s m : Int, ds = [.int s, .int m] ∧ 2 ≤ s ∧ s ≤ 5 ∧ 0 ≤ m ∧ m ≤ 6 ∧ (∀ k, k ≤ np s → (litF s m k).length ≤ 5000) ∧ r = (litF s m (np s)).map tI
section
variable {K : PySem.W.Frag} {σ : L2.St} {H : Hp} {ta tb : TE} {D : Ends} {tz : TS} {ds : List PyData} {v : V}
theorem q_parN {i j : Nat} (h : EvN K ta σ H ds) (hb : Ev tb σ H v) (q : ∀ p vs H1, H p = none → Ex H H1 → H1 p = some (.lst vs) → DpAll K H1 vs ds → tz D ((σ.set i (some (.ref p))).set j (some v)) H1) : tSeq (tPar i j (tCons ta (tCons tb tNil))) tz D σ H :=
  h H (Ex.refl _) _ fun p vs H1 hp e1 h1 hd => hb H1 e1 _ fun H2 e2 => ⟨_, _, rfl, q p vs H2 hp (e1.trans e2) (e2 _ _ h1) (dpa_ex e2 _ _ hd)⟩
end
section
variable {P : Program} {w : World} {K : PySem.W.Frag} {mg : Str → Option Value} {base : Heap}
abbrev s__law_let : Stmt := topS 49
abbrev N__law_let : List Str := ["sides_here", "many", "found", "size_here", "spot", "more", "load", "number", "longer"]
theorem sc__law_let : FnScope N__law_let ["sides_here", "many"] (defScope s__law_let) := ⟨rfl, rfl, rfl, by decide +kernel, rfl, by decide +kernel, by decide +kernel⟩
theorem ok__law_let {f : Addr} {fd : FuncData} (F : Fun K "_law_let" "_law_let" s__law_let f fd) (T : Txt mg)
    (D__law_sums : DF P w K mg base "_law_sums" 2 ["sides_here", "load"] (spN K 2 R_law_sums))  :
    FnOk P w K mg base CX0 3 f fd ["sides_here", "many"] (spN K 2 R_law_let) := by
  refine F.ok sc__law_let (fun vs H Q E h => spN_len h) (fun cdv A outer s H vs Q E hr h => ?_)
  obtain ⟨ds, r, hd, _, ⟨s, m, rfl, h1, h2, h3, h4, h5, rfl⟩, k0⟩ := h
  obtain rfl := dpa_ints (l := [s, m]) hd
  refine ⟨_, (pss_cons (ps_par (i := 2) (j := 3) (by rfl) sc__law_let.nd rfl rfl (by decide) rfl rfl (pa_cons (pe_lst (pa_cons (pe_tup pa_nil) pa_nil)) (pa_cons (pe_op op_fdiv (pe_op op_mul (pv 0) (pe_op op_sub (pv 0) pe_int)) pe_int) pa_nil)) (by rfl))
      (pss_cons (ps_for PassesOwn.never rfl (pi_range1 (by rfl) T.b_range (pa_cons (pv 3) pa_nil)) (pg_name (i := 4) sc__law_let.nd rfl (Or.inl rfl)) (pss_cons (ps_set (i := 5) sc__law_let.nd rfl (.inl rfl) (pe_lst pa_nil))
      (pss_cons (ps_for PassesOwn.never rfl (pi_list (pv 2)) (pg_name (i := 6) sc__law_let.nd rfl (Or.inl rfl)) (pss_one (ps_for PassesOwn.never rfl (pi_range1 (by rfl) T.b_range (pa_cons (pe_op op_add (pv 1) pe_int) pa_nil)) (pg_name (i := 7) sc__law_let.nd rfl (Or.inl rfl)) (pss_cons (ps_set (i := 8) sc__law_let.nd rfl (.inl rfl) (pe_op op_catA (pv 6) (pe_tup (pa_cons (pv 7) pa_nil))))
      (pss_one (ps_if (pt_cmpR op_le (pe_callB (cr_max rfl) (by rfl) T.b_max (by decide +kernel) (pa_cons (pe_D D__law_sums (hr.mono (by decide)) (by rfl) (pa_cons (pv 0) (pa_cons (pe_op op_catA (pv 8) (pe_op op_rep0 (pe_tup (pa_cons pe_int pa_nil)) (pe_op op_sub (pv 3) (pe_callB call_len_seq (by rfl) T.b_len PySem.boot_len (pa_cons (pv 8) pa_nil))))) pa_nil))) pa_nil)) (pv 1) (nomark _)) (pss_one (ps_expr (pe_bm PySem.F.plainAttrs_list PySem.F.slot_list_append PySem.F.type_list_append mt_append (pv 5) (pa_cons (pv 8) pa_nil)))) pss_nil))))))
      (pss_one (ps_set (i := 2) sc__law_let.nd rfl (.inl rfl) (pv 5))))))
      (pss_one (ps_ret (pv 2))))), ?_⟩
  have npn_ := np_le h1 h2
  refine q_parN (K := K) (ds := [tI []]) (v := .int ((np s : Nat) : Int)) (en_lst (eda_cons (ed_tup eda_nil (by decide)) eda_nil) (by simp)) (ev_pairs rfl h1 h2) fun p0 w0 H1 hp0 e1 h1' hd1 => ?_
  refine e_for (K := K) (S := []) (ei_rng1 (n := ((np s : Nat) : Int)) (by walk_at "dl") (by omega)) (fun H2 k σ' Ha => Ex H2 Ha ∧ (∃ pf ws, H pf = none ∧ Ha pf = some (.lst ws) ∧ DpAll K Ha ws ((litF s m k).map tI) ∧ ∃ a b c d e, σ' = [some (.int s), some (.int m), some (.ref pf), some (.int ((np s : Nat) : Int)), a, b, c, d, e]))
    (fun H2 e2 => ⟨Ex.refl _, p0, w0, hp0, e2 _ _ h1', dpa_ex e2 _ _ hd1, none, none, none, none, none, rfl⟩) (fun H2 i σ' Ha _ z => Xp.of_ex z.1) ?_ ?_
  · rintro H2 k d y σ' Ha Hb e2 hg ⟨x1, pf, ws, hpf, hw, hd2, a, b, c, dd, e, rfl⟩ e3 hy
    have hk : k < np s := by have := (List.getElem?_eq_some_iff.mp hg).1; simpa using this
    have len5 := h5 k (by omega)
    have len6 := h5 (k + 1) (by omega)
    have hw := e3 _ _ hw
    have hd2 := dpa_ex e3 _ _ hd2
    show tSeq _ _ _ [some (.int s), some (.int m), some (.ref pf), some (.int ((np s : Nat) : Int)), some y, b, c, dd, e] Hb
    refine qn_asg (K := K) (en_lst eda_nil (by simp)) fun pm vs Hc hpm ec hc1 hcd => ?_
    cases hcd
    have npm : pf ≠ pm := fun z => by rw [z, hpm] at hw; cases hw
    have hwc := ec _ _ hw
    have hdc := dpa_ex ec _ _ hd2
    refine e_for (K := K) (S := [pm]) (ei_lst (Ls.one hc1) (ev_var rfl) hwc (by simpa using npm) hdc (immAll_tI _)) (fun H3 i σ' Ha => Xp [pm] H3 Ha ∧ (∃ us, Ha pm = some (.lst us) ∧ DpAll K Ha us ((((litF s m k).take i).flatMap (lexts s m (m + 1).toNat)).map tI)) ∧ ∃ a b c, σ' = [some (.int s), some (.int m), some (.ref pf), some (.int ((np s : Nat) : Int)), some y, some (.ref pm), a, b, c])
      (fun H3 e4 => ⟨Xp.refl _ _, ⟨_, e4 _ _ hc1, by simpa using .nil⟩, c, dd, e, rfl⟩) (fun H3 i σ' Ha _ z => z.1) ?_ ?_
    · rintro H3 i d y2 σ' Hd He e4 hg2 ⟨x2, ⟨us, hu, hdu⟩, a2, b2, c2, rfl⟩ e5 hy2
      rw [List.getElem?_map] at hg2
      cases hi : (litF s m k)[i]? with
      | none => rw [hi] at hg2; cases hg2
      | some l =>
        rw [hi] at hg2
        cases hg2
        have ll : l.length = k := litF_len (List.mem_of_getElem? hi)
        have tk : ((litF s m k).take (i + 1)).flatMap (lexts s m (m + 1).toNat) = ((litF s m k).take i).flatMap (lexts s m (m + 1).toNat) ++ lexts s m (m + 1).toNat l := by
          rw [List.take_succ, hi]
          simp [List.flatMap_append]
        generalize hA : ((litF s m k).take i).flatMap (lexts s m (m + 1).toNat) = A at hdu tk
        have lenA : A.length ≤ 5000 * 7 := by
          rw [← hA]
          have q := lext_le (s := s) (m := m) ((litF s m k).take i)
          unfold lext at q
          refine Nat.le_trans q ?_
          have q2 : ((litF s m k).take i).length ≤ 5000 := by rw [List.length_take]; omega
          exact Nat.mul_le_mul q2 (by omega)
        have hu := e5 _ _ hu
        have hdu := dpa_ex e5 _ _ hdu
        show tFor _ _ _ _ [some (.int s), some (.int m), some (.ref pf), some (.int ((np s : Nat) : Int)), some y, some (.ref pm), some y2, b2, c2] He
        refine d_for (K := K) (S := [pm]) (ei_rng1 (n := m + 1) (by walk_at "dl") (by omega)) (fun H5 j σ' Ha => Xp [pm] H5 Ha ∧ (∃ us, Ha pm = some (.lst us) ∧ DpAll K Ha us ((A ++ lexts s m j l).map tI)) ∧ ∃ a b, σ' = [some (.int s), some (.int m), some (.ref pf), some (.int ((np s : Nat) : Int)), some y, some (.ref pm), some y2, a, b])
          (fun H5 e6 => ⟨Xp.refl _ _, ⟨_, e6 _ _ hu, by simpa [lexts] using dpa_ex e6 _ _ hdu⟩, b2, c2, rfl⟩) (fun H5 j σ' Ha _ z => z.1) ?_ ?_
        · rintro H5 j d y3 σ' Hf Hg e6 hg3 ⟨x3, ⟨us3, hu3, hdu3⟩, a3, b3, rfl⟩ e7 hy3
          have hj : j < (m + 1).toNat := by have := (List.getElem?_eq_some_iff.mp hg3).1; simpa using this
          rw [rng_get hj] at hg3
          cases hg3
          cases dp_int hy3
          have hu3 := e7 _ _ hu3
          have hdu3 := dpa_ex e7 _ _ hdu3
          have tx : Tx He Hg := ((Tx.of_ex e6).trans (x3.tx (Ls.one (e6 _ _ hu)))).trans (Tx.of_ex e7)
          have hy2 := dp_tx tx _ _ (imm_tI _) hy2
          have lp := dpa_len hdu3
          rw [List.length_map, List.length_append] at lp
          have lle := lexts_le (s := s) (m := m) (j := j) (l := l)
          show tSeq _ _ _ [some (.int s), some (.int m), some (.ref pf), some (.int ((np s : Nat) : Int)), some y, some (.ref pm), some y2, some (.int (j : Int)), b3] Hg
          refine qd_asg (K := K) (d := tI (l ++ [(j : Int)])) (ed_is (ed_cat (ds := dI l) (es := [.int (j : Int)]) (ed_var (v := y2) rfl hy2) (ed_tup (eda_cons (ed_int (ev_var rfl)) eda_nil) (by simp)) (by rw [dI, List.length_map]; show l.length + 1 ≤ _; omega)) (by show PyData.tuple _ = PyData.tuple (List.map PyData.int (l ++ [(j : Int)])); rw [List.map_append]; rfl)) fun vl Hh eh hl => ?_
          have step : lexts s m (j + 1) l = lexts s m j l ++ (if lets s m (l ++ [(j : Int)]) = true then [l ++ [(j : Int)]] else []) := by
            unfold lexts
            rw [List.range_succ, List.map_append, List.filter_append]
            congr 1
            show List.filter _ [l ++ [(j : Int)]] = _
            rw [List.filter_cons]
            rfl
          have lpad : (pad s (l ++ [(j : Int)])).length = np s := by
            unfold pad
            rw [List.length_append, List.length_replicate, List.length_append, List.length_singleton]
            omega
          have lsm := sms_len s (pad s (l ++ [(j : Int)]))
          have ln1 : (l ++ [(j : Int)]).length = k + 1 := by rw [List.length_append, List.length_singleton, ll]
          have ezero : EvD K (tOp (fun x y H Q => rMul0 K x y H Q ∨ (rMul1 K x y H Q ∨ rRepT K x y H Q)) (tTup (tCons (tC (.int 0)) tNil)) (tOp (rI0 fun i j => V.int (i - j)) (tVar 3) (tCB (fun xs H Q => ∃ p ys, xs = [.ref p] ∧ (SqL K H p ys ∨ SqT K H p ys) ∧ Q (.int ys.length) H) (tCons (tVar 8) tNil)))) [some (.int s), some (.int m), some (.ref pf), some (.int ((np s : Nat) : Int)), some y, some (.ref pm), some y2, some (.int (j : Int)), some vl] Hh (.tuple (List.replicate (((np s : Nat) : Int) - ((dI (l ++ [(j : Int)])).length : Int)).toNat (.int 0))) :=
            ed_rep0 (ed_tup (eda_cons (ed_int ev_c) eda_nil) (by simp)) (ev_op (ev_var rfl) (ev_lenT (ed_var (v := vl) rfl hl)) rv_I0) (by rw [dI, List.length_map]; omega) (by omega)
          refine s_when (b := lets s m (l ++ [(j : Int)])) (et_test (ev_is (ev_op (ev_maxL (K := K) (EvN.toD (en_call (K := K) (R := R_law_sums) (ds := [.int s, tI (pad s (l ++ [(j : Int)]))]) (eda_cons (ed_int (ev_var rfl)) (eda_cons (ed_is (ed_cat (ed_var (v := vl) rfl hl) ezero (by rw [List.length_replicate, dI, List.length_map]; omega)) ?_) eda_nil)) rfl ⟨s, _, rfl, h1, h2, lpad, rfl⟩)) (by omega) (mxl_mem (by omega)) fun z hz => mxl_ge hz) (ev_var rfl) rv_I0) rfl)) (fun hb Hi ei => ?_) fun hb Hi ei => ?_
          · have en : (((np s : Nat) : Int) - ((dI (l ++ [(j : Int)])).length : Int)).toNat = np s - (l ++ [(j : Int)]).length := by
              rw [dI, List.length_map]
              omega
            rw [en]
            show PyData.tuple (List.map PyData.int (l ++ [(j : Int)]) ++ _) = PyData.tuple (List.map PyData.int (l ++ [(j : Int)] ++ List.replicate (np s - (l ++ [(j : Int)]).length) 0))
            rw [List.map_append (l₁ := l ++ [(j : Int)]), List.map_replicate]
          · refine d_app (K := K) (d := tI (l ++ [(j : Int)])) (ei _ _ (eh _ _ hu3)) (ev_var rfl) (ed_var (v := vl) rfl (dp_ex ei _ _ hl)) (by omega) fun v Hj ej hv => ?_
            have hj5 := ej _ _ (ei _ _ (eh _ _ hu3))
            refine ⟨Xp.upd ((x3.then e7).then ((eh.trans ei).trans ej)) (by simp), ⟨_, upd_same, ?_⟩, _, _, rfl⟩
            rw [step, if_pos hb, ← List.append_assoc, List.map_append]
            exact dpa_app (dpa_tx (Tx.lst hj5) _ _ (immAll_tI _) (dpa_ex ((eh.trans ei).trans ej) _ _ hdu3)) (.cons (dp_tx (Tx.lst hj5) _ _ (imm_tI _) hv) .nil)
          · refine ⟨(x3.then e7).then (eh.trans ei), ⟨us3, ei _ _ (eh _ _ hu3), ?_⟩, _, _, rfl⟩
            rw [step, if_neg (by rw [hb]; exact Bool.noConfusion), List.append_nil]
            exact dpa_ex (eh.trans ei) _ _ hdu3
        · rintro H5 σ' Hf e6 ⟨x3, ⟨us3, hu3, hdu3⟩, a3, b3, rfl⟩
          rw [List.length_map, List.length_range] at hdu3
          refine ⟨((x2.then e5).then e6).trans x3, ⟨us3, hu3, ?_⟩, _, _, _, rfl⟩
          rw [tk]
          exact hdu3
    · rintro H3 σ' Hd e4 ⟨x2, ⟨us, hu, hdu⟩, a2, b2, c2, rfl⟩
      rw [List.length_map, List.take_of_length_le (Nat.le_refl _)] at hdu
      have e0 : Ex Hb Hd := xp_fresh (ec.trans e4) x2 hpm
      have fr : H pm = none := fresh_back (((e1.trans e2).trans x1).trans e3) hpm
      refine s_asg (ev_var rfl) fun Hz ez => ?_
      exact ⟨(x1.trans e3).trans (e0.trans ez), pm, us, fr, ez _ _ hu, dpa_ex ez _ _ hdu, _, _, _, _, _, rfl⟩
  · rintro H2 σ' Ha e2 ⟨x1, pf, ws, hpf, hw, hd2, a, b, c, dd, e, rfl⟩
    rw [List.length_map, List.length_range] at hd2
    exact ⟨.ref pf, rfl, k0 pf ws Ha hpf ((e1.trans e2).trans x1) hw hd2⟩

end
end K16
set_option Elab.async false
set_option linter.all false
set_option maxRecDepth 100000
set_option maxHeartbeats 4000000
/-! sorted(t), t a tuple of tuples of ints -/
namespace DL
open PySem PySem.Spec PyProof.Rows L2 Evl
section
variable {prog : Program} {w : World} {A : Around} {E : Value → Shared → Prop} {s : Shared}
theorem sorted_tupT {l : Addr} {items : Array Value} {d : Nat} {B : Int} {Q : Value → Shared → Prop} (hl : s.heap.IsTuple l items) (h64 : items.toList.length < 64) (hd : 1 ≤ d) (x : TS.TupsOk s.heap d B items.toList)
    (h : ∀ (h2 : Heap) (p : Addr) (out : Array Value) (c : Nat), (∀ b o, s.heap.get? b = some o → h2.get? b = some o) → s.heap.get? p = none → h2.get? p = some (seqObj "list" out c) → out.toList.Perm items.toList →
      out.toList.Pairwise (fun u v => TS.code B (TS.intsOf s.heap u) ≤ TS.code B (TS.intsOf s.heap v)) → Q (.ref p) { s with heap := h2 }) :
    wpAny (model prog w) A (call (.builtin "sorted") [.ref l]) Q E s := by
  obtain ⟨o, ho, hc, n, hd'⟩ := id hl
  refine Calls.call_function_entry kind_sorted plain_sorted entry_sorted (args_sorted1 _) ?_
  unfold Builtin.«sorted»
  refine wpAny_bind (m := checkCount "sorted" 1 1 _) (wpAny_pure ?_)
  have few : items.toList.length ≤ sizeLine := by rw [sizeLine_eq]; omega
  refine wpAny_bind (wpAny_collect_seq l (T := "tuple") (.inr rfl) ho hc hd' (fun h' k => ?_) (by simpa using few))
  refine wpAny_bind (wpAny_newList ?_ few)
  have k2 : ∀ b o, s.heap.get? b = some o → (h'.push (seqObj "list" items.toList.toArray 0)).get? b = some o := fun b o e => Heap.get?_push_of_some _ (k b o e)
  have hoL : (h'.push (seqObj "list" items.toList.toArray 0)).get? h'.objs.size = some (seqObj "list" items.toList.toArray 0) := Heap.get?_push_size _ rfl
  have lt0 : ∀ b o, s.heap.get? b = some o → b < h'.objs.size := fun b o e => Heap.lt_size (k b o e)
  have x' := x.keeps fun b o e _ => k2 b o e
  have same : ∀ v ∈ items.toList, TS.intsOf (h'.push (seqObj "list" items.toList.toArray 0)) v = TS.intsOf s.heap v := fun v hv => by
    obtain ⟨ns, t, _⟩ := x v hv
    rw [t.ints, (t.keeps fun b o e _ => k2 b o e).ints]
  refine wpAny_bind (wpAny_holding (TS.call_sort_tups (s := { s with heap := h'.push (seqObj "list" items.toList.toArray 0) }) hoL h64 hd x' fun out a1 a2 => ?_))
  obtain ⟨c, hc2⟩ := sortedHeap_at (out := out) hoL
  have sz : s.heap.get? h'.objs.size = none := by
    cases e : s.heap.get? h'.objs.size with
    | none => rfl
    | some o => exact absurd (lt0 _ o e) (Nat.lt_irrefl _)
  refine wpAny_pure ⟨_, rfl, h _ h'.objs.size out c (fun b o e => ?_) sz hc2 a1 (a2.imp_of_mem fun {u v} hu hv q => ?_)⟩
  · rw [sortedHeap_old (Nat.ne_of_lt (lt0 b o e)) (Nat.lt_of_lt_of_le (lt0 b o e) (by rw [Heap.size_push]; exact Nat.le_succ _))]
    exact k2 b o e
  · rw [← same u (a1.mem_iff.mp hu), ← same v (a1.mem_iff.mp hv)]
    exact q
end
section
variable {X : Cx}
/-- sorted(xs), xs a tuple of fewer than 64 tuples of d ints in [0, B) -/
def rSortV (K : PySem.W.Frag) (d : Nat) (B : Int) : List V → Hp → VK → Prop := fun vs H Q => ∃ (a : Addr) (xs : List V), vs = [V.ref a] ∧ SqT K H a xs ∧ xs.length < 64 ∧ (∀ x ∈ xs, ∃ ns, TupI K H x ns ∧ ns.length = d ∧ TS.Bd B ns) ∧
  ∀ (ys : List V) (p : Addr), ys.Perm xs → ys.Pairwise (fun x y => ∀ n m, TupI K H x n → TupI K H y m → TS.code B n ≤ TS.code B m) → H p = none → Q (.ref p) (upd H p (.lst ys))
theorem cr_sortV {d : Nat} {B : Int} (hd : 1 ≤ d) : CallR X (.builtin "sorted") (rSortV X.K d B) := by
  intro pins s σ H vs us Q I r h
  obtain ⟨a, xs, rfl, hs, h64, hx, q⟩ := h
  obtain ⟨its, rv, hl, hz⟩ := I.tuple hs
  rw [Vals.ref1 r]
  obtain ⟨e1, e2⟩ := bkV_refs rv fun x m => by
    obtain ⟨ns, ⟨t, e, _⟩, _⟩ := hx x m
    exact ⟨t, e⟩
  have li : its.toArray.toList = its := by simp
  refine sorted_tupT (d := d) (B := B) hl (by rw [li, ← rv.length]; exact h64) hd (fun v hv => ?_) fun h2 p out c k hsz hp h1 h3 => ?_
  · rw [li] at hv
    obtain ⟨t, rfl⟩ := e2 v hv
    have hm : V.ref t ∈ xs := by
      rw [e1]
      exact List.mem_map.mpr ⟨_, hv, rfl⟩
    obtain ⟨ns, ⟨t', e, ht⟩, hn, hb⟩ := hx _ hm
    cases e
    exact ⟨ns, tupI_raw I ht, hn, hb⟩
  · rw [li] at h1
    have h4 : ∀ u ∈ out.toList, ∃ a, u = Value.ref a := fun u hu => e2 u (h1.mem_iff.mp hu)
    have hp2 : (out.toList.map bkV).Perm xs := by
      rw [e1]
      exact h1.map bkV
    have hn : H p = none := by
      cases e : H p with
      | none => rfl
      | some o =>
        obtain ⟨oo, ho⟩ := objOk_get (I.hok p o e)
        rw [hsz] at ho
        cases ho
    refine ⟨.ref p, upd H p (.lst (out.toList.map bkV)), I.call' (ch := []) (s' := { s with heap := h2 }) rfl (Un.laidN k hsz hn) (I.hok.laidN k hn ⟨by rw [hp2.length_eq, sizeLine_eq]; omega, out.toList, c, bkV_vals h4, hp⟩) I.bare (fun _ z => nomatch z), rfl, q _ _ hp2 ?_ hn⟩
    rw [List.pairwise_map]
    refine List.Pairwise.imp (fun {u v} huv n m hn hm => ?_) h3
    obtain ⟨t, et, ht⟩ := hn
    obtain ⟨t', et', ht'⟩ := hm
    have i1 : TS.intsOf s.heap u = n := by
      rw [bkV_ref et]
      exact (tupI_raw I ht).ints
    have i2 : TS.intsOf s.heap v = m := by
      rw [bkV_ref et']
      exact (tupI_raw I ht').ints
    rw [← i1, ← i2]
    exact huv
end
end DL
set_option Elab.async false
set_option linter.all false
set_option maxRecDepth 100000
set_option maxHeartbeats 4000000
/-! t[::-1], t a tuple -/
namespace DL
open PySem PySem.Spec PyProof.Rows L2 Evl
section
variable {prog : Program} {w : World} {A : Around} {E : Value → Shared → Prop} {s : Shared}
theorem rev_adjust (n : Nat) : Builtin.Slice.sliceAdjust none none (-1) (n : Int) = ((n : Int) - 1, -1) := rfl
theorem rev_places (n : Nat) : Builtin.Slice.slicePlaces ((n : Int) - 1) (-1) (-1) = n := by
  unfold Builtin.Slice.slicePlaces
  rw [if_neg (by decide), show (- -1 : Int) = 1 by decide, Int.ediv_one]
  split <;> omega
theorem rev_pick (xs : Array Value) : ((List.range xs.size).filterMap fun (k : Nat) => xs[(((xs.size : Nat) : Int) - 1 + (k : Int) * (-1)).toNat]?).toArray = xs.toList.reverse.toArray := by
  congr 1
  have gen : ∀ (l : List Nat) (f g : Nat → Option Value), (∀ k ∈ l, f k = g k) → l.filterMap f = l.filterMap g := fun l f g h => by
    induction l with
    | nil => rfl
    | cons a l ih =>
      rw [List.filterMap_cons, List.filterMap_cons, h a List.mem_cons_self, ih fun k hk => h k (List.mem_cons_of_mem _ hk)]
  have e := gen (List.range xs.size) (fun (k : Nat) => xs[(((xs.size : Nat) : Int) - 1 + (k : Int) * (-1)).toNat]?) (fun k => xs.toList.reverse[k]?) fun k hk => by
    have hk := List.mem_range.mp hk
    show xs[(((xs.size : Nat) : Int) - 1 + (k : Int) * (-1)).toNat]? = _
    rw [List.getElem?_reverse (by simpa using hk), Array.getElem?_toList, Array.length_toList]
    congr 1
    omega
  rw [e]
  have l : xs.size = xs.toList.reverse.length := by simp
  rw [l]
  generalize xs.toList.reverse = ys
  refine List.ext_getElem? fun i => ?_
  have : ∀ (ys : List Value), (List.range ys.length).filterMap (fun k => ys[k]?) = ys := fun ys => by
    induction ys with
    | nil => rfl
    | cons y ys ih =>
      rw [List.length_cons, List.range_succ_eq_map, List.filterMap_cons]
      simp only [List.getElem?_cons_zero, List.filterMap_map]
      congr 1
  rw [this]
theorem sliceRev {sl : Addr} {vs : Value} {n : Nat} {Q : Int × Int × Nat → Shared → Prop} (hs : s.heap.IsSliceOf sl .none .none vs) (ps : IsPart vs (some (-1)))
    (h : Q ((n : Int) - 1, -1, n) s) : wpAny (model prog w) A (Builtin.Slice.sliceApplied (.ref sl) (pure (n : Int))) Q E s := by
  obtain ⟨os, hos, hcs, hds⟩ := id hs
  cases ps with
  | int i t =>
    unfold Builtin.Slice.sliceApplied Builtin.Slice.sliceFields
    refine wpAny_bind (wpAny_bind (wpAny_field hos hds (x := .none) rfl (wpAny_bind (wpAny_field hos hds (x := .none) rfl (wpAny_bind (wpAny_field hos hds (x := .int (-1) t) rfl (wpAny_pure ?_)))))))
    refine wpAny_bind (slicePart_int ?_)
    show wpAny _ _ (if ((-1 : Int) == 0) = true then _ else _) _ _ s
    rw [if_neg (by decide)]
    refine wpAny_bind (slicePart_none (wpAny_bind (slicePart_none (wpAny_bind (wpAny_pure ?_)))))
    show wpAny _ _ (pure ((n : Int) - 1, (-1 : Int), Builtin.Slice.slicePlaces ((n : Int) - 1) (-1) (-1))) _ _ s
    rw [rev_places]
    exact wpAny_pure h
theorem getItem_tuple_rev {t sl : Addr} {items : Array Value} {vs : Value} {Q : Value → Shared → Prop} (ht : IsTup s.heap t items) (hs : s.heap.IsSliceOf sl .none .none vs) (ps : IsPart vs (some (-1)))
    (h : Q (.ref s.heap.objs.size) { s with heap := s.heap.push { cls := .type "tuple", data := .seq items.toList.reverse.toArray } }) (hsz : items.size ≤ sizeLine) : wpAny (model prog w) A (getItem (.ref t) (.ref sl)) Q E s := by
  have htake : sizeOk (.seq items.toList.reverse.toArray) := by
    show items.toList.reverse.toArray.size ≤ sizeLine
    simpa using hsz
  obtain ⟨os, hos, hcs, hds⟩ := id hs
  have hTs : s.TypeIs (.ref sl) "slice" := ⟨os, hos, hcs⟩
  unfold getItem
  try with_reducible refine wpAny_holding ?_
  first | refine wpAny_bind (wpAny_pure ?_) | skip
  refine wpAny_bind (wpAny_sequenceKey ht.typeIs (by decide) ?_)
  refine wpAny_bind (wpAny_callSpecial?_slot (name := Str.ofString "__getitem__") ht.typeIs PyProof.Rows.slot_tuple_getitem
    (wpAny_call_entry PyProof.Rows.slot_tuple_getitem ht.typeIs PyProof.Rows.entry_tuple_getitem ?_ (PyProof.Rows.args_tuple_getitem _ _)))
  show wpAny _ _ (Builtin.Tuple.tupleItemsOf (.ref t) >>= _) _ _ s
  refine wpAny_bind (tupleItemsOf_ ht ?_)
  refine wpAny_bind (wpAny_typeOf hTs ?_)
  rw [if_pos (by decide)]
  refine wpAny_bind (sliceRev hs ps ?_)
  show wpAny _ _ (if (((items.size : Nat) : Int) - 1 == 0 && (-1 : Int) == 1 && items.size == items.size) = true then _ else _) _ _ s
  have hno : ¬ ((((items.size : Nat) : Int) - 1 == 0 && (-1 : Int) == 1 && items.size == items.size) = true) := by
    have : ((-1 : Int) == 1) = false := by decide
    rw [this, Bool.and_false, Bool.false_and]
    exact Bool.false_ne_true
  rw [if_neg hno, rev_pick]
  first
    | exact wpAny_bind (m := Builtin.Tuple.tupleExact _) (wpAny_newObj_type (wpAny_pure ⟨_, rfl, wpAny_pure h⟩) htake)
    | exact wpAny_bind (m := Builtin.Tuple.tupleExact _) (wpAny_newObj_type (wpAny_bind (wpAny_pure (wpAny_pure ⟨_, rfl, wpAny_pure h⟩))) htake)
    | exact wpAny_bind (wpAny_bind (m := Builtin.Tuple.tupleExact _) (wpAny_newObj_type (wpAny_pure (wpAny_pure ⟨_, rfl, wpAny_pure h⟩)) htake))
    | exact wpAny_bind (wpAny_bind (m := Builtin.Tuple.tupleExact _) (wpAny_newObj_type (wpAny_pure ⟨_, rfl, wpAny_pure h⟩) htake))
end
section
variable {X : Cx}
def tRevT (K : PySem.W.Frag) (te : TE) : TE := fun σ H Q => te σ H fun x H1 => ∃ a xs, x = .ref a ∧ SqT K H1 a xs ∧ ∀ p, H1 p = none → Q (.ref p) (upd H1 p (.tup xs.reverse))
theorem pe_revT {e : Expr} {te : TE} {k : Nat} {p1 p2 p3 pos : Pos} (he : PE X e te) : PE X (.Subscript e (.Slice none none (some (.UnaryOp .USub (.Constant (.int 1) k p1) p2)) p3) pos) (tRevT X.K te) := by
  refine ⟨fun pins s σ H Q I h => ?_⟩
  refine Subscript_ (thn (he.run pins s σ H _ I h) fun v s1 ⟨x, H1, I1, r1, q1⟩ => ?_)
  obtain ⟨a, xs, ex, hx, q⟩ := q1
  subst ex
  cases r1
  have hst : PO X (some (.UnaryOp .USub (.Constant (.int 1) k p1) p2)) (tPart (tUn (rU fun i => .int (-i)) (tC (.int 1)))) := po_some (pe_un un_neg pe_int)
  refine wpAny_Slice (thn (po_none.run pins s1 σ H1 (fun o H2 => o = none ∧ H2 = H1) I1 ⟨rfl, rfl⟩) fun vl s2 ⟨l, H2, I2, pl, el, e2⟩ => ?_)
  subst el e2
  refine thn (po_none.run pins s2 σ H2 (fun o H3 => o = none ∧ H3 = H2) I2 ⟨rfl, rfl⟩) fun vu s3 ⟨u, H3, I3, pu, eu, e3⟩ => ?_
  subst eu e3
  refine thn (hst.run pins s3 σ H3 (fun o H4 => o = some (-1) ∧ H4 = H3) I3 ⟨1, rfl, -1, rfl, rfl, rfl⟩) fun vs s4 ⟨o, H4, I4, ps, eo, e4⟩ => ?_
  subst eo e4
  cases pl
  cases pu
  have I5 : Inv X pins σ H4 { s4 with heap := s4.heap.push { cls := .type "slice", data := .fields #[.none, .none, vs] } } := I4.kept (t' := s4.toks) fun b ob q => Heap.get?_push_of_some _ q
  obtain ⟨its, r, ht, hz⟩ := I5.tuple hx
  have hlen := r.length
  show wpAny (model X.prog X.w) X.A (subscriptTail e (.Slice none none (some (.UnaryOp .USub (.Constant (.int 1) k p1) p2)) p3) (.ref a) (.ref s4.heap.objs.size)) (EP X pins σ Q) X.xe { s4 with heap := s4.heap.push { cls := .type "slice", data := .fields #[.none, .none, vs] } }
  refine tail_any (ops := [.ref a, .ref s4.heap.objs.size]) ht.typeIs PyProof.Rows.slot_tuple_getitem.lookup ?_ (by with_unfolding_all rfl)
  refine getItem_tuple_rev ht (Heap.IsSliceOf.new _ .none .none vs) ps ?_ (by rw [List.size_toArray]; omega)
  refine ⟨.ref _, _, I5.laid (t' := s4.toks) (o := .tup xs.reverse) (fun b ob q => Heap.get?_push_of_some _ q) (Nat.le_refl _) ?_, rfl, q _ (I5.hok.fresh (Nat.le_refl _))⟩
  exact ⟨by rw [List.length_reverse]; omega, _, r.reverse, IsTup.new _ _⟩
end
theorem ed_revT {K : PySem.W.Frag} {σ : L2.St} {H : Hp} {te : TE} {ds : List PyData} (h : EvD K te σ H (.tuple ds)) : EvD K (tRevT K te) σ H (.tuple ds.reverse) := fun H1 e Q q =>
  h H1 e _ fun x H2 e2 hx => by
    cases hx with
    | tup hs ha => exact ⟨_, _, rfl, hs, fun p hp => q _ _ (e2.trans (Ex.new hp)) (.tup (st_of upd_same) (dpa_ex (Ex.new hp) _ _ (dpa_rev ha)))⟩
end DL
set_option Elab.async false
set_option linter.all false
set_option maxRecDepth 100000
set_option maxHeartbeats 4000000
namespace K16
open PySem PySem.Spec PyProof.Rows L2 Evl DL
/-! values that stay what they are while the drawing state moves -/
/-- items of a tuple that is compared: few, flat, that nothing changes -/
structure FL (k : Nat) (ds : List PyData) : Prop where
  few : ds.length ≤ k
  all : ∀ d ∈ ds, imm d = true ∧ d.canLay0 = true ∧ d.depth ≤ 10
theorem immAll_of : ∀ {ds : List PyData}, (∀ d ∈ ds, imm d = true) → immAll ds = true
  | [], _ => by simp [immAll]
  | d :: ds, h => by rw [immAll, h d List.mem_cons_self, immAll_of fun e he => h e (List.mem_cons_of_mem _ he)]; rfl
theorem FL.imm {k : Nat} {ds : List PyData} (h : FL k ds) : imm (.tuple ds) = true := by
  rw [DL.imm]
  exact immAll_of fun d hd => (h.all d hd).1
theorem lay_of : ∀ {ds : List PyData}, (∀ d ∈ ds, d.canLay0 = true ∧ d.depth ≤ 10) → PyData.canLayAll0 ds = true ∧ PyData.depthAll ds ≤ 11
  | [], _ => by simp [PyData.canLayAll0, PyData.depthAll]
  | d :: ds, h => by
    have a := h d List.mem_cons_self
    have b := lay_of fun e he => h e (List.mem_cons_of_mem _ he)
    rw [PyData.canLayAll0, PyData.depthAll, a.1, b.1]
    exact ⟨rfl, by omega⟩
theorem shaped_of {ds : List PyData} (h : ∀ d ∈ ds, d.canLay0 = true ∧ d.depth ≤ 10) : SeqAt.shaped (.tuple ds) = true := by
  have a := lay_of h
  show ((PyData.tuple ds).canLay0 && decide ((PyData.tuple ds).depth ≤ 64)) = true
  rw [Bool.and_eq_true]
  refine ⟨by rw [PyData.canLay0]; exact a.1, decide_eq_true ?_⟩
  rw [PyData.depth]
  omega
theorem FL.frS {k : Nat} {ds : List PyData} (h : FL k ds) (hk : k ≤ 63) : frS (.tuple ds) := ⟨Nat.le_trans h.few hk, shaped_of fun d hd => (h.all d hd).2⟩
theorem FL.mono {k m : Nat} {ds : List PyData} (h : FL k ds) (hk : k ≤ m) : FL m ds := ⟨Nat.le_trans h.few hk, h.all⟩
theorem FL.app {k m : Nat} {ds es : List PyData} (h : FL k ds) (g : FL m es) : FL (k + m) (ds ++ es) := ⟨by have := h.few; have := g.few; rw [List.length_append]; omega, fun d hd => (List.mem_append.mp hd).elim (h.all d) (g.all d)⟩
theorem FL.cut {k : Nat} {ds : List PyData} {lo hi : Option Int} (h : FL k ds) : FL k (DL.cutD ds lo hi) := ⟨by have := h.few; unfold DL.cutD; rw [List.length_take, List.length_drop]; omega, fun d hd => h.all d (List.mem_of_mem_drop (List.mem_of_mem_take hd))⟩
theorem FL.rev {k : Nat} {ds : List PyData} (h : FL k ds) : FL k ds.reverse := ⟨by have := h.few; rw [List.length_reverse]; omega, fun d hd => h.all d (List.mem_reverse.mp hd)⟩
theorem FL.nil : FL 0 [] := ⟨Nat.le_refl _, fun _ h => by simp at h⟩
theorem FL.one {d : PyData} (h1 : DL.imm d = true) (h2 : d.canLay0 = true) (h3 : d.depth ≤ 10) : FL 1 [d] := ⟨Nat.le_refl _, fun e he => by rw [List.mem_singleton.mp he]; exact ⟨h1, h2, h3⟩⟩
theorem flat_tI (l : List Int) : DL.imm (tI l) = true ∧ (tI l).canLay0 = true ∧ (tI l).depth ≤ 10 := ⟨imm_tI l, by rw [PyData.canLay0]; exact canLay_ints l, by have := depth_ints l; rw [PyData.depth]; omega⟩
theorem FL.loads {k : Nat} {ls : List (List Int)} (h : ls.length ≤ k) : FL k (ls.map tI) := ⟨by rw [List.length_map]; exact h, fun d hd => by
  obtain ⟨l, _, rfl⟩ := List.mem_map.mp hd
  exact flat_tI l⟩
section
variable {K : PySem.W.Frag} {st lg cl : Addr} {n : Nat} {σ : L2.St} {H H' : Hp} {S : PyData → Prop} {te tb : TE} {ta : TA} {v : V} {vs : List V} {d : PyData} {ds es : List PyData} {D : Ends} {tz : TS}
def Gd (K : PySem.W.Frag) (st lg : Addr) (S : PyData → Prop) (H : Hp) (v : V) : Prop := ∃ d, StI K st lg H v d ∧ S d
theorem gd_xp (h : Gd K st lg S H v) (x : Xp [st, lg] H H') : Gd K st lg S H' v := by
  obtain ⟨d, h1, h2⟩ := h
  exact ⟨d, stI_xp h1 x, h2⟩
theorem gd_ex (h : Gd K st lg S H v) (e : Ex H H') : Gd K st lg S H' v := gd_xp h (Xp.of_ex e)
def EvS (K : PySem.W.Frag) (st lg : Addr) (te : TE) (σ : L2.St) (H : Hp) (d : PyData) : Prop := ∀ H1, Ex H H1 → ∀ Q : VK, (∀ v H2, Ex H1 H2 → StD K st lg H2 v d → Q v H2) → te σ H1 Q
def EvSA (K : PySem.W.Frag) (st lg : Addr) (ta : TA) (σ : L2.St) (H : Hp) (ds : List PyData) : Prop := ∀ H1, Ex H H1 → ∀ Q : List V → Hp → Prop, (∀ vs H2, Ex H1 H2 → StA K st lg H2 vs ds → Q vs H2) → ta σ H1 Q
def EvG (K : PySem.W.Frag) (st lg : Addr) (S : PyData → Prop) (te : TE) (σ : L2.St) (H : Hp) : Prop := ∀ H1, Ex H H1 → ∀ Q : VK, (∀ v H2, Ex H1 H2 → Gd K st lg S H2 v → Q v H2) → te σ H1 Q
def EvGA (K : PySem.W.Frag) (st lg : Addr) (S : PyData → Prop) (m : Nat) (ta : TA) (σ : L2.St) (H : Hp) : Prop := ∀ H1, Ex H H1 → ∀ Q : List V → Hp → Prop, (∀ vs H2, Ex H1 H2 → vs.length = m → (∀ v ∈ vs, Gd K st lg S H2 v) → Q vs H2) → ta σ H1 Q
/-- a new list of good values -/
def EvGL (K : PySem.W.Frag) (st lg : Addr) (S : PyData → Prop) (m : Nat) (te : TE) (σ : L2.St) (H : Hp) : Prop := ∀ H1, Ex H H1 → ∀ Q : VK, (∀ p vs H2, H1 p = none → Ex H1 H2 → H2 p = some (.lst vs) → vs.length = m → (∀ v ∈ vs, Gd K st lg S H2 v) → Q (.ref p) H2) → te σ H1 Q
theorem evs_imm (s : StK st lg cl n H) (h : EvD K te σ H d) (hi : DL.imm d = true) : EvS K st lg te σ H d := fun H1 e Q q => h H1 e Q fun v H2 e2 hv => q v H2 e2 (stD_imm (stk_ex (e.trans e2) s) hv hi)
theorem evsa_nil : EvSA K st lg tNil σ H [] := fun H1 _ Q q => q [] H1 (Ex.refl _) fun _ _ => .nil
theorem evsa_cons (h : EvS K st lg te σ H d) (t : EvSA K st lg ta σ H ds) : EvSA K st lg (tCons te ta) σ H (d :: ds) := fun H1 e Q q =>
  h H1 e _ fun v H2 e2 hv => t H2 (e.trans e2) _ fun vs H3 e3 hvs => q _ H3 (e2.trans e3) fun H4 x => .cons (hv H4 ((Xp.of_ex e3).trans x)) (hvs H4 x)
theorem evs_lst (s : StK st lg cl n H) (h : EvSA K st lg ta σ H ds) (hl : ds.length ≤ 1000) : EvS K st lg (tLst ta) σ H (.list ds) := fun H1 e Q q =>
  h H1 e _ fun vs H2 e2 hvs => by
    have len := dpa_len (hvs H2 (Xp.refl _ _))
    refine ⟨by rw [sizeLine_eq]; omega, fun p hp => ?_⟩
    have s2 := stk_ne (stk_ex (e.trans e2) s) hp
    refine q _ _ (e2.trans (Ex.new hp)) fun H4 x => .lst (sq_of (x _ _ upd_same (by simp [s2.1, s2.2.1]))) (hvs H4 ((Xp.of_ex (Ex.new hp)).trans x))
theorem evs_catL (s : StK st lg cl n H) (ha : EvD K te σ H (.tuple ds)) (hi : immAll ds = true) (n1 : ds ≠ []) (hb : EvSA K st lg ta σ H es) (n2 : es ≠ []) (hl : ds.length + es.length ≤ 1000) : EvS K st lg (tOp (rCatA K) te (tTup ta)) σ H (.tuple (ds ++ es)) := fun H1 e Q q =>
  ha H1 e _ fun x H2 e2 hx => hb H2 (e.trans e2) _ fun ws H3 e3 hws => by
    cases hx with
    | tup hs hd =>
      rename_i a vs
      have len := dpa_len (hws H3 (Xp.refl _ _))
      have len2 := dpa_len hd
      refine ⟨by rw [sizeLine_eq]; omega, fun p hp => ?_⟩
      have e4 := Ex.new (o := .tup ws) hp
      refine ⟨a, p, vs, ws, rfl, rfl, ex_t (e3.trans e4) hs, st_of upd_same, by rw [sizeLine_eq]; omega, fun z => ?_, fun _ z => ?_, fun _ _ l hl => ?_⟩
      · rw [z] at len2
        exact absurd (List.eq_nil_of_length_eq_zero len2.symm) n1
      · rw [z] at len
        exact absurd (List.eq_nil_of_length_eq_zero len.symm) n2
      · have e5 := Ex.new (o := .tup (vs ++ ws)) hl
        have s5 := stk_ex (((e.trans e2).trans (e3.trans e4)).trans e5) s
        have s4 := stk_ne (stk_ex ((e.trans e2).trans (e3.trans e4)) s) hl
        refine q _ _ ((e2.trans (e3.trans e4)).trans e5) fun H6 x => .tup (st_of (x _ _ upd_same (by simp [s4.1, s4.2.1]))) (dpa_app (dpa_tx (stk_tx s5 x) _ _ hi (dpa_ex ((e3.trans e4).trans e5) _ _ hd)) (hws H6 ((Xp.of_ex (e4.trans e5)).trans x)))
theorem evg_s (h : EvS K st lg te σ H d) (hS : S d) : EvG K st lg S te σ H := fun H1 e Q q => h H1 e Q fun v H2 e2 hv => q v H2 e2 ⟨d, stD_I hv, hS⟩
theorem evg_imm (s : StK st lg cl n H) (h : EvD K te σ H d) (hi : DL.imm d = true) (hS : S d) : EvG K st lg S te σ H := evg_s (evs_imm s h hi) hS
theorem evg_list (s : StK st lg cl n H) (h : EvN K te σ H ds) (hi : immAll ds = true) (hS : S (.list ds)) : EvG K st lg S te σ H := fun H1 e Q q => h H1 e Q fun p vs H2 hp e2 h2 hd => by
  have s1 := stk_ne (stk_ex e s) hp
  have s2 := stk_ex (e.trans e2) s
  exact q _ H2 e2 ⟨.list ds, stD_I (stA_D h2 s1.1 s1.2.1 (stA_imm s2 hd hi)), hS⟩
theorem evg_dict (s : StK st lg cl n H) (hS : S (.dict [])) : EvG K st lg S tDNewK σ H := fun H1 e Q q p hp => by
  have s1 := stk_ne (stk_ex e s) hp
  exact q _ _ (Ex.new hp) ⟨.dict [], fun H2 x => .d0 (x _ _ upd_same (by simp [s1.1, s1.2.1])), hS⟩
theorem evga_nil : EvGA K st lg S 0 tNil σ H := fun H1 _ Q q => q [] H1 (Ex.refl _) rfl fun _ h => by simp at h
theorem evga_cons {m : Nat} (h : EvG K st lg S te σ H) (t : EvGA K st lg S m ta σ H) : EvGA K st lg S (m + 1) (tCons te ta) σ H := fun H1 e Q q =>
  h H1 e _ fun v H2 e2 hv => t H2 (e.trans e2) _ fun vs H3 e3 hl hvs => q _ H3 (e2.trans e3) (by rw [List.length_cons, hl]) fun x hx => by
    rcases List.mem_cons.mp hx with rfl | hx
    · exact gd_ex hv e3
    · exact hvs x hx
theorem evgl_lst {m : Nat} (h : EvGA K st lg S m ta σ H) (hm : m ≤ 1000) : EvGL K st lg S m (tLst ta) σ H := fun H1 e Q q =>
  h H1 e _ fun vs H2 e2 hl hvs => ⟨by rw [sizeLine_eq]; omega, fun p hp => q p vs _ (fresh_back e2 hp) (e2.trans (Ex.new hp)) upd_same hl fun v hv => gd_ex (hvs v hv) (Ex.new hp)⟩
/-- xs + [..], xs at a name -/
theorem evgl_cat {m k i : Nat} {a : Addr} {xs : List V} (hi : σ[i]? = some (some (.ref a))) (ha : H a = some (.lst xs)) (hx : ∀ v ∈ xs, Gd K st lg S H v) (hm : xs.length = m) (h : EvGL K st lg S k tb σ H) (hl : m + k ≤ 1000) : EvGL K st lg S (m + k) (tOp rCat (tVar i) tb) σ H := fun H1 e Q q =>
  ⟨_, hi, h H1 e _ fun p vs H2 hp e2 h2 hk hvs => ⟨a, p, xs, vs, rfl, rfl, e2 _ _ (e _ _ ha), h2, by rw [sizeLine_eq]; omega, fun l hl => q l _ _ (fresh_back e2 hl) (e2.trans (Ex.new hl)) upd_same (by rw [List.length_append]; omega) fun v hv => by
    rcases List.mem_append.mp hv with hv | hv
    · exact gd_ex (hx v hv) ((e.trans e2).trans (Ex.new hl))
    · exact gd_ex (hvs v hv) (Ex.new hl)⟩⟩
/-- return _law_pick(state, [..]) -/
theorem r_pick {m : Nat} {E : XK} (s : StK st lg cl n H) (h0 : σ[0]? = some (some (.ref st))) (h : EvGL K st lg S m te σ H) (m1 : 1 ≤ m) (m2 : m ≤ 1000) (hn : n ≤ 10000)
    (q : ∀ v d H1, StI K st lg H1 v d → S d → Xp [st, lg] H H1 → StK st lg cl (n + 1) H1 → D.rt v H1) : tRet (tCall (spPick K) [] E (tCons (tVar 0) (tCons te tNil))) D σ H :=
  ⟨_, h0, h H (Ex.refl _) _ fun p vs H2 hp e2 h2 hl hvs => by
    have s1 := stk_ne s hp
    refine ⟨st, lg, cl, n, p, vs, rfl, h2, s1.2.1, by omega, by omega, hn, stk_ex e2 s, fun r H3 hr x s3 => ?_⟩
    obtain ⟨d, hd, hS⟩ := gd_xp (hvs r hr) x
    exact q r d H3 hd hS ((Xp.of_ex e2).trans x) s3⟩
theorem q_draw {E : XK} {k : Nat} {size : Int} (s : StK st lg cl n H) (h0 : σ[0]? = some (some (.ref st))) (h : Ev te σ H (.int size)) (m1 : 1 ≤ size) (m2 : size ≤ 1000) (hn : n ≤ 10000)
    (q : ∀ r H1, 0 ≤ r → r < size → Xp [st, lg] H H1 → StK st lg cl (n + 1) H1 → tz D (σ.set k (some (.int r))) H1) : tSeq (tAsg (tCall (spDraw K) [] E (tCons (tVar 0) (tCons te tNil))) (gName k)) tz D σ H :=
  ⟨_, h0, h H (Ex.refl _) _ fun H2 e2 => ⟨st, lg, cl, n, size, rfl, m1, m2, hn, stk_ex e2 s, fun r H3 h1 h2 x s3 => q r H3 h1 h2 ((Xp.of_ex e2).trans x) s3⟩⟩
end
end K16
set_option Elab.async false
set_option linter.all false
set_option maxRecDepth 100000
set_option maxHeartbeats 4000000
namespace K16
open PySem PySem.Spec PyProof.Rows L2 Evl DL
local macro_rules | `(tactic| walk_at "dl") => `(tactic| first
  | exact ev_c | exact ev_var rfl | exact eda_nil
  | exact ed_var rfl (by assumption)
  | exact ed_int ev_c | exact ed_int (ev_var rfl)
  | (refine eda_cons ?_ ?_ <;> walk_at "dl")
  | (refine ed_int ?_; walk_at "dl")
  | (refine ev_op ?_ ?_ rv_I0 <;> walk_at "dl"))

section
variable {K : PySem.W.Frag} {σ : L2.St} {H : Hp} {ta te : TE}
theorem ev_intB {k : Bool} (h : Ev ta σ H (.bl k)) : Ev (tCB (fun xs H Q => (∃ i, xs = [.int i] ∧ Q (.int i) H) ∨ ∃ k, xs = [.bl k] ∧ Q (.int (if k then 1 else 0)) H) (tCons ta tNil)) σ H (.int (if k then 1 else 0)) := fun H1 e Q q =>
  h H1 e _ fun H2 e2 => .inr ⟨k, rfl, q H2 e2⟩
theorem sl_tupAK {X : Cx} (K : PySem.W.Frag) (h : X.K = K) : SlR X (rSlA K) := h ▸ sl_tupA
theorem op_catAKn {X : Cx} (K : PySem.W.Frag) (h : X.K = K) : OpR X (binaryOp .Add) (rCatA K) := h ▸ op_catA
/-- tuple(sorted(t)), t a tuple of loads -/
theorem ed_sortV {m : Nat} {ls : List (List Int)} (h : EvD K te σ H (.tuple (ls.map tI))) (hL : ∀ l ∈ ls, Lds m l) (hl : ls.length < 64) :
    ∀ H1, Ex H H1 → ∀ Q : VK, (∀ (v : V) (H2 : Hp) (ms : List (List Int)), Ex H1 H2 → ms.length = ls.length → Dp K H2 v (.tuple (ms.map tI)) → Q v H2) →
      (tCB (fun xs H Q => ∃ p ys, xs = [.ref p] ∧ ((SqL K H p ys ∧ ∀ l, H l = none → Q (.ref l) (upd H l (.tup ys))) ∨ (SqT K H p ys ∧ Q (.ref p) H))) (tCons (tCB (rSortV K m 100) (tCons te tNil)) tNil)) σ H1 Q := fun H1 e Q q =>
  h H1 e _ fun x H2 e2 hx => by
    cases hx with
    | tup hs hd =>
      rename_i a xs
      obtain ⟨ks, rfl, rfl, hk⟩ := keys_of hd
      refine ⟨a, _, rfl, hs, by simpa using hl, fun x hx => ?_, fun ys p pm _ hp => ?_⟩
      · obtain ⟨k, hk1, rfl⟩ := List.mem_map.mp hx
        have := hL k.2 (List.mem_map_of_mem hk1)
        exact ⟨k.2, ⟨k.1, rfl, hk k hk1⟩, this.1, lds_bd this⟩
      · have e3 := Ex.new (o := .lst ys) hp
        have each : ∀ y ∈ ys, ∃ l, Dp K (upd H2 p (.lst ys)) y (tI l) := fun y hy => by
          obtain ⟨k, hk1, rfl⟩ := List.mem_map.mp (pm.mem_iff.mp hy)
          exact ⟨k.2, .tup (ex_t e3 (hk k hk1)) (ints_dpa _)⟩
        have mk : ∀ (zs : List V), (∀ y ∈ zs, ∃ l, Dp K (upd H2 p (.lst ys)) y (tI l)) → ∃ ms : List (List Int), DpAll K (upd H2 p (.lst ys)) zs (ms.map tI) := fun zs => by
          induction zs with
          | nil => exact fun _ => ⟨[], .nil⟩
          | cons z zs ih =>
            intro hz
            obtain ⟨l, hl⟩ := hz z List.mem_cons_self
            obtain ⟨ms, hms⟩ := ih fun y hy => hz y (List.mem_cons_of_mem _ hy)
            exact ⟨l :: ms, .cons hl hms⟩
        obtain ⟨ms, hms⟩ := mk ys each
        have len : ms.length = (ks.map (·.2)).length := by
          have l1 := dpa_len hms
          have l2 := pm.length_eq
          rw [List.length_map] at l1 l2
          rw [List.length_map]
          omega
        exact ⟨p, ys, rfl, .inl ⟨sq_of upd_same, fun t ht => q _ _ ms ((e2.trans e3).trans (Ex.new ht)) len (.tup (st_of upd_same) (dpa_ex (Ex.new ht) _ _ hms))⟩⟩
end
theorem gds_imm {K : PySem.W.Frag} {st lg cl : Addr} {n : Nat} {H : Hp} (s : StK st lg cl n H) : ∀ {zs : List V} {ds : List PyData}, DpAll K H zs ds → immAll ds = true → ∀ v ∈ zs, Gd K st lg (fun _ => True) H v
  | _, _, .nil, _ => fun v hv => by simp at hv
  | _, _, .cons h t, hi => fun v hv => by
    rw [immAll, Bool.and_eq_true] at hi
    rcases List.mem_cons.mp hv with rfl | hv
    · exact ⟨_, stD_I (stD_imm s h hi.1), trivial⟩
    · exact gds_imm s t hi.2 v hv
theorem qg_asg {K : PySem.W.Frag} {st lg : Addr} {S : PyData → Prop} {m k : Nat} {te : TE} {σ : L2.St} {H : Hp} {D : Ends} {tz : TS} (h : EvGL K st lg S m te σ H) (q : ∀ p vs H1, H p = none → Ex H H1 → H1 p = some (.lst vs) → vs.length = m → (∀ v ∈ vs, Gd K st lg S H1 v) → tz D (σ.set k (some (.ref p))) H1) : tSeq (tAsg te (gName k)) tz D σ H := h H (Ex.refl H) _ q
def spBentL (K : PySem.W.Frag) : Sp := fun vs H Q _ => ∃ (st lg cl : Addr) (n : Nat) (v1 : V) (l : List Int), vs = [.ref st, v1] ∧ n ≤ 8000 ∧ StK st lg cl n H ∧ Dp K H v1 (tI l) ∧ 1 ≤ l.length ∧ l.length ≤ 100 ∧
  ∀ v d H', StI K st lg H' v d → Xp [st, lg] H H' → StK st lg cl (n + 2) H' → Q v H'
def spBentF (K : PySem.W.Frag) : Sp := fun vs H Q _ => ∃ (st lg cl : Addr) (n : Nat) (s : Int) (v1 v2 : V) (a : List Int) (ls : List (List Int)) (l : List Int), vs = [.ref st, v1, v2] ∧ n ≤ 8000 ∧ 2 ≤ s ∧ s ≤ 5 ∧ StK st lg cl n H ∧
  Dp K H v1 (.tuple ((a :: ls).map tI)) ∧ ls.length ≤ 9 ∧ (∀ x ∈ a :: ls, Lds (np s) x) ∧ Dp K H v2 (tI l) ∧ Lds (np s) l ∧ ∀ v d H', StI K st lg H' v d → frS d → Xp [st, lg] H H' → StK st lg cl (n + 1) H' → Q v H'
section
variable {P : Program} {w : World} {K : PySem.W.Frag} {mg : Str → Option Value} {base : Heap}
abbrev s__law_bent_load : Stmt := topS 50
abbrev N__law_bent_load : List Str := ["state", "load", "spot", "some", "item"]
theorem sc__law_bent_load : FnScope N__law_bent_load ["state", "load"] (defScope s__law_bent_load) := ⟨rfl, rfl, rfl, by decide +kernel, rfl, by decide +kernel, by decide +kernel⟩
theorem ok__law_bent_load {f : Addr} {fd : FuncData} (F : Fun K "_law_bent_load" "_law_bent_load" s__law_bent_load f fd) (T : Txt mg)
    (D__law_draw : DF P w K mg base "_law_draw" 1 ["state", "size_here"] (spDraw K)) (D__law_pick : DF P w K mg base "_law_pick" 2 ["state", "several"] (spPick K))  :
    FnOk P w K mg base CX0 3 f fd ["state", "load"] (spBentL K) := by
  refine F.ok sc__law_bent_load (fun vs H Q E h => by obtain ⟨_, _, _, _, _, _, rfl, _⟩ := h; rfl) (fun cdv A outer s H vs Q E hr h => ?_)
  obtain ⟨st, lg, cl, n, v1, l, rfl, hn, hst, hl, l1, l2, k⟩ := h
  refine ⟨_, (pss_cons (ps_set (i := 2) sc__law_bent_load.nd rfl (.inr rfl) (pe_D D__law_draw (hr.mono (by decide)) (by rfl) (pa_cons (pv 0) (pa_cons (pe_callB call_len_seq (by rfl) T.b_len PySem.boot_len (pa_cons (pv 1) pa_nil)) pa_nil))))
      (pss_cons (ps_setLc (i := 3) (own := [("item", 4)]) (g := (gName 4)) (tt := tYes) rfl sc__law_bent_load.nd rfl rfl (sw_true rfl rfl rfl (by decide +kernel)) (pi_list (pe_lst (pa_cons (pe_un un_neg pe_int) (pa_cons pe_int (pa_cons pe_int (pa_cons pe_bl (pa_cons pe_non (pa_cons pe_str (pa_cons (pe_tup (pa_cons pe_int pa_nil)) pa_nil))))))))) (blkOk_by (N := N__law_bent_load) (sc := defScope s__law_bent_load) (by decide +kernel)) (fun _ _ _ _ _ => (pg_name (i := 4) sc__law_bent_load.nd rfl (Or.inl rfl))) (fun _ _ _ _ _ => pts_nil) (fun _ _ _ _ _ => (pe_op (op_catAKn K rfl) (pe_op (op_catAKn K rfl) (pe_slice (sl_tupAK K rfl) (pv 1) po_none (po_some (pv 2))) (pe_tup (pa_cons (pv 4) pa_nil))) (pe_slice (sl_tupAK K rfl) (pv 1) (po_some (pe_op op_add (pv 2) pe_int)) po_none))))
      (pss_one (ps_ret (pe_D D__law_pick (hr.mono (by decide)) (by rfl) (pa_cons (pv 0) (pa_cons (pe_op op_cat (pv 3) (pe_lst (pa_cons (pe_callTy call_list_of (by rfl) T.b_list (by decide +kernel) (pa_cons (pv 1) pa_nil)) (pa_cons (pe_op (op_catAKn K rfl) (pv 1) (pe_tup (pa_cons pe_int pa_nil))) (pa_cons (pe_slice (sl_tupAK K rfl) (pv 1) (po_some pe_int) po_none) (pa_cons pe_non (pa_cons pe_int (pa_cons pe_dnewK pa_nil)))))))) pa_nil))))))), ?_⟩
  refine q_draw (K := K) (size := (l.length : Int)) hst rfl (ev_is (ev_lenT (ed_var (v := v1) rfl hl)) (by rw [dI, List.length_map])) (by omega) (by omega) (by omega) fun r H1 r1 r2 x1 s1 => ?_
  have hl1 := dp_tx (stk_tx hst x1) _ _ (imm_tI _) hl
  have fl : FL 100 (dI l) := ⟨by rw [dI, List.length_map]; exact l2, fun d hd => by
    obtain ⟨z, _, rfl⟩ := List.mem_map.mp hd
    exact ⟨rfl, by simp [PyData.canLay0], by simp [PyData.depth]⟩⟩
  have items : EvD K (tLst (tCons (tUn (rU fun i => .int (-i)) (tC (.int 1))) (tCons (tC (.int 100)) (tCons (tC (.int 99)) (tCons (tC (.bl true)) (tCons (tC .non) (tCons (tC (.str (Str.ofString "1"))) (tCons (tTup (tCons (tC (.int 0)) tNil)) tNil)))))))) [some (.ref st), some v1, some (.int r), none, none] H1 (.list [.int (-1), .int 100, .int 99, .bool true, .none, .str (Str.ofString "1"), .tuple [.int 0]]) :=
    EvN.toD (en_lst (eda_cons (ed_int (ev_un ev_c ru_neg)) (eda_cons (ed_int ev_c) (eda_cons (ed_int ev_c) (eda_cons (ed_bool ev_c) (eda_cons (ed_none ev_c) (eda_cons (ed_str ev_c) (eda_cons (ed_tup (eda_cons (ed_int ev_c) eda_nil) (by simp)) eda_nil))))))) (by simp))
  have small7 : ∀ i, i < 7 → imm (([.int (-1), .int 100, .int 99, .bool true, .none, .str (Str.ofString "1"), .tuple [.int 0]] : List PyData).getD i .none) = true := by decide +kernel
  refine qn_asg (K := K) (en_lc (ei_lstD items (by decide +kernel)) (by simp) (fun i => .tuple (DL.cutD (dI l) none (some r) ++ [([.int (-1), .int 100, .int 99, .bool true, .none, .str (Str.ofString "1"), .tuple [.int 0]] : List PyData).getD i .none] ++ DL.cutD (dI l) (some (r + 1)) none)) (fun i hi => ?_) fun H2 i d y Hb Q' e2 hg e3 hy kk => ?_) fun p vs H2 hp e2 h2 hd2 => ?_
  · rw [DL.imm]
    refine immAll_app (immAll_app (immAll_of fun d hd => (fl.cut.all d hd).1) ?_) (immAll_of fun d hd => (fl.cut.all d hd).1)
    rw [immAll, small7 i hi]
    rfl
  · have gd : ([.int (-1), .int 100, .int 99, .bool true, .none, .str (Str.ofString "1"), .tuple [.int 0]] : List PyData).getD i .none = d := by rw [List.getD_eq_getElem?_getD, hg]; rfl
    rw [gd] at kk
    have hl3 := dp_ex (e2.trans e3) _ _ hl1
    have c1 := (fl.cut (lo := none) (hi := some r)).few
    have c2 := (fl.cut (lo := some (r + 1)) (hi := none)).few
    exact kk _ Hb (Ex.refl _) rfl (ed_cat (ed_cat (ed_sl (ed_var (v := v1) rfl hl3) eo_none (eo_some (ev_var rfl))) (ed_tup (eda_cons (ed_var rfl hy) eda_nil) (by simp)) (by simp only [List.length_singleton]; omega)) (ed_sl (ed_var (v := v1) rfl hl3) (eo_some (ev_op (ev_var rfl) ev_c rv_I0)) eo_none) (by simp only [List.length_append, List.length_singleton]; omega))
  · have hl2' := dp_ex e2 _ _ hl1
    have s2 := stk_ex e2 s1
    have im : immAll ((List.range 7).map fun i => PyData.tuple (DL.cutD (dI l) none (some r) ++ [([.int (-1), .int 100, .int 99, .bool true, .none, .str (Str.ofString "1"), .tuple [.int 0]] : List PyData).getD i .none] ++ DL.cutD (dI l) (some (r + 1)) none)) = true := immAll_of fun d hd => by
      obtain ⟨i, hi, rfl⟩ := List.mem_map.mp hd
      rw [DL.imm]
      refine immAll_app (immAll_app (immAll_of fun d hd => (fl.cut.all d hd).1) ?_) (immAll_of fun d hd => (fl.cut.all d hd).1)
      rw [immAll, small7 i (List.mem_range.mp hi)]
      rfl
    have good := gds_imm s2 hd2 im
    have lv : vs.length = 7 := by have := dpa_len hd2; simpa using this
    have il : imm (tI l) = true := imm_tI l
    have ir : immAll (dI l) = true := immAll_of fun d hd => (fl.all d hd).1
    refine r_pick (K := K) (S := fun _ => True) (m := 7 + 6) s2 rfl (evgl_cat (H := H2) (a := p) rfl h2 good lv (evgl_lst (evga_cons (evg_list s2 (en_listOfT (ed_var (v := v1) rfl hl2')) ir trivial) (evga_cons (evg_imm s2 (ed_cat (ed_var (v := v1) rfl hl2') (ed_tup (eda_cons (ed_int ev_c) eda_nil) (by simp)) (by rw [dI, List.length_map]; show l.length + 1 ≤ _; omega)) (by rw [DL.imm]; exact immAll_app ir rfl) trivial) (evga_cons (evg_imm s2 (ed_sl (ed_var (v := v1) rfl hl2') (eo_some ev_c) eo_none) (by rw [DL.imm]; exact immAll_of fun d hd => (fl.cut.all d hd).1) trivial) (evga_cons (evg_imm s2 (ed_none ev_c) rfl trivial) (evga_cons (evg_imm s2 (ed_int ev_c) rfl trivial) (evga_cons (evg_dict s2 trivial) evga_nil)))))) (by decide)) (by decide)) (by decide) (by decide) (by omega) fun v d H3 hv _ x3 s3 => ?_
    exact k v d H3 hv ((x1.trans (Xp.of_ex e2)).trans x3) s3

end
end K16
set_option Elab.async false
set_option linter.all false
set_option maxRecDepth 100000
set_option maxHeartbeats 4000000
namespace K16
open PySem PySem.Spec PyProof.Rows L2 Evl DL
local macro_rules | `(tactic| walk_at "dl") => `(tactic| first
  | exact ev_c | exact ev_var rfl | exact eda_nil
  | exact ed_var rfl (by assumption)
  | exact ed_int ev_c | exact ed_int (ev_var rfl)
  | (refine eda_cons ?_ ?_ <;> walk_at "dl")
  | (refine ed_int ?_; walk_at "dl")
  | (refine ev_op ?_ ?_ rv_I0 <;> walk_at "dl"))
section
variable {P : Program} {w : World} {K : PySem.W.Frag} {mg : Str → Option Value} {base : Heap}
abbrev s__law_bent_frame : Stmt := topS 51
abbrev N__law_bent_frame : List Str := ["state", "tops", "load", "less", "some", "truth", "number"]
theorem sc__law_bent_frame : FnScope N__law_bent_frame ["state", "tops", "load"] (defScope s__law_bent_frame) := ⟨rfl, rfl, rfl, by decide +kernel, rfl, by decide +kernel, by decide +kernel⟩
theorem ok__law_bent_frame {f : Addr} {fd : FuncData} (F : Fun K "_law_bent_frame" "_law_bent_frame" s__law_bent_frame f fd) (T : Txt mg)
    (D__law_pick : DF P w K mg base "_law_pick" 2 ["state", "several"] (spPick K))  :
    FnOk P w K mg base CX0 3 f fd ["state", "tops", "load"] (spBentF K) := by
  refine F.ok sc__law_bent_frame (fun vs H Q E h => by obtain ⟨_, _, _, _, _, _, _, _, _, _, rfl, _⟩ := h; rfl) (fun cdv A outer s H vs Q E hr h => ?_)
  obtain ⟨st, lg, cl, n, s, v1, v2, a, ls, l, rfl, hn, h1, h2, hst, hd, ll, hL, hv2, hl2, k⟩ := h
  refine ⟨_, (pss_cons (ps_set (i := 3) sc__law_bent_frame.nd rfl (.inl rfl) (pe_callTy call_tuple_of (by rfl) T.b_tuple (by decide +kernel) (pa_cons (pe_lc (own := [("number", 6)]) (g := (gName 6)) (tt := tYes) rfl sc__law_bent_frame.nd (pi_tup (pe_ix ix_tup (pv 1) pe_int (fun _ _ => rfl))) (blkOk_by (N := N__law_bent_frame) (sc := defScope s__law_bent_frame) (by decide +kernel)) (fun _ _ _ _ _ => (pg_name (i := 6) sc__law_bent_frame.nd rfl (Or.inl rfl))) (fun _ _ _ _ _ => pts_nil) (fun _ _ _ _ _ => (pe_op op_sub (pv 6) (pe_callTy call_int1 (by rfl) T.b_int (by decide +kernel) (pa_cons (pe_cmpR op_gt (pv 6) pe_int (nomark _)) pa_nil))))) pa_nil)))
      (pss_cons (ps_set (i := 4) sc__law_bent_frame.nd rfl (.inl rfl) (pe_lst (pa_cons (pe_op op_catA (pv 1) (pe_slice sl_tupA (pv 1) po_none (po_some pe_int))) (pa_cons (pe_revT (pv 1)) (pa_cons (pe_op op_catA (pe_tup (pa_cons (pv 3) pa_nil)) (pv 1)) (pa_cons (pe_callTy call_list_of (by rfl) T.b_list (by decide +kernel) (pa_cons (pv 1) pa_nil)) (pa_cons (pe_tup pa_nil) (pa_cons pe_non (pa_cons (pe_op op_catA (pv 1) (pe_tup (pa_cons (pv 2) pa_nil))) (pa_cons (pe_tup (pa_cons (pv 2) pa_nil)) (pa_cons (pe_tup (pa_cons pe_non pa_nil)) pa_nil)))))))))))
      (pss_cons (ps_set (i := 5) sc__law_bent_frame.nd rfl (.inl rfl) (pe_callTy call_tuple_of (by rfl) T.b_tuple (by decide +kernel) (pa_cons (pe_lc (own := [("number", 6)]) (g := (gName 6)) (tt := tYes) rfl sc__law_bent_frame.nd (pi_tup (pe_ix ix_tup (pv 1) pe_int (fun _ _ => rfl))) (blkOk_by (N := N__law_bent_frame) (sc := defScope s__law_bent_frame) (by decide +kernel)) (fun _ _ _ _ _ => (pg_name (i := 6) sc__law_bent_frame.nd rfl (Or.inl rfl))) (fun _ _ _ _ _ => pts_nil) (fun _ _ _ _ _ => (pe_ifExp (pt_cmpR op_lt (pv 6) pe_int (nomark _)) (pe_cmpR op_eq (pv 6) pe_int (nomark _)) (pv 6)))) pa_nil)))
      (pss_one (ps_ret (pe_D D__law_pick (hr.mono (by decide)) (by rfl) (pa_cons (pv 0) (pa_cons (pe_op op_cat (pv 4) (pe_lst (pa_cons (pe_op op_catA (pe_slice sl_tupA (pv 1) po_none (po_some pe_int)) (pe_tup (pa_cons (pe_lst (pa_cons pe_int pa_nil)) pa_nil))) (pa_cons (pe_callTy call_tuple_of (by rfl) T.b_tuple (by decide +kernel) (pa_cons (pe_callB (cr_sortV (d := np s) (B := 100) (np_le h1 h2).1) (by rfl) T.b_sorted (by decide +kernel) (pa_cons (pe_op op_catA (pv 1) (pe_tup (pa_cons (pv 2) pa_nil))) pa_nil)) pa_nil)) (pa_cons pe_dnewK (pa_cons (pv 1) (pa_cons (pe_op op_catA (pe_tup (pa_cons (pv 5) pa_nil)) (pe_slice sl_tupA (pv 1) (po_some pe_int) po_none)) pa_nil))))))) pa_nil)))))))), ?_⟩
  have fls : FL 10 ((a :: ls).map tI) := FL.loads (by rw [List.length_cons]; omega)
  have la := hL a List.mem_cons_self
  have np_ := np_le h1 h2
  have lal : a.length = np s := la.1
  have at0 : ∀ H', Ex H H' → ∀ {σ' : L2.St}, σ'[1]? = some (some v1) → EvD K (tOp (rIxT K) (tVar 1) (tC (.int 0))) σ' H' (tI a) := fun H' e σ' h1' => ed_ixT (k := 0) (ed_var (v := v1) h1' (dp_ex e _ _ hd)) ev_c rfl
  refine qd_asg (K := K) (ed_tupleOf (EvN.toD (en_lc (ei_tupD (at0 H (Ex.refl _) rfl)) (by rw [dI, List.length_map]; omega) (fun i => .int (a.getD i 0 - (if decide (a.getD i 0 > 0) then 1 else 0))) (fun _ _ => rfl) fun H2 i d y Hb Q' e2 hg e3 hy kk => ?_))) fun v3 H1 e1 hv3 => ?_
  · rw [dI, List.getElem?_map] at hg
    cases hi : a[i]? with
    | none => rw [hi] at hg; cases hg
    | some x =>
      rw [hi] at hg
      cases hg
      cases dp_int hy
      have gx : a.getD i 0 = x := by rw [List.getD_eq_getElem?_getD, hi]; rfl
      rw [gx] at kk
      exact kk _ Hb (Ex.refl _) rfl (ed_int (ev_op (ev_var rfl) (ev_intB (ev_op (ev_var rfl) ev_c rv_I0)) rv_I0))
  have less : FL 1 [PyData.tuple ((List.range (dI a).length).map fun i => PyData.int (a.getD i 0 - (if decide (a.getD i 0 > 0) then 1 else 0)))] := by
    have e : ((List.range (dI a).length).map fun i => PyData.int (a.getD i 0 - (if decide (a.getD i 0 > 0) then 1 else 0))) = dI ((List.range (dI a).length).map fun i => a.getD i 0 - (if decide (a.getD i 0 > 0) then 1 else 0)) := by
      show _ = List.map PyData.int (List.map _ (List.range (dI a).length))
      rw [List.map_map]
      rfl
    rw [e]
    have f := flat_tI ((List.range (dI a).length).map fun i => a.getD i 0 - (if decide (a.getD i 0 > 0) then 1 else 0))
    exact FL.one f.1 f.2.1 f.2.2
  have s1 := stk_ex e1 hst
  have hd1 := dp_ex e1 _ _ hd
  have hv21 := dp_ex e1 _ _ hv2
  have one2 : FL 1 [tI l] := by have f := flat_tI l; exact FL.one f.1 f.2.1 f.2.2
  have lls : ((a :: ls).map tI).length ≤ 10 := fls.few
  have lcut : ∀ lo hi, (DL.cutD ((a :: ls).map tI) lo hi).length ≤ 10 := fun lo hi => fls.cut.few
  generalize hT : (a :: ls).map tI = Td at *
  generalize hLs : PyData.tuple ((List.range (dI a).length).map fun i => PyData.int (a.getD i 0 - (if decide (a.getD i 0 > 0) then 1 else 0))) = Ld_ at *
  have g1 : EvG K st lg frS (tOp (rCatA K) (tVar 1) (tSl (rSlA K) (tVar 1) tNoPart (tPart (tC (.int 1))))) [some (.ref st), some v1, some v2, some v3, none, none, none] H1 :=
    evg_imm s1 (ed_cat (ed_var (v := v1) rfl hd1) (ed_sl (ed_var (v := v1) rfl hd1) eo_none (eo_some ev_c)) (by have := lcut none (some 1); omega)) (fls.app fls.cut).imm ((fls.app fls.cut).frS (by decide))
  have g2 : EvG K st lg frS (tRevT K (tVar 1)) [some (.ref st), some v1, some v2, some v3, none, none, none] H1 := evg_imm s1 (ed_revT (ed_var (v := v1) rfl hd1)) fls.rev.imm (fls.rev.frS (by decide))
  have g3 : EvG K st lg frS (tOp (rCatA K) (tTup (tCons (tVar 3) tNil)) (tVar 1)) [some (.ref st), some v1, some v2, some v3, none, none, none] H1 :=
    evg_imm s1 (ed_cat (ed_tup (eda_cons (ed_var (v := v3) rfl hv3) eda_nil) (by simp)) (ed_var (v := v1) rfl hd1) (by simp only [List.length_singleton]; omega)) (less.app fls).imm ((less.app fls).frS (by decide))
  have fim : immAll Td = true := immAll_of fun d hd => (fls.all d hd).1
  have g4 : EvG K st lg frS (tCB (fun xs H Q => ∃ p ys, xs = [.ref p] ∧ (SqL K H p ys ∨ SqT K H p ys) ∧ ∀ l, H l = none → Q (.ref l) (upd H l (.lst ys))) (tCons (tVar 1) tNil)) [some (.ref st), some v1, some v2, some v3, none, none, none] H1 := evg_list s1 (en_listOfT (ed_var (v := v1) rfl hd1)) fim trivial
  have g5 : EvG K st lg frS (tTup tNil) [some (.ref st), some v1, some v2, some v3, none, none, none] H1 := evg_imm s1 (ed_tup eda_nil (by simp)) FL.nil.imm (FL.nil.frS (by decide))
  have g6 : EvG K st lg frS (tC .non) [some (.ref st), some v1, some v2, some v3, none, none, none] H1 := evg_imm s1 (ed_none ev_c) rfl trivial
  have g7 : EvG K st lg frS (tOp (rCatA K) (tVar 1) (tTup (tCons (tVar 2) tNil))) [some (.ref st), some v1, some v2, some v3, none, none, none] H1 :=
    evg_imm s1 (ed_cat (ed_var (v := v1) rfl hd1) (ed_tup (eda_cons (ed_var (v := v2) rfl hv21) eda_nil) (by simp)) (by simp only [List.length_singleton]; omega)) (fls.app one2).imm ((fls.app one2).frS (by decide))
  have g8 : EvG K st lg frS (tTup (tCons (tVar 2) tNil)) [some (.ref st), some v1, some v2, some v3, none, none, none] H1 := evg_imm s1 (ed_tup (eda_cons (ed_var (v := v2) rfl hv21) eda_nil) (by simp)) one2.imm (one2.frS (by decide))
  have oneN : FL 1 [PyData.none] := FL.one rfl (by simp [PyData.canLay0]) (by simp [PyData.depth])
  have g9 : EvG K st lg frS (tTup (tCons (tC .non) tNil)) [some (.ref st), some v1, some v2, some v3, none, none, none] H1 := evg_imm s1 (ed_tup (eda_cons (ed_none ev_c) eda_nil) (by simp)) oneN.imm (oneN.frS (by decide))
  refine qg_asg (K := K) (evgl_lst (evga_cons g1 (evga_cons g2 (evga_cons g3 (evga_cons g4 (evga_cons g5 (evga_cons g6 (evga_cons g7 (evga_cons g8 (evga_cons g9 evga_nil))))))))) (by decide)) fun p vs H2 hp e2 h2 hl9 good => ?_
  have hd2 := dp_ex e2 _ _ hd1
  refine qd_asg (K := K) (ed_tupleOf (EvN.toD (en_lc (ei_tupD (at0 H2 (e1.trans e2) rfl)) (by rw [dI, List.length_map]; omega) (fun i => if decide (a.getD i 0 < 2) then .bool (decide (a.getD i 0 = 1)) else .int (a.getD i 0)) (fun i _ => by show imm (if decide (a.getD i 0 < 2) = true then _ else _) = true; split <;> rfl) fun H3 i d y Hb Q' e3 hg e4 hy kk => ?_))) fun v5 H3 e3 hv5 => ?_
  · rw [dI, List.getElem?_map] at hg
    cases hi : a[i]? with
    | none => rw [hi] at hg; cases hg
    | some x =>
      rw [hi] at hg
      cases hg
      cases dp_int hy
      have gx : a.getD i 0 = x := by rw [List.getD_eq_getElem?_getD, hi]; rfl
      rw [gx] at kk
      refine kk _ Hb (Ex.refl _) rfl ?_
      by_cases c : x < 2
      · rw [if_pos (decide_eq_true c)]
        exact ed_bool (ev_if (b := decide (x < 2)) (et_test (ev_op (ev_var rfl) ev_c rv_I0)) (fun _ => ev_is (ev_op (ev_var rfl) ev_c (rv_eq rfl)) (by rw [decide_vint])) fun z => by rw [decide_eq_true c] at z; cases z)
      · rw [if_neg (by simpa using c)]
        exact ed_int (ev_if (b := decide (x < 2)) (et_test (ev_op (ev_var rfl) ev_c rv_I0)) (fun z => absurd (of_decide_eq_true z) c) fun _ => ev_var rfl)
  have truth : ∀ (m : Nat), FL 1 [PyData.tuple ((List.range m).map fun i => if decide (a.getD i 0 < 2) then PyData.bool (decide (a.getD i 0 = 1)) else PyData.int (a.getD i 0))] := fun m => by
    have each : ∀ d ∈ ((List.range m).map fun i => if decide (a.getD i 0 < 2) then PyData.bool (decide (a.getD i 0 = 1)) else PyData.int (a.getD i 0)), imm d = true ∧ d.canLay0 = true ∧ d.depth ≤ 0 := fun d hd => by
      obtain ⟨i, _, rfl⟩ := List.mem_map.mp hd
      split
      · exact ⟨rfl, by simp [PyData.canLay0], by simp [PyData.depth]⟩
      · exact ⟨rfl, by simp [PyData.canLay0], by simp [PyData.depth]⟩
    have dl : ∀ {ds : List PyData}, (∀ d ∈ ds, imm d = true ∧ d.canLay0 = true ∧ d.depth ≤ 0) → PyData.depthAll ds ≤ 1 := fun {ds} h => by
      induction ds with
      | nil => simp [PyData.depthAll]
      | cons d ds ih =>
        have := (h d List.mem_cons_self).2.2
        have := ih fun e he => h e (List.mem_cons_of_mem _ he)
        rw [PyData.depthAll]
        omega
    have q := dl each
    refine FL.one (by rw [DL.imm]; exact immAll_of fun d hd => (each d hd).1) (by rw [PyData.canLay0]; exact (lay_of fun d hd => ⟨(each d hd).2.1, by have := (each d hd).2.2; omega⟩).1) (by rw [PyData.depth]; omega)
  have truth := truth (dI a).length
  generalize hTr : PyData.tuple ((List.range (dI a).length).map fun i => if decide (a.getD i 0 < 2) then PyData.bool (decide (a.getD i 0 = 1)) else PyData.int (a.getD i 0)) = Tr at *
  have s3 := stk_ex (e2.trans e3) s1
  have hd3 := dp_ex e3 _ _ hd2
  have hv23 := dp_ex (e2.trans e3) _ _ hv21
  have good3 : ∀ v ∈ vs, Gd K st lg frS H3 v := fun v hv => gd_ex (good v hv) e3
  have k1 : EvG K st lg frS (tOp (rCatA K) (tSl (rSlA K) (tVar 1) tNoPart (tPart (tC (.int 1)))) (tTup (tCons (tLst (tCons (tC (.int 0)) tNil)) tNil))) [some (.ref st), some v1, some v2, some v3, some (.ref p), some v5, none] H3 := by
    have cne : DL.cutD Td none (some 1) ≠ [] := by
      rw [← hT]
      unfold DL.cutD
      intro z
      have := congrArg List.length z
      simp [HT.sIx] at this
    refine evg_s (evs_catL s3 (ed_sl (ed_var (v := v1) rfl hd3) eo_none (eo_some ev_c)) (immAll_of fun d hd => (fls.cut.all d hd).1) cne (es := [.list [.int 0]]) (evsa_cons (evs_lst s3 (evsa_cons (evs_imm s3 (ed_int ev_c) rfl) evsa_nil) (by decide)) evsa_nil) (by simp) (by have := lcut none (some 1); show _ + 1 ≤ 1000; omega)) ⟨?_, ?_⟩
    · have := lcut none (some 1)
      rw [List.length_append, List.length_singleton]
      omega
    · refine shaped_of fun d hd => ?_
      rcases List.mem_append.mp hd with hd | hd
      · exact (fls.cut.all d hd).2
      · rw [List.mem_singleton.mp hd]
        exact ⟨by decide +kernel, by decide +kernel⟩
  have k2 : EvG K st lg frS (tCB (fun xs H Q => ∃ p ys, xs = [.ref p] ∧ ((SqL K H p ys ∧ ∀ l, H l = none → Q (.ref l) (upd H l (.tup ys))) ∨ (SqT K H p ys ∧ Q (.ref p) H))) (tCons (tCB (rSortV K (np s) 100) (tCons (tOp (rCatA K) (tVar 1) (tTup (tCons (tVar 2) tNil))) tNil)) tNil)) [some (.ref st), some v1, some v2, some v3, some (.ref p), some v5, none] H3 := fun H4 e4 Q q => by
    have cat : EvD K (tOp (rCatA K) (tVar 1) (tTup (tCons (tVar 2) tNil))) [some (.ref st), some v1, some v2, some v3, some (.ref p), some v5, none] H3 (.tuple (((a :: ls) ++ [l]).map tI)) := by
      rw [List.map_append, hT]
      exact ed_cat (ed_var (v := v1) rfl hd3) (ed_tup (eda_cons (ed_var (v := v2) rfl hv23) eda_nil) (by simp)) (by show Td.length + 1 ≤ _; omega)
    refine ed_sortV cat (fun x hx => ?_) (by rw [List.length_append, List.length_cons, List.length_singleton]; omega) H4 e4 Q fun v H5 ms e5 hm hv => ?_
    · rcases List.mem_append.mp hx with hx | hx
      · exact hL x hx
      · rw [List.mem_singleton.mp hx]
        exact hl2
    · have f : FL 11 (ms.map tI) := FL.loads (by rw [hm, List.length_append, List.length_cons, List.length_singleton]; omega)
      exact q v H5 e5 ⟨_, stD_I (stD_imm (stk_ex (e4.trans e5) s3) hv f.imm), f.frS (by decide)⟩
  have k4 : EvG K st lg frS (tVar 1) [some (.ref st), some v1, some v2, some v3, some (.ref p), some v5, none] H3 := evg_imm s3 (ed_var (v := v1) rfl hd3) fls.imm (fls.frS (by decide))
  have k5 : EvG K st lg frS (tOp (rCatA K) (tTup (tCons (tVar 5) tNil)) (tSl (rSlA K) (tVar 1) (tPart (tC (.int 1))) tNoPart)) [some (.ref st), some v1, some v2, some v3, some (.ref p), some v5, none] H3 :=
    evg_imm s3 (ed_cat (ed_tup (eda_cons (ed_var (v := v5) rfl hv5) eda_nil) (by simp)) (ed_sl (ed_var (v := v1) rfl hd3) (eo_some ev_c) eo_none) (by have := lcut (some 1) none; simp only [List.length_singleton]; omega)) (truth.app fls.cut).imm ((truth.app fls.cut).frS (by decide))
  refine r_pick (K := K) (S := frS) (m := 9 + 5) s3 rfl (evgl_cat (H := H3) (a := p) rfl (e3 _ _ h2) good3 hl9 (evgl_lst (evga_cons k1 (evga_cons k2 (evga_cons (evg_dict s3 trivial) (evga_cons k4 (evga_cons k5 evga_nil))))) (by decide)) (by decide)) (by decide) (by decide) (by omega) fun v d H4 hv hS x4 s4 => ?_
  exact k v d H4 hv hS ((Xp.of_ex ((e1.trans e2).trans e3)).trans x4) s4

end
end K16
set_option Elab.async false
set_option linter.all false
set_option maxRecDepth 100000
set_option maxHeartbeats 4000000
namespace K16
open PySem PySem.Spec PyProof.Rows L2 Evl DL
local macro_rules | `(tactic| walk_at "dl") => `(tactic| first
  | exact ev_c | exact ev_var rfl | exact eda_nil
  | exact ed_var rfl (by assumption)
  | exact ed_int ev_c | exact ed_int (ev_var rfl)
  | (refine eda_cons ?_ ?_ <;> walk_at "dl")
  | (refine ed_int ?_; walk_at "dl")
  | (refine ev_op ?_ ?_ rv_I0 <;> walk_at "dl"))
section
variable {P : Program} {w : World} {K : PySem.W.Frag} {mg : Str → Option Value} {base : Heap}
variable {CB CT : Addr}
def R_check_tracks0 (ds : List PyData) (r : PyData) : Prop := ∃ d, ds = [d, .int 0] ∧ isIn d 0 6 = true ∧ r = .none
def B_check_tracks0 (CT : Addr) (ds : List PyData) (C : Addr) : Prop := ∃ d, ds = [d, .int 0] ∧ isIn d 0 6 = false ∧ C = CT
/-- a number of sides, or not, and a value of any kind -/
def spE (K : PySem.W.Frag) (CB : Addr) (S : PyData → Prop) (f : Int → PyData → Bool) : Sp := fun vs H Q E => ∃ v0 v1 d0, vs = [v0, v1] ∧ Dp K H v0 d0 ∧
  ((∃ (s : Int) (d : PyData), d0 = .int s ∧ 2 ≤ s ∧ s ≤ 5 ∧ Itm K H v1 d ∧ S d ∧ ∀ H', Ex H H' → Q (.bl (f s d)) H') ∨ (isIn d0 2 5 = false ∧ ∀ H', Ex H H' → E (.ref CB) none H'))
theorem isIn_int {i a b : Int} (h1 : a ≤ i) (h2 : i ≤ b) : isIn (.int i) a b = true := by simp [isIn, h1, h2]
abbrev s_check_tracks : Stmt := topS 14
abbrev N_check_tracks : List Str := ["tracks", "least"]
theorem sc_check_tracks : FnScope N_check_tracks ["tracks", "least"] (defScope s_check_tracks) := ⟨rfl, rfl, rfl, by decide +kernel, rfl, by decide +kernel, by decide +kernel⟩
theorem ok_check_tracks {f : Addr} {fd : FuncData} (F : Fun K "check_tracks" "check_tracks" s_check_tracks f fd) (T : Txt mg)
    (D_is_within : DF P w K mg base "is_within" 2 ["thing", "low", "high"] (spD K 3 R_is_within)) (TC : ErC K mg "BadTracks" CT)  :
    FnOk P w K mg base (L2.CX P w) 3 f fd ["tracks", "least"] (spR K 2 R_check_tracks0 (B_check_tracks0 CT)) := by
  refine F.okX sc_check_tracks (fun vs H Q E h => spR_len h) (fun cdv A outer s H vs Q E hr h => ?_)
  obtain ⟨ds, hd, _, h⟩ := h
  obtain ⟨d, rfl⟩ : ∃ d, ds = [d, .int 0] := by
    rcases h with ⟨r, ⟨d, e, _⟩, _⟩ | ⟨C, ⟨d, e, _⟩, _⟩
    · exact ⟨d, e⟩
    · exact ⟨d, e⟩
  obtain ⟨v0, v1, rfl, d0, d1⟩ := dpa_two hd
  cases dp_int d1
  refine ⟨_, (pss_one (ps_if (pt_not (pt_val (pe_D D_is_within (hr.mono (by decide)) (by rfl) (pa_cons (pv 0) (pa_cons (pv 1) (pa_cons (pe_const T.c_MOST_TRACKS (by rfl)) pa_nil)))))) (pss_one (ps_raiseC rfl (takes_of rfl rfl rfl rfl) TC (by rfl) (pe_joined (.cons pe_str (.cons (pe_fmt (pv 1)) (.cons pe_str (.cons (pe_fmt (pe_const T.c_MOST_TRACKS (by rfl))) .nil))))))) pss_nil)), ?_⟩
  refine s_when (b := !isIn d 0 6) (et_not (et_B (EvD.bool (ed_call (R := R_is_within) (ds := [d, .int 0, .int 6]) (eda_cons (ed_var rfl d0) (eda_cons (ed_int (ev_var rfl)) (eda_cons (ed_int ev_c) eda_nil))) rfl ⟨_, _, _, rfl, rfl⟩)))) (fun hb H1 e1 => ?_) fun hb H1 e1 => ?_
  · have hb : isIn d 0 6 = false := by simpa using hb
    rcases h with ⟨r, ⟨d', e, g, _⟩, _⟩ | ⟨C, ⟨d', e, g, rfl⟩, k⟩
    · cases e
      rw [g] at hb
      cases hb
    · refine ⟨_, rfl, by decide +kernel, .int 0, rfl, .inr ⟨0, rfl, by decide, ?_⟩⟩
      refine ⟨_, rfl, by decide +kernel, ?_⟩
      refine ⟨_, rfl, by decide +kernel, .inr ⟨6, rfl, by decide, ?_⟩⟩
      exact ⟨_, rfl, by decide +kernel, k H1 e1⟩
  · have hb : isIn d 0 6 = true := by simpa using hb
    rcases h with ⟨r, ⟨d', e, g, rfl⟩, k⟩ | ⟨C, ⟨d', e, g, rfl⟩, k⟩
    · exact k .non H1 e1 .non
    · cases e
      rw [g] at hb
      cases hb

abbrev s_is_load : Stmt := topS 33
abbrev N_is_load : List Str := ["sides", "thing"]
theorem sc_is_load : FnScope N_is_load ["sides", "thing"] (defScope s_is_load) := ⟨rfl, rfl, rfl, by decide +kernel, rfl, by decide +kernel, by decide +kernel⟩
theorem ok_is_load {f : Addr} {fd : FuncData} (F : Fun K "is_load" "is_load" s_is_load f fd) (T : Txt mg)
    (D_check_sides : DFX P w K mg base "check_sides" 3 ["sides", "most"] (spR K 2 R_check_sides (B_check_sides CB))) (D_is_load_of : DF P w K mg base "is_load_of" 2 ["sides", "thing"] (spJ K Any ldOk))  :
    FnOk P w K mg base (L2.CX P w) 4 f fd ["sides", "thing"] (spE K CB Any ldOk) := by
  refine F.okX sc_is_load (fun vs H Q E h => by obtain ⟨_, _, _, rfl, _⟩ := h; rfl) (fun cdv A outer s H vs Q E hr h => ?_)
  obtain ⟨v0, v1, d0, rfl, hd0, h⟩ := h
  refine ⟨_, (pss_cons (ps_expr (pe_DX D_check_sides (takes_of rfl rfl rfl rfl) (fun _ _ _ _ h => h) (hr.mono (by decide)) (by rfl) (pa_cons (pv 0) (pa_cons (pe_const T.c_MOST_SIDES (by rfl)) pa_nil))))
      (pss_one (ps_ret (pe_D D_is_load_of (hr.mono (by decide)) (by rfl) (pa_cons (pv 0) (pa_cons (pv 1) pa_nil)))))), ?_⟩
  rcases h with ⟨x, d, rfl, h1, h2, hi, sm, k⟩ | ⟨no, k⟩
  · cases dp_int hd0
    refine qd_drop (K := K) (d := .none) (ed_callR (R := R_check_sides) (B := B_check_sides CB) (ds := [.int x, .int 5]) (eda_cons (ed_int (ev_var rfl)) (eda_cons (ed_int ev_c) eda_nil)) rfl ⟨_, rfl, isIn_int h1 h2, rfl⟩) fun H1 e1 => ?_
    exact s_ret (ev_Ji (S := Any) (ev_var rfl) rfl (itm_ex e1 hi) h1 h2 sm) fun H2 e2 => k H2 (e1.trans e2)
  · exact b_drop (eb_callR (K := K) (R := R_check_sides) (B := B_check_sides CB) (ds := [d0, .int 5]) (eda_cons (ed_var (v := v0) rfl hd0) (eda_cons (ed_int ev_c) eda_nil)) rfl ⟨d0, rfl, no, rfl⟩) fun H1 e1 => k H1 e1

abbrev s_is_frame : Stmt := topS 34
abbrev N_is_frame : List Str := ["sides", "thing"]
theorem sc_is_frame : FnScope N_is_frame ["sides", "thing"] (defScope s_is_frame) := ⟨rfl, rfl, rfl, by decide +kernel, rfl, by decide +kernel, by decide +kernel⟩
theorem ok_is_frame {f : Addr} {fd : FuncData} (F : Fun K "is_frame" "is_frame" s_is_frame f fd) (T : Txt mg)
    (D_check_sides : DFX P w K mg base "check_sides" 3 ["sides", "most"] (spR K 2 R_check_sides (B_check_sides CB))) (D_is_frame_of : DF P w K mg base "is_frame_of" 4 ["sides", "thing"] (spJ K small frB))  :
    FnOk P w K mg base (L2.CX P w) 5 f fd ["sides", "thing"] (spE K CB small frB) := by
  refine F.okX sc_is_frame (fun vs H Q E h => by obtain ⟨_, _, _, rfl, _⟩ := h; rfl) (fun cdv A outer s H vs Q E hr h => ?_)
  obtain ⟨v0, v1, d0, rfl, hd0, h⟩ := h
  refine ⟨_, (pss_cons (ps_expr (pe_DX D_check_sides (takes_of rfl rfl rfl rfl) (fun _ _ _ _ h => h) (hr.mono (by decide)) (by rfl) (pa_cons (pv 0) (pa_cons (pe_const T.c_MOST_SIDES (by rfl)) pa_nil))))
      (pss_one (ps_ret (pe_D D_is_frame_of (hr.mono (by decide)) (by rfl) (pa_cons (pv 0) (pa_cons (pv 1) pa_nil)))))), ?_⟩
  rcases h with ⟨x, d, rfl, h1, h2, hi, sm, k⟩ | ⟨no, k⟩
  · cases dp_int hd0
    refine qd_drop (K := K) (d := .none) (ed_callR (R := R_check_sides) (B := B_check_sides CB) (ds := [.int x, .int 5]) (eda_cons (ed_int (ev_var rfl)) (eda_cons (ed_int ev_c) eda_nil)) rfl ⟨_, rfl, isIn_int h1 h2, rfl⟩) fun H1 e1 => ?_
    exact s_ret (ev_Ji (S := small) (ev_var rfl) rfl (itm_ex e1 hi) h1 h2 sm) fun H2 e2 => k H2 (e1.trans e2)
  · exact b_drop (eb_callR (K := K) (R := R_check_sides) (B := B_check_sides CB) (ds := [d0, .int 5]) (eda_cons (ed_var (v := v0) rfl hd0) (eda_cons (ed_int ev_c) eda_nil)) rfl ⟨d0, rfl, no, rfl⟩) fun H1 e1 => k H1 e1

end
end K16
set_option Elab.async false
set_option linter.all false
set_option maxRecDepth 100000
set_option maxHeartbeats 4000000
namespace K16
open PySem PySem.Spec PyProof.Rows L2 Evl DL
local macro_rules | `(tactic| walk_at "dl") => `(tactic| first
  | exact ev_c | exact ev_var rfl | exact eda_nil
  | exact ed_var rfl (by assumption)
  | exact ed_int ev_c | exact ed_int (ev_var rfl)
  | (refine eda_cons ?_ ?_ <;> walk_at "dl")
  | (refine ed_int ?_; walk_at "dl")
  | (refine ev_op ?_ ?_ rv_I0 <;> walk_at "dl"))
section
variable {K : PySem.W.Frag} {σ : L2.St} {H : Hp} {ta tb te : TE} {d : PyData}
theorem et_lstV {k : Nat} {l : Addr} {xs : List V} (h : σ[k]? = some (some (.ref l))) (hl : H l = some (.lst xs)) : EvT (fun σ H Q => tVar k σ H fun x H' => ∃ k, TruV K x H' k ∧ Q k H') σ H (!xs.isEmpty) := fun H1 e Q q =>
  ⟨_, h, _, .inl ⟨xs, sq_of (e _ _ hl), rfl⟩, q H1 (Ex.refl _)⟩
end
theorem xp_fresh2 {p r : Addr} {H H2 Ha : Hp} (e : Ex H H2) (hp : H p = none) (hr : H r = none) (x : Xp [p, r] H2 Ha) : Ex H Ha := fun a o ho => x a o (e a o ho) (fun hm => by
  rcases (by simpa using hm : a = p ∨ a = r) with rfl | rfl
  · rw [hp] at ho; cases ho
  · rw [hr] at ho; cases ho)
def subr (rm : List Int) (q : Int × Int) (n : Int) : List Int := (rm.set q.1.toNat (rm.getD q.1.toNat 0 - n)).set q.2.toNat ((rm.set q.1.toNat (rm.getD q.1.toNat 0 - n)).getD q.2.toNat 0 - n)
theorem getD_set {l : List Int} {i j : Nat} {v : Int} (h : i < l.length) : (l.set i v).getD j 0 = if j = i then v else l.getD j 0 := by
  rw [List.getD_eq_getElem?_getD, List.getD_eq_getElem?_getD, List.getElem?_set]
  by_cases e : j = i
  · subst e; simp [h]
  · rw [if_neg (Ne.symm e), if_neg e]
theorem prs_get {s : Int} (h1 : 2 ≤ s) (h2 : s ≤ 5) {k : Nat} (h : k < np s) : (prs s)[k]? = some ((prs s).getD k (0, 0)) ∧ 0 ≤ ((prs s).getD k (0, 0)).1 ∧ ((prs s).getD k (0, 0)).1 < ((prs s).getD k (0, 0)).2 ∧ ((prs s).getD k (0, 0)).2 < s := by
  have h' : k < (prs s).length := h
  have e : (prs s)[k]? = some ((prs s).getD k (0, 0)) := by rw [List.getD_eq_getElem?_getD, List.getElem?_eq_getElem h']; rfl
  exact ⟨e, prs_in (by omega) h2 (List.mem_of_getElem? e)⟩
theorem paired_last {α β : Type} {F : α → β → Prop} {l : List α} {m : List β} {y : β} (h : Paired F l m) (e : m.getLast? = some y) : ∃ x, l[l.length - 1]? = some x ∧ F x y ∧ Paired F l.dropLast m.dropLast := by
  have hl := Paired.length h
  rw [List.getLast?_eq_getElem?] at e
  have get : ∀ {l : List α} {m : List β} {i : Nat} {b : β}, Paired F l m → m[i]? = some b → ∃ a, l[i]? = some a ∧ F a b := by
    intro l m i b hh
    induction hh generalizing i with
    | nil => intro e; simp at e
    | cons h _ ih =>
      intro e
      cases i with
      | zero => exact ⟨_, rfl, by simp at e; subst e; exact h⟩
      | succ i => exact ih (by simpa using e)
  obtain ⟨x, hx, hf⟩ := get h e
  refine ⟨x, by rw [hl]; exact hx, hf, ?_⟩
  have dl : ∀ {l : List α} {m : List β}, Paired F l m → Paired F l.dropLast m.dropLast := by
    intro l m hh
    induction hh with
    | nil => exact .nil
    | @cons a b as bs h t ih =>
      cases t with
      | nil => exact .nil
      | cons h2 t2 => exact .cons h ih
  exact dl h
theorem paired_app {α β : Type} {F : α → β → Prop} : ∀ {l : List α} {m : List β} {l2 : List α} {m2 : List β}, Paired F l m → Paired F l2 m2 → Paired F (l ++ l2) (m ++ m2)
  | _, _, _, _, .nil, h => h
  | _, _, _, _, .cons a t, h => .cons a (paired_app t h)
/-! the greatest loads: the program's walk -/
abbrev TIt := List Int × List Int × Bool
abbrev TSt := List TIt × List (List Int)
def tmx (s : Int) (l rm : List Int) : Int := min (rm.getD ((prs s).getD l.length (0, 0)).1.toNat 0) (rm.getD ((prs s).getD l.length (0, 0)).2.toNat 0)
def tdn (s : Int) (l : List Int) : Bool := decide (((prs s).getD l.length (0, 0)).2 = s - 1)
def tle (s : Int) (l rm : List Int) (k : Bool) : Int := if (tdn s l && k) = true then rm.getD ((prs s).getD l.length (0, 0)).1.toNat 0 else 0
def tone (s : Int) (l rm : List Int) (k : Bool) (n : Int) : TIt :=
  (l ++ [n], subr rm ((prs s).getD l.length (0, 0)) n, k || (tdn s l && decide (0 < (subr rm ((prs s).getD l.length (0, 0)) n).getD ((prs s).getD l.length (0, 0)).1.toNat 0)))
def tnew (s : Int) (l rm : List Int) (k : Bool) : List TIt := (List.range (tmx s l rm - (tle s l rm k - 1)).toNat).map fun (i : Nat) => tone s l rm k (tmx s l rm - (i : Int))
def tfin (s : Int) (rm : List Int) (k : Bool) : Bool := !k || decide (rm.getD (s.toNat - 1) 0 = 0)
def tstep (s : Int) (st : TSt) : TSt := match st.1.getLast? with
  | none => st
  | some (l, rm, k) => if l.length = np s then (st.1.dropLast, if tfin s rm k = true then st.2 ++ [l] else st.2) else (st.1.dropLast ++ tnew s l rm k, st.2)
def titer (s t : Int) : Nat → TSt
  | 0 => ([([], List.replicate s.toNat t, false)], [])
  | n + 1 => tstep s (titer s t n)
def TT (s t : Int) : List (List Int) := (titer s t 1500).2
structure GoodT (s : Int) (n : Nat) (st : TSt) : Prop where
  its : ∀ q ∈ st.1, q.1.length ≤ np s ∧ q.2.1.length = s.toNat ∧ ∀ i : Nat, 0 ≤ q.2.1.getD i 0 ∧ q.2.1.getD i 0 ≤ 6
  l1 : st.1.length ≤ 1 + 7 * n
  l2 : st.2.length ≤ n
theorem goodt_step {s : Int} (h1 : 2 ≤ s) (h2 : s ≤ 5) {n : Nat} {st : TSt} (g : GoodT s n st) : GoodT s (n + 1) (tstep s st) := by
  unfold tstep
  cases hl : st.1.getLast? with
  | none => exact ⟨g.its, Nat.le_trans g.l1 (by omega), Nat.le_trans g.l2 (by omega)⟩
  | some q =>
    obtain ⟨l, rm, k⟩ := q
    have hm := List.mem_of_getLast? hl
    obtain ⟨a1, a2, a3⟩ := g.its _ hm
    have a1 : l.length ≤ np s := a1
    have a2 : rm.length = s.toNat := a2
    have a3 : ∀ i : Nat, 0 ≤ rm.getD i 0 ∧ rm.getD i 0 ≤ 6 := a3
    have dl : st.1.dropLast.length = st.1.length - 1 := List.length_dropLast
    have pos : 0 < st.1.length := List.length_pos_of_mem hm
    have l1 := g.l1
    have l2 := g.l2
    have drop : ∀ q ∈ st.1.dropLast, q ∈ st.1 := fun q hq => List.dropLast_subset _ hq
    dsimp only
    split
    · refine ⟨fun q hq => g.its q (drop q hq), by rw [dl]; omega, ?_⟩
      show (if tfin s rm k = true then st.2 ++ [l] else st.2).length ≤ n + 1
      split
      · rw [List.length_append, List.length_singleton]; omega
      · omega
    · rename_i hne
      have hlt : l.length < np s := by omega
      obtain ⟨pe, p1, p2, p3⟩ := prs_get h1 h2 hlt
      have le0 : 0 ≤ tle s l rm k := by
        unfold tle
        split
        · exact (a3 _).1
        · exact Int.le_refl _
      have mx6 : tmx s l rm ≤ 6 := Int.le_trans (Int.min_le_left _ _) (a3 _).2
      refine ⟨fun q hq => ?_, ?_, by show st.2.length ≤ n + 1; omega⟩
      · rcases List.mem_append.mp hq with hq | hq
        · exact g.its q (drop q hq)
        · obtain ⟨i, hi, rfl⟩ := List.mem_map.mp hq
          rw [List.mem_range] at hi
          have m1 : tmx s l rm ≤ rm.getD ((prs s).getD l.length (0, 0)).1.toNat 0 := Int.min_le_left _ _
          have m2 : tmx s l rm ≤ rm.getD ((prs s).getD l.length (0, 0)).2.toNat 0 := Int.min_le_right _ _
          have n0 : 0 ≤ tmx s l rm - (i : Int) := by omega
          refine ⟨?_, ?_, fun j => ?_⟩
          · show (l ++ [_]).length ≤ np s
            rw [List.length_append, List.length_singleton]
            omega
          · show (subr rm _ _).length = s.toNat
            unfold subr
            rw [List.length_set, List.length_set, a2]
          · show 0 ≤ (subr rm _ _).getD j 0 ∧ (subr rm _ _).getD j 0 ≤ 6
            unfold subr
            have q1 : ((prs s).getD l.length (0, 0)).1.toNat < rm.length := by omega
            have q2 : ((prs s).getD l.length (0, 0)).2.toNat < (rm.set ((prs s).getD l.length (0, 0)).1.toNat (rm.getD ((prs s).getD l.length (0, 0)).1.toNat 0 - (tmx s l rm - (i : Int)))).length := by rw [List.length_set]; omega
            have ne : ((prs s).getD l.length (0, 0)).2.toNat ≠ ((prs s).getD l.length (0, 0)).1.toNat := by omega
            have aj := a3 j
            have b1 := a3 ((prs s).getD l.length (0, 0)).1.toNat
            have b2 := a3 ((prs s).getD l.length (0, 0)).2.toNat
            rw [getD_set q2, getD_set q1, getD_set q1, if_neg ne]
            split
            · omega
            · split <;> omega
      · show (st.1.dropLast ++ tnew s l rm k).length ≤ 1 + 7 * (n + 1)
        rw [List.length_append, dl, tnew, List.length_map, List.length_range]
        omega
theorem goodt_iter {s t : Int} (h1 : 2 ≤ s) (h2 : s ≤ 5) (h3 : 0 ≤ t) (h4 : t ≤ 6) : ∀ n, GoodT s n (titer s t n)
  | 0 => ⟨fun q hq => by
      have e : q = ([], List.replicate s.toNat t, false) := by simpa [titer] using hq
      subst e
      refine ⟨by simp, by simp, fun i => ?_⟩
      show 0 ≤ (List.replicate s.toNat t).getD i 0 ∧ (List.replicate s.toNat t).getD i 0 ≤ 6
      rw [List.getD_eq_getElem?_getD, List.getElem?_replicate]
      split
      · exact ⟨h3, h4⟩
      · exact ⟨Int.le_refl _, by decide⟩, by simp [titer], by simp [titer]⟩
  | n + 1 => goodt_step h1 h2 (goodt_iter h1 h2 h3 h4 n)
theorem titer_stop {s t : Int} {n : Nat} (h : (titer s t n).1 = []) : ∀ k, titer s t (n + k) = titer s t n
  | 0 => rfl
  | k + 1 => by
    show tstep s (titer s t (n + k)) = _
    rw [titer_stop h k]
    unfold tstep
    rw [h]
    rfl
/-- an item of rest: (load, room, lacks) -/
def It3 (K : PySem.W.Frag) (p r : Addr) (H : Hp) (v : V) (q : TIt) : Prop := ∃ T a b, v = .ref T ∧ H T = some (.tup [a, .ref b, .bl q.2.2]) ∧ Dp K H a (tI q.1) ∧ H b = some (.lst (q.2.1.map V.int)) ∧ b ≠ p ∧ b ≠ r
theorem it3_ex {K : PySem.W.Frag} {p r : Addr} {H H' : Hp} {v : V} {q : TIt} (e : Ex H H') (h : It3 K p r H v q) : It3 K p r H' v q := by
  obtain ⟨T, a, b, rfl, h1, h2, h3, h4, h5⟩ := h
  exact ⟨T, a, b, rfl, e _ _ h1, dp_ex e _ _ h2, e _ _ h3, h4, h5⟩
theorem it3_upd {K : PySem.W.Frag} {p r c : Addr} {H : Hp} {o : List V} {u : HO} {v : V} {q : TIt} (hc : H c = some (.lst o)) (hn : c = p ∨ c = r) (h : It3 K p r H v q) : It3 K p r (L2.upd H c u) v q := by
  obtain ⟨T, a, b, rfl, h1, h2, h3, h4, h5⟩ := h
  refine ⟨T, a, b, rfl, ?_, dp_tx (Tx.lst hc) _ _ (imm_tI _) h2, ?_, h4, h5⟩
  · rw [upd_ne (ne_of h1 hc (fun z => nomatch z))]
    exact h1
  · rw [upd_ne (by rcases hn with rfl | rfl <;> assumption)]
    exact h3
theorem its3_ex {K : PySem.W.Frag} {p r : Addr} {H H' : Hp} {vs : List V} {m : List TIt} (e : Ex H H') (h : Paired (It3 K p r H) vs m) : Paired (It3 K p r H') vs m := by
  induction h with
  | nil => exact .nil
  | cons a _ ih => exact .cons (it3_ex e a) ih
theorem its3_upd {K : PySem.W.Frag} {p r c : Addr} {H : Hp} {o : List V} {u : HO} {vs : List V} {m : List TIt} (hc : H c = some (.lst o)) (hn : c = p ∨ c = r) (h : Paired (It3 K p r H) vs m) : Paired (It3 K p r (L2.upd H c u)) vs m := by
  induction h with
  | nil => exact .nil
  | cons a _ ih => exact .cons (it3_upd hc hn a) ih
def R_top_loads (ds : List PyData) (r : List PyData) : Prop := ∃ s t : Int, ds = [.int s, .int t] ∧ 2 ≤ s ∧ s ≤ 5 ∧ 0 ≤ t ∧ t ≤ 6 ∧ (titer s t 1500).1 = [] ∧ r = (TT s t).map tI
/-- the loop's word at the n-th turn -/
def LT3 (K : PySem.W.Frag) (s t : Int) (pq p r : Addr) (Hs : Hp) (n : Nat) (σ : L2.St) (Ha : Hp) : Prop :=
  Xp [p, r] Hs Ha ∧ (∃ ws, Ha r = some (.lst ws) ∧ Paired (It3 K p r Ha) ws (titer s t n).1) ∧ (∃ vs, Ha p = some (.lst vs) ∧ DpAll K Ha vs ((titer s t n).2.map tI)) ∧
  ∃ a b c d e f g h i, σ = [some (.int s), some (.int t), some (.ref pq), some (.ref p), some (.ref r), a, b, c, d, e, f, g, h, i]
/-- xs.append((e, x, y)) -/
theorem app_tri {K : PySem.W.Frag} {σ : L2.St} {H : Hp} {te tb : TE} {d : PyData} {D : Ends} {l : Addr} {xs : List V} {v : V} {y : Bool} {i k : Nat} (hl : H l = some (.lst xs)) (ha : σ[i]? = some (some (.ref l))) (h : EvD K te σ H d) (hv : σ[k]? = some (some v)) (hb : Ev tb σ H (.bl y)) (hz : xs.length < 100000)
    (q : ∀ T a H1, Ex H H1 → H T = none → H1 T = some (.tup [a, v, .bl y]) → Dp K H1 a d → D.nx σ (upd H1 l (.lst (xs ++ [.ref T])))) :
    tDrop (tBM K "list" rAppend (tVar i) (tCons (tTup (tCons te (tCons (tVar k) (tCons tb tNil)))) tNil)) D σ H :=
  ⟨_, ha, Or.inl ⟨rfl, xs, sq_of hl⟩, h H (Ex.refl _) _ fun a H1 e1 hd => ⟨v, hv, hb H1 e1 _ fun H2 e2 => ⟨by show 3 ≤ sizeLine; decide, fun T hT => ⟨l, xs, .ref T, rfl, rfl, Ex.new hT _ _ (e2 _ _ (e1 _ _ hl)), sz_lt hz,
    q T a _ ((e1.trans e2).trans (Ex.new hT)) (fresh_back (e1.trans e2) hT) upd_same (dp_ex (e2.trans (Ex.new hT)) _ _ hd)⟩⟩⟩⟩
theorem gtri {K : PySem.W.Frag} {T : Addr} {v1 v2 v3 : V} {σ : L2.St} {H : Hp} {i j k : Nat} {Q : L2.St → Hp → Prop} (h : SqT K H T [v1, v2, v3]) (q : Q (((σ.set i (some v1)).set j (some v2)).set k (some v3)) H) : gTup K 3 (gCons (gName i) (gCons (gName j) (gCons (gName k) gNil))) (.ref T) σ H Q :=
  ⟨T, [v1, v2, v3], rfl, h, rfl, v1, [v2, v3], rfl, v2, [v3], rfl, v3, [], rfl, rfl, q⟩
theorem at_last {l : List Int} {n : Nat} (h : l.length = n + 1) : atI (l.map V.int) (-1) = some (.int (l.getD n 0)) := by
  have e : l = l.take n ++ [l.getD n 0] := by
    have t := List.take_add_one (l := l) (i := n)
    rw [List.take_of_length_le (by omega), List.getElem?_eq_getElem (by omega)] at t
    rw [List.getD_eq_getElem?_getD, List.getElem?_eq_getElem (by omega)]
    exact t
  have g : l.getD n 0 = l.getD n 0 := rfl
  conv => lhs; rw [e]
  rw [List.map_append]
  exact atI_last _ _
theorem at_getD {l : List Int} {j : Nat} (h : j < l.length) : atI (l.map V.int) (j : Int) = some (.int (l.getD j 0)) := atI_nat (by
  rw [List.getElem?_map, List.getElem?_eq_getElem h, List.getD_eq_getElem?_getD, List.getElem?_eq_getElem h]
  rfl)
section
variable {P : Program} {w : World} {K : PySem.W.Frag} {mg : Str → Option Value} {base : Heap}
abbrev s_top_loads : Stmt := topS 29
abbrev N_top_loads : List Str := ["sides", "tracks", "pairs", "found", "rest", "load", "room", "lacks", "side", "far", "done", "least", "number", "left"]
theorem sc_top_loads : FnScope N_top_loads ["sides", "tracks"] (defScope s_top_loads) := ⟨rfl, rfl, rfl, by decide +kernel, rfl, by decide +kernel, by decide +kernel⟩
theorem ok_top_loads {f : Addr} {fd : FuncData} (F : Fun K "top_loads" "top_loads" s_top_loads f fd) (T : Txt mg)
    (D_side_pairs : DF P w K mg base "side_pairs" 1 ["sides"] (spN K 1 R_side_pairs))  :
    FnOk P w K mg base CX0 2 f fd ["sides", "tracks"] (spN K 2 R_top_loads) := by
  refine F.ok sc_top_loads (fun vs H Q E h => spN_len h) (fun cdv A outer s H vs Q E hr h => ?_)
  obtain ⟨ds, r, hd, _, ⟨x, t, rfl, h1, h2, h3, h4, h5, rfl⟩, k0⟩ := h
  obtain rfl := dpa_ints (l := [x, t]) hd
  refine ⟨_, (pss_cons (ps_set (i := 2) sc_top_loads.nd rfl (.inl rfl) (pe_D D_side_pairs (hr.mono (by decide)) (by rfl) (pa_cons (pv 0) pa_nil)))
      (pss_cons (ps_set (i := 3) sc_top_loads.nd rfl (.inl rfl) (pe_lst pa_nil))
      (pss_cons (ps_set (i := 4) sc_top_loads.nd rfl (.inl rfl) (pe_lst (pa_cons (pe_tup (pa_cons (pe_tup pa_nil) (pa_cons (pe_op op_rep (pe_lst (pa_cons (pv 1) pa_nil)) (pv 0)) (pa_cons pe_bl pa_nil)))) pa_nil)))
      (pss_cons (ps_while PassesOwn.never (pt_truth (pv 4) (by intro _; rfl)) (pss_cons (ps_asg (pe_bm0 PySem.F.plainAttrs_list PySem.F.slot_list_pop PySem.F.type_list_pop mt_pop (pv 4)) (pg_tup rfl (pgs_cons (pg_name (i := 5) sc_top_loads.nd rfl (Or.inl rfl)) (pgs_cons (pg_name (i := 6) sc_top_loads.nd rfl (Or.inl rfl)) (pgs_cons (pg_name (i := 7) sc_top_loads.nd rfl (Or.inl rfl)) pgs_nil)))))
      (pss_cons (ps_if (pt_cmpR op_eq (pe_callB call_len_seq (by rfl) T.b_len PySem.boot_len (pa_cons (pv 5) pa_nil)) (pe_callB call_len_seq (by rfl) T.b_len PySem.boot_len (pa_cons (pv 2) pa_nil)) (nomark _)) (pss_cons (ps_if (PW.pt (pw_or (pt_not (pt_val (pv 7))) (pw_or1 (pt_cmpR op_eq (pe_ix ix_list (pv 6) (pe_un un_neg pe_int) (fun _ _ => rfl)) pe_int (nomark _))))) (pss_one (ps_expr (pe_bm PySem.F.plainAttrs_list PySem.F.slot_list_append PySem.F.type_list_append mt_append (pv 3) (pa_cons (pv 5) pa_nil)))) pss_nil)
      (pss_one ps_continue)) pss_nil)
      (pss_cons (ps_asg (pe_ix ix_list (pv 2) (pe_callB call_len_seq (by rfl) T.b_len PySem.boot_len (pa_cons (pv 5) pa_nil)) (fun _ _ => rfl)) (pg_tup rfl (pgs_cons (pg_name (i := 8) sc_top_loads.nd rfl (Or.inl rfl)) (pgs_cons (pg_name (i := 9) sc_top_loads.nd rfl (Or.inl rfl)) pgs_nil))))
      (pss_cons (ps_set (i := 10) sc_top_loads.nd rfl (.inl rfl) (pe_cmpR op_eq (pv 9) (pe_op op_sub (pv 0) pe_int) (nomark _)))
      (pss_cons (ps_set (i := 11) sc_top_loads.nd rfl (.inl rfl) (pe_ifExp (PW.pt (pw_and (pt_val (pv 10)) (pw_and1 (pt_val (pv 7))))) (pe_ix ix_list (pv 6) (pv 8) (fun _ _ => rfl)) pe_int))
      (pss_one (ps_for PassesOwn.never rfl (pi_range3 (by rfl) T.b_range (pa_cons (pe_callB (call_min2 rfl) (by rfl) T.b_min (by decide +kernel) (pa_cons (pe_ix ix_list (pv 6) (pv 8) (fun _ _ => rfl)) (pa_cons (pe_ix ix_list (pv 6) (pv 9) (fun _ _ => rfl)) pa_nil))) (pa_cons (pe_op op_sub (pv 11) pe_int) (pa_cons (pe_un un_neg pe_int) pa_nil)))) (pg_name (i := 12) sc_top_loads.nd rfl (Or.inl rfl)) (pss_cons (ps_set (i := 13) sc_top_loads.nd rfl (.inl rfl) (pe_callTy call_list_of (by rfl) T.b_list (by decide +kernel) (pa_cons (pv 6) pa_nil)))
      (pss_cons (ps_augS (pv 13) (pv 8) get_list (pv 12) ip_sub set_list)
      (pss_cons (ps_augS (pv 13) (pv 9) get_list (pv 12) ip_sub set_list)
      (pss_one (ps_expr (pe_bm PySem.F.plainAttrs_list PySem.F.slot_list_append PySem.F.type_list_append mt_append (pv 4) (pa_cons (pe_tup (pa_cons (pe_op op_catA (pv 5) (pe_tup (pa_cons (pv 12) pa_nil))) (pa_cons (pv 13) (pa_cons (pe_or (pv 7) (pe_one (pe_and (pv 10) (pe_one (pe_cmpR op_gt (pe_ix ix_list (pv 13) (pv 8) (fun _ _ => rfl)) pe_int (nomark _)))))) pa_nil)))) pa_nil)))))))))))))))
      (pss_one (ps_ret (pv 3))))))), ?_⟩
  refine qn_asg (K := K) (en_call (R := R_side_pairs) (ds := [.int x]) (by walk_at "dl") rfl ⟨x, rfl, by omega, h2, rfl⟩) fun pq wq H1 hpq e1 h1' hd1 => ?_
  refine qn_asg (K := K) (en_lst eda_nil (by simp)) fun p vs H2 hp e2 h2' hd2 => ?_
  cases hd2
  refine ⟨by show 0 ≤ sizeLine; decide, fun a0 ha0 => ?_⟩
  refine en_rep (K := K) (σ := [some (.int x), some (.int t), some (.ref pq), some (.ref p), none, none, none, none, none, none, none, none, none, none]) (d := .int t) (EvN.toQ (en_lst (eda_cons (ed_int (ev_var rfl)) eda_nil) (by simp))) (ev_var rfl) (by omega) (by omega) _ (Ex.refl _) _ fun b wb H4 hb e4 h4' hd4 => ?_
  refine ⟨by show 3 ≤ sizeLine; decide, fun T0 hT0 => ⟨by show 1 ≤ sizeLine; decide, fun r hr0 => ?_⟩⟩
  have e24 : Ex H2 H4 := (Ex.new ha0).trans e4
  have e25 : Ex H2 (upd (upd H4 T0 (.tup [.ref a0, .ref b, .bl false])) r (.lst [.ref T0])) := (e24.trans (Ex.new hT0)).trans (Ex.new hr0)
  have hpq1 : H1 pq ≠ none := by rw [h1']; simp
  have npp : pq ≠ p := fun z => by rw [z] at hpq1; exact hpq1 hp
  have h2p : H2 p ≠ none := by rw [h2']; simp
  have hpT : p ≠ T0 := fun z => h2p (fresh_back e24 (z ▸ hT0))
  have hpr : p ≠ r := fun z => h2p (fresh_back (e24.trans (Ex.new hT0)) (z ▸ hr0))
  have nqr : pq ≠ r := fun z => hpq1 (fresh_back ((e2.trans e24).trans (Ex.new hT0)) (z ▸ hr0))
  have hbr : b ≠ r := fun z => by
    have q := Ex.new hT0 (o := .tup [.ref a0, .ref b, .bl false]) b _ h4'
    have z2 := hr0
    rw [← z, q] at z2
    cases z2
  have hrn : H r = none := fresh_back ((e1.trans e2).trans (e24.trans (Ex.new hT0))) hr0
  have hbp : b ≠ p := fun z => by
    have q := (Ex.new ha0 (o := .tup [])) p _ h2'
    rw [← z, hb] at q
    cases q
  have hab : upd H2 a0 (.tup []) a0 = some (.tup []) := upd_same
  generalize hHs : upd (upd H4 T0 (.tup [.ref a0, .ref b, .bl false])) r (.lst [.ref T0]) = Hs at e25 ⊢
  have e4s : Ex H4 Hs := hHs ▸ (Ex.new hT0).trans (Ex.new hr0)
  have hsr : Hs r = some (.lst [.ref T0]) := by rw [← hHs]; exact upd_same
  have hsT : Hs T0 = some (.tup [.ref a0, .ref b, .bl false]) := by
    rw [← hHs, upd_ne (fun z => by rw [← z, upd_same] at hr0; cases hr0)]
    exact upd_same
  have hspq : Hs pq = some (.lst wq) := e25 _ _ (e2 _ _ h1')
  have dpq : DpAll K Hs wq ((prs x).map pD) := dpa_ex (e2.trans e25) _ _ hd1
  have ipq : immAll ((prs x).map pD) = true := immAll_map (fun _ => imm_tI _) _
  have lsS : Ls Hs [p, r] := Ls.cons (e25 _ _ h2') (Ls.one hsr)
  have hb' : DpAll K Hs wb (dI (List.replicate x.toNat t)) := by
    rw [dI, List.map_replicate]
    exact dpa_ex e4s _ _ hd4
  rw [dpa_ints hb'] at h4'
  have w0 : LT3 K x t pq p r Hs 0 [some (.int x), some (.int t), some (.ref pq), some (.ref p), some (.ref r), none, none, none, none, none, none, none, none, none] Hs :=
    ⟨Xp.refl _ _, ⟨_, hsr, .cons ⟨T0, .ref a0, b, rfl, hsT, .tup (st_of (e4s _ _ (e4 _ _ hab))) .nil, e4s _ _ h4', hbp, hbr⟩ .nil⟩, ⟨[], e25 _ _ h2', .nil⟩, none, none, none, none, none, none, none, none, none, rfl⟩
  have lnp : ∀ {l : List Int}, ((dI l).length : Int) = (l.length : Int) := fun {l} => by rw [dI, List.length_map]
  refine ⟨fun m σ' Ha => ∃ n, m = 1500 - n ∧ n ≤ 1500 ∧ LT3 K x t pq p r Hs n σ' Ha, ⟨_, 0, rfl, by decide, w0⟩, ?_⟩
  rintro m σ' Ha ⟨n, rfl, hn, xp, ⟨ws, hrw, pws⟩, ⟨vs, hpv, dvs⟩, a, b, c, d, e, f, g7, g8, g9, rfl⟩
  have gd := goodt_iter h1 h2 h3 h4 n
  refine et_lstV (K := K) rfl hrw Ha (Ex.refl _) _ fun Hb eb => ?_
  have hrw := eb _ _ hrw
  have hpv := eb _ _ hpv
  have dvs := dpa_ex eb _ _ dvs
  have pws := its3_ex eb pws
  have xp := xp.then eb
  cases hlast : (titer x t n).1.getLast? with
  | none =>
    have em : (titer x t n).1 = [] := List.getLast?_eq_none_iff.mp hlast
    have lw := Paired.length pws
    rw [em] at lw
    have wn : ws = [] := List.eq_nil_of_length_eq_zero lw
    subst wn
    show tRet (tVar 3) _ _ _
    have el : titer x t 1500 = titer x t n := by
      have := titer_stop em (1500 - n)
      rwa [show n + (1500 - n) = 1500 by omega] at this
    refine ⟨.ref p, rfl, k0 p vs Hb (fresh_back e1 hp) (xp_fresh2 ((e1.trans e2).trans e25) (fresh_back e1 hp) hrn xp) hpv ?_⟩
    rw [TT, el]
    exact dvs
  | some q =>
    obtain ⟨l, rm, k⟩ := q
    have hm : (l, rm, k) ∈ (titer x t n).1 := List.mem_of_getLast? hlast
    obtain ⟨g1, g2, g3⟩ := gd.its _ hm
    have g1 : l.length ≤ np x := g1
    have g2 : rm.length = x.toNat := g2
    have g3 : ∀ i : Nat, 0 ≤ rm.getD i 0 ∧ rm.getD i 0 ≤ 6 := g3
    have gl1 := gd.l1
    have gl2 := gd.l2
    obtain ⟨y, hy, ⟨T, va, b, rfl, hT, da, hbl, nbp, nbr⟩, pd⟩ := paired_last pws hlast
    have lw := Paired.length pws
    have n0 : (titer x t n).1 ≠ [] := fun z => by rw [z] at hm; cases hm
    have hlt : n < 1500 := by
      by_cases hne : n = 1500
      · subst hne
        exact absurd h5 n0
      · omega
    have wne : ws ≠ [] := fun z => by
      rw [z] at lw
      exact n0 (List.eq_nil_of_length_eq_zero lw.symm)
    have tst : (!ws.isEmpty) = true := by cases ws with | nil => exact absurd rfl wne | cons _ _ => rfl
    rw [if_pos tst]
    refine ⟨LT3 K x t pq p r Hs (n + 1), fun σ2 H2 z => ⟨1500 - (n + 1), by omega, n + 1, rfl, by omega, z⟩, ?_⟩
    have lst1 : titer x t (n + 1) = if l.length = np x then ((titer x t n).1.dropLast, if tfin x rm k = true then (titer x t n).2 ++ [l] else (titer x t n).2) else ((titer x t n).1.dropLast ++ tnew x l rm k, (titer x t n).2) := by
      show tstep x (titer x t n) = _
      unfold tstep
      rw [hlast]
    refine ⟨.ref r, rfl, Or.inl ⟨rfl, ws, sq_of hrw⟩, r, ws, .ref T, rfl, rfl, hrw, hy, ?_⟩
    have rT : T ≠ r := ne_of hT hrw (fun z => nomatch z)
    refine gtri (K := K) (st_of (by rw [upd_ne rT]; exact hT)) ?_
    have pd := its3_upd (u := .lst ws.dropLast) hrw (Or.inr rfl) pd
    have tx1 : Tx Hb (upd Hb r (.lst ws.dropLast)) := Tx.lst hrw
    have dvs := dpa_tx tx1 _ _ (immAll_tI _) dvs
    have da := dp_tx tx1 _ _ (imm_tI _) da
    have xp : Xp [p, r] Hs (upd Hb r (.lst ws.dropLast)) := Xp.upd xp (by simp)
    have hbl : upd Hb r (.lst ws.dropLast) b = some (.lst (rm.map V.int)) := by rw [upd_ne nbr]; exact hbl
    have hpv : upd Hb r (.lst ws.dropLast) p = some (.lst vs) := by rw [upd_ne hpr]; exact hpv
    have hrw' : upd Hb r (.lst ws.dropLast) r = some (.lst ws.dropLast) := upd_same
    clear hrw hT hy
    generalize upd Hb r (.lst ws.dropLast) = Hc at *
    have hcq : Hc pq = some (.lst wq) := xp _ _ hspq (by simp [npp, nqr])
    have dcq : DpAll K Hc wq ((prs x).map pD) := dpa_tx (xp.tx lsS) _ _ ipq dpq
    show tSeq _ _ _ [some (.int x), some (.int t), some (.ref pq), some (.ref p), some (.ref r), some va, some (.ref b), some (.bl k), d, e, f, g7, g8, g9] Hc
    refine q_when (b := decide (l.length = np x)) (et_test (ev_is (ev_op (ev_lenT (ed_var (K := K) rfl da)) (ev_lenL (K := K) (ds := (prs x).map pD) (ed_var rfl (.lst (sq_of hcq) dcq))) (rv_eq rfl)) ?_)) (fun hb Hd ed => ?_) fun hb Hd ed => ?_
    · congr 1
      rw [decide_vint, lnp, List.length_map]
      exact decide_eq_decide.mpr ⟨fun h => Int.ofNat.inj h, fun h => congrArg Nat.cast h⟩
    · have hb := of_decide_eq_true hb
      rw [if_pos hb] at lst1
      have lv := dpa_len dvs
      rw [List.length_map] at lv
      have xs0 : x.toNat = (x.toNat - 1) + 1 := by omega
      refine q_when (b := tfin x rm k) (et_or (et_not (et_B (ev_var rfl))) fun _ => et_test (ev_is (ev_op (ev_op (ev_var rfl) (ev_un ev_c ru_neg) (rv_ixL (K := K) (sq_of (ed _ _ hbl)) (at_last (g2.trans xs0)))) ev_c (rv_eq rfl)) (by rw [decide_vint]))) (fun ht He0 ee0 => ?_) fun ht He0 ee0 => ?_
      · rw [if_pos ht] at lst1
        refine d_app (K := K) (d := tI l) (ee0 _ _ (ed _ _ hpv)) (ev_var rfl) (ed_var rfl (dp_ex (ed.trans ee0) _ _ da)) (by omega) fun v He ee hv => ?_
        have ed := ed.trans ee0
        have hpe : He p = some (.lst vs) := ee _ _ (ed _ _ hpv)
        have dn : DpAll K (upd He p (.lst (vs ++ [v]))) (vs ++ [v]) (((titer x t n).2 ++ [l]).map tI) := by
          rw [List.map_append]
          exact dpa_app (dpa_tx (Tx.lst hpe) _ _ (immAll_tI _) (dpa_ex (ed.trans ee) _ _ dvs)) (.cons (dp_tx (Tx.lst hpe) _ _ (imm_tI _) hv) .nil)
        show LT3 K x t pq p r Hs (n + 1) _ _
        refine ⟨Xp.upd (xp.then (ed.trans ee)) (by simp), ⟨ws.dropLast, ?_, ?_⟩, ⟨vs ++ [v], upd_same, ?_⟩, _, _, _, _, _, _, _, _, _, rfl⟩
        · rw [upd_ne (Ne.symm hpr)]
          exact ee _ _ (ed _ _ hrw')
        · rw [lst1]
          exact its3_upd hpe (Or.inl rfl) (its3_ex (ed.trans ee) pd)
        · rw [lst1]
          exact dn
      · rw [if_neg (by rw [ht]; exact Bool.noConfusion)] at lst1
        have ed := ed.trans ee0
        show LT3 K x t pq p r Hs (n + 1) _ _
        refine ⟨xp.then ed, ⟨ws.dropLast, ed _ _ hrw', ?_⟩, ⟨vs, ed _ _ hpv, ?_⟩, _, _, _, _, _, _, _, _, _, rfl⟩
        · rw [lst1]
          exact its3_ex ed pd
        · rw [lst1]
          exact dpa_ex ed _ _ dvs
    · have hb := of_decide_eq_false hb
      rw [if_neg hb] at lst1
      have hll : l.length < np x := by omega
      obtain ⟨pe, p1, p2, p3⟩ := prs_get h1 h2 hll
      unfold tnew tone tmx tle tdn at lst1
      generalize (prs x).getD l.length (0, 0) = q at *
      obtain ⟨q1, q2⟩ := q
      have p1 : 0 ≤ q1 := p1
      have p2 : q1 < q2 := p2
      have p3 : q2 < x := p3
      obtain ⟨qa, rfl⟩ := Int.eq_ofNat_of_zero_le p1
      obtain ⟨qb, rfl⟩ := Int.eq_ofNat_of_zero_le (by omega : 0 ≤ q2)
      have ga := g3 qa
      have gb := g3 qb
      have hcq := ed _ _ hcq
      have dcq := dpa_ex ed _ _ dcq
      refine qd_unp2 (K := K) (d1 := .int (qa : Int)) (d2 := .int (qb : Int)) (ed_ixL (K := K) (ds := (prs x).map pD) (k := l.length) (ed_var rfl (.lst (sq_of hcq) dcq)) (ev_is (ev_lenT (ed_var (K := K) rfl (dp_ex ed _ _ da))) (by rw [lnp])) (by rw [List.getElem?_map, pe]; rfl)) fun v1 v2 He ee hv1 hv2 => ?_
      cases dp_int hv1
      cases dp_int hv2
      have lrm : (rm.map V.int).length = x.toNat := by rw [List.length_map, g2]
      have at_ : ∀ j : Nat, j < x.toNat → atI (rm.map V.int) (j : Int) = some (.int (rm.getD j 0)) := fun j hj => atI_nat (by
        rw [List.getElem?_map, List.getElem?_eq_getElem (by omega), List.getD_eq_getElem?_getD, List.getElem?_eq_getElem (by omega)]
        rfl)
      refine q_asg (v := .bl (decide ((qb : Int) = x - 1))) (ev_is (ev_op (ev_var rfl) (ev_op (ev_var rfl) ev_c rv_I0) (rv_eq rfl)) (by rw [decide_vint])) fun H10 e10 => ?_
      refine q_asg (v := .int (if (decide ((qb : Int) = x - 1) && k) = true then rm.getD qa 0 else 0)) (ev_if (et_and (et_B (ev_var rfl)) fun _ => et_B (ev_var rfl)) (fun hq => ev_is (ev_op (ev_var rfl) (ev_var rfl) (rv_ixL (K := K) (sq_of (((ed.trans ee).trans e10) _ _ hbl)) (at_ qa (by omega)))) (by rw [if_pos hq])) (fun hq => ev_is ev_c (by rw [if_neg (by rw [hq]; exact Bool.noConfusion)]))) fun H11 e11 => ?_
      have ece := (ed.trans ee).trans (e10.trans e11)
      have da := dp_ex ece _ _ da
      have hbl := ece _ _ hbl
      have hpv := ece _ _ hpv
      have dvs := dpa_ex ece _ _ dvs
      have hrw' := ece _ _ hrw'
      have pd := its3_ex ece pd
      have xp := xp.then ece
      have lrm : (rm.map V.int).length = x.toNat := by rw [List.length_map, g2]
      generalize hdn : decide ((qb : Int) = x - 1) = dn at *
      generalize hle : (if (dn && k) = true then rm.getD qa 0 else 0) = le at *
      have hle0 : 0 ≤ le ∧ le ≤ 6 := by
        rw [← hle]
        split
        · exact ga
        · exact ⟨by decide, by decide⟩
      show tFor _ _ _ _ [some (.int x), some (.int t), some (.ref pq), some (.ref p), some (.ref r), some va, some (.ref b), some (.bl k), some (.int (qa : Int)), some (.int (qb : Int)), some (.bl dn), some (.int le), g8, g9] H11
      generalize hmn : min (rm.getD qa 0) (rm.getD qb 0) = mn at *
      have lst1 : titer x t (n + 1) = ((titer x t n).1.dropLast ++ (List.range (mn - (le - 1)).toNat).map fun (i : Nat) => ((l ++ [mn - (i : Int)], subr rm ((qa : Int), (qb : Int)) (mn - (i : Int)), k || (dn && decide (0 < (subr rm ((qa : Int), (qb : Int)) (mn - (i : Int))).getD qa 0))) : TIt), (titer x t n).2) := by
        rw [lst1]
        show (_ ++ List.map _ (List.range (min (rm.getD qa 0) (rm.getD qb 0) - ((if (dn && k) = true then rm.getD qa 0 else 0) - 1)).toNat), _) = _
        rw [← hmn, ← hle]
        rfl
      have dl : (titer x t n).1.dropLast.length = (titer x t n).1.length - 1 := List.length_dropLast
      refine d_for (S := [r]) (ei_rngD (K := K) (m := mn) (n := le - 1) (eda_cons (ed_int (ev_is (ev_min2 (ev_op (ev_var rfl) (ev_var rfl) (rv_ixL (K := K) (sq_of hbl) (at_ qa (by omega)))) (ev_op (ev_var rfl) (ev_var rfl) (rv_ixL (K := K) (sq_of hbl) (at_ qb (by omega))))) (by rw [hmn]))) (eda_cons (ed_int (ev_op (ev_var rfl) ev_c rv_I0)) (eda_cons (ed_int (ev_un ev_c ru_neg)) eda_nil))) ⟨⟨by omega, by omega⟩, by omega, by omega⟩ (RgC.neg (by omega) (by omega) (by omega) (by omega)))
        (fun H2 i σ' Hx => Xp [r] H2 Hx ∧ (∃ ws', Hx r = some (.lst ws') ∧ Paired (It3 K p r Hx) ws' ((titer x t n).1.dropLast ++ (List.range i).map fun (i : Nat) => ((l ++ [mn - (i : Int)], subr rm ((qa : Int), (qb : Int)) (mn - (i : Int)), k || (dn && decide (0 < (subr rm ((qa : Int), (qb : Int)) (mn - (i : Int))).getD qa 0))) : TIt))) ∧ ∃ e f, σ' = [some (.int x), some (.int t), some (.ref pq), some (.ref p), some (.ref r), some va, some (.ref b), some (.bl k), some (.int (qa : Int)), some (.int (qb : Int)), some (.bl dn), some (.int le), e, f])
        (fun H2 e2 => ⟨Xp.refl _ _, ⟨_, e2 _ _ hrw', by simpa using its3_ex e2 pd⟩, g8, g9, rfl⟩) (fun H2 i σ' Ha _ z => z.1) ?_ ?_
      · rintro Hg i d y σ' Hx Hy eg hdi ⟨xg, ⟨w2, hw2, pw2⟩, e, f, rfl⟩ ey hy
        have hil : i < (mn - (le - 1)).toNat := by simpa using (List.getElem?_eq_some_iff.mp hdi).1
        rw [rng_get hil] at hdi
        cases hdi
        cases dp_int hy
        have byG : ∀ a o, H11 a = some o → a ≠ r → Hy a = some o := fun a o h n => ey _ _ (xg _ _ (eg _ _ h) (by simpa using n))
        have txg : Tx H11 Hy := (Tx.of_ex eg).trans ((xg.tx (Ls.one (eg _ _ hrw'))).trans (Tx.of_ex ey))
        have hbl' := byG _ _ hbl nbr
        have da' := dp_tx txg _ _ (imm_tI _) da
        have hpy := byG _ _ hpv hpr
        have hry := ey _ _ hw2
        refine qn_asg (K := K) (en_listOf (K := K) (ds := dI rm) (ed_var rfl (.lst (sq_of hbl') (ints_dpa rm)))) fun c wc H5 hc e5 h5 hd5 => ?_
        rw [dpa_ints hd5] at h5
        refine q_augL (K := K) (j := qa) h5 rfl rfl (by omega) (ev_var rfl) fun H6 e6 => ?_
        refine q_augL (K := K) (j := qb) (ns := rm.set qa (rm.getD qa 0 - (mn - (i : Int)))) upd_same rfl rfl (by rw [List.length_set]; omega) (ev_var rfl) fun H7 e7 => ?_
        have x7 : Ex Hy H7 := (Ex.mut (e5.trans e6) hc).trans e7
        have x8 := Ex.mut (o := .lst (((rm.set qa (rm.getD qa 0 - (mn - (i : Int)))).set qb ((rm.set qa (rm.getD qa 0 - (mn - (i : Int)))).getD qb 0 - (mn - (i : Int)))).map V.int)) x7 hc
        have hc8 : upd H7 c (.lst (((rm.set qa (rm.getD qa 0 - (mn - (i : Int)))).set qb ((rm.set qa (rm.getD qa 0 - (mn - (i : Int)))).getD qb 0 - (mn - (i : Int)))).map V.int)) c = _ := upd_same
        generalize upd H7 c (.lst (((rm.set qa (rm.getD qa 0 - (mn - (i : Int)))).set qb ((rm.set qa (rm.getD qa 0 - (mn - (i : Int)))).getD qb 0 - (mn - (i : Int)))).map V.int)) = H8 at x8 hc8 ⊢
        have ncr : c ≠ r := fun z => by rw [z, hry] at hc; cases hc
        have ncp : c ≠ p := fun z => by rw [z, hpy] at hc; cases hc
        have lw2 := Paired.length pw2
        rw [List.length_append, List.length_map, List.length_range] at lw2
        refine app_tri (K := K) (y := k || (dn && decide (0 < (subr rm ((qa : Int), (qb : Int)) (mn - (i : Int))).getD qa 0))) (d := tI (l ++ [mn - (i : Int)])) (x8 _ _ hry) rfl (ed_is (ed_cat (ds := dI l) (es := [.int (mn - (i : Int))]) (ed_var rfl (dp_ex x8 _ _ da')) (ed_tup (eda_cons (ed_int (ev_var rfl)) eda_nil) (by simp)) ?_) ?_) rfl (ev_orV (ev_var rfl) fun _ => ev_andV (ev_var rfl) fun _ => ev_op (ev_op (ev_var rfl) (ev_var rfl) (rv_ixL (K := K) (sq_of hc8) (at_getD (j := qa) (by rw [List.length_set, List.length_set]; omega)))) ev_c rv_I0) (by omega) fun T2 a2 H9 e9 hT2 hn2 hd2 => ?_
        · rw [List.length_map]
          have : np x ≤ 10 := by
            have : x = 2 ∨ x = 3 ∨ x = 4 ∨ x = 5 := by omega
            rcases this with rfl | rfl | rfl | rfl <;> decide
          show l.length + 1 ≤ _
          omega
        · show _ = PyData.tuple (List.map PyData.int (l ++ [mn - (i : Int)]))
          rw [List.map_append]
          rfl
        · have hr9 := e9 _ _ (x8 _ _ hry)
          refine ⟨Xp.upd (xg.then (ey.trans (x8.trans e9))) (by simp), ⟨_, upd_same, ?_⟩, _, _, rfl⟩
          rw [List.range_succ, List.map_append, ← List.append_assoc]
          refine its3_upd hr9 (Or.inr rfl) (paired_app (its3_ex (ey.trans (x8.trans e9)) pw2) (.cons ⟨T2, a2, c, rfl, hn2, hd2, ?_, ncp, ncr⟩ .nil))
          exact e9 _ _ hc8
      · rintro Hg σ' Hx eg ⟨xg, ⟨w2, hw2, pw2⟩, e, f, rfl⟩
        show LT3 K x t pq p r Hs (n + 1) _ Hx
        rw [List.length_map, List.length_range] at pw2
        have txg : Tx H11 Hx := (Tx.of_ex eg).trans (xg.tx (Ls.one (eg _ _ hrw')))
        refine ⟨(xp.then eg).trans fun a o ho hn => xg a o ho (fun z => hn (by simp at z; simp [z])), ⟨w2, hw2, by rw [lst1]; exact pw2⟩, ⟨vs, xg _ _ (eg _ _ hpv) (by simpa using hpr), by rw [lst1]; exact dpa_tx txg _ _ (immAll_tI _) dvs⟩, _, _, _, _, _, _, _, _, _, rfl⟩

end
end K16
set_option Elab.async false
set_option linter.all false
set_option maxRecDepth 100000
set_option maxHeartbeats 4000000
/-! the greatest loads of the few sides and tracks that the law asks for -/
namespace K16
open PySem PySem.Spec PyProof.Rows L2 Evl DL
/-- how much each side lacks -/
def lackL (s t : Int) (l : List Int) : List Int := ((sms s l).filter fun x => decide (x < t)).map fun x => t - x
def few (s t : Int) (l : List Int) : Bool := decide ((lackL s t l).length < 2)
def adjB : List (List Int) → Bool
  | a :: b :: l => decide (cdL a < cdL b) && adjB (b :: l)
  | _ => true
theorem adjB_rise : ∀ {ls : List (List Int)}, adjB ls = true → Rise ls
  | [], _ => .nil
  | [_], _ => List.pairwise_singleton _ _
  | a :: b :: l, h => by
    rw [adjB, Bool.and_eq_true, decide_eq_true_eq] at h
    have t := adjB_rise h.2
    refine List.pairwise_cons.mpr ⟨fun z hz => ?_, t⟩
    rcases List.mem_cons.mp hz with e | hz
    · rw [e]; exact h.1
    · have := (List.pairwise_cons.mp t).1 z hz
      have := h.1
      omega
def ldsB (n : Nat) (l : List Int) : Bool := decide (l.length = n) && l.all fun x => decide (0 ≤ x) && decide (x ≤ 99)
theorem ldsB_ok {n : Nat} {l : List Int} (h : ldsB n l = true) : Lds n l := by
  rw [ldsB, Bool.and_eq_true, decide_eq_true_eq, List.all_eq_true] at h
  exact ⟨h.1, fun x hx => by simpa using h.2 x hx⟩
def goodB (s t : Int) (l : List Int) : Bool := decide ((lackL s t l).length ≤ 1) && !(decide (s * t % 2 = 0) && decide ((lackL s t l).sum % 2 = 1))
def chk (s t : Int) : Bool := (titer s t 1500).1.isEmpty && (decide ((litF s t (np s)).filter (few s t) = TT s t) && (adjB (TT s t) && ((List.range (np s + 1)).all (fun k => decide ((litF s t k).length ≤ 5000)) && (decide ((TT s t).length ≤ 60) && ((TT s t).all (ldsB (np s)) && (TT s t).all (goodB s t))))))
theorem chk2 : (List.range 7).all (fun t => chk 2 (t : Int)) = true := by decide +kernel
theorem chk3 : (List.range 7).all (fun t => chk 3 (t : Int)) = true := by decide +kernel
theorem chk4 : (List.range 4).all (fun t => chk 4 (t : Int)) = true := by decide +kernel
theorem chk5 : (List.range 3).all (fun t => chk 5 (t : Int)) = true := by decide +kernel
theorem tt46 : (titer 4 6 1500).1 = [] ∧ (TT 4 6).getLast? = some [6, 0, 0, 0, 0, 6] ∧ (TT 4 6).length = 116 := by decide +kernel
structure Okst (s t : Int) : Prop where
  stop : (titer s t 1500).1 = []
  same : (litF s t (np s)).filter (few s t) = TT s t
  rise : Rise (TT s t)
  lens : ∀ k, k ≤ np s → (litF s t k).length ≤ 5000
  len : (TT s t).length ≤ 60
  lds : ∀ l ∈ TT s t, Lds (np s) l
  good : ∀ l ∈ TT s t, goodB s t l = true
theorem chk_ok {s t : Int} (h : chk s t = true) : Okst s t := by
  simp only [chk, Bool.and_eq_true, decide_eq_true_eq, List.all_eq_true, List.isEmpty_iff, List.mem_range] at h
  obtain ⟨h1, h2, h3, h4, h5, h6, h7⟩ := h
  exact ⟨h1, h2, adjB_rise h3, fun k hk => h4 k (by omega), h5, fun l hl => ldsB_ok (h6 l hl), h7⟩
/-- how many numbers of tracks are drawn -/
def manyOf (s : Int) : Int := if s = 4 then 4 else if s = 5 then 3 else 7
theorem okst {s t : Int} (h1 : 2 ≤ s) (h2 : s ≤ 5) (h3 : 0 ≤ t) (h4 : t < manyOf s) : Okst s t := by
  obtain ⟨n, rfl⟩ := Int.eq_ofNat_of_zero_le h3
  have hs : s = 2 ∨ s = 3 ∨ s = 4 ∨ s = 5 := by omega
  rcases hs with rfl | rfl | rfl | rfl
  · exact chk_ok (List.all_eq_true.mp chk2 n (List.mem_range.mpr (by simp [manyOf] at h4; omega)))
  · exact chk_ok (List.all_eq_true.mp chk3 n (List.mem_range.mpr (by simp [manyOf] at h4; omega)))
  · exact chk_ok (List.all_eq_true.mp chk4 n (List.mem_range.mpr (by simp [manyOf] at h4; omega)))
  · exact chk_ok (List.all_eq_true.mp chk5 n (List.mem_range.mpr (by simp [manyOf] at h4; omega)))
end K16
set_option Elab.async false
set_option linter.all false
set_option maxRecDepth 100000
set_option maxHeartbeats 4000000
/-! a lambda of one parameter, called by a built-in -/
namespace DL
open PySem PySem.Spec PyProof.Rows L2 Evl LamX NdefX
/-- the lambda's words as a nested function's -/
abbrev lamNF (q : Str) (params : Arguments) (scope : Scope) (cl : List (Str × Addr)) (c' : Addr) : NF := ⟨"<lambda>", q, params, [], scope, cl, c'⟩
/-- a lambda of the parameter p, read in the def that makes it; fr: what it captures, js: the slots of those -/
structure LamD1 (X : Cx) (k : Nat) (params : Arguments) (body : Expr) (scope : Scope) (p : Str) (N fr : List Str) (js : List Nat) (tb : TE) : Prop where
  S : NScope N [p] fr scope
  caps : Caps X (cloFrom X.env.cells scope.names []) fr js
  bind : ∀ (q : Str) (cl : List (Str × Addr)) (pm cv ctv : Value) (us : List Value), us.length = 1 → bindArgs (PySem.W.kla_fn "<lambda>" q params body scope cl pm cv ctv) ⟨us, []⟩ = pure ([p].zip us)
  run : ∀ (A : Around) (outer : List Env) (s : Shared) (H : Hp) (q : Str) (cl : List (Str × Addr)) (f c' : Addr), Room k (A.deeper (envF (lamNF q params scope cl c') f s.heap.objs.size)) →
    PE (ncx CX0 X.prog X.w X.K X.mg X.base N (lamNF q params scope cl c') f A outer s H E0) body tb
section
variable {X : Cx} {pins : List (Addr × Obj)} {σ : L2.St} {H : Hp} {s : Shared}
theorem lam1_call {A' : Around} {k : Nat} {params : Arguments} {body : Expr} {scope : Scope} {p : Str} {N fr : List Str} {js : List Nat} {tb : TE} {f c' : Addr} {x : V} {u : Value} {Q : VK} {E : Value → Shared → Prop}
    (I : Inv X pins σ H s) (D : LamD1 X k params body scope p N fr js tb) (ef : A'.frames = X.A.frames) (hr : Room (k + 1) A')
    (hf : H f = some (LamO f c' (X.env.qual ++ "<lambda>") params body scope (cloFrom X.env.cells scope.names []))) (hc : H c' = some (CodeO c' (X.env.qual ++ "<lambda>"))) (rx : RelV x u) (go : tb (startF N [x] (js.map (slotAt σ))) H Q) :
    wpAny (model X.prog X.w) A' (call (.ref f) [u]) (EP X pins σ Q) E s := by
  obtain ⟨⟨pm, ctv, of1⟩, _, _⟩ := I.hok f _ hf
  obtain ⟨⟨oc, fs, t, oc1, fd, fq⟩, _, _⟩ := I.hok c' _ hc
  have e1 := I.env0
  have e0 : Env0 X.prog X.w X.K X.mg X.base A' X.stack s H := ⟨by rw [ef]; exact e1.frames, e1.mod, e1.bs, e1.bsz, e1.funs, e1.frf, e1.hok, e1.bare⟩
  have cells := cells_of I D.caps
  have inner : codeAny (model X.prog X.w) A' (.call (.ref f) ⟨[u], []⟩) (CR CX0 X.stack X.prog X.w H s Q E0) s := by
    apply PySem.W.kla_callFunE hr.depth of1 rfl D.S.co D.S.gen rfl ⟨c', oc, fs, t, rfl, oc1, fd, fq⟩
    rw [D.bind _ _ _ _ _ [u] rfl]
    apply wpAny_pure
    refine wpAny_newFunctionEnv D.S.nocell (fun y hy => ?_) (fun h1 ns sb => ?_) D.S.kind
    · exact D.S.par y.1 (List.of_mem_zip (show (y.1, y.2) ∈ [p].zip [u] from hy)).1
    refine ⟨I.nolimit.fresh _ sb, ?_⟩
    have keep : ∀ b o, s.heap.get? b = some o → h1.get? b = some o := fun b o e => sb.extBut b o (Nat.ne_of_lt (Heap.lt_size e)) (Heap.get?_push_of_some _ e)
    have J := inv_startN (CX := CX0) (N := N) (F := lamNF (X.env.qual ++ "<lambda>") params scope (cloFrom X.env.cells scope.names []) c') (f := f) (E := E0) (us := [u]) (vs := [x]) (h₁ := h1) (tk := s.toks + ([p].zip [u]).length) D.S hr.hd e0 rfl (.cons rx .nil) cells ns keep
    have ran := (D.run A' X.stack s H (X.env.qual ++ "<lambda>") (cloFrom X.env.cells scope.names []) f c' (hr.deeper _)).run [] _ _ H Q J go
    refine PySem.W.kla_codeExpr (wpAny_mono ran (fun v s2 z => ?_) fun _ _ z => z)
    obtain ⟨y, H2, J2, r2, q2⟩ := z
    exact ⟨y, H2, J2.os, J2.bare, J2.base, J2.hok, r2, q2⟩
  apply wpAny_call
  refine codeAny_mono inner fun r s2 z => ?_
  cases r with
  | error e => exact (show False from z).elim
  | ok fl =>
    cases fl with
    | ret v => exact I.after z
    | next => exact z.elim
    | brk => exact z.elim
    | cont => exact z.elim
end
end DL
set_option Elab.async false
set_option linter.all false
set_option maxRecDepth 100000
set_option maxHeartbeats 4000000
/-! sorted(range(n), key=f), f a lambda of one parameter -/
namespace DL
open PySem PySem.Spec PyProof.Rows L2 Evl LamX NdefX
open PySem.W (alike AllAlike Sortable dataLe EachIs KeepsBut keyH_end dataKind SortsAt keyedOut_each)
section
variable {X : Cx} {pins : List (Addr × Obj)} {σ : L2.St} {H : Hp} {s : Shared}
theorem inv_pin2 {kS a : Addr} {o1 o2 : Obj} (I : Inv X pins σ H s) (g1 : s.heap.get? kS = some o1) (g2 : s.heap.get? a = some o2) (f1 : FpOk X pins H kS) (f2 : FpOk X pins H a) (n1 : ∀ v, o1.data ≠ .cell v) (n2 : ∀ v, o2.data ≠ .cell v) : Inv X (pins ++ [(kS, o1), (a, o2)]) σ H s :=
  I.pins_of fun p hp => by
    rcases List.mem_append.mp hp with hp | hp
    · exact I.pin p (List.mem_append_right _ hp)
    · simp only [List.mem_cons, List.not_mem_nil, or_false] at hp
      rcases hp with rfl | rfl
      · exact ⟨g1, f1.1, f1.2.1, f1.2.2.1, n1⟩
      · exact ⟨g2, f2.1, f2.2.1, f2.2.2.1, n2⟩
theorem fp_at {H' : Hp} {b : Addr} (f : FpOk X pins H b) (h : H' b = none) : FpOk X pins H' b := ⟨h, f.2⟩
theorem inv_turn {b : Addr} {h' : Heap} {t' : Nat} (I : Inv X pins σ H s) (f : FpOk X pins H b) (k : ∀ c o, c ≠ b → s.heap.get? c = some o → h'.get? c = some o) : Inv X pins σ H { s with heap := h', toks := t' } :=
  I.turned k f.1 f.2.1 f.2.2.2.1 f.2.2.2.2.1 f.2.2.2.2.2
theorem each_reads (I : Inv X pins σ H s) : ∀ {vs : List V} {us : List Value} {ds : List PyData}, Vals vs us → DpAll X.K H vs ds → EachIs (fun v d => ∃ as, Reads s.heap v d as) us ds
  | _, _, _, .nil, .nil => .nil
  | _, _, _, .cons r rs, .cons d ds => .cons (Dp.reads I _ _ _ d r) (each_reads I rs ds)
/-- what a key's turn asks: i's key is k i -/
def KeyTurn (X : Cx) (N : List Str) (ws : List (Option V)) (tb : TE) (H : Hp) (k : Int → PyData) (ns : List Int) : Prop := ∀ i ∈ ns, ∀ H1, Ex H H1 → ∀ Q1 : VK, (∀ v H2, Ex H1 H2 → Dp X.K H2 v (k i) → Q1 v H2) → tb (startF N [.int i] ws) H1 Q1
theorem each_vals2 : ∀ {us : List Value} {ns : List Int}, EachIs (fun (v : Value) (i : Int) => ∃ t, v = .int i t) us ns → Vals (ns.map V.int) us
  | _, _, .nil => .nil
  | _, _, .cons h t => .cons h (each_vals2 t)
theorem sort_walk {A' : Around} {kd : Nat} {params : Arguments} {body : Expr} {scope : Scope} {p : Str} {N fr : List Str} {js : List Nat} {tb : TE} {f c' a : Addr} {its : List Value} {ns : List Int} {k : Int → PyData} {n0 : Nat} {P : PySem.Fin → Shared → Prop} {E : Value → Shared → Prop}
    (I : Inv X pins σ H s) (D : LamD1 X kd params body scope p N fr js tb) (ef : A'.frames = X.A.frames) (hr : Room (kd + 1) A')
    (hf : H f = some (LamO f c' (X.env.qual ++ "<lambda>") params body scope (cloFrom X.env.cells scope.names []))) (hc : H c' = some (CodeO c' (X.env.qual ++ "<lambda>")))
    (ha : s.heap.get? a = some (seqObj "list" its.toArray n0)) (fa : FpOk X pins H a) (ei : EachIs (fun (v : Value) (i : Int) => ∃ t, v = .int i t) its ns) (hn : ns.length ≤ 1000) (al : AllAlike (ns.map k)) (so : Sortable (ns.map k)) (dep : ∀ d ∈ ns.map k, d.depth ≤ 50)
    (turn : KeyTurn X N (js.map (slotAt σ)) tb H k ns)
    (q : ∀ H' s', Ex H H' → Inv X pins σ (upd H' a (.lst ((ns.mergeSort (dataLe false k)).map V.int))) s' → H' a = none → P (.done (.ret .none)) s') :
    wpAny (model X.prog X.w) A' (ksk_tree a (.ref f) false) P E s := by
  have lenI : its.length = ns.length := ei.length
  have hz : its.length ≤ sizeLine := by
    rw [lenI]
    exact Nat.le_trans hn (by decide)
  have lt := Heap.lt_size ha
  obtain ⟨e1, hb⟩ : ∃ e1, (s.heap.update a (Obj.mapSeq fun _ => (#[] : Array Value))).get? a = some (seqObj "list" #[] e1) := ⟨_, get?_update_seq ha fun _ => #[]⟩
  unfold ksk_tree
  apply wpAny_bind
  apply listItems_at ha rfl
  apply wpAny_bind
  refine listUpdate_at ha rfl ?_ (by rw [List.size_toArray]; exact hz) (Nat.zero_le _)
  apply wpAny_bind
  apply seqEpoch_at hb rfl
  apply wpAny_bind
  refine wpAny_newTuple ?_ hz
  apply wpAny_bind
  refine wpAny_newList ?_ (Nat.zero_le _)
  apply wpAny_holding
  obtain ⟨hC, eC⟩ : ∃ hC, hC = (s.heap.update a (Obj.mapSeq fun _ => (#[] : Array Value))).push (seqObj "tuple" its.toArray 0) := ⟨_, rfl⟩
  have szC : hC.objs.size = s.heap.objs.size + 1 := by rw [eC, size_push', Heap.size_update]
  have turnA : Inv X pins σ H { s with heap := hC.push (seqObj "list" #[] 0) } := inv_turn (t' := s.toks) I fa fun c o nc hco => by
    rw [eC]
    exact Heap.get?_push_of_some _ (Heap.get?_push_of_some _ ((Heap.get?_update_other _ _ (Ne.symm nc)).trans hco))
  have gA : (hC.push (seqObj "list" #[] 0)).get? a = some (seqObj "list" #[] e1) := by
    rw [eC]
    exact Heap.get?_push_of_some _ (Heap.get?_push_of_some _ hb)
  have gK : (hC.push (seqObj "list" #[] 0)).get? hC.objs.size = some (seqObj "list" #[] 0) := Heap.get?_push_size _ rfl
  obtain ⟨kS, eK⟩ : ∃ kS, kS = hC.objs.size := ⟨_, rfl⟩
  have fK : FpOk X pins H kS := I.fpOk (by rw [eK, szC]; omega) (I.hok.fresh (by rw [eK, szC]; omega))
  have nKa : kS ≠ a := by
    rw [eK, szC]
    exact Nat.ne_of_gt (Nat.lt_succ_of_lt lt)
  show wpAny (model X.prog X.w) A' (ksk_rest a (.ref f) false its.toArray e1 (.ref ((s.heap.update a (Obj.mapSeq fun _ => (#[] : Array Value))).push (seqObj "tuple" its.toArray 0)).objs.size)) P E { s with heap := ((s.heap.update a (Obj.mapSeq fun _ => (#[] : Array Value))).push (seqObj "tuple" its.toArray 0)).push (seqObj "list" #[] 0) }
  rw [← eC]
  rw [← eK] at gK ⊢
  unfold ksk_rest
  apply wpAny_bind
  apply wpAny_rule
  rw [List.forIn_toArray]
  apply wpAny_bind
  refine ksk_fold (fun i s' => ∃ Hi kA e kvs, Inv X pins σ Hi s' ∧ Ex H Hi ∧ Hi kS = none ∧ Hi a = none ∧ s'.heap.get? kS = some (seqObj "list" kA e) ∧ s'.heap.get? a = some (seqObj "list" #[] e1) ∧ Vals kvs kA.toList ∧ DpAll X.K Hi kvs ((ns.take i).map k)) its 0 _
    ⟨H, #[], 0, [], turnA, Ex.refl _, fK.1, fa.1, gK, gA, .nil, by simp; exact .nil⟩ ?_ ?_
  · rintro j x s' hx ⟨Hi, kA, e, kvs, J, xi, n1, n2, g1, g2, rv, dv⟩
    simp only [Nat.zero_add] at dv ⊢
    have hj : j < its.length := (List.getElem?_eq_some_iff.mp hx).1
    have gi : ns[j]? = some (ns[j]'(by omega)) := List.getElem?_eq_getElem (by omega)
    obtain ⟨t, ex⟩ : ∃ t, x = .int (ns[j]'(by omega)) t := by
      have rr := (each_vals2 ei).get (i := j) (x := .int (ns[j]'(by omega))) (by rw [List.getElem?_map, gi]; rfl)
      obtain ⟨u, hu, ru⟩ := rr
      rw [hx] at hu
      cases hu
      exact ru
    have J2 := inv_pin2 J g1 g2 (fp_at fK n1) (fp_at fa n2) (fun _ z => nomatch z) fun _ z => nomatch z
    apply wpAny_bind
    apply wpAny_attempt
    refine wpAny_mono (lam1_call (E := fun _ _ => False) (x := .int (ns[j]'(by omega))) (Q := fun v H2 => Ex Hi H2 ∧ Dp X.K H2 v (k (ns[j]'(by omega)))) J2 D ef hr (xi _ _ hf) (xi _ _ hc) ⟨t, ex⟩ (turn _ (List.mem_of_getElem? gi) Hi xi _ fun v H2 e2 hd => ⟨e2, hd⟩)) (fun u s2 z => ?_) fun _ _ z => z.elim
    obtain ⟨y, H2, J3, ry, e2, hd⟩ := z
    have pK := J3.pin (kS, seqObj "list" kA e) (by simp)
    have pA := J3.pin (a, seqObj "list" #[] e1) (by simp)
    have J4 : Inv X pins σ H2 s2 := J3.unpinned
    have lk : kA.size = j := by
      have l1 : kvs.length = kA.toList.length := Vals.length rv
      have l2 := dpa_len dv
      rw [List.length_map, List.length_take] at l2
      have l3 : kA.toList.length = kA.size := Array.length_toList
      omega
    obtain ⟨e3, hK2⟩ : ∃ e3, (s2.heap.update kS (Obj.mapSeq (·.push u))).get? kS = some (seqObj "list" (kA.push u) e3) := ⟨_, get?_update_seq pK.1 (·.push u)⟩
    dsimp only
    apply wpAny_bind
    refine listUpdate_at pK.1 rfl ?_ (by rw [lk]; exact Nat.le_trans (by omega) hz) (by rw [Array.size_push, lk]; exact Nat.le_trans (Nat.succ_le_succ (Nat.le_trans (Nat.le_of_lt hj) hz)) (Nat.le_refl _))
    apply wpAny_pure
    refine ⟨rfl, H2, kA.push u, e3, kvs ++ [y], inv_turn (t' := s2.toks) J4 (fp_at fK pK.2.1) (fun c o nc hco => (Heap.get?_update_other _ _ (Ne.symm nc)).trans hco), xi.trans e2, pK.2.1, pA.2.1, hK2, (Heap.get?_update_other _ _ nKa).trans pA.1, ?_, ?_⟩
    · rw [Array.toList_push]
      exact rv.append (.cons ry .nil)
    · rw [List.take_add_one, gi, Option.toList_some, List.map_append]
      exact dpa_app (dpa_ex e2 _ _ dv) (.cons hd .nil)
  · rintro s' ⟨Hi, kA, e, kvs, J, xi, n1, n2, g1, g2, rv, dv⟩
    have tk : ns.take (0 + its.length) = ns := List.take_of_length_le (by omega)
    rw [tk] at dv
    have er := each_reads J rv dv
    have lk : kA.size = its.length := by
      have l1 : kvs.length = kA.toList.length := Vals.length rv
      have l2 := dpa_len dv
      rw [List.length_map] at l2
      have l3 : kA.toList.length = kA.size := Array.length_toList
      omega
    obtain ⟨G, G1, G2⟩ := restrict s'.heap (fun b => !decide (b = kS))
    apply wpAny_bind
    apply listItems_at g1 rfl
    have srt : SortsAt X.prog X.w A' s' (dataKind s'.heap (ns.map k)) kA.toList := SortsAt.data er al so fun d hd => by
      have := dep d hd
      have := hr.units
      omega
    refine keyH_end (a := a) (kS := kS) (e := e) (e1 := e1) (κ := dataKind s'.heap (ns.map k)) (h₁ := G) (fun b o nb hb' => ?_) (G2 kS (by simp)) g1 g2 nKa srt lk hz fun h3 t3 c3 k3 g3 => ?_
    · by_cases z : b = kS
      · rw [z, G2 kS (by simp)] at hb'
        cases hb'
      · rw [G1 b (by simpa using z)] at hb'
        exact hb'
    · have old : (h3.update a fun _ => seqObj "list" #[] e1).get? a = some (seqObj "list" #[] e1) := Heap.get?_update_self _ g3 rfl
      have J2 : Inv X pins σ Hi { s' with heap := h3.update a fun _ => seqObj "list" #[] e1, toks := t3 } := inv_turn J (fp_at fK n1) fun c o nc hco => by
        by_cases z : c = a
        · rw [z] at hco ⊢
          rw [old, ← g2, hco]
        · rw [Heap.get?_update_other _ _ (Ne.symm z)]
          exact k3 c o z (by rw [G1 c (by simpa using nc)]; exact hco)
      have eo := keyedOut_each (rev := false) k ⟨s'.heap, kA.toList, al, rfl, er⟩ ei
      have vo := each_vals2 eo
      have J3 : Inv X pins σ (upd Hi a (.lst ((ns.mergeSort (dataLe false k)).map V.int))) { s' with heap := h3, toks := t3 } := J2.take (h' := h3) (t' := t3) (fun b o nb hb' => by rw [Heap.get?_update_other _ _ (Ne.symm nb)] at hb'; exact hb') (fp_at fa n2) ⟨by
        rw [List.length_map, List.length_mergeSort]
        exact Nat.le_trans hn (by decide), _, c3, vo, g3⟩
      exact q Hi _ xi J3 n2
end
end DL
set_option Elab.async false
set_option linter.all false
set_option maxRecDepth 100000
set_option maxHeartbeats 4000000
/-! the expression sorted(range(n), key=lambda ..); a lambda made where all but its table stays -/
namespace DL
open PySem PySem.Spec PyProof.Rows L2 Evl LamX NdefX
open PySem.W (alike AllAlike Sortable dataLe EachIs)
/-- 0 .. n - 1 -/
def rgN (n : Nat) : List Int := (List.range n).map fun (i : Nat) => (i : Int)
theorem each_of {f : Nat → Int} : ∀ {us : List Value} (m : Nat), (∀ (i : Nat) u, us[i]? = some u → ∃ t, u = Value.int (f (m + i)) t) → EachIs (fun (v : Value) (i : Int) => ∃ t, v = .int i t) us ((List.range us.length).map fun i => f (m + i))
  | [], _, _ => .nil
  | u :: us, m, h => by
    rw [List.length_cons, List.range_succ_eq_map, List.map_cons, List.map_map]
    refine .cons (h 0 u rfl) ?_
    have r := each_of (f := f) (us := us) (m + 1) fun i v hv => by
      have := h (i + 1) v (by simpa using hv)
      rwa [show m + (i + 1) = m + 1 + i by omega] at this
    have e : (fun i => f (m + 1 + i)) = ((fun i => f (m + i)) ∘ Nat.succ) := by
      funext i
      show f (m + 1 + i) = f (m + (i + 1))
      rw [show m + (i + 1) = m + 1 + i by omega]
    rwa [e] at r
section
variable {X : Cx}
/-- range(n), the object -/
def rRange1 : List V → Hp → VK → Prop := fun vs H Q => ∃ n, vs = [V.int n] ∧ ∀ p, H p = none → Q (.ref p) (upd H p (.rng 0 n))
theorem cr_range1 : CallR X (.type "range") rRange1 := by
  intro pins s σ H vs us Q I r h
  obtain ⟨n, rfl, q⟩ := h
  obtain ⟨u, rfl, ru⟩ := vals1 r
  obtain ⟨t, rfl⟩ := ru
  refine call_range_1 ⟨.ref s.heap.objs.size, upd H s.heap.objs.size (.rng 0 n), I.laid (t' := s.toks + 2) (fun b o e => Heap.get?_push_of_some _ e) (Nat.le_refl _) ?_, rfl, q _ (I.hok.fresh (Nat.le_refl _))⟩
  exact ⟨_, _, _, Heap.get?_push_size _ rfl⟩
/-- sorted(range(n), key=f) -/
def tSortL (X : Cx) (k : Nat) (params : Arguments) (body : Expr) (scope : Scope) (p : Str) (N fr : List Str) (js : List Nat) (tb : TE) (t tk : TA) : TE := fun σ H Q => t σ H fun vs H1 => tk σ H1 fun zs H2 => ∃ (r f c' : Addr) (n : Nat) (key : Int → PyData),
  vs = [.ref r] ∧ zs = [.ref f] ∧ H2 r = some (.rng 0 (n : Int)) ∧ H2 f = some (LamO f c' (X.env.qual ++ "<lambda>") params body scope (cloFrom X.env.cells scope.names [])) ∧ H2 c' = some (CodeO c' (X.env.qual ++ "<lambda>")) ∧
  n ≤ 1000 ∧ Builtin.Range.small 0 (n : Int) 1 = true ∧ Builtin.Range.rangeSize 0 (n : Int) 1 = (n : Int) ∧ AllAlike ((rgN n).map key) ∧ Sortable ((rgN n).map key) ∧ (∀ d ∈ (rgN n).map key, d.depth ≤ 50) ∧ KeyTurn X N (js.map (slotAt σ)) tb H2 key (rgN n) ∧
  ∀ a H', H2 a = none → Ex H2 H' → H' a = some (.lst (((rgN n).mergeSort (dataLe false key)).map V.int)) → Q (.ref a) H'
theorem pe_sortL {k : Nat} {params : Arguments} {body : Expr} {scope : Scope} {p0 : Str} {N fr : List Str} {js : List Nat} {tb : TE} {t tk : TA} {x : Str} {p pos : Pos} {e : Expr} {kw : Keyword} (calm : X.calm = true) (D : X.Ok → LamD1 X k params body scope p0 N fr js tb) (hr : Room (k + 4) X.A)
    (hx : x = "sorted") (hg : Gl X x) (hm : X.mg x = none) (ha : PA X [e] t) (hk : PK X [kw] tk)
    (he : backTo pos (starEach [e] X.env) = (false, eval e X.env) :: backTo pos (starEach [] X.env) := by rfl) (hpl : (backTo pos (starEach [e] X.env)).any (·.1) = false := by rfl)
    (hall : (backToKw pos (keywordEach [kw] X.env)).all (·.1.isSome) = true := by rfl) (hnone : (backToKw pos (keywordEach [kw] X.env)).any (·.1.isNone) = false := by rfl) (hks : (backToKw pos (keywordEach [kw] X.env)).filterMap (·.1) = [Str.ofString "key"] := by rfl) :
    PE X (.Call (.Name x p) [e] [kw] pos) (tSortL X k params body scope p0 N fr js tb t tk) := by
  subst hx
  constructor
  intro pins s σ H Q I h
  apply wpAny_Call_Name_kw
  refine ld_blt (u := .builtin "sorted") I hg hm (by decide +kernel) ?_ (by decide) (by decide)
  apply PyProof.Rows.callWith_kw _ he hpl hall hnone
  refine thn (ha.run pos pins s σ H _ I h) fun us s1 z1 => ?_
  obtain ⟨vs, H1, I1, r1, q1⟩ := z1
  refine thn (hk.run pos pins s1 σ H1 _ I1 q1) fun ws s2 z2 => ?_
  obtain ⟨zs, H2, I2, r2, r, f, c', n, key, rfl, rfl, hR, hf, hc, hn, sm, rs, al, so, dep, turn, q⟩ := z2
  obtain rfl := Vals.ref1 r1
  obtain rfl := Vals.ref1 r2
  rw [hks]
  show wpAny (model X.prog X.w) X.A (call (.builtin "sorted") [.ref r] [(Str.ofString "key", .ref f)]) (EP X pins σ Q) X.xe s2
  obtain ⟨t0, t1, t2, ho⟩ := (show ObjOk X.prog X.w H2 s2.heap r (.rng 0 (n : Int)) from I2.hok r _ hR)
  refine call_function_entry_kw kind_sorted plain_sorted entry_sorted (ksk_s1 _ _) ?_
  unfold Builtin.«sorted»
  apply wpAny_bind
  refine wpAny_pure ?_
  apply wpAny_bind
  refine collect_range (A := X.A.in1) (I2.ok.hd calm) ho sm (n := n) rs (Nat.le_trans hn (by decide)) fun h3 tk3 acc keep items => ?_
  have I3 : Inv X pins σ H2 { s2 with heap := h3, toks := tk3 } := I2.kept keep
  obtain ⟨lenA, at_⟩ := items
  have lenL : acc.toList.length = n := by rw [Array.length_toList, lenA]
  have ei : EachIs (fun (v : Value) (i : Int) => ∃ t, v = .int i t) acc.toList (rgN n) := by
    have := each_of (f := fun i => (i : Int)) (us := acc.toList) 0 fun i v hv => by
      obtain ⟨t, e⟩ := at_ i v (by rw [← Array.getElem?_toList]; exact hv)
      exact ⟨t, by rw [e, show (0 + (i : Int) * 1) = ((0 + i : Nat) : Int) by omega]⟩
    rw [lenL] at this
    have e : (List.range n).map (fun i => ((0 + i : Nat) : Int)) = rgN n := by
      exact List.map_congr_left fun i _ => by rw [Nat.zero_add]
    rwa [e] at this
  apply wpAny_bind
  refine wpAny_newList ?_ (by rw [lenL]; exact Nat.le_trans hn (by decide))
  have gA : (h3.push (seqObj "list" acc.toList.toArray 0)).get? h3.objs.size = some (seqObj "list" acc.toList.toArray 0) := Heap.get?_push_size _ rfl
  show wpAny _ _ _ _ _ { s2 with heap := h3.push (seqObj "list" acc.toList.toArray 0), toks := tk3 }
  have I4 : Inv X pins σ H2 { s2 with heap := h3.push (seqObj "list" acc.toList.toArray 0), toks := tk3 } := I3.kept fun _ _ z => Heap.get?_push_of_some _ z
  have fA : FpOk X pins H2 h3.objs.size := I3.fpOk (Nat.le_refl _) (I3.hok.fresh (Nat.le_refl _))
  apply wpAny_bind
  apply wpAny_holding
  refine wpAny_call_entry_kw slot_list_sort ⟨_, gA, rfl⟩ entry_list_sort ?_ (ksk_l1 _ _)
  rw [ksk_t1]
  refine sort_walk (A' := X.A.in1.in1) (kd := k) I4 (D I2.ok) rfl (((hr.mono (by omega : k + 3 ≤ k + 4)).in1).in1) hf hc gA fA ei (by simp [rgN]; exact hn) al so dep turn fun H' s' x' J na => ?_
  refine ⟨_, rfl, wpAny_pure ⟨_, rfl, .ref h3.objs.size, _, J, rfl, q _ _ fA.1 (fun b o hb => ?_) upd_same⟩⟩
  rw [upd_ne (ne_of_none (x' _ _ hb) na)]
  exact x' _ _ hb
end
end DL
set_option Elab.async false
set_option linter.all false
set_option maxRecDepth 100000
set_option maxHeartbeats 4000000
/-! a lambda is made: all but its table stays, and where its code was there already all stays -/
namespace DL
open PySem PySem.Spec PyProof.Rows L2 Evl LamX NdefX
/-- what a lambda takes from around is there -/
def LamF (sc scope : Scope) : Prop := ∀ y ∈ scope.names, y.2 = .free → sc.names.lookup y.1 = some .cell ∨ sc.names.lookup y.1 = some .free
def lamFB (sc scope : Scope) : Bool := scope.names.all fun y => !decide (y.2 = .free) || decide (sc.names.lookup y.1 = some .cell) || decide (sc.names.lookup y.1 = some .free)
theorem lamF_by {sc scope : Scope} (h : lamFB sc scope = true) : LamF sc scope := fun y hy e => by
  have := List.all_eq_true.mp h y hy
  simp only [Bool.or_eq_true, Bool.not_eq_true', decide_eq_true_eq, decide_eq_false_iff_not] at this
  rcases this with (z | z) | z
  · exact absurd e z
  · exact .inl z
  · exact .inr z
/-- the lambda's code at pos is in the table at P -/
def HasC (H : Hp) (P : Addr) (pos : Pos) : Prop := ∃ ps cv, H P = some (.tbl ps) ∧ codeAmong pos ps.toList = some cv
theorem HasC.ex {H H' : Hp} {P : Addr} {pos : Pos} (h : HasC H P pos) (e : Ex H H') : HasC H' P pos := by
  obtain ⟨ps, cv, a, b⟩ := h
  exact ⟨ps, cv, e _ _ a, b⟩
/-- all but what stands at P stays -/
def ExB (P : Addr) (H H' : Hp) : Prop := ∀ b o, H b = some o → b ≠ P → H' b = some o
theorem ExB.of {P : Addr} {H H' : Hp} (e : Ex H H') : ExB P H H' := fun b o h _ => e b o h
theorem ExB.trans {P : Addr} {H H1 H2 : Hp} (a : ExB P H H1) (b : ExB P H1 H2) : ExB P H H2 := fun c o h n => b c o (a c o h n) n
theorem ExB.tx {P : Addr} {H H' : Hp} (e : ExB P H H') {ps : Array Value} (h : H P = some (.tbl ps)) : Tx H H' := fun a xs r => by
  rcases r with r | ⟨ob, r⟩
  · exact Or.inl (e _ _ r fun z => by rw [z, h] at r; cases r)
  · exact Or.inr ⟨ob, e _ _ r fun z => by rw [z, h] at r; cases r⟩
theorem among_new {pos : Pos} {c : Value} (l : List Value) (h : TriplesOk l) (hn : codeAmong pos l = none) : codeAmong pos (l ++ [rawInt pos.line, rawInt pos.col, c]) = some c := by
  fun_induction TriplesOk l with
  | case1 =>
    simp only [List.nil_append, rawInt, codeAmong]
    rw [if_pos (by simp)]
  | case2 a t b u x rest ih =>
    simp only [List.cons_append, codeAmong] at hn ⊢
    split at hn
    · cases hn
    · rename_i q
      rw [if_neg q]
      exact ih h hn
  | case3 l h1 h2 => exact h.elim
/-- the lambda's making -/
def tLamB (P : Addr) (q : Str) (pos : Pos) (params : Arguments) (body : Expr) (scope : Scope) (cl : List (Str × Addr)) : TE := fun σ H Q => TabS H P q ∧ ∀ f c' H1, ExB P H H1 → TabS H1 P q → HasC H1 P pos → (HasC H P pos → H1 = H) → H f = none → H1 f = none → H1 c' = some (CodeO c' q) →
  Q (.ref f) (upd H1 f (LamO f c' q params body scope cl))
section
variable {X : Cx} {c P : Addr} {params : Arguments} {body : Expr} {scope : Scope} {pos : Pos}
theorem pe_lamB (TB : TabB X.base X.mg c P) (code : X.env.code = .ref c) (hF : LamF X.env.scope scope) (hdef : defaultsOf params X.env = ([], [])) :
    PE X (.Lambda params body scope pos) (tLamB P (X.env.qual ++ "<lambda>") pos params body scope (cloFrom X.env.cells scope.names [])) := by
  constructor
  intro pins s σ H Q I hh
  obtain ⟨tab, k⟩ := hh
  obtain ⟨ps, atP, tri, among⟩ := id tab
  have free : ∀ y ∈ scope.names, y.2 = .free → ∃ c, X.env.cells.lookup y.1 = some c := fun y hy e => (hF y hy e).elim (fun z => I.ok.has _ (.inl z)) fun z => I.ok.has _ (.inr z)
  apply PySem.W.kla_eval hdef
  have bi : s.heap.BuiltinsAt X.mg P := TB.bm.keeps I.bk
  have heapP : s.heap.get? P = some { cls := .none, data := .fields ps } := I.hok P _ atP
  cases look : codeAmong pos ps.toList with
  | some cv =>
    obtain ⟨c', rfl, hc'⟩ := among pos cv look
    apply PySem.W.kla_makeFunctionHit (mg := X.mg) (c := c) (P := P) (ps := ps) (closure_ok free) I.ok.glob (I.mod.glob.keeps I.bk) code (TB.code.keeps I.bk) heapP tri look bi
    intro ctv h2 tk keep size
    have J : Inv X pins σ H { s with heap := h2, toks := tk } := I.kept keep
    have n2 : H h2.objs.size = none := I.hok.fresh size
    have J2 := J.laid (t' := tk) (h' := h2.push (PySem.W.kla_obj "<lambda>" (X.env.qual ++ "<lambda>") params body scope (cloFrom X.env.cells scope.names []) ((X.mg "__name__").getD .none) c' ctv)) (fun _ _ z => Heap.get?_push_of_some _ z) (Nat.le_refl _)
      (lamO_ok (f := h2.objs.size) (c' := c') (Heap.get?_push_size _ rfl))
    exact ⟨V.ref h2.objs.size, _, J2, rfl, k _ c' H (ExB.of (Ex.refl H)) tab ⟨ps, _, atP, look⟩ (fun _ => rfl) n2 n2 hc'⟩
  | none =>
    apply PySem.W.kla_makeFunction (mg := X.mg) (c := c) (P := P) (ps := ps) (closure_ok free) I.ok.glob (I.mod.glob.keeps I.bk) code (TB.code.keeps I.bk) heapP tri look TB.gP bi
    intro c' ctv h2 tk but ge lt rec0 tabH
    obtain ⟨c2, oc, fs, t, e2, oc2, fd, fq⟩ := rec0
    cases e2
    have nC : H c' = none := I.hok.fresh ge
    have size : s.heap.objs.size ≤ h2.objs.size := Nat.le_trans ge (Nat.le_of_lt lt)
    have nF : H h2.objs.size = none := I.hok.fresh size
    have J := inv_table (t' := tk) (h' := h2) (c := c') (q := X.env.qual ++ "<lambda>") (more := #[rawInt pos.line, rawInt pos.col, .ref c']) I atP (fun b o nb z => but b o nb z) tabH ge ⟨oc, fs, t, oc2, fd, fq⟩
    have nPc : P ≠ c' := ne_of_none atP nC
    have ext : ExB P H (upd (upd H P (.tbl (ps ++ #[rawInt pos.line, rawInt pos.col, .ref c']))) c' (CodeO c' (X.env.qual ++ "<lambda>"))) := fun b o z nb => by
      rw [upd_ne (ne_of_none z nC), upd_ne nb]
      exact z
    have toL : (ps ++ #[rawInt pos.line, rawInt pos.col, .ref c']).toList = ps.toList ++ [rawInt pos.line, rawInt pos.col, .ref c'] := by simp
    have newP : upd (upd H P (.tbl (ps ++ #[rawInt pos.line, rawInt pos.col, .ref c']))) c' (CodeO c' (X.env.qual ++ "<lambda>")) P = some (.tbl (ps ++ #[rawInt pos.line, rawInt pos.col, .ref c'])) := by rw [upd_ne nPc, upd_same]
    have tab2 : TabS (upd (upd H P (.tbl (ps ++ #[rawInt pos.line, rawInt pos.col, .ref c']))) c' (CodeO c' (X.env.qual ++ "<lambda>"))) P (X.env.qual ++ "<lambda>") := by
      refine ⟨_, newP, by rw [toL]; exact PySem.TriplesOk_snoc _ _ _ _ tri, fun p2 cv z => ?_⟩
      rw [toL] at z
      rcases among_app _ tri z with z | z
      · obtain ⟨c0, g1, g2⟩ := among p2 cv z
        exact ⟨c0, g1, ext _ _ g2 fun y => by rw [y, atP] at g2; exact codeO_ne ps (Option.some.inj g2).symm⟩
      · exact ⟨c', z, upd_same⟩
    have has2 : HasC (upd (upd H P (.tbl (ps ++ #[rawInt pos.line, rawInt pos.col, .ref c']))) c' (CodeO c' (X.env.qual ++ "<lambda>"))) P pos := ⟨_, .ref c', newP, by rw [toL]; exact among_new _ tri look⟩
    have fC : h2.objs.size ≠ c' := Nat.ne_of_gt lt
    have fP : h2.objs.size ≠ P := Nat.ne_of_gt (Nat.lt_of_lt_of_le (Heap.lt_size heapP) size)
    have none1 : upd (upd H P (.tbl (ps ++ #[rawInt pos.line, rawInt pos.col, .ref c']))) c' (CodeO c' (X.env.qual ++ "<lambda>")) h2.objs.size = none := by
      rw [upd_ne fC, upd_ne fP]
      exact nF
    have J2 := J.laid (t' := tk) (h' := h2.push (PySem.W.kla_obj "<lambda>" (X.env.qual ++ "<lambda>") params body scope (cloFrom X.env.cells scope.names []) ((X.mg "__name__").getD .none) c' ctv)) (fun _ _ z => Heap.get?_push_of_some _ z) (Nat.le_refl _)
      (lamO_ok (f := h2.objs.size) (c' := c') (Heap.get?_push_size _ rfl))
    refine ⟨V.ref h2.objs.size, _, J2, rfl, k _ c' _ ext tab2 has2 (fun z => ?_) nF none1 upd_same⟩
    obtain ⟨ps', cv, a, b⟩ := z
    rw [atP] at a
    cases a
    rw [look] at b
    cases b
end
end DL
set_option Elab.async false
set_option linter.all false
set_option maxRecDepth 100000
set_option maxHeartbeats 4000000
/-! sorted(range(e), key=lambda ..), read -/
namespace DL
open PySem PySem.Spec PyProof.Rows L2 Evl LamX NdefX
open PySem.W (alike AllAlike Sortable dataLe EachIs)
theorem ev_sortL {X : Cx} {k : Nat} {params : Arguments} {body : Expr} {scope : Scope} {p : Str} {N fr : List Str} {js : List Nat} {tb te : TE} {P : Addr} {pos : Pos} {σ : L2.St} {H : Hp} {Q : VK} {n : Nat} {key : Int → PyData}
    (he : Ev te σ H (.int (n : Int))) (hT : TabS H P (X.env.qual ++ "<lambda>")) (hn : n ≤ 1000) (sm : Builtin.Range.small 0 (n : Int) 1 = true) (rs : Builtin.Range.rangeSize 0 (n : Int) 1 = (n : Int)) (al : AllAlike ((rgN n).map key)) (so : Sortable ((rgN n).map key)) (dep : ∀ d ∈ (rgN n).map key, d.depth ≤ 50)
    (turn : ∀ H5, (∀ b o, H b = some o → (∀ ps, o ≠ .tbl ps) → H5 b = some o) → KeyTurn X N (js.map (slotAt σ)) tb H5 key (rgN n))
    (q : ∀ a H6, H a = none → ExB P H H6 → (HasC H P pos → Ex H H6) → TabS H6 P (X.env.qual ++ "<lambda>") → HasC H6 P pos → H6 a = some (.lst (((rgN n).mergeSort (dataLe false key)).map V.int)) → Q (.ref a) H6) :
    tSortL X k params body scope p N fr js tb (tCons (tCB rRange1 (tCons te tNil)) tNil) (tCons (tLamB P (X.env.qual ++ "<lambda>") pos params body scope (cloFrom X.env.cells scope.names [])) tNil) σ H Q := by
  obtain ⟨ps0, hP, _, _⟩ := id hT
  refine he H (Ex.refl _) _ fun H1 e1 => ⟨_, rfl, fun r hr => ?_⟩
  have eR : Ex H (upd H1 r (.rng 0 (n : Int))) := e1.trans (Ex.new hr)
  refine ⟨hT.ext fun b o z => eR _ _ z, fun f c' H4 xB tS hC same n0 n1 hc' => ?_⟩
  have hPR := eR _ _ hP
  have nTB : ∀ b o, (upd H1 r (.rng 0 (n : Int))) b = some o → (∀ ps, o ≠ .tbl ps) → b ≠ P := fun b o z n y => by
    rw [y, hPR] at z
    exact n ps0 (Option.some.inj z).symm
  have eF : Ex H4 (upd H4 f (LamO f c' (X.env.qual ++ "<lambda>") params body scope (cloFrom X.env.cells scope.names []))) := Ex.new n1
  have rR := eF _ _ (xB r _ upd_same (nTB r _ upd_same fun _ z => nomatch z))
  refine ⟨r, f, c', n, key, rfl, rfl, rR, upd_same, eF _ _ hc', hn, sm, rs, al, so, dep, turn _ fun b o z nt => eF _ _ (xB _ _ (eR _ _ z) (nTB _ _ (eR _ _ z) nt)), fun a H6 ha e6 hs => ?_⟩
  have hHa : H a = none := by
    cases z : H a with
    | none => rfl
    | some o =>
      by_cases e : a = P
      · rw [e] at ha
        obtain ⟨ps, cv, z1, _⟩ := hC
        rw [eF _ _ z1] at ha
        cases ha
      · rw [eF _ _ (xB _ _ (eR _ _ z) e)] at ha
        cases ha
  refine q a H6 hHa (fun b o z nb => e6 _ _ (eF _ _ (xB _ _ (eR _ _ z) nb))) (fun hc b o z => ?_) (tS.ext fun b o z => e6 _ _ (eF _ _ z)) ((hC.ex eF).ex e6) hs
  have e4 := same (hc.ex eR)
  rw [e4] at eF
  exact e6 _ _ (by rw [e4]; exact eF _ _ (eR _ _ z))
end DL
set_option Elab.async false
set_option linter.all false
set_option maxRecDepth 100000
set_option maxHeartbeats 4000000
/-! caught(lambda: ..): the lambda made in the very call -/
namespace DL
open PySem PySem.Spec PyProof.Rows L2 Evl LamX NdefX
def tCauL (K : PySem.W.Frag) (CS P : Addr) (q : Str) (pos : Pos) (params : Arguments) (body : Expr) (scope : Scope) (cl : List (Str × Addr)) (tb : XK → TE) : TE := fun σ H Q => tLamB P q pos params body scope cl σ H fun _ H1 => TTc K CS tb σ H1 Q
theorem pe_caughtL {X : Cx} {x : Str} {CS P c : Addr} {k : Nat} {params : Arguments} {body : Expr} {scope : Scope} {lp p pos : Pos} {tb : XK → TE} (F : CauF X.K X.mg x CS) (hg : Gl X x) (hr : Room (k + 2) X.A) (TB : TabB X.base X.mg c P) (code : X.env.code = .ref c) (hF : LamF X.env.scope scope) (hdef : defaultsOf params X.env = ([], []))
    (D : LamD X k params body scope tb) (hdb : (x == ("__debug__" : Str)) = false := by decide) :
    PE X (.Call (.Name x p) [.Lambda params body scope lp] [] pos) (tCauL X.K CS P (X.env.qual ++ "<lambda>") lp params body scope (cloFrom X.env.cells scope.names []) tb) := by
  obtain ⟨g, oc, od, an, osl, sg, pg, dV, kV, doc, pm, cdv, ct, k0, p1, p2, p3, p4, p5, p6, p7, p8, p9, p10, p11, p12, p13, p14, hm, hk, lk, hcg, hb, S, ge, me, le, lc, lw⟩ := F.ex
  constructor
  intro pins s σ H Q I hh
  obtain ⟨tab, kk⟩ := hh
  apply wpAny_Call_Name_kw
  refine ld_glob I hg hm ?_ hdb
  have arg := (pa_cons (pe_lamB (pos := lp) TB code hF hdef) pa_nil).run pos pins s σ H (fun vs H1 => ∃ f c', vs = [.ref f] ∧ H1 f = some (LamO f c' (X.env.qual ++ "<lambda>") params body scope (cloFrom X.env.cells scope.names [])) ∧ H1 c' = some (CodeO c' (X.env.qual ++ "<lambda>")) ∧ TTc X.K CS tb σ H1 Q) I
    ⟨tab, fun f c' H1 xB tS hC same n0 n1 hc' => ⟨f, c', rfl, upd_same, Ex.new n1 _ _ hc', kk f c' H1 xB tS hC same n0 n1 hc'⟩⟩
  refine PySem.W.callWith_K (h₀ := X.base) I.ok.mod.kin hk (thn arg fun us s1 z => ?_) (by rfl) (by rfl)
  obtain ⟨vs, H1, I1, r, f, c', rfl, hf, hc, go⟩ := z
  refine ⟨I1.kIn, ?_⟩
  have lu : us.length = 1 := (Vals.length r).symm
  have inner : codeAny (model X.prog X.w) X.A (.call (.ref g) ⟨us, []⟩) (CR CX0 X.stack X.prog X.w H1 s1 Q E0) s1 := by
    refine run_ofS (N := ["work", "caught", "error"]) (ps := ["work"]) (us := us) (vs := [.ref f]) lk hcg S hr I1.env0 ?_ r rfl fun hr2 => ?_
    · have := hb s1 us I1.kIn (by simpa using lu)
      simpa using this
    · obtain ⟨t, ht, q⟩ := caught_run (x := x) (g := g) (cdg := cdv) (k0 := k0) (p1 := p1) (p2 := p2) (p3 := p3) (p4 := p4) (p5 := p5) (p6 := p6) (p7 := p7) (p8 := p8) (p9 := p9) (p10 := p10) (p11 := p11) (p12 := p12) (p13 := p13) (p14 := p14) I1 D hr2 S ge me le lc lw hf hc go
      exact ⟨t, ht.nox, q⟩
  apply wpAny_call
  refine codeAny_mono inner fun r2 s2 z => ?_
  cases r2 with
  | error e => exact (show False from z).elim
  | ok fl =>
    cases fl with
    | ret u => exact I1.after z
    | next => exact z.elim
    | brk => exact z.elim
    | cont => exact z.elim
/-- if not isinstance(caught(lambda: ..), C): return False, where it raises a C -/
theorem q_refuse {K : PySem.W.Frag} {CS C P : Addr} {q : Str} {pos : Pos} {params : Arguments} {body : Expr} {scope : Scope} {cl : List (Str × Addr)} {tb : XK → TE} {tz : TS} {D : Ends} {σ : L2.St} {H : Hp} (tab : TabS H P q)
    (kC : PySem.W.exmOne K (.ref C) (.ref CS) = some true) (iC : PySem.W.kitOne K (.ref C) (.ref C) = some true) (eC : ExcC K C)
    (r : ∀ H1, ExB P H H1 → ∀ (E : XK) (Q : VK), (∀ H2, Ex H1 H2 → E (.ref C) none H2) → tb E σ H1 Q)
    (z : ∀ H', ExB P H H' → TabS H' P q → tz D σ H') :
    tSeq (tIfS (tNot (tB (tCB (rIsK K) (tCons (tCauL K CS P q pos params body scope cl tb) (tCons (tC (.ref C)) tNil))))) (tRet (tC (.bl false))) tNext) tz D σ H := by
  refine ⟨tab, fun f c' H1 xB tS hC same n0 n1 hc' E Q2 r1 r2 => ?_⟩
  have x1 := xB.trans (ExB.of (Ex.new (o := LamO f c' q params body scope cl) n1))
  refine r _ x1 E Q2 fun H2 e2 => r1 (.ref C) H2 kC fun a ha => ?_
  refine ⟨a, C, .ref C, .ref C, true, rfl, upd_same, eC, fun u z => z, iC, ?_⟩
  have e3 := e2.trans (Ex.new (o := ErO (.ref C) a) ha)
  refine ⟨true, rfl, ?_⟩
  exact z _ (x1.trans (ExB.of e3)) (tS.ext fun b o y => e3 _ _ (Ex.new n1 _ _ y))
end DL
set_option Elab.async false
set_option linter.all false
set_option maxRecDepth 100000
set_option maxHeartbeats 4000000
/-! errors with attributes of their own: caught by a def, kept by a name, asked for their class and for an attribute -/
namespace DL
open PySem PySem.Spec PyProof.Rows L2 Evl LamX NdefX
/-- an error of the class cls, its attributes at d, if it has some -/
def ErX (cls : Value) (d : Option Addr) (a : Addr) : HO := .ext fun h => ∃ oe : Obj, h.get? a = some oe ∧ Zc cls d oe ∧ ∃ vs, oe.data = .fields vs
theorem erX_ok {P : Program} {w : World} {H : Hp} {h : Heap} {a : Addr} {cls : Value} {d : Option Addr} {oe : Obj} (e : h.get? a = some oe) (z : Zc cls d oe) (y : ∃ vs, oe.data = .fields vs) : ObjOk P w H h a (ErX cls d a) :=
  ⟨⟨oe, e, z, y⟩, ⟨oe, e⟩, fun _ _ p k => by
    obtain ⟨u, hu, r⟩ := p
    exact ⟨u, k u hu, r⟩⟩
section
variable {X : Cx} {pins : List (Addr × Obj)} {σ : L2.St} {H : Hp} {s : Shared}
theorem inv_trackX {a : Addr} {cls : Value} {dd : Option Addr} {oe : Obj} (I : Inv X pins σ H s) (e : s.heap.get? a = some oe) (hn : H a = none) (h0 : X.s_0.heap.get? a = none) (nL : a ≠ X.env.locals) (np : ∀ p ∈ X.pn ++ pins, p.1 ≠ a)
    (z : Zc cls dd oe) (d : ∃ vs, oe.data = .fields vs) : Inv X pins σ (upd H a (ErX cls dd a)) s := by
  have other : ∀ b u, H b = some u → upd H a (ErX cls dd a) b = some u := fun b u q => by
    rw [upd_ne (ne_of_none q hn)]
    exact q
  obtain ⟨fs, hd⟩ := d
  exact {
    ok := I.ok
    os := I.os
    bare := I.bare
    base := {
      keep := I.base.keep
      slot := I.base.slot
      free := fun b u q n hx => by
        have : b ≠ a := fun y => by rw [y, h0] at q; cases q
        rw [upd_ne this]
        exact I.base.free b u q n hx
      there := I.base.there
      tups := fun b xs q => other _ _ (I.base.tups b xs q)
      frzs := fun b u xs q => other _ _ (I.base.frzs b u xs q)
      tbls := fun b ps q => by
        obtain ⟨more, m⟩ := I.base.tbls b ps q
        exact ⟨more, other _ _ m⟩ }
    loc := I.loc
    cell := I.cell
    free := by rw [upd_ne (Ne.symm nL)]; exact I.free
    freeC := fun y c q => by
      have : c ≠ a := fun eq => by
        obtain ⟨v, o, ho, hv⟩ := I.cell y c q
        rw [eq, e] at ho
        cases ho
        rw [hd] at hv
        cases hv
      rw [upd_ne this]
      exact I.freeC y c q
    pin := fun p hp => by
      obtain ⟨p1, p2, p3⟩ := I.pin p hp
      exact ⟨p1, by rw [upd_ne (np p hp)]; exact p2, p3⟩
    hok := fun b u q => by
      by_cases hb : b = a
      · subst hb
        rw [upd_same] at q
        cases q
        exact erX_ok e z ⟨fs, hd⟩
      · rw [upd_ne hb] at q
        exact (I.hok b u q).stay (fun _ _ _ r => r) (fun _ r => other _ _ r) fun _ _ r => other _ _ r
    len := I.len }
end
/-- what 'except x as n' wishes of an error that it takes for sure: behind the suite the error is known at its place -/
def wKeepX (K : PySem.W.Frag) (c : Value) (i : Nat) (ts : Addr → Value → Option Addr → TS) (D : Ends) : WX := fun cls d σ H => PySem.W.exmOne K cls c = some true ∧
  ∀ a, H a = none → ts a cls d { nx := fun σ2 H2 => D.nx (σ2.set i none) (upd H2 a (ErX cls d a)), rt := fun _ _ => False, bk := fun _ _ => False, ct := fun _ _ => False } (σ.set i (some (.ref a))) H
section
variable {X : Cx} {x n : Str} {c : Value} {i : Nat} {body suite : List Stmt} {b₀ : Stmt} {np pos pos' : Pos} {tb : WX → TS} {ts : Addr → Value → Option Addr → TS}
theorem ps_keepX (hex : X.ex = []) (hst : X.stack = X.env :: X.outer) (hfr : X.env.frame = some X.env.locals) (nd : X.N.Nodup) (hi : X.N[i]? = some n) (loc : X.env.kindOf n = some .local) (cn : Names X x c)
    (hb : ∀ (W : WX) (pn : List (Addr × Obj)) (xe : Value → Shared → Prop), Takes (X.tr pn xe) W → PassesOwn (model X.prog X.w) X.A X.env xe → PSs (X.tr pn xe) body (tb W))
    (hsu : ∀ (a : Addr) (oe : Obj) (cls : Value) (d : Option Addr) (pn : List (Addr × Obj)), Zc cls d oe → (∃ vs, oe.data = .fields vs) → PSs (X.suite a ((a, oe) :: pn)) (b₀ :: suite) (ts a cls d)) :
    PS X (.Try body [.ExceptHandler (some (.Name x np)) (some n) (b₀ :: suite) pos'] [] [] pos) (fun D σ H => tb (wKeepX X.K c i ts D) D σ H) := by
  constructor
  intro pins s σ H D I h
  have ok := I.ok
  have frames : X.A.frames = some (X.env :: X.outer) := ok.frames.trans (congrArg some hst)
  apply wpAny_Try_except
  have run := (hb (wKeepX X.K c i ts D) (X.pn ++ pins)
    (fun e s1 => wpAny (model X.prog X.w) X.A (noteFrame e X.env)
      (fun _ s2 => wpAny (model X.prog X.w) X.A (setFlight e none)
        (fun _ s3 => wpAny (model X.prog X.w) X.A (handleBy e X.env [.ExceptHandler (some (.Name x np)) (some n) (b₀ :: suite) pos']) (SP X pins D) X.xe s3) X.xe s2) X.xe s1)
    (fun u t caught => ?_) PassesOwn.looking).run [] s σ H D (I.toTry _) h
  · refine wpAny_mono run (fun fl t sp => ?_) fun _ _ q => q
    cases fl with
    | ret u =>
      obtain ⟨v, σ1, H1, J, r, q⟩ := sp
      exact ⟨v, σ1, H1, J.ofTry ok, r, q⟩
    | next =>
      obtain ⟨σ1, H1, J, q⟩ := sp
      exact wpAny_execs_nil (show SP X pins D .next t from ⟨σ1, H1, J.ofTry ok, q⟩)
    | brk =>
      obtain ⟨σ1, H1, J, q⟩ := sp
      exact ⟨σ1, H1, J.ofTry ok, q⟩
    | cont =>
      obtain ⟨σ1, H1, J, q⟩ := sp
      exact ⟨σ1, H1, J.ofTry ok, q⟩
  · obtain ⟨a, B, sI, pinsT, σ1, H1, cls, d, rfl, JT, nb, up, sky, na, os, bare, hx, wish⟩ := caught
    have J : Inv X pins σ1 H1 sI := JT.ofTry ok
    rw [hst] at sky
    show wpAny (model X.prog X.w) X.A (noteFrame (.ref a) X.env) _ _ _
    refine Sky.land Zc.steady frames hfr sky fun hA flA upA => ?_
    have JA : Inv X pins σ1 H1 { t with heap := hA } := J.landed nb flA.1 (up.trans upA) os bare
    obtain ⟨oA, vA, eA, zA, dA⟩ := flA.there
    have nfr := frs_not flA.2.2.1 eA dA
    have nL : a ≠ X.env.locals := fun q => nfr (List.mem_filterMap.mpr ⟨X.env, List.mem_cons_self, hfr.trans (congrArg some q.symm)⟩)
    have nF : a ∉ X.fs := fun q => by
      obtain ⟨en, m, r⟩ := List.mem_filterMap.mp q
      exact nfr (List.mem_filterMap.mpr ⟨en, List.mem_cons_of_mem _ m, r⟩)
    have fresh : sI.heap.get? a = none := by
      cases q : sI.heap.get? a with
      | none => rfl
      | some o =>
        have z := nb a o q (by rw [hst]; exact nfr)
        rw [flA.2.1] at z
        cases z
    have fresh0 : X.s_0.heap.get? a = none := by
      cases q : X.s_0.heap.get? a with
      | none => rfl
      | some o =>
        obtain ⟨u, hu⟩ := J.base.there a o q (by rw [hex]; simp)
        rw [fresh] at hu
        cases hu
    have npin : ∀ p ∈ X.pn ++ pins, p.1 ≠ a := fun p hp q => by
      have z := (J.pin p hp).1
      rw [q, fresh] at z
      cases z
    have SA := JA.suite eA dA na nL nF
    apply wpAny_handleBy_cons
    · apply codeAny_handlers_test
      have LM := PySem.W.exm_one (M := model X.prog X.w) JA.kIn (e := a) (cls := cls) (fun A' Q' E' s' k q => wpAny_typeOf_ref (k _ _ eA) (by rw [zA.1]; exact q)) hx
      have named : ∀ {Q1 E1 : Value → Shared → Prop}, Q1 c { t with heap := hA } → wpAny (model X.prog X.w) (X.A.mark (some (.ref a))) (eval (.Name x np) X.env) Q1 E1 { t with heap := hA } := fun {Q1 E1} q => by
        obtain ⟨g, db, k | ⟨k, bt, nn⟩⟩ := cn
        · exact ld_glob (X := X.suite a ((a, oA) :: (X.pn ++ pins))) SA g k q db
        · exact ld_blt (X := X.suite a ((a, oA) :: (X.pn ++ pins))) SA g k bt q nn db
      apply named
      apply LM.here
      apply codeAny_handlers_suite_as
      refine HandSPX.lands_againZ flA fun hB flB upB => ?_
      have JB : Inv X pins σ1 H1 { t with heap := hB } := J.landed nb flB.1 ((up.trans upA).trans upB) os bare
      obtain ⟨oB, vB, eB, zB, dB⟩ := flB.there
      refine store_ok (X := X.suite a ((a, oB) :: (X.pn ++ pins))) (v := .ref a) (JB.suite eB dB na nL nF) nd hi (.inl loc) rfl (fun s5 S5 => ?_) (.inr loc)
      refine wpAny_mono ((hsu a oB cls d (X.pn ++ pins) zB ⟨_, dB⟩).run [] s5 _ H1 _ S5 (wish a na)) (fun fl s6 sp => ?_) fun _ _ q => q.elim
      cases fl with
      | next =>
        obtain ⟨σ6, H6, S6, q6⟩ := sp
        have P6 : Inv X ((a, oB) :: pins) σ6 H6 s6 := {
          ok := ok
          os := S6.os
          bare := S6.bare
          base := S6.base
          loc := S6.loc
          cell := S6.cell
          free := S6.free
          freeC := S6.freeC
          pin := fun p hp => S6.pin p (by
            show p ∈ ((a, oB) :: (X.pn ++ pins)) ++ []
            rw [List.append_nil]
            rcases List.mem_append.mp hp with q | q
            · exact List.mem_cons_of_mem _ (List.mem_append_left _ q)
            · rcases List.mem_cons.mp q with q | q
              · rw [q]; exact List.mem_cons_self
              · exact List.mem_cons_of_mem _ (List.mem_append_right _ q))
          hok := S6.hok
          len := S6.len }
        refine gone_ok P6 nd hi loc fun s7 J7 => ?_
        obtain ⟨g7, n7, l7, _⟩ := J7.pin (a, oB) (List.mem_append_right _ List.mem_cons_self)
        have J8 : Inv X pins (σ6.set i none) H6 s7 := J7.pins_of fun p hp => J7.pin p (List.mem_append_right _ (List.mem_cons_of_mem _ hp))
        exact ⟨_, _, inv_trackX J8 g7 n7 fresh0 l7 npin zB ⟨_, dB⟩, q6⟩
      | brk => exact (sp.elim fun _ z => z.elim fun _ z => z.2.elim)
      | cont => exact (sp.elim fun _ z => z.elim fun _ z => z.2.elim)
      | ret u => exact (sp.elim fun _ z => z.elim fun _ z => z.elim fun _ z => z.2.2.elim)
    · intro q
      cases q
end
/-- what calling it means: the error, kept, is handed back; None where there is none -/
def TTcX (K : PySem.W.Frag) (CS : Addr) (tb : XK → TE) : TE := fun σ H Q => ∀ (E : XK) (Q2 : VK), (∀ cls d H', PySem.W.exmOne K cls (.ref CS) = some true → (∀ a, H' a = none → Q (.ref a) (upd H' a (ErX cls d a))) → E cls d H') → (∀ v H', Q .non H' → Q2 v H') → tb E σ H Q2
section
variable {X : Cx} {pins : List (Addr × Obj)} {σ : L2.St} {H : Hp} {s : Shared}
theorem caught_runX {x : Str} {sg : Scope} {g CS : Addr} {cdg : Value} {params : Arguments} {body : Expr} {scope : Scope} {k k0 : Nat} {tb : XK → TE} {f c' : Addr} {Q : VK} {p1 p2 p3 p4 p5 p6 p7 p8 p9 p10 p11 p12 p13 p14 : Pos}
    (I : Inv X pins σ H s) (D : LamD X k params body scope tb) (hr : Room (k + 1) (X.A.deeper (envOfC x sg s.heap.objs.size g cdg))) (S : FnScope ["work", "caught", "error"] ["work"] sg)
    (ge : sg.names.lookup ("CallError" : Str) = some .globalImplicit) (me : X.mg "CallError" = some (.ref CS)) (le : sg.names.lookup ("error" : Str) = some .local) (lc : sg.names.lookup ("caught" : Str) = some .local) (lw : sg.names.lookup ("work" : Str) = some .local)
    (hf : H f = some (LamO f c' (X.env.qual ++ "<lambda>") params body scope (cloFrom X.env.cells scope.names []))) (hc : H c' = some (CodeO c' (X.env.qual ++ "<lambda>"))) (go : TTcX X.K CS tb σ H Q) :
    ∃ t, PSs (cxOf CX0 X.prog X.w X.K X.mg X.base ["work", "caught", "error"] x sg g cdg X.A X.stack s H E0).nox (caughtB k0 p1 p2 p3 p4 p5 p6 p7 p8 p9 p10 p11 p12 p13 p14) t ∧
      t { nx := fun _ H' => Q .non H', rt := Q } (L2.start ["work", "caught", "error"] [.ref f]) H := by
  refine ⟨_, pss_cons (ps_set (i := 1) S.nd rfl (.inl lc) pe_non) (pss_cons
    (ps_keepX (X := (cxOf CX0 X.prog X.w X.K X.mg X.base ["work", "caught", "error"] x sg g cdg X.A X.stack s H E0).nox) (i := 2) (c := .ref CS) (ts := fun _ _ _ => tAsg (tVar 2) (gName 1))
      (tb := fun W => tDrop (fun σZ HZ Q2 => ∃ f c', σZ[0]? = some (some (.ref f)) ∧ HZ f = some (LamO f c' (X.env.qual ++ "<lambda>") params body scope (cloFrom X.env.cells scope.names [])) ∧ HZ c' = some (CodeO c' (X.env.qual ++ "<lambda>")) ∧ tb (WE W σZ) σ HZ Q2))
      rfl rfl rfl S.nd rfl le ⟨ge, by decide, .inl me⟩
      (fun W pn xe tk _ => pss_one (ps_expr (pe_actT (CXg := CX0) (Eg := E0) (Ng := ["work", "caught", "error"]) I D tk hr rfl (.inl lw))))
      (fun a oe cls d pn _ _ => pss_one (ps_set (i := 1) S.nd rfl (.inl lc) (pe_var (i := 2) rfl (.inl le))))) (pss_one (ps_ret (pe_var (i := 1) rfl (.inl lc))))), ?_⟩
  refine ⟨f, c', rfl, hf, hc, go _ _ (fun cls d H' hx q => ?_) fun v H' q => ?_⟩
  · refine ⟨hx, fun a na => ?_⟩
    exact ⟨_, rfl, _, rfl, q a na⟩
  · exact ⟨_, rfl, q⟩
end
def tCauX (K : PySem.W.Frag) (CS P : Addr) (q : Str) (pos : Pos) (params : Arguments) (body : Expr) (scope : Scope) (cl : List (Str × Addr)) (tb : XK → TE) : TE := fun σ H Q => tLamB P q pos params body scope cl σ H fun _ H1 => TTcX K CS tb σ H1 Q
theorem pe_caughtX {X : Cx} {x : Str} {CS P c : Addr} {k : Nat} {params : Arguments} {body : Expr} {scope : Scope} {lp p pos : Pos} {tb : XK → TE} (F : CauF X.K X.mg x CS) (hg : Gl X x) (hr : Room (k + 2) X.A) (TB : TabB X.base X.mg c P) (code : X.env.code = .ref c) (hF : LamF X.env.scope scope) (hdef : defaultsOf params X.env = ([], []))
    (D : LamD X k params body scope tb) (hdb : (x == ("__debug__" : Str)) = false := by decide) :
    PE X (.Call (.Name x p) [.Lambda params body scope lp] [] pos) (tCauX X.K CS P (X.env.qual ++ "<lambda>") lp params body scope (cloFrom X.env.cells scope.names []) tb) := by
  obtain ⟨g, oc, od, an, osl, sg, pg, dV, kV, doc, pm, cdv, ct, k0, p1, p2, p3, p4, p5, p6, p7, p8, p9, p10, p11, p12, p13, p14, hm, hk, lk, hcg, hb, S, ge, me, le, lc, lw⟩ := F.ex
  constructor
  intro pins s σ H Q I hh
  obtain ⟨tab, kk⟩ := hh
  apply wpAny_Call_Name_kw
  refine ld_glob I hg hm ?_ hdb
  have arg := (pa_cons (pe_lamB (pos := lp) TB code hF hdef) pa_nil).run pos pins s σ H (fun vs H1 => ∃ f c', vs = [.ref f] ∧ H1 f = some (LamO f c' (X.env.qual ++ "<lambda>") params body scope (cloFrom X.env.cells scope.names [])) ∧ H1 c' = some (CodeO c' (X.env.qual ++ "<lambda>")) ∧ TTcX X.K CS tb σ H1 Q) I
    ⟨tab, fun f c' H1 xB tS hC same n0 n1 hc' => ⟨f, c', rfl, upd_same, Ex.new n1 _ _ hc', kk f c' H1 xB tS hC same n0 n1 hc'⟩⟩
  refine PySem.W.callWith_K (h₀ := X.base) I.ok.mod.kin hk (thn arg fun us s1 z => ?_) (by rfl) (by rfl)
  obtain ⟨vs, H1, I1, r, f, c', rfl, hf, hc, go⟩ := z
  refine ⟨I1.kIn, ?_⟩
  have lu : us.length = 1 := (Vals.length r).symm
  have inner : codeAny (model X.prog X.w) X.A (.call (.ref g) ⟨us, []⟩) (CR CX0 X.stack X.prog X.w H1 s1 Q E0) s1 := by
    refine run_ofS (N := ["work", "caught", "error"]) (ps := ["work"]) (us := us) (vs := [.ref f]) lk hcg S hr I1.env0 ?_ r rfl fun hr2 => ?_
    · have := hb s1 us I1.kIn (by simpa using lu)
      simpa using this
    · obtain ⟨t, ht, q⟩ := caught_runX (x := x) (g := g) (cdg := cdv) (k0 := k0) (p1 := p1) (p2 := p2) (p3 := p3) (p4 := p4) (p5 := p5) (p6 := p6) (p7 := p7) (p8 := p8) (p9 := p9) (p10 := p10) (p11 := p11) (p12 := p12) (p13 := p13) (p14 := p14) I1 D hr2 S ge me le lc lw hf hc go
      exact ⟨t, ht.nox, q⟩
  apply wpAny_call
  refine codeAny_mono inner fun r2 s2 z => ?_
  cases r2 with
  | error e => exact (show False from z).elim
  | ok fl =>
    cases fl with
    | ret u => exact I1.after z
    | next => exact z.elim
    | brk => exact z.elim
    | cont => exact z.elim
/-- isinstance(e, C) -/
def rIsE (K : PySem.W.Frag) : List V → Hp → VK → Prop := fun xs H Q => ∃ (a D : Addr) (c : V) (cv : Value) (b : Bool), xs = [.ref a, c] ∧ (H a = some (ErX (.ref D) none a) ∨ ∃ d fs, H a = some (ErX (.ref D) (some d) a) ∧ H d = some (.xd fs)) ∧ ExcC K D ∧ (∀ u, RelV c u → u = cv) ∧ PySem.W.kitOne K (.ref D) cv = some b ∧ Q (.bl b) H
theorem er_inst {X : Cx} {pins : List (Addr × Obj)} {σ : L2.St} {H : Hp} {s : Shared} {a C : Addr} (I : Inv X pins σ H s) (h : H a = some (ErX (.ref C) none a) ∨ ∃ d fs, H a = some (ErX (.ref C) (some d) a) ∧ H d = some (.xd fs)) : ∃ oe od, PySem.W.InstAt s.heap a oe C od := by
  rcases h with h | ⟨d, fs, h, hd⟩
  · obtain ⟨⟨oe, ho, hz, vs, hd⟩, _⟩ := I.hok a _ h
    refine ⟨oe, none, ?_⟩
    cases oe with
    | mk oc od oda osl =>
      obtain ⟨z1, z2⟩ := hz
      have z1 : oc = .ref C := z1
      have z2 : od = none := z2
      have hd : oda = .fields vs := hd
      subst z1 z2 hd
      exact ⟨ho, rfl, rfl, trivial⟩
  · obtain ⟨⟨oe, ho, hz, vs, hv⟩, _⟩ := I.hok a _ h
    obtain ⟨mA, hns, rel⟩ := I.hok d _ hd
    obtain ⟨od, ho2, hl⟩ := lookIn_ns hns
    refine ⟨oe, some od, ?_⟩
    cases oe with
    | mk oc odd oda osl =>
      obtain ⟨z1, z2⟩ := hz
      have z1 : oc = .ref C := z1
      have z2 : odd = some d := z2
      have hv : oda = .fields vs := hv
      subst z1 z2 hv
      exact ⟨ho, rfl, rfl, ho2⟩
theorem call_isE {X : Cx} : CallR X (.builtin "isinstance") (rIsE X.K) := by
  intro pins s σ H xs us Q I r h
  obtain ⟨a, D, c, cv, b, rfl, ha, C, hcv, e, q⟩ := h
  obtain ⟨u1, u2, rfl, ra, rc⟩ := vals2 r
  cases ra
  have ec := hcv _ rc
  subst ec
  obtain ⟨oe, od, J⟩ := er_inst I ha
  have hcl : (PySem.W.clsIn X.K D).isSome = true := by
    obtain ⟨cd, hc, _⟩ := PySem.W.any_some C.hd
    rw [hc]
    rfl
  exact PySem.W.kia_one (PySem.W.kitx_exc hcl C.hg C.hk C.hs C.ha C.hn C.ht C.hm) I.kIn J e (fun z => nomatch z) fun tk => ⟨.bl b, H, I.kept (t' := tk) fun _ _ z => z, rfl, q⟩
/-- e.f -/
def tEget (K : PySem.W.Frag) (f : Str) (te : TE) : TE := fun σ H Q => te σ H fun x H1 => ∃ (a C d : Addr) (fs : List (Str × V)) (v : V), x = .ref a ∧ H1 a = some (ErX (.ref C) (some d) a) ∧ H1 d = some (.xd fs) ∧ XfC K C ∧ PySem.W.findIn K (.ref C) f = some none ∧ fs.lookup f = some v ∧ Q v H1
theorem pe_eget {X : Cx} {e : Expr} {te : TE} {pos : Pos} {n : Str} (he : PE X e te) (hb : attributeBase e n X.env (eval e X.env) = eval e X.env := by rfl) : PE X (.Attribute e n pos) (tEget X.K n te) := by
  refine ⟨fun pins s σ H Q I h => ?_⟩
  refine attr_of hb (thn (he.run pins s σ H _ I h) fun u s1 hh => ?_)
  obtain ⟨x, H1, I1, rx, a, C, d, fs, v, rfl, ha, hd, T, hno, l, q⟩ := hh
  obtain rfl : u = Value.ref a := rx
  obtain ⟨⟨oe, ho, hz, vs, hv⟩, _⟩ := I1.hok a _ ha
  obtain ⟨mA, hns, rel⟩ := I1.hok d _ hd
  obtain ⟨od, ho2, hl⟩ := lookIn_ns hns
  obtain ⟨u, hu, ru⟩ := RelO.some_of (v := v) (o := mA n) (by rw [← l]; exact rel n)
  cases oe with
  | mk oc odd oda osl =>
    obtain ⟨z1, z2⟩ := hz
    have z1 : oc = .ref C := z1
    have z2 : odd = some d := z2
    have hv : oda = .fields vs := hv
    subst z1 z2 hv
    have J : PySem.W.InstAt s1.heap a _ C (some od) := ⟨ho, rfl, rfl, ho2⟩
    exact PySem.HandSPX.exc_get I1.kIn J T.ga T.gg T.exC (PySem.W.findObj_own T.hdC hno rfl (by rw [hl, hu])) (handed_of ru) ⟨v, H1, I1.tok _, ru, q⟩
end DL
set_option Elab.async false
set_option linter.all false
set_option maxRecDepth 100000
set_option maxHeartbeats 4000000
namespace K16
open PySem PySem.Spec PyProof.Rows L2 Evl DL
local macro_rules | `(tactic| walk_at "dl") => `(tactic| first
  | exact ev_c | exact ev_var rfl | exact eda_nil
  | exact ed_var rfl (by assumption)
  | exact ed_int ev_c | exact ed_int (ev_var rfl)
  | (refine eda_cons ?_ ?_ <;> walk_at "dl")
  | (refine ed_int ?_; walk_at "dl")
  | (refine ev_op ?_ ?_ rv_I0 <;> walk_at "dl"))

def bodyS (s : Stmt) : List Stmt := match s with
  | .ClassDef _ _ _ b _ _ _ _ _ _ _ => b
  | _ => []
def clsS (i j : Nat) : Stmt := (bodyS (topS i)).getD j (.Pass ⟨0, 0, 0, 0⟩)
/-- TooMany.__init__(self, 20000) -/
def spInitT (K : PySem.W.Frag) : Sp := fun vs H Q _ => ∃ (a C : Addr), vs = [.ref a, .int 20000] ∧ OexC K C ∧ H a = some (exo a C none) ∧ PySem.W.findIn K (.ref C) "most" = some none ∧
  ∀ dx, H dx = none → dx ≠ a → Q .non (upd (upd H dx (exd dx [("most", .int 20000)])) a (exo a C (some dx)))
theorem spInitT_len {K : PySem.W.Frag} {vs : List V} {H : Hp} {Q : VK} {E : XK} (h : spInitT K vs H Q E) : vs.length = 2 := by
  obtain ⟨_, _, rfl, _⟩ := h
  rfl
section
variable {P : Program} {w : World} {K : PySem.W.Frag} {mg : Str → Option Value} {base : Heap}
variable {CB CT CM : Addr}

abbrev s_TooMany_init : Stmt := clsS 4 0
abbrev N_TooMany_init : List Str := ["self", "most"]
theorem sc_TooMany_init : FnScope N_TooMany_init ["self", "most"] (defScope s_TooMany_init) := ⟨rfl, rfl, rfl, by decide +kernel, rfl, by decide +kernel, by decide +kernel⟩
theorem ok_TooMany_init {f : Addr} {fd : FuncData} (F : Fun K "__init__" "TooMany.__init__" s_TooMany_init f fd) {CS : Addr} (BI : BiC K mg "CallError" CS) :
    FnOk P w K mg base CX0 1 f fd ["self", "most"] (spInitT K) := by
  refine F.ok sc_TooMany_init (fun vs H Q E h => spInitT_len h) (fun cdv A outer s H vs Q E hr h => ?_)
  obtain ⟨a, C, rfl, T, ha, hno, k⟩ := h
  refine ⟨_, (pss_cons (ps_expr (pe_binit BI (by rfl) (pa_cons (pv 0) (pa_cons (pe_joined (.cons pe_str (.cons (pe_fmt (pv 1)) .nil))) pa_nil)))) (pss_one (ps_ost (pv 0) (pv 1)))), ?_⟩
  refine ⟨.ref a, rfl, _, rfl, by decide +kernel, .int 20000, rfl, .inr ⟨20000, rfl, by decide, ?_⟩⟩
  refine ⟨_, rfl, by decide +kernel, ?_⟩
  exact ⟨a, C, _, rfl, by show 1 ≤ 1000; decide, T, ha, .int 20000, rfl, .ref a, rfl, a, C, rfl, T, hno, .inl ⟨ha, k⟩⟩
/-- TooMany: a class with its own __init__ -/
structure TmC (P : Program) (w : World) (K : PySem.W.Frag) (mg : Str → Option Value) (base : Heap) (CM : Addr) : Prop where
  gC : mg "TooMany" = some (.ref CM)
  ox : OexC K CM
  xf : XfC K CM
  no : PySem.W.findIn K (.ref CM) "most" = some none
  ini : ∃ (fI : Addr) (fd : FuncData), PySem.W.findIn K (.ref CM) "__init__" = some (some (.ref fI)) ∧ PySem.W.typeIn K (.ref fI) = some (.type "function") ∧ FnOk P w K mg base CX0 1 fI fd ["self", "most"] (spInitT K) ∧ L2.Binds K fd ["self", "most"] []
/-- raise TooMany(20000) -/
theorem ps_raiseTM {X : Cx} {W : WX} {CM : Addr} {e : Expr} {p pos pos2 : Pos} {ta : TE} (hc : X.calm = true) (tk : Takes X W) (T : TmC X.prog X.w X.K X.mg X.base CM) (hr : Room 2 X.A) (hg : Gl X "TooMany") (he : PE X e ta) (hs : starEach [e] X.env = (false, eval e X.env) :: starEach [] X.env := by rfl) :
    PS X (.Raise (some (.Call (.Name "TooMany" p) [e] [] pos)) none pos2) (fun _ σ H => tMkO CM (spInitT X.K) [] (tCons ta tNil) σ H fun cls d H' => W cls d σ H') := by
  obtain ⟨fI, fd, h1, h2, h3, h4⟩ := T.ini
  exact ps_raise hc tk (pmk_oex T.ox h1 h2 h3 hr h4 .nil (fun _ _ _ _ _ _ _ h => h.elim) hg T.gC (pa_cons he pa_nil hs) (by decide) hs rfl)
/-- what comes of it -/
theorem raiseTM {K : PySem.W.Frag} {CM : Addr} {σ : L2.St} {H : Hp} {te : TE} {Q : XK} (O : OexC K CM) (no : PySem.W.findIn K (.ref CM) "most" = some none) (he : Ev te σ H (.int 20000)) (k : ∀ d H', Ex H H' → H' d = some (.xd [("most", .int 20000)]) → Q (.ref CM) (some d) H') :
    tMkO CM (spInitT K) [] (tCons te tNil) σ H Q := he H (Ex.refl _) _ fun H1 e1 => by
  refine ⟨by show 1 ≤ 1000; decide, fun a ha => ⟨a, CM, rfl, O, upd_same, no, fun dx hx nx => ⟨rfl, dx, [("most", .int 20000)], upd_same, ?_, ?_, ?_⟩⟩⟩
  · rw [upd_ne nx]
    exact upd_same
  · rw [upd_ne nx] at hx
    exact hx
  · rw [upd_ne nx] at hx
    refine k dx _ (fun b o ho => ?_) upd_same
    have h1 := e1 b o ho
    have nb : b ≠ dx := fun z => by rw [z, hx] at h1; cases h1
    have na : b ≠ a := fun z => by rw [z, ha] at h1; cases h1
    rw [upd_ne nb, del_ne na, upd_ne na, upd_ne nb, upd_ne na]
    exact h1
def spGL (K : PySem.W.Frag) (CB CT CM : Addr) : Sp := fun vs H Q E => ∃ v0 v1 d0 d1, vs = [v0, v1] ∧ Dp K H v0 d0 ∧ Dp K H v1 d1 ∧
  ((∃ s t : Int, d0 = .int s ∧ d1 = .int t ∧ 2 ≤ s ∧ s ≤ 5 ∧ 0 ≤ t ∧ t ≤ 6 ∧ (s = 5 → t ≤ 4) ∧ (titer s t 1500).1 = [] ∧ ∀ v H', Ex H H' → Dp K H' v (.tuple ((TT s t).map tI)) → Q v H') ∨
   (isIn d0 2 5 = false ∧ ∀ H', Ex H H' → E (.ref CB) none H') ∨
   (∃ s, d0 = .int s ∧ 2 ≤ s ∧ s ≤ 5 ∧ isIn d1 0 6 = false ∧ ∀ H', Ex H H' → E (.ref CT) none H') ∨
   (∃ t, d0 = .int 5 ∧ d1 = .int t ∧ 5 ≤ t ∧ t ≤ 6 ∧ ∀ d H', Ex H H' → H' d = some (.xd [("most", .int 20000)]) → E (.ref CM) (some d) H'))
abbrev s_greatest_loads : Stmt := topS 35
abbrev N_greatest_loads : List Str := ["sides", "tracks"]
theorem sc_greatest_loads : FnScope N_greatest_loads ["sides", "tracks"] (defScope s_greatest_loads) := ⟨rfl, rfl, rfl, by decide +kernel, rfl, by decide +kernel, by decide +kernel⟩
theorem ok_greatest_loads {f : Addr} {fd : FuncData} (F : Fun K "greatest_loads" "greatest_loads" s_greatest_loads f fd) (T : Txt mg)
    (D_check_sides : DFX P w K mg base "check_sides" 3 ["sides", "most"] (spR K 2 R_check_sides (B_check_sides CB))) (D_check_tracks : DFX P w K mg base "check_tracks" 3 ["tracks", "least"] (spR K 2 R_check_tracks0 (B_check_tracks0 CT))) (D_top_loads : DF P w K mg base "top_loads" 2 ["sides", "tracks"] (spN K 2 R_top_loads)) (TM : TmC P w K mg base CM)  :
    FnOk P w K mg base (L2.CX P w) 4 f fd ["sides", "tracks"] (spGL K CB CT CM) := by
  refine F.okX sc_greatest_loads (fun vs H Q E h => by obtain ⟨_, _, _, _, rfl, _⟩ := h; rfl) (fun cdv A outer s H vs Q E hr h => ?_)
  obtain ⟨v0, v1, d0, d1, rfl, hd0, hd1, h⟩ := h
  refine ⟨_, (pss_cons (ps_expr (pe_DX D_check_sides (takes_of rfl rfl rfl rfl) (fun _ _ _ _ h => h) (hr.mono (by decide)) (by rfl) (pa_cons (pv 0) (pa_cons (pe_const T.c_MOST_SIDES (by rfl)) pa_nil))))
      (pss_cons (ps_expr (pe_DX D_check_tracks (takes_of rfl rfl rfl rfl) (fun _ _ _ _ h => h) (hr.mono (by decide)) (by rfl) (pa_cons (pv 1) (pa_cons pe_int pa_nil))))
      (pss_cons (ps_if (PW.pt (pw_and (pt_cmpR op_eq (pv 0) (pe_const T.c_MOST_SIDES (by rfl)) (nomark _)) (pw_and1 (pt_cmpR op_gt (pv 1) (pe_const T.c_MOST_FOR_FIVE (by rfl)) (nomark _))))) (pss_one (ps_raiseTM rfl (takes_of rfl rfl rfl rfl) TM (hr.mono (by decide)) (by rfl) (pe_const T.c_MOST_LET (by rfl)))) pss_nil)
      (pss_one (ps_ret (pe_callTy call_tuple_of (by rfl) T.b_tuple (by decide +kernel) (pa_cons (pe_D D_top_loads (hr.mono (by decide)) (by rfl) (pa_cons (pv 0) (pa_cons (pv 1) pa_nil))) pa_nil))))))), ?_⟩
  rcases h with ⟨x, t, rfl, rfl, h1, h2, h3, h4, h5, h6, k⟩ | ⟨no, k⟩ | ⟨x, rfl, h1, h2, no, k⟩ | ⟨t, rfl, rfl, h3, h4, k⟩
  · cases dp_int hd0
    cases dp_int hd1
    refine qd_drop (K := K) (d := .none) (ed_callR (R := R_check_sides) (B := B_check_sides CB) (ds := [.int x, .int 5]) (eda_cons (ed_int (ev_var rfl)) (eda_cons (ed_int ev_c) eda_nil)) rfl ⟨_, rfl, isIn_int h1 h2, rfl⟩) fun H1 e1 => ?_
    refine qd_drop (K := K) (d := .none) (ed_callR (R := R_check_tracks0) (B := B_check_tracks0 CT) (ds := [.int t, .int 0]) (eda_cons (ed_int (ev_var rfl)) (eda_cons (ed_int ev_c) eda_nil)) rfl ⟨_, rfl, isIn_int h3 h4, rfl⟩) fun H2 e2 => ?_
    refine q_when (b := false) (et_is (et_and (a := decide (x = 5)) (b := decide (t > 4)) (et_test (ev_is (ev_op (ev_var rfl) ev_c (rv_eq rfl)) (by rw [decide_vint]))) fun _ => et_test (ev_op (ev_var rfl) ev_c rv_I0)) ?_) (fun z => nomatch z) fun _ H3 e3 => ?_
    · by_cases z : x = 5
      · have := h5 z
        simp
        intro _
        omega
      · simp [z]
    · refine d_ret (K := K) (ed_tupleOf (EvN.toD (en_call (R := R_top_loads) (ds := [.int x, .int t]) (by walk_at "dl") rfl ⟨x, t, rfl, h1, h2, h3, h4, h6, rfl⟩))) fun v H4 e4 hv => ?_
      exact k v H4 (((e1.trans e2).trans e3).trans e4) hv
  · exact b_drop (eb_callR (K := K) (R := R_check_sides) (B := B_check_sides CB) (ds := [d0, .int 5]) (eda_cons (ed_var (v := v0) rfl hd0) (eda_cons (ed_int ev_c) eda_nil)) rfl ⟨d0, rfl, no, rfl⟩) fun H1 e1 => k H1 e1
  · cases dp_int hd0
    refine qd_drop (K := K) (d := .none) (ed_callR (R := R_check_sides) (B := B_check_sides CB) (ds := [.int x, .int 5]) (eda_cons (ed_int (ev_var rfl)) (eda_cons (ed_int ev_c) eda_nil)) rfl ⟨_, rfl, isIn_int h1 h2, rfl⟩) fun H1 e1 => ?_
    exact b_drop (eb_callR (K := K) (R := R_check_tracks0) (B := B_check_tracks0 CT) (ds := [d1, .int 0]) (eda_cons (ed_var (v := v1) rfl (dp_ex e1 _ _ hd1)) (eda_cons (ed_int ev_c) eda_nil)) rfl ⟨d1, rfl, no, rfl⟩) fun H2 e2 => k H2 (e1.trans e2)
  · cases dp_int hd0
    cases dp_int hd1
    refine qd_drop (K := K) (d := .none) (ed_callR (R := R_check_sides) (B := B_check_sides CB) (ds := [.int 5, .int 5]) (eda_cons (ed_int (ev_var rfl)) (eda_cons (ed_int ev_c) eda_nil)) rfl ⟨_, rfl, isIn_int (by decide) (by decide), rfl⟩) fun H1 e1 => ?_
    refine qd_drop (K := K) (d := .none) (ed_callR (R := R_check_tracks0) (B := B_check_tracks0 CT) (ds := [.int t, .int 0]) (eda_cons (ed_int (ev_var rfl)) (eda_cons (ed_int ev_c) eda_nil)) rfl ⟨_, rfl, isIn_int (by omega) h4, rfl⟩) fun H2 e2 => ?_
    refine q_when (b := true) (et_is (et_and (a := true) (b := decide (t > 4)) (et_test (ev_is (ev_op (ev_var rfl) ev_c (rv_eq rfl)) (by rw [decide_vint]; rfl))) fun _ => et_test (ev_op (ev_var rfl) ev_c rv_I0)) ?_) (fun _ H3 e3 => ?_) fun z => nomatch z
    · simp
      omega
    · exact raiseTM TM.ox TM.no ev_c fun d H4 e4 hd => k d H4 (((e1.trans e2).trans e3).trans e4) hd

end
end K16
set_option Elab.async false
set_option linter.all false
set_option maxRecDepth 100000
set_option maxHeartbeats 4000000
/-! forms that the law wants -/
namespace K16
open PySem PySem.Spec PyProof.Rows L2 Evl DL LamX
theorem call_isKK {X : Cx} (K : PySem.W.Frag) (h : X.K = K) : CallR X (.builtin "isinstance") (rIsK K) := h ▸ call_isK
/-- sorted(xs), xs a list of fewer than 64 tuples of ints of one length -/
def rSortE (K : PySem.W.Frag) : List V → Hp → VK → Prop := fun vs H Q => ∃ (d : Nat) (B : Int), 1 ≤ d ∧ rSortU K d B vs H Q
theorem cr_sortE {X : Cx} : CallR X (.builtin "sorted") (rSortE X.K) := fun pins s σ H vs us Q I r h => by
  obtain ⟨d, B, hd, h⟩ := h
  exact cr_sortT hd pins s σ H vs us Q I r h
section
variable {K : PySem.W.Frag} {σ : L2.St} {H H' : Hp} {ta tb te : TE} {tz : TS} {D : Ends}
theorem q_ifS {t : L2.TT} {sa sb : TS} {b : Bool} (h : EvT t σ H b) (h1 : b = true → ∀ H1, Ex H H1 → sa { D with nx := tz D } σ H1) (h2 : b = false → ∀ H1, Ex H H1 → sb { D with nx := tz D } σ H1) : tSeq (tIfS t sa sb) tz D σ H := h H (Ex.refl _) _ fun H1 e1 => by
  cases b with
  | true => exact h1 rfl H1 e1
  | false => exact h2 rfl H1 e1
theorem s_ifS {t : L2.TT} {sa sb : TS} {b : Bool} (h : EvT t σ H b) (h1 : b = true → ∀ H1, Ex H H1 → sa D σ H1) (h2 : b = false → ∀ H1, Ex H H1 → sb D σ H1) : tIfS t sa sb D σ H := h H (Ex.refl _) _ fun H1 e1 => by
  cases b with
  | true => exact h1 rfl H1 e1
  | false => exact h2 rfl H1 e1
theorem tcons_lst {t : TA} {Q : List V → Hp → Prop} (h : t σ H fun xs H1 => xs.length ≤ sizeLine ∧ ∀ p, H1 p = none → Q [.ref p] (L2.upd H1 p (.lst xs))) : tCons (tLst t) tNil σ H Q := h
theorem tcons_c {v : V} {t : TA} {Q : List V → Hp → Prop} (h : t σ H fun xs H2 => Q (v :: xs) H2) : tCons (tC v) t σ H Q := h
theorem tcons_e {t : TA} {Q : List V → Hp → Prop} (h : te σ H fun x H1 => t σ H1 fun xs H2 => Q (x :: xs) H2) : tCons te t σ H Q := h
theorem en_listT {ds : List PyData} (h : EvD K ta σ H (.tuple ds)) : EvN K (tCB (fun xs H Q => ∃ p ys, xs = [.ref p] ∧ (SqL K H p ys ∨ SqT K H p ys) ∧ ∀ l, H l = none → Q (.ref l) (L2.upd H l (.lst ys))) (tCons ta tNil)) σ H ds := fun H1 e Q q =>
  h H1 e _ fun v H2 e2 hv => by
    cases hv with
    | tup hs ha => exact ⟨_, _, rfl, .inr hs, fun p hp => q p _ _ (fresh_back e2 hp) (e2.trans (Ex.new hp)) upd_same (dpa_ex (Ex.new hp) _ _ ha)⟩
theorem q_no {t : L2.TT} {sa : TS} (h : EvT t σ H false) (q : ∀ H1, Ex H H1 → tz D σ H1) : tSeq (tIfS t sa tNext) tz D σ H := q_ifS h (fun z => nomatch z) fun _ H1 e => q H1 e
theorem s_no {t : L2.TT} {sa : TS} (h : EvT t σ H false) (q : ∀ H1, Ex H H1 → D.nx σ H1) : tIfS t sa tNext D σ H := s_ifS h (fun z => nomatch z) fun _ H1 e => q H1 e
theorem r_for {ta : TA} {g : TG} {tu : TS} {n : Int} (h : EvDA K ta σ H [.int n]) (hn : -(2 ^ 62) ≤ n ∧ n < 2 ^ 62) (Pv : Nat → L2.St → Hp → Prop) (h0 : ∀ H2, Ex H H2 → Pv 0 σ H2)
    (hs : ∀ (i : Nat) σ' Ha, (i : Int) < n → Pv i σ' Ha → g (.int (i : Int)) σ' Ha fun σ2 H3 => tu { D with nx := Pv (i + 1), ct := Pv (i + 1), bk := tz D } σ2 H3) (hd : ∀ σ' Ha, Pv n.toNat σ' Ha → tz D σ' Ha) : tSeq (tFor (iRng1 ta) g tu) tz D σ H :=
  h H (Ex.refl _) _ fun vs H2 e2 hv => by
    cases hv with
    | cons a b =>
      cases b
      cases a
      refine ⟨n, rfl, hn.1, hn.2, ?_⟩
      refine for_it (D := { D with nx := tz D }) walk_range Pv (h0 H2 e2) (fun _ _ _ _ _ => trivial) (fun i x σ' Ha Hb hi p y => ?_) fun σ' Ha p => hd σ' Ha p
      obtain ⟨rfl, rfl⟩ := y
      have e0 : (V.int (0 + (i : Int))) = .int (i : Int) := by rw [Int.zero_add]
      dsimp only
      rw [e0]
      exact hs i σ' Hb (by omega) p
theorem g_two2 {K : PySem.W.Frag} {g1 g2 : TG} {p : Addr} {v1 v2 : V} {σ : L2.St} {H : Hp} {Q : L2.St → Hp → Prop} (h : H p = some (.tup [v1, v2])) (k : g1 v1 σ H fun σ1 H1 => g2 v2 σ1 H1 Q) : gTup K 2 (gCons g1 (gCons g2 gNil)) (.ref p) σ H Q := by
  refine ⟨_, _, rfl, st_of h, rfl, _, _, rfl, ?_⟩
  rw [gl_one] at k
  exact k
theorem ev_neg1 {σ : L2.St} {H : Hp} : Ev (tUn (rU fun i => V.int (-i)) (tC (.int 1))) σ H (.int (-1)) := fun H1 e Q q => ⟨1, rfl, q H1 (Ex.refl _)⟩
theorem stk_in {st lg cl : Addr} {H : Hp} {n : Nat} (h : StK st lg cl n H) : ∀ p ∈ [st, lg], (∃ l, H p = some (.lst l)) ∨ (∃ l, H p = some (.dK l)) ∨ (∃ l, H p = some (.dT l)) ∨ H p = none := by
  obtain ⟨l, t, xs, cs, h1, h2, _⟩ := h
  intro p hp
  rcases (by simpa using hp : p = st ∨ p = lg) with rfl | rfl
  · exact .inr (.inl ⟨_, h1⟩)
  · exact .inl ⟨_, h2⟩
theorem fine_bool (b : Bool) : Fine (.bool b) 10 1 := by
  cases b
  · exact ⟨by decide +kernel, by decide +kernel, by decide +kernel, by decide +kernel⟩
  · exact ⟨by decide +kernel, by decide +kernel, by decide +kernel, by decide +kernel⟩
theorem e_cb {R : List V → Hp → VK → Prop} {ta : TA} {Q : VK} (h : ta σ H fun xs H1 => R xs H1 Q) : tCB R ta σ H Q := h
/-! ### tables -/
theorem tabS_xp {P : Addr} {q : Str} {S : List Addr} (t : TabS H P q) (x : Xp S H H') (h : ∀ p ∈ S, (∃ l, H p = some (.lst l)) ∨ (∃ l, H p = some (.dK l)) ∨ (∃ l, H p = some (.dT l)) ∨ H p = none) : TabS H' P q := by
  obtain ⟨ps, h1, h2, h3⟩ := t
  have nin : ∀ a o, H a = some o → (∀ l, o ≠ .lst l) → (∀ l, o ≠ .dK l) → (∀ l, o ≠ .dT l) → a ∉ S := fun a o ho n1 n2 n3 hm => by
    rcases h a hm with ⟨l, q⟩ | ⟨l, q⟩ | ⟨l, q⟩ | q
    · rw [q] at ho; exact n1 _ (Option.some.inj ho).symm
    · rw [q] at ho; exact n2 _ (Option.some.inj ho).symm
    · rw [q] at ho; exact n3 _ (Option.some.inj ho).symm
    · rw [q] at ho; cases ho
  refine ⟨ps, x _ _ h1 (nin _ _ h1 (fun _ z => nomatch z) (fun _ z => nomatch z) fun _ z => nomatch z), h2, fun pos cv hc => ?_⟩
  obtain ⟨c, e1, e2⟩ := h3 pos cv hc
  exact ⟨c, e1, x _ _ e2 (nin _ _ e2 (fun _ z => nomatch z) (fun _ z => nomatch z) fun _ z => nomatch z)⟩
theorem exB_extn {P : Addr} {q : Str} (x : ExB P H H') (t : TabS H P q) : ExtN H H' := fun b o h n => x b o h fun z => by
  obtain ⟨ps, h1, _⟩ := t
  rw [z, h1] at h
  exact n ps (Option.some.inj h).symm
theorem tabS_exB {P P2 : Addr} {q q2 : Str} (x : ExB P H H') (t : TabS H P q) (n : P2 ≠ P) (t2 : TabS H P2 q2) : TabS H' P2 q2 := by
  obtain ⟨ps, h1, h2, h3⟩ := t2
  refine ⟨ps, x _ _ h1 n, h2, fun pos cv hc => ?_⟩
  obtain ⟨c, e1, e2⟩ := h3 pos cv hc
  exact ⟨c, e1, exB_extn x t _ _ e2 codeO_ne⟩
theorem stk_exN {st lg cl : Addr} {n : Nat} (e : ExtN H H') (h : StK st lg cl n H) : StK st lg cl n H' := by
  obtain ⟨l, t, xs, cs, h1, h2, h3, h4⟩ := h
  exact ⟨l, t, xs, cs, e _ _ h1 (fun _ z => nomatch z), e _ _ h2 (fun _ z => nomatch z), e _ _ h3 (fun _ z => nomatch z), h4⟩
theorem d_refuse {CS C P : Addr} {q : Str} {pos : Pos} {params : Arguments} {body : Expr} {scope : Scope} {cl : List (Str × Addr)} {tb : XK → TE} (tab : TabS H P q)
    (kC : PySem.W.exmOne K (.ref C) (.ref CS) = some true) (iC : PySem.W.kitOne K (.ref C) (.ref C) = some true) (eC : ExcC K C)
    (r : ∀ H1, ExB P H H1 → ∀ (E : XK) (Q : VK), (∀ H2, Ex H1 H2 → E (.ref C) none H2) → tb E σ H1 Q)
    (z : ∀ H', ExB P H H' → TabS H' P q → D.nx σ H') :
    tIfS (tNot (tB (tCB (rIsK K) (tCons (tCauL K CS P q pos params body scope cl tb) (tCons (tC (.ref C)) tNil))))) (tRet (tC (.bl false))) tNext D σ H :=
  q_refuse (D := D) (tz := fun D' => D'.nx) tab kC iC eC r z
/-- a value that is data wherever it stands -/
def Lone (v : V) (d : PyData) : Prop := ∀ (K : PySem.W.Frag) (H : Hp), Dp K H v d
end
section
variable {K : PySem.W.Frag} {σ : L2.St} {H H' : Hp} {ta tb te : TE} {tz : TS} {D : Ends}
theorem fine_tIs : ∀ {ls : List (List Int)}, (∀ l ∈ ls, l.length ≤ 10 ∧ ∀ n ∈ l, Sml n) → PyData.leavesShortAll 13 (ls.map tI) = true ∧ PyData.showableAll (ls.map tI) = true ∧ PyData.weightAll (ls.map tI) ≤ 411 * ls.length ∧ PyData.depthAll (ls.map tI) ≤ 3
  | [], _ => ⟨rfl, rfl, by simp [PyData.weightAll], by simp [PyData.depthAll]⟩
  | l :: ls, h => by
    obtain ⟨h1, h2, h3, h4⟩ := fine_tIs (ls := ls) fun m hm => h m (List.mem_cons_of_mem _ hm)
    obtain ⟨a1, a2⟩ := h l List.mem_cons_self
    have hn := fine_tI a2
    refine ⟨?_, ?_, ?_, ?_⟩
    · simp only [List.map_cons, PyData.leavesShortAll, Bool.and_eq_true]
      exact ⟨hn.short, h1⟩
    · simp only [List.map_cons, PyData.showableAll, Bool.and_eq_true]
      exact ⟨hn.shows, h2⟩
    · simp only [List.map_cons, PyData.weightAll, List.length_cons]
      have := hn.few
      omega
    · simp only [List.map_cons, PyData.depthAll]
      have := hn.deep
      omega
theorem fine_loads {ls : List (List Int)} (h : ∀ l ∈ ls, l.length ≤ 10 ∧ ∀ n ∈ l, Sml n) : Fine (.tuple (ls.map tI)) (411 * ls.length) 4 := by
  obtain ⟨h1, h2, h3, h4⟩ := fine_tIs h
  refine ⟨by simpa only [PyData.leavesShort] using h1, by simpa only [PyData.showable] using h2, ?_, by simpa only [PyData.weight] using h3⟩
  simp only [PyData.depth]
  omega
section
variable {CB CT CM : Addr} {S : PyData → Prop} {f : Int → PyData → Bool} {E : XK} {i j : Nat} {s t : Int} {v : V} {d : PyData}
theorem ev_E (hs : σ[i]? = some (some (.int s))) (hi : σ[j]? = some (some v)) (hv : Itm K H v d) (h1 : 2 ≤ s) (h2 : s ≤ 5) (sm : S d) : Ev (tCall (spE K CB S f) [] E (tCons (tVar i) (tCons (tVar j) tNil))) σ H (.bl (f s d)) := fun H1 e Q q =>
  ⟨_, hs, _, hi, .int s, v, .int s, rfl, .int s, .inl ⟨s, d, rfl, h1, h2, itm_ex e hv, sm, fun H2 e2 => q H2 e2⟩⟩
theorem ev_EK (hs : σ[i]? = some (some (.int s))) (hi : σ[j]? = some (some v)) (hv : Itm K H v d) (h1 : 2 ≤ s) (h2 : s ≤ 5) (sm : S d) : Ev (tCallR 2 (spE K CB S f) E (tCons (tVar j) (tCons (tVar i) tNil))) σ H (.bl (f s d)) := fun H1 e Q q =>
  ⟨_, hi, _, hs, rfl, .int s, v, .int s, rfl, .int s, .inl ⟨s, d, rfl, h1, h2, itm_ex e hv, sm, fun H2 e2 => q H2 e2⟩⟩
theorem ed_GL (hs : Ev ta σ H (.int s)) (ht : Ev tb σ H (.int t)) (h1 : 2 ≤ s) (h2 : s ≤ 5) (h3 : 0 ≤ t) (h4 : t ≤ 6) (h5 : s = 5 → t ≤ 4) (h6 : (titer s t 1500).1 = []) : EvD K (tCall (spGL K CB CT CM) [] E (tCons ta (tCons tb tNil))) σ H (.tuple ((TT s t).map tI)) := fun H1 e Q q =>
  hs H1 e _ fun H2 e2 => ht H2 (e.trans e2) _ fun H3 e3 => ⟨.int s, .int t, .int s, .int t, rfl, .int s, .int t, .inl ⟨s, t, rfl, rfl, h1, h2, h3, h4, h5, h6, fun v H4 e4 hv => q v H4 ((e2.trans e3).trans e4) hv⟩⟩
theorem ed_GLK (hs : Ev ta σ H (.int s)) (ht : Ev tb σ H (.int t)) (h1 : 2 ≤ s) (h2 : s ≤ 5) (h3 : 0 ≤ t) (h4 : t ≤ 6) (h5 : s = 5 → t ≤ 4) (h6 : (titer s t 1500).1 = []) : EvD K (tCallR 2 (spGL K CB CT CM) E (tCons tb (tCons ta tNil))) σ H (.tuple ((TT s t).map tI)) := fun H1 e Q q =>
  ht H1 e _ fun H2 e2 => hs H2 (e.trans e2) _ fun H3 e3 => ⟨rfl, .int s, .int t, .int s, .int t, rfl, .int s, .int t, .inl ⟨s, t, rfl, rfl, h1, h2, h3, h4, h5, h6, fun v H4 e4 hv => q v H4 ((e2.trans e3).trans e4) hv⟩⟩
end
/-- the error that a lambda raises, handed back -/
theorem cau_val {CS C P : Addr} {q : Str} {pos : Pos} {params : Arguments} {body : Expr} {scope : Scope} {cl : List (Str × Addr)} {tb : XK → TE} {Q : VK} (tab : TabS H P q) (kC : PySem.W.exmOne K (.ref C) (.ref CS) = some true)
    (r : ∀ H1, ExB P H H1 → ∀ (E : XK) (Q : VK), (∀ H2, Ex H1 H2 → E (.ref C) none H2) → tb E σ H1 Q)
    (z : ∀ a H', ExB P H H' → TabS H' P q → H' a = some (ErO (.ref C) a) → Q (.ref a) H') : tCauL K CS P q pos params body scope cl tb σ H Q :=
  ⟨tab, fun f c' H1 xB tS hC same n0 n1 hc' E Q2 r1 r2 => by
    have x1 := xB.trans (ExB.of (Ex.new (o := LamO f c' q params body scope cl) n1))
    refine r _ x1 E Q2 fun H2 e2 => r1 (.ref C) H2 kC fun a ha => ?_
    have e3 := e2.trans (Ex.new (o := ErO (.ref C) a) ha)
    exact z a _ (x1.trans (ExB.of e3)) (tS.ext fun b o y => e3 _ _ (Ex.new n1 _ _ y)) upd_same⟩
/-- .. with an attribute -/
theorem cau_valX {CS C P : Addr} {q : Str} {pos : Pos} {params : Arguments} {body : Expr} {scope : Scope} {cl : List (Str × Addr)} {tb : XK → TE} {Q : VK} {fs : List (Str × V)} (tab : TabS H P q) (kC : PySem.W.exmOne K (.ref C) (.ref CS) = some true)
    (r : ∀ H1, ExB P H H1 → ∀ (E : XK) (Q : VK), (∀ d H2, Ex H1 H2 → H2 d = some (.xd fs) → E (.ref C) (some d) H2) → tb E σ H1 Q)
    (z : ∀ a d H', ExB P H H' → H' a = some (ErX (.ref C) (some d) a) → H' d = some (.xd fs) → Q (.ref a) H') : tCauX K CS P q pos params body scope cl tb σ H Q :=
  ⟨tab, fun f c' H1 xB tS hC same n0 n1 hc' E Q2 r1 r2 => by
    have x1 := xB.trans (ExB.of (Ex.new (o := LamO f c' q params body scope cl) n1))
    refine r _ x1 E Q2 fun d H2 e2 hd => r1 (.ref C) (some d) H2 kC fun a ha => ?_
    have e4 := Ex.new (o := ErX (.ref C) (some d) a) ha
    exact z a d _ (x1.trans (ExB.of (e2.trans e4))) upd_same (e4 _ _ hd)⟩
/-- for item in [..]: the program's word is the law's -/
theorem items_loop {S1 S2 : PyData → Prop} {f : Int → PyData → Bool} {CB p : Addr} {E1 E2 : XK} {sd : TS} {s : Int} {xs : List V} {x0 x1 x2 x3 x4 x5 x6 x7 x8 x9 x10 x11 x12 x14 x15 x16 x17 : Option V} (h1 : 2 ≤ s) (h2 : s ≤ 5) (hx : H p = some (.lst xs)) (it : ∀ x ∈ xs, ∃ d, DL.Itm K H x d ∧ S1 d ∧ S2 d)
    (hd : ∀ H1 y5 y6, Ex H H1 → D.nx [x0, x1, x2, x3, x4, y5, y6, x7, x8, x9, x10, x11, x12, some (.int s), x14, x15, x16, x17] H1) :
    tFor (iList K (tC (.ref p))) (gName 5) (tSeq (tAsg (tCall (spJ K S1 f) [] E0 (tCons (tVar 13) (tCons (tVar 5) tNil))) (gName 6)) (tIfS (tTest (tOp rNe (tCB (rRepr K) (tCons (tLst (tCons (tCall (spE K CB S2 f) [] E1 (tCons (tVar 13) (tCons (tVar 5) tNil))) (tCons (tCallR 2 (spE K CB S2 f) E2 (tCons (tVar 5) (tCons (tVar 13) tNil))) tNil))) tNil)) (tCB (rRepr K) (tCons (tLst (tCons (tVar 6) (tCons (tVar 6) tNil))) tNil)))) sd tNext)) D
      [x0, x1, x2, x3, x4, x5, x6, x7, x8, x9, x10, x11, x12, some (.int s), x14, x15, x16, x17] H := by
  refine s_forL (ev_c) (sq_of hx) (fun i σ' Ha => Ex H Ha ∧ ∃ y5 y6, σ' = [x0, x1, x2, x3, x4, y5, y6, x7, x8, x9, x10, x11, x12, some (.int s), x14, x15, x16, x17]) (fun H1 e => ⟨e, x5, x6, rfl⟩) (fun i σ' Ha _ z => sq_of (z.1 _ _ hx)) ?_ ?_
  · rintro i x σ' Ha hi ⟨e, y5, y6, rfl⟩
    obtain ⟨d, hv, s1, s2⟩ := it x (List.mem_of_getElem? hi)
    have hv := itm_ex e hv
    show tSeq _ _ _ [x0, x1, x2, x3, x4, some x, y6, x7, x8, x9, x10, x11, x12, some (.int s), x14, x15, x16, x17] Ha
    refine qi_asg (v := .bl (f s d)) (ev_Ji (S := S1) (ev_var rfl) rfl hv h1 h2 s1) fun H2 e2 => ?_
    have hv := itm_ex e2 hv
    have fb := fine_two (fine_bool (f s d))
    refine s_no (et_test (ev_neS (ev_repr (K := K) (EvN.toD (en_lst (eda_cons (ed_bool (ev_E rfl rfl hv h1 h2 s2)) (eda_cons (ed_bool (ev_EK rfl rfl hv h1 h2 s2)) eda_nil)) (by simp))) fb (by decide) (by decide)) (ev_repr (K := K) (EvN.toD (en_lst (eda_cons (ed_bool (ev_var rfl)) (eda_cons (ed_bool (ev_var rfl)) eda_nil)) (by simp))) fb (by decide) (by decide)))) fun H3 e3 => ?_
    exact ⟨(e.trans e2).trans e3, _, _, rfl⟩
  · rintro σ' Ha ⟨e, y5, y6, rfl⟩
    exact hd Ha y5 y6 e
/-- tuple([_law_pick(state, [0, 1, 2, 99, _law_draw(state, 12)]) for pair in _law_pairs(sides_here)]) -/
theorem te_drawn {st lg cl : Addr} {n : Nat} {s : Int} {x0 x2 x3 x4 x5 x6 x7 x8 x9 x10 x11 x12 x14 x15 x16 x17 : Option V} {Q : VK} (h1 : 2 ≤ s) (h2 : s ≤ 5) (hst : StK st lg cl n H) (hn : n ≤ 8000)
    (k : ∀ v l H1, Lds (np s) l → Dp K H1 v (tI l) → Xp [st, lg] H H1 → StK st lg cl (n + 20) H1 → Q v H1) :
    tCB (fun xs H Q => ∃ p ys, xs = [.ref p] ∧ ((SqL K H p ys ∧ ∀ l, H l = none → Q (.ref l) (L2.upd H l (.tup ys))) ∨ (SqT K H p ys ∧ Q (.ref p) H))) (tCons (tLc (iList K (tCall (spN K 1 R_law_pairs) [] E0 (tCons (tVar 13) tNil))) (gName 17) tYes (tCall (spPick K) [] E0 (tCons (tVar 1) (tCons (tLst (tCons (tC (.int 0)) (tCons (tC (.int 1)) (tCons (tC (.int 2)) (tCons (tC (.int 99)) (tCons (tCall (spDraw K) [] E0 (tCons (tVar 1) (tCons (tC (.int 12)) tNil))) tNil)))))) tNil))) [17]) tNil)
      [x0, some (.ref st), x2, x3, x4, x5, x6, x7, x8, x9, x10, x11, x12, some (.int s), x14, x15, x16, x17] H Q := by
  refine en_call (K := K) (σ := wipe [x0, some (.ref st), x2, x3, x4, x5, x6, x7, x8, x9, x10, x11, x12, some (.int s), x14, x15, x16, x17] [17]) (R := R_law_pairs) (ds := [.int s]) (by exact eda_cons (ed_int (ev_var (i := 13) rfl)) eda_nil) rfl ⟨s, rfl, h1, h2, rfl⟩ H (Ex.refl _) _ fun p vs H2 hp e2 h2' hd2 => ?_
  refine ⟨p, rfl, ⟨vs, sq_of h2'⟩, fun Dl hD => ?_⟩
  have s2 := stk_ex e2 hst
  have neD := stk_ne s2 hD
  have neP := stk_ne hst hp
  have npD : p ≠ Dl := fun z => by rw [z, hD] at h2'; cases h2'
  have lv : vs.length = np s ∧ np s ≤ 10 := by
    have := lpr_len h1 h2
    exact ⟨(dpa_len hd2).trans this.1, this.2⟩
  refine lc_it (walk_list (K := K) (xs := vs)) (fun i Ha => Xp [st, lg, Dl] H2 Ha ∧ ∃ ns : List Int, Ha Dl = some (.lst (ns.map V.int)) ∧ ns.length = i ∧ (∀ z ∈ ns, 0 ≤ z ∧ z ≤ 99) ∧ StK st lg cl (n + 2 * i) Ha) ?_ ?_ ?_ ?_
  · exact ⟨Xp.upd (Xp.refl _ _) (by simp), [], upd_same, rfl, fun z hz => by simp at hz, stk_upd s2 neD⟩
  · rintro i Ha _ ⟨x3, _⟩
    exact sq_of (x3 _ _ h2' (by simp [neP.1, neP.2.1, npD]))
  · rintro i y Ha Hb hi ⟨x3, ns, hds, hln, hns, s3⟩ ⟨rfl, hy⟩
    refine ⟨rfl, ?_⟩
    dsimp only [tYes]
    rw [if_pos rfl]
    refine ⟨.ref st, rfl, .ref st, rfl, st, lg, cl, _, 12, rfl, by decide, by decide, by omega, s3, fun r H4 r0 r1 x4 s4 => ⟨by show 5 ≤ sizeLine; decide, fun b hb => ?_⟩⟩
    have nb := stk_ne s4 hb
    have e5 := Ex.new (o := .lst [.int 0, .int 1, .int 2, .int 99, .int r]) hb
    refine ⟨st, lg, cl, _, b, [.int 0, .int 1, .int 2, .int 99, .int r], rfl, upd_same, nb.2.1, by simp, by simp, by omega, stk_ex e5 s4, fun z H6 hz x6 s6 => ?_⟩
    obtain ⟨m, rfl, m0, m1⟩ : ∃ m : Int, z = .int m ∧ 0 ≤ m ∧ m ≤ 99 := by
      simp only [List.mem_cons, List.not_mem_nil, or_false] at hz
      rcases hz with rfl | rfl | rfl | rfl | rfl
      · exact ⟨_, rfl, by decide, by decide⟩
      · exact ⟨_, rfl, by decide, by decide⟩
      · exact ⟨_, rfl, by decide, by decide⟩
      · exact ⟨_, rfl, by decide, by decide⟩
      · exact ⟨_, rfl, r0, by omega⟩
    have x46 : Xp [st, lg] Hb H6 := (x4.trans (Xp.of_ex e5)).trans x6
    refine ⟨ns.map V.int, x46 _ _ hds (by simp [Ne.symm neD.1, Ne.symm neD.2.1, neD.1, neD.2.1]), sz_lt (by rw [List.length_map]; omega), Xp.upd (x3.trans fun a o ho hn => x46 a o ho fun hm => hn (by simp at hm ⊢; rcases hm with h | h <;> simp [h])) (by simp), ns ++ [m], by rw [upd_same, List.map_append]; rfl, by simp [hln], fun z hz => ?_, stk_mono (by omega) (stk_upd s6 neD)⟩
    rcases List.mem_append.mp hz with hz | hz
    · exact hns z hz
    · rw [List.mem_singleton.mp hz]
      exact ⟨m0, m1⟩
  · rintro Ha ⟨x3, ns, hds, hln, hns, s3⟩
    have x3' : Xp [st, lg] H2 Ha := fun a o ho hn => x3 a o ho fun hm => by
      rcases (by simpa using hm : a = st ∨ a = lg ∨ a = Dl) with h | h | h
      · exact hn (by simp [h])
      · exact hn (by simp [h])
      · rw [h, hD] at ho
        cases ho
    refine ⟨Dl, ns.map V.int, rfl, .inl ⟨sq_of hds, fun q hq => ?_⟩⟩
    exact k _ ns _ ⟨by rw [hln]; exact lv.1, hns⟩ (.tup (st_of upd_same) (ints_dpa _)) ((Xp.of_ex e2).trans (x3'.then (Ex.new hq))) (stk_ex (Ex.new hq) (stk_mono (by omega) s3))
theorem r_forD {ta : TA} {g : TG} {tu : TS} {P : Int → Hp → Prop} (h : ∀ Q : List V → Hp → Prop, (∀ n H1, P n H1 → Q [.int n] H1) → ta σ H Q) (next : ∀ n H1, P n H1 → tSeq (tFor (iRng1 (tCons (tC (.int n)) tNil)) g tu) tz D σ H1) : tSeq (tFor (iRng1 ta) g tu) tz D σ H := h _ next
theorem f_vals {g : TG} {tu : TS} {P : Addr → Hp → Prop} (h : ∀ Q : VK, (∀ p H1, P p H1 → Q (.ref p) H1) → te σ H Q) (next : ∀ p H1, P p H1 → tFor (iList K (tC (.ref p))) g tu { D with nx := tz D } σ H1) : tSeq (tFor (iList K te) g tu) tz D σ H := h _ next
theorem last_at : ∀ {ls : List (List Int)} {vs : List V}, DpAll K H vs (ls.map tI) → ls ≠ [] → ∃ l ∈ ls, ∃ v, atI vs (-1) = some v ∧ Dp K H v (tI l) := fun {ls vs} h ne => by
  have len := dpa_len h
  rw [List.length_map] at len
  have pos : 0 < ls.length := List.length_pos_iff.mpr ne
  have e : vs = vs.take (vs.length - 1) ++ [vs[vs.length - 1]'(by omega)] := by
    have t := List.take_add_one (l := vs) (i := vs.length - 1)
    rw [List.take_of_length_le (by omega), List.getElem?_eq_getElem (by omega)] at t
    exact t
  refine ⟨ls[ls.length - 1]'(by omega), List.getElem_mem _, vs[vs.length - 1]'(by omega), ?_, ?_⟩
  · conv => lhs; rw [e]
    exact atI_last _ _
  · have := dpa_get h (i := ls.length - 1) (d := tI (ls[ls.length - 1]'(by omega))) (by rw [List.getElem?_map, List.getElem?_eq_getElem (by omega)]; rfl)
    obtain ⟨v, hv, hd⟩ := this
    have ev : vs[vs.length - 1]'(by omega) = v := by
      have q : vs[vs.length - 1]? = some v := by rw [len]; exact hv
      rw [List.getElem?_eq_getElem (by omega)] at q
      exact Option.some.inj q
    rw [ev]
    exact hd
/-- [1 for caught in several if not isinstance(caught, C)], each an error of C -/
theorem en_noneE {C p : Addr} {xs : List V} {x0 x1 x2 x3 x4 x5 x6 x8 x9 x10 x11 x12 x13 x14 x15 x16 x17 : Option V} (hp : H p = some (.lst xs)) (hx : ∀ x ∈ xs, ∃ a, x = .ref a ∧ H a = some (ErO (.ref C) a)) (iC : PySem.W.kitOne K (.ref C) (.ref C) = some true) (eC : ExcC K C) :
    EvN K (tLc (iList K (tVar 7)) (gName 8) (tNot (tB (tCB (rIsK K) (tCons (tVar 8) (tCons (tC (.ref C)) tNil))))) (tC (.int 1)) [8]) [x0, x1, x2, x3, x4, x5, x6, some (.ref p), x8, x9, x10, x11, x12, x13, x14, x15, x16, x17] H [] := fun H1 e Q q => by
  have hp1 := e _ _ hp
  refine ⟨.ref p, rfl, p, rfl, ⟨xs, sq_of hp1⟩, fun Dl hD => ?_⟩
  have npD : p ≠ Dl := fun z => by rw [z, hD] at hp1; cases hp1
  refine lc_it (walk_list (K := K) (xs := xs)) (fun i Ha => Ex H1 Ha ∧ Ha Dl = some (.lst [])) ⟨Ex.new hD, upd_same⟩ (fun i Ha _ z => sq_of (z.1 _ _ hp1)) ?_ ?_
  · rintro i y Ha Hb hi ⟨x3, hds⟩ ⟨rfl, hy⟩
    refine ⟨rfl, ?_⟩
    obtain ⟨a, rfl, ha⟩ := hx y (List.mem_of_getElem? hy)
    refine ⟨.ref a, rfl, a, C, .ref C, .ref C, true, rfl, x3 _ _ (e _ _ ha), eC, fun u z => z, iC, true, rfl, ?_⟩
    exact ⟨x3, hds⟩
  · rintro Ha ⟨x3, hds⟩
    exact q Dl [] Ha hD x3 hds .nil
theorem perm_mapF {α β : Type} [DecidableEq α] {f : α → β} : ∀ {ys : List β} {ks : List α}, ys.Perm (ks.map f) → ∃ ks' : List α, ks'.Perm ks ∧ ys = ks'.map f
  | [], ks, h => by
    have e := h.length_eq
    rw [List.length_map, List.length_nil] at e
    exact ⟨[], by rw [List.eq_nil_of_length_eq_zero e.symm], rfl⟩
  | y :: ys, ks, h => by
    obtain ⟨k, hk, e⟩ := List.mem_map.mp (h.mem_iff.mp List.mem_cons_self)
    have p1 := List.perm_cons_erase hk
    have p2 : (y :: ys).Perm (y :: (ks.erase k).map f) := h.trans (by
      have := p1.map f
      rw [List.map_cons, e] at this
      exact this)
    obtain ⟨ks', q1, q2⟩ := perm_mapF p2.cons_inv
    exact ⟨k :: ks', (q1.cons k).trans p1.symm, by rw [List.map_cons, e, q2]⟩
/-- tuple(sorted(xs)), xs rising already -/
theorem ed_sortE {m : Nat} {ls : List (List Int)} (h : EvD K te σ H (.list (ls.map tI))) (hm : 1 ≤ m) (hL : ∀ l ∈ ls, Lds m l) (hr : Rise ls) (hl : ls.length < 64) :
    EvD K (tCB (fun xs H Q => ∃ p ys, xs = [.ref p] ∧ ((SqL K H p ys ∧ ∀ l, H l = none → Q (.ref l) (L2.upd H l (.tup ys))) ∨ (SqT K H p ys ∧ Q (.ref p) H))) (tCons (tCB (rSortE K) (tCons te tNil)) tNil)) σ H (.tuple (ls.map tI)) := fun H1 e Q q =>
  h H1 e _ fun x H2 e2 hx => by
    cases hx with
    | lst hs hd =>
      rename_i a xs
      obtain ⟨ks, rfl, rfl, hk⟩ := keys_of hd
      refine ⟨m, 100, hm, a, _, rfl, hs, by simpa using hl, fun x hx => ?_, fun ys p pm pw hp => ?_⟩
      · obtain ⟨k, hk1, rfl⟩ := List.mem_map.mp hx
        have := hL k.2 (List.mem_map_of_mem hk1)
        exact ⟨k.2, ⟨k.1, rfl, hk k hk1⟩, this.1, lds_bd this⟩
      · obtain ⟨ks', p1, rfl⟩ := perm_mapF pm
        have e3 := Ex.new (o := .lst (ks'.map fun p => V.ref p.1)) hp
        have pw2 : (ks'.map (·.2)).Pairwise fun a b => cdL a ≤ cdL b := by
          rw [List.pairwise_map] at pw ⊢
          exact pw.imp_of_mem fun {u v} hu hv q => q u.2 v.2 ⟨u.1, rfl, hk u (p1.mem_iff.mp hu)⟩ ⟨v.1, rfl, hk v (p1.mem_iff.mp hv)⟩
        have pm2 := p1.map (·.2)
        have nd : (ks.map (·.2)).Nodup := List.Pairwise.imp (fun {u v} (q : cdL u < cdL v) z => by rw [z] at q; omega) hr
        have same : ks'.map (·.2) = ks.map (·.2) := strict_eq (strict_of (n := m) (fun l hl => hL l (pm2.mem_iff.mp hl)) (pm2.nodup_iff.mpr nd) pw2) hr fun x => pm2.mem_iff
        refine ⟨p, _, rfl, .inl ⟨sq_of upd_same, fun t ht => q _ _ ((e2.trans e3).trans (Ex.new ht)) (.tup (st_of upd_same) ?_)⟩⟩
        rw [← same]
        exact dpa_ex (Ex.new ht) _ _ (keys_dp fun k hk1 => ex_t e3 (hk k (p1.mem_iff.mp hk1)))
theorem filt_range (xs : List Int) (p : Int → Bool) (g : Int → Int) : ((List.range xs.length).filter fun i => p (xs.getD i 0)).map (fun i => g (xs.getD i 0)) = (xs.filter p).map g := by
  have e : (List.range xs.length).map (fun i => xs.getD i 0) = xs := List.ext_getElem (by simp) fun i h1 h2 => by
    rw [List.getElem_map, List.getElem_range, List.getD_eq_getElem?_getD, List.getElem?_eq_getElem h2]
    rfl
  conv => rhs; rw [← e]
  rw [List.filter_map, List.map_map]
  rfl
/-- t[-1], t a tuple -/
theorem ed_lastT {ds : List PyData} {d : PyData} (h : EvD K te σ H (.tuple ds)) (hl : ds.getLast? = some d) : EvD K (tOp (rIxT K) te (tUn (rU fun i => V.int (-i)) (tC (.int 1)))) σ H d := fun H1 e Q q =>
  h H1 e _ fun x H2 e2 hx => by
    cases hx with
    | tup hs hd =>
      rename_i a vs
      have len := dpa_len hd
      have ne : ds ≠ [] := fun z => by rw [z] at hl; cases hl
      have pos : 0 < ds.length := List.length_pos_iff.mpr ne
      rw [List.getLast?_eq_getElem?] at hl
      obtain ⟨v, hv, hdv⟩ := dpa_get hd hl
      have ev : vs = vs.take (vs.length - 1) ++ [v] := by
        have t := List.take_add_one (l := vs) (i := vs.length - 1)
        rw [List.take_of_length_le (by omega), len, hv] at t
        rw [← len] at t
        exact t
      refine ⟨1, rfl, a, vs, -1, v, rfl, rfl, hs, ?_, q v H2 e2 hdv⟩
      conv => lhs; rw [ev]
      exact atI_last _ _
theorem evq_var {i : Nat} {p : Addr} {vs : List V} {ds : List PyData} (hi : σ[i]? = some (some (.ref p))) (hp : H p = some (.lst vs)) (hd : DpAll K H vs ds) : EvQ K (tVar i) σ H ds := fun H1 e Q q => ⟨.ref p, hi, q p vs H1 (Ex.refl _) (e _ _ hp) (dpa_ex e _ _ hd)⟩
end
end K16
set_option Elab.async false
set_option linter.all false
set_option maxRecDepth 100000
set_option maxHeartbeats 4000000
namespace K16
open PySem PySem.Spec PyProof.Rows L2 Evl DL LamX
local macro_rules | `(tactic| walk_at "dl") => `(tactic| first
  | exact ev_c | exact ev_var rfl | exact eda_nil
  | exact ed_var rfl (by assumption)
  | exact ed_int ev_c | exact ed_int (ev_var rfl)
  | (refine eda_cons ?_ ?_ <;> walk_at "dl")
  | (refine ed_int ?_; walk_at "dl")
  | (refine ev_op ?_ ?_ rv_I0 <;> walk_at "dl"))

abbrev s_law : Stmt := topS 52
abbrev N_law : List Str := ["script", "state", "turn", "drawn", "lap", "item", "due", "several", "caught", "load", "lacks", "many", "odd", "sides_here", "tops", "wrong", "side", "pair"]
theorem sc_law : FnScope N_law ["script"] (defScope s_law) := ⟨rfl, rfl, rfl, by decide +kernel, rfl, by decide +kernel, by decide +kernel⟩
/-- the name that the law's lambdas bear -/
def lamQ : Str := (envOfC "law" (defScope s_law) 0 0 .none).qual ++ "<lambda>"
def spLaw (K : PySem.W.Frag) (tl : Addr) : Sp := fun vs H Q _ => ∃ (a : Addr) (ns : List Int), vs = [.ref a] ∧ SqL K H a (ns.map V.int) ∧ ns.length ≤ 63 ∧ H tl = some (.tbl #[]) ∧ ∀ H', Q (.bl true) H'
section
variable {P : Program} {w : World} {K : PySem.W.Frag} {mg : Str → Option Value} {base : Heap}
theorem ok_law {f : Addr} {fd : FuncData} {cc : Addr} (F : FunC K "law" "law" s_law f fd cc) (T : Txt mg) {tl CS CB CT CM : Addr} (TB : TabB base mg cc tl) (CA : CauF K mg "_law_caught" CS) (GBadSides : ErC K mg "BadSides" CB) (GBadTracks : ErC K mg "BadTracks" CT) (TM : TmC P w K mg base CM)
    (kCB : PySem.W.exmOne K (.ref CB) (.ref CS) = some true) (kCT : PySem.W.exmOne K (.ref CT) (.ref CS) = some true) (kCM : PySem.W.exmOne K (.ref CM) (.ref CS) = some true) (iB : PySem.W.kitOne K (.ref CB) (.ref CB) = some true) (iT : PySem.W.kitOne K (.ref CT) (.ref CT) = some true) (iM : PySem.W.kitOne K (.ref CM) (.ref CM) = some true) (eB : ExcC K CB) (eT : ExcC K CT) (eM : ExcC K CM)
    (D__law_begun : DF P w K mg base "_law_begun" 1 ["script"] (spBegun K)) (D__law_bent_frame : DF P w K mg base "_law_bent_frame" 3 ["state", "tops", "load"] (spBentF K)) (D__law_bent_load : DF P w K mg base "_law_bent_load" 3 ["state", "load"] (spBentL K)) (D__law_draw : DF P w K mg base "_law_draw" 1 ["state", "size_here"] (spDraw K)) (D__law_is_frame : DF P w K mg base "_law_is_frame" 3 ["sides_here", "item"] (spJ K frS frB)) (D__law_is_load : DF P w K mg base "_law_is_load" 2 ["sides_here", "item"] (spJ K Any ldOk)) (D__law_let : DF P w K mg base "_law_let" 3 ["sides_here", "many"] (spN K 2 R_law_let)) (D__law_odd : DF P w K mg base "_law_odd" 3 ["state"] (spOdd K)) (D__law_pairs : DF P w K mg base "_law_pairs" 1 ["sides_here"] (spN K 1 R_law_pairs)) (D__law_pick : DF P w K mg base "_law_pick" 2 ["state", "several"] (spPick K)) (D__law_sums : DF P w K mg base "_law_sums" 2 ["sides_here", "load"] (spN K 2 R_law_sums)) (D__law_tops : DF P w K mg base "_law_tops" 2 ["loads_here"] (spN K 1 R_law_tops))
    (D_is_load : DFX P w K mg base "is_load" 4 ["sides", "thing"] (spE K CB Any ldOk)) (DK_is_load : DFK P w K mg base (L2.CX P w) "is_load" 4 ["sides", "thing"] (spE K CB Any ldOk)) (D_is_frame : DFX P w K mg base "is_frame" 5 ["sides", "thing"] (spE K CB small frB)) (DK_is_frame : DFK P w K mg base (L2.CX P w) "is_frame" 5 ["sides", "thing"] (spE K CB small frB)) (D_greatest_loads : DFX P w K mg base "greatest_loads" 4 ["sides", "tracks"] (spGL K CB CT CM)) (DK_greatest_loads : DFK P w K mg base (L2.CX P w) "greatest_loads" 4 ["sides", "tracks"] (spGL K CB CT CM)) :
    FnG P w K mg base (L2.CX P w) 8 f fd ["script"] (spLaw K tl) := by
  refine okC F sc_law (fun vs H Q E h => by obtain ⟨_, _, rfl, _⟩ := h; rfl) (fun A outer s0 H vs Q E hg hr h => ?_)
  obtain ⟨a, ns, rfl, hs, hl, htl, k⟩ := h
  refine ⟨_, (pss_cons (ps_set (i := 1) sc_law.nd rfl (.inr rfl) (pe_D D__law_begun (hr.mono (by decide)) (by rfl) (pa_cons (pv 0) pa_nil)))
      (pss_cons (ps_for (passes_of rfl) rfl (pi_range1 (by rfl) T.b_range (pa_cons (pe_op op_add pe_int (pe_callB (call_min2 rfl) (by rfl) T.b_min (by decide +kernel) (pa_cons (pe_callB call_len_seq (by rfl) T.b_len PySem.boot_len (pa_cons (pv 0) pa_nil)) (pa_cons pe_int pa_nil)))) pa_nil)) (pg_name (i := 2) sc_law.nd rfl (Or.inl rfl)) (pss_cons (ps_set (i := 13) sc_law.nd rfl (.inr rfl) (pe_op op_add pe_int (pe_D D__law_draw (hr.mono (by decide)) (by rfl) (pa_cons (pv 1) (pa_cons pe_int pa_nil)))))
      (pss_cons (ps_set (i := 3) sc_law.nd rfl (.inl rfl) (pe_lst pa_nil))
      (pss_cons (ps_for (passes_of rfl) rfl (pi_range1 (by rfl) T.b_range (pa_cons (pe_op op_add pe_int (pe_D D__law_draw (hr.mono (by decide)) (by rfl) (pa_cons (pv 1) (pa_cons pe_int pa_nil)))) pa_nil)) (pg_name (i := 4) sc_law.nd rfl (Or.inl rfl)) (pss_one (ps_expr (pe_bm PySem.F.plainAttrs_list PySem.F.slot_list_append PySem.F.type_list_append mt_append (pv 3) (pa_cons (pe_callTy call_tuple_of (by rfl) T.b_tuple (by decide +kernel) (pa_cons (pe_lc (own := [("pair", 17)]) (g := (gName 17)) (tt := tYes) rfl sc_law.nd (pi_list (pe_D D__law_pairs (hr.mono (by decide)) (by rfl) (pa_cons (pv 13) pa_nil))) (blkOk_by (N := N_law) (sc := defScope s_law) (by decide +kernel)) (fun _ _ _ _ _ => (pg_name (i := 17) sc_law.nd rfl (Or.inl rfl))) (fun _ _ _ _ _ => pts_nil) (fun _ _ _ _ _ => (pe_D D__law_pick (hr.mono (by decide)) (by rfl) (pa_cons (pv 1) (pa_cons (pe_lst (pa_cons pe_int (pa_cons pe_int (pa_cons pe_int (pa_cons pe_int (pa_cons (pe_D D__law_draw (hr.mono (by decide)) (by rfl) (pa_cons (pv 1) (pa_cons pe_int pa_nil))) pa_nil)))))) pa_nil))))) pa_nil)) pa_nil)))))
      (pss_cons (ps_set (i := 14) sc_law.nd rfl (.inr rfl) (pe_callTy call_tuple_of (by rfl) T.b_tuple (by decide +kernel) (pa_cons (pe_D D__law_tops (hr.mono (by decide)) (by rfl) (pa_cons (pv 3) pa_nil)) pa_nil)))
      (pss_cons (ps_for (passes_of rfl) rfl (pi_list (pe_lst (pa_cons (pe_ix ix_list (pv 3) pe_int (fun _ _ => rfl)) (pa_cons (pe_D D__law_bent_load (hr.mono (by decide)) (by rfl) (pa_cons (pv 1) (pa_cons (pe_ix ix_list (pv 3) pe_int (fun _ _ => rfl)) pa_nil))) (pa_cons (pe_D D__law_odd (hr.mono (by decide)) (by rfl) (pa_cons (pv 1) pa_nil)) pa_nil))))) (pg_name (i := 5) sc_law.nd rfl (Or.inl rfl)) (pss_cons (ps_set (i := 6) sc_law.nd rfl (.inl rfl) (pe_D D__law_is_load (hr.mono (by decide)) (by rfl) (pa_cons (pv 13) (pa_cons (pv 5) pa_nil))))
      (pss_one (ps_if (pt_cmpR op_ne (pe_callB (call_repr hg (hu100 hr)) (by rfl) T.b_repr (by decide +kernel) (pa_cons (pe_lst (pa_cons (pe_DX D_is_load (E := fun _ _ _ => False) (takes_of rfl rfl rfl rfl) (fun _ _ _ _ h => h.elim) (hr.mono (by decide)) (by rfl) (pa_cons (pv 13) (pa_cons (pv 5) pa_nil))) (pa_cons (pe_DK DK_is_load (takes_of rfl rfl rfl rfl) (fun _ _ _ _ h => h.elim) (E := fun _ _ _ => False) (hr.mono (by decide)) (by rfl) (pk_cons (pv 5) (pk_cons (pv 13) pk_nil))) pa_nil))) pa_nil)) (pe_callB (call_repr hg (hu100 hr)) (by rfl) T.b_repr (by decide +kernel) (pa_cons (pe_lst (pa_cons (pv 6) (pa_cons (pv 6) pa_nil))) pa_nil)) (nomark _)) (pss_one (ps_ret pe_bl)) pss_nil))))
      (pss_cons (ps_for (passes_of rfl) rfl (pi_list (pe_lst (pa_cons (pv 14) (pa_cons (pe_callTy call_tuple_of (by rfl) T.b_tuple (by decide +kernel) (pa_cons (pv 3) pa_nil)) (pa_cons (pe_D D__law_bent_frame (hr.mono (by decide)) (by rfl) (pa_cons (pv 1) (pa_cons (pv 14) (pa_cons (pe_ix ix_list (pv 3) (pe_un un_neg pe_int) (fun _ _ => rfl)) pa_nil)))) (pa_cons (pe_D D__law_odd (hr.mono (by decide)) (by rfl) (pa_cons (pv 1) pa_nil)) pa_nil)))))) (pg_name (i := 5) sc_law.nd rfl (Or.inl rfl)) (pss_cons (ps_set (i := 6) sc_law.nd rfl (.inl rfl) (pe_D D__law_is_frame (hr.mono (by decide)) (by rfl) (pa_cons (pv 13) (pa_cons (pv 5) pa_nil))))
      (pss_one (ps_if (pt_cmpR op_ne (pe_callB (call_repr hg (hu100 hr)) (by rfl) T.b_repr (by decide +kernel) (pa_cons (pe_lst (pa_cons (pe_DX D_is_frame (E := fun _ _ _ => False) (takes_of rfl rfl rfl rfl) (fun _ _ _ _ h => h.elim) (hr.mono (by decide)) (by rfl) (pa_cons (pv 13) (pa_cons (pv 5) pa_nil))) (pa_cons (pe_DK DK_is_frame (takes_of rfl rfl rfl rfl) (fun _ _ _ _ h => h.elim) (E := fun _ _ _ => False) (hr.mono (by decide)) (by rfl) (pk_cons (pv 5) (pk_cons (pv 13) pk_nil))) pa_nil))) pa_nil)) (pe_callB (call_repr hg (hu100 hr)) (by rfl) T.b_repr (by decide +kernel) (pa_cons (pe_lst (pa_cons (pv 6) (pa_cons (pv 6) pa_nil))) pa_nil)) (nomark _)) (pss_one (ps_ret pe_bl)) pss_nil))))
      (pss_cons (ps_asg (pe_tup (pa_cons (pe_D D__law_pick (hr.mono (by decide)) (by rfl) (pa_cons (pv 1) (pa_cons (pe_lst (pa_cons pe_int (pa_cons pe_int (pa_cons pe_bl (pa_cons pe_non (pa_cons pe_str pa_nil)))))) pa_nil))) (pa_cons (pe_D D__law_pick (hr.mono (by decide)) (by rfl) (pa_cons (pv 1) (pa_cons (pe_lst (pa_cons (pe_un un_neg pe_int) (pa_cons pe_int (pa_cons pe_bl (pa_cons pe_non (pa_cons pe_str pa_nil)))))) pa_nil))) pa_nil))) (pg_tup rfl (pgs_cons (pg_name (i := 12) sc_law.nd rfl (Or.inr rfl)) (pgs_cons (pg_name (i := 15) sc_law.nd rfl (Or.inr rfl)) pgs_nil))))
      (pss_cons (ps_set (i := 7) sc_law.nd rfl (.inl rfl) (pe_lst (pa_cons (pe_caughtL (k := 5) CA rfl hr TB rfl (lamF_by (by show lamFB (defScope s_law) _ = true; decide +kernel)) rfl ⟨lamS_by (by show lamSB (defScope s_law) _ = true; decide +kernel), fun _ _ _ _ _ => rfl, fun A2 outer2 s2 H2 E2 f2 c2' hr2 => pe_DX D_is_load (takes_of rfl rfl rfl rfl) (fun _ _ _ _ h => h) (hr2.mono (by decide)) (by rfl) (pa_cons (pv 12) (pa_cons pe_non pa_nil))⟩) (pa_cons (pe_caughtL (k := 5) CA rfl hr TB rfl (lamF_by (by show lamFB (defScope s_law) _ = true; decide +kernel)) rfl ⟨lamS_by (by show lamSB (defScope s_law) _ = true; decide +kernel), fun _ _ _ _ _ => rfl, fun A2 outer2 s2 H2 E2 f2 c2' hr2 => pe_DX D_is_frame (takes_of rfl rfl rfl rfl) (fun _ _ _ _ h => h) (hr2.mono (by decide)) (by rfl) (pa_cons (pv 12) (pa_cons (pv 14) pa_nil))⟩) pa_nil))))
      (pss_cons (ps_expr (pe_bm PySem.F.plainAttrs_list PySem.F.slot_list_append PySem.F.type_list_append mt_append (pv 7) (pa_cons (pe_caughtL (k := 5) CA rfl hr TB rfl (lamF_by (by show lamFB (defScope s_law) _ = true; decide +kernel)) rfl ⟨lamS_by (by show lamSB (defScope s_law) _ = true; decide +kernel), fun _ _ _ _ _ => rfl, fun A2 outer2 s2 H2 E2 f2 c2' hr2 => pe_DX D_greatest_loads (takes_of rfl rfl rfl rfl) (fun _ _ _ _ h => h) (hr2.mono (by decide)) (by rfl) (pa_cons (pv 12) (pa_cons (pv 15) pa_nil))⟩) pa_nil)))
      (pss_cons (ps_if (pt_cmpR (op_neD (hu64 hr)) (pe_lc (own := [("caught", 8)]) (g := (gName 8)) (tt := _) rfl sc_law.nd (pi_list (pv 7)) (blkOk_by (N := N_law) (sc := defScope s_law) (by decide +kernel)) (fun _ _ _ _ _ => (pg_name (i := 8) sc_law.nd rfl (Or.inl rfl))) (fun _ _ _ _ _ => (pts_one (pt_not (pt_val (pe_callB (call_isKK K rfl) (by rfl) T.b_isinstance (by decide +kernel) (pa_cons (pv 8) (pa_cons (pe_cls GBadSides (by rfl)) pa_nil))))))) (fun _ _ _ _ _ => pe_int)) (pe_lst pa_nil) (nomark _)) (pss_one (ps_ret pe_bl)) pss_nil)
      (pss_one (ps_if (pt_not (pt_val (pe_callB call_isK (by rfl) T.b_isinstance (by decide +kernel) (pa_cons (pe_caughtL (k := 5) CA rfl hr TB rfl (lamF_by (by show lamFB (defScope s_law) _ = true; decide +kernel)) rfl ⟨lamS_by (by show lamSB (defScope s_law) _ = true; decide +kernel), fun _ _ _ _ _ => rfl, fun A2 outer2 s2 H2 E2 f2 c2' hr2 => pe_DX D_greatest_loads (takes_of rfl rfl rfl rfl) (fun _ _ _ _ h => h) (hr2.mono (by decide)) (by rfl) (pa_cons (pv 13) (pa_cons (pv 15) pa_nil))⟩) (pa_cons (pe_cls GBadTracks (by rfl)) pa_nil))))) (pss_one (ps_ret pe_bl)) pss_nil)))))))))))))
      (pss_cons (ps_set (i := 13) sc_law.nd rfl (.inr rfl) (pe_op op_add pe_int (pe_D D__law_draw (hr.mono (by decide)) (by rfl) (pa_cons (pv 1) (pa_cons pe_int pa_nil)))))
      (pss_cons (ps_set (i := 11) sc_law.nd rfl (.inr rfl) (pe_D D__law_draw (hr.mono (by decide)) (by rfl) (pa_cons (pv 1) (pa_cons (pe_dget (hu_of hr) (pe_disp (pps_cons pe_int pe_int (pps_cons pe_int pe_int (pps_cons pe_int pe_int (pps_cons pe_int pe_int pps_nil)))) (by rfl) (by rfl) (fun z => by cases z) (by decide)) (pv 13) (fun _ _ => rfl)) pa_nil))))
      (pss_cons (ps_set (i := 6) sc_law.nd rfl (.inl rfl) (pe_lst pa_nil))
      (pss_cons (ps_for (passes_of rfl) rfl (pi_list (pe_D D__law_let (hr.mono (by decide)) (by rfl) (pa_cons (pv 13) (pa_cons (pv 11) pa_nil)))) (pg_name (i := 9) sc_law.nd rfl (Or.inl rfl)) (pss_cons (ps_setLc (i := 10) (own := [("side", 16), ("item", 5)]) (g := (gTup K 2 (gCons (gName 16) (gCons (gName 5) gNil)))) (tt := _) rfl sc_law.nd rfl rfl (sw_true rfl rfl rfl (by decide +kernel)) (pi_enum (by rfl) T.b_enumerate (pa_cons (pe_D D__law_sums (hr.mono (by decide)) (by rfl) (pa_cons (pv 13) (pa_cons (pv 9) pa_nil))) pa_nil)) (blkOk_by (N := N_law) (sc := defScope s_law) (by decide +kernel)) (fun _ _ _ _ _ => (pg_tup rfl (pgs_cons (pg_name (i := 16) sc_law.nd rfl (Or.inl rfl)) (pgs_cons (pg_name (i := 5) sc_law.nd rfl (Or.inl rfl)) pgs_nil)))) (fun _ _ _ _ _ => (pts_one (pt_cmpR op_lt (pv 5) (pv 11) (nomark _)))) (fun _ _ _ _ _ => (pv 16)))
      (pss_one (ps_set (i := 6) sc_law.nd rfl (.inl rfl) (pe_op op_cat (pv 6) (pe_op op_rep (pe_lst (pa_cons (pv 9) pa_nil)) (pe_callTy call_int1 (by rfl) T.b_int (by decide +kernel) (pa_cons (pe_cmpR op_lt (pe_callB call_len_seq (by rfl) T.b_len PySem.boot_len (pa_cons (pv 10) pa_nil)) pe_int (nomark _)) pa_nil))))))))
      (pss_cons (ps_set (i := 6) sc_law.nd rfl (.inl rfl) (pe_callTy call_tuple_of (by rfl) T.b_tuple (by decide +kernel) (pa_cons (pe_callB cr_sortE (by rfl) T.b_sorted (by decide +kernel) (pa_cons (pv 6) pa_nil)) pa_nil)))
      (pss_cons (ps_if (pt_cmpR op_ne (pe_callB (call_repr hg (hu100 hr)) (by rfl) T.b_repr (by decide +kernel) (pa_cons (pe_lst (pa_cons (pe_DX D_greatest_loads (E := fun _ _ _ => False) (takes_of rfl rfl rfl rfl) (fun _ _ _ _ h => h.elim) (hr.mono (by decide)) (by rfl) (pa_cons (pv 13) (pa_cons (pv 11) pa_nil))) (pa_cons (pe_DK DK_greatest_loads (takes_of rfl rfl rfl rfl) (fun _ _ _ _ h => h.elim) (E := fun _ _ _ => False) (hr.mono (by decide)) (by rfl) (pk_cons (pv 11) (pk_cons (pv 13) pk_nil))) pa_nil))) pa_nil)) (pe_callB (call_repr hg (hu100 hr)) (by rfl) T.b_repr (by decide +kernel) (pa_cons (pe_lst (pa_cons (pv 6) (pa_cons (pv 6) pa_nil))) pa_nil)) (nomark _)) (pss_one (ps_ret pe_bl)) pss_nil)
      (pss_cons (ps_for (passes_of rfl) rfl (pi_tup (pv 6)) (pg_name (i := 9) sc_law.nd rfl (Or.inl rfl)) (pss_cons (ps_setLc (i := 10) (own := [("item", 5)]) (g := (gName 5)) (tt := _) rfl sc_law.nd rfl rfl (sw_true rfl rfl rfl (by decide +kernel)) (pi_list (pe_D D__law_sums (hr.mono (by decide)) (by rfl) (pa_cons (pv 13) (pa_cons (pv 9) pa_nil)))) (blkOk_by (N := N_law) (sc := defScope s_law) (by decide +kernel)) (fun _ _ _ _ _ => (pg_name (i := 5) sc_law.nd rfl (Or.inl rfl))) (fun _ _ _ _ _ => (pts_one (pt_cmpR op_lt (pv 5) (pv 11) (nomark _)))) (fun _ _ _ _ _ => (pe_op op_sub (pv 11) (pv 5))))
      (pss_one (ps_if (PW.pt (pw_or (pt_cmpR op_gt (pe_callB call_len_seq (by rfl) T.b_len PySem.boot_len (pa_cons (pv 10) pa_nil)) pe_int (nomark _)) (pw_or1 (PW.pt (pw_and (pt_cmpR op_eq (pe_op op_mod (pe_op op_mul (pv 13) (pv 11)) pe_int) pe_int (nomark _)) (pw_and1 (pt_cmpR op_eq (pe_op op_mod (pe_callB (cr_sum rfl) (by rfl) T.b_sum (by decide +kernel) (pa_cons (pv 10) pa_nil)) pe_int) pe_int (nomark _)))))))) (pss_one (ps_ret pe_bl)) pss_nil))))
      (pss_cons (ps_if (pt_cmpR (op_neD (hu64 hr)) (pe_ix ix_tup (pe_DX D_greatest_loads (E := fun _ _ _ => False) (takes_of rfl rfl rfl rfl) (fun _ _ _ _ h => h.elim) (hr.mono (by decide)) (by rfl) (pa_cons pe_int (pa_cons pe_int pa_nil))) (pe_un un_neg pe_int) (fun _ _ => rfl)) (pe_tup (pa_cons pe_int (pa_cons pe_int (pa_cons pe_int (pa_cons pe_int (pa_cons pe_int (pa_cons pe_int pa_nil))))))) (nomark _)) (pss_one (ps_ret pe_bl)) pss_nil)
      (pss_cons (ps_set (i := 11) sc_law.nd rfl (.inr rfl) (pe_D D__law_pick (hr.mono (by decide)) (by rfl) (pa_cons (pv 1) (pa_cons (pe_lst (pa_cons pe_int (pa_cons pe_int pa_nil))) pa_nil))))
      (pss_cons (ps_set (i := 8) sc_law.nd rfl (.inl rfl) (pe_caughtX (k := 5) CA rfl hr TB rfl (lamF_by (by show lamFB (defScope s_law) _ = true; decide +kernel)) rfl ⟨lamS_by (by show lamSB (defScope s_law) _ = true; decide +kernel), fun _ _ _ _ _ => rfl, fun A2 outer2 s2 H2 E2 f2 c2' hr2 => pe_DX D_greatest_loads (takes_of rfl rfl rfl rfl) (fun _ _ _ _ h => h) (hr2.mono (by decide)) (by rfl) (pa_cons pe_int (pa_cons (pv 11) pa_nil))⟩))
      (pss_one (ps_ret (pe_and (pe_callB call_isE (by rfl) T.b_isinstance (by decide +kernel) (pa_cons (pv 8) (pa_cons (pe_glob (v := .ref CM) (by rfl) TM.gC rfl) pa_nil))) (pe_one (pe_cmpR op_eq (pe_eget (pv 8)) pe_int (nomark _)))))))))))))))))), ?_⟩
  have tl0 : TabS H tl lamQ := TabS.nil htl
  refine ⟨.ref a, rfl, a, ns, rfl, hs, hl, fun st lg cl H1 hst0 hlg0 e1 s1 => ?_⟩
  have sA : SqL K H1 a (ns.map V.int) := ex_l e1 hs
  refine r_for (K := K) (n := 3 + min (ns.length : Int) 6) (eda_cons (ed_int (ev_op ev_c (ev_min2 (ev_is (ev_len (K := K) (ev_var rfl) sA) (by rw [List.length_map])) ev_c) rv_I0)) eda_nil) ⟨by omega, by omega⟩
    (fun i σ' Ha => StK st lg cl (200 * i) Ha ∧ TabS Ha tl lamQ ∧ ∃ c2 c3 c4 c5 c6 c7 c8 c9 c10 c11 c12 c13 c14 c15 c16 c17, σ' = [some (.ref a), some (.ref st), c2, c3, c4, c5, c6, c7, c8, c9, c10, c11, c12, c13, c14, c15, c16, c17]) (fun H2 e2 => ⟨stk_ex e2 s1, tl0.ext (e1.trans e2), none, none, none, none, none, none, none, none, none, none, none, none, none, none, none, none, rfl⟩) ?_ ?_
  · rintro i σ' Ha hi ⟨s2, tl2, c2, c3, c4, c5, c6, c7, c8, c9, c10, c11, c12, c13, c14, c15, c16, c17, rfl⟩
    have hi9 : i ≤ 8 := by omega
    -- sides
    refine ⟨.ref st, rfl, st, lg, cl, _, 4, rfl, by decide, by decide, by omega, s2, fun r3 H3 r0 r1 x3 s3 => ⟨2, r3, rfl, rfl, ?_⟩⟩
    obtain ⟨s, hs2⟩ : ∃ s, s = 2 + r3 := ⟨_, rfl⟩
    have h1 : 2 ≤ s := by omega
    have h2 : s ≤ 5 := by omega
    have tl3 := tabS_xp tl2 x3 (stk_in s2)
    have np10 := np_le h1 h2
    refine gN (i := 13) ?_
    dsimp only [List.set_cons_succ, List.set_cons_zero]
    rw [← hs2]
    -- loads drawn
    refine qn_asg (K := K) (en_lst eda_nil (by simp)) fun p3 w3 H4 hp3 e4 h4 hd4 => ?_
    cases hd4
    have s4 := stk_ex e4 s3
    have tl4 := tl3.ext e4
    have n3 := stk_ne s3 hp3
    dsimp only [List.set_cons_succ, List.set_cons_zero]
    refine r_forD (P := fun n H5 => 1 ≤ n ∧ n ≤ 4 ∧ H5 p3 = some (.lst []) ∧ StK st lg cl (200 * i + 2) H5 ∧ TabS H5 tl lamQ) (fun Q q => ⟨.ref st, rfl, st, lg, cl, _, 4, rfl, by decide, by decide, by omega, s4, fun r4 H5 r0' r1' x5 s5 => ⟨1, r4, rfl, rfl, q (1 + r4) H5 ⟨by omega, by omega, x5 _ _ h4 (by simp [n3.1, n3.2.1]), s5, tabS_xp tl4 x5 (stk_in s4)⟩⟩⟩) fun n4 H5 p5 => ?_
    obtain ⟨n1, n2, h5, s5, tl5⟩ := p5
    refine r_for (K := K) (n := n4) (eda_cons (ed_int ev_c) eda_nil) ⟨by omega, by omega⟩
      (fun j σ' Ha => (∃ (ls : List (List Int)) (vs : List V), Ha p3 = some (.lst vs) ∧ DpAll K Ha vs (ls.map tI) ∧ ls.length = j ∧ ∀ l ∈ ls, Lds (np s) l) ∧ StK st lg cl (200 * i + 2 + 20 * j) Ha ∧ TabS Ha tl lamQ ∧
        ∃ c4, σ' = [some (.ref a), some (.ref st), some (.int (i : Int)), some (.ref p3), c4, c5, c6, c7, c8, c9, c10, c11, c12, some (.int s), c14, c15, c16, c17])
      (fun H6 e6 => ⟨⟨[], [], e6 _ _ h5, .nil, rfl, fun l hl => by simp at hl⟩, stk_ex e6 s5, tl5.ext e6, c4, rfl⟩) ?_ ?_
    · rintro j σ' Hb hj ⟨⟨ls, vs, hp, hdv, ll, hL⟩, s6, tl6, c4, rfl⟩
      refine ⟨_, rfl, Or.inl ⟨rfl, vs, sq_of hp⟩, te_drawn (K := K) h1 h2 s6 (by omega) fun v l H7 hl hv x7 s7 => ?_⟩
      have hp7 := x7 _ _ hp (by simp [n3.1, n3.2.1])
      have lv := dpa_len hdv
      rw [List.length_map] at lv
      refine ⟨p3, vs, v, rfl, rfl, hp7, sz_lt (by omega), ?_⟩
      have tx7 := stk_tx s6 x7
      refine ⟨⟨ls ++ [l], vs ++ [v], upd_same, ?_, by rw [List.length_append, ll]; rfl, fun z hz => ?_⟩, stk_mono (by omega) (stk_upd s7 ⟨n3.1, n3.2.1, n3.2.2⟩), ?_, _, rfl⟩
      · rw [List.map_append]
        exact dpa_app (dpa_tx (Tx.lst hp7) _ _ (immAll_tI _) (dpa_tx tx7 _ _ (immAll_tI _) hdv)) (.cons (dp_tx (Tx.lst hp7) _ _ (imm_tI _) hv) .nil)
      · rcases List.mem_append.mp hz with hz | hz
        · exact hL z hz
        · rw [List.mem_singleton.mp hz]
          exact hl
      · exact tabS_xp (S := [p3]) (tabS_xp tl6 x7 (stk_in s6)) (Xp.upd (Xp.refl _ _) (by simp)) (fun q hq => by rw [List.mem_singleton.mp hq]; exact .inl ⟨_, hp7⟩)
    · rintro σ' H6 ⟨⟨ls, vs, hp6, hdv, ll, hL⟩, s6, tl6, c4', rfl⟩
      have ls1 : 1 ≤ ls.length ∧ ls.length ≤ 4 := by omega
      have s6 : StK st lg cl (200 * i + 100) H6 := stk_mono (by omega) s6
      clear ll
      -- tops
      refine qd_asg (K := K) (ed_tupleOf (EvN.toD (en_call (R := R_law_tops) (ds := [seqD false (ls.map tI)]) (eda_cons (ed_var (v := .ref p3) rfl (.lst (sq_of hp6) hdv)) eda_nil) rfl ⟨false, np s, ls, rfl, np10.1, np10.2, hL, by omega, rfl⟩))) fun v14 H7 e7 hv14 => ?_
      dsimp only [List.set_cons_succ, List.set_cons_zero]
      have hp7 := e7 _ _ hp6
      have hdv7 := dpa_ex e7 _ _ hdv
      have s7 := stk_ex e7 s6
      have tl7 := tl6.ext e7
      have lsne : ls ≠ [] := fun z => by rw [z] at ls1; simp at ls1
      have tne := topF_ne hL lsne
      have tL : ∀ l ∈ topF ls, Lds (np s) l := fun l hl => hL l (topF_sub hl)
      have tlen : (topF ls).length ≤ 4 := by
        have q := sdd_len (ls := ls)
        have q2 : (topF ls).length ≤ (sdd ls).length := List.length_filter_le _ _
        omega
      -- the first items
      obtain ⟨l0, hl0⟩ : ∃ l0, ls[0]? = some l0 := ⟨ls[0]'(by omega), List.getElem?_eq_getElem (by omega)⟩
      have Ll0 := hL l0 (List.mem_of_getElem? hl0)
      have at0 : ∀ G, Ex H7 G ∨ Xp [st, lg] H7 G → ∀ {σ' : L2.St}, σ'[3]? = some (some (.ref p3)) → EvD K (tOp (rIxL K) (tVar 3) (tC (.int 0))) σ' G (tI l0) := fun G hG σ' h3 => by
        have x : Xp [st, lg] H7 G := hG.elim Xp.of_ex id
        exact ed_ixL (k := 0) (ed_var h3 (.lst (sq_of (x _ _ hp7 (by simp [n3.1, n3.2.1]))) (dpa_tx (stk_tx s7 x) _ _ (immAll_tI _) hdv7))) ev_c (by rw [List.getElem?_map, hl0]; rfl)
      refine f_vals (K := K) (P := fun p G => (∃ xs, G p = some (.lst xs) ∧ ∀ x ∈ xs, ∃ d, DL.Itm K G x d ∧ Any d ∧ Any d) ∧ Xp [st, lg] H7 G ∧ StK st lg cl (200 * i + 103) G) (fun Q q => ?_) fun p4 H8 p8 => ?_
      · refine tcons_e ?_
        refine at0 H7 (.inl (Ex.refl _)) rfl H7 (Ex.refl _) _ fun w0 G1 g1 hw0 => ?_
        refine tcons_e ?_
        have s71 := stk_ex g1 s7
        refine ⟨.ref st, rfl, at0 G1 (.inl g1) rfl G1 (Ex.refl _) _ fun w1 G2 g2 hw1 => ⟨st, lg, cl, _, w1, l0, rfl, by omega, stk_ex g2 s71, hw1, by rw [Ll0.1]; exact np10.1, by rw [Ll0.1]; omega, fun v1 d1 G3 hv1 y3 s73 => ?_⟩⟩
        refine tcons_e ?_
        refine ⟨.ref st, rfl, st, lg, cl, _, rfl, by omega, s73, fun v2 d2 G4 hv2 _ y4 s74 => ⟨by show 3 ≤ sizeLine; decide, fun p hp => ?_⟩⟩
        have e5 := Ex.new (o := .lst [w0, v1, v2]) hp
        have hw04 : Dp K G4 w0 (tI l0) := dp_tx (stk_tx (stk_ex g2 s71) (y3.trans y4)) _ _ (imm_tI _) (dp_ex g2 _ _ hw0)
        refine q p _ ⟨⟨[w0, v1, v2], upd_same, fun x hx => ?_⟩, (Xp.of_ex (g1.trans g2)).trans ((y3.trans y4).trans (Xp.of_ex e5)), stk_ex e5 (stk_mono (by omega) s74)⟩
        simp only [List.mem_cons, List.not_mem_nil, or_false] at hx
        rcases hx with rfl | rfl | rfl
        · exact ⟨_, .dp (dp_ex e5 _ _ hw04), trivial, trivial⟩
        · exact ⟨_, stI_xp hv1 (y4.trans (Xp.of_ex e5)) _ (Xp.refl _ _), trivial, trivial⟩
        · exact ⟨_, stI_xp hv2 (Xp.of_ex e5) _ (Xp.refl _ _), trivial, trivial⟩
      obtain ⟨⟨xs8, hx8, it8⟩, x8, s8⟩ := p8
      refine items_loop (K := K) (S1 := Any) (S2 := Any) (f := ldOk) h1 h2 hx8 it8 fun H9 y5 y6 e9 => ?_
      dsimp only
      have x79 : Xp [st, lg] H7 H9 := x8.trans (Xp.of_ex e9)
      have s9 := stk_ex e9 s8
      have tl9 := tabS_xp tl7 x79 (stk_in s7)
      have tx79 := stk_tx s7 x79
      have hp9 := x79 _ _ hp7 (by simp [n3.1, n3.2.1])
      have hdv9 := dpa_tx tx79 _ _ (immAll_tI _) hdv7
      have im14 : imm (.tuple ((topF ls).map tI)) = true := by rw [DL.imm]; exact immAll_tI _
      have hv149 := dp_tx tx79 _ _ im14 hv14
      -- the second items
      obtain ⟨lz, hlz, vz, atz, hvz⟩ := last_at (K := K) hdv9 lsne
      obtain ⟨ta, ts, hts⟩ : ∃ ta ts, topF ls = ta :: ts := by
        cases ht : topF ls with
        | nil => exact absurd ht tne
        | cons x y => exact ⟨x, y, rfl⟩
      refine f_vals (K := K) (P := fun p G => (∃ xs, G p = some (.lst xs) ∧ ∀ x ∈ xs, ∃ d, DL.Itm K G x d ∧ frS d ∧ small d) ∧ Xp [st, lg] H9 G ∧ StK st lg cl (200 * i + 105) G) (fun Q q => ?_) fun p5 H10 p10 => ?_
      · refine tcons_e ?_
        refine ⟨v14, rfl, ?_⟩
        refine tcons_e ?_
        refine ed_tupleOf (K := K) (ds := ls.map tI) (ed_var (v := .ref p3) rfl (.lst (sq_of hp9) hdv9)) H9 (Ex.refl _) _ fun w1 G1 g1 hw1 => ?_
        refine tcons_e ?_
        have s91 := stk_ex g1 s9
        refine ⟨.ref st, rfl, v14, rfl, ?_⟩
        refine ⟨.ref p3, rfl, 1, rfl, p3, _, -1, vz, rfl, rfl, sq_of (g1 _ _ hp9), atz, ?_⟩
        obtain ⟨G2, hG2⟩ : ∃ G2, G2 = G1 := ⟨_, rfl⟩
        have g2 : Ex G1 G2 := hG2 ▸ Ex.refl _
        rw [← hG2]
        have hvz2 := dp_ex (g1.trans g2) _ _ hvz
        have hv2 := dp_ex (g1.trans g2) _ _ hv149
        rw [hts] at hv2
        refine ⟨st, lg, cl, _, s, v14, vz, ta, ts, lz, rfl, by omega, h1, h2, stk_ex g2 s91, hv2, by rw [hts] at tlen; simp at tlen; omega, by rw [← hts]; exact tL, hvz2, hL lz hlz, fun v3 d3 G3 hv3 fr3 y3 s93 => ?_⟩
        refine tcons_e ?_
        refine ⟨.ref st, rfl, st, lg, cl, _, rfl, by omega, s93, fun v4 d4 G4 hv4 fr4 y4 s94 => ⟨by show 4 ≤ sizeLine; decide, fun p hp => ?_⟩⟩
        have e5 := Ex.new (o := .lst [v14, w1, v3, v4]) hp
        have tx24 : Tx H9 G4 := ((Tx.of_ex (g1.trans g2))).trans (stk_tx (stk_ex g2 s91) (y3.trans y4))
        have tx14 : Tx G1 G4 := (Tx.of_ex g2).trans (stk_tx (stk_ex g2 s91) (y3.trans y4))
        have f1 : FL 10 ((topF ls).map tI) := FL.loads (by omega)
        have f2 : FL 10 (ls.map tI) := FL.loads (by omega)
        have sm : ∀ d, frS d → small d := fun d hd => by
          cases d <;> first | trivial | exact Nat.le_trans hd.1 (by decide)
        refine q p _ ⟨⟨[v14, w1, v3, v4], upd_same, fun x hx => ?_⟩, (Xp.of_ex (g1.trans g2)).trans ((y3.trans y4).trans (Xp.of_ex e5)), stk_ex e5 (stk_mono (by omega) s94)⟩
        simp only [List.mem_cons, List.not_mem_nil, or_false] at hx
        rcases hx with rfl | rfl | rfl | rfl
        · exact ⟨_, .dp (dp_ex e5 _ _ (dp_tx tx24 _ _ im14 hv149)), f1.frS (by decide), sm _ (f1.frS (by decide))⟩
        · exact ⟨_, .dp (dp_ex e5 _ _ (dp_tx tx14 _ _ f2.imm hw1)), f2.frS (by decide), sm _ (f2.frS (by decide))⟩
        · exact ⟨_, stI_xp hv3 (y4.trans (Xp.of_ex e5)) _ (Xp.refl _ _), fr3, sm _ fr3⟩
        · exact ⟨_, stI_xp hv4 (Xp.of_ex e5) _ (Xp.refl _ _), fr4, sm _ fr4⟩
      obtain ⟨⟨xs10, hx10, it10⟩, x10, s10⟩ := p10
      refine items_loop (K := K) (S1 := frS) (S2 := small) (f := frB) h1 h2 hx10 it10 fun H11 z5 z6 e11 => ?_
      dsimp only
      have x911 : Xp [st, lg] H9 H11 := x10.trans (Xp.of_ex e11)
      have s11 := stk_ex e11 s10
      have tl11 := tabS_xp tl9 x911 (stk_in s9)
      have hv1411 := dp_tx (stk_tx s9 x911) _ _ im14 hv149
      -- odd and wrong
      refine ⟨.ref st, rfl, ?_⟩
      refine tcons_lst ?_
      refine ⟨by show 5 ≤ sizeLine; decide, fun p1 q1 => ?_⟩
      have f1 := Ex.new (o := .lst [.int 1, .int 6, .bl true, .non, .str (Str.ofString "2")]) q1
      have np1 := stk_ne s11 q1
      refine ⟨st, lg, cl, _, p1, _, rfl, upd_same, np1.2.1, by simp, by simp, by omega, stk_ex f1 s11, fun v12 G1 hr12 y1 t1 => ?_⟩
      refine tcons_e ?_
      refine ⟨.ref st, rfl, ?_⟩
      refine tcons_lst ?_
      refine ⟨1, rfl, ?_⟩
      refine ⟨by show 5 ≤ sizeLine; decide, fun p2 q2 => ?_⟩
      have f2 := Ex.new (o := .lst [.int (-1), .int 7, .bl true, .non, .str (Str.ofString "2")]) q2
      have np2 := stk_ne t1 q2
      refine ⟨st, lg, cl, _, p2, _, rfl, upd_same, np2.2.1, by simp, by simp, by omega, stk_ex f2 t1, fun v15 G2 hr15 y2 t2 => ⟨by show 2 ≤ sizeLine; decide, fun p6 q6 => ?_⟩⟩
      refine g_two2 (K := K) upd_same (gN (gN ?_))
      dsimp only [List.set_cons_succ, List.set_cons_zero]
      have f6 := Ex.new (o := .tup [v12, v15]) q6
      obtain ⟨d12, lone12, in12⟩ : ∃ d12, Lone v12 d12 ∧ isIn d12 2 5 = false := by
        simp only [List.mem_cons, List.not_mem_nil, or_false] at hr12
        rcases hr12 with rfl | rfl | rfl | rfl | rfl
        · exact ⟨.int 1, fun _ _ => .int 1, rfl⟩
        · exact ⟨.int 6, fun _ _ => .int 6, rfl⟩
        · exact ⟨.bool true, fun _ _ => .bl true, rfl⟩
        · exact ⟨.none, fun _ _ => .non, rfl⟩
        · exact ⟨.str _, fun _ _ => .str _, rfl⟩
      obtain ⟨d15, lone15, in15⟩ : ∃ d15, Lone v15 d15 ∧ isIn d15 0 6 = false := by
        simp only [List.mem_cons, List.not_mem_nil, or_false] at hr15
        rcases hr15 with rfl | rfl | rfl | rfl | rfl
        · exact ⟨.int (-1), fun _ _ => .int (-1), rfl⟩
        · exact ⟨.int 7, fun _ _ => .int 7, rfl⟩
        · exact ⟨.bool true, fun _ _ => .bl true, rfl⟩
        · exact ⟨.none, fun _ _ => .non, rfl⟩
        · exact ⟨.str _, fun _ _ => .str _, rfl⟩
      have x12 : Xp [st, lg] H11 (L2.upd G2 p6 (.tup [v12, v15])) := (((Xp.of_ex f1).trans y1).trans ((Xp.of_ex f2).trans y2)).trans (Xp.of_ex f6)
      have s12 := stk_ex f6 t2
      have tl12 := tabS_xp tl11 x12 (stk_in s11)
      generalize L2.upd G2 p6 (.tup [v12, v15]) = H12 at *
      -- what is refused
      refine cau_val (K := K) (C := CB) tl12 kCB (fun G x E Q hE => ⟨v12, rfl, v12, .non, d12, rfl, lone12 K _, .inr ⟨in12, hE⟩⟩) fun b1 G1 xB1 tG1 hb1 => ?_
      refine cau_val (K := K) (C := CB) tG1 kCB (fun G x E Q hE => ⟨v12, rfl, v14, rfl, v12, v14, d12, rfl, lone12 K _, .inr ⟨in12, hE⟩⟩) fun b2 G2 xB2 tG2 hb2 => ⟨by show 2 ≤ sizeLine; decide, fun p7 q7 => ?_⟩
      refine gN (i := 7) ?_
      dsimp only [List.set_cons_succ, List.set_cons_zero]
      have xN1 := exB_extn xB1 tl12
      have xN2 := exB_extn xB2 tG1
      have hb12 := xN2 _ _ hb1 (fun _ z => nomatch z)
      have f7 := Ex.new (o := .lst [.ref b1, .ref b2]) q7
      have s13 := stk_ex f7 (stk_exN xN2 (stk_exN xN1 s12))
      have tG3 := tG2.ext f7
      have h7 : L2.upd G2 p7 (.lst [.ref b1, .ref b2]) p7 = some (.lst [.ref b1, .ref b2]) := upd_same
      have b13 := f7 _ _ hb12
      have b23 := f7 _ _ hb2
      have np7 : p7 ≠ st ∧ p7 ≠ lg ∧ p7 ≠ cl := stk_ne (stk_exN xN2 (stk_exN xN1 s12)) q7
      generalize L2.upd G2 p7 (.lst [.ref b1, .ref b2]) = G3 at *
      refine ⟨_, rfl, Or.inl ⟨rfl, [.ref b1, .ref b2], sq_of h7⟩, ?_⟩
      refine cau_val (K := K) (C := CB) tG3 kCB (fun G x E Q hE => ⟨v12, rfl, v15, rfl, v12, v15, d12, d15, rfl, lone12 K _, lone15 K _, .inr (.inl ⟨in12, hE⟩)⟩) fun b3 G4 xB4 tG4 hb3 => ?_
      have xN4 := exB_extn xB4 tG3
      have h74 := xN4 _ _ h7 (fun _ z => nomatch z)
      have b14 := xN4 _ _ b13 (fun _ z => nomatch z)
      have b24 := xN4 _ _ b23 (fun _ z => nomatch z)
      have s14 := stk_exN xN4 s13
      refine ⟨p7, [.ref b1, .ref b2], .ref b3, rfl, rfl, h74, by show 2 < sizeLine; decide, ?_⟩
      have n1 : b1 ≠ p7 := fun z => by rw [z, h74] at b14; exact nomatch b14
      have n2 : b2 ≠ p7 := fun z => by rw [z, h74] at b24; exact nomatch b24
      have n3 : b3 ≠ p7 := fun z => by rw [z, h74] at hb3; exact nomatch hb3
      have h75 : L2.upd G4 p7 (.lst [.ref b1, .ref b2, .ref b3]) p7 = some (.lst [.ref b1, .ref b2, .ref b3]) := upd_same
      have b15 : L2.upd G4 p7 (.lst [.ref b1, .ref b2, .ref b3]) b1 = some (ErO (.ref CB) b1) := by rw [upd_ne n1]; exact b14
      have b25 : L2.upd G4 p7 (.lst [.ref b1, .ref b2, .ref b3]) b2 = some (ErO (.ref CB) b2) := by rw [upd_ne n2]; exact b24
      have b35 : L2.upd G4 p7 (.lst [.ref b1, .ref b2, .ref b3]) b3 = some (ErO (.ref CB) b3) := by rw [upd_ne n3]; exact hb3
      have s15 := stk_upd (u := .lst [.ref b1, .ref b2, .ref b3]) s14 np7
      have xp7 : Xp [p7] G4 (L2.upd G4 p7 (.lst [.ref b1, .ref b2, .ref b3])) := Xp.upd (Xp.refl _ _) (by simp)
      have tG5 := tabS_xp (S := [p7]) tG4 xp7 (fun q hq => by rw [List.mem_singleton.mp hq]; exact .inl ⟨_, h74⟩)
      show tSeq _ _ _ _ (L2.upd G4 p7 (.lst [.ref b1, .ref b2, .ref b3]))
      generalize L2.upd G4 p7 (.lst [.ref b1, .ref b2, .ref b3]) = G5 at *
      refine q_no (et_test (ev_is (ev_neD (e1 := .list (dI [])) (e2 := .list []) (EvN.toD (en_noneE (K := K) (C := CB) h75 (fun x hx => ?_) iB eB)) (EvN.toD (en_lst (ds := []) eda_nil (by simp))) (shaped_dI _) (shaped_dI [])) (by rw [eqv_nil]; rfl))) fun G6 e6 => ?_
      · simp only [List.mem_cons, List.not_mem_nil, or_false] at hx
        rcases hx with rfl | rfl | rfl
        · exact ⟨_, rfl, b15⟩
        · exact ⟨_, rfl, b25⟩
        · exact ⟨_, rfl, b35⟩
      have tG6 := tG5.ext e6
      refine d_refuse (K := K) tG6 kCT iT eT (fun G x E Q hE => ⟨.int s, rfl, v15, rfl, .int s, v15, .int s, d15, rfl, .int s, lone15 K _, .inr (.inr (.inl ⟨s, rfl, h1, h2, in15, hE⟩))⟩) fun G7 xB7 tG7 => ?_
      exact ⟨stk_mono (by omega) (stk_exN (exB_extn xB7 tG6) (stk_ex e6 s15)), tG7, _, _, _, _, _, _, _, _, _, _, _, _, _, _, _, _, rfl⟩
  · rintro σ' H2 ⟨s2, tl2, c2, c3, c4, c5, c6, c7, c8, c9, c10, c11, c12, c13, c14, c15, c16, c17, rfl⟩
    have s2 : StK st lg cl 1800 H2 := stk_mono (by omega) s2
    -- sides and tracks
    refine ⟨.ref st, rfl, st, lg, cl, _, 4, rfl, by decide, by decide, by omega, s2, fun r3 H3 r0 r1 x3 s3 => ⟨2, r3, rfl, rfl, ?_⟩⟩
    obtain ⟨s, hs2⟩ : ∃ s, s = 2 + r3 := ⟨_, rfl⟩
    have h1 : 2 ≤ s := by omega
    have h2 : s ≤ 5 := by omega
    have tl3 := tabS_xp tl2 x3 (stk_in s2)
    have np10 := np_le h1 h2
    refine gN (i := 13) ?_
    dsimp only [List.set_cons_succ, List.set_cons_zero]
    rw [← hs2]
    refine ⟨.ref st, rfl, fun pd qd => ⟨upd_same, [(.inl 2, .int 7), (.inl 3, .int 7), (.inl 4, .int 4), (.inl 5, .int 3)], rfl, by show 4 ≤ 15; decide, ?_⟩⟩
    have ed := Ex.mut (o := .dK (mergeK [] [(.inl 2, .int 7), (.inl 3, .int 7), (.inl 4, .int 4), (.inl 5, .int 3)])) (Ex.new (o := .dK []) qd) qd
    have hpd : L2.upd (L2.upd H3 pd (.dK [])) pd (.dK (mergeK [] [(.inl 2, .int 7), (.inl 3, .int 7), (.inl 4, .int 4), (.inl 5, .int 3)])) pd = some (.dK (mergeK [] [(.inl 2, .int 7), (.inl 3, .int 7), (.inl 4, .int 4), (.inl 5, .int 3)])) := upd_same
    have mk : mergeK [] [((Sum.inl 2 : Key), V.int 7), (.inl 3, .int 7), (.inl 4, .int 4), (.inl 5, .int 3)] = [(.inl 2, .int 7), (.inl 3, .int 7), (.inl 4, .int 4), (.inl 5, .int 3)] := by decide
    rw [mk] at ed hpd ⊢
    have s4 := stk_ex ed s3
    have tl4 := tl3.ext ed
    generalize L2.upd (L2.upd H3 pd (.dK [])) pd (.dK [((Sum.inl 2 : Key), V.int 7), (.inl 3, .int 7), (.inl 4, .int 4), (.inl 5, .int 3)]) = H4 at *
    have gv : valV [((Sum.inl 2 : Key), V.int 7), (.inl 3, .int 7), (.inl 4, .int 4), (.inl 5, .int 3)] (.inl s) = some (.int (manyOf s)) := by
      have hs' : s = 2 ∨ s = 3 ∨ s = 4 ∨ s = 5 := by omega
      rcases hs' with rfl | rfl | rfl | rfl <;> decide
    have mo : 1 ≤ manyOf s ∧ manyOf s ≤ 7 := by unfold manyOf; split <;> (try split) <;> omega
    refine ⟨.int s, rfl, pd, .int (manyOf s), rfl, gv ▸ DGet.k (k := .inl s) hpd, st, lg, cl, _, manyOf s, rfl, mo.1, by omega, by omega, s4, fun t H5 t0 t1 x5 s5 => ?_⟩
    refine gN (i := 11) ?_
    dsimp only [List.set_cons_succ, List.set_cons_zero]
    have tl5 := tabS_xp tl4 x5 (stk_in s4)
    have O := okst h1 h2 t0 t1
    have t6 : t ≤ 6 := by omega
    have t54 : s = 5 → t ≤ 4 := fun z => by rw [z] at t1; simp [manyOf] at t1; omega
    -- due
    refine qn_asg (K := K) (en_lst eda_nil (by simp)) fun p6 w6 H6 hp6 e6 h6 hd6 => ?_
    cases hd6
    dsimp only [List.set_cons_succ, List.set_cons_zero]
    have lenL := O.lens (np s) (Nat.le_refl _)
    refine e_for (K := K) (S := []) (ei_lstD (ds := (litF s t (np s)).map tI) (EvN.toD (en_call (R := R_law_let) (ds := [.int s, .int t]) (eda_cons (ed_int (ev_var rfl)) (eda_cons (ed_int (ev_var rfl)) eda_nil)) rfl ⟨s, t, rfl, h1, h2, t0, t6, O.lens, rfl⟩)) (immAll_tI _))
      (fun H7 i σ' Ha => Ex H7 Ha ∧ (∃ p vs, Ha p = some (.lst vs) ∧ DpAll K Ha vs ((((litF s t (np s)).take i).filter (few s t)).map tI) ∧ ∃ c9 c10, σ' = [some (.ref a), some (.ref st), c2, c3, c4, c5, some (.ref p), c7, c8, c9, c10, some (.int t), c12, some (.int s), c14, c15, c16, c17]))
      (fun H7 e7 => ⟨Ex.refl _, p6, _, e7 _ _ h6, by simpa using .nil, c9, c10, rfl⟩) (fun H7 i σ' Ha _ z => Xp.of_ex z.1) ?_ ?_
    · rintro H7 i d y σ' Ha Hb e7 hg ⟨x7, p, vs, hp, hdv, c9, c10, rfl⟩ e8 hy
      rw [List.getElem?_map] at hg
      cases hi : (litF s t (np s))[i]? with
      | none => rw [hi] at hg; cases hg
      | some l =>
        rw [hi] at hg
        cases hg
        have ll : l.length = np s := litF_len (List.mem_of_getElem? hi)
        have tk : (litF s t (np s)).take (i + 1) = (litF s t (np s)).take i ++ [l] := by rw [List.take_succ, hi]; rfl
        have hp := e8 _ _ hp
        have hdv := dpa_ex e8 _ _ hdv
        have sl := sms_len s l
        show tSeq _ _ _ [some (.ref a), some (.ref st), c2, c3, c4, c5, some (.ref p), c7, c8, some y, c10, some (.int t), c12, some (.int s), c14, c15, c16, c17] Hb
        refine qn_asg (K := K) (en_lcB (ei_enum (ds := dI (sms s l)) (EvN.toD (en_call (R := R_law_sums) (ds := [.int s, tI l]) (eda_cons (ed_int (ev_var (i := 13) rfl)) (eda_cons (ed_var (k := 9) (v := y) rfl hy) eda_nil)) rfl ⟨s, l, rfl, h1, h2, ll, rfl⟩))) (by rw [List.length_map, List.length_range, dI, List.length_map]; omega) (fun j => decide ((sms s l).getD j 0 < t)) (fun j => (j : Int)) fun H9 j d x Hc Q' e9 hg2 e10 hx kk => ?_) fun pl wl Hc hpl ec hl1 hdl => ?_
        · have hj : j < (sms s l).length := by have := (List.getElem?_eq_some_iff.mp hg2).1; simpa using this
          rw [List.getElem?_map, List.getElem?_range (by rw [dI, List.length_map]; exact hj)] at hg2
          have gx : (dI (sms s l)).getD j .none = .int ((sms s l).getD j 0) := by
            rw [dI, List.getD_eq_getElem?_getD, List.getElem?_map, List.getElem?_eq_getElem hj, List.getD_eq_getElem?_getD, List.getElem?_eq_getElem hj]
            rfl
          simp only [Option.map_some, Option.some.injEq, gx] at hg2
          subst hg2
          refine g_two hx fun w1 w2 u1 u2 => ?_
          cases dp_int u1
          cases dp_int u2
          exact kk _ Hc (Ex.refl _) rfl (et_test (ev_op (ev_var rfl) (ev_var rfl) rv_I0)) (ev_var rfl)
        · dsimp only [List.set_cons_succ, List.set_cons_zero]
          have fw : (((List.range ((List.range (dI (sms s l)).length).map fun (i : Nat) => PyData.tuple [.int (i : Int), (dI (sms s l)).getD i .none]).length).filter fun j => decide ((sms s l).getD j 0 < t)).map fun (j : Nat) => (j : Int)).length = (lackL s t l).length := by
            unfold lackL
            rw [← filt_range (sms s l) (fun x => decide (x < t)) fun x => t - x]
            simp [dI]
          have hpc := ec _ _ hp
          have hdc := dpa_ex ec _ _ hdv
          have hyc := dp_ex ec _ _ hy
          have ln : ((((litF s t (np s)).take i).filter (few s t)).map tI).length ≤ 5000 := by
            rw [List.length_map]
            refine Nat.le_trans (List.length_filter_le _ _) ?_
            rw [List.length_take]
            omega
          refine (en_cat (K := K) (evq_var rfl hpc hdc) (EvN.toQ (en_rep (K := K) (d := tI l) (n := if few s t l then 1 else 0) (EvN.toQ (en_lst (eda_cons (ed_var (k := 9) (v := y) rfl hyc) eda_nil) (by simp))) (ev_is (ev_intB (ev_op (ev_lenL (ed_var (k := 10) (v := .ref pl) rfl (.lst (sq_of hl1) hdl))) ev_c rv_I0)) ?_) (by split <;> omega) (by split <;> omega))) (by rw [List.length_replicate]; split <;> omega)) Hc (Ex.refl _) _ fun p' vs' Hd hp' ed' hd1' hdd' => ?_
          · rw [dI, List.length_map, fw]
            unfold few
            congr 1
            by_cases z : (lackL s t l).length < 2
            · rw [if_pos (by rw [decide_eq_true_eq]; omega), if_pos (by rw [decide_eq_true_eq]; exact z)]
            · rw [if_neg (by rw [decide_eq_true_eq]; omega), if_neg (by rw [decide_eq_true_eq]; exact z)]
          · refine ⟨(x7.trans e8).trans (ec.trans ed'), p', vs', hd1', ?_, _, _, rfl⟩
            rw [tk, List.filter_append, List.map_append]
            have f1 : ([l].filter (few s t)).map tI = List.replicate (if few s t l then (1 : Int) else 0).toNat (tI l) := by
              cases hf : few s t l
              · rw [List.filter_eq_nil_iff.mpr fun z hz => by rw [List.mem_singleton.mp hz, hf]; exact Bool.noConfusion]
                rfl
              · rw [List.filter_eq_self.mpr fun z hz => by rw [List.mem_singleton.mp hz]; exact hf]
                rfl
            rw [f1]
            exact hdd'
    · rintro H7 σ' Ha e7 ⟨x7, p, vs, hp, hdv, c9', c10', rfl⟩
      rw [List.length_map, List.take_of_length_le (Nat.le_refl _), O.same] at hdv
      have e17 := (e6.trans e7).trans x7
      have s7 := stk_ex e17 s5
      have tl7 := tl5.ext e17
      refine qd_asg (K := K) (ed_sortE (m := np s) (ls := TT s t) (ed_var (v := .ref p) rfl (.lst (sq_of hp) hdv)) np10.1 O.lds O.rise (by have := O.len; omega)) fun v6 H8 e8 hv6 => ?_
      dsimp only [List.set_cons_succ, List.set_cons_zero]
      have fl : Fine (.tuple ((TT s t).map tI)) (411 * 60) 4 := by
        have f := fine_loads (ls := TT s t) fun l hl => ⟨by rw [(O.lds l hl).1]; exact np10.2, fun n hn => sml_of (by have := (O.lds l hl).2 n hn; omega) (by have := (O.lds l hl).2 n hn; omega)⟩
        exact ⟨f.short, f.shows, f.deep, Nat.le_trans f.few (Nat.mul_le_mul_left _ O.len)⟩
      have f2 := fine_two fl
      refine q_no (et_test (ev_neS (ev_repr (K := K) (EvN.toD (en_lst (eda_cons (ed_GL (ev_var rfl) (ev_var rfl) h1 h2 t0 t6 t54 O.stop) (eda_cons (ed_GLK (ev_var rfl) (ev_var rfl) h1 h2 t0 t6 t54 O.stop) eda_nil)) (by simp))) f2 (by decide) (by decide)) (ev_repr (K := K) (EvN.toD (en_lst (eda_cons (ed_var (v := v6) rfl hv6) (eda_cons (ed_var (v := v6) rfl hv6) eda_nil)) (by simp))) f2 (by decide) (by decide)))) fun H9 e9 => ?_
      have hv69 := dp_ex e9 _ _ hv6
      refine e_for (K := K) (S := []) (ei_tupD (ds := (TT s t).map tI) (ed_var (v := v6) rfl hv69)) (fun H10 i σ' Ha => Ex H10 Ha ∧ ∃ c9 c10, σ' = [some (.ref a), some (.ref st), c2, c3, c4, c5, some v6, c7, c8, c9, c10, some (.int t), c12, some (.int s), c14, c15, c16, c17])
        (fun H10 e10 => ⟨Ex.refl _, c9', c10', rfl⟩) (fun H10 i σ' Ha _ z => Xp.of_ex z.1) ?_ ?_
      · rintro H10 i d y σ' Hb Hc e10 hg ⟨x10, c9, c10, rfl⟩ e11 hy
        rw [List.getElem?_map] at hg
        cases hi : (TT s t)[i]? with
        | none => rw [hi] at hg; cases hg
        | some l =>
          rw [hi] at hg
          cases hg
          have lm := List.mem_of_getElem? hi
          have Ll := O.lds l lm
          have gB := O.good l lm
          have sl := sms_len s l
          show tSeq _ _ _ [some (.ref a), some (.ref st), c2, c3, c4, c5, some v6, c7, c8, some y, c10, some (.int t), c12, some (.int s), c14, c15, c16, c17] Hc
          refine qn_asg (K := K) (en_is (en_lcB (ei_lstD (ds := dI (sms s l)) (EvN.toD (en_call (R := R_law_sums) (ds := [.int s, tI l]) (eda_cons (ed_int (ev_var (i := 13) rfl)) (eda_cons (ed_var (k := 9) (v := y) rfl hy) eda_nil)) rfl ⟨s, l, rfl, h1, h2, Ll.1, rfl⟩)) (by simpa using immAll_of (ds := dI (sms s l)) fun d hd => by obtain ⟨z, _, rfl⟩ := List.mem_map.mp hd; rfl)) (by rw [dI, List.length_map]; omega) (fun j => decide ((sms s l).getD j 0 < t)) (fun j => t - (sms s l).getD j 0) fun H12 j d x Hd Q' e12 hg2 e13 hx kk => ?_) (show _ = dI (lackL s t l) by unfold lackL; rw [← filt_range (sms s l) (fun x => decide (x < t)) fun x => t - x]; simp [dI])) fun pl wl Hd hpl ed' hl1 hdl => ?_
          · rw [dI, List.getElem?_map] at hg2
            cases hj : (sms s l)[j]? with
            | none => rw [hj] at hg2; cases hg2
            | some z =>
              rw [hj] at hg2
              cases hg2
              cases dp_int hx
              have gx : (sms s l).getD j 0 = z := by rw [List.getD_eq_getElem?_getD, hj]; rfl
              rw [gx] at kk
              exact kk _ Hd (Ex.refl _) rfl (et_test (ev_op (ev_var rfl) (ev_var rfl) rv_I0)) (ev_op (ev_var rfl) (ev_var rfl) rv_I0)
          · dsimp only [List.set_cons_succ, List.set_cons_zero]
            rw [goodB, Bool.and_eq_true, decide_eq_true_eq, Bool.not_eq_true'] at gB
            have lk : EvD K (tVar 10) [some (.ref a), some (.ref st), c2, c3, c4, c5, some v6, c7, c8, some y, some (.ref pl), some (.int t), c12, some (.int s), c14, c15, c16, c17] Hd (.list (dI (lackL s t l))) := ed_var rfl (.lst (sq_of hl1) hdl)
            have st_ : EvT (tTest (tOp rEq (tOp (rI (fun _ j => 0 < j) fun i j => V.int (i % j)) (tOp (rI CMul fun i j => V.int (i * j)) (tVar 13) (tVar 11)) (tC (.int 2))) (tC (.int 0)))) [some (.ref a), some (.ref st), c2, c3, c4, c5, some v6, c7, c8, some y, some (.ref pl), some (.int t), c12, some (.int s), c14, c15, c16, c17] Hd (decide (s * t % 2 = 0)) := et_test (ev_is (ev_op (ev_op (ev_op (ev_var rfl) (ev_var rfl) (rv_I (.inl (by omega)))) ev_c (rv_I (by decide))) ev_c (rv_eq rfl)) (by rw [decide_vint]))
            refine s_no (et_is (et_or (a := false) (b := false) (et_test (ev_is (ev_op (ev_lenL lk) ev_c rv_I0) (by rw [dI, List.length_map]; congr 1; exact decide_eq_false (by omega)))) fun _ => et_is (et_and st_ fun _ => et_test (ev_is (ev_op (ev_op (ev_sumL lk) ev_c (rv_I (by decide))) ev_c (rv_eq rfl)) (by rw [decide_vint]))) gB.2) rfl) fun He ee => ?_
            exact ⟨(x10.trans e11).trans (ed'.trans ee), _, _, rfl⟩
      · rintro H10 σ' Ha e10 ⟨x10, c9, c10, rfl⟩
        refine q_no (et_test (ev_is (ev_neD (e1 := tI [6, 0, 0, 0, 0, 6]) (e2 := tI [6, 0, 0, 0, 0, 6]) (ed_lastT (ed_GL (s := 4) (t := 6) ev_c ev_c (by decide) (by decide) (by decide) (by decide) (fun z => by cases z) tt46.1) (by rw [List.getLast?_map, tt46.2.1]; rfl)) (ed_tup (eda_cons (ed_int ev_c) (eda_cons (ed_int ev_c) (eda_cons (ed_int ev_c) (eda_cons (ed_int ev_c) (eda_cons (ed_int ev_c) (eda_cons (ed_int ev_c) eda_nil)))))) (by simp)) (shaped_tI _) (shaped_tI _)) (by rw [eqv_tI, decide_eq_true rfl]; rfl))) fun H11 e11 => ?_
        have ea := ((e8.trans e9).trans (e10.trans x10)).trans e11
        have s11 := stk_ex ea s7
        have tl11 := tl7.ext ea
        refine ⟨.ref st, rfl, ?_⟩
        refine tcons_lst ?_
        refine ⟨by show 2 ≤ sizeLine; decide, fun p1 q1 => ?_⟩
        have f1 := Ex.new (o := .lst [.int 5, .int 6]) q1
        have np1 := stk_ne s11 q1
        refine ⟨st, lg, cl, _, p1, _, rfl, upd_same, np1.2.1, by simp, by simp, by omega, stk_ex f1 s11, fun v11 G1 hr11 y1 g1 => ?_⟩
        refine gN (i := 11) ?_
        dsimp only [List.set_cons_succ, List.set_cons_zero]
        obtain ⟨t5, rfl, t51, t52⟩ : ∃ t5 : Int, v11 = .int t5 ∧ 5 ≤ t5 ∧ t5 ≤ 6 := by
          simp only [List.mem_cons, List.not_mem_nil, or_false] at hr11
          rcases hr11 with rfl | rfl
          · exact ⟨5, rfl, by decide, by decide⟩
          · exact ⟨6, rfl, by decide, by decide⟩
        have tl12 := tabS_xp tl11 ((Xp.of_ex f1).trans y1) (stk_in s11)
        refine cau_valX (K := K) (C := CM) (fs := [("most", .int 20000)]) tl12 kCM (fun G x E Q hE => ⟨.int t5, rfl, .int 5, .int t5, .int 5, .int t5, rfl, .int 5, .int t5, .inr (.inr (.inr ⟨t5, rfl, rfl, t51, t52, hE⟩))⟩) fun b d G2 xB he hd => ?_
        refine gN (i := 8) ?_
        dsimp only [List.set_cons_succ, List.set_cons_zero]
        refine s_ret (v := .bl true) (ev_andV (a := true) (b := true) (fun H1 e Q q => ⟨.ref b, rfl, b, CM, .ref CM, .ref CM, true, rfl, .inr ⟨d, _, e _ _ he, e _ _ hd⟩, eM, fun u z => z, iM, q H1 (Ex.refl _)⟩) fun _ => ev_is (ev_op (x := .int 20000) (fun H1 e Q q => ⟨.ref b, rfl, b, CM, d, _, .int 20000, rfl, e _ _ he, e _ _ hd, TM.xf, TM.no, rfl, q H1 (Ex.refl _)⟩) ev_c (rv_eq rfl)) rfl) fun H1 e1 => k H1
end
end K16
set_option Elab.async false
set_option linter.all false
set_option maxRecDepth 100000
set_option maxHeartbeats 0
namespace K16
open PySem PySem.Spec PyProof.Rows L2 Evl DL He LamX
abbrev s__law_caught : Stmt := topS 40
theorem facts_law {l : PySem.W.OpenLaw} {w : World} {K : PySem.W.Frag} {h : Heap} {mg : Str → Option Value} {fa : Addr} (X : K.In h) (G : h.Ns mainGlobals mg) (hfa : mg "law" = some (.ref fa)) (c : KnownY faL fnL tfL exA h K) :
    ∃ (fd : FuncData) (Ts : List (Addr × Addr)) (tl : Addr), (∃ p ∈ Ts, p.2 = tl) ∧ (∀ p ∈ Ts, h.get? p.2 = some { cls := .none, data := .fields #[] }) ∧ (∀ p ∈ Ts, K.lookup p.2 = none) ∧ (∀ p ∈ Ts, PySem.W.CodeHd h p.1 p.2) ∧ (∀ (s : Shared) (u : Value), BindsTo s fd ⟨[u], []⟩ [("script", u)]) ∧
      ∀ base : Heap, K.In base → base.Ns mainGlobals mg → (∀ p ∈ Ts, TabB base mg p.1 p.2) → FnG l.prog w K mg base (L2.CX l.prog w) 8 fa fd ["script"] (spLaw K tl) := by
  have d := c.says
  obtain ⟨xB, m⟩ := ba c.extra
  obtain ⟨xT, m⟩ := ba m
  obtain ⟨xM, m⟩ := ba m
  obtain ⟨ceb, m⟩ := ba m
  obtain ⟨kM, m⟩ := ba m
  obtain ⟨uM, m⟩ := ba m
  obtain ⟨nn, tt, rd, gaC, fi⟩ := ceB_ok ceb
  obtain ⟨iM, tM, nM, sM, yMt, qM⟩ := ownB_ok m
  have uM := of_decide_eq_true uM
  obtain ⟨EM, iMM⟩ := clsB_ok xM uM nn tt
  have xfM : XfC K (ga K "TooMany") := ⟨EM.hg, EM.hk, EM.hs, EM.hd⟩
  have oxM : OexC K (ga K "TooMany") := ⟨oex_of qM, sM, uM, yMt, kM⟩
  obtain ⟨GB, uB⟩ := exc_ok (glo_ok X G (d.fact 58 (f := .glo "BadSides") rfl)) (d.fact 62 (f := .exc "BadSides") rfl)
  obtain ⟨EB, iB⟩ := clsB_ok xB uB nn tt
  have yB : PySem.W.exmOne K (.ref (ga K "BadSides")) (.ref (ga K "CallError")) = some true := of_decide_eq_true (d.fact 64 (f := .exm "BadSides" "CallError" true) rfl)
  obtain ⟨GT, uT⟩ := exc_ok (glo_ok X G (d.fact 59 (f := .glo "BadTracks") rfl)) (d.fact 63 (f := .exc "BadTracks") rfl)
  obtain ⟨ET, iT⟩ := clsB_ok xT uT nn tt
  have yT : PySem.W.exmOne K (.ref (ga K "BadTracks")) (.ref (ga K "CallError")) = some true := of_decide_eq_true (d.fact 65 (f := .exm "BadTracks" "CallError" true) rfl)
  obtain ⟨oc0, kV0, dc0, pm0, cd0, ct0, od0, an0, sl0, l0, c0, k0⟩ := fn_look (st := s_TooMany_init) (d.def_ 0 (d := d_0) rfl)
  obtain ⟨oc1, kV1, dc1, pm1, cd1, ct1, od1, an1, sl1, l1, c1, k1⟩ := fn_look (st := s__law_begun) (d.def_ 1 (d := d_1) rfl)
  have a1 := glo_ok X G (d.fact 0 (f := .glo "_law_begun") rfl)
  obtain ⟨oc2, kV2, dc2, pm2, cd2, ct2, od2, an2, sl2, l2, c2, k2⟩ := fn_look (st := s__law_draw) (d.def_ 2 (d := d_2) rfl)
  have a2 := glo_ok X G (d.fact 1 (f := .glo "_law_draw") rfl)
  obtain ⟨oc3, kV3, dc3, pm3, cd3, ct3, od3, an3, sl3, l3, c3, k3⟩ := fn_look (st := s__law_pick) (d.def_ 3 (d := d_3) rfl)
  have a3 := glo_ok X G (d.fact 2 (f := .glo "_law_pick") rfl)
  obtain ⟨oc4, kV4, dc4, pm4, cd4, ct4, od4, an4, sl4, l4, c4, k4⟩ := fn_look (st := s__law_bent_frame) (d.def_ 4 (d := d_4) rfl)
  have a4 := glo_ok X G (d.fact 3 (f := .glo "_law_bent_frame") rfl)
  obtain ⟨oc5, kV5, dc5, pm5, cd5, ct5, od5, an5, sl5, l5, c5, k5⟩ := fn_look (st := s__law_bent_load) (d.def_ 5 (d := d_5) rfl)
  have a5 := glo_ok X G (d.fact 4 (f := .glo "_law_bent_load") rfl)
  obtain ⟨oc6, kV6, dc6, pm6, cd6, ct6, od6, an6, sl6, l6, c6, k6⟩ := fn_look (st := s__law_is_whole) (d.def_ 6 (d := d_6) rfl)
  have a6 := glo_ok X G (d.fact 5 (f := .glo "_law_is_whole") rfl)
  obtain ⟨oc7, kV7, dc7, pm7, cd7, ct7, od7, an7, sl7, l7, c7, k7⟩ := fn_look (st := s__law_is_load) (d.def_ 7 (d := d_7) rfl)
  have a7 := glo_ok X G (d.fact 6 (f := .glo "_law_is_load") rfl)
  obtain ⟨oc8, kV8, dc8, pm8, cd8, ct8, od8, an8, sl8, l8, c8, k8⟩ := fn_look (st := s__law_under) (d.def_ 8 (d := d_8) rfl)
  have a8 := glo_ok X G (d.fact 7 (f := .glo "_law_under") rfl)
  obtain ⟨oc9, kV9, dc9, pm9, cd9, ct9, od9, an9, sl9, l9, c9, k9⟩ := fn_look (st := s__law_tops) (d.def_ 9 (d := d_9) rfl)
  have a9 := glo_ok X G (d.fact 8 (f := .glo "_law_tops") rfl)
  obtain ⟨oc10, kV10, dc10, pm10, cd10, ct10, od10, an10, sl10, l10, c10, k10⟩ := fn_look (st := s__law_is_frame) (d.def_ 10 (d := d_10) rfl)
  have a10 := glo_ok X G (d.fact 9 (f := .glo "_law_is_frame") rfl)
  obtain ⟨oc11, kV11, dc11, pm11, cd11, ct11, od11, an11, sl11, l11, c11, k11⟩ := fn_look (st := s__law_pairs) (d.def_ 11 (d := d_11) rfl)
  have a11 := glo_ok X G (d.fact 10 (f := .glo "_law_pairs") rfl)
  obtain ⟨oc12, kV12, dc12, pm12, cd12, ct12, od12, an12, sl12, l12, c12, k12⟩ := fn_look (st := s__law_sums) (d.def_ 12 (d := d_12) rfl)
  have a12 := glo_ok X G (d.fact 11 (f := .glo "_law_sums") rfl)
  obtain ⟨oc13, kV13, dc13, pm13, cd13, ct13, od13, an13, sl13, l13, c13, k13⟩ := fn_look (st := s__law_let) (d.def_ 13 (d := d_13) rfl)
  have a13 := glo_ok X G (d.fact 12 (f := .glo "_law_let") rfl)
  obtain ⟨oc14, kV14, dc14, pm14, cd14, ct14, od14, an14, sl14, l14, c14, k14⟩ := fn_look (st := s__law_odd) (d.def_ 14 (d := d_14) rfl)
  have a14 := glo_ok X G (d.fact 13 (f := .glo "_law_odd") rfl)
  obtain ⟨oc15, kV15, dc15, pm15, cd15, ct15, od15, an15, sl15, l15, c15, k15⟩ := fn_look (st := s_is_number) (d.def_ 15 (d := d_15) rfl)
  have a15 := glo_ok X G (d.fact 14 (f := .glo "is_number") rfl)
  obtain ⟨oc16, kV16, dc16, pm16, cd16, ct16, od16, an16, sl16, l16, c16, k16⟩ := fn_look (st := s_is_within) (d.def_ 16 (d := d_16) rfl)
  have a16 := glo_ok X G (d.fact 15 (f := .glo "is_within") rfl)
  obtain ⟨oc17, kV17, dc17, pm17, cd17, ct17, od17, an17, sl17, l17, c17, k17⟩ := fn_look (st := s_check_sides) (d.def_ 17 (d := d_17) rfl)
  have a17 := glo_ok X G (d.fact 16 (f := .glo "check_sides") rfl)
  obtain ⟨oc18, kV18, dc18, pm18, cd18, ct18, od18, an18, sl18, l18, c18, k18⟩ := fn_look (st := s_is_tuple_of) (d.def_ 18 (d := d_18) rfl)
  have a18 := glo_ok X G (d.fact 17 (f := .glo "is_tuple_of") rfl)
  obtain ⟨oc19, kV19, dc19, pm19, cd19, ct19, od19, an19, sl19, l19, c19, k19⟩ := fn_look (st := s_many_pairs) (d.def_ 19 (d := d_19) rfl)
  have a19 := glo_ok X G (d.fact 18 (f := .glo "many_pairs") rfl)
  obtain ⟨oc20, kV20, dc20, pm20, cd20, ct20, od20, an20, sl20, l20, c20, k20⟩ := fn_look (st := s_is_load_of) (d.def_ 20 (d := d_20) rfl)
  have a20 := glo_ok X G (d.fact 19 (f := .glo "is_load_of") rfl)
  obtain ⟨oc21, kV21, dc21, pm21, cd21, ct21, od21, an21, sl21, l21, c21, k21⟩ := fn_look (st := s_is_load) (d.def_ 21 (d := d_21) rfl)
  have a21 := glo_ok X G (d.fact 20 (f := .glo "is_load") rfl)
  obtain ⟨oc22, kV22, dc22, pm22, cd22, ct22, od22, an22, sl22, l22, c22, k22⟩ := fn_look (st := s_rises) (d.def_ 22 (d := d_22) rfl)
  have a22 := glo_ok X G (d.fact 21 (f := .glo "rises") rfl)
  obtain ⟨oc23, kV23, dc23, pm23, cd23, ct23, od23, an23, sl23, l23, c23, k23⟩ := fn_look (st := s_packed) (d.def_ 23 (d := d_23) rfl)
  have a23 := glo_ok X G (d.fact 22 (f := .glo "packed") rfl)
  obtain ⟨oc24, kV24, dc24, pm24, cd24, ct24, od24, an24, sl24, l24, c24, k24⟩ := fn_look (st := s_first_over) (d.def_ 24 (d := d_24) rfl)
  have a24 := glo_ok X G (d.fact 23 (f := .glo "first_over") rfl)
  obtain ⟨oc25, kV25, dc25, pm25, cd25, ct25, od25, an25, sl25, l25, c25, k25⟩ := fn_look (st := s_lanes) (d.def_ 25 (d := d_25) rfl)
  have a25 := glo_ok X G (d.fact 24 (f := .glo "lanes") rfl)
  obtain ⟨oc26, kV26, dc26, pm26, cd26, ct26, od26, an26, sl26, l26, c26, k26⟩ := fn_look (st := s_guards) (d.def_ 26 (d := d_26) rfl)
  have a26 := glo_ok X G (d.fact 25 (f := .glo "guards") rfl)
  obtain ⟨oc27, kV27, dc27, pm27, cd27, ct27, od27, an27, sl27, l27, c27, k27⟩ := fn_look (st := s_are_apart) (d.def_ 27 (d := d_27) rfl)
  have a27 := glo_ok X G (d.fact 26 (f := .glo "are_apart") rfl)
  obtain ⟨oc28, kV28, dc28, pm28, cd28, ct28, od28, an28, sl28, l28, c28, k28⟩ := fn_look (st := s_is_frame_of) (d.def_ 28 (d := d_28) rfl)
  have a28 := glo_ok X G (d.fact 27 (f := .glo "is_frame_of") rfl)
  obtain ⟨oc29, kV29, dc29, pm29, cd29, ct29, od29, an29, sl29, l29, c29, k29⟩ := fn_look (st := s_is_frame) (d.def_ 29 (d := d_29) rfl)
  have a29 := glo_ok X G (d.fact 28 (f := .glo "is_frame") rfl)
  obtain ⟨oc30, kV30, dc30, pm30, cd30, ct30, od30, an30, sl30, l30, c30, k30⟩ := fn_look (st := s_check_tracks) (d.def_ 30 (d := d_30) rfl)
  have a30 := glo_ok X G (d.fact 29 (f := .glo "check_tracks") rfl)
  obtain ⟨oc31, kV31, dc31, pm31, cd31, ct31, od31, an31, sl31, l31, c31, k31⟩ := fn_look (st := s_side_pairs) (d.def_ 31 (d := d_31) rfl)
  have a31 := glo_ok X G (d.fact 30 (f := .glo "side_pairs") rfl)
  obtain ⟨oc32, kV32, dc32, pm32, cd32, ct32, od32, an32, sl32, l32, c32, k32⟩ := fn_look (st := s_top_loads) (d.def_ 32 (d := d_32) rfl)
  have a32 := glo_ok X G (d.fact 31 (f := .glo "top_loads") rfl)
  obtain ⟨oc33, kV33, dc33, pm33, cd33, ct33, od33, an33, sl33, l33, c33, k33⟩ := fn_look (st := s_greatest_loads) (d.def_ 33 (d := d_33) rfl)
  have a33 := glo_ok X G (d.fact 32 (f := .glo "greatest_loads") rfl)
  obtain ⟨oc34, kV34, dc34, pm34, cd34, ct34, od34, an34, sl34, l34, c34, k34⟩ := fn_look (st := s__law_caught) (d.def_ 34 (d := d_34) rfl)
  have a34 := glo_ok X G (d.fact 33 (f := .glo "_law_caught") rfl)
  obtain ⟨oc35, kV35, dc35, pm35, cd35, ct35, od35, an35, sl35, l35, c35, k35⟩ := fn_look (st := s_law) (d.def_ 35 (d := d_35) rfl)
  have a35 := glo_ok X G (d.fact 34 (f := .glo "law") rfl)
  have e : fa = ga K "law" := Value.ref.inj (Option.some.inj (hfa.symm.trans a35))
  subst e
  obtain ⟨cc0, ecc0⟩ := codeIn_ref c35
  subst ecc0
  obtain ⟨t10, t20, t30⟩ := c.tabs ("law", none) List.mem_cons_self
  have ec0 : (cT K ("law", none)).1 = cc0 := codeOf_eq l35 rfl
  rw [ec0] at t10
  generalize (cT K ("law", none)).2 = tb0 at *
  have T : Txt mg := ⟨free_ok X G (d.fact 35 (f := .free "isinstance") rfl), free_ok X G (d.fact 36 (f := .free "int") rfl), free_ok X G (d.fact 37 (f := .free "bool") rfl), free_ok X G (d.fact 38 (f := .free "tuple") rfl), free_ok X G (d.fact 39 (f := .free "list") rfl), free_ok X G (d.fact 40 (f := .free "len") rfl), free_ok X G (d.fact 41 (f := .free "range") rfl), free_ok X G (d.fact 42 (f := .free "zip") rfl), free_ok X G (d.fact 43 (f := .free "max") rfl), free_ok X G (d.fact 44 (f := .free "min") rfl), free_ok X G (d.fact 45 (f := .free "sum") rfl), free_ok X G (d.fact 46 (f := .free "abs") rfl), free_ok X G (d.fact 47 (f := .free "repr") rfl), free_ok X G (d.fact 48 (f := .free "enumerate") rfl), free_ok X G (d.fact 49 (f := .free "sorted") rfl), free_ok X G (d.fact 50 (f := .free "set") rfl), int_ok X G (d.fact 51 (f := .int "MOST_NUMBER" 99) rfl), int_ok X G (d.fact 52 (f := .int "MOST_SIDES" 5) rfl), int_ok X G (d.fact 53 (f := .int "MOST_TRACKS" 6) rfl), int_ok X G (d.fact 54 (f := .int "MOST_LET" 20000) rfl), int_ok X G (d.fact 55 (f := .int "MOST_FOR_FIVE" 4) rfl), int_ok X G (d.fact 56 (f := .int "WIDTH" 8) rfl), int_ok X G (d.fact 57 (f := .int "GUARD" 128) rfl)⟩
  have BIC : BiC K mg "CallError" (ga K "CallError") := ⟨glo_ok X G (d.fact 60 (f := .glo "CallError") rfl), rd, gaC, fi⟩
  have gM : mg "TooMany" = some (.ref (ga K "TooMany")) := glo_ok X G (d.fact 61 (f := .glo "TooMany") rfl)
  have yM : PySem.W.exmOne K (.ref (ga K "TooMany")) (.ref (ga K "CallError")) = some true := of_decide_eq_true (d.fact 66 (f := .exm "TooMany" "CallError" true) rfl)
  have F0 := fun_mk (st := s_TooMany_init) l0 c0 k0
  have F1 := fun_mk (st := s__law_begun) l1 c1 k1
  have F2 := fun_mk (st := s__law_draw) l2 c2 k2
  have F3 := fun_mk (st := s__law_pick) l3 c3 k3
  have F4 := fun_mk (st := s__law_bent_frame) l4 c4 k4
  have F5 := fun_mk (st := s__law_bent_load) l5 c5 k5
  have F6 := fun_mk (st := s__law_is_whole) l6 c6 k6
  have F7 := fun_mk (st := s__law_is_load) l7 c7 k7
  have F8 := fun_mk (st := s__law_under) l8 c8 k8
  have F9 := fun_mk (st := s__law_tops) l9 c9 k9
  have F10 := fun_mk (st := s__law_is_frame) l10 c10 k10
  have F11 := fun_mk (st := s__law_pairs) l11 c11 k11
  have F12 := fun_mk (st := s__law_sums) l12 c12 k12
  have F13 := fun_mk (st := s__law_let) l13 c13 k13
  have F14 := fun_mk (st := s__law_odd) l14 c14 k14
  have F15 := fun_mk (st := s_is_number) l15 c15 k15
  have F16 := fun_mk (st := s_is_within) l16 c16 k16
  have F17 := fun_mk (st := s_check_sides) l17 c17 k17
  have F18 := fun_mk (st := s_is_tuple_of) l18 c18 k18
  have F19 := fun_mk (st := s_many_pairs) l19 c19 k19
  have F20 := fun_mk (st := s_is_load_of) l20 c20 k20
  have F21 := fun_mk (st := s_is_load) l21 c21 k21
  have F22 := fun_mk (st := s_rises) l22 c22 k22
  have F23 := fun_mk (st := s_packed) l23 c23 k23
  have F24 := fun_mk (st := s_first_over) l24 c24 k24
  have F25 := fun_mk (st := s_lanes) l25 c25 k25
  have F26 := fun_mk (st := s_guards) l26 c26 k26
  have F27 := fun_mk (st := s_are_apart) l27 c27 k27
  have F28 := fun_mk (st := s_is_frame_of) l28 c28 k28
  have F29 := fun_mk (st := s_is_frame) l29 c29 k29
  have F30 := fun_mk (st := s_check_tracks) l30 c30 k30
  have F31 := fun_mk (st := s_side_pairs) l31 c31 k31
  have F32 := fun_mk (st := s_top_loads) l32 c32 k32
  have F33 := fun_mk (st := s_greatest_loads) l33 c33 k33
  have FC35 : FunC K "law" "law" s_law _ _ cc0 := ⟨_, _, _, _, _, _, _, _, rfl, l35, c35⟩
  have CAF : CauF K mg "_law_caught" (ga K "CallError") := by
    have bb : L2.Binds K (PySem.W.fnOf "_law_caught" "_law_caught" (defArgs s__law_caught) (defBody s__law_caught) (defScope s__law_caught) .none kV34 dc34 pm34 an34 cd34 ct34) ["work"] [] := .all fun us hl => match us, hl with | [_], _ => rfl
    exact ⟨_, oc34, od34, an34, sl34, defScope s__law_caught, defArgs s__law_caught, .none, kV34, dc34, pm34, cd34, ct34, _, _, _, _, _, _, _, _, _, _, _, _, _, _, _, a34, k34, l34, c34, bb,
      ⟨rfl, rfl, rfl, by decide +kernel, rfl, by decide +kernel, by decide +kernel⟩, by decide +kernel, glo_ok X G (d.fact 60 (f := .glo "CallError") rfl), by decide +kernel, by decide +kernel, by decide +kernel⟩
  refine ⟨PySem.W.fnOf "law" "law" (defArgs s_law) (defBody s_law) (defScope s_law) .none kV35 dc35 pm35 an35 (.ref cc0) ct35, [(cc0, tb0)], tb0, ⟨_, List.mem_cons_self, rfl⟩, ?_, ?_, ?_, fun s v => .of_eq rfl, fun base _ _ TBs => ?_⟩
  · intro p hp
    rcases List.mem_cons.mp hp with rfl | hp
    · exact t30
    · cases hp
  · intro p hp
    rcases List.mem_cons.mp hp with rfl | hp
    · exact t20
    · cases hp
  · intro p hp
    rcases List.mem_cons.mp hp with rfl | hp
    · exact PySem.W.codeHd_of_K X t10
    · cases hp
  have TB0 : TabB base mg cc0 tb0 := TBs _ List.mem_cons_self
  have TMC : TmC l.prog w K mg base (ga K "TooMany") := ⟨gM, oxM, xfM, nM, _, _, iM, tM, ok_TooMany_init F0 BIC, F0.binds (ps := ["self", "most"]) fun _ _ _ _ _ _ us hl => match us, hl with | [_, _], _ => rfl⟩
  have D1 : DF l.prog w K mg base "_law_begun" 1 ["script"] (spBegun K) := ⟨⟨_, _, ok__law_begun F1 T, a1, k1, F1.binds (ps := ["script"]) fun _ _ _ _ _ _ us hl => match us, hl with | [_], _ => rfl⟩⟩
  have D2 : DF l.prog w K mg base "_law_draw" 1 ["state", "size_here"] (spDraw K) := ⟨⟨_, _, ok__law_draw F2 T, a2, k2, F2.binds (ps := ["state", "size_here"]) fun _ _ _ _ _ _ us hl => match us, hl with | [_, _], _ => rfl⟩⟩
  have D3 : DF l.prog w K mg base "_law_pick" 2 ["state", "several"] (spPick K) := ⟨⟨_, _, ok__law_pick F3 T D2, a3, k3, F3.binds (ps := ["state", "several"]) fun _ _ _ _ _ _ us hl => match us, hl with | [_, _], _ => rfl⟩⟩
  have D4 : DF l.prog w K mg base "_law_bent_frame" 3 ["state", "tops", "load"] (spBentF K) := ⟨⟨_, _, ok__law_bent_frame F4 T D3, a4, k4, F4.binds (ps := ["state", "tops", "load"]) fun _ _ _ _ _ _ us hl => match us, hl with | [_, _, _], _ => rfl⟩⟩
  have D5 : DF l.prog w K mg base "_law_bent_load" 3 ["state", "load"] (spBentL K) := ⟨⟨_, _, ok__law_bent_load F5 T D2 D3, a5, k5, F5.binds (ps := ["state", "load"]) fun _ _ _ _ _ _ us hl => match us, hl with | [_, _], _ => rfl⟩⟩
  have D6 : DF l.prog w K mg base "_law_is_whole" 1 ["item"] (spD K 1 R_law_is_whole) := ⟨⟨_, _, ok__law_is_whole F6 T, a6, k6, F6.binds (ps := ["item"]) fun _ _ _ _ _ _ us hl => match us, hl with | [_], _ => rfl⟩⟩
  have D7 : DF l.prog w K mg base "_law_is_load" 2 ["sides_here", "item"] (spJ K Any ldOk) := ⟨⟨_, _, ok__law_is_loadJ F7 T D6, a7, k7, F7.binds (ps := ["sides_here", "item"]) fun _ _ _ _ _ _ us hl => match us, hl with | [_, _], _ => rfl⟩⟩
  have D8 : DF l.prog w K mg base "_law_under" 1 ["load", "other"] (spD K 2 R_law_under) := ⟨⟨_, _, ok__law_under F8 T, a8, k8, F8.binds (ps := ["load", "other"]) fun _ _ _ _ _ _ us hl => match us, hl with | [_, _], _ => rfl⟩⟩
  have D9 : DF l.prog w K mg base "_law_tops" 2 ["loads_here"] (spN K 1 R_law_tops) := ⟨⟨_, _, ok__law_tops F9 T D8, a9, k9, F9.binds (ps := ["loads_here"]) fun _ _ _ _ _ _ us hl => match us, hl with | [_], _ => rfl⟩⟩
  have D10 : DF l.prog w K mg base "_law_is_frame" 3 ["sides_here", "item"] (spJ K frS frB) := ⟨⟨_, _, ok__law_is_frameJ F10 T D7 D9, a10, k10, F10.binds (ps := ["sides_here", "item"]) fun _ _ _ _ _ _ us hl => match us, hl with | [_, _], _ => rfl⟩⟩
  have D11 : DF l.prog w K mg base "_law_pairs" 1 ["sides_here"] (spN K 1 R_law_pairs) := ⟨⟨_, _, ok__law_pairs F11 T, a11, k11, F11.binds (ps := ["sides_here"]) fun _ _ _ _ _ _ us hl => match us, hl with | [_], _ => rfl⟩⟩
  have D12 : DF l.prog w K mg base "_law_sums" 2 ["sides_here", "load"] (spN K 2 R_law_sums) := ⟨⟨_, _, ok__law_sums F12 T D11, a12, k12, F12.binds (ps := ["sides_here", "load"]) fun _ _ _ _ _ _ us hl => match us, hl with | [_, _], _ => rfl⟩⟩
  have D13 : DF l.prog w K mg base "_law_let" 3 ["sides_here", "many"] (spN K 2 R_law_let) := ⟨⟨_, _, ok__law_let F13 T D12, a13, k13, F13.binds (ps := ["sides_here", "many"]) fun _ _ _ _ _ _ us hl => match us, hl with | [_, _], _ => rfl⟩⟩
  have D14 : DF l.prog w K mg base "_law_odd" 3 ["state"] (spOdd K) := ⟨⟨_, _, ok__law_odd F14 T D3, a14, k14, F14.binds (ps := ["state"]) fun _ _ _ _ _ _ us hl => match us, hl with | [_], _ => rfl⟩⟩
  have D15 : DF l.prog w K mg base "is_number" 1 ["thing"] (spD K 1 R_is_number) := ⟨⟨_, _, ok_is_number F15 T, a15, k15, F15.binds (ps := ["thing"]) fun _ _ _ _ _ _ us hl => match us, hl with | [_], _ => rfl⟩⟩
  have D16 : DF l.prog w K mg base "is_within" 2 ["thing", "low", "high"] (spD K 3 R_is_within) := ⟨⟨_, _, ok_is_within F16 T D15, a16, k16, F16.binds (ps := ["thing", "low", "high"]) fun _ _ _ _ _ _ us hl => match us, hl with | [_, _, _], _ => rfl⟩⟩
  have D17 : DFX l.prog w K mg base "check_sides" 3 ["sides", "most"] (spR K 2 R_check_sides (B_check_sides (ga K "BadSides"))) := ⟨⟨_, _, ok_check_sides F17 T D16 GB, a17, k17, F17.binds (ps := ["sides", "most"]) fun _ _ _ _ _ _ us hl => match us, hl with | [_, _], _ => rfl⟩⟩
  have D18 : DF l.prog w K mg base "is_tuple_of" 1 ["thing", "many"] (spD K 2 R_is_tuple_of) := ⟨⟨_, _, ok_is_tuple_of F18 T, a18, k18, F18.binds (ps := ["thing", "many"]) fun _ _ _ _ _ _ us hl => match us, hl with | [_, _], _ => rfl⟩⟩
  have DTd : DF l.prog w K mg base "is_tuple_of" 1 ["thing", "many"] spTd := ⟨⟨_, _, ok_is_tuple_ofX F18 T, a18, k18, F18.binds (ps := ["thing", "many"]) fun _ _ _ _ _ _ us hl => match us, hl with | [_, _], _ => rfl⟩⟩
  have D19 : DF l.prog w K mg base "many_pairs" 1 ["sides"] (spD K 1 R_many_pairs) := ⟨⟨_, _, ok_many_pairs F19 T, a19, k19, F19.binds (ps := ["sides"]) fun _ _ _ _ _ _ us hl => match us, hl with | [_], _ => rfl⟩⟩
  have D20 : DF l.prog w K mg base "is_load_of" 2 ["sides", "thing"] (spJ K Any ldOk) := ⟨⟨_, _, ok_is_load_ofJ F20 T D18 DTd D19, a20, k20, F20.binds (ps := ["sides", "thing"]) fun _ _ _ _ _ _ us hl => match us, hl with | [_, _], _ => rfl⟩⟩
  have D21 : DFX l.prog w K mg base "is_load" 4 ["sides", "thing"] (spE K (ga K "BadSides") Any ldOk) := ⟨⟨_, _, ok_is_load F21 T D17 D20, a21, k21, F21.binds (ps := ["sides", "thing"]) fun _ _ _ _ _ _ us hl => match us, hl with | [_, _], _ => rfl⟩⟩
  have K21 : DFK l.prog w K mg base (L2.CX l.prog w) "is_load" 4 ["sides", "thing"] (spE K (ga K "BadSides") Any ldOk) := ⟨⟨_, _, ok_is_load F21 T D17 D20, a21, k21, DL.Fun.kwr F21 (ps := ["sides", "thing"]) fun _ _ _ _ _ _ ws hl => match ws, hl with | [_, _], _ => rfl⟩⟩
  have D22 : DF l.prog w K mg base "rises" 1 ["row"] (spD K 1 R_rises) := ⟨⟨_, _, ok_rises F22 T, a22, k22, F22.binds (ps := ["row"]) fun _ _ _ _ _ _ us hl => match us, hl with | [_], _ => rfl⟩⟩
  have D23 : DF l.prog w K mg base "packed" 1 ["load"] (spD K 1 R_packed) := ⟨⟨_, _, ok_packed F23 T, a23, k23, F23.binds (ps := ["load"]) fun _ _ _ _ _ _ us hl => match us, hl with | [_], _ => rfl⟩⟩
  have D24 : DF l.prog w K mg base "first_over" 1 ["tops", "pack", "guard"] (spD K 3 R_first_over) := ⟨⟨_, _, ok_first_over F24 T, a24, k24, F24.binds (ps := ["tops", "pack", "guard"]) fun _ _ _ _ _ _ us hl => match us, hl with | [_, _, _], _ => rfl⟩⟩
  have D25 : DF l.prog w K mg base "lanes" 1 ["many", "width", "number"] (spD K 3 R_lanes) := ⟨⟨_, _, ok_lanes F25 T, a25, k25, F25.binds (ps := ["many", "width", "number"]) fun _ _ _ _ _ _ us hl => match us, hl with | [_, _, _], _ => rfl⟩⟩
  have D26 : DF l.prog w K mg base "guards" 2 ["many"] (spD K 1 R_guards) := ⟨⟨_, _, ok_guards F26 T D25, a26, k26, F26.binds (ps := ["many"]) fun _ _ _ _ _ _ us hl => match us, hl with | [_], _ => rfl⟩⟩
  have D27 : DF l.prog w K mg base "are_apart" 3 ["loads"] (spD K 1 R_are_apart) := ⟨⟨_, _, ok_are_apart F27 T D23 D24 D26, a27, k27, F27.binds (ps := ["loads"]) fun _ _ _ _ _ _ us hl => match us, hl with | [_], _ => rfl⟩⟩
  have D28 : DF l.prog w K mg base "is_frame_of" 4 ["sides", "thing"] (spJ K small frB) := ⟨⟨_, _, ok_is_frame_ofJ F28 T D20 D22 D27, a28, k28, F28.binds (ps := ["sides", "thing"]) fun _ _ _ _ _ _ us hl => match us, hl with | [_, _], _ => rfl⟩⟩
  have D29 : DFX l.prog w K mg base "is_frame" 5 ["sides", "thing"] (spE K (ga K "BadSides") small frB) := ⟨⟨_, _, ok_is_frame F29 T D17 D28, a29, k29, F29.binds (ps := ["sides", "thing"]) fun _ _ _ _ _ _ us hl => match us, hl with | [_, _], _ => rfl⟩⟩
  have K29 : DFK l.prog w K mg base (L2.CX l.prog w) "is_frame" 5 ["sides", "thing"] (spE K (ga K "BadSides") small frB) := ⟨⟨_, _, ok_is_frame F29 T D17 D28, a29, k29, DL.Fun.kwr F29 (ps := ["sides", "thing"]) fun _ _ _ _ _ _ ws hl => match ws, hl with | [_, _], _ => rfl⟩⟩
  have D30 : DFX l.prog w K mg base "check_tracks" 3 ["tracks", "least"] (spR K 2 R_check_tracks0 (B_check_tracks0 (ga K "BadTracks"))) := ⟨⟨_, _, ok_check_tracks F30 T D16 GT, a30, k30, F30.binds (ps := ["tracks", "least"]) fun _ _ _ _ _ _ us hl => match us, hl with | [_, _], _ => rfl⟩⟩
  have D31 : DF l.prog w K mg base "side_pairs" 1 ["sides"] (spN K 1 R_side_pairs) := ⟨⟨_, _, ok_side_pairs F31 T, a31, k31, F31.binds (ps := ["sides"]) fun _ _ _ _ _ _ us hl => match us, hl with | [_], _ => rfl⟩⟩
  have D32 : DF l.prog w K mg base "top_loads" 2 ["sides", "tracks"] (spN K 2 R_top_loads) := ⟨⟨_, _, ok_top_loads F32 T D31, a32, k32, F32.binds (ps := ["sides", "tracks"]) fun _ _ _ _ _ _ us hl => match us, hl with | [_, _], _ => rfl⟩⟩
  have D33 : DFX l.prog w K mg base "greatest_loads" 4 ["sides", "tracks"] (spGL K (ga K "BadSides") (ga K "BadTracks") (ga K "TooMany")) := ⟨⟨_, _, ok_greatest_loads F33 T D17 D30 D32 TMC, a33, k33, F33.binds (ps := ["sides", "tracks"]) fun _ _ _ _ _ _ us hl => match us, hl with | [_, _], _ => rfl⟩⟩
  have K33 : DFK l.prog w K mg base (L2.CX l.prog w) "greatest_loads" 4 ["sides", "tracks"] (spGL K (ga K "BadSides") (ga K "BadTracks") (ga K "TooMany")) := ⟨⟨_, _, ok_greatest_loads F33 T D17 D30 D32 TMC, a33, k33, DL.Fun.kwr F33 (ps := ["sides", "tracks"]) fun _ _ _ _ _ _ ws hl => match ws, hl with | [_, _], _ => rfl⟩⟩
  exact ok_law FC35 T TB0 CAF GB GT TMC yB yT yM iB iT iMM EB ET EM D1 D4 D5 D2 D10 D7 D13 D14 D11 D3 D12 D9 D21 K21 D29 K29 D33 K33
theorem cx_out {P : Program} {w : World} {H : Hp} {s s' : Shared} {e : Value} (h : L2.CX P w [] H s (fun _ _ _ => False) e s') : False := by
  obtain ⟨_, _, _, _, _, _, _, _, _, _, _, _, z⟩ := h
  exact z
end K16
set_option Elab.async false
set_option maxRecDepth 100000
open PySem PySem.W PyProof.Rows in
set_option maxRecDepth 100000 in
set_option maxHeartbeats 0 in
theorem PySem.Challenge.cw_allcalls_k03_loads_and_frames_judged_holds : PySem.Challenge.rw_allcalls_k03_loads_and_frames_judged.Holds := by
  w_on; o_law
  refine HandSHeadRun.head_any (r := OpenLaw.row PySem.Challenge.rw_allcalls_k03_loads_and_frames_judged) (q := K16.vq) (H := DL.hookY 5 K16.faL K16.fnL K16.tfL K16.exA) (ob := DL.seeY 5 K16.faL K16.fnL K16.tfL K16.exA) (M := 24000) (loose := K16.nameL) (d := HandSHeadRun.topDef (OpenLaw.row PySem.Challenge.rw_allcalls_k03_loads_and_frames_judged).prog 52) (kwd := []) DL.seeY_eq
    (by kernel_rfl) (fun s => by kernel_rfl) K16.run (by kernel_rfl) (by kernel_rfl) (by kernel_rfl) (by rfl) (by first | assumption | decide +kernel) (by decide +kernel) ⟨rfl, rfl, rfl, rfl, rfl, by decide +kernel⟩ ?hw ?hc
  case hw => w_witness2
  case hc =>
    refine DL.walkTsE (l := PySem.Challenge.rw_allcalls_k03_loads_and_frames_judged) (n := 63) (k := 8) (x := "script") (CX := fun w => L2.CX PySem.Challenge.rw_allcalls_k03_loads_and_frames_judged.prog w) rfl (by decide) (by kernel_rfl) ⟨rfl, by decide, by decide⟩ ?F (fun _ _ _ _ _ z => K16.cx_out z)
    intro w mg fa h Y G hmg0
    obtain ⟨K, KX, c⟩ := Y
    have hmg : mg ("law" : PySem.Str) = some (.ref fa) := by
      have e : (HandSHeadRun.topDef (OpenLaw.row PySem.Challenge.rw_allcalls_k03_loads_and_frames_judged).prog 52).name = ("law" : PySem.Str) := by kernel_rfl
      rw [← e]
      exact hmg0
    obtain ⟨fd, Ts, tl, ⟨p1, m1, e1⟩, t1, t2, t3, hb, hF⟩ := K16.facts_law (l := PySem.Challenge.rw_allcalls_k03_loads_and_frames_judged) KX G hmg c
    exact ⟨K, fd, Ts, K16.spLaw K tl, KX, t1, t2, t3, hb, fun H a ns hl hT hS => ⟨a, ns, rfl, hS, hl, e1 ▸ hT p1 m1, fun _ => rfl⟩, hF⟩
