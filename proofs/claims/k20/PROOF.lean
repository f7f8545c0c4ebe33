import PyProof.Rows.All
import Wide.All
import OpenK.AllK
import Wide.FinOn
import HandS.Evl
import HandS.Iter
import HandS.Conv
import KE.GoesMore
import HandS.Zip
import HandS.Walk
import HandS.TupAny
import HandS.TupMul
import HandS.IsInst
import HandS.Dict
import HandS.Wide
import HandS.Style
import HandS.Words
import HandS.Exc
import HandS.ExcIs
import HandS.ExcOwn
import HandS.TryOnly
import HandS.WordsExc
import HandS.Lambda
import HandS.FStr
import HandS.RaiseMore
import PyProof.ReprRoads
import HandS.Ends
import HandS.EndTab
import HandS.Defaults
import HandS.Finally
import KE.KDictCopyH
import HandS.DictComp
import HandS.DictSubView
import HandS.DeepEq
import PyProof.ReprLen
import HandS.Head2
import HandS.HeadEnd
import HandS.HeadHook4
import PySem.Challenge.RW_allcalls_k20_whole_tracks_that_are_neede
set_option Elab.async false
set_option linter.all false
set_option maxRecDepth 100000
set_option maxHeartbeats 2000000
/-! data behind values: what an expression evaluates to, told as data -/
namespace DL
open PySem PySem.Spec PyProof.Rows L2 Evl

section
variable {K : PySem.W.Frag} {H H' : Hp}
mutual
theorem dp_ex (e : Ex H H') : ∀ (d : PyData) (v : V), Dp K H v d → Dp K H' v d
  | .none, _, h => by cases h; exact .non
  | .bool b, _, h => by cases h; exact .bl b
  | .int i, _, h => by cases h; exact .int i
  | .str x, _, h => by cases h; exact .str x
  | .list ds, _, h => by
    cases h with
    | lst hs ha => exact .lst (ex_l e hs) (dpa_ex e ds _ ha)
  | .tuple ds, _, h => by
    cases h with
    | tup hs ha => exact .tup (ex_t e hs) (dpa_ex e ds _ ha)
  | .dict _, _, h => by cases h
theorem dpa_ex (e : Ex H H') : ∀ (ds : List PyData) (vs : List V), DpAll K H vs ds → DpAll K H' vs ds
  | [], _, h => by cases h; exact .nil
  | d :: ds, _, h => by
    cases h with
    | cons h1 h2 => exact .cons (dp_ex e d _ h1) (dpa_ex e ds _ h2)
end
theorem dpa_len : ∀ {vs : List V} {ds : List PyData}, DpAll K H vs ds → vs.length = ds.length
  | _, _, .nil => rfl
  | _, _, .cons _ t => congrArg (· + 1) (dpa_len t)
theorem dpa_get : ∀ {vs : List V} {ds : List PyData} {i : Nat} {d : PyData}, DpAll K H vs ds → ds[i]? = some d → ∃ v, vs[i]? = some v ∧ Dp K H v d
  | _, _, _, _, .nil, e => by simp at e
  | _, _, 0, _, .cons h _, e => ⟨_, rfl, by simp at e; subst e; exact h⟩
  | _, _, i + 1, _, .cons _ t, e => by
    obtain ⟨v, h1, h2⟩ := dpa_get (i := i) t (by simpa using e)
    exact ⟨v, by simpa using h1, h2⟩
theorem dpa_getV : ∀ {vs : List V} {ds : List PyData} {i : Nat} {v : V}, DpAll K H vs ds → vs[i]? = some v → ∃ d, ds[i]? = some d ∧ Dp K H v d
  | _, _, _, _, .nil, e => by simp at e
  | _, _, 0, _, .cons h _, e => ⟨_, rfl, by simp at e; subst e; exact h⟩
  | _, _, i + 1, _, .cons _ t, e => by
    obtain ⟨v, h1, h2⟩ := dpa_getV (i := i) t (by simpa using e)
    exact ⟨v, by simpa using h1, h2⟩
theorem dpa_app : ∀ {vs ws : List V} {ds es : List PyData}, DpAll K H vs ds → DpAll K H ws es → DpAll K H (vs ++ ws) (ds ++ es)
  | _, _, _, _, .nil, h => h
  | _, _, _, _, .cons a t, h => .cons a (dpa_app t h)
theorem dpa_drop : ∀ {vs : List V} {ds : List PyData} (n : Nat), DpAll K H vs ds → DpAll K H (vs.drop n) (ds.drop n)
  | _, _, 0, h => h
  | _, _, _ + 1, .nil => .nil
  | _, _, n + 1, .cons _ t => dpa_drop n t
theorem dpa_take : ∀ {vs : List V} {ds : List PyData} (n : Nat), DpAll K H vs ds → DpAll K H (vs.take n) (ds.take n)
  | _, _, 0, _ => .nil
  | _, _, _ + 1, .nil => .nil
  | _, _, n + 1, .cons a t => .cons a (dpa_take n t)
theorem dpa_set : ∀ {vs : List V} {ds : List PyData} {v : V} {d : PyData} (n : Nat), DpAll K H vs ds → Dp K H v d → DpAll K H (vs.set n v) (ds.set n d)
  | _, _, _, _, _, .nil, _ => .nil
  | _, _, _, _, 0, .cons _ t, h => .cons h t
  | _, _, _, _, n + 1, .cons a t, h => .cons a (dpa_set n t h)
theorem dpa_rep {v : V} {d : PyData} (h : Dp K H v d) : ∀ n, DpAll K H (List.replicate n v) (List.replicate n d)
  | 0 => .nil
  | n + 1 => .cons h (dpa_rep h n)
theorem dpa_rev : ∀ {vs : List V} {ds : List PyData}, DpAll K H vs ds → DpAll K H vs.reverse ds.reverse
  | _, _, .nil => .nil
  | _, _, .cons a t => by
    rw [List.reverse_cons, List.reverse_cons]
    exact dpa_app (dpa_rev t) (.cons a .nil)
/-- ints as data -/
abbrev dI (l : List Int) : List PyData := l.map PyData.int
abbrev tI (l : List Int) : PyData := .tuple (dI l)
theorem dpa_ints : ∀ {l : List Int} {vs : List V}, DpAll K H vs (dI l) → vs = l.map V.int
  | [], _, .nil => rfl
  | i :: l, _, .cons h t => by
    cases h
    rw [dpa_ints t]
    rfl
theorem ints_dpa : ∀ (l : List Int), DpAll K H (l.map V.int) (dI l)
  | [] => .nil
  | i :: l => .cons (.int i) (ints_dpa l)
theorem dp_tI {v : V} {l : List Int} (h : Dp K H v (tI l)) : ∃ a, v = .ref a ∧ SqT K H a (l.map V.int) := by
  cases h with
  | tup hs ha =>
    rw [dpa_ints ha] at hs
    exact ⟨_, rfl, hs⟩
theorem tI_dp {a : Addr} {l : List Int} (h : SqT K H a (l.map V.int)) : Dp K H (.ref a) (tI l) := .tup h (ints_dpa l)
theorem dp_int {v : V} {i : Int} (h : Dp K H v (.int i)) : v = .int i := by
  cases h; rfl
theorem dp_bool {v : V} {i : Bool} (h : Dp K H v (.bool i)) : v = .bl i := by
  cases h; rfl
theorem dp_none {v : V} (h : Dp K H v .none) : v = .non := by
  cases h; rfl
theorem dp_str {v : V} {s : Str} (h : Dp K H v (.str s)) : v = .str s := by
  cases h; rfl

/-! ### evaluation to data -/
def EvD (K : PySem.W.Frag) (te : TE) (σ : L2.St) (H : Hp) (d : PyData) : Prop := ∀ H1, Ex H H1 → ∀ Q : VK, (∀ v H2, Ex H1 H2 → Dp K H2 v d → Q v H2) → te σ H1 Q
/-- a new list -/
def EvN (K : PySem.W.Frag) (te : TE) (σ : L2.St) (H : Hp) (ds : List PyData) : Prop := ∀ H1, Ex H H1 → ∀ Q : VK, (∀ p vs H2, H1 p = none → Ex H1 H2 → H2 p = some (.lst vs) → DpAll K H2 vs ds → Q (.ref p) H2) → te σ H1 Q
def EvDA (K : PySem.W.Frag) (ta : TA) (σ : L2.St) (H : Hp) (ds : List PyData) : Prop := ∀ H1, Ex H H1 → ∀ Q : List V → Hp → Prop, (∀ vs H2, Ex H1 H2 → DpAll K H2 vs ds → Q vs H2) → ta σ H1 Q
variable {σ : L2.St} {ta tb te : TE} {t u : TT} {d : PyData} {ds : List PyData} {v : V} {i j : Int}
theorem EvD.ex (e : Ex H H') (h : EvD K te σ H d) : EvD K te σ H' d := fun H1 a Q q => h H1 (e.trans a) Q q
theorem EvN.ex (e : Ex H H') (h : EvN K te σ H ds) : EvN K te σ H' ds := fun H1 a Q q => h H1 (e.trans a) Q q
theorem EvDA.ex {ta : TA} (e : Ex H H') (h : EvDA K ta σ H ds) : EvDA K ta σ H' ds := fun H1 a Q q => h H1 (e.trans a) Q q
theorem EvN.toD (h : EvN K te σ H ds) : EvD K te σ H (.list ds) := fun H1 a Q q => h H1 a Q fun p vs H2 _ e2 hp hd => q _ H2 e2 (.lst (sq_of hp) hd)
theorem EvD.int (h : EvD K te σ H (.int i)) : Ev te σ H (.int i) := fun H1 a Q q => h H1 a Q fun v H2 e2 hd => by
  rw [dp_int hd]
  exact q H2 e2
theorem EvD.bool {b : Bool} (h : EvD K te σ H (.bool b)) : Ev te σ H (.bl b) := fun H1 a Q q => h H1 a Q fun v H2 e2 hd => by
  rw [dp_bool hd]
  exact q H2 e2
theorem EvD.non (h : EvD K te σ H .none) : Ev te σ H .non := fun H1 a Q q => h H1 a Q fun v H2 e2 hd => by
  rw [dp_none hd]
  exact q H2 e2
theorem ev_d (h : Ev te σ H v) (hd : Dp K H v d) : EvD K te σ H d := fun H1 a Q q => h H1 a Q fun H2 e2 => q v H2 e2 (dp_ex (a.trans e2) d v hd)
theorem ed_int (h : Ev te σ H (.int i)) : EvD K te σ H (.int i) := ev_d h (.int i)
theorem ed_bool {b : Bool} (h : Ev te σ H (.bl b)) : EvD K te σ H (.bool b) := ev_d h (.bl b)
theorem ed_str {b : Str} (h : Ev te σ H (.str b)) : EvD K te σ H (.str b) := ev_d h (.str b)
theorem ed_var {k : Nat} (h : σ[k]? = some (some v)) (hd : Dp K H v d) : EvD K (tVar k) σ H d := ev_d (ev_var h) hd
theorem ed_is {d' : PyData} (h : EvD K te σ H d) (e : d = d') : EvD K te σ H d' := e ▸ h
theorem en_is {ds' : List PyData} (h : EvN K te σ H ds) (e : ds = ds') : EvN K te σ H ds' := e ▸ h
theorem eda_nil : EvDA K tNil σ H [] := fun H1 _ _ q => q [] H1 (Ex.refl H1) .nil
theorem eda_cons {tr : TA} (h : EvD K te σ H d) (hr : EvDA K tr σ H ds) : EvDA K (tCons te tr) σ H (d :: ds) := fun H1 e _ q =>
  h H1 e _ fun v H2 e2 hd => hr H2 (e.trans e2) _ fun vs H3 e3 hv => q (v :: vs) H3 (e2.trans e3) (.cons (dp_ex e3 _ _ hd) hv)
theorem ed_tup {ta : TA} (h : EvDA K ta σ H ds) (hl : ds.length ≤ 100000) : EvD K (tTup ta) σ H (.tuple ds) := fun H1 e _ q =>
  h H1 e _ fun vs H2 e2 hv => ⟨sz_of (by rw [dpa_len hv]; exact hl), fun p hp => q (.ref p) _ (e2.trans (Ex.new hp)) (.tup (st_of upd_same) (dpa_ex (Ex.new hp) _ _ hv))⟩
theorem en_lst {ta : TA} (h : EvDA K ta σ H ds) (hl : ds.length ≤ 100000) : EvN K (tLst ta) σ H ds := fun H1 e _ q =>
  h H1 e _ fun vs H2 e2 hv => ⟨sz_of (by rw [dpa_len hv]; exact hl), fun p hp => q p vs _ (fresh_back e2 hp) (e2.trans (Ex.new hp)) upd_same (dpa_ex (Ex.new hp) _ _ hv)⟩
/-- t[i] -/
theorem ed_ixT {k : Nat} (h : EvD K ta σ H (.tuple ds)) (hi : Ev tb σ H (.int (k : Int))) (hk : ds[k]? = some d) : EvD K (tOp (rIxT K) ta tb) σ H d := fun H1 e Q q =>
  h H1 e _ fun w H2 e2 hw => hi H2 (e.trans e2) _ fun H3 e3 => by
    cases hw with
    | tup hs ha =>
      obtain ⟨y, hy, dy⟩ := dpa_get ha hk
      exact ⟨_, _, (k : Int), y, rfl, rfl, ex_t e3 hs, atI_nat hy, q y H3 (e2.trans e3) (dp_ex e3 _ _ dy)⟩
theorem ed_ixL {k : Nat} (h : EvD K ta σ H (.list ds)) (hi : Ev tb σ H (.int (k : Int))) (hk : ds[k]? = some d) : EvD K (tOp (rIxL K) ta tb) σ H d := fun H1 e Q q =>
  h H1 e _ fun w H2 e2 hw => hi H2 (e.trans e2) _ fun H3 e3 => by
    cases hw with
    | lst hs ha =>
      obtain ⟨y, hy, dy⟩ := dpa_get ha hk
      exact ⟨_, _, (k : Int), y, rfl, rfl, ex_l e3 hs, atI_nat hy, q y H3 (e2.trans e3) (dp_ex e3 _ _ dy)⟩
/-- len -/
theorem ev_lenT (h : EvD K te σ H (.tuple ds)) : Ev (tCB (fun xs H Q => ∃ p ys, xs = [.ref p] ∧ (SqL K H p ys ∨ SqT K H p ys) ∧ Q (.int ys.length) H) (tCons te tNil)) σ H (.int (ds.length : Int)) := fun H1 e Q q =>
  h H1 e _ fun w H2 e2 hw => by
    cases hw with
    | tup hs ha =>
      refine ⟨_, _, rfl, .inr hs, ?_⟩
      rw [dpa_len ha]
      exact q H2 e2
theorem ev_lenL (h : EvD K te σ H (.list ds)) : Ev (tCB (fun xs H Q => ∃ p ys, xs = [.ref p] ∧ (SqL K H p ys ∨ SqT K H p ys) ∧ Q (.int ys.length) H) (tCons te tNil)) σ H (.int (ds.length : Int)) := fun H1 e Q q =>
  h H1 e _ fun w H2 e2 hw => by
    cases hw with
    | lst hs ha =>
      refine ⟨_, _, rfl, .inl hs, ?_⟩
      rw [dpa_len ha]
      exact q H2 e2
/-- the promises: data in, data out; data in, a new list out -/
def spD (K : PySem.W.Frag) (n : Nat) (R : List PyData → PyData → Prop) : Sp := fun vs H Q _ => ∃ ds r, DpAll K H vs ds ∧ ds.length = n ∧ R ds r ∧ ∀ v H', Ex H H' → Dp K H' v r → Q v H'
def spN (K : PySem.W.Frag) (n : Nat) (R : List PyData → List PyData → Prop) : Sp := fun vs H Q _ => ∃ ds r, DpAll K H vs ds ∧ ds.length = n ∧ R ds r ∧ ∀ p ws H', H p = none → Ex H H' → H' p = some (.lst ws) → DpAll K H' ws r → Q (.ref p) H'
theorem spD_len {n : Nat} {R : List PyData → PyData → Prop} {vs : List V} {Q : VK} {E : XK} (h : spD K n R vs H Q E) : vs.length = n := by
  obtain ⟨ds, r, h1, h2, _⟩ := h
  rw [dpa_len h1, h2]
theorem spN_len {n : Nat} {R : List PyData → List PyData → Prop} {vs : List V} {Q : VK} {E : XK} (h : spN K n R vs H Q E) : vs.length = n := by
  obtain ⟨ds, r, h1, h2, _⟩ := h
  rw [dpa_len h1, h2]
theorem ed_call {n : Nat} {R : List PyData → PyData → Prop} {E : XK} {ta : TA} (h : EvDA K ta σ H ds) (hl : ds.length = n) (hr : R ds d) : EvD K (tCall (spD K n R) [] E ta) σ H d := fun H1 e Q q =>
  h H1 e _ fun vs H2 e2 hv => ⟨ds, d, by rw [List.append_nil]; exact hv, hl, hr, fun v H3 e3 hd => q v H3 (e2.trans e3) hd⟩
theorem en_call {n : Nat} {R : List PyData → List PyData → Prop} {r : List PyData} {E : XK} {ta : TA} (h : EvDA K ta σ H ds) (hl : ds.length = n) (hr : R ds r) : EvN K (tCall (spN K n R) [] E ta) σ H r := fun H1 e Q q =>
  h H1 e _ fun vs H2 e2 hv => ⟨ds, r, by rw [List.append_nil]; exact hv, hl, hr, fun p ws H3 hp e3 h3 hd => q p ws H3 (fresh_back e2 hp) (e2.trans e3) h3 hd⟩
/-! ### statements -/
variable {D : Ends} {tu tw tz : TS} {g : TG}
theorem d_asg {k : Nat} (h : EvD K te σ H d) (q : ∀ v H1, Ex H H1 → Dp K H1 v d → D.nx (σ.set k (some v)) H1) : tAsg te (gName k) D σ H := h H (Ex.refl H) _ q
theorem n_asg {k : Nat} (h : EvN K te σ H ds) (q : ∀ p vs H1, H p = none → Ex H H1 → H1 p = some (.lst vs) → DpAll K H1 vs ds → D.nx (σ.set k (some (.ref p))) H1) : tAsg te (gName k) D σ H := h H (Ex.refl H) _ q
theorem d_ret (h : EvD K te σ H d) (q : ∀ v H1, Ex H H1 → Dp K H1 v d → D.rt v H1) : tRet te D σ H := h H (Ex.refl H) _ q
theorem n_ret (h : EvN K te σ H ds) (q : ∀ p vs H1, H p = none → Ex H H1 → H1 p = some (.lst vs) → DpAll K H1 vs ds → D.rt (.ref p) H1) : tRet te D σ H := h H (Ex.refl H) _ q
theorem d_drop (h : EvD K te σ H d) (q : ∀ H1, Ex H H1 → D.nx σ H1) : tDrop te D σ H := h H (Ex.refl H) _ fun _ H1 e _ => q H1 e
/-- xs.append(e), e data that stays when the list at l changes (l is not known at H0) -/
theorem d_app {l : Addr} {xs : List V} (hl : H l = some (.lst xs)) (ha : Ev ta σ H (.ref l)) (h : EvD K te σ H d) (hz : xs.length < 100000) (q : ∀ v H1, Ex H H1 → Dp K H1 v d → D.nx σ (upd H1 l (.lst (xs ++ [v])))) :
    tDrop (tBM K "list" rAppend ta (tCons te tNil)) D σ H := ha H (Ex.refl H) _ fun H1 e1 =>
  ⟨Or.inl ⟨rfl, xs, sq_of (e1 l _ hl)⟩, h H1 e1 _ fun v H2 e2 hd => ⟨l, xs, v, rfl, rfl, e2 l _ (e1 l _ hl), sz_lt hz, q v H2 (e1.trans e2) hd⟩⟩
end
/-! ### data of tuples alone: no change of a list or a dict touches it -/
/-- tuples stay -/
def Tx (H H' : Hp) : Prop := ∀ a xs, Rd H a (.tup xs) → Rd H' a (.tup xs)
theorem Tx.of_ex {H H' : Hp} (e : Ex H H') : Tx H H' := fun _ _ h => ex_rd e h
theorem Tx.trans {H H1 H2 : Hp} (a : Tx H H1) (b : Tx H1 H2) : Tx H H2 := fun x o h => b x o (a x o h)
theorem Tx.refl (H : Hp) : Tx H H := fun _ _ h => h
theorem Tx.upd {H : Hp} {p : Addr} {o u : HO} (h : H p = some o) (n : ∀ xs, o ≠ .tup xs) (n2 : ∀ ob xs, o ≠ .frz ob (.tup xs)) : Tx H (upd H p u) := fun a xs r => by
  rcases r with r | ⟨ob, r⟩
  · have ne : a ≠ p := fun z => by
      rw [z, h] at r
      exact n xs (Option.some.inj r)
    exact Or.inl (by rw [upd_ne ne]; exact r)
  · have ne : a ≠ p := fun z => by
      rw [z, h] at r
      exact n2 ob xs (Option.some.inj r)
    exact Or.inr ⟨ob, by rw [upd_ne ne]; exact r⟩
theorem Tx.lst {H : Hp} {p : Addr} {xs : List V} {u : HO} (h : H p = some (.lst xs)) : Tx H (L2.upd H p u) := Tx.upd h (fun _ z => nomatch z) fun _ _ z => nomatch z
theorem Tx.dct {H : Hp} {p : Addr} {xs : List (Key × V)} {u : HO} (h : H p = some (.dK xs)) : Tx H (L2.upd H p u) := Tx.upd h (fun _ z => nomatch z) fun _ _ z => nomatch z
mutual
def imm : PyData → Bool
  | .none => true
  | .bool _ => true
  | .int _ => true
  | .str _ => true
  | .tuple ds => immAll ds
  | _ => false
def immAll : List PyData → Bool
  | [] => true
  | d :: ds => imm d && immAll ds
end
section
variable {K : PySem.W.Frag} {H H' : Hp}
theorem sqT_tx {a : Addr} {xs : List V} (e : Tx H H') (h : SqT K H a xs) : SqT K H' a xs := by
  rcases h with h | h
  · exact Or.inl (e _ _ h)
  · exact Or.inr h
mutual
theorem dp_tx (e : Tx H H') : ∀ (d : PyData) (v : V), imm d = true → Dp K H v d → Dp K H' v d
  | .none, _, _, h => by cases h; exact .non
  | .bool b, _, _, h => by cases h; exact .bl b
  | .int i, _, _, h => by cases h; exact .int i
  | .str x, _, _, h => by cases h; exact .str x
  | .list ds, _, i, h => by simp [imm] at i
  | .tuple ds, _, i, h => by
    cases h with
    | tup hs ha => exact .tup (sqT_tx e hs) (dpa_tx e ds _ (by simpa [imm] using i) ha)
  | .dict _, _, _, h => by cases h
theorem dpa_tx (e : Tx H H') : ∀ (ds : List PyData) (vs : List V), immAll ds = true → DpAll K H vs ds → DpAll K H' vs ds
  | [], _, _, h => by cases h; exact .nil
  | d :: ds, _, i, h => by
    simp only [immAll, Bool.and_eq_true] at i
    cases h with
    | cons h1 h2 => exact .cons (dp_tx e d _ i.1 h1) (dpa_tx e ds _ i.2 h2)
end
theorem immAll_ints : ∀ l : List Int, immAll (dI l) = true
  | [] => by simp [immAll]
  | i :: l => by
    rw [dI, List.map_cons, immAll, immAll_ints l]
    simp [imm]
theorem imm_tI (l : List Int) : imm (tI l) = true := by
  rw [imm]
  exact immAll_ints l
theorem immAll_tIs : ∀ l : List (List Int), immAll (l.map tI) = true
  | [] => by simp [immAll]
  | i :: l => by rw [List.map_cons, immAll, imm_tI, immAll_tIs l]; rfl
end
end DL
set_option Elab.async false
set_option linter.all false
set_option maxRecDepth 100000
set_option maxHeartbeats 2000000
/-! zip of a list or a tuple and a list or a tuple, in any mix: the pairs are new tuples -/
namespace DL
open PySem PySem.Spec PyProof.Rows L2 Evl

/-- a list or a tuple -/
def SqA (K : PySem.W.Frag) (t : Bool) (H : Hp) (a : Addr) (xs : List V) : Prop := if t then SqT K H a xs else SqL K H a xs
theorem sqa_l {K : PySem.W.Frag} {H : Hp} {a : Addr} {xs : List V} (h : SqL K H a xs) : SqA K false H a xs := h
theorem sqa_t {K : PySem.W.Frag} {H : Hp} {a : Addr} {xs : List V} (h : SqT K H a xs) : SqA K true H a xs := h
/-- the iterator over it, at the i-th turn -/
def ItA (t : Bool) (h : Heap) (it a : Addr) (vs : Array Value) (i : Nat) : Prop :=
  if t then h.IsTupleIter it a i ∧ h.IsTuple a vs else h.IsListIter it a i ∧ h.IsList a vs
theorem drawsA {prog : Program} {w : World} {A : Around} (hh : A.handled = none) (t : Bool) (it a : Addr) (hne : a ≠ it) (vs : Array Value) :
    Draws prog w A it [it, a] vs.size (fun i v => vs[i]? = some v) (fun i h => ItA t h it a vs i) := by
  cases t with
  | true => exact Draws.tuple hh it a hne vs
  | false => exact Draws.list hh it a hne vs
def objA (t : Bool) (a : Addr) : Obj := if t then { cls := .type "tuple_iterator", data := .fields #[.ref a, .int 0 0] } else { cls := .type "list_iterator", data := .fields #[.ref a, .int 0 0] }
def heldA (t : Bool) (a : Addr) (vs : Array Value) (h : Heap) : Prop := if t then h.IsTuple a vs else h.IsList a vs
theorem beginsA (t : Bool) (a : Addr) (vs : Array Value) : Begins (.ref a) (objA t a) (heldA t a vs) := by
  cases t with
  | true => exact begins_tuple a vs
  | false => exact begins_list a vs
theorem itA_new {t : Bool} {h : Heap} {it a : Addr} {vs : Array Value} (ho : h.get? it = some (objA t a)) (hv : heldA t a vs h) : ItA t h it a vs 0 := by
  cases t with
  | true => exact ⟨⟨_, ho, rfl, rfl⟩, hv⟩
  | false => exact ⟨⟨_, ho, rfl, rfl⟩, hv⟩
theorem heldA_kept {t : Bool} {h h' : Heap} {a : Addr} {vs : Array Value} (hv : heldA t a vs h) (k : ∀ o, h.get? a = some o → h'.get? a = some o) : heldA t a vs h' := by
  cases t with
  | true => exact Heap.IsTuple.at (show h.IsTuple a vs from hv) k
  | false => exact Heap.IsList.at (show h.IsList a vs from hv) k
theorem heldA_lt {t : Bool} {h : Heap} {a : Addr} {vs : Array Value} (hv : heldA t a vs h) : a < h.objs.size := by
  cases t with
  | true =>
    obtain ⟨o, ho, _⟩ := (show h.IsTuple a vs from hv)
    exact Heap.lt_size ho
  | false =>
    obtain ⟨o, ho, _⟩ := (show h.IsList a vs from hv)
    exact Heap.lt_size ho

/-- the walk of zip: what stands at a and b, their items in new pairs -/
def ItzM (K : PySem.W.Frag) (t u : Bool) (a b : Addr) : It :=
  ⟨fun i H => ∃ (xs ys : List V) (x y : V), SqA K t H a xs ∧ SqA K u H b ys ∧ xs[i]? = some x ∧ ys[i]? = some y,
    fun i H v H' => ∃ T x y, v = .ref T ∧ H T = none ∧ H' = upd H T (.tup [x, y]) ∧ (∀ xs, SqA K t H a xs → xs[i]? = some x) ∧ ∀ ys, SqA K u H b ys → ys[i]? = some y,
    fun i H => ∃ xs ys : List V, SqA K t H a xs ∧ SqA K u H b ys ∧ (xs.length = i ∧ i ≤ ys.length ∨ ys.length = i ∧ i ≤ xs.length)⟩
section
variable {X : Cx} {pins : List (Addr × Obj)} {σ : L2.St} {H : Hp} {s : Shared} {a b : Addr} {xs ys : List V} {t u : Bool}
theorem held_of (I : Inv X pins σ H s) (h : SqA X.K t H a xs) : ∃ its : List Value, Vals xs its ∧ heldA t a its.toArray s.heap := by
  cases t with
  | true =>
    obtain ⟨its, r, p, _⟩ := I.tuple (show SqT X.K H a xs from h)
    exact ⟨its, r, show s.heap.IsTuple a its.toArray from p⟩
  | false =>
    obtain ⟨its, r, p, _⟩ := I.list (show SqL X.K H a xs from h)
    exact ⟨its, r, p.isList⟩
theorem sqA_inj (I : Inv X pins σ H s) (h : SqA X.K t H a xs) (h' : SqA X.K t H a ys) : xs = ys := by
  cases t with
  | true => exact I.tuple_inj h h'
  | false => exact I.list_inj h h'
theorem held_inj {h : Heap} {vs ws : Array Value} (p : heldA t a vs h) (q : heldA t a ws h) : vs = ws := by
  cases t with
  | true =>
    obtain ⟨o, e, _, n, d⟩ := (show h.IsTuple a vs from p)
    obtain ⟨o', e', _, n', d'⟩ := (show h.IsTuple a ws from q)
    rw [e] at e'; cases e'
    rw [d] at d'
    injection d' with d1 _
  | false =>
    obtain ⟨o, e, _, n, d⟩ := (show h.IsList a vs from p)
    obtain ⟨o', e', _, n', d'⟩ := (show h.IsList a ws from q)
    rw [e] at e'; cases e'
    rw [d] at d'
    injection d' with d1 _
theorem itA_held {h : Heap} {it : Addr} {vs : Array Value} {i : Nat} (x : ItA t h it a vs i) : heldA t a vs h := by
  cases t with
  | true => exact x.2
  | false => exact x.2
theorem itA_obj {h : Heap} {it : Addr} {vs : Array Value} {i : Nat} (x : ItA t h it a vs i) : ∃ o fs, h.get? it = some o ∧ o.data = .fields fs := by
  cases t with
  | true => obtain ⟨⟨o, e, _, d⟩, _⟩ := x; exact ⟨o, _, e, d⟩
  | false => obtain ⟨⟨o, e, _, d⟩, _⟩ := x; exact ⟨o, _, e, d⟩
theorem itA_at {h h' : Heap} {it : Addr} {vs : Array Value} {i : Nat} (x : ItA t h it a vs i) (k : ∀ o, h.get? it = some o → h'.get? it = some o) (k2 : ∀ o, h.get? a = some o → h'.get? a = some o) : ItA t h' it a vs i := by
  cases t with
  | true => exact ⟨x.1.at k, Heap.IsTuple.at x.2 k2⟩
  | false => exact ⟨x.1.at k, Heap.IsList.at x.2 k2⟩
/-- the iterator's own place alone -/
def ItB (t : Bool) (h : Heap) (it a : Addr) (i : Nat) : Prop := if t then h.IsTupleIter it a i else h.IsListIter it a i
theorem itB_of {h : Heap} {it : Addr} {vs : Array Value} {i : Nat} (x : ItA t h it a vs i) : ItB t h it a i := by
  cases t with
  | true => exact x.1
  | false => exact x.1
theorem itA_of {h : Heap} {it : Addr} {vs : Array Value} {i : Nat} (x : ItB t h it a i) (y : heldA t a vs h) : ItA t h it a vs i := by
  cases t with
  | true => exact ⟨x, y⟩
  | false => exact ⟨x, y⟩
theorem itB_obj {h : Heap} {it : Addr} {i : Nat} (x : ItB t h it a i) : ∃ o fs, h.get? it = some o ∧ o.data = .fields fs := by
  cases t with
  | true => obtain ⟨o, e, _, d⟩ := x; exact ⟨o, _, e, d⟩
  | false => obtain ⟨o, e, _, d⟩ := x; exact ⟨o, _, e, d⟩
theorem itB_at {h h' : Heap} {it : Addr} {i : Nat} (x : ItB t h it a i) (k : ∀ o, h.get? it = some o → h'.get? it = some o) : ItB t h' it a i := by
  cases t with
  | true => exact Heap.IsTupleIter.at (show h.IsTupleIter it a i from x) k
  | false => exact Heap.IsListIter.at (show h.IsListIter it a i from x) k
end
/-- the cells of a zip and what it walks lie apart -/
theorem sep_of {z TI TO i1 i2 a b : Addr} (D : ZipApart z TI TO i1 i2 a b) : ZipSep2 z TI TO i1 i2 [i1, a] [i2, b] where
  TIz := D.TIz
  TOz := D.TOz
  TITO := D.TITO
  TIi1 := D.TIi1
  mem1 := by simp
  zf1 := by simp [D.i1z.symm, D.l1z.symm]
  Tf1 := by simp [D.TOi1, D.l1TO.symm]
  TIi2 := D.TIi2
  mem2 := by simp
  zf2 := by simp [D.i2z.symm, D.l2z.symm]
  Tf2 := by simp [D.TOi2, D.l2TO.symm]
  sep1_2 := by simp [D.i12, D.l2i1.symm]
  sep2_1 := by simp [D.i12.symm, D.l1i2.symm]
theorem five {z TI TO i1 i2 : Addr} {P : Addr → Prop} (h1 : P z) (h2 : P TI) (h3 : P TO) (h4 : P i1) (h5 : P i2) : ∀ c, c ∈ [z, TI, TO, i1, i2] → P c := fun c hc => by
  simp only [List.mem_cons, List.not_mem_nil, or_false] at hc
  rcases hc with rfl | rfl | rfl | rfl | rfl
  · exact h1
  · exact h2
  · exact h3
  · exact h4
  · exact h5
theorem turn_zipM {P : Program} {w : World} {K : PySem.W.Frag} {elts : List Expr} {kk : Nat} {tpos : Pos} {t u : Bool} {a b z TI TO i1 i2 : Addr} (D : ZipApart z TI TO i1 i2 a b) :
    Turn P w K (.Tuple elts kk tpos) (ItzM K t u a b) [z, TI, TO, i1, i2] z
      (fun i h => IsZip h z TI TO .none ∧ IsPair h TI (.ref i1) (.ref i2) ∧ (∃ x y, IsPair h TO x y) ∧ ItB t h i1 a i ∧ ItB u h i2 b i) where
  mem := by simp
  obj := fun i h st => by
    obtain ⟨hz, hTI, ⟨x, y, hTO⟩, h1, h2⟩ := st
    refine five ⟨_, hz, fun v q => nomatch q⟩ ⟨_, hTI, fun v q => nomatch q⟩ ⟨_, hTO, fun v q => nomatch q⟩ ?_ ?_
    · obtain ⟨o, fs, e, d⟩ := itB_obj h1
      exact ⟨o, e, fun v q => by rw [d] at q; cases q⟩
    · obtain ⟨o, fs, e, d⟩ := itB_obj h2
      exact ⟨o, e, fun v q => by rw [d] at q; cases q⟩
  keep := fun i h h' st k => by
    obtain ⟨hz, hTI, ⟨x, y, hTO⟩, h1, h2⟩ := st
    exact ⟨k z (by simp) _ hz, k TI (by simp) _ hTI, ⟨x, y, k TO (by simp) _ hTO⟩, itB_at h1 fun o q => k i1 (by simp) o q, itB_at h2 fun o q => k i2 (by simp) o q⟩
  item := by
    intro X hP hw hK hc i pins s σ H E I hf st hg
    subst hP hw hK
    obtain ⟨hz, hTI, ⟨x0, y0, hTO⟩, h1, h2⟩ := st
    obtain ⟨xs, ys, x, y, hqx, hqy, hx, hy⟩ := hg
    obtain ⟨its, rv, p⟩ := held_of I hqx
    obtain ⟨its2, rv2, p2⟩ := held_of I hqy
    obtain ⟨w1, hw1, rw1⟩ := rv.get hx
    obtain ⟨w2, hw2, rw2⟩ := rv2.get hy
    have l1 : i < its.toArray.size := by
      have := (List.getElem?_eq_some_iff.mp hw1).1
      simpa using this
    have l2 : i < its2.toArray.size := by
      have := (List.getElem?_eq_some_iff.mp hw2).1
      simpa using this
    have hh : X.A.in1.handled = none := I.ok.hd hc
    have hzl : z < s.heap.objs.size := Heap.lt_size hz
    refine wpAny_pyNext_zipD2_item (sep_of D) (drawsA hh t i1 a D.l1i1 its.toArray) (drawsA hh u i2 b D.l2i2 its2.toArray) hz hTI hTO (itA_of h1 p) (itA_of h2 p2) l1 l2 fun x1 x2 h' tk e1 e2 z' TO' s1 s2 hT hsz hk => ?_
    have ex1 : x1 = w1 := by
      have q := hw1
      rw [show its[i]? = some x1 by simpa using e1] at q
      exact Option.some.inj q
    have ex2 : x2 = w2 := by
      have q := hw2
      rw [show its2[i]? = some x2 by simpa using e2] at q
      exact Option.some.inj q
    subst ex1 ex2
    refine ⟨_, rfl, wpAny_letOwnedTupleGo_zip (s := { s with heap := h', toks := tk }) z' fun h'' z'' sb => ?_⟩
    have up : ∀ c o, c ≠ z → h'.get? c = some o → h''.get? c = some o := fun c o n q => (sb.2 c n).trans q
    have hT2 := up _ _ (Nat.ne_of_gt hzl) hT
    have new : ObjOk X.prog X.w (upd H s.heap.objs.size (.tup [x, y])) h'' s.heap.objs.size (.tup [x, y]) :=
      ⟨by show 2 ≤ sizeLine; decide, [x1, x2], .cons rw1 (.cons rw2 .nil), ⟨_, hT2, rfl, _, rfl⟩⟩
    have kk : ∀ c o, c ∉ [z, TI, TO, i1, i2] → s.heap.get? c = some o → h''.get? c = some o := fun c o nc q => by
      simp only [List.mem_cons, List.not_mem_nil, or_false, not_or] at nc
      exact up c o nc.1 (hk c o nc.1 nc.2.2.1 nc.2.2.2.1 nc.2.2.2.2 q)
    have I1 : Inv X pins σ (upd H s.heap.objs.size (.tup [x, y])) { s with heap := h'', toks := tk } := I.turnedNew (t' := tk) (ch := [z, TI, TO, i1, i2]) kk hf (Nat.le_refl _) new
    have hTI' : IsPair h'' TI (.ref i1) (.ref i2) := up _ _ D.TIz (hk _ _ D.TIz D.TITO D.TIi1 D.TIi2 hTI)
    refine ⟨.ref s.heap.objs.size, _, I1, rfl, ⟨_, x, y, rfl, I.hok.fresh (Nat.le_refl _), rfl, fun l hl => ?_, fun l hl => ?_⟩, ⟨z'', hTI', ⟨x1, x2, up _ _ D.TOz TO'⟩, ?_, ?_⟩, ?_⟩
    · rw [sqA_inj I hl hqx]
      exact hx
    · rw [sqA_inj I hl hqy]
      exact hy
    · exact itB_at (itB_of s1) fun o q => up _ o D.i1z q
    · exact itB_at (itB_of s2) fun o q => up _ o D.i2z q
    · have lt1 : i1 < s.heap.objs.size := by
        obtain ⟨o, _, e, _⟩ := itB_obj h1
        exact Heap.lt_size e
      have lt2 : i2 < s.heap.objs.size := by
        obtain ⟨o, _, e, _⟩ := itB_obj h2
        exact Heap.lt_size e
      have go : ∀ c, c < s.heap.objs.size → c ∈ [z, TI, TO, i1, i2] → upd H s.heap.objs.size (.tup [x, y]) c = none := fun c l m => by
        rw [upd_ne (Nat.ne_of_lt l)]
        exact (hf c m).1
      exact five (go _ hzl (by simp)) (go _ (Heap.lt_size hTI) (by simp)) (go _ (Heap.lt_size hTO) (by simp)) (go _ lt1 (by simp)) (go _ lt2 (by simp))
  done := by
    intro X hP hw hK hc i pins s σ H E I hf st hg
    subst hP hw hK
    obtain ⟨hz, hTI, ⟨x0, y0, hTO⟩, h1, h2⟩ := st
    obtain ⟨xs, ys, hqx, hqy, hend⟩ := hg
    obtain ⟨its, rv, p⟩ := held_of I hqx
    obtain ⟨its2, rv2, p2⟩ := held_of I hqy
    have n1 : its.toArray.size = xs.length := by rw [List.size_toArray, rv.length]
    have n2 : its2.toArray.size = ys.length := by rw [List.size_toArray, rv2.length]
    have hh : X.A.in1.handled = none := I.ok.hd hc
    refine wpAny_pyNext_zipD2_end (sep_of D) (drawsA hh t i1 a D.l1i1 its.toArray) (drawsA hh u i2 b D.l2i2 its2.toArray) hz hTI hTO (i := i) (itA_of h1 p) (itA_of h2 p2) (by omega) (by omega) (by omega) fun h' tk hk => ⟨rfl, ?_⟩
    refine I.turnedL (t' := tk) (ch := [z, TI, TO, i1, i2]) (fun c o nc q => ?_) hf
    simp only [List.mem_cons, List.not_mem_nil, or_false, not_or] at nc
    exact hk c o nc.1 nc.2.2.1 nc.2.2.2.1 nc.2.2.2.2 q
  self := fun A i s Q E st h => wpAny_pyIter_zip st.1 h

def iZipM (K : PySem.W.Frag) (t u : Bool) (ta : TA) : TI := fun σ H R => ta σ H fun vs H1 => ∃ a b xs ys, vs = [.ref a, .ref b] ∧ SqA K t H1 a xs ∧ SqA K u H1 b ys ∧ R (ItzM K t u a b) H1
theorem pi_zipM {X : Cx} {e e2 : Expr} {ta : TA} {p pos tpos : Pos} {elts : List Expr} {kk : Nat} (t u : Bool) (hg : Gl X "zip") (hm : X.mg "zip" = none) (ha : PA X [e, e2] ta)
    (hs : starEach [e, e2] X.env = (false, eval e X.env) :: starEach [e2] X.env := by rfl)
    (hpl : (backTo pos (starEach [e2] X.env)).any (·.1) = false := by rfl) :
    PI X (.Tuple elts kk tpos) (.Call (.Name "zip" p) [e, e2] [] pos) (iZipM X.K t u ta) := by
  refine ⟨fun pins s σ H R I h => ?_⟩
  refine Call_ (ld_blt I hg hm PyProof.Rows.boot_zip (PyProof.Rows.callWith_type1 (thn (ha.run pos pins s σ H _ I h) fun us s1 q0 => ?_) hs hpl))
  obtain ⟨vs, H1, I1, r1, a, b, xs, ys, rfl, hqx, hqy, q⟩ := q0
  obtain ⟨v1, v2, rfl, ra, rb⟩ := vals2 r1
  cases ra
  cases rb
  obtain ⟨its, rv, p1⟩ := held_of I1 hqx
  obtain ⟨its2, rv2, p2⟩ := held_of I1 hqy
  have fr : ∀ k, FpOk X pins H1 (s1.heap.objs.size + k) := fun k => I1.fpOk (Nat.le_add_right _ _) (I1.hok.fresh (Nat.le_add_right _ _))
  refine zip_begins2 (beginsA t a its.toArray) (beginsA u b its2.toArray) p1 p2 fun h' hz hTI hTO h1 h2 hsz hk => wpAny_pyIter_zip hz ?_
  have I2 : Inv X pins σ H1 { s1 with heap := h' } := I1.kept (t' := s1.toks) hk
  have b1 : ItB t h' s1.heap.objs.size a 0 := itB_of (itA_new (vs := its.toArray) h1 (heldA_kept p1 fun o e => hk a o e))
  have b2 : ItB u h' (s1.heap.objs.size + 1) b 0 := itB_of (itA_new (vs := its2.toArray) h2 (heldA_kept p2 fun o e => hk b o e))
  exact ⟨s1.heap.objs.size + 4, [s1.heap.objs.size + 4, s1.heap.objs.size + 2, s1.heap.objs.size + 3, s1.heap.objs.size, s1.heap.objs.size + 1], _, _, H1, rfl, I2,
    turn_zipM (PySem.W.ktu_apart s1.heap.objs.size a b (heldA_lt p1) (heldA_lt p2)), ⟨hz, hTI, ⟨_, _, hTO⟩, b1, b2⟩, five (fr 4) (fr 2) (fr 3) (fr 0) (fr 1), q⟩
theorem walk_zipM {K : PySem.W.Frag} {a b : Addr} {t u : Bool} {xs ys : List V} {n : Nat} (hn : n = min xs.length ys.length) :
    Walk (ItzM K t u a b) n (fun H => SqA K t H a xs ∧ SqA K u H b ys) (YPair (fun i => xs[i]?) (fun i => ys[i]?)) := by
  subst hn
  refine ⟨fun i _ hi q => ?_, fun _ q => ⟨xs, ys, q.1, q.2, by omega⟩, fun i H v H' _ q y => ?_⟩
  · have h1 : i < xs.length := by omega
    have h2 : i < ys.length := by omega
    exact ⟨xs, ys, xs[i], ys[i], q.1, q.2, List.getElem?_eq_getElem h1, List.getElem?_eq_getElem h2⟩
  · obtain ⟨T, x, z, h1, h2, h3, h4, h5⟩ := y
    exact ⟨T, x, z, h1, h2, h3, h4 xs q.1, h5 ys q.2⟩
end DL
set_option Elab.async false
set_option linter.all false
set_option maxRecDepth 100000
set_option maxHeartbeats 2000000
namespace DL
open PySem PySem.Spec PyProof.Rows L2 Evl

/-! ### what stays but for some lists -/
def Xp (S : List Addr) (H H' : Hp) : Prop := ∀ a o, H a = some o → a ∉ S → H' a = some o
theorem Xp.refl (S : List Addr) (H : Hp) : Xp S H H := fun _ _ h _ => h
theorem Xp.of_ex {S : List Addr} {H H' : Hp} (e : Ex H H') : Xp S H H' := fun a o h _ => e a o h
theorem Xp.to_ex {H H' : Hp} (e : Xp [] H H') : Ex H H' := fun a o h => e a o h (by simp)
theorem Xp.trans {S : List Addr} {H H1 H2 : Hp} (a : Xp S H H1) (b : Xp S H1 H2) : Xp S H H2 := fun x o h n => b x o (a x o h n) n
theorem Xp.then {S : List Addr} {H H1 H2 : Hp} (a : Xp S H H1) (b : Ex H1 H2) : Xp S H H2 := fun x o h n => b x o (a x o h n)
theorem Xp.upd {S : List Addr} {H H1 : Hp} {p : Addr} {o : HO} (a : Xp S H H1) (hp : p ∈ S) : Xp S H (L2.upd H1 p o) := fun x u h n => by
  rw [upd_ne (fun z : x = p => n (by rw [z]; exact hp))]
  exact a x u h n
/-- S holds lists alone -/
def Ls (H : Hp) (S : List Addr) : Prop := ∀ p ∈ S, ∃ l, H p = some (.lst l)
theorem Ls.nil (H : Hp) : Ls H [] := fun p hp => absurd hp (by simp)
theorem Ls.one {H : Hp} {p : Addr} {l : List V} (h : H p = some (.lst l)) : Ls H [p] := fun q hq => by
  have e : q = p := by simpa using hq
  exact ⟨l, e ▸ h⟩
theorem Ls.cons {H : Hp} {p : Addr} {S : List Addr} {l : List V} (h : H p = some (.lst l)) (r : Ls H S) : Ls H (p :: S) := fun q hq => by
  rcases List.mem_cons.mp hq with e | e
  · exact ⟨l, e ▸ h⟩
  · exact r q e
theorem Ls.ex {H H' : Hp} {S : List Addr} (h : Ls H S) (e : Ex H H') : Ls H' S := fun p hp => by
  obtain ⟨l, q⟩ := h p hp
  exact ⟨l, e p _ q⟩
theorem Xp.tx {S : List Addr} {H H' : Hp} (e : Xp S H H') (h : Ls H S) : Tx H H' := fun a xs r => by
  have n : ∀ o, H a = some o → (∀ l, o ≠ .lst l) → a ∉ S := fun o ho hn hs => by
    obtain ⟨l, q⟩ := h a hs
    rw [ho] at q
    exact hn l (Option.some.inj q)
  rcases r with r | ⟨ob, r⟩
  · exact Or.inl (e _ _ r (n _ r fun l z => nomatch z))
  · exact Or.inr ⟨ob, e _ _ r (n _ r fun l z => nomatch z)⟩

section
variable {K : PySem.W.Frag} {σ : L2.St} {H H' : Hp} {ta tb te : TE} {t u : TT} {d : PyData} {ds : List PyData} {v : V}
/-! ### what is walked, told as data -/
/-- n items ds; S: lists that may change meanwhile -/
def EvI (K : PySem.W.Frag) (wi : TI) (σ : L2.St) (H : Hp) (S : List Addr) (ds : List PyData) : Prop :=
  ∀ H1, Ex H H1 → ∀ R : It → Hp → Prop, (∀ J H2, Ex H1 H2 → Walk J ds.length (fun Ha => Xp S H2 Ha) (fun i Ha x Hb => Ex Ha Hb ∧ ∃ d, ds[i]? = some d ∧ Dp K Hb x d) → R J H2) → wi σ H1 R
theorem ei_ex {wi : TI} {S : List Addr} (e : Ex H H') (h : EvI K wi σ H S ds) : EvI K wi σ H' S ds := fun H1 a R q => h H1 (e.trans a) R q
theorem fresh_notin {S : List Addr} {p : Addr} (hS : Ls H S) (hp : H p = none) : p ∉ S := fun hs => by
  obtain ⟨l, q⟩ := hS p hs
  rw [hp] at q
  cases q
/-- a new list -/
theorem ei_new {S : List Addr} (hS : Ls H S) (h : EvN K te σ H ds) (hi : immAll ds = true) : EvI K (iList K te) σ H S ds := fun H1 e R q =>
  h H1 e _ fun p vs H2 hp e2 h2 hd => by
    refine ⟨p, rfl, ⟨vs, sq_of h2⟩, q _ H2 e2 ?_⟩
    have hn : p ∉ S := fresh_notin (hS.ex e) hp
    have hl := dpa_len hd
    rw [← hl]
    refine walk_list.mono (fun Ha x => sq_of (x p _ h2 hn)) fun i Ha x Hb hlt hg y => ?_
    obtain ⟨rfl, hx⟩ := y
    obtain ⟨d, hd1, hd2⟩ := dpa_getV (dpa_tx (hg.tx (hS.ex (e.trans e2))) _ _ hi hd) hx
    exact ⟨Ex.refl _, d, hd1, hd2⟩
/-- a list that stands -/
theorem ei_lst {S : List Addr} {q : Addr} {vs : List V} (hS : Ls H S) (h : Ev te σ H (.ref q)) (hq : H q = some (.lst vs)) (hn : q ∉ S) (hd : DpAll K H vs ds) (hi : immAll ds = true) : EvI K (iList K te) σ H S ds := fun H1 e R r =>
  h H1 e _ fun H2 e2 => by
    have h2 := e2 _ _ (e _ _ hq)
    refine ⟨q, rfl, ⟨vs, sq_of h2⟩, r _ H2 e2 ?_⟩
    rw [← dpa_len hd]
    refine walk_list.mono (fun Ha x => sq_of (x q _ h2 hn)) fun i Ha x Hb hlt hg y => ?_
    obtain ⟨rfl, hx⟩ := y
    obtain ⟨d, hd1, hd2⟩ := dpa_getV (dpa_tx (hg.tx (hS.ex (e.trans e2))) _ _ hi (dpa_ex (e.trans e2) _ _ hd)) hx
    exact ⟨Ex.refl _, d, hd1, hd2⟩
/-- a tuple -/
theorem ei_tup {S : List Addr} (hS : Ls H S) (h : EvD K te σ H (.tuple ds)) (hi : immAll ds = true) : EvI K (iTup K te) σ H S ds := fun H1 e R r =>
  h H1 e _ fun w H2 e2 hw => by
    cases hw with
    | tup hs ha =>
      refine ⟨_, rfl, ⟨_, hs⟩, r _ H2 e2 ?_⟩
      rw [← dpa_len ha]
      refine walk_tup.mono (fun Ha x => sqT_tx (x.tx (hS.ex (e.trans e2))) hs) fun i Ha x Hb hlt hg y => ?_
      obtain ⟨rfl, hx⟩ := y
      obtain ⟨d, hd1, hd2⟩ := dpa_getV (dpa_tx (hg.tx (hS.ex (e.trans e2))) _ _ hi ha) hx
      exact ⟨Ex.refl _, d, hd1, hd2⟩
/-- range -/
theorem rng_get {n : Nat} {f : Nat → PyData} {i : Nat} (h : i < n) : ((List.range n).map f)[i]? = some (f i) := by
  rw [List.getElem?_map, List.getElem?_range h]
  rfl
theorem ei_rng1 {S : List Addr} {ta : TA} {n : Int} (h : EvDA K ta σ H [.int n]) (hn : -(2 ^ 62) ≤ n ∧ n < 2 ^ 62) : EvI K (iRng1 ta) σ H S ((List.range n.toNat).map fun (i : Nat) => PyData.int (i : Int)) := fun H1 e R r =>
  h H1 e _ fun vs H2 e2 hv => by
    cases hv with
    | cons a b =>
      cases b
      cases a
      refine ⟨n, rfl, hn.1, hn.2, r _ H2 e2 ?_⟩
      rw [List.length_map, List.length_range]
      refine walk_range.mono (fun _ _ => trivial) fun i Ha x Hb hlt hg y => ?_
      obtain ⟨rfl, rfl⟩ := y
      refine ⟨Ex.refl _, _, rng_get hlt, ?_⟩
      show Dp K Hb (.int (0 + (i : Int))) (.int (i : Int))
      rw [Int.zero_add]
      exact .int _
theorem ei_rng2 {S : List Addr} {ta : TA} {m n : Int} (h : EvDA K ta σ H [.int m, .int n]) (hn : (-(2 ^ 62) ≤ m ∧ m < 2 ^ 62) ∧ -(2 ^ 62) ≤ n ∧ n < 2 ^ 62) : EvI K (iRng2 ta) σ H S ((List.range (n - m).toNat).map fun (i : Nat) => PyData.int (m + (i : Int))) := fun H1 e R r =>
  h H1 e _ fun vs H2 e2 hv => by
    cases hv with
    | cons a b =>
      cases b with
      | cons b c =>
        cases c
        cases a
        cases b
        refine ⟨m, n, rfl, ⟨hn.1.1, hn.1.2, hn.2.1, hn.2.2⟩, r _ H2 e2 ?_⟩
        rw [List.length_map, List.length_range]
        refine walk_range.mono (fun _ _ => trivial) fun i Ha x Hb hlt hg y => ?_
        obtain ⟨rfl, rfl⟩ := y
        exact ⟨Ex.refl _, _, rng_get hlt, .int _⟩
/-- range(m, e, -1) -/
theorem ei_rngD {S : List Addr} {ta : TA} {m n : Int} (h : EvDA K ta σ H [.int m, .int n, .int (-1)]) (hn : (-(2 ^ 61) ≤ m ∧ m < 2 ^ 61) ∧ -(2 ^ 61) ≤ n ∧ n < 2 ^ 61) (hr : RgC m n (-1) (m - n).toNat) :
    EvI K (iRng3 ta) σ H S ((List.range (m - n).toNat).map fun (i : Nat) => PyData.int (m - (i : Int))) := fun H1 e R r =>
  h H1 e _ fun vs H2 e2 hv => by
    cases hv with
    | cons a b =>
      cases b with
      | cons b c =>
        cases c with
        | cons c f =>
          cases f
          cases a
          cases b
          cases c
          refine ⟨m, n, -1, (m - n).toNat, rfl, hr, r _ H2 e2 ?_⟩
          rw [List.length_map, List.length_range]
          refine walk_rangeC.mono (fun _ _ => trivial) fun i Ha x Hb hlt hg y => ?_
          obtain ⟨rfl, rfl⟩ := y
          refine ⟨Ex.refl _, _, rng_get hlt, ?_⟩
          show Dp K Hb (.int (m + (i : Int) * (-1))) (.int (m - (i : Int)))
          rw [show m + (i : Int) * (-1) = m - (i : Int) by omega]
          exact .int _
/-! ### loops over it -/
variable {D : Ends} {tu tw tz : TS} {g : TG}
/-- a for: Pv of the heap at the start (all is evaluated), the turn, the slots, the heap -/
theorem d_for {wi : TI} {S : List Addr} (h : EvI K wi σ H S ds) (Pv : Hp → Nat → L2.St → Hp → Prop) (h0 : ∀ H2, Ex H H2 → Pv H2 0 σ H2) (hX : ∀ H2 i σ' Ha, i ≤ ds.length → Pv H2 i σ' Ha → Xp S H2 Ha)
    (hs : ∀ H2 i d x σ' Ha Hb, Ex H H2 → ds[i]? = some d → Pv H2 i σ' Ha → Ex Ha Hb → Dp K Hb x d → g x σ' Hb fun σ2 H3 => tu { D with nx := Pv H2 (i + 1), ct := Pv H2 (i + 1), bk := D.nx } σ2 H3)
    (hd : ∀ H2 σ' Ha, Ex H H2 → Pv H2 ds.length σ' Ha → D.nx σ' Ha) : tFor wi g tu D σ H := h H (Ex.refl H) _ fun J H2 e2 w =>
  for_it w (Pv H2) (h0 H2 e2) (fun i σ' Ha hi p => hX H2 i σ' Ha hi p) (fun i x σ' Ha Hb hlt p y => by
    obtain ⟨e, d, hd1, hd2⟩ := y
    exact hs H2 i d x σ' Ha Hb e2 hd1 p e hd2) fun σ' Ha p => hd H2 σ' Ha e2 p
theorem e_for {wi : TI} {S : List Addr} (h : EvI K wi σ H S ds) (Pv : Hp → Nat → L2.St → Hp → Prop) (h0 : ∀ H2, Ex H H2 → Pv H2 0 σ H2) (hX : ∀ H2 i σ' Ha, i ≤ ds.length → Pv H2 i σ' Ha → Xp S H2 Ha)
    (hs : ∀ H2 i d x σ' Ha Hb, Ex H H2 → ds[i]? = some d → Pv H2 i σ' Ha → Ex Ha Hb → Dp K Hb x d → g x σ' Hb fun σ2 H3 => tu { D with nx := Pv H2 (i + 1), ct := Pv H2 (i + 1), bk := tz D } σ2 H3)
    (hd : ∀ H2 σ' Ha, Ex H H2 → Pv H2 ds.length σ' Ha → tz D σ' Ha) : tSeq (tFor wi g tu) tz D σ H := d_for (D := { D with nx := tz D }) h Pv h0 hX hs hd
theorem gl_nil {Q : L2.St → Hp → Prop} : (fun (σ' : L2.St) H' => gNil [] σ' H' Q) = Q := by
  funext a b
  exact propext ⟨fun z => z.2, fun z => ⟨rfl, z⟩⟩
theorem gl_one {g2 : TG} {v : V} {Q : L2.St → Hp → Prop} : (fun (σ1 : L2.St) H1 => g2 v σ1 H1 Q) = fun σ1 H1 => gCons g2 gNil [v] σ1 H1 Q := by
  funext σ1 H1
  apply propext
  constructor
  · intro z
    refine ⟨v, [], rfl, ?_⟩
    rw [gl_nil]
    exact z
  · intro ⟨w, r, e, z⟩
    cases e
    rw [gl_nil] at z
    exact z
/-- targets: a name; a pair of targets; three -/
theorem g_two {g1 g2 : TG} {d1 d2 : PyData} {x : V} {Q : L2.St → Hp → Prop} (h : Dp K H x (.tuple [d1, d2])) (k : ∀ v1 v2, Dp K H v1 d1 → Dp K H v2 d2 → g1 v1 σ H fun σ1 H1 => g2 v2 σ1 H1 Q) :
    gTup K 2 (gCons g1 (gCons g2 gNil)) x σ H Q := by
  cases h with
  | tup hs ha =>
    cases ha with
    | cons a b =>
      cases b with
      | cons b c =>
        cases c
        refine ⟨_, _, rfl, hs, rfl, _, _, rfl, ?_⟩
        have q := k _ _ a b
        rw [gl_one] at q
        exact q
/-- a comprehension without a test -/
theorem en_lc {wi : TI} {vs : List Nat} (h : EvI K wi σ H [] ds) (hl : ds.length ≤ 50000) (f : Nat → PyData) (hi : ∀ i, i < ds.length → imm (f i) = true)
    (hs : ∀ H2 i d x Hb (Q : L2.St → Hp → Prop), Ex H H2 → ds[i]? = some d → Ex H2 Hb → Dp K Hb x d → (∀ σ2 H3, Ex Hb H3 → wipe σ2 vs = wipe σ vs → EvD K te σ2 H3 (f i) → Q σ2 H3) → g x (wipe σ vs) Hb Q) :
    EvN K (tLc wi g tYes te vs) σ H ((List.range ds.length).map f) := fun H1 e Q q => h H1 e _ fun J H2 e2 w => fun Dl hD => by
  have all : ∀ n, n ≤ ds.length → immAll ((List.range n).map f) = true := fun n => by
    induction n with
    | zero => intro _; simp [immAll]
    | succ n ih =>
      intro hn
      have app : ∀ (a b : List PyData), immAll a = true → immAll b = true → immAll (a ++ b) = true := fun a b ha hb => by
        induction a with
        | nil => exact hb
        | cons x a ih =>
          simp only [immAll, Bool.and_eq_true] at ha
          rw [List.cons_append, immAll, ha.1, ih ha.2]
          rfl
      rw [List.range_succ, List.map_append]
      exact app _ _ (ih (by omega)) (by simp [immAll, hi n (by omega)])
  refine lc_it w (fun n Ha => ∃ ws, Ex H2 Ha ∧ Ha Dl = some (.lst ws) ∧ DpAll K Ha ws ((List.range n).map f)) ⟨[], Ex.new hD, upd_same, by simp; exact .nil⟩ (fun n Ha _ p => by
    obtain ⟨ws, p1, _⟩ := p
    exact Xp.of_ex p1) (fun i x Ha Hb hlt p y => ?_) fun Ha p => ?_
  · obtain ⟨ws, p1, p2, p3⟩ := p
    obtain ⟨ey, d, hd1, hd2⟩ := y
    refine hs H2 i d x Hb _ (e.trans e2) hd1 (p1.trans ey) hd2 fun σ2 H3 e3 hw hv => ⟨hw, ?_⟩
    show te σ2 H3 _
    refine hv H3 (Ex.refl _) _ fun v H4 e4 hv4 => ⟨ws, e4 _ _ (e3 _ _ (ey _ _ p2)), ?_, ws ++ [v], ?_, upd_same, ?_⟩
    · have := dpa_len p3
      rw [List.length_map, List.length_range] at this
      exact sz_lt (by omega)
    · exact Ex.mut ((p1.trans ey).trans (e3.trans e4)) hD
    · have at4 : H4 Dl = some (.lst ws) := e4 _ _ (e3 _ _ (ey _ _ p2))
      rw [List.range_succ, List.map_append]
      refine dpa_app (dpa_tx (Tx.lst at4) _ _ (all i (by omega)) (dpa_ex ((ey.trans e3).trans e4) _ _ p3)) ?_
      exact .cons (dp_tx (Tx.lst at4) _ _ (hi i hlt) hv4) .nil
  · obtain ⟨ws, p1, p2, p3⟩ := p
    exact q Dl ws Ha (fresh_back e2 hD) (e2.trans p1) p2 p3
end
end DL
set_option Elab.async false
set_option linter.all false
set_option maxRecDepth 100000
set_option maxHeartbeats 2000000
namespace DL
open PySem PySem.Spec PyProof.Rows L2 Evl

/-! ### defs that are called by name -/
structure DF (P : Program) (w : World) (K : PySem.W.Frag) (mg : Str → Option Value) (base : Heap) (nm : Str) (k : Nat) (ps : List Str) (sp : Sp) : Prop where
  ex : ∃ (f : Addr) (fd : FuncData), FnOk P w K mg base CX0 k f fd ps sp ∧ mg nm = some (.ref f) ∧ PySem.W.keepIn K (.ref f) = true ∧ Binds K fd ps []
theorem pe_D {X : Cx} {nm : Str} {k : Nat} {ps : List Str} {sp : Sp} {e : Expr} {es : List Expr} {t : TA} {p pos : Pos} (F : DF X.prog X.w X.K X.mg X.base nm k ps sp) (hr : Room k X.A) (hg : Gl X nm) (ha : PA X (e :: es) t)
    (hdb : (nm == ("__debug__" : Str)) = false := by decide) (he : starEach (e :: es) X.env = (false, eval e X.env) :: starEach es X.env := by rfl) (hpl : (backTo pos (starEach es X.env)).any (·.1) = false := by rfl) :
    PE X (.Call (.Name nm p) (e :: es) [] pos) (tCall sp [] E0 t) := by
  obtain ⟨f, fd, h1, h2, h3, h4⟩ := F.ex
  exact pe_call h1 hr hg h2 h3 h4 .nil pass0 ha hdb he hpl

/-! ### a list's item, read to be changed -/
def rGetL (K : PySem.W.Frag) : V → V → Hp → VK → Prop := fun o i H Q => ∃ p xs v, ∃ j : Nat, o = .ref p ∧ i = .int (j : Int) ∧ SqL K H p xs ∧ xs[j]? = some v ∧ Q v H
theorem get_list {X : Cx} : PGet X (rGetL X.K) := fun pins s σ H o i ov iv Q I r1 r2 h => by
  obtain ⟨p, xs, v, j, rfl, rfl, hs, hv, q⟩ := h
  obtain ⟨its, rv, pl, hz⟩ := I.list hs
  cases r1
  obtain ⟨t, rfl⟩ := r2
  obtain ⟨u, hu, ru⟩ := rv.get hv
  have hj := (List.getElem?_eq_some_iff.mp hv).1
  have hn := line63
  refine wpAny_getItem_list pl.isList (by omega) (by omega) (x := u) (by simpa using hu) ⟨v, H, I, ru, q⟩

/-! ### max of a tuple of ints -/
section
variable {prog : Program} {w : World} {A : Around} {E : Value → Shared → Prop} {s : Shared} {l : Addr} {its : List Value} {ns : List Int} {Q : Value → Shared → Prop}
theorem max_rawT (hh : A.handled = none) (hl : s.heap.IsTuple l its.toArray) (hi : IntsAre its ns) (hne : 0 < ns.length)
    (h : ∀ h' tk M t', (∀ b o, s.heap.get? b = some o → h'.get? b = some o) → M ∈ ns → (∀ a, a ∈ ns → a ≤ M) → Q (.int M t') { s with heap := h', toks := tk }) :
    wpAny (model prog w) A (call (.builtin "max") [.ref l]) Q E s := by
  have len : its.length = ns.length := hi.length
  have at_ : ∀ (i : Nat) v, its.toArray[i]? = some v → ∃ t, v = .int (ns.getD i 0) t := fun i v hv => by
    have hv' : its[i]? = some v := by simpa using hv
    have go : ∀ {us : List Value} {ms : List Int}, IntsAre us ms → ∀ {i : Nat} {v : Value}, us[i]? = some v → ∃ t, v = .int (ms.getD i 0) t := by
      intro us ms hh
      induction hh with
      | nil => intro i v e; simp at e
      | cons n t _ ih =>
        intro i v e
        cases i with
        | zero => exact ⟨t, by simpa using e.symm⟩
        | succ i =>
          obtain ⟨t', q⟩ := ih (i := i) (v := v) (by simpa using e)
          exact ⟨t', by simpa using q⟩
    exact go hi hv'
  have hlt : l < s.heap.objs.size := by
    obtain ⟨o, ho, _⟩ := hl
    exact Heap.lt_size ho
  refine call_max_walk (wpAny_pyIter_tuple hl ?_)
  refine ⟨s.heap.objs.size, _, _, _, _, _, _, rfl, Walks.tuple (A := A.in1) hh _ l (Nat.ne_of_lt hlt) its.toArray, ⟨⟨_, Heap.get?_push_size _ rfl, rfl, rfl⟩, Heap.IsTuple.push hl _⟩, fun b hb => ?_, ?_, CmpOf.ints_gt (fun i => ns.getD i 0) at_, fun v h' tk hv hk => ?_⟩
  · show b < (s.heap.push _).objs.size
    rw [Heap.size_push]
    simp only [List.mem_cons, List.not_mem_nil, or_false] at hb
    rcases hb with e | e
    · rw [e]; exact Nat.lt_succ_self _
    · rw [e]; exact Nat.lt_succ_of_lt hlt
  · rw [List.size_toArray, len]
    exact hne
  · obtain ⟨t, rfl⟩ := at_ _ _ hv
    obtain ⟨h1, h2⟩ := argBest_gt (fun i => ns.getD i 0) (its.toArray.size - 1)
    have e1 : its.toArray.size = ns.length := by rw [List.size_toArray, len]
    refine h h' tk _ t (fun b o e => hk b o (fun hm => ?_) (Heap.get?_push_of_some _ e)) ?_ fun a ha => ?_
    · have := Heap.lt_size e
      simp only [List.mem_cons, List.not_mem_nil, or_false] at hm
      rw [hm] at this
      exact Nat.lt_irrefl _ this
    · exact PySem.getD_mem (by omega)
    · obtain ⟨j, hj, rfl⟩ := List.getElem_of_mem ha
      have q := h2 j (by omega)
      have ej : ns.getD j 0 = ns[j] := by rw [List.getD_eq_getElem?_getD, List.getElem?_eq_getElem hj]; rfl
      rw [ej] at q
      exact q
end
section
variable {X : Cx}
def rMaxT (K : PySem.W.Frag) : List V → Hp → VK → Prop := fun vs H Q => ∃ (a : Addr) (ns : List Int), vs = [V.ref a] ∧ SqT K H a (ns.map V.int) ∧ 0 < ns.length ∧ ∀ m, m ∈ ns → (∀ y, y ∈ ns → y ≤ m) → Q (.int m) H
theorem cr_maxT (hc : X.calm = true) : CallR X (.builtin "max") (rMaxT X.K) := by
  intro pins s σ H vs us Q I r h
  obtain ⟨a, ns, rfl, hs, hne, q⟩ := h
  obtain ⟨its, rv, hl, _⟩ := I.tuple hs
  rw [Vals.ref1 r]
  exact max_rawT (I.ok.hd hc) (show s.heap.IsTuple a its.toArray from hl) rv.ints hne fun h' tk m t' hk h1 h2 => ⟨.int _, H, I.kept hk, ⟨_, rfl⟩, q m h1 h2⟩
end
end DL
set_option Elab.async false
set_option linter.all false
set_option maxRecDepth 100000
set_option maxHeartbeats 2000000
namespace DL
open PySem PySem.Spec PyProof.Rows L2 Evl
section
variable {K : PySem.W.Frag} {σ : L2.St} {H H' : Hp} {ta tb te : TE} {t u : TT} {d : PyData} {ds es : List PyData} {v : V} {ns : List Int}
/-- a list that is tracked -/
def EvQ (K : PySem.W.Frag) (te : TE) (σ : L2.St) (H : Hp) (ds : List PyData) : Prop := ∀ H1, Ex H H1 → ∀ Q : VK, (∀ p vs H2, Ex H1 H2 → H2 p = some (.lst vs) → DpAll K H2 vs ds → Q (.ref p) H2) → te σ H1 Q
theorem EvN.toQ (h : EvN K te σ H ds) : EvQ K te σ H ds := fun H1 e Q q => h H1 e Q fun p vs H2 _ e2 h2 hd => q p vs H2 e2 h2 hd
theorem EvQ.toD (h : EvQ K te σ H ds) : EvD K te σ H (.list ds) := fun H1 e Q q => h H1 e Q fun p vs H2 e2 h2 hd => q _ H2 e2 (.lst (sq_of h2) hd)
theorem EvQ.ex (e : Ex H H') (h : EvQ K te σ H ds) : EvQ K te σ H' ds := fun H1 a Q q => h H1 (e.trans a) Q q
theorem eq_var {k : Nat} {p : Addr} {vs : List V} (h : σ[k]? = some (some (.ref p))) (hp : H p = some (.lst vs)) (hd : DpAll K H vs ds) : EvQ K (tVar k) σ H ds := fun H1 e Q q =>
  ⟨.ref p, h, q p vs H1 (Ex.refl _) (e _ _ hp) (dpa_ex e _ _ hd)⟩
theorem eq_is {ds' : List PyData} (h : EvQ K te σ H ds) (e : ds = ds') : EvQ K te σ H ds' := e ▸ h

/-! ### max, min, sum -/
theorem ev_maxL {m : Int} (h : EvD K te σ H (.list (dI ns))) (h0 : 0 < ns.length) (hm : m ∈ ns) (hb : ∀ y, y ∈ ns → y ≤ m) : Ev (tCB (rMax K) (tCons te tNil)) σ H (.int m) := fun H1 e Q q =>
  h H1 e _ fun w H2 e2 hw => by
    cases hw with
    | lst hs ha =>
      rw [dpa_ints ha] at hs
      refine ⟨_, ns, rfl, hs, h0, fun m' h1 h2 => ?_⟩
      rw [show m' = m from Int.le_antisymm (hb _ h1) (h2 _ hm)]
      exact q H2 e2
theorem ev_maxT {m : Int} (h : EvD K te σ H (tI ns)) (h0 : 0 < ns.length) (hm : m ∈ ns) (hb : ∀ y, y ∈ ns → y ≤ m) : Ev (tCB (rMaxT K) (tCons te tNil)) σ H (.int m) := fun H1 e Q q =>
  h H1 e _ fun w H2 e2 hw => by
    obtain ⟨a, rfl, hs⟩ := dp_tI hw
    refine ⟨a, ns, rfl, hs, h0, fun m' h1 h2 => ?_⟩
    rw [show m' = m from Int.le_antisymm (hb _ h1) (h2 _ hm)]
    exact q H2 e2
theorem ev_sumL (h : EvD K te σ H (.list (dI ns))) : Ev (tCB (rSum K) (tCons te tNil)) σ H (.int ns.sum) := fun H1 e Q q =>
  h H1 e _ fun w H2 e2 hw => by
    cases hw with
    | lst hs ha =>
      rw [dpa_ints ha] at hs
      exact ⟨_, ns, rfl, hs, q H2 e2⟩
theorem ev_min2 {i j : Int} (ha : Ev ta σ H (.int i)) (hb : Ev tb σ H (.int j)) : Ev (tCB (fun xs H Q => ∃ i j, xs = [.int i, .int j] ∧ Q (.int (if j < i then j else i)) H) (tCons ta (tCons tb tNil))) σ H (.int (min i j)) := fun H1 e Q q =>
  ha H1 e _ fun H2 e2 => hb H2 (e.trans e2) _ fun H3 e3 => ⟨i, j, rfl, by
    have : (if j < i then j else i) = min i j := by
      by_cases h : j < i
      · rw [if_pos h]; omega
      · rw [if_neg h]; omega
    rw [this]
    exact q H3 (e2.trans e3)⟩

/-! ### joining, repeating, cutting -/
theorem en_cat (ha : EvQ K ta σ H ds) (hb : EvQ K tb σ H es) (hl : ds.length + es.length ≤ 100000) : EvN K (tOp rCat ta tb) σ H (ds ++ es) := fun H1 e Q q =>
  ha H1 e _ fun p vs H2 e2 hp hd => hb H2 (e.trans e2) _ fun r ws H3 e3 hr he => ⟨p, r, vs, ws, rfl, rfl, e3 _ _ hp, hr, sz_of (by rw [dpa_len hd, dpa_len he]; exact hl), fun l hl =>
    q l _ _ (fresh_back (e2.trans e3) hl) ((e2.trans e3).trans (Ex.new hl)) upd_same (dpa_ex (Ex.new hl) _ _ (dpa_app (dpa_ex e3 _ _ hd) he))⟩
theorem en_rep {n : Int} (ha : EvQ K ta σ H [d]) (hb : Ev tb σ H (.int n)) (hn : n ≤ 100000) (hn0 : -100000 ≤ n) : EvN K (tOp rRep ta tb) σ H (List.replicate n.toNat d) := fun H1 e Q q =>
  ha H1 e _ fun p vs H2 e2 hp hd => hb H2 (e.trans e2) _ fun H3 e3 => by
    cases hd with
    | cons a b =>
      cases b
      rename_i v
      have hz : ([v] : List V).length * n.toNat ≤ 100000 := by simp; omega
      refine ⟨p, n, [v], rfl, rfl, e3 _ _ hp, by omega, by omega, sz_of hz, fun l hl => ?_⟩
      have ef : (List.replicate n.toNat [v]).flatten = List.replicate n.toNat v := by
        induction n.toNat with
        | zero => rfl
        | succ k ih => rw [List.replicate_succ, List.flatten_cons, ih, List.replicate_succ]; rfl
      rw [ef]
      exact q l _ _ (fresh_back (e2.trans e3) hl) ((e2.trans e3).trans (Ex.new hl)) upd_same (dpa_rep (dp_ex ((e3).trans (Ex.new hl)) _ _ a) _)
theorem ed_cat (ha : EvD K ta σ H (.tuple ds)) (hb : EvD K tb σ H (.tuple es)) (hl : ds.length + es.length ≤ 100000) : EvD K (tOp (rCatA K) ta tb) σ H (.tuple (ds ++ es)) := fun H1 e Q q =>
  ha H1 e _ fun x H2 e2 hx => hb H2 (e.trans e2) _ fun y H3 e3 hy => by
    cases hx with
    | tup h1 a1 =>
      cases hy with
      | tup h2 a2 =>
        have n1 := dpa_len a1
        have n2 := dpa_len a2
        refine ⟨_, _, _, _, rfl, rfl, ex_t e3 h1, h2, sz_of (by omega), fun e0 => ?_, fun _ e0 => ?_, fun _ _ l hl => ?_⟩
        · subst e0
          cases a1
          exact q _ H3 (e2.trans e3) (.tup h2 a2)
        · subst e0
          cases a2
          rw [List.append_nil] at q
          exact q _ H3 (e2.trans e3) (.tup (ex_t e3 h1) (dpa_ex e3 _ _ a1))
        · exact q _ _ ((e2.trans e3).trans (Ex.new hl)) (.tup (st_of upd_same) (dpa_ex (Ex.new hl) _ _ (dpa_app (dpa_ex e3 _ _ a1) a2)))
def cutD (ds : List PyData) (lo hi : Option Int) : List PyData := (ds.drop (HT.sIx ds.length 0 lo)).take (HT.sIx ds.length ds.length hi - HT.sIx ds.length 0 lo)
theorem dpa_cut {vs : List V} {lo hi : Option Int} (h : DpAll K H vs ds) : DpAll K H (cutV vs lo hi) (cutD ds lo hi) := by
  unfold cutV cutD
  rw [dpa_len h]
  exact dpa_take _ (dpa_drop _ h)
theorem ed_sl {tl th : TO} {lo hi : Option Int} (h : EvD K te σ H (.tuple ds)) (h1 : EvO tl σ H lo) (h2 : EvO th σ H hi) : EvD K (tSl (rSlA K) te tl th) σ H (.tuple (cutD ds lo hi)) := fun H1 e Q q =>
  h H1 e _ fun x H2 e2 hx => h1 H2 (e.trans e2) _ fun H3 e3 => h2 H3 ((e.trans e2).trans e3) _ fun H4 e4 => by
    cases hx with
    | tup hs ha =>
      have n1 := dpa_len ha
      refine ⟨_, _, rfl, ex_t (e3.trans e4) hs, fun hw => ?_, fun _ l hl => ?_⟩
      · have ec : cutD ds lo hi = ds := by
          unfold cutD
          rw [← n1, hw.1, hw.2, n1]
          simp
        rw [ec] at q
        exact q _ H4 ((e2.trans e3).trans e4) (.tup (ex_t (e3.trans e4) hs) (dpa_ex (e3.trans e4) _ _ ha))
      · exact q _ _ (((e2.trans e3).trans e4).trans (Ex.new hl)) (.tup (st_of upd_same) (dpa_ex ((e3.trans e4).trans (Ex.new hl)) _ _ (dpa_cut ha)))
theorem en_sl {tl th : TO} {lo hi : Option Int} (h : EvD K te σ H (.list ds)) (h1 : EvO tl σ H lo) (h2 : EvO th σ H hi) : EvN K (tSl (rSlL K) te tl th) σ H (cutD ds lo hi) := fun H1 e Q q =>
  h H1 e _ fun x H2 e2 hx => h1 H2 (e.trans e2) _ fun H3 e3 => h2 H3 ((e.trans e2).trans e3) _ fun H4 e4 => by
    cases hx with
    | lst hs ha =>
      refine ⟨_, _, rfl, ex_l (e3.trans e4) hs, fun l hl => ?_⟩
      exact q _ _ _ (fresh_back ((e2.trans e3).trans e4) hl) (((e2.trans e3).trans e4).trans (Ex.new hl)) upd_same (dpa_ex ((e3.trans e4).trans (Ex.new hl)) _ _ (dpa_cut ha))
theorem en_rev (h : EvD K te σ H (.list ds)) : EvN K (tRevL K te) σ H ds.reverse := fun H1 e Q q =>
  h H1 e _ fun x H2 e2 hx => by
    cases hx with
    | lst hs ha => exact ⟨_, _, rfl, hs, fun l hl => q _ _ _ (fresh_back e2 hl) (e2.trans (Ex.new hl)) upd_same (dpa_ex (Ex.new hl) _ _ (dpa_rev ha))⟩
/-- tuple(x), list(x) -/
theorem ed_tupleOf (h : EvD K te σ H (.list ds)) : EvD K (tCB (fun xs H Q => ∃ p ys, xs = [.ref p] ∧ ((SqL K H p ys ∧ ∀ l, H l = none → Q (.ref l) (upd H l (.tup ys))) ∨ (SqT K H p ys ∧ Q (.ref p) H))) (tCons te tNil)) σ H (.tuple ds) := fun H1 e Q q =>
  h H1 e _ fun x H2 e2 hx => by
    cases hx with
    | lst hs ha => exact ⟨_, _, rfl, .inl ⟨hs, fun l hl => q _ _ (e2.trans (Ex.new hl)) (.tup (st_of upd_same) (dpa_ex (Ex.new hl) _ _ ha))⟩⟩
theorem en_listOf (h : EvD K te σ H (.list ds)) : EvN K (tCB (fun xs H Q => ∃ p ys, xs = [.ref p] ∧ (SqL K H p ys ∨ SqT K H p ys) ∧ ∀ l, H l = none → Q (.ref l) (upd H l (.lst ys))) (tCons te tNil)) σ H ds := fun H1 e Q q =>
  h H1 e _ fun x H2 e2 hx => by
    cases hx with
    | lst hs ha => exact ⟨_, _, rfl, .inl hs, fun l hl => q _ _ _ (fresh_back e2 hl) (e2.trans (Ex.new hl)) upd_same (dpa_ex (Ex.new hl) _ _ ha)⟩
/-! ### tests -/
theorem ev_eqD {e1 e2 : PyData} (ha : EvD K ta σ H e1) (hb : EvD K tb σ H e2) (h1 : SeqAt.shaped e1 = true) (h2 : SeqAt.shaped e2 = true) : Ev (tOp (rEqD K) ta tb) σ H (.bl (PyData.eqv e1 e2)) := fun H1 e Q q =>
  ha H1 e _ fun x H2 e2' hx => hb H2 (e.trans e2') _ fun y H3 e3 hy => ⟨_, _, dp_ex e3 _ _ hx, hy, h1, h2, q H3 (e2'.trans e3)⟩
theorem eqvAll_ints : ∀ a b : List Int, PyData.eqvAll (dI a) (dI b) = decide (a = b)
  | [], [] => by simp [PyData.eqvAll]
  | [], _ :: _ => by simp [PyData.eqvAll]
  | _ :: _, [] => by simp [PyData.eqvAll]
  | x :: a, y :: b => by
    have ih := eqvAll_ints a b
    rw [dI, dI, List.map_cons, List.map_cons, PyData.eqvAll, ih, PyData.eqv]
    by_cases h : x = y
    · subst h; simp
    · simp [h]
theorem eqv_tI (a b : List Int) : PyData.eqv (tI a) (tI b) = decide (a = b) := by
  rw [PyData.eqv]
  exact eqvAll_ints a b
theorem canLay_ints : ∀ a : List Int, PyData.canLayAll0 (dI a) = true
  | [] => by simp [PyData.canLayAll0]
  | x :: a => by simp [PyData.canLayAll0, PyData.canLay0, canLay_ints a]
theorem depth_ints : ∀ a : List Int, PyData.depthAll (dI a) ≤ 1
  | [] => by simp [PyData.depthAll]
  | x :: a => by
    have h := depth_ints a
    rw [dI] at h
    rw [dI, List.map_cons, PyData.depthAll]
    simp only [PyData.depth]
    omega
theorem shaped_tI (a : List Int) : SeqAt.shaped (tI a) = true := by
  have h := depth_ints a
  show ((tI a).canLay0 && decide ((tI a).depth ≤ 64)) = true
  rw [Bool.and_eq_true]
  refine ⟨by rw [PyData.canLay0]; exact canLay_ints a, decide_eq_true ?_⟩
  rw [PyData.depth]
  omega
def isNoneD : PyData → Bool
  | .none => true
  | _ => false
theorem ev_isN {b : Bool} (ha : EvD K ta σ H d) (hb : b = isNoneD d) : Ev (tIsN ta) σ H (.bl b) := fun H1 e Q q =>
  ha H1 e _ fun x H2 e2 hx => by
    have : decide (x = V.non) = b := by
      rw [hb]
      cases hx <;> simp [isNoneD]
    rw [this]
    exact q H2 e2
theorem ev_notN {b : Bool} (ha : EvD K ta σ H d) (hb : b = !isNoneD d) : Ev (tNotN ta) σ H (.bl b) := fun H1 e Q q =>
  ha H1 e _ fun x H2 e2 hx => by
    have : (!decide (x = V.non)) = b := by
      rw [hb]
      cases hx <;> simp [isNoneD]
    rw [this]
    exact q H2 e2
/-- isinstance of an int, a bool, a tuple, a list -/
theorem ev_isi_int {nm : String} {b : Bool} {i : Int} (ha : Ev ta σ H (.int i)) (hb : kitB "int" nm = some b) : Ev (tCB (rIsi K) (tCons ta (tCons (tC (.ty nm)) tNil))) σ H (.bl b) := fun H1 e Q q =>
  ha H1 e _ fun H2 e2 => ⟨_, _, _, _, b, rfl, .ty nm, .base (.int i), kit_ty hb, q H2 e2⟩
theorem tyT {H : Hp} {a : Addr} {xs : List V} (h : SqT K H a xs) : TyX K H (.ref a) (.type "tuple") := by
  rcases h with (h | ⟨o, h⟩) | ⟨o, its, n, hk, hc, _⟩
  · exact .base (.tup h)
  · exact .fTuple h
  · exact .kTuple hk hc
theorem tyL {H : Hp} {a : Addr} {xs : List V} (h : SqL K H a xs) : TyX K H (.ref a) (.type "list") := by
  rcases h with (h | ⟨o, h⟩) | ⟨o, its, n, hk, hc, _⟩
  · exact .base (.lst h)
  · exact .base (.frz h)
  · exact .kList hk hc
theorem ev_isi_tup {nm : String} {b : Bool} (ha : EvD K ta σ H (.tuple ds)) (hb : kitB "tuple" nm = some b) : Ev (tCB (rIsi K) (tCons ta (tCons (tC (.ty nm)) tNil))) σ H (.bl b) := fun H1 e Q q =>
  ha H1 e _ fun x H2 e2 hx => by
    cases hx with
    | tup hs _ => exact ⟨_, _, _, _, b, rfl, .ty nm, tyT hs, kit_ty hb, q H2 e2⟩
/-- isinstance(x, (list, tuple)), x a list -/
theorem ev_isi_lst2 (ha : EvD K ta σ H (.list ds)) (h1 : kitB "list" "list" = some true) : Ev (tCB (rIsiT K) (tCons ta (tCons (tTup (tCons (tC (.ty "list")) (tCons (tC (.ty "tuple")) tNil))) tNil))) σ H (.bl true) := fun H1 e Q q =>
  ha H1 e _ fun x H2 e2 hx => by
    cases hx with
    | lst hs _ =>
      refine ⟨by show 2 ≤ sizeLine; decide, fun p hp => ?_⟩
      refine ⟨_, p, [.ty "list", .ty "tuple"], .type "list", [.type "list", .type "tuple"], true, rfl, upd_same, .cons (.ty _) (.cons (.ty _) .nil), tyL (ex_l (Ex.new hp) hs), ?_, q _ (e2.trans (Ex.new hp))⟩
      exact kitAny_cons (b := true) (kit_ty h1) (fun z => by cases z) fun _ => rfl
/-- a <= b <= c of ints -/
theorem ev_chain {f g : Int → Int → Bool} {tc : TE} {x y z : Int} (ha : Ev ta σ H (.int x)) (hb : Ev tb σ H (.int y)) (hc : Ev tc σ H (.int z)) :
    Ev (tChain (rI0 fun i j => .bl (f i j)) (rI0 fun i j => .bl (g i j)) ta tb tc) σ H (.bl (f x y && g y z)) := fun H1 e Q q =>
  ha H1 e _ fun H2 e2 => hb H2 (e.trans e2) _ fun H3 e3 => ⟨x, y, rfl, rfl, f x y, rfl, by
    cases h : f x y with
    | true =>
      show tc σ H3 _
      refine hc H3 ((e.trans e2).trans e3) _ fun H4 e4 => ⟨y, z, rfl, rfl, ?_⟩
      have := q H4 ((e2.trans e3).trans e4)
      rw [h, Bool.true_and] at this
      exact this
    | false =>
      show Q (.bl false) H3
      have := q H3 (e2.trans e3)
      rw [h, Bool.false_and] at this
      exact this⟩
/-- a list's truth -/
theorem et_lst (h : EvD K te σ H (.list ds)) : EvT (fun σ H Q => te σ H fun x H' => ∃ k, TruV K x H' k ∧ Q k H') σ H (!ds.isEmpty) := fun H1 e Q q =>
  h H1 e _ fun x H2 e2 hx => by
    cases hx with
    | lst hs ha =>
      refine ⟨_, .inl ⟨_, hs, rfl⟩, ?_⟩
      have : (!(List.isEmpty ‹List V›)) = !ds.isEmpty := by
        have n := dpa_len ha
        cases ds with
        | nil => rw [List.eq_nil_of_length_eq_zero n]; rfl
        | cons a b =>
          cases ‹List V› with
          | nil => simp at n
          | cons c d => rfl
      rw [this]
      exact q H2 e2
/-! ### arguments taken apart -/
theorem dpa_one {vs : List V} (h : DpAll K H vs [d]) : ∃ v, vs = [v] ∧ Dp K H v d := by
  cases h with
  | cons a b =>
    cases b
    exact ⟨_, rfl, a⟩
theorem dpa_two {vs : List V} {d2 : PyData} (h : DpAll K H vs [d, d2]) : ∃ v v2, vs = [v, v2] ∧ Dp K H v d ∧ Dp K H v2 d2 := by
  cases h with
  | cons a b =>
    obtain ⟨v, rfl, c⟩ := dpa_one b
    exact ⟨_, _, rfl, a, c⟩
theorem dpa_three {vs : List V} {d2 d3 : PyData} (h : DpAll K H vs [d, d2, d3]) : ∃ v v2 v3, vs = [v, v2, v3] ∧ Dp K H v d ∧ Dp K H v2 d2 ∧ Dp K H v3 d3 := by
  cases h with
  | cons a b =>
    obtain ⟨v, v2, rfl, c, c2⟩ := dpa_two b
    exact ⟨_, _, _, rfl, a, c, c2⟩
theorem dpa_four {vs : List V} {d2 d3 d4 : PyData} (h : DpAll K H vs [d, d2, d3, d4]) : ∃ v v2 v3 v4, vs = [v, v2, v3, v4] ∧ Dp K H v d ∧ Dp K H v2 d2 ∧ Dp K H v3 d3 ∧ Dp K H v4 d4 := by
  cases h with
  | cons a b =>
    obtain ⟨v, v2, v3, rfl, c, c2, c3⟩ := dpa_three b
    exact ⟨_, _, _, _, rfl, a, c, c2, c3⟩
/-- a tuple of ints, an int -/
theorem dpa_ti {vs : List V} {i : Int} (h : DpAll K H vs [d, .int i]) : ∃ v v1, vs = [v, v1] ∧ Dp K H v d ∧ v1 = .int i := by
  obtain ⟨v, v1, rfl, a, b⟩ := dpa_two h
  exact ⟨v, v1, rfl, a, dp_int b⟩
/-- an int, a tuple -/
theorem dpa_it {vs : List V} {i : Int} (h : DpAll K H vs [.int i, d]) : ∃ v, vs = [.int i, v] ∧ Dp K H v d := by
  obtain ⟨v, v1, rfl, a, b⟩ := dpa_two h
  cases dp_int a
  exact ⟨v1, rfl, b⟩
theorem dpa_iti {vs : List V} {i j : Int} (h : DpAll K H vs [.int i, d, .int j]) : ∃ v, vs = [.int i, v, .int j] ∧ Dp K H v d := by
  obtain ⟨v, v1, v2, rfl, a, b, c⟩ := dpa_three h
  cases dp_int a
  cases dp_int c
  exact ⟨v1, rfl, b⟩
theorem decide_vint (a b : Int) : decide (V.int a = V.int b) = decide (a = b) := by
  by_cases h : a = b
  · subst h; simp
  · simp [h]
/-- what is handed back is told by what holds of it -/
def spX (K : PySem.W.Frag) (n : Nat) (Pre : List PyData → Prop) (Post : List PyData → PyData → Prop) : Sp := fun vs H Q _ => ∃ ds, DpAll K H vs ds ∧ ds.length = n ∧ Pre ds ∧ ∀ r v H', Post ds r → Ex H H' → Dp K H' v r → Q v H'
theorem spX_len {n : Nat} {Pre : List PyData → Prop} {Post : List PyData → PyData → Prop} {vs : List V} {Q : VK} {E : XK} (h : spX K n Pre Post vs H Q E) : vs.length = n := by
  obtain ⟨ds, h1, h2, _⟩ := h
  rw [dpa_len h1, h2]
end
end DL
set_option Elab.async false
set_option linter.all false
set_option maxRecDepth 100000
set_option maxHeartbeats 2000000
namespace DL
open PySem PySem.Spec PyProof.Rows L2 Evl
theorem immAll_app : ∀ {a b : List PyData}, immAll a = true → immAll b = true → immAll (a ++ b) = true
  | [], _, _, h => h
  | x :: a, b, ha, hb => by
    simp only [immAll, Bool.and_eq_true] at ha
    rw [List.cons_append, immAll, ha.1, immAll_app ha.2 hb]
    rfl
theorem immAll_map {α : Type} {f : α → PyData} (h : ∀ a, imm (f a) = true) : ∀ l : List α, immAll (l.map f) = true
  | [] => by simp [immAll]
  | a :: l => by rw [List.map_cons, immAll, h a, immAll_map h l]; rfl
theorem immAll_flat {α : Type} {f : α → List PyData} (h : ∀ a, immAll (f a) = true) : ∀ l : List α, immAll (l.flatMap f) = true
  | [] => by simp [immAll]
  | a :: l => by rw [List.flatMap_cons]; exact immAll_app (h a) (immAll_flat h l)
section
variable {K : PySem.W.Frag} {σ : L2.St} {H H' : Hp} {ta tb te : TE} {t u : TT} {d : PyData} {ds es : List PyData} {v : V} {ns : List Int}
/-- two fors, their targets names, the items ints and tuples -/
theorem en_lc2 {wi wi1 : TI} {a b : Nat} {vs vs1 : List Nat} (h : EvI K wi σ H [] ds) (hi : immAll ds = true) (ds1 : Nat → List PyData) (hi1 : ∀ i, immAll (ds1 i) = true) (f : Nat → Nat → PyData) (hf : ∀ i j, imm (f i j) = true)
    (hl : ∀ i, (ds1 i).length ≤ 100) (hn : ds.length ≤ 100) (hw : ∀ x, wipe ((wipe σ vs).set a (some x)) vs = wipe σ vs)
    (hw1 : ∀ x y, wipe ((wipe ((wipe σ vs).set a (some x)) vs1).set b (some y)) vs1 = wipe ((wipe σ vs).set a (some x)) vs1)
    (hs : ∀ i d x H3, ds[i]? = some d → Dp K H3 x d → (∀ S, Ls H3 S → EvI K wi1 ((wipe σ vs).set a (some x)) H3 S (ds1 i)) ∧
      ∀ j d' y H5, (ds1 i)[j]? = some d' → Dp K H5 x d → Dp K H5 y d' → EvD K te ((wipe ((wipe σ vs).set a (some x)) vs1).set b (some y)) H5 (f i j)) :
    EvN K (tLc2 wi (gName a) tYes wi1 (gName b) tYes te vs vs1) σ H ((List.range ds.length).flatMap fun i => (List.range (ds1 i).length).map (f i)) := fun H1 e Q q => h H1 e _ fun J H2 e2 w => fun Dl hD => by
  have len : ∀ n, n ≤ ds.length → (((List.range n).flatMap fun i => (List.range (ds1 i).length).map (f i))).length ≤ 100 * n := fun n => by
    induction n with
    | zero => intro _; simp
    | succ n ih =>
      intro hn
      rw [List.range_succ, List.flatMap_append, List.length_append]
      have h1 := ih (by omega)
      have h2 := hl n
      rw [List.flatMap_cons, List.flatMap_nil, List.append_nil, List.length_map, List.length_range]
      omega
  have imf : ∀ n, immAll ((List.range n).flatMap fun i => (List.range (ds1 i).length).map (f i)) = true := fun n => immAll_flat (fun i => immAll_map (hf i) _) _
  let G : Nat → Hp → Prop := fun n Ha => ∃ ws, Ex H2 Ha ∧ Ha Dl = some (.lst ws) ∧ DpAll K Ha ws ((List.range n).flatMap fun i => (List.range (ds1 i).length).map (f i))
  have G0 : G 0 (upd H2 Dl (.lst [])) := ⟨[], Ex.new hD, upd_same, by simp; exact .nil⟩
  refine ⟨fun i m Ha => m = ds.length - i ∧ i ≤ ds.length ∧ G i Ha, ⟨_, rfl, Nat.zero_le _, G0⟩, ?_⟩
  rintro i m Ha ⟨rfl, hi', p⟩
  obtain ⟨ws, p1, p2, p3⟩ := p
  have gX : Xp [] H2 Ha := Xp.of_ex p1
  by_cases hlt : i < ds.length
  · refine .inr ⟨w.goes i Ha hlt gX, G (i + 1), fun H' p' => ⟨ds.length - (i + 1), by omega, rfl, hlt, p'⟩, fun x Hb y => ?_⟩
    obtain ⟨ey, d, hd1, hd2⟩ := w.yields i Ha x Hb hlt gX y
    refine ⟨hw x, ?_⟩
    show wi1 _ Hb _
    have di : imm d = true := by
      have all : ∀ {l : List PyData} {i : Nat} {d : PyData}, immAll l = true → l[i]? = some d → imm d = true := by
        intro l
        induction l with
        | nil => intro i d _ e; simp at e
        | cons x l ih =>
          intro i d hh e
          simp only [immAll, Bool.and_eq_true] at hh
          cases i with
          | zero => simp at e; subst e; exact hh.1
          | succ i => exact ih hh.2 (by simpa using e)
      exact all hi hd1
    obtain ⟨hq1, hq2⟩ := hs i d x Hb hd1 hd2
    have atB : Hb Dl = some (.lst ws) := ey _ _ p2
    refine hq1 [Dl] (Ls.one atB) Hb (Ex.refl _) _ fun J1 H4 e4 w1 => ?_
    let G1 : Nat → Hp → Prop := fun j Hc => ∃ wt, Xp [Dl] H4 Hc ∧ Ex H2 Hc ∧ Hc Dl = some (.lst wt) ∧ DpAll K Hc wt (((List.range i).flatMap fun i => (List.range (ds1 i).length).map (f i)) ++ (List.range j).map (f i))
    have e24 : Ex H2 H4 := (p1.trans ey).trans e4
    have G10 : G1 0 H4 := ⟨ws, Xp.refl _ _, e24, e4 _ _ atB, by simp; exact dpa_ex (ey.trans e4) _ _ p3⟩
    have tx4 : ∀ {Hc}, Xp [Dl] H4 Hc → Tx H4 Hc := fun z => z.tx ((Ls.one atB).ex e4)
    refine ⟨fun j k Hc => k = (ds1 i).length - j ∧ j ≤ (ds1 i).length ∧ G1 j Hc, ⟨_, rfl, Nat.zero_le _, G10⟩, ?_⟩
    rintro j k Hc ⟨rfl, hj, wt, r1, r2, r3, r4⟩
    by_cases hjt : j < (ds1 i).length
    · refine .inr ⟨w1.goes j Hc hjt r1, G1 (j + 1), fun H' p' => ⟨(ds1 i).length - (j + 1), by omega, rfl, hjt, p'⟩, fun y2 Hd yy => ?_⟩
      obtain ⟨ez, d', hd1', hd2'⟩ := w1.yields j Hc y2 Hd hjt r1 yy
      refine ⟨hw1 x y2, ?_⟩
      show te _ Hd _
      have tx : Tx Hb Hd := ((Tx.of_ex e4).trans (tx4 r1)).trans (Tx.of_ex ez)
      refine hq2 j d' y2 Hd hd1' (dp_tx tx _ _ di hd2) hd2' Hd (Ex.refl _) _ fun v7 H7 e7 hv => ⟨wt, e7 _ _ (ez _ _ r3), ?_, wt ++ [v7], ?_, ?_, upd_same, ?_⟩
      · have l1 := dpa_len r4
        have l2 := len i (by omega)
        have l3 := hl i
        rw [List.length_append, List.length_map, List.length_range] at l1
        exact sz_lt (by omega)
      · exact Xp.upd (Xp.then r1 (ez.trans e7)) (by simp)
      · exact Ex.mut ((r2.trans ez).trans e7) hD
      · have at7 : H7 Dl = some (.lst wt) := e7 _ _ (ez _ _ r3)
        rw [List.range_succ (n := j), List.map_append, ← List.append_assoc]
        refine dpa_app (dpa_tx (Tx.lst at7) _ _ (immAll_app (imf i) (immAll_map (hf i) _)) (dpa_ex (ez.trans e7) _ _ r4)) ?_
        exact .cons (dp_tx (Tx.lst at7) _ _ (hf i j) hv) .nil
    · have ej : j = (ds1 i).length := by omega
      subst ej
      refine .inl ⟨w1.stops Hc r1, wt, r2, r3, ?_⟩
      rw [List.range_succ, List.flatMap_append]
      simpa using r4
  · have ei : i = ds.length := by omega
    subst ei
    exact .inl ⟨w.stops Ha gX, q Dl ws Ha (fresh_back e2 hD) (e2.trans p1) p2 p3⟩
end
/-- a statement, then the rest -/
theorem q_asgD {t1 t2 : TS} {D : Ends} {σ : L2.St} {H : Hp} (h : t1 { D with nx := t2 D } σ H) : tSeq t1 t2 D σ H := h
section
variable {K : PySem.W.Frag} {σ : L2.St} {H H' : Hp} {ta tb te : TE} {d : PyData} {ds : List PyData} {D : Ends} {tz : TS}
theorem qd_asg {k : Nat} (h : EvD K te σ H d) (q : ∀ v H1, Ex H H1 → Dp K H1 v d → tz D (σ.set k (some v)) H1) : tSeq (tAsg te (gName k)) tz D σ H := h H (Ex.refl H) _ q
theorem qn_asg {k : Nat} (h : EvN K te σ H ds) (q : ∀ p vs H1, H p = none → Ex H H1 → H1 p = some (.lst vs) → DpAll K H1 vs ds → tz D (σ.set k (some (.ref p))) H1) : tSeq (tAsg te (gName k)) tz D σ H := h H (Ex.refl H) _ q
theorem qi_asg {k : Nat} {v : V} (h : Ev te σ H v) (q : ∀ H1, Ex H H1 → tz D (σ.set k (some v)) H1) : tSeq (tAsg te (gName k)) tz D σ H := h H (Ex.refl H) _ q
theorem qd_drop (h : EvD K te σ H d) (q : ∀ H1, Ex H H1 → tz D σ H1) : tSeq (tDrop te) tz D σ H := h H (Ex.refl H) _ fun _ H1 e _ => q H1 e
theorem qd_app {l : Addr} {xs : List V} (hl : H l = some (.lst xs)) (ha : Ev ta σ H (.ref l)) (h : EvD K te σ H d) (hz : xs.length < 100000) (q : ∀ v H1, Ex H H1 → Dp K H1 v d → tz D σ (upd H1 l (.lst (xs ++ [v])))) :
    tSeq (tDrop (tBM K "list" rAppend ta (tCons te tNil))) tz D σ H := d_app (D := { D with nx := tz D }) hl ha h hz q
end
/-! ### a tuple times 1 and more -/
theorem tuple_mul1 (l : Addr) (items : Array Value) (n : Nat) (dd : Option Addr) (sl : Array (Option Value)) (u : Tok) :
    Meets (Builtin.«tuple.__mul__» ⟨[.ref l, .int 1 u], []⟩) (fun _ R s => s.heap.get? l = some { cls := .type "tuple", dict := dd, data := .seq items n, slots := sl } ∧ R (.ok (.ret (Value.ref l))) s) :=
  .of_wp fun prog w A R s h => by
    obtain ⟨hp, g, d, tk, os⟩ := s
    obtain ⟨hl, h⟩ := h
    have f1 := AutoSeq1.idx_int
    have c0 : (decide ((1 : Int) < -(2 ^ 63)) || decide ((1 : Int) ≥ 2 ^ 63)) = false := by decide
    have c1 : (items.isEmpty || ((1 : Int) == 1)) = true := by simp
    wp_walk using AutoSeq1.wpAny_loadPart' hl
    repeat (first
      | (refine wpAny_ite_false (decide_eq_false (by rw [c0]; exact Bool.false_ne_true)) ?_; wp_walk using AutoSeq1.wpAny_loadPart' hl)
      | (refine wpAny_ite_true (decide_eq_true c1) ?_; wp_walk using AutoSeq1.wpAny_loadPart' hl))
    exact ⟨_, rfl, h⟩
def rMul1 (K : PySem.W.Frag) : R2 := fun x y H Q => ∃ l xs, x = .ref l ∧ y = .int 1 ∧ SqT K H l xs ∧ Q (.ref l) H
theorem op_mul1 {X : Cx} : OpR X (binaryOp .Mult) (rMul1 X.K) := by
  intro pins s σ H x y v u Q I rx ry h
  obtain ⟨l, xs, rfl, rfl, hT, q⟩ := h
  cases rx
  obtain ⟨t, rfl⟩ := ry
  obtain ⟨its, r, ⟨⟨cls, dd, data, sl⟩, ho, hc, n, hd⟩, hs⟩ := I.tuple hT
  simp only at hc hd
  subst hc hd
  exact wpAny_binaryOp_repeat_ref (T := "tuple") (U := "int") (by decide) ⟨_, ho, rfl⟩ (fun s' => typeIs_int s' 1 t) noFill_tuple_mul F.fills_int_mul F.slot_int_rmul repeat_tuple
    F.slot_int_index.lookup (call_meets F.slot_int_rmul (typeIs_int s 1 t) F.entry_int_rmul (F.args_int_rmul_2 _ _) (int_rmul_tuple 1 t l its.toArray n dd sl)
      ⟨ho, rfl, ⟨_, ho, rfl⟩, call_meets F.slot_tuple_mul ⟨_, ho, rfl⟩ F.entry_tuple_mul (F.args_tuple_mul_2 _ _) (tuple_mul1 l its.toArray n dd sl t) ⟨ho, ⟨.ref l, H, I, rfl, q⟩⟩⟩)
theorem op_repT1 {X : Cx} : OpR X (binaryOp .Mult) (fun x y H Q => rMul1 X.K x y H Q ∨ rRepT X.K x y H Q) := OpR.or op_mul1 op_repT
section
variable {K : PySem.W.Frag} {σ : L2.St} {H H' : Hp} {ta tb te : TE} {d : PyData}
theorem ed_rep1 {n : Int} (ha : EvD K ta σ H (.tuple [d])) (hb : Ev tb σ H (.int n)) (h1 : 1 ≤ n) (h2 : n ≤ 1000) : EvD K (tOp (fun x y H Q => rMul1 K x y H Q ∨ rRepT K x y H Q) ta tb) σ H (.tuple (List.replicate n.toNat d)) := fun H1 e Q q =>
  ha H1 e _ fun x H2 e2 hx => hb H2 (e.trans e2) _ fun H3 e3 => by
    cases hx with
    | tup hs hd =>
      cases hd with
      | cons a b =>
        cases b
        rename_i v
        by_cases hn : n = 1
        · subst hn
          exact .inl ⟨_, _, rfl, rfl, ex_t e3 hs, q _ H3 (e2.trans e3) (.tup (ex_t e3 hs) (.cons (dp_ex e3 _ _ a) .nil))⟩
        · refine .inr ⟨_, n, _, rfl, rfl, ex_t e3 hs, by simp, by omega, h2, by simp, fun l hl => ?_⟩
          have ef : (List.replicate n.toNat [v]).flatten = List.replicate n.toNat v := by
            induction n.toNat with
            | zero => rfl
            | succ k ih => rw [List.replicate_succ, List.flatten_cons, ih, List.replicate_succ]; rfl
          rw [ef]
          exact q _ _ ((e2.trans e3).trans (Ex.new hl)) (.tup (st_of upd_same) (dpa_rep (dp_ex (e3.trans (Ex.new hl)) _ _ a) _))
end
end DL
set_option Elab.async false
set_option linter.all false
set_option maxRecDepth 100000
set_option maxHeartbeats 2000000
namespace DL
open PySem PySem.Spec PyProof.Rows L2 Evl
section
variable {K : PySem.W.Frag} {σ : L2.St} {H H' : Hp} {ta tb te : TE} {d : PyData} {ds es : List PyData} {D : Ends} {tz : TS}
theorem g_three {g1 g2 g3 : TG} {d1 d2 d3 : PyData} {x : V} {Q : L2.St → Hp → Prop} (h : Dp K H x (.tuple [d1, d2, d3])) (k : ∀ v1 v2 v3, Dp K H v1 d1 → Dp K H v2 d2 → Dp K H v3 d3 → g1 v1 σ H fun σ1 H1 => g2 v2 σ1 H1 fun σ2 H2 => g3 v3 σ2 H2 Q) :
    gTup K 3 (gCons g1 (gCons g2 (gCons g3 gNil))) x σ H Q := by
  cases h with
  | tup hs ha =>
    cases ha with
    | cons a b =>
      cases b with
      | cons b c =>
        cases c with
        | cons c f =>
          cases f
          rename_i v1 v2 v3
          refine ⟨_, _, rfl, hs, rfl, v1, [v2, v3], rfl, ?_⟩
          have q := k v1 v2 v3 a b c
          have e : (fun σ1 H1 => g2 v2 σ1 H1 fun σ2 H2 => g3 v3 σ2 H2 Q) = fun σ1 H1 => gCons g2 (gCons g3 gNil) [v2, v3] σ1 H1 Q := by
            funext σ1 H1
            apply propext
            rw [gl_one]
            exact ⟨fun z => ⟨v2, [v3], rfl, z⟩, fun ⟨w, r, e, z⟩ => by cases e; exact z⟩
          rw [← e]
          exact q
/-- a, b = e; a, b, c = e -/
theorem qd_unp2 {a b : Nat} {d1 d2 : PyData} (h : EvD K te σ H (.tuple [d1, d2])) (k : ∀ v1 v2 H1, Ex H H1 → Dp K H1 v1 d1 → Dp K H1 v2 d2 → tz D ((σ.set a (some v1)).set b (some v2)) H1) :
    tSeq (tAsg te (gTup K 2 (gCons (gName a) (gCons (gName b) gNil)))) tz D σ H := h H (Ex.refl _) _ fun v H1 e hv => g_two hv fun v1 v2 h1 h2 => k v1 v2 H1 e h1 h2
theorem qd_unp3 {a b c : Nat} {d1 d2 d3 : PyData} (h : EvD K te σ H (.tuple [d1, d2, d3])) (k : ∀ v1 v2 v3 H1, Ex H H1 → Dp K H1 v1 d1 → Dp K H1 v2 d2 → Dp K H1 v3 d3 → tz D (((σ.set a (some v1)).set b (some v2)).set c (some v3)) H1) :
    tSeq (tAsg te (gTup K 3 (gCons (gName a) (gCons (gName b) (gCons (gName c) gNil))))) tz D σ H := h H (Ex.refl _) _ fun v H1 e hv => g_three hv fun v1 v2 v3 h1 h2 h3 => k v1 v2 v3 H1 e h1 h2 h3
/-- a list that is read and stays meanwhile -/
theorem ei_lstD (h : EvD K te σ H (.list ds)) (hi : immAll ds = true) : EvI K (iList K te) σ H [] ds := fun H1 e R r =>
  h H1 e _ fun w H2 e2 hw => by
    cases hw with
    | lst hs ha =>
      refine ⟨_, rfl, ⟨_, hs⟩, r _ H2 e2 ?_⟩
      rw [← dpa_len ha]
      refine walk_list.mono (fun Ha x => ex_l x.to_ex hs) fun i Ha x Hb hlt hg y => ?_
      obtain ⟨rfl, hx⟩ := y
      obtain ⟨d, hd1, hd2⟩ := dpa_getV (dpa_ex hg.to_ex _ _ ha) hx
      exact ⟨Ex.refl _, d, hd1, hd2⟩
theorem sqL_xp {p q : Addr} {vs : List V} {H1 Ha : Hp} (h : SqL K H q vs) (hp : H p = none) (e : Ex H H1) (x : Xp [p] H1 Ha) : SqL K Ha q vs := by
  have at_ : ∀ o, H q = some o → Ha q = some o := fun o ho => x q o (e q o ho) (fun hm => by
    have : q = p := by simpa using hm
    rw [this, hp] at ho
    cases ho)
  rcases h with (h | ⟨o, h⟩) | h
  · exact .inl (.inl (at_ _ h))
  · exact .inl (.inr ⟨o, at_ _ h⟩)
  · exact .inr h
/-- zip of two lists that are read -/
theorem ei_zipLL {es : List PyData} (ha : EvD K ta σ H (.list ds)) (hb : EvD K tb σ H (.list es)) (hi : immAll ds = true) (hj : immAll es = true) :
    EvI K (iZipM K false false (tCons ta (tCons tb tNil))) σ H [] (List.zipWith (fun x y => PyData.tuple [x, y]) ds es) := fun H1 e R r =>
  ha H1 e _ fun x H2 e2 hx => hb H2 (e.trans e2) _ fun y H3 e3 hy => by
    cases hx with
    | @lst a1 xs1 _ hs1 ha1 =>
      cases hy with
      | @lst a2 xs2 _ hs2 ha2 =>
        have hs1 := ex_l e3 hs1
        have ha1 := dpa_ex e3 _ _ ha1
        refine ⟨_, _, _, _, rfl, sqa_l hs1, sqa_l hs2, r _ H3 (e2.trans e3) ?_⟩
        rw [List.length_zipWith, ← dpa_len ha1, ← dpa_len ha2]
        have w := walk_zipM (K := K) (a := a1) (b := a2) (xs := xs1) (ys := xs2) (t := false) (u := false) (n := min xs1.length xs2.length) rfl
        refine (w.mono (fun Ha x => ⟨ex_l x.to_ex hs1, ex_l x.to_ex hs2⟩) fun i Ha v Hb hlt hg y => ?_)
        obtain ⟨T, v1, v2, rfl, hT, rfl, g1, g2⟩ := y
        obtain ⟨d1, q1, q2⟩ := dpa_getV (dpa_ex (hg.to_ex.trans (Ex.new hT)) _ _ ha1) g1
        obtain ⟨d2, q3, q4⟩ := dpa_getV (dpa_ex (hg.to_ex.trans (Ex.new hT)) _ _ ha2) g2
        refine ⟨Ex.new hT, .tuple [d1, d2], ?_, .tup (st_of upd_same) (.cons q2 (.cons q4 .nil))⟩
        rw [List.getElem?_zipWith, q1, q3]
theorem hu64 {A : Around} {k : Nat} (hr : Room k A) : A.units + 64 < cLine := by
  have := hr.un
  omega
theorem ix_tupK {X : Cx} (K : PySem.W.Frag) (h : X.K = K) : IxR X (rIxT K) := h ▸ ix_tup
theorem ix_listK {X : Cx} (K : PySem.W.Frag) (h : X.K = K) : IxR X (rIxL K) := h ▸ ix_list
theorem immAll_dI (l : List Int) : immAll (dI l) = true := immAll_ints l
theorem immAll_tI (l : List (List Int)) : immAll (l.map tI) = true := immAll_tIs l
end
end DL
set_option Elab.async false
set_option linter.all false
set_option maxRecDepth 100000
set_option maxHeartbeats 2000000
/-! an error that is caught, kept by a name and handed back -/
namespace DL
open PySem PySem.Spec PyProof.Rows L2
/-- an error of the class cls without attributes of its own -/
def ErO (cls : Value) (a : Addr) : HO := .ext fun h => ∃ oe : Obj, h.get? a = some oe ∧ Zc cls none oe ∧ ∃ vs, oe.data = .fields vs
theorem erO_ok {P : Program} {w : World} {H : Hp} {h : Heap} {a : Addr} {cls : Value} {oe : Obj} (e : h.get? a = some oe) (z : Zc cls none oe) (d : ∃ vs, oe.data = .fields vs) : ObjOk P w H h a (ErO cls a) :=
  ⟨⟨oe, e, z, d⟩, ⟨oe, e⟩, fun _ _ p k => by
    obtain ⟨u, hu, r⟩ := p
    exact ⟨u, k u hu, r⟩⟩
section
variable {X : Cx} {pins : List (Addr × Obj)} {σ : L2.St} {H : Hp} {s : Shared}
theorem inv_track {a : Addr} {cls : Value} {oe : Obj} (I : Inv X pins σ H s) (e : s.heap.get? a = some oe) (hn : H a = none) (h0 : X.s_0.heap.get? a = none) (nL : a ≠ X.env.locals) (np : ∀ p ∈ X.pn ++ pins, p.1 ≠ a)
    (z : Zc cls none oe) (d : ∃ vs, oe.data = .fields vs) : Inv X pins σ (upd H a (ErO cls a)) s := by
  have other : ∀ b u, H b = some u → upd H a (ErO cls a) b = some u := fun b u q => by
    rw [upd_ne (ne_of_none q hn)]
    exact q
  obtain ⟨fs, hd⟩ := d
  exact {
    ok := I.ok
    os := I.os
    bare := I.bare
    base := {
      keep := I.base.keep
      slot := I.base.slot
      free := fun b u q n hx => by
        have : b ≠ a := fun y => by rw [y, h0] at q; cases q
        rw [upd_ne this]
        exact I.base.free b u q n hx
      there := I.base.there
      tups := fun b xs q => other _ _ (I.base.tups b xs q)
      frzs := fun b u xs q => other _ _ (I.base.frzs b u xs q)
      tbls := fun b ps q => by
        obtain ⟨more, m⟩ := I.base.tbls b ps q
        exact ⟨more, other _ _ m⟩ }
    loc := I.loc
    cell := I.cell
    free := by rw [upd_ne (Ne.symm nL)]; exact I.free
    freeC := fun y c q => by
      have : c ≠ a := fun eq => by
        obtain ⟨v, o, ho, hv⟩ := I.cell y c q
        rw [eq, e] at ho
        cases ho
        rw [hd] at hv
        cases hv
      rw [upd_ne this]
      exact I.freeC y c q
    pin := fun p hp => by
      obtain ⟨p1, p2, p3⟩ := I.pin p hp
      exact ⟨p1, by rw [upd_ne (np p hp)]; exact p2, p3⟩
    hok := fun b u q => by
      by_cases hb : b = a
      · subst hb
        rw [upd_same] at q
        cases q
        exact erO_ok e z ⟨fs, hd⟩
      · rw [upd_ne hb] at q
        exact (I.hok b u q).stay (fun _ _ _ r => r) (fun _ r => other _ _ r) fun _ _ r => other _ _ r
    len := I.len }
/-- isinstance(e, C) of such an error -/
def rIsK (K : PySem.W.Frag) : List V → Hp → VK → Prop := fun xs H Q => ∃ (a D : Addr) (c : V) (cv : Value) (b : Bool), xs = [.ref a, c] ∧ H a = some (ErO (.ref D) a) ∧ ExcC K D ∧ (∀ u, RelV c u → u = cv) ∧ PySem.W.kitOne K (.ref D) cv = some b ∧ Q (.bl b) H
theorem call_isK : CallR X (.builtin "isinstance") (rIsK X.K) := by
  intro pins s σ H xs us Q I r h
  obtain ⟨a, D, c, cv, b, rfl, ha, C, hcv, e, q⟩ := h
  obtain ⟨u1, u2, rfl, ra, rc⟩ := vals2 r
  cases ra
  have ec := hcv _ rc
  subst ec
  obtain ⟨⟨oe, ho, hz, fs, hd⟩, _⟩ := I.hok a _ ha
  have J : PySem.W.InstAt s.heap a oe D none := by
    cases oe with
    | mk oc od oda osl =>
      obtain ⟨z1, z2⟩ := hz
      have z1 : oc = .ref D := z1
      have z2 : od = none := z2
      have hd : oda = .fields fs := hd
      subst z1 z2 hd
      exact ⟨ho, rfl, rfl, trivial⟩
  exact PySem.W.kia_one (PySem.W.handS_kitx_exc C.hg C.hk C.hs C.hd C.ha C.hn C.ht C.hm) I.kIn J e (fun z => nomatch z) fun tk => ⟨.bl b, H, I.kept (t' := tk) fun _ _ z => z, rfl, q⟩
end
end DL
set_option Elab.async false
set_option linter.all false
set_option maxRecDepth 100000
set_option maxHeartbeats 2000000
namespace DL
open PySem PySem.Spec PyProof.Rows L2
/-- what 'except x as n' wishes of an error that it takes for sure: behind the suite the error is known at its place -/
def wKeep (K : PySem.W.Frag) (c : Value) (i : Nat) (ts : Addr → Value → TS) (D : Ends) : WX := fun cls d σ H => PySem.W.exmOne K cls c = some true ∧ d = none ∧
  ∀ a, H a = none → ts a cls { nx := fun σ2 H2 => D.nx (σ2.set i none) (upd H2 a (ErO cls a)), rt := fun _ _ => False, bk := fun _ _ => False, ct := fun _ _ => False } (σ.set i (some (.ref a))) H
section
variable {X : Cx} {x n : Str} {c : Value} {i : Nat} {body suite : List Stmt} {b₀ : Stmt} {np pos pos' : Pos} {tb : WX → TS} {ts : Addr → Value → TS}
theorem frs_not {B h : Heap} {l : List Env} {a : Addr} {o : Obj} {fs : Array Value} (ff : h.FunFrames B l) (e : h.get? a = some o) (d : o.data = .fields fs) : a ∉ frs l := fun m => by
  obtain ⟨_, u, hu, no⟩ := ff.mem m
  rw [e] at hu
  cases hu
  exact no _ d
theorem ps_keep (hex : X.ex = []) (hst : X.stack = X.env :: X.outer) (hfr : X.env.frame = some X.env.locals) (nd : X.N.Nodup) (hi : X.N[i]? = some n) (loc : X.env.kindOf n = some .local) (cn : Names X x c)
    (hb : ∀ (W : WX) (pn : List (Addr × Obj)) (xe : Value → Shared → Prop), Takes (X.tr pn xe) W → PassesOwn (model X.prog X.w) X.A X.env xe → PSs (X.tr pn xe) body (tb W))
    (hsu : ∀ (a : Addr) (oe : Obj) (cls : Value) (pn : List (Addr × Obj)), Zc cls none oe → (∃ vs, oe.data = .fields vs) → PSs (X.suite a ((a, oe) :: pn)) (b₀ :: suite) (ts a cls)) :
    PS X (.Try body [.ExceptHandler (some (.Name x np)) (some n) (b₀ :: suite) pos'] [] [] pos) (fun D σ H => tb (wKeep X.K c i ts D) D σ H) := by
  constructor
  intro pins s σ H D I h
  have ok := I.ok
  have frames : X.A.frames = some (X.env :: X.outer) := ok.frames.trans (congrArg some hst)
  apply wpAny_Try_except
  have run := (hb (wKeep X.K c i ts D) (X.pn ++ pins)
    (fun e s1 => wpAny (model X.prog X.w) X.A (noteFrame e X.env)
      (fun _ s2 => wpAny (model X.prog X.w) X.A (setFlight e none)
        (fun _ s3 => wpAny (model X.prog X.w) X.A (handleBy e X.env [.ExceptHandler (some (.Name x np)) (some n) (b₀ :: suite) pos']) (SP X pins D) X.xe s3) X.xe s2) X.xe s1)
    (fun u t caught => ?_) PassesOwn.looking).run [] s σ H D (I.toTry _) h
  · refine wpAny_mono run (fun fl t sp => ?_) fun _ _ q => q
    cases fl with
    | ret u =>
      obtain ⟨v, σ1, H1, J, r, q⟩ := sp
      exact ⟨v, σ1, H1, J.ofTry ok, r, q⟩
    | next =>
      obtain ⟨σ1, H1, J, q⟩ := sp
      exact wpAny_execs_nil (show SP X pins D .next t from ⟨σ1, H1, J.ofTry ok, q⟩)
    | brk =>
      obtain ⟨σ1, H1, J, q⟩ := sp
      exact ⟨σ1, H1, J.ofTry ok, q⟩
    | cont =>
      obtain ⟨σ1, H1, J, q⟩ := sp
      exact ⟨σ1, H1, J.ofTry ok, q⟩
  · obtain ⟨a, B, sI, pinsT, σ1, H1, cls, d, rfl, JT, nb, up, sky, na, os, bare, hx, rfl, wish⟩ := caught
    have J : Inv X pins σ1 H1 sI := JT.ofTry ok
    rw [hst] at sky
    show wpAny (model X.prog X.w) X.A (noteFrame (.ref a) X.env) _ _ _
    refine Sky.land Zc.steady frames hfr sky fun hA flA upA => ?_
    have JA : Inv X pins σ1 H1 { t with heap := hA } := J.landed nb flA.1 (up.trans upA) os bare
    obtain ⟨oA, vA, eA, zA, dA⟩ := flA.there
    have nfr := frs_not flA.2.2.1 eA dA
    have nL : a ≠ X.env.locals := fun q => nfr (List.mem_filterMap.mpr ⟨X.env, List.mem_cons_self, hfr.trans (congrArg some q.symm)⟩)
    have nF : a ∉ X.fs := fun q => by
      obtain ⟨en, m, r⟩ := List.mem_filterMap.mp q
      exact nfr (List.mem_filterMap.mpr ⟨en, List.mem_cons_of_mem _ m, r⟩)
    have fresh : sI.heap.get? a = none := by
      cases q : sI.heap.get? a with
      | none => rfl
      | some o =>
        have z := nb a o q (by rw [hst]; exact nfr)
        rw [flA.2.1] at z
        cases z
    have fresh0 : X.s_0.heap.get? a = none := by
      cases q : X.s_0.heap.get? a with
      | none => rfl
      | some o =>
        obtain ⟨u, hu⟩ := J.base.there a o q (by rw [hex]; simp)
        rw [fresh] at hu
        cases hu
    have npin : ∀ p ∈ X.pn ++ pins, p.1 ≠ a := fun p hp q => by
      have z := (J.pin p hp).1
      rw [q, fresh] at z
      cases z
    have SA := JA.suite eA dA na nL nF
    apply wpAny_handleBy_cons
    · apply codeAny_handlers_test
      have LM := PySem.W.exm_one (M := model X.prog X.w) JA.kIn (e := a) (cls := cls) (fun A' Q' E' s' k q => wpAny_typeOf_ref (k _ _ eA) (by rw [zA.1]; exact q)) hx
      have named : ∀ {Q1 E1 : Value → Shared → Prop}, Q1 c { t with heap := hA } → wpAny (model X.prog X.w) (X.A.mark (some (.ref a))) (eval (.Name x np) X.env) Q1 E1 { t with heap := hA } := fun {Q1 E1} q => by
        obtain ⟨g, db, k | ⟨k, bt, nn⟩⟩ := cn
        · exact ld_glob (X := X.suite a ((a, oA) :: (X.pn ++ pins))) SA g k q db
        · exact ld_blt (X := X.suite a ((a, oA) :: (X.pn ++ pins))) SA g k bt q nn db
      apply named
      apply LM.here
      apply codeAny_handlers_suite_as
      refine HandSPX.lands_againZ flA fun hB flB upB => ?_
      have JB : Inv X pins σ1 H1 { t with heap := hB } := J.landed nb flB.1 ((up.trans upA).trans upB) os bare
      obtain ⟨oB, vB, eB, zB, dB⟩ := flB.there
      refine store_ok (X := X.suite a ((a, oB) :: (X.pn ++ pins))) (v := .ref a) (JB.suite eB dB na nL nF) nd hi (.inl loc) rfl (fun s5 S5 => ?_) (.inr loc)
      refine wpAny_mono ((hsu a oB cls (X.pn ++ pins) zB ⟨_, dB⟩).run [] s5 _ H1 _ S5 (wish a na)) (fun fl s6 sp => ?_) fun _ _ q => q.elim
      cases fl with
      | next =>
        obtain ⟨σ6, H6, S6, q6⟩ := sp
        have P6 : Inv X ((a, oB) :: pins) σ6 H6 s6 := {
          ok := ok
          os := S6.os
          bare := S6.bare
          base := S6.base
          loc := S6.loc
          cell := S6.cell
          free := S6.free
          freeC := S6.freeC
          pin := fun p hp => S6.pin p (by
            show p ∈ ((a, oB) :: (X.pn ++ pins)) ++ []
            rw [List.append_nil]
            rcases List.mem_append.mp hp with q | q
            · exact List.mem_cons_of_mem _ (List.mem_append_left _ q)
            · rcases List.mem_cons.mp q with q | q
              · rw [q]; exact List.mem_cons_self
              · exact List.mem_cons_of_mem _ (List.mem_append_right _ q))
          hok := S6.hok
          len := S6.len }
        refine gone_ok P6 nd hi loc fun s7 J7 => ?_
        obtain ⟨g7, n7, l7, _⟩ := J7.pin (a, oB) (List.mem_append_right _ List.mem_cons_self)
        have J8 : Inv X pins (σ6.set i none) H6 s7 := J7.pins_of fun p hp => J7.pin p (List.mem_append_right _ (List.mem_cons_of_mem _ hp))
        exact ⟨_, _, inv_track J8 g7 n7 fresh0 l7 npin zB ⟨_, dB⟩, q6⟩
      | brk => exact (sp.elim fun _ z => z.elim fun _ z => z.2.elim)
      | cont => exact (sp.elim fun _ z => z.elim fun _ z => z.2.elim)
      | ret u => exact (sp.elim fun _ z => z.elim fun _ z => z.elim fun _ z => z.2.2.elim)
    · intro q
      cases q
end
end DL
set_option Elab.async false
set_option linter.all false
set_option maxRecDepth 100000
set_option maxHeartbeats 4000000
/-! a lambda without parameters as a value: made, held by a name, called by a def that catches what it raises -/
namespace DL
open PySem PySem.Spec PyProof.Rows L2 LamX
/-- the lambda at f, its code object at c' -/
def LamO (f c' : Addr) (q : Str) (params : Arguments) (body : Expr) (scope : Scope) (cl : List (Str × Addr)) : HO := .ext fun h => ∃ pm ctv : Value, h.get? f = some (PySem.W.kla_obj "<lambda>" q params body scope cl pm c' ctv)
theorem lamO_ok {P : Program} {w : World} {H : Hp} {h : Heap} {f c' : Addr} {q : Str} {params : Arguments} {body : Expr} {scope : Scope} {cl : List (Str × Addr)} {pm ctv : Value} (e : h.get? f = some (PySem.W.kla_obj "<lambda>" q params body scope cl pm c' ctv)) :
    ObjOk P w H h f (LamO f c' q params body scope cl) := ⟨⟨pm, ctv, e⟩, ⟨_, e⟩, fun _ _ z k => by
  obtain ⟨u, v, r⟩ := z
  exact ⟨u, v, k _ r⟩⟩
def tLamV (T : List (Addr × Str)) (q : Str) (params : Arguments) (body : Expr) (scope : Scope) (cl : List (Str × Addr)) : TE := fun σ H Q => Tabs T H ∧ ∀ f c' H1, ExtN H H1 → Tabs T H1 → H f = none → H1 f = none → H1 c' = some (CodeO c' q) → Q (.ref f) (upd H1 f (LamO f c' q params body scope cl))
section
variable {X : Cx} {T : List (Addr × Str)} {c P : Addr} {params : Arguments} {body : Expr} {scope : Scope} {pos : Pos}
theorem pe_lamV (TB : TabB X.base X.mg c P) (code : X.env.code = .ref c) (hm : (P, X.env.qual ++ "<lambda>") ∈ T) (hu : ∀ p ∈ T, p.1 = P → p.2 = X.env.qual ++ "<lambda>") (L : LamS X.env.scope scope) (hdef : defaultsOf params X.env = ([], [])) :
    PE X (.Lambda params body scope pos) (tLamV T (X.env.qual ++ "<lambda>") params body scope (cloFrom X.env.cells scope.names [])) := by
  constructor
  intro pins s σ H Q I hh
  obtain ⟨tabs, k⟩ := hh
  obtain ⟨ps, atP, tri, among⟩ := tabs _ hm
  have free := L.has I.ok
  apply PySem.W.kla_eval hdef
  have bi : s.heap.BuiltinsAt X.mg P := TB.bm.keeps I.bk
  have heapP : s.heap.get? P = some { cls := .none, data := .fields ps } := I.hok P _ atP
  cases look : codeAmong pos ps.toList with
  | some cv =>
    obtain ⟨c', rfl, hc'⟩ := among pos cv look
    apply PySem.W.kla_makeFunctionHit (mg := X.mg) (c := c) (P := P) (ps := ps) (closure_ok free) I.ok.glob (I.mod.glob.keeps I.bk) code (TB.code.keeps I.bk) heapP tri look bi
    intro ctv h2 tk keep size
    have J : Inv X pins σ H { s with heap := h2, toks := tk } := I.kept keep
    have n2 : H h2.objs.size = none := I.hok.fresh size
    have J2 := J.laid (t' := tk) (h' := h2.push (PySem.W.kla_obj "<lambda>" (X.env.qual ++ "<lambda>") params body scope (cloFrom X.env.cells scope.names []) ((X.mg "__name__").getD .none) c' ctv)) (fun _ _ z => Heap.get?_push_of_some _ z) (Nat.le_refl _)
      (lamO_ok (f := h2.objs.size) (c' := c') (Heap.get?_push_size _ rfl))
    exact ⟨V.ref h2.objs.size, _, J2, rfl, k _ c' H (ExtN.refl H) tabs n2 n2 hc'⟩
  | none =>
    apply PySem.W.kla_makeFunction (mg := X.mg) (c := c) (P := P) (ps := ps) (closure_ok free) I.ok.glob (I.mod.glob.keeps I.bk) code (TB.code.keeps I.bk) heapP tri look TB.gP bi
    intro c' ctv h2 tk but ge lt rec0 tab
    obtain ⟨c2, oc, fs, t, e2, oc2, fd, fq⟩ := rec0
    cases e2
    have nC : H c' = none := I.hok.fresh ge
    have size : s.heap.objs.size ≤ h2.objs.size := Nat.le_trans ge (Nat.le_of_lt lt)
    have nF : H h2.objs.size = none := I.hok.fresh size
    have J := inv_table (t' := tk) (h' := h2) (c := c') (q := X.env.qual ++ "<lambda>") (more := #[rawInt pos.line, rawInt pos.col, .ref c']) I atP (fun b o nb z => but b o nb z) tab ge ⟨oc, fs, t, oc2, fd, fq⟩
    have ext : ExtN H (upd (upd H P (.tbl (ps ++ #[rawInt pos.line, rawInt pos.col, .ref c']))) c' (CodeO c' (X.env.qual ++ "<lambda>"))) := fun b o z n => by
      have b1 : b ≠ c' := ne_of_none z nC
      have b2 : b ≠ P := fun y => by
        rw [y, atP] at z
        exact n ps (Option.some.inj z).symm
      rw [upd_ne b1, upd_ne b2]
      exact z
    have toL : (ps ++ #[rawInt pos.line, rawInt pos.col, .ref c']).toList = ps.toList ++ [rawInt pos.line, rawInt pos.col, .ref c'] := by simp
    have tabs2 : Tabs T (upd (upd H P (.tbl (ps ++ #[rawInt pos.line, rawInt pos.col, .ref c']))) c' (CodeO c' (X.env.qual ++ "<lambda>"))) := fun p hp => by
      by_cases hb : p.1 = P
      · rw [hu p hp hb, hb]
        refine ⟨ps ++ #[rawInt pos.line, rawInt pos.col, .ref c'], ?_, ?_, fun p2 cv z => ?_⟩
        · rw [upd_ne (ne_of_none atP nC), upd_same]
        · rw [toL]
          exact PySem.TriplesOk_snoc _ _ _ _ tri
        · rw [toL] at z
          rcases among_app _ tri z with z | z
          · obtain ⟨c0, g1, g2⟩ := among p2 cv z
            exact ⟨c0, g1, ext _ _ g2 codeO_ne⟩
          · exact ⟨c', z, upd_same⟩
      · obtain ⟨ps2, g1, g2, g3⟩ := tabs p hp
        refine ⟨ps2, ?_, g2, fun p2 cv z => ?_⟩
        · rw [upd_ne (ne_of_none g1 nC), upd_ne hb]
          exact g1
        · obtain ⟨c0, r1, r2⟩ := g3 p2 cv z
          exact ⟨c0, r1, ext _ _ r2 codeO_ne⟩
    have fC : h2.objs.size ≠ c' := Nat.ne_of_gt lt
    have fP : h2.objs.size ≠ P := Nat.ne_of_gt (Nat.lt_of_lt_of_le (Heap.lt_size heapP) size)
    have none1 : upd (upd H P (.tbl (ps ++ #[rawInt pos.line, rawInt pos.col, .ref c']))) c' (CodeO c' (X.env.qual ++ "<lambda>")) h2.objs.size = none := by
      rw [upd_ne fC, upd_ne fP]
      exact nF
    have J2 := J.laid (t' := tk) (h' := h2.push (PySem.W.kla_obj "<lambda>" (X.env.qual ++ "<lambda>") params body scope (cloFrom X.env.cells scope.names []) ((X.mg "__name__").getD .none) c' ctv)) (fun _ _ z => Heap.get?_push_of_some _ z) (Nat.le_refl _)
      (lamO_ok (f := h2.objs.size) (c' := c') (Heap.get?_push_size _ rfl))
    exact ⟨V.ref h2.objs.size, _, J2, rfl, k _ c' _ ext tabs2 nF none1 upd_same⟩
end
end DL
set_option Elab.async false
set_option linter.all false
set_option maxRecDepth 100000
set_option maxHeartbeats 4000000
namespace DL
open PySem PySem.Spec PyProof.Rows L2 LamX
/-- a lambda's text, read in the def that made it: k levels of calls, tb what its expression does with what it raises -/
structure LamD (X : Cx) (k : Nat) (params : Arguments) (body : Expr) (scope : Scope) (tb : XK → TE) : Prop where
  L : LamS X.env.scope scope
  bind : ∀ (q : Str) (cl : List (Str × Addr)) (pm cv ctv : Value), bindArgs (PySem.W.kla_fn "<lambda>" q params body scope cl pm cv ctv) ⟨[], []⟩ = pure []
  run : ∀ (A : Around) (outer : List Env) (s : Shared) (H : Hp) (E : XK) (f c' : Addr), Room k (A.deeper (lamEnv X scope s.heap.objs.size f c')) → PE (lamCx X A outer s H E scope f c') body (tb E)
section
variable {X : Cx} {pins : List (Addr × Obj)} {σ : L2.St} {H : Hp} {s : Shared}
/-- work(), in a def that got the lambda -/
theorem pe_actT {CXg : CXT} {Eg : XK} {Ng : List Str} {qg : Str} {sg : Scope} {g : Addr} {cdg : Value} {params : Arguments} {body : Expr} {scope : Scope} {k i : Nat} {a : Str} {pn : List (Addr × Obj)} {xe : Value → Shared → Prop} {W : WX} {tb : XK → TE} {p1 p2 : Pos}
    (I : Inv X pins σ H s) (D : LamD X k params body scope tb) (tk : Takes ((cxOf CXg X.prog X.w X.K X.mg X.base Ng qg sg g cdg X.A X.stack s H Eg).tr pn xe) W) (hr : Room (k + 1) (X.A.deeper (envOfC qg sg s.heap.objs.size g cdg)))
    (hN : Ng[i]? = some a) (hv : Vis sg a) (hd : (a == ("__debug__" : Str)) = false := by decide) (hcd : (a == ("__classdict__" : Str)) = false := by decide) :
    PE ((cxOf CXg X.prog X.w X.K X.mg X.base Ng qg sg g cdg X.A X.stack s H Eg).tr pn xe) (.Call (.Name a p1) [] [] p2)
      (fun σZ HZ Q => ∃ f c', σZ[i]? = some (some (.ref f)) ∧ HZ f = some (LamO f c' (X.env.qual ++ "<lambda>") params body scope (cloFrom X.env.cells scope.names [])) ∧ HZ c' = some (CodeO c' (X.env.qual ++ "<lambda>")) ∧ tb (WE W σZ) σ HZ Q) := by
  constructor
  intro pinsZ sZ σZ HZ Q IZ hh
  obtain ⟨f, c', at_, hf, hc, go⟩ := hh
  have nm := (pe_var (pos := p1) (i := i) (X := (cxOf CXg X.prog X.w X.K X.mg X.base Ng qg sg g cdg X.A X.stack s H Eg).tr pn xe) hN hv hd hcd).run pinsZ sZ σZ HZ (fun v H1 => v = .ref f ∧ H1 = HZ) IZ ⟨.ref f, at_, rfl, rfl⟩
  apply wpAny_Call_Name_kw
  refine thn nm fun u s1 z => ?_
  obtain ⟨v, H1, I1, rv, rfl, rfl⟩ := z
  obtain rfl : u = Value.ref f := rv
  obtain ⟨⟨pm, ctv, of1⟩, _, _⟩ := I1.hok f _ hf
  obtain ⟨⟨oc, fs, t, oc1, fd, fq⟩, _, _⟩ := I1.hok c' _ hc
  refine PySem.W.callWith_F0 ⟨_, _, _, _, of1⟩ ?_
  have L := D.L
  have inner : codeAny (model X.prog X.w) (X.A.deeper (envOfC qg sg s.heap.objs.size g cdg)) (.call (.ref f) ⟨[], []⟩) (CR (L2.CX X.prog X.w) (envOfC qg sg s.heap.objs.size g cdg :: X.stack) X.prog X.w H1 s1 Q (WE W σZ)) s1 := by
    apply PySem.W.kla_callFunE hr.depth of1 rfl L.co L.gen rfl ⟨c', oc, fs, t, rfl, oc1, fd, fq⟩
    rw [D.bind]
    apply wpAny_pure
    refine wpAny_newFunctionEnv (fun y hy => (L.own y hy).2) (fun y hy => absurd hy (by simp)) (fun h1 ns sb => ?_) L.kind
    refine ⟨I1.nolimit.fresh _ sb, ?_⟩
    have keep : ∀ b o, s1.heap.get? b = some o → h1.get? b = some o := fun b o e => sb.extBut b o (Nat.ne_of_lt (Heap.lt_size e)) (Heap.get?_push_of_some _ e)
    have J := lam_start2 (A := X.A.deeper (envOfC qg sg s.heap.objs.size g cdg)) (outer := envOfC qg sg s.heap.objs.size g cdg :: X.stack) (E := WE W σZ) (f := f) (c' := c') (h₁ := h1) (tk := s1.toks + ([] : List (Str × Value)).length) I L I1.env0 hr.hd I1.base ns keep
    have ran := (D.run _ (envOfC qg sg s.heap.objs.size g cdg :: X.stack) s1 H1 (WE W σZ) f c' (hr.deeper _)).run [] _ _ H1 Q J go
    refine PySem.W.kla_codeExpr (wpAny_mono ran (fun v s2 z => ?_) fun _ _ z => z)
    obtain ⟨x, H2, J2, r2, q2⟩ := z
    exact ⟨x, H2, J2.os, J2.bare, J2.base, J2.hok, r2, q2⟩
  apply wpAny_call
  refine codeAny_mono inner fun r s2 z => ?_
  cases r with
  | ok fl =>
    cases fl with
    | ret u => exact I1.after z
    | next => exact z.elim
    | brk => exact z.elim
    | cont => exact z.elim
  | error e => exact passAt tk σZ pinsZ H1 s1 e s2 I1 z
end
end DL
set_option Elab.async false
set_option linter.all false
set_option maxRecDepth 100000
set_option maxHeartbeats 4000000
namespace DL
open PySem PySem.Spec PyProof.Rows L2 LamX
/-- caught = None / try: work() / except CallError as error: caught = error / return caught -/
abbrev caughtB (k0 : Nat) (p1 p2 p3 p4 p5 p6 p7 p8 p9 p10 p11 p12 p13 p14 : Pos) : List Stmt :=
  [.Assign [.Name "caught" p1] (.Constant .none k0 p2) p3,
   .Try [.Expr (.Call (.Name "work" p4) [] [] p5) p6] [.ExceptHandler (some (.Name "CallError" p7)) (some "error") [.Assign [.Name "caught" p8] (.Name "error" p9) p10] p11] [] [] p12,
   .Return (some (.Name "caught" p13)) p14]
/-- what calling it means: the error, kept, is handed back; None where there is none -/
def TTc (K : PySem.W.Frag) (CS : Addr) (tb : XK → TE) : TE := fun σ H Q => ∀ (E : XK) (Q2 : VK), (∀ cls H', PySem.W.exmOne K cls (.ref CS) = some true → (∀ a, H' a = none → Q (.ref a) (upd H' a (ErO cls a))) → E cls none H') → (∀ v H', Q .non H' → Q2 v H') → tb E σ H Q2
section
variable {X : Cx} {pins : List (Addr × Obj)} {σ : L2.St} {H : Hp} {s : Shared}
theorem caught_run {x : Str} {sg : Scope} {g CS : Addr} {cdg : Value} {params : Arguments} {body : Expr} {scope : Scope} {k k0 : Nat} {tb : XK → TE} {f c' : Addr} {Q : VK} {p1 p2 p3 p4 p5 p6 p7 p8 p9 p10 p11 p12 p13 p14 : Pos}
    (I : Inv X pins σ H s) (D : LamD X k params body scope tb) (hr : Room (k + 1) (X.A.deeper (envOfC x sg s.heap.objs.size g cdg))) (S : FnScope ["work", "caught", "error"] ["work"] sg)
    (ge : sg.names.lookup ("CallError" : Str) = some .globalImplicit) (me : X.mg "CallError" = some (.ref CS)) (le : sg.names.lookup ("error" : Str) = some .local) (lc : sg.names.lookup ("caught" : Str) = some .local) (lw : sg.names.lookup ("work" : Str) = some .local)
    (hf : H f = some (LamO f c' (X.env.qual ++ "<lambda>") params body scope (cloFrom X.env.cells scope.names []))) (hc : H c' = some (CodeO c' (X.env.qual ++ "<lambda>"))) (go : TTc X.K CS tb σ H Q) :
    ∃ t, PSs (cxOf CX0 X.prog X.w X.K X.mg X.base ["work", "caught", "error"] x sg g cdg X.A X.stack s H E0).nox (caughtB k0 p1 p2 p3 p4 p5 p6 p7 p8 p9 p10 p11 p12 p13 p14) t ∧
      t { nx := fun _ H' => Q .non H', rt := Q } (L2.start ["work", "caught", "error"] [.ref f]) H := by
  refine ⟨_, pss_cons (ps_set (i := 1) S.nd rfl (.inl lc) pe_non) (pss_cons
    (ps_keep (X := (cxOf CX0 X.prog X.w X.K X.mg X.base ["work", "caught", "error"] x sg g cdg X.A X.stack s H E0).nox) (i := 2) (c := .ref CS) (ts := fun _ _ => tAsg (tVar 2) (gName 1))
      (tb := fun W => tDrop (fun σZ HZ Q2 => ∃ f c', σZ[0]? = some (some (.ref f)) ∧ HZ f = some (LamO f c' (X.env.qual ++ "<lambda>") params body scope (cloFrom X.env.cells scope.names [])) ∧ HZ c' = some (CodeO c' (X.env.qual ++ "<lambda>")) ∧ tb (WE W σZ) σ HZ Q2))
      rfl rfl rfl S.nd rfl le ⟨ge, by decide, .inl me⟩
      (fun W pn xe tk _ => pss_one (ps_expr (pe_actT (CXg := CX0) (Eg := E0) (Ng := ["work", "caught", "error"]) I D tk hr rfl (.inl lw))))
      (fun a oe cls pn _ _ => pss_one (ps_set (i := 1) S.nd rfl (.inl lc) (pe_var (i := 2) rfl (.inl le))))) (pss_one (ps_ret (pe_var (i := 1) rfl (.inl lc))))), ?_⟩
  refine ⟨f, c', rfl, hf, hc, go _ _ (fun cls H' hx q => ?_) fun v H' q => ?_⟩
  · refine ⟨hx, rfl, fun a na => ?_⟩
    exact ⟨_, rfl, _, rfl, q a na⟩
  · exact ⟨_, rfl, q⟩
/-- x(y), y a lambda of this def -/
theorem pe_caught {x y : Str} {sg : Scope} {pg : Arguments} {g CS : Addr} {dV kV doc pm cdv ct oc : Value} {an od : Option Addr} {osl : Array (Option Value)} {k k0 j : Nat} {p py pos p1 p2 p3 p4 p5 p6 p7 p8 p9 p10 p11 p12 p13 p14 : Pos}
    (hg : Gl X x) (hm : X.mg x = some (.ref g)) (hk : PySem.W.keepIn X.K (.ref g) = true) (lk : X.K.lookup g = some ⟨oc, od, .func (PySem.W.fnOf x x pg (caughtB k0 p1 p2 p3 p4 p5 p6 p7 p8 p9 p10 p11 p12 p13 p14) sg dV kV doc pm an cdv ct), osl⟩)
    (hcg : PySem.W.codeIn X.K cdv x = true) (hb : L2.Binds X.K (PySem.W.fnOf x x pg (caughtB k0 p1 p2 p3 p4 p5 p6 p7 p8 p9 p10 p11 p12 p13 p14) sg dV kV doc pm an cdv ct) ["work"] []) (S : FnScope ["work", "caught", "error"] ["work"] sg)
    (ge : sg.names.lookup ("CallError" : Str) = some .globalImplicit) (me : X.mg "CallError" = some (.ref CS)) (le : sg.names.lookup ("error" : Str) = some .local) (lc : sg.names.lookup ("caught" : Str) = some .local) (lw : sg.names.lookup ("work" : Str) = some .local)
    (hr : Room (k + 2) X.A) (hN : X.N[j]? = some y) (hv : Vis X.env.scope y) (hdb : (x == ("__debug__" : Str)) = false := by decide) (hd : (y == ("__debug__" : Str)) = false := by decide) (hcd : (y == ("__classdict__" : Str)) = false := by decide) :
    PE X (.Call (.Name x p) [.Name y py] [] pos) (fun σ H Q => ∃ f c' params body scope tb, σ[j]? = some (some (.ref f)) ∧ H f = some (LamO f c' (X.env.qual ++ "<lambda>") params body scope (cloFrom X.env.cells scope.names [])) ∧ H c' = some (CodeO c' (X.env.qual ++ "<lambda>")) ∧ LamD X k params body scope tb ∧ TTc X.K CS tb σ H Q) := by
  constructor
  intro pins s σ H Q I hh
  obtain ⟨f, c', params, body, scope, tb, at_, hf, hc, D, go⟩ := hh
  apply wpAny_Call_Name_kw
  refine ld_glob I hg hm ?_ hdb
  have arg := (pa_cons (pe_var (pos := py) (i := j) (X := X) hN hv hd hcd) pa_nil).run pos pins s σ H (fun vs H1 => vs = [.ref f] ∧ H1 = H) I ⟨.ref f, at_, rfl, rfl⟩
  refine PySem.W.callWith_K (h₀ := X.base) I.ok.mod.kin hk (thn arg fun us s1 z => ?_) (by rfl) (by rfl)
  obtain ⟨vs, H1, I1, r, rfl, rfl⟩ := z
  refine ⟨I1.kIn, ?_⟩
  have lu : us.length = 1 := (Vals.length r).symm
  have inner : codeAny (model X.prog X.w) X.A (.call (.ref g) ⟨us, []⟩) (CR CX0 X.stack X.prog X.w H1 s1 Q E0) s1 := by
    refine run_ofS (N := ["work", "caught", "error"]) (ps := ["work"]) (us := us) (vs := [.ref f]) lk hcg S hr I1.env0 ?_ r rfl fun hr2 => ?_
    · have := hb s1 us I1.kIn (by simpa using lu)
      simpa using this
    · obtain ⟨t, ht, q⟩ := caught_run (x := x) (g := g) (cdg := cdv) (k0 := k0) (p1 := p1) (p2 := p2) (p3 := p3) (p4 := p4) (p5 := p5) (p6 := p6) (p7 := p7) (p8 := p8) (p9 := p9) (p10 := p10) (p11 := p11) (p12 := p12) (p13 := p13) (p14 := p14) I1 D hr2 S ge me le lc lw hf hc go
      exact ⟨t, ht.nox, q⟩
  apply wpAny_call
  refine codeAny_mono inner fun r2 s2 z => ?_
  cases r2 with
  | error e => exact (show False from z).elim
  | ok fl =>
    cases fl with
    | ret u => exact I1.after z
    | next => exact z.elim
    | brk => exact z.elim
    | cont => exact z.elim
end
end DL
set_option Elab.async false
set_option linter.all false
set_option maxRecDepth 100000
set_option maxHeartbeats 4000000
/-! defs that may raise an error of an own class; isinstance of data of any kind -/
namespace DL
open PySem PySem.Spec PyProof.Rows L2 Evl
/-- the type of data by its name -/
def tyD : PyData → String
  | .none => "NoneType"
  | .bool _ => "bool"
  | .int _ => "int"
  | .str _ => "str"
  | .list _ => "list"
  | .tuple _ => "tuple"
  | .dict _ => "dict"
section
variable {K : PySem.W.Frag} {σ : L2.St} {H H' : Hp} {ta tb te : TE} {d : PyData} {ds : List PyData} {v : V}
theorem tyD_dp (h : Dp K H v d) : TyX K H v (.type (tyD d)) := by
  cases h with
  | non => exact .base .non
  | bl b => exact .base (.bl b)
  | int i => exact .base (.int i)
  | str x => exact .base (.str x)
  | lst h _ => exact tyL h
  | tup h _ => exact tyT h
/-- isinstance(x, a built-in class) -/
theorem ev_isiD {nm : String} {b : Bool} (ha : EvD K ta σ H d) (hb : kitB (tyD d) nm = some b) : Ev (tCB (rIsi K) (tCons ta (tCons (tC (.ty nm)) tNil))) σ H (.bl b) := fun H1 e Q q =>
  ha H1 e _ fun x H2 e2 hx => ⟨_, _, _, _, b, rfl, .ty nm, tyD_dp hx, kit_ty hb, q H2 e2⟩
/-- data in, data out, or an error of the class at C -/
def spR (K : PySem.W.Frag) (n : Nat) (R : List PyData → PyData → Prop) (B : List PyData → Addr → Prop) : Sp := fun vs H Q E => ∃ ds, DpAll K H vs ds ∧ ds.length = n ∧
  ((∃ r, R ds r ∧ ∀ v H', Ex H H' → Dp K H' v r → Q v H') ∨ ∃ C, B ds C ∧ ∀ H', Ex H H' → E (.ref C) none H')
theorem spR_len {n : Nat} {R : List PyData → PyData → Prop} {B : List PyData → Addr → Prop} {vs : List V} {Q : VK} {E : XK} (h : spR K n R B vs H Q E) : vs.length = n := by
  obtain ⟨ds, h1, h2, _⟩ := h
  rw [dpa_len h1, h2]
theorem ed_callR {n : Nat} {R : List PyData → PyData → Prop} {B : List PyData → Addr → Prop} {E : XK} {tt : TA} (h : EvDA K tt σ H ds) (hl : ds.length = n) (hr : R ds d) : EvD K (tCall (spR K n R B) [] E tt) σ H d := fun H1 e Q q =>
  h H1 e _ fun vs H2 e2 hv => ⟨ds, by rw [List.append_nil]; exact hv, hl, .inl ⟨d, hr, fun v H3 e3 hd => q v H3 (e2.trans e3) hd⟩⟩
/-- an expression that raises -/
def EvB (E : XK) (te : TE) (σ : L2.St) (H : Hp) (C : Addr) : Prop := ∀ H1, Ex H H1 → ∀ Q : VK, (∀ H2, Ex H1 H2 → E (.ref C) none H2) → te σ H1 Q
theorem eb_callR {n : Nat} {R : List PyData → PyData → Prop} {B : List PyData → Addr → Prop} {E : XK} {tt : TA} {C : Addr} (h : EvDA K tt σ H ds) (hl : ds.length = n) (hb : B ds C) : EvB E (tCall (spR K n R B) [] E tt) σ H C := fun H1 e Q q =>
  h H1 e _ fun vs H2 e2 hv => ⟨ds, by rw [List.append_nil]; exact hv, hl, .inr ⟨C, hb, fun H3 e3 => q H3 (e2.trans e3)⟩⟩
/-- a statement e, e raising -/
theorem b_drop {E : XK} {D : Ends} {tz : TS} {C : Addr} (h : EvB E te σ H C) (q : ∀ H1, Ex H H1 → E (.ref C) none H1) : tSeq (tDrop te) tz D σ H := h H (Ex.refl _) _ q
end
/-- a def that may raise, called by its name -/
structure DFX (P : Program) (w : World) (K : PySem.W.Frag) (mg : Str → Option Value) (base : Heap) (nm : Str) (k : Nat) (ps : List Str) (sp : Sp) : Prop where
  ex : ∃ (f : Addr) (fd : FuncData), FnOk P w K mg base (L2.CX P w) k f fd ps sp ∧ mg nm = some (.ref f) ∧ PySem.W.keepIn K (.ref f) = true ∧ Binds K fd ps []
theorem pe_DX {X : Cx} {nm : Str} {k : Nat} {ps : List Str} {sp : Sp} {E : XK} {W : WX} {e : Expr} {es : List Expr} {t : TA} {p pos : Pos} (F : DFX X.prog X.w X.K X.mg X.base nm k ps sp) (tk : Takes X W) (hW : ∀ cls d σ H, E cls d H → W cls d σ H) (hr : Room k X.A) (hg : Gl X nm) (ha : PA X (e :: es) t)
    (hdb : (nm == ("__debug__" : Str)) = false := by decide) (he : starEach (e :: es) X.env = (false, eval e X.env) :: starEach es X.env := by rfl) (hpl : (backTo pos (starEach es X.env)).any (·.1) = false := by rfl) :
    PE X (.Call (.Name nm p) (e :: es) [] pos) (tCall sp [] E t) := by
  obtain ⟨f, fd, h1, h2, h3, h4⟩ := F.ex
  exact pe_call h1 hr hg h2 h3 h4 .nil (passes_call tk hW) ha hdb he hpl
/-- an own error class without own __init__ -/
structure ErC (K : PySem.W.Frag) (mg : Str → Option Value) (nm : Str) (C : Addr) : Prop where
  gC : mg nm = some (.ref C)
  q : ∃ (bmB : List Value), ExcBaseFacts "ValueError" "ValueError.__new__" "ValueError.__init__" bmB ∧ PySem.W.excIn K C bmB "ValueError.__new__" = true
  kC : PySem.W.keepIn K (.ref C) = true
  exC : PySem.W.subIn K (.ref C) (.type "BaseException") = some true
  tyC : PySem.W.typeIn K (.ref C) = some (.type "type")
/-- raise C(e) -/
theorem ps_raiseC {X : Cx} {W : WX} {C : Addr} {x : Str} {e : Expr} {ta : TE} {p pos pos2 : Pos} (hc : X.calm = true) (tk : Takes X W) (T : ErC X.K X.mg x C) (hg : Gl X x) (he : PE X e ta) (hs : starEach [e] X.env = (false, eval e X.env) :: starEach [] X.env := by rfl) (hdb : (x == ("__debug__" : Str)) = false := by decide) :
    PS X (.Raise (some (.Call (.Name x p) [e] [] pos)) none pos2) (fun _ σ H => ta σ H fun _ H1 => W (.ref C) none σ H1) := by
  obtain ⟨bm, F, q⟩ := T.q
  exact ps_raise hc tk (SkE.pmk_own1 F q T.gC T.kC (raises_own T.exC T.tyC) hg he hs hdb)
end DL
set_option Elab.async false
set_option linter.all false
set_option maxRecDepth 100000
set_option maxHeartbeats 4000000
/-! repr of lists and tuples of data; the guards stand empty -/
namespace DL
open PySem PySem.Spec PyProof.Rows L2 Evl
mutual
theorem noDict_dp {K : PySem.W.Frag} {H : Hp} : ∀ (d : PyData) (v : V), Dp K H v d → d.hasDict = false
  | .none, _, _ => by simp [PyData.hasDict]
  | .bool b, _, _ => by simp [PyData.hasDict]
  | .int i, _, _ => by simp [PyData.hasDict]
  | .str x, _, _ => by simp [PyData.hasDict]
  | .list ds, _, h => by
    cases h with
    | lst _ ha => simpa [PyData.hasDict] using noDict_dpa ds _ ha
  | .tuple ds, _, h => by
    cases h with
    | tup _ ha => simpa [PyData.hasDict] using noDict_dpa ds _ ha
  | .dict _, _, h => by cases h
theorem noDict_dpa {K : PySem.W.Frag} {H : Hp} : ∀ (ds : List PyData) (vs : List V), DpAll K H vs ds → PyData.hasDictAll ds = false
  | [], _, _ => by simp [PyData.hasDictAll]
  | d :: ds, _, h => by
    cases h with
    | cons a b =>
      rw [PyData.hasDictAll, noDict_dp d _ a, noDict_dpa ds _ b]
      rfl
end
/-- repr(x), x a list or a tuple of data -/
def rRepr (K : PySem.W.Frag) : List V → Hp → VK → Prop := fun xs H Q => ∃ (a : Addr) (d : PyData), xs = [.ref a] ∧ Dp K H (.ref a) d ∧ d.showable = true ∧ d.depth ≤ 90 ∧ d.shown.length ≤ sizeLine ∧ Q (.str d.shown) H
theorem call_repr {X : Cx} (hg : X.A.guards = some []) (hu : X.A.units + 100 < cLine) : CallR X (.builtin "repr") (rRepr X.K) := by
  intro pins s σ H xs us Q I r h
  obtain ⟨a, d, rfl, hd, hs, h64, hsz, q⟩ := h
  obtain rfl := Vals.ref1 r
  obtain ⟨as, rd⟩ := Dp.reads I d (.ref a) (.ref a) hd rfl
  exact repr_of_reads' rd hs (PyData.noDict_hsm (noDict_dp d _ hd)) hg (by omega) (fun _ _ e => e) (fun h' u tk k => ⟨.str d.shown, H, I.kept k, ⟨u, rfl⟩, q⟩) hsz
theorem guards_deeper (A : Around) (env : Env) : (A.deeper env).guards = A.guards := rfl
end DL
set_option Elab.async false
set_option linter.all false
set_option maxRecDepth 100000
set_option maxHeartbeats 4000000
/-! a law that asks repr: its def runs where no guard stands -/
namespace DL
open PySem PySem.Spec PyProof.Rows L2 Evl
structure FnG (P : Program) (w : World) (K : PySem.W.Frag) (mg : Str → Option Value) (base : Heap) (CX : CXT) (k : Nat) (f : Addr) (fd : FuncData) (ps : List Str) (sp : Sp) : Prop where
  len : ∀ vs H Q E, sp vs H Q E → vs.length = ps.length
  run : ∀ (A : Around) (outer : List Env) (s : Shared) (H : Hp) (args : Args) (us : List Value) (vs : List V) (Q : VK) (E : XK), A.guards = some [] → Room k A → Env0 P w K mg base A outer s H → BindsTo s fd args (ps.zip us) → Vals vs us → sp vs H Q E →
    codeAny (model P w) A (.call (.ref f) args) (CR CX outer P w H s Q E) s
theorem okG {P : Program} {w : World} {K : PySem.W.Frag} {mg : Str → Option Value} {base : Heap} {CX : CXT} {x qual : Str} {st : Stmt} {f : Addr} {fd : FuncData} {N ps : List Str} {k : Nat} {sp : Sp} (F : Fun K x qual st f fd) (S : FnScope N ps (defScope st)) (len : ∀ vs H Q E, sp vs H Q E → vs.length = ps.length)
    (body : ∀ (cdv : Value) (A : Around) (outer : List Env) (s : Shared) (H : Hp) (vs : List V) (Q : VK) (E : XK), A.guards = some [] → Room k (A.deeper (envOfC qual (defScope st) s.heap.objs.size f cdv)) → sp vs H Q E →
      ∃ t, PSs (cxOf CX P w K mg base N qual (defScope st) f cdv A outer s H E) (defBody st) t ∧ t { nx := fun _ H' => Q .non H', rt := Q } (L2.start N vs) H) : FnG P w K mg base CX (k + 1) f fd ps sp := by
  obtain ⟨⟨oc, od, kV, doc, pm, an, cdv, ct, osl, rfl, lk, hcd⟩, _⟩ := F
  exact ⟨len, fun A outer s H args us vs Q E hg hr e0 hb r h => LamX.run_ofS lk hcd S hr e0 hb r (len _ _ _ _ h) fun hr2 => body cdv A outer s H vs Q E hg hr2 h⟩
section
variable {P : Program} {w : World} {K : PySem.W.Frag} {mg mb : Str → Option Value} {CX : CXT} {k : Nat} {fa a : Addr} {fd : FuncData} {x : Str} {sp : Sp} {s1 : Shared} {vs : List Value} {ns : List Int}
theorem callG_at (KX : K.In s1.heap) (hns : s1.heap.Ns mainGlobals mg) (hb : s1.heap.Ns builtinsNs mb) (hbb : ∀ y : Str, y ≠ "__name__" → mb y = bootBuiltins y) (lim : s1.heap.NoLimit) (gens : s1.gens = #[])
    (obj : s1.heap.get? a = some { cls := .type "list", data := .seq vs.toArray }) (room : Room k callerA)
    (F : ∀ base : Heap, K.In base → base.Ns mainGlobals mg → FnG P w K mg base CX k fa fd [x] sp) (bind : ∀ (s : Shared) (u : Value), BindsTo s fd ⟨[u], []⟩ [(x, u)])
    (out : ∀ H e s', CX [] H s1 (fun _ _ _ => False) e s' → False) (H : Hp) (only : Only H) (ask : sp [.ref a] H (fun v _ => v = .bl true) fun _ _ _ => False)
    (held : HOk P w H s1.heap) (atA : ∀ b, H b ≠ none → b = a) (away : H a ≠ none → K.lookup a = none) :
    codeAny (model P w) callerA (.call (.ref fa) ⟨[.ref a], []⟩) (fun r s' => r = .ok (.ret (.bool true)) ∧ OldK s1.heap s'.heap ∧ s'.os = s1.os ∧ AllBare s'.gens) s1 := by
  have free : ∀ {b : Addr} {o : Obj}, s1.heap.get? b = some o → b ≠ a → (hidT s1.heap H).get? b = some o := fun {b o} e n => hidT_get e (by
    cases q : H b with
    | none => rfl
    | some u => exact absurd (atA b (by rw [q]; simp)) n)
  have names : ∀ {b : Addr} {m : Str → Option Value}, s1.heap.Ns b m → (hidT s1.heap H).Ns b m := fun {b m} z => by
    obtain ⟨o, es, ep, e, d, r⟩ := z
    refine ⟨o, es, ep, free e fun y => ?_, d, r⟩
    rw [y, obj] at e
    cases e
    exact nomatch (show Data.seq vs.toArray _ = Data.dict es ep from d)
  have written : K.In (hidT s1.heap H) := fun b o e => by
    by_cases y : b = a
    · refine hidT_get (KX b o e) ?_
      cases q : H b with
      | none => rfl
      | some u =>
        rw [y] at e q
        rw [away (by rw [q]; simp)] at e
        cases e
    · exact free (KX b o e) y
  obtain ⟨mc, l1, l2⟩ := lim
  have modu : Mod K mg (hidT s1.heap H) := ⟨written, names hns, ⟨mb, names hb, hbb⟩, ⟨mc, names l1, l2⟩⟩
  have env : Env0 P w K mg (hidT s1.heap H) callerA [] s1 H := ⟨rfl, modu, fun b o e => of_hidT e, Nat.le_of_eq (hidT_size _ _), trivial, fun b z => (List.not_mem_nil (show b ∈ ([] : List Addr) from z)).elim, held, .of_eq gens⟩
  refine codeAny_mono ((F _ written (names hns)).run callerA [] s1 H ⟨[.ref a], []⟩ [.ref a] [.ref a] _ _ rfl room env (bind s1 (.ref a)) (.cons rfl .nil) ask) fun r s2 z => ?_
  cases r with
  | error e => exact (out H e s2 z).elim
  | ok fl =>
    cases fl with
    | ret u =>
      obtain ⟨v, H2, os, bare, un, held2, rv, rfl⟩ := z
      obtain rfl : u = Value.bool true := rv
      refine ⟨rfl, OldK.of_keep fun b o e => ?_, os, bare⟩
      rcases only b with none_ | ⟨ob, xs, fz⟩
      · exact un.keep b o e none_ (by intro m; exact absurd (show b ∈ ([] : List Addr) from m) (by simp)) (by simp)
      · obtain ⟨o1, _⟩ := held b _ fz
        obtain ⟨o2, _⟩ := held2 b _ (un.frzs b ob _ fz)
        rw [e] at o1
        cases o1
        exact o2
    | next => exact z.elim
    | brk => exact z.elim
    | cont => exact z.elim
/-- the script is one of the module's own lists, or a list of its own -/
theorem callG (KX : K.In s1.heap) (hns : s1.heap.Ns mainGlobals mg) (hb : s1.heap.Ns builtinsNs mb) (hbb : ∀ y : Str, y ≠ "__name__" → mb y = bootBuiltins y) (lim : s1.heap.NoLimit) (gens : s1.gens = #[])
    (obj : s1.heap.get? a = some { cls := .type "list", data := .seq vs.toArray }) (isI : IntsAre vs ns) (few : ns.length ≤ sizeLine) (room : Room k callerA)
    (F : ∀ base : Heap, K.In base → base.Ns mainGlobals mg → FnG P w K mg base CX k fa fd [x] sp) (bind : ∀ (s : Shared) (u : Value), BindsTo s fd ⟨[u], []⟩ [(x, u)])
    (ask : ∀ H : Hp, Only H → SqL K H a (ns.map V.int) → sp [.ref a] H (fun v _ => v = .bl true) fun _ _ _ => False) (out : ∀ H e s', CX [] H s1 (fun _ _ _ => False) e s' → False) :
    codeAny (model P w) callerA (.call (.ref fa) ⟨[.ref a], []⟩) (fun r s' => r = .ok (.ret (.bool true)) ∧ OldK s1.heap s'.heap ∧ s'.os = s1.os ∧ AllBare s'.gens) s1 := by
  have vals := vals_ints isI
  have len := isI.length
  cases known : K.lookup a with
  | some o =>
    have e := KX a o known
    rw [obj] at e
    cases e
    have only : Only (fun _ : Addr => (none : Option HO)) := fun _ => .inl rfl
    have seq : SqL K (fun _ : Addr => (none : Option HO)) a (ns.map V.int) := .inr ⟨_, vs.toArray, _, known, rfl, rfl, rfl, by rw [List.size_toArray, len]; exact few, by simpa using vals⟩
    exact callG_at KX hns hb hbb lim gens obj room F bind out _ only (ask _ only seq) (fun b u z => nomatch (show (none : Option HO) = some u from z)) (fun b z => (z rfl).elim) fun z => (z rfl).elim
  | none =>
    let H : Hp := fun b => if b = a then some (.frz { cls := .type "list", data := .seq vs.toArray } (.lst (ns.map V.int))) else none
    have at_ : H a = some (.frz { cls := .type "list", data := .seq vs.toArray } (.lst (ns.map V.int))) := if_pos rfl
    have off : ∀ b, b ≠ a → H b = none := fun b n => if_neg n
    have only : Only H := fun b => by
      by_cases y : b = a
      · exact .inr ⟨_, _, y ▸ at_⟩
      · exact .inl (off b y)
    have seq : SqL K H a (ns.map V.int) := .inl (.inr ⟨_, at_⟩)
    refine callG_at KX hns hb hbb lim gens obj room F bind out H only (ask H only seq) (fun b u z => ?_) (fun b z => ?_) fun _ => known
    · by_cases y : b = a
      · subst y
        rw [at_] at z
        cases z
        exact ⟨obj, by rw [List.length_map]; exact few, vs, _, vals, obj⟩
      · rw [off b y] at z
        cases z
    · by_cases y : b = a
      · exact y
      · exact absurd (off b y) z
end
theorem walkG {l : PySem.W.OpenLaw} {n k : Nat} {q : Program} {loose : List Str} {XP : (Str → Option Value) → Heap → Prop} {YP : World → Heap → Prop} {d : DefRec} {K : Params → PySem.W.Frag} {CX : World → CXT} {sp : World → Sp} {x : Str}
    (most : l.most = some n) (line : n ≤ sizeLine) (plain : d.params.defaults = []) (room : Room k callerA) (keep : ∀ (w : World) (h : Heap), YP w h → (K w.params).In h)
    (F : ∀ (w : World) (mg : Str → Option Value) (fa : Addr) (h : Heap), (K w.params).In h → h.Ns mainGlobals mg → mg d.name = some (.ref fa) →
      ∃ fd : FuncData, (∀ (s : Shared) (u : Value), BindsTo s fd ⟨[u], []⟩ [(x, u)]) ∧ ∀ base : Heap, (K w.params).In base → base.Ns mainGlobals mg → FnG l.prog w (K w.params) mg base (CX w) k fa fd [x] (sp w))
    (ask : ∀ (w : World) (H : Hp) (a : Addr) (ns : List Int), ns.length ≤ n → Only H → SqL (K w.params) H a (ns.map V.int) → sp w [.ref a] H (fun v _ => v = .bl true) fun _ _ _ => False)
    (out : ∀ (w : World) (H : Hp) (s : Shared) (e : Value) (s' : Shared), CX w [] H s (fun _ _ _ => False) e s' → False) : PySem.W.WalkO q loose XP YP l.row.toRowW d [] (fun f vs => PySem.call f vs) := by
  apply Att.attach_call most plain
  intro w s0 s1 mg mb fa o pm cd doc a vs ns G Y ho hd hcd hmg hobj hints hlen hg
  obtain ⟨fd, hb, hF⟩ := F w mg fa _ (keep w _ Y) G.T.g hmg
  exact callG (keep w _ Y) G.T.g G.T.b G.T.builtins G.T.nolimit hg hobj hints (Nat.le_trans hlen line) room hF hb (fun H h1 h2 => ask w H a ns hlen h1 h2) fun H e s' => out w H s1 e s'
end DL
set_option Elab.async false
set_option linter.all false
set_option maxRecDepth 100000
set_option maxHeartbeats 4000000
/-! the same with the table of the law's own code objects (its lambdas) -/
namespace DL
open PySem PySem.Spec PyProof.Rows L2 Evl LamX
section
variable {P : Program} {w : World} {K : PySem.W.Frag} {mg mb : Str → Option Value} {CX : CXT} {k : Nat} {fa a c T : Addr} {fd : FuncData} {x : Str} {sp : Sp} {s1 : Shared} {vs : List Value} {ns : List Int}
theorem callT_at (KX : K.In s1.heap) (hns : s1.heap.Ns mainGlobals mg) (hb : s1.heap.Ns builtinsNs mb) (hbb : ∀ y : Str, y ≠ "__name__" → mb y = bootBuiltins y) (lim : s1.heap.NoLimit) (gens : s1.gens = #[])
    (tab : s1.heap.get? T = some { cls := .none, data := .fields #[] }) (free_ : K.lookup T = none) (code : PySem.W.CodeHd s1.heap c T)
    (bmod : ∃ (bm : Addr) (ob : Obj), mg "__builtins__" = some (.ref bm) ∧ bm ≠ builtinsNs ∧ s1.heap.get? bm = some ob ∧ ob.cls = .type "module" ∧ ob.dict = some builtinsNs ∧ ob.data = .plain)
    (obj : s1.heap.get? a = some { cls := .type "list", data := .seq vs.toArray }) (room : Room k callerA)
    (F : ∀ base : Heap, K.In base → base.Ns mainGlobals mg → TabB base mg c T → FnG P w K mg base CX k fa fd [x] sp) (bind : ∀ (s : Shared) (u : Value), BindsTo s fd ⟨[u], []⟩ [(x, u)])
    (out : ∀ H e s', CX [] H s1 (fun _ _ _ => False) e s' → False) (H : Hp) (atT : H T = some (.tbl #[])) (only : ∀ b, H b = none ∨ b = T ∨ ∃ o xs, H b = some (.frz o (.lst xs))) (ask : sp [.ref a] H (fun v _ => v = .bl true) fun _ _ _ => False)
    (held : HOk P w H s1.heap) (atA : ∀ b, H b ≠ none → b = a ∨ b = T) (away : H a ≠ none → K.lookup a = none) :
    codeAny (model P w) callerA (.call (.ref fa) ⟨[.ref a], []⟩) (fun r s' => r = .ok (.ret (.bool true)) ∧ OldK s1.heap s'.heap ∧ s'.os = s1.os ∧ AllBare s'.gens) s1 := by
  have none_of : ∀ {b : Addr}, b ≠ a → b ≠ T → H b = none := fun {b} n1 n2 => by
    cases q : H b with
    | none => rfl
    | some u =>
      rcases atA b (by rw [q]; simp) with y | y
      · exact absurd y n1
      · exact absurd y n2
  have free : ∀ {b : Addr} {o : Obj}, s1.heap.get? b = some o → b ≠ a → b ≠ T → (hidT s1.heap H).get? b = some o := fun {b o} e n1 n2 => hidT_get e (none_of n1 n2)
  -- an object that is neither a list nor a table
  have other : ∀ {b : Addr} {o : Obj}, s1.heap.get? b = some o → (∀ us n, o.data ≠ .seq us n) → o.data ≠ .fields #[] → b ≠ a ∧ b ≠ T := fun {b o} e n1 n2 => by
    refine ⟨fun y => ?_, fun y => ?_⟩
    · rw [y, obj] at e
      cases e
      exact n1 _ _ rfl
    · rw [y, tab] at e
      cases e
      exact n2 rfl
  have names : ∀ {b : Addr} {m : Str → Option Value}, s1.heap.Ns b m → (hidT s1.heap H).Ns b m := fun {b m} z => by
    obtain ⟨o, es, ep, e, d, r⟩ := z
    obtain ⟨n1, n2⟩ := other e (fun us n y => by rw [d] at y; cases y) (fun y => by rw [d] at y; cases y)
    exact ⟨o, es, ep, free e n1 n2, d, r⟩
  have written : K.In (hidT s1.heap H) := fun b o e => by
    refine hidT_get (KX b o e) ?_
    cases q : H b with
    | none => rfl
    | some u =>
      rcases atA b (by rw [q]; simp) with y | y
      · rw [y] at e q
        rw [away (by rw [q]; simp)] at e
        cases e
      · rw [y, free_] at e
        cases e
  obtain ⟨mc, l1, l2⟩ := lim
  have modu : L2.Mod K mg (hidT s1.heap H) := ⟨written, names hns, ⟨mb, names hb, hbb⟩, ⟨mc, names l1, l2⟩⟩
  have TB : TabB (hidT s1.heap H) mg c T := by
    refine ⟨?_, ?_, fun z => ?_⟩
    · obtain ⟨o, us, file, tf, flags, tg, inF, text, tt, e1, r1, r2, r3, r4⟩ := code
      obtain ⟨n1, n2⟩ := other e1 (fun us' n y => by rw [r2] at y; cases y) (fun y => by
        rw [r2] at y
        cases y
        simp at r3)
      exact ⟨o, us, file, tf, flags, tg, inF, text, tt, free e1 n1 n2, r1, r2, r3, r4⟩
    · obtain ⟨bm, ob, b1, b2, b3, b4, b5, b6⟩ := bmod
      obtain ⟨n1, n2⟩ := other b3 (fun us n y => by rw [b6] at y; cases y) (fun y => by rw [b6] at y; cases y)
      have nG : bm ≠ mainGlobals := fun y => by
        obtain ⟨o, es, ep, e, d, _⟩ := hns
        rw [y, e] at b3
        cases b3
        rw [d] at b6
        cases b6
      exact ⟨bm, ob, b1, b2, nG, n2, free b3 n1 n2, b4, b5, b6⟩
    · obtain ⟨o, es, ep, e, d, _⟩ := hns
      rw [z, tab] at e
      cases e
      cases d
  have env : Env0 P w K mg (hidT s1.heap H) callerA [] s1 H := ⟨rfl, modu, fun b o e => of_hidT e, Nat.le_of_eq (hidT_size _ _), trivial, fun b z => (List.not_mem_nil (show b ∈ ([] : List Addr) from z)).elim, held, .of_eq gens⟩
  refine codeAny_mono ((F _ written (names hns) TB).run callerA [] s1 H ⟨[.ref a], []⟩ [.ref a] [.ref a] _ _ rfl room env (bind s1 (.ref a)) (.cons rfl .nil) ask) fun r s2 z => ?_
  cases r with
  | error e => exact (out H e s2 z).elim
  | ok fl =>
    cases fl with
    | ret u =>
      obtain ⟨v, H2, os, bare, un, held2, rv, rfl⟩ := z
      obtain rfl : u = Value.bool true := rv
      have kept : ∀ b o, b ≠ T → s1.heap.get? b = some o → s2.heap.get? b = some o := fun b o nb e => by
        rcases only b with none_ | y | ⟨ob, xs, fz⟩
        · exact un.keep b o e none_ (by intro m; exact absurd (show b ∈ ([] : List Addr) from m) (by simp)) (by simp)
        · exact absurd y nb
        · obtain ⟨o1, _⟩ := held b _ fz
          obtain ⟨o2, _⟩ := held2 b _ (un.frzs b ob _ fz)
          rw [e] at o1
          cases o1
          exact o2
      obtain ⟨more, grown⟩ := un.tbls T #[] atT
      have now : s2.heap.get? T = some { cls := .none, data := .fields (#[] ++ more) } := held2 T _ grown
      refine ⟨rfl, ⟨fun b o e => ?_, fun b o e => ?_⟩, os, bare⟩
      · by_cases y : b = T
        · subst y
          rw [tab] at e
          cases e
          exact .inr (.inl ⟨(code.tab tab).isCodeTable, rfl, #[], more, rfl, now⟩)
        · exact .inl (kept b o y e)
      · by_cases y : b = T
        · exact ⟨_, y ▸ now⟩
        · exact ⟨o, kept b o y e⟩
    | next => exact z.elim
    | brk => exact z.elim
    | cont => exact z.elim
theorem callT (KX : K.In s1.heap) (hns : s1.heap.Ns mainGlobals mg) (hb : s1.heap.Ns builtinsNs mb) (hbb : ∀ y : Str, y ≠ "__name__" → mb y = bootBuiltins y) (lim : s1.heap.NoLimit) (gens : s1.gens = #[])
    (tab : s1.heap.get? T = some { cls := .none, data := .fields #[] }) (free_ : K.lookup T = none) (code : PySem.W.CodeHd s1.heap c T)
    (bmod : ∃ (bm : Addr) (ob : Obj), mg "__builtins__" = some (.ref bm) ∧ bm ≠ builtinsNs ∧ s1.heap.get? bm = some ob ∧ ob.cls = .type "module" ∧ ob.dict = some builtinsNs ∧ ob.data = .plain)
    (obj : s1.heap.get? a = some { cls := .type "list", data := .seq vs.toArray }) (isI : IntsAre vs ns) (few : ns.length ≤ sizeLine) (room : Room k callerA)
    (F : ∀ base : Heap, K.In base → base.Ns mainGlobals mg → TabB base mg c T → FnG P w K mg base CX k fa fd [x] sp) (bind : ∀ (s : Shared) (u : Value), BindsTo s fd ⟨[u], []⟩ [(x, u)])
    (ask : ∀ H : Hp, H T = some (.tbl #[]) → SqL K H a (ns.map V.int) → sp [.ref a] H (fun v _ => v = .bl true) fun _ _ _ => False) (out : ∀ H e s', CX [] H s1 (fun _ _ _ => False) e s' → False) :
    codeAny (model P w) callerA (.call (.ref fa) ⟨[.ref a], []⟩) (fun r s' => r = .ok (.ret (.bool true)) ∧ OldK s1.heap s'.heap ∧ s'.os = s1.os ∧ AllBare s'.gens) s1 := by
  have vals := vals_ints isI
  have len := isI.length
  have aT : a ≠ T := fun y => by
    rw [y, tab] at obj
    cases obj
  cases known : K.lookup a with
  | some o =>
    have e := KX a o known
    rw [obj] at e
    cases e
    let H : Hp := fun b => if b = T then some (.tbl #[]) else none
    have at_ : H T = some (.tbl #[]) := if_pos rfl
    have off : ∀ b, b ≠ T → H b = none := fun b n => if_neg n
    have seq : SqL K H a (ns.map V.int) := .inr ⟨_, vs.toArray, _, known, rfl, rfl, rfl, by rw [List.size_toArray, len]; exact few, by simpa using vals⟩
    refine callT_at KX hns hb hbb lim gens tab free_ code bmod obj room F bind out H at_ (fun b => ?_) (ask H at_ seq) (fun b u z => ?_) (fun b z => ?_) fun z => (z (off a aT)).elim
    · by_cases y : b = T
      · exact .inr (.inl y)
      · exact .inl (off b y)
    · by_cases y : b = T
      · subst y
        rw [at_] at z
        cases z
        exact tab
      · rw [off b y] at z
        cases z
    · by_cases y : b = T
      · exact .inr y
      · exact absurd (off b y) z
  | none =>
    let H : Hp := fun b => if b = a then some (.frz { cls := .type "list", data := .seq vs.toArray } (.lst (ns.map V.int))) else if b = T then some (.tbl #[]) else none
    have at_ : H a = some (.frz { cls := .type "list", data := .seq vs.toArray } (.lst (ns.map V.int))) := if_pos rfl
    have atT : H T = some (.tbl #[]) := (if_neg (Ne.symm aT)).trans (if_pos rfl)
    have off : ∀ b, b ≠ a → b ≠ T → H b = none := fun b n1 n2 => (if_neg n1).trans (if_neg n2)
    have seq : SqL K H a (ns.map V.int) := .inl (.inr ⟨_, at_⟩)
    refine callT_at KX hns hb hbb lim gens tab free_ code bmod obj room F bind out H atT (fun b => ?_) (ask H atT seq) (fun b u z => ?_) (fun b z => ?_) fun _ => known
    · by_cases y : b = a
      · exact .inr (.inr ⟨_, _, y ▸ at_⟩)
      · by_cases y2 : b = T
        · exact .inr (.inl y2)
        · exact .inl (off b y y2)
    · by_cases y : b = a
      · subst y
        rw [at_] at z
        cases z
        exact ⟨obj, by rw [List.length_map]; exact few, vs, _, vals, obj⟩
      · by_cases y2 : b = T
        · subst y2
          rw [atT] at z
          cases z
          exact tab
        · rw [off b y y2] at z
          cases z
    · by_cases y : b = a
      · exact .inl y
      · by_cases y2 : b = T
        · exact .inr y2
        · exact absurd (off b y y2) z
end
/-- the head of such a law -/
theorem walkT {l : PySem.W.OpenLaw} {n k : Nat} {q : Program} {loose : List Str} {XP : (Str → Option Value) → Heap → Prop} {YP : World → Heap → Prop} {d : DefRec} {K : Params → PySem.W.Frag} {CX : World → CXT} {x : Str}
    (most : l.most = some n) (line : n ≤ sizeLine) (plain : d.params.defaults = []) (room : Room k callerA) (keep : ∀ (w : World) (h : Heap), YP w h → (K w.params).In h)
    (F : ∀ (w : World) (mg : Str → Option Value) (fa : Addr) (h : Heap), YP w h → (K w.params).In h → h.Ns mainGlobals mg → mg d.name = some (.ref fa) →
      ∃ (fd : FuncData) (c T : Addr) (sp : Sp), h.get? T = some { cls := .none, data := .fields #[] } ∧ (K w.params).lookup T = none ∧ PySem.W.CodeHd h c T ∧ (∀ (s : Shared) (u : Value), BindsTo s fd ⟨[u], []⟩ [(x, u)]) ∧
        (∀ (H : Hp) (a : Addr) (ns : List Int), ns.length ≤ n → H T = some (.tbl #[]) → SqL (K w.params) H a (ns.map V.int) → sp [.ref a] H (fun v _ => v = .bl true) fun _ _ _ => False) ∧
        ∀ base : Heap, (K w.params).In base → base.Ns mainGlobals mg → TabB base mg c T → FnG l.prog w (K w.params) mg base (CX w) k fa fd [x] sp)
    (out : ∀ (w : World) (H : Hp) (s : Shared) (e : Value) (s' : Shared), CX w [] H s (fun _ _ _ => False) e s' → False) : PySem.W.WalkO q loose XP YP l.row.toRowW d [] (fun f vs => PySem.call f vs) := by
  apply Att.attach_call most plain
  intro w s0 s1 mg mb fa o pm cd doc a vs ns G Y ho hd hcd hmg hobj hints hlen hg
  obtain ⟨fd, c, T, sp, t1, t2, t3, bnd, ask, hF⟩ := F w mg fa _ Y (keep w _ Y) G.T.g hmg
  exact callT (keep w _ Y) G.T.g G.T.b G.T.builtins G.T.nolimit hg t1 t2 t3 G.T.bmain hobj hints (Nat.le_trans hlen line) room hF bnd (fun H h1 h2 => ask H a ns hlen h1 h2) fun H e s' => out w H s1 e s'
end DL
set_option Elab.async false
set_option linter.all false
set_option maxRecDepth 100000
set_option maxHeartbeats 4000000
/-! calls by names alone, the last parameter first -/
namespace DL
open PySem PySem.Spec PyProof.Rows L2 Evl
def gR (_ : List Value) (ws : List Value) : List Value := ws.reverse
def gRV (_ : List V) (zs : List V) : List V := zs.reverse
theorem vals_rev : ∀ {zs : List V} {ws : List Value}, Vals zs ws → Vals zs.reverse ws.reverse
  | _, _, .nil => .nil
  | _, _, .cons a t => by
    rw [List.reverse_cons, List.reverse_cons]
    exact Vals.append (vals_rev t) (.cons a .nil)
/-- the parameters bound by their names, in any order -/
def KwR (K : PySem.W.Frag) (fd : FuncData) (ps : List Str) : Prop := ∀ (s : Shared) (ws : List Value), K.In s.heap → ws.length = ps.length → BindsTo s fd ⟨[], ps.reverse.zip ws⟩ (ps.zip ws.reverse)
theorem kbn_rev {K : PySem.W.Frag} {fd : FuncData} {ps : List Str} (h : KwR K fd ps) : KBn K fd ps 0 ps.reverse gR gRV where
  to := fun s us ws k l1 l2 => by
    obtain rfl := List.eq_nil_of_length_eq_zero l1
    exact h s ws k (by rw [l2, List.length_reverse])
  rel := fun _ r => vals_rev r
/-- f(b = y, a = x) -/
def tCallR (n : Nat) (sp : Sp) (E : XK) (tk : TA) : TE := fun σ H Q => tk σ H fun zs H2 => zs.length = n ∧ sp zs.reverse H2 Q E
theorem pe_kw {X : Cx} {CX : CXT} {k : Nat} {f : Addr} {fd : FuncData} {ps : List Str} {sp : Sp} {E : XK} {x : Str} {p pos : Pos} {kws : List Keyword} {tk : TA} (F : FnOk X.prog X.w X.K X.mg X.base CX k f fd ps sp) (hr : Room k X.A) (hg : Gl X x) (hm : X.mg x = some (.ref f)) (hk : PySem.W.keepIn X.K (.ref f) = true)
    (hb : KwR X.K fd ps) (hx : Passes CX X E) (hkw : PK X kws tk) (hall : (backToKw pos (keywordEach kws X.env)).all (·.1.isSome) = true := by rfl) (hks : (backToKw pos (keywordEach kws X.env)).filterMap (·.1) = ps.reverse := by rfl) (hdb : (x == ("__debug__" : Str)) = false := by decide)
    (hpl : ((backTo pos (starEach [] X.env)).any (·.1) || (backToKw pos (keywordEach kws X.env)).any (·.1.isNone)) = false := by rfl) :
    PE X (.Call (.Name x p) [] kws pos) (tCallR ps.length sp E tk) := by
  constructor
  intro pins s σ H Q I h
  apply wpAny_Call_Name_kw
  refine ld_glob I hg hm ?_ hdb
  refine PySem.W.callWith_KW0 (h₀ := X.base) I.ok.mod.kin hk hall (thn (hkw.run pos pins s σ H _ I h) fun ws s2 z => ?_) hpl
  obtain ⟨zs, H2, I2, rz, l2, q2⟩ := z
  refine ⟨I2.kIn, ?_⟩
  rw [hks]
  exact run_fnN (us := []) (vs := []) F hr (kbn_rev hb) hx I2 .nil rz rfl (by rw [l2, List.length_reverse]) q2
/-- defs that are called by names -/
structure DFK (P : Program) (w : World) (K : PySem.W.Frag) (mg : Str → Option Value) (base : Heap) (CX : CXT) (nm : Str) (k : Nat) (ps : List Str) (sp : Sp) : Prop where
  ex : ∃ (f : Addr) (fd : FuncData), FnOk P w K mg base CX k f fd ps sp ∧ mg nm = some (.ref f) ∧ PySem.W.keepIn K (.ref f) = true ∧ KwR K fd ps
theorem pe_DK {X : Cx} {nm : Str} {k : Nat} {ps : List Str} {sp : Sp} {E : XK} {W : WX} {p pos : Pos} {kws : List Keyword} {tk : TA} (F : DFK X.prog X.w X.K X.mg X.base (L2.CX X.prog X.w) nm k ps sp) (tk_ : Takes X W) (hW : ∀ cls d σ H, E cls d H → W cls d σ H) (hr : Room k X.A) (hg : Gl X nm) (hkw : PK X kws tk)
    (hall : (backToKw pos (keywordEach kws X.env)).all (·.1.isSome) = true := by rfl) (hks : (backToKw pos (keywordEach kws X.env)).filterMap (·.1) = ps.reverse := by rfl) (hdb : (nm == ("__debug__" : Str)) = false := by decide)
    (hpl : ((backTo pos (starEach [] X.env)).any (·.1) || (backToKw pos (keywordEach kws X.env)).any (·.1.isNone)) = false := by rfl) :
    PE X (.Call (.Name nm p) [] kws pos) (tCallR ps.length sp E tk) := by
  obtain ⟨f, fd, h1, h2, h3, h4⟩ := F.ex
  exact pe_kw h1 hr hg h2 h3 h4 (passes_call tk_ hW) hkw hall hks hdb hpl
end DL
set_option Elab.async false
set_option linter.all false
set_option maxRecDepth 100000
set_option maxHeartbeats 4000000
/-! dicts with tuple keys: emptied, read as data, shown -/
namespace DL
open PySem PySem.Spec PyProof.Rows L2 Evl
section
variable {X : Cx} {pins : List (Addr × Obj)} {σ : L2.St} {H : Hp} {s : Shared}
def rClearT : V → List V → Hp → VK → Prop := fun x vs H Q => ∃ (a : Addr) (kvs : List (List Key × V)), x = .ref a ∧ vs = [] ∧ H a = some (.dT kvs) ∧ Q .non (upd H a (.dT []))
theorem mt_clearT : MtR X "dict.clear" rClearT := by
  intro pins s σ H x vs v us Q I rx rv h
  obtain ⟨a, kvs, rfl, rfl, e, q⟩ := h
  obtain rfl : v = Value.ref a := rx
  obtain rfl := rv.zero
  obtain ⟨z, hd, xs, rel, o, es, ep, ho, ex, hdat, hl, _, nd⟩ := dt_of I.hok e
  have sz : es.size ≤ sizeLine := by
    have l1 : es.toList.length = xs.length := by rw [hl, List.length_map]
    have l2 := Paired.length rel
    rw [Array.length_toList] at l1
    omega
  refine call_meetsIn PySem.F.slot_dict_clear (s := s) ⟨o, ho, ex.1⟩ PySem.F.entry_dict_clear (PySem.F.args_dict_clear_1 _) (meets_dict_clear_raw a) ⟨es, ep, ⟨o, ho, ex, hdat⟩, sz, fun h' raw same => ?_⟩
  obtain ⟨o2, ho2, ex2, hdat2⟩ := raw
  exact ⟨.non, upd H a (.dT []), d_write (ob := .dT []) I (by rw [e]; exact True.intro) same ⟨o2, ho2⟩ ⟨Nat.zero_le _, hd, [], .nil, o2, #[], ep + 1, ho2, ex2, hdat2, rfl, List.nodup_nil⟩, rfl, q⟩
/-- a dict with tuples of ints for keys and ints for values, as data -/
abbrev KI := List (List Int × Int)
def kvI (m : KI) : List (List Key × V) := m.map fun p => (p.1.map Sum.inl, .int p.2)
def dDict (m : KI) : PyData := .dict (m.map fun p => (tI p.1, PyData.int p.2))
theorem reads_ints {h : Heap} : ∀ {ns : List Int} {us : List Value}, Vals (ns.map V.int) us → ReadsAll h us (dI ns) []
  | [], _, .nil => .nil
  | n :: ns, _, .cons a t => by
    obtain ⟨t0, rfl⟩ := a
    exact ReadsAll.cons (as := []) (.int n t0) (reads_ints t)
theorem reads_tI (I : Inv X pins σ H s) {b : Addr} {ns : List Int} (e : H b = some (.tup (ns.map V.int))) : Reads s.heap (.ref b) (tI ns) [] := by
  obtain ⟨its, r, ⟨⟨cls, dd, data, sl⟩, ho, hc, n, hd⟩, _⟩ := I.tuple (st_of (K := X.K) e)
  simp only at hc hd
  subst hc hd
  exact Reads.tuple ho rfl rfl (by simpa using reads_ints r)
theorem reads_dT (I : Inv X pins σ H s) {a : Addr} {m : KI} (e : H a = some (.dT (kvI m))) : ∃ as, Reads s.heap (.ref a) (dDict m) as ∧ sysModules ∉ as := by
  obtain ⟨z, hd, xs, rel, o, es, ep, ho, ex, hdat, hl, _, nd⟩ := dt_of I.hok e
  have keys : ∀ {m : KI} {xs : List (List Key × Addr × Value)}, KT H (kvI m) xs → ReadsAll s.heap (xs.map fun x => Value.ref x.2.1) (m.map fun p => tI p.1) [] ∧ ReadsAll s.heap (xs.map fun x => x.2.2) (m.map fun p => PyData.int p.2) [] := by
    intro m
    induction m with
    | nil =>
      intro xs h
      cases h
      exact ⟨.nil, .nil⟩
    | cons p m ih =>
      intro xs h
      cases h with
      | @cons _ x _ xs a t =>
        obtain ⟨r1, r2⟩ := ih t
        obtain ⟨_, a2, a3⟩ := a
        have a2 : H x.2.1 = some (.tup (p.1.map V.int)) := by
          have e0 : ((p.1.map (Sum.inl : Int → Key)).map kV) = p.1.map V.int := by rw [List.map_map]; rfl
          rw [← e0]
          exact a2
        obtain ⟨t0, a3⟩ := (show ∃ t, x.2.2 = Value.int p.2 t from a3)
        refine ⟨ReadsAll.cons (as := []) (reads_tI I a2) r1, ?_⟩
        rw [List.map_cons, a3]
        exact ReadsAll.cons (as := []) (.int p.2 t0) r2
  obtain ⟨r1, r2⟩ := keys rel
  refine ⟨[a] ++ [], Reads.dict (as := []) (bs := []) ho ex.1 hdat ?_ ?_, ?_⟩
  · rw [hl, List.map_map, List.map_map]
    exact r1
  · rw [hl, List.map_map, List.map_map]
    exact r2
  · intro q
    have : sysModules = a := by simpa using q
    rw [← this] at hd
    simp at hd
end
end DL
set_option Elab.async false
set_option linter.all false
set_option maxRecDepth 100000
set_option maxHeartbeats 4000000
/-! a dict comprehension whose keys are tuples -/
namespace DL
open PySem PySem.Spec PyProof.Rows L2 Evl
section
variable {X : Cx} {pins : List (Addr × Obj)} {σ : L2.St} {H : Hp} {s : Shared}
/-- the new dict takes one more pair -/
theorem dT_put {E : Value → Shared → Prop} {D b : Addr} {kvs : List (List Key × V)} {k : List Key} {v : V} {r : Value} {Q : Unit → Shared → Prop} (hu : X.A.units + 1 < cLine) (I : Inv X pins σ H s) (hD : H D = some (.dT kvs)) (hb : H b = some (.tup (k.map kV)))
    (sz : kvs.length < sizeLine) (rv : RelV v r) (q : ∀ s', Inv X pins σ (upd H D (.dT (putK kvs k v))) s' → Q () s') : wpAny (model X.prog X.w) X.A (dictSet D (.ref b) r) Q E s := by
  obtain ⟨z, hd, xs, rel, dd⟩ := dt_of I.hok hD
  have lx : xs.length ≤ sizeLine := Paired.length rel ▸ z
  have room : (tupleKind (mixKind X.prog X.w)).room X.A := by
    show X.A.units < cLine
    omega
  refine wpAny_dictSet_heap (hsz := lx) room (key_of I.hok hb) dd fun h' now but => q _ ?_
  obtain ⟨o, es, ep, ho, ex, hdat, hl, _, nd⟩ := now
  refine d_write I (by rw [hD]; exact True.intro) but ⟨o, ho⟩ ⟨Nat.le_trans (length_putK kvs k v) sz, hd, _, (rel.put k hb rv).keeps fun c ys ec => ?_, o, es, ep, ho, ex, hdat, hl, nd⟩
  rw [upd_ne (ne_of ec hD fun y => nomatch y)]
  exact ec
/-- {k: v for ..}: every key a tuple that is known -/
def tDcT (wi : TI) (g : TG) (tt : TT) (tk tv : TE) (vs : List Nat) : TE := fun σ H Q => wi σ H fun J Ha => ∀ D, Ha D = none → ∃ (W : Nat → Hp → Prop) (n : Nat), W 0 (upd Ha D (.dT [])) ∧ ∀ i H, W i H →
  (J.stop i H ∧ Q (.ref D) H) ∨ (i < n ∧ J.go i H ∧ ∀ x Hx, J.yld i H x Hx → g x (wipe σ vs) Hx fun σ2 H2 => wipe σ2 vs = wipe σ vs ∧ tt σ2 H2 fun yes H3 =>
    if yes = true then tk σ2 H3 fun y H4 => tv σ2 H4 fun z H5 => ∃ (kvs : List (List Key × V)) (k : List Key) (b : Addr), y = .ref b ∧ H5 b = some (.tup (k.map kV)) ∧ H5 D = some (.dT kvs) ∧ kvs.length < sizeLine ∧ W (i + 1) (upd H5 D (.dT (putK kvs k z))) else W (i + 1) H3)
theorem pe_dcT {kx vx tg iter : Expr} {ifs : List Expr} {sc : Scope} {own : List (Str × Nat)} {pos : Pos} {wi : TI} {g : TG} {tt : TT} {tk tv : TE} (calm : X.calm = true) (nd : X.N.Nodup) (hu : X.A.units + 1 < cLine) (over : PI X tg iter wi) (blk : BlkOk X.N X.env.scope sc own)
    (pgG : ∀ (s : Shared) (H : Hp) (C : Addr) (cl : List (Str × Addr)) (fp : List Addr), PG (X.blk s H sc (compEnvC sc cl C X.env) fp) tg g)
    (ptG : ∀ (s : Shared) (H : Hp) (C : Addr) (cl : List (Str × Addr)) (fp : List Addr), PTs (X.blk s H sc (compEnvC sc cl C X.env) fp) ifs tt)
    (pkG : ∀ (s : Shared) (H : Hp) (C : Addr) (cl : List (Str × Addr)) (fp : List Addr), PE (X.blk s H sc (compEnvC sc cl C X.env) fp) kx tk)
    (pvG : ∀ (s : Shared) (H : Hp) (C : Addr) (cl : List (Str × Addr)) (fp : List Addr), PE (X.blk s H sc (compEnvC sc cl C X.env) fp) vx tv)
    (plain : ∀ x, foldedSetIterable iter X.env x = pure x := by intro _; rfl) : PE X (.DictComp kx vx [⟨tg, iter, ifs, 0⟩] sc pos) (tDcT wi g tt tk tv (own.map (·.2))) := by
  constructor
  intro pins s σ H Q I ask
  rw [arm_eval_DictComp]
  have fr : ∀ y ∈ sc.names, y.2 = .free → ∃ c, X.env.cells.lookup y.1 = some c := fun y m e => (blk.free y m e).elim (fun k => I.ok.has _ (.inl k)) fun k => I.ok.has _ (.inr k)
  refine wpAny_comprehension_free (use := none) rfl plain (closure_ok fr) blk.kind (fun y m e => by rw [blk.uniq y m, e]) ?_
  refine thn (over.run pins s σ H _ I ask) fun xv sA gotIter => thn gotIter fun itv sB gotIt => ?_
  obtain ⟨it, fp, tn, J, Ha, rfl, IB, T, stB, fB, next⟩ := gotIt
  refine wpAny_newObj_type (newEnv_comp ?_)
  obtain ⟨D, eD⟩ : ∃ D, D = sB.heap.objs.size := ⟨_, rfl⟩
  rw [← eD]
  have freshD : Ha D = none := IB.hok.fresh (Nat.le_of_eq eD.symm)
  obtain ⟨W, lim, w0, turn⟩ := next D freshD
  obtain ⟨sC, eC⟩ : ∃ sC : Shared, sC = { sB with heap := sB.heap.push { cls := .type "dict", data := .dict #[] } } := ⟨_, rfl⟩
  rw [← eC]
  have heapC : sC.heap = sB.heap.push { cls := .type "dict", data := .dict #[] } := by rw [eC]
  have IC : Inv X pins σ (upd Ha D (.dT [])) sC := by
    rw [eC, eD]
    exact IB.laid (t' := sB.toks) (fun b o e => Heap.get?_push_of_some _ e) (Nat.le_refl _) (dt_empty sB.heap IB.big)
  have small : ∀ b ∈ fp, b < sB.heap.objs.size := fun b m => by
    obtain ⟨o, e, _⟩ := T.obj _ _ stB b m
    exact Heap.lt_size e
  have fC : ∀ b ∈ fp, FpOk X pins (upd Ha D (.dT [])) b ∧ b < sC.heap.objs.size := fun b m => by
    have lt := small b m
    refine ⟨⟨?_, (fB b m).2⟩, ?_⟩
    · rw [upd_ne (eD ▸ Nat.ne_of_lt lt)]
      exact (fB b m).1
    · rw [heapC, Heap.size_push]
      exact Nat.lt_succ_of_lt lt
  have stC : tn 0 sC.heap := T.keep _ _ _ stB fun b _ o e => heapC ▸ Heap.get?_push_of_some _ e
  obtain ⟨Hc, eHc⟩ : ∃ Hc, Hc = upd Ha D (.dT []) := ⟨_, rfl⟩
  rw [← eHc] at IC fC w0
  obtain ⟨clo, eclo⟩ : ∃ clo, clo = cellsFrom (sC.heap.objs.size + 1) sc.names (cloFrom X.env.cells sc.names []) := ⟨_, rfl⟩
  obtain ⟨ce, ece⟩ : ∃ ce, ce = compEnvC sc clo sC.heap.objs.size X.env := ⟨_, rfl⟩
  have gP := pgG sC Hc sC.heap.objs.size clo fp
  have tP := ptG sC Hc sC.heap.objs.size clo fp
  have kP := pkG sC Hc sC.heap.objs.size clo fp
  have vP := pvG sC Hc sC.heap.objs.size clo fp
  have IE := block_start IC blk nd fC
  rw [← eclo, ← ece] at IE
  rw [← ece] at gP tP kP vP
  have locE : ce.locals = sC.heap.objs.size := by rw [ece]; rfl
  obtain ⟨sE, eE⟩ : ∃ sE : Shared, sE = { sC with heap := pushCells (sC.heap.push { cls := .type "dict", data := .dict #[] }) sc.names } := ⟨_, rfl⟩
  rw [← eE] at IE
  have stE : tn 0 sE.heap := T.keep _ _ _ stC fun b _ o e => eE ▸ pushCells_keeps _ _ _ _ (Heap.get?_push_of_some _ e)
  have here : ∀ {σ' : L2.St} {H' : Hp} {s' : Shared}, Inv (X.blk sC Hc sc ce fp) [] σ' H' s' → (∀ b ∈ fp, H' b = none) → ∀ b ∈ fp, FpOk (X.blk sC Hc sc ce fp) [] H' b := fun {_ _ _} I' free b m =>
    ⟨free b m, (I'.ok.exf b m).1, I'.ok.exfs b m, .inl m, fun x c e => (I'.ok.exf b m).2 x c e, fun p q => (List.not_mem_nil (show p ∈ ([] : List (Addr × Obj)) from q)).elim⟩
  let Wd : Nat → Shared → Prop := fun n s' => ∃ i H', n = lim - i ∧ Inv (X.blk sC Hc sc ce fp) [] (wipe σ (own.map (·.2))) H' s' ∧ tn i s'.heap ∧ (∀ b ∈ fp, H' b = none) ∧ W i H'
  subst ece eclo
  have loop : codeAny (model X.prog X.w) X.A (.compLoop (.DictComp kx vx [⟨tg, iter, ifs, 0⟩] sc pos) 0 (.ref it) (.ref D) (compEnvC sc (cellsFrom (sC.heap.objs.size + 1) sc.names (cloFrom X.env.cells sc.names [])) sC.heap.objs.size X.env)) (compPost (model X.prog X.w) X.A X.xe none (fun v s' => ∃ x H', Inv X pins σ H' s' ∧ RelV x v ∧ Q x H') (.ref D) sC.heap.objs.size) sE := by
    refine compLoop_anyD Wd ?_ (lim - 0) ⟨0, Hc, rfl, IE, stE, fun b m => (fC b m).1.1, w0⟩
    rintro n s5 ⟨i, H5, rfl, I5, st5, n5, w5⟩
    rcases turn i H5 w5 with ⟨stop, done⟩ | ⟨lt, go, step⟩
    · refine thnF (T.done (X.blk sC Hc sc _ fp) rfl rfl rfl calm i [] s5 _ H5 (fun _ _ => False) I5 (here I5 n5) st5 stop) fun r s6 z => ?_
      obtain ⟨rfl, I6⟩ := z
      have I7 : Inv X pins σ H5 s6 := IC.call' (ch := fp) I6.os I6.base I6.hok I6.bare fun b m => ⟨(fC b m).1.2.2.2.1, (fC b m).1.2.1, (fC b m).1.2.2.2.2.1, (fC b m).1.2.2.2.2.2⟩
      have noC : H5 sC.heap.objs.size = none := I6.free
      obtain ⟨m, ns, _⟩ := I6.loc
      obtain ⟨f0, f1, f2, f3, f4, f5⟩ := IC.fpOk (Nat.le_refl _) noC
      refine ⟨m, ns, fun h9 sb => ?_⟩
      exact ⟨.ref D, H5, I7.turned (t' := s6.toks) (fun b o hb e => (sb.2 b hb).trans e) noC f1 f3 f4 f5, rfl, done⟩
    · refine thnF (T.item (X.blk sC Hc sc _ fp) rfl rfl rfl calm i [] s5 _ H5 (fun _ _ => False) I5 (here I5 n5) st5 go) fun r s6 z => ?_
      obtain ⟨u, rfl, z6⟩ := z
      refine thnF z6 fun _ s7 z7 => ?_
      obtain ⟨x, H7, I7, r7, y7, st7, n7⟩ := z7
      refine thnF (gP.run _ s7 _ H7 x u _ (I7.pinned (here I7 n7) (T.obj _ _ st7)) r7 (step x H7 y7)) fun _ s8 z8 => ?_
      obtain ⟨σ8, H8, I8, w8, q8⟩ := z8
      refine thnF (tP.run _ s8 σ8 H8 _ I8 q8) fun yes s9 z9 => ?_
      obtain ⟨H9, I9, q9⟩ := z9
      have again : ∀ {s' : Shared} {H' : Hp}, Inv (X.blk sC Hc sc (compEnvC sc (cellsFrom (sC.heap.objs.size + 1) sc.names (cloFrom X.env.cells sc.names [])) sC.heap.objs.size X.env) fp) ([] ++ pinsAt fp s7.heap) σ8 H' s' → W (i + 1) H' → ∃ m, m < lim - i ∧ Wd m s' := fun {s' H'} I' nx => by
        have pinned : ∀ b ∈ fp, ∀ o, s7.heap.get? b = some o → s'.heap.get? b = some o ∧ H' b = none := fun b m o e => by
          obtain ⟨z1, z2, _⟩ := I'.pin (b, o) (List.mem_append_right _ (List.mem_append_right _ (mem_pinsAt m e)))
          exact ⟨z1, z2⟩
        have same : (wipe σ (own.map (·.2))).length = σ8.length := (congrArg List.length w8).symm.trans (wipe_length _ _)
        refine ⟨lim - (i + 1), by omega, i + 1, H', rfl, (I'.unpinned (pins := [])).weak same (fun j v e => (wipe_some (w8 ▸ e)).1), T.keep _ _ _ st7 fun b m o e => (pinned b m o e).1, fun b m => ?_, nx⟩
        obtain ⟨o, e, _⟩ := T.obj _ _ st7 b m
        exact (pinned b m o e).2
      cases yes with
      | false => exact again I9 q9
      | true =>
        refine thnF (kP.run _ s9 σ8 H9 _ I9 q9) fun kv s10 z10 => ?_
        obtain ⟨y, H10, I10, r10, q10⟩ := z10
        refine thnF (vP.run _ s10 σ8 H10 _ I10 q10) fun vv s11 z11 => ?_
        obtain ⟨v, H11, I11, r11, kvs, k, b, rfl, hb, hD, sz, nx⟩ := z11
        obtain rfl : kv = Value.ref b := r10
        exact dT_put (X := X.blk sC Hc sc _ fp) hu I11 hD hb sz r11 fun s12 I12 => again I12 nx
  rw [← eE]
  exact codeAny_compStart_dict loop (T.self X.A 0 _ _ _ stE loop)
end
end DL
set_option Elab.async false
set_option linter.all false
set_option maxRecDepth 100000
set_option maxHeartbeats 4000000
/-! list(d.values()) of a dict with tuple keys; repr of such dicts, alone and in lists -/
namespace DL
open PySem PySem.Spec PyProof.Rows L2 Evl
section
variable {X : Cx} {pins : List (Addr × Obj)} {σ : L2.St} {H : Hp} {s : Shared}
def rValsT : V → List V → Hp → VK → Prop := fun x vs H Q => ∃ (a : Addr) (kvs : List (List Key × V)), x = .ref a ∧ vs = [] ∧ H a = some (.dT kvs) ∧ ∀ p, H p = none → Q (.ref p) (upd H p (viewO "dict_values" p a))
theorem mt_valsT : MtR X "dict.values" rValsT := by
  intro pins s σ H x vs v us Q I rx rv h
  obtain ⟨a, kvs, rfl, rfl, e, q⟩ := h
  obtain rfl : v = Value.ref a := rx
  obtain rfl := rv.zero
  obtain ⟨z, hd, xs, rel, o, es, ep, ho, ex, hdat, hl, _, nd⟩ := dt_of I.hok e
  refine call_meetsIn PySem.F.slot_dict_values (s := s) ⟨o, ho, ex.1⟩ PySem.F.entry_dict_values (PySem.F.args_dict_values_1 _) (meets_dict_values_raw a hd) ⟨⟨es, ep, o, ho, ex, hdat⟩, ?_⟩
  exact ⟨.ref s.heap.objs.size, _, I.laid (t' := s.toks) (fun b o q => Heap.get?_push_of_some _ q) (Nat.le_refl _) (viewO_ok (Heap.get?_push_size _ rfl)), rfl, q _ (I.hok.fresh (Nat.le_refl _))⟩
/-- list(view), the values whole numbers -/
def rListVT : List V → Hp → VK → Prop := fun xs H Q => ∃ (p a : Addr) (kvs : List (List Key × V)), xs = [.ref p] ∧ H p = some (viewO "dict_values" p a) ∧ H a = some (.dT kvs) ∧ ∀ r, H r = none → Q (.ref r) (upd H r (.lst (kvs.map Prod.snd)))
theorem call_listVT (calm : X.calm = true) : CallR X (.type "list") rListVT := by
  intro pins s σ H xs us Q I r h
  obtain ⟨p, a, kvs, rfl, hp, ha, q⟩ := h
  obtain rfl := Vals.ref1 r
  have hv : s.heap.get? p = some (DSub.viewOb "dict_values" a) := (show ObjOk X.prog X.w H s.heap p (viewO "dict_values" p a) from I.hok p _ hp).1
  obtain ⟨z, hd, ks, rel, o, es, ep, ho, ex, hdat, hl, _, nd⟩ := dt_of I.hok ha
  have l1 : es.size = ks.length := size_of_entries hl
  have l2 : kvs.length = ks.length := Paired.length rel
  refine PySem.W.kdl_call PySem.KdlSrc.rawValues (I.ok.hd calm) ⟨⟨_, hv, rfl, rfl⟩, o, ho, ex, hdat⟩ (by omega) fun h' tk acc c' keep e it => ?_
  have same : acc.toList = ks.map fun x => x.2.2 := by
    have n1 : acc.toList.length = ks.length := by rw [Array.length_toList, it.1]; exact l1
    refine List.ext_getElem? fun j => ?_
    rw [List.getElem?_map]
    rcases Nat.lt_or_ge j ks.length with lt | ge
    · have lt2 : j < acc.toList.length := by omega
      obtain ⟨hi, eu⟩ := it.2 j acc.toList[j] (by rw [← Array.getElem?_toList]; exact List.getElem?_eq_getElem lt2)
      have at_ : es.toList[j]? = some es[j] := by rw [Array.getElem?_toList, Array.getElem?_eq_getElem hi]
      rw [hl, List.getElem?_map, List.getElem?_eq_getElem lt] at at_
      rw [List.getElem?_eq_getElem lt2, List.getElem?_eq_getElem lt, eu, ← Option.some.inj at_]
      rfl
    · rw [List.getElem?_eq_none ge, List.getElem?_eq_none (by omega)]
      rfl
  have both : ∀ {l : List (List Key × V)} {m : List (List Key × Addr × Value)}, KT H l m → Vals (l.map Prod.snd) (m.map fun x => x.2.2) := by
    intro l m r
    induction r with
    | nil => exact .nil
    | cons g t ih => exact .cons g.2.2 ih
  have vals : Vals (kvs.map Prod.snd) acc.toList := same ▸ both rel
  exact ⟨.ref s.heap.objs.size, _, I.laid (t' := tk) (o := .lst (kvs.map Prod.snd)) keep (Nat.le_refl _) ⟨by rw [List.length_map]; exact z, acc.toList, c', vals, by rw [Array.toArray_toList]; exact e⟩, rfl, q _ (I.hok.fresh (Nat.le_refl _))⟩
/-- repr(d) -/
def rReprT : List V → Hp → VK → Prop := fun xs H Q => ∃ (a : Addr) (m : KI), xs = [.ref a] ∧ H a = some (.dT (kvI m)) ∧ (dDict m).showable = true ∧ (dDict m).depth ≤ 80 ∧ (dDict m).shown.length ≤ sizeLine ∧ Q (.str (dDict m).shown) H
theorem call_reprT (hg : X.A.guards = some []) (hu : X.A.units + 100 < cLine) : CallR X (.builtin "repr") rReprT := by
  intro pins s σ H xs us Q I r h
  obtain ⟨a, m, rfl, ha, hs, hd, sz, q⟩ := h
  obtain rfl := Vals.ref1 r
  obtain ⟨as, rd, nm⟩ := reads_dT I ha
  exact repr_of_reads' rd hs (fun _ => nm) hg (by omega) (fun _ _ e => e) (fun h' u tk k => ⟨.str (dDict m).shown, H, I.kept k, ⟨u, rfl⟩, q⟩) sz
/-- dicts in a row -/
def DTs (H : Hp) : List V → List KI → Prop := Paired fun v m => ∃ a, v = .ref a ∧ H a = some (.dT (kvI m))
theorem reads_dTs (I : Inv X pins σ H s) : ∀ {vs : List V} {ms : List KI} {us : List Value}, DTs H vs ms → Vals vs us → ∃ as, ReadsAll s.heap us (ms.map dDict) as ∧ sysModules ∉ as
  | _, _, _, .nil, .nil => ⟨[], .nil, by simp⟩
  | _, _, _, .cons g t, .cons r rs => by
    obtain ⟨a, rfl, ha⟩ := g
    obtain rfl := r
    obtain ⟨a1, r1, n1⟩ := reads_dT I ha
    obtain ⟨a2, r2, n2⟩ := reads_dTs I t rs
    exact ⟨a1 ++ a2, .cons r1 r2, fun z => (List.mem_append.mp z).elim n1 n2⟩
def dRow (ms : List KI) : PyData := .list (ms.map dDict)
/-- repr([d, ..]) -/
def rReprLT : List V → Hp → VK → Prop := fun xs H Q => ∃ (p : Addr) (vs : List V) (ms : List KI), xs = [.ref p] ∧ H p = some (.lst vs) ∧ DTs H vs ms ∧ ms ≠ [] ∧ (dRow ms).showable = true ∧ (dRow ms).depth ≤ 80 ∧ (dRow ms).shown.length ≤ sizeLine ∧ Q (.str (dRow ms).shown) H
theorem call_reprLT (hg : X.A.guards = some []) (hu : X.A.units + 100 < cLine) : CallR X (.builtin "repr") rReprLT := by
  intro pins s σ H xs us Q I r h
  obtain ⟨p, vs, ms, rfl, hp, hv, ne, hs, hd, sz, q⟩ := h
  obtain rfl := Vals.ref1 r
  obtain ⟨_, us, n, rv, ho⟩ := (show ObjOk X.prog X.w H s.heap p (.lst vs) from I.hok p _ hp)
  obtain ⟨as, rd, nm⟩ := reads_dTs I hv rv
  have sz' : (listText (PyData.shownAll (ms.map dDict))).length ≤ sizeLine := by simpa only [dRow, PyData.shown] using sz
  obtain ⟨bs, below, shows⟩ := ReprAllK.of_readsAll (prog := X.prog) (w := X.w) rd (by simpa [dRow, PyData.showable] using hs) (fun _ => nm) fun t ht => Nat.le_trans (listText_mem_le ht) sz'
  have apart : p ∉ bs := not_mem_of_deeper (.list ho rfl rfl (by simpa using rd)) (by simp only [PyData.depth]; omega) below
  have typed : s.TypeIs (.ref p) "list" := ⟨_, ho, rfl⟩
  have deep : (dRow ms).depth = PyData.depthAll (ms.map dDict) + 1 := by simp only [dRow, PyData.depth]
  refine call_repr_slot (by omega) typed F.slot_list_repr.toG ?_
  cases us with
  | nil =>
    cases rv
    cases hv
    exact absurd rfl ne
  | cons u us =>
    refine call_list_reprK ho rfl rfl apart (by simpa using shows.length_eq) (fun i y e => shows.item i y (by simpa using e)) (show X.A.in1.guards = some [] from hg) (fun b _ => Clear.nil b) (by show X.A.units + 1 + (PyData.depthAll (ms.map dDict) + 1) < cLine; omega) (fun _ _ e => e) (fun h' u' tk k => ⟨listText (PyData.shownAll (ms.map dDict)), u', rfl, .str (dRow ms).shown, H, I.kept k, ⟨u', by simp only [dRow, PyData.shown]⟩, q⟩) sz'
end
end DL
set_option Elab.async false
set_option linter.all false
set_option maxRecDepth 100000
set_option maxHeartbeats 4000000
/-! what a law with lambdas wants besides -/
namespace DL
open PySem PySem.Spec PyProof.Rows L2 Evl LamX
theorem hu100 {A : Around} {k : Nat} (hr : Room k A) : A.units + 100 < cLine := by
  have := hr.un
  omega
/-- all parameters by their names, in any order that the text takes -/
theorem Fun.kwr {K : PySem.W.Frag} {x qual : Str} {st : Stmt} {f : Addr} {fd : FuncData} {ps : List Str} (F : Fun K x qual st f fd)
    (h : ∀ (kV doc pm : Value) (an : Option Addr) (cdv ct : Value) (ws : List Value), ws.length = ps.length → bindArgs (PySem.W.fnOf x qual (defArgs st) (defBody st) (defScope st) .none kV doc pm an cdv ct) ⟨[], ps.reverse.zip ws⟩ = pure (ps.zip ws.reverse)) : KwR K fd ps := by
  obtain ⟨⟨oc, od, kV, doc, pm, an, cdv, ct, osl, rfl, lk, hcd⟩, _⟩ := F
  exact fun s ws _ hl => BindsTo.of_eq (h kV doc pm an cdv ct ws hl)
/-- an own error's class as a value -/
theorem pe_cls {X : Cx} {x : Str} {C : Addr} {p : Pos} (T : ErC X.K X.mg x C) (hg : Gl X x) (hd : (x == ("__debug__" : Str)) = false := by decide) : PE X (.Name x p) (tC (.ref C)) := pe_glob hg T.gC rfl hd
/-- the def that catches what a lambda raises -/
structure CauF (K : PySem.W.Frag) (mg : Str → Option Value) (nm : Str) (CS : Addr) : Prop where
  ex : ∃ (g : Addr) (oc : Value) (od an : Option Addr) (osl : Array (Option Value)) (sg : Scope) (pg : Arguments) (dV kV doc pm cdv ct : Value) (k0 : Nat) (p1 p2 p3 p4 p5 p6 p7 p8 p9 p10 p11 p12 p13 p14 : Pos), mg nm = some (.ref g) ∧ PySem.W.keepIn K (.ref g) = true ∧
    K.lookup g = some ⟨oc, od, .func (PySem.W.fnOf nm nm pg (caughtB k0 p1 p2 p3 p4 p5 p6 p7 p8 p9 p10 p11 p12 p13 p14) sg dV kV doc pm an cdv ct), osl⟩ ∧ PySem.W.codeIn K cdv nm = true ∧
    L2.Binds K (PySem.W.fnOf nm nm pg (caughtB k0 p1 p2 p3 p4 p5 p6 p7 p8 p9 p10 p11 p12 p13 p14) sg dV kV doc pm an cdv ct) ["work"] [] ∧ FnScope ["work", "caught", "error"] ["work"] sg ∧
    sg.names.lookup ("CallError" : Str) = some .globalImplicit ∧ mg "CallError" = some (.ref CS) ∧ sg.names.lookup ("error" : Str) = some .local ∧ sg.names.lookup ("caught" : Str) = some .local ∧ sg.names.lookup ("work" : Str) = some .local
theorem pe_caughtD {X : Cx} {x y : Str} {CS : Addr} {k j : Nat} {p py pos : Pos} (F : CauF X.K X.mg x CS) (hg : Gl X x) (hr : Room (k + 2) X.A) (hN : X.N[j]? = some y) (hv : Vis X.env.scope y)
    (hdb : (x == ("__debug__" : Str)) = false := by decide) (hd : (y == ("__debug__" : Str)) = false := by decide) (hcd : (y == ("__classdict__" : Str)) = false := by decide) :
    PE X (.Call (.Name x p) [.Name y py] [] pos) (fun σ H Q => ∃ f c' params body scope tb, σ[j]? = some (some (.ref f)) ∧ H f = some (LamO f c' (X.env.qual ++ "<lambda>") params body scope (cloFrom X.env.cells scope.names [])) ∧ H c' = some (CodeO c' (X.env.qual ++ "<lambda>")) ∧ LamD X k params body scope tb ∧ TTc X.K CS tb σ H Q) := by
  obtain ⟨g, oc, od, an, osl, sg, pg, dV, kV, doc, pm, cdv, ct, k0, p1, p2, p3, p4, p5, p6, p7, p8, p9, p10, p11, p12, p13, p14, h1, h2, h3, h4, h5, h6, h7, h8, h9, h10, h11⟩ := F.ex
  exact pe_caught hg h1 h2 h3 h4 h5 h6 h7 h8 h9 h10 h11 hr hN hv hdb hd hcd
end DL
set_option Elab.async false
set_option linter.all false
set_option maxRecDepth 100000
set_option maxHeartbeats 4000000
/-! comprehensions with a test, over data -/
namespace DL
open PySem PySem.Spec PyProof.Rows L2 Evl
section
variable {K : PySem.W.Frag} {σ : L2.St} {H : Hp} {ta tb te : TE} {ds : List PyData}
theorem eqV_int (a b : Int) : eqV (.int a) (.int b) = decide (a = b) := by
  unfold eqV
  rfl
theorem inV_ints (n : Int) : ∀ l : List Int, inV (.int n) (l.map V.int) = decide (n ∈ l)
  | [] => by simp [inV]
  | x :: l => by
    have ih := inV_ints n l
    unfold inV at ih ⊢
    rw [List.map_cons, List.any_cons, ih, eqV_int]
    by_cases h : x = n
    · subst h; simp
    · simp [h, Ne.symm h]
theorem flat_ints : ∀ l : List Int, (l.map V.int).all flatV = true
  | [] => rfl
  | _ :: l => by
    rw [List.map_cons, List.all_cons, flat_ints l]
    rfl
/-- n in t -/
theorem ev_inT {n : Int} {l : List Int} (ha : Ev ta σ H (.int n)) (hb : EvD K tb σ H (tI l)) : Ev (tOp (rIn K false) ta tb) σ H (.bl (decide (n ∈ l))) := fun H1 e Q q =>
  ha H1 e _ fun H2 e2 => hb H2 (e.trans e2) _ fun v H3 e3 hv => by
    obtain ⟨p, rfl, hp⟩ := dp_tI hv
    refine ⟨p, _, rfl, .inr hp, rfl, flat_ints l, ?_⟩
    rw [inV_ints]
    exact q H3 (e2.trans e3)
/-- zip of a tuple of ints and a list that stands -/
theorem ei_zipTL {S : List Addr} {q : Addr} {vs : List V} {a : List Int} (hS : Ls H S) (ha : EvD K ta σ H (tI a)) (hb : Ev tb σ H (.ref q)) (hq : H q = some (.lst vs)) (hn : q ∉ S) (hd : DpAll K H vs ds) (hi : immAll ds = true) :
    EvI K (iZipM K true false (tCons ta (tCons tb tNil))) σ H S (List.zipWith (fun x y => PyData.tuple [.int x, y]) a ds) := fun H1 e R r =>
  ha H1 e _ fun x H2 e2 hx => hb H2 (e.trans e2) _ fun H3 e3 => by
    obtain ⟨p, rfl, h1⟩ := dp_tI hx
    have h1 := ex_t e3 h1
    have up := (e.trans e2).trans e3
    have h2 := up _ _ hq
    have d2 := dpa_ex up _ _ hd
    refine ⟨p, q, _, _, rfl, sqa_t h1, sqa_l (sq_of h2), r _ H3 (e2.trans e3) ?_⟩
    rw [List.length_zipWith, ← dpa_len hd]
    have w := walk_zipM (K := K) (a := p) (b := q) (t := true) (u := false) (xs := a.map V.int) (ys := vs) (n := min a.length vs.length) (by simp)
    refine w.mono (fun Ha x => ⟨sqT_tx (x.tx (hS.ex up)) h1, sq_of (x q _ h2 hn)⟩) fun i Ha v Hb hlt hg y => ?_
    obtain ⟨T, v1, v2, rfl, hT, rfl, g1, g2⟩ := y
    simp only [List.getElem?_map] at g1
    obtain ⟨n1, m1, rfl⟩ := Option.map_eq_some_iff.mp g1
    have tx : Tx H3 (upd Ha T (.tup [.int n1, v2])) := (hg.tx (hS.ex up)).trans (Tx.of_ex (Ex.new hT))
    obtain ⟨d, q1, q2⟩ := dpa_getV (dpa_tx tx _ _ hi d2) g2
    refine ⟨Ex.new hT, .tuple [.int n1, d], ?_, .tup (st_of upd_same) (.cons (.int _) (.cons q2 .nil))⟩
    rw [List.getElem?_zipWith, m1, q1]
/-- [f for .. if b], over data -/
theorem en_lcB {wi : TI} {g : TG} {tt : TT} {vs : List Nat} (h : EvI K wi σ H [] ds) (hl : ds.length ≤ 50000) (b : Nat → Bool) (f : Nat → Int)
    (hs : ∀ H2 i d x Hb (Q : L2.St → Hp → Prop), Ex H H2 → ds[i]? = some d → Ex H2 Hb → Dp K Hb x d → (∀ σ2 H3, Ex Hb H3 → wipe σ2 vs = wipe σ vs → EvT tt σ2 H3 (b i) → Ev te σ2 H3 (.int (f i)) → Q σ2 H3) → g x (wipe σ vs) Hb Q) :
    EvN K (tLc wi g tt te vs) σ H (dI (((List.range ds.length).filter b).map f)) := fun H1 e Q q => h H1 e _ fun J H2 e2 w => fun Dl hD => by
  refine lc_it w (fun n Ha => Ex H2 Ha ∧ Ha Dl = some (.lst ((((List.range n).filter b).map f).map V.int))) ⟨Ex.new hD, upd_same⟩ (fun n Ha _ p => Xp.of_ex p.1) (fun i x Ha Hb hlt p y => ?_) fun Ha p => ?_
  · obtain ⟨p1, p2⟩ := p
    obtain ⟨ey, d, hd1, hd2⟩ := y
    have few : ((((List.range i).filter b).map f).map V.int).length < sizeLine := by
      rw [List.length_map, List.length_map]
      have := List.length_filter_le b (List.range i)
      rw [List.length_range] at this
      exact sz_lt (by omega)
    refine hs H2 i d x Hb _ (e.trans e2) hd1 (p1.trans ey) hd2 fun σ2 H3 e3 hw ht hv => ⟨hw, ?_⟩
    refine ht H3 (Ex.refl _) _ fun H4 e4 => ?_
    have at4 : H4 Dl = some (.lst _) := e4 _ _ (e3 _ _ (ey _ _ p2))
    cases hb : b i with
    | false =>
      rw [if_neg (by simp)]
      refine ⟨((p1.trans ey).trans e3).trans e4, ?_⟩
      rw [List.range_succ, List.filter_append, List.filter_cons, hb]
      simpa using at4
    | true =>
      rw [if_pos rfl]
      refine hv H4 e4 _ fun H5 e5 => ⟨_, e5 _ _ at4, few, Ex.mut ((((p1.trans ey).trans e3).trans e4).trans e5) hD, ?_⟩
      rw [upd_same, List.range_succ, List.filter_append, List.filter_cons, hb]
      simp
  · obtain ⟨p1, p2⟩ := p
    exact q Dl _ Ha (fresh_back e2 hD) (e2.trans p1) p2 (ints_dpa _)
end
end DL
set_option Elab.async false
set_option linter.all false
set_option maxRecDepth 100000
set_option maxHeartbeats 4000000
/-! a law's def with its own code object told -/
namespace DL
open PySem PySem.Spec PyProof.Rows L2 Evl
structure FunC (K : PySem.W.Frag) (x qual : Str) (st : Stmt) (f : Addr) (fd : FuncData) (c : Addr) : Prop where
  ex : ∃ (oc : Value) (od : Option Addr) (kV doc pm : Value) (an : Option Addr) (ct : Value) (osl : Array (Option Value)),
    fd = PySem.W.fnOf x qual (defArgs st) (defBody st) (defScope st) .none kV doc pm an (.ref c) ct ∧ K.lookup f = some ⟨oc, od, .func fd, osl⟩ ∧ PySem.W.codeIn K (.ref c) qual = true
theorem okC {P : Program} {w : World} {K : PySem.W.Frag} {mg : Str → Option Value} {base : Heap} {CX : CXT} {x qual : Str} {st : Stmt} {f c : Addr} {fd : FuncData} {N ps : List Str} {k : Nat} {sp : Sp} (F : FunC K x qual st f fd c) (S : FnScope N ps (defScope st)) (len : ∀ vs H Q E, sp vs H Q E → vs.length = ps.length)
    (body : ∀ (A : Around) (outer : List Env) (s : Shared) (H : Hp) (vs : List V) (Q : VK) (E : XK), A.guards = some [] → Room k (A.deeper (envOfC qual (defScope st) s.heap.objs.size f (.ref c))) → sp vs H Q E →
      ∃ t, PSs (cxOf CX P w K mg base N qual (defScope st) f (.ref c) A outer s H E) (defBody st) t ∧ t { nx := fun _ H' => Q .non H', rt := Q } (L2.start N vs) H) : FnG P w K mg base CX (k + 1) f fd ps sp := by
  obtain ⟨oc, od, kV, doc, pm, an, ct, osl, rfl, lk, hcd⟩ := F.ex
  exact ⟨len, fun A outer s H args us vs Q E hg hr e0 hb r h => LamX.run_ofS lk hcd S hr e0 hb r (len _ _ _ _ h) fun hr2 => body A outer s H vs Q E hg hr2 h⟩
theorem op_inK {X : Cx} (K : PySem.W.Frag) (h : X.K = K) : OpR X (compareOp .In) (rIn K false) := h ▸ op_in_seq
end DL
set_option Elab.async false
set_option linter.all false
set_option maxRecDepth 100000
set_option maxHeartbeats 4000000
/-! texts of small data; repr, over data -/
namespace DL
open PySem PySem.Spec PyProof.Rows L2 Evl
/-- data of whole numbers that are not too great -/
structure Fine (d : PyData) (W k : Nat) : Prop where
  short : d.leavesShort 13 = true
  shows : d.showable = true
  deep : d.depth ≤ k
  few : d.weight ≤ W
def Sml (i : Int) : Prop := i.natAbs < 10 ^ 12
theorem sml_of {i : Int} (h1 : -1000000 ≤ i) (h2 : i ≤ 1000000) : Sml i := by
  show i.natAbs < 1000000000000
  omega
theorem w_int {i : Int} (h : Sml i) : (PyData.int i).weight ≤ 40 ∧ (PyData.int i).showable = true := by
  have h : i.natAbs < 10 ^ 12 := h
  have e : (10 : Nat) ^ 12 < 2 ^ 40 := by decide
  by_cases z : i = 0
  · subst z
    exact ⟨by simp [PyData.weight], by simp [PyData.showable]⟩
  · have nz : i.natAbs ≠ 0 := by omega
    have lt : i.natAbs.log2 < 40 := (Nat.log2_lt nz).mpr (by omega)
    refine ⟨?_, ?_⟩
    · simp only [PyData.weight]
      split <;> omega
    · simp only [PyData.showable, decide_eq_true_eq]
      omega
theorem fine_int {i : Int} (h : Sml i) : Fine (.int i) 40 1 where
  short := by
    simp only [PyData.leavesShort, decide_eq_true_eq]
    exact PyData.shown_int_le h
  shows := (w_int h).2
  deep := by simp [PyData.depth]
  few := (w_int h).1
theorem fine_all : ∀ {ns : List Int}, (∀ n ∈ ns, Sml n) → PyData.leavesShortAll 13 (dI ns) = true ∧ PyData.showableAll (dI ns) = true ∧ PyData.weightAll (dI ns) ≤ 41 * ns.length
  | [], _ => ⟨rfl, rfl, by simp [PyData.weightAll]⟩
  | n :: ns, h => by
    obtain ⟨h1, h2, h3⟩ := fine_all (ns := ns) fun m hm => h m (List.mem_cons_of_mem _ hm)
    have hn := fine_int (h n List.mem_cons_self)
    refine ⟨?_, ?_, ?_⟩
    · simp only [dI, List.map_cons, PyData.leavesShortAll, Bool.and_eq_true]
      exact ⟨hn.short, h1⟩
    · simp only [dI, List.map_cons, PyData.showableAll, Bool.and_eq_true]
      exact ⟨hn.shows, h2⟩
    · simp only [dI, List.map_cons, PyData.weightAll, List.length_cons]
      have := hn.few
      simp only [dI] at h3
      omega
theorem fine_tI {ns : List Int} (h : ∀ n ∈ ns, Sml n) : Fine (tI ns) (41 * ns.length) 2 := by
  obtain ⟨h1, h2, h3⟩ := fine_all h
  refine ⟨by simpa only [PyData.leavesShort] using h1, by simpa only [PyData.showable] using h2, ?_, by simpa only [PyData.weight] using h3⟩
  have := depth_ints ns
  simp only [PyData.depth]
  omega
theorem fine_two {d : PyData} {W k : Nat} (h : Fine d W k) : Fine (.list [d, d]) (2 * W + 2) (k + 1) where
  short := by simp [PyData.leavesShort, PyData.leavesShortAll, h.short]
  shows := by simp [PyData.showable, PyData.showableAll, h.shows]
  deep := by
    have := h.deep
    simp only [PyData.depth, PyData.depthAll]
    omega
  few := by
    have := h.few
    simp only [PyData.weight, PyData.weightAll]
    omega
theorem fine_kv : ∀ {m : KI}, (∀ p ∈ m, (∀ n ∈ p.1, Sml n) ∧ Sml p.2 ∧ p.1.length ≤ 3) →
    PyData.leavesShortKv 13 (m.map fun p => (tI p.1, PyData.int p.2)) = true ∧ PyData.showableKv (m.map fun p => (tI p.1, PyData.int p.2)) = true ∧ PyData.weightKv (m.map fun p => (tI p.1, PyData.int p.2)) ≤ 165 * m.length ∧ PyData.depthKv (m.map fun p => (tI p.1, PyData.int p.2)) ≤ 2
  | [], _ => ⟨rfl, rfl, by simp [PyData.weightKv], by simp [PyData.depthKv]⟩
  | p :: m, h => by
    obtain ⟨h1, h2, h3, h4⟩ := fine_kv (m := m) fun q hq => h q (List.mem_cons_of_mem _ hq)
    obtain ⟨a1, a2, a3⟩ := h p List.mem_cons_self
    have f1 := fine_tI a1
    have f2 := fine_int a2
    refine ⟨?_, ?_, ?_, ?_⟩
    · simp only [List.map_cons, PyData.leavesShortKv, Bool.and_eq_true]
      exact ⟨⟨f1.short, f2.short⟩, h1⟩
    · simp only [List.map_cons, PyData.showableKv, Bool.and_eq_true]
      exact ⟨⟨f1.shows, f2.shows⟩, h2⟩
    · simp only [List.map_cons, PyData.weightKv, List.length_cons]
      have := f1.few
      have := f2.few
      omega
    · simp only [List.map_cons, PyData.depthKv]
      have := f1.deep
      have := f2.deep
      omega
theorem fine_dict {m : KI} (h : ∀ p ∈ m, (∀ n ∈ p.1, Sml n) ∧ Sml p.2 ∧ p.1.length ≤ 3) : Fine (dDict m) (165 * m.length) 3 := by
  obtain ⟨h1, h2, h3, h4⟩ := fine_kv h
  refine ⟨by simpa only [dDict, PyData.leavesShort] using h1, by simpa only [dDict, PyData.showable] using h2, ?_, by simpa only [dDict, PyData.weight] using h3⟩
  simp only [dDict, PyData.depth]
  omega
theorem Fine.fits {d : PyData} {W k : Nat} (h : Fine d W k) (hw : W ≤ 2 ^ 20) : d.shown.length ≤ sizeLine := PyData.shown_fits (B := 13) (by decide) (by decide) h.short (Nat.le_trans h.few hw)
section
variable {K : PySem.W.Frag} {σ : L2.St} {H H' : Hp} {ta tb te : TE} {ds : List PyData} {d : PyData}
theorem ev_repr {W k : Nat} (h : EvD K te σ H (.list ds)) (f : Fine (.list ds) W k) (hw : W ≤ 2 ^ 20) (hk : k ≤ 80) : Ev (tCB (rRepr K) (tCons te tNil)) σ H (.str (PyData.list ds).shown) := fun H1 e Q q =>
  h H1 e _ fun v H2 e2 hv => by
    cases hv with
    | lst hs ha => exact ⟨_, _, rfl, .lst hs ha, f.shows, by have := f.deep; omega, f.fits hw, q H2 e2⟩
theorem ev_neS {x : Str} (ha : Ev ta σ H (.str x)) (hb : Ev tb σ H (.str x)) : Ev (tOp rNe ta tb) σ H (.bl false) := fun H1 e Q q =>
  ha H1 e _ fun H2 e2 => hb H2 (e.trans e2) _ fun H3 e3 => ⟨rfl, by
    have : decide (V.str x = V.str x) = true := decide_eq_true rfl
    rw [this]
    exact q H3 (e2.trans e3)⟩
/-- a def called by names -/
theorem ed_callKR {R : List PyData → PyData → Prop} {B : List PyData → Addr → Prop} {E : XK} {tt : TA} {d1 d2 : PyData} (h : EvDA K tt σ H [d2, d1]) (hr : R [d1, d2] d) : EvD K (tCallR 2 (spR K 2 R B) E tt) σ H d := fun H1 e Q q =>
  h H1 e _ fun vs H2 e2 hv => by
    obtain ⟨v2, v1, rfl, a, b⟩ := dpa_two hv
    exact ⟨rfl, [d1, d2], .cons b (.cons a .nil), rfl, .inl ⟨d, hr, fun v H3 e3 hd => q v H3 (e2.trans e3) hd⟩⟩
/-- a dict with tuple keys, a row of such -/
def EvK (te : TE) (σ : L2.St) (H : Hp) (m : KI) : Prop := ∀ H1, Ex H H1 → ∀ Q : VK, (∀ a H2, Ex H1 H2 → H2 a = some (.dT (kvI m)) → Q (.ref a) H2) → te σ H1 Q
def EvKA (ta : TA) (σ : L2.St) (H : Hp) (ms : List KI) : Prop := ∀ H1, Ex H H1 → ∀ Q : List V → Hp → Prop, (∀ vs H2, Ex H1 H2 → DTs H2 vs ms → Q vs H2) → ta σ H1 Q
theorem ek_var {k : Nat} {a : Addr} {m : KI} (h : σ[k]? = some (some (.ref a))) (ha : H a = some (.dT (kvI m))) : EvK (tVar k) σ H m := fun H1 e Q q => ⟨.ref a, h, q a H1 (Ex.refl _) (e _ _ ha)⟩
theorem eka_nil : EvKA tNil σ H [] := fun H1 _ _ q => q [] H1 (Ex.refl H1) .nil
theorem dts_ex {vs : List V} {ms : List KI} (e : Ex H H') (h : DTs H vs ms) : DTs H' vs ms := Paired.mapP h fun _ _ z => by
  obtain ⟨a, e1, e2⟩ := z
  exact ⟨a, e1, e _ _ e2⟩
theorem eka_cons {tr : TA} {m : KI} {ms : List KI} (h : EvK te σ H m) (hr : EvKA tr σ H ms) : EvKA (tCons te tr) σ H (m :: ms) := fun H1 e Q q =>
  h H1 e _ fun a H2 e2 ha => hr H2 (e.trans e2) _ fun vs H3 e3 hv => q _ H3 (e2.trans e3) (.cons ⟨a, rfl, e3 _ _ ha⟩ hv)
theorem ev_reprT {m : KI} {W k : Nat} (h : EvK te σ H m) (f : Fine (dDict m) W k) (hw : W ≤ 2 ^ 20) (hk : k ≤ 80) : Ev (tCB rReprT (tCons te tNil)) σ H (.str (dDict m).shown) := fun H1 e Q q =>
  h H1 e _ fun a H2 e2 ha => ⟨a, m, rfl, ha, f.shows, by have := f.deep; omega, f.fits hw, q H2 e2⟩
theorem ev_reprLT {tt : TA} {m : KI} {W k : Nat} (h : EvKA tt σ H [m, m]) (f : Fine (dDict m) W k) (hw : W ≤ 2 ^ 18) (hk : k ≤ 70) : Ev (tCB rReprLT (tCons (tLst tt) tNil)) σ H (.str (dRow [m, m]).shown) := fun H1 e Q q =>
  h H1 e _ fun vs H2 e2 hv => by
    have f2 : Fine (dRow [m, m]) (2 * W + 2) (k + 1) := fine_two f
    have e20 : (2 : Nat) ^ 20 = 4 * 2 ^ 18 := by decide
    have w2 : 2 * W + 2 ≤ 2 ^ 20 := by
      have e18 : (2 : Nat) ^ 18 = 262144 := by decide
      omega
    have deep2 := f2.deep
    have two : vs.length = 2 := Paired.length hv
    refine ⟨sz_of (by omega), fun p hp => ⟨p, vs, [m, m], rfl, upd_same, dts_ex (Ex.new hp) hv, by simp, f2.shows, by omega, f2.fits w2, q _ (e2.trans (Ex.new hp))⟩⟩
/-- list(d.values()) -/
theorem eq_vals {k : Nat} {a : Addr} {m : KI} (h : σ[k]? = some (some (.ref a))) (ha : H a = some (.dT (kvI m))) : EvQ K (tCB rListVT (tCons (tBM0 K "dict" rValsT (tVar k)) tNil)) σ H (dI (m.map Prod.snd)) := fun H1 e Q q => by
  have ha1 := e _ _ ha
  refine ⟨.ref a, h, .inr (.inr (.inl ⟨rfl, .inr ⟨_, ha1⟩⟩)), a, _, rfl, rfl, ha1, fun p hp => ?_⟩
  have npa : a ≠ p := fun z => by rw [z, hp] at ha1; cases ha1
  refine ⟨p, a, _, rfl, upd_same, by rw [upd_ne npa]; exact ha1, fun r hr => ?_⟩
  have e1 : Ex H1 (upd (upd H1 p (viewO "dict_values" p a)) r (.lst ((kvI m).map Prod.snd))) := (Ex.new hp).trans (Ex.new hr)
  refine q r _ _ e1 upd_same ?_
  have : (kvI m).map Prod.snd = (m.map Prod.snd).map V.int := by simp [kvI]
  rw [this]
  exact ints_dpa _
end
end DL
set_option Elab.async false
set_option linter.all false
set_option maxRecDepth 100000
set_option maxHeartbeats 4000000
/-! a loop over lambdas each of which is called, its error caught and asked for its class -/
namespace DL
open PySem PySem.Spec PyProof.Rows L2 Evl LamX
section
variable {K : PySem.W.Frag} {H H' : Hp}
theorem extn_of_ex (e : Ex H H') : ExtN H H' := fun b o h _ => e b o h
theorem rd_extn (e : ExtN H H') {a : Addr} {u : HO} (n : ∀ ps, u ≠ .tbl ps) (h : Rd H a u) : Rd H' a u := by
  rcases h with h | ⟨o, h⟩
  · exact .inl (e _ _ h n)
  · exact .inr ⟨o, e _ _ h fun _ z => nomatch z⟩
theorem sqL_extn (e : ExtN H H') {a : Addr} {xs : List V} (h : SqL K H a xs) : SqL K H' a xs := h.elim (fun r => .inl (rd_extn e (fun _ z => nomatch z) r)) .inr
theorem sqT_extn (e : ExtN H H') {a : Addr} {xs : List V} (h : SqT K H a xs) : SqT K H' a xs := h.elim (fun r => .inl (rd_extn e (fun _ z => nomatch z) r)) .inr
mutual
theorem dp_extn (e : ExtN H H') : ∀ (d : PyData) (v : V), Dp K H v d → Dp K H' v d
  | .none, _, h => by cases h; exact .non
  | .bool b, _, h => by cases h; exact .bl b
  | .int i, _, h => by cases h; exact .int i
  | .str x, _, h => by cases h; exact .str x
  | .list ds, _, h => by
    cases h with
    | lst s r => exact .lst (sqL_extn e s) (dpa_extn e ds _ r)
  | .tuple ds, _, h => by
    cases h with
    | tup s r => exact .tup (sqT_extn e s) (dpa_extn e ds _ r)
  | .dict _, _, h => by cases h
theorem dpa_extn (e : ExtN H H') : ∀ (ds : List PyData) (vs : List V), DpAll K H vs ds → DpAll K H' vs ds
  | [], _, h => by cases h; exact .nil
  | d :: ds, _, h => by
    cases h with
    | cons a r => exact .cons (dp_extn e d _ a) (dpa_extn e ds _ r)
end
theorem extn_new {a : Addr} {o : HO} (e : ExtN H H') (h : H a = none) : ExtN H (upd H' a o) := fun b u hb n => by
  rw [upd_ne (fun z => by rw [z, h] at hb; cases hb)]
  exact e b u hb n
theorem tabs_ex {T : List (Addr × Str)} (t : Tabs T H) (e : Ex H H') : Tabs T H' := fun p hp => TabS.ext (t p hp) e
abbrev noArgs : Arguments := { posonlyargs := [], args := [], vararg := none, kwonlyargs := [], kw_defaults := [], kwarg := none, defaults := [] }
/-- the lambda's value, and what calling it through the def comes to -/
abbrev tCaught (X : Cx) (CS : Addr) (k j : Nat) : TE := fun σ H Q => ∃ f c' params body scope tb, σ[j]? = some (some (.ref f)) ∧ H f = some (LamO f c' (X.env.qual ++ "<lambda>") params body scope (cloFrom X.env.cells scope.names [])) ∧
  H c' = some (CodeO c' (X.env.qual ++ "<lambda>")) ∧ LamD X k params body scope tb ∧ TTc X.K CS tb σ H Q
/-- raises an error of the class C, whatever comes -/
def Raises (C : Addr) (tb : XK → TE) (σ : L2.St) (H : Hp) : Prop := ∀ H1, ExtN H H1 → ∀ (E : XK) (Q : VK), (∀ H2, Ex H1 H2 → E (.ref C) none H2) → tb E σ H1 Q
theorem Raises.ex {C : Addr} {tb : XK → TE} {σ : L2.St} (h : Raises C tb σ H) (e : ExtN H H') : Raises C tb σ H' := fun H1 a => h H1 (e.trans a)
/-- one such lambda at hand -/
structure LamAt (X : Cx) (C : Addr) (k : Nat) (f : Addr) (σ : L2.St) (H : Hp) : Prop where
  ex : ∃ c' params body scope tb, H f = some (LamO f c' (X.env.qual ++ "<lambda>") params body scope (cloFrom X.env.cells scope.names [])) ∧ H c' = some (CodeO c' (X.env.qual ++ "<lambda>")) ∧ LamD X k params body scope tb ∧ Raises C tb σ H
theorem LamAt.extn {X : Cx} {C : Addr} {k : Nat} {f : Addr} {σ : L2.St} (h : LamAt X C k f σ H) (e : ExtN H H') : LamAt X C k f σ H' := by
  obtain ⟨c', params, body, scope, tb, h1, h2, h3, h4⟩ := h
  exact ⟨c', params, body, scope, tb, e _ _ h1 (fun _ z => nomatch z), e _ _ h2 (fun _ z => nomatch z), h3, h4.ex e⟩
/-- isinstance(caught(work), C), the error an own one of C -/
theorem ev_raised {X : Cx} {CS C f : Addr} {k j : Nat} {σ σ0 : L2.St} (hj : σ[j]? = some (some (.ref f))) (h : LamAt X C k f σ H) (kC : PySem.W.exmOne X.K (.ref C) (.ref CS) = some true) (iC : PySem.W.kitOne X.K (.ref C) (.ref C) = some true) (eC : ExcC X.K C) :
    Ev (tCB (rIsK X.K) (tCons (tCaught X CS k j) (tCons (tC (.ref C)) tNil))) σ H (.bl true) := fun H1 e Q q => by
  obtain ⟨c', params, body, scope, tb, h1, h2, h3, h4⟩ := h.extn (extn_of_ex e)
  refine ⟨f, c', params, body, scope, tb, hj, h1, h2, h3, fun E Q2 r1 r2 => ?_⟩
  refine h4 H1 (ExtN.refl _) E Q2 fun H2 e2 => r1 (.ref C) H2 kC fun a ha => ?_
  exact ⟨a, C, .ref C, .ref C, true, rfl, upd_same, eC, fun u z => z, iC, q _ (e2.trans (Ex.new ha))⟩
theorem d_lams {X : Cx} {T : List (Addr × Str)} {CS C : Addr} {k : Nat} {σ : L2.St} {D : Ends} {b1 b2 b3 : Expr} {s1 s2 s3 : Scope} {g1 g2 g3 : XK → TE} (tabs : Tabs T H)
    (kC : PySem.W.exmOne X.K (.ref C) (.ref CS) = some true) (iC : PySem.W.kitOne X.K (.ref C) (.ref C) = some true) (eC : ExcC X.K C) (len : 15 < σ.length)
    (L1 : LamD X k noArgs b1 s1 g1) (L2 : LamD X k noArgs b2 s2 g2) (L3 : LamD X k noArgs b3 s3 g3)
    (r1 : ∀ y, Raises C g1 (σ.set 15 y) H) (r2 : ∀ y, Raises C g2 (σ.set 15 y) H) (r3 : ∀ y, Raises C g3 (σ.set 15 y) H) (q : ∀ y H', ExtN H H' → Tabs T H' → D.nx (σ.set 15 y) H') :
    tFor (iList X.K (tLst (tCons (tLamV T (X.env.qual ++ "<lambda>") noArgs b1 s1 (cloFrom X.env.cells s1.names [])) (tCons (tLamV T (X.env.qual ++ "<lambda>") noArgs b2 s2 (cloFrom X.env.cells s2.names [])) (tCons (tLamV T (X.env.qual ++ "<lambda>") noArgs b3 s3 (cloFrom X.env.cells s3.names [])) tNil))))) (gName 15)
      (tIfS (tNot (tB (tCB (rIsK X.K) (tCons (tCaught X CS k 15) (tCons (tC (.ref C)) tNil))))) (tRet (tC (.bl false))) tNext) D σ H := by
  refine ⟨tabs, fun f1 c1 H1 x1 t1 n1 m1 k1 => ?_⟩
  have t1' := tabs_ex t1 (Ex.new (o := LamO f1 c1 (X.env.qual ++ "<lambda>") noArgs b1 s1 (cloFrom X.env.cells s1.names [])) m1)
  have x1' := extn_new (o := LamO f1 c1 (X.env.qual ++ "<lambda>") noArgs b1 s1 (cloFrom X.env.cells s1.names [])) x1 n1
  have a1 : upd H1 f1 (LamO f1 c1 (X.env.qual ++ "<lambda>") noArgs b1 s1 (cloFrom X.env.cells s1.names [])) f1 = some _ := upd_same
  have k1' := Ex.new (o := LamO f1 c1 (X.env.qual ++ "<lambda>") noArgs b1 s1 (cloFrom X.env.cells s1.names [])) m1 _ _ k1
  generalize upd H1 f1 (LamO f1 c1 (X.env.qual ++ "<lambda>") noArgs b1 s1 (cloFrom X.env.cells s1.names [])) = G1 at *
  refine ⟨t1', fun f2 c2 H2 x2 t2 n2 m2 k2 => ?_⟩
  have t2' := tabs_ex t2 (Ex.new (o := LamO f2 c2 (X.env.qual ++ "<lambda>") noArgs b2 s2 (cloFrom X.env.cells s2.names [])) m2)
  have x2' := extn_new (o := LamO f2 c2 (X.env.qual ++ "<lambda>") noArgs b2 s2 (cloFrom X.env.cells s2.names [])) x2 n2
  have a2 : upd H2 f2 (LamO f2 c2 (X.env.qual ++ "<lambda>") noArgs b2 s2 (cloFrom X.env.cells s2.names [])) f2 = some _ := upd_same
  have k2' := Ex.new (o := LamO f2 c2 (X.env.qual ++ "<lambda>") noArgs b2 s2 (cloFrom X.env.cells s2.names [])) m2 _ _ k2
  generalize upd H2 f2 (LamO f2 c2 (X.env.qual ++ "<lambda>") noArgs b2 s2 (cloFrom X.env.cells s2.names [])) = G2 at *
  refine ⟨t2', fun f3 c3 H3 x3 t3 n3 m3 k3 => ?_⟩
  have t3' := tabs_ex t3 (Ex.new (o := LamO f3 c3 (X.env.qual ++ "<lambda>") noArgs b3 s3 (cloFrom X.env.cells s3.names [])) m3)
  have x3' := extn_new (o := LamO f3 c3 (X.env.qual ++ "<lambda>") noArgs b3 s3 (cloFrom X.env.cells s3.names [])) x3 n3
  have a3 : upd H3 f3 (LamO f3 c3 (X.env.qual ++ "<lambda>") noArgs b3 s3 (cloFrom X.env.cells s3.names [])) f3 = some _ := upd_same
  have k3' := Ex.new (o := LamO f3 c3 (X.env.qual ++ "<lambda>") noArgs b3 s3 (cloFrom X.env.cells s3.names [])) m3 _ _ k3
  generalize upd H3 f3 (LamO f3 c3 (X.env.qual ++ "<lambda>") noArgs b3 s3 (cloFrom X.env.cells s3.names [])) = G3 at *
  have up23 := x2'.trans x3'
  refine ⟨by show 3 ≤ sizeLine; decide, fun p hp => ?_⟩
  refine ⟨p, rfl, ⟨_, sq_of upd_same⟩, ?_⟩
  have ex4 := Ex.new (o := .lst [.ref f1, .ref f2, .ref f3]) hp
  have at4 : upd G3 p (.lst [.ref f1, .ref f2, .ref f3]) p = some (.lst [.ref f1, .ref f2, .ref f3]) := upd_same
  have t4 := tabs_ex t3' ex4
  have x4 := (x1'.trans up23).trans (extn_of_ex ex4)
  have l1 : ∀ y, LamAt X C k f1 (σ.set 15 y) (upd G3 p (.lst [.ref f1, .ref f2, .ref f3])) := fun y => LamAt.extn (H := G1) ⟨c1, noArgs, b1, s1, g1, a1, k1', L1, (r1 y).ex x1'⟩ (up23.trans (extn_of_ex ex4))
  have l2 : ∀ y, LamAt X C k f2 (σ.set 15 y) (upd G3 p (.lst [.ref f1, .ref f2, .ref f3])) := fun y => LamAt.extn (H := G2) ⟨c2, noArgs, b2, s2, g2, a2, k2', L2, (r2 y).ex (x1'.trans x2')⟩ (x3'.trans (extn_of_ex ex4))
  have l3 : ∀ y, LamAt X C k f3 (σ.set 15 y) (upd G3 p (.lst [.ref f1, .ref f2, .ref f3])) := fun y => LamAt.extn (H := G3) ⟨c3, noArgs, b3, s3, g3, a3, k3', L3, (r3 y).ex (x1'.trans up23)⟩ (extn_of_ex ex4)
  generalize upd G3 p (.lst [.ref f1, .ref f2, .ref f3]) = G4 at *
  obtain ⟨y0, hy0⟩ : ∃ y0, σ[15]? = some y0 := ⟨σ[15], List.getElem?_eq_getElem len⟩
  have same : σ = σ.set 15 y0 := by
    refine List.ext_getElem? fun i => ?_
    by_cases e : i = 15
    · subst e
      rw [hy0, List.getElem?_set_self len]
    · rw [List.getElem?_set_ne (Ne.symm e)]
  refine for_it (walk_list (K := X.K) (xs := [.ref f1, .ref f2, .ref f3])) (fun _ σ' Ha => Ex G4 Ha ∧ ∃ y, σ' = σ.set 15 y) ⟨Ex.refl _, y0, same⟩ (fun i σ' Ha _ z => sq_of (z.1 _ _ at4)) ?_ ?_
  · rintro i x σ' Ha Hb hi ⟨xa, y, rfl⟩ ⟨rfl, hx⟩
    show tIfS _ _ _ _ ((σ.set 15 y).set 15 (some x)) Hb
    rw [List.set_set]
    have here : (σ.set 15 (some x))[15]? = some (some x) := List.getElem?_set_self len
    have lam : ∃ f, x = .ref f ∧ LamAt X C k f (σ.set 15 (some x)) Hb := by
      have hi' : i = 0 ∨ i = 1 ∨ i = 2 := by simp at hi; omega
      rcases hi' with rfl | rfl | rfl
      · cases hx
        exact ⟨f1, rfl, (l1 _).extn (extn_of_ex xa)⟩
      · cases hx
        exact ⟨f2, rfl, (l2 _).extn (extn_of_ex xa)⟩
      · cases hx
        exact ⟨f3, rfl, (l3 _).extn (extn_of_ex xa)⟩
    obtain ⟨f, rfl, la⟩ := lam
    refine s_when (b := false) (et_not (a := true) (et_B (ev_raised (σ0 := σ) here la kC iC eC))) (fun z => nomatch z) fun _ Hc ec => ?_
    exact ⟨xa.trans ec, _, rfl⟩
  · rintro σ' Ha ⟨xa, y, rfl⟩
    exact q y Ha (x4.trans (extn_of_ex xa)) (tabs_ex t4 xa)
end
end DL
set_option Elab.async false
set_option linter.all false
set_option maxRecDepth 100000
set_option maxHeartbeats 4000000
/-! the head of a law with lambdas, its table found by the law's name -/
namespace DL
open PySem PySem.Spec PyProof.Rows L2 Evl LamX
theorem walkT2 {l : PySem.W.OpenLaw} {n k : Nat} {q : Program} {loose : List Str} {XP : (Str → Option Value) → Heap → Prop} {YP : World → Heap → Prop} {d : DefRec} {K : Params → PySem.W.Frag} {CX : World → CXT} {x : Str}
    (most : l.most = some n) (line : n ≤ sizeLine) (plain : d.params.defaults = []) (room : Room k callerA) (keep : ∀ (w : World) (h : Heap), YP w h → (K w.params).In h) (here : (recsOf q).find? (fun e => e.name == d.name) = some d)
    (F : ∀ (w : World) (mg : Str → Option Value) (fa : Addr) (h : Heap), (K w.params).In h → h.Ns mainGlobals mg → mg d.name = some (.ref fa) →
      ∃ (fd : FuncData) (c T : Addr) (sp : Sp), PySem.W.tabIn (K w.params) d.name = some (c, T) ∧ (K w.params).lookup T = none ∧ (∀ (s : Shared) (u : Value), BindsTo s fd ⟨[u], []⟩ [(x, u)]) ∧
        (∀ (H : Hp) (a : Addr) (ns : List Int), ns.length ≤ n → H T = some (.tbl #[]) → SqL (K w.params) H a (ns.map V.int) → sp [.ref a] H (fun v _ => v = .bl true) fun _ _ _ => False) ∧
        ∀ base : Heap, (K w.params).In base → base.Ns mainGlobals mg → TabB base mg c T → FnG l.prog w (K w.params) mg base (CX w) k fa fd [x] sp)
    (out : ∀ (w : World) (H : Hp) (s : Shared) (e : Value) (s' : Shared), CX w [] H s (fun _ _ _ => False) e s' → False) : PySem.W.WalkO q loose XP YP l.row.toRowW d [] (fun f vs => PySem.call f vs) := by
  apply Att.attach_call most plain
  intro w s0 s1 mg mb fa o pm cd doc a vs ns G Y ho hd hcd hmg hobj hints hlen hg
  obtain ⟨fd, c, T, sp, t1, t2, bnd, ask, hF⟩ := F w mg fa _ (keep w _ Y) G.T.g hmg
  obtain ⟨hC, hT⟩ := PySem.W.tab_of G.T (keep w _ Y) here t1
  exact callT (keep w _ Y) G.T.g G.T.b G.T.builtins G.T.nolimit hg hT t2 hC G.T.bmain hobj hints (Nat.le_trans hlen line) room hF bnd (fun H h1 h2 => ask H a ns hlen h1 h2) fun H e s' => out w H s1 e s'
end DL
set_option Elab.async false
set_option linter.all false
set_option maxRecDepth 100000
set_option maxHeartbeats 4000000
/-! the head of a law: one run of the top, looked at in parts; the written part is found by names -/
namespace DL
open PySem PySem.Spec PyProof.Rows L2 Evl LamX He
/-- what the names reach, and the interpreter's statics -/
def fragY (look : Addr → Option Obj) (n : Nat) : PySem.W.Frag := frT look (asD look n ++ [cStatics])
/-- what is known of the written part: facts, defs, one more look, the empty tables of some defs -/
structure KnownY (fa : List Fa) (fn : List DefD) (tf : List Defn) (ex : PySem.W.Frag → Bool) (hp : Heap) (K : PySem.W.Frag) : Prop where
  says : SaysD fa fn K
  extra : ex K = true
  tabs : ∀ one ∈ tf, PySem.W.codeHdIn K (cT K one).1 (cT K one).2 = true ∧ K.lookup (cT K one).2 = none ∧ hp.get? (cT K one).2 = some { cls := .none, data := .fields #[] }
abbrev SeenY : Type := (AlD × Bool) × Bool
def lookY (n : Nat) (fa : List Fa) (fn : List DefD) (tf : List Defn) (ex : PySem.W.Frag → Bool) (look : Addr → Option Obj) : SeenY :=
  ((obsD fa fn (fragY look n), ex (fragY look n)), tabsB look tf (fragY look n))
def dueY (fn : List DefD) : SeenY := ((valD fn, true), true)
theorem tabs_known {look : Addr → Option Obj} {as : List Addr} : ∀ {tf : List Defn}, tabsB look tf (frT look as) = true →
    ∀ one ∈ tf, PySem.W.codeHdIn (frT look as) (cT (frT look as) one).1 (cT (frT look as) one).2 = true ∧ (frT look as).lookup (cT (frT look as) one).2 = none ∧ look (cT (frT look as) one).2 = some { cls := .none, data := .fields #[] } := by
  intro tf told one mem
  have here := List.all_eq_true.mp told one mem
  rw [Bool.and_eq_true] at here
  cases at_ : look (cT (frT look as) one).2 with
  | none => rw [at_] at here; exact absurd here.2 Bool.false_ne_true
  | some ob =>
    rw [at_] at here
    exact ⟨here.1, frT_none at_ here.2, by rw [emptyTab_eq here.2]⟩
theorem known_of {n : Nat} {fa : List Fa} {fn : List DefD} {tf : List Defn} {ex : PySem.W.Frag → Bool} {hp : Heap} (told : lookY n fa fn tf ex hp.get? = dueY fn) : KnownY fa fn tf ex hp (fragY hp.get? n) := by
  obtain ⟨p1, p3⟩ := Prod.mk.inj told
  obtain ⟨p1, p2⟩ := Prod.mk.inj p1
  exact ⟨p1, p2, tabs_known p3⟩
def hookY (n : Nat) (fa : List Fa) (fn : List DefD) (tf : List Defn) (ex : PySem.W.Frag → Bool) : PySem.W.Hook where
  α := SeenY
  obs := fun sh => lookY n fa fn tf ex sh.heap.get?
  val := fun _ => dueY fn
  says := fun _ hp => ∃ K : PySem.W.Frag, K.In hp ∧ KnownY fa fn tf ex hp K
  of := fun _ _ told => ⟨_, frT_in, known_of told⟩
  keeps := fun _ _ _ ⟨K, inn, kn⟩ stay => ⟨K, PySem.W.Frag.In.keeps inn stay, ⟨kn.says, kn.extra, fun one mem => ⟨(kn.tabs one mem).1, (kn.tabs one mem).2.1, stay _ _ (kn.tabs one mem).2.2⟩⟩⟩
def seeY (n : Nat) (fa : List Fa) (fn : List DefD) (tf : List Defn) (ex : PySem.W.Frag → Bool) (st : PySem.W.SharedT) : SeenY := lookY n fa fn tf ex (HandSHeadRun.getT st)
theorem seeY_eq {n : Nat} {fa : List Fa} {fn : List DefD} {tf : List Defn} {ex : PySem.W.Frag → Bool} (st : PySem.W.SharedT) : seeY n fa fn tf ex st = (hookY n fa fn tf ex).obs st.abs := by
  have same : HandSHeadRun.getT st = st.abs.heap.get? := funext (HandSHeadRun.getT_eq st)
  show lookY n fa fn tf ex (HandSHeadRun.getT st) = lookY n fa fn tf ex st.abs.heap.get?
  rw [same]
/-- the state behind the top -/
noncomputable abbrev lastY (r : PySem.W.OpenRow) (M : Nat) (w : World) (os : OsState) : Option PySem.W.SharedT := HandSHeadRun.endF (HandSHeadRun.stepQ (HandSHeadRun.denQ HandSHeadRun.tabQ) r.prog w) M r.prog w os
theorem some_parts {α β γ δ : Type} {x : Option α} {f : α → β} {g : α → γ} {k : α → δ} {a : β} {b : γ} {c : δ} (h1 : x.map f = some a) (h2 : x.map g = some b) (h3 : x.map k = some c) : x.map (fun s => (f s, g s, k s)) = some (a, b, c) := by
  cases x with
  | none => cases h1
  | some y =>
    cases h1
    cases h2
    cases h3
    rfl
theorem some_pair {α β γ : Type} {x : Option α} {f : α → β} {g : α → γ} {a : β} {b : γ} (h1 : x.map f = some a) (h2 : x.map g = some b) : x.map (fun s => (f s, g s)) = some (a, b) := by
  cases x with
  | none => cases h1
  | some y =>
    cases h1
    cases h2
    rfl
theorem some_and {α : Type} {x : Option α} {f g : α → Bool} (h1 : x.map f = some true) (h2 : x.map g = some true) : x.map (fun s => f s && g s) = some true := by
  cases x with
  | none => cases h1
  | some y =>
    have e1 := Option.some.inj h1
    have e2 := Option.some.inj h2
    show some (f y && g y) = some true
    rw [e1, e2] <;> rfl
/-- the run's equation from looks of their own -/
theorem run_of {r : PySem.W.OpenRow} {q : Program} {n M : Nat} {fa : List Fa} {fn : List DefD} {tf : List Defn} {ex : PySem.W.Frag → Bool} {loose : List Str} {w : World}
    (h1 : ∀ os : OsState, (lastY r M w os).map (fun s => (HandSHeadRun.looksF r.prog (PySem.W.boot_heap w.params) s.abs, HandSHeadRun.seenQ q loose (importedModules r.prog.main.body) (fun s => PySem.W.xlAt q [] s && PySem.W.recOk r.toRowW.records s) s.abs)) = some (true, PySem.W.openGood q loose))
    (h2 : ∀ os : OsState, (lastY r M w os).map (fun s => obsD fa fn (fragY (HandSHeadRun.getT s) n)) = some (valD fn))
    (h3 : ∀ os : OsState, (lastY r M w os).map (fun s => ex (fragY (HandSHeadRun.getT s) n)) = some true)
    (h4 : ∀ os : OsState, (lastY r M w os).map (fun s => tabsB (HandSHeadRun.getT s) tf (fragY (HandSHeadRun.getT s) n)) = some true) :
    HandSHeadRun.RunEq r q (hookY n fa fn tf ex) (seeY n fa fn tf ex) M loose w := fun os => by
  have all := some_pair (some_pair (h2 os) (h3 os)) (h4 os)
  have two := h1 os
  cases e : lastY r M w os with
  | none => rw [e] at all; cases all
  | some st =>
    rw [e] at all two
    have all2 : seeY n fa fn tf ex st = dueY fn := Option.some.inj all
    obtain ⟨t1, t2⟩ := Prod.mk.inj (Option.some.inj two)
    show (lastY r M w os).map _ = _
    rw [e]
    exact congrArg some (Prod.ext t1 (Prod.ext t2 all2))
/-- the head of a law whose written part is found by a look -/
theorem walkGE {l : PySem.W.OpenLaw} {n k : Nat} {q : Program} {loose : List Str} {XP : (Str → Option Value) → Heap → Prop} {YP : World → Heap → Prop} {d : DefRec} {CX : World → CXT} {x : Str}
    (most : l.most = some n) (line : n ≤ sizeLine) (plain : d.params.defaults = []) (room : Room k callerA)
    (F : ∀ (w : World) (mg : Str → Option Value) (fa : Addr) (h : Heap), YP w h → h.Ns mainGlobals mg → mg d.name = some (.ref fa) →
      ∃ (K : PySem.W.Frag) (fd : FuncData) (sp : Sp), K.In h ∧ (∀ (s : Shared) (u : Value), BindsTo s fd ⟨[u], []⟩ [(x, u)]) ∧
        (∀ (H : Hp) (a : Addr) (ns : List Int), ns.length ≤ n → Only H → SqL K H a (ns.map V.int) → sp [.ref a] H (fun v _ => v = .bl true) fun _ _ _ => False) ∧
        ∀ base : Heap, K.In base → base.Ns mainGlobals mg → FnG l.prog w K mg base (CX w) k fa fd [x] sp)
    (out : ∀ (w : World) (H : Hp) (s : Shared) (e : Value) (s' : Shared), CX w [] H s (fun _ _ _ => False) e s' → False) : PySem.W.WalkO q loose XP YP l.row.toRowW d [] (fun f vs => PySem.call f vs) := by
  apply Att.attach_call most plain
  intro w s0 s1 mg mb fa o pm cd doc a vs ns G Y ho hd hcd hmg hobj hints hlen hg
  obtain ⟨K, fd, sp, KX, hb, ask, hF⟩ := F w mg fa _ Y G.T.g hmg
  exact callG KX G.T.g G.T.b G.T.builtins G.T.nolimit hg hobj hints (Nat.le_trans hlen line) room hF hb (fun H h1 h2 => ask H a ns hlen h1 h2) fun H e s' => out w H s1 e s'
/-- .. of a law with lambdas of its own: c its code object, T its table -/
theorem walkTE {l : PySem.W.OpenLaw} {n k : Nat} {q : Program} {loose : List Str} {XP : (Str → Option Value) → Heap → Prop} {YP : World → Heap → Prop} {d : DefRec} {CX : World → CXT} {x : Str}
    (most : l.most = some n) (line : n ≤ sizeLine) (plain : d.params.defaults = []) (room : Room k callerA)
    (F : ∀ (w : World) (mg : Str → Option Value) (fa : Addr) (h : Heap), YP w h → h.Ns mainGlobals mg → mg d.name = some (.ref fa) →
      ∃ (K : PySem.W.Frag) (fd : FuncData) (c T : Addr) (sp : Sp), K.In h ∧ h.get? T = some { cls := .none, data := .fields #[] } ∧ K.lookup T = none ∧ PySem.W.CodeHd h c T ∧ (∀ (s : Shared) (u : Value), BindsTo s fd ⟨[u], []⟩ [(x, u)]) ∧
        (∀ (H : Hp) (a : Addr) (ns : List Int), ns.length ≤ n → H T = some (.tbl #[]) → SqL K H a (ns.map V.int) → sp [.ref a] H (fun v _ => v = .bl true) fun _ _ _ => False) ∧
        ∀ base : Heap, K.In base → base.Ns mainGlobals mg → TabB base mg c T → FnG l.prog w K mg base (CX w) k fa fd [x] sp)
    (out : ∀ (w : World) (H : Hp) (s : Shared) (e : Value) (s' : Shared), CX w [] H s (fun _ _ _ => False) e s' → False) : PySem.W.WalkO q loose XP YP l.row.toRowW d [] (fun f vs => PySem.call f vs) := by
  apply Att.attach_call most plain
  intro w s0 s1 mg mb fa o pm cd doc a vs ns G Y ho hd hcd hmg hobj hints hlen hg
  obtain ⟨K, fd, c, T, sp, KX, t1, t2, t3, bnd, ask, hF⟩ := F w mg fa _ Y G.T.g hmg
  exact callT KX G.T.g G.T.b G.T.builtins G.T.nolimit hg t1 t2 t3 G.T.bmain hobj hints (Nat.le_trans hlen line) room hF bnd (fun H h1 h2 => ask H a ns hlen h1 h2) fun H e s' => out w H s1 e s'
/-- a def without defaults, as a look finds it -/
theorem fn_look {K : PySem.W.Frag} {x qual : Str} {st : Stmt} {f : Addr} (F : ∃ fd, FunD K x qual (defArgs st) (defBody st) (defScope st) [] [] f fd) :
    ∃ (oc kV dc pm cd ct : Value) (od an : Option Addr) (sl : Array (Option Value)), K.lookup f = some ⟨oc, od, .func (PySem.W.fnOf x qual (defArgs st) (defBody st) (defScope st) .none kV dc pm an cd ct), sl⟩ ∧ PySem.W.codeIn K cd qual = true ∧ PySem.W.keepIn K (.ref f) = true := by
  obtain ⟨fd, F⟩ := F
  obtain ⟨oc, od, dV, kV, dc, pm, an, cd, ct, sl, e1, e2, e3, e4, _⟩ := F.ex
  rcases e4 with ⟨_, e5⟩ | ⟨e5, _⟩
  · subst e5
    subst e1
    exact ⟨oc, kV, dc, pm, cd, ct, od, an, sl, e2, e3, F.kp⟩
  · exact absurd rfl e5
end DL
set_option Elab.async false
set_option linter.all false
set_option maxRecDepth 100000
set_option maxHeartbeats 4000000
namespace K20
open PySem PySem.Spec PyProof.Rows L2 Evl DL

def topS (i : Nat) : Stmt := PySem.Challenge.pw_allcalls_k20_whole_tracks_that_are_neede.main.body.getD i (.Pass ⟨0, 0, 0, 0⟩)
/-- what the module's names hold -/
structure Txt (mg : Str → Option Value) : Prop where
  b_isinstance : mg "isinstance" = none
  b_int : mg "int" = none
  b_bool : mg "bool" = none
  b_tuple : mg "tuple" = none
  b_list : mg "list" = none
  b_len : mg "len" = none
  b_range : mg "range" = none
  b_zip : mg "zip" = none
  b_max : mg "max" = none
  b_min : mg "min" = none
  b_sum : mg "sum" = none
  b_abs : mg "abs" = none
  c_MOST_SIDES : ∃ t, mg "MOST_SIDES" = some (.int 5 t)
  c_MOST_NUMBER : ∃ t, mg "MOST_NUMBER" = some (.int 99 t)
  c_MOST_PLAIN_SIDES : ∃ t, mg "MOST_PLAIN_SIDES" = some (.int 4 t)
  c_MOST_ROOM : ∃ t, mg "MOST_ROOM" = some (.int 99 t)
  c_MOST_LET : ∃ t, mg "MOST_LET" = some (.int 20000 t)
theorem pe_const {X : Cx} {x : Str} {n : Int} {pos : Pos} (h : ∃ t, X.mg x = some (.int n t)) (hg : Gl X x) (hd : (x == ("__debug__" : Str)) = false := by decide) : PE X (.Name x pos) (tC (.int n)) := by
  obtain ⟨t, h⟩ := h
  exact pe_glob hg h ⟨t, rfl⟩ hd

local macro_rules | `(tactic| walk_at "dl") => `(tactic| first
  | exact ev_c | exact ev_var rfl | exact eda_nil
  | exact ed_var rfl (by assumption)
  | exact ed_int ev_c | exact ed_int (ev_var rfl)
  | (refine eda_cons ?_ ?_ <;> walk_at "dl")
  | (refine ed_int ?_; walk_at "dl")
  | (refine ev_op ?_ ?_ rv_I0 <;> walk_at "dl"))

section
variable {P : Program} {w : World} {K : PySem.W.Frag} {mg : Str → Option Value} {base : Heap}
abbrev D (P : Program) (w : World) (K : PySem.W.Frag) (mg : Str → Option Value) (base : Heap) (nm : Str) (k : Nat) (ps : List Str) (sp : Sp) : Prop := DF P w K mg base nm k ps sp

/-! is_number -/
abbrev s_is_number : Stmt := topS 7
abbrev N_is_number : List Str := ["thing"]
theorem sc_is_number : FnScope N_is_number ["thing"] (defScope s_is_number) := ⟨rfl, rfl, rfl, by decide +kernel, rfl, by decide +kernel, by decide +kernel⟩
def R_is_number (ds : List PyData) (r : PyData) : Prop := ∃ i : Int, ds = [.int i] ∧ r = .bool true
theorem ok_is_number {f : Addr} {fd : FuncData} (F : Fun K "is_number" "is_number" s_is_number f fd) (T : Txt mg) : FnOk P w K mg base CX0 1 f fd ["thing"] (spD K 1 R_is_number) := by
  refine F.ok sc_is_number (fun vs H Q E h => spD_len h) (fun cdv A outer s H vs Q E hr h => ?_)
  obtain ⟨ds, r, hd, _, ⟨i, rfl, rfl⟩, k⟩ := h
  obtain rfl := dpa_ints (l := [i]) hd
  refine ⟨_, (pss_one (ps_ret (pe_and (pe_callB call_isi (by rfl) T.b_isinstance (by decide +kernel) (pa_cons (pv 0) (pa_cons (pe_bltn (v := .ty "int") (u := .type "int") (by rfl) T.b_int (by decide +kernel) rfl) pa_nil))) (pe_one (pe_not (pe_callB call_isi (by rfl) T.b_isinstance (by decide +kernel) (pa_cons (pv 0) (pa_cons (pe_bltn (v := .ty "bool") (u := .type "bool") (by rfl) T.b_bool (by decide +kernel) rfl) pa_nil)))))))), ?_⟩
  refine d_ret (d := .bool true) (ed_bool ?_) fun v H1 e hv => k v H1 e hv
  exact ev_andV (a := true) (b := true) (ev_isi_int (ev_var rfl) (by decide +kernel)) fun _ => ev_notV (a := false) (ev_isi_int (ev_var rfl) (by decide +kernel))

/-! is_within -/
abbrev s_is_within : Stmt := topS 8
abbrev N_is_within : List Str := ["thing", "low", "high"]
theorem sc_is_within : FnScope N_is_within ["thing", "low", "high"] (defScope s_is_within) := ⟨rfl, rfl, rfl, by decide +kernel, rfl, by decide +kernel, by decide +kernel⟩
def R_is_within (ds : List PyData) (r : PyData) : Prop := ∃ i a b : Int, ds = [.int i, .int a, .int b] ∧ r = .bool (decide (a ≤ i) && decide (i ≤ b))
theorem ok_is_within {f : Addr} {fd : FuncData} (F : Fun K "is_within" "is_within" s_is_within f fd) (T : Txt mg)
    (D_is_number : D P w K mg base "is_number" 1 ["thing"] (spD K 1 R_is_number)) : FnOk P w K mg base CX0 2 f fd ["thing", "low", "high"] (spD K 3 R_is_within) := by
  refine F.ok sc_is_within (fun vs H Q E h => spD_len h) (fun cdv A outer s H vs Q E hr h => ?_)
  obtain ⟨ds, r, hd, _, ⟨i, a, b, rfl, rfl⟩, k⟩ := h
  obtain rfl := dpa_ints (l := [i, a, b]) hd
  refine ⟨_, (pss_one (ps_ret (pe_and (pe_D D_is_number (hr.mono (by decide)) (by rfl) (pa_cons (pv 0) pa_nil)) (pe_one (pe_chain op_le op_le (pv 1) (pv 0) (pv 2)))))), ?_⟩
  refine d_ret (d := .bool (decide (a ≤ i) && decide (i ≤ b))) (ed_bool ?_) fun v H1 e hv => k v H1 e hv
  refine ev_andV (a := true) (EvD.bool (ed_call (ds := [.int i]) (by walk_at "dl") rfl ⟨i, rfl, rfl⟩)) fun _ => ?_
  exact ev_chain (by walk_at "dl") (by walk_at "dl") (by walk_at "dl")
end
end K20
set_option Elab.async false
set_option linter.all false
set_option maxRecDepth 100000
set_option maxHeartbeats 4000000
namespace K20
open PySem PySem.Spec PyProof.Rows L2 Evl DL
local macro_rules | `(tactic| walk_at "dl") => `(tactic| first
  | exact ev_c | exact ev_var rfl | exact eda_nil
  | exact ed_var rfl (by assumption)
  | exact ed_int ev_c | exact ed_int (ev_var rfl)
  | (refine eda_cons ?_ ?_ <;> walk_at "dl")
  | (refine ed_int ?_; walk_at "dl")
  | (refine ev_op ?_ ?_ rv_I0 <;> walk_at "dl"))
section
variable {P : Program} {w : World} {K : PySem.W.Frag} {mg : Str → Option Value} {base : Heap}
def R_is_tuple_of (ds : List PyData) (r : PyData) : Prop := ∃ (l : List Int) (m : Int), ds = [tI l, .int m] ∧ r = .bool (decide ((l.length : Int) = m))
abbrev s_is_tuple_of : Stmt := topS 9
abbrev N_is_tuple_of : List Str := ["thing", "many"]
theorem sc_is_tuple_of : FnScope N_is_tuple_of ["thing", "many"] (defScope s_is_tuple_of) := ⟨rfl, rfl, rfl, by decide +kernel, rfl, by decide +kernel, by decide +kernel⟩
theorem ok_is_tuple_of {f : Addr} {fd : FuncData} (F : Fun K "is_tuple_of" "is_tuple_of" s_is_tuple_of f fd) (T : Txt mg)
     :
    FnOk P w K mg base CX0 1 f fd ["thing", "many"] (spD K 2 R_is_tuple_of) := by
  refine F.ok sc_is_tuple_of (fun vs H Q E h => spD_len h) (fun cdv A outer s H vs Q E hr h => ?_)
  obtain ⟨ds, r, hd, _, ⟨l, m, rfl, rfl⟩, k⟩ := h
  obtain ⟨v0, v1, rfl, d0, rfl⟩ := dpa_ti hd
  refine ⟨_, (pss_one (ps_ret (pe_and (pe_callB call_isi (by rfl) T.b_isinstance (by decide +kernel) (pa_cons (pv 0) (pa_cons (pe_bltn (v := .ty "tuple") (u := .type "tuple") (by rfl) T.b_tuple (by decide +kernel) rfl) pa_nil))) (pe_one (pe_cmpR op_eq (pe_callB call_len_seq (by rfl) T.b_len PySem.boot_len (pa_cons (pv 0) pa_nil)) (pv 1) (nomark _)))))), ?_⟩
  refine d_ret (d := .bool (decide ((l.length : Int) = m))) (ed_bool ?_) k
  refine ev_andV (a := true) (ev_isi_tup (ed_var rfl d0) (by decide +kernel)) fun _ => ?_
  refine ev_is (ev_op (ev_lenT (ed_var rfl d0)) (ev_var rfl) (rv_eq rfl)) ?_
  rw [List.length_map]
  exact congrArg V.bl (decide_vint _ _)

def R_is_row (ds : List PyData) (r : PyData) : Prop := ∃ l : List PyData, ds = [.list l] ∧ r = .bool true
abbrev s_is_row : Stmt := topS 10
abbrev N_is_row : List Str := ["thing"]
theorem sc_is_row : FnScope N_is_row ["thing"] (defScope s_is_row) := ⟨rfl, rfl, rfl, by decide +kernel, rfl, by decide +kernel, by decide +kernel⟩
theorem ok_is_row {f : Addr} {fd : FuncData} (F : Fun K "is_row" "is_row" s_is_row f fd) (T : Txt mg)
     :
    FnOk P w K mg base CX0 1 f fd ["thing"] (spD K 1 R_is_row) := by
  refine F.ok sc_is_row (fun vs H Q E h => spD_len h) (fun cdv A outer s H vs Q E hr h => ?_)
  obtain ⟨ds, r, hd, _, ⟨l, rfl, rfl⟩, k⟩ := h
  obtain ⟨v0, rfl, d0⟩ := dpa_one hd
  refine ⟨_, (pss_one (ps_ret (pe_callB call_isiT (by rfl) T.b_isinstance (by decide +kernel) (pa_cons (pv 0) (pa_cons (pe_tup (pa_cons (pe_bltn (v := .ty "list") (u := .type "list") (by rfl) T.b_list (by decide +kernel) rfl) (pa_cons (pe_bltn (v := .ty "tuple") (u := .type "tuple") (by rfl) T.b_tuple (by decide +kernel) rfl) pa_nil))) pa_nil))))), ?_⟩
  exact d_ret (d := .bool true) (ed_bool (ev_isi_lst2 (ed_var rfl d0) (by decide +kernel))) k

def R_check_sides (ds : List PyData) (r : PyData) : Prop := ∃ s m : Int, ds = [.int s, .int m] ∧ 2 ≤ s ∧ s ≤ m ∧ r = .none
abbrev s_check_sides : Stmt := topS 13
abbrev N_check_sides : List Str := ["sides", "most"]
theorem sc_check_sides : FnScope N_check_sides ["sides", "most"] (defScope s_check_sides) := ⟨rfl, rfl, rfl, by decide +kernel, rfl, by decide +kernel, by decide +kernel⟩
theorem ok_check_sides {f : Addr} {fd : FuncData} (F : Fun K "check_sides" "check_sides" s_check_sides f fd) (T : Txt mg)
    (D_is_within : DF P w K mg base "is_within" 2 ["thing", "low", "high"] (spD K 3 R_is_within)) :
    FnOk P w K mg base CX0 3 f fd ["sides", "most"] (spD K 2 R_check_sides) := by
  refine F.ok sc_check_sides (fun vs H Q E h => spD_len h) (fun cdv A outer s H vs Q E hr h => ?_)
  obtain ⟨ds, r, hd, _, ⟨x, m, rfl, h1, h2, rfl⟩, k⟩ := h
  obtain rfl := dpa_ints (l := [x, m]) hd
  refine ⟨_, (pss_one (ps_if (pt_not (pt_val (pe_D D_is_within (hr.mono (by decide)) (by rfl) (pa_cons (pv 0) (pa_cons pe_int (pa_cons (pv 1) pa_nil)))))) (pss_one ps_never) pss_nil)), ?_⟩
  refine s_if (b := false) (et_not (a := true) (et_B (ev_is (EvD.bool (ed_call (ds := [.int x, .int 2, .int m]) (by walk_at "dl") rfl ⟨x, 2, m, rfl, rfl⟩)) ?_))) (fun z => by cases z) fun _ H1 e => k .non H1 e .non
  rw [decide_eq_true h1, decide_eq_true h2] <;> rfl

def R_check_room (ds : List PyData) (r : PyData) : Prop := ∃ s : Int, ds = [.int s] ∧ 0 ≤ s ∧ s ≤ 99 ∧ r = .none
abbrev s_check_room : Stmt := topS 32
abbrev N_check_room : List Str := ["room"]
theorem sc_check_room : FnScope N_check_room ["room"] (defScope s_check_room) := ⟨rfl, rfl, rfl, by decide +kernel, rfl, by decide +kernel, by decide +kernel⟩
theorem ok_check_room {f : Addr} {fd : FuncData} (F : Fun K "check_room" "check_room" s_check_room f fd) (T : Txt mg)
    (D_is_within : DF P w K mg base "is_within" 2 ["thing", "low", "high"] (spD K 3 R_is_within)) :
    FnOk P w K mg base CX0 3 f fd ["room"] (spD K 1 R_check_room) := by
  refine F.ok sc_check_room (fun vs H Q E h => spD_len h) (fun cdv A outer s H vs Q E hr h => ?_)
  obtain ⟨ds, r, hd, _, ⟨x, rfl, h1, h2, rfl⟩, k⟩ := h
  obtain rfl := dpa_ints (l := [x]) hd
  refine ⟨_, (pss_one (ps_if (pt_not (pt_val (pe_D D_is_within (hr.mono (by decide)) (by rfl) (pa_cons (pv 0) (pa_cons pe_int (pa_cons (pe_const T.c_MOST_ROOM (by rfl)) pa_nil)))))) (pss_one ps_never) pss_nil)), ?_⟩
  refine s_if (b := false) (et_not (a := true) (et_B (ev_is (EvD.bool (ed_call (ds := [.int x, .int 0, .int 99]) (by walk_at "dl") rfl ⟨x, 0, 99, rfl, rfl⟩)) ?_))) (fun z => by cases z) fun _ H1 e => k .non H1 e .non
  rw [decide_eq_true h1, decide_eq_true h2] <;> rfl

def plc (s a b : Int) : Int := a * (2 * s - a - 1) / 2 + b - a - 1
def R_pair_place (ds : List PyData) (r : PyData) : Prop := ∃ s a b : Int, ds = [.int s, .int a, .int b] ∧ (0 ≤ a ∧ a ≤ 1000) ∧ r = .int (plc s a b)
abbrev s_pair_place : Stmt := topS 18
abbrev N_pair_place : List Str := ["sides", "side", "far"]
theorem sc_pair_place : FnScope N_pair_place ["sides", "side", "far"] (defScope s_pair_place) := ⟨rfl, rfl, rfl, by decide +kernel, rfl, by decide +kernel, by decide +kernel⟩
theorem ok_pair_place {f : Addr} {fd : FuncData} (F : Fun K "pair_place" "pair_place" s_pair_place f fd) (T : Txt mg)
     :
    FnOk P w K mg base CX0 1 f fd ["sides", "side", "far"] (spD K 3 R_pair_place) := by
  refine F.ok sc_pair_place (fun vs H Q E h => spD_len h) (fun cdv A outer s H vs Q E hr h => ?_)
  obtain ⟨ds, r, hd, _, ⟨x, a, b, rfl, ⟨h1, h2⟩, rfl⟩, k⟩ := h
  obtain rfl := dpa_ints (l := [x, a, b]) hd
  refine ⟨_, (pss_one (ps_ret (pe_op op_sub (pe_op op_sub (pe_op op_add (pe_op op_fdiv (pe_op op_mul (pv 1) (pe_op op_sub (pe_op op_sub (pe_op op_mul pe_int (pv 0)) (pv 1)) pe_int)) pe_int) (pv 2)) (pv 1)) pe_int))), ?_⟩
  refine d_ret (d := .int (plc x a b)) (ed_int ?_) k
  have i1 : Ev (tOp (rI CMul fun i j => .int (i * j)) (tC (.int 2)) (tVar 0)) (L2.start N_pair_place (List.map V.int [x, a, b])) H (.int (2 * x)) := ev_op ev_c (ev_var rfl) (rv_I (.inl (by omega)))
  have i2 := ev_op (r := rI0 fun i j => .int (i - j)) (ev_op (r := rI0 fun i j => .int (i - j)) i1 (ev_var (i := 1) (v := .int a) rfl) rv_I0) (ev_c (v := .int 1)) rv_I0
  have i3 := ev_op (r := rI CMul fun i j => .int (i * j)) (ev_var (i := 1) (v := .int a) rfl) i2 (rv_I (.inl (by omega)))
  have i4 := ev_op (r := rI CDiv fun i j => .int (i / j)) i3 (ev_c (v := .int 2)) (rv_I (by unfold CDiv; omega))
  exact ev_op (ev_op (ev_op i4 (ev_var (v := .int b) rfl) rv_I0) (ev_var (v := .int a) rfl) rv_I0) ev_c rv_I0

end
end K20
set_option Elab.async false
set_option linter.all false
set_option maxRecDepth 100000
set_option maxHeartbeats 4000000
namespace K20
open PySem PySem.Spec PyProof.Rows L2 Evl DL
local macro_rules | `(tactic| walk_at "dl") => `(tactic| first
  | exact ev_c | exact ev_var rfl | exact eda_nil
  | exact ed_var rfl (by assumption)
  | exact ed_int ev_c | exact ed_int (ev_var rfl)
  | (refine eda_cons ?_ ?_ <;> walk_at "dl")
  | (refine ed_int ?_; walk_at "dl")
  | (refine ev_op ?_ ?_ rv_I0 <;> walk_at "dl"))
section
variable {P : Program} {w : World} {K : PySem.W.Frag} {mg : Str → Option Value} {base : Heap}
def pD (p : Int × Int) : PyData := tI [p.1, p.2]
def prs (s : Int) : List (Int × Int) := (List.range s.toNat).flatMap fun (i : Nat) => (List.range (s - ((i : Int) + 1)).toNat).map fun (j : Nat) => ((i : Int), (i : Int) + 1 + (j : Int))
def np (s : Int) : Nat := (prs s).length
def R_side_pairs (ds : List PyData) (r : List PyData) : Prop := ∃ s : Int, ds = [.int s] ∧ 0 ≤ s ∧ s ≤ 5 ∧ r = (prs s).map pD
abbrev s_side_pairs : Stmt := topS 16
abbrev N_side_pairs : List Str := ["sides", "side", "far"]
theorem sc_side_pairs : FnScope N_side_pairs ["sides"] (defScope s_side_pairs) := ⟨rfl, rfl, rfl, by decide +kernel, rfl, by decide +kernel, by decide +kernel⟩
theorem ok_side_pairs {f : Addr} {fd : FuncData} (F : Fun K "side_pairs" "side_pairs" s_side_pairs f fd) (T : Txt mg)
     :
    FnOk P w K mg base CX0 1 f fd ["sides"] (spN K 1 R_side_pairs) := by
  refine F.ok sc_side_pairs (fun vs H Q E h => spN_len h) (fun cdv A outer s H vs Q E hr h => ?_)
  obtain ⟨ds, r, hd, _, ⟨x, rfl, h1, h2, rfl⟩, k⟩ := h
  obtain rfl := dpa_ints (l := [x]) hd
  refine ⟨_, (pss_one (ps_ret (pe_lc2 (own := [("side", 1), ("far", 2)]) (vs1 := [2]) (g := (gName 1)) (tt := tYes) (g1 := (gName 2)) (tt1 := tYes) rfl sc_side_pairs.nd (pi_range1 (by rfl) T.b_range (pa_cons (pv 0) pa_nil)) (blkOk_by (N := N_side_pairs) (sc := defScope s_side_pairs) (by decide +kernel)) (by decide) (fun _ _ _ _ _ => (pg_name (i := 1) sc_side_pairs.nd rfl (Or.inl rfl))) (fun _ _ _ _ _ => pts_nil) (fun _ _ _ _ _ => (pi_range2 (by rfl) T.b_range (pa_cons (pe_op op_add (pv 1) pe_int) (pa_cons (pv 0) pa_nil)))) (fun _ _ _ _ _ => (pg_name (i := 2) sc_side_pairs.nd rfl (Or.inl rfl))) (fun _ _ _ _ _ => pts_nil) (fun _ _ _ _ _ => (pe_tup (pa_cons (pv 1) (pa_cons (pv 2) pa_nil))))))), ?_⟩
  refine n_ret (en_is (en_lc2 (ei_rng1 (n := x) (by walk_at "dl") (by omega)) (immAll_map (fun _ => by simp [imm]) _) (fun i => (List.range (x - ((i : Int) + 1)).toNat).map fun (j : Nat) => PyData.int ((i : Int) + 1 + (j : Int)))
    (fun i => immAll_map (fun _ => by simp [imm]) _) (fun i j => tI [(i : Int), (i : Int) + 1 + (j : Int)]) (fun i j => imm_tI _) (fun i => by rw [List.length_map, List.length_range]; omega) (by rw [List.length_map, List.length_range]; omega)
    (fun _ => rfl) (fun _ _ => rfl) fun i d y H3 hd1 hd2 => ?_) ?_) k
  · have hlt : i < x.toNat := by
      have := (List.getElem?_eq_some_iff.mp hd1).1
      simpa using this
    rw [rng_get hlt] at hd1
    cases hd1
    cases hd2
    refine ⟨fun S hS => ei_rng2 (m := (i : Int) + 1) (n := x) (eda_cons (ed_int (ev_op (ev_var rfl) ev_c rv_I0)) (eda_cons (ed_int (ev_var rfl)) eda_nil)) (by omega), fun j d' y H5 hj hx hy => ?_⟩
    have hlt2 : j < (x - ((i : Int) + 1)).toNat := by
      have := (List.getElem?_eq_some_iff.mp hj).1
      simpa using this
    rw [rng_get hlt2] at hj
    cases hj
    cases hy
    exact ed_tup (eda_cons (ed_int (ev_var rfl)) (eda_cons (ed_int (ev_var rfl)) eda_nil)) (by simp)
  · unfold prs
    rw [List.map_flatMap, List.length_map, List.length_range]
    congr 1
    funext i
    rw [List.map_map, List.length_map, List.length_range]
    rfl

theorem np_le {s : Int} (h1 : 2 ≤ s) (h2 : s ≤ 5) : 1 ≤ np s ∧ np s ≤ 10 := by
  have : s = 2 ∨ s = 3 ∨ s = 4 ∨ s = 5 := by omega
  rcases this with rfl | rfl | rfl | rfl <;> decide
theorem np_all : np 2 = 1 ∧ np 3 = 3 ∧ np 4 = 6 ∧ np 5 = 10 := by decide
def R_many_pairs (ds : List PyData) (r : PyData) : Prop := ∃ s : Int, ds = [.int s] ∧ 2 ≤ s ∧ s ≤ 5 ∧ r = .int ((np s : Nat) : Int)
abbrev s_many_pairs : Stmt := topS 17
abbrev N_many_pairs : List Str := ["sides"]
theorem sc_many_pairs : FnScope N_many_pairs ["sides"] (defScope s_many_pairs) := ⟨rfl, rfl, rfl, by decide +kernel, rfl, by decide +kernel, by decide +kernel⟩
theorem ok_many_pairs {f : Addr} {fd : FuncData} (F : Fun K "many_pairs" "many_pairs" s_many_pairs f fd) (T : Txt mg)
     :
    FnOk P w K mg base CX0 1 f fd ["sides"] (spD K 1 R_many_pairs) := by
  refine F.ok sc_many_pairs (fun vs H Q E h => spD_len h) (fun cdv A outer s H vs Q E hr h => ?_)
  obtain ⟨ds, r, hd, _, ⟨x, rfl, h1, h2, rfl⟩, k⟩ := h
  obtain rfl := dpa_ints (l := [x]) hd
  refine ⟨_, (pss_one (ps_ret (pe_op op_fdiv (pe_op op_mul (pv 0) (pe_op op_sub (pv 0) pe_int)) pe_int))), ?_⟩
  refine d_ret (d := .int ((np x : Nat) : Int)) (ed_int ?_) k
  have i1 : Ev (tOp (rI0 fun i j => .int (i - j)) (tVar 0) (tC (.int 1))) (L2.start N_many_pairs (List.map V.int [x])) H (.int (x - 1)) := ev_op (ev_var rfl) ev_c rv_I0
  have i2 := ev_op (r := rI CMul fun i j => .int (i * j)) (ev_var (i := 0) (v := .int x) rfl) i1 (rv_I (.inl (by omega)))
  have i3 := ev_op (r := rI CDiv fun i j => .int (i / j)) i2 (ev_c (v := .int 2)) (rv_I (by unfold CDiv; omega))
  refine ev_is i3 ?_
  have hs' : x = 2 ∨ x = 3 ∨ x = 4 ∨ x = 5 := by omega
  rcases hs' with rfl | rfl | rfl | rfl
  · rw [np_all.1] <;> rfl
  · rw [np_all.2.1] <;> rfl
  · rw [np_all.2.2.1] <;> rfl
  · rw [np_all.2.2.2] <;> rfl

def R_no_wires (ds : List PyData) (r : PyData) : Prop := ∃ s : Int, ds = [.int s] ∧ 2 ≤ s ∧ s ≤ 5 ∧ r = tI (List.replicate (np s) 0)
abbrev s_no_wires : Stmt := topS 19
abbrev N_no_wires : List Str := ["sides"]
theorem sc_no_wires : FnScope N_no_wires ["sides"] (defScope s_no_wires) := ⟨rfl, rfl, rfl, by decide +kernel, rfl, by decide +kernel, by decide +kernel⟩
theorem ok_no_wires {f : Addr} {fd : FuncData} (F : Fun K "no_wires" "no_wires" s_no_wires f fd) (T : Txt mg)
    (D_many_pairs : DF P w K mg base "many_pairs" 1 ["sides"] (spD K 1 R_many_pairs)) :
    FnOk P w K mg base CX0 2 f fd ["sides"] (spD K 1 R_no_wires) := by
  refine F.ok sc_no_wires (fun vs H Q E h => spD_len h) (fun cdv A outer s H vs Q E hr h => ?_)
  obtain ⟨ds, r, hd, _, ⟨x, rfl, h1, h2, rfl⟩, k⟩ := h
  obtain rfl := dpa_ints (l := [x]) hd
  refine ⟨_, (pss_one (ps_ret (pe_op op_repT1 (pe_tup (pa_cons pe_int pa_nil)) (pe_D D_many_pairs (hr.mono (by decide)) (by rfl) (pa_cons (pv 0) pa_nil))))), ?_⟩
  have hn := np_le h1 h2
  refine d_ret (ed_is (ed_rep1 (ed_tup (eda_cons (ed_int ev_c) eda_nil) (by simp)) (EvD.int (ed_call (R := R_many_pairs) (ds := [.int x]) (by walk_at "dl") rfl ⟨x, rfl, h1, h2, rfl⟩)) ?_ ?_) ?_) k
  · exact Int.ofNat_le.mpr hn.1
  · omega
  · show PyData.tuple (List.replicate (((np x : Nat) : Int)).toNat (PyData.int 0)) = PyData.tuple ((List.replicate (np x) 0).map PyData.int)
    rw [List.map_replicate]
    rfl

/-- a load of so many sides -/
def Ld (s : Int) (l : List Int) : Prop := l.length = np s ∧ ∀ x ∈ l, 0 ≤ x ∧ x ≤ 99
def R_is_load_of (ds : List PyData) (r : PyData) : Prop := ∃ (s : Int) (l : List Int), ds = [.int s, tI l] ∧ 2 ≤ s ∧ s ≤ 5 ∧ Ld s l ∧ r = .bool true
abbrev s_is_load_of : Stmt := topS 20
abbrev N_is_load_of : List Str := ["sides", "thing", "number"]
theorem sc_is_load_of : FnScope N_is_load_of ["sides", "thing"] (defScope s_is_load_of) := ⟨rfl, rfl, rfl, by decide +kernel, rfl, by decide +kernel, by decide +kernel⟩
theorem ok_is_load_of {f : Addr} {fd : FuncData} (F : Fun K "is_load_of" "is_load_of" s_is_load_of f fd) (T : Txt mg)
    (D_is_tuple_of : DF P w K mg base "is_tuple_of" 1 ["thing", "many"] (spD K 2 R_is_tuple_of)) (D_many_pairs : DF P w K mg base "many_pairs" 1 ["sides"] (spD K 1 R_many_pairs)) :
    FnOk P w K mg base CX0 2 f fd ["sides", "thing"] (spD K 2 R_is_load_of) := by
  refine F.ok sc_is_load_of (fun vs H Q E h => spD_len h) (fun cdv A outer s H vs Q E hr h => ?_)
  obtain ⟨ds, r, hd, _, ⟨x, l, rfl, h1, h2, hl, rfl⟩, k⟩ := h
  obtain ⟨v0, rfl, d0⟩ := dpa_it hd
  refine ⟨_, (pss_cons (ps_if (pt_not (pt_val (pe_D D_is_tuple_of (hr.mono (by decide)) (by rfl) (pa_cons (pv 1) (pa_cons (pe_D D_many_pairs (hr.mono (by decide)) (by rfl) (pa_cons (pv 0) pa_nil)) pa_nil))))) (pss_one (ps_ret pe_bl)) pss_nil)
      (pss_cons (ps_for PassesOwn.never rfl (pi_tup (pv 1)) (pg_name (i := 2) sc_is_load_of.nd rfl (Or.inl rfl)) (pss_one (ps_if (PW.pt (pw_or (pt_not (pt_val (pe_callB call_isi (by rfl) T.b_isinstance (by decide +kernel) (pa_cons (pv 2) (pa_cons (pe_bltn (v := .ty "int") (u := .type "int") (by rfl) T.b_int (by decide +kernel) rfl) pa_nil))))) (pw_or (pt_val (pe_callB call_isi (by rfl) T.b_isinstance (by decide +kernel) (pa_cons (pv 2) (pa_cons (pe_bltn (v := .ty "bool") (u := .type "bool") (by rfl) T.b_bool (by decide +kernel) rfl) pa_nil)))) (pw_or (pt_cmpR op_lt (pv 2) pe_int (nomark _)) (pw_or1 (pt_cmpR op_gt (pv 2) (pe_const T.c_MOST_NUMBER (by rfl)) (nomark _))))))) (pss_one (ps_ret pe_bl)) pss_nil)))
      (pss_one (ps_ret pe_bl)))), ?_⟩
  have tru : decide ((l.length : Int) = ((np x : Nat) : Int)) = true := by rw [hl.1]; simp
  refine q_when (b := false) (et_not (a := true) (et_B (EvD.bool (ed_call (ds := [tI l, .int ((np x : Nat) : Int)]) (eda_cons (ed_var rfl d0) (eda_cons (ed_call (R := R_many_pairs) (ds := [.int x]) (by walk_at "dl") rfl ⟨x, rfl, h1, h2, rfl⟩) eda_nil)) rfl ⟨l, _, rfl, by rw [tru]⟩)))) (fun z => by cases z) fun _ H1 e1 => ?_
  refine e_for (ei_tup (Ls.nil _) (ed_var rfl (dp_ex e1 _ _ d0)) (immAll_ints l)) (fun H2 i σ' Ha => Ex H2 Ha ∧ ∃ y, σ' = [some (.int x), some v0, y]) (fun H2 e2 => ⟨Ex.refl _, none, rfl⟩) (fun H2 i σ' Ha _ p => Xp.of_ex p.1) ?_ ?_
  · rintro H2 i d y σ' Ha Hb e2 hd1 ⟨p1, z, rfl⟩ e3 hd2
    rw [List.getElem?_map] at hd1
    obtain ⟨n, hn, rfl⟩ := Option.map_eq_some_iff.mp hd1
    cases hd2
    have hb := hl.2 n (List.mem_of_getElem? hn)
    have n1 : decide (n < 0) = false := decide_eq_false (by omega)
    have n2 : decide (99 < n) = false := decide_eq_false (by omega)
    refine s_when (b := false) (et_or (a := false) (b := false) (et_not (a := true) (et_B (ev_isi_int (ev_var rfl) (by decide +kernel)))) fun _ => et_or (a := false) (b := false) (et_B (ev_isi_int (ev_var rfl) (by decide +kernel))) fun _ => et_or (a := false) (b := false) (et_is (et_test (ev_op (ev_var rfl) ev_c rv_I0)) n1) fun _ => et_is (et_test (ev_op (ev_var rfl) ev_c rv_I0)) n2) (fun z => by cases z) fun _ H4 e4 => ⟨(p1.trans e3).trans e4, _, rfl⟩
  · rintro H2 σ' Ha e2 ⟨p1, z, rfl⟩
    exact d_ret (ed_bool ev_c) fun v H3 e3 hv => k v H3 (((e1.trans e2).trans p1).trans e3) hv

def R_check_load (ds : List PyData) (r : PyData) : Prop := ∃ (s : Int) (l : List Int), ds = [.int s, tI l] ∧ 2 ≤ s ∧ s ≤ 5 ∧ Ld s l ∧ r = .none
abbrev s_check_load : Stmt := topS 21
abbrev N_check_load : List Str := ["sides", "load"]
theorem sc_check_load : FnScope N_check_load ["sides", "load"] (defScope s_check_load) := ⟨rfl, rfl, rfl, by decide +kernel, rfl, by decide +kernel, by decide +kernel⟩
theorem ok_check_load {f : Addr} {fd : FuncData} (F : Fun K "check_load" "check_load" s_check_load f fd) (T : Txt mg)
    (D_is_load_of : DF P w K mg base "is_load_of" 2 ["sides", "thing"] (spD K 2 R_is_load_of)) :
    FnOk P w K mg base CX0 3 f fd ["sides", "load"] (spD K 2 R_check_load) := by
  refine F.ok sc_check_load (fun vs H Q E h => spD_len h) (fun cdv A outer s H vs Q E hr h => ?_)
  obtain ⟨ds, r, hd, _, ⟨x, l, rfl, h1, h2, hl, rfl⟩, k⟩ := h
  obtain ⟨v0, rfl, d0⟩ := dpa_it hd
  refine ⟨_, (pss_one (ps_if (pt_not (pt_val (pe_D D_is_load_of (hr.mono (by decide)) (by rfl) (pa_cons (pv 0) (pa_cons (pv 1) pa_nil))))) (pss_one ps_never) pss_nil)), ?_⟩
  exact s_if (b := false) (et_not (a := true) (et_B (EvD.bool (ed_call (ds := [.int x, tI l]) (by walk_at "dl") rfl ⟨x, l, rfl, h1, h2, hl, rfl⟩)))) (fun z => by cases z) fun _ H1 e => k .non H1 e .non

end
end K20
set_option Elab.async false
set_option linter.all false
set_option maxRecDepth 100000
set_option maxHeartbeats 4000000
namespace K20
open PySem PySem.Spec PyProof.Rows L2 Evl DL
local macro_rules | `(tactic| walk_at "dl") => `(tactic| first
  | exact ev_c | exact ev_var rfl | exact eda_nil
  | exact ed_var rfl (by assumption)
  | exact ed_int ev_c | exact ed_int (ev_var rfl)
  | (refine eda_cons ?_ ?_ <;> walk_at "dl")
  | (refine ed_int ?_; walk_at "dl")
  | (refine ev_op ?_ ?_ rv_I0 <;> walk_at "dl"))

/-- two lists of ints, item by item -/
def zw (f : Int → Int → Int) (a b : List Int) : List Int := List.zipWith f a b
theorem pairs_get {a b : List Int} {i : Nat} {d : PyData} (h : (List.zipWith (fun x y => PyData.tuple [.int x, .int y]) a b)[i]? = some d) : ∃ x y, a[i]? = some x ∧ b[i]? = some y ∧ d = .tuple [.int x, .int y] := by
  rw [List.getElem?_zipWith] at h
  cases h1 : a[i]? with
  | none => rw [h1] at h; simp at h
  | some x =>
    cases h2 : b[i]? with
    | none => rw [h1, h2] at h; simp at h
    | some y => rw [h1, h2] at h; exact ⟨x, y, rfl, rfl, by simpa using h.symm⟩
theorem range_zip (f : Int → Int → Int) : ∀ (a b : List Int), (List.range (min a.length b.length)).map (fun i => f (a.getD i 0) (b.getD i 0)) = zw f a b := fun a b => by
  apply List.ext_getElem?
  intro i
  rw [List.getElem?_map, zw, List.getElem?_zipWith]
  by_cases h : i < min a.length b.length
  · have h1 : i < a.length := by omega
    have h2 : i < b.length := by omega
    rw [List.getElem?_range h, List.getElem?_eq_getElem h1, List.getElem?_eq_getElem h2]
    simp [List.getD_eq_getElem?_getD, h1, h2]
  · have h3 : ¬ (i < a.length ∧ i < b.length) := by omega
    rw [List.getElem?_eq_none (by simpa using h)]
    by_cases h1 : i < a.length
    · have h2 : b[i]? = none := List.getElem?_eq_none (by omega)
      rw [h2]
      cases a[i]? <;> rfl
    · rw [List.getElem?_eq_none (by omega : a.length ≤ i)]
      rfl
section
variable {K : PySem.W.Frag} {σ : L2.St} {H : Hp} {ta tb te : TE} {a b : List Int}
/-- zip of two tuples of ints -/
theorem ei_zipTT {S : List Addr} (hS : Ls H S) (ha : EvD K ta σ H (tI a)) (hb : EvD K tb σ H (tI b)) : EvI K (iZipM K true true (tCons ta (tCons tb tNil))) σ H S (List.zipWith (fun x y => PyData.tuple [.int x, .int y]) a b) := fun H1 e R r =>
  ha H1 e _ fun x H2 e2 hx => hb H2 (e.trans e2) _ fun y H3 e3 hy => by
    obtain ⟨p, rfl, h1⟩ := dp_tI hx
    obtain ⟨q, rfl, h2⟩ := dp_tI hy
    have h1 := ex_t e3 h1
    refine ⟨p, q, _, _, rfl, sqa_t h1, sqa_t h2, r _ H3 (e2.trans e3) ?_⟩
    rw [List.length_zipWith]
    have w := walk_zipM (K := K) (a := p) (b := q) (t := true) (u := true) (xs := a.map V.int) (ys := b.map V.int) (n := min a.length b.length) (by simp)
    refine w.mono (fun Ha x => ⟨sqT_tx (x.tx (hS.ex ((e.trans e2).trans e3))) h1, sqT_tx (x.tx (hS.ex ((e.trans e2).trans e3))) h2⟩) fun i Ha v Hb hlt hg y => ?_
    obtain ⟨T, v1, v2, rfl, hT, rfl, g1, g2⟩ := y
    simp only [List.getElem?_map] at g1 g2
    obtain ⟨n1, m1, rfl⟩ := Option.map_eq_some_iff.mp g1
    obtain ⟨n2, m2, rfl⟩ := Option.map_eq_some_iff.mp g2
    refine ⟨Ex.new hT, .tuple [.int n1, .int n2], ?_, .tup (st_of upd_same) (.cons (.int _) (.cons (.int _) .nil))⟩
    rw [List.getElem?_zipWith, m1, m2]
end
section
variable {P : Program} {w : World} {K : PySem.W.Frag} {mg : Str → Option Value} {base : Heap}
def R_summed (ds : List PyData) (r : PyData) : Prop := ∃ a b : List Int, ds = [tI a, tI b] ∧ a.length ≤ 100 ∧ r = tI (zw (· + ·) a b)
abbrev s_summed : Stmt := topS 24
abbrev N_summed : List Str := ["one", "other", "low", "high"]
theorem sc_summed : FnScope N_summed ["one", "other"] (defScope s_summed) := ⟨rfl, rfl, rfl, by decide +kernel, rfl, by decide +kernel, by decide +kernel⟩
theorem ok_summed {f : Addr} {fd : FuncData} (F : Fun K "summed" "summed" s_summed f fd) (T : Txt mg)
     :
    FnOk P w K mg base CX0 1 f fd ["one", "other"] (spD K 2 R_summed) := by
  refine F.ok sc_summed (fun vs H Q E h => spD_len h) (fun cdv A outer s H vs Q E hr h => ?_)
  obtain ⟨ds, r, hd, _, ⟨a, b, rfl, h1, rfl⟩, k⟩ := h
  obtain ⟨v0, v1, rfl, d0, d1⟩ := dpa_two hd
  refine ⟨_, (pss_one (ps_ret (pe_callTy call_tuple_of (by rfl) T.b_tuple (by decide +kernel) (pa_cons (pe_lc (own := [("low", 2), ("high", 3)]) (g := (gTup K 2 (gCons (gName 2) (gCons (gName 3) gNil)))) (tt := tYes) rfl sc_summed.nd (pi_zipM true true (by rfl) T.b_zip (pa_cons (pv 0) (pa_cons (pv 1) pa_nil))) (blkOk_by (N := N_summed) (sc := defScope s_summed) (by decide +kernel)) (fun _ _ _ _ _ => (pg_tup rfl (pgs_cons (pg_name (i := 2) sc_summed.nd rfl (Or.inl rfl)) (pgs_cons (pg_name (i := 3) sc_summed.nd rfl (Or.inl rfl)) pgs_nil)))) (fun _ _ _ _ _ => pts_nil) (fun _ _ _ _ _ => (pe_op op_add (pv 2) (pv 3)))) pa_nil)))), ?_⟩
  refine d_ret (ed_is (ed_tupleOf (EvN.toD (en_lc (ei_zipTT (Ls.nil _) (ed_var rfl d0) (ed_var rfl d1)) (by rw [List.length_zipWith]; omega) (fun i => .int (a.getD i 0 + b.getD i 0)) (fun _ _ => by simp [imm]) fun H2 i d y Hb Q' e2 hd1 e3 hd2 k2 => ?_))) ?_) k
  · obtain ⟨n, m, g1, g2, rfl⟩ := pairs_get hd1
    refine g_two hd2 fun w1 w2 u1 u2 => ?_
    cases u1
    cases u2
    refine k2 _ Hb (Ex.refl _) rfl (ed_int (ev_is (ev_op (ev_var rfl) (ev_var rfl) rv_I0) ?_))
    rw [List.getD_eq_getElem?_getD, List.getD_eq_getElem?_getD, g1, g2] <;> rfl
  · rw [List.length_zipWith, ← range_zip]
    show PyData.tuple _ = PyData.tuple (List.map PyData.int (List.map _ _))
    rw [List.map_map]
    rfl

def R_reduced (ds : List PyData) (r : PyData) : Prop := ∃ a b : List Int, ds = [tI a, tI b] ∧ a.length ≤ 100 ∧ r = tI (zw (· - ·) a b)
abbrev s_reduced : Stmt := topS 46
abbrev N_reduced : List Str := ["load", "part", "number", "own"]
theorem sc_reduced : FnScope N_reduced ["load", "part"] (defScope s_reduced) := ⟨rfl, rfl, rfl, by decide +kernel, rfl, by decide +kernel, by decide +kernel⟩
theorem ok_reduced {f : Addr} {fd : FuncData} (F : Fun K "reduced" "reduced" s_reduced f fd) (T : Txt mg)
     :
    FnOk P w K mg base CX0 1 f fd ["load", "part"] (spD K 2 R_reduced) := by
  refine F.ok sc_reduced (fun vs H Q E h => spD_len h) (fun cdv A outer s H vs Q E hr h => ?_)
  obtain ⟨ds, r, hd, _, ⟨a, b, rfl, h1, rfl⟩, k⟩ := h
  obtain ⟨v0, v1, rfl, d0, d1⟩ := dpa_two hd
  refine ⟨_, (pss_one (ps_ret (pe_callTy call_tuple_of (by rfl) T.b_tuple (by decide +kernel) (pa_cons (pe_lc (own := [("number", 2), ("own", 3)]) (g := (gTup K 2 (gCons (gName 2) (gCons (gName 3) gNil)))) (tt := tYes) rfl sc_reduced.nd (pi_zipM true true (by rfl) T.b_zip (pa_cons (pv 0) (pa_cons (pv 1) pa_nil))) (blkOk_by (N := N_reduced) (sc := defScope s_reduced) (by decide +kernel)) (fun _ _ _ _ _ => (pg_tup rfl (pgs_cons (pg_name (i := 2) sc_reduced.nd rfl (Or.inl rfl)) (pgs_cons (pg_name (i := 3) sc_reduced.nd rfl (Or.inl rfl)) pgs_nil)))) (fun _ _ _ _ _ => pts_nil) (fun _ _ _ _ _ => (pe_op op_sub (pv 2) (pv 3)))) pa_nil)))), ?_⟩
  refine d_ret (ed_is (ed_tupleOf (EvN.toD (en_lc (ei_zipTT (Ls.nil _) (ed_var rfl d0) (ed_var rfl d1)) (by rw [List.length_zipWith]; omega) (fun i => .int (a.getD i 0 - b.getD i 0)) (fun _ _ => by simp [imm]) fun H2 i d y Hb Q' e2 hd1 e3 hd2 k2 => ?_))) ?_) k
  · obtain ⟨n, m, g1, g2, rfl⟩ := pairs_get hd1
    refine g_two hd2 fun w1 w2 u1 u2 => ?_
    cases u1
    cases u2
    refine k2 _ Hb (Ex.refl _) rfl (ed_int (ev_is (ev_op (ev_var rfl) (ev_var rfl) rv_I0) ?_))
    rw [List.getD_eq_getElem?_getD, List.getD_eq_getElem?_getD, g1, g2] <;> rfl
  · rw [List.length_zipWith, ← range_zip]
    show PyData.tuple _ = PyData.tuple (List.map PyData.int (List.map _ _))
    rw [List.map_map]
    rfl

def blw (a b : List Int) : Bool := (List.zipWith (fun x y => decide (x ≤ y)) a b).all id
def R_is_below (ds : List PyData) (r : PyData) : Prop := ∃ a b : List Int, ds = [tI a, tI b] ∧ r = .bool (blw a b)
theorem blw_no {a b : List Int} {i : Nat} {x y : Int} (h1 : a[i]? = some x) (h2 : b[i]? = some y) (h : ¬ x ≤ y) : blw a b = false := by
  unfold blw
  rw [List.all_eq_false]
  refine ⟨false, List.mem_of_getElem? (i := i) ?_, by simp⟩
  rw [List.getElem?_zipWith, h1, h2]
  simp [h]
theorem blw_yes {a b : List Int} (h : ∀ (i : Nat) x y, a[i]? = some x → b[i]? = some y → x ≤ y) : blw a b = true := by
  unfold blw
  rw [List.all_eq_true]
  intro z hz
  obtain ⟨i, hi⟩ := List.mem_iff_getElem?.mp hz
  rw [List.getElem?_zipWith] at hi
  cases h1 : a[i]? with
  | none => rw [h1] at hi; simp at hi
  | some x =>
    cases h2 : b[i]? with
    | none => rw [h1, h2] at hi; simp at hi
    | some y =>
      rw [h1, h2] at hi
      have := h i x y h1 h2
      simpa [this] using hi.symm
abbrev s_is_below : Stmt := topS 22
abbrev N_is_below : List Str := ["one", "other", "low", "high"]
theorem sc_is_below : FnScope N_is_below ["one", "other"] (defScope s_is_below) := ⟨rfl, rfl, rfl, by decide +kernel, rfl, by decide +kernel, by decide +kernel⟩
theorem ok_is_below {f : Addr} {fd : FuncData} (F : Fun K "is_below" "is_below" s_is_below f fd) (T : Txt mg)
     :
    FnOk P w K mg base CX0 1 f fd ["one", "other"] (spD K 2 R_is_below) := by
  refine F.ok sc_is_below (fun vs H Q E h => spD_len h) (fun cdv A outer s H vs Q E hr h => ?_)
  obtain ⟨ds, r, hd, _, ⟨a, b, rfl, rfl⟩, k⟩ := h
  obtain ⟨v0, v1, rfl, d0, d1⟩ := dpa_two hd
  refine ⟨_, (pss_cons (ps_for PassesOwn.never rfl (pi_zipM true true (by rfl) T.b_zip (pa_cons (pv 0) (pa_cons (pv 1) pa_nil))) (pg_tup rfl (pgs_cons (pg_name (i := 2) sc_is_below.nd rfl (Or.inl rfl)) (pgs_cons (pg_name (i := 3) sc_is_below.nd rfl (Or.inl rfl)) pgs_nil))) (pss_one (ps_if (pt_cmpR op_gt (pv 2) (pv 3) (nomark _)) (pss_one (ps_ret pe_bl)) pss_nil)))
      (pss_one (ps_ret pe_bl))), ?_⟩
  refine e_for (ei_zipTT (Ls.nil _) (ed_var rfl d0) (ed_var rfl d1)) (fun H2 i σ' Ha => Ex H2 Ha ∧ (∃ y z, σ' = [some v0, some v1, y, z]) ∧ ∀ j, j < i → ∀ x y, a[j]? = some x → b[j]? = some y → x ≤ y) (fun H2 e2 => ⟨Ex.refl _, ⟨none, none, rfl⟩, fun j hj => absurd hj (by omega)⟩) (fun H2 i σ' Ha _ p => Xp.of_ex p.1) ?_ ?_
  · rintro H2 i d y σ' Ha Hb e2 hd1 ⟨p1, ⟨z1, z2, rfl⟩, p3⟩ e3 hd2
    obtain ⟨n, m, g1, g2, rfl⟩ := pairs_get hd1
    refine g_two hd2 fun w1 w2 u1 u2 => ?_
    cases u1
    cases u2
    refine s_when (b := decide (m < n)) (et_test (ev_op (ev_var rfl) (ev_var rfl) rv_I0)) (fun hb H3 e4 => ?_) fun hb H3 e4 => ⟨(p1.trans e3).trans e4, ⟨_, _, rfl⟩, fun j hj x y q1 q2 => ?_⟩
    · have no := blw_no g1 g2 (by have := of_decide_eq_true hb; omega)
      rw [no] at k
      exact d_ret (ed_bool ev_c) fun v H4 e5 hv => k v H4 (((e2.trans (p1.trans e3)).trans e4).trans e5) hv
    · by_cases ej : j = i
      · subst ej
        rw [g1] at q1
        rw [g2] at q2
        cases q1
        cases q2
        have := of_decide_eq_false hb
        omega
      · exact p3 j (by omega) x y q1 q2
  · rintro H2 σ' Ha e2 ⟨p1, ⟨z1, z2, rfl⟩, p3⟩
    have yes : blw a b = true := blw_yes fun i x y q1 q2 => p3 i (by
      rw [List.length_zipWith]
      have l1 := (List.getElem?_eq_some_iff.mp q1).1
      have l2 := (List.getElem?_eq_some_iff.mp q2).1
      omega) x y q1 q2
    rw [yes] at k
    exact d_ret (ed_bool ev_c) fun v H4 e5 hv => k v H4 ((e2.trans p1).trans e5) hv

theorem cut_lo (ds : List PyData) (p : Nat) (h : p ≤ ds.length) : DL.cutD ds none (some (p : Int)) = ds.take p := by
  unfold DL.cutD
  rw [HT.sIx_none, HT.sIx_nat, Nat.min_eq_left h]
  rfl
theorem cut_hi (ds : List PyData) (p : Nat) (h : p ≤ ds.length) : DL.cutD ds (some (p : Int)) none = ds.drop p := by
  unfold DL.cutD
  rw [HT.sIx_none, HT.sIx_nat, Nat.min_eq_left h]
  exact List.take_of_length_le (by simp)
def R_raised (ds : List PyData) (r : PyData) : Prop := ∃ (l : List Int) (p : Nat) (y : Int), ds = [tI l, .int (p : Int), .int y] ∧ p < l.length ∧ l.length ≤ 100 ∧ r = tI (l.set p (l.getD p 0 + y))
abbrev s_raised : Stmt := topS 23
abbrev N_raised : List Str := ["load", "place", "by"]
theorem sc_raised : FnScope N_raised ["load", "place", "by"] (defScope s_raised) := ⟨rfl, rfl, rfl, by decide +kernel, rfl, by decide +kernel, by decide +kernel⟩
theorem ok_raised {f : Addr} {fd : FuncData} (F : Fun K "raised" "raised" s_raised f fd) (T : Txt mg)
     :
    FnOk P w K mg base CX0 1 f fd ["load", "place", "by"] (spD K 3 R_raised) := by
  refine F.ok sc_raised (fun vs H Q E h => spD_len h) (fun cdv A outer s H vs Q E hr h => ?_)
  obtain ⟨ds, r, hd, _, ⟨l, p, y, rfl, h1, h2, rfl⟩, k⟩ := h
  obtain ⟨v0, v1, v2, rfl, d0, d1, d2⟩ := dpa_three hd
  cases dp_int d1
  cases dp_int d2
  refine ⟨_, (pss_one (ps_ret (pe_op op_catA (pe_op op_catA (pe_slice sl_tupA (pv 0) po_none (po_some (pv 1))) (pe_tup (pa_cons (pe_op op_add (pe_ix ix_tup (pv 0) (pv 1) (fun _ _ => rfl)) (pv 2)) pa_nil))) (pe_slice sl_tupA (pv 0) (po_some (pe_op op_add (pv 1) pe_int)) po_none)))), ?_⟩
  have e1 : EvD K (tOp (rI0 fun i j => .int (i + j)) (tOp (rIxT K) (tVar 0) (tVar 1)) (tVar 2)) (L2.start N_raised [v0, .int (p : Int), .int y]) H (.int (l.getD p 0 + y)) := ed_int (ev_op (EvD.int (ed_ixT (ds := dI l) (ed_var rfl d0) (ev_var rfl) (by rw [List.getElem?_map, List.getElem?_eq_getElem h1, List.getD_eq_getElem?_getD, List.getElem?_eq_getElem h1]; rfl))) (ev_var rfl) rv_I0)
  refine d_ret (ed_is (ed_cat (ed_cat (ed_sl (ed_var rfl d0) eo_none (eo_some (ev_var rfl))) (ed_tup (eda_cons e1 eda_nil) (by simp)) ?_) (ed_sl (ed_var rfl d0) (eo_some (ev_op (ev_var rfl) ev_c rv_I0)) eo_none) ?_) ?_) k
  · rw [cut_lo _ _ (by rw [List.length_map]; omega), List.length_take, List.length_map]
    simp
    omega
  · rw [cut_lo _ _ (by rw [List.length_map]; omega), show ((p : Int) + 1) = ((p + 1 : Nat) : Int) by omega, cut_hi _ _ (by rw [List.length_map]; omega), List.length_append, List.length_take, List.length_drop, List.length_map]
    simp
    omega
  · rw [cut_lo _ _ (by rw [List.length_map]; omega), show ((p : Int) + 1) = ((p + 1 : Nat) : Int) by omega, cut_hi _ _ (by rw [List.length_map]; omega)]
    show PyData.tuple _ = PyData.tuple _
    show PyData.tuple (((l.map PyData.int).take p ++ [.int (l.getD p 0 + y)]) ++ (l.map PyData.int).drop (p + 1)) = PyData.tuple ((l.set p (l.getD p 0 + y)).map PyData.int)
    rw [List.set_eq_take_append_cons_drop, if_pos h1, List.map_append, List.map_cons, List.map_take, List.map_drop]
    simp

end
end K20
set_option Elab.async false
set_option linter.all false
set_option maxRecDepth 100000
set_option maxHeartbeats 4000000
namespace K20
open PySem PySem.Spec PyProof.Rows L2 Evl DL
local macro_rules | `(tactic| walk_at "dl") => `(tactic| first
  | exact ev_c | exact ev_var rfl | exact eda_nil
  | exact ed_var rfl (by assumption)
  | exact ed_int ev_c | exact ed_int (ev_var rfl)
  | (refine eda_cons ?_ ?_ <;> walk_at "dl")
  | (refine ed_int ?_; walk_at "dl")
  | (refine ev_op ?_ ?_ rv_I0 <;> walk_at "dl"))

/-- the greatest -/
def mxl : List Int → Int
  | [] => 0
  | x :: r => r.foldl max x
theorem foldl_max_ge : ∀ (r : List Int) (x : Int), x ≤ r.foldl max x ∧ (∀ y ∈ r, y ≤ r.foldl max x) ∧ (r.foldl max x = x ∨ r.foldl max x ∈ r)
  | [], x => ⟨Int.le_refl _, fun y hy => by simp at hy, .inl rfl⟩
  | y :: r, x => by
    obtain ⟨h1, h2, h3⟩ := foldl_max_ge r (max x y)
    rw [List.foldl_cons]
    refine ⟨by omega, fun z hz => ?_, ?_⟩
    · rcases List.mem_cons.mp hz with rfl | hz
      · omega
      · exact h2 z hz
    · rcases h3 with h3 | h3
      · rw [h3]
        by_cases h : y ≤ x
        · exact .inl (by omega)
        · exact .inr (List.mem_cons.mpr (.inl (by omega)))
      · exact .inr (List.mem_cons_of_mem _ h3)
theorem mxl_mem {l : List Int} (h : 0 < l.length) : mxl l ∈ l := by
  cases l with
  | nil => simp at h
  | cons x r =>
    rcases (foldl_max_ge r x).2.2 with e | e
    · exact List.mem_cons.mpr (.inl e)
    · exact List.mem_cons_of_mem _ e
theorem mxl_ge {l : List Int} {y : Int} (h : y ∈ l) : y ≤ mxl l := by
  cases l with
  | nil => simp at h
  | cons x r =>
    rcases List.mem_cons.mp h with rfl | h
    · exact (foldl_max_ge r y).1
    · exact (foldl_max_ge r x).2.1 y h
section
variable {K : PySem.W.Frag} {σ : L2.St} {H H2 Ha : Hp} {ta tb te : TE}
theorem xp_fresh {p : Addr} (e : Ex H H2) (x : Xp [p] H2 Ha) (h : H p = none) : Ex H Ha := fun a o ho => x a o (e a o ho) (fun hm => by
  have : a = p := by simpa using hm
  rw [this, h] at ho
  cases ho)
/-- xs[i] op= e, a list of ints -/
theorem d_augL {D : Ends} {f : Int → Int → Int} {l : Addr} {ns : List Int} {a b j : Nat} {y : Int} (hl : H l = some (.lst (ns.map V.int))) (ho : σ[a]? = some (some (.ref l))) (hi : σ[b]? = some (some (.int (j : Int)))) (hj : j < ns.length) (he : Ev te σ H (.int y))
    (k : ∀ H1, Ex H H1 → D.nx σ (upd H1 l (.lst ((ns.set j (f (ns.getD j 0) y)).map V.int)))) : tAugS (tVar a) (tVar b) te (rGetL K) (ipI f) rSetL D σ H := by
  have g : (ns.map V.int)[j]? = some (.int (ns.getD j 0)) := by
    rw [List.getElem?_map, List.getElem?_eq_getElem hj, List.getD_eq_getElem?_getD, List.getElem?_eq_getElem hj]
    rfl
  refine ⟨_, ho, _, hi, l, _, _, j, rfl, rfl, sq_of hl, g, ?_⟩
  refine he H (Ex.refl _) _ fun H1 e1 => ⟨_, _, rfl, rfl, l, ns.map V.int, (j : Int), j, rfl, rfl, e1 _ _ hl, ixN_nat (by rw [List.length_map]; exact hj), ?_⟩
  have q := k H1 e1
  rw [List.map_set] at q
  exact q
theorem q_augL {D : Ends} {tz : TS} {f : Int → Int → Int} {l : Addr} {ns : List Int} {a b j : Nat} {y : Int} (hl : H l = some (.lst (ns.map V.int))) (ho : σ[a]? = some (some (.ref l))) (hi : σ[b]? = some (some (.int (j : Int)))) (hj : j < ns.length) (he : Ev te σ H (.int y))
    (k : ∀ H1, Ex H H1 → tz D σ (upd H1 l (.lst ((ns.set j (f (ns.getD j 0) y)).map V.int)))) : tSeq (tAugS (tVar a) (tVar b) te (rGetL K) (ipI f) rSetL) tz D σ H := d_augL (D := { D with nx := tz D }) hl ho hi hj he k
/-- zip of a new list of pairs and a tuple of ints -/
theorem ei_zipNT {S : List Addr} {ps : List (Int × Int)} {b : List Int} (hS : Ls H S) (ha : EvN K ta σ H (ps.map pD)) (hb : EvD K tb σ H (tI b)) :
    EvI K (iZipM K false true (tCons ta (tCons tb tNil))) σ H S (List.zipWith (fun p y => PyData.tuple [pD p, .int y]) ps b) := fun H1 e R r =>
  ha H1 e _ fun p vs H2 hp e2 h2 hd => hb H2 (e.trans e2) _ fun y H3 e3 hy => by
    obtain ⟨q, rfl, h4⟩ := dp_tI hy
    have h3 := e3 _ _ h2
    have hd3 := dpa_ex e3 _ _ hd
    have hn : p ∉ S := fresh_notin (hS.ex e) hp
    have lv : vs.length = ps.length := by rw [dpa_len hd, List.length_map]
    refine ⟨p, q, _, _, rfl, sqa_l (sq_of h3), sqa_t h4, r _ H3 (e2.trans e3) ?_⟩
    rw [List.length_zipWith]
    have w := walk_zipM (K := K) (a := p) (b := q) (t := false) (u := true) (xs := vs) (ys := b.map V.int) (n := min ps.length b.length) (by rw [lv, List.length_map])
    have ls3 := hS.ex ((e.trans e2).trans e3)
    refine w.mono (fun Ha x => ⟨sq_of (x p _ h3 hn), sqT_tx (x.tx ls3) h4⟩) fun i Ha v Hb hlt hg y => ?_
    obtain ⟨T, v1, v2, rfl, hT, rfl, g1, g2⟩ := y
    simp only [List.getElem?_map] at g2
    obtain ⟨n2, m2, rfl⟩ := Option.map_eq_some_iff.mp g2
    have tx : Tx H3 (upd Ha T (.tup [v1, .int n2])) := (hg.tx ls3).trans (Tx.of_ex (Ex.new hT))
    obtain ⟨d1, q1, q2⟩ := dpa_getV (dpa_tx tx _ _ (immAll_map (fun _ => imm_tI _) _) hd3) g1
    rw [List.getElem?_map] at q1
    obtain ⟨pp, m1, rfl⟩ := Option.map_eq_some_iff.mp q1
    refine ⟨Ex.new hT, .tuple [pD pp, .int n2], ?_, .tup (st_of upd_same) (.cons q2 (.cons (.int _) .nil))⟩
    rw [List.getElem?_zipWith, m1, m2]
end
section
variable {P : Program} {w : World} {K : PySem.W.Frag} {mg : Str → Option Value} {base : Heap}
def stp (acc : List Int) (q : (Int × Int) × Int) : List Int :=
  (acc.set q.1.1.toNat (acc.getD q.1.1.toNat 0 + q.2)).set q.1.2.toNat ((acc.set q.1.1.toNat (acc.getD q.1.1.toNat 0 + q.2)).getD q.1.2.toNat 0 + q.2)
def sms (s : Int) (l : List Int) : List Int := ((prs s).zip l).foldl stp (List.replicate s.toNat 0)
theorem stp_len (acc : List Int) (q : (Int × Int) × Int) : (stp acc q).length = acc.length := by simp [stp]
theorem stps_len : ∀ (qs : List ((Int × Int) × Int)) (acc : List Int), (qs.foldl stp acc).length = acc.length
  | [], _ => rfl
  | q :: qs, acc => by rw [List.foldl_cons, stps_len qs, stp_len]
theorem sms_len (s : Int) (l : List Int) : (sms s l).length = s.toNat := by rw [sms, stps_len, List.length_replicate]
theorem prs_in {s : Int} (h1 : 0 ≤ s) (h2 : s ≤ 5) {p : Int × Int} (h : p ∈ prs s) : 0 ≤ p.1 ∧ p.1 < p.2 ∧ p.2 < s := by
  unfold prs at h
  rw [List.mem_flatMap] at h
  obtain ⟨i, hi, h⟩ := h
  obtain ⟨j, hj, rfl⟩ := List.mem_map.mp h
  have := List.mem_range.mp hi
  have := List.mem_range.mp hj
  show 0 ≤ (i : Int) ∧ (i : Int) < (i : Int) + 1 + (j : Int) ∧ (i : Int) + 1 + (j : Int) < s
  omega
def R_sums_at_sides (ds : List PyData) (r : List PyData) : Prop := ∃ (s : Int) (l : List Int), ds = [.int s, tI l] ∧ 2 ≤ s ∧ s ≤ 5 ∧ r = dI (sms s l)
abbrev s_sums_at_sides : Stmt := topS 25
abbrev N_sums_at_sides : List Str := ["sides", "load", "sums", "side", "far", "number"]
theorem sc_sums_at_sides : FnScope N_sums_at_sides ["sides", "load"] (defScope s_sums_at_sides) := ⟨rfl, rfl, rfl, by decide +kernel, rfl, by decide +kernel, by decide +kernel⟩
theorem ok_sums_at_sides {f : Addr} {fd : FuncData} (F : Fun K "sums_at_sides" "sums_at_sides" s_sums_at_sides f fd) (T : Txt mg)
    (D_side_pairs : DF P w K mg base "side_pairs" 1 ["sides"] (spN K 1 R_side_pairs)) :
    FnOk P w K mg base CX0 2 f fd ["sides", "load"] (spN K 2 R_sums_at_sides) := by
  refine F.ok sc_sums_at_sides (fun vs H Q E h => spN_len h) (fun cdv A outer s H vs Q E hr h => ?_)
  obtain ⟨ds, r, hd, _, ⟨x, l, rfl, h1, h2, rfl⟩, k⟩ := h
  obtain ⟨v0, rfl, d0⟩ := dpa_it hd
  refine ⟨_, (pss_cons (ps_set (i := 2) sc_sums_at_sides.nd rfl (.inl rfl) (pe_op op_rep (pe_lst (pa_cons pe_int pa_nil)) (pv 0)))
      (pss_cons (ps_for PassesOwn.never rfl (pi_zipM false true (by rfl) T.b_zip (pa_cons (pe_D D_side_pairs (hr.mono (by decide)) (by rfl) (pa_cons (pv 0) pa_nil)) (pa_cons (pv 1) pa_nil))) (pg_tup rfl (pgs_cons (pg_tup rfl (pgs_cons (pg_name (i := 3) sc_sums_at_sides.nd rfl (Or.inl rfl)) (pgs_cons (pg_name (i := 4) sc_sums_at_sides.nd rfl (Or.inl rfl)) pgs_nil))) (pgs_cons (pg_name (i := 5) sc_sums_at_sides.nd rfl (Or.inl rfl)) pgs_nil))) (pss_cons (ps_augS (pv 2) (pv 3) get_list (pv 5) ip_add set_list)
      (pss_one (ps_augS (pv 2) (pv 4) get_list (pv 5) ip_add set_list))))
      (pss_one (ps_ret (pv 2))))), ?_⟩
  refine qn_asg (K := K) (en_rep (d := .int 0) (EvN.toQ (en_lst (eda_cons (ed_int ev_c) eda_nil) (by simp))) (ev_var rfl) (by omega) (by omega)) fun p vs H1 hp e1 h1' hd1 => ?_
  have hz : vs = (List.replicate x.toNat (0 : Int)).map V.int := by
    have := dpa_ints (l := List.replicate x.toNat 0) (by rw [dI, List.map_replicate]; exact hd1)
    exact this
  subst hz
  have d1 := dp_ex e1 _ _ d0
  refine e_for (S := [p]) (ei_zipNT (ps := prs x) (b := l) (Ls.one h1') (en_call (R := R_side_pairs) (ds := [.int x]) (by walk_at "dl") rfl ⟨x, rfl, by omega, h2, rfl⟩) (ed_var (v := v0) rfl d1))
    (fun H2 i σ' Ha => Xp [p] H2 Ha ∧ Ha p = some (.lst (((((prs x).zip l).take i).foldl stp (List.replicate x.toNat 0)).map V.int)) ∧ ∃ a b c, σ' = [some (.int x), some v0, some (.ref p), a, b, c])
    (fun H2 e2 => ⟨Xp.refl _ _, e2 _ _ h1', none, none, none, rfl⟩) (fun H2 i σ' Ha _ q => q.1) ?_ ?_
  · rintro H2 i d y σ' Ha Hb e2 hg ⟨p1, p2, a, b, c, rfl⟩ e3 hd2
    rw [List.getElem?_zipWith] at hg
    cases g1 : (prs x)[i]? with
    | none => rw [g1] at hg; simp at hg
    | some pp =>
      cases g2 : l[i]? with
      | none => rw [g1, g2] at hg; simp at hg
      | some n =>
        rw [g1, g2] at hg
        have hg : PyData.tuple [pD pp, .int n] = d := by simpa using hg
        subst hg
        obtain ⟨q1, q2, q3⟩ := prs_in (by omega) h2 (List.mem_of_getElem? g1)
        refine g_two hd2 fun w1 w2 u1 u2 => g_two u1 fun w3 w4 u3 u4 => ?_
        cases u2
        cases u3
        cases u4
        have at_ := e3 _ _ p2
        have len : ((((prs x).zip l).take i).foldl stp (List.replicate x.toNat 0)).length = x.toNat := by rw [stps_len, List.length_replicate]
        refine q_augL (j := pp.1.toNat) at_ rfl (by rw [Int.toNat_of_nonneg q1]; rfl) (by omega) (ev_var rfl) fun H3 e4 => ?_
        refine d_augL (j := pp.2.toNat) upd_same rfl (by rw [Int.toNat_of_nonneg (by omega)]; rfl) (by rw [List.length_set]; omega) (ev_var rfl) fun H4 e5 => ?_
        refine ⟨Xp.upd (Xp.then (Xp.upd ((p1.then e3).then e4) (by simp)) e5) (by simp), ?_, _, _, _, rfl⟩
        rw [upd_same, List.take_add_one, show ((prs x).zip l)[i]? = some (pp, n) by rw [List.getElem?_zip_eq_some]; exact ⟨g1, g2⟩]
        simp only [Option.toList_some, List.foldl_append, List.foldl_cons, List.foldl_nil]
        rfl
  · rintro H2 σ' Ha e2 ⟨p1, p2, a, b, c, rfl⟩
    have e0 : Ex H Ha := xp_fresh (e1.trans e2) p1 hp
    rw [List.length_zipWith, List.take_of_length_le (by rw [List.length_zip]; omega)] at p2
    exact ⟨.ref p, rfl, k p _ Ha hp e0 p2 (ints_dpa _)⟩

def R_is_let (ds : List PyData) (r : PyData) : Prop := ∃ (s : Int) (l : List Int) (m : Int), ds = [.int s, tI l, .int m] ∧ 2 ≤ s ∧ s ≤ 5 ∧ r = .bool (decide (mxl (sms s l) ≤ m))
abbrev s_is_let : Stmt := topS 33
abbrev N_is_let : List Str := ["sides", "load", "room"]
theorem sc_is_let : FnScope N_is_let ["sides", "load", "room"] (defScope s_is_let) := ⟨rfl, rfl, rfl, by decide +kernel, rfl, by decide +kernel, by decide +kernel⟩
theorem ok_is_let {f : Addr} {fd : FuncData} (F : Fun K "is_let" "is_let" s_is_let f fd) (T : Txt mg)
    (D_sums_at_sides : DF P w K mg base "sums_at_sides" 2 ["sides", "load"] (spN K 2 R_sums_at_sides)) :
    FnOk P w K mg base CX0 3 f fd ["sides", "load", "room"] (spD K 3 R_is_let) := by
  refine F.ok sc_is_let (fun vs H Q E h => spD_len h) (fun cdv A outer s H vs Q E hr h => ?_)
  obtain ⟨ds, r, hd, _, ⟨x, l, m, rfl, h1, h2, rfl⟩, k⟩ := h
  obtain ⟨v0, rfl, d0⟩ := dpa_iti hd
  refine ⟨_, (pss_one (ps_ret (pe_cmpR op_le (pe_callB (cr_max rfl) (by rfl) T.b_max (by decide +kernel) (pa_cons (pe_D D_sums_at_sides (hr.mono (by decide)) (by rfl) (pa_cons (pv 0) (pa_cons (pv 1) pa_nil))) pa_nil)) (pv 2) (nomark _)))), ?_⟩
  have h0 : 0 < (sms x l).length := by rw [sms_len]; omega
  exact d_ret (ed_bool (ev_op (ev_maxL (EvN.toD (en_call (ds := [.int x, tI l]) (by walk_at "dl") rfl ⟨x, l, rfl, h1, h2, rfl⟩)) h0 (mxl_mem h0) fun y hy => mxl_ge hy) (ev_var rfl) rv_I0)) k

def R_check_plain_load (ds : List PyData) (r : PyData) : Prop := ∃ (s : Int) (l : List Int), ds = [.int s, tI l] ∧ 2 ≤ s ∧ s ≤ 4 ∧ Ld s l ∧ r = .none
abbrev s_check_plain_load : Stmt := topS 31
abbrev N_check_plain_load : List Str := ["sides", "load"]
theorem sc_check_plain_load : FnScope N_check_plain_load ["sides", "load"] (defScope s_check_plain_load) := ⟨rfl, rfl, rfl, by decide +kernel, rfl, by decide +kernel, by decide +kernel⟩
theorem ok_check_plain_load {f : Addr} {fd : FuncData} (F : Fun K "check_plain_load" "check_plain_load" s_check_plain_load f fd) (T : Txt mg)
    (D_check_load : DF P w K mg base "check_load" 3 ["sides", "load"] (spD K 2 R_check_load)) (D_check_sides : DF P w K mg base "check_sides" 3 ["sides", "most"] (spD K 2 R_check_sides)) :
    FnOk P w K mg base CX0 4 f fd ["sides", "load"] (spD K 2 R_check_plain_load) := by
  refine F.ok sc_check_plain_load (fun vs H Q E h => spD_len h) (fun cdv A outer s H vs Q E hr h => ?_)
  obtain ⟨ds, r, hd, _, ⟨x, l, rfl, h1, h2, hl, rfl⟩, k⟩ := h
  obtain ⟨v0, rfl, d0⟩ := dpa_it hd
  refine ⟨_, (pss_cons (ps_expr (pe_D D_check_sides (hr.mono (by decide)) (by rfl) (pa_cons (pv 0) (pa_cons (pe_const T.c_MOST_PLAIN_SIDES (by rfl)) pa_nil))))
      (pss_one (ps_expr (pe_D D_check_load (hr.mono (by decide)) (by rfl) (pa_cons (pv 0) (pa_cons (pv 1) pa_nil)))))), ?_⟩
  refine (qd_drop (K := K) (d := .none) (ed_call (R := R_check_sides) (ds := [.int x, .int 4]) (by walk_at "dl") rfl ⟨x, 4, rfl, h1, h2, rfl⟩) fun H1 e1 => ?_)
  have d1 := dp_ex e1 _ _ d0
  exact d_drop (K := K) (d := .none) (ed_call (R := R_check_load) (ds := [.int x, tI l]) (by walk_at "dl") rfl ⟨x, l, rfl, h1, by omega, hl, rfl⟩) fun H2 e2 => k .non H2 (e1.trans e2) .non

def R_side_sums (ds : List PyData) (r : PyData) : Prop := ∃ (s : Int) (l : List Int), ds = [.int s, tI l] ∧ 2 ≤ s ∧ s ≤ 4 ∧ Ld s l ∧ r = tI (sms s l)
abbrev s_side_sums : Stmt := topS 37
abbrev N_side_sums : List Str := ["sides", "load"]
theorem sc_side_sums : FnScope N_side_sums ["sides", "load"] (defScope s_side_sums) := ⟨rfl, rfl, rfl, by decide +kernel, rfl, by decide +kernel, by decide +kernel⟩
theorem ok_side_sums {f : Addr} {fd : FuncData} (F : Fun K "side_sums" "side_sums" s_side_sums f fd) (T : Txt mg)
    (D_check_plain_load : DF P w K mg base "check_plain_load" 4 ["sides", "load"] (spD K 2 R_check_plain_load)) (D_sums_at_sides : DF P w K mg base "sums_at_sides" 2 ["sides", "load"] (spN K 2 R_sums_at_sides)) :
    FnOk P w K mg base CX0 5 f fd ["sides", "load"] (spD K 2 R_side_sums) := by
  refine F.ok sc_side_sums (fun vs H Q E h => spD_len h) (fun cdv A outer s H vs Q E hr h => ?_)
  obtain ⟨ds, r, hd, _, ⟨x, l, rfl, h1, h2, hl, rfl⟩, k⟩ := h
  obtain ⟨v0, rfl, d0⟩ := dpa_it hd
  refine ⟨_, (pss_cons (ps_expr (pe_D D_check_plain_load (hr.mono (by decide)) (by rfl) (pa_cons (pv 0) (pa_cons (pv 1) pa_nil))))
      (pss_one (ps_ret (pe_callTy call_tuple_of (by rfl) T.b_tuple (by decide +kernel) (pa_cons (pe_D D_sums_at_sides (hr.mono (by decide)) (by rfl) (pa_cons (pv 0) (pa_cons (pv 1) pa_nil))) pa_nil))))), ?_⟩
  refine (qd_drop (K := K) (d := .none) (ed_call (R := R_check_plain_load) (ds := [.int x, tI l]) (by walk_at "dl") rfl ⟨x, l, rfl, h1, h2, hl, rfl⟩) fun H1 e1 => ?_)
  have d1 := dp_ex e1 _ _ d0
  exact d_ret (ed_tupleOf (EvN.toD (en_call (ds := [.int x, tI l]) (by walk_at "dl") rfl ⟨x, l, rfl, h1, by omega, rfl⟩))) fun v H2 e2 hv => k v H2 (e1.trans e2) hv

end
end K20
set_option Elab.async false
set_option linter.all false
set_option maxRecDepth 100000
set_option maxHeartbeats 4000000
namespace K20
open PySem PySem.Spec PyProof.Rows L2 Evl DL
local macro_rules | `(tactic| walk_at "dl") => `(tactic| first
  | exact ev_c | exact ev_var rfl | exact eda_nil
  | exact ed_var rfl (by assumption)
  | exact ed_int ev_c | exact ed_int (ev_var rfl)
  | (refine eda_cons ?_ ?_ <;> walk_at "dl")
  | (refine ed_int ?_; walk_at "dl")
  | (refine ev_op ?_ ?_ rv_I0 <;> walk_at "dl"))

theorem plc_ok {s a b : Int} (h1 : 2 ≤ s) (h2 : s ≤ 5) (ha : 0 ≤ a) (hb : a < b) (hs : b < s) : 0 ≤ plc s a b ∧ (plc s a b).toNat < np s := by
  have n2 : np 2 = 1 := by decide
  have n3 : np 3 = 3 := by decide
  have n4 : np 4 = 6 := by decide
  have n5 : np 5 = 10 := by decide
  have hs' : s = 2 ∨ s = 3 ∨ s = 4 ∨ s = 5 := by omega
  have ha' : a = 0 ∨ a = 1 ∨ a = 2 ∨ a = 3 := by omega
  unfold plc
  rcases hs' with rfl | rfl | rfl | rfl <;> rcases ha' with rfl | rfl | rfl | rfl <;> simp only [n2, n3, n4, n5] <;> omega
section
variable {P : Program} {w : World} {K : PySem.W.Frag} {mg : Str → Option Value} {base : Heap}
def tr3 (s : Int) (i j : Nat) : List (List Int) := (List.range (s - ((i : Int) + 1 + (j : Int) + 1)).toNat).map fun (k : Nat) => [(i : Int), (i : Int) + 1 + (j : Int), (i : Int) + 1 + (j : Int) + 1 + (k : Int)]
def tr2 (s : Int) (i : Nat) : List (List Int) := (List.range (s - ((i : Int) + 1)).toNat).flatMap fun (j : Nat) => tr3 s i j
def tri (s : Int) : List (List Int) := (List.range s.toNat).flatMap fun (i : Nat) => tr2 s i
def R_triangles (ds : List PyData) (r : List PyData) : Prop := ∃ s : Int, ds = [.int s] ∧ 2 ≤ s ∧ s ≤ 4 ∧ r = (tri s).map tI
/-- the list at p holds such tuples, the slots of the loops behind it -/
def TrW (K : PySem.W.Frag) (x : Int) (p : Addr) (H0 : Hp) (l : List (List Int)) (σ : L2.St) (Ha : Hp) : Prop :=
  Xp [p] H0 Ha ∧ (∃ ws, Ha p = some (.lst ws) ∧ DpAll K Ha ws (l.map tI)) ∧ l.length ≤ 1000 ∧ ∃ a b c, σ = [some (.int x), some (.ref p), a, b, c]
theorem flat_succ {α : Type} (f : Nat → List α) (n : Nat) : (List.range (n + 1)).flatMap f = (List.range n).flatMap f ++ f n := by
  rw [List.range_succ, List.flatMap_append, List.flatMap_cons, List.flatMap_nil, List.append_nil]
theorem tri_small {x : Int} (h1 : 2 ≤ x) (h2 : x ≤ 4) : True := trivial
abbrev s_triangles : Stmt := topS 34
abbrev N_triangles : List Str := ["sides", "found", "side", "far", "last"]
theorem sc_triangles : FnScope N_triangles ["sides"] (defScope s_triangles) := ⟨rfl, rfl, rfl, by decide +kernel, rfl, by decide +kernel, by decide +kernel⟩
theorem ok_triangles {f : Addr} {fd : FuncData} (F : Fun K "triangles" "triangles" s_triangles f fd) (T : Txt mg)
     :
    FnOk P w K mg base CX0 1 f fd ["sides"] (spN K 1 R_triangles) := by
  refine F.ok sc_triangles (fun vs H Q E h => spN_len h) (fun cdv A outer s H vs Q E hr h => ?_)
  obtain ⟨ds, r, hd, _, ⟨x, rfl, h1, h2, rfl⟩, k⟩ := h
  obtain rfl := dpa_ints (l := [x]) hd
  refine ⟨_, (pss_cons (ps_set (i := 1) sc_triangles.nd rfl (.inl rfl) (pe_lst pa_nil))
      (pss_cons (ps_for PassesOwn.never rfl (pi_range1 (by rfl) T.b_range (pa_cons (pv 0) pa_nil)) (pg_name (i := 2) sc_triangles.nd rfl (Or.inl rfl)) (pss_one (ps_for PassesOwn.never rfl (pi_range2 (by rfl) T.b_range (pa_cons (pe_op op_add (pv 2) pe_int) (pa_cons (pv 0) pa_nil))) (pg_name (i := 3) sc_triangles.nd rfl (Or.inl rfl)) (pss_one (ps_for PassesOwn.never rfl (pi_range2 (by rfl) T.b_range (pa_cons (pe_op op_add (pv 3) pe_int) (pa_cons (pv 0) pa_nil))) (pg_name (i := 4) sc_triangles.nd rfl (Or.inl rfl)) (pss_one (ps_expr (pe_bm PySem.F.plainAttrs_list PySem.F.slot_list_append PySem.F.type_list_append mt_append (pv 1) (pa_cons (pe_tup (pa_cons (pv 2) (pa_cons (pv 3) (pa_cons (pv 4) pa_nil)))) pa_nil)))))))))
      (pss_one (ps_ret (pv 1))))), ?_⟩
  refine qn_asg (K := K) (en_lst eda_nil (by simp)) fun p vs H1 hp e1 h1' hd1 => ?_
  cases hd1
  have sm3 : ∀ i j : Nat, (tr3 x i j).length ≤ 4 := fun i j => by rw [tr3, List.length_map, List.length_range]; omega
  have sm2 : ∀ (i n : Nat), ((List.range n).flatMap fun j => tr3 x i j).length ≤ 4 * n := fun i n => by
    induction n with
    | zero => simp
    | succ n ih => rw [flat_succ, List.length_append]; have := sm3 i n; omega
  have sm1 : ∀ n : Nat, ((List.range n).flatMap fun i => tr2 x i).length ≤ 16 * n := fun n => by
    induction n with
    | zero => simp
    | succ n ih =>
      rw [flat_succ, List.length_append]
      have := sm2 n (x - ((n : Int) + 1)).toNat
      unfold tr2
      unfold tr2 at ih
      omega
  refine e_for (K := K) (S := [p]) (ei_rng1 (n := x) (by walk_at "dl") (by omega)) (fun H2 i σ' Ha => TrW K x p H2 ((List.range i).flatMap fun i => tr2 x i) σ' Ha)
    (fun H2 e2 => ⟨Xp.refl _ _, ⟨[], e2 _ _ h1', by simp; exact .nil⟩, by simp, none, none, none, rfl⟩) (fun H2 i σ' Ha _ q => q.1) ?_ ?_
  · rintro H2 i d y σ' Ha Hb e2 hg ⟨p1, ⟨ws, p2, p3⟩, p4, a, b, c, rfl⟩ e3 hd2
    have hlt : i < x.toNat := by have := (List.getElem?_eq_some_iff.mp hg).1; simpa using this
    rw [rng_get hlt] at hg
    cases hg
    cases hd2
    have at1 := e3 _ _ p2
    refine d_for (K := K) (S := [p]) (ei_rng2 (m := (i : Int) + 1) (n := x) (eda_cons (ed_int (ev_op (ev_var rfl) ev_c rv_I0)) (eda_cons (ed_int (ev_var rfl)) eda_nil)) (by omega))
      (fun H3 j σ' Ha => Xp [p] H2 H3 ∧ TrW K x p H3 (((List.range i).flatMap fun i => tr2 x i) ++ (List.range j).flatMap fun j => tr3 x i j) σ' Ha ∧ σ'[2]? = some (some (.int (i : Int))))
      (fun H3 e4 => ⟨(p1.then e3).then e4, ⟨Xp.refl _ _, ⟨ws, e4 _ _ at1, by simp; exact dpa_ex (e3.trans e4) _ _ p3⟩, by simpa using p4, _, _, _, rfl⟩, rfl⟩) (fun H3 j σ' Ha _ q => q.2.1.1) ?_ ?_
    · rintro H3 j d y σ' Ha Hb e4 hg ⟨q0, ⟨q1, ⟨wt, q2, q3⟩, q4, a, b, c, rfl⟩, q5⟩ e5 hd3
      have hlt2 : j < (x - ((i : Int) + 1)).toNat := by have := (List.getElem?_eq_some_iff.mp hg).1; simpa using this
      rw [rng_get hlt2] at hg
      cases hg
      cases hd3
      have ea : a = some (.int (i : Int)) := by simpa using q5
      subst ea
      have at2 := e5 _ _ q2
      refine d_for (K := K) (S := [p]) (ei_rng2 (m := (i : Int) + 1 + (j : Int) + 1) (n := x) (eda_cons (ed_int (ev_op (ev_var rfl) ev_c rv_I0)) (eda_cons (ed_int (ev_var rfl)) eda_nil)) (by omega))
        (fun H4 k σ' Ha => Xp [p] H3 H4 ∧ TrW K x p H4 ((((List.range i).flatMap fun i => tr2 x i) ++ (List.range j).flatMap fun j => tr3 x i j) ++ (List.range k).map fun (k : Nat) => [(i : Int), (i : Int) + 1 + (j : Int), (i : Int) + 1 + (j : Int) + 1 + (k : Int)]) σ' Ha ∧ σ'[2]? = some (some (.int (i : Int))) ∧ σ'[3]? = some (some (.int ((i : Int) + 1 + (j : Int)))))
        (fun H4 e6 => ⟨(q1.then e5).then e6, ⟨Xp.refl _ _, ⟨wt, e6 _ _ at2, by simp; exact dpa_ex (e5.trans e6) _ _ (by simpa using q3)⟩, by simpa using q4, _, _, _, rfl⟩, rfl, rfl⟩) (fun H4 k σ' Ha _ q => q.2.1.1) ?_ ?_
      · rintro H4 k d y σ' Ha Hb e6 hg ⟨r0, ⟨r1, ⟨wu, r2, r3⟩, r4, a, b, c, rfl⟩, r5, r6⟩ e7 hd4
        have hlt3 : k < (x - ((i : Int) + 1 + (j : Int) + 1)).toNat := by have := (List.getElem?_eq_some_iff.mp hg).1; simpa using this
        rw [rng_get hlt3] at hg
        cases hg
        cases hd4
        have ea : a = some (.int (i : Int)) := by simpa using r5
        have eb : b = some (.int ((i : Int) + 1 + (j : Int))) := by simpa using r6
        subst ea eb
        have at3 := e7 _ _ r2
        have l3 := dpa_len r3
        rw [List.length_map] at l3
        refine d_app (K := K) (d := tI [(i : Int), (i : Int) + 1 + (j : Int), (i : Int) + 1 + (j : Int) + 1 + (k : Int)]) at3 (ev_var rfl) (ed_tup (eda_cons (ed_int (ev_var rfl)) (eda_cons (ed_int (ev_var rfl)) (eda_cons (ed_int (ev_var rfl)) eda_nil))) (by simp)) (by omega) fun v H5 e8 hv => ?_
        have at4 := e8 _ _ at3
        refine ⟨r0, ⟨Xp.upd ((r1.then e7).then e8) (by simp), ⟨_, upd_same, ?_⟩, ?_, _, _, _, rfl⟩, rfl, rfl⟩
        · have es : ∀ (A : List (List Int)) (g : Nat → List Int), (A ++ (List.range (k + 1)).map g).map tI = (A ++ (List.range k).map g).map tI ++ [tI (g k)] := fun A g => by
            rw [List.range_succ]
            simp
          rw [es]
          exact dpa_app (dpa_tx (Tx.lst at4) _ _ (immAll_tI _) (dpa_ex (e7.trans e8) _ _ r3)) (.cons (dp_tx (Tx.lst at4) _ _ (imm_tI _) hv) .nil)
        · have b1 := sm1 i
          have b2 := sm2 i j
          rw [List.length_append, List.length_append, List.length_map, List.length_range]
          omega
      · rintro H4 σ' Ha e6 ⟨r0, ⟨r1, ⟨wu, r2, r3⟩, r4, r5⟩, r6, r7⟩
        rw [List.length_map, List.length_range] at r3 r4
        refine ⟨q0, ⟨q1.then e5 |>.then e6 |>.trans r1, ⟨wu, r2, ?_⟩, ?_, r5⟩, r6⟩
        · rw [flat_succ, ← List.append_assoc]
          exact r3
        · rw [flat_succ, ← List.append_assoc]
          exact r4
    · rintro H3 σ' Ha e4 ⟨q0, ⟨q1, ⟨wt, q2, q3⟩, q4, q5⟩, q6⟩
      rw [List.length_map, List.length_range] at q3 q4
      refine ⟨q0.trans q1, ⟨wt, q2, ?_⟩, ?_, q5⟩
      · rw [flat_succ]
        exact q3
      · rw [flat_succ]
        exact q4
  · rintro H2 σ' Ha e2 ⟨p1, ⟨ws, p2, p3⟩, p4, a, b, c, rfl⟩
    rw [List.length_map, List.length_range] at p3
    exact ⟨.ref p, rfl, k p ws Ha hp (xp_fresh (e1.trans e2) p1 hp) p2 p3⟩

end
end K20
set_option Elab.async false
set_option linter.all false
set_option maxRecDepth 100000
set_option maxHeartbeats 4000000
namespace K20
open PySem PySem.Spec PyProof.Rows L2 Evl DL
local macro_rules | `(tactic| walk_at "dl") => `(tactic| first
  | exact ev_c | exact ev_var rfl | exact eda_nil
  | exact ed_var rfl (by assumption)
  | exact ed_int ev_c | exact ed_int (ev_var rfl)
  | (refine eda_cons ?_ ?_ <;> walk_at "dl")
  | (refine ed_int ?_; walk_at "dl")
  | (refine ev_op ?_ ?_ rv_I0 <;> walk_at "dl"))

section
variable {P : Program} {w : World} {K : PySem.W.Frag} {mg : Str → Option Value} {base : Heap}
/-- the number at the pair's place -/
def at2 (s : Int) (l : List Int) (a b : Int) : Int := l.getD (plc s a b).toNat 0
def tsum (s : Int) (l : List Int) (t : List Int) : Int := at2 s l (t.getD 0 0) (t.getD 1 0) + at2 s l (t.getD 0 0) (t.getD 2 0) + at2 s l (t.getD 1 0) (t.getD 2 0)
def R_sum_in_triangle (ds : List PyData) (r : PyData) : Prop := ∃ (s : Int) (l : List Int) (a b c : Int), ds = [.int s, tI l, tI [a, b, c]] ∧ 2 ≤ s ∧ s ≤ 5 ∧ l.length = np s ∧ 0 ≤ a ∧ a < b ∧ b < c ∧ c < s ∧ r = .int (tsum s l [a, b, c])
theorem ed_at2 {σ : L2.St} {H : Hp} {te tb : TE} {s a b : Int} {l : List Int} (h : EvD K te σ H (tI l)) (hp : Ev tb σ H (.int (plc s a b))) (h1 : 2 ≤ s) (h2 : s ≤ 5) (hl : l.length = np s) (ha : 0 ≤ a) (hb : a < b) (hs : b < s) : Ev (tOp (rIxT K) te tb) σ H (.int (at2 s l a b)) := by
  obtain ⟨q1, q2⟩ := plc_ok h1 h2 ha hb hs
  refine EvD.int (ed_ixT (ds := dI l) (k := (plc s a b).toNat) h (by rw [Int.toNat_of_nonneg q1]; exact hp) ?_)
  rw [← hl] at q2
  rw [at2, List.getElem?_map, List.getElem?_eq_getElem q2, List.getD_eq_getElem?_getD, List.getElem?_eq_getElem q2]
  rfl
abbrev s_sum_in_triangle : Stmt := topS 35
abbrev N_sum_in_triangle : List Str := ["sides", "load", "three", "side", "far", "last", "total"]
theorem sc_sum_in_triangle : FnScope N_sum_in_triangle ["sides", "load", "three"] (defScope s_sum_in_triangle) := ⟨rfl, rfl, rfl, by decide +kernel, rfl, by decide +kernel, by decide +kernel⟩
theorem ok_sum_in_triangle {f : Addr} {fd : FuncData} (F : Fun K "sum_in_triangle" "sum_in_triangle" s_sum_in_triangle f fd) (T : Txt mg)
    (D_pair_place : DF P w K mg base "pair_place" 1 ["sides", "side", "far"] (spD K 3 R_pair_place)) :
    FnOk P w K mg base CX0 2 f fd ["sides", "load", "three"] (spD K 3 R_sum_in_triangle) := by
  refine F.ok sc_sum_in_triangle (fun vs H Q E h => spD_len h) (fun cdv A outer s H vs Q E hr h => ?_)
  obtain ⟨ds, r, hd, _, ⟨x, l, a, b, c, rfl, h1, h2, hl, ha, hb, hc, hs, rfl⟩, k⟩ := h
  obtain ⟨v0, v1, v2, rfl, d0, d1, d2⟩ := dpa_three hd
  cases dp_int d0
  refine ⟨_, (pss_cons (ps_asg (pv 2) (pg_tup rfl (pgs_cons (pg_name (i := 3) sc_sum_in_triangle.nd rfl (Or.inl rfl)) (pgs_cons (pg_name (i := 4) sc_sum_in_triangle.nd rfl (Or.inl rfl)) (pgs_cons (pg_name (i := 5) sc_sum_in_triangle.nd rfl (Or.inl rfl)) pgs_nil)))))
      (pss_cons (ps_set (i := 6) sc_sum_in_triangle.nd rfl (.inl rfl) (pe_op op_add (pe_ix ix_tup (pv 1) (pe_D D_pair_place (hr.mono (by decide)) (by rfl) (pa_cons (pv 0) (pa_cons (pv 3) (pa_cons (pv 4) pa_nil)))) (fun _ _ => rfl)) (pe_ix ix_tup (pv 1) (pe_D D_pair_place (hr.mono (by decide)) (by rfl) (pa_cons (pv 0) (pa_cons (pv 3) (pa_cons (pv 5) pa_nil)))) (fun _ _ => rfl))))
      (pss_one (ps_ret (pe_op op_add (pv 6) (pe_ix ix_tup (pv 1) (pe_D D_pair_place (hr.mono (by decide)) (by rfl) (pa_cons (pv 0) (pa_cons (pv 4) (pa_cons (pv 5) pa_nil)))) (fun _ _ => rfl))))))), ?_⟩
  refine qd_unp3 (K := K) (d1 := .int a) (d2 := .int b) (d3 := .int c) (ed_var rfl d2) fun w1 w2 w3 H1 e1 u1 u2 u3 => ?_
  cases dp_int u1
  cases dp_int u2
  cases dp_int u3
  have d1' := dp_ex e1 _ _ d1
  have pp : ∀ {σ : L2.St} {H' : Hp} (i j : Nat) (y z : Int), σ[0]? = some (some (.int x)) → σ[i]? = some (some (.int y)) → σ[j]? = some (some (.int z)) → 0 ≤ y → y ≤ 1000 →
      Ev (tCall (spD K 3 R_pair_place) [] E0 (tCons (tVar 0) (tCons (tVar i) (tCons (tVar j) tNil)))) σ H' (.int (plc x y z)) := fun i j y z g0 g1 g2 g3 g4 =>
    EvD.int (ed_call (ds := [.int x, .int y, .int z]) (eda_cons (ed_int (ev_var g0)) (eda_cons (ed_int (ev_var g1)) (eda_cons (ed_int (ev_var g2)) eda_nil))) rfl ⟨x, y, z, rfl, ⟨g3, g4⟩, rfl⟩)
  refine qi_asg (v := .int (at2 x l a b + at2 x l a c)) (ev_op (ed_at2 (ed_var rfl d1') (pp 3 4 a b rfl rfl rfl ha (by omega)) h1 h2 hl ha hb (by omega)) (ed_at2 (ed_var rfl d1') (pp 3 5 a c rfl rfl rfl ha (by omega)) h1 h2 hl ha (by omega) hs) rv_I0) fun H2 e2 => ?_
  have d2' := dp_ex e2 _ _ d1'
  exact d_ret (ed_int (ev_op (ev_var rfl) (ed_at2 (ed_var rfl d2') (pp 4 5 b c rfl rfl rfl (by omega) (by omega)) h1 h2 hl (by omega) hc hs) rv_I0)) fun v H3 e3 hv => k v H3 ((e1.trans e2).trans e3) hv

def need (s : Int) (l : List Int) : Int := mxl (sms s l ++ (tri s).map (tsum s l))
theorem tri_in {s : Int} (h1 : 2 ≤ s) (h2 : s ≤ 4) {t : List Int} (h : t ∈ tri s) : ∃ a b c, t = [a, b, c] ∧ 0 ≤ a ∧ a < b ∧ b < c ∧ c < s := by
  unfold tri tr2 tr3 at h
  simp only [List.mem_flatMap, List.mem_map, List.mem_range] at h
  obtain ⟨i, hi, j, hj, k, hk, rfl⟩ := h
  exact ⟨_, _, _, rfl, by omega, by omega, by omega, by omega⟩
theorem tri_len {s : Int} (h1 : 2 ≤ s) (h2 : s ≤ 4) : (tri s).length ≤ 4 := by
  have hs' : s = 2 ∨ s = 3 ∨ s = 4 := by omega
  rcases hs' with rfl | rfl | rfl <;> decide
def R_need_of (ds : List PyData) (r : PyData) : Prop := ∃ (s : Int) (l : List Int), ds = [.int s, tI l] ∧ 2 ≤ s ∧ s ≤ 4 ∧ l.length = np s ∧ r = .int (need s l)
abbrev s_need_of : Stmt := topS 36
abbrev N_need_of : List Str := ["sides", "load", "sums", "three"]
theorem sc_need_of : FnScope N_need_of ["sides", "load"] (defScope s_need_of) := ⟨rfl, rfl, rfl, by decide +kernel, rfl, by decide +kernel, by decide +kernel⟩
theorem ok_need_of {f : Addr} {fd : FuncData} (F : Fun K "need_of" "need_of" s_need_of f fd) (T : Txt mg)
    (D_sum_in_triangle : DF P w K mg base "sum_in_triangle" 2 ["sides", "load", "three"] (spD K 3 R_sum_in_triangle)) (D_sums_at_sides : DF P w K mg base "sums_at_sides" 2 ["sides", "load"] (spN K 2 R_sums_at_sides)) (D_triangles : DF P w K mg base "triangles" 1 ["sides"] (spN K 1 R_triangles)) :
    FnOk P w K mg base CX0 3 f fd ["sides", "load"] (spD K 2 R_need_of) := by
  refine F.ok sc_need_of (fun vs H Q E h => spD_len h) (fun cdv A outer s H vs Q E hr h => ?_)
  obtain ⟨ds, r, hd, _, ⟨x, l, rfl, h1, h2, hl, rfl⟩, k⟩ := h
  obtain ⟨v0, rfl, d0⟩ := dpa_it hd
  refine ⟨_, (pss_cons (ps_set (i := 2) sc_need_of.nd rfl (.inl rfl) (pe_op op_cat (pe_D D_sums_at_sides (hr.mono (by decide)) (by rfl) (pa_cons (pv 0) (pa_cons (pv 1) pa_nil))) (pe_lc (own := [("three", 3)]) (g := (gName 3)) (tt := tYes) rfl sc_need_of.nd (pi_list (pe_D D_triangles (hr.mono (by decide)) (by rfl) (pa_cons (pv 0) pa_nil))) (blkOk_by (N := N_need_of) (sc := defScope s_need_of) (by decide +kernel)) (fun _ _ _ _ _ => (pg_name (i := 3) sc_need_of.nd rfl (Or.inl rfl))) (fun _ _ _ _ _ => pts_nil) (fun _ _ _ _ _ => (pe_D D_sum_in_triangle (hr.mono (by decide)) (by rfl) (pa_cons (pv 0) (pa_cons (pv 1) (pa_cons (pv 3) pa_nil))))))))
      (pss_one (ps_ret (pe_callB (cr_max rfl) (by rfl) T.b_max (by decide +kernel) (pa_cons (pv 2) pa_nil))))), ?_⟩
  have tl := tri_len h1 h2
  have sl := sms_len x l
  refine qn_asg (K := K) (ds := dI (sms x l ++ (tri x).map (tsum x l))) (en_is (en_cat (EvN.toQ (en_call (R := R_sums_at_sides) (r := dI (sms x l)) (ds := [.int x, tI l]) (by walk_at "dl") rfl ⟨x, l, rfl, h1, by omega, rfl⟩))
    (EvN.toQ (en_lc (ei_new (ds := (tri x).map tI) (Ls.nil _) (en_call (R := R_triangles) (ds := [.int x]) (by walk_at "dl") rfl ⟨x, rfl, h1, h2, rfl⟩) (immAll_tI _)) (by rw [List.length_map]; omega) (fun i => .int (tsum x l ((tri x).getD i []))) (fun _ _ => by simp [imm]) fun H2 i d y Hb Q' e2 hg e3 hd2 k2 => ?_)) ?_) ?_) fun p vs H1 hp e1 h1' hd1 => ?_
  · rw [List.getElem?_map] at hg
    obtain ⟨t, ht, rfl⟩ := Option.map_eq_some_iff.mp hg
    obtain ⟨a, b, c, rfl, q1, q2, q3, q4⟩ := tri_in h1 h2 (List.mem_of_getElem? ht)
    have d0' := dp_ex (e2.trans e3) _ _ d0
    refine k2 _ Hb (Ex.refl _) rfl (ed_is (ed_call (R := R_sum_in_triangle) (ds := [.int x, tI l, tI [a, b, c]]) (by walk_at "dl") rfl ⟨x, l, a, b, c, rfl, h1, by omega, hl, q1, q2, q3, q4, rfl⟩) ?_)
    rw [List.getD_eq_getElem?_getD, ht]
    rfl
  · rw [List.length_map, List.length_map, List.length_map, List.length_range, sl]
    omega
  · show (sms x l).map PyData.int ++ (List.range ((tri x).map tI).length).map _ = (sms x l ++ (tri x).map (tsum x l)).map PyData.int
    rw [List.map_append, List.map_map, List.length_map]
    congr 1
    apply List.ext_getElem?
    intro i
    rw [List.getElem?_map, List.getElem?_map]
    by_cases hi : i < (tri x).length
    · rw [List.getElem?_range hi, List.getElem?_eq_getElem hi]
      simp [List.getD_eq_getElem?_getD, hi]
    · rw [List.getElem?_eq_none (by simpa using hi), List.getElem?_eq_none (by omega)]
      rfl
  · obtain rfl := dpa_ints hd1
    have h0 : 0 < (sms x l ++ (tri x).map (tsum x l)).length := by rw [List.length_append, sl]; omega
    exact d_ret (ed_int (ev_maxL (EvQ.toD (eq_var rfl h1' (ints_dpa _))) h0 (mxl_mem h0) fun y hy => mxl_ge hy)) fun v H2 e2 hv => k v H2 (e1.trans e2) hv

def R_plain_need (ds : List PyData) (r : PyData) : Prop := ∃ (s : Int) (l : List Int), ds = [.int s, tI l] ∧ 2 ≤ s ∧ s ≤ 4 ∧ Ld s l ∧ r = .int (need s l)
abbrev s_plain_need : Stmt := topS 38
abbrev N_plain_need : List Str := ["sides", "load"]
theorem sc_plain_need : FnScope N_plain_need ["sides", "load"] (defScope s_plain_need) := ⟨rfl, rfl, rfl, by decide +kernel, rfl, by decide +kernel, by decide +kernel⟩
theorem ok_plain_need {f : Addr} {fd : FuncData} (F : Fun K "plain_need" "plain_need" s_plain_need f fd) (T : Txt mg)
    (D_check_plain_load : DF P w K mg base "check_plain_load" 4 ["sides", "load"] (spD K 2 R_check_plain_load)) (D_need_of : DF P w K mg base "need_of" 3 ["sides", "load"] (spD K 2 R_need_of)) :
    FnOk P w K mg base CX0 5 f fd ["sides", "load"] (spD K 2 R_plain_need) := by
  refine F.ok sc_plain_need (fun vs H Q E h => spD_len h) (fun cdv A outer s H vs Q E hr h => ?_)
  obtain ⟨ds, r, hd, _, ⟨x, l, rfl, h1, h2, hl, rfl⟩, k⟩ := h
  obtain ⟨v0, rfl, d0⟩ := dpa_it hd
  refine ⟨_, (pss_cons (ps_expr (pe_D D_check_plain_load (hr.mono (by decide)) (by rfl) (pa_cons (pv 0) (pa_cons (pv 1) pa_nil))))
      (pss_one (ps_ret (pe_D D_need_of (hr.mono (by decide)) (by rfl) (pa_cons (pv 0) (pa_cons (pv 1) pa_nil)))))), ?_⟩
  refine (qd_drop (K := K) (d := .none) (ed_call (R := R_check_plain_load) (ds := [.int x, tI l]) (by walk_at "dl") rfl ⟨x, l, rfl, h1, h2, hl, rfl⟩) fun H1 e1 => ?_)
  have d1 := dp_ex e1 _ _ d0
  exact d_ret (ed_call (R := R_need_of) (ds := [.int x, tI l]) (by walk_at "dl") rfl ⟨x, l, rfl, h1, h2, hl.1, rfl⟩) fun v H2 e2 hv => k v H2 (e1.trans e2) hv

def mrm (r : Int) : List Int := List.replicate (r / 2).toNat 2 ++ List.replicate (r % 2).toNat 1
def R_mates_rooms (ds : List PyData) (r : List PyData) : Prop := ∃ x : Int, ds = [.int x] ∧ 0 ≤ x ∧ x ≤ 99 ∧ r = dI (mrm x)
abbrev s_mates_rooms : Stmt := topS 45
abbrev N_mates_rooms : List Str := ["room"]
theorem sc_mates_rooms : FnScope N_mates_rooms ["room"] (defScope s_mates_rooms) := ⟨rfl, rfl, rfl, by decide +kernel, rfl, by decide +kernel, by decide +kernel⟩
theorem ok_mates_rooms {f : Addr} {fd : FuncData} (F : Fun K "mates_rooms" "mates_rooms" s_mates_rooms f fd) (T : Txt mg)
     :
    FnOk P w K mg base CX0 1 f fd ["room"] (spN K 1 R_mates_rooms) := by
  refine F.ok sc_mates_rooms (fun vs H Q E h => spN_len h) (fun cdv A outer s H vs Q E hr h => ?_)
  obtain ⟨ds, r, hd, _, ⟨x, rfl, h1, h2, rfl⟩, k⟩ := h
  obtain rfl := dpa_ints (l := [x]) hd
  refine ⟨_, (pss_one (ps_ret (pe_op op_cat (pe_op op_rep (pe_lst (pa_cons pe_int pa_nil)) (pe_op op_fdiv (pv 0) pe_int)) (pe_op op_rep (pe_lst (pa_cons pe_int pa_nil)) (pe_op op_mod (pv 0) pe_int))))), ?_⟩
  refine n_ret (en_is (en_cat (EvN.toQ (en_rep (d := .int 2) (n := x / 2) (EvN.toQ (en_lst (eda_cons (ed_int ev_c) eda_nil) (by simp))) (ev_op (ev_var rfl) ev_c (rv_I (by unfold CDiv; omega))) (by omega) (by omega)))
    (EvN.toQ (en_rep (d := .int 1) (n := x % 2) (EvN.toQ (en_lst (eda_cons (ed_int ev_c) eda_nil) (by simp))) (ev_op (ev_var rfl) ev_c (rv_I (by omega))) (by omega) (by omega))) (by simp; omega)) ?_) k
  show _ = (mrm x).map PyData.int
  rw [mrm, List.map_append, List.map_replicate, List.map_replicate]

end
end K20
set_option Elab.async false
set_option linter.all false
set_option maxRecDepth 100000
set_option maxHeartbeats 4000000
namespace K20
open PySem PySem.Spec PyProof.Rows L2 Evl DL
local macro_rules | `(tactic| walk_at "dl") => `(tactic| first
  | exact ev_c | exact ev_var rfl | exact eda_nil
  | exact ed_var rfl (by assumption)
  | exact ed_int ev_c | exact ed_int (ev_var rfl)
  | (refine eda_cons ?_ ?_ <;> walk_at "dl")
  | (refine ed_int ?_; walk_at "dl")
  | (refine ev_op ?_ ?_ rv_I0 <;> walk_at "dl"))

section
variable {P : Program} {w : World} {K : PySem.W.Frag} {mg : Str → Option Value} {base : Heap}
def zer (s : Int) : List Int := List.replicate (np s) 0
/-- the parts fit into the rooms and sum up to l -/
structure Adds (s : Int) (l : List Int) (rooms : List Int) (ps : List (List Int)) : Prop where
  len : ps.length = rooms.length
  ld : ∀ p ∈ ps, Ld s p
  fit : ∀ (i : Nat) p r, ps[i]? = some p → rooms[i]? = some r → mxl (sms s p) ≤ r
  sum : ps.foldl (zw (· + ·)) (zer s) = l
def R_adds_up (ds : List PyData) (r : PyData) : Prop := ∃ (s : Int) (l rooms : List Int) (ps : List (List Int)), ds = [.int s, tI l, .list (dI rooms), .list (ps.map tI)] ∧ 2 ≤ s ∧ s ≤ 5 ∧ ps.length ≤ 1000 ∧ Adds s l rooms ps ∧ r = .bool true
theorem zw_len {f : Int → Int → Int} {a b : List Int} (h : a.length = b.length) : (zw f a b).length = a.length := by
  rw [zw, List.length_zipWith]
  omega
theorem adds_len {s : Int} : ∀ (ps : List (List Int)) (a : List Int), (∀ p ∈ ps, Ld s p) → a.length = np s → (ps.foldl (zw (· + ·)) a).length = np s
  | [], a, _, h => h
  | p :: ps, a, hp, h => by
    rw [List.foldl_cons]
    refine adds_len ps _ (fun q hq => hp q (List.mem_cons_of_mem _ hq)) ?_
    rw [zw_len (by rw [h, (hp p List.mem_cons_self).1])]
    exact h
abbrev s_adds_up : Stmt := topS 43
abbrev N_adds_up : List Str := ["sides", "load", "rooms", "thing", "total", "part", "room"]
theorem sc_adds_up : FnScope N_adds_up ["sides", "load", "rooms", "thing"] (defScope s_adds_up) := ⟨rfl, rfl, rfl, by decide +kernel, rfl, by decide +kernel, by decide +kernel⟩
theorem ok_adds_up {f : Addr} {fd : FuncData} (F : Fun K "adds_up" "adds_up" s_adds_up f fd) (T : Txt mg)
    (D_is_let : DF P w K mg base "is_let" 3 ["sides", "load", "room"] (spD K 3 R_is_let)) (D_is_load_of : DF P w K mg base "is_load_of" 2 ["sides", "thing"] (spD K 2 R_is_load_of)) (D_is_row : DF P w K mg base "is_row" 1 ["thing"] (spD K 1 R_is_row)) (D_no_wires : DF P w K mg base "no_wires" 2 ["sides"] (spD K 1 R_no_wires)) (D_summed : DF P w K mg base "summed" 1 ["one", "other"] (spD K 2 R_summed)) :
    FnOk P w K mg base CX0 4 f fd ["sides", "load", "rooms", "thing"] (spD K 4 R_adds_up) := by
  refine F.ok sc_adds_up (fun vs H Q E h => spD_len h) (fun cdv A outer s H vs Q E hr h => ?_)
  obtain ⟨ds, r, hd, _, ⟨x, l, rooms, ps, rfl, h1, h2, h3, ha, rfl⟩, k⟩ := h
  obtain ⟨v0, v1, v2, v3, rfl, d0, d1, d2, d3⟩ := dpa_four hd
  cases dp_int d0
  refine ⟨_, (pss_cons (ps_if (PW.pt (pw_or (pt_not (pt_val (pe_D D_is_row (hr.mono (by decide)) (by rfl) (pa_cons (pv 3) pa_nil)))) (pw_or1 (pt_cmpR op_ne (pe_callB call_len_seq (by rfl) T.b_len PySem.boot_len (pa_cons (pv 3) pa_nil)) (pe_callB call_len_seq (by rfl) T.b_len PySem.boot_len (pa_cons (pv 2) pa_nil)) (nomark _))))) (pss_one (ps_ret pe_bl)) pss_nil)
      (pss_cons (ps_set (i := 4) sc_adds_up.nd rfl (.inl rfl) (pe_D D_no_wires (hr.mono (by decide)) (by rfl) (pa_cons (pv 0) pa_nil)))
      (pss_cons (ps_for PassesOwn.never rfl (pi_zipM false false (by rfl) T.b_zip (pa_cons (pv 3) (pa_cons (pv 2) pa_nil))) (pg_tup rfl (pgs_cons (pg_name (i := 5) sc_adds_up.nd rfl (Or.inl rfl)) (pgs_cons (pg_name (i := 6) sc_adds_up.nd rfl (Or.inl rfl)) pgs_nil))) (pss_cons (ps_if (PW.pt (pw_or (pt_not (pt_val (pe_D D_is_load_of (hr.mono (by decide)) (by rfl) (pa_cons (pv 0) (pa_cons (pv 5) pa_nil))))) (pw_or1 (pt_not (pt_val (pe_D D_is_let (hr.mono (by decide)) (by rfl) (pa_cons (pv 0) (pa_cons (pv 5) (pa_cons (pv 6) pa_nil))))))))) (pss_one (ps_ret pe_bl)) pss_nil)
      (pss_one (ps_set (i := 4) sc_adds_up.nd rfl (.inl rfl) (pe_D D_summed (hr.mono (by decide)) (by rfl) (pa_cons (pv 4) (pa_cons (pv 5) pa_nil)))))))
      (pss_one (ps_ret (pe_cmpR (op_eqD (hu64 hr)) (pv 4) (pv 1) (nomark _))))))), ?_⟩
  have lens : ((ps.map tI).length : Int) = ((dI rooms).length : Int) := by rw [List.length_map, List.length_map, ha.len]
  refine q_when (b := false) (et_or (a := false) (et_not (a := true) (et_B (EvD.bool (ed_call (R := R_is_row) (ds := [.list (ps.map tI)]) (by walk_at "dl") rfl ⟨_, rfl, rfl⟩)))) fun _ => et_test (ev_is (ev_op (ev_lenL (ed_var rfl d3)) (ev_lenL (ed_var rfl d2)) (rv_ne rfl)) ?_)) (fun z => by cases z) fun _ H1 e1 => ?_
  · rw [lens]
    simp
  have d1 := dp_ex e1 _ _ d1
  have d2 := dp_ex e1 _ _ d2
  have d3 := dp_ex e1 _ _ d3
  refine qd_asg (K := K) (d := tI (zer x)) (ed_call (R := R_no_wires) (ds := [.int x]) (by walk_at "dl") rfl ⟨x, rfl, h1, h2, rfl⟩) fun w0 H2 e2 u0 => ?_
  have d1 := dp_ex e2 _ _ d1
  have d2 := dp_ex e2 _ _ d2
  have d3 := dp_ex e2 _ _ d3
  have np10 := np_le h1 h2
  refine e_for (ei_zipLL (ed_var rfl d3) (ed_var rfl d2) (immAll_tI _) (immAll_dI _)) (fun H3 i σ' Ha => Ex H3 Ha ∧ ∃ wt a b, Dp K Ha wt (tI ((ps.take i).foldl (zw (· + ·)) (zer x))) ∧ σ' = [some (.int x), some v1, some v2, some v3, some wt, a, b])
    (fun H3 e3 => ⟨Ex.refl _, w0, none, none, by simpa using dp_ex e3 _ _ u0, rfl⟩) (fun H3 i σ' Ha _ q => Xp.of_ex q.1) ?_ ?_
  · rintro H3 i d y σ' Ha Hb e3 hg ⟨p1, wt, a, b, p2, rfl⟩ e4 hd2
    rw [List.getElem?_zipWith, List.getElem?_map, List.getElem?_map] at hg
    cases g1 : ps[i]? with
    | none => rw [g1] at hg; simp at hg
    | some p =>
      cases g2 : rooms[i]? with
      | none => rw [g1, g2] at hg; simp at hg
      | some m =>
        rw [g1, g2] at hg
        have hg : PyData.tuple [tI p, .int m] = d := by simpa using hg
        subst hg
        refine g_two hd2 fun w1 w2 u1 u2 => ?_
        cases dp_int u2
        have hp := ha.ld p (List.mem_of_getElem? g1)
        have hm := ha.fit i p m g1 g2
        refine q_when (b := false) (et_or (a := false) (et_not (a := true) (et_B (EvD.bool (ed_call (R := R_is_load_of) (ds := [.int x, tI p]) (by walk_at "dl") rfl ⟨x, p, rfl, h1, h2, hp, rfl⟩)))) fun _ => et_not (a := true) (et_B (EvD.bool (ed_call (R := R_is_let) (ds := [.int x, tI p, .int m]) (by walk_at "dl") rfl ⟨x, p, m, rfl, h1, h2, by rw [decide_eq_true hm]⟩)))) (fun z => by cases z) fun _ H4 e5 => ?_
        have u1 := dp_ex e5 _ _ u1
        have p2 := dp_ex (e4.trans e5) _ _ p2
        have ln : ((ps.take i).foldl (zw (· + ·)) (zer x)).length = np x := adds_len _ _ (fun q hq => ha.ld q (List.mem_of_mem_take hq)) (by simp [zer])
        refine d_asg (K := K) (d := tI (zw (· + ·) ((ps.take i).foldl (zw (· + ·)) (zer x)) p)) (ed_call (R := R_summed) (ds := [tI ((ps.take i).foldl (zw (· + ·)) (zer x)), tI p]) (by walk_at "dl") rfl ⟨_, _, rfl, by rw [ln]; omega, rfl⟩) fun v H5 e6 hv => ?_
        refine ⟨((p1.trans e4).trans e5).trans e6, v, _, _, ?_, rfl⟩
        rw [List.take_add_one, g1, Option.toList_some, List.foldl_append]
        exact hv
  · rintro H3 σ' Ha e3 ⟨p1, wt, a, b, p2, rfl⟩
    rw [List.length_zipWith, List.length_map, List.length_map, ← ha.len, Nat.min_self, List.take_length, ha.sum] at p2
    have d1 := dp_ex (e3.trans p1) _ _ d1
    refine d_ret (ed_bool (ev_is (ev_eqD (ed_var rfl p2) (ed_var rfl d1) (shaped_tI _) (shaped_tI _)) ?_)) fun v H4 e4 hv => k v H4 ((((e1.trans e2).trans e3).trans p1).trans e4) hv
    rw [eqv_tI]
    simp

def R_is_plain_split (ds : List PyData) (r : PyData) : Prop := ∃ (s : Int) (l : List Int) (m : Int) (ps : List (List Int)), ds = [.int s, tI l, .int m, .list (ps.map tI)] ∧ 2 ≤ s ∧ s ≤ 4 ∧ Ld s l ∧ 0 ≤ m ∧ m ≤ 99 ∧ Adds s l (List.replicate m.toNat 1) ps ∧ r = .bool true
abbrev s_is_plain_split : Stmt := topS 44
abbrev N_is_plain_split : List Str := ["sides", "load", "room", "thing"]
theorem sc_is_plain_split : FnScope N_is_plain_split ["sides", "load", "room", "thing"] (defScope s_is_plain_split) := ⟨rfl, rfl, rfl, by decide +kernel, rfl, by decide +kernel, by decide +kernel⟩
theorem ok_is_plain_split {f : Addr} {fd : FuncData} (F : Fun K "is_plain_split" "is_plain_split" s_is_plain_split f fd) (T : Txt mg)
    (D_adds_up : DF P w K mg base "adds_up" 4 ["sides", "load", "rooms", "thing"] (spD K 4 R_adds_up)) (D_check_plain_load : DF P w K mg base "check_plain_load" 4 ["sides", "load"] (spD K 2 R_check_plain_load)) (D_check_room : DF P w K mg base "check_room" 3 ["room"] (spD K 1 R_check_room)) :
    FnOk P w K mg base CX0 5 f fd ["sides", "load", "room", "thing"] (spD K 4 R_is_plain_split) := by
  refine F.ok sc_is_plain_split (fun vs H Q E h => spD_len h) (fun cdv A outer s H vs Q E hr h => ?_)
  obtain ⟨ds, r, hd, _, ⟨x, l, m, ps, rfl, h1, h2, hl, h3, h4, ha, rfl⟩, k⟩ := h
  obtain ⟨v0, v1, v2, v3, rfl, d0, d1, d2, d3⟩ := dpa_four hd
  cases dp_int d0
  cases dp_int d2
  refine ⟨_, (pss_cons (ps_expr (pe_D D_check_plain_load (hr.mono (by decide)) (by rfl) (pa_cons (pv 0) (pa_cons (pv 1) pa_nil))))
      (pss_cons (ps_expr (pe_D D_check_room (hr.mono (by decide)) (by rfl) (pa_cons (pv 2) pa_nil)))
      (pss_one (ps_ret (pe_D D_adds_up (hr.mono (by decide)) (by rfl) (pa_cons (pv 0) (pa_cons (pv 1) (pa_cons (pe_op op_rep (pe_lst (pa_cons pe_int pa_nil)) (pv 2)) (pa_cons (pv 3) pa_nil))))))))), ?_⟩
  refine (qd_drop (K := K) (d := .none) (ed_call (R := R_check_plain_load) (ds := [.int x, tI l]) (by walk_at "dl") rfl ⟨x, l, rfl, h1, h2, hl, rfl⟩) fun H1 e1 => ?_)
  refine (qd_drop (K := K) (d := .none) (ed_call (R := R_check_room) (ds := [.int m]) (by walk_at "dl") rfl ⟨m, rfl, h3, h4, rfl⟩) fun H2 e2 => ?_)
  have d1 := dp_ex (e1.trans e2) _ _ d1
  have d3 := dp_ex (e1.trans e2) _ _ d3
  have a3 : EvD K (tOp rRep (tLst (tCons (tC (.int 1)) tNil)) (tVar 2)) (L2.start N_is_plain_split [.int x, v1, .int m, v3]) H2 (.list (dI (List.replicate m.toNat 1))) := ed_is (EvN.toD (en_rep (d := .int 1) (n := m) (EvN.toQ (en_lst (eda_cons (ed_int ev_c) eda_nil) (by simp))) (ev_var rfl) (by omega) (by omega))) (by rw [dI, List.map_replicate])
  have hpl := ha.len
  rw [List.length_replicate] at hpl
  exact d_ret (ed_call (R := R_adds_up) (ds := [.int x, tI l, .list (dI (List.replicate m.toNat 1)), .list (ps.map tI)]) (eda_cons (ed_int (ev_var rfl)) (eda_cons (ed_var rfl d1) (eda_cons a3 (eda_cons (ed_var rfl d3) eda_nil)))) rfl ⟨x, l, _, ps, rfl, h1, by omega, by omega, ha, rfl⟩) fun v H3 e3 hv => k v H3 ((e1.trans e2).trans e3) hv

def R_is_crossed_split (ds : List PyData) (r : PyData) : Prop := ∃ (s : Int) (l : List Int) (m : Int) (ps : List (List Int)), ds = [.int s, tI l, .int m, .list (ps.map tI)] ∧ 2 ≤ s ∧ s ≤ 5 ∧ Ld s l ∧ 0 ≤ m ∧ m ≤ 99 ∧ Adds s l (mrm m) ps ∧ r = .bool true
abbrev s_is_crossed_split : Stmt := topS 50
abbrev N_is_crossed_split : List Str := ["sides", "load", "room", "thing"]
theorem sc_is_crossed_split : FnScope N_is_crossed_split ["sides", "load", "room", "thing"] (defScope s_is_crossed_split) := ⟨rfl, rfl, rfl, by decide +kernel, rfl, by decide +kernel, by decide +kernel⟩
theorem ok_is_crossed_split {f : Addr} {fd : FuncData} (F : Fun K "is_crossed_split" "is_crossed_split" s_is_crossed_split f fd) (T : Txt mg)
    (D_adds_up : DF P w K mg base "adds_up" 4 ["sides", "load", "rooms", "thing"] (spD K 4 R_adds_up)) (D_check_load : DF P w K mg base "check_load" 3 ["sides", "load"] (spD K 2 R_check_load)) (D_check_room : DF P w K mg base "check_room" 3 ["room"] (spD K 1 R_check_room)) (D_check_sides : DF P w K mg base "check_sides" 3 ["sides", "most"] (spD K 2 R_check_sides)) (D_mates_rooms : DF P w K mg base "mates_rooms" 1 ["room"] (spN K 1 R_mates_rooms)) :
    FnOk P w K mg base CX0 5 f fd ["sides", "load", "room", "thing"] (spD K 4 R_is_crossed_split) := by
  refine F.ok sc_is_crossed_split (fun vs H Q E h => spD_len h) (fun cdv A outer s H vs Q E hr h => ?_)
  obtain ⟨ds, r, hd, _, ⟨x, l, m, ps, rfl, h1, h2, hl, h3, h4, ha, rfl⟩, k⟩ := h
  obtain ⟨v0, v1, v2, v3, rfl, d0, d1, d2, d3⟩ := dpa_four hd
  cases dp_int d0
  cases dp_int d2
  refine ⟨_, (pss_cons (ps_expr (pe_D D_check_sides (hr.mono (by decide)) (by rfl) (pa_cons (pv 0) (pa_cons (pe_const T.c_MOST_SIDES (by rfl)) pa_nil))))
      (pss_cons (ps_expr (pe_D D_check_load (hr.mono (by decide)) (by rfl) (pa_cons (pv 0) (pa_cons (pv 1) pa_nil))))
      (pss_cons (ps_expr (pe_D D_check_room (hr.mono (by decide)) (by rfl) (pa_cons (pv 2) pa_nil)))
      (pss_one (ps_ret (pe_D D_adds_up (hr.mono (by decide)) (by rfl) (pa_cons (pv 0) (pa_cons (pv 1) (pa_cons (pe_D D_mates_rooms (hr.mono (by decide)) (by rfl) (pa_cons (pv 2) pa_nil)) (pa_cons (pv 3) pa_nil)))))))))), ?_⟩
  refine (qd_drop (K := K) (d := .none) (ed_call (R := R_check_sides) (ds := [.int x, .int 5]) (by walk_at "dl") rfl ⟨x, 5, rfl, h1, h2, rfl⟩) fun H1 e1 => ?_)
  have d1 := dp_ex e1 _ _ d1
  refine (qd_drop (K := K) (d := .none) (ed_call (R := R_check_load) (ds := [.int x, tI l]) (by walk_at "dl") rfl ⟨x, l, rfl, h1, h2, hl, rfl⟩) fun H2 e2 => ?_)
  refine (qd_drop (K := K) (d := .none) (ed_call (R := R_check_room) (ds := [.int m]) (by walk_at "dl") rfl ⟨m, rfl, h3, h4, rfl⟩) fun H3 e3 => ?_)
  have d1 := dp_ex (e2.trans e3) _ _ d1
  have d3 := dp_ex ((e1.trans e2).trans e3) _ _ d3
  have hpl := ha.len
  rw [mrm, List.length_append, List.length_replicate, List.length_replicate] at hpl
  exact d_ret (ed_call (R := R_adds_up) (ds := [.int x, tI l, .list (dI (mrm m)), .list (ps.map tI)]) (eda_cons (ed_int (ev_var rfl)) (eda_cons (ed_var rfl d1) (eda_cons (EvN.toD (en_call (R := R_mates_rooms) (ds := [.int m]) (by walk_at "dl") rfl ⟨m, rfl, h3, h4, rfl⟩)) (eda_cons (ed_var rfl d3) eda_nil)))) rfl ⟨x, l, _, ps, rfl, h1, h2, by omega, ha, rfl⟩) fun v H4 e4 hv => k v H4 (((e1.trans e2).trans e3).trans e4) hv

def P_plain_bar (ds : List PyData) : Prop := ∃ (s : Int) (l : List Int) (m : Int), ds = [.int s, tI l, .int m] ∧ 2 ≤ s ∧ s ≤ 4 ∧ Ld s l ∧ 0 ≤ m ∧ m ≤ 99
def Q_plain_bar (ds : List PyData) (r : PyData) : Prop := ∃ (s : Int) (l : List Int) (m : Int), ds = [.int s, tI l, .int m] ∧ isNoneD r = decide (need s l ≤ m)
theorem need_le {s : Int} {l : List Int} {m : Int} (h1 : 2 ≤ s) (a : ∀ (i : Nat) y, (sms s l)[i]? = some y → y ≤ m) (b : ∀ t, t ∈ tri s → tsum s l t ≤ m) : need s l ≤ m := by
  have h0 : 0 < (sms s l ++ (tri s).map (tsum s l)).length := by rw [List.length_append, sms_len]; omega
  have hm := mxl_mem h0
  rcases List.mem_append.mp hm with hm | hm
  · obtain ⟨i, hi⟩ := List.mem_iff_getElem?.mp hm
    exact a i _ hi
  · obtain ⟨t, ht, e⟩ := List.mem_map.mp hm
    have := b t ht
    unfold need
    rw [← e]
    exact this
theorem need_ge1 {s : Int} {l : List Int} {y : Int} (h : y ∈ sms s l) : y ≤ need s l := mxl_ge (List.mem_append_left _ h)
theorem need_ge2 {s : Int} {l : List Int} {t : List Int} (h : t ∈ tri s) : tsum s l t ≤ need s l := mxl_ge (List.mem_append_right _ (List.mem_map_of_mem h))
abbrev s_plain_bar : Stmt := topS 42
abbrev N_plain_bar : List Str := ["sides", "load", "room", "sums", "side", "three"]
theorem sc_plain_bar : FnScope N_plain_bar ["sides", "load", "room"] (defScope s_plain_bar) := ⟨rfl, rfl, rfl, by decide +kernel, rfl, by decide +kernel, by decide +kernel⟩
theorem ok_plain_bar {f : Addr} {fd : FuncData} (F : Fun K "plain_bar" "plain_bar" s_plain_bar f fd) (T : Txt mg)
    (D_check_plain_load : DF P w K mg base "check_plain_load" 4 ["sides", "load"] (spD K 2 R_check_plain_load)) (D_check_room : DF P w K mg base "check_room" 3 ["room"] (spD K 1 R_check_room)) (D_sum_in_triangle : DF P w K mg base "sum_in_triangle" 2 ["sides", "load", "three"] (spD K 3 R_sum_in_triangle)) (D_sums_at_sides : DF P w K mg base "sums_at_sides" 2 ["sides", "load"] (spN K 2 R_sums_at_sides)) (D_triangles : DF P w K mg base "triangles" 1 ["sides"] (spN K 1 R_triangles)) :
    FnOk P w K mg base CX0 5 f fd ["sides", "load", "room"] (spX K 3 P_plain_bar Q_plain_bar) := by
  refine F.ok sc_plain_bar (fun vs H Q E h => spX_len h) (fun cdv A outer s H vs Q E hr h => ?_)
  obtain ⟨ds, hd, _, ⟨x, l, m, rfl, h1, h2, hl, h3, h4⟩, k⟩ := h
  obtain ⟨v0, v1, v2, rfl, d0, d1, d2⟩ := dpa_three hd
  cases dp_int d0
  cases dp_int d2
  refine ⟨_, (pss_cons (ps_expr (pe_D D_check_plain_load (hr.mono (by decide)) (by rfl) (pa_cons (pv 0) (pa_cons (pv 1) pa_nil))))
      (pss_cons (ps_expr (pe_D D_check_room (hr.mono (by decide)) (by rfl) (pa_cons (pv 2) pa_nil)))
      (pss_cons (ps_set (i := 3) sc_plain_bar.nd rfl (.inl rfl) (pe_D D_sums_at_sides (hr.mono (by decide)) (by rfl) (pa_cons (pv 0) (pa_cons (pv 1) pa_nil))))
      (pss_cons (ps_for PassesOwn.never rfl (pi_range1 (by rfl) T.b_range (pa_cons (pv 0) pa_nil)) (pg_name (i := 4) sc_plain_bar.nd rfl (Or.inl rfl)) (pss_one (ps_if (pt_cmpR op_gt (pe_ix ix_list (pv 3) (pv 4) (fun _ _ => rfl)) (pv 2) (nomark _)) (pss_one (ps_ret (pe_tup (pa_cons pe_str (pa_cons (pv 4) pa_nil))))) pss_nil)))
      (pss_cons (ps_for PassesOwn.never rfl (pi_list (pe_D D_triangles (hr.mono (by decide)) (by rfl) (pa_cons (pv 0) pa_nil))) (pg_name (i := 5) sc_plain_bar.nd rfl (Or.inl rfl)) (pss_one (ps_if (pt_cmpR op_gt (pe_D D_sum_in_triangle (hr.mono (by decide)) (by rfl) (pa_cons (pv 0) (pa_cons (pv 1) (pa_cons (pv 5) pa_nil)))) (pv 2) (nomark _)) (pss_one (ps_ret (pe_tup (pa_cons pe_str (pa_cons (pv 5) pa_nil))))) pss_nil)))
      (pss_one (ps_ret pe_non))))))), ?_⟩
  refine (qd_drop (K := K) (d := .none) (ed_call (R := R_check_plain_load) (ds := [.int x, tI l]) (by walk_at "dl") rfl ⟨x, l, rfl, h1, h2, hl, rfl⟩) fun H1 e1 => ?_)
  refine (qd_drop (K := K) (d := .none) (ed_call (R := R_check_room) (ds := [.int m]) (by walk_at "dl") rfl ⟨m, rfl, h3, h4, rfl⟩) fun H2 e2 => ?_)
  have d1 := dp_ex (e1.trans e2) _ _ d1
  refine qn_asg (K := K) (ds := dI (sms x l)) (en_call (R := R_sums_at_sides) (ds := [.int x, tI l]) (by walk_at "dl") rfl ⟨x, l, rfl, h1, by omega, rfl⟩) fun p vs H3 hp e3 h3' hd3 => ?_
  obtain rfl := dpa_ints hd3
  have d1 := dp_ex e3 _ _ d1
  have e03 := (e1.trans e2).trans e3
  have sl := sms_len x l
  refine e_for (K := K) (S := []) (ei_rng1 (n := x) (by walk_at "dl") (by omega)) (fun H4 i σ' Ha => Ex H4 Ha ∧ (∃ a b, σ' = [some (.int x), some v1, some (.int m), some (.ref p), a, b]) ∧ ∀ j y, j < i → (sms x l)[j]? = some y → y ≤ m)
    (fun H4 e4 => ⟨Ex.refl _, ⟨none, none, rfl⟩, fun j y hj => absurd hj (by omega)⟩) (fun H4 i σ' Ha _ q => Xp.of_ex q.1) ?_ ?_
  · rintro H4 i d y σ' Ha Hb e4 hg ⟨p1, ⟨a, b, rfl⟩, p3⟩ e5 hd2
    have hlt : i < x.toNat := by have := (List.getElem?_eq_some_iff.mp hg).1; simpa using this
    rw [rng_get hlt] at hg
    cases hg
    cases hd2
    have hi : i < (sms x l).length := by omega
    have at3 := e5 _ _ (p1 _ _ (e4 _ _ h3'))
    have gi : (sms x l)[i]? = some ((sms x l)[i]) := List.getElem?_eq_getElem hi
    refine s_when (b := decide (m < (sms x l)[i])) (et_test (ev_op (EvD.int (ed_ixL (ds := dI (sms x l)) (k := i) (EvQ.toD (eq_var rfl at3 (ints_dpa _))) (ev_var rfl) (by rw [List.getElem?_map, gi]; rfl))) (ev_var rfl) rv_I0)) (fun hb H5 e6 => ?_) fun hb H5 e6 => ⟨(p1.trans e5).trans e6, ⟨_, _, rfl⟩, fun j y hj hy => ?_⟩
    · refine d_ret (K := K) (ed_tup (eda_cons (ed_str ev_c) (eda_cons (ed_int (ev_var rfl)) eda_nil)) (by simp)) fun v H6 e7 hv => k _ v H6 ⟨x, l, m, rfl, ?_⟩ ((((e03.trans e4).trans p1).trans e5).trans (e6.trans e7)) hv
      have : ¬ need x l ≤ m := fun z => by
        have := of_decide_eq_true hb
        have := need_ge1 (List.mem_of_getElem? gi)
        omega
      rw [decide_eq_false this]
      rfl
    · by_cases ej : j = i
      · subst ej
        rw [gi] at hy
        cases hy
        have := of_decide_eq_false hb
        omega
      · exact p3 j y (by omega) hy
  · rintro H4 σ' Ha e4 ⟨p1, ⟨a, b, rfl⟩, p3⟩
    rw [List.length_map, List.length_range] at p3
    have d1 := dp_ex (e4.trans p1) _ _ d1
    refine e_for (S := []) (ei_new (ds := (tri x).map tI) (Ls.nil _) (en_call (R := R_triangles) (ds := [.int x]) (by walk_at "dl") rfl ⟨x, rfl, h1, h2, rfl⟩) (immAll_tI _)) (fun H5 i σ' Ha => Ex H5 Ha ∧ (∃ b, σ' = [some (.int x), some v1, some (.int m), some (.ref p), a, b]) ∧ ∀ j t, j < i → (tri x)[j]? = some t → tsum x l t ≤ m)
      (fun H5 e5 => ⟨Ex.refl _, ⟨b, rfl⟩, fun j t hj => absurd hj (by omega)⟩) (fun H4 i σ' Ha _ q => Xp.of_ex q.1) ?_ ?_
    · rintro H5 i d y σ' Hc Hb e5 hg ⟨q1, ⟨b, rfl⟩, q3⟩ e6 hd2
      rw [List.getElem?_map] at hg
      obtain ⟨t, ht, rfl⟩ := Option.map_eq_some_iff.mp hg
      obtain ⟨a', b', c', rfl, g1, g2, g3, g4⟩ := tri_in h1 h2 (List.mem_of_getElem? ht)
      have d1 := dp_ex ((e5.trans q1).trans e6) _ _ d1
      refine s_when (b := decide (m < tsum x l [a', b', c'])) (et_test (ev_op (EvD.int (ed_call (R := R_sum_in_triangle) (ds := [.int x, tI l, tI [a', b', c']]) (by walk_at "dl") rfl ⟨x, l, a', b', c', rfl, h1, by omega, hl.1, g1, g2, g3, g4, rfl⟩)) (ev_var rfl) rv_I0)) (fun hb H6 e7 => ?_) fun hb H6 e7 => ⟨(q1.trans e6).trans e7, ⟨_, rfl⟩, fun j t hj hy => ?_⟩
      · have hd2 := dp_ex e7 _ _ hd2
        refine d_ret (K := K) (ed_tup (eda_cons (ed_str ev_c) (eda_cons (ed_var rfl hd2) eda_nil)) (by simp)) fun v H6 e8 hv => k _ v H6 ⟨x, l, m, rfl, ?_⟩ ((((((e03.trans e4).trans p1).trans e5).trans q1).trans e6).trans (e7.trans e8)) hv
        have : ¬ need x l ≤ m := fun z => by
          have := of_decide_eq_true hb
          have := need_ge2 (l := l) (List.mem_of_getElem? ht)
          omega
        rw [decide_eq_false this]
        rfl
      · by_cases ej : j = i
        · subst ej
          rw [ht] at hy
          cases hy
          have := of_decide_eq_false hb
          omega
        · exact q3 j t (by omega) hy
    · rintro H5 σ' Hc e5 ⟨q1, ⟨b, rfl⟩, q3⟩
      rw [List.length_map] at q3
      refine d_ret (K := K) (d := .none) (ev_d ev_c .non) fun v H6 e6 hv => k _ v H6 ⟨x, l, m, rfl, ?_⟩ (((((e03.trans e4).trans p1).trans e5).trans q1).trans e6) hv
      have : need x l ≤ m := need_le h1 (fun i y hy => p3 i y (by have := (List.getElem?_eq_some_iff.mp hy).1; omega) hy) fun t ht => by
        obtain ⟨j, hj⟩ := List.mem_iff_getElem?.mp ht
        exact q3 j t (List.getElem?_eq_some_iff.mp hj).1 hj
      rw [decide_eq_true this]
      rfl

end
end K20
set_option Elab.async false
set_option linter.all false
set_option maxRecDepth 100000
set_option maxHeartbeats 4000000
namespace K20
open PySem PySem.Spec PyProof.Rows L2 Evl DL
local macro_rules | `(tactic| walk_at "dl") => `(tactic| first
  | exact ev_c | exact ev_var rfl | exact eda_nil
  | exact ed_var rfl (by assumption)
  | exact ed_int ev_c | exact ed_int (ev_var rfl)
  | (refine eda_cons ?_ ?_ <;> walk_at "dl")
  | (refine ed_int ?_; walk_at "dl")
  | (refine ev_op ?_ ?_ rv_I0 <;> walk_at "dl"))

section
variable {K : PySem.W.Frag} {σ : L2.St} {H : Hp} {ta tb te : TE} {ds : List PyData} {pss : List (List PyData)}
/-- new lists, one an argument -/
def EvLL (K : PySem.W.Frag) (ta : TA) (σ : L2.St) (H : Hp) (pss : List (List PyData)) : Prop := ∀ H1, Ex H H1 → ∀ Q : List V → Hp → Prop,
  (∀ qs H2, Ex H1 H2 → Paired (fun q ds => H1 q = none ∧ ∃ ws, H2 q = some (.lst ws) ∧ DpAll K H2 ws ds) qs pss → Q (qs.map V.ref) H2) → ta σ H1 Q
theorem ell_nil : EvLL K tNil σ H [] := fun H1 _ Q q => q [] H1 (Ex.refl _) .nil
theorem ell_cons {tr : TA} (h : EvN K te σ H ds) (hr : EvLL K tr σ H pss) : EvLL K (tCons te tr) σ H (ds :: pss) := fun H1 e Q q =>
  h H1 e _ fun p vs H2 hp e2 h2 hd => hr H2 (e.trans e2) _ fun qs H3 e3 hq => q (p :: qs) H3 (e2.trans e3) (.cons ⟨hp, vs, e3 _ _ h2, dpa_ex e3 _ _ hd⟩ (Paired.mapP hq fun a b z => ⟨fresh_back e2 z.1, z.2⟩))
/-- xs.extend(e) -/
theorem d_ext {D : Ends} {l : Addr} {xs : List V} (hl : H l = some (.lst xs)) (ha : Ev ta σ H (.ref l)) (h : EvQ K te σ H ds) (hz : xs.length + ds.length ≤ 100000) (k : ∀ zs H1, Ex H H1 → DpAll K H1 zs ds → D.nx σ (upd H1 l (.lst (xs ++ zs)))) :
    tDrop (tBM K "list" rExtend ta (tCons te tNil)) D σ H := ha H (Ex.refl H) _ fun H1 e1 =>
  ⟨Or.inl ⟨rfl, xs, sq_of (e1 l _ hl)⟩, h H1 e1 _ fun b zs H2 e2 hb hd => ⟨l, b, xs, zs, rfl, rfl, e2 l _ (e1 l _ hl), hb, sz_of (by rw [dpa_len hd]; exact hz), k zs H2 (e1.trans e2) hd⟩⟩
end
section
variable {P : Program} {w : World} {K : PySem.W.Frag} {mg : Str → Option Value} {base : Heap}
def pgs (s : Int) : List (List (Int × Int)) := if s = 2 then [[(0, 1)]] else if s = 3 then [[(0, 1)], [(0, 2)], [(1, 2)]] else [[(0, 1), (2, 3)], [(0, 2), (1, 3)], [(0, 3), (1, 2)]]
def spPg (K : PySem.W.Frag) : Sp := fun vs H Q _ => ∃ s : Int, vs = [.int s] ∧ 2 ≤ s ∧ s ≤ 4 ∧ ∀ p qs H', H p = none → Ex H H' → H' p = some (.lst (qs.map V.ref)) →
  Paired (fun q ds => H q = none ∧ ∃ ws, H' q = some (.lst ws) ∧ DpAll K H' ws ds) qs ((pgs s).map fun ps => ps.map pD) → Q (.ref p) H'
theorem ed_pr {σ : L2.St} {H : Hp} {a b : Int} : EvD K (tTup (tCons (tC (.int a)) (tCons (tC (.int b)) tNil))) σ H (pD (a, b)) := ed_tup (eda_cons (ed_int ev_c) (eda_cons (ed_int ev_c) eda_nil)) (by simp)
theorem s_pg {D : Ends} {σ : L2.St} {H : Hp} {ta : TA} {pss : List (List PyData)} (h : EvLL K ta σ H pss) (hl : pss.length ≤ 100) (k : ∀ p qs H1, H p = none → Ex H H1 → H1 p = some (.lst (qs.map V.ref)) →
    Paired (fun q ds => H q = none ∧ ∃ ws, H1 q = some (.lst ws) ∧ DpAll K H1 ws ds) qs pss → D.rt (.ref p) H1) : tRet (tLst ta) D σ H := h H (Ex.refl _) _ fun qs H1 e hq => by
  refine ⟨sz_of (by rw [List.length_map, Paired.length hq]; omega), fun p hp => k p qs _ (fresh_back e hp) (e.trans (Ex.new hp)) upd_same (Paired.mapP hq fun a b z => ⟨z.1, ?_⟩)⟩
  obtain ⟨_, ws, z1, z2⟩ := z
  exact ⟨ws, Ex.new hp _ _ z1, dpa_ex (Ex.new hp) _ _ z2⟩
abbrev s_pairings : Stmt := topS 39
abbrev N_pairings : List Str := ["sides"]
theorem sc_pairings : FnScope N_pairings ["sides"] (defScope s_pairings) := ⟨rfl, rfl, rfl, by decide +kernel, rfl, by decide +kernel, by decide +kernel⟩
theorem ok_pairings {f : Addr} {fd : FuncData} (F : Fun K "pairings" "pairings" s_pairings f fd) (T : Txt mg)
     :
    FnOk P w K mg base CX0 1 f fd ["sides"] (spPg K) := by
  refine F.ok sc_pairings (fun vs H Q E h => by obtain ⟨x, rfl, _⟩ := h; rfl) (fun cdv A outer s H vs Q E hr h => ?_)
  obtain ⟨x, rfl, h1, h2, k⟩ := h
  refine ⟨_, (pss_cons (ps_if (pt_cmpR op_eq (pv 0) pe_int (nomark _)) (pss_one (ps_ret (pe_lst (pa_cons (pe_lst (pa_cons (pe_tup (pa_cons pe_int (pa_cons pe_int pa_nil))) pa_nil)) pa_nil)))) pss_nil)
      (pss_cons (ps_if (pt_cmpR op_eq (pv 0) pe_int (nomark _)) (pss_one (ps_ret (pe_lst (pa_cons (pe_lst (pa_cons (pe_tup (pa_cons pe_int (pa_cons pe_int pa_nil))) pa_nil)) (pa_cons (pe_lst (pa_cons (pe_tup (pa_cons pe_int (pa_cons pe_int pa_nil))) pa_nil)) (pa_cons (pe_lst (pa_cons (pe_tup (pa_cons pe_int (pa_cons pe_int pa_nil))) pa_nil)) pa_nil)))))) pss_nil)
      (pss_one (ps_ret (pe_lst (pa_cons (pe_lst (pa_cons (pe_tup (pa_cons pe_int (pa_cons pe_int pa_nil))) (pa_cons (pe_tup (pa_cons pe_int (pa_cons pe_int pa_nil))) pa_nil))) (pa_cons (pe_lst (pa_cons (pe_tup (pa_cons pe_int (pa_cons pe_int pa_nil))) (pa_cons (pe_tup (pa_cons pe_int (pa_cons pe_int pa_nil))) pa_nil))) (pa_cons (pe_lst (pa_cons (pe_tup (pa_cons pe_int (pa_cons pe_int pa_nil))) (pa_cons (pe_tup (pa_cons pe_int (pa_cons pe_int pa_nil))) pa_nil))) pa_nil)))))))), ?_⟩
  refine q_when (b := decide (x = 2)) (et_test (ev_is (ev_op (ev_var rfl) ev_c (rv_eq rfl)) (congrArg V.bl (decide_vint _ _)))) (fun hb H1 e1 => ?_) fun hb H1 e1 => ?_
  · obtain rfl := of_decide_eq_true hb
    exact s_pg (K := K) (pss := [[pD (0, 1)]]) (ell_cons (en_lst (eda_cons ed_pr eda_nil) (by simp)) ell_nil) (by simp) fun p qs H2 hp e2 h2' hq => k p qs H2 (fresh_back e1 hp) (e1.trans e2) h2' (Paired.mapP hq fun a b z => ⟨fresh_back e1 z.1, z.2⟩)
  · have n2 : ¬ x = 2 := of_decide_eq_false hb
    refine q_when (b := decide (x = 3)) (et_test (ev_is (ev_op (ev_var rfl) ev_c (rv_eq rfl)) (congrArg V.bl (decide_vint _ _)))) (fun hb H2 e2 => ?_) fun hb H2 e2 => ?_
    · obtain rfl := of_decide_eq_true hb
      exact s_pg (K := K) (pss := [[pD (0, 1)], [pD (0, 2)], [pD (1, 2)]]) (ell_cons (en_lst (eda_cons ed_pr eda_nil) (by simp)) (ell_cons (en_lst (eda_cons ed_pr eda_nil) (by simp)) (ell_cons (en_lst (eda_cons ed_pr eda_nil) (by simp)) ell_nil))) (by simp) fun p qs H3 hp e3 h3' hq =>
        k p qs H3 (fresh_back (e1.trans e2) hp) ((e1.trans e2).trans e3) h3' (Paired.mapP hq fun a b z => ⟨fresh_back (e1.trans e2) z.1, z.2⟩)
    · have n3 : ¬ x = 3 := of_decide_eq_false hb
      obtain rfl : x = 4 := by omega
      exact s_pg (K := K) (pss := [[pD (0, 1), pD (2, 3)], [pD (0, 2), pD (1, 3)], [pD (0, 3), pD (1, 2)]]) (ell_cons (en_lst (eda_cons ed_pr (eda_cons ed_pr eda_nil)) (by simp)) (ell_cons (en_lst (eda_cons ed_pr (eda_cons ed_pr eda_nil)) (by simp)) (ell_cons (en_lst (eda_cons ed_pr (eda_cons ed_pr eda_nil)) (by simp)) ell_nil))) (by simp) fun p qs H3 hp e3 h3' hq =>
        k p qs H3 (fresh_back (e1.trans e2) hp) ((e1.trans e2).trans e3) h3' (Paired.mapP hq fun a b z => ⟨fresh_back (e1.trans e2) z.1, z.2⟩)

def tst (s k : Int) (acc : List Int) (q : (Int × Int) × Int) : List Int := if k < q.2 then acc.set (plc s q.1.1 q.1.2).toNat (acc.getD (plc s q.1.1 q.1.2).toNat 0 + 1) else acc
def trk (s : Int) (ps : List (Int × Int)) (left : List Int) (k : Int) : List Int := (ps.zip left).foldl (tst s k) (zer s)
def lfs (s : Int) (l : List Int) (ps : List (Int × Int)) : List Int := ps.map fun p => at2 s l p.1 p.2
def tks (s : Int) (l : List Int) (ps : List (Int × Int)) : List (List Int) := (List.range (mxl (lfs s l ps)).toNat).map fun (k : Nat) => trk s ps (lfs s l ps) (k : Int)
def R_tracks_of (ds : List PyData) (r : List PyData) : Prop := ∃ (s : Int) (l : List Int) (ps : List (Int × Int)), ds = [.int s, tI l, .list (ps.map pD)] ∧ 2 ≤ s ∧ s ≤ 5 ∧ Ld s l ∧ 0 < ps.length ∧ ps.length ≤ 10 ∧ (∀ p ∈ ps, 0 ≤ p.1 ∧ p.1 < p.2 ∧ p.2 < s) ∧ r = (tks s l ps).map tI
theorem at2_bd {s : Int} {l : List Int} {a b : Int} (h1 : 2 ≤ s) (h2 : s ≤ 5) (hl : Ld s l) (ha : 0 ≤ a) (hb : a < b) (hs : b < s) : 0 ≤ at2 s l a b ∧ at2 s l a b ≤ 99 := by
  obtain ⟨q1, q2⟩ := plc_ok h1 h2 ha hb hs
  rw [← hl.1] at q2
  rw [at2, List.getD_eq_getElem?_getD, List.getElem?_eq_getElem q2]
  exact hl.2 _ (List.getElem_mem q2)
theorem tst_len (s k : Int) (acc : List Int) (q : (Int × Int) × Int) : (tst s k acc q).length = acc.length := by
  unfold tst
  split
  · rw [List.length_set]
  · rfl
theorem tsts_len (s k : Int) : ∀ (qs : List ((Int × Int) × Int)) (acc : List Int), (qs.foldl (tst s k) acc).length = acc.length
  | [], _ => rfl
  | q :: qs, acc => by rw [List.foldl_cons, tsts_len s k qs, tst_len]
abbrev s_tracks_of : Stmt := topS 40
abbrev N_tracks_of : List Str := ["sides", "load", "pairs", "side", "far", "left", "found", "k", "track", "number"]
theorem sc_tracks_of : FnScope N_tracks_of ["sides", "load", "pairs"] (defScope s_tracks_of) := ⟨rfl, rfl, rfl, by decide +kernel, rfl, by decide +kernel, by decide +kernel⟩
theorem ok_tracks_of {f : Addr} {fd : FuncData} (F : Fun K "tracks_of" "tracks_of" s_tracks_of f fd) (T : Txt mg)
    (D_no_wires : DF P w K mg base "no_wires" 2 ["sides"] (spD K 1 R_no_wires)) (D_pair_place : DF P w K mg base "pair_place" 1 ["sides", "side", "far"] (spD K 3 R_pair_place)) (D_raised : DF P w K mg base "raised" 1 ["load", "place", "by"] (spD K 3 R_raised)) :
    FnOk P w K mg base CX0 3 f fd ["sides", "load", "pairs"] (spN K 3 R_tracks_of) := by
  refine F.ok sc_tracks_of (fun vs H Q E h => spN_len h) (fun cdv A outer s H vs Q E hr h => ?_)
  obtain ⟨ds, r, hd, _, ⟨x, l, ps, rfl, h1, h2, hl, h3, h4, h5, rfl⟩, k⟩ := h
  obtain ⟨v0, v1, v2, rfl, d0, d1, d2⟩ := dpa_three hd
  cases dp_int d0
  have np10 := np_le h1 h2
  refine ⟨_, (pss_cons (ps_setLc (i := 5) (own := [("side", 3), ("far", 4)]) (g := (gTup K 2 (gCons (gName 3) (gCons (gName 4) gNil)))) (tt := tYes) rfl sc_tracks_of.nd rfl rfl (sw_true rfl rfl rfl (by decide +kernel)) (pi_list (pv 2)) (blkOk_by (N := N_tracks_of) (sc := defScope s_tracks_of) (by decide +kernel)) (fun _ _ _ _ _ => (pg_tup rfl (pgs_cons (pg_name (i := 3) sc_tracks_of.nd rfl (Or.inl rfl)) (pgs_cons (pg_name (i := 4) sc_tracks_of.nd rfl (Or.inl rfl)) pgs_nil)))) (fun _ _ _ _ _ => pts_nil) (fun _ _ _ _ _ => (pe_ix (ix_tupK K rfl) (pv 1) (pe_D D_pair_place (hr.mono (by decide)) (by rfl) (pa_cons (pv 0) (pa_cons (pv 3) (pa_cons (pv 4) pa_nil)))) (fun _ _ => rfl))))
      (pss_cons (ps_set (i := 6) sc_tracks_of.nd rfl (.inl rfl) (pe_lst pa_nil))
      (pss_cons (ps_for PassesOwn.never rfl (pi_range1 (by rfl) T.b_range (pa_cons (pe_callB (cr_max rfl) (by rfl) T.b_max (by decide +kernel) (pa_cons (pv 5) pa_nil)) pa_nil)) (pg_name (i := 7) sc_tracks_of.nd rfl (Or.inl rfl)) (pss_cons (ps_set (i := 8) sc_tracks_of.nd rfl (.inl rfl) (pe_D D_no_wires (hr.mono (by decide)) (by rfl) (pa_cons (pv 0) pa_nil)))
      (pss_cons (ps_for PassesOwn.never rfl (pi_zipM false false (by rfl) T.b_zip (pa_cons (pv 2) (pa_cons (pv 5) pa_nil))) (pg_tup rfl (pgs_cons (pg_tup rfl (pgs_cons (pg_name (i := 3) sc_tracks_of.nd rfl (Or.inl rfl)) (pgs_cons (pg_name (i := 4) sc_tracks_of.nd rfl (Or.inl rfl)) pgs_nil))) (pgs_cons (pg_name (i := 9) sc_tracks_of.nd rfl (Or.inl rfl)) pgs_nil))) (pss_one (ps_if (pt_cmpR op_lt (pv 7) (pv 9) (nomark _)) (pss_one (ps_set (i := 8) sc_tracks_of.nd rfl (.inl rfl) (pe_D D_raised (hr.mono (by decide)) (by rfl) (pa_cons (pv 8) (pa_cons (pe_D D_pair_place (hr.mono (by decide)) (by rfl) (pa_cons (pv 0) (pa_cons (pv 3) (pa_cons (pv 4) pa_nil)))) (pa_cons pe_int pa_nil)))))) pss_nil)))
      (pss_one (ps_expr (pe_bm PySem.F.plainAttrs_list PySem.F.slot_list_append PySem.F.type_list_append mt_append (pv 6) (pa_cons (pv 8) pa_nil)))))))
      (pss_one (ps_ret (pv 6)))))), ?_⟩
  refine qn_asg (K := K) (ds := dI (lfs x l ps)) (en_is (en_lc (ei_lstD (ds := ps.map pD) (ed_var rfl d2) (immAll_map (fun _ => imm_tI _) _)) (by rw [List.length_map]; omega) (fun i => .int ((lfs x l ps).getD i 0)) (fun _ _ => by simp [imm]) fun H2 i d y Hb Q' e2 hg e3 hd2 k2 => ?_) ?_) fun lf vs H1 hlf e1 h1' hd1 => ?_
  · rw [List.getElem?_map] at hg
    obtain ⟨p, hp, rfl⟩ := Option.map_eq_some_iff.mp hg
    obtain ⟨g1, g2, g3⟩ := h5 p (List.mem_of_getElem? hp)
    refine g_two hd2 fun w1 w2 u1 u2 => ?_
    cases dp_int u1
    cases dp_int u2
    have d1' := dp_ex (e2.trans e3) _ _ d1
    refine k2 _ Hb (Ex.refl _) rfl (ed_is (ed_int (ed_at2 (s := x) (a := p.1) (b := p.2) (ed_var rfl d1') (EvD.int (ed_call (R := R_pair_place) (ds := [.int x, .int p.1, .int p.2]) (by walk_at "dl") rfl ⟨x, _, _, rfl, ⟨g1, by omega⟩, rfl⟩)) h1 h2 hl.1 g1 g2 g3)) ?_)
    rw [lfs, List.getD_eq_getElem?_getD, List.getElem?_map, hp]
    rfl
  · show _ = (lfs x l ps).map PyData.int
    rw [List.length_map]
    apply List.ext_getElem?
    intro i
    rw [List.getElem?_map, List.getElem?_map]
    have ll : (lfs x l ps).length = ps.length := by rw [lfs, List.length_map]
    by_cases hi : i < ps.length
    · rw [List.getElem?_range hi, List.getElem?_eq_getElem (by omega)]
      simp [List.getD_eq_getElem?_getD, ll, hi]
    · rw [List.getElem?_eq_none (by simpa using hi), List.getElem?_eq_none (by omega)]
      rfl
  · obtain rfl := dpa_ints hd1
    have d1 := dp_ex e1 _ _ d1
    have d2 := dp_ex e1 _ _ d2
    refine qn_asg (K := K) (en_lst eda_nil (by simp)) fun p vs H2 hp e2 h2' hd2 => ?_
    cases hd2
    have d1 := dp_ex e2 _ _ d1
    have hlf2 := e2 _ _ h1'
    have plf : lf ≠ p := ne_of_none h1' hp
    cases d2 with
    | @lst q vq _ hsq haq =>
    have haq2 := dpa_ex e2 _ _ haq
    have ll : (lfs x l ps).length = ps.length := by rw [lfs, List.length_map]
    have l0 : 0 < (lfs x l ps).length := by omega
    have bd : ∀ y ∈ lfs x l ps, 0 ≤ y ∧ y ≤ 99 := fun y hy => by
      obtain ⟨pp, hpp, rfl⟩ := List.mem_map.mp hy
      obtain ⟨g1, g2, g3⟩ := h5 pp hpp
      exact at2_bd h1 h2 hl g1 g2 g3
    have bm := bd _ (mxl_mem l0)
    have imp : immAll (ps.map pD) = true := immAll_map (fun _ => imm_tI _) _
    refine e_for (K := K) (S := [p]) (ei_rng1 (n := mxl (lfs x l ps)) (eda_cons (ed_int (ev_maxL (EvQ.toD (eq_var rfl hlf2 (ints_dpa _))) l0 (mxl_mem l0) fun y hy => mxl_ge hy)) eda_nil) (by omega))
      (fun H3 i σ' Ha => Xp [p] H3 Ha ∧ (∃ ws, Ha p = some (.lst ws) ∧ DpAll K Ha ws (((List.range i).map fun (k : Nat) => trk x ps (lfs x l ps) (k : Int)).map tI)) ∧ ∃ a b c d e, σ' = [some (.int x), some v1, some (.ref q), a, b, some (.ref lf), some (.ref p), c, d, e])
      (fun H3 e3 => ⟨Xp.refl _ _, ⟨[], e3 _ _ h2', by simp; exact .nil⟩, _, _, _, _, _, rfl⟩) (fun H3 i σ' Ha _ q => q.1) ?_ ?_
    · rintro H3 i d y σ' Ha Hb e3 hg ⟨p1, ⟨ws, p2, p3⟩, a, b, c, d', e', rfl⟩ e4 hd3
      have hlt : i < (mxl (lfs x l ps)).toNat := by have := (List.getElem?_eq_some_iff.mp hg).1; simpa using this
      rw [rng_get hlt] at hg
      cases hg
      cases hd3
      have ls3 : Ls H3 [p] := Ls.one (e3 _ _ h2')
      have tx3 : Tx H2 Hb := ((Tx.of_ex e3).trans (p1.tx ls3)).trans (Tx.of_ex e4)
      refine qd_asg (K := K) (d := tI (zer x)) (ed_call (R := R_no_wires) (ds := [.int x]) (by walk_at "dl") rfl ⟨x, rfl, h1, h2, rfl⟩) fun w0 H4 e5 u0 => ?_
      have sqq : SqL K H4 q vq := ex_l (e4.trans e5) (sqL_xp hsq hp (e2.trans e3) p1)
      have tx4 := tx3.trans (Tx.of_ex e5)
      have dq : Dp K H4 (.ref q) (.list (ps.map pD)) := .lst sqq (dpa_tx tx4 _ _ imp haq2)
      have lf4 : H4 lf = some (.lst ((lfs x l ps).map V.int)) := e5 _ _ (e4 _ _ (p1 _ _ (e3 _ _ hlf2) (by simpa using plf)))
      have d1 := dp_tx tx4 _ _ (imm_tI _) d1
      refine e_for (ei_zipLL (ds := ps.map pD) (es := dI (lfs x l ps)) (ed_var rfl dq) (EvQ.toD (eq_var rfl lf4 (ints_dpa _))) imp (immAll_dI _))
        (fun H5 j σ' Hc => Ex H5 Hc ∧ ∃ wt a b e, Dp K Hc wt (tI (((ps.zip (lfs x l ps)).take j).foldl (tst x (i : Int)) (zer x))) ∧ σ' = [some (.int x), some v1, some (.ref q), a, b, some (.ref lf), some (.ref p), some (.int (i : Int)), some wt, e])
        (fun H5 e6 => ⟨Ex.refl _, w0, _, _, _, by simpa using dp_ex e6 _ _ u0, rfl⟩) (fun H5 i σ' Ha _ q => Xp.of_ex q.1) ?_ ?_
      · rintro H5 j d y σ' Hc Hd e6 hg ⟨q1, wt, a, b, e, q2, rfl⟩ e7 hd4
        rw [List.getElem?_zipWith, List.getElem?_map, List.getElem?_map] at hg
        cases g1 : ps[j]? with
        | none => rw [g1] at hg; simp at hg
        | some pp =>
          cases g2 : (lfs x l ps)[j]? with
          | none => rw [g1, g2] at hg; simp at hg
          | some n =>
            rw [g1, g2] at hg
            have hg : PyData.tuple [pD pp, .int n] = d := by simpa using hg
            subst hg
            obtain ⟨z1, z2, z3⟩ := h5 pp (List.mem_of_getElem? g1)
            refine g_two hd4 fun w1 w2 u1 u2 => g_two u1 fun w3 w4 u3 u4 => ?_
            cases dp_int u2
            cases dp_int u3
            cases dp_int u4
            obtain ⟨y1, y2⟩ := plc_ok h1 h2 z1 z2 z3
            have q2 := dp_ex e7 _ _ q2
            have ln : (((ps.zip (lfs x l ps)).take j).foldl (tst x (i : Int)) (zer x)).length = np x := by rw [tsts_len]; simp [zer]
            have tk : (ps.zip (lfs x l ps)).take (j + 1) = (ps.zip (lfs x l ps)).take j ++ [(pp, n)] := by
              rw [List.take_add_one, show (ps.zip (lfs x l ps))[j]? = some (pp, n) by rw [List.getElem?_zip_eq_some]; exact ⟨g1, g2⟩]
              rfl
            refine s_when (b := decide ((i : Int) < n)) (et_test (ev_op (ev_var rfl) (ev_var rfl) rv_I0)) (fun hb H6 e8 => ?_) fun hb H6 e8 => ?_
            · have q2 := dp_ex e8 _ _ q2
              have hp3 : EvD K (tCall (spD K 3 R_pair_place) [] E0 (tCons (tVar 0) (tCons (tVar 3) (tCons (tVar 4) tNil)))) [some (.int x), some v1, some (.ref q), some (.int pp.1), some (.int pp.2), some (.ref lf), some (.ref p), some (.int (i : Int)), some wt, some (.int n)] H6 (.int (((plc x pp.1 pp.2).toNat : Nat) : Int)) :=
                ed_is (ed_call (R := R_pair_place) (ds := [.int x, .int pp.1, .int pp.2]) (by walk_at "dl") rfl ⟨x, _, _, rfl, ⟨z1, by omega⟩, rfl⟩) (by rw [Int.toNat_of_nonneg y1])
              refine d_asg (K := K) (d := tI (tst x (i : Int) (((ps.zip (lfs x l ps)).take j).foldl (tst x (i : Int)) (zer x)) (pp, n))) (ed_call (R := R_raised) (ds := [tI (((ps.zip (lfs x l ps)).take j).foldl (tst x (i : Int)) (zer x)), .int (((plc x pp.1 pp.2).toNat : Nat) : Int), .int 1]) (eda_cons (ed_var rfl q2) (eda_cons hp3 (eda_cons (ed_int ev_c) eda_nil))) rfl ⟨_, _, _, rfl, by omega, by omega, ?_⟩) fun v H7 e9 hv => ?_
              · rw [tst, if_pos (show (i : Int) < n from of_decide_eq_true hb)]
              · refine ⟨((q1.trans e7).trans e8).trans e9, v, _, _, _, ?_, rfl⟩
                rw [tk, List.foldl_append]
                exact hv
            · refine ⟨(q1.trans e7).trans e8, wt, _, _, _, ?_, rfl⟩
              rw [tk, List.foldl_append, List.foldl_cons, List.foldl_nil, tst, if_neg (show ¬ (i : Int) < n from of_decide_eq_false hb)]
              exact dp_ex e8 _ _ q2
      · rintro H5 σ' Hc e6 ⟨q1, wt, a, b, e, q2, rfl⟩
        rw [List.length_zipWith, List.length_map, List.length_map, List.take_of_length_le (by rw [List.length_zip]; omega)] at q2
        have atc := q1 _ _ (e6 _ _ (e5 _ _ (e4 _ _ p2)))
        have l3 := dpa_len p3
        rw [List.length_map, List.length_map, List.length_range] at l3
        refine d_app (K := K) (d := tI (trk x ps (lfs x l ps) (i : Int))) atc (ev_var rfl) (ed_var rfl q2) (by omega) fun v H6 e7 hv => ?_
        have at6 := e7 _ _ atc
        refine ⟨Xp.upd ((((p1.then e4).then e5).then (e6.trans q1)).then e7) (by simp), ⟨_, upd_same, ?_⟩, _, _, _, _, _, rfl⟩
        rw [List.range_succ, List.map_append, List.map_append]
        exact dpa_app (dpa_tx (Tx.lst at6) _ _ (immAll_tI _) (dpa_ex ((e4.trans e5).trans ((e6.trans q1).trans e7)) _ _ p3)) (.cons (dp_tx (Tx.lst at6) _ _ (imm_tI _) hv) .nil)
    · rintro H3 σ' Ha e3 ⟨p1, ⟨ws, p2, p3⟩, a, b, c, d', e', rfl⟩
      rw [List.length_map, List.length_range] at p3
      have e0 : Ex H Ha := xp_fresh (((e1.trans e2)).trans e3) p1 (fresh_back e1 hp)
      exact ⟨.ref p, rfl, k p ws Ha (fresh_back e1 hp) e0 p2 p3⟩

end
end K20
set_option Elab.async false
set_option linter.all false
set_option maxRecDepth 100000
set_option maxHeartbeats 4000000
namespace K20
open PySem PySem.Spec PyProof.Rows L2 Evl DL
local macro_rules | `(tactic| walk_at "dl") => `(tactic| first
  | exact ev_c | exact ev_var rfl | exact eda_nil
  | exact ed_var rfl (by assumption)
  | exact ed_int ev_c | exact ed_int (ev_var rfl)
  | (refine eda_cons ?_ ?_ <;> walk_at "dl")
  | (refine ed_int ?_; walk_at "dl")
  | (refine ev_op ?_ ?_ rv_I0 <;> walk_at "dl"))

section
variable {P : Program} {w : World} {K : PySem.W.Frag} {mg : Str → Option Value} {base : Heap}
def psl (s : Int) (l : List Int) : List (List Int) := (pgs s).flatMap (tks s l)
def R_plain_split (ds : List PyData) (r : PyData) : Prop := ∃ (s : Int) (l : List Int) (m : Int), ds = [.int s, tI l, .int m] ∧ 2 ≤ s ∧ s ≤ 4 ∧ Ld s l ∧ 0 ≤ m ∧ m ≤ 99 ∧
  r = if ((psl s l).length : Int) ≤ m then .list ((psl s l ++ List.replicate (m - ((psl s l).length : Int)).toNat (zer s)).map tI) else .none
theorem paired_get {α β : Type} {F : α → β → Prop} : ∀ {l : List α} {m : List β} {i : Nat} {a : α}, Paired F l m → l[i]? = some a → ∃ b, m[i]? = some b ∧ F a b
  | _, _, i, _, .nil, e => by simp at e
  | _, _, 0, _, .cons h _, e => ⟨_, rfl, by simp at e; subst e; exact h⟩
  | _, _, i + 1, _, .cons _ t, e => by
    obtain ⟨b, h1, h2⟩ := paired_get (i := i) t (by simpa using e)
    exact ⟨b, by simpa using h1, h2⟩
theorem pgs_in {s : Int} (h1 : 2 ≤ s) (h2 : s ≤ 4) : (pgs s).length ≤ 3 ∧ ∀ ps ∈ pgs s, 0 < ps.length ∧ ps.length ≤ 10 ∧ ∀ p ∈ ps, 0 ≤ p.1 ∧ p.1 < p.2 ∧ p.2 < s := by
  have hs' : s = 2 ∨ s = 3 ∨ s = 4 := by omega
  rcases hs' with rfl | rfl | rfl <;> decide
theorem tks_len {s : Int} {l : List Int} (h1 : 2 ≤ s) (h2 : s ≤ 5) (hl : Ld s l) {ps : List (Int × Int)} (h3 : 0 < ps.length) (h5 : ∀ p ∈ ps, 0 ≤ p.1 ∧ p.1 < p.2 ∧ p.2 < s) : (tks s l ps).length ≤ 99 := by
  have l0 : 0 < (lfs s l ps).length := by rw [lfs, List.length_map]; exact h3
  obtain ⟨pp, hpp, e⟩ := List.mem_map.mp (mxl_mem l0)
  obtain ⟨g1, g2, g3⟩ := h5 pp hpp
  have := at2_bd h1 h2 hl g1 g2 g3
  rw [tks, List.length_map, List.length_range]
  have e' : at2 s l pp.1 pp.2 = mxl (lfs s l ps) := e
  omega
theorem psl_take {s : Int} {l : List Int} (h1 : 2 ≤ s) (h2 : s ≤ 4) (hl : Ld s l) : ∀ n, (((pgs s).take n).flatMap (tks s l)).length ≤ 99 * n
  | 0 => by simp
  | n + 1 => by
    have ih := psl_take h1 h2 hl n
    rw [List.take_add_one, List.flatMap_append, List.length_append]
    cases g : (pgs s)[n]? with
    | none =>
      show _ + 0 ≤ _
      omega
    | some ps =>
      obtain ⟨q1, q2, q3⟩ := (pgs_in h1 h2).2 ps (List.mem_of_getElem? g)
      have := tks_len h1 (by omega) hl q1 q3
      rw [Option.toList_some, List.flatMap_cons, List.flatMap_nil, List.append_nil]
      omega
abbrev s_plain_split : Stmt := topS 41
abbrev N_plain_split : List Str := ["sides", "load", "room", "found", "pairs"]
theorem sc_plain_split : FnScope N_plain_split ["sides", "load", "room"] (defScope s_plain_split) := ⟨rfl, rfl, rfl, by decide +kernel, rfl, by decide +kernel, by decide +kernel⟩
theorem ok_plain_split {f : Addr} {fd : FuncData} (F : Fun K "plain_split" "plain_split" s_plain_split f fd) (T : Txt mg)
    (D_check_plain_load : DF P w K mg base "check_plain_load" 4 ["sides", "load"] (spD K 2 R_check_plain_load)) (D_check_room : DF P w K mg base "check_room" 3 ["room"] (spD K 1 R_check_room)) (D_no_wires : DF P w K mg base "no_wires" 2 ["sides"] (spD K 1 R_no_wires)) (D_pairings : DF P w K mg base "pairings" 1 ["sides"] (spPg K)) (D_tracks_of : DF P w K mg base "tracks_of" 3 ["sides", "load", "pairs"] (spN K 3 R_tracks_of)) :
    FnOk P w K mg base CX0 5 f fd ["sides", "load", "room"] (spD K 3 R_plain_split) := by
  refine F.ok sc_plain_split (fun vs H Q E h => spD_len h) (fun cdv A outer s H vs Q E hr h => ?_)
  obtain ⟨ds, r, hd, _, ⟨x, l, m, rfl, h1, h2, hl, h3, h4, rfl⟩, k⟩ := h
  obtain ⟨v0, v1, v2, rfl, d0, d1, d2⟩ := dpa_three hd
  cases dp_int d0
  cases dp_int d2
  refine ⟨_, (pss_cons (ps_expr (pe_D D_check_plain_load (hr.mono (by decide)) (by rfl) (pa_cons (pv 0) (pa_cons (pv 1) pa_nil))))
      (pss_cons (ps_expr (pe_D D_check_room (hr.mono (by decide)) (by rfl) (pa_cons (pv 2) pa_nil)))
      (pss_cons (ps_set (i := 3) sc_plain_split.nd rfl (.inl rfl) (pe_lst pa_nil))
      (pss_cons (ps_for PassesOwn.never rfl (pi_list (pe_D D_pairings (hr.mono (by decide)) (by rfl) (pa_cons (pv 0) pa_nil))) (pg_name (i := 4) sc_plain_split.nd rfl (Or.inl rfl)) (pss_one (ps_expr (pe_bm PySem.F.plainAttrs_list PySem.F.slot_list_extend PySem.F.type_list_extend mt_extend (pv 3) (pa_cons (pe_D D_tracks_of (hr.mono (by decide)) (by rfl) (pa_cons (pv 0) (pa_cons (pv 1) (pa_cons (pv 4) pa_nil)))) pa_nil)))))
      (pss_cons (ps_if (pt_cmpR op_gt (pe_callB call_len_seq (by rfl) T.b_len PySem.boot_len (pa_cons (pv 3) pa_nil)) (pv 2) (nomark _)) (pss_one (ps_ret pe_non)) pss_nil)
      (pss_one (ps_ret (pe_op op_cat (pv 3) (pe_op op_rep (pe_lst (pa_cons (pe_D D_no_wires (hr.mono (by decide)) (by rfl) (pa_cons (pv 0) pa_nil)) pa_nil)) (pe_op op_sub (pv 2) (pe_callB call_len_seq (by rfl) T.b_len PySem.boot_len (pa_cons (pv 3) pa_nil)))))))))))), ?_⟩
  refine (qd_drop (K := K) (d := .none) (ed_call (R := R_check_plain_load) (ds := [.int x, tI l]) (by walk_at "dl") rfl ⟨x, l, rfl, h1, h2, hl, rfl⟩) fun H1 e1 => ?_)
  refine (qd_drop (K := K) (d := .none) (ed_call (R := R_check_room) (ds := [.int m]) (by walk_at "dl") rfl ⟨m, rfl, h3, h4, rfl⟩) fun H2 e2 => ?_)
  refine qn_asg (K := K) (en_lst eda_nil (by simp)) fun p vs H3 hp e3 h3' hd3 => ?_
  cases hd3
  have d1 := dp_ex ((e1.trans e2).trans e3) _ _ d1
  obtain ⟨pl3, pin⟩ := pgs_in h1 h2
  show tFor _ _ _ _ _ H3
  refine ⟨.int x, rfl, x, rfl, h1, h2, fun pg qs H4 hpg e4 h4' hq => ⟨pg, rfl, ⟨_, sq_of h4'⟩, ?_⟩⟩
  have h3'' := e4 _ _ h3'
  have ppg : pg ≠ p := (ne_of_none h3' hpg).symm
  have lq := Paired.length hq
  rw [List.length_map] at lq
  refine for_list (xs := qs.map V.ref) (fun i σ' Ha => Xp [p] H4 Ha ∧ (∃ ws, Ha p = some (.lst ws) ∧ DpAll K Ha ws ((((pgs x).take i).flatMap (tks x l)).map tI)) ∧ ∃ a, σ' = [some (.int x), some v1, some (.int m), some (.ref p), a])
    ⟨Xp.refl _ _, ⟨[], h3'', by simp; exact .nil⟩, none, rfl⟩ (fun i σ' Ha _ z => sq_of (z.1 _ _ h4' (by simpa using ppg))) ?_ ?_
  · rintro i y σ' Ha hy ⟨p1, ⟨ws, p2, p3⟩, a, rfl⟩
    rw [List.getElem?_map] at hy
    obtain ⟨q, hqi, rfl⟩ := Option.map_eq_some_iff.mp hy
    obtain ⟨b, hb, hqn, wq, hq1, hq2⟩ := paired_get hq hqi
    rw [List.getElem?_map] at hb
    obtain ⟨ps, hps, rfl⟩ := Option.map_eq_some_iff.mp hb
    obtain ⟨z1, z2, z3⟩ := pin ps (List.mem_of_getElem? hps)
    have qp : q ≠ p := (ne_of_none h3' hqn).symm
    have hqa : Ha q = some (.lst wq) := p1 _ _ hq1 (by simpa using qp)
    have tx : Tx H4 Ha := p1.tx (Ls.one h3'')
    have dq : Dp K Ha (.ref q) (.list (ps.map pD)) := .lst (sq_of hqa) (dpa_tx tx _ _ (immAll_map (fun _ => imm_tI _) _) hq2)
    have d1 := dp_tx ((Tx.of_ex e4).trans tx) _ _ (imm_tI _) d1
    have tl := tks_len h1 (by omega) hl z1 z3
    have pt := psl_take h1 h2 hl i
    have il : i < (pgs x).length := (List.getElem?_eq_some_iff.mp hps).1
    have lw := dpa_len p3
    rw [List.length_map] at lw
    refine d_ext (K := K) (ds := (tks x l ps).map tI) p2 (ev_var rfl) (EvN.toQ (en_call (R := R_tracks_of) (ds := [.int x, tI l, .list (ps.map pD)]) (eda_cons (ed_int (ev_var rfl)) (eda_cons (ed_var rfl d1) (eda_cons (ed_var rfl dq) eda_nil))) rfl ⟨x, l, ps, rfl, h1, by omega, hl, z1, z2, z3, rfl⟩)) (by rw [List.length_map]; omega) fun zs H5 e5 hz => ?_
    have at5 := e5 _ _ p2
    refine ⟨Xp.upd (p1.then e5) (by simp), ⟨_, upd_same, ?_⟩, _, rfl⟩
    rw [List.take_add_one, hps, List.flatMap_append, List.map_append]
    refine dpa_app (dpa_tx (Tx.lst at5) _ _ (immAll_tI _) (dpa_ex e5 _ _ p3)) ?_
    simpa using dpa_tx (Tx.lst at5) _ _ (immAll_tI _) hz
  · rintro σ' Ha ⟨p1, ⟨ws, p2, p3⟩, a, rfl⟩
    rw [List.length_map, lq, List.take_length] at p3
    have p3 : DpAll K Ha ws ((psl x l).map tI) := p3
    have e0 : Ex H Ha := xp_fresh (((e1.trans e2).trans e3).trans e4) p1 (fresh_back (e1.trans e2) hp)
    have pt := psl_take h1 h2 hl (pgs x).length
    rw [List.take_length] at pt
    have pt : (psl x l).length ≤ 99 * (pgs x).length := pt
    refine q_when (b := decide (m < ((psl x l).length : Int))) (et_test (ev_op (ev_is (ev_lenL (EvQ.toD (eq_var rfl p2 p3))) (by rw [List.length_map])) (ev_var rfl) rv_I0)) (fun hb H5 e5 => ?_) fun hb H5 e5 => ?_
    · have := of_decide_eq_true hb
      rw [if_neg (by omega)] at k
      exact d_ret (K := K) (d := .none) (ev_d ev_c .non) fun v H6 e6 hv => k v H6 ((e0.trans e5).trans e6) hv
    · have := of_decide_eq_false hb
      rw [if_pos (by omega)] at k
      have p2 := e5 _ _ p2
      have p3 := dpa_ex e5 _ _ p3
      refine d_ret (K := K) (ed_is (EvN.toD (en_cat (eq_var rfl p2 p3) (EvN.toQ (en_rep (d := tI (zer x)) (n := m - ((psl x l).length : Int)) (EvN.toQ (en_lst (eda_cons (ed_call (R := R_no_wires) (ds := [.int x]) (by walk_at "dl") rfl ⟨x, rfl, h1, by omega, rfl⟩) eda_nil) (by simp))) (ev_op (ev_var rfl) (ev_is (ev_lenL (EvQ.toD (eq_var rfl p2 p3))) (by rw [List.length_map])) rv_I0) (by omega) (by omega))) ?_)) ?_) fun v H6 e6 hv => k v H6 ((e0.trans e5).trans e6) hv
      · rw [List.length_map, List.length_replicate]
        omega
      · rw [List.map_append, List.map_replicate]

end
end K20
set_option Elab.async false
set_option linter.all false
set_option maxRecDepth 100000
set_option maxHeartbeats 4000000
namespace K20
open PySem PySem.Spec PyProof.Rows L2 Evl DL
local macro_rules | `(tactic| walk_at "dl") => `(tactic| first
  | exact ev_c | exact ev_var rfl | exact eda_nil
  | exact ed_var rfl (by assumption)
  | exact ed_int ev_c | exact ed_int (ev_var rfl)
  | (refine eda_cons ?_ ?_ <;> walk_at "dl")
  | (refine ed_int ?_; walk_at "dl")
  | (refine ev_op ?_ ?_ rv_I0 <;> walk_at "dl"))

section
variable {K : PySem.W.Frag} {σ : L2.St} {H : Hp} {ta tb te : TE} {d : PyData}
/-- xs.append((e, x)) -/
theorem app_pair {D : Ends} {l : Addr} {xs : List V} {v : V} {i k : Nat} (hl : H l = some (.lst xs)) (ha : σ[i]? = some (some (.ref l))) (h : EvD K te σ H d) (hv : σ[k]? = some (some v)) (hz : xs.length < 100000)
    (q : ∀ T a H1, Ex H H1 → H T = none → H1 T = some (.tup [a, v]) → Dp K H1 a d → D.nx σ (upd H1 l (.lst (xs ++ [.ref T])))) :
    tDrop (tBM K "list" rAppend (tVar i) (tCons (tTup (tCons te (tCons (tVar k) tNil))) tNil)) D σ H :=
  ⟨_, ha, Or.inl ⟨rfl, xs, sq_of hl⟩, h H (Ex.refl _) _ fun a H1 e1 hd => ⟨v, hv, by show 2 ≤ sizeLine; decide, fun T hT => ⟨l, xs, .ref T, rfl, rfl, Ex.new hT _ _ (e1 _ _ hl), sz_lt hz,
    q T a _ (e1.trans (Ex.new hT)) (fresh_back e1 hT) upd_same (dp_ex (Ex.new hT) _ _ hd)⟩⟩⟩
theorem et_lstV {k : Nat} {l : Addr} {xs : List V} (h : σ[k]? = some (some (.ref l))) (hl : H l = some (.lst xs)) : EvT (fun σ H Q => tVar k σ H fun x H' => ∃ k, TruV K x H' k ∧ Q k H') σ H (!xs.isEmpty) := fun H1 e Q q =>
  ⟨_, h, _, .inl ⟨xs, sq_of (e _ _ hl), rfl⟩, q H1 (Ex.refl _)⟩
end
section
variable {P : Program} {w : World} {K : PySem.W.Frag} {mg : Str → Option Value} {base : Heap}
theorem xp_fresh2 {p r : Addr} {H H2 Ha : Hp} (e : Ex H H2) (hp : H p = none) (hr : H r = none) (x : Xp [p, r] H2 Ha) : Ex H Ha := fun a o ho => x a o (e a o ho) (fun hm => by
  rcases (by simpa using hm : a = p ∨ a = r) with rfl | rfl
  · rw [hp] at ho; cases ho
  · rw [hr] at ho; cases ho)
theorem gpair {T : Addr} {v1 v2 : V} {σ : L2.St} {H : Hp} {i j : Nat} {Q : L2.St → Hp → Prop} (h : SqT K H T [v1, v2]) (q : Q ((σ.set i (some v1)).set j (some v2)) H) : gTup K 2 (gCons (gName i) (gCons (gName j) gNil)) (.ref T) σ H Q :=
  ⟨T, [v1, v2], rfl, h, rfl, v1, [v2], rfl, v2, [], rfl, rfl, q⟩
abbrev LS := List (List Int × List Int) × List (List Int)
def subr (rm : List Int) (q : Int × Int) (n : Int) : List Int := (rm.set q.1.toNat (rm.getD q.1.toNat 0 - n)).set q.2.toNat ((rm.set q.1.toNat (rm.getD q.1.toNat 0 - n)).getD q.2.toNat 0 - n)
def lnew (s : Int) (l rm : List Int) : List (List Int × List Int) :=
  (List.range (min (rm.getD ((prs s).getD l.length (0, 0)).1.toNat 0) (rm.getD ((prs s).getD l.length (0, 0)).2.toNat 0) - -1).toNat).map fun (i : Nat) =>
    (l ++ [min (rm.getD ((prs s).getD l.length (0, 0)).1.toNat 0) (rm.getD ((prs s).getD l.length (0, 0)).2.toNat 0) - (i : Int)],
      subr rm ((prs s).getD l.length (0, 0)) (min (rm.getD ((prs s).getD l.length (0, 0)).1.toNat 0) (rm.getD ((prs s).getD l.length (0, 0)).2.toNat 0) - (i : Int)))
def lstep (s : Int) (st : LS) : LS := match st.1.getLast? with
  | none => st
  | some (l, rm) => if l.length = np s then (st.1.dropLast, st.2 ++ [l]) else (st.1.dropLast ++ lnew s l rm, st.2)
def liter (s t : Int) : Nat → LS
  | 0 => ([([], List.replicate s.toNat t)], [])
  | n + 1 => lstep s (liter s t n)
def LL (s t : Int) : List (List Int) := (liter s t 400).2
structure Good (s : Int) (n : Nat) (st : LS) : Prop where
  its : ∀ q ∈ st.1, q.1.length ≤ np s ∧ q.2.length = s.toNat ∧ ∀ i : Nat, 0 ≤ q.2.getD i 0 ∧ q.2.getD i 0 ≤ 2
  l1 : st.1.length ≤ 1 + 3 * n
  l2 : st.2.length ≤ n
theorem getD_set {l : List Int} {i j : Nat} {v : Int} (h : i < l.length) : (l.set i v).getD j 0 = if j = i then v else l.getD j 0 := by
  rw [List.getD_eq_getElem?_getD, List.getD_eq_getElem?_getD, List.getElem?_set]
  by_cases e : j = i
  · subst e; simp [h]
  · rw [if_neg (Ne.symm e), if_neg e]
theorem prs_get {s : Int} (h1 : 2 ≤ s) (h2 : s ≤ 5) {k : Nat} (h : k < np s) : (prs s)[k]? = some ((prs s).getD k (0, 0)) ∧ 0 ≤ ((prs s).getD k (0, 0)).1 ∧ ((prs s).getD k (0, 0)).1 < ((prs s).getD k (0, 0)).2 ∧ ((prs s).getD k (0, 0)).2 < s := by
  have h' : k < (prs s).length := h
  have e : (prs s)[k]? = some ((prs s).getD k (0, 0)) := by rw [List.getD_eq_getElem?_getD, List.getElem?_eq_getElem h']; rfl
  exact ⟨e, prs_in (by omega) h2 (List.mem_of_getElem? e)⟩
theorem good_step {s : Int} (h1 : 2 ≤ s) (h2 : s ≤ 5) {n : Nat} {st : LS} (g : Good s n st) : Good s (n + 1) (lstep s st) := by
  have gl1 := g.l1
  have gl2 := g.l2
  unfold lstep
  cases hlast : st.1.getLast? with
  | none => exact (show Good s (n + 1) st from ⟨g.its, by omega, by omega⟩)
  | some q =>
    obtain ⟨l, rm⟩ := q
    have hm : (l, rm) ∈ st.1 := List.mem_of_getLast? hlast
    obtain ⟨g1, g2, g3⟩ := g.its _ hm
    have g1 : l.length ≤ np s := g1
    have g2 : rm.length = s.toNat := g2
    have g3 : ∀ i : Nat, 0 ≤ rm.getD i 0 ∧ rm.getD i 0 ≤ 2 := g3
    have dl : st.1.dropLast.length = st.1.length - 1 := List.length_dropLast
    show Good s (n + 1) (if l.length = np s then _ else _)
    split
    · exact ⟨fun q hq => g.its q (List.dropLast_subset _ hq), by show st.1.dropLast.length ≤ _; omega, by show (st.2 ++ [l]).length ≤ _; rw [List.length_append, List.length_singleton]; omega⟩
    · rename_i hne
      have hlt : l.length < np s := by omega
      obtain ⟨_, p1, p2, p3⟩ := prs_get h1 h2 hlt
      have ga := g3 ((prs s).getD l.length (0, 0)).1.toNat
      have gb := g3 ((prs s).getD l.length (0, 0)).2.toNat
      refine ⟨fun q hq => ?_, ?_, by show st.2.length ≤ _; omega⟩
      · rcases List.mem_append.mp hq with hq | hq
        · exact g.its q (List.dropLast_subset _ hq)
        · obtain ⟨i, hi, rfl⟩ := List.mem_map.mp hq
          have hi := List.mem_range.mp hi
          have sl : ∀ n, (subr rm ((prs s).getD l.length (0, 0)) n).length = rm.length := fun n => by simp [subr]
          refine ⟨by show (l ++ [_]).length ≤ _; rw [List.length_append, List.length_singleton]; omega, by rw [sl]; exact g2, fun j => ?_⟩
          have gj := g3 j
          show 0 ≤ (subr rm _ _).getD j 0 ∧ _
          unfold subr
          rw [getD_set (by rw [List.length_set]; omega), getD_set (by omega), getD_set (by omega)]
          have ne : ¬ ((prs s).getD l.length (0, 0)).2.toNat = ((prs s).getD l.length (0, 0)).1.toNat := by omega
          rw [if_neg ne]
          split
          · omega
          · split <;> omega
      · show (st.1.dropLast ++ lnew s l rm).length ≤ _
        rw [List.length_append, dl, lnew, List.length_map, List.length_range]
        omega
theorem good_iter {s t : Int} (h1 : 2 ≤ s) (h2 : s ≤ 5) (h3 : 0 ≤ t) (h4 : t ≤ 2) : ∀ n, Good s n (liter s t n)
  | 0 => ⟨fun q hq => by
      have e : q = ([], List.replicate s.toNat t) := by simpa [liter] using hq
      subst e
      refine ⟨by simp, by simp, fun i => ?_⟩
      show 0 ≤ (List.replicate s.toNat t).getD i 0 ∧ (List.replicate s.toNat t).getD i 0 ≤ 2
      rw [List.getD_eq_getElem?_getD, List.getElem?_replicate]
      split
      · exact ⟨h3, h4⟩
      · exact ⟨Int.le_refl _, by decide⟩, by simp [liter], by simp [liter]⟩
  | n + 1 => good_step h1 h2 (good_iter h1 h2 h3 h4 n)
theorem liter_stop {s t : Int} {n : Nat} (h : (liter s t n).1 = []) : ∀ k, liter s t (n + k) = liter s t n
  | 0 => rfl
  | k + 1 => by
    show lstep s (liter s t (n + k)) = _
    rw [liter_stop h k]
    unfold lstep
    rw [h]
    rfl
/-- an item of rest: (load, room) -/
def Itm (K : PySem.W.Frag) (p r : Addr) (H : Hp) (v : V) (q : List Int × List Int) : Prop := ∃ T a b, v = .ref T ∧ H T = some (.tup [a, .ref b]) ∧ Dp K H a (tI q.1) ∧ H b = some (.lst (q.2.map V.int)) ∧ b ≠ p ∧ b ≠ r
theorem itm_ex {p r : Addr} {H H' : Hp} {v : V} {q : List Int × List Int} (e : Ex H H') (h : Itm K p r H v q) : Itm K p r H' v q := by
  obtain ⟨T, a, b, rfl, h1, h2, h3, h4, h5⟩ := h
  exact ⟨T, a, b, rfl, e _ _ h1, dp_ex e _ _ h2, e _ _ h3, h4, h5⟩
/-- found or rest itself changes -/
theorem itm_upd {p r c : Addr} {H : Hp} {o : List V} {u : HO} {v : V} {q : List Int × List Int} (hc : H c = some (.lst o)) (hn : c = p ∨ c = r) (h : Itm K p r H v q) : Itm K p r (L2.upd H c u) v q := by
  obtain ⟨T, a, b, rfl, h1, h2, h3, h4, h5⟩ := h
  refine ⟨T, a, b, rfl, ?_, dp_tx (Tx.lst hc) _ _ (imm_tI _) h2, ?_, h4, h5⟩
  · rw [upd_ne (ne_of h1 hc (fun z => nomatch z))]
    exact h1
  · rw [upd_ne (by rcases hn with rfl | rfl <;> assumption)]
    exact h3
theorem itms_ex {p r : Addr} {H H' : Hp} {vs : List V} {m : List (List Int × List Int)} (e : Ex H H') (h : Paired (Itm K p r H) vs m) : Paired (Itm K p r H') vs m := by
  induction h with
  | nil => exact .nil
  | cons a _ ih => exact .cons (itm_ex e a) ih
theorem itms_upd {p r c : Addr} {H : Hp} {o : List V} {u : HO} {vs : List V} {m : List (List Int × List Int)} (hc : H c = some (.lst o)) (hn : c = p ∨ c = r) (h : Paired (Itm K p r H) vs m) : Paired (Itm K p r (L2.upd H c u)) vs m := by
  induction h with
  | nil => exact .nil
  | cons a _ ih => exact .cons (itm_upd hc hn a) ih
def R_let_loads (ds : List PyData) (r : List PyData) : Prop := ∃ s t : Int, ds = [.int s, .int t, .int 20000] ∧ 2 ≤ s ∧ s ≤ 5 ∧ 0 ≤ t ∧ t ≤ 2 ∧ (liter s t 400).1 = [] ∧ r = (LL s t).map tI
/-- the loop's word at the n-th turn -/
def LW (K : PySem.W.Frag) (s t : Int) (pq p r : Addr) (Hs : Hp) (n : Nat) (σ : L2.St) (Ha : Hp) : Prop :=
  Xp [p, r] Hs Ha ∧ (∃ ws, Ha r = some (.lst ws) ∧ Paired (Itm K p r Ha) ws (liter s t n).1) ∧ (∃ vs, Ha p = some (.lst vs) ∧ DpAll K Ha vs ((liter s t n).2.map tI)) ∧
  ∃ a b c d e f, σ = [some (.int s), some (.int t), some (.int 20000), some (.ref pq), some (.ref p), some (.ref r), a, b, c, d, e, f]
theorem paired_last {α β : Type} {F : α → β → Prop} {l : List α} {m : List β} {y : β} (h : Paired F l m) (e : m.getLast? = some y) : ∃ x, l[l.length - 1]? = some x ∧ F x y ∧ Paired F l.dropLast m.dropLast := by
  have hl := Paired.length h
  rw [List.getLast?_eq_getElem?] at e
  have get : ∀ {l : List α} {m : List β} {i : Nat} {b : β}, Paired F l m → m[i]? = some b → ∃ a, l[i]? = some a ∧ F a b := by
    intro l m i b hh
    induction hh generalizing i with
    | nil => intro e; simp at e
    | cons h _ ih =>
      intro e
      cases i with
      | zero => exact ⟨_, rfl, by simp at e; subst e; exact h⟩
      | succ i => exact ih (by simpa using e)
  obtain ⟨x, hx, hf⟩ := get h e
  refine ⟨x, by rw [hl]; exact hx, hf, ?_⟩
  have dl : ∀ {l : List α} {m : List β}, Paired F l m → Paired F l.dropLast m.dropLast := by
    intro l m hh
    induction hh with
    | nil => exact .nil
    | @cons a b as bs h t ih =>
      cases t with
      | nil => exact .nil
      | cons h2 t2 => exact .cons h ih
  exact dl h
theorem paired_app {α β : Type} {F : α → β → Prop} : ∀ {l : List α} {m : List β} {l2 : List α} {m2 : List β}, Paired F l m → Paired F l2 m2 → Paired F (l ++ l2) (m ++ m2)
  | _, _, _, _, .nil, h => h
  | _, _, _, _, .cons a t, h => .cons a (paired_app t h)
abbrev s_let_loads : Stmt := topS 26
abbrev N_let_loads : List Str := ["sides", "tracks", "most", "pairs", "found", "rest", "load", "room", "side", "far", "number", "left"]
theorem sc_let_loads : FnScope N_let_loads ["sides", "tracks", "most"] (defScope s_let_loads) := ⟨rfl, rfl, rfl, by decide +kernel, rfl, by decide +kernel, by decide +kernel⟩
theorem ok_let_loads {f : Addr} {fd : FuncData} (F : Fun K "let_loads" "let_loads" s_let_loads f fd) (T : Txt mg)
    (D_side_pairs : DF P w K mg base "side_pairs" 1 ["sides"] (spN K 1 R_side_pairs)) :
    FnOk P w K mg base CX0 2 f fd ["sides", "tracks", "most"] (spN K 3 R_let_loads) := by
  refine F.ok sc_let_loads (fun vs H Q E h => spN_len h) (fun cdv A outer s H vs Q E hr h => ?_)
  obtain ⟨ds, r, hd, _, ⟨x, t, rfl, h1, h2, h3, h4, h5, rfl⟩, k⟩ := h
  obtain rfl := dpa_ints (l := [x, t, 20000]) hd
  refine ⟨_, (pss_cons (ps_set (i := 3) sc_let_loads.nd rfl (.inl rfl) (pe_D D_side_pairs (hr.mono (by decide)) (by rfl) (pa_cons (pv 0) pa_nil)))
      (pss_cons (ps_set (i := 4) sc_let_loads.nd rfl (.inl rfl) (pe_lst pa_nil))
      (pss_cons (ps_set (i := 5) sc_let_loads.nd rfl (.inl rfl) (pe_lst (pa_cons (pe_tup (pa_cons (pe_tup pa_nil) (pa_cons (pe_op op_rep (pe_lst (pa_cons (pv 1) pa_nil)) (pv 0)) pa_nil))) pa_nil)))
      (pss_cons (ps_while PassesOwn.never (pt_truth (pv 5) (by intro _; rfl)) (pss_cons (ps_asg (pe_bm0 PySem.F.plainAttrs_list PySem.F.slot_list_pop PySem.F.type_list_pop mt_pop (pv 5)) (pg_tup rfl (pgs_cons (pg_name (i := 6) sc_let_loads.nd rfl (Or.inl rfl)) (pgs_cons (pg_name (i := 7) sc_let_loads.nd rfl (Or.inl rfl)) pgs_nil))))
      (pss_cons (ps_if (pt_cmpR op_eq (pe_callB call_len_seq (by rfl) T.b_len PySem.boot_len (pa_cons (pv 6) pa_nil)) (pe_callB call_len_seq (by rfl) T.b_len PySem.boot_len (pa_cons (pv 3) pa_nil)) (nomark _)) (pss_cons (ps_expr (pe_bm PySem.F.plainAttrs_list PySem.F.slot_list_append PySem.F.type_list_append mt_append (pv 4) (pa_cons (pv 6) pa_nil)))
      (pss_cons (ps_if (pt_cmpR op_gt (pe_callB call_len_seq (by rfl) T.b_len PySem.boot_len (pa_cons (pv 4) pa_nil)) (pv 2) (nomark _)) (pss_one ps_never) pss_nil)
      (pss_one ps_continue))) pss_nil)
      (pss_cons (ps_asg (pe_ix ix_list (pv 3) (pe_callB call_len_seq (by rfl) T.b_len PySem.boot_len (pa_cons (pv 6) pa_nil)) (fun _ _ => rfl)) (pg_tup rfl (pgs_cons (pg_name (i := 8) sc_let_loads.nd rfl (Or.inl rfl)) (pgs_cons (pg_name (i := 9) sc_let_loads.nd rfl (Or.inl rfl)) pgs_nil))))
      (pss_one (ps_for PassesOwn.never rfl (pi_range3 (by rfl) T.b_range (pa_cons (pe_callB (call_min2 rfl) (by rfl) T.b_min (by decide +kernel) (pa_cons (pe_ix ix_list (pv 7) (pv 8) (fun _ _ => rfl)) (pa_cons (pe_ix ix_list (pv 7) (pv 9) (fun _ _ => rfl)) pa_nil))) (pa_cons (pe_un un_neg pe_int) (pa_cons (pe_un un_neg pe_int) pa_nil)))) (pg_name (i := 10) sc_let_loads.nd rfl (Or.inl rfl)) (pss_cons (ps_set (i := 11) sc_let_loads.nd rfl (.inl rfl) (pe_callTy call_list_of (by rfl) T.b_list (by decide +kernel) (pa_cons (pv 7) pa_nil)))
      (pss_cons (ps_augS (pv 11) (pv 8) get_list (pv 10) ip_sub set_list)
      (pss_cons (ps_augS (pv 11) (pv 9) get_list (pv 10) ip_sub set_list)
      (pss_one (ps_expr (pe_bm PySem.F.plainAttrs_list PySem.F.slot_list_append PySem.F.type_list_append mt_append (pv 5) (pa_cons (pe_tup (pa_cons (pe_op op_catA (pv 6) (pe_tup (pa_cons (pv 10) pa_nil))) (pa_cons (pv 11) pa_nil))) pa_nil)))))))))))))
      (pss_one (ps_ret (pv 4))))))), ?_⟩
  refine qn_asg (K := K) (en_call (R := R_side_pairs) (ds := [.int x]) (by walk_at "dl") rfl ⟨x, rfl, by omega, h2, rfl⟩) fun pq wq H1 hpq e1 h1' hd1 => ?_
  refine qn_asg (K := K) (en_lst eda_nil (by simp)) fun p vs H2 hp e2 h2' hd2 => ?_
  cases hd2
  refine ⟨by show 0 ≤ sizeLine; decide, fun a0 ha0 => ?_⟩
  refine en_rep (K := K) (σ := [some (.int x), some (.int t), some (.int 20000), some (.ref pq), some (.ref p), none, none, none, none, none, none, none]) (d := .int t) (EvN.toQ (en_lst (eda_cons (ed_int (ev_var rfl)) eda_nil) (by simp))) (ev_var rfl) (by omega) (by omega) _ (Ex.refl _) _ fun b wb H4 hb e4 h4' hd4 => ?_
  refine ⟨by show 2 ≤ sizeLine; decide, fun T0 hT0 => ⟨by show 1 ≤ sizeLine; decide, fun r hr0 => ?_⟩⟩
  have e24 : Ex H2 H4 := (Ex.new ha0).trans e4
  have e25 : Ex H2 (upd (upd H4 T0 (.tup [.ref a0, .ref b])) r (.lst [.ref T0])) := (e24.trans (Ex.new hT0)).trans (Ex.new hr0)
  have hpq1 : H1 pq ≠ none := by rw [h1']; simp
  have npp : pq ≠ p := fun z => by rw [z] at hpq1; exact hpq1 hp
  have h2p : H2 p ≠ none := by rw [h2']; simp
  have hpT : p ≠ T0 := fun z => h2p (fresh_back e24 (z ▸ hT0))
  have hpr : p ≠ r := fun z => h2p (fresh_back (e24.trans (Ex.new hT0)) (z ▸ hr0))
  have nqr : pq ≠ r := fun z => hpq1 (fresh_back ((e2.trans e24).trans (Ex.new hT0)) (z ▸ hr0))
  have hbr : b ≠ r := fun z => by
    have q := Ex.new hT0 (o := .tup [.ref a0, .ref b]) b _ h4'
    have z2 := hr0
    rw [← z, q] at z2
    cases z2
  have hrn : H r = none := fresh_back ((e1.trans e2).trans (e24.trans (Ex.new hT0))) hr0
  have hbp : b ≠ p := fun z => by
    have q := (Ex.new ha0 (o := .tup [])) p _ h2'
    rw [← z, hb] at q
    cases q
  have hab : upd H2 a0 (.tup []) a0 = some (.tup []) := upd_same
  generalize hHs : upd (upd H4 T0 (.tup [.ref a0, .ref b])) r (.lst [.ref T0]) = Hs at e25 ⊢
  have e4s : Ex H4 Hs := hHs ▸ (Ex.new hT0).trans (Ex.new hr0)
  have hsr : Hs r = some (.lst [.ref T0]) := by rw [← hHs]; exact upd_same
  have hsT : Hs T0 = some (.tup [.ref a0, .ref b]) := by
    rw [← hHs, upd_ne (fun z => by rw [← z, upd_same] at hr0; cases hr0)]
    exact upd_same
  have hspq : Hs pq = some (.lst wq) := e25 _ _ (e2 _ _ h1')
  have dpq : DpAll K Hs wq ((prs x).map pD) := dpa_ex (e2.trans e25) _ _ hd1
  have ipq : immAll ((prs x).map pD) = true := immAll_map (fun _ => imm_tI _) _
  have lsS : Ls Hs [p, r] := Ls.cons (e25 _ _ h2') (Ls.one hsr)
  have hb' : DpAll K Hs wb (dI (List.replicate x.toNat t)) := by
    rw [dI, List.map_replicate]
    exact dpa_ex e4s _ _ hd4
  rw [dpa_ints hb'] at h4'
  have w0 : LW K x t pq p r Hs 0 [some (.int x), some (.int t), some (.int 20000), some (.ref pq), some (.ref p), some (.ref r), none, none, none, none, none, none] Hs :=
    ⟨Xp.refl _ _, ⟨_, hsr, .cons ⟨T0, .ref a0, b, rfl, hsT, .tup (st_of (e4s _ _ (e4 _ _ hab))) .nil, e4s _ _ h4', hbp, hbr⟩ .nil⟩, ⟨[], e25 _ _ h2', .nil⟩, none, none, none, none, none, none, rfl⟩
  have lnp : ∀ {l : List Int}, ((dI l).length : Int) = (l.length : Int) := fun {l} => by rw [dI, List.length_map]
  refine ⟨fun m σ' Ha => ∃ n, m = 400 - n ∧ n ≤ 400 ∧ LW K x t pq p r Hs n σ' Ha, ⟨_, 0, rfl, by decide, w0⟩, ?_⟩
  rintro m σ' Ha ⟨n, rfl, hn, xp, ⟨ws, hrw, pws⟩, ⟨vs, hpv, dvs⟩, a, b, c, d, e, f, rfl⟩
  have gd := good_iter h1 h2 h3 h4 n
  refine et_lstV (K := K) rfl hrw Ha (Ex.refl _) _ fun Hb eb => ?_
  have hrw := eb _ _ hrw
  have hpv := eb _ _ hpv
  have dvs := dpa_ex eb _ _ dvs
  have pws := itms_ex eb pws
  have xp := xp.then eb
  cases hlast : (liter x t n).1.getLast? with
  | none =>
    have em : (liter x t n).1 = [] := List.getLast?_eq_none_iff.mp hlast
    have lw := Paired.length pws
    rw [em] at lw
    have wn : ws = [] := List.eq_nil_of_length_eq_zero lw
    subst wn
    show tRet (tVar 4) _ _ _
    have el : liter x t 400 = liter x t n := by
      have := liter_stop em (400 - n)
      rwa [show n + (400 - n) = 400 by omega] at this
    refine ⟨.ref p, rfl, k p vs Hb (fresh_back e1 hp) (xp_fresh2 ((e1.trans e2).trans e25) (fresh_back e1 hp) hrn xp) hpv ?_⟩
    rw [LL, el]
    exact dvs
  | some q =>
    obtain ⟨l, rm⟩ := q
    have hm : (l, rm) ∈ (liter x t n).1 := List.mem_of_getLast? hlast
    obtain ⟨g1, g2, g3⟩ := gd.its _ hm
    have g1 : l.length ≤ np x := g1
    have g2 : rm.length = x.toNat := g2
    have g3 : ∀ i : Nat, 0 ≤ rm.getD i 0 ∧ rm.getD i 0 ≤ 2 := g3
    have gl1 := gd.l1
    have gl2 := gd.l2
    obtain ⟨y, hy, ⟨T, va, b, rfl, hT, da, hbl, nbp, nbr⟩, pd⟩ := paired_last pws hlast
    have lw := Paired.length pws
    have n0 : (liter x t n).1 ≠ [] := fun z => by rw [z] at hm; cases hm
    have hlt : n < 400 := by
      by_cases hne : n = 400
      · subst hne
        exact absurd h5 n0
      · omega
    have wne : ws ≠ [] := fun z => by
      rw [z] at lw
      exact n0 (List.eq_nil_of_length_eq_zero lw.symm)
    have tst : (!ws.isEmpty) = true := by cases ws with | nil => exact absurd rfl wne | cons _ _ => rfl
    rw [if_pos tst]
    refine ⟨LW K x t pq p r Hs (n + 1), fun σ2 H2 z => ⟨400 - (n + 1), by omega, n + 1, rfl, by omega, z⟩, ?_⟩
    have lst1 : liter x t (n + 1) = if l.length = np x then ((liter x t n).1.dropLast, (liter x t n).2 ++ [l]) else ((liter x t n).1.dropLast ++ lnew x l rm, (liter x t n).2) := by
      show lstep x (liter x t n) = _
      unfold lstep
      rw [hlast]
    refine ⟨.ref r, rfl, Or.inl ⟨rfl, ws, sq_of hrw⟩, r, ws, .ref T, rfl, rfl, hrw, hy, ?_⟩
    have rT : T ≠ r := ne_of hT hrw (fun z => nomatch z)
    refine gpair (K := K) (st_of (by rw [upd_ne rT]; exact hT)) ?_
    have pd := itms_upd (u := .lst ws.dropLast) hrw (Or.inr rfl) pd
    have tx1 : Tx Hb (upd Hb r (.lst ws.dropLast)) := Tx.lst hrw
    have dvs := dpa_tx tx1 _ _ (immAll_tI _) dvs
    have da := dp_tx tx1 _ _ (imm_tI _) da
    have xp : Xp [p, r] Hs (upd Hb r (.lst ws.dropLast)) := Xp.upd xp (by simp)
    have hbl : upd Hb r (.lst ws.dropLast) b = some (.lst (rm.map V.int)) := by rw [upd_ne nbr]; exact hbl
    have hpv : upd Hb r (.lst ws.dropLast) p = some (.lst vs) := by rw [upd_ne hpr]; exact hpv
    have hrw' : upd Hb r (.lst ws.dropLast) r = some (.lst ws.dropLast) := upd_same
    clear hrw hT hy
    generalize upd Hb r (.lst ws.dropLast) = Hc at *
    have hcq : Hc pq = some (.lst wq) := xp _ _ hspq (by simp [npp, nqr])
    have dcq : DpAll K Hc wq ((prs x).map pD) := dpa_tx (xp.tx lsS) _ _ ipq dpq
    show tSeq _ _ _ [some (.int x), some (.int t), some (.int 20000), some (.ref pq), some (.ref p), some (.ref r), some va, some (.ref b), c, d, e, f] Hc
    refine q_when (b := decide (l.length = np x)) (et_test (ev_is (ev_op (ev_lenT (ed_var (K := K) rfl da)) (ev_lenL (K := K) (ds := (prs x).map pD) (ed_var rfl (.lst (sq_of hcq) dcq))) (rv_eq rfl)) ?_)) (fun hb Hd ed => ?_) fun hb Hd ed => ?_
    · congr 1
      rw [decide_vint, lnp, List.length_map]
      exact decide_eq_decide.mpr ⟨fun h => Int.ofNat.inj h, fun h => congrArg Nat.cast h⟩
    · have hb := of_decide_eq_true hb
      rw [if_pos hb] at lst1
      have lv := dpa_len dvs
      rw [List.length_map] at lv
      refine qd_app (K := K) (d := tI l) (ed _ _ hpv) (ev_var rfl) (ed_var rfl (dp_ex ed _ _ da)) (by omega) fun v He ee hv => ?_
      have hpe : He p = some (.lst vs) := ee _ _ (ed _ _ hpv)
      have dn : DpAll K (upd He p (.lst (vs ++ [v]))) (vs ++ [v]) (((liter x t n).2 ++ [l]).map tI) := by
        rw [List.map_append]
        exact dpa_app (dpa_tx (Tx.lst hpe) _ _ (immAll_tI _) (dpa_ex (ed.trans ee) _ _ dvs)) (.cons (dp_tx (Tx.lst hpe) _ _ (imm_tI _) hv) .nil)
      refine q_when (b := false) (et_test (ev_is (ev_op (ev_lenL (K := K) (ed_var rfl (.lst (sq_of upd_same) dn))) (ev_var rfl) rv_I0) ?_)) (fun h => nomatch h) fun _ Hf ef => ?_
      · rw [List.length_map, List.length_append, List.length_singleton]
        congr 1
        exact decide_eq_false (by omega)
      show LW K x t pq p r Hs (n + 1) _ Hf
      refine ⟨(Xp.upd (xp.then (ed.trans ee)) (by simp)).then ef, ⟨ws.dropLast, ef _ _ ?_, ?_⟩, ⟨vs ++ [v], ef _ _ upd_same, ?_⟩, _, _, _, _, _, _, rfl⟩
      · rw [upd_ne (Ne.symm hpr)]
        exact ee _ _ (ed _ _ hrw')
      · rw [lst1]
        exact itms_ex ef (itms_upd hpe (Or.inl rfl) (itms_ex (ed.trans ee) pd))
      · rw [lst1]
        exact dpa_ex ef _ _ dn
    · have hb := of_decide_eq_false hb
      rw [if_neg hb] at lst1
      have hll : l.length < np x := by omega
      obtain ⟨pe, p1, p2, p3⟩ := prs_get h1 h2 hll
      unfold lnew at lst1
      generalize (prs x).getD l.length (0, 0) = q at *
      obtain ⟨q1, q2⟩ := q
      have p1 : 0 ≤ q1 := p1
      have p2 : q1 < q2 := p2
      have p3 : q2 < x := p3
      obtain ⟨qa, rfl⟩ := Int.eq_ofNat_of_zero_le p1
      obtain ⟨qb, rfl⟩ := Int.eq_ofNat_of_zero_le (by omega : 0 ≤ q2)
      have ga := g3 qa
      have gb := g3 qb
      have hcq := ed _ _ hcq
      have dcq := dpa_ex ed _ _ dcq
      refine qd_unp2 (K := K) (d1 := .int (qa : Int)) (d2 := .int (qb : Int)) (ed_ixL (K := K) (ds := (prs x).map pD) (k := l.length) (ed_var rfl (.lst (sq_of hcq) dcq)) (ev_is (ev_lenT (ed_var (K := K) rfl (dp_ex ed _ _ da))) (by rw [lnp])) (by rw [List.getElem?_map, pe]; rfl)) fun v1 v2 He ee hv1 hv2 => ?_
      cases dp_int hv1
      cases dp_int hv2
      have ece := ed.trans ee
      have da := dp_ex ece _ _ da
      have hbl := ece _ _ hbl
      have hpv := ece _ _ hpv
      have dvs := dpa_ex ece _ _ dvs
      have hrw' := ece _ _ hrw'
      have pd := itms_ex ece pd
      have xp := xp.then ece
      have lrm : (rm.map V.int).length = x.toNat := by rw [List.length_map, g2]
      have at_ : ∀ j : Nat, j < x.toNat → atI (rm.map V.int) (j : Int) = some (.int (rm.getD j 0)) := fun j hj => atI_nat (by
        rw [List.getElem?_map, List.getElem?_eq_getElem (by omega), List.getD_eq_getElem?_getD, List.getElem?_eq_getElem (by omega)]
        rfl)
      show tFor _ _ _ _ [some (.int x), some (.int t), some (.int 20000), some (.ref pq), some (.ref p), some (.ref r), some va, some (.ref b), some (.int (qa : Int)), some (.int (qb : Int)), e, f] He
      generalize hmn : min (rm.getD qa 0) (rm.getD qb 0) = mn at *
      have lst1 : liter x t (n + 1) = ((liter x t n).1.dropLast ++ (List.range (mn - -1).toNat).map fun (i : Nat) => (l ++ [mn - (i : Int)], subr rm ((qa : Int), (qb : Int)) (mn - (i : Int))), (liter x t n).2) := by
        rw [lst1]
        show (_ ++ List.map _ (List.range (min (rm.getD qa 0) (rm.getD qb 0) - -1).toNat), _) = _
        rw [← hmn]
        rfl
      have dl : (liter x t n).1.dropLast.length = (liter x t n).1.length - 1 := List.length_dropLast
      refine d_for (S := [r]) (ei_rngD (K := K) (m := mn) (n := -1) (eda_cons (ed_int (ev_is (ev_min2 (ev_op (ev_var rfl) (ev_var rfl) (rv_ixL (K := K) (sq_of hbl) (at_ qa (by omega)))) (ev_op (ev_var rfl) (ev_var rfl) (rv_ixL (K := K) (sq_of hbl) (at_ qb (by omega))))) (by rw [hmn]))) (eda_cons (ed_int (ev_un ev_c ru_neg)) (eda_cons (ed_int (ev_un ev_c ru_neg)) eda_nil))) ⟨⟨by omega, by omega⟩, by decide, by decide⟩ (RgC.neg (by omega) (by omega) (by decide) (by decide)))
        (fun H2 i σ' Hx => Xp [r] H2 Hx ∧ (∃ ws', Hx r = some (.lst ws') ∧ Paired (Itm K p r Hx) ws' ((liter x t n).1.dropLast ++ (List.range i).map fun (i : Nat) => (l ++ [mn - (i : Int)], subr rm ((qa : Int), (qb : Int)) (mn - (i : Int))))) ∧ ∃ e f, σ' = [some (.int x), some (.int t), some (.int 20000), some (.ref pq), some (.ref p), some (.ref r), some va, some (.ref b), some (.int (qa : Int)), some (.int (qb : Int)), e, f])
        (fun H2 e2 => ⟨Xp.refl _ _, ⟨_, e2 _ _ hrw', by simpa using itms_ex e2 pd⟩, e, f, rfl⟩) (fun H2 i σ' Ha _ z => z.1) ?_ ?_
      · rintro Hg i d y σ' Hx Hy eg hdi ⟨xg, ⟨w2, hw2, pw2⟩, e, f, rfl⟩ ey hy
        have hil : i < (mn - -1).toNat := by simpa using (List.getElem?_eq_some_iff.mp hdi).1
        rw [rng_get hil] at hdi
        cases hdi
        cases dp_int hy
        have byG : ∀ a o, He a = some o → a ≠ r → Hy a = some o := fun a o h n => ey _ _ (xg _ _ (eg _ _ h) (by simpa using n))
        have txg : Tx He Hy := (Tx.of_ex eg).trans ((xg.tx (Ls.one (eg _ _ hrw'))).trans (Tx.of_ex ey))
        have hbl' := byG _ _ hbl nbr
        have da' := dp_tx txg _ _ (imm_tI _) da
        have hpy := byG _ _ hpv hpr
        have hry := ey _ _ hw2
        refine qn_asg (K := K) (en_listOf (K := K) (ds := dI rm) (ed_var rfl (.lst (sq_of hbl') (ints_dpa rm)))) fun c wc H5 hc e5 h5 hd5 => ?_
        rw [dpa_ints hd5] at h5
        refine q_augL (K := K) (j := qa) h5 rfl rfl (by omega) (ev_var rfl) fun H6 e6 => ?_
        refine q_augL (K := K) (j := qb) (ns := rm.set qa (rm.getD qa 0 - (mn - (i : Int)))) upd_same rfl rfl (by rw [List.length_set]; omega) (ev_var rfl) fun H7 e7 => ?_
        have x7 : Ex Hy H7 := (Ex.mut (e5.trans e6) hc).trans e7
        have x8 := Ex.mut (o := .lst (((rm.set qa (rm.getD qa 0 - (mn - (i : Int)))).set qb ((rm.set qa (rm.getD qa 0 - (mn - (i : Int)))).getD qb 0 - (mn - (i : Int)))).map V.int)) x7 hc
        have hc8 : upd H7 c (.lst (((rm.set qa (rm.getD qa 0 - (mn - (i : Int)))).set qb ((rm.set qa (rm.getD qa 0 - (mn - (i : Int)))).getD qb 0 - (mn - (i : Int)))).map V.int)) c = _ := upd_same
        generalize upd H7 c (.lst (((rm.set qa (rm.getD qa 0 - (mn - (i : Int)))).set qb ((rm.set qa (rm.getD qa 0 - (mn - (i : Int)))).getD qb 0 - (mn - (i : Int)))).map V.int)) = H8 at x8 hc8 ⊢
        have ncr : c ≠ r := fun z => by rw [z, hry] at hc; cases hc
        have ncp : c ≠ p := fun z => by rw [z, hpy] at hc; cases hc
        have lw2 := Paired.length pw2
        rw [List.length_append, List.length_map, List.length_range] at lw2
        refine app_pair (K := K) (d := tI (l ++ [mn - (i : Int)])) (x8 _ _ hry) rfl (ed_is (ed_cat (ds := dI l) (es := [.int (mn - (i : Int))]) (ed_var rfl (dp_ex x8 _ _ da')) (ed_tup (eda_cons (ed_int (ev_var rfl)) eda_nil) (by simp)) ?_) ?_) rfl (by omega) fun T2 a2 H9 e9 hT2 hn2 hd2 => ?_
        · rw [List.length_map]
          have : np x ≤ 10 := by
            have : x = 2 ∨ x = 3 ∨ x = 4 ∨ x = 5 := by omega
            rcases this with rfl | rfl | rfl | rfl <;> decide
          show l.length + 1 ≤ _
          omega
        · show _ = PyData.tuple (List.map PyData.int (l ++ [mn - (i : Int)]))
          rw [List.map_append]
          rfl
        · have hr9 := e9 _ _ (x8 _ _ hry)
          refine ⟨Xp.upd (xg.then (ey.trans (x8.trans e9))) (by simp), ⟨_, upd_same, ?_⟩, _, _, rfl⟩
          rw [List.range_succ, List.map_append, ← List.append_assoc]
          refine itms_upd hr9 (Or.inr rfl) (paired_app (itms_ex (ey.trans (x8.trans e9)) pw2) (.cons ⟨T2, a2, c, rfl, hn2, hd2, ?_, ncp, ncr⟩ .nil))
          exact e9 _ _ hc8
      · rintro Hg σ' Hx eg ⟨xg, ⟨w2, hw2, pw2⟩, e, f, rfl⟩
        show LW K x t pq p r Hs (n + 1) _ Hx
        rw [List.length_map, List.length_range] at pw2
        have txg : Tx He Hx := (Tx.of_ex eg).trans (xg.tx (Ls.one (eg _ _ hrw')))
        refine ⟨(xp.then eg).trans fun a o ho hn => xg a o ho (fun z => hn (by simp at z; simp [z])), ⟨w2, hw2, by rw [lst1]; exact pw2⟩, ⟨vs, xg _ _ (eg _ _ hpv) (by simpa using hpr), by rw [lst1]; exact dpa_tx txg _ _ (immAll_tI _) dvs⟩, _, _, _, _, _, _, rfl⟩

end
end K20
set_option Elab.async false
set_option linter.all false
set_option maxRecDepth 100000
set_option maxHeartbeats 4000000
namespace K20
open PySem PySem.Spec PyProof.Rows L2 Evl DL
/-! each load that is let by an even room has a part let by 2 that leaves what the room less 2 lets; each one let by an odd room has a part let by 1 alike -/
def in21 (p : List Int) : Bool := (LL 2 1).contains p
theorem leaf21 {a R : Int} (pa : Int) (hm : in21 [pa] = true) (h : pa ≤ a ∧ 0 + (a - pa) ≤ R - 1 ∧ 0 + (a - pa) ≤ R - 1) :
    ∃ p ∈ LL 2 1, blw p [a] = true ∧ ∀ y ∈ sms 2 (zw (· - ·) [a] p), y ≤ R - 1 := by
  obtain ⟨ha, k0, k1⟩ := h
  refine ⟨[pa], List.contains_iff_mem.mp hm, ?_, ?_⟩
  · simp [blw, ha]
  · intro y hy
    have hy : y ∈ [0 + (a - pa), 0 + (a - pa)] := hy
    simp only [List.mem_cons, List.not_mem_nil, or_false] at hy
    rcases hy with rfl | rfl <;> assumption
theorem heart21 {a R : Int} (hn : 0 ≤ a) (g0 : 0 + a ≤ R) (g1 : 0 + a ≤ R) (hR : R % 2 = 1 ∧ 1 ≤ R) : ∃ p ∈ LL 2 1, blw p [a] = true ∧ ∀ y ∈ sms 2 (zw (· - ·) [a] p), y ≤ R - 1 := by
  have na := hn
  obtain ⟨r1, r2⟩ := hR
  by_cases z1 : a ≤ 0
  ·
    exact leaf21 (0) (by decide +kernel) (by omega)
  ·
    exact leaf21 (1) (by decide +kernel) (by omega)
def in22 (p : List Int) : Bool := (LL 2 2).contains p
theorem leaf22 {a R : Int} (pa : Int) (hm : in22 [pa] = true) (h : pa ≤ a ∧ 0 + (a - pa) ≤ R - 2 ∧ 0 + (a - pa) ≤ R - 2) :
    ∃ p ∈ LL 2 2, blw p [a] = true ∧ ∀ y ∈ sms 2 (zw (· - ·) [a] p), y ≤ R - 2 := by
  obtain ⟨ha, k0, k1⟩ := h
  refine ⟨[pa], List.contains_iff_mem.mp hm, ?_, ?_⟩
  · simp [blw, ha]
  · intro y hy
    have hy : y ∈ [0 + (a - pa), 0 + (a - pa)] := hy
    simp only [List.mem_cons, List.not_mem_nil, or_false] at hy
    rcases hy with rfl | rfl <;> assumption
theorem heart22 {a R : Int} (hn : 0 ≤ a) (g0 : 0 + a ≤ R) (g1 : 0 + a ≤ R) (hR : R % 2 = 0 ∧ 2 ≤ R) : ∃ p ∈ LL 2 2, blw p [a] = true ∧ ∀ y ∈ sms 2 (zw (· - ·) [a] p), y ≤ R - 2 := by
  have na := hn
  obtain ⟨r1, r2⟩ := hR
  by_cases z1 : a ≤ 0
  ·
    exact leaf22 (0) (by decide +kernel) (by omega)
  ·
    by_cases z2 : a ≤ 1
    ·
      exact leaf22 (1) (by decide +kernel) (by omega)
    ·
      exact leaf22 (2) (by decide +kernel) (by omega)
def in31 (p : List Int) : Bool := (LL 3 1).contains p
theorem leaf31 {a b c R : Int} (pa pb pc : Int) (hm : in31 [pa, pb, pc] = true) (h : pa ≤ a ∧ pb ≤ b ∧ pc ≤ c ∧ 0 + (a - pa) + (b - pb) ≤ R - 1 ∧ 0 + (a - pa) + (c - pc) ≤ R - 1 ∧ 0 + (b - pb) + (c - pc) ≤ R - 1) :
    ∃ p ∈ LL 3 1, blw p [a, b, c] = true ∧ ∀ y ∈ sms 3 (zw (· - ·) [a, b, c] p), y ≤ R - 1 := by
  obtain ⟨ha, hb, hc, k0, k1, k2⟩ := h
  refine ⟨[pa, pb, pc], List.contains_iff_mem.mp hm, ?_, ?_⟩
  · simp [blw, ha, hb, hc]
  · intro y hy
    have hy : y ∈ [0 + (a - pa) + (b - pb), 0 + (a - pa) + (c - pc), 0 + (b - pb) + (c - pc)] := hy
    simp only [List.mem_cons, List.not_mem_nil, or_false] at hy
    rcases hy with rfl | rfl | rfl <;> assumption
theorem heart31 {a b c R : Int} (hn : 0 ≤ a ∧ 0 ≤ b ∧ 0 ≤ c) (g0 : 0 + a + b ≤ R) (g1 : 0 + a + c ≤ R) (g2 : 0 + b + c ≤ R) (hR : R % 2 = 1 ∧ 1 ≤ R) : ∃ p ∈ LL 3 1, blw p [a, b, c] = true ∧ ∀ y ∈ sms 3 (zw (· - ·) [a, b, c] p), y ≤ R - 1 := by
  obtain ⟨na, nb, nc⟩ := hn
  obtain ⟨r1, r2⟩ := hR
  by_cases z1 : a ≤ 0
  ·
    by_cases z2 : b ≤ 0
    ·
      by_cases z3 : c ≤ 0
      ·
        exact leaf31 (0) (0) (0) (by decide +kernel) (by omega)
      ·
        exact leaf31 (0) (0) (1) (by decide +kernel) (by omega)
    ·
      exact leaf31 (0) (1) (0) (by decide +kernel) (by omega)
  ·
    by_cases z2 : R - (0 + b + c) ≤ 0
    ·
      by_cases z3 : R - (0 + a + b) ≤ 0
      ·
        exact leaf31 (0) (1) (0) (by decide +kernel) (by omega)
      ·
        exact leaf31 (0) (0) (1) (by decide +kernel) (by omega)
    ·
      exact leaf31 (1) (0) (0) (by decide +kernel) (by omega)
def in32 (p : List Int) : Bool := (LL 3 2).contains p
theorem leaf32 {a b c R : Int} (pa pb pc : Int) (hm : in32 [pa, pb, pc] = true) (h : pa ≤ a ∧ pb ≤ b ∧ pc ≤ c ∧ 0 + (a - pa) + (b - pb) ≤ R - 2 ∧ 0 + (a - pa) + (c - pc) ≤ R - 2 ∧ 0 + (b - pb) + (c - pc) ≤ R - 2) :
    ∃ p ∈ LL 3 2, blw p [a, b, c] = true ∧ ∀ y ∈ sms 3 (zw (· - ·) [a, b, c] p), y ≤ R - 2 := by
  obtain ⟨ha, hb, hc, k0, k1, k2⟩ := h
  refine ⟨[pa, pb, pc], List.contains_iff_mem.mp hm, ?_, ?_⟩
  · simp [blw, ha, hb, hc]
  · intro y hy
    have hy : y ∈ [0 + (a - pa) + (b - pb), 0 + (a - pa) + (c - pc), 0 + (b - pb) + (c - pc)] := hy
    simp only [List.mem_cons, List.not_mem_nil, or_false] at hy
    rcases hy with rfl | rfl | rfl <;> assumption
theorem heart32 {a b c R : Int} (hn : 0 ≤ a ∧ 0 ≤ b ∧ 0 ≤ c) (g0 : 0 + a + b ≤ R) (g1 : 0 + a + c ≤ R) (g2 : 0 + b + c ≤ R) (hR : R % 2 = 0 ∧ 2 ≤ R) : ∃ p ∈ LL 3 2, blw p [a, b, c] = true ∧ ∀ y ∈ sms 3 (zw (· - ·) [a, b, c] p), y ≤ R - 2 := by
  obtain ⟨na, nb, nc⟩ := hn
  obtain ⟨r1, r2⟩ := hR
  by_cases z1 : a ≤ 0
  ·
    by_cases z2 : b ≤ 1
    ·
      by_cases z3 : c ≤ 1
      ·
        by_cases z4 : b ≤ 0
        ·
          by_cases z5 : c ≤ 0
          ·
            exact leaf32 (0) (0) (0) (by decide +kernel) (by omega)
          ·
            exact leaf32 (0) (0) (1) (by decide +kernel) (by omega)
        ·
          by_cases z5 : c ≤ 0
          ·
            exact leaf32 (0) (1) (0) (by decide +kernel) (by omega)
          ·
            exact leaf32 (0) (1) (1) (by decide +kernel) (by omega)
      ·
        exact leaf32 (0) (0) (2) (by decide +kernel) (by omega)
    ·
      exact leaf32 (0) (2) (0) (by decide +kernel) (by omega)
  ·
    by_cases z2 : b ≤ 0
    ·
      by_cases z3 : c ≤ 0
      ·
        by_cases z4 : a ≤ 1
        ·
          exact leaf32 (1) (0) (0) (by decide +kernel) (by omega)
        ·
          exact leaf32 (2) (0) (0) (by decide +kernel) (by omega)
      ·
        exact leaf32 (1) (0) (1) (by decide +kernel) (by omega)
    ·
      by_cases z3 : c ≤ 0
      ·
        exact leaf32 (1) (1) (0) (by decide +kernel) (by omega)
      ·
        exact leaf32 (1) (1) (1) (by decide +kernel) (by omega)
def in41 (p : List Int) : Bool := (LL 4 1).contains p
theorem leaf41 {a b c d e f R : Int} (pa pb pc pd pe pf : Int) (hm : in41 [pa, pb, pc, pd, pe, pf] = true) (h : pa ≤ a ∧ pb ≤ b ∧ pc ≤ c ∧ pd ≤ d ∧ pe ≤ e ∧ pf ≤ f ∧ 0 + (a - pa) + (b - pb) + (c - pc) ≤ R - 1 ∧ 0 + (a - pa) + (d - pd) + (e - pe) ≤ R - 1 ∧ 0 + (b - pb) + (d - pd) + (f - pf) ≤ R - 1 ∧ 0 + (c - pc) + (e - pe) + (f - pf) ≤ R - 1) :
    ∃ p ∈ LL 4 1, blw p [a, b, c, d, e, f] = true ∧ ∀ y ∈ sms 4 (zw (· - ·) [a, b, c, d, e, f] p), y ≤ R - 1 := by
  obtain ⟨ha, hb, hc, hd, he, hf, k0, k1, k2, k3⟩ := h
  refine ⟨[pa, pb, pc, pd, pe, pf], List.contains_iff_mem.mp hm, ?_, ?_⟩
  · simp [blw, ha, hb, hc, hd, he, hf]
  · intro y hy
    have hy : y ∈ [0 + (a - pa) + (b - pb) + (c - pc), 0 + (a - pa) + (d - pd) + (e - pe), 0 + (b - pb) + (d - pd) + (f - pf), 0 + (c - pc) + (e - pe) + (f - pf)] := hy
    simp only [List.mem_cons, List.not_mem_nil, or_false] at hy
    rcases hy with rfl | rfl | rfl | rfl <;> assumption
theorem heart41 {a b c d e f R : Int} (hn : 0 ≤ a ∧ 0 ≤ b ∧ 0 ≤ c ∧ 0 ≤ d ∧ 0 ≤ e ∧ 0 ≤ f) (g0 : 0 + a + b + c ≤ R) (g1 : 0 + a + d + e ≤ R) (g2 : 0 + b + d + f ≤ R) (g3 : 0 + c + e + f ≤ R) (hR : R % 2 = 1 ∧ 1 ≤ R) : ∃ p ∈ LL 4 1, blw p [a, b, c, d, e, f] = true ∧ ∀ y ∈ sms 4 (zw (· - ·) [a, b, c, d, e, f] p), y ≤ R - 1 := by
  obtain ⟨na, nb, nc, nd, ne, nf⟩ := hn
  obtain ⟨r1, r2⟩ := hR
  by_cases z1 : a ≤ 0
  ·
    by_cases z2 : b ≤ 0
    ·
      by_cases z3 : e ≤ 0
      ·
        by_cases z4 : f ≤ 0
        ·
          by_cases z5 : c ≤ 0
          ·
            by_cases z6 : d ≤ 0
            ·
              exact leaf41 (0) (0) (0) (0) (0) (0) (by decide +kernel) (by omega)
            ·
              exact leaf41 (0) (0) (0) (1) (0) (0) (by decide +kernel) (by omega)
          ·
            by_cases z6 : d ≤ 0
            ·
              exact leaf41 (0) (0) (1) (0) (0) (0) (by decide +kernel) (by omega)
            ·
              exact leaf41 (0) (0) (1) (1) (0) (0) (by decide +kernel) (by omega)
        ·
          exact leaf41 (0) (0) (0) (0) (0) (1) (by decide +kernel) (by omega)
      ·
        by_cases z4 : R - (0 + b + d + f) ≤ 0
        ·
          by_cases z5 : c ≤ 0
          ·
            by_cases z6 : R - (0 + a + d + e) ≤ 0
            ·
              exact leaf41 (0) (0) (0) (1) (0) (0) (by decide +kernel) (by omega)
            ·
              exact leaf41 (0) (0) (0) (0) (0) (1) (by decide +kernel) (by omega)
          ·
            exact leaf41 (0) (0) (1) (1) (0) (0) (by decide +kernel) (by omega)
        ·
          exact leaf41 (0) (0) (0) (0) (1) (0) (by decide +kernel) (by omega)
    ·
      by_cases z3 : e ≤ 0
      ·
        by_cases z4 : R - (0 + c + e + f) ≤ 0
        ·
          by_cases z5 : d ≤ 0
          ·
            by_cases z6 : R - (0 + a + b + c) ≤ 0
            ·
              exact leaf41 (0) (0) (1) (0) (0) (0) (by decide +kernel) (by omega)
            ·
              exact leaf41 (0) (0) (0) (0) (0) (1) (by decide +kernel) (by omega)
          ·
            exact leaf41 (0) (0) (1) (1) (0) (0) (by decide +kernel) (by omega)
        ·
          exact leaf41 (0) (1) (0) (0) (0) (0) (by decide +kernel) (by omega)
      ·
        exact leaf41 (0) (1) (0) (0) (1) (0) (by decide +kernel) (by omega)
  ·
    by_cases z2 : f ≤ 0
    ·
      by_cases z3 : R - (0 + b + d + f) ≤ 0
      ·
        by_cases z4 : c ≤ 0
        ·
          by_cases z5 : e ≤ 0
          ·
            by_cases z6 : R - (0 + a + b + c) ≤ 0
            ·
              exact leaf41 (0) (1) (0) (0) (0) (0) (by decide +kernel) (by omega)
            ·
              exact leaf41 (0) (0) (0) (1) (0) (0) (by decide +kernel) (by omega)
          ·
            exact leaf41 (0) (1) (0) (0) (1) (0) (by decide +kernel) (by omega)
        ·
          exact leaf41 (0) (0) (1) (1) (0) (0) (by decide +kernel) (by omega)
      ·
        by_cases z4 : R - (0 + c + e + f) ≤ 0
        ·
          by_cases z5 : b ≤ 0
          ·
            by_cases z6 : d ≤ 0
            ·
              by_cases z7 : R - (0 + a + b + c) ≤ 0
              ·
                exact leaf41 (0) (0) (1) (0) (0) (0) (by decide +kernel) (by omega)
              ·
                exact leaf41 (0) (0) (0) (0) (1) (0) (by decide +kernel) (by omega)
            ·
              exact leaf41 (0) (0) (1) (1) (0) (0) (by decide +kernel) (by omega)
          ·
            exact leaf41 (0) (1) (0) (0) (1) (0) (by decide +kernel) (by omega)
        ·
          exact leaf41 (1) (0) (0) (0) (0) (0) (by decide +kernel) (by omega)
    ·
      exact leaf41 (1) (0) (0) (0) (0) (1) (by decide +kernel) (by omega)
def in42 (p : List Int) : Bool := (LL 4 2).contains p
theorem leaf42 {a b c d e f R : Int} (pa pb pc pd pe pf : Int) (hm : in42 [pa, pb, pc, pd, pe, pf] = true) (h : pa ≤ a ∧ pb ≤ b ∧ pc ≤ c ∧ pd ≤ d ∧ pe ≤ e ∧ pf ≤ f ∧ 0 + (a - pa) + (b - pb) + (c - pc) ≤ R - 2 ∧ 0 + (a - pa) + (d - pd) + (e - pe) ≤ R - 2 ∧ 0 + (b - pb) + (d - pd) + (f - pf) ≤ R - 2 ∧ 0 + (c - pc) + (e - pe) + (f - pf) ≤ R - 2) :
    ∃ p ∈ LL 4 2, blw p [a, b, c, d, e, f] = true ∧ ∀ y ∈ sms 4 (zw (· - ·) [a, b, c, d, e, f] p), y ≤ R - 2 := by
  obtain ⟨ha, hb, hc, hd, he, hf, k0, k1, k2, k3⟩ := h
  refine ⟨[pa, pb, pc, pd, pe, pf], List.contains_iff_mem.mp hm, ?_, ?_⟩
  · simp [blw, ha, hb, hc, hd, he, hf]
  · intro y hy
    have hy : y ∈ [0 + (a - pa) + (b - pb) + (c - pc), 0 + (a - pa) + (d - pd) + (e - pe), 0 + (b - pb) + (d - pd) + (f - pf), 0 + (c - pc) + (e - pe) + (f - pf)] := hy
    simp only [List.mem_cons, List.not_mem_nil, or_false] at hy
    rcases hy with rfl | rfl | rfl | rfl <;> assumption
theorem heart42 {a b c d e f R : Int} (hn : 0 ≤ a ∧ 0 ≤ b ∧ 0 ≤ c ∧ 0 ≤ d ∧ 0 ≤ e ∧ 0 ≤ f) (g0 : 0 + a + b + c ≤ R) (g1 : 0 + a + d + e ≤ R) (g2 : 0 + b + d + f ≤ R) (g3 : 0 + c + e + f ≤ R) (hR : R % 2 = 0 ∧ 2 ≤ R) : ∃ p ∈ LL 4 2, blw p [a, b, c, d, e, f] = true ∧ ∀ y ∈ sms 4 (zw (· - ·) [a, b, c, d, e, f] p), y ≤ R - 2 := by
  obtain ⟨na, nb, nc, nd, ne, nf⟩ := hn
  obtain ⟨r1, r2⟩ := hR
  by_cases z1 : R - (0 + a + b + c) ≤ 1
  ·
    by_cases z2 : R - (0 + a + d + e) ≤ 1
    ·
      by_cases z3 : R - (0 + b + d + f) ≤ 1
      ·
        by_cases z4 : R - (0 + c + e + f) ≤ 1
        ·
          by_cases z5 : a ≤ 1
          ·
            by_cases z6 : b ≤ 1
            ·
              by_cases z7 : c ≤ 1
              ·
                by_cases z8 : a ≤ 0
                ·
                  by_cases z9 : b ≤ 0
                  ·
                    by_cases z10 : d ≤ 1
                    ·
                      by_cases z11 : e ≤ 0
                      ·
                        by_cases z12 : f ≤ 0
                        ·
                          exact leaf42 (0) (0) (1) (1) (0) (0) (by decide +kernel) (by omega)
                        ·
                          exact leaf42 (0) (0) (1) (1) (0) (1) (by decide +kernel) (by omega)
                      ·
                        exact leaf42 (0) (0) (1) (1) (1) (0) (by decide +kernel) (by omega)
                    ·
                      exact leaf42 (0) (0) (1) (2) (0) (0) (by decide +kernel) (by omega)
                  ·
                    by_cases z10 : c ≤ 0
                    ·
                      by_cases z11 : d ≤ 0
                      ·
                        by_cases z12 : e ≤ 1
                        ·
                          by_cases z13 : f ≤ 0
                          ·
                            exact leaf42 (0) (1) (0) (0) (1) (0) (by decide +kernel) (by omega)
                          ·
                            exact leaf42 (0) (1) (0) (0) (1) (1) (by decide +kernel) (by omega)
                        ·
                          exact leaf42 (0) (1) (0) (0) (2) (0) (by decide +kernel) (by omega)
                      ·
                        exact leaf42 (0) (1) (0) (1) (1) (0) (by decide +kernel) (by omega)
                    ·
                      by_cases z11 : d ≤ 0
                      ·
                        exact leaf42 (0) (1) (1) (0) (1) (0) (by decide +kernel) (by omega)
                      ·
                        by_cases z12 : e ≤ 0
                        ·
                          exact leaf42 (0) (1) (1) (1) (0) (0) (by decide +kernel) (by omega)
                        ·
                          exact leaf42 (0) (1) (1) (1) (1) (0) (by decide +kernel) (by omega)
                ·
                  by_cases z9 : b ≤ 0
                  ·
                    by_cases z10 : c ≤ 0
                    ·
                      by_cases z11 : d ≤ 0
                      ·
                        by_cases z12 : e ≤ 0
                        ·
                          by_cases z13 : f ≤ 1
                          ·
                            exact leaf42 (1) (0) (0) (0) (0) (1) (by decide +kernel) (by omega)
                          ·
                            exact leaf42 (1) (0) (0) (0) (0) (2) (by decide +kernel) (by omega)
                        ·
                          exact leaf42 (1) (0) (0) (0) (1) (1) (by decide +kernel) (by omega)
                      ·
                        exact leaf42 (1) (0) (0) (1) (0) (1) (by decide +kernel) (by omega)
                    ·
                      by_cases z11 : d ≤ 0
                      ·
                        exact leaf42 (1) (0) (1) (0) (0) (1) (by decide +kernel) (by omega)
                      ·
                        by_cases z12 : f ≤ 0
                        ·
                          exact leaf42 (1) (0) (1) (1) (0) (0) (by decide +kernel) (by omega)
                        ·
                          exact leaf42 (1) (0) (1) (1) (0) (1) (by decide +kernel) (by omega)
                  ·
                    by_cases z10 : e ≤ 0
                    ·
                      exact leaf42 (1) (1) (0) (0) (0) (1) (by decide +kernel) (by omega)
                    ·
                      by_cases z11 : f ≤ 0
                      ·
                        exact leaf42 (1) (1) (0) (0) (1) (0) (by decide +kernel) (by omega)
                      ·
                        exact leaf42 (1) (1) (0) (0) (1) (1) (by decide +kernel) (by omega)
              ·
                by_cases z8 : d ≤ 1
                ·
                  exact leaf42 (0) (0) (2) (1) (0) (0) (by decide +kernel) (by omega)
                ·
                  exact leaf42 (0) (0) (2) (2) (0) (0) (by decide +kernel) (by omega)
            ·
              by_cases z7 : e ≤ 1
              ·
                exact leaf42 (0) (2) (0) (0) (1) (0) (by decide +kernel) (by omega)
              ·
                exact leaf42 (0) (2) (0) (0) (2) (0) (by decide +kernel) (by omega)
          ·
            by_cases z6 : f ≤ 1
            ·
              exact leaf42 (2) (0) (0) (0) (0) (1) (by decide +kernel) (by omega)
            ·
              exact leaf42 (2) (0) (0) (0) (0) (2) (by decide +kernel) (by omega)
        ·
          by_cases z5 : a ≤ 0
          ·
            exact leaf42 (0) (1) (0) (1) (0) (0) (by decide +kernel) (by omega)
          ·
            by_cases z6 : b ≤ 0
            ·
              exact leaf42 (1) (0) (0) (1) (0) (0) (by decide +kernel) (by omega)
            ·
              by_cases z7 : d ≤ 0
              ·
                exact leaf42 (1) (1) (0) (0) (0) (0) (by decide +kernel) (by omega)
              ·
                exact leaf42 (1) (1) (0) (1) (0) (0) (by decide +kernel) (by omega)
      ·
        by_cases z4 : R - (0 + c + e + f) ≤ 1
        ·
          by_cases z5 : a ≤ 0
          ·
            exact leaf42 (0) (0) (1) (0) (1) (0) (by decide +kernel) (by omega)
          ·
            by_cases z6 : c ≤ 0
            ·
              exact leaf42 (1) (0) (0) (0) (1) (0) (by decide +kernel) (by omega)
            ·
              by_cases z7 : e ≤ 0
              ·
                exact leaf42 (1) (0) (1) (0) (0) (0) (by decide +kernel) (by omega)
              ·
                exact leaf42 (1) (0) (1) (0) (1) (0) (by decide +kernel) (by omega)
        ·
          by_cases z5 : a ≤ 1
          ·
            exact leaf42 (1) (0) (0) (0) (0) (0) (by decide +kernel) (by omega)
          ·
            exact leaf42 (2) (0) (0) (0) (0) (0) (by decide +kernel) (by omega)
    ·
      by_cases z3 : R - (0 + b + d + f) ≤ 1
      ·
        by_cases z4 : R - (0 + c + e + f) ≤ 1
        ·
          by_cases z5 : b ≤ 0
          ·
            exact leaf42 (0) (0) (1) (0) (0) (1) (by decide +kernel) (by omega)
          ·
            by_cases z6 : c ≤ 0
            ·
              exact leaf42 (0) (1) (0) (0) (0) (1) (by decide +kernel) (by omega)
            ·
              by_cases z7 : f ≤ 0
              ·
                exact leaf42 (0) (1) (1) (0) (0) (0) (by decide +kernel) (by omega)
              ·
                exact leaf42 (0) (1) (1) (0) (0) (1) (by decide +kernel) (by omega)
        ·
          by_cases z5 : b ≤ 1
          ·
            exact leaf42 (0) (1) (0) (0) (0) (0) (by decide +kernel) (by omega)
          ·
            exact leaf42 (0) (2) (0) (0) (0) (0) (by decide +kernel) (by omega)
      ·
        by_cases z4 : c ≤ 1
        ·
          by_cases z5 : c ≤ 0
          ·
            exact leaf42 (1) (1) (0) (0) (0) (0) (by decide +kernel) (by omega)
          ·
            by_cases z6 : a ≤ 0
            ·
              exact leaf42 (0) (0) (1) (0) (0) (0) (by decide +kernel) (by omega)
            ·
              exact leaf42 (1) (0) (1) (0) (0) (0) (by decide +kernel) (by omega)
        ·
          exact leaf42 (0) (0) (2) (0) (0) (0) (by decide +kernel) (by omega)
  ·
    by_cases z2 : R - (0 + a + d + e) ≤ 1
    ·
      by_cases z3 : R - (0 + b + d + f) ≤ 1
      ·
        by_cases z4 : R - (0 + c + e + f) ≤ 1
        ·
          by_cases z5 : d ≤ 0
          ·
            exact leaf42 (0) (0) (0) (0) (1) (1) (by decide +kernel) (by omega)
          ·
            by_cases z6 : e ≤ 0
            ·
              exact leaf42 (0) (0) (0) (1) (0) (1) (by decide +kernel) (by omega)
            ·
              by_cases z7 : f ≤ 0
              ·
                exact leaf42 (0) (0) (0) (1) (1) (0) (by decide +kernel) (by omega)
              ·
                exact leaf42 (0) (0) (0) (1) (1) (1) (by decide +kernel) (by omega)
        ·
          by_cases z5 : d ≤ 1
          ·
            exact leaf42 (0) (0) (0) (1) (0) (0) (by decide +kernel) (by omega)
          ·
            exact leaf42 (0) (0) (0) (2) (0) (0) (by decide +kernel) (by omega)
      ·
        by_cases z4 : e ≤ 1
        ·
          by_cases z5 : e ≤ 0
          ·
            exact leaf42 (1) (0) (0) (1) (0) (0) (by decide +kernel) (by omega)
          ·
            by_cases z6 : a ≤ 0
            ·
              exact leaf42 (0) (0) (0) (0) (1) (0) (by decide +kernel) (by omega)
            ·
              exact leaf42 (1) (0) (0) (0) (1) (0) (by decide +kernel) (by omega)
        ·
          exact leaf42 (0) (0) (0) (0) (2) (0) (by decide +kernel) (by omega)
    ·
      by_cases z3 : f ≤ 1
      ·
        by_cases z4 : R - (0 + b + d + f) ≤ 1
        ·
          by_cases z5 : f ≤ 0
          ·
            exact leaf42 (0) (1) (0) (1) (0) (0) (by decide +kernel) (by omega)
          ·
            by_cases z6 : b ≤ 0
            ·
              exact leaf42 (0) (0) (0) (0) (0) (1) (by decide +kernel) (by omega)
            ·
              exact leaf42 (0) (1) (0) (0) (0) (1) (by decide +kernel) (by omega)
        ·
          by_cases z5 : R - (0 + c + e + f) ≤ 1
          ·
            by_cases z6 : c ≤ 0
            ·
              exact leaf42 (0) (0) (0) (0) (0) (1) (by decide +kernel) (by omega)
            ·
              by_cases z7 : c ≤ 1
              ·
                exact leaf42 (0) (0) (1) (0) (1) (0) (by decide +kernel) (by omega)
              ·
                exact leaf42 (0) (0) (2) (0) (0) (0) (by decide +kernel) (by omega)
          ·
            exact leaf42 (0) (0) (0) (0) (0) (0) (by decide +kernel) (by omega)
      ·
        exact leaf42 (0) (0) (0) (0) (0) (2) (by decide +kernel) (by omega)
end K20
set_option Elab.async false
set_option linter.all false
set_option maxRecDepth 100000
set_option maxHeartbeats 4000000
namespace K20
open PySem PySem.Spec PyProof.Rows L2 Evl DL
local macro_rules | `(tactic| walk_at "dl") => `(tactic| first
  | exact ev_c | exact ev_var rfl | exact eda_nil
  | exact ed_var rfl (by assumption)
  | exact ed_int ev_c | exact ed_int (ev_var rfl)
  | (refine eda_cons ?_ ?_ <;> walk_at "dl")
  | (refine ed_int ?_; walk_at "dl")
  | (refine ev_op ?_ ?_ rv_I0 <;> walk_at "dl"))

theorem mxl_le {l : List Int} {R : Int} (h0 : 0 < l.length) (h : ∀ y ∈ l, y ≤ R) : mxl l ≤ R := h _ (mxl_mem h0)
theorem heart {s own R : Int} {l : List Int} (h1 : 2 ≤ s) (h2 : s ≤ 4) (hl : Ld s l) (hm : mxl (sms s l) ≤ R) (ho : own = 2 ∧ R % 2 = 0 ∧ 2 ≤ R ∨ own = 1 ∧ R % 2 = 1 ∧ 1 ≤ R) :
    ∃ p ∈ LL s own, blw p l = true ∧ mxl (sms s (zw (· - ·) l p)) ≤ R - own := by
  have hy : ∀ y ∈ sms s l, y ≤ R := fun y hy => Int.le_trans (mxl_ge hy) hm
  have fin : (∃ p ∈ LL s own, blw p l = true ∧ ∀ y ∈ sms s (zw (· - ·) l p), y ≤ R - own) → ∃ p ∈ LL s own, blw p l = true ∧ mxl (sms s (zw (· - ·) l p)) ≤ R - own := fun ⟨p, a, b, c⟩ =>
    ⟨p, a, b, mxl_le (by rw [sms_len]; omega) c⟩
  apply fin
  obtain ⟨hlen, hb⟩ := hl
  have hs' : s = 2 ∨ s = 3 ∨ s = 4 := by omega
  rcases hs' with rfl | rfl | rfl
  · match l, hlen with
    | [a], _ =>
      have n := hb a (by simp)
      have g : ∀ y ∈ [0 + a, 0 + a], y ≤ R := hy
      rcases ho with ⟨rfl, hR⟩ | ⟨rfl, hR⟩
      · exact heart22 n.1 (g _ (by simp)) (g _ (by simp)) hR
      · exact heart21 n.1 (g _ (by simp)) (g _ (by simp)) hR
  · match l, hlen with
    | [a, b, c], _ =>
      have na := hb a (by simp)
      have nb := hb b (by simp)
      have nc := hb c (by simp)
      have g : ∀ y ∈ [0 + a + b, 0 + a + c, 0 + b + c], y ≤ R := hy
      rcases ho with ⟨rfl, hR⟩ | ⟨rfl, hR⟩
      · exact heart32 ⟨na.1, nb.1, nc.1⟩ (g _ (by simp)) (g _ (by simp)) (g _ (by simp)) hR
      · exact heart31 ⟨na.1, nb.1, nc.1⟩ (g _ (by simp)) (g _ (by simp)) (g _ (by simp)) hR
  · match l, hlen with
    | [a, b, c, d, e, f], _ =>
      have na := hb a (by simp)
      have nb := hb b (by simp)
      have nc := hb c (by simp)
      have nd := hb d (by simp)
      have ne := hb e (by simp)
      have nf := hb f (by simp)
      have g : ∀ y ∈ [0 + a + b + c, 0 + a + d + e, 0 + b + d + f, 0 + c + e + f], y ≤ R := hy
      rcases ho with ⟨rfl, hR⟩ | ⟨rfl, hR⟩
      · exact heart42 ⟨na.1, nb.1, nc.1, nd.1, ne.1, nf.1⟩ (g _ (by simp)) (g _ (by simp)) (g _ (by simp)) (g _ (by simp)) hR
      · exact heart41 ⟨na.1, nb.1, nc.1, nd.1, ne.1, nf.1⟩ (g _ (by simp)) (g _ (by simp)) (g _ (by simp)) (g _ (by simp)) hR
def goodL (s t : Int) : Bool := (LL s t).all fun p => decide (p.length = np s) && p.all (fun x => decide (0 ≤ x) && decide (x ≤ 2)) && decide (mxl (sms s p) ≤ t)
theorem goods {s own : Int} (h1 : 2 ≤ s) (h2 : s ≤ 4) (ho : own = 2 ∨ own = 1) : goodL s own = true ∧ (liter s own 400).1 = [] := by
  have hs' : s = 2 ∨ s = 3 ∨ s = 4 := by omega
  have key : (goodL 2 2 && goodL 3 2 && goodL 4 2 && goodL 2 1 && goodL 3 1 && goodL 4 1) = true := by decide +kernel
  have em : (liter 2 2 400).1 = [] ∧ (liter 3 2 400).1 = [] ∧ (liter 4 2 400).1 = [] ∧ (liter 2 1 400).1 = [] ∧ (liter 3 1 400).1 = [] ∧ (liter 4 1 400).1 = [] := by decide +kernel
  simp only [Bool.and_eq_true] at key
  obtain ⟨⟨⟨⟨⟨a, b⟩, c⟩, d⟩, e⟩, f⟩ := key
  obtain ⟨a', b', c', d', e', f'⟩ := em
  rcases hs' with rfl | rfl | rfl <;> rcases ho with rfl | rfl
  · exact ⟨a, a'⟩
  · exact ⟨d, d'⟩
  · exact ⟨b, b'⟩
  · exact ⟨e, e'⟩
  · exact ⟨c, c'⟩
  · exact ⟨f, f'⟩
theorem good_mem {s own : Int} (h1 : 2 ≤ s) (h2 : s ≤ 4) (ho : own = 2 ∨ own = 1) {p : List Int} (h : p ∈ LL s own) : Ld s p ∧ mxl (sms s p) ≤ own := by
  have g := (goods h1 h2 ho).1
  have g := List.all_eq_true.mp g p h
  simp only [Bool.and_eq_true, decide_eq_true_eq, List.all_eq_true] at g
  exact ⟨⟨g.1.1, fun x hx => by have := g.1.2 x hx; omega⟩, g.2⟩
section
variable {P : Program} {w : World} {K : PySem.W.Frag} {mg : Str → Option Value} {base : Heap}
def okp (s : Int) (l : List Int) (m : Int) (p : List Int) : Bool := blw p l && decide (mxl (sms s (zw (· - ·) l p)) ≤ m)
def R_is_part (ds : List PyData) (r : PyData) : Prop := ∃ (s : Int) (l p : List Int) (m : Int), ds = [.int s, tI l, tI p, .int m] ∧ 2 ≤ s ∧ s ≤ 4 ∧ Ld s l ∧ Ld s p ∧ r = .bool (okp s l m p)
abbrev s_is_part : Stmt := topS 47
abbrev N_is_part : List Str := ["sides", "load", "part", "room"]
theorem sc_is_part : FnScope N_is_part ["sides", "load", "part", "room"] (defScope s_is_part) := ⟨rfl, rfl, rfl, by decide +kernel, rfl, by decide +kernel, by decide +kernel⟩
theorem ok_is_part {f : Addr} {fd : FuncData} (F : Fun K "is_part" "is_part" s_is_part f fd) (T : Txt mg)
    (D_is_below : DF P w K mg base "is_below" 1 ["one", "other"] (spD K 2 R_is_below)) (D_is_let : DF P w K mg base "is_let" 3 ["sides", "load", "room"] (spD K 3 R_is_let)) (D_reduced : DF P w K mg base "reduced" 1 ["load", "part"] (spD K 2 R_reduced)) :
    FnOk P w K mg base CX0 4 f fd ["sides", "load", "part", "room"] (spD K 4 R_is_part) := by
  refine F.ok sc_is_part (fun vs H Q E h => spD_len h) (fun cdv A outer s H vs Q E hr h => ?_)
  obtain ⟨ds, r, hd, _, ⟨x, l, p, m, rfl, h1, h2, hl, hp, rfl⟩, k⟩ := h
  obtain ⟨v0, v1, v2, v3, rfl, d0, d1, d2, d3⟩ := dpa_four hd
  cases dp_int d0
  cases dp_int d3
  refine ⟨_, (pss_one (ps_ret (pe_and (pe_D D_is_below (hr.mono (by decide)) (by rfl) (pa_cons (pv 2) (pa_cons (pv 1) pa_nil))) (pe_one (pe_D D_is_let (hr.mono (by decide)) (by rfl) (pa_cons (pv 0) (pa_cons (pe_D D_reduced (hr.mono (by decide)) (by rfl) (pa_cons (pv 1) (pa_cons (pv 2) pa_nil))) (pa_cons (pv 3) pa_nil)))))))), ?_⟩
  have np10 := np_le (s := x) h1 (by omega)
  have ll : l.length = np x := hl.1
  have lp : p.length = np x := hp.1
  exact d_ret (K := K) (ed_bool (ev_andV (a := blw p l) (EvD.bool (ed_call (R := R_is_below) (ds := [tI p, tI l]) (eda_cons (ed_var (v := v2) rfl d2) (eda_cons (ed_var (v := v1) rfl d1) eda_nil)) rfl ⟨p, l, rfl, rfl⟩)) fun _ => EvD.bool (ed_call (R := R_is_let) (ds := [.int x, tI (zw (· - ·) l p), .int m]) (eda_cons (ed_int (ev_var rfl)) (eda_cons (ed_call (R := R_reduced) (ds := [tI l, tI p]) (eda_cons (ed_var (v := v1) rfl d1) (eda_cons (ed_var (v := v2) rfl d2) eda_nil)) rfl ⟨l, p, rfl, by omega, rfl⟩) (eda_cons (ed_int (ev_var rfl)) eda_nil))) rfl ⟨x, _, m, rfl, h1, by omega, rfl⟩))) k

def R_part_off (ds : List PyData) (r : PyData) : Prop := ∃ (s : Int) (l : List Int) (L : List (List Int)) (m : Int) (part : List Int), ds = [.int s, tI l, .list (L.map tI), .int m] ∧ 2 ≤ s ∧ s ≤ 4 ∧ (∀ p ∈ L, Ld s p) ∧ Ld s l ∧ L.find? (okp s l m) = some part ∧ r = tI part
theorem find_at {α : Type} {f : α → Bool} : ∀ {l : List α} {i : Nat} {x : α}, l[i]? = some x → f x = true → (∀ j, j < i → ∀ y, l[j]? = some y → f y = false) → l.find? f = some x
  | [], _, _, h, _, _ => by simp at h
  | a :: l, 0, x, h, hx, _ => by
    simp at h
    subst h
    rw [List.find?_cons, hx]
  | a :: l, i + 1, x, h, hx, hn => by
    rw [List.find?_cons, hn 0 (by omega) a rfl]
    exact find_at (by simpa using h) hx fun j hj y hy => hn (j + 1) (by omega) y (by simpa using hy)
abbrev s_part_off : Stmt := topS 48
abbrev N_part_off : List Str := ["sides", "load", "parts", "room", "part"]
theorem sc_part_off : FnScope N_part_off ["sides", "load", "parts", "room"] (defScope s_part_off) := ⟨rfl, rfl, rfl, by decide +kernel, rfl, by decide +kernel, by decide +kernel⟩
theorem ok_part_off {f : Addr} {fd : FuncData} (F : Fun K "part_off" "part_off" s_part_off f fd) (T : Txt mg)
    (D_is_part : DF P w K mg base "is_part" 4 ["sides", "load", "part", "room"] (spD K 4 R_is_part)) :
    FnOk P w K mg base CX0 5 f fd ["sides", "load", "parts", "room"] (spD K 4 R_part_off) := by
  refine F.ok sc_part_off (fun vs H Q E h => spD_len h) (fun cdv A outer s H vs Q E hr h => ?_)
  obtain ⟨ds, r, hd, _, ⟨x, l, L, m, part, rfl, h1, h2, h3, hl, hf, rfl⟩, k⟩ := h
  obtain ⟨v0, v1, v2, v3, rfl, d0, d1, d2, d3⟩ := dpa_four hd
  cases dp_int d0
  cases dp_int d3
  refine ⟨_, (pss_cons (ps_for PassesOwn.never rfl (pi_list (pv 2)) (pg_name (i := 4) sc_part_off.nd rfl (Or.inl rfl)) (pss_one (ps_if (pt_val (pe_D D_is_part (hr.mono (by decide)) (by rfl) (pa_cons (pv 0) (pa_cons (pv 1) (pa_cons (pv 4) (pa_cons (pv 3) pa_nil)))))) (pss_one (ps_ret (pv 4))) pss_nil)))
      (pss_one (ps_ret pe_non))), ?_⟩
  refine e_for (S := []) (ei_lstD (K := K) (ds := L.map tI) (ed_var (v := v2) rfl d2) (immAll_tI _))
    (fun H2 i σ' Ha => Ex H2 Ha ∧ (∀ j, j < i → ∀ y, L[j]? = some y → okp x l m y = false) ∧ ∃ a, σ' = [some (.int x), some v1, some v2, some (.int m), a])
    (fun H2 e2 => ⟨Ex.refl _, fun j hj => absurd hj (by omega), none, rfl⟩) (fun H2 i σ' Ha _ z => Xp.of_ex z.1) ?_ ?_
  · rintro H2 i d y σ' Ha Hb e2 hdi ⟨p1, pn, a, rfl⟩ eb hy
    rw [List.getElem?_map] at hdi
    obtain ⟨p, hp, rfl⟩ := Option.map_eq_some_iff.mp hdi
    have hg := h3 p (List.mem_of_getElem? hp)
    have d1 := dp_ex ((e2.trans p1).trans eb) _ _ d1
    show tIfS _ _ _ _ [some (.int x), some v1, some v2, some (.int m), some y] Hb
    refine s_when (b := okp x l m p) (et_B (EvD.bool (ed_call (R := R_is_part) (ds := [.int x, tI l, tI p, .int m]) (eda_cons (ed_int (ev_var rfl)) (eda_cons (ed_var (v := v1) rfl d1) (eda_cons (ed_var (v := y) rfl hy) (eda_cons (ed_int (ev_var rfl)) eda_nil)))) rfl ⟨x, l, p, m, rfl, h1, h2, hl, hg, rfl⟩))) (fun hb H4 e4 => ?_) fun hb H4 e4 => ?_
    · have e := find_at hp hb pn
      rw [hf] at e
      cases e
      exact d_ret (K := K) (ed_var rfl (dp_ex e4 _ _ hy)) fun v H5 e5 hv => k v H5 ((((e2.trans p1).trans eb).trans e4).trans e5) hv
    · refine ⟨(p1.trans eb).trans e4, fun j hj z hz => ?_, _, rfl⟩
      by_cases hji : j = i
      · subst hji
        rw [hp] at hz
        cases hz
        exact hb
      · exact pn j (by omega) z hz
  · rintro H2 σ' Ha e2 ⟨p1, pn, a, rfl⟩
    exfalso
    have m1 := List.mem_of_find?_eq_some hf
    have m2 := List.find?_some hf
    obtain ⟨i, hi, e⟩ := List.getElem_of_mem m1
    have q := pn i (by rw [List.length_map]; exact hi) part (by rw [List.getElem?_eq_getElem hi, e])
    rw [m2] at q
    cases q

end
end K20
set_option Elab.async false
set_option linter.all false
set_option maxRecDepth 100000
set_option maxHeartbeats 4000000
/-! name = {a dict comprehension} on one line, the name a local -/
namespace DL
open PySem PySem.Spec PyProof.Rows L2 Evl
variable {X : Cx}
theorem ps_setDc {i : Nat} {y : Str} {py : Pos} {kx vx tg iter : Expr} {ifs : List Expr} {scope : Scope} {own : List (Str × Nat)} {pos spos : Pos} {wi : TI} {g : TG} {tt : TT} {tk tv : TE} (hc : X.calm = true) (hN : X.N.Nodup) (hy : X.N[i]? = some y) (hyl : X.env.scope.names.lookup y = some .local)
    (hsw : swapsWith (.DictComp kx vx [⟨tg, iter, ifs, 0⟩] scope pos) (some (.Name y py)) spos.line X.env = pure true) (hi : PI X tg iter wi) (ok : BlkOk X.N X.env.scope scope own)
    (hg : ∀ (s : Shared) (H : Hp) (C : Addr) (cl : List (Str × Addr)) (fp : List Addr), PG (X.blk s H scope (compEnvC scope cl C X.env) fp) tg g) (ht : ∀ (s : Shared) (H : Hp) (C : Addr) (cl : List (Str × Addr)) (fp : List Addr), PTs (X.blk s H scope (compEnvC scope cl C X.env) fp) ifs tt)
    (hk : ∀ (s : Shared) (H : Hp) (C : Addr) (cl : List (Str × Addr)) (fp : List Addr), PE (X.blk s H scope (compEnvC scope cl C X.env) fp) kx tk)
    (he : ∀ (s : Shared) (H : Hp) (C : Addr) (cl : List (Str × Addr)) (fp : List Addr), PE (X.blk s H scope (compEnvC scope cl C X.env) fp) vx tv) (hs : ∀ x, foldedSetIterable iter X.env x = pure x := by intro _; rfl) :
    PS X (.Assign [.Name y py] (.DictComp kx vx [⟨tg, iter, ifs, 0⟩] scope pos) spos) (tAsg (tDc wi g tt tk tv (own.map (·.2))) (gName i)) := by
  refine ⟨fun pins s σ H D I h => ?_⟩
  rw [exec_Assign_Name_used _ _ _ _ hsw]
  refine wpAny_bind (wpAny_standAt (wpAny_bind ?_))
  show wpAny _ X.A (do let _ ← comprehension (.DictComp kx vx [⟨tg, iter, ifs, 0⟩] scope pos) scope X.env (firstIterPos [⟨tg, iter, ifs, 0⟩] pos) newDict false (eval iter X.env) (some (assign (.Name y py) X.env))) _ _ s
  have h : tDc wi g tt tk tv (own.map (·.2)) σ H (fun x H1 => gName i x σ H1 D.nx) := h
  refine wpAny_bind (thn (dc_core (Qf := fun _ s' => SP X pins D .next s') hc hN I hi ok hg ht hk he hs h fun L C s' m H' I' q hn f => ?_) fun _ s' hq => wpAny_pure (wpAny_pure hq))
  show wpAny _ _ (assign (.Name y py) X.env (.ref L)) _ _ _
  refine wpAny_assign_Name (store_ok2 (v := V.ref L) I' hN hy (.inl hyl) rfl (fun s2 I2 ⟨a, sb, ha⟩ => ?_) (.inr hyl))
  obtain ⟨f0, f1, f2, f3, f4, f5⟩ := f
  have haC : C ≠ a := by
    rcases ha with z | z
    · rw [z]; exact f1
    · exact fun e => f4 y a z e.symm
  refine ⟨m, hn.sameBut sb haC, fun h3 sb3 => ?_⟩
  exact ⟨_, H', I2.turned (t' := s2.toks) (fun b o hb e => (sb3.2 b hb).trans e) f0 f1 f3 f4 f5, q⟩
theorem swd_true {kx vx : Expr} {gs : List Comprehension} {scope : Scope} {pos py : Pos} {y : Str} {l : Nat} {env : Env} (hk : env.scope.kind = .function) (hy : env.scope.names.lookup y = some .local) (hl : (py.line == pos.line) = true)
    (ha : (scope.names.any fun (n, k) => n == y && (k == .local || k == .cell)) = false) : swapsWith (.DictComp kx vx gs scope pos) (some (.Name y py)) l env = pure true := by
  have ky : env.kindOf y = some .local := hy
  have hb : env.blockKind = .function := by unfold Env.blockKind; rw [hk]; rfl
  unfold swapsWith
  simp only [hb, ky, ha, Expr.pos, hl]
  rfl
end DL
set_option Elab.async false
set_option linter.all false
set_option maxRecDepth 100000
set_option maxHeartbeats 4000000
namespace K20
open PySem PySem.Spec PyProof.Rows L2 Evl DL
local macro_rules | `(tactic| walk_at "dl") => `(tactic| first
  | exact ev_c | exact ev_var rfl | exact eda_nil
  | exact ed_var rfl (by assumption)
  | exact ed_int ev_c | exact ed_int (ev_var rfl)
  | (refine eda_cons ?_ ?_ <;> walk_at "dl")
  | (refine ed_int ?_; walk_at "dl")
  | (refine ev_op ?_ ?_ rv_I0 <;> walk_at "dl"))

section
variable {P : Program} {w : World} {K : PySem.W.Frag} {mg : Str → Option Value} {base : Heap}
def P_crossed_split (ds : List PyData) : Prop := ∃ (s : Int) (l : List Int) (m : Int), ds = [.int s, tI l, .int m] ∧ 2 ≤ s ∧ s ≤ 4 ∧ Ld s l ∧ 0 ≤ m ∧ m ≤ 99
def Q_crossed_split (ds : List PyData) (r : PyData) : Prop := ∃ (s : Int) (l : List Int) (m : Int), ds = [.int s, tI l, .int m] ∧ if mxl (sms s l) ≤ m then ∃ ps, r = .list (ps.map tI) ∧ Adds s l (mrm m) ps else r = .none
theorem cut_take {ds : List PyData} {k : Nat} (h : k ≤ ds.length) : cutD ds none (some (k : Int)) = ds.take k := by
  have e : HT.sIx ds.length ds.length (some (k : Int)) = k := by
    rw [HT.sIx_nat]
    omega
  have e0 : HT.sIx ds.length 0 none = 0 := by simp [HT.sIx]
  rw [DL.cutD, e, e0]
  simp
def mrmOk (m : Nat) : Bool := (List.range (mrm (m : Int)).length).all (fun k => decide (((mrm (m : Int)).take (k + 1)).sum = ((mrm (m : Int)).take k).sum + (mrm (m : Int)).getD k 0) &&
  (((mrm (m : Int)).getD k 0 == 2 && ((mrm (m : Int)).take (k + 1)).sum % 2 == 0 && decide (2 ≤ ((mrm (m : Int)).take (k + 1)).sum)) || ((mrm (m : Int)).getD k 0 == 1 && ((mrm (m : Int)).take (k + 1)).sum % 2 == 1 && decide (1 ≤ ((mrm (m : Int)).take (k + 1)).sum)))) &&
  decide ((mrm (m : Int)).sum = (m : Int)) && decide ((mrm (m : Int)).length ≤ 50)
theorem mrm_all : (List.range 100).all mrmOk = true := by decide +kernel
theorem mrm_ok {m : Int} (h1 : 0 ≤ m) (h2 : m ≤ 99) : (mrm m).sum = m ∧ (mrm m).length ≤ 50 ∧ ∀ k, k < (mrm m).length → ((mrm m).take (k + 1)).sum = ((mrm m).take k).sum + (mrm m).getD k 0 ∧
    ((mrm m).getD k 0 = 2 ∧ ((mrm m).take (k + 1)).sum % 2 = 0 ∧ 2 ≤ ((mrm m).take (k + 1)).sum ∨ (mrm m).getD k 0 = 1 ∧ ((mrm m).take (k + 1)).sum % 2 = 1 ∧ 1 ≤ ((mrm m).take (k + 1)).sum) := by
  obtain ⟨n, rfl⟩ := Int.eq_ofNat_of_zero_le h1
  have g := List.all_eq_true.mp mrm_all n (List.mem_range.mpr (by omega))
  simp only [mrmOk, Bool.and_eq_true, decide_eq_true_eq, List.all_eq_true, Bool.or_eq_true, beq_iff_eq, List.mem_range] at g
  refine ⟨g.1.2, g.2, fun k hk => ?_⟩
  obtain ⟨a, b⟩ := g.1.1 k hk
  refine ⟨a, ?_⟩
  rcases b with b | b
  · exact .inl ⟨b.1.1, b.1.2, b.2⟩
  · exact .inr ⟨b.1.1, b.1.2, b.2⟩
theorem zw_back : ∀ {a b : List Int}, a.length = b.length → zw (· + ·) (zw (· - ·) a b) b = a
  | [], [], _ => rfl
  | x :: a, y :: b, h => by
    have ih := zw_back (a := a) (b := b) (by simpa using h)
    show (x - y + y) :: zw (· + ·) (zw (· - ·) a b) b = x :: a
    rw [ih, Int.sub_add_cancel]
theorem zw_sub_ld : ∀ {a b : List Int}, blw b a = true → (∀ x ∈ a, 0 ≤ x ∧ x ≤ 99) → (∀ x ∈ b, 0 ≤ x ∧ x ≤ 99) → ∀ x ∈ zw (· - ·) a b, 0 ≤ x ∧ x ≤ 99
  | [], _, _, _, _, x, hx => by simp [zw] at hx
  | _ :: _, [], _, _, _, x, hx => by simp [zw] at hx
  | p :: a, q :: b, h, ha, hb, x, hx => by
    rw [blw, List.zipWith_cons_cons, List.all_cons, Bool.and_eq_true] at h
    rcases List.mem_cons.mp (show x ∈ (p - q) :: zw (· - ·) a b from hx) with rfl | hx
    · have h1 : q ≤ p := of_decide_eq_true h.1
      have h2 := ha p List.mem_cons_self
      have h3 := hb q List.mem_cons_self
      omega
    · exact zw_sub_ld (a := a) (b := b) h.2 (fun y hy => ha y (List.mem_cons_of_mem _ hy)) (fun y hy => hb y (List.mem_cons_of_mem _ hy)) x hx
theorem zer_of {s : Int} {l : List Int} (h1 : 2 ≤ s) (h2 : s ≤ 4) (hl : Ld s l) (h : mxl (sms s l) ≤ 0) : l = zer s := by
  have hy : ∀ y ∈ sms s l, y ≤ 0 := fun y hy => Int.le_trans (mxl_ge hy) h
  obtain ⟨hlen, hb⟩ := hl
  have hs' : s = 2 ∨ s = 3 ∨ s = 4 := by omega
  rcases hs' with rfl | rfl | rfl
  · match l, hlen with
    | [a], _ =>
      have n := hb a (by simp)
      have g : ∀ y ∈ [0 + a, 0 + a], y ≤ 0 := hy
      have g1 := g (0 + a) (by simp)
      have : a = 0 := by omega
      subst this
      rfl
  · match l, hlen with
    | [a, b, c], _ =>
      have na := hb a (by simp)
      have nb := hb b (by simp)
      have nc := hb c (by simp)
      have g : ∀ y ∈ [0 + a + b, 0 + a + c, 0 + b + c], y ≤ 0 := hy
      have g1 := g (0 + a + b) (by simp)
      have g2 := g (0 + a + c) (by simp)
      have : a = 0 ∧ b = 0 ∧ c = 0 := by omega
      obtain ⟨rfl, rfl, rfl⟩ := this
      rfl
  · match l, hlen with
    | [a, b, c, d, e, f], _ =>
      have na := hb a (by simp)
      have nb := hb b (by simp)
      have nc := hb c (by simp)
      have nd := hb d (by simp)
      have ne := hb e (by simp)
      have nf := hb f (by simp)
      have g : ∀ y ∈ [0 + a + b + c, 0 + a + d + e, 0 + b + d + f, 0 + c + e + f], y ≤ 0 := hy
      have g1 := g (0 + a + b + c) (by simp)
      have g2 := g (0 + a + d + e) (by simp)
      have g3 := g (0 + b + d + f) (by simp)
      have : a = 0 ∧ b = 0 ∧ c = 0 ∧ d = 0 ∧ e = 0 ∧ f = 0 := by omega
      obtain ⟨rfl, rfl, rfl, rfl, rfl, rfl⟩ := this
      rfl
theorem cut_drop {ds : List PyData} {k : Nat} (h : k ≤ ds.length) : cutD ds (some (k : Int)) none = ds.drop k := by
  have e : HT.sIx ds.length 0 (some (k : Int)) = k := by
    rw [HT.sIx_nat]
    omega
  have e0 : HT.sIx ds.length ds.length none = ds.length := by simp [HT.sIx]
  rw [DL.cutD, e, e0]
  rw [List.take_of_length_le (by rw [List.length_drop]; exact Nat.le_refl _)]
/-- the dict of the loads of both rooms -/
def PD (K : PySem.W.Frag) (s : Int) (H : Hp) (D p : Addr) : Prop := D ≠ p ∧ ∃ a1 a2 ws1 ws2, H D = some (.dK [(.inl 1, .ref a1), (.inl 2, .ref a2)]) ∧ a1 ≠ p ∧ a2 ≠ p ∧ H a1 = some (.lst ws1) ∧ H a2 = some (.lst ws2) ∧ DpAll K H ws1 ((LL s 1).map tI) ∧ DpAll K H ws2 ((LL s 2).map tI)
theorem pd_xp {K : PySem.W.Frag} {s : Int} {H H' : Hp} {D p : Addr} {ys : List V} (hp : H p = some (.lst ys)) (x : Xp [p] H H') (h : PD K s H D p) : PD K s H' D p := by
  obtain ⟨n, a1, a2, ws1, ws2, hD, n1, n2, h1, h2, d1, d2⟩ := h
  have tx : Tx H H' := x.tx (Ls.one hp)
  exact ⟨n, a1, a2, ws1, ws2, x _ _ hD (by simpa using n), n1, n2, x _ _ h1 (by simpa using n1), x _ _ h2 (by simpa using n2), dpa_tx tx _ _ (immAll_tI _) d1, dpa_tx tx _ _ (immAll_tI _) d2⟩
/-- the loop's word at the i-th turn -/
def CW (K : PySem.W.Frag) (s : Int) (l : List Int) (m : Int) (v1 : V) (q p D : Addr) (H2 : Hp) (i : Nat) (σ : L2.St) (Ha : Hp) : Prop :=
  Xp [p] H2 Ha ∧ ∃ (qs : List (List Int)) (left : List Int) (ws : List V) (vl vp : V) (a b c : Option V), Ha p = some (.lst ws) ∧ DpAll K Ha ws (qs.reverse.map tI) ∧ qs.length = i ∧ Ld s left ∧ mxl (sms s left) ≤ ((mrm m).take ((mrm m).length - i)).sum ∧
    Paired (fun part r => mxl (sms s part) ≤ r) qs ((mrm m).drop ((mrm m).length - i)) ∧ (∀ part ∈ qs, Ld s part) ∧ qs.foldl (zw (· + ·)) left = l ∧ Dp K Ha vl (tI left) ∧
    ((qs = [] ∧ vp = .non) ∨ ∃ pp qs', qs = pp :: qs' ∧ Dp K Ha vp (tI pp) ∧ pp ∈ LL s ((mrm m).getD ((mrm m).length - i) 0)) ∧
    σ = [some (.int s), some v1, some (.int m), some (.ref q), some (.ref p), some vl, some (.ref D), some vp, a, b, c]
theorem cs_end {K : PySem.W.Frag} {x m own : Int} {l left pt : List Int} {v1 vl v : V} {q p D : Addr} {H8 H9 : Hp} {i kk : Nat} {qs : List (List Int)} {ws : List V} {c : Option V} (h1 : 2 ≤ x) (h2 : x ≤ 4) (r0 : own = 2 ∨ own = 1) (xp : Xp [p] H8 H9) (hp : H9 p = some (.lst ws)) (dws : DpAll K H9 ws (qs.reverse.map tI)) (lqs : qs.length = i)
    (kk1 : kk < (mrm m).length) (m2 : (mrm m).length ≤ 50) (hkk : (mrm m).length - i = kk + 1) (hown : (mrm m).getD kk 0 = own) (hle : Ld x left) (pr : Paired (fun part r => mxl (sms x part) ≤ r) qs ((mrm m).drop (kk + 1))) (hld : ∀ part ∈ qs, Ld x part) (hfo : qs.foldl (zw (· + ·)) left = l) (dl : Dp K H9 vl (tI left))
    (hin : pt ∈ LL x own) (hok : okp x left ((mrm m).take kk).sum pt = true) (hv : Dp K H9 v (tI pt)) {Dx : Ends} (z : ∀ σ' H', CW K x l m v1 q p D H8 (i + 1) σ' H' → Dx.nx σ' H') :
    tSeq (tAsg (tCall (spD K 2 R_reduced) [] E0 (tCons (tVar 5) (tCons (tVar 7) tNil))) (gName 5)) (tDrop (tBM K "list" rAppend (tVar 4) (tCons (tVar 7) tNil))) Dx [some (.int x), some v1, some (.int m), some (.ref q), some (.ref p), some vl, some (.ref D), some v, some (.int (kk : Int)), some (.int ((mrm m).take kk).sum), c] H9 := by
  have np10 := np_le (s := x) h1 (by omega)
  obtain ⟨g1, g2⟩ := good_mem h1 h2 r0 hin
  simp only [okp, Bool.and_eq_true, decide_eq_true_eq] at hok
  obtain ⟨f1, f2⟩ := hok
  refine qd_asg (K := K) (ed_call (R := R_reduced) (ds := [tI left, tI pt]) (eda_cons (ed_var rfl dl) (eda_cons (ed_var rfl hv) eda_nil)) rfl ⟨left, pt, rfl, by rw [hle.1]; omega, rfl⟩) fun vr Ha2 e10 hvr => ?_
  have lws := dpa_len dws
  rw [List.length_map, List.length_reverse] at lws
  refine d_app (K := K) (d := tI pt) (e10 _ _ hp) (ev_var rfl) (ed_var (v := v) rfl (dp_ex e10 _ _ hv)) (by omega) fun vv Hc e11 hvv => z _ _ ?_
  have hpc := e11 _ _ (e10 _ _ hp)
  refine ⟨Xp.upd (xp.then (e10.trans e11)) (by simp), pt :: qs, zw (· - ·) left pt, _, vr, v, _, _, _, upd_same, ?_, by rw [List.length_cons, lqs], ⟨by rw [zw_len (by rw [hle.1, g1.1])]; exact hle.1, zw_sub_ld f1 hle.2 g1.2⟩, ?_, ?_, ?_, ?_, dp_tx (Tx.lst hpc) _ _ (imm_tI _) (dp_ex e11 _ _ hvr), .inr ⟨pt, qs, rfl, dp_tx (Tx.lst hpc) _ _ (imm_tI _) (dp_ex (e10.trans e11) _ _ hv), ?_⟩, rfl⟩
  · rw [List.reverse_cons, List.map_append]
    exact dpa_app (dpa_tx (Tx.lst hpc) _ _ (immAll_tI _) (dpa_ex (e10.trans e11) _ _ dws)) (.cons (dp_tx (Tx.lst hpc) _ _ (imm_tI _) hvv) .nil)
  · rw [show (mrm m).length - (i + 1) = kk by omega]
    exact f2
  · rw [show (mrm m).length - (i + 1) = kk by omega, List.drop_eq_getElem_cons kk1]
    refine .cons ?_ pr
    have : (mrm m)[kk]'kk1 = own := by
      rw [← hown, List.getD_eq_getElem?_getD, List.getElem?_eq_getElem kk1]
      rfl
    rw [this]
    exact g2
  · intro z hz
    rcases List.mem_cons.mp hz with rfl | hz
    · exact g1
    · exact hld z hz
  · rw [List.foldl_cons, zw_back (by rw [hle.1, g1.1])]
    exact hfo
  · rw [show (mrm m).length - (i + 1) = kk by omega, hown]
    exact hin
abbrev s_crossed_split : Stmt := topS 49
abbrev N_crossed_split : List Str := ["sides", "load", "room", "rooms", "found", "left", "parts", "part", "k", "rest", "own"]
theorem sc_crossed_split : FnScope N_crossed_split ["sides", "load", "room"] (defScope s_crossed_split) := ⟨rfl, rfl, rfl, by decide +kernel, rfl, by decide +kernel, by decide +kernel⟩
theorem ok_crossed_split {f : Addr} {fd : FuncData} (F : Fun K "crossed_split" "crossed_split" s_crossed_split f fd) (T : Txt mg)
    (D_check_load : DF P w K mg base "check_load" 3 ["sides", "load"] (spD K 2 R_check_load)) (D_check_room : DF P w K mg base "check_room" 3 ["room"] (spD K 1 R_check_room)) (D_check_sides : DF P w K mg base "check_sides" 3 ["sides", "most"] (spD K 2 R_check_sides)) (D_is_let : DF P w K mg base "is_let" 3 ["sides", "load", "room"] (spD K 3 R_is_let)) (D_is_part : DF P w K mg base "is_part" 4 ["sides", "load", "part", "room"] (spD K 4 R_is_part)) (D_let_loads : DF P w K mg base "let_loads" 2 ["sides", "tracks", "most"] (spN K 3 R_let_loads)) (D_mates_rooms : DF P w K mg base "mates_rooms" 1 ["room"] (spN K 1 R_mates_rooms)) (D_part_off : DF P w K mg base "part_off" 5 ["sides", "load", "parts", "room"] (spD K 4 R_part_off)) (D_reduced : DF P w K mg base "reduced" 1 ["load", "part"] (spD K 2 R_reduced)) :
    FnOk P w K mg base CX0 6 f fd ["sides", "load", "room"] (spX K 3 P_crossed_split Q_crossed_split) := by
  refine F.ok sc_crossed_split (fun vs H Q E h => spX_len h) (fun cdv A outer s H vs Q E hr h => ?_)
  obtain ⟨ds, hd, _, ⟨x, l, m, rfl, h1, h2, hl, h3, h4⟩, k⟩ := h
  obtain ⟨v0, v1, v2, rfl, d0, d1, d2⟩ := dpa_three hd
  cases dp_int d0
  cases dp_int d2
  have k : ∀ r v H', (if mxl (sms x l) ≤ m then ∃ ps, r = .list (ps.map tI) ∧ Adds x l (mrm m) ps else r = .none) → Ex H H' → Dp K H' v r → Q v H' := fun r v H' h => k r v H' ⟨x, l, m, rfl, h⟩
  refine ⟨_, (pss_cons (ps_expr (pe_D D_check_sides (hr.mono (by decide)) (by rfl) (pa_cons (pv 0) (pa_cons (pe_const T.c_MOST_SIDES (by rfl)) pa_nil))))
      (pss_cons (ps_expr (pe_D D_check_load (hr.mono (by decide)) (by rfl) (pa_cons (pv 0) (pa_cons (pv 1) pa_nil))))
      (pss_cons (ps_expr (pe_D D_check_room (hr.mono (by decide)) (by rfl) (pa_cons (pv 2) pa_nil)))
      (pss_cons (ps_if (pt_not (pt_val (pe_D D_is_let (hr.mono (by decide)) (by rfl) (pa_cons (pv 0) (pa_cons (pv 1) (pa_cons (pv 2) pa_nil)))))) (pss_one (ps_ret pe_non)) pss_nil)
      (pss_cons (ps_set (i := 3) sc_crossed_split.nd rfl (.inl rfl) (pe_D D_mates_rooms (hr.mono (by decide)) (by rfl) (pa_cons (pv 2) pa_nil)))
      (pss_cons (ps_set (i := 4) sc_crossed_split.nd rfl (.inl rfl) (pe_lst pa_nil))
      (pss_cons (ps_set (i := 5) sc_crossed_split.nd rfl (.inl rfl) (pv 1))
      (pss_cons (ps_setDc (i := 6) (own := [("own", 10)]) (g := (gName 10)) (tt := tYes) rfl sc_crossed_split.nd rfl rfl (swd_true rfl rfl rfl (by decide +kernel)) (pi_tup (pe_tup (pa_cons pe_int (pa_cons pe_int pa_nil)))) (blkOk_by (N := N_crossed_split) (sc := defScope s_crossed_split) (by decide +kernel)) (fun _ _ _ _ _ => (pg_name (i := 10) sc_crossed_split.nd rfl (Or.inl rfl))) (fun _ _ _ _ _ => pts_nil) (fun _ _ _ _ _ => (pv 10)) (fun _ _ _ _ _ => (pe_D D_let_loads (hr.mono (by decide)) (by rfl) (pa_cons (pv 0) (pa_cons (pv 10) (pa_cons (pe_const T.c_MOST_LET (by rfl)) pa_nil))))))
      (pss_cons (ps_set (i := 7) sc_crossed_split.nd rfl (.inl rfl) pe_non)
      (pss_cons (ps_for PassesOwn.never rfl (pi_range3 (by rfl) T.b_range (pa_cons (pe_op op_sub (pe_callB call_len_seq (by rfl) T.b_len PySem.boot_len (pa_cons (pv 3) pa_nil)) pe_int) (pa_cons (pe_un un_neg pe_int) (pa_cons (pe_un un_neg pe_int) pa_nil)))) (pg_name (i := 8) sc_crossed_split.nd rfl (Or.inl rfl)) (pss_cons (ps_set (i := 9) sc_crossed_split.nd rfl (.inl rfl) (pe_op op_sub (pv 2) (pe_callB (cr_sum rfl) (by rfl) T.b_sum (by decide +kernel) (pa_cons (pe_slice sl_list (pv 3) (po_some (pv 8)) po_none) pa_nil))))
      (pss_cons (ps_if (PW.pt (pw_or (pt_cmp (pc_isN (pv 7))) (pw_or (pt_cmpR op_ne (pe_ix ix_list (pv 3) (pv 8) (fun _ _ => rfl)) (pe_ix ix_list (pv 3) (pe_op op_add (pv 8) pe_int) (fun _ _ => rfl)) (nomark _)) (pw_or1 (pt_not (pt_val (pe_D D_is_part (hr.mono (by decide)) (by rfl) (pa_cons (pv 0) (pa_cons (pv 5) (pa_cons (pv 7) (pa_cons (pv 9) pa_nil))))))))))) (pss_one (ps_set (i := 7) sc_crossed_split.nd rfl (.inl rfl) (pe_D D_part_off (hr.mono (by decide)) (by rfl) (pa_cons (pv 0) (pa_cons (pv 5) (pa_cons (pe_dget (hu_of hr) (pv 6) (pe_ix ix_list (pv 3) (pv 8) (fun _ _ => rfl)) (fun _ _ => rfl)) (pa_cons (pv 9) pa_nil))))))) pss_nil)
      (pss_cons (ps_set (i := 5) sc_crossed_split.nd rfl (.inl rfl) (pe_D D_reduced (hr.mono (by decide)) (by rfl) (pa_cons (pv 5) (pa_cons (pv 7) pa_nil))))
      (pss_one (ps_expr (pe_bm PySem.F.plainAttrs_list PySem.F.slot_list_append PySem.F.type_list_append mt_append (pv 4) (pa_cons (pv 7) pa_nil))))))))
      (pss_one (ps_ret (pe_revL (pv 4)))))))))))))), ?_⟩
  have np10 := np_le (s := x) h1 (by omega)
  refine (qd_drop (K := K) (d := .none) (ed_call (R := R_check_sides) (ds := [.int x, .int 5]) (by walk_at "dl") rfl ⟨x, 5, rfl, h1, by omega, rfl⟩) fun H1 e1 => ?_)
  have d1 := dp_ex e1 _ _ d1
  refine (qd_drop (K := K) (d := .none) (ed_call (R := R_check_load) (ds := [.int x, tI l]) (by walk_at "dl") rfl ⟨x, l, rfl, h1, by omega, hl, rfl⟩) fun H2 e2 => ?_)
  refine (qd_drop (K := K) (d := .none) (ed_call (R := R_check_room) (ds := [.int m]) (by walk_at "dl") rfl ⟨m, rfl, h3, h4, rfl⟩) fun H3 e3 => ?_)
  have d1 := dp_ex (e2.trans e3) _ _ d1
  have e03 := (e1.trans e2).trans e3
  refine q_when (b := !decide (mxl (sms x l) ≤ m)) (et_not (et_B (EvD.bool (ed_call (R := R_is_let) (ds := [.int x, tI l, .int m]) (by walk_at "dl") rfl ⟨x, l, m, rfl, h1, by omega, rfl⟩)))) (fun hb H4 e4 => ?_) fun hb H4 e4 => ?_
  · have hb : ¬ mxl (sms x l) ≤ m := by simpa using hb
    refine d_ret (K := K) (d := .none) (ev_d ev_c .non) fun v H5 e5 hv => k .none v H5 ?_ ((e03.trans e4).trans e5) hv
    rw [if_neg hb]
  have hb : mxl (sms x l) ≤ m := by simpa using hb
  have d1 := dp_ex e4 _ _ d1
  obtain ⟨m1, m2, m3⟩ := mrm_ok h3 h4
  refine qn_asg (K := K) (en_call (R := R_mates_rooms) (ds := [.int m]) (by walk_at "dl") rfl ⟨m, rfl, h3, h4, rfl⟩) fun q wq H5 hq e5 h5' hd5 => ?_
  refine qn_asg (K := K) (en_lst eda_nil (by simp)) fun p ws H6 hp e6 h6' hd6 => ?_
  cases hd6
  have d1 := dp_ex (e5.trans e6) _ _ d1
  have e06 := ((e03.trans e4).trans e5).trans e6
  have hq6 := e6 _ _ h5'
  have dq6 := dpa_ex e6 _ _ hd5
  refine qd_asg (K := K) (ed_var (v := v1) rfl d1) fun v5 H7 e7 d5 => ?_
  have npq : q ≠ p := fun z => by rw [z] at h5'; rw [hp] at h5'; cases h5'
  have hq7 := e7 _ _ hq6
  have dq7 := dpa_ex e7 _ _ dq6
  have h7' := e7 _ _ h6'
  have lst1 := (goods h1 h2 (own := 1) (.inr rfl)).2
  have lst2 := (goods h1 h2 (own := 2) (.inl rfl)).2
  show tSeq (tAsg (tDc _ _ _ _ _ _) _) _ _ [some (.int x), some v1, some (.int m), some (.ref q), some (.ref p), some v5, none, none, none, none, none] H7
  refine ⟨by show 2 ≤ sizeLine; decide, fun T hT => ⟨T, rfl, ⟨_, st_of upd_same⟩, fun D hD => ?_⟩⟩
  have eT := Ex.new (o := .tup [V.int 1, V.int 2]) hT
  have hT1 : upd H7 T (.tup [V.int 1, V.int 2]) T = some (.tup [V.int 1, V.int 2]) := upd_same
  generalize upd H7 T (.tup [V.int 1, V.int 2]) = Ht at *
  have hpt := eT _ _ h7'
  have nDp : D ≠ p := fun z => by rw [z, hpt] at hD; cases hD
  refine dc_tup (K := K) (xs := [V.int 1, V.int 2]) (fun i Ha => Ex Ht Ha ∧ ((i = 0 ∧ Ha D = some (.dK [])) ∨ (i = 1 ∧ ∃ a1 ws1, Ha D = some (.dK [(.inl 1, .ref a1)]) ∧ a1 ≠ p ∧ a1 ≠ D ∧ Ha a1 = some (.lst ws1) ∧ DpAll K Ha ws1 ((LL x 1).map tI)) ∨ (i = 2 ∧ PD K x Ha D p))) ?_ ?_ ?_ ?_
  · exact ⟨Ex.new hD, .inl ⟨rfl, upd_same⟩⟩
  · exact fun i Ha _ z => st_of (z.1 _ _ hT1)
  · rintro i y Ha hi ⟨ea, z⟩
    refine ⟨rfl, ?_⟩
    dsimp only [tYes]
    rw [if_pos rfl]
    have hpa := ea _ _ hpt
    rcases z with ⟨rfl, hDa⟩ | ⟨rfl, a1, ws1, hDa, n1, n1D, ha1, da1⟩ | ⟨rfl, _⟩
    · cases hi
      refine ⟨_, rfl, en_call (K := K) (R := R_let_loads) (ds := [.int x, .int 1, .int 20000]) (by walk_at "dl") rfl ⟨x, 1, rfl, h1, by omega, by omega, by omega, lst1, rfl⟩ Ha (Ex.refl _) _ fun a1 ws1 Hb ha1 eb hb1 db1 => ?_⟩
      have n1 : a1 ≠ p := fun z => by rw [z, hpa] at ha1; cases ha1
      have n1D : a1 ≠ D := fun z => by rw [z, hDa] at ha1; cases ha1
      have hDb := eb _ _ hDa
      refine ⟨[], .inl 1, rfl, hDb, by decide, Ex.mut (ea.trans eb) hD, .inr (.inl ⟨rfl, a1, ws1, upd_same, n1, n1D, by rw [upd_ne n1D]; exact hb1, dpa_tx (Tx.upd hDb (fun _ z => nomatch z) fun _ _ z => nomatch z) _ _ (immAll_tI _) db1⟩)⟩
    · cases hi
      refine ⟨_, rfl, en_call (K := K) (R := R_let_loads) (ds := [.int x, .int 2, .int 20000]) (by walk_at "dl") rfl ⟨x, 2, rfl, h1, by omega, by omega, by omega, lst2, rfl⟩ Ha (Ex.refl _) _ fun a2 ws2 Hb ha2 eb hb2 db2 => ?_⟩
      have n2 : a2 ≠ p := fun z => by rw [z, hpa] at ha2; cases ha2
      have n2D : a2 ≠ D := fun z => by rw [z, hDa] at ha2; cases ha2
      have hDb := eb _ _ hDa
      have txb : Tx Hb (upd Hb D (.dK [(.inl 1, .ref a1), (.inl 2, .ref a2)])) := Tx.upd hDb (fun _ z => nomatch z) fun _ _ z => nomatch z
      refine ⟨[(.inl 1, .ref a1)], .inl 2, rfl, hDb, by show 1 < sizeLine; decide, ?_⟩
      have pk : putK [((Sum.inl 1 : Key), V.ref a1)] (.inl 2) (.ref a2) = [(.inl 1, .ref a1), (.inl 2, .ref a2)] := by simp [putK]
      rw [pk]
      exact ⟨Ex.mut (ea.trans eb) hD, .inr (.inr ⟨rfl, nDp, a1, a2, ws1, ws2, upd_same, n1, n2, by rw [upd_ne n1D]; exact eb _ _ ha1, by rw [upd_ne n2D]; exact hb2, dpa_tx txb _ _ (immAll_tI _) (dpa_ex eb _ _ da1), dpa_tx txb _ _ (immAll_tI _) db2⟩)⟩
    · cases hi
  rintro Hd ⟨ed, z⟩
  have pd : PD K x Hd D p := by
    rcases z with ⟨z, _⟩ | ⟨z, _⟩ | ⟨_, z⟩
    · cases z
    · cases z
    · exact z
  have e7 := (e7.trans eT).trans ed
  have hq7 := ed _ _ (eT _ _ hq7)
  have dq7 := dpa_ex (eT.trans ed) _ _ dq7
  have h7' := ed _ _ hpt
  have d5 := dp_ex (eT.trans ed) _ _ d5
  have dq7' := dpa_ints dq7
  have lq : ((dI (mrm m)).length : Int) = ((mrm m).length : Int) := by rw [dI, List.length_map]
  show tSeq (tAsg (tC .non) (gName 7)) _ _ [some (.int x), some v1, some (.int m), some (.ref q), some (.ref p), some v5, some (.ref D), none, none, none, none] Hd
  refine qi_asg (v := .non) ev_c fun He ee => ?_
  have pd := pd_xp h7' (Xp.of_ex ee) pd
  have hq7 := ee _ _ hq7
  have dq7 := dpa_ex ee _ _ dq7
  have h7' := ee _ _ h7'
  have d5 := dp_ex ee _ _ d5
  have e7 := e7.trans ee
  show tSeq _ _ _ [some (.int x), some v1, some (.int m), some (.ref q), some (.ref p), some v5, some (.ref D), some .non, none, none, none] He
  refine e_for (S := [p]) (ei_rngD (K := K) (m := ((mrm m).length : Int) - 1) (n := -1) (eda_cons (ed_int (ev_is (ev_op (ev_lenL (ed_var (K := K) rfl (.lst (sq_of hq7) dq7))) ev_c rv_I0) (by rw [lq]))) (eda_cons (ed_int (ev_un ev_c ru_neg)) (eda_cons (ed_int (ev_un ev_c ru_neg)) eda_nil))) ⟨⟨by omega, by omega⟩, by decide, by decide⟩ (RgC.neg (by omega) (by omega) (by decide) (by decide)))
    (fun H2 i σ' Ha => CW K x l m v1 q p D H2 i σ' Ha)
    (fun H8 e8 => ⟨Xp.refl _ _, [], l, [], v5, .non, none, none, none, e8 _ _ h7', .nil, rfl, hl, ?_, ?_, fun part z => by simp at z, rfl, dp_ex e8 _ _ d5, .inl ⟨rfl, rfl⟩, rfl⟩) (fun H2 i σ' Ha _ z => z.1) ?_ ?_
  · rw [Nat.sub_zero, List.take_length, m1]
    exact hb
  · rw [Nat.sub_zero, List.drop_length]
    exact .nil
  · rintro H8 i d y σ' Ha Hb e8 hdi ⟨xp, qs, left, ws, vl, vp, a, b, c, hpa, dws, lqs, hle, hm, pr, hld, hfo, dl, hvp0, rfl⟩ eb hy
    have hil : i < (mrm m).length := by
      have := (List.getElem?_eq_some_iff.mp hdi).1
      simp at this
      omega
    rw [rng_get (by omega)] at hdi
    cases hdi
    cases dp_int hy
    obtain ⟨kk, hkk⟩ : ∃ kk, (mrm m).length - i = kk + 1 := ⟨(mrm m).length - i - 1, by omega⟩
    have ek : ((mrm m).length : Int) - 1 - (i : Int) = (kk : Int) := by omega
    rw [ek]
    rw [hkk] at hm pr hvp0
    obtain ⟨r1, r2⟩ := m3 kk (by omega)
    obtain ⟨p1, p2, p3, p4⟩ := heart h1 h2 hle hm (own := (mrm m).getD kk 0) r2
    have r0 : (mrm m).getD kk 0 = 2 ∨ (mrm m).getD kk 0 = 1 := by
      rcases r2 with z | z
      · exact .inl z.1
      · exact .inr z.1
    have rle : ((mrm m).take (kk + 1)).sum - (mrm m).getD kk 0 = ((mrm m).take kk).sum := by omega
    rw [rle] at p4
    have rest : m - ((mrm m).drop kk).sum = ((mrm m).take kk).sum := by
      have := List.sum_append (l₁ := (mrm m).take kk) (l₂ := (mrm m).drop kk)
      rw [List.take_append_drop, m1] at this
      omega
    generalize hown : (mrm m).getD kk 0 = own at *
    obtain ⟨part, hf⟩ : ∃ part, (LL x own).find? (okp x left ((mrm m).take kk).sum) = some part := by
      cases hc : (LL x own).find? (okp x left ((mrm m).take kk).sum) with
      | some part => exact ⟨part, rfl⟩
      | none =>
        have := List.find?_eq_none.mp hc p1 p2
        simp [okp, p3, p4] at this
    have tx : Tx H8 Hb := (xp.tx (Ls.one (e8 _ _ h7'))).trans (Tx.of_ex eb)
    have hqb : Hb q = some (.lst wq) := eb _ _ (xp _ _ (e8 _ _ hq7) (by simpa using npq))
    have dqb : DpAll K Hb wq (dI (mrm m)) := by
      rw [dq7']
      exact ints_dpa _
    have pdb : PD K x Hb D p := pd_xp (e8 _ _ h7') (xp.then eb) (pd_xp h7' (Xp.of_ex e8) pd)
    have dl := dp_ex eb _ _ dl
    have hgk : (dI (mrm m))[kk]? = some (.int own) := by
      rw [dI, List.getElem?_map, List.getElem?_eq_getElem (by omega), ← hown, List.getD_eq_getElem?_getD, List.getElem?_eq_getElem (by omega)]
      rfl
    have hpb := eb _ _ hpa
    have ixk : ∀ {σ : L2.St} {H : Hp}, σ[3]? = some (some (.ref q)) → σ[8]? = some (some (.int (kk : Int))) → Ex Hb H → Ev (tOp (rIxL K) (tVar 3) (tVar 8)) σ H (.int own) := fun hs hk e => EvD.int (ed_ixL (K := K) (ds := dI (mrm m)) (k := kk) (ed_var hs (dp_ex e _ _ (.lst (sq_of hqb) dqb))) (ev_var hk) hgk)
    show tSeq _ _ _ [some (.int x), some v1, some (.int m), some (.ref q), some (.ref p), some vl, some (.ref D), some vp, some (.int (kk : Int)), b, c] Hb
    refine qi_asg (v := .int ((mrm m).take kk).sum) (ev_is (ev_op (ev_var rfl) (ev_sumL (K := K) (ns := (mrm m).drop kk) (ed_is (EvN.toD (en_sl (K := K) (ds := dI (mrm m)) (ed_var rfl (.lst (sq_of hqb) dqb)) (eo_some (ev_var (v := .int (kk : Int)) rfl)) eo_none)) (by rw [cut_drop (by rw [dI, List.length_map]; omega), dI, dI, List.map_drop]))) rv_I0) (by rw [rest])) fun Hc ec => ?_
    show tSeq _ _ _ [some (.int x), some v1, some (.int m), some (.ref q), some (.ref p), some vl, some (.ref D), some vp, some (.int (kk : Int)), some (.int ((mrm m).take kk).sum), c] Hc
    have kk1 : kk < (mrm m).length := by omega
    have fin : ∀ (pt : List Int) (v : V) (H9 : Hp), Ex Hb H9 → Dp K H9 v (tI pt) → pt ∈ LL x own → okp x left ((mrm m).take kk).sum pt = true → ∀ (Dx : Ends) (z : ∀ σ' H', CW K x l m v1 q p D H8 (i + 1) σ' H' → Dx.nx σ' H'), tSeq (tAsg (tCall (spD K 2 R_reduced) [] E0 (tCons (tVar 5) (tCons (tVar 7) tNil))) (gName 5)) (tDrop (tBM K "list" rAppend (tVar 4) (tCons (tVar 7) tNil))) Dx
        [some (.int x), some v1, some (.int m), some (.ref q), some (.ref p), some vl, some (.ref D), some v, some (.int (kk : Int)), some (.int ((mrm m).take kk).sum), c] H9 := fun pt v H9 e9 hv hin hok Dx z =>
      cs_end h1 h2 r0 (xp.then (eb.trans e9)) (e9 _ _ hpb) (dpa_ex (eb.trans e9) _ _ dws) lqs kk1 m2 hkk hown hle pr hld hfo (dp_ex e9 _ _ dl) hin hok hv z
    have sfin : ∀ p ∈ LL x own, Ld x p := fun p hp => (good_mem h1 h2 r0 hp).1
    have getD : ∀ {H9 : Hp} {σ : L2.St}, Ex Hb H9 → σ[3]? = some (some (.ref q)) → σ[6]? = some (some (.ref D)) → σ[8]? = some (some (.int (kk : Int))) → EvD K (tDGet (tVar 6) (tOp (rIxL K) (tVar 3) (tVar 8))) σ H9 (.list ((LL x own).map tI)) := fun e9 h3 h6 h8 Hx ex Q hQ => by
      obtain ⟨_, a1, a2, ws1, ws2, hD, _, _, ha1, ha2, da1, da2⟩ := pdb
      refine ⟨.ref D, h6, ixk h3 h8 (e9.trans ex) Hx (Ex.refl _) _ fun Hy ey => ?_⟩
      have ez := (e9.trans ex).trans ey
      rcases r0 with z | z
      · rw [z]
        refine ⟨D, .ref a2, rfl, ?_, hQ _ Hy ey (.lst (sq_of (ez _ _ ha2)) (by rw [z]; exact dpa_ex ez _ _ da2))⟩
        exact .inl ⟨_, .inl 2, .inl (ez _ _ hD), rfl, by simp [valV]⟩
      · rw [z]
        refine ⟨D, .ref a1, rfl, ?_, hQ _ Hy ey (.lst (sq_of (ez _ _ ha1)) (by rw [z]; exact dpa_ex ez _ _ da1))⟩
        exact .inl ⟨_, .inl 1, .inl (ez _ _ hD), rfl, by simp [valV]⟩
    have hm9 : okp x left ((mrm m).take kk).sum part = true := List.find?_some hf
    have hi9 := List.mem_of_find?_eq_some hf
    rcases hvp0 with ⟨rfl, rfl⟩ | ⟨pp, qs', rfl, hvp, hpp⟩
    · refine q_when (b := true) (et_is (et_or (a := true) (b := true) (et_B (ev_isN (K := K) (d := .none) (ed_var rfl .non) rfl)) fun z => nomatch z) rfl) (fun _ H9 e9 => ?_) fun z => nomatch z
      refine d_asg (K := K) (ed_call (R := R_part_off) (ds := [.int x, tI left, .list ((LL x own).map tI), .int ((mrm m).take kk).sum]) (eda_cons (ed_int (ev_var rfl)) (eda_cons (ed_var rfl (dp_ex (ec.trans e9) _ _ dl)) (eda_cons (getD (ec.trans e9) rfl rfl rfl) (eda_cons (ed_int (ev_var rfl)) eda_nil)))) rfl ⟨x, left, LL x own, _, part, rfl, h1, h2, sfin, hle, hf, rfl⟩) fun v9 Hx ex hv9 => ?_
      exact fin part v9 Hx ((ec.trans e9).trans ex) hv9 hi9 hm9 _ fun σ' H' z => z
    · have hvp := dp_ex (eb.trans ec) _ _ hvp
      have hlp : Ld x pp := hld pp List.mem_cons_self
      have k1 : kk + 1 < (mrm m).length := by
        rw [List.length_cons] at lqs
        omega
      have hg1 : (dI (mrm m))[kk + 1]? = some (.int ((mrm m).getD (kk + 1) 0)) := by
        rw [dI, List.getElem?_map, List.getElem?_eq_getElem k1, List.getD_eq_getElem?_getD, List.getElem?_eq_getElem k1]
        rfl
      have ix1 : Ev (tOp (rIxL K) (tVar 3) (tOp (rI0 fun i j => V.int (i + j)) (tVar 8) (tC (.int 1)))) [some (.int x), some v1, some (.int m), some (.ref q), some (.ref p), some vl, some (.ref D), some vp, some (.int (kk : Int)), some (.int ((mrm m).take kk).sum), c] Hc (.int ((mrm m).getD (kk + 1) 0)) :=
        EvD.int (ed_ixL (K := K) (ds := dI (mrm m)) (k := kk + 1) (ed_var rfl (dp_ex ec _ _ (.lst (sq_of hqb) dqb))) (ev_is (ev_op (ev_var rfl) ev_c rv_I0) (by push_cast; rfl)) hg1)
      refine q_when (b := false || (!decide (V.int own = V.int ((mrm m).getD (kk + 1) 0)) || !okp x left ((mrm m).take kk).sum pp)) (et_or (a := false) (et_B (ev_isN (K := K) (d := tI pp) (ed_var (v := vp) rfl hvp) rfl)) fun _ => et_or (et_test (ev_op (ixk rfl rfl ec) ix1 (rv_ne rfl))) fun _ => et_not (et_B (EvD.bool (ed_call (R := R_is_part) (ds := [.int x, tI left, tI pp, .int ((mrm m).take kk).sum]) (eda_cons (ed_int (ev_var rfl)) (eda_cons (ed_var rfl (dp_ex ec _ _ dl)) (eda_cons (ed_var (v := vp) rfl hvp) (eda_cons (ed_int (ev_var rfl)) eda_nil)))) rfl ⟨x, left, pp, _, rfl, h1, h2, hle, hlp, rfl⟩)))) (fun _ H9 e9 => ?_) fun hb9 H9 e9 => ?_
      · refine d_asg (K := K) (ed_call (R := R_part_off) (ds := [.int x, tI left, .list ((LL x own).map tI), .int ((mrm m).take kk).sum]) (eda_cons (ed_int (ev_var rfl)) (eda_cons (ed_var rfl (dp_ex (ec.trans e9) _ _ dl)) (eda_cons (getD (ec.trans e9) rfl rfl rfl) (eda_cons (ed_int (ev_var rfl)) eda_nil)))) rfl ⟨x, left, LL x own, _, part, rfl, h1, h2, sfin, hle, hf, rfl⟩) fun v9 Hx ex hv9 => ?_
        exact fin part v9 Hx ((ec.trans e9).trans ex) hv9 hi9 hm9 _ fun σ' H' z => z
      · simp only [Bool.or_eq_false_iff, Bool.not_eq_false', decide_eq_true_eq] at hb9
        obtain ⟨_, b2, b3⟩ := hb9
        have eo : own = (mrm m).getD (kk + 1) 0 := V.int.inj b2
        exact fin pp vp H9 (ec.trans e9) (dp_ex e9 _ _ hvp) (by rw [eo]; exact hpp) b3 _ fun σ' H' z => z
  · rintro H8 σ' Ha e8 ⟨xp, qs, left, ws, vl, vp, a, b, c, hpa, dws, lqs, hle, hm, pr, hld, hfo, dl, _, rfl⟩
    have ln : (((List.range (((mrm m).length : Int) - 1 - -1).toNat).map fun (i : Nat) => PyData.int (((mrm m).length : Int) - 1 - (i : Int))).length) = (mrm m).length := by
      rw [List.length_map, List.length_range]
      omega
    rw [ln] at lqs hm pr
    rw [Nat.sub_self, List.take_zero] at hm
    rw [Nat.sub_self, List.drop_zero] at pr
    have hz := zer_of h1 h2 hle hm
    rw [hz] at hfo
    have e0 : Ex H Ha := xp_fresh (((e06).trans e7).trans e8) xp (fresh_back (((e03.trans e4).trans e5)) hp)
    refine d_ret (K := K) (d := .list (qs.map tI)) (ed_is (EvN.toD (en_rev (K := K) (ds := qs.reverse.map tI) (ed_var rfl (.lst (sq_of hpa) dws)))) (by rw [← List.map_reverse, List.reverse_reverse])) fun v H9 e9 hv => k _ v H9 ?_ (e0.trans e9) hv
    rw [if_pos hb]
    refine ⟨qs, rfl, Paired.length pr, hld, fun i p r hp hr => ?_, hfo⟩
    have get : ∀ {α β : Type} {F : α → β → Prop} {l : List α} {m : List β} {i : Nat} {a : α} {b : β}, Paired F l m → l[i]? = some a → m[i]? = some b → F a b := by
      intro α β F l m i a b h h1 h2
      obtain ⟨b', h3, h4⟩ := paired_get h h1
      rw [h2] at h3
      cases h3
      exact h4
    exact get (F := fun part r => mxl (sms x part) ≤ r) pr hp hr

end
end K20
set_option Elab.async false
set_option linter.all false
set_option maxRecDepth 100000
set_option maxHeartbeats 4000000
namespace K20
open PySem PySem.Spec PyProof.Rows L2 Evl DL
local macro_rules | `(tactic| walk_at "dl") => `(tactic| first
  | exact ev_c | exact ev_var rfl | exact eda_nil
  | exact ed_var rfl (by assumption)
  | exact ed_int ev_c | exact ed_int (ev_var rfl)
  | (refine eda_cons ?_ ?_ <;> walk_at "dl")
  | (refine ed_int ?_; walk_at "dl")
  | (refine ev_op ?_ ?_ rv_I0 <;> walk_at "dl"))

section
variable {K : PySem.W.Frag} {σ : L2.St} {H H' : Hp} {ta tb te : TE} {D : Ends} {tz : TS} {st lg cl : Addr}
/-! ### the drawing state -/
def kL : Key := .inr "large"
def kC : Key := .inr "cells"
def kF : Key := .inr "left"
def kT : Key := .inr "turn"
theorem k_ne : kL ≠ kC ∧ kL ≠ kF ∧ kL ≠ kT ∧ kC ≠ kF ∧ kC ≠ kT ∧ kF ≠ kT := by decide +kernel
def dk (lg cl : Addr) (l t : Int) : List (Key × V) := [(kL, .ref lg), (kC, .ref cl), (kF, .int l), (kT, .int t)]
theorem dk_L {l t : Int} : valV (dk lg cl l t) kL = some (.ref lg) := valV_pos rfl
theorem dk_C {l t : Int} : valV (dk lg cl l t) kC = some (.ref cl) := by
  obtain ⟨a, b, c, d, e, f⟩ := k_ne
  rw [dk, valV_neg a, valV_pos rfl]
theorem dk_F {l t : Int} : valV (dk lg cl l t) kF = some (.int l) := by
  obtain ⟨a, b, c, d, e, f⟩ := k_ne
  rw [dk, valV_neg b, valV_neg d, valV_pos rfl]
theorem dk_T {l t : Int} : valV (dk lg cl l t) kT = some (.int t) := by
  obtain ⟨a, b, c, d, e, f⟩ := k_ne
  rw [dk, valV_neg c, valV_neg e, valV_neg f, valV_pos rfl]
theorem put_F {l t l' : Int} : putK (dk lg cl l t) kF (.int l') = dk lg cl l' t := by
  obtain ⟨a, b, c, d, e, f⟩ := k_ne
  simp [putK, dk, a, b, c, d, e, f, Ne.symm f]
theorem put_T {l t t' : Int} : putK (dk lg cl l t) kT (.int t') = dk lg cl l t' := by
  obtain ⟨a, b, c, d, e, f⟩ := k_ne
  simp [putK, dk, a, b, c, d, e, f]
def StK (st lg cl : Addr) (n : Nat) (H : Hp) : Prop := ∃ (l t : Int) (xs cs : List Int), H st = some (.dK (dk lg cl l t)) ∧ H lg = some (.lst (xs.map V.int)) ∧ H cl = some (.lst (cs.map V.int)) ∧ cl ≠ lg ∧ 0 ≤ t ∧ t ≤ (n : Int)
theorem stk_ex {n : Nat} (e : Ex H H') (h : StK st lg cl n H) : StK st lg cl n H' := by
  obtain ⟨l, t, xs, cs, h1, h2, h3, h4⟩ := h
  exact ⟨l, t, xs, cs, e _ _ h1, e _ _ h2, e _ _ h3, h4⟩
theorem stk_mono {n m : Nat} (hnm : n ≤ m) (h : StK st lg cl n H) : StK st lg cl m H := by
  obtain ⟨l, t, xs, cs, h1, h2, h3, h4, h5, h6⟩ := h
  exact ⟨l, t, xs, cs, h1, h2, h3, h4, h5, by omega⟩
/-- tuples stay while the state changes -/
theorem stk_tx {n : Nat} (h : StK st lg cl n H) (x : Xp [st, lg] H H') : Tx H H' := by
  obtain ⟨l, t, xs, cs, h1, h2, h3, h4⟩ := h
  intro a ys r
  have nin : ∀ o, H a = some o → (∀ l, o ≠ .lst l) → (∀ l, o ≠ .dK l) → a ∉ [st, lg] := fun o ho n1 n2 hm => by
    rcases (by simpa using hm : a = st ∨ a = lg) with rfl | rfl
    · rw [h1] at ho
      exact n2 _ (Option.some.inj ho).symm
    · rw [h2] at ho
      exact n1 _ (Option.some.inj ho).symm
  rcases r with r | ⟨ob, r⟩
  · exact .inl (x _ _ r (nin _ r (fun _ z => nomatch z) fun _ z => nomatch z))
  · exact .inr ⟨ob, x _ _ r (nin _ r (fun _ z => nomatch z) fun _ z => nomatch z)⟩
theorem ev_dget {i : Nat} {k : Key} {kvs : List (Key × V)} {v : V} (hs : σ[i]? = some (some (.ref st))) (h : H st = some (.dK kvs)) (hv : valV kvs k = some v) : Ev (tDGet (tVar i) (tC (kV k))) σ H v := fun H1 e Q q =>
  ⟨.ref st, hs, st, v, rfl, hv ▸ DGet.k (e _ _ h), q H1 (Ex.refl _)⟩
theorem s_dput {i : Nat} {k : Key} {kvs : List (Key × V)} {v : V} (hs : σ[i]? = some (some (.ref st))) (h : H st = some (.dK kvs)) (hl : kvs.length ≤ 1000) (hv : Ev te σ H v) (q : ∀ H1, Ex H H1 → D.nx σ (upd H1 st (.dK (putK kvs k v)))) :
    sDPut (tVar i) (tC (kV k)) te D σ H := hv H (Ex.refl _) _ fun H1 e => ⟨.ref st, hs, st, _, rfl, DPut.k (e _ _ h) (sz_lt (by omega)), q H1 e⟩
theorem q_dput {i : Nat} {k : Key} {kvs : List (Key × V)} {v : V} (hs : σ[i]? = some (some (.ref st))) (h : H st = some (.dK kvs)) (hl : kvs.length ≤ 1000) (hv : Ev te σ H v) (q : ∀ H1, Ex H H1 → tz D σ (upd H1 st (.dK (putK kvs k v)))) :
    tSeq (sDPut (tVar i) (tC (kV k)) te) tz D σ H := s_dput (D := { D with nx := tz D }) hs h hl hv q
theorem ev_int1 {i : Int} (h : Ev ta σ H (.int i)) : Ev (tCB (fun xs H Q => (∃ i, xs = [.int i] ∧ Q (.int i) H) ∨ ∃ k, xs = [.bl k] ∧ Q (.int (if k then 1 else 0)) H) (tCons ta tNil)) σ H (.int i) := fun H1 e Q q =>
  h H1 e _ fun H2 e2 => .inl ⟨i, rfl, q H2 e2⟩
theorem shaped_dI (a : List Int) : SeqAt.shaped (.list (dI a)) = true := by
  have h := depth_ints a
  show ((PyData.list (dI a)).canLay0 && decide ((PyData.list (dI a)).depth ≤ 64)) = true
  rw [Bool.and_eq_true]
  refine ⟨by rw [PyData.canLay0]; exact canLay_ints a, decide_eq_true ?_⟩
  rw [PyData.depth]
  omega
theorem eqv_nil (a : List Int) : PyData.eqv (.list (dI a)) (.list []) = a.isEmpty := by
  rw [PyData.eqv]
  cases a with
  | nil => simp [PyData.eqvAll]
  | cons x a => simp [PyData.eqvAll]
/-- x != [] -/
theorem ev_neNil {a : List Int} (ha : EvD K ta σ H (.list (dI a))) : Ev (tOp (rNeD K) ta (tLst tNil)) σ H (.bl (!a.isEmpty)) := fun H1 e Q q =>
  ha H1 e _ fun x H2 e2 hx => EvN.toD (en_lst eda_nil (by simp)) H2 (e.trans e2) _ fun y H3 e3 hy => ⟨_, _, dp_ex e3 _ _ hx, hy, shaped_dI a, shaped_dI [], by
    rw [eqv_nil]
    exact q H3 (e2.trans e3)⟩
end
section
variable {P : Program} {w : World} {K : PySem.W.Frag} {mg : Str → Option Value} {base : Heap}

def spDraw (K : PySem.W.Frag) : Sp := fun vs H Q _ => ∃ (st lg cl : Addr) (n : Nat) (size : Int), vs = [.ref st, .int size] ∧ 1 ≤ size ∧ size ≤ 1000 ∧ n ≤ 10000 ∧ StK st lg cl n H ∧
  ∀ r H', 0 ≤ r → r < size → Xp [st, lg] H H' → StK st lg cl (n + 1) H' → Q (.int r) H'
abbrev s__law_draw : Stmt := topS 53
abbrev N__law_draw : List Str := ["state", "size_here", "found", "turn", "cell", "mixed"]
theorem sc__law_draw : FnScope N__law_draw ["state", "size_here"] (defScope s__law_draw) := ⟨rfl, rfl, rfl, by decide +kernel, rfl, by decide +kernel, by decide +kernel⟩
theorem ok__law_draw {f : Addr} {fd : FuncData} (F : Fun K "_law_draw" "_law_draw" s__law_draw f fd) (T : Txt mg)
     :
    FnOk P w K mg base CX0 1 f fd ["state", "size_here"] (spDraw K) := by
  refine F.ok sc__law_draw (fun vs H Q E h => by obtain ⟨_, _, _, _, _, rfl, _⟩ := h; rfl) (fun cdv A outer s H vs Q E hr h => ?_)
  obtain ⟨st, lg, cl, n, size, rfl, h1, h2, h3, hst, k⟩ := h
  refine ⟨_, (pss_cons (ps_while PassesOwn.never (PW.pt (pw_and (pt_cmpR op_eq (pe_dget (hu_of hr) (pv 0) pe_str (fun _ _ => rfl)) pe_int (nomark _)) (pw_and1 (pt_cmpR (op_neD (hu64 hr)) (pe_dget (hu_of hr) (pv 0) pe_str (fun _ _ => rfl)) (pe_lst pa_nil) (nomark _))))) (pss_one (ps_dput (hu_of hr) (pv 0) pe_str (pe_bm PySem.F.plainAttrs_list PySem.F.slot_list_pop PySem.F.type_list_pop mt_popAt (pe_dget (hu_of hr) (pv 0) pe_str (fun _ _ => rfl)) (pa_cons pe_int pa_nil)) rfl)))
      (pss_cons (ps_if (pt_cmpR op_gt (pe_dget (hu_of hr) (pv 0) pe_str (fun _ _ => rfl)) pe_int (nomark _)) (pss_cons (ps_set (i := 2) sc__law_draw.nd rfl (.inl rfl) (pe_op op_mod (pe_callTy call_int1 (by rfl) T.b_int (by decide +kernel) (pa_cons (pe_dget (hu_of hr) (pv 0) pe_str (fun _ _ => rfl)) pa_nil)) (pv 1)))
      (pss_cons (ps_dput (hu_of hr) (pv 0) pe_str (pe_op op_fdiv (pe_dget (hu_of hr) (pv 0) pe_str (fun _ _ => rfl)) (pv 1)) rfl)
      (pss_one (ps_ret (pv 2))))) pss_nil)
      (pss_cons (ps_set (i := 3) sc__law_draw.nd rfl (.inl rfl) (pe_op op_add (pe_dget (hu_of hr) (pv 0) pe_str (fun _ _ => rfl)) pe_int))
      (pss_cons (ps_dput (hu_of hr) (pv 0) pe_str (pv 3) rfl)
      (pss_cons (ps_set (i := 4) sc__law_draw.nd rfl (.inl rfl) (pe_ifExp (pt_cmpR (op_neD (hu64 hr)) (pe_dget (hu_of hr) (pv 0) pe_str (fun _ _ => rfl)) (pe_lst pa_nil) (nomark _)) (pe_ix ix_list (pe_dget (hu_of hr) (pv 0) pe_str (fun _ _ => rfl)) (pe_op op_mod (pe_callTy call_int1 (by rfl) T.b_int (by decide +kernel) (pa_cons (pv 3) pa_nil)) (pe_callB call_len_seq (by rfl) T.b_len PySem.boot_len (pa_cons (pe_dget (hu_of hr) (pv 0) pe_str (fun _ _ => rfl)) pa_nil))) (fun _ _ => rfl)) pe_int))
      (pss_cons (ps_set (i := 5) sc__law_draw.nd rfl (.inl rfl) (pe_op op_mod (pe_callTy call_int1 (by rfl) T.b_int (by decide +kernel) (pa_cons (pe_op op_pow (pe_op op_add (pe_op op_add (pe_op op_mod (pe_callTy call_int1 (by rfl) T.b_int (by decide +kernel) (pa_cons (pv 4) pa_nil)) pe_int) (pe_op op_mul pe_int (pv 3))) pe_int) pe_int) pa_nil)) pe_int))
      (pss_one (ps_ret (pe_op op_mod (pe_callTy call_int1 (by rfl) T.b_int (by decide +kernel) (pa_cons (pe_op op_fdiv (pe_op op_mod (pe_callTy call_int1 (by rfl) T.b_int (by decide +kernel) (pa_cons (pe_op op_pow (pe_op op_add (pv 5) (pe_op op_mul pe_int (pv 3))) pe_int) pa_nil)) pe_int) pe_int) pa_nil)) (pv 1)))))))))), ?_⟩
  obtain ⟨l0, t0, xs0, cs, a1, a2, a3, a4, a5, a6⟩ := hst
  have cst : cl ≠ st := fun z => by rw [z, a1] at a3; cases a3
  have lst : lg ≠ st := fun z => by rw [z, a1] at a2; cases a2
  have kF' : V.str "left" = kV kF := rfl
  refine ⟨fun m σ' Ha => ∃ (l : Int) (xs : List Int), m = xs.length ∧ Xp [st, lg] H Ha ∧ Ha st = some (.dK (dk lg cl l t0)) ∧ Ha lg = some (.lst (xs.map V.int)) ∧ σ' = [some (.ref st), some (.int size), none, none, none, none], ⟨_, l0, xs0, rfl, Xp.refl _ _, a1, a2, rfl⟩, ?_⟩
  rintro m σ' Ha ⟨l, xs, rfl, xp, b1, b2, rfl⟩
  have b3 : Ha cl = some (.lst (cs.map V.int)) := xp _ _ a3 (by simp [cst, a4])
  refine et_and (a := decide (V.int l = V.int 0)) (b := !xs.isEmpty) (et_test (ev_op (ev_dget (k := kF) rfl b1 dk_F) ev_c (rv_eq rfl))) (fun _ => et_test (ev_neNil (K := K) (ed_is (d := .list (dI xs)) (ev_d (ev_dget (k := kL) rfl b1 dk_L) (.lst (sq_of b2) (ints_dpa xs))) rfl))) Ha (Ex.refl _) _ fun Hb eb => ?_
  have b1 := eb _ _ b1
  have b2 := eb _ _ b2
  have b3 := eb _ _ b3
  have xp := xp.then eb
  by_cases hx : (decide (V.int l = V.int 0) && !xs.isEmpty) = true
  · rw [if_pos hx]
    cases xs with
    | nil => simp at hx
    | cons x xs =>
      refine ⟨fun σ2 H2 => ∃ (l : Int), Xp [st, lg] H H2 ∧ H2 st = some (.dK (dk lg cl l t0)) ∧ H2 lg = some (.lst (xs.map V.int)) ∧ σ2 = [some (.ref st), some (.int size), none, none, none, none], fun σ2 H2 ⟨l, z⟩ => ⟨xs.length, by simp, l, xs, rfl, z⟩, ?_⟩
      refine ⟨.ref st, rfl, st, .ref lg, rfl, (dk_L (lg := lg) (cl := cl) (l := l) (t := t0)) ▸ DGet.k (k := kL) b1, Or.inl ⟨rfl, _, sq_of b2⟩, lg, _, 0, 0, .int x, rfl, rfl, b2, by decide, by decide, by simp [seqIndex?], rfl, .ref st, rfl, st, _, rfl, DPut.k (k := kF) (by rw [upd_ne (Ne.symm lst)]; exact b1) (by show 4 < sizeLine; decide), ?_⟩
      rw [put_F]
      exact ⟨x, Xp.upd (Xp.upd xp (by simp)) (by simp), upd_same, by rw [upd_ne lst, upd_same]; simp, rfl⟩
  rw [if_neg hx]
  show tSeq _ _ _ [some (.ref st), some (.int size), none, none, none, none] Hb
  refine q_when (b := decide ((0 : Int) < l)) (et_test (ev_op (ev_dget (k := kF) rfl b1 dk_F) ev_c rv_I0)) (fun hb Hc ec => ?_) fun hb Hc ec => ?_
  · have b1 := ec _ _ b1
    refine qi_asg (ev_op (ev_int1 (ev_dget (k := kF) rfl b1 dk_F)) (ev_var rfl) (rv_I (by omega))) fun Hd ed => ?_
    have b1 := ed _ _ b1
    refine q_dput (k := kF) rfl b1 (by simp [dk]) (ev_op (ev_dget (k := kF) rfl b1 dk_F) (ev_var rfl) (rv_I ⟨by omega, by omega⟩)) fun He ee => ?_
    rw [put_F]
    refine ⟨_, rfl, k (l % size) _ (Int.emod_nonneg _ (by omega)) (Int.emod_lt_of_pos _ (by omega)) (Xp.upd (xp.then ((ec.trans ed).trans ee)) (by simp)) ⟨l / size, t0, xs, cs, upd_same, ?_, ?_, a4, a5, by omega⟩⟩
    · rw [upd_ne lst]
      exact ee _ _ (ed _ _ (ec _ _ b2))
    · rw [upd_ne cst]
      exact ee _ _ (ed _ _ (ec _ _ b3))
  have b1 := ec _ _ b1
  refine qi_asg (ev_op (ev_dget (k := kT) rfl b1 dk_T) ev_c rv_I0) fun Hd ed => ?_
  have b1 := ed _ _ b1
  refine q_dput (k := kT) rfl b1 (by simp [dk]) (ev_var rfl) fun He ee => ?_
  rw [put_T]
  have c1 : upd He st (.dK (dk lg cl l (t0 + 1))) st = some (.dK (dk lg cl l (t0 + 1))) := upd_same
  have c2 : upd He st (.dK (dk lg cl l (t0 + 1))) lg = some (.lst (xs.map V.int)) := by
    rw [upd_ne lst]
    exact ee _ _ (ed _ _ (ec _ _ b2))
  have c3 : upd He st (.dK (dk lg cl l (t0 + 1))) cl = some (.lst (cs.map V.int)) := by
    rw [upd_ne cst]
    exact ee _ _ (ed _ _ (ec _ _ b3))
  have xp2 : Xp [st, lg] H (upd He st (.dK (dk lg cl l (t0 + 1)))) := Xp.upd (xp.then ((ec.trans ed).trans ee)) (by simp)
  generalize upd He st (.dK (dk lg cl l (t0 + 1))) = Hf at *
  obtain ⟨c, hc⟩ : ∃ c : Int, Ev (tIf (tTest (tOp (rNeD K) (tDGet (tVar 0) (tC (.str "cells"))) (tLst tNil)))
      (tOp (rIxL K) (tDGet (tVar 0) (tC (.str "cells"))) (tOp (rI (fun _ j => 0 < j) fun i j => .int (i % j)) (tCB (fun xs H Q => (∃ i, xs = [.int i] ∧ Q (.int i) H) ∨ ∃ k, xs = [.bl k] ∧ Q (.int (if k then 1 else 0)) H) (tCons (tVar 3) tNil)) (tCB (fun xs H Q => ∃ p ys, xs = [.ref p] ∧ (SqL K H p ys ∨ SqT K H p ys) ∧ Q (.int ys.length) H) (tCons (tDGet (tVar 0) (tC (.str "cells"))) tNil))))
      (tC (.int 0))) [some (.ref st), some (.int size), none, some (.int (t0 + 1)), none, none] Hf (.int c) := by
    have dc : EvD K (tDGet (tVar 0) (tC (.str "cells"))) [some (.ref st), some (.int size), none, some (.int (t0 + 1)), none, none] Hf (.list (dI cs)) := ev_d (ev_dget (k := kC) rfl c1 dk_C) (.lst (sq_of c3) (ints_dpa cs))
    refine ⟨if (!cs.isEmpty) = true then cs.getD ((t0 + 1) % (cs.length : Int)).toNat 0 else 0, ev_if (b := !cs.isEmpty) (et_test (ev_neNil dc)) (fun h => ?_) fun h => ?_⟩
    · rw [if_pos h]
      have hl : 0 < cs.length := by cases cs with | nil => simp at h | cons _ _ => simp
      have m1 := Int.emod_nonneg (t0 + 1) (show ((cs.length : Int)) ≠ 0 by omega)
      have m2 := Int.emod_lt_of_pos (t0 + 1) (show (0 : Int) < (cs.length : Int) by omega)
      refine ev_op (ev_dget (k := kC) rfl c1 dk_C) (ev_op (ev_int1 (ev_var rfl)) (ev_is (ev_lenL dc) (by rw [dI, List.length_map])) (rv_I (by omega))) (rv_ixL (K := K) (sq_of c3) ?_)
      obtain ⟨j, hj⟩ := Int.eq_ofNat_of_zero_le m1
      rw [hj] at m2 ⊢
      refine atI_nat ?_
      rw [Int.toNat_natCast, List.getElem?_map, List.getElem?_eq_getElem (by omega), List.getD_eq_getElem?_getD, List.getElem?_eq_getElem (by omega)]
      rfl
    · rw [h]
      exact ev_c
  refine qi_asg hc fun Hg eg => ?_
  have u1 := Int.emod_nonneg c (show (2147483563 : Int) ≠ 0 by decide)
  have u2 := Int.emod_lt_of_pos c (show (0 : Int) < 2147483563 by decide)
  refine qi_asg (v := .int (((c % 2147483563 + 40692 * (t0 + 1) + 24681) ^ (3 : Int).toNat) % 2147483629)) (ev_op (ev_int1 (ev_op (ev_op (ev_op (ev_op (ev_int1 (ev_var rfl)) ev_c (rv_I (by decide))) (ev_op ev_c (ev_var rfl) (rv_I (.inl ⟨by decide, by decide⟩))) rv_I0) ev_c rv_I0) ev_c (rv_I ⟨by decide, by decide, by omega⟩))) ev_c (rv_I (by decide))) fun Hh eh => ?_
  have w1 := Int.emod_nonneg ((c % 2147483563 + 40692 * (t0 + 1) + 24681) ^ (3 : Int).toNat) (show (2147483629 : Int) ≠ 0 by decide)
  have w2 := Int.emod_lt_of_pos ((c % 2147483563 + 40692 * (t0 + 1) + 24681) ^ (3 : Int).toNat) (show (0 : Int) < 2147483629 by decide)
  generalize ((c % 2147483563 + 40692 * (t0 + 1) + 24681) ^ (3 : Int).toNat) % 2147483629 = M at *
  refine s_ret (ev_op (ev_int1 (ev_op (ev_op (ev_int1 (ev_op (ev_op (ev_var rfl) (ev_op ev_c (ev_var rfl) (rv_I (.inl ⟨by decide, by decide⟩))) rv_I0) ev_c (rv_I ⟨by decide, by decide, by omega⟩))) ev_c (rv_I (by decide))) ev_c (rv_I ⟨by decide, by decide⟩))) (ev_var rfl) (rv_I (by omega))) fun Hi ei => ?_
  exact k _ _ (Int.emod_nonneg _ (by omega)) (Int.emod_lt_of_pos _ (by omega)) (xp2.then ((eg.trans eh).trans ei)) (stk_ex ((eg.trans eh).trans ei) ⟨l, t0 + 1, xs, cs, c1, c2, c3, a4, by omega, by omega⟩)

end
end K20
set_option Elab.async false
set_option linter.all false
set_option maxRecDepth 100000
set_option maxHeartbeats 4000000
namespace K20
open PySem PySem.Spec PyProof.Rows L2 Evl DL
local macro_rules | `(tactic| walk_at "dl") => `(tactic| first
  | exact ev_c | exact ev_var rfl | exact eda_nil
  | exact ed_var rfl (by assumption)
  | exact ed_int ev_c | exact ed_int (ev_var rfl)
  | (refine eda_cons ?_ ?_ <;> walk_at "dl")
  | (refine ed_int ?_; walk_at "dl")
  | (refine ev_op ?_ ?_ rv_I0 <;> walk_at "dl"))

section
variable {P : Program} {w : World} {K : PySem.W.Frag} {mg : Str → Option Value} {base : Heap}

def spPick (K : PySem.W.Frag) : Sp := fun vs H Q _ => ∃ (st lg cl : Addr) (n : Nat) (a : Addr) (ns : List Int), vs = [.ref st, .ref a] ∧ H a = some (.lst (ns.map V.int)) ∧ a ≠ lg ∧ 1 ≤ ns.length ∧ ns.length ≤ 1000 ∧ n ≤ 10000 ∧ StK st lg cl n H ∧
  ∀ r H', r ∈ ns → Xp [st, lg] H H' → StK st lg cl (n + 1) H' → Q (.int r) H'
def lpr (s : Int) : List PyData := (List.range s.toNat).flatMap fun (i : Nat) => (List.range (s - ((i : Int) + 1)).toNat).map fun (j : Nat) => PyData.tuple [.int (i : Int), .int ((i : Int) + 1 + (j : Int))]
def R_law_pairs (ds : List PyData) (r : List PyData) : Prop := ∃ s : Int, ds = [.int s] ∧ 2 ≤ s ∧ s ≤ 4 ∧ r = lpr s
theorem lpr_imm (s : Int) : immAll (lpr s) = true := immAll_flat (fun i => immAll_map (fun j => by simp [imm, immAll]) _) _
theorem lpr_len {s : Int} (h1 : 2 ≤ s) (h2 : s ≤ 4) : (lpr s).length = np s ∧ np s ≤ 6 := by
  have hs' : s = 2 ∨ s = 3 ∨ s = 4 := by omega
  rcases hs' with rfl | rfl | rfl <;> decide
abbrev s__law_pick : Stmt := topS 54
abbrev N__law_pick : List Str := ["state", "several"]
theorem sc__law_pick : FnScope N__law_pick ["state", "several"] (defScope s__law_pick) := ⟨rfl, rfl, rfl, by decide +kernel, rfl, by decide +kernel, by decide +kernel⟩
theorem ok__law_pick {f : Addr} {fd : FuncData} (F : Fun K "_law_pick" "_law_pick" s__law_pick f fd) (T : Txt mg)
    (D__law_draw : DF P w K mg base "_law_draw" 1 ["state", "size_here"] (spDraw K)) :
    FnOk P w K mg base CX0 2 f fd ["state", "several"] (spPick K) := by
  refine F.ok sc__law_pick (fun vs H Q E h => by obtain ⟨_, _, _, _, _, _, rfl, _⟩ := h; rfl) (fun cdv A outer s H vs Q E hr h => ?_)
  obtain ⟨st, lg, cl, n, a, ns, rfl, ha, hal, h1, h2, h3, hst, k⟩ := h
  refine ⟨_, (pss_one (ps_ret (pe_ix ix_list (pv 1) (pe_D D__law_draw (hr.mono (by decide)) (by rfl) (pa_cons (pv 0) (pa_cons (pe_callB call_len_seq (by rfl) T.b_len PySem.boot_len (pa_cons (pv 1) pa_nil)) pa_nil))) (fun _ _ => rfl)))), ?_⟩
  have hast : a ≠ st := fun z => by
    obtain ⟨_, _, _, _, q, _⟩ := hst
    rw [← z, ha] at q
    cases q
  refine ⟨.ref a, rfl, .ref st, rfl, .ref a, rfl, a, ns.map V.int, rfl, .inl (sq_of ha), st, lg, cl, n, ((ns.map V.int).length : Int), rfl, by rw [List.length_map]; omega, by rw [List.length_map]; omega, h3, hst, fun r H' r0 r1 x s => ?_⟩
  rw [List.length_map] at r1
  obtain ⟨j, rfl⟩ := Int.eq_ofNat_of_zero_le r0
  have hj : j < ns.length := by omega
  refine ⟨a, ns.map V.int, (j : Int), .int ns[j], rfl, rfl, sq_of (x _ _ ha (by simp [hast, hal])), atI_nat (by rw [List.getElem?_map, List.getElem?_eq_getElem hj]; rfl), k _ H' (List.getElem_mem hj) x s⟩

abbrev s__law_pairs : Stmt := topS 55
abbrev N__law_pairs : List Str := ["sides_here", "found", "one", "other"]
theorem sc__law_pairs : FnScope N__law_pairs ["sides_here"] (defScope s__law_pairs) := ⟨rfl, rfl, rfl, by decide +kernel, rfl, by decide +kernel, by decide +kernel⟩
theorem ok__law_pairs {f : Addr} {fd : FuncData} (F : Fun K "_law_pairs" "_law_pairs" s__law_pairs f fd) (T : Txt mg)
     :
    FnOk P w K mg base CX0 1 f fd ["sides_here"] (spN K 1 R_law_pairs) := by
  refine F.ok sc__law_pairs (fun vs H Q E h => spN_len h) (fun cdv A outer s H vs Q E hr h => ?_)
  obtain ⟨ds, r, hd, _, ⟨x, rfl, h1, h2, rfl⟩, k⟩ := h
  obtain ⟨v0, rfl, d0⟩ := dpa_one hd
  cases dp_int d0
  refine ⟨_, (pss_cons (ps_set (i := 1) sc__law_pairs.nd rfl (.inl rfl) (pe_lst pa_nil))
      (pss_cons (ps_for PassesOwn.never rfl (pi_range1 (by rfl) T.b_range (pa_cons (pv 0) pa_nil)) (pg_name (i := 2) sc__law_pairs.nd rfl (Or.inr rfl)) (pss_one (ps_set (i := 1) sc__law_pairs.nd rfl (.inl rfl) (pe_op op_cat (pv 1) (pe_lc (own := [("other", 3)]) (g := (gName 3)) (tt := tYes) rfl sc__law_pairs.nd (pi_range2 (by rfl) T.b_range (pa_cons (pe_op op_add (pv 2) pe_int) (pa_cons (pv 0) pa_nil))) (blkOk_by (N := N__law_pairs) (sc := defScope s__law_pairs) (by decide +kernel)) (fun _ _ _ _ _ => (pg_name (i := 3) sc__law_pairs.nd rfl (Or.inl rfl))) (fun _ _ _ _ _ => pts_nil) (fun _ _ _ _ _ => (pe_tup (pa_cons (pv 2) (pa_cons (pv 3) pa_nil)))))))))
      (pss_one (ps_ret (pv 1))))), ?_⟩
  refine qn_asg (K := K) (en_lst eda_nil (by simp)) fun p vs H1 hp e1 h1' hd1 => ?_
  cases hd1
  refine e_for (S := []) (ei_rng1 (K := K) (n := x) (eda_cons (ed_int (ev_var rfl)) eda_nil) ⟨by omega, by omega⟩) (fun H2 i σ' Ha => Ex H2 Ha ∧ ∃ p ws a b, H p = none ∧ Ha p = some (.lst ws) ∧ DpAll K Ha ws ((List.range i).flatMap fun (i : Nat) => (List.range (x - ((i : Int) + 1)).toNat).map fun (j : Nat) => PyData.tuple [.int (i : Int), .int ((i : Int) + 1 + (j : Int))]) ∧ σ' = [some (.int x), some (.ref p), a, b])
    (fun H2 e2 => ⟨Ex.refl _, p, [], none, none, hp, e2 _ _ h1', .nil, rfl⟩) (fun H2 i σ' Ha _ z => Xp.of_ex z.1) ?_ ?_
  · rintro H2 i d y σ' Ha Hb e2 hdi ⟨p1, p, ws, a, b, hp, hpa, dws, rfl⟩ eb hy
    have hi : i < x.toNat := by simpa using (List.getElem?_eq_some_iff.mp hdi).1
    rw [rng_get hi] at hdi
    cases hdi
    cases dp_int hy
    have hpb := eb _ _ hpa
    have dwb := dpa_ex eb _ _ dws
    have small : ∀ i : Nat, ((List.range i).flatMap fun (i : Nat) => (List.range (x - ((i : Int) + 1)).toNat).map fun (j : Nat) => PyData.tuple [.int (i : Int), .int ((i : Int) + 1 + (j : Int))]).length ≤ 4 * i := fun i => by
      induction i with
      | zero => simp
      | succ i ih =>
        rw [List.range_succ, List.flatMap_append, List.length_append, List.flatMap_cons, List.flatMap_nil, List.append_nil, List.length_map, List.length_range]
        omega
    have sm := small i
    show tAsg _ (gName 1) _ [some (.int x), some (.ref p), some (.int (i : Int)), b] Hb
    refine n_asg (K := K) (en_cat (eq_var rfl hpb dwb) (EvN.toQ (en_lc (K := K) (ei_rng2 (S := []) (K := K) (m := (i : Int) + 1) (n := x) (eda_cons (ed_int (ev_op (ev_var rfl) ev_c rv_I0)) (eda_cons (ed_int (ev_var rfl)) eda_nil)) ⟨⟨by omega, by omega⟩, by omega, by omega⟩) (by rw [List.length_map, List.length_range]; omega)
      (fun j => PyData.tuple [.int (i : Int), .int ((i : Int) + 1 + (j : Int))]) (fun j _ => by simp [imm, immAll]) ?_)) ?_) fun p2 ws2 Hc hp2 ec h2' hd2 => ?_
    · intro H3 j d y Hd Q e3 hdj ed hy kk
      have hj : j < (x - ((i : Int) + 1)).toNat := by simpa using (List.getElem?_eq_some_iff.mp hdj).1
      rw [rng_get hj] at hdj
      cases hdj
      cases dp_int hy
      exact kk _ Hd (Ex.refl _) rfl (ed_tup (eda_cons (ed_int (ev_var rfl)) (eda_cons (ed_int (ev_var rfl)) eda_nil)) (by simp))
    · simp only [List.length_map, List.length_range]
      omega
    · refine ⟨(p1.trans eb).trans ec, p2, ws2, _, _, fresh_back (((e1.trans e2).trans p1).trans eb) hp2, h2', ?_, rfl⟩
      rw [List.range_succ, List.flatMap_append, List.flatMap_cons, List.flatMap_nil, List.append_nil]
      simpa using hd2
  · rintro H2 σ' Ha e2 ⟨p1, p, ws, a, b, hp, hpa, dws, rfl⟩
    refine ⟨.ref p, rfl, k p ws Ha hp ((e1.trans e2).trans p1) hpa ?_⟩
    rw [List.length_map, List.length_range] at dws
    exact dws

end
end K20
set_option Elab.async false
set_option linter.all false
set_option maxRecDepth 100000
set_option maxHeartbeats 4000000
namespace K20
open PySem PySem.Spec PyProof.Rows L2 Evl DL
local macro_rules | `(tactic| walk_at "dl") => `(tactic| first
  | exact ev_c | exact ev_var rfl | exact eda_nil
  | exact ed_var rfl (by assumption)
  | exact ed_int ev_c | exact ed_int (ev_var rfl)
  | (refine eda_cons ?_ ?_ <;> walk_at "dl")
  | (refine ed_int ?_; walk_at "dl")
  | (refine ev_op ?_ ?_ rv_I0 <;> walk_at "dl"))

section
variable {P : Program} {w : World} {K : PySem.W.Frag} {mg : Str → Option Value} {base : Heap}

def spDrawn (K : PySem.W.Frag) : Sp := fun vs H Q _ => ∃ (st lg cl : Addr) (n : Nat) (s : Int), vs = [.ref st, .int s] ∧ 2 ≤ s ∧ s ≤ 4 ∧ n ≤ 9000 ∧ StK st lg cl n H ∧
  ∀ l v H', Ld s l → Xp [st, lg] H H' → StK st lg cl (n + 13) H' → Dp K H' v (tI l) → Q v H'
def spBegun (K : PySem.W.Frag) : Sp := fun vs H Q _ => ∃ (a : Addr) (ns : List Int), vs = [.ref a] ∧ SqL K H a (ns.map V.int) ∧ ns.length ≤ 63 ∧
  ∀ st lg cl H', H st = none → H lg = none → Ex H H' → StK st lg cl 0 H' → Q (.ref st) H'
theorem stk_ne {st lg cl D : Addr} {n : Nat} {H : Hp} (h : StK st lg cl n H) (hD : H D = none) : D ≠ st ∧ D ≠ lg ∧ D ≠ cl := by
  obtain ⟨l, t, xs, cs, h1, h2, h3, _⟩ := h
  refine ⟨fun z => ?_, fun z => ?_, fun z => ?_⟩
  · rw [z, h1] at hD; cases hD
  · rw [z, h2] at hD; cases hD
  · rw [z, h3] at hD; cases hD
theorem stk_upd {st lg cl D : Addr} {n : Nat} {H : Hp} {u : HO} (h : StK st lg cl n H) (hD : D ≠ st ∧ D ≠ lg ∧ D ≠ cl) : StK st lg cl n (L2.upd H D u) := by
  obtain ⟨l, t, xs, cs, h1, h2, h3, h4⟩ := h
  exact ⟨l, t, xs, cs, by rw [upd_ne (Ne.symm hD.1)]; exact h1, by rw [upd_ne (Ne.symm hD.2.1)]; exact h2, by rw [upd_ne (Ne.symm hD.2.2)]; exact h3, h4⟩
abbrev s__law_drawn : Stmt := topS 56
abbrev N__law_drawn : List Str := ["state", "sides_here", "most", "pair"]
theorem sc__law_drawn : FnScope N__law_drawn ["state", "sides_here"] (defScope s__law_drawn) := ⟨rfl, rfl, rfl, by decide +kernel, rfl, by decide +kernel, by decide +kernel⟩
theorem ok__law_drawn {f : Addr} {fd : FuncData} (F : Fun K "_law_drawn" "_law_drawn" s__law_drawn f fd) (T : Txt mg)
    (D__law_draw : DF P w K mg base "_law_draw" 1 ["state", "size_here"] (spDraw K)) (D__law_pairs : DF P w K mg base "_law_pairs" 1 ["sides_here"] (spN K 1 R_law_pairs)) (D__law_pick : DF P w K mg base "_law_pick" 2 ["state", "several"] (spPick K)) :
    FnOk P w K mg base CX0 3 f fd ["state", "sides_here"] (spDrawn K) := by
  refine F.ok sc__law_drawn (fun vs H Q E h => by obtain ⟨_, _, _, _, _, rfl, _⟩ := h; rfl) (fun cdv A outer s H vs Q E hr h => ?_)
  obtain ⟨st, lg, cl, n, x, rfl, h1, h2, h3, hst, k⟩ := h
  refine ⟨_, (pss_cons (ps_set (i := 2) sc__law_drawn.nd rfl (.inr rfl) (pe_D D__law_pick (hr.mono (by decide)) (by rfl) (pa_cons (pv 0) (pa_cons (pe_lst (pa_cons pe_int (pa_cons pe_int (pa_cons pe_int (pa_cons pe_int (pa_cons pe_int (pa_cons pe_int pa_nil))))))) pa_nil))))
      (pss_one (ps_ret (pe_callTy call_tuple_of (by rfl) T.b_tuple (by decide +kernel) (pa_cons (pe_lc (own := [("pair", 3)]) (g := (gName 3)) (tt := tYes) rfl sc__law_drawn.nd (pi_list (pe_D D__law_pairs (hr.mono (by decide)) (by rfl) (pa_cons (pv 1) pa_nil))) (blkOk_by (N := N__law_drawn) (sc := defScope s__law_drawn) (by decide +kernel)) (fun _ _ _ _ _ => (pg_name (i := 3) sc__law_drawn.nd rfl (Or.inl rfl))) (fun _ _ _ _ _ => pts_nil) (fun _ _ _ _ _ => (pe_ifExp (pt_cmpR op_gt (pe_D D__law_draw (hr.mono (by decide)) (by rfl) (pa_cons (pv 0) (pa_cons pe_int pa_nil))) pe_int (nomark _)) (pe_D D__law_draw (hr.mono (by decide)) (by rfl) (pa_cons (pv 0) (pa_cons (pe_op op_add (pv 2) pe_int) pa_nil))) pe_int))) pa_nil))))), ?_⟩
  refine ⟨.ref st, rfl, by show 6 ≤ sizeLine; decide, fun a ha => ?_⟩
  have ne0 := stk_ne hst ha
  refine ⟨st, lg, cl, n, a, [1, 2, 3, 6, 30, 99], rfl, upd_same, ne0.2.1, by decide, by decide, by omega, stk_ex (Ex.new ha) hst, fun most H1 hmo x1 s1 => ?_⟩
  have hmost : 1 ≤ most ∧ most ≤ 99 := by
    simp only [List.mem_cons, List.not_mem_nil, or_false] at hmo
    omega
  have x1 : Xp [st, lg] H H1 := fun b o hb hn => x1 b o (Ex.new ha _ _ hb) hn
  dsimp only [gName]
  show tRet (tCB _ _) _ [some (.ref st), some (.int x), some (.int most), none] H1
  refine en_call (K := K) (σ := wipe [some (.ref st), some (.int x), some (.int most), none] []) (R := R_law_pairs) (ds := [.int x]) (by walk_at "dl") rfl ⟨x, rfl, h1, h2, rfl⟩ H1 (Ex.refl _) _ fun p vs H2 hp e2 h2' hd2 => ?_
  refine ⟨p, rfl, ⟨vs, sq_of h2'⟩, fun Dl hD => ?_⟩
  have s2 := stk_ex e2 s1
  have neD := stk_ne s2 hD
  have neP := stk_ne s1 hp
  have npD : p ≠ Dl := fun z => by rw [z, hD] at h2'; cases h2'
  have lv : vs.length = np x ∧ np x ≤ 6 := by
    have := lpr_len h1 h2
    exact ⟨(dpa_len hd2).trans this.1, this.2⟩
  refine lc_it (walk_list (K := K) (xs := vs)) (fun i Ha => Xp [st, lg, Dl] H2 Ha ∧ ∃ ns : List Int, Ha Dl = some (.lst (ns.map V.int)) ∧ ns.length = i ∧ (∀ z ∈ ns, 0 ≤ z ∧ z ≤ 99) ∧ StK st lg cl (n + 1 + 2 * i) Ha) ?_ ?_ ?_ ?_
  · exact ⟨Xp.upd (Xp.refl _ _) (by simp), [], upd_same, rfl, fun z hz => by simp at hz, stk_upd s2 neD⟩
  · rintro i Ha _ ⟨x3, _⟩
    exact sq_of (x3 _ _ h2' (by simp [neP.1, neP.2.1, npD]))
  · rintro i y Ha Hb hi ⟨x3, ns, hds, hln, hns, s3⟩ ⟨rfl, hy⟩
    refine ⟨rfl, ?_⟩
    dsimp only [tYes]
    rw [if_pos rfl]
    show tIf (tTest _) (tCall _ _ _ _) _ [some (.ref st), some (.int x), some (.int most), some y] Hb _
    have fin : ∀ r H', 0 ≤ r → r ≤ 99 → Xp [st, lg] Hb H' → StK st lg cl (n + 1 + 2 * (i + 1)) H' → ∃ acc, H' Dl = some (.lst acc) ∧ acc.length < sizeLine ∧ (Xp [st, lg, Dl] H2 (upd H' Dl (.lst (acc ++ [.int r]))) ∧ ∃ ns : List Int, upd H' Dl (.lst (acc ++ [.int r])) Dl = some (.lst (ns.map V.int)) ∧ ns.length = i + 1 ∧ (∀ z ∈ ns, 0 ≤ z ∧ z ≤ 99) ∧ StK st lg cl (n + 1 + 2 * (i + 1)) (upd H' Dl (.lst (acc ++ [.int r])))) := fun r H' r0 r1 x4 s4 => by
      refine ⟨ns.map V.int, x4 _ _ hds (by simp [neD.1, neD.2.1]), sz_lt (by rw [List.length_map]; omega), Xp.upd (x3.trans fun a o ho hn => x4 a o ho fun hm => hn (by simp at hm ⊢; rcases hm with h | h <;> simp [h])) (by simp), ns ++ [r], by rw [upd_same, List.map_append]; rfl, by simp [hln], fun z hz => ?_, stk_upd s4 neD⟩
      rcases List.mem_append.mp hz with hz | hz
      · exact hns z hz
      · have : z = r := by simpa using hz
        omega
    refine ⟨.ref st, rfl, st, lg, cl, _, 4, rfl, by decide, by decide, by omega, s3, fun r H4 r0 r1 x4 s4 => ⟨r, 0, rfl, rfl, _, rfl, ?_⟩⟩
    by_cases hr0 : decide ((0 : Int) < r) = true
    · dsimp only
      rw [if_pos hr0]
      refine ⟨.ref st, rfl, .int most, rfl, most, 1, rfl, rfl, st, lg, cl, _, most + 1, rfl, by omega, by omega, by omega, s4, fun r2 H5 r3 r4 x5 s5 => ?_⟩
      exact fin r2 H5 r3 (by omega) (x4.trans x5) s5
    · dsimp only
      rw [if_neg hr0]
      exact fin 0 H4 (by decide) (by decide) x4 (stk_mono (by omega) s4)
  · rintro Ha ⟨x3, ns, hds, hln, hns, s3⟩
    have x3' : Xp [st, lg] H2 Ha := fun a o ho hn => x3 a o ho fun hm => by
      rcases (by simpa using hm : a = st ∨ a = lg ∨ a = Dl) with h | h | h
      · exact hn (by simp [h])
      · exact hn (by simp [h])
      · rw [h, hD] at ho
        cases ho
    refine ⟨Dl, ns.map V.int, rfl, .inl ⟨sq_of hds, fun q hq => ?_⟩⟩
    refine k ns _ _ ⟨by rw [hln]; exact lv.1, hns⟩ ((x1.then e2).trans (x3'.then (Ex.new hq))) (stk_ex (Ex.new hq) (stk_mono (by omega) s3)) (tI_dp (st_of upd_same))


theorem merge_dk {lg cl : Addr} : mergeK [] (dk lg cl 0 0) = dk lg cl 0 0 := by
  obtain ⟨a, b, c, d, e, f⟩ := k_ne
  simp [mergeK, putK, dk, a, b, c, d, e, f]
theorem ev_absI {K : PySem.W.Frag} {σ : L2.St} {H : Hp} {ta : TE} {i : Int} (h : Ev ta σ H (.int i)) : Ev (tCB (fun xs H Q => ∃ i, xs = [.int i] ∧ Q (.int (if i < 0 then -i else i)) H) (tCons ta tNil)) σ H (.int (if i < 0 then -i else i)) := fun H1 e Q q =>
  h H1 e _ fun H2 e2 => ⟨i, rfl, q H2 e2⟩
theorem given_ints (n : Nat) (f : Nat → Bool) (g : Nat → Int) : given n f (fun i => V.int (g i)) = (((List.range n).filter f).map g).map V.int := by
  rw [given, List.map_map]
  rfl
abbrev s__law_begun : Stmt := topS 52
abbrev N__law_begun : List Str := ["script", "cells_here", "large", "cell"]
theorem sc__law_begun : FnScope N__law_begun ["script"] (defScope s__law_begun) := ⟨rfl, rfl, rfl, by decide +kernel, rfl, by decide +kernel, by decide +kernel⟩
theorem ok__law_begun {f : Addr} {fd : FuncData} (F : Fun K "_law_begun" "_law_begun" s__law_begun f fd) (T : Txt mg)
     :
    FnOk P w K mg base CX0 1 f fd ["script"] (spBegun K) := by
  refine F.ok sc__law_begun (fun vs H Q E h => by obtain ⟨_, _, rfl, _⟩ := h; rfl) (fun cdv A outer s H vs Q E hr h => ?_)
  obtain ⟨a, ns, rfl, hs, hl, k⟩ := h
  refine ⟨_, (pss_cons (ps_setLc (i := 1) (own := [("cell", 3)]) (g := (gName 3)) (tt := tYes) rfl sc__law_begun.nd rfl rfl (sw_true rfl rfl rfl (by decide +kernel)) (pi_list (pv 0)) (blkOk_by (N := N__law_begun) (sc := defScope s__law_begun) (by decide +kernel)) (fun _ _ _ _ _ => (pg_name (i := 3) sc__law_begun.nd rfl (Or.inl rfl))) (fun _ _ _ _ _ => pts_nil) (fun _ _ _ _ _ => (pe_callB call_abs (by rfl) T.b_abs (by decide +kernel) (pa_cons (pv 3) pa_nil))))
      (pss_cons (ps_setLc (i := 2) (own := [("cell", 3)]) (g := (gName 3)) (tt := _) rfl sc__law_begun.nd rfl rfl (sw_true rfl rfl rfl (by decide +kernel)) (pi_list (pv 1)) (blkOk_by (N := N__law_begun) (sc := defScope s__law_begun) (by decide +kernel)) (fun _ _ _ _ _ => (pg_name (i := 3) sc__law_begun.nd rfl (Or.inl rfl))) (fun _ _ _ _ _ => (pts_one (pt_cmpR op_ge (pv 3) (pe_op op_pow pe_int pe_int) (nomark _)))) (fun _ _ _ _ _ => (pe_op op_sub (pv 3) (pe_op op_pow pe_int pe_int))))
      (pss_one (ps_ret (pe_disp (pps_cons pe_str (pv 2) (pps_cons pe_str (pv 1) (pps_cons pe_str pe_int (pps_cons pe_str pe_int pps_nil)))) (by rfl) (by rfl) (fun z => by cases z) (by decide)))))), ?_⟩
  have c2 : ∀ (i : Nat) (x : V), (ns.map V.int)[i]? = some x → x = .int (ns.getD i 0) := fun i x h => by
    rw [List.getElem?_map] at h
    cases g : ns[i]? with
    | none => rw [g] at h; simp at h
    | some z => rw [g] at h; simp at h; rw [← h, List.getD_eq_getElem?_getD, g]; rfl
  refine q_asgL (xs := given (ns.map V.int).length (fun _ => true) fun i => V.int (if ns.getD i 0 < 0 then -(ns.getD i 0) else ns.getD i 0)) (el_lcL (K := K) (a := a) (xs := ns.map V.int) _ _ (ev_var rfl) hs (by rw [List.length_map]; omega) (fun x => rfl) (fun i x H1 e1 hx H2 e2 Q q => q H2 (Ex.refl _)) fun i x H1 e1 hx _ => ?_) fun cl H1 hcl e1 h1 => ?_
  · rw [c2 i x hx]
    exact ev_absI (K := K) (ev_var rfl)
  rw [given_ints] at h1
  generalize hcs : ((List.range (ns.map V.int).length).filter fun _ => true).map (fun i => if ns.getD i 0 < 0 then -(ns.getD i 0) else ns.getD i 0) = cs at h1
  have lcs : cs.length ≤ 63 := by
    rw [← hcs, List.length_map]
    refine Nat.le_trans (List.length_filter_le _ _) ?_
    rw [List.length_range, List.length_map]
    exact hl
  have c3 : ∀ (i : Nat) (x : V), (cs.map V.int)[i]? = some x → x = .int (cs.getD i 0) := fun i x h => by
    rw [List.getElem?_map] at h
    cases g : cs[i]? with
    | none => rw [g] at h; simp at h
    | some z => rw [g] at h; simp at h; rw [← h, List.getD_eq_getElem?_getD, g]; rfl
  refine q_asgL (xs := given (cs.map V.int).length (fun i => decide ((10 : Int) ^ (18 : Int).toNat ≤ cs.getD i 0)) fun i => V.int (cs.getD i 0 - (10 : Int) ^ (18 : Int).toNat)) (el_lcL (K := K) (a := cl) (xs := cs.map V.int) _ _ (ev_var rfl) (sq_of h1) (by rw [List.length_map]; omega) (fun x => rfl) (fun i x H2 e2 hx => ?_) fun i x H2 e2 hx _ => ?_) fun lg H2 hlg e2 h2 => ?_
  · rw [c3 i x hx]
    exact et_test (ev_op (ev_var rfl) (ev_op ev_c ev_c (rv_I ⟨by decide, by decide, by decide⟩)) rv_I0)
  · rw [c3 i x hx]
    exact ev_op (ev_var rfl) (ev_op ev_c ev_c (rv_I ⟨by decide, by decide, by decide⟩)) rv_I0
  rw [given_ints] at h2
  generalize hxs : ((List.range (cs.map V.int).length).filter fun i => decide ((10 : Int) ^ (18 : Int).toNat ≤ cs.getD i 0)).map (fun i => cs.getD i 0 - (10 : Int) ^ (18 : Int).toNat) = xs at h2
  show tRet (tDisp _) _ [some (.ref a), some (.ref cl), some (.ref lg), none] H2
  refine fun st hst => ⟨.ref lg, rfl, .ref cl, rfl, upd_same, dk lg cl 0 0, rfl, by show 4 ≤ 15; decide, ?_⟩
  rw [merge_dk]
  have e2' := Ex.new (o := .dK []) hst
  have ncl : cl ≠ lg := fun z => by rw [z] at h1; rw [hlg] at h1; cases h1
  have nst1 : lg ≠ st := fun z => by rw [← z] at hst; rw [hst] at h2; cases h2
  have nst2 : cl ≠ st := fun z => by
    have := e2 _ _ h1
    rw [z, hst] at this
    cases this
  refine k st lg cl _ (fresh_back (e1.trans e2) hst) (fresh_back e1 hlg) (Ex.mut ((e1.trans e2).trans e2') (fresh_back (e1.trans e2) hst)) ⟨0, 0, xs, cs, upd_same, ?_, ?_, ncl, by decide, by decide⟩
  · rw [upd_ne nst1, upd_ne nst1]
    exact h2
  · rw [upd_ne nst2, upd_ne nst2]
    exact e2 _ _ h1

end
end K20
set_option Elab.async false
set_option linter.all false
set_option maxRecDepth 100000
set_option maxHeartbeats 4000000
namespace K20
open PySem PySem.Spec PyProof.Rows L2 Evl DL
theorem getD_zw {i : Nat} : ∀ {a b : List Int}, a.length = b.length → (zw (· + ·) a b).getD i 0 = a.getD i 0 + b.getD i 0
  | [], [], _ => by simp [zw]
  | x :: a, y :: b, h => by
    cases i with
    | zero => rfl
    | succ i =>
      have := getD_zw (i := i) (a := a) (b := b) (by simpa using h)
      simpa [zw] using this
theorem fold_get : ∀ (vs : List (List Int)) (acc : List Int), (∀ v ∈ vs, v.length = acc.length) → (vs.foldl (zw (· + ·)) acc).length = acc.length ∧ ∀ i, (vs.foldl (zw (· + ·)) acc).getD i 0 = acc.getD i 0 + (vs.map (·.getD i 0)).sum
  | [], acc, _ => ⟨rfl, fun i => by simp⟩
  | v :: vs, acc, h => by
    have hv := h v List.mem_cons_self
    have l1 : (zw (· + ·) acc v).length = acc.length := zw_len hv.symm
    obtain ⟨a, b⟩ := fold_get vs (zw (· + ·) acc v) (fun u hu => by rw [l1]; exact h u (List.mem_cons_of_mem _ hu))
    refine ⟨by rw [List.foldl_cons, a, l1], fun i => ?_⟩
    rw [List.foldl_cons, b i, getD_zw hv.symm, List.map_cons, List.sum_cons]
    omega
theorem sum_app (a b : List Int) : (a ++ b).sum = a.sum + b.sum := List.sum_append
theorem sum_if {x : Int} (hx : 0 ≤ x) : ∀ n : Nat, ((List.range n).map fun (k : Nat) => if (k : Int) < x then (1 : Int) else 0).sum = min (n : Int) x
  | 0 => by simp; omega
  | n + 1 => by
    rw [List.range_succ, List.map_append, sum_app, sum_if hx n, List.map_singleton, List.sum_singleton]
    split <;> omega
theorem sum_0 : ∀ n : Nat, ((List.range n).map fun (_ : Nat) => (0 : Int)).sum = 0
  | 0 => rfl
  | n + 1 => by
    rw [List.range_succ, List.map_append, sum_app, sum_0 n]
    rfl
theorem mx2 (a b : Int) : mxl [a, b] = max a b := rfl
theorem mx1 (a : Int) : mxl [a] = a := rfl
abbrev ind (k x : Int) : Int := if k < x then 1 else 0
theorem trk2_0 (x k : Int) : trk 2 [(0, 1)] [x] k = [ind k x] := by
  show tst 2 k (zer 2) (((0, 1) : Int × Int), x) = _
  unfold tst ind
  by_cases h1 : k < x <;> simp only [h1, if_true, if_false] <;> rfl
theorem tks2_0 (a : Int) : tks 2 [a] [(0, 1)] = (List.range (a).toNat).map fun (k : Nat) => [ind (k : Int) a] := by
  have eqn : lfs 2 [a] [(0, 1)] = [a] := rfl
  rw [tks, eqn, mx1]
  exact List.map_congr_left fun k _ => trk2_0 a (k : Int)
theorem needl2 (a : Int) : need 2 [a] = mxl [0 + a, 0 + a] := rfl
theorem need2 (a : Int) : (0 + a ≤ need 2 [a] ∧ 0 + a ≤ need 2 [a]) ∧ (need 2 [a] = 0 + a ∨ need 2 [a] = 0 + a) := by
  rw [needl2]
  refine ⟨⟨mxl_ge (by simp), mxl_ge (by simp)⟩, ?_⟩
  have h := mxl_mem (l := [0 + a, 0 + a]) (by simp)
  simp only [List.mem_cons, List.not_mem_nil, or_false] at h
  exact h
theorem smsm2 (a : Int) : (0 + a ≤ mxl (sms 2 [a]) ∧ 0 + a ≤ mxl (sms 2 [a])) ∧ (mxl (sms 2 [a]) = 0 + a ∨ mxl (sms 2 [a]) = 0 + a) := by
  have eqn : sms 2 [a] = [0 + a, 0 + a] := rfl
  rw [eqn]
  refine ⟨⟨mxl_ge (by simp), mxl_ge (by simp)⟩, ?_⟩
  have h := mxl_mem (l := [0 + a, 0 + a]) (by simp)
  simp only [List.mem_cons, List.not_mem_nil, or_false] at h
  exact h
theorem fa2 (a : Int) (hn : 0 ≤ a) : mxl (sms 2 [a]) ≤ need 2 [a] ∧ 0 ≤ mxl (sms 2 [a]) ∧ 2 * need 2 [a] ≤ 3 * mxl (sms 2 [a]) := by
  have h1 := need2 a
  have h2 := smsm2 a
  generalize need 2 [a] = A at *
  generalize mxl (sms 2 [a]) = B at *
  refine ⟨?_, ?_, ?_⟩
  · obtain ⟨h1, _⟩ := h1
    obtain ⟨_, h2⟩ := h2
    rcases h2 with h2 | h2 <;> omega
  · omega
  · obtain ⟨_, h1⟩ := h1
    obtain ⟨h2, _⟩ := h2
    rcases h1 with h1 | h1 <;> omega
theorem fb2 (a : Int) (hn : a ≤ 33) : need 2 [a] ≤ 99 := by
  have h1 := (need2 a).2
  rcases h1 with h1 | h1 <;> omega
theorem nl2 (a : Int) (hn : 0 ≤ a) : need 2 [a] = a := by
  have h1 := need2 a
  generalize need 2 [a] = A at *
  obtain ⟨h1, h2⟩ := h1
  rcases h2 with h2 | h2 <;> omega
theorem ns2 (a a' : Int) (hn : 0 ≤ a') : need 2 [a + a'] ≤ need 2 [a] + need 2 [a'] ∧ need 2 [a] ≤ need 2 [a + a'] := by
  have h1 := need2 a
  have h2 := need2 a'
  have h3 := need2 (a + a')
  generalize need 2 [a] = A at *
  generalize need 2 [a'] = B at *
  generalize need 2 [a + a'] = C at *
  refine ⟨?_, ?_⟩
  · obtain ⟨h1, _⟩ := h1
    obtain ⟨h2, _⟩ := h2
    obtain ⟨_, h3⟩ := h3
    rcases h3 with h3 | h3 <;> omega
  · obtain ⟨_, h1⟩ := h1
    obtain ⟨h3, _⟩ := h3
    rcases h1 with h1 | h1 <;> omega
theorem psl2 (a : Int) : psl 2 [a] = (List.range (a).toNat).map (fun (k : Nat) => [ind (k : Int) a]) := by
  show tks 2 [a] [(0, 1)] ++ [] = _
  rw [tks2_0]
  simp only [List.append_nil, List.append_assoc]
theorem fc2 (a : Int) (hn : 0 ≤ a) : Adds 2 [a] (List.replicate (need 2 [a]).toNat 1) (psl 2 [a]) := by
  have mem : ∀ p ∈ psl 2 [a], Ld 2 p ∧ mxl (sms 2 p) ≤ 1 := by
    intro p hp
    rw [psl2] at hp
    simp only [List.mem_append, List.mem_map] at hp
    have two : ∀ k x : Int, ind k x = 0 ∨ ind k x = 1 := fun k x => by unfold ind; split <;> simp
    have ldd : ∀ l : List Int, (decide (l.length = np 2) && l.all (fun x => decide (0 ≤ x) && decide (x ≤ 99)) && decide (mxl (sms 2 l) ≤ 1)) = true → Ld 2 l ∧ mxl (sms 2 l) ≤ 1 := fun l h => by
      simp only [Bool.and_eq_true, decide_eq_true_eq, List.all_eq_true] at h
      exact ⟨⟨h.1.1, h.1.2⟩, h.2⟩
    obtain ⟨k, _, rfl⟩ := hp
    rcases two k a with h | h <;> (rw [h]; exact ldd _ (by decide))
  have len : (psl 2 [a]).length = (need 2 [a]).toNat := by
    rw [psl2, nl2 a hn]
    simp only [List.length_append, List.length_map, List.length_range] <;> omega
  refine ⟨by rw [len, List.length_replicate], fun p hp => (mem p hp).1, fun i p r h1 h2 => ?_, ?_⟩
  · have : r = 1 := by
      rw [List.getElem?_replicate] at h2
      split at h2
      · exact (Option.some.inj h2).symm
      · cases h2
    rw [this]
    exact (mem p (List.mem_of_getElem? h1)).2
  · obtain ⟨f1, f2⟩ := fold_get (psl 2 [a]) (zer 2) (fun v hv => by rw [(mem v hv).1.1]; rfl)
    have f1 : (List.foldl (zw (· + ·)) (zer 2) (psl 2 [a])).length = 1 := f1
    have c0 := f2 0
    have z : ∀ i, (zer 2).getD i 0 = 0 := fun i => by
      rw [zer, List.getD_eq_getElem?_getD, List.getElem?_replicate]
      split <;> rfl
    have key : ∀ i x, x = 0 + ((psl 2 [a]).map (·.getD i 0)).sum → (List.foldl (zw (· + ·)) (zer 2) (psl 2 [a])).getD i 0 = x := fun i x h => by rw [f2 i, z i, h]
    have d0 := key 0 a (by
      rw [psl2]
      simp only [List.map_append, sum_app, List.map_map, Function.comp_def, List.getD_cons_zero, List.getD_cons_succ, ind]
      simp only [sum_if (show 0 ≤ a by omega), sum_0]
      omega)
    generalize List.foldl (zw (· + ·)) (zer 2) (psl 2 [a]) = R at *
    match R, f1 with
    | [r0], _ =>
      have e0 : r0 = a := d0
      rw [e0]
theorem sa2 (a a' : Int) : mxl (sms 2 [a + a']) ≤ mxl (sms 2 [a]) + mxl (sms 2 [a']) := by
  have h1 := (smsm2 a).1
  have h2 := (smsm2 a').1
  have h3 := (smsm2 (a + a')).2
  rcases h3 with h3 | h3 <;> omega
theorem trk3_0 (x k : Int) : trk 3 [(0, 1)] [x] k = [ind k x, 0, 0] := by
  show tst 3 k (zer 3) (((0, 1) : Int × Int), x) = _
  unfold tst ind
  by_cases h1 : k < x <;> simp only [h1, if_true, if_false] <;> rfl
theorem tks3_0 (a b c : Int) : tks 3 [a, b, c] [(0, 1)] = (List.range (a).toNat).map fun (k : Nat) => [ind (k : Int) a, 0, 0] := by
  have eqn : lfs 3 [a, b, c] [(0, 1)] = [a] := rfl
  rw [tks, eqn, mx1]
  exact List.map_congr_left fun k _ => trk3_0 a (k : Int)
theorem trk3_1 (x k : Int) : trk 3 [(0, 2)] [x] k = [0, ind k x, 0] := by
  show tst 3 k (zer 3) (((0, 2) : Int × Int), x) = _
  unfold tst ind
  by_cases h1 : k < x <;> simp only [h1, if_true, if_false] <;> rfl
theorem tks3_1 (a b c : Int) : tks 3 [a, b, c] [(0, 2)] = (List.range (b).toNat).map fun (k : Nat) => [0, ind (k : Int) b, 0] := by
  have eqn : lfs 3 [a, b, c] [(0, 2)] = [b] := rfl
  rw [tks, eqn, mx1]
  exact List.map_congr_left fun k _ => trk3_1 b (k : Int)
theorem trk3_2 (x k : Int) : trk 3 [(1, 2)] [x] k = [0, 0, ind k x] := by
  show tst 3 k (zer 3) (((1, 2) : Int × Int), x) = _
  unfold tst ind
  by_cases h1 : k < x <;> simp only [h1, if_true, if_false] <;> rfl
theorem tks3_2 (a b c : Int) : tks 3 [a, b, c] [(1, 2)] = (List.range (c).toNat).map fun (k : Nat) => [0, 0, ind (k : Int) c] := by
  have eqn : lfs 3 [a, b, c] [(1, 2)] = [c] := rfl
  rw [tks, eqn, mx1]
  exact List.map_congr_left fun k _ => trk3_2 c (k : Int)
theorem needl3 (a b c : Int) : need 3 [a, b, c] = mxl [0 + a + b, 0 + a + c, 0 + b + c, a + b + c] := rfl
theorem need3 (a b c : Int) : (0 + a + b ≤ need 3 [a, b, c] ∧ 0 + a + c ≤ need 3 [a, b, c] ∧ 0 + b + c ≤ need 3 [a, b, c] ∧ a + b + c ≤ need 3 [a, b, c]) ∧ (need 3 [a, b, c] = 0 + a + b ∨ need 3 [a, b, c] = 0 + a + c ∨ need 3 [a, b, c] = 0 + b + c ∨ need 3 [a, b, c] = a + b + c) := by
  rw [needl3]
  refine ⟨⟨mxl_ge (by simp), mxl_ge (by simp), mxl_ge (by simp), mxl_ge (by simp)⟩, ?_⟩
  have h := mxl_mem (l := [0 + a + b, 0 + a + c, 0 + b + c, a + b + c]) (by simp)
  simp only [List.mem_cons, List.not_mem_nil, or_false] at h
  exact h
theorem smsm3 (a b c : Int) : (0 + a + b ≤ mxl (sms 3 [a, b, c]) ∧ 0 + a + c ≤ mxl (sms 3 [a, b, c]) ∧ 0 + b + c ≤ mxl (sms 3 [a, b, c])) ∧ (mxl (sms 3 [a, b, c]) = 0 + a + b ∨ mxl (sms 3 [a, b, c]) = 0 + a + c ∨ mxl (sms 3 [a, b, c]) = 0 + b + c) := by
  have eqn : sms 3 [a, b, c] = [0 + a + b, 0 + a + c, 0 + b + c] := rfl
  rw [eqn]
  refine ⟨⟨mxl_ge (by simp), mxl_ge (by simp), mxl_ge (by simp)⟩, ?_⟩
  have h := mxl_mem (l := [0 + a + b, 0 + a + c, 0 + b + c]) (by simp)
  simp only [List.mem_cons, List.not_mem_nil, or_false] at h
  exact h
theorem fa3 (a b c : Int) (hn : 0 ≤ a ∧ 0 ≤ b ∧ 0 ≤ c) : mxl (sms 3 [a, b, c]) ≤ need 3 [a, b, c] ∧ 0 ≤ mxl (sms 3 [a, b, c]) ∧ 2 * need 3 [a, b, c] ≤ 3 * mxl (sms 3 [a, b, c]) := by
  have h1 := need3 a b c
  have h2 := smsm3 a b c
  generalize need 3 [a, b, c] = A at *
  generalize mxl (sms 3 [a, b, c]) = B at *
  refine ⟨?_, ?_, ?_⟩
  · obtain ⟨h1, _⟩ := h1
    obtain ⟨_, h2⟩ := h2
    rcases h2 with h2 | h2 | h2 <;> omega
  · omega
  · obtain ⟨_, h1⟩ := h1
    obtain ⟨h2, _⟩ := h2
    rcases h1 with h1 | h1 | h1 | h1 <;> omega
theorem fb3 (a b c : Int) (hn : a ≤ 33 ∧ b ≤ 33 ∧ c ≤ 33) : need 3 [a, b, c] ≤ 99 := by
  have h1 := (need3 a b c).2
  rcases h1 with h1 | h1 | h1 | h1 <;> omega
theorem nl3 (a b c : Int) (hn : 0 ≤ a ∧ 0 ≤ b ∧ 0 ≤ c) : need 3 [a, b, c] = a + b + c := by
  have h1 := need3 a b c
  generalize need 3 [a, b, c] = A at *
  obtain ⟨h1, h2⟩ := h1
  rcases h2 with h2 | h2 | h2 | h2 <;> omega
theorem ns3 (a b c a' b' c' : Int) (hn : 0 ≤ a' ∧ 0 ≤ b' ∧ 0 ≤ c') : need 3 [a + a', b + b', c + c'] ≤ need 3 [a, b, c] + need 3 [a', b', c'] ∧ need 3 [a, b, c] ≤ need 3 [a + a', b + b', c + c'] := by
  have h1 := need3 a b c
  have h2 := need3 a' b' c'
  have h3 := need3 (a + a') (b + b') (c + c')
  generalize need 3 [a, b, c] = A at *
  generalize need 3 [a', b', c'] = B at *
  generalize need 3 [a + a', b + b', c + c'] = C at *
  refine ⟨?_, ?_⟩
  · obtain ⟨h1, _⟩ := h1
    obtain ⟨h2, _⟩ := h2
    obtain ⟨_, h3⟩ := h3
    rcases h3 with h3 | h3 | h3 | h3 <;> omega
  · obtain ⟨_, h1⟩ := h1
    obtain ⟨h3, _⟩ := h3
    rcases h1 with h1 | h1 | h1 | h1 <;> omega
theorem psl3 (a b c : Int) : psl 3 [a, b, c] = (List.range (a).toNat).map (fun (k : Nat) => [ind (k : Int) a, 0, 0]) ++ (List.range (b).toNat).map (fun (k : Nat) => [0, ind (k : Int) b, 0]) ++ (List.range (c).toNat).map (fun (k : Nat) => [0, 0, ind (k : Int) c]) := by
  show tks 3 [a, b, c] [(0, 1)] ++ (tks 3 [a, b, c] [(0, 2)] ++ (tks 3 [a, b, c] [(1, 2)] ++ [])) = _
  rw [tks3_0, tks3_1, tks3_2]
  simp only [List.append_nil, List.append_assoc]
theorem fc3 (a b c : Int) (hn : 0 ≤ a ∧ 0 ≤ b ∧ 0 ≤ c) : Adds 3 [a, b, c] (List.replicate (need 3 [a, b, c]).toNat 1) (psl 3 [a, b, c]) := by
  have mem : ∀ p ∈ psl 3 [a, b, c], Ld 3 p ∧ mxl (sms 3 p) ≤ 1 := by
    intro p hp
    rw [psl3] at hp
    simp only [List.mem_append, List.mem_map] at hp
    have two : ∀ k x : Int, ind k x = 0 ∨ ind k x = 1 := fun k x => by unfold ind; split <;> simp
    have ldd : ∀ l : List Int, (decide (l.length = np 3) && l.all (fun x => decide (0 ≤ x) && decide (x ≤ 99)) && decide (mxl (sms 3 l) ≤ 1)) = true → Ld 3 l ∧ mxl (sms 3 l) ≤ 1 := fun l h => by
      simp only [Bool.and_eq_true, decide_eq_true_eq, List.all_eq_true] at h
      exact ⟨⟨h.1.1, h.1.2⟩, h.2⟩
    rcases hp with (⟨k, _, rfl⟩ | ⟨k, _, rfl⟩) | ⟨k, _, rfl⟩
    · rcases two k a with h | h <;> (rw [h]; exact ldd _ (by decide))
    · rcases two k b with h | h <;> (rw [h]; exact ldd _ (by decide))
    · rcases two k c with h | h <;> (rw [h]; exact ldd _ (by decide))
  have len : (psl 3 [a, b, c]).length = (need 3 [a, b, c]).toNat := by
    rw [psl3, nl3 a b c hn]
    simp only [List.length_append, List.length_map, List.length_range] <;> omega
  refine ⟨by rw [len, List.length_replicate], fun p hp => (mem p hp).1, fun i p r h1 h2 => ?_, ?_⟩
  · have : r = 1 := by
      rw [List.getElem?_replicate] at h2
      split at h2
      · exact (Option.some.inj h2).symm
      · cases h2
    rw [this]
    exact (mem p (List.mem_of_getElem? h1)).2
  · obtain ⟨f1, f2⟩ := fold_get (psl 3 [a, b, c]) (zer 3) (fun v hv => by rw [(mem v hv).1.1]; rfl)
    have f1 : (List.foldl (zw (· + ·)) (zer 3) (psl 3 [a, b, c])).length = 3 := f1
    have c0 := f2 0
    have c1 := f2 1
    have c2 := f2 2
    have z : ∀ i, (zer 3).getD i 0 = 0 := fun i => by
      rw [zer, List.getD_eq_getElem?_getD, List.getElem?_replicate]
      split <;> rfl
    have key : ∀ i x, x = 0 + ((psl 3 [a, b, c]).map (·.getD i 0)).sum → (List.foldl (zw (· + ·)) (zer 3) (psl 3 [a, b, c])).getD i 0 = x := fun i x h => by rw [f2 i, z i, h]
    have d0 := key 0 a (by
      rw [psl3]
      simp only [List.map_append, sum_app, List.map_map, Function.comp_def, List.getD_cons_zero, List.getD_cons_succ, ind]
      simp only [sum_if (show 0 ≤ a by omega), sum_0]
      omega)
    have d1 := key 1 b (by
      rw [psl3]
      simp only [List.map_append, sum_app, List.map_map, Function.comp_def, List.getD_cons_zero, List.getD_cons_succ, ind]
      simp only [sum_if (show 0 ≤ b by omega), sum_0]
      omega)
    have d2 := key 2 c (by
      rw [psl3]
      simp only [List.map_append, sum_app, List.map_map, Function.comp_def, List.getD_cons_zero, List.getD_cons_succ, ind]
      simp only [sum_if (show 0 ≤ c by omega), sum_0]
      omega)
    generalize List.foldl (zw (· + ·)) (zer 3) (psl 3 [a, b, c]) = R at *
    match R, f1 with
    | [r0, r1, r2], _ =>
      have e0 : r0 = a := d0
      have e1 : r1 = b := d1
      have e2 : r2 = c := d2
      rw [e0, e1, e2]
theorem sa3 (a b c a' b' c' : Int) : mxl (sms 3 [a + a', b + b', c + c']) ≤ mxl (sms 3 [a, b, c]) + mxl (sms 3 [a', b', c']) := by
  have h1 := (smsm3 a b c).1
  have h2 := (smsm3 a' b' c').1
  have h3 := (smsm3 (a + a') (b + b') (c + c')).2
  rcases h3 with h3 | h3 | h3 <;> omega
theorem trk4_0 (x y k : Int) : trk 4 [(0, 1), (2, 3)] [x, y] k = [ind k x, 0, 0, 0, 0, ind k y] := by
  show tst 4 k (tst 4 k (zer 4) (((0, 1) : Int × Int), x)) (((2, 3) : Int × Int), y) = _
  unfold tst ind
  by_cases h1 : k < x <;> by_cases h2 : k < y <;> simp only [h1, h2, if_true, if_false] <;> rfl
theorem tks4_0 (a b c d e f : Int) : tks 4 [a, b, c, d, e, f] [(0, 1), (2, 3)] = (List.range (max a f).toNat).map fun (k : Nat) => [ind (k : Int) a, 0, 0, 0, 0, ind (k : Int) f] := by
  have eqn : lfs 4 [a, b, c, d, e, f] [(0, 1), (2, 3)] = [a, f] := rfl
  rw [tks, eqn, mx2]
  exact List.map_congr_left fun k _ => trk4_0 a f (k : Int)
theorem trk4_1 (x y k : Int) : trk 4 [(0, 2), (1, 3)] [x, y] k = [0, ind k x, 0, 0, ind k y, 0] := by
  show tst 4 k (tst 4 k (zer 4) (((0, 2) : Int × Int), x)) (((1, 3) : Int × Int), y) = _
  unfold tst ind
  by_cases h1 : k < x <;> by_cases h2 : k < y <;> simp only [h1, h2, if_true, if_false] <;> rfl
theorem tks4_1 (a b c d e f : Int) : tks 4 [a, b, c, d, e, f] [(0, 2), (1, 3)] = (List.range (max b e).toNat).map fun (k : Nat) => [0, ind (k : Int) b, 0, 0, ind (k : Int) e, 0] := by
  have eqn : lfs 4 [a, b, c, d, e, f] [(0, 2), (1, 3)] = [b, e] := rfl
  rw [tks, eqn, mx2]
  exact List.map_congr_left fun k _ => trk4_1 b e (k : Int)
theorem trk4_2 (x y k : Int) : trk 4 [(0, 3), (1, 2)] [x, y] k = [0, 0, ind k x, ind k y, 0, 0] := by
  show tst 4 k (tst 4 k (zer 4) (((0, 3) : Int × Int), x)) (((1, 2) : Int × Int), y) = _
  unfold tst ind
  by_cases h1 : k < x <;> by_cases h2 : k < y <;> simp only [h1, h2, if_true, if_false] <;> rfl
theorem tks4_2 (a b c d e f : Int) : tks 4 [a, b, c, d, e, f] [(0, 3), (1, 2)] = (List.range (max c d).toNat).map fun (k : Nat) => [0, 0, ind (k : Int) c, ind (k : Int) d, 0, 0] := by
  have eqn : lfs 4 [a, b, c, d, e, f] [(0, 3), (1, 2)] = [c, d] := rfl
  rw [tks, eqn, mx2]
  exact List.map_congr_left fun k _ => trk4_2 c d (k : Int)
theorem needl4 (a b c d e f : Int) : need 4 [a, b, c, d, e, f] = mxl [0 + a + b + c, 0 + a + d + e, 0 + b + d + f, 0 + c + e + f, a + b + d, a + c + e, b + c + f, d + e + f] := rfl
theorem need4 (a b c d e f : Int) : (0 + a + b + c ≤ need 4 [a, b, c, d, e, f] ∧ 0 + a + d + e ≤ need 4 [a, b, c, d, e, f] ∧ 0 + b + d + f ≤ need 4 [a, b, c, d, e, f] ∧ 0 + c + e + f ≤ need 4 [a, b, c, d, e, f] ∧ a + b + d ≤ need 4 [a, b, c, d, e, f] ∧ a + c + e ≤ need 4 [a, b, c, d, e, f] ∧ b + c + f ≤ need 4 [a, b, c, d, e, f] ∧ d + e + f ≤ need 4 [a, b, c, d, e, f]) ∧ (need 4 [a, b, c, d, e, f] = 0 + a + b + c ∨ need 4 [a, b, c, d, e, f] = 0 + a + d + e ∨ need 4 [a, b, c, d, e, f] = 0 + b + d + f ∨ need 4 [a, b, c, d, e, f] = 0 + c + e + f ∨ need 4 [a, b, c, d, e, f] = a + b + d ∨ need 4 [a, b, c, d, e, f] = a + c + e ∨ need 4 [a, b, c, d, e, f] = b + c + f ∨ need 4 [a, b, c, d, e, f] = d + e + f) := by
  rw [needl4]
  refine ⟨⟨mxl_ge (by simp), mxl_ge (by simp), mxl_ge (by simp), mxl_ge (by simp), mxl_ge (by simp), mxl_ge (by simp), mxl_ge (by simp), mxl_ge (by simp)⟩, ?_⟩
  have h := mxl_mem (l := [0 + a + b + c, 0 + a + d + e, 0 + b + d + f, 0 + c + e + f, a + b + d, a + c + e, b + c + f, d + e + f]) (by simp)
  simp only [List.mem_cons, List.not_mem_nil, or_false] at h
  exact h
theorem smsm4 (a b c d e f : Int) : (0 + a + b + c ≤ mxl (sms 4 [a, b, c, d, e, f]) ∧ 0 + a + d + e ≤ mxl (sms 4 [a, b, c, d, e, f]) ∧ 0 + b + d + f ≤ mxl (sms 4 [a, b, c, d, e, f]) ∧ 0 + c + e + f ≤ mxl (sms 4 [a, b, c, d, e, f])) ∧ (mxl (sms 4 [a, b, c, d, e, f]) = 0 + a + b + c ∨ mxl (sms 4 [a, b, c, d, e, f]) = 0 + a + d + e ∨ mxl (sms 4 [a, b, c, d, e, f]) = 0 + b + d + f ∨ mxl (sms 4 [a, b, c, d, e, f]) = 0 + c + e + f) := by
  have eqn : sms 4 [a, b, c, d, e, f] = [0 + a + b + c, 0 + a + d + e, 0 + b + d + f, 0 + c + e + f] := rfl
  rw [eqn]
  refine ⟨⟨mxl_ge (by simp), mxl_ge (by simp), mxl_ge (by simp), mxl_ge (by simp)⟩, ?_⟩
  have h := mxl_mem (l := [0 + a + b + c, 0 + a + d + e, 0 + b + d + f, 0 + c + e + f]) (by simp)
  simp only [List.mem_cons, List.not_mem_nil, or_false] at h
  exact h
theorem fa4 (a b c d e f : Int) (hn : 0 ≤ a ∧ 0 ≤ b ∧ 0 ≤ c ∧ 0 ≤ d ∧ 0 ≤ e ∧ 0 ≤ f) : mxl (sms 4 [a, b, c, d, e, f]) ≤ need 4 [a, b, c, d, e, f] ∧ 0 ≤ mxl (sms 4 [a, b, c, d, e, f]) ∧ 2 * need 4 [a, b, c, d, e, f] ≤ 3 * mxl (sms 4 [a, b, c, d, e, f]) := by
  have h1 := need4 a b c d e f
  have h2 := smsm4 a b c d e f
  generalize need 4 [a, b, c, d, e, f] = A at *
  generalize mxl (sms 4 [a, b, c, d, e, f]) = B at *
  refine ⟨?_, ?_, ?_⟩
  · obtain ⟨h1, _⟩ := h1
    obtain ⟨_, h2⟩ := h2
    rcases h2 with h2 | h2 | h2 | h2 <;> omega
  · omega
  · obtain ⟨_, h1⟩ := h1
    obtain ⟨h2, _⟩ := h2
    rcases h1 with h1 | h1 | h1 | h1 | h1 | h1 | h1 | h1 <;> omega
theorem fb4 (a b c d e f : Int) (hn : a ≤ 33 ∧ b ≤ 33 ∧ c ≤ 33 ∧ d ≤ 33 ∧ e ≤ 33 ∧ f ≤ 33) : need 4 [a, b, c, d, e, f] ≤ 99 := by
  have h1 := (need4 a b c d e f).2
  rcases h1 with h1 | h1 | h1 | h1 | h1 | h1 | h1 | h1 <;> omega
theorem nl4 (a b c d e f : Int) (hn : 0 ≤ a ∧ 0 ≤ b ∧ 0 ≤ c ∧ 0 ≤ d ∧ 0 ≤ e ∧ 0 ≤ f) : need 4 [a, b, c, d, e, f] = max a f + max b e + max c d := by
  have h1 := need4 a b c d e f
  generalize need 4 [a, b, c, d, e, f] = A at *
  obtain ⟨h1, h2⟩ := h1
  rcases h2 with h2 | h2 | h2 | h2 | h2 | h2 | h2 | h2 <;> omega
theorem ns4 (a b c d e f a' b' c' d' e' f' : Int) (hn : 0 ≤ a' ∧ 0 ≤ b' ∧ 0 ≤ c' ∧ 0 ≤ d' ∧ 0 ≤ e' ∧ 0 ≤ f') : need 4 [a + a', b + b', c + c', d + d', e + e', f + f'] ≤ need 4 [a, b, c, d, e, f] + need 4 [a', b', c', d', e', f'] ∧ need 4 [a, b, c, d, e, f] ≤ need 4 [a + a', b + b', c + c', d + d', e + e', f + f'] := by
  have h1 := need4 a b c d e f
  have h2 := need4 a' b' c' d' e' f'
  have h3 := need4 (a + a') (b + b') (c + c') (d + d') (e + e') (f + f')
  generalize need 4 [a, b, c, d, e, f] = A at *
  generalize need 4 [a', b', c', d', e', f'] = B at *
  generalize need 4 [a + a', b + b', c + c', d + d', e + e', f + f'] = C at *
  refine ⟨?_, ?_⟩
  · obtain ⟨h1, _⟩ := h1
    obtain ⟨h2, _⟩ := h2
    obtain ⟨_, h3⟩ := h3
    rcases h3 with h3 | h3 | h3 | h3 | h3 | h3 | h3 | h3 <;> omega
  · obtain ⟨_, h1⟩ := h1
    obtain ⟨h3, _⟩ := h3
    rcases h1 with h1 | h1 | h1 | h1 | h1 | h1 | h1 | h1 <;> omega
theorem psl4 (a b c d e f : Int) : psl 4 [a, b, c, d, e, f] = (List.range (max a f).toNat).map (fun (k : Nat) => [ind (k : Int) a, 0, 0, 0, 0, ind (k : Int) f]) ++ (List.range (max b e).toNat).map (fun (k : Nat) => [0, ind (k : Int) b, 0, 0, ind (k : Int) e, 0]) ++ (List.range (max c d).toNat).map (fun (k : Nat) => [0, 0, ind (k : Int) c, ind (k : Int) d, 0, 0]) := by
  show tks 4 [a, b, c, d, e, f] [(0, 1), (2, 3)] ++ (tks 4 [a, b, c, d, e, f] [(0, 2), (1, 3)] ++ (tks 4 [a, b, c, d, e, f] [(0, 3), (1, 2)] ++ [])) = _
  rw [tks4_0, tks4_1, tks4_2]
  simp only [List.append_nil, List.append_assoc]
theorem fc4 (a b c d e f : Int) (hn : 0 ≤ a ∧ 0 ≤ b ∧ 0 ≤ c ∧ 0 ≤ d ∧ 0 ≤ e ∧ 0 ≤ f) : Adds 4 [a, b, c, d, e, f] (List.replicate (need 4 [a, b, c, d, e, f]).toNat 1) (psl 4 [a, b, c, d, e, f]) := by
  have mem : ∀ p ∈ psl 4 [a, b, c, d, e, f], Ld 4 p ∧ mxl (sms 4 p) ≤ 1 := by
    intro p hp
    rw [psl4] at hp
    simp only [List.mem_append, List.mem_map] at hp
    have two : ∀ k x : Int, ind k x = 0 ∨ ind k x = 1 := fun k x => by unfold ind; split <;> simp
    have ldd : ∀ l : List Int, (decide (l.length = np 4) && l.all (fun x => decide (0 ≤ x) && decide (x ≤ 99)) && decide (mxl (sms 4 l) ≤ 1)) = true → Ld 4 l ∧ mxl (sms 4 l) ≤ 1 := fun l h => by
      simp only [Bool.and_eq_true, decide_eq_true_eq, List.all_eq_true] at h
      exact ⟨⟨h.1.1, h.1.2⟩, h.2⟩
    rcases hp with (⟨k, _, rfl⟩ | ⟨k, _, rfl⟩) | ⟨k, _, rfl⟩
    · rcases two k a with h | h <;> rcases two k f with h2 | h2 <;> (rw [h, h2]; exact ldd _ (by decide))
    · rcases two k b with h | h <;> rcases two k e with h2 | h2 <;> (rw [h, h2]; exact ldd _ (by decide))
    · rcases two k c with h | h <;> rcases two k d with h2 | h2 <;> (rw [h, h2]; exact ldd _ (by decide))
  have len : (psl 4 [a, b, c, d, e, f]).length = (need 4 [a, b, c, d, e, f]).toNat := by
    rw [psl4, nl4 a b c d e f hn]
    simp only [List.length_append, List.length_map, List.length_range] <;> omega
  refine ⟨by rw [len, List.length_replicate], fun p hp => (mem p hp).1, fun i p r h1 h2 => ?_, ?_⟩
  · have : r = 1 := by
      rw [List.getElem?_replicate] at h2
      split at h2
      · exact (Option.some.inj h2).symm
      · cases h2
    rw [this]
    exact (mem p (List.mem_of_getElem? h1)).2
  · obtain ⟨f1, f2⟩ := fold_get (psl 4 [a, b, c, d, e, f]) (zer 4) (fun v hv => by rw [(mem v hv).1.1]; rfl)
    have f1 : (List.foldl (zw (· + ·)) (zer 4) (psl 4 [a, b, c, d, e, f])).length = 6 := f1
    have c0 := f2 0
    have c1 := f2 1
    have c2 := f2 2
    have c3 := f2 3
    have c4 := f2 4
    have c5 := f2 5
    have z : ∀ i, (zer 4).getD i 0 = 0 := fun i => by
      rw [zer, List.getD_eq_getElem?_getD, List.getElem?_replicate]
      split <;> rfl
    have key : ∀ i x, x = 0 + ((psl 4 [a, b, c, d, e, f]).map (·.getD i 0)).sum → (List.foldl (zw (· + ·)) (zer 4) (psl 4 [a, b, c, d, e, f])).getD i 0 = x := fun i x h => by rw [f2 i, z i, h]
    have d0 := key 0 a (by
      rw [psl4]
      simp only [List.map_append, sum_app, List.map_map, Function.comp_def, List.getD_cons_zero, List.getD_cons_succ, ind]
      simp only [sum_if (show 0 ≤ a by omega), sum_0]
      omega)
    have d1 := key 1 b (by
      rw [psl4]
      simp only [List.map_append, sum_app, List.map_map, Function.comp_def, List.getD_cons_zero, List.getD_cons_succ, ind]
      simp only [sum_if (show 0 ≤ b by omega), sum_0]
      omega)
    have d2 := key 2 c (by
      rw [psl4]
      simp only [List.map_append, sum_app, List.map_map, Function.comp_def, List.getD_cons_zero, List.getD_cons_succ, ind]
      simp only [sum_if (show 0 ≤ c by omega), sum_0]
      omega)
    have d3 := key 3 d (by
      rw [psl4]
      simp only [List.map_append, sum_app, List.map_map, Function.comp_def, List.getD_cons_zero, List.getD_cons_succ, ind]
      simp only [sum_if (show 0 ≤ d by omega), sum_0]
      omega)
    have d4 := key 4 e (by
      rw [psl4]
      simp only [List.map_append, sum_app, List.map_map, Function.comp_def, List.getD_cons_zero, List.getD_cons_succ, ind]
      simp only [sum_if (show 0 ≤ e by omega), sum_0]
      omega)
    have d5 := key 5 f (by
      rw [psl4]
      simp only [List.map_append, sum_app, List.map_map, Function.comp_def, List.getD_cons_zero, List.getD_cons_succ, ind]
      simp only [sum_if (show 0 ≤ f by omega), sum_0]
      omega)
    generalize List.foldl (zw (· + ·)) (zer 4) (psl 4 [a, b, c, d, e, f]) = R at *
    match R, f1 with
    | [r0, r1, r2, r3, r4, r5], _ =>
      have e0 : r0 = a := d0
      have e1 : r1 = b := d1
      have e2 : r2 = c := d2
      have e3 : r3 = d := d3
      have e4 : r4 = e := d4
      have e5 : r5 = f := d5
      rw [e0, e1, e2, e3, e4, e5]
theorem sa4 (a b c d e f a' b' c' d' e' f' : Int) : mxl (sms 4 [a + a', b + b', c + c', d + d', e + e', f + f']) ≤ mxl (sms 4 [a, b, c, d, e, f]) + mxl (sms 4 [a', b', c', d', e', f']) := by
  have h1 := (smsm4 a b c d e f).1
  have h2 := (smsm4 a' b' c' d' e' f').1
  have h3 := (smsm4 (a + a') (b + b') (c + c') (d + d') (e + e') (f + f')).2
  rcases h3 with h3 | h3 | h3 | h3 <;> omega
theorem facts {s : Int} {l : List Int} (h1 : 2 ≤ s) (h2 : s ≤ 4) (hl : Ld s l) : (mxl (sms s l) ≤ need s l ∧ 0 ≤ mxl (sms s l) ∧ 2 * need s l ≤ 3 * mxl (sms s l)) ∧ Adds s l (List.replicate (need s l).toNat 1) (psl s l) := by
  have hs' : s = 2 ∨ s = 3 ∨ s = 4 := by omega
  rcases hs' with rfl | rfl | rfl
  · obtain ⟨hlen, hb⟩ := hl
    match l, hlen with
    | [a], _ =>
      have na := hb a (by simp)
      exact ⟨fa2 a na.1, fc2 a na.1⟩
  · obtain ⟨hlen, hb⟩ := hl
    match l, hlen with
    | [a, b, c], _ =>
      have na := hb a (by simp)
      have nb := hb b (by simp)
      have nc := hb c (by simp)
      exact ⟨fa3 a b c ⟨na.1, nb.1, nc.1⟩, fc3 a b c ⟨na.1, nb.1, nc.1⟩⟩
  · obtain ⟨hlen, hb⟩ := hl
    match l, hlen with
    | [a, b, c, d, e, f], _ =>
      have na := hb a (by simp)
      have nb := hb b (by simp)
      have nc := hb c (by simp)
      have nd := hb d (by simp)
      have ne := hb e (by simp)
      have nf := hb f (by simp)
      exact ⟨fa4 a b c d e f ⟨na.1, nb.1, nc.1, nd.1, ne.1, nf.1⟩, fc4 a b c d e f ⟨na.1, nb.1, nc.1, nd.1, ne.1, nf.1⟩⟩
theorem need99 {s : Int} {l : List Int} (h1 : 2 ≤ s) (h2 : s ≤ 4) (hl : Ld s l) (h3 : ∀ x ∈ l, x ≤ 33) : need s l ≤ 99 := by
  have hs' : s = 2 ∨ s = 3 ∨ s = 4 := by omega
  rcases hs' with rfl | rfl | rfl
  · obtain ⟨hlen, hb⟩ := hl
    match l, hlen with
    | [a], _ =>
      have na := hb a (by simp)
      exact fb2 a (h3 a (by simp))
  · obtain ⟨hlen, hb⟩ := hl
    match l, hlen with
    | [a, b, c], _ =>
      have na := hb a (by simp)
      have nb := hb b (by simp)
      have nc := hb c (by simp)
      exact fb3 a b c ⟨(h3 a (by simp)), (h3 b (by simp)), (h3 c (by simp))⟩
  · obtain ⟨hlen, hb⟩ := hl
    match l, hlen with
    | [a, b, c, d, e, f], _ =>
      have na := hb a (by simp)
      have nb := hb b (by simp)
      have nc := hb c (by simp)
      have nd := hb d (by simp)
      have ne := hb e (by simp)
      have nf := hb f (by simp)
      exact fb4 a b c d e f ⟨(h3 a (by simp)), (h3 b (by simp)), (h3 c (by simp)), (h3 d (by simp)), (h3 e (by simp)), (h3 f (by simp))⟩
theorem need_sum {s : Int} {l m : List Int} (h1 : 2 ≤ s) (h2 : s ≤ 4) (hl : Ld s l) (hm : Ld s m) : need s (zw (· + ·) l m) ≤ need s l + need s m ∧ need s l ≤ need s (zw (· + ·) l m) := by
  have hs' : s = 2 ∨ s = 3 ∨ s = 4 := by omega
  rcases hs' with rfl | rfl | rfl
  · obtain ⟨hlen, hb⟩ := hl
    obtain ⟨hlen2, hb2⟩ := hm
    match l, hlen, m, hlen2 with
    | [a], _, [a'], _ =>
      have na := hb a (by simp)
      have na' := hb2 a' (by simp)
      exact ns2 a a' na'.1
  · obtain ⟨hlen, hb⟩ := hl
    obtain ⟨hlen2, hb2⟩ := hm
    match l, hlen, m, hlen2 with
    | [a, b, c], _, [a', b', c'], _ =>
      have na := hb a (by simp)
      have nb := hb b (by simp)
      have nc := hb c (by simp)
      have na' := hb2 a' (by simp)
      have nb' := hb2 b' (by simp)
      have nc' := hb2 c' (by simp)
      exact ns3 a b c a' b' c' ⟨na'.1, nb'.1, nc'.1⟩
  · obtain ⟨hlen, hb⟩ := hl
    obtain ⟨hlen2, hb2⟩ := hm
    match l, hlen, m, hlen2 with
    | [a, b, c, d, e, f], _, [a', b', c', d', e', f'], _ =>
      have na := hb a (by simp)
      have nb := hb b (by simp)
      have nc := hb c (by simp)
      have nd := hb d (by simp)
      have ne := hb e (by simp)
      have nf := hb f (by simp)
      have na' := hb2 a' (by simp)
      have nb' := hb2 b' (by simp)
      have nc' := hb2 c' (by simp)
      have nd' := hb2 d' (by simp)
      have ne' := hb2 e' (by simp)
      have nf' := hb2 f' (by simp)
      exact ns4 a b c d e f a' b' c' d' e' f' ⟨na'.1, nb'.1, nc'.1, nd'.1, ne'.1, nf'.1⟩
theorem sms_sum {s : Int} {l m : List Int} (h1 : 2 ≤ s) (h2 : s ≤ 4) (hl : Ld s l) (hm : Ld s m) : mxl (sms s (zw (· + ·) l m)) ≤ mxl (sms s l) + mxl (sms s m) := by
  have hs' : s = 2 ∨ s = 3 ∨ s = 4 := by omega
  rcases hs' with rfl | rfl | rfl
  · obtain ⟨hlen, hb⟩ := hl
    obtain ⟨hlen2, hb2⟩ := hm
    match l, hlen, m, hlen2 with
    | [a], _, [a'], _ =>
      have na := hb a (by simp)
      have na' := hb2 a' (by simp)
      exact sa2 a a'
  · obtain ⟨hlen, hb⟩ := hl
    obtain ⟨hlen2, hb2⟩ := hm
    match l, hlen, m, hlen2 with
    | [a, b, c], _, [a', b', c'], _ =>
      have na := hb a (by simp)
      have nb := hb b (by simp)
      have nc := hb c (by simp)
      have na' := hb2 a' (by simp)
      have nb' := hb2 b' (by simp)
      have nc' := hb2 c' (by simp)
      exact sa3 a b c a' b' c'
  · obtain ⟨hlen, hb⟩ := hl
    obtain ⟨hlen2, hb2⟩ := hm
    match l, hlen, m, hlen2 with
    | [a, b, c, d, e, f], _, [a', b', c', d', e', f'], _ =>
      have na := hb a (by simp)
      have nb := hb b (by simp)
      have nc := hb c (by simp)
      have nd := hb d (by simp)
      have ne := hb e (by simp)
      have nf := hb f (by simp)
      have na' := hb2 a' (by simp)
      have nb' := hb2 b' (by simp)
      have nc' := hb2 c' (by simp)
      have nd' := hb2 d' (by simp)
      have ne' := hb2 e' (by simp)
      have nf' := hb2 f' (by simp)
      exact sa4 a b c d e f a' b' c' d' e' f'
theorem zw_assoc : ∀ {a b c : List Int}, a.length = b.length → b.length = c.length → zw (· + ·) (zw (· + ·) a b) c = zw (· + ·) a (zw (· + ·) b c)
  | [], [], [], _, _ => rfl
  | x :: a, y :: b, z :: c, h1, h2 => by
    have ih := zw_assoc (a := a) (b := b) (c := c) (by simpa using h1) (by simpa using h2)
    show (x + y + z) :: zw (· + ·) (zw (· + ·) a b) c = (x + (y + z)) :: zw (· + ·) a (zw (· + ·) b c)
    rw [ih, Int.add_assoc]
def pr2 (ps : List (List Int)) (h : Nat) : List (List Int) := (List.range h).map fun (k : Nat) => zw (· + ·) (ps.getD (2 * k) []) (ps.getD (2 * k + 1) [])
theorem pr2_fold {s : Int} {ps : List (List Int)} (hp : ∀ p ∈ ps, Ld s p) {acc : List Int} (ha : acc.length = np s) : ∀ h, 2 * h ≤ ps.length → (pr2 ps h).foldl (zw (· + ·)) acc = (ps.take (2 * h)).foldl (zw (· + ·)) acc
  | 0, _ => rfl
  | h + 1, hh => by
    have ih := pr2_fold hp ha h (by omega)
    have l0 : 2 * h < ps.length := by omega
    have l1 : 2 * h + 1 < ps.length := by omega
    have t2 : ps.take (2 * (h + 1)) = ps.take (2 * h) ++ [ps[2 * h], ps[2 * h + 1]] := by
      rw [show 2 * (h + 1) = 2 * h + 1 + 1 by omega, List.take_add_one, List.take_add_one, List.getElem?_eq_getElem l0, List.getElem?_eq_getElem l1, List.append_assoc]
      rfl
    have g0 : ps.getD (2 * h) [] = ps[2 * h] := by rw [List.getD_eq_getElem?_getD, List.getElem?_eq_getElem l0]; rfl
    have g1 : ps.getD (2 * h + 1) [] = ps[2 * h + 1] := by rw [List.getD_eq_getElem?_getD, List.getElem?_eq_getElem l1]; rfl
    rw [pr2, List.range_succ, List.map_append, List.foldl_append, t2, List.foldl_append]
    rw [pr2] at ih
    rw [ih]
    show zw (· + ·) _ (zw (· + ·) (ps.getD (2 * h) []) (ps.getD (2 * h + 1) [])) = zw (· + ·) (zw (· + ·) _ ps[2 * h]) ps[2 * h + 1]
    have a0 := (hp _ (List.getElem_mem l0)).1
    have a1 := (hp _ (List.getElem_mem l1)).1
    rw [g0, g1, zw_assoc (by rw [adds_len _ _ (fun q hq => hp q (List.mem_of_mem_take hq)) ha, a0]) (by rw [a0, a1])]
theorem small {s : Int} {l : List Int} (h1 : 2 ≤ s) (h2 : s ≤ 4) (hl : Ld s l) (h : mxl (sms s l) ≤ 1) : ∀ x ∈ l, 0 ≤ x ∧ x ≤ 1 := by
  have hs' : s = 2 ∨ s = 3 ∨ s = 4 := by omega
  rcases hs' with rfl | rfl | rfl
  · obtain ⟨hlen, hb⟩ := hl
    match l, hlen with
    | [a], _ =>
      have na := hb a (by simp)
      have q := (smsm2 a).1
      intro x hx
      simp only [List.mem_cons, List.not_mem_nil, or_false] at hx
      omega
  · obtain ⟨hlen, hb⟩ := hl
    match l, hlen with
    | [a, b, c], _ =>
      have na := hb a (by simp)
      have nb := hb b (by simp)
      have nc := hb c (by simp)
      have q := (smsm3 a b c).1
      intro x hx
      simp only [List.mem_cons, List.not_mem_nil, or_false] at hx
      omega
  · obtain ⟨hlen, hb⟩ := hl
    match l, hlen with
    | [a, b, c, d, e, f], _ =>
      have na := hb a (by simp)
      have nb := hb b (by simp)
      have nc := hb c (by simp)
      have nd := hb d (by simp)
      have ne := hb e (by simp)
      have nf := hb f (by simp)
      have q := (smsm4 a b c d e f).1
      intro x hx
      simp only [List.mem_cons, List.not_mem_nil, or_false] at hx
      omega
theorem pairs_add {s : Int} {l : List Int} {n : Nat} {ps : List (List Int)} (h1 : 2 ≤ s) (h2 : s ≤ 4) (h : Adds s l (List.replicate n 1) ps) : Adds s l (mrm (n : Int)) (pr2 ps (n / 2) ++ ps.drop (2 * (n / 2))) := by
  have ln : ps.length = n := by rw [h.len, List.length_replicate]
  have fit : ∀ p ∈ ps, mxl (sms s p) ≤ 1 := fun p hp => by
    obtain ⟨i, hi, rfl⟩ := List.getElem_of_mem hp
    exact h.fit i _ 1 (List.getElem?_eq_getElem hi) (by rw [List.getElem?_replicate, if_pos (by omega)])
  have m1 : ((n : Int) / 2).toNat = n / 2 := by omega
  have m2 : ((n : Int) % 2).toNat = n % 2 := by omega
  have pr : ∀ i p, (pr2 ps (n / 2))[i]? = some p → Ld s p ∧ mxl (sms s p) ≤ 2 := fun i p hp => by
    rw [pr2, List.getElem?_map] at hp
    obtain ⟨k, hk, rfl⟩ := Option.map_eq_some_iff.mp hp
    have hk2 := List.mem_range.mp (List.mem_of_getElem? hk)
    have l0 : 2 * k < ps.length := by omega
    have l1 : 2 * k + 1 < ps.length := by omega
    have g0 : ps.getD (2 * k) [] = ps[2 * k] := by rw [List.getD_eq_getElem?_getD, List.getElem?_eq_getElem l0]; rfl
    have g1 : ps.getD (2 * k + 1) [] = ps[2 * k + 1] := by rw [List.getD_eq_getElem?_getD, List.getElem?_eq_getElem l1]; rfl
    rw [g0, g1]
    have d0 := h.ld _ (List.getElem_mem l0)
    have d1 := h.ld _ (List.getElem_mem l1)
    have f0 := fit _ (List.getElem_mem l0)
    have f1 := fit _ (List.getElem_mem l1)
    have q := sms_sum h1 h2 d0 d1
    refine ⟨⟨by rw [zw_len (by rw [d0.1, d1.1])]; exact d0.1, fun x hx => ?_⟩, by omega⟩
    obtain ⟨i, hi, rfl⟩ := List.getElem_of_mem hx
    rw [zw_len (by rw [d0.1, d1.1])] at hi
    have e := getD_zw (i := i) (a := ps[2 * k]) (b := ps[2 * k + 1]) (by rw [d0.1, d1.1])
    have hi2 : i < ps[2 * k + 1].length := by rw [d1.1, ← d0.1]; exact hi
    rw [List.getD_eq_getElem?_getD, List.getD_eq_getElem?_getD, List.getD_eq_getElem?_getD, List.getElem?_eq_getElem hi, List.getElem?_eq_getElem hi2, List.getElem?_eq_getElem (by rw [zw_len (by rw [d0.1, d1.1])]; exact hi)] at e
    have e : (zw (· + ·) ps[2 * k] ps[2 * k + 1])[i]'(by rw [zw_len (by rw [d0.1, d1.1])]; exact hi) = ps[2 * k][i] + ps[2 * k + 1][i] := e
    rw [e]
    have b0 := small h1 h2 d0 f0 _ (List.getElem_mem hi)
    have b1 := small h1 h2 d1 f1 _ (List.getElem_mem hi2)
    omega
  have lp : (pr2 ps (n / 2)).length = n / 2 := by rw [pr2, List.length_map, List.length_range]
  refine ⟨?_, fun p hp => ?_, fun i p r hp hr => ?_, ?_⟩
  · rw [mrm, List.length_append, List.length_append, List.length_replicate, List.length_replicate, m1, m2, lp, List.length_drop]
    omega
  · rcases List.mem_append.mp hp with hp | hp
    · obtain ⟨i, hi, rfl⟩ := List.getElem_of_mem hp
      exact (pr i _ (List.getElem?_eq_getElem hi)).1
    · exact h.ld p (List.mem_of_mem_drop hp)
  · rw [mrm, m1, m2] at hr
    by_cases hi : i < n / 2
    · rw [List.getElem?_append_left (by omega)] at hp
      rw [List.getElem?_append_left (by rw [List.length_replicate]; exact hi), List.getElem?_replicate, if_pos hi] at hr
      cases hr
      exact (pr i p hp).2
    · rw [List.getElem?_append_right (by omega)] at hp
      rw [List.getElem?_append_right (by rw [List.length_replicate]; omega), List.getElem?_replicate] at hr
      split at hr
      · cases hr
        exact fit p (List.mem_of_mem_drop (List.mem_of_getElem? hp))
      · cases hr
  · rw [List.foldl_append, pr2_fold h.ld (by simp [zer]) _ (by omega), ← List.foldl_append, List.take_append_drop]
    exact h.sum
end K20
set_option Elab.async false
set_option linter.all false
set_option maxRecDepth 100000
set_option maxHeartbeats 4000000
namespace K20
open PySem PySem.Spec PyProof.Rows L2 Evl DL
local macro_rules | `(tactic| walk_at "dl") => `(tactic| first
  | exact ev_c | exact ev_var rfl | exact eda_nil
  | exact ed_var rfl (by assumption)
  | exact ed_int ev_c | exact ed_int (ev_var rfl)
  | (refine eda_cons ?_ ?_ <;> walk_at "dl")
  | (refine ed_int ?_; walk_at "dl")
  | (refine ev_op ?_ ?_ rv_I0 <;> walk_at "dl"))

section
variable {K : PySem.W.Frag} {σ : L2.St} {H H' : Hp} {ta tb te : TE} {t u : TT} {d : PyData} {ds : List PyData} {a b : List Int} {D : Ends} {tz : TS}
theorem cut_dropS {ds : List PyData} {k : Nat} (h : k ≤ ds.length) : cutD ds (some (k : Int)) none = ds.drop k := by
  have e : HT.sIx ds.length 0 (some (k : Int)) = k := by
    rw [HT.sIx_nat]
    omega
  have e0 : HT.sIx ds.length ds.length none = ds.length := rfl
  rw [DL.cutD, e, e0, List.take_of_length_le (by rw [List.length_drop]; exact Nat.le_refl _)]
/-- is not True -/
theorem ev_notB {x y : Bool} (ha : Ev ta σ H (.bl x)) (hb : Ev tb σ H (.bl y)) : Ev (tOp rNotB ta tb) σ H (.bl (x != y)) := fun H1 e Q q =>
  ha H1 e _ fun H2 e2 => hb H2 (e.trans e2) _ fun H3 e3 => ⟨x, y, rfl, rfl, q H3 (e2.trans e3)⟩
theorem ed_zipsum (hs : σ.length = 14) (ha : EvD K ta σ H (tI a)) (hb : EvD K tb σ H (tI b)) (hl : a.length ≤ 100) : EvD K (tCB (fun xs H Q => ∃ p ys, xs = [.ref p] ∧ ((SqL K H p ys ∧ ∀ l, H l = none → Q (.ref l) (upd H l (.tup ys))) ∨ (SqT K H p ys ∧ Q (.ref p) H)))
    (tCons (tLc (iZipM K true true (tCons ta (tCons tb tNil))) (gTup K 2 (gCons (gName 12) (gCons (gName 13) gNil))) tYes (tOp (rI0 fun i j => .int (i + j)) (tVar 12) (tVar 13)) [12, 13]) tNil)) σ H (tI (zw (· + ·) a b)) := by
  obtain ⟨s0, s1, s2, s3, s4, s5, s6, s7, s8, s9, s10, s11, s12, s13, rfl⟩ : ∃ s0 s1 s2 s3 s4 s5 s6 s7 s8 s9 s10 s11 s12 s13, σ = [s0, s1, s2, s3, s4, s5, s6, s7, s8, s9, s10, s11, s12, s13] := by
    match σ, hs with
    | [s0, s1, s2, s3, s4, s5, s6, s7, s8, s9, s10, s11, s12, s13], _ => exact ⟨_, _, _, _, _, _, _, _, _, _, _, _, _, _, rfl⟩
  refine ed_is (ed_tupleOf (EvN.toD (en_lc (ei_zipTT (Ls.nil _) ha hb) (by rw [List.length_zipWith]; omega) (fun i => .int (a.getD i 0 + b.getD i 0)) (fun _ _ => by simp [imm]) fun H2 i d y Hb Q' e2 hd1 e3 hd2 k2 => ?_))) ?_
  · obtain ⟨n, m, g1, g2, rfl⟩ := pairs_get hd1
    refine g_two hd2 fun w1 w2 u1 u2 => ?_
    cases u1
    cases u2
    refine k2 _ Hb (Ex.refl _) rfl (ed_int (ev_is (ev_op (ev_var rfl) (ev_var rfl) rv_I0) ?_))
    rw [List.getD_eq_getElem?_getD, List.getD_eq_getElem?_getD, g1, g2] <;> rfl
  · rw [List.length_zipWith, ← range_zip]
    show PyData.tuple _ = PyData.tuple (List.map PyData.int (List.map _ _))
    rw [List.map_map]
    rfl
theorem ed_minsum (hs : σ.length = 14) (ha : EvD K ta σ H (tI a)) (hl : a.length ≤ 100) : EvD K (tCB (fun xs H Q => ∃ p ys, xs = [.ref p] ∧ ((SqL K H p ys ∧ ∀ l, H l = none → Q (.ref l) (upd H l (.tup ys))) ∨ (SqT K H p ys ∧ Q (.ref p) H)))
    (tCons (tLc (iTup K ta) (gName 12) tYes (tCB (fun xs H Q => ∃ i j, xs = [.int i, .int j] ∧ Q (.int (if j < i then j else i)) H) (tCons (tC (.int 33)) (tCons (tVar 12) tNil))) [12]) tNil)) σ H (tI (a.map (min 33))) := by
  obtain ⟨s0, s1, s2, s3, s4, s5, s6, s7, s8, s9, s10, s11, s12, s13, rfl⟩ : ∃ s0 s1 s2 s3 s4 s5 s6 s7 s8 s9 s10 s11 s12 s13, σ = [s0, s1, s2, s3, s4, s5, s6, s7, s8, s9, s10, s11, s12, s13] := by
    match σ, hs with
    | [s0, s1, s2, s3, s4, s5, s6, s7, s8, s9, s10, s11, s12, s13], _ => exact ⟨_, _, _, _, _, _, _, _, _, _, _, _, _, _, rfl⟩
  refine ed_is (ed_tupleOf (EvN.toD (en_lc (K := K) (ei_tup (Ls.nil _) ha (immAll_dI _)) (by rw [dI, List.length_map]; omega) (fun i => .int (min 33 (a.getD i 0))) (fun _ _ => by simp [imm]) fun H2 i d y Hb Q' e2 hd1 e3 hd2 k2 => ?_))) ?_
  · rw [dI, List.getElem?_map] at hd1
    obtain ⟨n, hn, rfl⟩ := Option.map_eq_some_iff.mp hd1
    cases dp_int hd2
    refine k2 _ Hb (Ex.refl _) rfl (ed_int (ev_is (ev_min2 ev_c (ev_var rfl)) ?_))
    rw [List.getD_eq_getElem?_getD, hn]
    rfl
  · congr 1
    apply List.ext_getElem?
    intro i
    rw [List.getElem?_map, List.getElem?_map, List.getElem?_map]
    by_cases h : i < a.length
    · rw [List.getElem?_range (by rw [dI, List.length_map]; exact h), List.getElem?_eq_getElem h, Option.map_some, Option.map_some, Option.map_some, List.getD_eq_getElem?_getD, List.getElem?_eq_getElem h]
      rfl
    · rw [List.getElem?_eq_none (by rw [List.length_range, dI, List.length_map]; omega), List.getElem?_eq_none (by omega : a.length ≤ i)]
      rfl
/-- a call whose result is told by what holds of it, against None -/
theorem ev_callX {n : Nat} {Pre : List PyData → Prop} {Post : List PyData → PyData → Prop} {E : XK} {tt : TA} {b : Bool} (h : EvDA K tt σ H ds) (hl : ds.length = n) (hp : Pre ds) (hq : ∀ r, Post ds r → isNoneD r = b) : Ev (tIsN (tCall (spX K n Pre Post) [] E tt)) σ H (.bl b) := fun H1 e Q q =>
  h H1 e _ fun vs H2 e2 hv => ⟨ds, by rw [List.append_nil]; exact hv, hl, hp, fun r v H3 pr e3 hd => by
    have : decide (v = V.non) = b := by
      rw [← hq r pr]
      cases hd <;> simp [isNoneD]
    show Q (.bl (decide (v = V.non))) H3
    rw [this]
    exact q H3 (e2.trans e3)⟩
theorem ev_callXn {n : Nat} {Pre : List PyData → Prop} {Post : List PyData → PyData → Prop} {E : XK} {tt : TA} {b : Bool} (h : EvDA K tt σ H ds) (hl : ds.length = n) (hp : Pre ds) (hq : ∀ r, Post ds r → isNoneD r = b) : Ev (tNotN (tCall (spX K n Pre Post) [] E tt)) σ H (.bl (!b)) := fun H1 e Q q =>
  h H1 e _ fun vs H2 e2 hv => ⟨ds, by rw [List.append_nil]; exact hv, hl, hp, fun r v H3 pr e3 hd => by
    have : decide (v = V.non) = b := by
      rw [← hq r pr]
      cases hd <;> simp [isNoneD]
    show Q (.bl (!decide (v = V.non))) H3
    rw [this]
    exact q H3 (e2.trans e3)⟩
end
section
variable {P : Program} {w : World} {K : PySem.W.Frag} {mg : Str → Option Value} {base : Heap}

def spLaw (K : PySem.W.Frag) : Sp := fun vs H Q _ => ∃ (a : Addr) (ns : List Int), vs = [.ref a] ∧ SqL K H a (ns.map V.int) ∧ ns.length ≤ 63 ∧ ∀ H', Q (.bl true) H'
/-- is_crossed_split(s, l, m, crossed_split(s, l, m)) -/
theorem ev_cc {σ : L2.St} {H : Hp} {s : Int} {l : List Int} {m : Int} {i j k : Nat} {v : V} (hi : σ[i]? = some (some (.int s))) (hj : σ[j]? = some (some v)) (hk : σ[k]? = some (some (.int m))) (hv : Dp K H v (tI l)) (h1 : 2 ≤ s) (h2 : s ≤ 4) (hl : Ld s l) (h3 : 0 ≤ m) (h4 : m ≤ 99) (hm : mxl (sms s l) ≤ m) :
    Ev (tCall (spD K 4 R_is_crossed_split) [] E0 (tCons (tVar i) (tCons (tVar j) (tCons (tVar k) (tCons (tCall (spX K 3 P_crossed_split Q_crossed_split) [] E0 (tCons (tVar i) (tCons (tVar j) (tCons (tVar k) tNil)))) tNil))))) σ H (.bl true) := fun H1 e Q q => by
  refine ⟨_, hi, _, hj, _, hk, _, hi, _, hj, _, hk, [.int s, tI l, .int m], .cons (.int _) (.cons (dp_ex e _ _ hv) (.cons (.int _) .nil)), rfl, ⟨s, l, m, rfl, h1, h2, hl, h3, h4⟩, ?_⟩
  rintro r v2 H2 ⟨s', l', m', e', pr⟩ e2 hd
  have e1 : s = s' := by injection e' with a b; injection a
  have e3 : l = l' := by
    injection e' with a b
    injection b with b c
    injection b with b
    have := List.map_inj_right (f := PyData.int) (fun x y h => by injection h) |>.mp b
    exact this
  have e4 : m = m' := by injection e' with a b; injection b with b c; injection c with c d; injection c
  subst e1 e3 e4
  rw [if_pos hm] at pr
  obtain ⟨ps, rfl, ad⟩ := pr
  refine ⟨[.int s, tI l, .int m, .list (ps.map tI)], .bool true, .cons (.int _) (.cons (dp_ex (e.trans e2) _ _ hv) (.cons (.int _) (.cons hd .nil))), rfl, ⟨s, l, m, ps, rfl, h1, by omega, hl, h3, h4, ad, rfl⟩, fun v3 H3 e3 hd3 => ?_⟩
  cases dp_bool hd3
  exact q H3 (e2.trans e3)
end
end K20
set_option Elab.async false
set_option linter.all false
set_option maxRecDepth 100000
set_option maxHeartbeats 4000000
namespace K20
open PySem PySem.Spec PyProof.Rows L2 Evl DL
local macro_rules | `(tactic| walk_at "dl") => `(tactic| first
  | exact ev_c | exact ev_var rfl | exact eda_nil
  | exact ed_var rfl (by assumption)
  | exact ed_int ev_c | exact ed_int (ev_var rfl)
  | (refine eda_cons ?_ ?_ <;> walk_at "dl")
  | (refine ed_int ?_; walk_at "dl")
  | (refine ev_op ?_ ?_ rv_I0 <;> walk_at "dl"))

section
variable {P : Program} {w : World} {K : PySem.W.Frag} {mg : Str → Option Value} {base : Heap}

theorem min33 {l : List Int} {s : Int} (h : Ld s l) : Ld s (l.map (min 33)) ∧ ∀ x ∈ l.map (min 33), x ≤ 33 := by
  refine ⟨⟨by rw [List.length_map]; exact h.1, fun x hx => ?_⟩, fun x hx => ?_⟩
  · obtain ⟨y, hy, rfl⟩ := List.mem_map.mp hx
    have := h.2 y hy
    omega
  · obtain ⟨y, hy, rfl⟩ := List.mem_map.mp hx
    omega
theorem sum_ld {l m : List Int} {s : Int} (hl : Ld s l) (hm : Ld s m) (h1 : ∀ x ∈ l, x ≤ 33) (h2 : ∀ x ∈ m, x ≤ 33) : Ld s (zw (· + ·) l m) := by
  have e : l.length = m.length := by rw [hl.1, hm.1]
  refine ⟨by rw [zw_len e]; exact hl.1, fun x hx => ?_⟩
  obtain ⟨i, hi, rfl⟩ := List.getElem_of_mem hx
  have hi' := hi
  rw [zw_len e] at hi'
  have g : (zw (· + ·) l m)[i] = l[i] + m[i] := by simp [zw]
  rw [g]
  have a1 := hl.2 _ (List.getElem_mem hi')
  have a2 := hm.2 _ (List.getElem_mem (by omega : i < m.length))
  have a3 := h1 _ (List.getElem_mem hi')
  have a4 := h2 _ (List.getElem_mem (by omega : i < m.length))
  omega
theorem gN {i : Nat} {x : V} {σ : L2.St} {H : Hp} {Q : L2.St → Hp → Prop} (h : Q (σ.set i (some x)) H) : gName i x σ H Q := h
theorem q_par {σ : L2.St} {H : Hp} {ta : TA} {tz : TS} {D : Ends} {i j : Nat} {d1 d2 : PyData} (h : EvDA K ta σ H [d1, d2]) (q : ∀ v w H1, Ex H H1 → Dp K H1 v d1 → Dp K H1 w d2 → tz D ((σ.set i (some v)).set j (some w)) H1) : tSeq (tPar i j ta) tz D σ H :=
  h H (Ex.refl _) _ fun vs H1 e hv => by
    obtain ⟨v, w, rfl, a, b⟩ := dpa_two hv
    exact ⟨v, w, rfl, q v w H1 e a b⟩
theorem inj3 {s s' : Int} {l l' : List Int} {m m' : Int} (e' : [PyData.int s, tI l, .int m] = [PyData.int s', tI l', .int m']) : s = s' ∧ l = l' ∧ m = m' := by
  refine ⟨by injection e' with a b; injection a, ?_, by injection e' with a b; injection b with b c; injection c with c d; injection c⟩
  injection e' with a b
  injection b with b c
  injection b with b
  exact List.map_inj_right (f := PyData.int) (fun x y h => by injection h) |>.mp b
/-- a load drawn, its numbers cut at 33 -/
theorem q_drawn {σ : L2.St} {H : Hp} {tz : TS} {D : Ends} {k n : Nat} {s : Int} {st lg cl : Addr} (g1 : σ[1]? = some (some (.ref st))) (g3 : σ[3]? = some (some (.int s))) (hs : σ.length = 14) (h1 : 2 ≤ s) (h2 : s ≤ 4) (hn : n ≤ 9000) (hst : StK st lg cl n H)
    (q : ∀ l v H', Ld s l → (∀ x ∈ l, x ≤ 33) → Xp [st, lg] H H' → StK st lg cl (n + 13) H' → Dp K H' v (tI l) → tz D (σ.set k (some v)) H') :
    tSeq (tAsg (tCB (fun xs H Q => ∃ p ys, xs = [.ref p] ∧ ((SqL K H p ys ∧ ∀ l, H l = none → Q (.ref l) (upd H l (.tup ys))) ∨ (SqT K H p ys ∧ Q (.ref p) H)))
      (tCons (tLc (iTup K (tCall (spDrawn K) [] E0 (tCons (tVar 1) (tCons (tVar 3) tNil)))) (gName 12) tYes (tCB (fun xs H Q => ∃ i j, xs = [.int i, .int j] ∧ Q (.int (if j < i then j else i)) H) (tCons (tC (.int 33)) (tCons (tVar 12) tNil))) [12]) tNil)) (gName k)) tz D σ H := by
  refine ⟨.ref st, g1, .int s, g3, st, lg, cl, n, s, rfl, h1, h2, hn, hst, fun l0 v0 H4 hl0 x4 s4 d4 => ?_⟩
  have m := min33 hl0
  have np10 := np_le (s := s) h1 (by omega)
  exact qd_asg (K := K) (k := k) (D := D) (tz := tz) (σ := σ) (H := H4) (ed_minsum (ta := tC v0) hs (ev_d ev_c d4) (by rw [hl0.1]; omega)) fun v4 H5 e5 d5 => q _ v4 H5 m.1 m.2 (x4.then e5) (stk_ex e5 s4) d5
/-- the loop's word at the i-th turn -/
def TW (K : PySem.W.Frag) (a st lg cl : Addr) (H2 : Hp) (i : Nat) (σ : L2.St) (Ha : Hp) : Prop :=
  Xp [st, lg] H2 Ha ∧ StK st lg cl (27 * i) Ha ∧ ∃ c2 c3 c4 c5 c6 c7 c8 c9 c10 c11 c12 c13, σ = [some (.ref a), some (.ref st), c2, c3, c4, c5, c6, c7, c8, c9, c10, c11, c12, c13]
abbrev s_law : Stmt := topS 57
abbrev N_law : List Str := ["script", "state", "turn", "sides_here", "load", "more", "total", "let_here", "need_here", "parts", "pairs_here", "spot", "number", "extra"]
theorem sc_law : FnScope N_law ["script"] (defScope s_law) := ⟨rfl, rfl, rfl, by decide +kernel, rfl, by decide +kernel, by decide +kernel⟩
theorem ok_law {f : Addr} {fd : FuncData} (F : Fun K "law" "law" s_law f fd) (T : Txt mg)
    (D__law_begun : DF P w K mg base "_law_begun" 1 ["script"] (spBegun K)) (D__law_draw : DF P w K mg base "_law_draw" 1 ["state", "size_here"] (spDraw K)) (D__law_drawn : DF P w K mg base "_law_drawn" 3 ["state", "sides_here"] (spDrawn K)) (D_crossed_split : DF P w K mg base "crossed_split" 6 ["sides", "load", "room"] (spX K 3 P_crossed_split Q_crossed_split)) (D_is_crossed_split : DF P w K mg base "is_crossed_split" 5 ["sides", "load", "room", "thing"] (spD K 4 R_is_crossed_split)) (D_is_plain_split : DF P w K mg base "is_plain_split" 5 ["sides", "load", "room", "thing"] (spD K 4 R_is_plain_split)) (D_plain_bar : DF P w K mg base "plain_bar" 5 ["sides", "load", "room"] (spX K 3 P_plain_bar Q_plain_bar)) (D_plain_need : DF P w K mg base "plain_need" 5 ["sides", "load"] (spD K 2 R_plain_need)) (D_plain_split : DF P w K mg base "plain_split" 5 ["sides", "load", "room"] (spD K 3 R_plain_split)) (D_side_sums : DF P w K mg base "side_sums" 5 ["sides", "load"] (spD K 2 R_side_sums)) :
    FnOk P w K mg base CX0 7 f fd ["script"] (spLaw K) := by
  refine F.ok sc_law (fun vs H Q E h => by obtain ⟨_, _, rfl, _⟩ := h; rfl) (fun cdv A outer s H vs Q E hr h => ?_)
  obtain ⟨a, ns, rfl, hs, hl, k⟩ := h
  refine ⟨_, (pss_cons (ps_set (i := 1) sc_law.nd rfl (.inl rfl) (pe_D D__law_begun (hr.mono (by decide)) (by rfl) (pa_cons (pv 0) pa_nil)))
      (pss_cons (ps_for PassesOwn.never rfl (pi_range1 (by rfl) T.b_range (pa_cons (pe_op op_add pe_int (pe_callB (call_min2 rfl) (by rfl) T.b_min (by decide +kernel) (pa_cons (pe_callB call_len_seq (by rfl) T.b_len PySem.boot_len (pa_cons (pv 0) pa_nil)) (pa_cons pe_int pa_nil)))) pa_nil)) (pg_name (i := 2) sc_law.nd rfl (Or.inl rfl)) (pss_cons (ps_set (i := 3) sc_law.nd rfl (.inl rfl) (pe_op op_add pe_int (pe_D D__law_draw (hr.mono (by decide)) (by rfl) (pa_cons (pv 1) (pa_cons pe_int pa_nil)))))
      (pss_cons (ps_set (i := 4) sc_law.nd rfl (.inl rfl) (pe_callTy call_tuple_of (by rfl) T.b_tuple (by decide +kernel) (pa_cons (pe_lc (own := [("number", 12)]) (g := (gName 12)) (tt := tYes) rfl sc_law.nd (pi_tup (pe_D D__law_drawn (hr.mono (by decide)) (by rfl) (pa_cons (pv 1) (pa_cons (pv 3) pa_nil)))) (blkOk_by (N := N_law) (sc := defScope s_law) (by decide +kernel)) (fun _ _ _ _ _ => (pg_name (i := 12) sc_law.nd rfl (Or.inl rfl))) (fun _ _ _ _ _ => pts_nil) (fun _ _ _ _ _ => (pe_callB (call_min2 rfl) (by rfl) T.b_min (by decide +kernel) (pa_cons pe_int (pa_cons (pv 12) pa_nil))))) pa_nil)))
      (pss_cons (ps_set (i := 5) sc_law.nd rfl (.inl rfl) (pe_callTy call_tuple_of (by rfl) T.b_tuple (by decide +kernel) (pa_cons (pe_lc (own := [("number", 12)]) (g := (gName 12)) (tt := tYes) rfl sc_law.nd (pi_tup (pe_D D__law_drawn (hr.mono (by decide)) (by rfl) (pa_cons (pv 1) (pa_cons (pv 3) pa_nil)))) (blkOk_by (N := N_law) (sc := defScope s_law) (by decide +kernel)) (fun _ _ _ _ _ => (pg_name (i := 12) sc_law.nd rfl (Or.inl rfl))) (fun _ _ _ _ _ => pts_nil) (fun _ _ _ _ _ => (pe_callB (call_min2 rfl) (by rfl) T.b_min (by decide +kernel) (pa_cons pe_int (pa_cons (pv 12) pa_nil))))) pa_nil)))
      (pss_cons (ps_set (i := 6) sc_law.nd rfl (.inl rfl) (pe_callTy call_tuple_of (by rfl) T.b_tuple (by decide +kernel) (pa_cons (pe_lc (own := [("number", 12), ("extra", 13)]) (g := (gTup K 2 (gCons (gName 12) (gCons (gName 13) gNil)))) (tt := tYes) rfl sc_law.nd (pi_zipM true true (by rfl) T.b_zip (pa_cons (pv 4) (pa_cons (pv 5) pa_nil))) (blkOk_by (N := N_law) (sc := defScope s_law) (by decide +kernel)) (fun _ _ _ _ _ => (pg_tup rfl (pgs_cons (pg_name (i := 12) sc_law.nd rfl (Or.inl rfl)) (pgs_cons (pg_name (i := 13) sc_law.nd rfl (Or.inl rfl)) pgs_nil)))) (fun _ _ _ _ _ => pts_nil) (fun _ _ _ _ _ => (pe_op op_add (pv 12) (pv 13)))) pa_nil)))
      (pss_cons (ps_par (i := 7) (j := 8) (by rfl) sc_law.nd rfl rfl (by decide) rfl rfl (pa_cons (pe_callB (cr_maxT rfl) (by rfl) T.b_max (by decide +kernel) (pa_cons (pe_D D_side_sums (hr.mono (by decide)) (by rfl) (pa_cons (pv 3) (pa_cons (pv 4) pa_nil))) pa_nil)) (pa_cons (pe_D D_plain_need (hr.mono (by decide)) (by rfl) (pa_cons (pv 3) (pa_cons (pv 4) pa_nil))) pa_nil)) (by rfl))
      (pss_cons (ps_if (PW.pt (pw_or (pt_cmpR op_gt (pv 7) (pv 8) (nomark _)) (pw_or (pt_cmpR op_gt (pe_op op_mul pe_int (pv 8)) (pe_op op_mul pe_int (pv 7)) (nomark _)) (pw_or1 (pt_cmpR op_gt (pv 8) pe_int (nomark _)))))) (pss_one (ps_ret pe_bl)) pss_nil)
      (pss_cons (ps_if (pt_cmpR op_notBl (pe_D D_is_crossed_split (hr.mono (by decide)) (by rfl) (pa_cons (pv 3) (pa_cons (pv 4) (pa_cons (pv 7) (pa_cons (pe_D D_crossed_split (hr.mono (by decide)) (by rfl) (pa_cons (pv 3) (pa_cons (pv 4) (pa_cons (pv 7) pa_nil)))) pa_nil))))) pe_bl (nomark _)) (pss_one (ps_ret pe_bl)) pss_nil)
      (pss_cons (ps_set (i := 9) sc_law.nd rfl (.inl rfl) (pe_D D_plain_split (hr.mono (by decide)) (by rfl) (pa_cons (pv 3) (pa_cons (pv 4) (pa_cons (pv 8) pa_nil)))))
      (pss_cons (ps_if (pt_cmpR op_notBl (pe_D D_is_plain_split (hr.mono (by decide)) (by rfl) (pa_cons (pv 3) (pa_cons (pv 4) (pa_cons (pv 8) (pa_cons (pv 9) pa_nil))))) pe_bl (nomark _)) (pss_one (ps_ret pe_bl)) pss_nil)
      (pss_cons (ps_if (pt_cmp (pc_notN (pe_D D_plain_bar (hr.mono (by decide)) (by rfl) (pa_cons (pv 3) (pa_cons (pv 4) (pa_cons (pv 8) pa_nil)))))) (pss_one (ps_ret pe_bl)) pss_nil)
      (pss_cons (ps_if (PW.pt (pw_and (pt_cmpR op_gt (pv 7) pe_int (nomark _)) (pw_and1 (pt_cmp (pc_notN (pe_D D_crossed_split (hr.mono (by decide)) (by rfl) (pa_cons (pv 3) (pa_cons (pv 4) (pa_cons (pe_op op_sub (pv 7) pe_int) pa_nil))))))))) (pss_one (ps_ret pe_bl)) pss_nil)
      (pss_cons (ps_if (PW.pt (pw_and (pt_cmpR op_gt (pv 8) pe_int (nomark _)) (pw_and1 (pt_cmp (pc_notN (pe_D D_plain_split (hr.mono (by decide)) (by rfl) (pa_cons (pv 3) (pa_cons (pv 4) (pa_cons (pe_op op_sub (pv 8) pe_int) pa_nil))))))))) (pss_one (ps_ret pe_bl)) pss_nil)
      (pss_cons (ps_if (PW.pt (pw_and (pt_cmpR op_gt (pv 8) pe_int (nomark _)) (pw_and1 (pt_cmp (pc_isN (pe_D D_plain_bar (hr.mono (by decide)) (by rfl) (pa_cons (pv 3) (pa_cons (pv 4) (pa_cons (pe_op op_sub (pv 8) pe_int) pa_nil))))))))) (pss_one (ps_ret pe_bl)) pss_nil)
      (pss_cons (ps_if (pt_cmpR op_gt (pe_D D_plain_need (hr.mono (by decide)) (by rfl) (pa_cons (pv 3) (pa_cons (pv 6) pa_nil))) (pe_op op_add (pv 8) (pe_D D_plain_need (hr.mono (by decide)) (by rfl) (pa_cons (pv 3) (pa_cons (pv 5) pa_nil)))) (nomark _)) (pss_one (ps_ret pe_bl)) pss_nil)
      (pss_cons (ps_if (pt_cmpR op_lt (pe_D D_plain_need (hr.mono (by decide)) (by rfl) (pa_cons (pv 3) (pa_cons (pv 6) pa_nil))) (pv 8) (nomark _)) (pss_one (ps_ret pe_bl)) pss_nil)
      (pss_cons (ps_set (i := 10) sc_law.nd rfl (.inl rfl) (pe_lst pa_nil))
      (pss_cons (ps_for PassesOwn.never rfl (pi_range1 (by rfl) T.b_range (pa_cons (pe_op op_fdiv (pv 8) pe_int) pa_nil)) (pg_name (i := 11) sc_law.nd rfl (Or.inl rfl)) (pss_one (ps_expr (pe_bm PySem.F.plainAttrs_list PySem.F.slot_list_append PySem.F.type_list_append mt_append (pv 10) (pa_cons (pe_callTy call_tuple_of (by rfl) T.b_tuple (by decide +kernel) (pa_cons (pe_lc (own := [("number", 12), ("extra", 13)]) (g := (gTup K 2 (gCons (gName 12) (gCons (gName 13) gNil)))) (tt := tYes) rfl sc_law.nd (pi_zipM true true (by rfl) T.b_zip (pa_cons (pe_ix ix_list (pv 9) (pe_op op_mul pe_int (pv 11)) (fun _ _ => rfl)) (pa_cons (pe_ix ix_list (pv 9) (pe_op op_add (pe_op op_mul pe_int (pv 11)) pe_int) (fun _ _ => rfl)) pa_nil))) (blkOk_by (N := N_law) (sc := defScope s_law) (by decide +kernel)) (fun _ _ _ _ _ => (pg_tup rfl (pgs_cons (pg_name (i := 12) sc_law.nd rfl (Or.inl rfl)) (pgs_cons (pg_name (i := 13) sc_law.nd rfl (Or.inl rfl)) pgs_nil)))) (fun _ _ _ _ _ => pts_nil) (fun _ _ _ _ _ => (pe_op op_add (pv 12) (pv 13)))) pa_nil)) pa_nil)))))
      (pss_cons (ps_set (i := 10) sc_law.nd rfl (.inl rfl) (pe_op op_cat (pv 10) (pe_slice sl_list (pv 9) (po_some (pe_op op_mul pe_int (pe_op op_fdiv (pv 8) pe_int))) po_none)))
      (pss_one (ps_if (pt_cmpR op_notBl (pe_D D_is_crossed_split (hr.mono (by decide)) (by rfl) (pa_cons (pv 3) (pa_cons (pv 4) (pa_cons (pv 8) (pa_cons (pv 10) pa_nil))))) pe_bl (nomark _)) (pss_one (ps_ret pe_bl)) pss_nil)))))))))))))))))))))
      (pss_one (ps_ret pe_bl)))), ?_⟩
  refine ⟨.ref a, rfl, a, ns, rfl, hs, hl, fun st lg cl H1 hst hlg e1 s1 => ?_⟩
  have sA : SqL K H1 a (ns.map V.int) := ex_l e1 hs
  refine e_for (S := [st, lg]) (ei_rng1 (K := K) (n := 3 + min (ns.length : Int) 6) (eda_cons (ed_int (ev_op ev_c (ev_min2 (ev_is (ev_len (K := K) (ev_var rfl) sA) (by rw [List.length_map])) ev_c) rv_I0)) eda_nil) ⟨by omega, by omega⟩) (fun H2 i σ' Ha => TW K a st lg cl H2 i σ' Ha)
    (fun H2 e2 => ⟨Xp.refl _ _, stk_ex e2 s1, none, none, none, none, none, none, none, none, none, none, none, none, rfl⟩) (fun H2 i σ' Ha _ z => z.1) ?_ ?_
  · rintro H2 i d y σ' Ha Hb e2 hdi ⟨xp, s2, c2, c3, c4, c5, c6, c7, c8, c9, c10, c11, c12, c13, rfl⟩ eb hy
    have hi : i < (3 + min (ns.length : Int) 6).toNat := by simpa using (List.getElem?_eq_some_iff.mp hdi).1
    have xp := xp.then eb
    have s2 := stk_ex eb s2
    refine ⟨.ref st, rfl, st, lg, cl, _, 3, rfl, by decide, by decide, by omega, s2, fun r3 H3 r0 r1 x3 s3 => ⟨2, r3, rfl, rfl, ?_⟩⟩
    have xp := xp.trans x3
    obtain ⟨s, hs2⟩ : ∃ s, s = 2 + r3 := ⟨_, rfl⟩
    have h1 : 2 ≤ s := by omega
    have h2 : s ≤ 4 := by omega
    clear hdi hy
    refine gN (i := 3) ?_
    dsimp only [List.set_cons_succ, List.set_cons_zero]
    rw [← hs2]
    show tSeq _ _ _ [some (.ref a), some (.ref st), some y, some (.int s), c4, c5, c6, c7, c8, c9, c10, c11, c12, c13] H3
    refine q_drawn (K := K) rfl rfl rfl h1 h2 (by omega) s3 fun l v4 H4 hld l33 x4 s4 d4 => ?_
    have xp := xp.trans x4
    refine q_drawn (K := K) rfl rfl rfl h1 h2 (by omega) s4 fun m v5 H5 hmd m33 x5 s5 d5 => ?_
    have d4 := dp_tx (stk_tx s4 x5) _ _ (imm_tI _) d4
    have xp := xp.trans x5
    clear s2 s3 s4 x3 x4 x5
    have np10 := np_le (s := s) h1 (by omega)
    have hsd := sum_ld hld hmd l33 m33
    obtain ⟨⟨f1, f2, f3⟩, f4⟩ := facts h1 h2 hld
    have f5 := need99 h1 h2 hld l33
    obtain ⟨f6, f7⟩ := need_sum h1 h2 hld hmd
    have sl : 0 < (sms s l).length := by rw [sms_len]; omega
    refine qd_asg (K := K) (ed_zipsum (a := l) (b := m) rfl (ed_var rfl d4) (ed_var rfl d5) (by rw [hld.1]; omega)) fun v6 H6 e6 d6 => ?_
    have d4 := dp_ex e6 _ _ d4
    have d5 := dp_ex e6 _ _ d5
    refine q_par (K := K) (d1 := .int (mxl (sms s l))) (d2 := .int (need s l)) (eda_cons (ed_int (ev_maxT (K := K) (ns := sms s l) (ed_call (R := R_side_sums) (ds := [.int s, tI l]) (by walk_at "dl") rfl ⟨s, l, rfl, h1, h2, hld, rfl⟩) sl (mxl_mem sl) fun y hy => mxl_ge hy)) (eda_cons (ed_call (R := R_plain_need) (ds := [.int s, tI l]) (by walk_at "dl") rfl ⟨s, l, rfl, h1, h2, hld, rfl⟩) eda_nil)) fun w7 w8 H7 e7 d7 d8 => ?_
    cases dp_int d7
    cases dp_int d8
    have d4 := dp_ex e7 _ _ d4
    have d5 := dp_ex e7 _ _ d5
    have d6 := dp_ex e7 _ _ d6
    have e57 := e6.trans e7
    have psn : ((psl s l).length : Int) = need s l := by
      have := f4.len
      rw [List.length_replicate] at this
      omega
    generalize hN : need s l = N at *
    generalize hL : mxl (sms s l) = L at *
    show tSeq _ _ _ [some (.ref a), some (.ref st), some y, some (.int s), some v4, some v5, some v6, some (.int L), some (.int N), c9, c10, c11, c12, c13] H7
    -- 1
    refine q_when (b := false) (et_is (et_or (a := decide (N < L)) (b := decide (3 * L < 2 * N) || decide (99 < N)) (et_test (ev_op (ev_var rfl) (ev_var rfl) rv_I0)) fun _ => et_or (et_test (ev_op (ev_op ev_c (ev_var rfl) (rv_I (.inl ⟨by decide, by decide⟩))) (ev_op ev_c (ev_var rfl) (rv_I (.inl ⟨by decide, by decide⟩))) rv_I0)) fun _ => et_test (ev_op (ev_var rfl) ev_c rv_I0)) ?_) (fun h => nomatch h) fun _ H8 e8 => ?_
    · simp only [Bool.or_eq_false_iff, decide_eq_false_iff_not]
      omega
    have d4 := dp_ex e8 _ _ d4
    have d5 := dp_ex e8 _ _ d5
    have d6 := dp_ex e8 _ _ d6
    -- 2
    refine q_when (b := false) (et_test (ev_is (ev_notB (ev_cc (K := K) rfl rfl rfl d4 h1 h2 hld (by omega) (by omega) (by omega)) ev_c) rfl)) (fun h => nomatch h) fun _ H9 e9 => ?_
    have d4 := dp_ex e9 _ _ d4
    have d5 := dp_ex e9 _ _ d5
    have d6 := dp_ex e9 _ _ d6
    -- parts
    refine qd_asg (K := K) (d := .list ((psl s l).map tI)) (ed_is (ed_call (R := R_plain_split) (ds := [.int s, tI l, .int N]) (by walk_at "dl") rfl ⟨s, l, N, rfl, h1, h2, hld, by omega, by omega, rfl⟩) ?_) fun v9 H10 e10 d9 => ?_
    · rw [if_pos (by omega), show (N - ((psl s l).length : Int)).toNat = 0 by omega, List.replicate_zero, List.append_nil]
    have d4 := dp_ex e10 _ _ d4
    have d5 := dp_ex e10 _ _ d5
    have d6 := dp_ex e10 _ _ d6
    have e5a := ((e57.trans e8).trans e9).trans e10
    -- 3
    refine q_when (b := false) (et_test (ev_is (ev_notB (EvD.bool (ed_call (R := R_is_plain_split) (ds := [.int s, tI l, .int N, .list ((psl s l).map tI)]) (by walk_at "dl") rfl ⟨s, l, N, psl s l, rfl, h1, h2, hld, by omega, by omega, f4, rfl⟩)) ev_c) rfl)) (fun h => nomatch h) fun _ H11 e11 => ?_
    have d4 := dp_ex e11 _ _ d4
    have d5 := dp_ex e11 _ _ d5
    have d6 := dp_ex e11 _ _ d6
    have d9 := dp_ex e11 _ _ d9
    -- 4
    refine q_when (b := false) (et_B (ev_callXn (K := K) (ds := [.int s, tI l, .int N]) (b := true) (by walk_at "dl") rfl ⟨s, l, N, rfl, h1, h2, hld, by omega, by omega⟩ fun r ⟨s', l', m', e', hr⟩ => ?_)) (fun h => nomatch h) fun _ H12 e12 => ?_
    · obtain ⟨rfl, rfl, rfl⟩ := inj3 e'
      rw [hr]
      exact decide_eq_true (by omega)
    have d4 := dp_ex e12 _ _ d4
    have d5 := dp_ex e12 _ _ d5
    have d6 := dp_ex e12 _ _ d6
    have d9 := dp_ex e12 _ _ d9
    -- 5
    refine q_when (b := false) (et_is (et_and (a := decide (0 < L)) (b := false) (et_test (ev_op (ev_var rfl) ev_c rv_I0)) fun hp => et_B (ev_callXn (K := K) (ds := [.int s, tI l, .int (L - 1)]) (b := true) (by walk_at "dl") rfl ⟨s, l, L - 1, rfl, h1, h2, hld, ?_, by omega⟩ fun r ⟨s', l', m', e', hr⟩ => ?_)) (Bool.and_false _)) (fun h => nomatch h) fun _ H13 e13 => ?_
    · have := of_decide_eq_true hp
      omega
    · obtain ⟨rfl, rfl, rfl⟩ := inj3 e'
      rw [if_neg (by omega)] at hr
      rw [hr]
      rfl
    have d4 := dp_ex e13 _ _ d4
    have d5 := dp_ex e13 _ _ d5
    have d6 := dp_ex e13 _ _ d6
    have d9 := dp_ex e13 _ _ d9
    -- 6
    refine q_when (b := false) (et_is (et_and (a := decide (0 < N)) (b := false) (et_test (ev_op (ev_var rfl) ev_c rv_I0)) fun hp => et_B (ev_notN (K := K) (d := .none) (ed_is (ed_call (R := R_plain_split) (ds := [.int s, tI l, .int (N - 1)]) (by walk_at "dl") rfl ⟨s, l, N - 1, rfl, h1, h2, hld, ?_, by omega, rfl⟩) ?_) rfl)) (Bool.and_false _)) (fun h => nomatch h) fun _ H14 e14 => ?_
    · have := of_decide_eq_true hp
      omega
    · rw [if_neg (by omega)]
    have d4 := dp_ex e14 _ _ d4
    have d5 := dp_ex e14 _ _ d5
    have d6 := dp_ex e14 _ _ d6
    have d9 := dp_ex e14 _ _ d9
    -- 7
    refine q_when (b := false) (et_is (et_and (a := decide (0 < N)) (b := false) (et_test (ev_op (ev_var rfl) ev_c rv_I0)) fun hp => et_B (ev_callX (K := K) (ds := [.int s, tI l, .int (N - 1)]) (b := false) (by walk_at "dl") rfl ⟨s, l, N - 1, rfl, h1, h2, hld, ?_, by omega⟩ fun r ⟨s', l', m', e', hr⟩ => ?_)) (Bool.and_false _)) (fun h => nomatch h) fun _ H15 e15 => ?_
    · have := of_decide_eq_true hp
      omega
    · obtain ⟨rfl, rfl, rfl⟩ := inj3 e'
      rw [hr]
      exact decide_eq_false (by omega)
    have d4 := dp_ex e15 _ _ d4
    have d5 := dp_ex e15 _ _ d5
    have d6 := dp_ex e15 _ _ d6
    have d9 := dp_ex e15 _ _ d9
    -- 8
    refine q_when (b := false) (et_test (ev_is (ev_op (EvD.int (ed_call (R := R_plain_need) (ds := [.int s, tI (zw (· + ·) l m)]) (by walk_at "dl") rfl ⟨s, _, rfl, h1, h2, hsd, rfl⟩)) (ev_op (ev_var rfl) (EvD.int (ed_call (R := R_plain_need) (ds := [.int s, tI m]) (by walk_at "dl") rfl ⟨s, _, rfl, h1, h2, hmd, rfl⟩)) rv_I0) rv_I0) (congrArg V.bl (decide_eq_false (by omega))))) (fun h => nomatch h) fun _ H16 e16 => ?_
    have d4 := dp_ex e16 _ _ d4
    have d6 := dp_ex e16 _ _ d6
    have d9 := dp_ex e16 _ _ d9
    -- 9
    refine q_when (b := false) (et_test (ev_is (ev_op (EvD.int (ed_call (R := R_plain_need) (ds := [.int s, tI (zw (· + ·) l m)]) (by walk_at "dl") rfl ⟨s, _, rfl, h1, h2, hsd, rfl⟩)) (ev_var rfl) rv_I0) (congrArg V.bl (decide_eq_false (by omega))))) (fun h => nomatch h) fun _ H17 e17 => ?_
    have d4 := dp_ex e17 _ _ d4
    have d9 := dp_ex e17 _ _ d9
    have e5b := ((((((e5a.trans e11).trans e12).trans e13).trans e14).trans e15).trans e16).trans e17
    -- two by two
    refine qn_asg (K := K) (en_lst eda_nil (by simp)) fun p ws H18 hp e18 h18 hd18 => ?_
    cases hd18
    have d4 := dp_ex e18 _ _ d4
    cases d9 with
    | @lst q9 w9 _ sq9 da9 =>
    obtain ⟨n, hn⟩ := Int.eq_ofNat_of_zero_le (show 0 ≤ N by omega)
    subst hn
    have psl_n : (psl s l).length = n := by omega
    have f4 : Adds s l (List.replicate n 1) (psl s l) := f4
    have lpr2 : ∀ i, (pr2 (psl s l) i).length = i := fun i => by rw [pr2, List.length_map, List.length_range]
    have pr2s : ∀ i, pr2 (psl s l) (i + 1) = pr2 (psl s l) i ++ [zw (· + ·) ((psl s l).getD (2 * i) []) ((psl s l).getD (2 * i + 1) [])] := fun i => by
      rw [pr2, List.range_succ, List.map_append]
      rfl
    have nh : ((n : Int) / 2).toNat = n / 2 := by omega
    show tSeq (tFor _ _ _) _ _ [some (.ref a), some (.ref st), some y, some (.int s), some v4, some v5, some v6, some (.int L), some (.int (n : Int)), some (.ref q9), some (.ref p), c11, c12, c13] H18
    refine e_for (S := [p]) (ei_rng1 (K := K) (n := (n : Int) / 2) (eda_cons (ed_int (ev_op (ev_var rfl) ev_c (rv_I ⟨by decide, by decide⟩))) eda_nil) ⟨by omega, by omega⟩) (fun H2 i σ' Ha => Xp [p] H2 Ha ∧ ∃ ws c11, Ha p = some (.lst ws) ∧ DpAll K Ha ws ((pr2 (psl s l) i).map tI) ∧ σ' = [some (.ref a), some (.ref st), some y, some (.int s), some v4, some v5, some v6, some (.int L), some (.int (n : Int)), some (.ref q9), some (.ref p), c11, c12, c13])
      (fun H2 e2 => ⟨Xp.refl _ _, [], c11, e2 _ _ h18, .nil, rfl⟩) (fun H2 i σ' Ha _ z => z.1) ?_ ?_
    · rintro H19 j d z σ' Hc Hd e19 hdj ⟨xq, ws, c11, hpc, dws, rfl⟩ ed hz
      have hj : j < n / 2 := by
        have : j < ((n : Int) / 2).toNat := by simpa using (List.getElem?_eq_some_iff.mp hdj).1
        omega
      rw [rng_get (by omega)] at hdj
      cases hdj
      cases dp_int hz
      have l0 : 2 * j < (psl s l).length := by omega
      have l1 : 2 * j + 1 < (psl s l).length := by omega
      have g0 : ((psl s l).map tI)[2 * j]? = some (tI ((psl s l).getD (2 * j) [])) := by rw [List.getElem?_map, List.getElem?_eq_getElem l0, List.getD_eq_getElem?_getD, List.getElem?_eq_getElem l0]; rfl
      have g1 : ((psl s l).map tI)[2 * j + 1]? = some (tI ((psl s l).getD (2 * j + 1) [])) := by rw [List.getElem?_map, List.getElem?_eq_getElem l1, List.getD_eq_getElem?_getD, List.getElem?_eq_getElem l1]; rfl
      have tx : Tx H17 Hd := ((Tx.of_ex (e18.trans e19)).trans (xq.tx (Ls.one (e19 _ _ h18)))).trans (Tx.of_ex ed)
      have d9 : Dp K Hd (.ref q9) (.list ((psl s l).map tI)) := .lst (ex_l ed (sqL_xp sq9 hp (e18.trans e19) xq)) (dpa_tx tx _ _ (immAll_tI _) da9)
      have hpd := ed _ _ hpc
      have lws := dpa_len dws
      rw [List.length_map, lpr2] at lws
      have lg0 : ((psl s l).getD (2 * j) []).length = np s := by
        rw [List.getD_eq_getElem?_getD, List.getElem?_eq_getElem l0]
        exact (f4.ld _ (List.getElem_mem l0)).1
      refine gN (i := 11) ?_
      refine d_app (K := K) (d := tI (zw (· + ·) ((psl s l).getD (2 * j) []) ((psl s l).getD (2 * j + 1) []))) hpd (ev_var rfl) (ed_zipsum rfl (ed_ixL (K := K) (k := 2 * j) (ed_var rfl d9) (ev_is (ev_op ev_c (ev_var (v := .int (j : Int)) rfl) (rv_I (.inl ⟨by decide, by decide⟩))) (congrArg V.int (by omega))) g0)
        (ed_ixL (K := K) (k := 2 * j + 1) (ed_var rfl d9) (ev_is (ev_op (ev_op ev_c (ev_var (v := .int (j : Int)) rfl) (rv_I (.inl ⟨by decide, by decide⟩))) ev_c rv_I0) (congrArg V.int (by omega))) g1) (by rw [lg0]; omega)) (by omega) fun v He ee hv => ?_
      have hpe := ee _ _ hpd
      refine ⟨Xp.upd (xq.then (ed.trans ee)) (by simp), _, _, upd_same, ?_, rfl⟩
      rw [pr2s, List.map_append]
      exact dpa_app (dpa_tx (Tx.lst hpe) _ _ (immAll_tI _) (dpa_ex (ed.trans ee) _ _ dws)) (.cons (dp_tx (Tx.lst hpe) _ _ (imm_tI _) hv) .nil)
    · rintro H19 σ' Hc e19 ⟨xq, ws, c11, hpc, dws, rfl⟩
      rw [List.length_map, List.length_range, nh] at dws
      have tx : Tx H17 Hc := (Tx.of_ex (e18.trans e19)).trans (xq.tx (Ls.one (e19 _ _ h18)))
      have d9 : Dp K Hc (.ref q9) (.list ((psl s l).map tI)) := .lst (sqL_xp sq9 hp (e18.trans e19) xq) (dpa_tx tx _ _ (immAll_tI _) da9)
      have d4 := dp_tx ((Tx.of_ex e19).trans (xq.tx (Ls.one (e19 _ _ h18)))) _ _ (imm_tI _) d4
      have ex17 : Ex H17 Hc := xp_fresh (e18.trans e19) xq hp
      refine qn_asg (K := K) (ds := (pr2 (psl s l) (n / 2) ++ (psl s l).drop (2 * (n / 2))).map tI) (en_is (en_cat (eq_var rfl hpc dws) (EvN.toQ (en_sl (K := K) (lo := some ((2 * (n / 2) : Nat) : Int)) (ed_var rfl d9) (eo_some (ev_is (ev_op ev_c (ev_op (ev_var rfl) ev_c (rv_I ⟨by decide, by decide⟩)) (rv_I (.inl ⟨by decide, by decide⟩))) (congrArg V.int (by omega)))) eo_none)) ?_) ?_) fun p2 w2 He hp2 ee h2' dw2 => ?_
      · rw [cut_dropS (by rw [List.length_map]; omega), List.length_map, lpr2, List.length_drop, List.length_map]
        omega
      · rw [cut_dropS (by rw [List.length_map]; omega), List.map_append, List.map_drop]
      have d4 := dp_ex ee _ _ d4
      have dl2 : Dp K He (.ref p2) (.list ((pr2 (psl s l) (n / 2) ++ (psl s l).drop (2 * (n / 2))).map tI)) := .lst (sq_of h2') dw2
      have lp2 : (pr2 (psl s l) (n / 2) ++ (psl s l).drop (2 * (n / 2))).length ≤ 1000 := by
        rw [List.length_append, lpr2, List.length_drop]
        omega
      refine s_when (b := false) (et_test (ev_is (ev_notB (EvD.bool (ed_call (R := R_is_crossed_split) (ds := [.int s, tI l, .int (n : Int), .list ((pr2 (psl s l) (n / 2) ++ (psl s l).drop (2 * (n / 2))).map tI)]) (by walk_at "dl") rfl ⟨s, l, (n : Int), _, rfl, h1, by omega, hld, by omega, by omega, pairs_add h1 h2 f4, rfl⟩)) ev_c) rfl)) (fun h => nomatch h) fun _ Hf ef => ?_
      have eend := ((e5b.trans ex17).trans ee).trans ef
      exact ⟨xp.then eend, stk_mono (by omega) (stk_ex eend s5), _, _, _, _, _, _, _, _, _, _, _, _, rfl⟩
  · rintro H2 σ' Ha e2 ⟨xp, s2, c2, c3, c4, c5, c6, c7, c8, c9, c10, c11, c12, c13, rfl⟩
    exact k _

end
end K20
set_option Elab.async false
set_option linter.all false
set_option maxRecDepth 100000
set_option maxHeartbeats 0
namespace K20
open PySem PySem.Spec PyProof.Rows L2 Evl DL He
def exA (_ : PySem.W.Frag) : Bool := true
def d_0 : DefD := ⟨("_law_begun", none), "_law_begun", "_law_begun", defArgs s__law_begun, defBody s__law_begun, defScope s__law_begun, [], []⟩
def d_1 : DefD := ⟨("_law_draw", none), "_law_draw", "_law_draw", defArgs s__law_draw, defBody s__law_draw, defScope s__law_draw, [], []⟩
def d_2 : DefD := ⟨("_law_pairs", none), "_law_pairs", "_law_pairs", defArgs s__law_pairs, defBody s__law_pairs, defScope s__law_pairs, [], []⟩
def d_3 : DefD := ⟨("_law_pick", none), "_law_pick", "_law_pick", defArgs s__law_pick, defBody s__law_pick, defScope s__law_pick, [], []⟩
def d_4 : DefD := ⟨("_law_drawn", none), "_law_drawn", "_law_drawn", defArgs s__law_drawn, defBody s__law_drawn, defScope s__law_drawn, [], []⟩
def d_5 : DefD := ⟨("is_tuple_of", none), "is_tuple_of", "is_tuple_of", defArgs s_is_tuple_of, defBody s_is_tuple_of, defScope s_is_tuple_of, [], []⟩
def d_6 : DefD := ⟨("many_pairs", none), "many_pairs", "many_pairs", defArgs s_many_pairs, defBody s_many_pairs, defScope s_many_pairs, [], []⟩
def d_7 : DefD := ⟨("is_load_of", none), "is_load_of", "is_load_of", defArgs s_is_load_of, defBody s_is_load_of, defScope s_is_load_of, [], []⟩
def d_8 : DefD := ⟨("check_load", none), "check_load", "check_load", defArgs s_check_load, defBody s_check_load, defScope s_check_load, [], []⟩
def d_9 : DefD := ⟨("is_number", none), "is_number", "is_number", defArgs s_is_number, defBody s_is_number, defScope s_is_number, [], []⟩
def d_10 : DefD := ⟨("is_within", none), "is_within", "is_within", defArgs s_is_within, defBody s_is_within, defScope s_is_within, [], []⟩
def d_11 : DefD := ⟨("check_room", none), "check_room", "check_room", defArgs s_check_room, defBody s_check_room, defScope s_check_room, [], []⟩
def d_12 : DefD := ⟨("check_sides", none), "check_sides", "check_sides", defArgs s_check_sides, defBody s_check_sides, defScope s_check_sides, [], []⟩
def d_13 : DefD := ⟨("side_pairs", none), "side_pairs", "side_pairs", defArgs s_side_pairs, defBody s_side_pairs, defScope s_side_pairs, [], []⟩
def d_14 : DefD := ⟨("sums_at_sides", none), "sums_at_sides", "sums_at_sides", defArgs s_sums_at_sides, defBody s_sums_at_sides, defScope s_sums_at_sides, [], []⟩
def d_15 : DefD := ⟨("is_let", none), "is_let", "is_let", defArgs s_is_let, defBody s_is_let, defScope s_is_let, [], []⟩
def d_16 : DefD := ⟨("is_below", none), "is_below", "is_below", defArgs s_is_below, defBody s_is_below, defScope s_is_below, [], []⟩
def d_17 : DefD := ⟨("reduced", none), "reduced", "reduced", defArgs s_reduced, defBody s_reduced, defScope s_reduced, [], []⟩
def d_18 : DefD := ⟨("is_part", none), "is_part", "is_part", defArgs s_is_part, defBody s_is_part, defScope s_is_part, [], []⟩
def d_19 : DefD := ⟨("let_loads", none), "let_loads", "let_loads", defArgs s_let_loads, defBody s_let_loads, defScope s_let_loads, [], []⟩
def d_20 : DefD := ⟨("mates_rooms", none), "mates_rooms", "mates_rooms", defArgs s_mates_rooms, defBody s_mates_rooms, defScope s_mates_rooms, [], []⟩
def d_21 : DefD := ⟨("part_off", none), "part_off", "part_off", defArgs s_part_off, defBody s_part_off, defScope s_part_off, [], []⟩
def d_22 : DefD := ⟨("crossed_split", none), "crossed_split", "crossed_split", defArgs s_crossed_split, defBody s_crossed_split, defScope s_crossed_split, [], []⟩
def d_23 : DefD := ⟨("is_row", none), "is_row", "is_row", defArgs s_is_row, defBody s_is_row, defScope s_is_row, [], []⟩
def d_24 : DefD := ⟨("no_wires", none), "no_wires", "no_wires", defArgs s_no_wires, defBody s_no_wires, defScope s_no_wires, [], []⟩
def d_25 : DefD := ⟨("summed", none), "summed", "summed", defArgs s_summed, defBody s_summed, defScope s_summed, [], []⟩
def d_26 : DefD := ⟨("adds_up", none), "adds_up", "adds_up", defArgs s_adds_up, defBody s_adds_up, defScope s_adds_up, [], []⟩
def d_27 : DefD := ⟨("is_crossed_split", none), "is_crossed_split", "is_crossed_split", defArgs s_is_crossed_split, defBody s_is_crossed_split, defScope s_is_crossed_split, [], []⟩
def d_28 : DefD := ⟨("check_plain_load", none), "check_plain_load", "check_plain_load", defArgs s_check_plain_load, defBody s_check_plain_load, defScope s_check_plain_load, [], []⟩
def d_29 : DefD := ⟨("is_plain_split", none), "is_plain_split", "is_plain_split", defArgs s_is_plain_split, defBody s_is_plain_split, defScope s_is_plain_split, [], []⟩
def d_30 : DefD := ⟨("pair_place", none), "pair_place", "pair_place", defArgs s_pair_place, defBody s_pair_place, defScope s_pair_place, [], []⟩
def d_31 : DefD := ⟨("sum_in_triangle", none), "sum_in_triangle", "sum_in_triangle", defArgs s_sum_in_triangle, defBody s_sum_in_triangle, defScope s_sum_in_triangle, [], []⟩
def d_32 : DefD := ⟨("triangles", none), "triangles", "triangles", defArgs s_triangles, defBody s_triangles, defScope s_triangles, [], []⟩
def d_33 : DefD := ⟨("plain_bar", none), "plain_bar", "plain_bar", defArgs s_plain_bar, defBody s_plain_bar, defScope s_plain_bar, [], []⟩
def d_34 : DefD := ⟨("need_of", none), "need_of", "need_of", defArgs s_need_of, defBody s_need_of, defScope s_need_of, [], []⟩
def d_35 : DefD := ⟨("plain_need", none), "plain_need", "plain_need", defArgs s_plain_need, defBody s_plain_need, defScope s_plain_need, [], []⟩
def d_36 : DefD := ⟨("pairings", none), "pairings", "pairings", defArgs s_pairings, defBody s_pairings, defScope s_pairings, [], []⟩
def d_37 : DefD := ⟨("raised", none), "raised", "raised", defArgs s_raised, defBody s_raised, defScope s_raised, [], []⟩
def d_38 : DefD := ⟨("tracks_of", none), "tracks_of", "tracks_of", defArgs s_tracks_of, defBody s_tracks_of, defScope s_tracks_of, [], []⟩
def d_39 : DefD := ⟨("plain_split", none), "plain_split", "plain_split", defArgs s_plain_split, defBody s_plain_split, defScope s_plain_split, [], []⟩
def d_40 : DefD := ⟨("side_sums", none), "side_sums", "side_sums", defArgs s_side_sums, defBody s_side_sums, defScope s_side_sums, [], []⟩
def d_41 : DefD := ⟨("law", none), "law", "law", defArgs s_law, defBody s_law, defScope s_law, [], []⟩
def fnL : List DefD := [d_0, d_1, d_2, d_3, d_4, d_5, d_6, d_7, d_8, d_9, d_10, d_11, d_12, d_13, d_14, d_15, d_16, d_17, d_18, d_19, d_20, d_21, d_22, d_23, d_24, d_25, d_26, d_27, d_28, d_29, d_30, d_31, d_32, d_33, d_34, d_35, d_36, d_37, d_38, d_39, d_40, d_41]
def faL : List Fa := [.glo "_law_begun", .glo "_law_draw", .glo "_law_pairs", .glo "_law_pick", .glo "_law_drawn", .glo "is_tuple_of", .glo "many_pairs", .glo "is_load_of", .glo "check_load", .glo "is_number", .glo "is_within", .glo "check_room", .glo "check_sides", .glo "side_pairs", .glo "sums_at_sides", .glo "is_let", .glo "is_below", .glo "reduced", .glo "is_part", .glo "let_loads", .glo "mates_rooms", .glo "part_off", .glo "crossed_split", .glo "is_row", .glo "no_wires", .glo "summed", .glo "adds_up", .glo "is_crossed_split", .glo "check_plain_load", .glo "is_plain_split", .glo "pair_place", .glo "sum_in_triangle", .glo "triangles", .glo "plain_bar", .glo "need_of", .glo "plain_need", .glo "pairings", .glo "raised", .glo "tracks_of", .glo "plain_split", .glo "side_sums", .glo "law", .free "isinstance", .free "int", .free "bool", .free "tuple", .free "list", .free "len", .free "range", .free "zip", .free "max", .free "min", .free "sum", .free "abs", .int "MOST_SIDES" 5, .int "MOST_NUMBER" 99, .int "MOST_PLAIN_SIDES" 4, .int "MOST_ROOM" 99, .int "MOST_LET" 20000]
theorem fng_of {P : Program} {w : World} {K : PySem.W.Frag} {mg : Str → Option Value} {base : Heap} {CX : CXT} {k : Nat} {f : Addr} {fd : FuncData} {ps : List Str} {sp : Sp} (F : FnOk P w K mg base CX k f fd ps sp) : FnG P w K mg base CX k f fd ps sp :=
  ⟨F.len, fun A outer s H args us vs Q E _ => F.run A outer s H args us vs Q E⟩
theorem facts_law {l : PySem.W.OpenLaw} {w : World} {K : PySem.W.Frag} {h : Heap} {mg : Str → Option Value} {fa : Addr} (X : K.In h) (G : h.Ns mainGlobals mg) (hfa : mg "law" = some (.ref fa)) (c : KnownY faL fnL [] exA h K) :
    ∃ fd : FuncData, (∀ (s : Shared) (u : Value), BindsTo s fd ⟨[u], []⟩ [("script", u)]) ∧ ∀ base : Heap, K.In base → base.Ns mainGlobals mg → FnG l.prog w K mg base CX0 7 fa fd ["script"] (spLaw K) := by
  have d := c.says
  obtain ⟨oc0, kV0, dc0, pm0, cd0, ct0, od0, an0, sl0, l0, c0, k0⟩ := fn_look (st := s__law_begun) (d.def_ 0 (d := d_0) rfl)
  have a0 := glo_ok X G (d.fact 0 (f := .glo "_law_begun") rfl)
  obtain ⟨oc1, kV1, dc1, pm1, cd1, ct1, od1, an1, sl1, l1, c1, k1⟩ := fn_look (st := s__law_draw) (d.def_ 1 (d := d_1) rfl)
  have a1 := glo_ok X G (d.fact 1 (f := .glo "_law_draw") rfl)
  obtain ⟨oc2, kV2, dc2, pm2, cd2, ct2, od2, an2, sl2, l2, c2, k2⟩ := fn_look (st := s__law_pairs) (d.def_ 2 (d := d_2) rfl)
  have a2 := glo_ok X G (d.fact 2 (f := .glo "_law_pairs") rfl)
  obtain ⟨oc3, kV3, dc3, pm3, cd3, ct3, od3, an3, sl3, l3, c3, k3⟩ := fn_look (st := s__law_pick) (d.def_ 3 (d := d_3) rfl)
  have a3 := glo_ok X G (d.fact 3 (f := .glo "_law_pick") rfl)
  obtain ⟨oc4, kV4, dc4, pm4, cd4, ct4, od4, an4, sl4, l4, c4, k4⟩ := fn_look (st := s__law_drawn) (d.def_ 4 (d := d_4) rfl)
  have a4 := glo_ok X G (d.fact 4 (f := .glo "_law_drawn") rfl)
  obtain ⟨oc5, kV5, dc5, pm5, cd5, ct5, od5, an5, sl5, l5, c5, k5⟩ := fn_look (st := s_is_tuple_of) (d.def_ 5 (d := d_5) rfl)
  have a5 := glo_ok X G (d.fact 5 (f := .glo "is_tuple_of") rfl)
  obtain ⟨oc6, kV6, dc6, pm6, cd6, ct6, od6, an6, sl6, l6, c6, k6⟩ := fn_look (st := s_many_pairs) (d.def_ 6 (d := d_6) rfl)
  have a6 := glo_ok X G (d.fact 6 (f := .glo "many_pairs") rfl)
  obtain ⟨oc7, kV7, dc7, pm7, cd7, ct7, od7, an7, sl7, l7, c7, k7⟩ := fn_look (st := s_is_load_of) (d.def_ 7 (d := d_7) rfl)
  have a7 := glo_ok X G (d.fact 7 (f := .glo "is_load_of") rfl)
  obtain ⟨oc8, kV8, dc8, pm8, cd8, ct8, od8, an8, sl8, l8, c8, k8⟩ := fn_look (st := s_check_load) (d.def_ 8 (d := d_8) rfl)
  have a8 := glo_ok X G (d.fact 8 (f := .glo "check_load") rfl)
  obtain ⟨oc9, kV9, dc9, pm9, cd9, ct9, od9, an9, sl9, l9, c9, k9⟩ := fn_look (st := s_is_number) (d.def_ 9 (d := d_9) rfl)
  have a9 := glo_ok X G (d.fact 9 (f := .glo "is_number") rfl)
  obtain ⟨oc10, kV10, dc10, pm10, cd10, ct10, od10, an10, sl10, l10, c10, k10⟩ := fn_look (st := s_is_within) (d.def_ 10 (d := d_10) rfl)
  have a10 := glo_ok X G (d.fact 10 (f := .glo "is_within") rfl)
  obtain ⟨oc11, kV11, dc11, pm11, cd11, ct11, od11, an11, sl11, l11, c11, k11⟩ := fn_look (st := s_check_room) (d.def_ 11 (d := d_11) rfl)
  have a11 := glo_ok X G (d.fact 11 (f := .glo "check_room") rfl)
  obtain ⟨oc12, kV12, dc12, pm12, cd12, ct12, od12, an12, sl12, l12, c12, k12⟩ := fn_look (st := s_check_sides) (d.def_ 12 (d := d_12) rfl)
  have a12 := glo_ok X G (d.fact 12 (f := .glo "check_sides") rfl)
  obtain ⟨oc13, kV13, dc13, pm13, cd13, ct13, od13, an13, sl13, l13, c13, k13⟩ := fn_look (st := s_side_pairs) (d.def_ 13 (d := d_13) rfl)
  have a13 := glo_ok X G (d.fact 13 (f := .glo "side_pairs") rfl)
  obtain ⟨oc14, kV14, dc14, pm14, cd14, ct14, od14, an14, sl14, l14, c14, k14⟩ := fn_look (st := s_sums_at_sides) (d.def_ 14 (d := d_14) rfl)
  have a14 := glo_ok X G (d.fact 14 (f := .glo "sums_at_sides") rfl)
  obtain ⟨oc15, kV15, dc15, pm15, cd15, ct15, od15, an15, sl15, l15, c15, k15⟩ := fn_look (st := s_is_let) (d.def_ 15 (d := d_15) rfl)
  have a15 := glo_ok X G (d.fact 15 (f := .glo "is_let") rfl)
  obtain ⟨oc16, kV16, dc16, pm16, cd16, ct16, od16, an16, sl16, l16, c16, k16⟩ := fn_look (st := s_is_below) (d.def_ 16 (d := d_16) rfl)
  have a16 := glo_ok X G (d.fact 16 (f := .glo "is_below") rfl)
  obtain ⟨oc17, kV17, dc17, pm17, cd17, ct17, od17, an17, sl17, l17, c17, k17⟩ := fn_look (st := s_reduced) (d.def_ 17 (d := d_17) rfl)
  have a17 := glo_ok X G (d.fact 17 (f := .glo "reduced") rfl)
  obtain ⟨oc18, kV18, dc18, pm18, cd18, ct18, od18, an18, sl18, l18, c18, k18⟩ := fn_look (st := s_is_part) (d.def_ 18 (d := d_18) rfl)
  have a18 := glo_ok X G (d.fact 18 (f := .glo "is_part") rfl)
  obtain ⟨oc19, kV19, dc19, pm19, cd19, ct19, od19, an19, sl19, l19, c19, k19⟩ := fn_look (st := s_let_loads) (d.def_ 19 (d := d_19) rfl)
  have a19 := glo_ok X G (d.fact 19 (f := .glo "let_loads") rfl)
  obtain ⟨oc20, kV20, dc20, pm20, cd20, ct20, od20, an20, sl20, l20, c20, k20⟩ := fn_look (st := s_mates_rooms) (d.def_ 20 (d := d_20) rfl)
  have a20 := glo_ok X G (d.fact 20 (f := .glo "mates_rooms") rfl)
  obtain ⟨oc21, kV21, dc21, pm21, cd21, ct21, od21, an21, sl21, l21, c21, k21⟩ := fn_look (st := s_part_off) (d.def_ 21 (d := d_21) rfl)
  have a21 := glo_ok X G (d.fact 21 (f := .glo "part_off") rfl)
  obtain ⟨oc22, kV22, dc22, pm22, cd22, ct22, od22, an22, sl22, l22, c22, k22⟩ := fn_look (st := s_crossed_split) (d.def_ 22 (d := d_22) rfl)
  have a22 := glo_ok X G (d.fact 22 (f := .glo "crossed_split") rfl)
  obtain ⟨oc23, kV23, dc23, pm23, cd23, ct23, od23, an23, sl23, l23, c23, k23⟩ := fn_look (st := s_is_row) (d.def_ 23 (d := d_23) rfl)
  have a23 := glo_ok X G (d.fact 23 (f := .glo "is_row") rfl)
  obtain ⟨oc24, kV24, dc24, pm24, cd24, ct24, od24, an24, sl24, l24, c24, k24⟩ := fn_look (st := s_no_wires) (d.def_ 24 (d := d_24) rfl)
  have a24 := glo_ok X G (d.fact 24 (f := .glo "no_wires") rfl)
  obtain ⟨oc25, kV25, dc25, pm25, cd25, ct25, od25, an25, sl25, l25, c25, k25⟩ := fn_look (st := s_summed) (d.def_ 25 (d := d_25) rfl)
  have a25 := glo_ok X G (d.fact 25 (f := .glo "summed") rfl)
  obtain ⟨oc26, kV26, dc26, pm26, cd26, ct26, od26, an26, sl26, l26, c26, k26⟩ := fn_look (st := s_adds_up) (d.def_ 26 (d := d_26) rfl)
  have a26 := glo_ok X G (d.fact 26 (f := .glo "adds_up") rfl)
  obtain ⟨oc27, kV27, dc27, pm27, cd27, ct27, od27, an27, sl27, l27, c27, k27⟩ := fn_look (st := s_is_crossed_split) (d.def_ 27 (d := d_27) rfl)
  have a27 := glo_ok X G (d.fact 27 (f := .glo "is_crossed_split") rfl)
  obtain ⟨oc28, kV28, dc28, pm28, cd28, ct28, od28, an28, sl28, l28, c28, k28⟩ := fn_look (st := s_check_plain_load) (d.def_ 28 (d := d_28) rfl)
  have a28 := glo_ok X G (d.fact 28 (f := .glo "check_plain_load") rfl)
  obtain ⟨oc29, kV29, dc29, pm29, cd29, ct29, od29, an29, sl29, l29, c29, k29⟩ := fn_look (st := s_is_plain_split) (d.def_ 29 (d := d_29) rfl)
  have a29 := glo_ok X G (d.fact 29 (f := .glo "is_plain_split") rfl)
  obtain ⟨oc30, kV30, dc30, pm30, cd30, ct30, od30, an30, sl30, l30, c30, k30⟩ := fn_look (st := s_pair_place) (d.def_ 30 (d := d_30) rfl)
  have a30 := glo_ok X G (d.fact 30 (f := .glo "pair_place") rfl)
  obtain ⟨oc31, kV31, dc31, pm31, cd31, ct31, od31, an31, sl31, l31, c31, k31⟩ := fn_look (st := s_sum_in_triangle) (d.def_ 31 (d := d_31) rfl)
  have a31 := glo_ok X G (d.fact 31 (f := .glo "sum_in_triangle") rfl)
  obtain ⟨oc32, kV32, dc32, pm32, cd32, ct32, od32, an32, sl32, l32, c32, k32⟩ := fn_look (st := s_triangles) (d.def_ 32 (d := d_32) rfl)
  have a32 := glo_ok X G (d.fact 32 (f := .glo "triangles") rfl)
  obtain ⟨oc33, kV33, dc33, pm33, cd33, ct33, od33, an33, sl33, l33, c33, k33⟩ := fn_look (st := s_plain_bar) (d.def_ 33 (d := d_33) rfl)
  have a33 := glo_ok X G (d.fact 33 (f := .glo "plain_bar") rfl)
  obtain ⟨oc34, kV34, dc34, pm34, cd34, ct34, od34, an34, sl34, l34, c34, k34⟩ := fn_look (st := s_need_of) (d.def_ 34 (d := d_34) rfl)
  have a34 := glo_ok X G (d.fact 34 (f := .glo "need_of") rfl)
  obtain ⟨oc35, kV35, dc35, pm35, cd35, ct35, od35, an35, sl35, l35, c35, k35⟩ := fn_look (st := s_plain_need) (d.def_ 35 (d := d_35) rfl)
  have a35 := glo_ok X G (d.fact 35 (f := .glo "plain_need") rfl)
  obtain ⟨oc36, kV36, dc36, pm36, cd36, ct36, od36, an36, sl36, l36, c36, k36⟩ := fn_look (st := s_pairings) (d.def_ 36 (d := d_36) rfl)
  have a36 := glo_ok X G (d.fact 36 (f := .glo "pairings") rfl)
  obtain ⟨oc37, kV37, dc37, pm37, cd37, ct37, od37, an37, sl37, l37, c37, k37⟩ := fn_look (st := s_raised) (d.def_ 37 (d := d_37) rfl)
  have a37 := glo_ok X G (d.fact 37 (f := .glo "raised") rfl)
  obtain ⟨oc38, kV38, dc38, pm38, cd38, ct38, od38, an38, sl38, l38, c38, k38⟩ := fn_look (st := s_tracks_of) (d.def_ 38 (d := d_38) rfl)
  have a38 := glo_ok X G (d.fact 38 (f := .glo "tracks_of") rfl)
  obtain ⟨oc39, kV39, dc39, pm39, cd39, ct39, od39, an39, sl39, l39, c39, k39⟩ := fn_look (st := s_plain_split) (d.def_ 39 (d := d_39) rfl)
  have a39 := glo_ok X G (d.fact 39 (f := .glo "plain_split") rfl)
  obtain ⟨oc40, kV40, dc40, pm40, cd40, ct40, od40, an40, sl40, l40, c40, k40⟩ := fn_look (st := s_side_sums) (d.def_ 40 (d := d_40) rfl)
  have a40 := glo_ok X G (d.fact 40 (f := .glo "side_sums") rfl)
  obtain ⟨oc41, kV41, dc41, pm41, cd41, ct41, od41, an41, sl41, l41, c41, k41⟩ := fn_look (st := s_law) (d.def_ 41 (d := d_41) rfl)
  have a41 := glo_ok X G (d.fact 41 (f := .glo "law") rfl)
  have e : fa = ga K "law" := Value.ref.inj (Option.some.inj (hfa.symm.trans a41))
  subst e
  have T : Txt mg := ⟨free_ok X G (d.fact 42 (f := .free "isinstance") rfl), free_ok X G (d.fact 43 (f := .free "int") rfl), free_ok X G (d.fact 44 (f := .free "bool") rfl), free_ok X G (d.fact 45 (f := .free "tuple") rfl), free_ok X G (d.fact 46 (f := .free "list") rfl), free_ok X G (d.fact 47 (f := .free "len") rfl), free_ok X G (d.fact 48 (f := .free "range") rfl), free_ok X G (d.fact 49 (f := .free "zip") rfl), free_ok X G (d.fact 50 (f := .free "max") rfl), free_ok X G (d.fact 51 (f := .free "min") rfl), free_ok X G (d.fact 52 (f := .free "sum") rfl), free_ok X G (d.fact 53 (f := .free "abs") rfl), int_ok X G (d.fact 54 (f := .int "MOST_SIDES" 5) rfl), int_ok X G (d.fact 55 (f := .int "MOST_NUMBER" 99) rfl), int_ok X G (d.fact 56 (f := .int "MOST_PLAIN_SIDES" 4) rfl), int_ok X G (d.fact 57 (f := .int "MOST_ROOM" 99) rfl), int_ok X G (d.fact 58 (f := .int "MOST_LET" 20000) rfl)⟩
  have F0 := fun_mk (st := s__law_begun) l0 c0 k0
  have F1 := fun_mk (st := s__law_draw) l1 c1 k1
  have F2 := fun_mk (st := s__law_pairs) l2 c2 k2
  have F3 := fun_mk (st := s__law_pick) l3 c3 k3
  have F4 := fun_mk (st := s__law_drawn) l4 c4 k4
  have F5 := fun_mk (st := s_is_tuple_of) l5 c5 k5
  have F6 := fun_mk (st := s_many_pairs) l6 c6 k6
  have F7 := fun_mk (st := s_is_load_of) l7 c7 k7
  have F8 := fun_mk (st := s_check_load) l8 c8 k8
  have F9 := fun_mk (st := s_is_number) l9 c9 k9
  have F10 := fun_mk (st := s_is_within) l10 c10 k10
  have F11 := fun_mk (st := s_check_room) l11 c11 k11
  have F12 := fun_mk (st := s_check_sides) l12 c12 k12
  have F13 := fun_mk (st := s_side_pairs) l13 c13 k13
  have F14 := fun_mk (st := s_sums_at_sides) l14 c14 k14
  have F15 := fun_mk (st := s_is_let) l15 c15 k15
  have F16 := fun_mk (st := s_is_below) l16 c16 k16
  have F17 := fun_mk (st := s_reduced) l17 c17 k17
  have F18 := fun_mk (st := s_is_part) l18 c18 k18
  have F19 := fun_mk (st := s_let_loads) l19 c19 k19
  have F20 := fun_mk (st := s_mates_rooms) l20 c20 k20
  have F21 := fun_mk (st := s_part_off) l21 c21 k21
  have F22 := fun_mk (st := s_crossed_split) l22 c22 k22
  have F23 := fun_mk (st := s_is_row) l23 c23 k23
  have F24 := fun_mk (st := s_no_wires) l24 c24 k24
  have F25 := fun_mk (st := s_summed) l25 c25 k25
  have F26 := fun_mk (st := s_adds_up) l26 c26 k26
  have F27 := fun_mk (st := s_is_crossed_split) l27 c27 k27
  have F28 := fun_mk (st := s_check_plain_load) l28 c28 k28
  have F29 := fun_mk (st := s_is_plain_split) l29 c29 k29
  have F30 := fun_mk (st := s_pair_place) l30 c30 k30
  have F31 := fun_mk (st := s_sum_in_triangle) l31 c31 k31
  have F32 := fun_mk (st := s_triangles) l32 c32 k32
  have F33 := fun_mk (st := s_plain_bar) l33 c33 k33
  have F34 := fun_mk (st := s_need_of) l34 c34 k34
  have F35 := fun_mk (st := s_plain_need) l35 c35 k35
  have F36 := fun_mk (st := s_pairings) l36 c36 k36
  have F37 := fun_mk (st := s_raised) l37 c37 k37
  have F38 := fun_mk (st := s_tracks_of) l38 c38 k38
  have F39 := fun_mk (st := s_plain_split) l39 c39 k39
  have F40 := fun_mk (st := s_side_sums) l40 c40 k40
  have F41 := fun_mk (st := s_law) l41 c41 k41
  refine ⟨PySem.W.fnOf "law" "law" (defArgs s_law) (defBody s_law) (defScope s_law) .none kV41 dc41 pm41 an41 cd41 ct41, fun s v => .of_eq rfl, fun base _ _ => ?_⟩
  have D0 : DF l.prog w K mg base "_law_begun" 1 ["script"] (spBegun K) := ⟨⟨_, _, ok__law_begun F0 T , a0, k0, F0.binds (ps := ["script"]) fun _ _ _ _ _ _ us hl => match us, hl with | [_], _ => rfl⟩⟩
  have D1 : DF l.prog w K mg base "_law_draw" 1 ["state", "size_here"] (spDraw K) := ⟨⟨_, _, ok__law_draw F1 T , a1, k1, F1.binds (ps := ["state", "size_here"]) fun _ _ _ _ _ _ us hl => match us, hl with | [_, _], _ => rfl⟩⟩
  have D2 : DF l.prog w K mg base "_law_pairs" 1 ["sides_here"] (spN K 1 R_law_pairs) := ⟨⟨_, _, ok__law_pairs F2 T , a2, k2, F2.binds (ps := ["sides_here"]) fun _ _ _ _ _ _ us hl => match us, hl with | [_], _ => rfl⟩⟩
  have D3 : DF l.prog w K mg base "_law_pick" 2 ["state", "several"] (spPick K) := ⟨⟨_, _, ok__law_pick F3 T D1, a3, k3, F3.binds (ps := ["state", "several"]) fun _ _ _ _ _ _ us hl => match us, hl with | [_, _], _ => rfl⟩⟩
  have D4 : DF l.prog w K mg base "_law_drawn" 3 ["state", "sides_here"] (spDrawn K) := ⟨⟨_, _, ok__law_drawn F4 T D1 D2 D3, a4, k4, F4.binds (ps := ["state", "sides_here"]) fun _ _ _ _ _ _ us hl => match us, hl with | [_, _], _ => rfl⟩⟩
  have D5 : DF l.prog w K mg base "is_tuple_of" 1 ["thing", "many"] (spD K 2 R_is_tuple_of) := ⟨⟨_, _, ok_is_tuple_of F5 T , a5, k5, F5.binds (ps := ["thing", "many"]) fun _ _ _ _ _ _ us hl => match us, hl with | [_, _], _ => rfl⟩⟩
  have D6 : DF l.prog w K mg base "many_pairs" 1 ["sides"] (spD K 1 R_many_pairs) := ⟨⟨_, _, ok_many_pairs F6 T , a6, k6, F6.binds (ps := ["sides"]) fun _ _ _ _ _ _ us hl => match us, hl with | [_], _ => rfl⟩⟩
  have D7 : DF l.prog w K mg base "is_load_of" 2 ["sides", "thing"] (spD K 2 R_is_load_of) := ⟨⟨_, _, ok_is_load_of F7 T D5 D6, a7, k7, F7.binds (ps := ["sides", "thing"]) fun _ _ _ _ _ _ us hl => match us, hl with | [_, _], _ => rfl⟩⟩
  have D8 : DF l.prog w K mg base "check_load" 3 ["sides", "load"] (spD K 2 R_check_load) := ⟨⟨_, _, ok_check_load F8 T D7, a8, k8, F8.binds (ps := ["sides", "load"]) fun _ _ _ _ _ _ us hl => match us, hl with | [_, _], _ => rfl⟩⟩
  have D9 : DF l.prog w K mg base "is_number" 1 ["thing"] (spD K 1 R_is_number) := ⟨⟨_, _, ok_is_number F9 T , a9, k9, F9.binds (ps := ["thing"]) fun _ _ _ _ _ _ us hl => match us, hl with | [_], _ => rfl⟩⟩
  have D10 : DF l.prog w K mg base "is_within" 2 ["thing", "low", "high"] (spD K 3 R_is_within) := ⟨⟨_, _, ok_is_within F10 T D9, a10, k10, F10.binds (ps := ["thing", "low", "high"]) fun _ _ _ _ _ _ us hl => match us, hl with | [_, _, _], _ => rfl⟩⟩
  have D11 : DF l.prog w K mg base "check_room" 3 ["room"] (spD K 1 R_check_room) := ⟨⟨_, _, ok_check_room F11 T D10, a11, k11, F11.binds (ps := ["room"]) fun _ _ _ _ _ _ us hl => match us, hl with | [_], _ => rfl⟩⟩
  have D12 : DF l.prog w K mg base "check_sides" 3 ["sides", "most"] (spD K 2 R_check_sides) := ⟨⟨_, _, ok_check_sides F12 T D10, a12, k12, F12.binds (ps := ["sides", "most"]) fun _ _ _ _ _ _ us hl => match us, hl with | [_, _], _ => rfl⟩⟩
  have D13 : DF l.prog w K mg base "side_pairs" 1 ["sides"] (spN K 1 R_side_pairs) := ⟨⟨_, _, ok_side_pairs F13 T , a13, k13, F13.binds (ps := ["sides"]) fun _ _ _ _ _ _ us hl => match us, hl with | [_], _ => rfl⟩⟩
  have D14 : DF l.prog w K mg base "sums_at_sides" 2 ["sides", "load"] (spN K 2 R_sums_at_sides) := ⟨⟨_, _, ok_sums_at_sides F14 T D13, a14, k14, F14.binds (ps := ["sides", "load"]) fun _ _ _ _ _ _ us hl => match us, hl with | [_, _], _ => rfl⟩⟩
  have D15 : DF l.prog w K mg base "is_let" 3 ["sides", "load", "room"] (spD K 3 R_is_let) := ⟨⟨_, _, ok_is_let F15 T D14, a15, k15, F15.binds (ps := ["sides", "load", "room"]) fun _ _ _ _ _ _ us hl => match us, hl with | [_, _, _], _ => rfl⟩⟩
  have D16 : DF l.prog w K mg base "is_below" 1 ["one", "other"] (spD K 2 R_is_below) := ⟨⟨_, _, ok_is_below F16 T , a16, k16, F16.binds (ps := ["one", "other"]) fun _ _ _ _ _ _ us hl => match us, hl with | [_, _], _ => rfl⟩⟩
  have D17 : DF l.prog w K mg base "reduced" 1 ["load", "part"] (spD K 2 R_reduced) := ⟨⟨_, _, ok_reduced F17 T , a17, k17, F17.binds (ps := ["load", "part"]) fun _ _ _ _ _ _ us hl => match us, hl with | [_, _], _ => rfl⟩⟩
  have D18 : DF l.prog w K mg base "is_part" 4 ["sides", "load", "part", "room"] (spD K 4 R_is_part) := ⟨⟨_, _, ok_is_part F18 T D16 D15 D17, a18, k18, F18.binds (ps := ["sides", "load", "part", "room"]) fun _ _ _ _ _ _ us hl => match us, hl with | [_, _, _, _], _ => rfl⟩⟩
  have D19 : DF l.prog w K mg base "let_loads" 2 ["sides", "tracks", "most"] (spN K 3 R_let_loads) := ⟨⟨_, _, ok_let_loads F19 T D13, a19, k19, F19.binds (ps := ["sides", "tracks", "most"]) fun _ _ _ _ _ _ us hl => match us, hl with | [_, _, _], _ => rfl⟩⟩
  have D20 : DF l.prog w K mg base "mates_rooms" 1 ["room"] (spN K 1 R_mates_rooms) := ⟨⟨_, _, ok_mates_rooms F20 T , a20, k20, F20.binds (ps := ["room"]) fun _ _ _ _ _ _ us hl => match us, hl with | [_], _ => rfl⟩⟩
  have D21 : DF l.prog w K mg base "part_off" 5 ["sides", "load", "parts", "room"] (spD K 4 R_part_off) := ⟨⟨_, _, ok_part_off F21 T D18, a21, k21, F21.binds (ps := ["sides", "load", "parts", "room"]) fun _ _ _ _ _ _ us hl => match us, hl with | [_, _, _, _], _ => rfl⟩⟩
  have D22 : DF l.prog w K mg base "crossed_split" 6 ["sides", "load", "room"] (spX K 3 P_crossed_split Q_crossed_split) := ⟨⟨_, _, ok_crossed_split F22 T D8 D11 D12 D15 D18 D19 D20 D21 D17, a22, k22, F22.binds (ps := ["sides", "load", "room"]) fun _ _ _ _ _ _ us hl => match us, hl with | [_, _, _], _ => rfl⟩⟩
  have D23 : DF l.prog w K mg base "is_row" 1 ["thing"] (spD K 1 R_is_row) := ⟨⟨_, _, ok_is_row F23 T , a23, k23, F23.binds (ps := ["thing"]) fun _ _ _ _ _ _ us hl => match us, hl with | [_], _ => rfl⟩⟩
  have D24 : DF l.prog w K mg base "no_wires" 2 ["sides"] (spD K 1 R_no_wires) := ⟨⟨_, _, ok_no_wires F24 T D6, a24, k24, F24.binds (ps := ["sides"]) fun _ _ _ _ _ _ us hl => match us, hl with | [_], _ => rfl⟩⟩
  have D25 : DF l.prog w K mg base "summed" 1 ["one", "other"] (spD K 2 R_summed) := ⟨⟨_, _, ok_summed F25 T , a25, k25, F25.binds (ps := ["one", "other"]) fun _ _ _ _ _ _ us hl => match us, hl with | [_, _], _ => rfl⟩⟩
  have D26 : DF l.prog w K mg base "adds_up" 4 ["sides", "load", "rooms", "thing"] (spD K 4 R_adds_up) := ⟨⟨_, _, ok_adds_up F26 T D15 D7 D23 D24 D25, a26, k26, F26.binds (ps := ["sides", "load", "rooms", "thing"]) fun _ _ _ _ _ _ us hl => match us, hl with | [_, _, _, _], _ => rfl⟩⟩
  have D27 : DF l.prog w K mg base "is_crossed_split" 5 ["sides", "load", "room", "thing"] (spD K 4 R_is_crossed_split) := ⟨⟨_, _, ok_is_crossed_split F27 T D26 D8 D11 D12 D20, a27, k27, F27.binds (ps := ["sides", "load", "room", "thing"]) fun _ _ _ _ _ _ us hl => match us, hl with | [_, _, _, _], _ => rfl⟩⟩
  have D28 : DF l.prog w K mg base "check_plain_load" 4 ["sides", "load"] (spD K 2 R_check_plain_load) := ⟨⟨_, _, ok_check_plain_load F28 T D8 D12, a28, k28, F28.binds (ps := ["sides", "load"]) fun _ _ _ _ _ _ us hl => match us, hl with | [_, _], _ => rfl⟩⟩
  have D29 : DF l.prog w K mg base "is_plain_split" 5 ["sides", "load", "room", "thing"] (spD K 4 R_is_plain_split) := ⟨⟨_, _, ok_is_plain_split F29 T D26 D28 D11, a29, k29, F29.binds (ps := ["sides", "load", "room", "thing"]) fun _ _ _ _ _ _ us hl => match us, hl with | [_, _, _, _], _ => rfl⟩⟩
  have D30 : DF l.prog w K mg base "pair_place" 1 ["sides", "side", "far"] (spD K 3 R_pair_place) := ⟨⟨_, _, ok_pair_place F30 T , a30, k30, F30.binds (ps := ["sides", "side", "far"]) fun _ _ _ _ _ _ us hl => match us, hl with | [_, _, _], _ => rfl⟩⟩
  have D31 : DF l.prog w K mg base "sum_in_triangle" 2 ["sides", "load", "three"] (spD K 3 R_sum_in_triangle) := ⟨⟨_, _, ok_sum_in_triangle F31 T D30, a31, k31, F31.binds (ps := ["sides", "load", "three"]) fun _ _ _ _ _ _ us hl => match us, hl with | [_, _, _], _ => rfl⟩⟩
  have D32 : DF l.prog w K mg base "triangles" 1 ["sides"] (spN K 1 R_triangles) := ⟨⟨_, _, ok_triangles F32 T , a32, k32, F32.binds (ps := ["sides"]) fun _ _ _ _ _ _ us hl => match us, hl with | [_], _ => rfl⟩⟩
  have D33 : DF l.prog w K mg base "plain_bar" 5 ["sides", "load", "room"] (spX K 3 P_plain_bar Q_plain_bar) := ⟨⟨_, _, ok_plain_bar F33 T D28 D11 D31 D14 D32, a33, k33, F33.binds (ps := ["sides", "load", "room"]) fun _ _ _ _ _ _ us hl => match us, hl with | [_, _, _], _ => rfl⟩⟩
  have D34 : DF l.prog w K mg base "need_of" 3 ["sides", "load"] (spD K 2 R_need_of) := ⟨⟨_, _, ok_need_of F34 T D31 D14 D32, a34, k34, F34.binds (ps := ["sides", "load"]) fun _ _ _ _ _ _ us hl => match us, hl with | [_, _], _ => rfl⟩⟩
  have D35 : DF l.prog w K mg base "plain_need" 5 ["sides", "load"] (spD K 2 R_plain_need) := ⟨⟨_, _, ok_plain_need F35 T D28 D34, a35, k35, F35.binds (ps := ["sides", "load"]) fun _ _ _ _ _ _ us hl => match us, hl with | [_, _], _ => rfl⟩⟩
  have D36 : DF l.prog w K mg base "pairings" 1 ["sides"] (spPg K) := ⟨⟨_, _, ok_pairings F36 T , a36, k36, F36.binds (ps := ["sides"]) fun _ _ _ _ _ _ us hl => match us, hl with | [_], _ => rfl⟩⟩
  have D37 : DF l.prog w K mg base "raised" 1 ["load", "place", "by"] (spD K 3 R_raised) := ⟨⟨_, _, ok_raised F37 T , a37, k37, F37.binds (ps := ["load", "place", "by"]) fun _ _ _ _ _ _ us hl => match us, hl with | [_, _, _], _ => rfl⟩⟩
  have D38 : DF l.prog w K mg base "tracks_of" 3 ["sides", "load", "pairs"] (spN K 3 R_tracks_of) := ⟨⟨_, _, ok_tracks_of F38 T D24 D30 D37, a38, k38, F38.binds (ps := ["sides", "load", "pairs"]) fun _ _ _ _ _ _ us hl => match us, hl with | [_, _, _], _ => rfl⟩⟩
  have D39 : DF l.prog w K mg base "plain_split" 5 ["sides", "load", "room"] (spD K 3 R_plain_split) := ⟨⟨_, _, ok_plain_split F39 T D28 D11 D24 D36 D38, a39, k39, F39.binds (ps := ["sides", "load", "room"]) fun _ _ _ _ _ _ us hl => match us, hl with | [_, _, _], _ => rfl⟩⟩
  have D40 : DF l.prog w K mg base "side_sums" 5 ["sides", "load"] (spD K 2 R_side_sums) := ⟨⟨_, _, ok_side_sums F40 T D28 D14, a40, k40, F40.binds (ps := ["sides", "load"]) fun _ _ _ _ _ _ us hl => match us, hl with | [_, _], _ => rfl⟩⟩
  exact fng_of (ok_law F41 T D0 D1 D4 D22 D27 D29 D33 D35 D39 D40)
abbrev RR : PySem.W.OpenRow := PySem.W.OpenLaw.row PySem.Challenge.rw_allcalls_k20_whole_tracks_that_are_neede
abbrev vq : Program := PySem.W.view RR.prog [57]
def names0 : List Str := [Str.ofString "CallError", Str.ofString "BadLoad", Str.ofString "BadRoom", Str.ofString "BadSides", Str.ofString "TooMany", Str.ofString "is_number", Str.ofString "is_within", Str.ofString "is_tuple_of", Str.ofString "is_row", Str.ofString "MOST_SIDES", Str.ofString "check_sides", Str.ofString "MOST_NUMBER"]
def names1 : List Str := [Str.ofString "side_pairs", Str.ofString "many_pairs", Str.ofString "pair_place", Str.ofString "no_wires", Str.ofString "is_load_of", Str.ofString "check_load", Str.ofString "is_below", Str.ofString "raised", Str.ofString "summed", Str.ofString "sums_at_sides", Str.ofString "let_loads", Str.ofString "MOST_PLAIN_SIDES"]
def names2 : List Str := [Str.ofString "MOST_ROOM", Str.ofString "MOST_LET", Str.ofString "check_plain_load", Str.ofString "check_room", Str.ofString "is_let", Str.ofString "triangles", Str.ofString "sum_in_triangle", Str.ofString "need_of", Str.ofString "side_sums", Str.ofString "plain_need", Str.ofString "pairings", Str.ofString "tracks_of"]
def names3 : List Str := [Str.ofString "plain_split", Str.ofString "plain_bar", Str.ofString "adds_up", Str.ofString "is_plain_split", Str.ofString "mates_rooms", Str.ofString "reduced", Str.ofString "is_part", Str.ofString "part_off", Str.ofString "crossed_split", Str.ofString "is_crossed_split", Str.ofString "_law_begun", Str.ofString "_law_draw"]
def names4 : List Str := [Str.ofString "_law_pick", Str.ofString "_law_pairs", Str.ofString "_law_drawn"]
def nameL : List Str := names0 ++ names1 ++ names2 ++ names3 ++ names4
end K20
set_option Elab.async false
set_option linter.all false
set_option maxRecDepth 100000
set_option maxHeartbeats 0
namespace K20
open PySem PySem.Spec PyProof.Rows L2 Evl DL He
theorem run1 (w : World) (os : OsState) : (lastY RR 24000 w os).map (fun s => (HandSHeadRun.looksF RR.prog (PySem.W.boot_heap w.params) s.abs, HandSHeadRun.seenQ vq nameL (importedModules RR.prog.main.body) (fun s => PySem.W.xlAt vq [] s && PySem.W.recOk RR.toRowW.records s) s.abs)) = some (true, PySem.W.openGood vq nameL) := by
  kernel_rfl
theorem run2 (w : World) (os : OsState) : (lastY RR 24000 w os).map (fun s => obsD faL fnL (fragY (HandSHeadRun.getT s) 5)) = some (valD fnL) := by
  kernel_rfl
theorem run3 (w : World) (os : OsState) : (lastY RR 24000 w os).map (fun s => exA (fragY (HandSHeadRun.getT s) 5)) = some true := by
  kernel_rfl
theorem run4 (w : World) (os : OsState) : (lastY RR 24000 w os).map (fun s => tabsB (HandSHeadRun.getT s) [] (fragY (HandSHeadRun.getT s) 5)) = some true := by
  kernel_rfl
theorem run (w : World) : HandSHeadRun.RunEq RR vq (hookY 5 faL fnL [] exA) (seeY 5 faL fnL [] exA) 24000 nameL w := run_of (run1 w) (run2 w) (run3 w) (run4 w)
end K20
set_option Elab.async false
set_option maxRecDepth 100000
open PySem PySem.W PyProof.Rows in
set_option maxRecDepth 100000 in
set_option maxHeartbeats 0 in
theorem PySem.Challenge.cw_allcalls_k20_whole_tracks_that_are_neede_holds : PySem.Challenge.rw_allcalls_k20_whole_tracks_that_are_neede.Holds := by
  w_on; o_law
  refine HandSHeadRun.head_any (r := OpenLaw.row PySem.Challenge.rw_allcalls_k20_whole_tracks_that_are_neede) (q := K20.vq) (H := DL.hookY 5 K20.faL K20.fnL [] K20.exA) (ob := DL.seeY 5 K20.faL K20.fnL [] K20.exA) (M := 24000) (loose := K20.nameL) (d := HandSHeadRun.topDef (OpenLaw.row PySem.Challenge.rw_allcalls_k20_whole_tracks_that_are_neede).prog 57) (kwd := []) DL.seeY_eq
    (by kernel_rfl) (fun s => by kernel_rfl) K20.run (by kernel_rfl) (by kernel_rfl) (by kernel_rfl) (by rfl) (by first | assumption | decide +kernel) (by decide +kernel) ⟨rfl, rfl, rfl, rfl, rfl, by decide +kernel⟩ ?hw ?hc
  case hw => w_witness2
  case hc =>
    refine DL.walkGE (l := PySem.Challenge.rw_allcalls_k20_whole_tracks_that_are_neede) (n := 63) (k := 7) (x := "script") (CX := fun w => L2.CX0) rfl (by decide) (by kernel_rfl) ⟨rfl, by decide, by decide⟩ ?F (fun _ _ _ _ _ z => z.elim)
    intro w mg fa h Y G hmg0
    obtain ⟨K, KX, c⟩ := Y
    have hmg : mg ("law" : PySem.Str) = some (.ref fa) := by
      have e : (HandSHeadRun.topDef (OpenLaw.row PySem.Challenge.rw_allcalls_k20_whole_tracks_that_are_neede).prog 57).name = ("law" : PySem.Str) := by kernel_rfl
      rw [← e]
      exact hmg0
    obtain ⟨fd, hb, hF⟩ := K20.facts_law (l := PySem.Challenge.rw_allcalls_k20_whole_tracks_that_are_neede) KX G hmg c
    exact ⟨K, fd, K20.spLaw K, KX, hb, fun H a ns hl _ hS => ⟨a, ns, rfl, hS, hl, fun _ => rfl⟩, hF⟩
